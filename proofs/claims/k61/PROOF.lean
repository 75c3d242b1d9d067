import PyProof.Rows.All
import Wide.All
import OpenK.AllK
import Wide.FinOn
import Lean
import PyProof.EqAt
import PyProof.EqKinds
import PyProof.TupleCall
import PyProof.TupleKey
import PyProof.DictKeyH
import PyProof.SumWalk
import KE.KDictList
import PyProof.NeKinds
import PyProof.Draws
import PyProof.ZipIter
import PyProof.ListMulRoad
import KE.RegKIsAll
import OpenK.KOwn
import PyProof.EnumMake
import PyProof.Rows.StrNews
import Flt.Sum
import PyProof.FitsBits
import PyProof.DictTable
import KE.KItemsList
import PyProof.StrCalls6
import PyProof.ToksMono
import PyProof.StrLawsReplace
import PyProof.StrLawsJoin
import PyProof.Rows.StrSplitJoin
import PyProof.DictValues
import PyProof.DictWalks
import KE.KRevIter
import PyProof.DictItems
import KE.KPairComp
import PyProof.MinMaxWalk
import PyProof.SeqI3
import PyProof.WalkInts
import KE.KLam
import KE.IntBitsLaws
import PySem.Challenge.RW_boughworth_k61_rows_of_trees
set_option Elab.async false
set_option linter.all false
set_option bootstrap.genMatcherCode false
set_option compiler.extract_closed false
set_option genSizeOfSpec false
set_option maxRecDepth 100000
set_option maxHeartbeats 4000000
namespace My
open PySem PySem.W PySem.Calls PyProof.Rows
theorem with_hl {P R Q:Prop} (hl:P) (hc:R) (main:Q):Q:=main
structure Parts (Q:Prop):Type where
 {P1:Prop}
 {P2:Prop}
 {P3:Prop}
 {P4:Prop}
 {P5:Prop}
 {P6:Prop}
 {W:Prop}
 a0:P1
 a1:P2
 e0:P3
 e1:P4
 b0:P5
 b1:P6
 c:P1->P2->P3->P4->P5->P6->W->Q
noncomputable def y8 (_:Params):Obj:={cls:=Value.type "tuple",data:=Data.seq #[]}
noncomputable def y6 (_:Params):Obj:={cls:=Value.none,data:=Data.fields #[]}
noncomputable def y4 (_:Params):Obj:={cls:=Value.type "code",data:=Data.fields #[Value.str (Str.ofString "<module>") 182,Value.str (Str.ofString "<module>") 183,Value.str (Str.ofString "/claim/cut.py") 184,Value.int 1 0,Value.int 0 0,Value.int 0 0,Value.int 0 0,Value.int 0 0,Value.ref 11,Value.bool false,Value.int 181 0,Value.ref 12,Value.none,Value.none,Value.none,Value.none,Value.int 185 0,Value.int 1 0,Value.str (Str.ofString "/claim/cut.py") 186]}
noncomputable def y3 (_:Params):Obj:={cls:=Value.type "frame",slots:= #[some (Value.ref 13),some (Value.ref 3),some (Value.ref 3),none,some (Value.str (Str.ofString "__main__") 164),none,some (Value.ref 0)]}
noncomputable def yo (P:Params):BT:=(BT.node (boot_o_0 P) (BT.node (boot_o_1 P) (BT.node (boot_o_3 P) (BT.node (boot_o_7 P) BT.nil BT.nil) (BT.node (y8 P) BT.nil BT.nil)) (BT.node (boot_o_5 P) (BT.node (boot_o_9 P) BT.nil BT.nil) (BT.node (y4 P) BT.nil BT.nil))) (BT.node (boot_o_2 P) (BT.node (boot_o_4 P) (BT.node (boot_o_8 P) BT.nil BT.nil) (BT.node (y6 P) BT.nil BT.nil)) (BT.node (boot_o_6 P) (BT.node (boot_o_10 P) BT.nil BT.nil) (BT.node (y3 P) BT.nil BT.nil))))
noncomputable def xy (p:Program):Env:={scope:=p.main.scope,locals:=mainNs,globals:=mainNs,cells:=[],code:=.ref 13,frame:=some 14}
noncomputable abbrev hC (p:Program):Code:=.body (behindTheImports p) (xy p)
noncomputable def hSt (w:World) (os:OsState):SharedT:=⟨yo w.params,15,{},#[],{},187,os⟩
abbrev nW:Pos:=⟨0,0,0,0⟩
noncomputable abbrev yp (p:Program):Thread:=piecesOf (behindTheImports p) (xy p) (hC p) nW [topFrame nW]
noncomputable abbrev uT (p:Program) (n:Nat) (w:World) (os:OsState):Option (Flow×SharedT×Code×Pos):=PySem.W.Fast.tw10110043849684766642 PySem.W.Fast.tw14364793385576792824 p w 11 (some (.ref 6)) 1 n (hSt w os) (yp p)
theorem y9 {p:Program} {w:World} {n₀:Nat} {ann:Option Value} (s:Shared) (c:Code) (pos:Pos):topRun treeTable p w n₀ ann 2 s ⟨doneF .next,c,pos,[topFrame nW]⟩=some s:=by
 obtain ⟨h,g,d,t,o⟩:=s
 kernel_rfl
theorem yq (P:Params):((boot_heap P).isNs mainGlobals&&(#[]:Array GenState).size==0,(boot_heap P).objs.size,(boot_heap P).nsMap mainGlobals "__annotations__")=(true,11,some (.ref 6)):=by kernel_rfl
theorem left_of {p q:Program} {loose:List Str} {Xt:Shared->Bool} {α:Type} {Yf:Shared->α} {Ya:World->α} {N n:Nat} {g0:Bool} {posE:Pos}
  (e:opening p=plainProg p.main.scope.names) (hN:Nat.ble 600 N=true) (f: ∀ s,fenceModules? p s=some s) (le:Nat.ble (12+ (1+ (n+2))) N=true)
  (pre: ∀ (w:World) (os:OsState),topGo treeTable p w 11 (some (.ref 6)) 12 ⟨boot_heap w.params,#[],boot_drawn,boot_toks,os⟩ (topStub p)=some ((hSt w os).abs,⟨denote treeTable (hC p),hC p,nW,[topFrame nW]⟩))
  (block: ∀ (w:World) (os:OsState),segRun treeTable p w 11 (some (.ref 6)) 1 1 (hSt w os).abs (blockOf (behindTheImports p) (xy p) (hC p) nW [topFrame nW])=some (.next,(hSt w os).abs,hC p,nW))
  (runA: ∀ (w:World) (os:OsState),(uT p n w os).map (fun r=>(r.1,r.2.2,(staticsOk (importedModules p.main.body) (boot_heap w.params) r.2.1.abs.heap&&namesBound p r.2.1.abs.heap&&gensDone r.2.1.abs&&laidKept (boot_heap w.params) r.2.1.abs.heap),(openSeen q loose (importedModules p.main.body) Xt g0 r.2.1.abs).1,Yf r.2.1.abs))=some (.next,(hC p,posE),true,(openGood q loose).1,Ya w))
  (runE: ∀ (w:World) (os:OsState),(uT p n w os).map (fun r=>((openSeen q loose (importedModules p.main.body) Xt g0 r.2.1.abs).2.1,(openSeen q loose (importedModules p.main.body) Xt g0 r.2.1.abs).2.2.1))=some ((openGood q loose).2.1,(openGood q loose).2.2.1))
  (runB: ∀ (w:World) (os:OsState),(uT p n w os).map (fun r=>(openSeen q loose (importedModules p.main.body) Xt g0 r.2.1.abs).2.2.2)=some (openGood q loose).2.2.2):LeftO p q loose Xt Yf Ya N g0:=by
 intro w
 obtain ⟨⟨h,gs,d,k,os⟩,e1,e'⟩:=Option.map_eq_some_iff.mp (boot_open e hN f w)
 obtain ⟨rfl,rfl,rfl,rfl⟩:h=boot_heap w.params/\gs= #[]/\d=boot_drawn/\k=boot_toks:=by simpa using e'
 obtain ⟨z1,z2,z3⟩:_/\_/\_:=by simpa only [Prod.mk.injEq]using yq w.params
 have E:segRunT treeTable p w 11 (some (.ref 6)) 1 n (hSt w os) (yp p)=uT p n w os:=by
  unfold uT
  rw [<- PySem.W.Fast.te10110043849684766642,<- PySem.W.Fast.te14364793385576792824]
 have A:=runA w os
 have B:=runB w os
 have E2:=runE w os
 obtain ⟨⟨fl,x,c,pos⟩,r1,r2⟩:=Option.map_eq_some_iff.mp A
 simp only [Prod.mk.injEq]at r2
 obtain ⟨rfl,⟨rfl,rfl⟩,l1,l2a,yb⟩:=r2
 have l2e:((openSeen q loose (importedModules p.main.body) Xt g0 x.abs).2.1,(openSeen q loose (importedModules p.main.body) Xt g0 x.abs).2.2.1)=((openGood q loose).2.1,(openGood q loose).2.2.1):=by rw [r1]at E2;exact Option.some.inj E2
 have l2d:(openSeen q loose (importedModules p.main.body) Xt g0 x.abs).2.2.2=(openGood q loose).2.2.2:=by rw [r1]at B;exact Option.some.inj B
 have l2:openSeen q loose (importedModules p.main.body) Xt g0 x.abs=openGood q loose:=Prod.ext l2a (Prod.ext (Prod.mk.inj l2e).1 (Prod.ext (Prod.mk.inj l2e).2 l2d))
 have s1:=segRun_of (E.trans r1)
 have t1:=piece_app (rest:=[]) s1 (piece_nil (y9 x.abs _ _))
 rw [List.append_nil]at t1
 have t3:=go_top (pre w os) (piece_block (block w os) t1)
 have r:=topRun_mono (N- (12+ (1+ (n+2)))) _ _ _ _ t3
 rw [show 12+ (1+ (n+2)) + (N- (12+ (1+ (n+2))))=N by have:=Nat.le_of_ble_eq_true le;omega]at r
 have t:topFrom treeTable p w N ⟨boot_heap w.params,#[],boot_drawn,boot_toks,os⟩=some x.abs:=by
  unfold topFrom
  dsimp only
  rw [z1,z2,z3,r]
  show (match staticsOk _ _ _&&namesBound _ _&&gensDone _&&laidKept _ _ with | true=>_ | false=>_)=_
  rw [l1]
 unfold openEnds
 rw [e1]
 change Option.map _ (topFrom treeTable p w N _)=_
 rw [t]
 exact congrArg some (Prod.ext l2 yb)
end My
open PySem PySem.W PyProof.Rows in
set_option maxHeartbeats 0 in
noncomputable def My.parts:My.Parts PySem.Challenge.rw_boughworth_k61_rows_of_trees.Holds:=by
 apply My.Parts.mk
 case c=>
  intro ha0 ha1 he0 he1 hb0 hb1 hW
  w_on;o_law
  apply My.with_hl
  case main=>
   k_head;(case hw=>w_witness2)
  case hc=>exact hW
  case hl=>
   refine My.left_of (n:=1600) (posE:=⟨340,0,350,15⟩) ?e ?hN ?f ?le ?pre ?block (byRow2 "special-get-raises" ha0 ha1) (byRow2 "special-get-raises" he0 he1) (byRow2 "special-get-raises" hb0 hb1)
   case e=>kernel_rfl
   case hN=>decide
   case f=>intro s;kernel_rfl
   case le=>decide
   case pre=>(intro w os;kernel_rfl)
   case block=>(intro w os;kernel_rfl)
 case a0=>(intro w os;kernel_rfl)
 case a1=>(intro w os;kernel_rfl)
 case e0=>(intro w os;kernel_rfl)
 case e1=>(intro w os;kernel_rfl)
 case b0=>(intro w os;kernel_rfl)
 case b1=>(intro w os;kernel_rfl)
namespace PySem
section
variable {prog:Program} {w:World} {K K2:Type} [DecidableEq K] [DecidableEq K2] {knd:KeyKind prog w K} {kn2:KeyKind prog w K2}
noncomputable def IsPairKey (knd:KeyKind prog w K) (kn2:KeyKind prog w K2) (h:Heap) (p:List K×K2) (a:Addr):Prop:=
 ∃ o items n b v,h.get? a=some o/\o.cls=.type "tuple"/\o.data=.seq items n/\items.toList=[.ref b,v]/\IsTupleKey knd h p.1 b/\kn2.is p.2 v=true
noncomputable def jj (knd:KeyKind prog w K) (kn2:KeyKind prog w K2) (p:List K×K2):Int:=reduceHash (Builtin.Tuple.tupleHashOf [tupleKeyHash knd p.1,kn2.hash p.2])
variable {A:Around} {E:Value->Shared->Prop} {s:Shared}
theorem IsPairKey.typeIs {p:List K×K2} {a:Addr} (x:IsPairKey knd kn2 s.heap p a):s.TypeIs (.ref a) "tuple":=by
 obtain ⟨o,_,_,_,_,e,c,_⟩:=x
 exact ⟨o,e,c⟩
theorem IsPairKey.inj {h:Heap} {p q:List K×K2} {a:Addr} (x:IsPairKey knd kn2 h p a) (y:IsPairKey knd kn2 h q a):p=q:=by
 obtain ⟨o,i,n,b,v,e,_,d,t,k,m⟩:=x
 obtain ⟨o',i',n',b',v',e',_,d',t',k',m'⟩:=y
 rw [e]at e';cases e'
 rw [d]at d';cases d'
 rw [t]at t'
 have h1:b=b'/\v=v':=by simpa using t'
 obtain ⟨rfl,rfl⟩:=h1
 exact Prod.ext (k.inj k') (kn2.inj _ _ _ m m')
theorem IsPairKey.keeps {h h':Heap} {p:List K×K2} {a d:Addr} {o:Obj} {es ep} (x:IsPairKey knd kn2 h p a) (ho:h.get? d=some o) (hd:o.data=.dict es ep) (hs:Heap.SameBut d h h'):IsPairKey knd kn2 h' p a:=by
 obtain ⟨o',i,n,b,v,e,c,dt,t,k,m⟩:=x
 refine ⟨o',i,n,b,v,?_,c,dt,t,k.keeps ho hd hs,m⟩
 have ne:a≠d:=fun z=>by
  subst z
  rw [ho]at e;cases e
  rw [hd]at dt;cases dt
 rw [<- e]
 exact hs.2 a ne
theorem fV {p:List K×K2} {a:Addr} {Q:Int->Shared->Prop} (hu:A.units+8<cLine) (hk:IsPairKey knd kn2 s.heap p a) (h:Q (jj knd kn2 p) {s with toks:=s.toks+ (p.1.length+1+1+1)}):
  wpAny (model prog w) A (pyHash (.ref a)) Q E s:=by
 have hT:=hk.typeIs
 obtain ⟨o,items,n,b,v,ho,_,hd,hi,hb,hv⟩:=hk
 unfold pyHash
 first | unfold pyHashByItsType | skip
 first | refine wpAny_bind (wpAny_cRoomFor_or (.inr (by lia)) ?_) | skip
 refine wpAny_bind (wpAny_specialOf hT F.slot_tuple_hash.lookup ?_)
 show wpAny _ _ (if (some (Value.builtin "tuple.__hash__")==some Value.none)=true then _ else _) Q E s
 rw [if_neg (by rw [beq_builtin_none];exact Bool.false_ne_true)]
 refine wpAny_bind (wpAny_specialOf hT F.slot_tuple_hash.lookup ?_)
 show wpAny _ _ (callSpecialIfBoundUnlessNone? (.ref a) "__hash__" _ >>= _) Q E s
 refine wpAny_bind (wpAny_callSpecialIfBoundUnlessNone?_slot hT F.slot_tuple_hash (wpAny_call_entry F.slot_tuple_hash hT F.entry_tuple_hash ?_ (F.args_tuple_hash_1 _)))
 show wpAny _ _ (Builtin.Tuple.tupleItemsOf (.ref a) >>= _) _ _ s
 refine wpAny_bind (wpAny_tupleItemsOf ho hd ?_)
 refine wpAny_bind ?_
 rw [<- Array.forIn_toList,hi,List.forIn_cons]
 refine wpAny_bind (wpAny_bind (wpAny_pyHash_tuple (by show _<cLine;simp;lia) hb ?_))
 refine wpAny_pure ?_
 show wpAny _ _ (forIn [v] #[tupleKeyHash knd p.1] _) _ _ _
 rw [List.forIn_cons]
 refine wpAny_bind (wpAny_bind (kn2.pyHash hv ?_))
 refine wpAny_pure ?_
 show wpAny _ _ (forIn [] _ _) _ _ _
 rw [List.forIn_nil]
 refine wpAny_pure ?_
 show wpAny _ _ (retInt (Builtin.Tuple.tupleHashOf [tupleKeyHash knd p.1,kn2.hash p.2])) _ _ _
 refine wpAny_ret_mkInt ?_
 generalize hz:Builtin.Tuple.tupleHashOf [tupleKeyHash knd p.1,kn2.hash p.2]=z
 show wpAny _ _ (if (decide (-(2:Int) ^63<=z)&&decide (z<2^63))=true then _ else _) Q E _
 unfold jj reduceHash at h
 rw [hz]at h
 by_cases hr:(decide (-(2:Int) ^63<=z)&&decide (z<2^63))=true
 ·rw [if_pos hr]
  rw [if_pos hr]at h
  exact wpAny_pure (by simpa [Nat.add_assoc]using h)
 ·rw [if_neg hr]
  rw [if_neg hr]at h
  exact wpAny_bind (wpAny_rule (wpAny_pure (by simpa [Nat.add_assoc]using h)))
theorem nn (m:Nat) {ks:List K} {a:Addr} {Q:Bool->Shared->Prop} (hk:IsTupleKey knd s.heap ks a) (h:Q true s):wpAny (model prog w) A (eqIsQuiet (m+1) (.ref a)) Q E s:=by
 have hT:=hk.typeIs
 obtain ⟨o,items,n,ho,_,hd,hi⟩:=hk
 unfold eqIsQuiet
 refine wpAny_bind (wpAny_specialOf hT F.slot_tuple_eq.lookup ?_)
 show wpAny _ _ (isInstance (.ref a) (.type "tuple") >>= _) _ _ s
 refine wpAny_bind (wpAny_isInstance hT isSubtype_tuple_tuple ?_)
 simp only [Bool.not_true,Bool.false_eq_true,if_false]
 refine wpAny_bind (wpAny_seqItems ho hd (wpAny_bind ?_))
 show wpAny _ _ (forIn items _ _) _ _ s
 rw [<- Array.forIn_toList]
 refine wpAny_forIn_list _ (fun rest r s'=>r.1=none/\s'=s/\ ∀ v∈rest,carriedByValue v=true) _ ?_ ?_ _ _ ⟨rfl,rfl,hi.byValue⟩
 ·rintro v rest r s' ⟨hr,rfl,hall⟩
  rw [eqIsQuiet_byValue _ (hall v List.mem_cons_self)]
  refine wpAny_bind (wpAny_pure ?_)
  simp only [Bool.not_true,Bool.false_eq_true,if_false]
  exact wpAny_pure ⟨rfl,rfl,fun u hu'=>hall u (List.mem_cons_of_mem _ hu')⟩
 ·rintro ⟨r1,r2⟩ s' ⟨hr,rfl,_⟩
  simp only at hr
  subst hr
  exact wpAny_pure h
theorem eQ {p:List K×K2} {a:Addr} {Q:Bool->Shared->Prop} (hk:IsPairKey knd kn2 s.heap p a) (h:Q true s):wpAny (model prog w) A (eqIsQuiet 8 (.ref a)) Q E s:=by
 have hT:=hk.typeIs
 obtain ⟨o,items,n,b,v,ho,_,hd,hi,hb,hv⟩:=hk
 unfold eqIsQuiet
 refine wpAny_bind (wpAny_specialOf hT F.slot_tuple_eq.lookup ?_)
 show wpAny _ _ (isInstance (.ref a) (.type "tuple") >>= _) _ _ s
 refine wpAny_bind (wpAny_isInstance hT isSubtype_tuple_tuple ?_)
 simp only [Bool.not_true,Bool.false_eq_true,if_false]
 refine wpAny_bind (wpAny_seqItems ho hd ?_)
 refine wpAny_bind ?_
 show wpAny _ _ (forIn items _ _) _ _ s
 rw [<- Array.forIn_toList,hi,List.forIn_cons]
 refine wpAny_bind (wpAny_bind (nn 6 hb ?_))
 simp only [Bool.not_true,Bool.false_eq_true,if_false]
 refine wpAny_pure ?_
 show wpAny _ _ (forIn [v] (none,()) _) _ _ _
 rw [List.forIn_cons,eqIsQuiet_byValue _ (kn2.byValue _ _ hv)]
 refine wpAny_bind (wpAny_bind (wpAny_pure ?_))
 simp only [Bool.not_true,Bool.false_eq_true,if_false]
 refine wpAny_pure ?_
 show wpAny _ _ (forIn [] _ _) _ _ _
 rw [List.forIn_nil]
 exact wpAny_pure (wpAny_pure h)
theorem lO {p q:List K×K2} {a b:Addr} {R:Fin->Shared->Prop} (hu:A.units+4<cLine) (hx:IsPairKey knd kn2 s.heap p a) (hy:IsPairKey knd kn2 s.heap q b) (h:R (.done (.ret (.bool (decide (p=q))))) s):
  wpAny (model prog w) A (Builtin.«tuple.__eq__» ⟨[.ref a,.ref b],[]⟩) R E s:=by
 have hTb:=hy.typeIs
 obtain ⟨oa,xs,na,a1,v1,hoa,_,hda,hia,hka,hva⟩:=hx
 obtain ⟨ob,ys,nb,b1,v2,hob,_,hdb,hib,hkb,hvb⟩:=hy
 show wpAny _ _ (isInstance (.ref b) (.type "tuple") >>= _) _ _ s
 refine wpAny_bind (wpAny_isInstance hTb isSubtype_tuple_tuple ?_)
 simp only [Bool.not_true,Bool.false_eq_true,if_false]
 refine wpAny_bind (wpAny_tupleItemsOf hoa hda (wpAny_bind (wpAny_tupleItemsOf hob hdb (wpAny_bind ?_))))
 have hs:xs.size=ys.size:=by rw [<- Array.length_toList,<- Array.length_toList,hia,hib];rfl
 rw [hia,hib]
 show wpAny _ _ (forIn [(Value.ref a1,Value.ref b1),(v1,v2)] (none,()) _) _ _ _
 rw [List.forIn_cons]
 refine wpAny_bind (wpAny_bind (wpAny_eqBool_tuple (by lia) hka hkb ?_))
 by_cases h1:p.1=q.1
 ·rw [decide_eq_true h1]
  simp only [Bool.not_true,Bool.false_eq_true,if_false]
  refine wpAny_pure ?_
  show wpAny _ _ (forIn [(v1,v2)] (none,()) _) _ _ _
  rw [List.forIn_cons]
  refine wpAny_bind (wpAny_bind (kn2.eqBool (a:=p.2) (b:=q.2) hva hvb ?_))
  by_cases h2:p.2=q.2
  ·rw [decide_eq_true h2]
   simp only [Bool.not_true,Bool.false_eq_true,if_false]
   refine wpAny_pure ?_
   show wpAny _ _ (forIn [] _ _) _ _ _
   rw [List.forIn_nil]
   rw [decide_eq_true (Prod.ext h1 h2)]at h
   refine wpAny_pure (wpAny_pure ?_)
   show R (.done (.ret (.bool (xs.size==ys.size)))) s
   rw [hs,beq_self_eq_true]
   exact h
  ·rw [decide_eq_false h2]
   simp only [Bool.not_false,if_true]
   rw [decide_eq_false fun e=>h2 (congrArg Prod.snd e)]at h
   exact wpAny_bind (wpAny_pure (wpAny_pure (wpAny_pure (wpAny_pure h))))
 ·rw [decide_eq_false h1]
  simp only [Bool.not_false,if_true]
  rw [decide_eq_false fun e=>h1 (congrArg Prod.fst e)]at h
  exact wpAny_bind (wpAny_pure (wpAny_pure (wpAny_pure (wpAny_pure h))))
theorem fW {p q:List K×K2} {a b:Addr} {Q:Bool->Shared->Prop} (hu:A.units+8<cLine) (hx:IsPairKey knd kn2 s.heap p a) (hy:IsPairKey knd kn2 s.heap q b) (h:Q (decide (p=q)) s):
  wpAny (model prog w) A (eqBool (.ref a) (.ref b)) Q E s:=by
 unfold eqBool
 try with_reducible refine wpAny_holding ?_
 show wpAny _ _ (if (Value.ref a==Value.ref b)=true then _ else _) Q E s
 by_cases hab:(Value.ref a==Value.ref b)=true
 ·rw [if_pos hab]
  have e:a=b:=by have:=eq_of_beq hab;injection this
  subst e
  obtain rfl:=hx.inj hy
  exact wpAny_bind (wpAny_rule (wpAny_pure (by simpa using h)))
 ·rw [if_neg hab]
  exact wpAny_bind (wpAny_richCompare_same_room (op:=.Eq) hx.typeIs hy.typeIs F.slot_tuple_eq
   (wpAny_call_entry F.slot_tuple_eq hx.typeIs F.entry_tuple_eq (lO (by simp;lia) hx hy ⟨_,rfl,(fun e=>nomatch e),wpAny_truthy_bool h⟩) (F.args_tuple_eq_2 _ _)) (by lia))
end
noncomputable def ef {prog:Program} {w:World} {K K2:Type} [DecidableEq K] [DecidableEq K2] (knd:KeyKind prog w K) (kn2:KeyKind prog w K2):HeapKind prog w (List K×K2) where
 is:=IsPairKey knd kn2
 hash:=jj knd kn2
 draws:=fun p=>p.1.length+1+1+1
 room:=fun A=>A.units+8<cLine
 inj:=fun hx hy=>hx.inj hy
 keeps:=fun x ho hd hs=>x.keeps ho hd hs
 pyHash:=fun hu hk h=>fV hu hk h
 eqBool:=fun hu hx hy h=>fW hu hx hy h
 quiet:=fun hk h=>eQ hk h
end PySem
namespace L2
open PySem PySem.Spec PyProof.Rows
noncomputable abbrev Key:=Sum Int Str
noncomputable def jp:Key->Value->Bool
 | .inl k,v=>Value.isInt k v
 | .inr x,v=>Value.isStrOf x v
noncomputable def yZ (w:World):Key->Int
 | .inl k=>hashInt k
 | .inr x=>hashStr w x
theorem bx: ∀ {k:Key} {v:Value},jp k v=true->(∃ i t,k=Sum.inl i/\v=Value.int i t)\/(∃ x t,k=Sum.inr x/\v=Value.str x t)
 | .inl i,v,h=>by
  obtain ⟨t,e⟩:=Value.isInt_shape (k:=i) (v:=v) h
  exact .inl ⟨i,t,rfl,e⟩
 | .inr x,v,h=>by
  obtain ⟨t,e⟩:=Value.isStrOf_shape (x:=x) (v:=v) h
  exact .inr ⟨x,t,rfl,e⟩
theorem rX (i:Int) (t:Tok):jp (.inl i) (.int i t)=true:=by simp [jp,Value.isInt]
theorem bz (x:Str) (t:Tok):jp (.inr x) (.str x t)=true:=by simp [jp,Value.isStrOf]
theorem xr (a b:Int):decide ((Sum.inl a:Key)=Sum.inl b)=(a==b):=by
 by_cases e:a=b
 ·subst e;simp
 ·have h: ¬ (Sum.inl a:Key)=Sum.inl b:=fun q=>e (Sum.inl.inj q)
  rw [decide_eq_false h]
  exact (beq_eq_false_iff_ne.mpr e).symm
theorem xo (a b:Str):decide ((Sum.inr a:Key)=Sum.inr b)=decide (a=b):=by
 by_cases e:a=b
 ·subst e;simp
 ·have h: ¬ (Sum.inr a:Key)=Sum.inr b:=fun q=>e (Sum.inr.inj q)
  rw [decide_eq_false h,decide_eq_false e]
theorem xq (a:Int) (b:Str):decide ((Sum.inl a:Key)=Sum.inr b)=false:=decide_eq_false (fun q=>nomatch q)
theorem xp (a:Str) (b:Int):decide ((Sum.inr a:Key)=Sum.inl b)=false:=decide_eq_false (fun q=>nomatch q)
noncomputable def aU (prog:Program) (w:World):PySem.KeyKind prog w Key where
 is:=jp
 hash:=yZ w
 inj:=fun v a b ha hb=>by
  rcases bx ha with ⟨i,t,rfl,rfl⟩ | ⟨x,t,rfl,rfl⟩
  ·rcases bx hb with ⟨j,u,rfl,e⟩ | ⟨y,u,rfl,e⟩
   ·injection e with e1 _;rw [e1]
   ·exact nomatch e
  ·rcases bx hb with ⟨j,u,rfl,e⟩ | ⟨y,u,rfl,e⟩
   ·exact nomatch e
   ·injection e with e1 _;rw [e1]
 byValue:=fun k v h=>by
  rcases bx h with ⟨i,t,rfl,rfl⟩ | ⟨x,t,rfl,rfl⟩ <;> rfl
 pyHash:=fun hv h=>by
  rcases bx hv with ⟨i,t,rfl,rfl⟩ | ⟨x,t,rfl,rfl⟩
  ·exact wpAny_pyHash_int h
  ·exact wpAny_pyHash_str h
 eqBool:=fun hu hv h=>by
  rcases bx hu with ⟨i,t,rfl,rfl⟩ | ⟨x,t,rfl,rfl⟩
  ·rcases bx hv with ⟨j,u,rfl,rfl⟩ | ⟨y,u,rfl,rfl⟩
   ·rw [xr]at h;exact wpAny_eqBool_int h
   ·rw [xq]at h;exact SeqAt.EqAt.int_str i t y u _ _ _ _ h
  ·rcases bx hv with ⟨j,u,rfl,rfl⟩ | ⟨y,u,rfl,rfl⟩
   ·rw [xp]at h;exact SeqAt.EqAt.str_int x t j u _ _ _ _ h
   ·rw [xo]at h;exact wpAny_eqBool_str h
 «strs» :=fun k x t v h=>by
  rcases bx h with ⟨i,u,rfl,e⟩ | ⟨y,u,rfl,e⟩
  ·exact nomatch e
  ·injection e with e1 _
   subst e1
   cases v <;> rfl
theorem pz (prog:Program) (w:World) (k:Key) (v:Value):(aU prog w).is k v=jp k v:=rfl
theorem nM (prog:Program) (w:World) (i:Int) (t:Tok):(aU prog w).is (.inl i) (.int i t)=true:=rX i t
theorem nL (prog:Program) (w:World) (x:Str) (t:Tok):(aU prog w).is (.inr x) (.str x t)=true:=bz x t
inductive V where
 | non | bl (b:Bool) | int (i:Int) | str (x:Str) | byt (b:Array UInt8) | flt (b:UInt64) | ref (a:Addr) | ty (n:String)
 deriving DecidableEq
noncomputable def RelV:V->Value->Prop
 | .non,u=>u=Value.none
 | .bl b,u=>u=Value.bool b
 | .int i,u=> ∃ t,u=Value.int i t
 | .str x,u=> ∃ t,u=Value.str x t
 | .byt b,u=> ∃ t,u=Value.bytes b t
 | .flt b,u=> ∃ t,u=Value.float b t
 | .ref a,u=>u=Value.ref a
 | .ty n,u=>u=Value.type n
noncomputable abbrev Vals:List V->List Value->Prop:=Paired RelV
theorem Vals.length {xs:List V} {us:List Value} (r:Vals xs us):xs.length=us.length:=Paired.length r
theorem Vals.get: ∀ {xs:List V} {us:List Value} {i:Nat} {x:V},Vals xs us->xs[i]? =some x-> ∃ u,us[i]? =some u/\RelV x u
 | _,_,_,_,.nil,e=>by simp at e
 | _,_,0,_,.cons r _,e=>by simp at e;subst e;exact ⟨_,rfl,r⟩
 | _,_,i+1,x,.cons _ t,e=>by
  obtain ⟨u,h1,h2⟩:=Vals.get (i:=i) (x:=x) t (by simpa using e)
  exact ⟨u,by simpa using h1,h2⟩
theorem Vals.set {x:V} {u:Value} (r:RelV x u): ∀ {xs:List V} {us:List Value} (i:Nat),Vals xs us->Vals (xs.set i x) (us.set i u)
 | _,_,_,.nil=>.nil
 | _,_,0,.cons _ t=>.cons r t
 | _,_,i+1,.cons q t=>.cons q (Vals.set r i t)
theorem Vals.append: ∀ {xs ys:List V} {us ws:List Value},Vals xs us->Vals ys ws->Vals (xs++ys) (us++ws)
 | _,_,_,_,.nil,s=>s
 | _,_,_,_,.cons r t,s=>.cons r (Vals.append t s)
theorem Vals.take: ∀ {xs:List V} {us:List Value} (n:Nat),Vals xs us->Vals (xs.take n) (us.take n)
 | _,_,0,_=>.nil
 | _,_,_+1,.nil=>.nil
 | _,_,n+1,.cons r t=>.cons r (Vals.take n t)
theorem Vals.drop: ∀ {xs:List V} {us:List Value} (n:Nat),Vals xs us->Vals (xs.drop n) (us.drop n)
 | _,_,0,r=>r
 | _,_,_+1,.nil=>.nil
 | _,_,n+1,.cons _ t=>Vals.drop n t
theorem Vals.none_of: ∀ {xs:List V} {us:List Value} {i:Nat},Vals xs us->xs[i]? =none->us[i]? =none:=fun {xs us i} r e=>by
 have h1:=r.length
 have h2:xs.length<=i:=List.getElem?_eq_none_iff.mp e
 exact List.getElem?_eq_none_iff.mpr (by lia)
noncomputable def RelO:Option V->Option Value->Prop
 | some v,some u=>RelV v u
 | none,none=>True
 | _,_=>False
noncomputable def KV {κ:Type}:List (κ×V)->List (κ×Value)->Prop:=Paired fun (p:κ×V) (q:κ×Value)=>p.1=q.1/\RelV p.2 q.2
noncomputable def kV:Key->V
 | .inl i=>.int i
 | .inr x=>.str x
inductive HO where
 /-- a list -/
 | lst (xs:List V)
 /-- a tuple (never changes) -/
 | tup (xs:List V)
 /-- a dict whose keys are ints and texts; one whose keys are tuples of ints and texts (the empty one is both) -/
 | dK (kvs:List (Key×V)) | dT (kvs:List (List Key×V)) | dP (kvs:List ((List Key×Key)×V))
 /-- a set of ints: its members, its size -/
 | set (S:Int->Bool) (n:Nat)
 /-- an instance of the class at C, its dict at dx, its attributes -/
 | ins (C dx:Addr) (fs:List (Str×V))
 /-- the dict of the instance at x -/
 | own (x:Addr)
 /-- the dict of an exception -/
 | xd (fs:List (Str×V))
 /-- a bound method, f of x -/
 | met (f x:Addr)
 /-- a range object lo, lo + 1, .. below hi -/
 | rng (lo hi:Int)
 /-- a thing that is known to the object (the script; a dict while a loop walks it): read, never written while it is so -/
 | frz (o:Obj) (u:HO)
 /-- a code object's table -/
 | tbl (ps:Array Value)
 /-- any other thing, by what is true of its one object (a def of one's own: SetO a S n := HO.ext fun h => ..) -/
 | ext (φ:Heap->Prop)
noncomputable abbrev Hp:=Addr->Option HO
noncomputable def upd (H:Hp) (a:Addr) (o:HO):Hp:=fun b=>if b=a then some o else H b
theorem ab {H:Hp} {a:Addr} {o:HO}:upd H a o a=some o:=by unfold upd;rw [if_pos rfl]
theorem ai {H:Hp} {a b:Addr} {o:HO} (h:b≠a):upd H a o b=H b:=by unfold upd;rw [if_neg h]
theorem eA {H:Hp} {a:Addr} {o u:HO}:upd (upd H a o) a u=upd H a u:=by
 funext b;unfold upd;split <;> rfl
theorem wD {H:Hp} {a b:Addr} {o u:HO} (h:H a=some o) (h':H b=some u) (d:o≠u):a≠b:=by
 intro e;subst e;rw [h]at h';exact d (Option.some.inj h')
theorem af {H:Hp} {a b:Addr} {o:HO} (h:H a=some o) (h':H b=none):a≠b:=by
 intro e;subst e;rw [h]at h';cases h'
section
variable (P:Program) (w:World)
noncomputable def ObjOk (H:Hp) (h:Heap) (a:Addr):HO->Prop
 | .lst xs=>xs.length<=sizeLine/\ ∃ (its:List Value) (n:Nat),Vals xs its/\h.get? a=some {cls:=.type "list",data:=.seq its.toArray n}
 | .tup xs=>xs.length<=sizeLine/\ ∃ its:List Value,Vals xs its/\IsTup h a its.toArray
 | .dK kvs=>kvs.length<=sizeLine/\(a==sysModules)=false/\ ∃ vs,KV kvs vs/\h.DictOf (aU P w) a vs
 | .dT kvs=>kvs.length<=sizeLine/\(a==sysModules)=false/\ ∃ xs:List (List Key×Addr×Value),
   Paired (fun (p:List Key×V) (q:List Key×Addr×Value)=>p.1=q.1/\H q.2.1=some (.tup (p.1.map kV))/\RelV p.2 q.2.2) kvs xs/\
   ∃ o es ep,h.get? a=some o/\o.ExactDict/\o.data=.dict es ep/\es.toList=xs.map (entryOfKey (tupleKind (aU P w)))/\(xs.map (·.1)).Nodup
 | .dP kvs=>kvs.length<=sizeLine/\(a==sysModules)=false/\ ∃ xs:List ((List Key×Key)×Addr×Value),
   Paired (fun (p:(List Key×Key)×V) (q:(List Key×Key)×Addr×Value)=>p.1=q.1/\(∃ b,H q.2.1=some (.tup [.ref b,kV p.1.2])/\H b=some (.tup (p.1.1.map kV)))/\RelV p.2 q.2.2) kvs xs/\
   ∃ o es ep,h.get? a=some o/\o.ExactDict/\o.data=.dict es ep/\es.toList=xs.map (entryOfKey (ef (aU P w) (aU P w)))/\(xs.map (·.1)).Nodup
 | .set S n=>h.SetOf (intKind P w) a S n
 | .ins C dx fs=>H dx=some (.own a)/\fs.length<=1000/\dx≠a/\h.get? a=some (PySem.W.instObj C dx)/\
   ∃ mA,h.Ns1 dx mA/\(∀ f,RelO (fs.lookup f) (mA f))/\PySem.Within mA (fs.map (·.1))
 | .own _=> ∃ o,h.get? a=some o
 | .xd fs=> ∃ mA,h.Ns1 a mA/\ ∀ f,RelO (fs.lookup f) (mA f)
 | .rng lo hi=> ∃ t u v,h.get? a=some {cls:=.type "range",data:=.fields #[.int lo t,.int hi u,.int 1 v]}
 | .frz o u=>h.get? a=some o/\ObjOk H h a u
 | .tbl ps=>h.get? a=some {cls:=.none,data:=.fields ps}
 | .met f x=>h.get? a=some (PySem.W.methodObj (.ref f) (.ref x))
 | .ext φ=>φ h/\(∃ o,h.get? a=some o)/\ ∀ h1 h2:Heap,φ h1->(∀ o,h1.get? a=some o->h2.get? a=some o)->φ h2
noncomputable def HOk (H:Hp) (h:Heap):Prop:= ∀ a o,H a=some o->ObjOk P w H h a o
end
section
variable {P:Program} {w:World} {H H':Hp} {h h':Heap} {a:Addr} {o:HO}
theorem ObjOk.lt (x:ObjOk P w H h a o):a<h.objs.size:=by
 cases o with
 | lst xs=>obtain ⟨_,_,_,_,e⟩:=x;exact Heap.lt_size e
 | tup xs=>obtain ⟨_,_,_,p⟩:=x;exact p.lt
 | dK kvs=>obtain ⟨_,_,_,_,o,_,_,e,_⟩:=x;exact Heap.lt_size e
 | dT kvs=>obtain ⟨_,_,_,_,o,_,_,e,_⟩:=x;exact Heap.lt_size e
 | dP kvs=>obtain ⟨_,_,_,_,o,_,_,e,_⟩:=x;exact Heap.lt_size e
 | set S n=>obtain ⟨o,_,_,_,e,_⟩:=x;exact Heap.lt_size e
 | ins C dx fs=>obtain ⟨_,_,_,e,_⟩:=x;exact Heap.lt_size e
 | own y=>obtain ⟨_,e⟩:=x;exact Heap.lt_size e
 | xd fs=>obtain ⟨_,⟨_,_,_,e,_⟩,_⟩:=x;exact Heap.lt_size e
 | rng lo hi=>obtain ⟨_,_,_,e⟩:=x;exact Heap.lt_size e
 | frz ob u=>obtain ⟨e,_⟩:=x;exact Heap.lt_size e
 | tbl ps=>exact Heap.lt_size (show h.get? a=some _ from x)
 | met f y=>exact Heap.lt_size (show h.get? a=some _ from x)
 | ext φ=>obtain ⟨_,⟨_,e⟩,_⟩:=x;exact Heap.lt_size e
theorem Paired.mapP {α β:Type} {F G:α->β->Prop}: ∀ {l₁:List α} {l₂:List β},Paired F l₁ l₂->(∀ a b,F a b->G a b)->Paired G l₁ l₂
 | _,_,.nil,_=>.nil
 | _,_,.cons r t,f=>.cons (f _ _ r) (Paired.mapP t f)
theorem ObjOk.stay (x:ObjOk P w H h a o) (k: ∀ b u,(b=a\/H b=some (.own a))->h.get? b=some u->h'.get? b=some u)
  (ho: ∀ b,H b=some (.own a)->H' b=some (.own a)) (ht: ∀ b xs,H b=some (.tup xs)->H' b=some (.tup xs)):ObjOk P w H' h' a o:=by
 induction o with
 | lst xs=>obtain ⟨z,its,n,r,e⟩:=x;exact ⟨z,its,n,r,k _ _ (.inl rfl) e⟩
 | tup xs=>obtain ⟨z,its,r,ob,e,c⟩:=x;exact ⟨z,its,r,ob,k _ _ (.inl rfl) e,c⟩
 | dK kvs=>obtain ⟨z,y,vs,r,ob,es,ep,e,c⟩:=x;exact ⟨z,y,vs,r,ob,es,ep,k _ _ (.inl rfl) e,c⟩
 | dT kvs=>
  obtain ⟨z,y,xs,r,ob,es,ep,e,c⟩:=x
  exact ⟨z,y,xs,Paired.mapP r fun p q z=>⟨z.1,ht _ _ z.2.1,z.2.2⟩,ob,es,ep,k _ _ (.inl rfl) e,c⟩
 | dP kvs=>
  obtain ⟨z,y,xs,r,ob,es,ep,e,c⟩:=x
  exact ⟨z,y,xs,Paired.mapP r fun p q z=>⟨z.1,let ⟨b,e1,e2⟩:=z.2.1;⟨b,ht _ _ e1,ht _ _ e2⟩,z.2.2⟩,ob,es,ep,k _ _ (.inl rfl) e,c⟩
 | set S n=>obtain ⟨ob,es,ep,t,e,c⟩:=x;exact ⟨ob,es,ep,t,k _ _ (.inl rfl) e,c⟩
 | ins C dx fs=>
  obtain ⟨d,z,ne,e,mA,⟨od,es,ep,e2,c⟩,r⟩:=x
  exact ⟨ho _ d,z,ne,k _ _ (.inl rfl) e,mA,⟨od,es,ep,k _ _ (.inr d) e2,c⟩,r⟩
 | own y=>obtain ⟨ob,e⟩:=x;exact ⟨ob,k _ _ (.inl rfl) e⟩
 | xd fs=>obtain ⟨mA,⟨od,es,ep,e,c⟩,r⟩:=x;exact ⟨mA,⟨od,es,ep,k _ _ (.inl rfl) e,c⟩,r⟩
 | rng lo hi=>obtain ⟨t,u,v,e⟩:=x;exact ⟨t,u,v,k _ _ (.inl rfl) e⟩
 | frz ob u ih=>obtain ⟨e,q⟩:=x;exact ⟨k _ _ (.inl rfl) e,ih q⟩
 | tbl ps=>
  have e:h.get? a=some {cls:=.none,data:=.fields ps}:=x
  show h'.get? a=some {cls:=.none,data:=.fields ps}
  exact k a _ (.inl rfl) e
 | met f y=>
  have e:h.get? a=some (PySem.W.methodObj (.ref f) (.ref y)):=x
  show h'.get? a=some (PySem.W.methodObj (.ref f) (.ref y))
  exact k a _ (.inl rfl) e
 | ext φ=>obtain ⟨p,⟨o,e⟩,st⟩:=x;exact ⟨st _ _ p fun o q=>k _ _ (.inl rfl) q,⟨o,k _ _ (.inl rfl) e⟩,st⟩
theorem HOk.lt (x:HOk P w H h) (e:H a=some o):a<h.objs.size:=(x a o e).lt
theorem HOk.fresh (x:HOk P w H h) (e:h.objs.size<=a):H a=none:=by
 cases q:H a with
 | none=>rfl
 | some u=>exact absurd (Nat.lt_of_lt_of_le (x.lt q) e) (Nat.lt_irrefl _)
theorem HOk.kept (x:HOk P w H h) (k: ∀ b u,h.get? b=some u->h'.get? b=some u):HOk P w H h':=fun a o e=>
 (x a o e).stay (fun b u _ q=>k b u q) (fun _ q=>q) fun _ _ q=>q
theorem HOk.laid (x:HOk P w H h) (k: ∀ b u,h.get? b=some u->h'.get? b=some u) (hp:h.objs.size<=a) (new:ObjOk P w (upd H a o) h' a o):HOk P w (upd H a o) h':=fun b u e=>by
 have hn:=x.fresh hp
 by_cases hb:b=a
 ·subst hb;rw [ab]at e;cases e;exact new
 ·rw [ai hb]at e
  exact (x b u e).stay (fun c v _ q=>k c v q) (fun c q=>by rw [ai (af q hn)];exact q) fun c xs q=>by rw [ai (af q hn)];exact q
end
noncomputable def Rd (H:Hp) (a:Addr) (u:HO):Prop:=H a=some u\/ ∃ o,H a=some (.frz o u)
theorem Rd.ok {P:Program} {w:World} {H:Hp} {h:Heap} {a:Addr} {u:HO} (r:Rd H a u) (x:HOk P w H h):ObjOk P w H h a u:=by
 rcases r with r | ⟨o,r⟩
 ·exact x a u r
 ·obtain ⟨_,q⟩:=x a _ r
  exact q
noncomputable def Mut:Option HO->Prop
 | some (.lst _)=>True
 | some (.dK _)=>True
 | some (.dT _)=>True
 | some (.dP _)=>True
 | some (.set _ _)=>True
 | some (.ins _ _ _)=>True
 | some (.ext _)=>True
 | _=>False
section
variable {P:Program} {w:World} {H:Hp} {h h':Heap} {x e:Addr} {o':HO}
theorem HOk.write (ok:HOk P w H h) (mu:Mut (H x)) (he:e=x\/H e=some (.own x)) (k: ∀ b u,b≠e->h.get? b=some u->h'.get? b=some u) (heo: ∃ u,h'.get? e=some u)
  (new:ObjOk P w (upd H x o') h' x o'):HOk P w (upd H x o') h':=fun b u q=>by
 have nown: ∀ c y,H c=some (.own y)->c≠x:=fun c y r z=>by subst z;rw [r]at mu;exact mu
 have ntup: ∀ c xs,H c=some (.tup xs)->c≠x:=fun c xs r z=>by subst z;rw [r]at mu;exact mu
 by_cases hb:b=x
 ·subst hb;rw [ab]at q;cases q;exact new
 ·rw [ai hb]at q
  by_cases hbe:b=e
  ·have q':H b=some (.own x):=by
    rcases he with z | z
    ·exact absurd (hbe.trans z) hb
    ·rw [hbe];exact z
   rw [q]at q';cases q'
   obtain ⟨v,hv⟩:=heo
   exact ⟨v,by rw [hbe];exact hv⟩
  ·refine (ok b u q).stay (fun c v hc r=>k c v ?_ r) (fun c r=>by rw [ai (nown c b r)];exact r) fun c xs r=>by rw [ai (ntup c xs r)];exact r
   rcases hc with rfl | hc
   ·exact hbe
   ·rintro rfl
    rcases he with z | z
    ·exact nown c b hc z
    ·rw [hc]at z;cases z;exact hb rfl
end
structure Un (fs ex:List Addr) (H H':Hp) (h h':Heap):Prop where
 keep: ∀ b o,h.get? b=some o->H b=none->b∉fs->b∉ex->h'.get? b=some o
 slot: ∀ b o,h.get? b=some o->H b=none->b∈fs->b∉ex-> ∃ sl,h'.get? b=some {o with slots:=sl}
 free: ∀ b o,h.get? b=some o->H b=none->b∉ex->H' b=none
 there: ∀ b o,h.get? b=some o->b∉ex-> ∃ o',h'.get? b=some o'
 tups: ∀ b xs,H b=some (.tup xs)->H' b=some (.tup xs)
 frzs: ∀ b o u,H b=some (.frz o u)->H' b=some (.frz o u)
 tbls: ∀ b ps,H b=some (.tbl ps)-> ∃ more,H' b=some (.tbl (ps++more))
section
variable {fs fs' ex ex':List Addr} {H H1 H2:Hp} {h h1 h2 h':Heap} {a x e:Addr} {o:HO}
theorem Un.any (u:Un fs ex H H1 h h1) {b:Addr} {ob:Obj} (q:h.get? b=some ob) (n:H b=none) (hx:b∉ex): ∃ sl,h1.get? b=some {ob with slots:=sl}:=by
 by_cases hb:b∈fs
 ·exact u.slot b ob q n hb hx
 ·exact ⟨ob.slots,u.keep b ob q n hb hx⟩
theorem Un.kept (k: ∀ b u,h.get? b=some u->h'.get? b=some u):Un fs ex H H h h':=
 ⟨fun b ob q _ _ _=>k b ob q,fun b ob q _ _ _=>⟨ob.slots,k b ob q⟩,fun _ _ _ n _=>n,fun b ob q _=>⟨ob,k b ob q⟩,fun _ _ q=>q,fun _ _ _ q=>q,fun _ ps q=>⟨#[],by rw [q];simp⟩⟩
theorem Un.refl:Un fs ex H H h h:=Un.kept fun _ _ q=>q
theorem Un.laid (k: ∀ b u,h.get? b=some u->h'.get? b=some u) (hp:h.objs.size<=a) (hn:H a=none):Un fs ex H (upd H a o) h h' where
 keep:=fun b u q _ _ _=>k b u q
 slot:=fun b u q _ _ _=>⟨u.slots,k b u q⟩
 free:=fun b u q n _=>by rw [ai (Nat.ne_of_lt (Nat.lt_of_lt_of_le (Heap.lt_size q) hp))];exact n
 there:=fun b u q _=>⟨u,k b u q⟩
 tups:=fun b xs q=>by rw [ai (af q hn)];exact q
 frzs:=fun b u xs q=>by rw [ai (af q hn)];exact q
 tbls:=fun b ps q=>⟨#[],by rw [ai (af q hn),q];simp⟩
theorem Un.write (mu:Mut (H x)) (he:e=x\/H e=some (.own x)) (k: ∀ b u,b≠e->h.get? b=some u->h'.get? b=some u) (heo: ∃ u,h'.get? e=some u):Un fs ex H (upd H x o) h h':=by
 have hx: ∀ b,H b=none->b≠x:=fun b n z=>by subst z;rw [n]at mu;exact mu
 have hb: ∀ b,H b=none->b≠e:=fun b n z=>by
  subst z
  rcases he with r | r
  ·exact hx b n r
  ·rw [n]at r;cases r
 have hm: ∀ b u,H b=some u-> ¬ Mut (some u)->b≠x:=fun b u q nm z=>by subst z;rw [q]at mu;exact nm mu
 refine ⟨fun b u q n _ _=>k b u (hb b n) q,fun b u q n _ _=>⟨u.slots,k b u (hb b n) q⟩,fun b u q n _=>by rw [ai (hx b n)];exact n,fun b u q _=>?_,
  fun b xs q=>by rw [ai (hm b _ q fun z=>z)];exact q,fun b u xs q=>by rw [ai (hm b _ q fun z=>z)];exact q,fun b ps q=>⟨#[],by rw [ai (hm b _ q fun z=>z),q];simp⟩⟩
 by_cases hbe:b=e
 ·subst hbe;exact heo
 ·exact ⟨u,k b u hbe q⟩
end
noncomputable def trk (h:Heap) (H:Hp):List Addr:=(List.range h.objs.size).filter fun a=>(H a).isSome
noncomputable def ju (h:Heap) (H:Hp):Heap:=PySem.W.hideAll h (trk h H)
theorem si (h:Heap) (H:Hp):(ju h H).objs.size=h.objs.size:=PySem.W.hideAll_size _ _
theorem uS {h:Heap} {H:Hp} {b:Addr} {o:Obj} (e:h.get? b=some o) (n:H b=none):(ju h H).get? b=some o:=
 PySem.W.hideAll_get _ e fun hm=>by
  have q:(H b).isSome=true:=(List.mem_filter.mp hm).2
  rw [n]at q;simp at q
theorem vZ {h:Heap} {H:Hp} {b:Addr} {o:Obj} (e:(ju h H).get? b=some o):h.get? b=some o/\H b=none:=by
 have e':h.get? b=some o:=PySem.W.of_hideAll (trk h H) e
 refine ⟨e',?_⟩
 cases q:H b with
 | none=>rfl
 | some x=>
  have hm:b∈trk h H:=List.mem_filter.mpr ⟨List.mem_range.mpr (Heap.lt_size e'),by simp [q]⟩
  have z:(ju h H).get? b=none:=PySem.W.hideAll_none (trk h H) hm
  rw [z]at e;cases e
structure Mod (K:PySem.W.Frag) (mg:Str->Option Value) (base:Heap):Prop where
 kin:K.In base
 glob:base.Ns mainGlobals mg
 blt: ∃ mb,base.Ns builtinsNs mb/\ ∀ x:Str,x≠"__name__"->mb x=bootBuiltins x
 nolimit:base.NoLimit
structure Cx where
 prog:Program
 w:World
 K:PySem.W.Frag
 mg:Str->Option Value
 base:Heap
 A:Around
 N:List Str
 s₀:Shared
 H₀:Hp
 env:Env
 outer:List Env
 stack:List Env
 ex:List Addr
 fn:Str->Bool
 calm:Bool
 pn:List (Addr×Obj)
 xe:Value->Shared->Prop
noncomputable def frs (l:List Env):List Addr:=l.filterMap (·.frame)
noncomputable abbrev Cx.fs (X:Cx):List Addr:=frs X.outer
noncomputable def Vis (sc:Scope) (x:Str):Prop:=sc.names.lookup x=some .local\/sc.names.lookup x=some .cell\/sc.names.lookup x=some .free
noncomputable def Loc (sc:Scope) (x:Str):Prop:=sc.names.lookup x=some .local\/sc.names.lookup x=some .cell
noncomputable def zi (env:Env) (h:Heap) (m:Str->Option Value) (x:Str) (u:Value):Prop:=
 (env.kindOf x=some .local/\m x=some u)\/((env.kindOf x=some .cell\/env.kindOf x=some .free)/\ ∃ c,env.cells.lookup x=some c/\h.IsCell c (some u))
structure Cx.Ok (X:Cx):Prop where
 mod:Mod X.K X.mg X.base
 kind:X.env.scope.kind=.function
 glob:X.env.globals=mainGlobals
 blt:X.env.builtins=builtinsNs
 above:X.s₀.heap.objs.size<=X.env.locals
 inj: ∀ x y c,X.env.cells.lookup x=some c->X.env.cells.lookup y=some c->x=y
 has: ∀ x,(X.env.kindOf x=some .cell\/X.env.kindOf x=some .free)-> ∃ c,X.env.cells.lookup x=some c
 cab: ∀ x c,X.fn x=true->X.env.cells.lookup x=some c->X.s₀.heap.objs.size<=c
 hd:X.calm=true->X.A.handled=none
 frames:X.A.frames=some X.stack
 stk:X.stack=X.outer\/(X.stack=X.env::X.outer/\X.env.frame=some X.env.locals)
 exf: ∀ b∈X.ex,b≠X.env.locals/\ ∀ x c,X.env.cells.lookup x=some c->c≠b
 bs: ∀ b o,X.base.get? b=some o->X.s₀.heap.get? b=some o/\X.H₀ b=none
 bsz:X.base.objs.size<=X.s₀.heap.objs.size
 noex: ∀ b o,X.base.get? b=some o->b∉X.ex
 exfs: ∀ b∈X.ex,b∉X.fs
 funs:X.s₀.heap.FunFrames X.base X.outer
 frf: ∀ b∈X.fs,X.H₀ b=none
structure Inv (X:Cx) (pins:List (Addr×Obj)) (σ:List (Option V)) (H:Hp) (s:Shared):Prop where
 ok:X.Ok
 os:s.os=X.s₀.os
 bare:AllBare s.gens
 base:Un X.fs X.ex X.H₀ H X.s₀.heap s.heap
 loc: ∃ m,s.heap.Ns X.env.locals m/\ ∀ (i:Nat) (x:Str) (v:V),X.N[i]? =some x->σ[i]? =some (some v)->Vis X.env.scope x-> ∃ u,RelV v u/\zi X.env s.heap m x u
 cell: ∀ x c,X.env.cells.lookup x=some c-> ∃ v,s.heap.IsCell c v
 free:H X.env.locals=none
 freeC: ∀ x c,X.env.cells.lookup x=some c->H c=none
 pin: ∀ p∈X.pn++pins,s.heap.get? p.1=some p.2/\H p.1=none/\p.1≠X.env.locals/\p.1∉X.fs/\ ∀ v,p.2.data≠ .cell v
 hok:HOk X.prog X.w H s.heap
 len:σ.length=X.N.length
section
variable {X:Cx} {pins:List (Addr×Obj)} {σ:List (Option V)} {H H':Hp} {s:Shared} {h':Heap}
theorem Cx.Ok.nofr (ok:X.Ok) {b:Addr} {o:Obj} (e:X.base.get? b=some o):b∉X.fs:=fun hb=>by
 have:=(ok.funs.mem hb).1
 rw [e]at this;cases this
theorem Inv.bs (I:Inv X pins σ H s): ∀ b o,X.base.get? b=some o->s.heap.get? b=some o/\H b=none:=fun b o e=>
 ⟨I.base.keep b o (I.ok.bs b o e).1 (I.ok.bs b o e).2 (I.ok.nofr e) (I.ok.noex b o e),I.base.free b o (I.ok.bs b o e).1 (I.ok.bs b o e).2 (I.ok.noex b o e)⟩
theorem Inv.bk (I:Inv X pins σ H s): ∀ b o,X.base.get? b=some o->s.heap.get? b=some o:=fun b o e=>(I.bs b o e).1
theorem Inv.mod (I:Inv X pins σ H s):Mod X.K X.mg X.base:=I.ok.mod
theorem Inv.kIn (I:Inv X pins σ H s):X.K.In s.heap:=I.ok.mod.kin.keeps I.bk
theorem Inv.nolimit (I:Inv X pins σ H s):s.heap.NoLimit:=I.ok.mod.nolimit.keeps I.bk
theorem Inv.lt (I:Inv X pins σ H s):X.env.locals<s.heap.objs.size:=let ⟨_,hn,_⟩:=I.loc;hn.lt
theorem Inv.sz (I:Inv X pins σ H s):X.s₀.heap.objs.size<=s.heap.objs.size:=Nat.le_trans I.ok.above (Nat.le_of_lt I.lt)
theorem Inv.nofs (I:Inv X pins σ H s) {a:Addr} (h:s.heap.objs.size<=a):a∉X.fs:=fun hb=>by
 obtain ⟨_,o,ho,_⟩:=I.ok.funs.mem hb
 exact absurd (Nat.lt_of_lt_of_le (Heap.lt_size ho) (Nat.le_trans I.sz h)) (Nat.lt_irrefl _)
theorem Inv.cne (I:Inv X pins σ H s): ∀ x c,X.env.cells.lookup x=some c->c≠X.env.locals:=fun x c e z=>by
 obtain ⟨v,o,ho,hd⟩:=I.cell x c e
 obtain ⟨m,⟨o',es,ep,ho',hd',_⟩,_⟩:=I.loc
 rw [z,ho']at ho;cases ho;rw [hd']at hd;cases hd
theorem Inv.funs (I:Inv X pins σ H s):s.heap.FunFrames X.base X.outer:=by
 have all: ∀ (l:List Env),(∀ b∈frs l,b∈X.fs)->X.s₀.heap.FunFrames X.base l->s.heap.FunFrames X.base l:=by
  intro l
  induction l with
  | nil=>intro _ _;trivial
  | cons env r ih=>
   intro hs hl
   obtain ⟨hk,⟨L,o,hf,hn,ho,hd⟩,hr⟩:=hl
   have hL:L∈X.fs:=hs L (by unfold frs;rw [List.filterMap_cons,hf];exact List.mem_cons_self)
   obtain ⟨sl,e⟩:=I.base.slot L o ho (I.ok.frf L hL) hL fun z=>I.ok.exfs L z hL
   exact ⟨hk,⟨L,_,hf,hn,e,hd⟩,ih (fun b hb=>hs b (by unfold frs;rw [List.filterMap_cons,hf];exact List.mem_cons_of_mem _ hb)) hr⟩
 exact all X.outer (fun _ hb=>hb) I.ok.funs
theorem Inv.stack (I:Inv X pins σ H s):s.heap.FunFrames X.base X.stack:=by
 rcases I.ok.stk with e | ⟨e,hf⟩
 ·rw [e];exact I.funs
 ·rw [e]
  obtain ⟨m,hn,_⟩:=I.loc
  refine .cons (by rw [I.ok.kind];decide) hf hn ?_ I.funs
  exact Heap.get?_none_of_le (Nat.le_trans I.ok.bsz I.ok.above)
theorem Inv.stkSub (I:Inv X pins σ H s): ∀ b∈frs X.stack,b∈X.env.locals::X.fs:=fun b hb=>by
 rcases I.ok.stk with e | ⟨e,hf⟩
 ·rw [e]at hb;exact List.mem_cons_of_mem _ hb
 ·rw [e]at hb
  unfold frs at hb
  rw [List.filterMap_cons,hf]at hb
  exact hb
theorem Inv.stkFree (I:Inv X pins σ H s): ∀ b∈frs X.stack,H b=none:=fun b hb=>by
 rcases List.mem_cons.mp (I.stkSub b hb)with e | hb
 ·rw [e];exact I.free
 ·obtain ⟨_,o,ho,_⟩:=I.ok.funs.mem hb
  exact I.base.free b o ho (I.ok.frf b hb) fun z=>I.ok.exfs b z hb
theorem Inv.step {g':Array GenState} {t':Nat} {d':Drawn} {ch:List Addr} (I:Inv X pins σ H s)
  (hch: ∀ b∈ch,(b∈X.ex\/X.s₀.heap.objs.size<=b)/\b≠X.env.locals/\(∀ x c,X.env.cells.lookup x=some c->c≠b)/\ ∀ p∈X.pn++pins,p.1≠b)
  (keep: ∀ b o,b≠X.env.locals->b∉X.fs->b∉ch->s.heap.get? b=some o->H b=none->h'.get? b=some o)
  (slot: ∀ b o,b≠X.env.locals->b∈X.fs->b∉ch->s.heap.get? b=some o->H b=none-> ∃ sl,h'.get? b=some {o with slots:=sl}) (free: ∀ b o,b∉ch->s.heap.get? b=some o->H b=none->H' b=none)
  (there: ∀ b o,b∉ch->s.heap.get? b=some o-> ∃ o',h'.get? b=some o')
  (tups: ∀ b xs,H b=some (.tup xs)->H' b=some (.tup xs)) (frzs: ∀ b o u,H b=some (.frz o u)->H' b=some (.frz o u)) (tbls: ∀ b ps,H b=some (.tbl ps)-> ∃ more,H' b=some (.tbl (ps++more)))
  (ns: ∀ m,s.heap.Ns X.env.locals m->h'.Ns X.env.locals m) (hok:HOk X.prog X.w H' h') (hg:AllBare g'):
  Inv X pins σ H' {s with heap:=h',gens:=g',drawn:=d',toks:=t'}:=by
 have neL: ∀ b o,X.s₀.heap.get? b=some o->b≠X.env.locals:=fun b o e=>Nat.ne_of_lt (Nat.lt_of_lt_of_le (Heap.lt_size e) I.ok.above)
 have neC: ∀ b o,X.s₀.heap.get? b=some o->b∉X.ex->b∉ch:=fun b o e hx hb=>by
  rcases (hch b hb).1 with z | z
  ·exact hx z
  ·exact absurd (Nat.lt_of_lt_of_le (Heap.lt_size e) z) (Nat.lt_irrefl _)
 have cellK: ∀ x c,X.env.cells.lookup x=some c-> ∀ v,s.heap.IsCell c v->h'.IsCell c v:=fun x c e v ⟨o,ho,hd⟩=>by
  have nch:c∉ch:=fun z=>(hch c z).2.2.1 x c e rfl
  by_cases hc:c∈X.fs
  ·obtain ⟨sl,q⟩:=slot c o (I.cne x c e) hc nch ho (I.freeC x c e)
   exact ⟨_,q,hd⟩
  ·exact ⟨o,keep c o (I.cne x c e) hc nch ho (I.freeC x c e),hd⟩
 refine ⟨I.ok,I.os,hg,⟨fun b o e n hb hx=>?_,fun b o e n hb hx=>?_,fun b o e n hx=>?_,fun b o e hx=>?_,fun b xs e=>tups b xs (I.base.tups b xs e),fun b o xs e=>frzs b o xs (I.base.frzs b o xs e),fun b ps e=>?_⟩,?_,fun x c e=>?_,?_,fun x c e=>?_,fun p hp=>?_,hok,I.len⟩
 ·exact keep b o (neL b o e) hb (neC b o e hx) (I.base.keep b o e n hb hx) (I.base.free b o e n hx)
 ·obtain ⟨sl,e1⟩:=I.base.slot b o e n hb hx
  obtain ⟨sl',e2⟩:=slot b _ (neL b o e) hb (neC b o e hx) e1 (I.base.free b o e n hx)
  exact ⟨sl',e2⟩
 ·obtain ⟨o',e1⟩:=I.base.there b o e hx
  exact free b o' (neC b o e hx) e1 (I.base.free b o e n hx)
 ·obtain ⟨o',e1⟩:=I.base.there b o e hx
  exact there b o' (neC b o e hx) e1
 ·obtain ⟨m1,e1⟩:=I.base.tbls b ps e
  obtain ⟨m2,e2⟩:=tbls b _ e1
  exact ⟨m1++m2,by rw [e2,Array.append_assoc]⟩
 ·obtain ⟨m,hn,hl⟩:=I.loc
  refine ⟨m,ns m hn,fun i x v e1 e2 e3=>?_⟩
  obtain ⟨u,r,l⟩:=hl i x v e1 e2 e3
  refine ⟨u,r,?_⟩
  rcases l with l | ⟨k,c,e,z⟩
  ·exact .inl l
  ·exact .inr ⟨k,c,e,cellK x c e _ z⟩
 ·obtain ⟨v,z⟩:=I.cell x c e
  exact ⟨v,cellK x c e v z⟩
 ·obtain ⟨m,⟨o,_,_,ho,_⟩,_⟩:=I.loc
  exact free _ o (fun z=>(hch _ z).2.1 rfl) ho I.free
 ·obtain ⟨v,o,ho,hd⟩:=I.cell x c e
  exact free c o (fun z=>(hch c z).2.2.1 x c e rfl) ho (I.freeC x c e)
 ·obtain ⟨e,n,ne,nf,d⟩:=I.pin p hp
  have nch:p.1∉ch:=fun z=>(hch p.1 z).2.2.2 p hp rfl
  exact ⟨keep p.1 p.2 ne nf nch e n,free p.1 p.2 nch e n,ne,nf,d⟩
theorem Inv.un {t':Nat} (I:Inv X pins σ H s) (u:Un X.fs [] H H' s.heap h') (hok:HOk X.prog X.w H' h'):Inv X pins σ H' {s with heap:=h',toks:=t'}:=by
 obtain ⟨m,⟨o,es,ep,ho,r⟩,_⟩:=id I.loc
 obtain ⟨sl,hL⟩:=u.any ho I.free (by simp)
 exact I.step (g':=s.gens) (d':=s.drawn) (ch:=[]) (fun _ z=>nomatch z) (fun b o _ hb _ e n=>u.keep b o e n hb (by simp)) (fun b o _ hb _ e n=>u.slot b o e n hb (by simp)) (fun b o _ e n=>u.free b o e n (by simp)) (fun b o _ e=>u.there b o e (by simp)) u.tups u.frzs u.tbls (fun m' hm=>by
  obtain ⟨o',es',ep',ho',r'⟩:=hm
  rw [ho]at ho';cases ho'
  exact ⟨_,es',ep',hL,r'⟩) hok I.bare
theorem Inv.call {g':Array GenState} {t':Nat} {d':Drawn} {ch:List Addr} (I:Inv X pins σ H s) (u:Un (frs X.stack) ch H H' s.heap h') (hok:HOk X.prog X.w H' h') (hg:AllBare g')
  (hch: ∀ b∈ch,(b∈X.ex\/X.s₀.heap.objs.size<=b)/\b≠X.env.locals/\(∀ x c,X.env.cells.lookup x=some c->c≠b)/\ ∀ p∈X.pn++pins,p.1≠b):
  Inv X pins σ H' {s with heap:=h',gens:=g',drawn:=d',toks:=t'}:=by
 obtain ⟨m,⟨o,es,ep,ho,r⟩,_⟩:=id I.loc
 obtain ⟨sl,hL⟩:=u.any ho I.free fun z=>(hch _ z).2.1 rfl
 exact I.step (ch:=ch) hch (fun b o hL hb hc e n=>u.keep b o e n (fun z=>(List.mem_cons.mp (I.stkSub b z)).elim hL hb) hc) (fun b o _ _ hc e n=>u.any e n hc) (fun b o hc e n=>u.free b o e n hc) (fun b o hc e=>u.there b o e hc) u.tups u.frzs u.tbls (fun m' hm=>by
  obtain ⟨o',es',ep',ho',r'⟩:=hm
  rw [ho]at ho';cases ho'
  exact ⟨_,es',ep',hL,r'⟩) hok hg
theorem Inv.turned {t':Nat} {it:Addr} (I:Inv X pins σ H s) (k: ∀ b o,b≠it->s.heap.get? b=some o->h'.get? b=some o) (hn:H it=none) (hL:it≠X.env.locals)
  (h1:it∈X.ex\/X.s₀.heap.objs.size<=it) (h2: ∀ x c,X.env.cells.lookup x=some c->c≠it) (h3: ∀ p∈X.pn++pins,p.1≠it):Inv X pins σ H {s with heap:=h',toks:=t'}:=by
 have nit: ∀ b u,H b=some u->b≠it:=fun b u e z=>by rw [z,hn]at e;cases e
 refine I.step (g':=s.gens) (d':=s.drawn) (ch:=[it]) (fun b hb=>?_) (fun b o _ _ hc e _=>k b o (fun z=>hc (by simp [z])) e) (fun b o _ _ hc e _=>⟨o.slots,k b o (fun z=>hc (by simp [z])) e⟩) (fun _ _ _ _ n=>n)
  (fun b o hc e=>⟨o,k b o (fun z=>hc (by simp [z])) e⟩) (fun _ _ e=>e) (fun _ _ _ e=>e) (fun b ps e=>⟨#[],by rw [e];simp⟩) (fun m hm=>?_) (fun b u e=>?_) I.bare
 ·have e:b=it:=by simpa using hb
  subst e
  exact ⟨h1,hL,h2,h3⟩
 ·obtain ⟨o,es,ep,ho,r⟩:=hm
  exact ⟨o,es,ep,k _ o (Ne.symm hL) ho,r⟩
 ·refine (I.hok b u e).stay (fun c v hc q=>k c v ?_ q) (fun _ q=>q) fun _ _ q=>q
  rcases hc with z | z
  ·rw [z];exact nit b u e
  ·exact nit c _ z
theorem Inv.tok (I:Inv X pins σ H s) (t:Nat):Inv X pins σ H {s with toks:=t}:=I.un (h':=s.heap) (t':=t) Un.refl I.hok
theorem Inv.kept {t':Nat} (I:Inv X pins σ H s) (k: ∀ b u,s.heap.get? b=some u->h'.get? b=some u):Inv X pins σ H {s with heap:=h',toks:=t'}:=I.un (Un.kept k) (I.hok.kept k)
theorem Inv.laid {a:Addr} {o:HO} {t':Nat} (I:Inv X pins σ H s) (k: ∀ b u,s.heap.get? b=some u->h'.get? b=some u) (hp:s.heap.objs.size<=a) (new:ObjOk X.prog X.w (upd H a o) h' a o):
  Inv X pins σ (upd H a o) {s with heap:=h',toks:=t'}:=I.un (Un.laid k hp (I.hok.fresh hp)) (I.hok.laid k hp new)
theorem Inv.write {x e:Addr} {o:HO} {t':Nat} (I:Inv X pins σ H s) (mu:Mut (H x)) (he:e=x\/H e=some (.own x)) (k: ∀ b u,b≠e->s.heap.get? b=some u->h'.get? b=some u) (heo: ∃ u,h'.get? e=some u)
  (new:ObjOk X.prog X.w (upd H x o) h' x o):Inv X pins σ (upd H x o) {s with heap:=h',toks:=t'}:=I.un (Un.write mu he k heo) (I.hok.write mu he k heo new)
theorem Inv.pins_of {pins':List (Addr×Obj)} (I:Inv X pins σ H s) (h: ∀ p∈pins',s.heap.get? p.1=some p.2/\H p.1=none/\p.1≠X.env.locals/\p.1∉X.fs/\ ∀ v,p.2.data≠ .cell v):Inv X pins' σ H s:=
 ⟨I.ok,I.os,I.bare,I.base,I.loc,I.cell,I.free,I.freeC,fun p hp=>(List.mem_append.mp hp).elim (fun z=>I.pin p (List.mem_append_left _ z)) (h p),I.hok,I.len⟩
theorem fe {N:List Str} (hN:N.Nodup) {i j:Nat} {x:Str} (a:N[i]? =some x) (b:N[j]? =some x):i=j:=by
 obtain ⟨h1,e1⟩:=List.getElem?_eq_some_iff.mp a
 obtain ⟨h2,e2⟩:=List.getElem?_eq_some_iff.mp b
 exact (List.getElem_inj hN).mp (e1.trans e2.symm)
theorem dW {M:Model} {A:Around} {E:Value->Shared->Prop} {i:Nat} {x:Str} {v:V} {u:Value} {Q:Unit->Shared->Prop} (I:Inv X pins σ H s) (hN:X.N.Nodup) (hi:X.N[i]? =some x) (hx:Loc X.env.scope x) (r:RelV v u)
  (h: ∀ s',Inv X pins (σ.set i (some v)) H s'->(∃ a,Heap.SameBut a s.heap s'.heap/\(a=X.env.locals\/X.env.cells.lookup x=some a))->Q () s') (hf:X.fn x=true\/X.env.scope.names.lookup x=some .local:=by first | exact .inl rfl | exact .inr rfl | assumption):wpAny M A (storeName X.env x u) Q E s:=by
 obtain ⟨m,hn,hl⟩:=id I.loc
 have hcls:(X.env.scope.kind== .class||(X.env.scope.kind== .module&&X.env.locals !=X.env.globals))=false:=by rw [I.ok.kind];rfl
 have hiσ:i<σ.length:=by rw [I.len];exact (List.getElem?_eq_some_iff.mp hi).1
 have cne:=I.cne
 have tracked: ∀ {a:Addr} {h':Heap},(∃ o,s.heap.get? a=some o/\H a=none)->Heap.SameBut a s.heap h'->HOk X.prog X.w H h':=fun {a h'} ha hs b ob e=>by
  obtain ⟨_,_,hfree⟩:=ha
  refine (I.hok b ob e).stay (fun c w' hc q=>(hs.2 c ?_).trans q) (fun _ q=>q) fun _ _ q=>q
  rintro rfl
  rcases hc with rfl | hc
  ·rw [hfree]at e;cases e
  ·rw [hfree]at hc;cases hc
 rcases hx with hk | hk
 ·refine wpAny_storeName_local hk hn (fun h' hn' hs=>?_) hcls
  obtain ⟨oL,_,_,hoL,_⟩:=id hn
  refine h _ ⟨I.ok,I.os,I.bare,⟨fun b o e n hb hx=>?_,fun b o e n hb hx=>?_,I.base.free,fun b o e hx=>?_,I.base.tups,I.base.frzs,I.base.tbls⟩,⟨_,hn',fun j y v' e1 e2 e3=>?_⟩,fun y c e=>?_,I.free,I.freeC,fun p hp=>?_,tracked ⟨oL,hoL,I.free⟩ hs,by simpa using I.len⟩ ⟨_,hs,.inl rfl⟩
  ·exact (hs.2 b (Nat.ne_of_lt (Nat.lt_of_lt_of_le (Heap.lt_size e) I.ok.above))).trans (I.base.keep b o e n hb hx)
  ·obtain ⟨sl,e1⟩:=I.base.slot b o e n hb hx
   exact ⟨sl,(hs.2 b (Nat.ne_of_lt (Nat.lt_of_lt_of_le (Heap.lt_size e) I.ok.above))).trans e1⟩
  ·obtain ⟨o',e1⟩:=I.base.there b o e hx
   exact ⟨o',(hs.2 b (Nat.ne_of_lt (Nat.lt_of_lt_of_le (Heap.lt_size e) I.ok.above))).trans e1⟩
  ·by_cases hj:j=i
   ·subst hj
    rw [hi]at e1;cases e1
    rw [List.getElem?_set_self hiσ]at e2
    cases e2
    exact ⟨u,r,.inl ⟨hk,by simp⟩⟩
   ·rw [List.getElem?_set_ne (Ne.symm hj)]at e2
    obtain ⟨u',r',q⟩:=hl j y v' e1 e2 e3
    refine ⟨u',r',?_⟩
    rcases q with ⟨k,e⟩ | ⟨k,c,e,z⟩
    ·refine .inl ⟨k,?_⟩
     have:y≠x:=fun e=>hj (fe hN e1 (e▸hi))
     simp [this,e]
    ·exact .inr ⟨k,c,e,z.sameBut hs (cne y c e)⟩
  ·obtain ⟨w',z⟩:=I.cell y c e
   exact ⟨w',z.sameBut hs (cne y c e)⟩
  ·obtain ⟨e,n,ne,nf,d⟩:=I.pin p hp
   exact ⟨(hs.2 p.1 ne).trans e,n,ne,nf,d⟩
 ·have hfn:X.fn x=true:=by
   rcases hf with z | z
   ·exact z
   ·rw [z]at hk;cases hk
  obtain ⟨c,hc⟩:=I.ok.has x (.inl hk)
  obtain ⟨w',z⟩:=I.cell x c hc
  refine wpAny_storeName_cell I.ok.kind hk hc z (fun h' hc' hs=>?_)
  obtain ⟨oc,hoc,hocd⟩:=id z
  refine h {s with heap:=h'} ⟨I.ok,I.os,I.bare,⟨fun b o e n hb hx=>?_,fun b o e n hb hx=>?_,I.base.free,fun b o e hx=>?_,I.base.tups,I.base.frzs,I.base.tbls⟩,⟨m,hn.sameBut hs (Ne.symm (cne x c hc)),fun j y v' e1 e2 e3=>?_⟩,fun y c' e=>?_,I.free,I.freeC,fun p hp=>?_,tracked ⟨oc,hoc,I.freeC x c hc⟩ hs,by simpa using I.len⟩ ⟨c,hs,.inr hc⟩
  ·exact (hs.2 b (Nat.ne_of_lt (Nat.lt_of_lt_of_le (Heap.lt_size e) (I.ok.cab x c hfn hc)))).trans (I.base.keep b o e n hb hx)
  ·obtain ⟨sl,e1⟩:=I.base.slot b o e n hb hx
   exact ⟨sl,(hs.2 b (Nat.ne_of_lt (Nat.lt_of_lt_of_le (Heap.lt_size e) (I.ok.cab x c hfn hc)))).trans e1⟩
  ·obtain ⟨o',e1⟩:=I.base.there b o e hx
   exact ⟨o',(hs.2 b (Nat.ne_of_lt (Nat.lt_of_lt_of_le (Heap.lt_size e) (I.ok.cab x c hfn hc)))).trans e1⟩
  ·by_cases hj:j=i
   ·subst hj
    rw [hi]at e1;cases e1
    rw [List.getElem?_set_self hiσ]at e2
    cases e2
    exact ⟨u,r,.inr ⟨.inl hk,c,hc,hc'⟩⟩
   ·rw [List.getElem?_set_ne (Ne.symm hj)]at e2
    obtain ⟨u',r',q⟩:=hl j y v' e1 e2 e3
    refine ⟨u',r',?_⟩
    rcases q with q | ⟨k,c',e,z'⟩
    ·exact .inl q
    ·refine .inr ⟨k,c',e,z'.sameBut hs ?_⟩
     rintro rfl
     exact hj (fe hN e1 (I.ok.inj _ _ _ e hc▸hi))
  ·by_cases hcc:c'=c
   ·subst hcc;exact ⟨_,hc'⟩
   ·obtain ⟨w2,z2⟩:=I.cell y c' e
    exact ⟨w2,z2.sameBut hs hcc⟩
  ·obtain ⟨e,n,ne,nf,d⟩:=I.pin p hp
   refine ⟨(hs.2 p.1 ?_).trans e,n,ne,nf,d⟩
   intro q
   rw [q,hoc]at e
   have q':oc=p.2:=Option.some.inj e
   exact d w' (by rw [<- q'];exact hocd)
theorem mr {M:Model} {A:Around} {E:Value->Shared->Prop} {i:Nat} {x:Str} {v:V} {u:Value} {Q:Unit->Shared->Prop} (I:Inv X pins σ H s) (hN:X.N.Nodup) (hi:X.N[i]? =some x) (hx:Loc X.env.scope x) (r:RelV v u)
  (h: ∀ s',Inv X pins (σ.set i (some v)) H s'->Q () s') (hf:X.fn x=true\/X.env.scope.names.lookup x=some .local:=by first | exact .inl rfl | exact .inr rfl | assumption):wpAny M A (storeName X.env x u) Q E s:=
 dW I hN hi hx r (fun s' I' _=>h s' I') hf
theorem Inv.call' {s':Shared} {ch:List Addr} (I:Inv X pins σ H s) (ho:s'.os=s.os) (u:Un (frs X.stack) ch H H' s.heap s'.heap) (hok:HOk X.prog X.w H' s'.heap) (hg:AllBare s'.gens)
  (hch: ∀ b∈ch,(b∈X.ex\/X.s₀.heap.objs.size<=b)/\b≠X.env.locals/\(∀ x c,X.env.cells.lookup x=some c->c≠b)/\ ∀ p∈X.pn++pins,p.1≠b):Inv X pins σ H' s':=by
 obtain ⟨h',g',d',t',o'⟩:=s'
 have e:o'=s.os:=ho
 subst e
 exact I.call (g':=g') (t':=t') (d':=d') u hok hg hch
end
noncomputable abbrev XK:=Value->Option Addr->Hp->Prop
noncomputable abbrev St:=List (Option V)
noncomputable abbrev VK:=V->Hp->Prop
noncomputable abbrev TE:=St->Hp->VK->Prop
noncomputable abbrev TT:=St->Hp->(Bool->Hp->Prop)->Prop
noncomputable abbrev TA:=St->Hp->(List V->Hp->Prop)->Prop
structure eh where
 nx:St->Hp->Prop
 rt:VK
 bk:St->Hp->Prop:=fun _ _=>False
 ct:St->Hp->Prop:=fun _ _=>False
noncomputable abbrev TS:=eh->St->Hp->Prop
noncomputable def EP (X:Cx) (pins:List (Addr×Obj)) (σ:St) (Q:VK) (u:Value) (s':Shared):Prop:= ∃ v H',Inv X pins σ H' s'/\RelV v u/\Q v H'
noncomputable def TP (X:Cx) (pins:List (Addr×Obj)) (σ:St) (Q:Bool->Hp->Prop) (b:Bool) (s':Shared):Prop:= ∃ H',Inv X pins σ H' s'/\Q b H'
noncomputable def AP (X:Cx) (pins:List (Addr×Obj)) (σ:St) (Q:List V->Hp->Prop) (us:List Value) (s':Shared):Prop:= ∃ vs H',Inv X pins σ H' s'/\Vals vs us/\Q vs H'
noncomputable def SP (X:Cx) (pins:List (Addr×Obj)) (D:eh) (f:Flow) (s':Shared):Prop:=
 match f with
 | .next=> ∃ σ' H',Inv X pins σ' H' s'/\D.nx σ' H'
 | .brk=> ∃ σ' H',Inv X pins σ' H' s'/\D.bk σ' H'
 | .cont=> ∃ σ' H',Inv X pins σ' H' s'/\D.ct σ' H'
 | .ret u=> ∃ v σ' H',Inv X pins σ' H' s'/\RelV v u/\D.rt v H'
noncomputable def PE (X:Cx) (e:Expr) (t:TE):Prop:=
 ∀ (pins:List (Addr×Obj)) (s:Shared) (σ:St) (H:Hp) (Q:VK),Inv X pins σ H s->t σ H Q->wpAny (model X.prog X.w) X.A (eval e X.env) (EP X pins σ Q) X.xe s
noncomputable def PT (X:Cx) (e:Expr) (t:TT):Prop:=
 ∀ (pins:List (Addr×Obj)) (s:Shared) (σ:St) (H:Hp) (Q:Bool->Hp->Prop),Inv X pins σ H s->t σ H Q->wpAny (model X.prog X.w) X.A (isTrue e X.env (eval e X.env)) (TP X pins σ Q) X.xe s
noncomputable def PW (X:Cx) (e:Expr) (t:TT):Prop:=
 ∀ (whole:Sem Value) (pins:List (Addr×Obj)) (s:Shared) (σ:St) (H:Hp) (Q:Bool->Hp->Prop),Inv X pins σ H s->t σ H Q->wpAny (model X.prog X.w) X.A (isTrue e X.env whole) (TP X pins σ Q) X.xe s
theorem PW.pt {X:Cx} {e:Expr} {t:TT} (h:PW X e t):PT X e t:=h _
noncomputable def PA (X:Cx) (es:List Expr) (t:TA):Prop:=
 ∀ (pos:Pos) (pins:List (Addr×Obj)) (s:Shared) (σ:St) (H:Hp) (Q:List V->Hp->Prop),Inv X pins σ H s->t σ H Q->wpAny (model X.prog X.w) X.A (spliced (backTo pos (starEach es X.env))) (AP X pins σ Q) X.xe s
noncomputable def PS (X:Cx) (st:Stmt) (t:TS):Prop:=
 ∀ (pins:List (Addr×Obj)) (s:Shared) (σ:St) (H:Hp) (D:eh),Inv X pins σ H s->t D σ H->wpAny (model X.prog X.w) X.A (exec st X.env) (SP X pins D) X.xe s
noncomputable def PSs (X:Cx) (st:List Stmt) (t:TS):Prop:=
 ∀ (pins:List (Addr×Obj)) (s:Shared) (σ:St) (H:Hp) (D:eh),Inv X pins σ H s->t D σ H->wpAny (model X.prog X.w) X.A (execs st X.env) (SP X pins D) X.xe s
theorem thn {α:Type} {t:Sem α} {Q Q':α->Shared->Prop} {M:Model} {A:Around} {E:Value->Shared->Prop} {s:Shared} (h:wpAny M A t Q E s) (hQ: ∀ a s,Q a s->Q' a s):wpAny M A t Q' E s:=wpAny_mono h hQ fun _ _ x=>x
section
variable {X:Cx}
noncomputable def vv (i:Nat):TE:=fun σ H Q=> ∃ v,σ[i]? =some (some v)/\Q v H
noncomputable def tC (v:V):TE:=fun _ H Q=>Q v H
theorem ug {i:Nat} {x:Str} {pos:Pos} (hN:X.N[i]? =some x) (hv:Vis X.env.scope x) (hd:(x==("__debug__":Str))=false:=by decide) (hcd:(x==("__classdict__":Str))=false:=by decide):PE X (.Name x pos) (vv i):=by
 intro pins s σ H Q I h
 obtain ⟨v,e,h⟩:=h
 obtain ⟨m,hn,hl⟩:=I.loc
 obtain ⟨u,r,l⟩:=hl i x v hN e hv
 have fin:EP X pins σ Q u s:=⟨v,H,I,r,h⟩
 rcases l with ⟨hk,hm⟩ | ⟨hk,c,hc,hcell⟩
 ·exact wpAny_Name (wpAny_loadName_local I.ok.kind hk hn hm fin) hd
 ·rcases hk with hk | hk
  ·exact wpAny_Name (wpAny_loadName_cell I.ok.kind hk hc hcell fin) hd
  ·exact wpAny_Name (wpAny_loadName_free I.ok.kind hk hc hcell fin hcd) hd
theorem ae {i j pos}:PE X (.Constant (.int i) j pos) (tC (.int i)):=fun _ _ _ H _ I h=>wpAny_Constant_int ⟨.int i,H,I.tok _,⟨_,rfl⟩,h⟩
theorem uk {b j pos}:PE X (.Constant (.bool b) j pos) (tC (.bl b)):=fun _ _ _ H _ I h=>Constant_bool ⟨.bl b,H,I,rfl,h⟩
theorem lN {j pos}:PE X (.Constant .none j pos) (tC .non):=fun _ _ _ H _ I h=>Constant_none ⟨.non,H,I,rfl,h⟩
theorem aT {x j pos}:PE X (.Constant (.str x) j pos) (tC (.str x)):=fun _ _ _ H _ I h=>Calls.Constant_str ⟨.str x,H,I.tok _,⟨_,rfl⟩,h⟩
noncomputable def Gl (X:Cx) (x:Str):Prop:=X.env.kindOf x=some .globalImplicit
theorem lY {E:Value->Shared->Prop} {pins:List (Addr×Obj)} {s:Shared} {σ:St} {H:Hp} {x:Str} {u:Value} {pos:Pos} {Q:Value->Shared->Prop} (I:Inv X pins σ H s) (hg:Gl X x) (hm:X.mg x=some u) (h:Q u s)
  (hd:(x==("__debug__":Str))=false:=by decide):wpAny (model X.prog X.w) X.A (eval (.Name x pos) X.env) Q E s:=
 Calls.Name_function_global I.ok.kind hg (Calls.loadGlobal_global (by rw [I.ok.glob];exact I.mod.glob.keeps I.bk) hm h) hd
theorem eM {E:Value->Shared->Prop} {pins:List (Addr×Obj)} {s:Shared} {σ:St} {H:Hp} {x:Str} {u:Value} {pos:Pos} {Q:Value->Shared->Prop} (I:Inv X pins σ H s) (hg:Gl X x) (hm:X.mg x=none) (hv:bootBuiltins x=some u) (h:Q u s)
  (hn:x≠"__name__":=by decide) (hd:(x==("__debug__":Str))=false:=by decide):wpAny (model X.prog X.w) X.A (eval (.Name x pos) X.env) Q E s:=by
 obtain ⟨mb,h1,h2⟩:=I.mod.blt
 exact Calls.Name_function_global I.ok.kind hg (Calls.loadGlobal_builtin (by rw [I.ok.glob];exact I.mod.glob.keeps I.bk) hm (by rw [I.ok.blt];exact h1.keeps I.bk) ((h2 x hn).trans hv) h) hd
theorem qo {x:Str} {v:V} {u:Value} {pos:Pos} (hg:Gl X x) (hm:X.mg x=some u) (r:RelV v u) (hd:(x==("__debug__":Str))=false:=by decide):PE X (.Name x pos) (tC v):=
 fun _ _ _ H _ I h=>lY I hg hm ⟨v,H,I,r,h⟩ hd
theorem cK {x:Str} {v:V} {u:Value} {pos:Pos} (hg:Gl X x) (hm:X.mg x=none) (hv:bootBuiltins x=some u) (r:RelV v u) (hn:x≠"__name__":=by decide) (hd:(x==("__debug__":Str))=false:=by decide):PE X (.Name x pos) (tC v):=
 fun _ _ _ H _ I h=>eM I hg hm hv ⟨v,H,I,r,h⟩ hn hd
variable {a b:Expr} {ta tb:TE} {pos:Pos}
noncomputable def PC (X:Cx) (op:CmpOp) (a b:Expr) (t:TE):Prop:=
 ∀ (pins:List (Addr×Obj)) (s:Shared) (σ:St) (H:Hp) (Q:VK),Inv X pins σ H s->t σ H Q->
  wpAny (model X.prog X.w) X.A (eval a X.env) (fun v s₁=>wpAny (model X.prog X.w) X.A (eval b X.env) (fun u s₂=>wpAny (model X.prog X.w) X.A (compareOp op v u) (EP X pins σ Q) X.xe s₂) X.xe s₁) X.xe s
noncomputable def tB (t:TE):TT:=fun σ H Q=>t σ H fun x H1=> ∃ c,x=.bl c/\Q c H1
theorem oV {op:CmpOp} {t:TE} (h:PC X op a b t) (h1:behindInMarks op b=false:=by first | exact nobehind _ (by decide) (by decide) | rfl):PE X (.Compare a [op] [b] pos) t:=fun pins s σ H Q I hw=>wpAny_Compare1 (h pins s σ H Q I hw) h1
theorem oR {op:CmpOp} {t:TE} (h:PC X op a b t) (h1:behindInMarks op b=false:=by first | exact nobehind _ (by decide) (by decide) | rfl):PT X (.Compare a [op] [b] pos) (tB t):=by
 intro pins s σ H Q I hw
 refine wpAny_isTrue_Compare1 (thn (h pins s σ H _ I hw) fun v s1 h1=>thn h1 fun u s2 h2=>thn h2 fun c s3 ⟨x,H1,I1,r1,q1⟩=>?_) h1
 obtain ⟨d,rfl,q⟩:=q1
 cases r1
 exact wpAny_truthy_bool ⟨H1,I1,q⟩
theorem dO {e:Expr} {t:TE} (h:PE X e t) (he: ∀ whole,isTrue e X.env whole=(do let v <- whole;standAt e.pos;holding [v] (truthy v)):=by intro _;rfl):PT X e (tB t):=by
 intro pins s σ H Q I hw
 refine isTrue_plain (thn (h pins s σ H _ I hw) fun v s1 ⟨x,H1,I1,r1,q1⟩=>?_) (he _)
 obtain ⟨d,rfl,q⟩:=q1
 cases r1
 exact wpAny_truthy_bool ⟨H1,I1,q⟩
variable {tA tB':TT} {rest:List Expr}
noncomputable def yP (t u:TT):TT:=fun σ H Q=>t σ H fun c H1=>if c=true then u σ H1 Q else Q false H1
noncomputable def tOr (t u:TT):TT:=fun σ H Q=>t σ H fun c H1=>if c=true then Q true H1 else u σ H1 Q
noncomputable def yK (t:TT):TT:=fun σ H Q=>t σ H fun c H1=>Q (!c) H1
theorem iG (ha:PT X a tA):PW X (.BoolOp .And [a] pos) tA:=by
 intro wh pins s σ H Q I h
 refine isTrue_and (thn (ha pins s σ H Q I h) fun c s1 e=>?_)
 cases c with
 | true=>exact isTrue_and_nil e
 | false=>exact e
theorem oQ (ha:PT X a tA):PW X (.BoolOp .Or [a] pos) tA:=by
 intro wh pins s σ H Q I h
 refine isTrue_or (thn (ha pins s σ H Q I h) fun c s1 e=>?_)
 cases c with
 | false=>exact isTrue_or_nil e
 | true=>exact e
theorem lH (ha:PT X a tA) (hb:PW X (.BoolOp .And (b::rest) pos) tB'):PW X (.BoolOp .And (a::b::rest) pos) (yP tA tB'):=by
 intro wh pins s σ H Q I h
 refine isTrue_and (thn (ha pins s σ H _ I h) fun c s1 ⟨H1,I1,q1⟩=>?_)
 cases c with
 | true=>exact hb wh pins s1 σ H1 Q I1 q1
 | false=>exact ⟨H1,I1,q1⟩
theorem tW (ha:PT X a tA) (hb:PW X (.BoolOp .Or (b::rest) pos) tB'):PW X (.BoolOp .Or (a::b::rest) pos) (tOr tA tB'):=by
 intro wh pins s σ H Q I h
 refine isTrue_or (thn (ha pins s σ H _ I h) fun c s1 ⟨H1,I1,q1⟩=>?_)
 cases c with
 | true=>exact ⟨H1,I1,q1⟩
 | false=>exact hb wh pins s1 σ H1 Q I1 q1
theorem lI (ha:PT X a tA):PT X (.UnaryOp .Not a pos) (yK tA):=by
 intro pins s σ H Q I h
 exact isTrue_not (ha pins s σ H (fun c H1=>Q (!c) H1) I h)
noncomputable def xX (ta tb:TE):TE:=fun σ H Q=>ta σ H fun x H1=> ∃ c,x=.bl c/\if c=true then tb σ H1 Q else Q (.bl false) H1
noncomputable def xR (ta:TE):TE:=fun σ H Q=>ta σ H fun x H1=> ∃ c,x=.bl c/\Q (.bl (!c)) H1
theorem jd {op} {t:TE} (h:PE X a t):PE X (.BoolOp op [a] pos) t:=fun pins s σ H Q I hw=>BoolOp_one (h pins s σ H Q I hw)
theorem jf (ha:PE X a ta) (hb:PE X (.BoolOp .And (b::rest) pos) tb):PE X (.BoolOp .And (a::b::rest) pos) (xX ta tb):=by
 intro pins s σ H Q I h
 refine BoolOp_and (thn (ha pins s σ H _ I h) fun v s1 ⟨x,H1,I1,r1,q1⟩=>?_)
 obtain ⟨c,rfl,q1⟩:=q1
 cases r1
 refine wpAny_truthy_bool ?_
 cases c with
 | true=>exact hb pins s1 σ H1 Q I1 q1
 | false=>exact ⟨.bl false,H1,I1,rfl,q1⟩
theorem uh (ha:PE X a ta):PE X (.UnaryOp .Not a pos) (xR ta):=by
 intro pins s σ H Q I h
 refine UnaryOp_ (thn (ha pins s σ H _ I h) fun v s1 ⟨x,H1,I1,r1,q1⟩=>?_)
 obtain ⟨c,rfl,q1⟩:=q1
 cases r1
 exact not_of (wpAny_truthy_bool ⟨.bl (!c),H1,I1,rfl,q1⟩)
noncomputable def tIf (t:TT) (ta tb:TE):TE:=fun σ H Q=>t σ H fun c H1=>if c=true then ta σ H1 Q else tb σ H1 Q
theorem db {c:Expr} (hc:PT X c tA) (ha:PE X a ta) (hb:PE X b tb):PE X (.IfExp c a b pos) (tIf tA ta tb):=by
 intro pins s σ H Q I h
 refine wpAny_IfExp (thn (hc pins s σ H _ I h) fun d s1 ⟨H1,I1,q1⟩=>?_)
 cases d with
 | true=>exact ha pins s1 σ H1 Q I1 q1
 | false=>exact hb pins s1 σ H1 Q I1 q1
end
noncomputable def SqL (K:PySem.W.Frag) (H:Hp) (a:Addr) (xs:List V):Prop:=
 Rd H a (.lst xs)\/
  ∃ (o:Obj) (its:Array Value) (n:Nat),K.lookup a=some o/\o.cls=.type "list"/\o.dict=none/\o.data=.seq its n/\its.size<=sizeLine/\Vals xs its.toList
noncomputable def SqT (K:PySem.W.Frag) (H:Hp) (a:Addr) (xs:List V):Prop:=
 Rd H a (.tup xs)\/
  ∃ (o:Obj) (its:Array Value) (n:Nat),K.lookup a=some o/\o.cls=.type "tuple"/\o.data=.seq its n/\its.size<=sizeLine/\Vals xs its.toList
noncomputable def zg:Value->Option V
 | .none=>some .non
 | .bool b=>some (.bl b)
 | .int i _=>some (.int i)
 | .str x _=>some (.str x)
 | .bytes b _=>some (.byt b)
 | .float b _=>some (.flt b)
 | .ref a=>some (.ref a)
 | .type n=>some (.ty n)
 | _=>none
theorem RelV.abs {x:V} {u:Value} (r:RelV x u):zg u=some x:=by
 cases x with
 | non=>cases r;rfl
 | bl _=>cases r;rfl
 | int _=>obtain ⟨t,rfl⟩:=r;rfl
 | str _=>obtain ⟨t,rfl⟩:=r;rfl
 | byt _=>obtain ⟨t,rfl⟩:=r;rfl
 | flt _=>obtain ⟨t,rfl⟩:=r;rfl
 | ref _=>cases r;rfl
 | ty _=>cases r;rfl
theorem RelV.inj {x y:V} {u:Value} (r:RelV x u) (q:RelV y u):x=y:=Option.some.inj (r.abs.symm.trans q.abs)
theorem Vals.inj: ∀ {xs ys:List V} {us:List Value},Vals xs us->Vals ys us->xs=ys
 | _,_,_,.nil,.nil=>rfl
 | _,_,_,.cons r t,.cons r' t'=>by rw [r.inj r',Vals.inj t t']
section
variable {X:Cx} {pins:List (Addr×Obj)} {σ:St} {H:Hp} {s:Shared} {a:Addr} {xs ys:List V}
theorem SqL.of {K:PySem.W.Frag} (h:H a=some (.lst xs)):SqL K H a xs:=.inl (.inl h)
theorem SqT.of {K:PySem.W.Frag} (h:H a=some (.tup xs)):SqT K H a xs:=.inl (.inl h)
theorem Inv.list (I:Inv X pins σ H s) (h:SqL X.K H a xs): ∃ its:List Value,Vals xs its/\PlainL s.heap a its.toArray/\xs.length<=sizeLine:=by
 rcases h with h | ⟨o,its,n,hk,hc,hd,hs,hz,r⟩
 ·obtain ⟨z,its,n,r,e⟩:=h.ok I.hok
  exact ⟨its,r,⟨_,n,e,rfl,rfl,rfl⟩,z⟩
 ·refine ⟨its.toList,r,⟨o,n,I.kIn a o hk,hc,hd,by simpa using hs⟩,?_⟩
  have e:=r.length
  simp only [Array.length_toList]at e
  lia
theorem Inv.tuple (I:Inv X pins σ H s) (h:SqT X.K H a xs): ∃ its:List Value,Vals xs its/\IsTup s.heap a its.toArray/\xs.length<=sizeLine:=by
 rcases h with h | ⟨o,its,n,hk,hc,hs,hz,r⟩
 ·obtain ⟨z,its,r,p⟩:=h.ok I.hok
  exact ⟨its,r,p,z⟩
 ·refine ⟨its.toList,r,⟨o,I.kIn a o hk,hc,n,by simpa using hs⟩,?_⟩
  have e:=r.length
  simp only [Array.length_toList]at e
  lia
theorem Inv.list_inj (I:Inv X pins σ H s) (h:SqL X.K H a xs) (h':SqL X.K H a ys):xs=ys:=by
 obtain ⟨its,r,⟨o,n,e,_,_,d⟩,_⟩:=I.list h
 obtain ⟨its',r',⟨o',n',e',_,_,d'⟩,_⟩:=I.list h'
 rw [e]at e';cases e'
 rw [d]at d'
 injection d' with d1 _
 have:its=its':=by simpa using congrArg Array.toList d1
 subst this
 exact r.inj r'
theorem Inv.tuple_inj (I:Inv X pins σ H s) (h:SqT X.K H a xs) (h':SqT X.K H a ys):xs=ys:=by
 obtain ⟨its,r,⟨o,e,_,n,d⟩,_⟩:=I.tuple h
 obtain ⟨its',r',⟨o',e',_,n',d'⟩,_⟩:=I.tuple h'
 rw [e]at e';cases e'
 rw [d]at d'
 injection d' with d1 _
 have:its=its':=by simpa using congrArg Array.toList d1
 subst this
 exact r.inj r'
end
noncomputable abbrev Cx.wish (X:Cx) (E:Value->Shared->Prop):Cx:={X with xe:=E}
noncomputable abbrev Cx.nox (X:Cx):Cx:=X.wish fun _ _=>False
theorem Cx.Ok.wish {X:Cx} (ok:X.Ok) (E:Value->Shared->Prop):(X.wish E).Ok:=
 ⟨ok.mod,ok.kind,ok.glob,ok.blt,ok.above,ok.inj,ok.has,ok.cab,ok.hd,ok.frames,ok.stk,ok.exf,ok.bs,ok.bsz,ok.noex,ok.exfs,ok.funs,ok.frf⟩
theorem Cx.Ok.unwish {X:Cx} {E:Value->Shared->Prop} (ok:(X.wish E).Ok):X.Ok:=
 ⟨ok.mod,ok.kind,ok.glob,ok.blt,ok.above,ok.inj,ok.has,ok.cab,ok.hd,ok.frames,ok.stk,ok.exf,ok.bs,ok.bsz,ok.noex,ok.exfs,ok.funs,ok.frf⟩
section
variable {X:Cx} {pins:List (Addr×Obj)} {σ:St} {H:Hp} {s:Shared} {E:Value->Shared->Prop}
theorem Inv.wish (I:Inv X pins σ H s) (E:Value->Shared->Prop):Inv (X.wish E) pins σ H s:=⟨I.ok.wish E,I.os,I.bare,I.base,I.loc,I.cell,I.free,I.freeC,I.pin,I.hok,I.len⟩
theorem Inv.unwish (I:Inv (X.wish E) pins σ H s):Inv X pins σ H s:=⟨I.ok.unwish,I.os,I.bare,I.base,I.loc,I.cell,I.free,I.freeC,I.pin,I.hok,I.len⟩
theorem SP.unwish {D:eh} {f:Flow} {s':Shared} (h:SP (X.wish E) pins D f s'):SP X pins D f s':=by
 cases f with
 | next=>obtain ⟨σ',H',I,q⟩:=h;exact ⟨σ',H',I.unwish,q⟩
 | brk=>obtain ⟨σ',H',I,q⟩:=h;exact ⟨σ',H',I.unwish,q⟩
 | cont=>obtain ⟨σ',H',I,q⟩:=h;exact ⟨σ',H',I.unwish,q⟩
 | ret u=>obtain ⟨v,σ',H',I,r,q⟩:=h;exact ⟨v,σ',H',I.unwish,r,q⟩
theorem PSs.nox {st:List Stmt} {t:TS} (h:PSs X.nox st t):PSs X st t:=fun pins s σ H D I hw=>
 wpAny_mono (h pins s σ H D (I.wish _) hw) (fun _ _ q=>q.unwish) fun _ _ z=>False.elim z
end
section
variable {X:Cx} {st:Stmt} {rest:List Stmt} {t u:TS} {e:Expr} {te:TE} {pos:Pos}
noncomputable def xS:TS:=fun D σ H=>D.nx σ H
noncomputable def xP (t u:TS):TS:=fun D σ H=>t {D with nx:=u D} σ H
theorem aM:PSs X [] xS:=fun _ _ σ H _ I h=>wpAny_execs_nil ⟨σ,H,I,h⟩
theorem ad (h1:PS X st t) (h2:PSs X rest u):PSs X (st::rest) (xP t u):=by
 intro pins s σ H D I h
 refine wpAny_execs_cons (thn (h1 pins s σ H {D with nx:=u D} I h) fun f s1 q=>?_)
 cases f with
 | next=>
  obtain ⟨σ',H',I',q⟩:=q
  exact h2 pins s1 σ' H' D I' q
 | ret v=>exact q
 | brk=>exact q
 | cont=>exact q
theorem aj (h1:PS X st t):PSs X [st] t:=by
 intro pins s σ H D I h
 refine wpAny_execs_cons (thn (h1 pins s σ H D I h) fun f s1 q=>?_)
 cases f with
 | next=>exact wpAny_execs_nil q
 | ret v=>exact q
 | brk=>exact q
 | cont=>exact q
theorem Inv.quiet {pins:List (Addr×Obj)} {σ:St} {H:Hp} {s:Shared} (I:Inv X pins σ H s):interactive X.env=false:=by simp [interactive,I.ok.kind]
noncomputable def xU (te:TE):TS:=fun D σ H=>te σ H fun _ H1=>D.nx σ H1
theorem cG (he:PE X e te) (hs:swapsWith e none pos.line X.env=pure false:=by rfl):PS X (.Expr e pos) (xU te):=by
 intro pins s σ H D I h
 exact wpAny_Expr_any (thn (he pins s σ H _ I h) fun v s1 ⟨x,H1,I1,r1,q1⟩=>⟨σ,H1,I1,q1⟩) I.quiet hs
noncomputable def yJ (te:TE):TS:=fun D σ H=>te σ H D.rt
theorem ay (he:PE X e te):PS X (.Return (some e) pos) (yJ te):=by
 intro pins s σ H D I h
 exact wpAny_Return_some (thn (he pins s σ H _ I h) fun v s1 ⟨x,H1,I1,r1,q1⟩=>⟨x,σ,H1,I1,r1,q1⟩)
noncomputable def yM (c:TT) (t u:TS):TS:=fun D σ H=>c σ H fun b H1=>if b=true then t D σ H1 else u D σ H1
theorem aY {c:Expr} {a b:List Stmt} {tc:TT} (hc:PT X c tc) (ha:PSs X a t) (hb:PSs X b u):PS X (.If c a b pos) (yM tc t u):=by
 intro pins s σ H D I h
 refine wpAny_If (thn (hc pins s σ H _ I h) fun d s1 ⟨H1,I1,q1⟩=>?_)
 cases d with
 | true=>exact ha pins s1 σ H1 D I1 q1
 | false=>exact hb pins s1 σ H1 D I1 q1
noncomputable def wO:TS:=fun _ _ _=>False
theorem hO {sts:List Stmt}:PSs X sts wO:=fun _ _ _ _ _ _ h=>h.elim
end
noncomputable abbrev TG:=V->St->Hp->(St->Hp->Prop)->Prop
noncomputable abbrev TGs:=List V->St->Hp->(St->Hp->Prop)->Prop
noncomputable def PG (X:Cx) (target:Expr) (t:TG):Prop:=
 ∀ (pins:List (Addr×Obj)) (s:Shared) (σ:St) (H:Hp) (v:V) (u:Value) (Q:St->Hp->Prop),Inv X pins σ H s->RelV v u->t v σ H Q->
  wpAny (model X.prog X.w) X.A (assign target X.env u) (fun _ s'=> ∃ σ' H',Inv X pins σ' H' s'/\Q σ' H') X.xe s
noncomputable def PGs (X:Cx) (ts:List Expr) (t:TGs):Prop:=
 ∀ (pins:List (Addr×Obj)) (s:Shared) (σ:St) (H:Hp) (vs:List V) (us:List Value) (Q:St->Hp->Prop),Inv X pins σ H s->Vals vs us->t vs σ H Q->
  wpAny (model X.prog X.w) X.A (assignInOrder ((assignEach ts X.env).map (·.2)) us) (fun _ s'=> ∃ σ' H',Inv X pins σ' H' s'/\Q σ' H') X.xe s
noncomputable abbrev xH:=V->V->V->Hp->(Hp->Prop)->Prop
noncomputable def yB (X:Cx) (t:xH):Prop:=
 ∀ (pins:List (Addr×Obj)) (s:Shared) (σ:St) (H:Hp) (o i v:V) (ov iv u:Value) (Q:Hp->Prop),Inv X pins σ H s->RelV o ov->RelV i iv->RelV v u->t o i v H Q->
  wpAny (model X.prog X.w) X.A (setItem ov iv u) (fun _ s'=> ∃ H',Inv X pins σ H' s'/\Q H') X.xe s
section
variable {X:Cx} {pos:Pos}
noncomputable def dC (i:Nat):TG:=fun v σ H Q=>Q (σ.set i (some v)) H
theorem aw {i:Nat} {x:Str} (hN:X.N.Nodup) (hi:X.N[i]? =some x) (hx:Loc X.env.scope x) (hf:X.fn x=true\/X.env.scope.names.lookup x=some .local:=by first | exact .inl rfl | exact .inr rfl | assumption):PG X (.Name x pos) (dC i):=by
 intro pins s σ H v u Q I r h
 exact wpAny_assign_Name (mr I hN hi hx r (fun s' I'=>⟨_,H,I',h⟩) hf)
noncomputable def xA:TGs:=fun vs σ H Q=>vs=[]/\Q σ H
noncomputable def kh (t:TG) (u:TGs):TGs:=fun vs σ H Q=> ∃ v r,vs=v::r/\t v σ H fun σ' H'=>u r σ' H' Q
theorem cn:PGs X [] xA:=by
 intro pins s σ H vs us Q I r h
 obtain ⟨e,h⟩:=h
 subst e
 cases r
 exact assignInOrder_nil ⟨σ,H,I,h⟩
theorem aE {e:Expr} {es:List Expr} {t:TG} {u:TGs} (h1:PG X e t) (h2:PGs X es u)
  (hs:(assignEach (e::es) X.env).map (·.2)=assign e X.env::(assignEach es X.env).map (·.2):=by rfl):PGs X (e::es) (kh t u):=by
 intro pins s σ H vs us Q I r h
 obtain ⟨v,vr,e1,h⟩:=h
 subst e1
 cases r with
 | cons r rr=>
  rw [hs]
  refine assignInOrder_cons (thn (h1 pins s σ H _ _ _ I r h) fun _ s1 ⟨σ1,H1,I1,q1⟩=>?_)
  exact h2 pins s1 σ1 H1 _ _ Q I1 rr q1
noncomputable def xz (K:PySem.W.Frag) (n:Nat) (t:TGs):TG:=fun v σ H Q=> ∃ a xs,v=.ref a/\SqT K H a xs/\xs.length=n/\t xs σ H Q
theorem cQ {es:List Expr} {k:Nat} {t:TGs} {n:Nat} (hc:X.calm=true) (h:PGs X es t)
  (hn:(assignEach es X.env).length=n:=by rfl) (hst:(assignEach es X.env).findIdx? (·.1)=none:=by rfl):PG X (.Tuple es k pos) (xz X.K n t):=by
 intro pins s σ H v u Q I r hw
 obtain ⟨a,xs,e1,hq,hl,hw⟩:=hw
 subst e1
 cases r
 obtain ⟨its,rv,ht,hz⟩:=I.tuple hq
 refine assign_Tuple_tuple (I.ok.hd hc) ht (by simp [hn,<- hl,rv.length]) hst fun h' hx=>?_
 have I1:Inv X pins σ H {s with heap:=h'}:=I.kept (t':=s.toks) fun b o e=>hx b o (Nat.ne_of_lt (Heap.lt_size e)) e
 exact h pins _ σ H xs _ Q I1 (by simpa using rv) hw
noncomputable def za (to ti:TE) (t:xH):TG:=fun v σ H Q=>to σ H fun o H1=>ti σ H1 fun i H2=>t o i v H2 fun H3=>Q σ H3
theorem uf {o i:Expr} {to ti:TE} {t:xH} (ho:PE X o to) (hi:PE X i ti) (hs:yB X t)
  (ha: ∀ v,assign (.Subscript o i pos) X.env v=(do
   let ov <- holding [v] (eval o X.env)
   let iv <- holding [v,ov] (eval i X.env)
   standAt pos
   holding [v,ov,iv] (setItem ov iv v)
   release [v,ov,iv] []):=by intro _;rfl):PG X (.Subscript o i pos) (za to ti t):=by
 intro pins s σ H v u Q I r h
 rw [ha]
 refine wpAny_bind (wpAny_holding (thn (ho pins s σ H _ I h) fun ov s1 ⟨x,H1,I1,r1,q1⟩=>?_))
 refine wpAny_bind (wpAny_holding (thn (hi pins s1 σ H1 _ I1 q1) fun iv s2 ⟨y,H2,I2,r2,q2⟩=>?_))
 refine wpAny_bind (wpAny_standAt (wpAny_bind (wpAny_holding (thn (hs pins s2 σ H2 x y v ov iv u _ I2 r1 r2 r q2) fun _ s3 ⟨H3,I3,q3⟩=>?_))))
 exact wpAny_release ⟨σ,H3,I3,q3⟩
noncomputable def mj (te:TE) (g:TG):TS:=fun D σ H=>te σ H fun x H1=>g x σ H1 D.nx
theorem fI {tg e:Expr} {te:TE} {g:TG} (he:PE X e te) (hg:PG X tg g) (hs:swapsWithSole [tg] e pos.line X.env=pure false:=by rfl) (hw:swappedStores [tg] e X.env=pure none:=by rfl)
  (h1:(assignEach [tg] X.env).map (·.2)=[assign tg X.env]:=by rfl):PS X (.Assign [tg] e pos) (mj te g):=by
 intro pins s σ H D I h
 refine wpAny_Assign_stores (thn (he pins s σ H _ I h) fun v s1 ⟨x,H1,I1,r1,q1⟩=>?_) hs hw
 rw [h1]
 exact thn (hg pins s1 σ H1 x v _ I1 r1 q1) fun _ s2 q=>q
theorem am {i:Nat} {x:Str} {e:Expr} {te:TE} {pos':Pos} (hN:X.N.Nodup) (hi:X.N[i]? =some x) (hx:Loc X.env.scope x) (he:PE X e te) (hs:swapsWith e (some (.Name x pos')) pos.line X.env=pure false:=by rfl) (hf:X.fn x=true\/X.env.scope.names.lookup x=some .local:=by first | exact .inl rfl | exact .inr rfl | assumption):
  PS X (.Assign [.Name x pos'] e pos) (mj te (dC i)):=by
 intro pins s σ H D I h
 refine wpAny_Assign_Name (thn (he pins s σ H _ I h) fun v s1 ⟨y,H1,I1,r1,q1⟩=>?_) hs
 exact mr I1 hN hi hx r1 (fun s2 I2=>⟨_,H1,I2,q1⟩) hf
end
section
variable {X:Cx} {pos:Pos}
noncomputable def sW (c:TT) (tb:TS):TS:=fun D σ H=> ∃ W:Nat->St->Hp->Prop,(∃ m,W m σ H)/\ ∀ m σ H,W m σ H->
 c σ H fun b H1=>if b=true then ∃ N:St->Hp->Prop,(∀ σ' H',N σ' H'-> ∃ m',m'<m/\W m' σ' H')/\tb {D with nx:=N,ct:=N,bk:=D.nx} σ H1 else D.nx σ H1
theorem nr {c:Expr} {body:List Stmt} {tc:TT} {tb:TS} (hp:PassesOwn (model X.prog X.w) X.A X.env X.xe) (hc:PT X c tc) (hb:PSs X body tb):PS X (.While c body [] pos) (sW tc tb):=by
 intro pins s σ H D I h
 obtain ⟨W,⟨m0,w0⟩,turn⟩:=h
 refine wpAny_While (codeAny_whileLoop (fun n s'=> ∃ σ' H',Inv X pins σ' H' s'/\W n σ' H') ?_ m0 ⟨σ,H,I,w0⟩)
 rintro n s1 ⟨σ1,H1,I1,w1⟩
 refine wpAny_passesOwn hp (thn (hc pins s1 σ1 H1 _ I1 (turn n σ1 H1 w1)) fun b s2 ⟨H2,I2,q2⟩=>?_)
 cases b with
 | true=>
  obtain ⟨N,hN,q2⟩:=q2
  rw [if_pos rfl]
  refine wpAny_passesOwn hp (thn (hb pins s2 σ1 H2 _ I2 q2) fun f s3 q3=>?_)
  cases f with
  | next=>
   obtain ⟨σ3,H3,I3,n3⟩:=q3
   obtain ⟨m',hm,w3⟩:=hN σ3 H3 n3
   exact ⟨m',hm,σ3,H3,I3,w3⟩
  | cont=>
   obtain ⟨σ3,H3,I3,n3⟩:=q3
   obtain ⟨m',hm,w3⟩:=hN σ3 H3 n3
   exact ⟨m',hm,σ3,H3,I3,w3⟩
  | brk=>exact q3
  | ret v=>exact q3
 | false=>
  rw [if_neg Bool.false_ne_true]
  exact wpAny_execs_nil ⟨σ1,H2,I2,q2⟩
end
structure It where
 go:Nat->Hp->Prop
 yld:Nat->Hp->V->Hp->Prop
 stop:Nat->Hp->Prop
noncomputable def iA (X:Cx) (pins:List (Addr×Obj)) (H:Hp) (b:Addr):Prop:=
 H b=none/\b≠X.env.locals/\b∉X.fs/\(b∈X.ex\/X.s₀.heap.objs.size<=b)/\(∀ x c,X.env.cells.lookup x=some c->c≠b)/\ ∀ p∈X.pn++pins,p.1≠b
theorem Inv.fpOk {X:Cx} {pins:List (Addr×Obj)} {σ:St} {H H':Hp} {s:Shared} {b:Addr} (I:Inv X pins σ H s) (hb:s.heap.objs.size<=b) (hn:H' b=none):iA X pins H' b:=by
 refine ⟨hn,Nat.ne_of_gt (Nat.lt_of_lt_of_le I.lt hb),I.nofs hb,.inr (Nat.le_trans I.sz hb),fun x c e z=>?_,fun p hp z=>?_⟩
 ·obtain ⟨v,q⟩:=I.cell x c e
  exact absurd (Nat.lt_of_lt_of_le q.lt (by rw [z];exact hb)) (Nat.lt_irrefl _)
 ·exact absurd (Nat.lt_of_lt_of_le (Heap.lt_size (I.pin p hp).1) (by rw [z];exact hb)) (Nat.lt_irrefl _)
structure ot (P:Program) (w:World) (K:PySem.W.Frag) (tg:Expr) (J:It) (fp:List Addr) (it:Addr) (tn:Nat->Heap->Prop):Prop where
 mem:it∈fp
 obj: ∀ i h,tn i h-> ∀ b∈fp,∃ o,h.get? b=some o/\ ∀ v,o.data≠ .cell v
 keep: ∀ i h h',tn i h->(∀ b∈fp,∀ o,h.get? b=some o->h'.get? b=some o)->tn i h'
 item: ∀ (X:Cx),X.prog=P->X.w=w->X.K=K->X.calm=true-> ∀ (i:Nat) (pins:List (Addr×Obj)) (s:Shared) (σ:St) (H:Hp) (E:Value->Shared->Prop),Inv X pins σ H s->(∀ b∈fp,iA X pins H b)->tn i s.heap->J.go i H->
  wpAny (model P w) X.A (pyNext (.ref it)) (fun r s1=> ∃ u,r=some u/\
   wpAny (model P w) X.A (letOwnedTupleGo tg (.ref it) u) (fun _ s2=> ∃ x H',Inv X pins σ H' s2/\RelV x u/\J.yld i H x H'/\tn (i+1) s2.heap/\ ∀ b∈fp,H' b=none) E s1) E s
 done: ∀ (X:Cx),X.prog=P->X.w=w->X.K=K->X.calm=true-> ∀ (i:Nat) (pins:List (Addr×Obj)) (s:Shared) (σ:St) (H:Hp) (E:Value->Shared->Prop),Inv X pins σ H s->(∀ b∈fp,iA X pins H b)->tn i s.heap->J.stop i H->
  wpAny (model P w) X.A (pyNext (.ref it)) (fun r s1=>r=none/\Inv X pins σ H s1) E s
 self: ∀ (A:Around) (i:Nat) (s:Shared) (Q:Value->Shared->Prop) (E:Value->Shared->Prop),tn i s.heap->Q (.ref it) s->wpAny (model P w) A (pyIter (.ref it)) Q E s
noncomputable abbrev TI:=St->Hp->(It->Hp->Prop)->Prop
noncomputable def PIE (X:Cx) (pins:List (Addr×Obj)) (σ:St) (tg:Expr) (R:It->Hp->Prop) (itv:Value) (s2:Shared):Prop:=
 ∃ (it:Addr) (fp:List Addr) (tn:Nat->Heap->Prop) (J:It) (H':Hp),itv=.ref it/\Inv X pins σ H' s2/\ot X.prog X.w X.K tg J fp it tn/\tn 0 s2.heap/\(∀ b∈fp,iA X pins H' b)/\R J H'
noncomputable def PI (X:Cx) (tg iter:Expr) (wi:TI):Prop:=
 ∀ (pins:List (Addr×Obj)) (s:Shared) (σ:St) (H:Hp) (R:It->Hp->Prop),Inv X pins σ H s->wi σ H R->
  wpAny (model X.prog X.w) X.A (eval iter X.env) (fun v s1=>wpAny (model X.prog X.w) X.A (pyIter v) (PIE X pins σ tg R) X.xe s1) X.xe s
theorem nX {M:Model} {A:Around} {E:Value->Shared->Prop} {s:Shared} {tg:Expr} {it:Addr} {u:Value} {o:Obj} {n:String} {vs:Array Value} {Q:Unit->Shared->Prop} (ho:s.heap.get? it=some o) (hc:o.cls=.type n) (hd:o.data=.fields vs)
  (hn:["enumerate","zip","dict_itemiterator","dict_reverseitemiterator","odict_iterator","itertools.zip_longest","itertools.pairwise"].contains n=false) (hQ:Q () s):wpAny M A (letOwnedTupleGo tg (.ref it) u) Q E s:=by
 unfold letOwnedTupleGo
 cases tg <;> first
  | exact wpAny_pure hQ
  | (cases u <;> first
    | exact wpAny_pure hQ
    | (refine wpAny_bind (wpAny_load ho ?_)
       rw [hc,hd]
       show wpAny M A (if (["enumerate","zip","dict_itemiterator","dict_reverseitemiterator","odict_iterator","itertools.zip_longest","itertools.pairwise"].contains n&&vs[0]? ==some (rawInt _))=true then _ else _) Q E s
       rw [if_neg (by intro h;rw [hn,Bool.false_and]at h;cases h)]
       exact wpAny_pure hQ))
noncomputable def Itl (K:PySem.W.Frag) (a:Addr):It:=
 ⟨fun i H=> ∃ xs x,SqL K H a xs/\xs[i]? =some x,fun i H x H'=>H'=H/\ ∀ xs,SqL K H a xs->xs[i]? =some x,fun i H=> ∃ xs,SqL K H a xs/\xs.length<=i⟩
noncomputable def Itt (K:PySem.W.Frag) (a:Addr):It:=
 ⟨fun i H=> ∃ xs x,SqT K H a xs/\xs[i]? =some x,fun i H x H'=>H'=H/\ ∀ xs,SqT K H a xs->xs[i]? =some x,fun i H=> ∃ xs,SqT K H a xs/\xs.length<=i⟩
noncomputable def Itr (lo:Int) (n:Nat):It:=⟨fun i _=>i<n,fun i H x H'=>H'=H/\x=.int (lo+i),fun i _=>n<=i⟩
theorem qU {P:Program} {w:World} {K:PySem.W.Frag} {tg:Expr} (a it:Addr):ot P w K tg (Itl K a) [it] it (fun i h=>h.IsListIter it a i) where
 mem:=by simp
 obj:=fun i h st b hb=>by
  have e:b=it:=by simpa using hb
  subst e
  obtain ⟨o,e,c,d⟩:=st
  exact ⟨o,e,fun v z=>by rw [d]at z;cases z⟩
 keep:=fun i h h' st k=>st.at fun o e=>k it (by simp) o e
 item:=by
  intro X hP hw hK hc i pins s σ H E I hf st hg
  subst hP hw hK
  obtain ⟨xs,x,hq,hx⟩:=hg
  obtain ⟨its,rv,p,hz⟩:=I.list hq
  obtain ⟨u,hu,ru⟩:=rv.get hx
  obtain ⟨f0,f1,f2,f3,f4,f5⟩:=hf it (by simp)
  refine wpAny_pyNext_list_item st p.isList (x:=u) (by simpa using hu) fun h' st' sb=>?_
  have I1:Inv X pins σ H {s with heap:=h'}:=I.turned (t':=s.toks) (fun b o hb e=>(sb.2 b hb).trans e) f0 f1 f3 f4 f5
  obtain ⟨o,e,c,d⟩:=id st'
  exact ⟨u,rfl,nX (s:={s with heap:=h'}) e c d (by decide) ⟨x,H,I1,ru,⟨rfl,fun ys hy=>by rw [I.list_inj hy hq];exact hx⟩,st',fun b hb=>(hf b hb).1⟩⟩
 done:=by
  intro X hP hw hK hc i pins s σ H E I hf st hg
  subst hP hw hK
  obtain ⟨xs,hq,hx⟩:=hg
  obtain ⟨its,rv,p,hz⟩:=I.list hq
  obtain ⟨f0,f1,f2,f3,f4,f5⟩:=hf it (by simp)
  have hl:=rv.length
  exact wpAny_pyNext_list_end (I.ok.hd hc) st p.isList (by simp;lia) fun h' eb=>⟨rfl,I.turned (t':=s.toks) (fun b o hb e=>eb b o hb e) f0 f1 f3 f4 f5⟩
 self:=fun _ _ _ _ _ st h=>wpAny_pyIter_listiter st h
theorem oA {P:Program} {w:World} {K:PySem.W.Frag} {tg:Expr} (a it:Addr):ot P w K tg (Itt K a) [it] it (fun i h=>h.IsTupleIter it a i) where
 mem:=by simp
 obj:=fun i h st b hb=>by
  have e:b=it:=by simpa using hb
  subst e
  obtain ⟨o,e,c,d⟩:=st
  exact ⟨o,e,fun v z=>by rw [d]at z;cases z⟩
 keep:=fun i h h' st k=>st.at fun o e=>k it (by simp) o e
 item:=by
  intro X hP hw hK hc i pins s σ H E I hf st hg
  subst hP hw hK
  obtain ⟨xs,x,hq,hx⟩:=hg
  obtain ⟨its,rv,p,hz⟩:=I.tuple hq
  obtain ⟨u,hu,ru⟩:=rv.get hx
  obtain ⟨f0,f1,f2,f3,f4,f5⟩:=hf it (by simp)
  refine wpAny_pyNext_tuple_item st (show s.heap.IsTuple a its.toArray from p) (x:=u) (by simpa using hu) fun h' st' sb=>?_
  have I1:Inv X pins σ H {s with heap:=h'}:=I.turned (t':=s.toks) (fun b o hb e=>(sb.2 b hb).trans e) f0 f1 f3 f4 f5
  obtain ⟨o,e,c,d⟩:=id st'
  exact ⟨u,rfl,nX (s:={s with heap:=h'}) e c d (by decide) ⟨x,H,I1,ru,⟨rfl,fun ys hy=>by rw [I.tuple_inj hy hq];exact hx⟩,st',fun b hb=>(hf b hb).1⟩⟩
 done:=by
  intro X hP hw hK hc i pins s σ H E I hf st hg
  subst hP hw hK
  obtain ⟨xs,hq,hx⟩:=hg
  obtain ⟨its,rv,p,hz⟩:=I.tuple hq
  obtain ⟨f0,f1,f2,f3,f4,f5⟩:=hf it (by simp)
  have hl:=rv.length
  exact wpAny_pyNext_tuple_end (I.ok.hd hc) st (show s.heap.IsTuple a its.toArray from p) (by simp;lia) fun h' eb=>⟨rfl,I.turned (t':=s.toks) (fun b o hb e=>eb b o hb e) f0 f1 f3 f4 f5⟩
 self:=fun _ _ _ _ _ st h=>wpAny_pyIter_tupleiter st h
theorem oB {P:Program} {w:World} {K:PySem.W.Frag} {tg:Expr} (it:Addr) (lo:Int) (n:Nat):ot P w K tg (Itr lo n) [it] it (fun i h=>IsRangeIter h it (lo+ (i:Nat) *1) ((n:Int) - (i:Nat)) 1) where
 mem:=by simp
 obj:=fun i h st b hb=>by
  have e:b=it:=by simpa using hb
  subst e
  exact ⟨_,st,fun v z=>by
   have z':Data.fields _=Data.cell v:=z
   cases z'⟩
 keep:=fun i h h' st k=>k it (by simp) _ st
 item:=by
  intro X hP hw hK hc i pins s σ H E I hf st hg
  subst hP hw hK
  obtain ⟨f0,f1,f2,f3,f4,f5⟩:=hf it (by simp)
  have W:=Walks.range (prog:=X.prog) (w:=X.w) (I.ok.hd hc) it lo 1 n
  refine W.item i s _ _ hg st fun v h' tk hv st' kk=>?_
  obtain ⟨t,rfl⟩:=hv
  have I1:Inv X pins σ H {s with heap:=h',toks:=tk}:=I.turned (fun b o hb e=>kk b o (by simpa using hb) e) f0 f1 f3 f4 f5
  refine ⟨_,rfl,nX (s:={s with heap:=h',toks:=tk}) (n:="range_iterator") st' rfl rfl (by decide) ⟨.int (lo+i),H,I1,⟨t,?_⟩,⟨rfl,rfl⟩,st',fun b hb=>(hf b hb).1⟩⟩
  rw [Int.mul_one]
 done:=by
  intro X hP hw hK hc i pins s σ H E I hf st hg
  subst hP hw hK
  obtain ⟨f0,f1,f2,f3,f4,f5⟩:=hf it (by simp)
  exact wpAny_pyNext_range_end (I.ok.hd hc) st (by have:n<=i:=hg;lia) fun h' eb=>⟨rfl,I.turned (t':=s.toks) (fun b o hb e=>eb b o hb e) f0 f1 f3 f4 f5⟩
 self:=fun _ _ _ _ _ st h=>wpAny_pyIter_rangeiter st h
section
variable {X:Cx} {tg:Expr}
noncomputable def yl (K:PySem.W.Frag) (tl:TE):TI:=fun σ H R=>tl σ H fun x H1=> ∃ a,x=.ref a/\(∃ xs,SqL K H1 a xs)/\R (Itl K a) H1
noncomputable def y1 (K:PySem.W.Frag) (tl:TE):TI:=fun σ H R=>tl σ H fun x H1=> ∃ a,x=.ref a/\(∃ xs,SqT K H1 a xs)/\R (Itt K a) H1
theorem gr {l:Expr} {tl:TE} (hl:PE X l tl):PI X tg l (yl X.K tl):=by
 intro pins s σ H R I h
 refine thn (hl pins s σ H _ I h) fun v s1 ⟨x,H1,I1,r1,q1⟩=>?_
 obtain ⟨a,e,⟨xs,hq⟩,q⟩:=q1
 subst e
 cases r1
 obtain ⟨its,rv,p,hz⟩:=I1.list hq
 refine wpAny_pyIter_list p.isList ?_
 refine ⟨s1.heap.objs.size,[s1.heap.objs.size],_,_,H1,rfl,I1.kept (t':=s1.toks) fun b o e=>Heap.get?_push_of_some _ e,qU a _,⟨_,Heap.get?_push_size _ rfl,rfl,rfl⟩,fun b hb=>?_,q⟩
 have e:b=s1.heap.objs.size:=by simpa using hb
 subst e
 exact I1.fpOk (Nat.le_refl _) (I1.hok.fresh (Nat.le_refl _))
theorem a8 {l:Expr} {tl:TE} (hl:PE X l tl):PI X tg l (y1 X.K tl):=by
 intro pins s σ H R I h
 refine thn (hl pins s σ H _ I h) fun v s1 ⟨x,H1,I1,r1,q1⟩=>?_
 obtain ⟨a,e,⟨xs,hq⟩,q⟩:=q1
 subst e
 cases r1
 obtain ⟨its,rv,p,hz⟩:=I1.tuple hq
 refine wpAny_pyIter_tuple (show s1.heap.IsTuple a its.toArray from p) ?_
 refine ⟨s1.heap.objs.size,[s1.heap.objs.size],_,_,H1,rfl,I1.kept (t':=s1.toks) fun b o e=>Heap.get?_push_of_some _ e,oA a _,⟨_,Heap.get?_push_size _ rfl,rfl,rfl⟩,fun b hb=>?_,q⟩
 have e:b=s1.heap.objs.size:=by simpa using hb
 subst e
 exact I1.fpOk (Nat.le_refl _) (I1.hok.fresh (Nat.le_refl _))
theorem nk {pins:List (Addr×Obj)} {σ:St} {H:Hp} {s:Shared} {R:It->Hp->Prop} {E:Value->Shared->Prop} {lo hi:Int} {t u v:Tok} {tk:Nat} (I:Inv X pins σ H s) (h1: -(2^62)<=lo) (h2:lo<2^62) (h3: -(2^62)<=hi) (h4:hi<2^62)
  (q:R (Itr lo (hi-lo).toNat) H):wpAny (model X.prog X.w) X.A (pyIter (.ref s.heap.objs.size)) (PIE X pins σ tg R) E {s with heap:=s.heap.push {cls:=.type "range",data:=.fields #[.int lo t,.int hi u,.int 1 v]},toks:=tk}:=by
 refine wpAny_pyIter_range (IsRange.new ..) (small_one h1 h2 h3 h4) ?_
 have I1:Inv X pins σ H {s with heap:=s.heap.push {cls:=.type "range",data:=.fields #[.int lo t,.int hi u,.int 1 v]},toks:=tk}:=I.kept fun b o e=>Heap.get?_push_of_some _ e
 refine ⟨(s.heap.push {cls:=.type "range",data:=.fields #[.int lo t,.int hi u,.int 1 v]}).objs.size,[(s.heap.push {cls:=.type "range",data:=.fields #[.int lo t,.int hi u,.int 1 v]}).objs.size],_,_,H,rfl,
  I1.kept (t':=tk) fun b o e=>Heap.get?_push_of_some _ e,oB _ lo (hi-lo).toNat,?_,fun b hb=>?_,q⟩
 ·have e1:lo+ ((0:Nat):Int) *1=lo:=by simp
  have e2:(((hi-lo).toNat:Nat):Int) - ((0:Nat):Int)=Builtin.Range.rangeSize lo hi 1:=by rw [rangeSize_one];split <;> lia
  show IsRangeIter _ _ (lo+ ((0:Nat):Int) *1) ((((hi-lo).toNat:Nat):Int) - ((0:Nat):Int)) 1
  rw [e1,e2]
  exact Heap.get?_push_size _ rfl
 ·have e:b=(s.heap.push {cls:=.type "range",data:=.fields #[.int lo t,.int hi u,.int 1 v]}).objs.size:=by simpa using hb
  subst e
  exact I1.fpOk (Nat.le_refl _) (I1.hok.fresh (Nat.le_refl _))
noncomputable def yk (ta:TA):TI:=fun σ H R=>ta σ H fun vs H1=> ∃ j:Int,vs=[.int j]/\ -(2^62)<=j/\j<2^62/\R (Itr 0 j.toNat) H1
noncomputable def yj (ta:TA):TI:=fun σ H R=>ta σ H fun vs H1=> ∃ i j:Int,vs=[.int i,.int j]/\(-(2^62)<=i/\i<2^62/\ -(2^62)<=j/\j<2^62)/\R (Itr i (j-i).toNat) H1
theorem bn {a:Expr} {ta:TA} {p pos:Pos} (hg:Gl X "range") (hm:X.mg "range"=none) (ha:PA X [a] ta) (hs:starEach [a] X.env=[(false,eval a X.env)]:=by rfl):PI X tg (.Call (.Name "range" p) [a] [] pos) (yk ta):=by
 intro pins s σ H R I h
 refine Call_ (eM I hg hm boot_range (PyProof.Rows.callWith_type1 (thn (ha pos pins s σ H _ I h) fun us s1 ⟨vs,H1,I1,r1,q1⟩=>?_) hs rfl))
 obtain ⟨j,e,q1,q2,q⟩:=q1
 subst e
 cases r1 with
 | cons r rr=>
  cases rr
  obtain ⟨t,rfl⟩:=r
  exact call_range_1 (nk I1 (by lia) (by lia) q1 q2 (by simpa using q))
theorem rj {a b:Expr} {ta:TA} {p pos:Pos} (hg:Gl X "range") (hm:X.mg "range"=none) (ha:PA X [a,b] ta) (hs:starEach [a,b] X.env=[(false,eval a X.env),(false,eval b X.env)]:=by rfl) (hs2:starEach [b] X.env=[(false,eval b X.env)]:=by rfl):
  PI X tg (.Call (.Name "range" p) [a,b] [] pos) (yj ta):=by
 intro pins s σ H R I h
 refine Call_ (eM I hg hm boot_range (PyProof.Rows.callWith_type1 (thn (ha pos pins s σ H _ I h) fun us s1 ⟨vs,H1,I1,r1,q1⟩=>?_) (by rw [hs,hs2]) (by rw [hs2];rfl)))
 obtain ⟨i,j,e,⟨q1,q2,q3,q4⟩,q⟩:=q1
 subst e
 cases r1 with
 | cons r rr=>
  cases rr with
  | cons r' rr=>
   cases rr
   obtain ⟨t,rfl⟩:=r
   obtain ⟨t',rfl⟩:=r'
   exact call_range_2 (nk I1 q1 q2 q3 q4 q)
noncomputable def yN (wi:TI) (g:TG) (tb:TS):TS:=fun D σ H=>wi σ H fun J H1=> ∃ W:Nat->Nat->St->Hp->Prop,(∃ m,W 0 m σ H1)/\ ∀ i m σ H,W i m σ H->
 (J.stop i H/\D.nx σ H)\/(J.go i H/\ ∃ N:St->Hp->Prop,(∀ σ' H',N σ' H'-> ∃ m',m'<m/\W (i+1) m' σ' H')/\ ∀ x H',J.yld i H x H'->g x σ H' fun σ2 H2=>tb {D with nx:=N,ct:=N,bk:=D.nx} σ2 H2)
noncomputable def lK (fp:List Addr) (h:Heap):List (Addr×Obj):=fp.filterMap fun b=>(h.get? b).map fun o=>(b,o)
theorem br {fp:List Addr} {h:Heap} {b:Addr} {o:Obj} (hb:b∈fp) (e:h.get? b=some o):(b,o)∈lK fp h:=List.mem_filterMap.mpr ⟨b,hb,by rw [e];rfl⟩
theorem rP {fp:List Addr} {h:Heap} {p:Addr×Obj} (hp:p∈lK fp h):p.1∈fp/\h.get? p.1=some p.2:=by
 obtain ⟨b,hb,e⟩:=List.mem_filterMap.mp hp
 cases q:h.get? b with
 | none=>rw [q]at e;cases e
 | some o=>
  rw [q]at e
  have e':(b,o)=p:=Option.some.inj e
  subst e'
  exact ⟨hb,q⟩
theorem Inv.pinned {pins:List (Addr×Obj)} {σ:St} {H:Hp} {s:Shared} {fp:List Addr} (I:Inv X pins σ H s) (hf: ∀ b∈fp,iA X pins H b) (ho: ∀ b∈fp,∃ o,s.heap.get? b=some o/\ ∀ v,o.data≠ .cell v):Inv X (pins++lK fp s.heap) σ H s:=
 I.pins_of fun p hp=>(List.mem_append.mp hp).elim (fun z=>I.pin p (List.mem_append_right _ z)) fun z=>by
  obtain ⟨hb,e⟩:=rP z
  obtain ⟨f0,f1,f2,_⟩:=hf p.1 hb
  obtain ⟨o,e',d⟩:=ho p.1 hb
  rw [e]at e';cases e'
  exact ⟨e,f0,f1,f2,d⟩
theorem Inv.unpinned {pins pl:List (Addr×Obj)} {σ:St} {H:Hp} {s:Shared} (I:Inv X (pins++pl) σ H s):Inv X pins σ H s:=I.pins_of fun p hp=>I.pin p (List.mem_append_right _ (List.mem_append_left _ hp))
theorem bc {iter:Expr} {body:List Stmt} {wi:TI} {g:TG} {tb:TS} {pos:Pos} (hp:PassesOwn (model X.prog X.w) X.A X.env X.xe) (hc:X.calm=true) (hi:PI X tg iter wi) (hg:PG X tg g) (hb:PSs X body tb)
  (hs: ∀ x,foldedSetIterable iter X.env x=pure x:=by intro _;rfl):PS X (.For tg iter body [] pos) (yN wi g tb):=by
 intro pins s σ H D I h
 refine wpAny_For (thn (hi pins s σ H _ I h) fun v s1 h1=>thn h1 fun itv s2 h2=>?_) hs
 obtain ⟨it,fp,tn,J,H2,e,I2,T,st2,f2,W,⟨m0,w0⟩,turn⟩:=h2
 subst e
 have stat: ∀ {H':Hp},(∀ b∈fp,H' b=none)-> ∀ b∈fp,iA X pins H' b:=fun hn b hb=>⟨hn b hb,(f2 b hb).2⟩
 refine codeAny_forLoop_any (fun n s'=> ∃ i σ' H',Inv X pins σ' H' s'/\tn i s'.heap/\(∀ b∈fp,H' b=none)/\W i n σ' H') ?_ m0 ⟨0,σ,H2,I2,st2,fun b hb=>(f2 b hb).1,w0⟩
 rintro n s3 ⟨i,σ3,H3,I3,st3,fr3,w3⟩
 rcases turn i n σ3 H3 w3 with ⟨stop,qn⟩ | ⟨go,N,hN,step⟩
 ·refine wpAny_passesOwn hp (thn (T.done X rfl rfl rfl hc i pins s3 σ3 H3 X.xe I3 (stat fr3) st3 stop) fun r s4 ⟨hr,I4⟩=>?_)
  subst hr
  exact wpAny_execs_nil ⟨σ3,H3,I4,qn⟩
 ·refine wpAny_passesOwn hp (thn (T.item X rfl rfl rfl hc i pins s3 σ3 H3 X.xe I3 (stat fr3) st3 go) fun r s4 ⟨u,hr,h4⟩=>?_)
  subst hr
  refine wpAny_passesOwn hp (thn h4 fun _ s5 ⟨x,H5,I5,r5,y5,st5,fr5⟩=>?_)
  have I5':=I5.pinned (stat fr5) (T.obj _ _ st5)
  refine wpAny_passesOwn hp (thn (hg _ s5 σ3 H5 x u _ I5' r5 (step x H5 y5)) fun _ s6 ⟨σ6,H6,I6,q6⟩=>?_)
  refine wpAny_passesOwn hp (thn (hb _ s6 σ6 H6 _ I6 q6) fun f s7 q7=>?_)
  have again: ∀ {σ7:St} {H7:Hp},Inv X (pins++lK fp s5.heap) σ7 H7 s7->N σ7 H7-> ∃ m,m<n/\ ∃ i σ' H',Inv X pins σ' H' s7/\tn i s7.heap/\(∀ b∈fp,H' b=none)/\W i m σ' H':=fun {σ7 H7} I7 n7=>by
   obtain ⟨m',hm,w7⟩:=hN σ7 H7 n7
   refine ⟨m',hm,i+1,σ7,H7,I7.unpinned,T.keep _ _ _ st5 fun b hb o e=>(I7.pin (b,o) (List.mem_append_right _ (List.mem_append_right _ (br hb e)))).1,fun b hb=>?_,w7⟩
   obtain ⟨o,e,d⟩:=T.obj _ _ st5 b hb
   exact (I7.pin (b,o) (List.mem_append_right _ (List.mem_append_right _ (br hb e)))).2.1
  cases f with
  | next=>obtain ⟨σ7,H7,I7,n7⟩:=q7;exact again I7 n7
  | cont=>obtain ⟨σ7,H7,I7,n7⟩:=q7;exact again I7 n7
  | brk=>obtain ⟨σ7,H7,I7,q7⟩:=q7;exact ⟨σ7,H7,I7.unpinned,q7⟩
  | ret v=>obtain ⟨x7,σ7,H7,I7,r7,q7⟩:=q7;exact ⟨x7,σ7,H7,I7.unpinned,r7,q7⟩
end
theorem uX {K:PySem.W.Frag} {a:Addr} {xs:List V} {g:TG} {tb:TS} {D:eh} {σ:St} {H:Hp} (Pv:Nat->St->Hp->Prop) (h0:Pv 0 σ H) (hl: ∀ i σ H,i<=xs.length->Pv i σ H->SqL K H a xs)
  (hs: ∀ i x σ H,xs[i]? =some x->Pv i σ H->g x σ H fun σ2 H2=>tb {D with nx:=Pv (i+1),ct:=Pv (i+1),bk:=D.nx} σ2 H2) (hd: ∀ σ H,Pv xs.length σ H->D.nx σ H):
  ∃ W:Nat->Nat->St->Hp->Prop,(∃ m,W 0 m σ H)/\ ∀ i m σ H,W i m σ H->
   ((Itl K a).stop i H/\D.nx σ H)\/((Itl K a).go i H/\ ∃ N:St->Hp->Prop,(∀ σ' H',N σ' H'-> ∃ m',m'<m/\W (i+1) m' σ' H')/\ ∀ x H',(Itl K a).yld i H x H'->g x σ H' fun σ2 H2=>tb {D with nx:=N,ct:=N,bk:=D.nx} σ2 H2):=by
 refine ⟨fun i m σ H=>m=xs.length-i/\i<=xs.length/\Pv i σ H,⟨xs.length,by simp,Nat.zero_le _,h0⟩,?_⟩
 rintro i m σ H ⟨rfl,hi,p⟩
 have q:=hl i σ H hi p
 by_cases hlt:i<xs.length
 ·refine .inr ⟨⟨xs,xs[i],q,by simp [hlt]⟩,Pv (i+1),fun σ' H' p'=>⟨xs.length- (i+1),by lia,rfl,hlt,p'⟩,fun x H' y=>?_⟩
  obtain ⟨e,y⟩:=y
  subst e
  exact hs i x σ _ (y xs q) p
 ·have e:i=xs.length:=by lia
  subst e
  exact .inl ⟨⟨xs,q,Nat.le_refl _⟩,hd σ H p⟩
theorem cN {K:PySem.W.Frag} {a:Addr} {xs:List V} {g:TG} {tb:TS} {D:eh} {σ:St} {H:Hp} (Pv:Nat->St->Hp->Prop) (h0:Pv 0 σ H) (hl: ∀ i σ H,i<=xs.length->Pv i σ H->SqT K H a xs)
  (hs: ∀ i x σ H,xs[i]? =some x->Pv i σ H->g x σ H fun σ2 H2=>tb {D with nx:=Pv (i+1),ct:=Pv (i+1),bk:=D.nx} σ2 H2) (hd: ∀ σ H,Pv xs.length σ H->D.nx σ H):
  ∃ W:Nat->Nat->St->Hp->Prop,(∃ m,W 0 m σ H)/\ ∀ i m σ H,W i m σ H->
   ((Itt K a).stop i H/\D.nx σ H)\/((Itt K a).go i H/\ ∃ N:St->Hp->Prop,(∀ σ' H',N σ' H'-> ∃ m',m'<m/\W (i+1) m' σ' H')/\ ∀ x H',(Itt K a).yld i H x H'->g x σ H' fun σ2 H2=>tb {D with nx:=N,ct:=N,bk:=D.nx} σ2 H2):=by
 refine ⟨fun i m σ H=>m=xs.length-i/\i<=xs.length/\Pv i σ H,⟨xs.length,by simp,Nat.zero_le _,h0⟩,?_⟩
 rintro i m σ H ⟨rfl,hi,p⟩
 have q:=hl i σ H hi p
 by_cases hlt:i<xs.length
 ·refine .inr ⟨⟨xs,xs[i],q,by simp [hlt]⟩,Pv (i+1),fun σ' H' p'=>⟨xs.length- (i+1),by lia,rfl,hlt,p'⟩,fun x H' y=>?_⟩
  obtain ⟨e,y⟩:=y
  subst e
  exact hs i x σ _ (y xs q) p
 ·have e:i=xs.length:=by lia
  subst e
  exact .inl ⟨⟨xs,q,Nat.le_refl _⟩,hd σ H p⟩
theorem cz {lo:Int} {n:Nat} {g:TG} {tb:TS} {D:eh} {σ:St} {H:Hp} (Pv:Nat->St->Hp->Prop) (h0:Pv 0 σ H)
  (hs: ∀ i σ H,i<n->Pv i σ H->g (.int (lo+i)) σ H fun σ2 H2=>tb {D with nx:=Pv (i+1),ct:=Pv (i+1),bk:=D.nx} σ2 H2) (hd: ∀ σ H,Pv n σ H->D.nx σ H):
  ∃ W:Nat->Nat->St->Hp->Prop,(∃ m,W 0 m σ H)/\ ∀ i m σ H,W i m σ H->
   ((Itr lo n).stop i H/\D.nx σ H)\/((Itr lo n).go i H/\ ∃ N:St->Hp->Prop,(∀ σ' H',N σ' H'-> ∃ m',m'<m/\W (i+1) m' σ' H')/\ ∀ x H',(Itr lo n).yld i H x H'->g x σ H' fun σ2 H2=>tb {D with nx:=N,ct:=N,bk:=D.nx} σ2 H2):=by
 refine ⟨fun i m σ H=>m=n-i/\i<=n/\Pv i σ H,⟨n,by simp,Nat.zero_le _,h0⟩,?_⟩
 rintro i m σ H ⟨rfl,hi,p⟩
 by_cases hlt:i<n
 ·refine .inr ⟨hlt,Pv (i+1),fun σ' H' p'=>⟨n- (i+1),by lia,rfl,hlt,p'⟩,fun x H' y=>?_⟩
  obtain ⟨e,y⟩:=y
  subst e y
  exact hs i σ _ hlt p
 ·have e:i=n:=by lia
  subst e
  exact .inl ⟨Nat.le_refl _,hd σ H p⟩
theorem sM {c:TT} {tb:TS} {D:eh} {σ:St} {H:Hp} (Pv:St->Hp->Prop) (μ:St->Hp->Nat) (h0:Pv σ H)
  (hs: ∀ σ H,Pv σ H->c σ H fun b H1=>if b=true then tb {D with nx:=fun σ' H'=>Pv σ' H'/\μ σ' H'<μ σ H,ct:=fun σ' H'=>Pv σ' H'/\μ σ' H'<μ σ H,bk:=D.nx} σ H1 else D.nx σ H1)
  (mono: ∀ σ H Q Q',(∀ b H1,Q b H1->Q' b H1)->c σ H Q->c σ H Q'):sW c tb D σ H:=by
 refine ⟨fun m σ H=>m=μ σ H/\Pv σ H,⟨_,rfl,h0⟩,?_⟩
 rintro m σ H ⟨rfl,p⟩
 refine mono σ H _ _ (fun b H1 q=>?_) (hs σ H p)
 cases b with
 | true=>exact ⟨_,fun σ' H' ⟨p',l⟩=>⟨_,l,rfl,p'⟩,q⟩
 | false=>exact q
noncomputable abbrev R2:=V->V->Hp->VK->Prop
noncomputable def OpR (X:Cx) (f:Value->Value->Sem Value) (r:R2):Prop:=
 ∀ (pins:List (Addr×Obj)) (s:Shared) (σ:St) (H:Hp) (x y:V) (v u:Value) (Q:VK),Inv X pins σ H s->RelV x v->RelV y u->r x y H Q->
  wpAny (model X.prog X.w) X.A (f v u) (EP X pins σ Q) X.xe s
noncomputable def UnR (X:Cx) (f:Value->Sem Value) (r:V->Hp->VK->Prop):Prop:=
 ∀ (pins:List (Addr×Obj)) (s:Shared) (σ:St) (H:Hp) (x:V) (v:Value) (Q:VK),Inv X pins σ H s->RelV x v->r x H Q->
  wpAny (model X.prog X.w) X.A (f v) (EP X pins σ Q) X.xe s
noncomputable def dG (X:Cx) (f:Value) (r:List V->Hp->VK->Prop):Prop:=
 ∀ (pins:List (Addr×Obj)) (s:Shared) (σ:St) (H:Hp) (xs:List V) (us:List Value) (Q:VK),Inv X pins σ H s->Vals xs us->r xs H Q->
  wpAny (model X.prog X.w) X.A (call f us) (EP X pins σ Q) X.xe s
noncomputable def zh (X:Cx) (r:V->Hp->(Bool->Hp->Prop)->Prop):Prop:=
 ∀ (pins:List (Addr×Obj)) (s:Shared) (σ:St) (H:Hp) (x:V) (v:Value) (Q:Bool->Hp->Prop),Inv X pins σ H s->RelV x v->r x H Q->
  wpAny (model X.prog X.w) X.A (truthy v) (TP X pins σ Q) X.xe s
noncomputable def tOp (r:R2) (ta tb:TE):TE:=fun σ H Q=>ta σ H fun x H1=>tb σ H1 fun y H2=>r x y H2 Q
noncomputable def tUn (r:V->Hp->VK->Prop) (ta:TE):TE:=fun σ H Q=>ta σ H fun x H1=>r x H1 Q
noncomputable def rI (C:Int->Int->Prop) (g:Int->Int->V):R2:=fun x y H Q=> ∃ i j,x=.int i/\y=.int j/\C i j/\Q (g i j) H
noncomputable def rI0 (g:Int->Int->V):R2:=fun x y H Q=> ∃ i j,x=.int i/\y=.int j/\Q (g i j) H
noncomputable def rU (g:Int->V):V->Hp->VK->Prop:=fun x H Q=> ∃ i,x=.int i/\Q (g i) H
section
variable {X:Cx} {a b c:Expr} {ta tb tc:TE} {pos:Pos}
theorem xG (ha:PE X a ta) (hb:PE X b tb) {pins:List (Addr×Obj)} {s:Shared} {σ:St} {H:Hp} {R:V->V->Hp->Prop} (I:Inv X pins σ H s)
  (h:ta σ H fun x H1=>tb σ H1 fun y H2=>R x y H2) {Q:Value->Shared->Prop} {f:Value->Value->Sem Value}
  (hf: ∀ v u s2 x y H2,Inv X pins σ H2 s2->RelV x v->RelV y u->R x y H2->wpAny (model X.prog X.w) X.A (f v u) Q X.xe s2):
  wpAny (model X.prog X.w) X.A (eval a X.env) (fun v s₁=>wpAny (model X.prog X.w) X.A (eval b X.env) (fun u s₂=>wpAny (model X.prog X.w) X.A (f v u) Q X.xe s₂) X.xe s₁) X.xe s:=by
 refine thn (ha pins s σ H _ I h) fun v s1 ⟨x,H1,I1,r1,q1⟩=>?_
 refine thn (hb pins s1 σ H1 _ I1 q1) fun u s2 ⟨y,H2,I2,r2,q2⟩=>?_
 exact hf v u s2 x y H2 I2 r1 r2 q2
theorem aC {op:Operator} {r:R2} (ho:OpR X (binaryOp op) r) (ha:PE X a ta) (hb:PE X b tb):PE X (.BinOp a op b pos) (tOp r ta tb):=by
 intro pins s σ H Q I h
 exact wpAny_BinOp (xG ha hb I h fun v u s2 x y H2 I2 rx ry q=>ho pins s2 σ H2 x y v u Q I2 rx ry q)
theorem ip {op:UnaryOp} {r:V->Hp->VK->Prop} (ho:UnR X (unaryOp op) r) (ha:PE X a ta):PE X (.UnaryOp op a pos) (tUn r ta):=by
 intro pins s σ H Q I h
 exact UnaryOp_ (thn (ha pins s σ H _ I h) fun v s1 ⟨x,H1,I1,r1,q1⟩=>ho pins s1 σ H1 x v Q I1 r1 q1)
theorem opI {f:Value->Value->Sem Value} {C:Int->Int->Prop} {g:Int->Int->Int}
  (rule: ∀ (i j:Int) (t u:Tok) (s:Shared) (Q:Value->Shared->Prop) (E:Value->Shared->Prop),C i j->Q (.int (g i j) s.toks) {s with toks:=s.toks+1}->wpAny (model X.prog X.w) X.A (f (.int i t) (.int j u)) Q E s):
  OpR X f (rI C fun i j=>.int (g i j)):=by
 intro pins s σ H x y v u Q I rx ry h
 obtain ⟨i,j,rfl,rfl,hc,q⟩:=h
 obtain ⟨t,rfl⟩:=rx
 obtain ⟨t',rfl⟩:=ry
 exact rule i j t t' s _ _ hc ⟨.int (g i j),H,I.tok _,⟨_,rfl⟩,q⟩
theorem yf {f:Value->Value->Sem Value} {g:Int->Int->Int}
  (rule: ∀ (i j:Int) (t u:Tok) (s:Shared) (Q:Value->Shared->Prop) (E:Value->Shared->Prop),Q (.int (g i j) s.toks) {s with toks:=s.toks+1}->wpAny (model X.prog X.w) X.A (f (.int i t) (.int j u)) Q E s):
  OpR X f (rI0 fun i j=>.int (g i j)):=by
 intro pins s σ H x y v u Q I rx ry h
 obtain ⟨i,j,rfl,rfl,q⟩:=h
 obtain ⟨t,rfl⟩:=rx
 obtain ⟨t',rfl⟩:=ry
 exact rule i j t t' s _ _ ⟨.int (g i j),H,I.tok _,⟨_,rfl⟩,q⟩
theorem vO {f:Value->Value->Sem Value} {g:Int->Int->Bool}
  (rule: ∀ (i j:Int) (t u:Tok) (s:Shared) (Q:Value->Shared->Prop) (E:Value->Shared->Prop),Q (.bool (g i j)) s->wpAny (model X.prog X.w) X.A (f (.int i t) (.int j u)) Q E s):
  OpR X f (rI0 fun i j=>.bl (g i j)):=by
 intro pins s σ H x y v u Q I rx ry h
 obtain ⟨i,j,rfl,rfl,q⟩:=h
 obtain ⟨t,rfl⟩:=rx
 obtain ⟨t',rfl⟩:=ry
 exact rule i j t t' s _ _ ⟨.bl (g i j),H,I,rfl,q⟩
noncomputable def zk (i j:Int):Prop:=0<j/\j<1073741824
noncomputable def CMul (i j:Int):Prop:=(-(2^64) <i/\i<2^64)\/(-(2^64) <j/\j<2^64)
theorem CMul.ok {i j:Int} (h:CMul i j):IntMulOk i j:=by
 rcases h with ⟨h1,h2⟩ | ⟨h1,h2⟩
 ·exact .of_left (intBits_le_64 h1 h2)
 ·exact .of_right (intBits_le_64 h1 h2)
theorem aV:OpR X (binaryOp .Add) (rI0 fun i j=>.int (i+j)):=yf fun _ _ _ _ _ _ _ q=>add_int q
theorem cT:OpR X (binaryOp .Sub) (rI0 fun i j=>.int (i-j)):=yf fun _ _ _ _ _ _ _ q=>sub_int q
theorem df:OpR X (binaryOp .Mult) (rI CMul fun i j=>.int (i*j)):=opI fun _ _ _ _ _ _ _ hc q=>mul_int q hc.ok
theorem qr:OpR X (binaryOp .FloorDiv) (rI zk fun i j=>.int (i/j)):=opI fun i j _ _ _ _ _ hc q=>by
 have h1:(0:Int) <j:=hc.1
 have h2:j<1073741824:=hc.2
 exact floordiv_int (by lia) (by rw [Int.fdiv_eq_ediv_of_nonneg i (by lia)];exact q) (.inl (PyProof.noPylong_small (by lia)))
theorem cZ:OpR X (binaryOp .Mod) (rI (fun _ j=>0<j) fun i j=>.int (i%j)):=opI fun i j _ _ _ _ _ hc q=>by
 have h1:(0:Int) <j:=hc
 exact mod_int' (by lia) (by rw [Int.fmod_eq_emod_of_nonneg i (by lia)];exact q)
theorem unI {f:Value->Sem Value} {g:Int->Int}
  (rule: ∀ (i:Int) (t:Tok) (s:Shared) (Q:Value->Shared->Prop) (E:Value->Shared->Prop),Q (.int (g i) s.toks) {s with toks:=s.toks+1}->wpAny (model X.prog X.w) X.A (f (.int i t)) Q E s):
  UnR X f (rU fun i=>.int (g i)):=by
 intro pins s σ H x v Q I rx h
 obtain ⟨i,rfl,q⟩:=h
 obtain ⟨t,rfl⟩:=rx
 exact rule i t s _ _ ⟨.int (g i),H,I.tok _,⟨_,rfl⟩,q⟩
theorem eR:UnR X (unaryOp .USub) (rU fun i=>.int (-i)):=unI fun _ _ _ _ _ q=>neg_int q
end
noncomputable def xZ:V->V->Bool
 | .non,.non=>true | .non,.int _=>true | .int _,.non=>true | .non,.bl _=>true | .bl _,.non=>true | .non,.str _=>true | .str _,.non=>true
 | .int _,.int _=>true | .bl _,.bl _=>true | .str _,.str _=>true | .byt _,.byt _=>true
 | .int _,.str _=>true | .str _,.int _=>true | .bl _,.str _=>true | .str _,.bl _=>true
 | _,_=>false
noncomputable def rEq:R2:=fun x y H Q=>xZ x y=true/\Q (.bl (decide (x=y))) H
noncomputable def rNe:R2:=fun x y H Q=>xZ x y=true/\Q (.bl (!decide (x=y))) H
theorem qJ {i j:Int}:decide (V.int i=V.int j)=(i==j):=by
 rw [Bool.eq_iff_iff]
 simp
theorem va {i j:Bool}:decide (V.bl i=V.bl j)=(i==j):=by
 rw [Bool.eq_iff_iff]
 simp
theorem qI {i j:Str}:decide (V.str i=V.str j)=(i==j):=by
 rw [Bool.eq_iff_iff]
 simp
theorem qK {i j:Array UInt8}:decide (V.byt i=V.byt j)=(i.toList==j.toList):=by
 rw [Bool.eq_iff_iff]
 cases i
 cases j
 simp
section
variable {X:Cx} {a b c:Expr} {ta tb tc:TE} {pos:Pos}
theorem a9 {pins:List (Addr×Obj)} {σ:St} {H:Hp} {s:Shared} {Q:VK} {k k':Bool} (I:Inv X pins σ H s) (q:Q (.bl k) H) (e:k=k'):EP X pins σ Q (.bool k') s:=by
 subst e
 exact ⟨.bl k,H,I,rfl,q⟩
theorem bh:OpR X (compareOp .Eq) rEq:=by
 intro pins s σ H x y v u Q I rx ry h
 obtain ⟨hs,q⟩:=h
 cases x with
 | non=>
  cases rx
  cases y with
  | non=>cases ry;exact PySem.EqNone.eq_none_none (a9 I q (by simp))
  | bl j=>cases ry;exact PySem.EqNone.eq_none_bool (a9 I q (by simp))
  | int j=>obtain ⟨t',rfl⟩:=ry;exact PySem.EqNone.eq_none_int (a9 I q (by simp))
  | str j=>obtain ⟨t',rfl⟩:=ry;exact PySem.EqNone.eq_none_str (a9 I q (by simp))
  | _=>exact absurd (show false=true from hs) Bool.false_ne_true
 | bl i=>
  cases rx
  cases y with
  | non=>cases ry;exact PySem.EqNone.eq_bool_none (a9 I q (by simp))
  | bl j=>cases ry;exact eq_bool (a9 I q va)
  | str j=>obtain ⟨t',rfl⟩:=ry;exact PySem.EqMixed.eq_bool_str (a9 I q (by simp))
  | _=>exact absurd (show false=true from hs) Bool.false_ne_true
 | int i=>
  obtain ⟨t,rfl⟩:=rx
  cases y with
  | non=>cases ry;exact PySem.EqNone.eq_int_none (a9 I q (by simp))
  | int j=>obtain ⟨t',rfl⟩:=ry;exact eq_int (a9 I q qJ)
  | str j=>obtain ⟨t',rfl⟩:=ry;exact PySem.EqMixed.eq_int_str (a9 I q (by simp))
  | _=>exact absurd (show false=true from hs) Bool.false_ne_true
 | str i=>
  obtain ⟨t,rfl⟩:=rx
  cases y with
  | non=>cases ry;exact PySem.EqNone.eq_str_none (a9 I q (by simp))
  | bl j=>cases ry;exact PySem.EqMixed.eq_str_bool (a9 I q (by simp))
  | int j=>obtain ⟨t',rfl⟩:=ry;exact PySem.EqMixed.eq_str_int (a9 I q (by simp))
  | str j=>obtain ⟨t',rfl⟩:=ry;exact eq_str (a9 I q qI)
  | _=>exact absurd (show false=true from hs) Bool.false_ne_true
 | byt i=>
  obtain ⟨t,rfl⟩:=rx
  cases y with
  | byt j=>obtain ⟨t',rfl⟩:=ry;exact PySem.W.eq_bytes (a9 I q qK)
  | _=>exact absurd (show false=true from hs) Bool.false_ne_true
 | _=>cases y <;> exact absurd (show false=true from hs) Bool.false_ne_true
theorem nA:OpR X (compareOp .NotEq) rNe:=by
 intro pins s σ H x y v u Q I rx ry h
 obtain ⟨hs,q⟩:=h
 cases x with
 | non=>
  cases rx
  cases y with
  | non=>cases ry;exact PySem.EqNone.ne_none_none (a9 I q (by simp))
  | bl j=>cases ry;exact PySem.EqNone.ne_none_bool (a9 I q (by simp))
  | int j=>obtain ⟨t',rfl⟩:=ry;exact PySem.EqNone.ne_none_int (a9 I q (by simp))
  | str j=>obtain ⟨t',rfl⟩:=ry;exact PySem.EqNone.ne_none_str (a9 I q (by simp))
  | _=>exact absurd (show false=true from hs) Bool.false_ne_true
 | bl i=>
  cases rx
  cases y with
  | non=>cases ry;exact PySem.EqNone.ne_bool_none (a9 I q (by simp))
  | bl j=>cases ry;exact ne_bool (a9 I q (congrArg not va))
  | str j=>obtain ⟨t',rfl⟩:=ry;exact PySem.EqMixed.ne_bool_str (a9 I q (by simp))
  | _=>exact absurd (show false=true from hs) Bool.false_ne_true
 | int i=>
  obtain ⟨t,rfl⟩:=rx
  cases y with
  | non=>cases ry;exact PySem.EqNone.ne_int_none (a9 I q (by simp))
  | int j=>obtain ⟨t',rfl⟩:=ry;exact ne_int (a9 I q (congrArg not qJ))
  | str j=>obtain ⟨t',rfl⟩:=ry;exact PySem.EqMixed.ne_int_str (a9 I q (by simp))
  | _=>exact absurd (show false=true from hs) Bool.false_ne_true
 | str i=>
  obtain ⟨t,rfl⟩:=rx
  cases y with
  | non=>cases ry;exact PySem.EqNone.ne_str_none (a9 I q (by simp))
  | bl j=>cases ry;exact PySem.EqMixed.ne_str_bool (a9 I q (by simp))
  | int j=>obtain ⟨t',rfl⟩:=ry;exact PySem.EqMixed.ne_str_int (a9 I q (by simp))
  | str j=>obtain ⟨t',rfl⟩:=ry;exact ne_str (a9 I q (congrArg not qI))
  | _=>exact absurd (show false=true from hs) Bool.false_ne_true
 | byt i=>
  obtain ⟨t,rfl⟩:=rx
  cases y with
  | byt j=>obtain ⟨t',rfl⟩:=ry;exact PySem.W.ne_bytes (a9 I q (congrArg not qK))
  | _=>exact absurd (show false=true from hs) Bool.false_ne_true
 | _=>cases y <;> exact absurd (show false=true from hs) Bool.false_ne_true
theorem j4:OpR X (compareOp .Lt) (rI0 fun i j=>.bl (decide (i<j))):=vO fun _ _ _ _ _ _ _ q=>lt_int q
theorem yd:OpR X (compareOp .LtE) (rI0 fun i j=>.bl (decide (i<=j))):=vO fun _ _ _ _ _ _ _ q=>le_int q
theorem jk:OpR X (compareOp .Gt) (rI0 fun i j=>.bl (decide (j<i))):=vO fun _ _ _ _ _ _ _ q=>gt_int q
theorem ye:OpR X (compareOp .GtE) (rI0 fun i j=>.bl (decide (j<=i))):=vO fun _ _ _ _ _ _ _ q=>ge_int q
theorem um:OpR X (compareOp .Is) (fun x y H Q=>y=.non/\Q (.bl (decide (x=.non))) H):=by
 intro pins s σ H x y v u Q I rx ry h
 obtain ⟨rfl,q⟩:=h
 cases ry
 refine is_none_gen (a9 I q ?_)
 cases x <;> first
  | (cases rx;rfl)
  | (obtain ⟨t,rfl⟩:=rx;rfl)
theorem aK (b:Expr) {op:CmpOp} (h:op≠ .In:=by decide) (h2:op≠ .NotIn:=by decide):behindInMarks op b=false:=by
 have e1:(op==CmpOp.In)=false:=by cases op <;> first | rfl | exact absurd rfl h
 have e2:(op==CmpOp.NotIn)=false:=by cases op <;> first | rfl | exact absurd rfl h2
 cases b <;> simp [behindInMarks,e1,e2]
theorem dJ {op:CmpOp} {r:R2} (ho:OpR X (compareOp op) r) (ha:PE X a ta) (hb:PE X b tb) (hm:behindInMarks op b=false):PE X (.Compare a [op] [b] pos) (tOp r ta tb):=by
 intro pins s σ H Q I h
 exact wpAny_Compare1 (xG ha hb I h fun v u s2 x y H2 I2 rx ry q=>ho pins s2 σ H2 x y v u Q I2 rx ry q) hm
noncomputable def xN (t:TE):TT:=fun σ H Q=>t σ H fun x H'=> ∃ k,x=.bl k/\Q k H'
theorem aF {op:CmpOp} {r:R2} (ho:OpR X (compareOp op) r) (ha:PE X a ta) (hb:PE X b tb) (hm:behindInMarks op b=false):PT X (.Compare a [op] [b] pos) (xN (tOp r ta tb)):=by
 intro pins s σ H Q I h
 refine wpAny_isTrue_Compare1 (thn (ha pins s σ H _ I h) fun v s1 ⟨x,H1,I1,r1,q1⟩=>thn (hb pins s1 σ H1 _ I1 q1) fun u s2 ⟨y,H2,I2,r2,q2⟩=>
  thn (ho pins s2 σ H2 x y v u _ I2 r1 r2 q2) fun c s3 ⟨z,H3,I3,r3,k,e,q3⟩=>?_) hm
 subst e
 cases r3
 exact wpAny_truthy_bool ⟨H3,I3,q3⟩
noncomputable def yA (K:PySem.W.Frag) (x:V) (H:Hp) (k:Bool):Prop:=
 match x with
 | .non=>k=false
 | .bl b=>k=b
 | .int i=>k=(i !=0)
 | .str y=>y.length<=sizeLine/\k=((y.length:Int)!=0)
 | .byt y=>y.size<=sizeLine/\k=((y.size:Int)!=0)
 | .ref p=>(∃ xs,SqL K H p xs/\k= !xs.isEmpty)\/(∃ xs,SqT K H p xs/\k= !xs.isEmpty)\/ ∃ kvs,H p=some (.dK kvs)/\k= !kvs.isEmpty
 | _=>False
theorem pF {κ:Type} {kvs:List (κ×V)} {vs:List (κ×Value)} (r:KV kvs vs):(!vs.isEmpty)= !kvs.isEmpty:=by
 cases r <;> rfl
theorem jt {xs:List V} {its:List Value} (r:Vals xs its):(!its.toArray.isEmpty)= !xs.isEmpty:=by
 cases r <;> simp
theorem ib:(sizeLine:Nat) <2^63:=by rw [sizeLine_eq];decide
theorem wM:zh X (fun x H Q=> ∃ k,yA X.K x H k/\Q k H):=by
 intro pins s σ H x v Q I rx h
 obtain ⟨k,e,q⟩:=h
 have hl:=ib
 have hs:sizeLine=16777216:=sizeLine_eq
 cases x with
 | non=>
  cases rx
  have e':k=false:=e
  subst e'
  exact truthy_none ⟨H,I,q⟩
 | bl b=>
  cases rx
  have e':k=b:=e
  subst e'
  exact wpAny_truthy_bool ⟨H,I,q⟩
 | int i=>
  obtain ⟨t,rfl⟩:=rx
  have e':k=(i !=0):=e
  subst e'
  exact PySem.P.truthy_int ⟨H,I,q⟩
 | str y=>
  obtain ⟨t,rfl⟩:=rx
  obtain ⟨hy,e'⟩:y.length<=sizeLine/\k=((y.length:Int)!=0):=e
  subst e'
  exact PySem.P.truthy_str (by lia) ⟨H,I.tok _,q⟩
 | byt y=>
  obtain ⟨t,rfl⟩:=rx
  obtain ⟨hy,e'⟩:y.size<=sizeLine/\k=((y.size:Int)!=0):=e
  subst e'
  exact PySem.W.truthy_bytes (by lia) ⟨H,I.tok _,q⟩
 | ref p=>
  cases rx
  have e':(∃ xs,SqL X.K H p xs/\k= !xs.isEmpty)\/(∃ xs,SqT X.K H p xs/\k= !xs.isEmpty)\/ ∃ kvs,H p=some (.dK kvs)/\k= !kvs.isEmpty:=e
  rcases e' with ⟨xs,hx,e'⟩ | ⟨xs,hx,e'⟩ | ⟨kvs,hx,e'⟩
  ·subst e'
   obtain ⟨its,r,pl,hz⟩:=I.list hx
   have hlen:=r.length
   exact wpAny_truthy_list pl.isList (by simp only [List.size_toArray];lia) ⟨H,I.tok _,by rw [jt r];exact q⟩
  ·subst e'
   obtain ⟨its,r,pl,hz⟩:=I.tuple hx
   have hlen:=r.length
   exact truthy_tuple pl (by simp only [List.size_toArray];lia) ⟨H,I.tok _,by rw [jt r];exact q⟩
  ·subst e'
   obtain ⟨hz,hS,vs,r,m⟩:kvs.length<=sizeLine/\(p==sysModules)=false/\ ∃ vs,KV kvs vs/\s.heap.DictOf (aU X.prog X.w) p vs:=I.hok p _ hx
   have hlen:kvs.length=vs.length:=Paired.length r
   exact wpAny_truthy_dict hS m (by lia) ⟨H,I.tok _,by rw [pF r];exact q⟩
 | _=>exact (show False from e).elim
theorem nq (ha:PE X a ta) (he: ∀ whole,isTrue a X.env whole=(do let v <- whole;standAt a.pos;holding [v] (truthy v))):
  PT X a (fun σ H Q=>ta σ H fun x H'=> ∃ k,yA X.K x H' k/\Q k H'):=by
 intro pins s σ H Q I h
 exact isTrue_plain (thn (ha pins s σ H _ I h) fun v s1 ⟨x,H1,I1,r1,q1⟩=>wM pins s1 σ H1 x v Q I1 r1 q1) (he _)
theorem fL:OpR X (binaryOp .Add) (fun x y H Q=> ∃ i j,x=.str i/\y=.str j/\i.length+j.length<=sizeLine/\Q (.str (i++j)) H):=by
 intro pins s σ H x y v u Q I rx ry h
 obtain ⟨i,j,rfl,rfl,hz,q⟩:=h
 obtain ⟨t,rfl⟩:=rx
 obtain ⟨t',rfl⟩:=ry
 exact add_str (fun t' tk=>⟨.str (i++j),H,I.tok _,⟨_,rfl⟩,q⟩) hz
theorem fB {x:V} {us:List Value} (r:Vals [x] us): ∃ u,us=[u]/\RelV x u:=by
 cases r with
 | cons r1 r2=>cases r2;exact ⟨_,rfl,r1⟩
theorem jM {x y:V} {us:List Value} (r:Vals [x,y] us): ∃ u w',us=[u,w']/\RelV x u/\RelV y w':=by
 cases r with
 | cons r1 r2=>
  cases r2 with
  | cons r3 r4=>cases r4;exact ⟨_,_,rfl,r1,r3⟩
theorem ij (hc:X.calm=true):dG X (.builtin "max") (fun xs H Q=> ∃ i j,xs=[.int i,.int j]/\Q (.int (if j>i then j else i)) H):=by
 intro pins s σ H xs us Q I r h
 obtain ⟨i,j,rfl,q⟩:=h
 obtain ⟨u,w',rfl,⟨t,rfl⟩,⟨t',rfl⟩⟩:=jM r
 refine max_two_ints (I.ok.hd hc) fun h' tk k=>⟨_,H,I.kept k,?_,q⟩
 by_cases hj:j>i
 ·rw [if_pos hj,if_pos hj];exact ⟨_,rfl⟩
 ·rw [if_neg hj,if_neg hj];exact ⟨_,rfl⟩
theorem fA (hc:X.calm=true):dG X (.builtin "min") (fun xs H Q=> ∃ i j,xs=[.int i,.int j]/\Q (.int (if j<i then j else i)) H):=by
 intro pins s σ H xs us Q I r h
 obtain ⟨i,j,rfl,q⟩:=h
 obtain ⟨u,w',rfl,⟨t,rfl⟩,⟨t',rfl⟩⟩:=jM r
 refine min_two_ints (I.ok.hd hc) fun h' tk k=>⟨_,H,I.kept k,?_,q⟩
 by_cases hj:j<i
 ·rw [if_pos hj,if_pos hj];exact ⟨_,rfl⟩
 ·rw [if_neg hj,if_neg hj];exact ⟨_,rfl⟩
theorem sH:dG X (.type "int") (fun xs H Q=>(∃ i,xs=[.int i]/\Q (.int i) H)\/ ∃ k,xs=[.bl k]/\Q (.int (if k then 1 else 0)) H):=by
 intro pins s σ H xs us Q I r h
 rcases h with ⟨i,rfl,q⟩ | ⟨k,rfl,q⟩
 ·obtain ⟨u,rfl,t,rfl⟩:=fB r
  exact call_int_int ⟨.int i,H,I,⟨_,rfl⟩,q⟩
 ·obtain ⟨u,rfl,r1⟩:=fB r
  cases r1
  exact call_int_bool ⟨.int (if k then 1 else 0),H,I.tok _,⟨_,rfl⟩,q⟩
end
structure ObjM (h:Heap) (x dx C:Addr) (mA:Str->Option Value):Prop where
 obj:h.get? x=some (PySem.W.instObj C dx)
 ns:h.Ns1 dx mA
 ne:dx≠x
theorem rS {h:Heap} {dx:Addr} {mA:Str->Option Value} (n:h.Ns1 dx mA): ∃ od,h.get? dx=some od/\ ∀ name,PySem.W.lookIn name od=some (mA name):=by
 obtain ⟨o,es,ep,ho,hd,hk,_,hm⟩:=n
 refine ⟨o,ho,fun name=>?_⟩
 have e:=hm name
 unfold nsFind findBy at e
 rw [<- Array.find?_toList]at e
 unfold PySem.W.lookIn
 rw [hd]
 dsimp only
 split
 ·rename_i y q
  rw [q]at e
  exact congrArg some e
 ·rename_i q
  rw [q]at e
  have a:es.toList.any (·.refKey)=false:=by
   rw [List.any_eq_false]
   intro y hy
   obtain ⟨z,t,hkey⟩:=hk y (Array.mem_toList_iff.mp hy)
   simp [DictEntry.refKey,hkey]
  have a': ¬ es.toList.any (·.refKey)=true:=by rw [a];exact Bool.false_ne_true
  rw [if_neg a']
  exact congrArg some e
theorem ObjM.look {h:Heap} {x dx C:Addr} {mA:Str->Option Value} (I:ObjM h x dx C mA): ∃ od,PySem.W.InstAt h x (PySem.W.instObj C dx) C (some od)/\ ∀ name,PySem.W.lookIn name od=some (mA name):=
 let ⟨od,ho,hl⟩:=rS I.ns
 ⟨od,⟨I.obj,rfl,rfl,ho⟩,hl⟩
theorem RelO.some_of {v:V} {o:Option Value} (r:RelO (some v) o): ∃ u,o=some u/\RelV v u:=by
 cases o with
 | none=>exact (show False from r).elim
 | some u=>exact ⟨u,rfl,r⟩
section
variable {P:Program} {w:World} {H H':Hp} {h h':Heap} {a C dx:Addr} {fs fs':List (Str×V)}
theorem wn (hok:HOk P w H h) (e:H a=some (.ins C dx fs)): ∃ mA,ObjM h a dx C mA/\(∀ f,RelO (fs.lookup f) (mA f))/\PySem.Within mA (fs.map (·.1))/\fs.length<=1000/\H dx=some (.own a):=by
 obtain ⟨d,z,ne,ob,mA,n,r,q⟩:=(show ObjOk P w H h a (.ins C dx fs)from hok a _ e)
 exact ⟨mA,⟨ob,n,ne⟩,r,q,z,d⟩
end
structure Cls (K:PySem.W.Frag) (C:Addr):Prop where
 pg:PySem.W.plainGet K C Str.empty=true
 hd:PySem.W.hasDictIn K C=true
 po:PySem.W.plainOver K C=true
 sa:PySem.W.findIn K (.ref C) "__setattr__"=some (some (.builtin "object.__setattr__"))
theorem Cls.get {K:PySem.W.Frag} {C:Addr} (c:Cls K C) (f:Str):PySem.W.plainGet K C f=true:=c.pg
section
variable {X:Cx} {pins:List (Addr×Obj)} {σ:St} {H:Hp} {s:Shared} {A:Around} {E:Value->Shared->Prop} {Q:Value->Shared->Prop} {c:Value} {b:Bool}
inductive gL (K:PySem.W.Frag) (H:Hp):V->Value->Prop where
 | non:gL K H .non (.type "NoneType")
 | bl (x:Bool):gL K H (.bl x) (.type "bool")
 | int (i:Int):gL K H (.int i) (.type "int")
 | str (x:Str):gL K H (.str x) (.type "str")
 | flt (x:UInt64):gL K H (.flt x) (.type "float")
 | lst {a:Addr} {xs:List V} (e:H a=some (.lst xs)):gL K H (.ref a) (.type "list")
 | frz {a:Addr} {o:Obj} {xs:List V} (e:H a=some (.frz o (.lst xs))):gL K H (.ref a) (.type "list")
 | tup {a:Addr} {xs:List V} (e:H a=some (.tup xs)):gL K H (.ref a) (.type "tuple")
 | dK {a:Addr} {kvs:List (Key×V)} (e:H a=some (.dK kvs)):gL K H (.ref a) (.type "dict")
 | dT {a:Addr} {kvs:List (List Key×V)} (e:H a=some (.dT kvs)):gL K H (.ref a) (.type "dict")
 | ins {a C dx:Addr} {fs:List (Str×V)} (e:H a=some (.ins C dx fs)) (cl:Cls K C) (ha:PySem.W.findIn K (.ref C) "__class__"=some (some (.builtin "object.__class__")))
   (hn:PySem.W.specialIn K (.builtin "object.__class__") "__get__"=some (some (.builtin "getset_descriptor.__get__"))) (htk:PySem.W.takesIn K (.builtin "object.__class__")=some true)
   (hm:PySem.W.mroIn K C (.type "object")=some true):gL K H (.ref a) (.ref C)
theorem rY {x:V} {u t:Value} (I:Inv X pins σ H s) (rx:RelV x u) (ty:gL X.K H x t) (e:PySem.W.kitOne X.K t c=some b) (h: ∀ tk,Q (.bool b) {s with toks:=tk}):
  wpAny (model X.prog X.w) A (call (.builtin "isinstance") [u,c]) Q E s:=by
 cases ty with
 | non=>cases (show u=Value.none from rx);exact PySem.W.kia_one PySem.W.kitx_none I.kIn True.intro e (fun z=>nomatch z) h
 | bl y=>cases (show u=Value.bool y from rx);exact PySem.W.kia_one PySem.W.kitx_bool I.kIn True.intro e (fun z=>nomatch z) h
 | int i=>obtain ⟨t,q⟩:=(show ∃ t,u=Value.int i t from rx);cases q;exact PySem.W.kia_one PySem.W.kitx_int I.kIn True.intro e (fun z=>nomatch z) h
 | str y=>obtain ⟨t,q⟩:=(show ∃ t,u=Value.str y t from rx);cases q;exact PySem.W.kia_one PySem.W.kitx_str I.kIn True.intro e (fun z=>nomatch z) h
 | flt y=>obtain ⟨t,q⟩:=(show ∃ t,u=Value.float y t from rx);cases q;exact PySem.W.kia_one PySem.W.kitx_float I.kIn True.intro e (fun z=>nomatch z) h
 | @lst a xs ea=>
  cases (show u=Value.ref a from rx)
  obtain ⟨_,_,n,_,h1⟩:=(show ObjOk X.prog X.w H s.heap a (.lst xs)from I.hok a _ ea)
  exact PySem.W.kia_one PySem.W.kitx_list I.kIn ⟨_,h1,rfl⟩ e (fun z=>nomatch z) h
 | @frz a ob xs ea=>
  cases (show u=Value.ref a from rx)
  obtain ⟨_,_,_,n,_,h1⟩:=(show ObjOk X.prog X.w H s.heap a (.frz ob (.lst xs))from I.hok a _ ea)
  exact PySem.W.kia_one PySem.W.kitx_list I.kIn ⟨_,h1,rfl⟩ e (fun z=>nomatch z) h
 | @tup a xs ea=>
  cases (show u=Value.ref a from rx)
  obtain ⟨_,_,_,p⟩:=(show ObjOk X.prog X.w H s.heap a (.tup xs)from I.hok a _ ea)
  obtain ⟨o,h1,h2,_⟩:=p
  exact PySem.W.kia_one PySem.W.kitx_tuple I.kIn ⟨o,h1,h2⟩ e (fun z=>nomatch z) h
 | @dK a kvs ea=>
  cases (show u=Value.ref a from rx)
  obtain ⟨_,_,vs,_,p⟩:=(show ObjOk X.prog X.w H s.heap a (.dK kvs)from I.hok a _ ea)
  obtain ⟨o,es,ep,h1,h2,_⟩:=p
  exact PySem.W.kia_one PySem.W.kitx_dict I.kIn ⟨o,h1,h2.1⟩ e (fun z=>nomatch z) h
 | @dT a kvs ea=>
  cases (show u=Value.ref a from rx)
  obtain ⟨_,_,xs,_,o,es,ep,h1,h2,_⟩:=(show ObjOk X.prog X.w H s.heap a (.dT kvs)from I.hok a _ ea)
  exact PySem.W.kia_one PySem.W.kitx_dict I.kIn ⟨o,h1,h2.1⟩ e (fun z=>nomatch z) h
 | @ins a C dx fs ea cl ha hn htk hm=>
  cases (show u=Value.ref a from rx)
  obtain ⟨mA,O,_⟩:=wn I.hok ea
  obtain ⟨od,J,_⟩:=O.look
  exact PySem.W.kia_one (PySem.W.kitx_own (cl.get _) cl.hd ha hn htk hm) I.kIn J e (fun z=>nomatch z) h
end
structure Room (k:Nat) (A:Around):Prop where
 hd:A.handled=none
 dp:A.depth+3*k+5<recursionLimit
 un:A.units+16*k+200<cLine
theorem Room.mono {j k:Nat} {A:Around} (r:Room k A) (h:j<=k):Room j A:=⟨r.hd,by have:=r.dp;lia,by have:=r.un;lia⟩
theorem Room.deeper {k:Nat} {A:Around} (r:Room (k+1) A) (env:Env):Room k (A.deeper env):=
 ⟨r.hd,by have:=r.dp;show A.depth+1+3*k+5<_;lia,by have:=r.un;show A.units+3+16*k+200<_;lia⟩
theorem Room.depth {k:Nat} {A:Around} (r:Room k A):A.depth<recursionLimit:=by have:=r.dp;lia
theorem Room.units {k:Nat} {A:Around} (r:Room k A):A.units+64<cLine:=by have:=r.un;lia
noncomputable def yL:TA:=fun _ H Q=>Q [] H
noncomputable def wC (ta:TE) (tr:TA):TA:=fun σ H Q=>ta σ H fun x H1=>tr σ H1 fun xs H2=>Q (x::xs) H2
section
variable {X:Cx} {e:Expr} {es:List Expr} {te:TE} {t:TA} {pos:Pos}
theorem ac:PA X [] yL:=fun _ _ _ _ H Q I h=>Calls.spliced_nil ⟨[],H,I,.nil,h⟩
theorem aa (ha:PE X e te) (hr:PA X es t) (hs:starEach (e::es) X.env=(false,eval e X.env)::starEach es X.env:=by rfl):PA X (e::es) (wC te t):=by
 intro pos pins s σ H Q I h
 rw [hs]
 show wpAny _ _ (spliced ((false,eval e X.env)::backTo pos (starEach es X.env))) _ _ s
 refine Calls.spliced_cons (thn (ha pins s σ H _ I h) fun u s1 ⟨x,H1,I1,r1,q1⟩=>?_)
 exact thn (hr pos pins s1 σ H1 _ I1 q1) fun us s2 ⟨xs,H2,I2,r2,q2⟩=>⟨x::xs,H2,I2,.cons r1 r2,q2⟩
noncomputable def yI (t:TA):TE:=fun σ H Q=>t σ H fun xs H1=>xs.length<=sizeLine/\ ∀ p,H1 p=none->Q (.ref p) (upd H1 p (.tup xs))
noncomputable def xT (t:TA):TE:=fun σ H Q=>t σ H fun xs H1=>xs.length<=sizeLine/\ ∀ p,H1 p=none->Q (.ref p) (upd H1 p (.lst xs))
theorem aS {x1} (h:PA X es t):PE X (.Tuple es x1 pos) (yI t):=by
 intro pins s σ H Q I hq
 refine wpAny_Tuple_spliced (thn (h pos pins s σ H _ I hq) fun us s1 ⟨xs,H1,I1,r,z,q⟩=>⟨by rw [<- r.length];exact z,?_⟩)
 have hf:H1 s1.heap.objs.size=none:=I1.hok.fresh (Nat.le_refl _)
 refine ⟨.ref s1.heap.objs.size,upd H1 s1.heap.objs.size (.tup xs),I1.laid (t':=s1.toks) (fun b u e=>Heap.get?_push_of_some _ e) (Nat.le_refl _) ?_,rfl,q _ hf⟩
 exact ⟨z,us,r,⟨_,Heap.get?_push_size _ rfl,rfl,_,rfl⟩⟩
theorem bu (h:PA X es t):PE X (.List es pos) (xT t):=by
 intro pins s σ H Q I hq
 refine wpAny_List_spliced (thn (h pos pins s σ H _ I hq) fun us s1 ⟨xs,H1,I1,r,z,q⟩=>⟨by rw [<- r.length];exact z,?_⟩)
 have hf:H1 s1.heap.objs.size=none:=I1.hok.fresh (Nat.le_refl _)
 refine ⟨.ref s1.heap.objs.size,upd H1 s1.heap.objs.size (.lst xs),I1.laid (t':=s1.toks) (fun b u e=>Heap.get?_push_of_some _ e) (Nat.le_refl _) ?_,rfl,q _ hf⟩
 exact ⟨z,us,0,r,Heap.get?_push_size _ rfl⟩
end
noncomputable abbrev Sp:=List V->Hp->VK->XK->Prop
noncomputable abbrev CXT:=List Env->Hp->Shared->XK->Value->Shared->Prop
structure vn (P:Program) (w:World) (K:PySem.W.Frag) (mg:Str->Option Value) (base:Heap) (A:Around) (outer:List Env) (s:Shared) (H:Hp):Prop where
 frames:A.frames=some outer
 mod:Mod K mg base
 bs: ∀ b o,base.get? b=some o->s.heap.get? b=some o/\H b=none
 bsz:base.objs.size<=s.heap.objs.size
 funs:s.heap.FunFrames base outer
 frf: ∀ b∈frs outer,H b=none
 hok:HOk P w H s.heap
 bare:AllBare s.gens
noncomputable def CE (outer:List Env) (P:Program) (w:World) (H:Hp) (s:Shared) (Q:VK) (u:Value) (s':Shared):Prop:=
 ∃ v H',s'.os=s.os/\AllBare s'.gens/\Un (frs outer) [] H H' s.heap s'.heap/\HOk P w H' s'.heap/\RelV v u/\Q v H'
noncomputable def CR (CX:CXT) (outer:List Env) (P:Program) (w:World) (H:Hp) (s:Shared) (Q:VK) (E:XK) (r:Result) (s':Shared):Prop:=
 match r with
 | .ok (.ret u)=>CE outer P w H s Q u s'
 | .ok _=>False
 | .error e=>CX outer H s E e s'
structure FnOk (P:Program) (w:World) (K:PySem.W.Frag) (mg:Str->Option Value) (base:Heap) (CX:CXT) (k:Nat) (f:Addr) (fd:FuncData) (ps:List Str) (sp:Sp):Prop where
 len: ∀ vs H Q E,sp vs H Q E->vs.length=ps.length
 run: ∀ (A:Around) (outer:List Env) (s:Shared) (H:Hp) (args:Args) (us:List Value) (vs:List V) (Q:VK) (E:XK),Room k A->vn P w K mg base A outer s H->BindsTo s fd args (ps.zip us)->Vals vs us->sp vs H Q E->
  codeAny (model P w) A (.call (.ref f) args) (CR CX outer P w H s Q E) s
section
variable {X:Cx} {pins:List (Addr×Obj)} {σ:St} {H:Hp} {s s':Shared}
theorem Inv.env0 (I:Inv X pins σ H s):vn X.prog X.w X.K X.mg X.base X.A X.stack s H:=
 ⟨I.ok.frames,I.ok.mod,I.bs,Nat.le_trans I.ok.bsz I.sz,I.stack,I.stkFree,I.hok,I.bare⟩
theorem Inv.after {Q:VK} {u:Value} (I:Inv X pins σ H s) (h:CE X.stack X.prog X.w H s Q u s'):EP X pins σ Q u s':=by
 obtain ⟨v,H',os,bare,un,hok,r,q⟩:=h
 obtain ⟨hh,g,d,t,os'⟩:=s'
 obtain rfl:os'=s.os:=os
 exact ⟨v,H',I.call (h':=hh) (g':=g) (d':=d) (t':=t) (ch:=[]) un hok bare (fun b z=>absurd z (by simp)),r,q⟩
end
noncomputable def xW (sp:Sp) (dvs:List V) (E:XK) (t:TA):TE:=fun σ H Q=>t σ H fun vs H1=>sp (vs++dvs) H1 Q E
noncomputable def Binds (K:PySem.W.Frag) (fd:FuncData) (ps:List Str) (ds:List Value):Prop:=
 ∀ (s:Shared) (us:List Value),K.In s.heap->(us++ds).length=ps.length->BindsTo s fd ⟨us,[]⟩ (ps.zip (us++ds))
theorem Binds.all {K:PySem.W.Frag} {fd:FuncData} {ps:List Str} (h: ∀ us:List Value,us.length=ps.length->bindArgs fd ⟨us,[]⟩=pure (ps.zip us)):Binds K fd ps []:=fun s us _ hl=>by
 rw [List.append_nil]at hl ⊢
 exact .of_eq (h us hl)
noncomputable def pO (CX:CXT) (X:Cx) (E:XK):Prop:= ∀ (pins:List (Addr×Obj)) (σ:St) (H:Hp) (s:Shared) (e:Value) (s':Shared),Inv X pins σ H s->CX X.stack H s E e s'->X.xe e s'
section
variable {X:Cx} {CX:CXT} {k:Nat} {f C:Addr} {fd:FuncData} {ps:List Str} {sp:Sp} {dvs:List V} {ds:List Value} {E:XK} {x m:Str} {p pos apos:Pos} {e o:Expr} {es:List Expr} {ta:TE} {t:TA}
theorem w4 {pins:List (Addr×Obj)} {σ:St} {H:Hp} {s:Shared} {Q:VK} {us:List Value} {vs:List V} (F:FnOk X.prog X.w X.K X.mg X.base CX k f fd ps sp) (hr:Room k X.A) (hb:Binds X.K fd ps ds) (hd:Vals dvs ds) (hx:pO CX X E)
  (I:Inv X pins σ H s) (r:Vals vs us) (h:sp (vs++dvs) H Q E):wpAny (model X.prog X.w) X.A (call (.ref f) us) (EP X pins σ Q) X.xe s:=by
 have r2:Vals (vs++dvs) (us++ds):=r.append hd
 have hl:(us++ds).length=ps.length:=by rw [<- r2.length];exact F.len _ _ _ _ h
 refine wpAny_call (codeAny_mono (F.run X.A X.stack s H ⟨us,[]⟩ (us++ds) (vs++dvs) Q E hr I.env0 (hb s us I.kIn hl) r2 h) fun r s' hq=>?_)
 cases r with
 | error e=>exact hx pins σ H s e s' I hq
 | ok fl=>
  cases fl with
  | ret u=>exact I.after hq
  | next=>exact False.elim hq
  | brk=>exact False.elim hq
  | cont=>exact False.elim hq
theorem al (F:FnOk X.prog X.w X.K X.mg X.base CX k f fd ps sp) (hr:Room k X.A) (hg:Gl X x) (hm:X.mg x=some (.ref f)) (hk:PySem.W.keepIn X.K (.ref f)=true) (hb:Binds X.K fd ps ds) (hd:Vals dvs ds) (hx:pO CX X E)
  (ha:PA X (e::es) t) (hdb:(x==("__debug__":Str))=false:=by decide) (he:starEach (e::es) X.env=(false,eval e X.env)::starEach es X.env:=by rfl) (hpl:(backTo pos (starEach es X.env)).any (·.1)=false:=by rfl):
  PE X (.Call (.Name x p) (e::es) [] pos) (xW sp dvs E t):=by
 intro pins s σ H Q I h
 refine wpAny_Call_Name_kw (lY I hg hm ?_ hdb)
 refine PySem.W.callWith_K (h₀:=X.base) I.ok.mod.kin hk (thn (ha pos pins s σ H _ I h) fun us s1 ⟨vs,H1,I1,r,q⟩=>⟨I1.kIn,?_⟩) he hpl
 exact w4 F hr hb hd hx I1 r q
end
structure aH (N P:List Str) (sc:Scope):Prop where
 kind:sc.kind=.function
 co:sc.isCoroutine=false
 gen:sc.isGenerator=false
 nd:N.Nodup
 pre:N.take P.length=P
 par: ∀ x∈P,sc.names.lookup x=some .local\/sc.names.lookup x=some .cell
 nofree: ∀ y∈sc.names,y.2≠ .free
theorem fsc {N P:List Str} {sc:Scope} (kind_:sc.kind=.function:=by rfl) (co_:sc.isCoroutine=false:=by rfl) (gen_:sc.isGenerator=false:=by rfl) (nd_:N.Nodup:=by decide +kernel) (pre_:N.take P.length=P:=by rfl) (par_: ∀ x∈P,sc.names.lookup x=some .local\/sc.names.lookup x=some .cell:=by decide +kernel) (nofree_: ∀ y∈sc.names,y.2≠ .free:=by decide +kernel):aH N P sc:=⟨kind_,co_,gen_,nd_,pre_,par_,nofree_⟩
theorem kw {kindOf:Str->Option NameKind} {x:Str}: ∀ {binds:List (Str×Value)} {m:Str->Option Value},(∀ v,(x,v)∉binds)->bindL kindOf binds m x=m x
 | [],_,_=>rfl
 | (n,v)::r,m,h=>by
  unfold bindL
  rw [kw fun w hw=>h w (List.mem_cons_of_mem _ hw)]
  split
  ·have:x≠n:=by rintro rfl;exact h v List.mem_cons_self
   simp [this]
  ·rfl
theorem kz {kindOf:Str->Option NameKind} {x:Str}: ∀ {binds:List (Str×Value)} {m:Str->Option Value},(∀ v,(x,v)∉binds)->bindC kindOf binds m x=m x
 | [],_,_=>rfl
 | (n,v)::r,m,h=>by
  unfold bindC
  rw [kz fun w hw=>h w (List.mem_cons_of_mem _ hw)]
  split
  ·rfl
  ·have:x≠n:=by rintro rfl;exact h v List.mem_cons_self
   simp [this]
theorem kx {kindOf:Str->Option NameKind} {x:Str} {v:Value}: ∀ {P:List Str} {vs:List Value} {i:Nat} {m:Str->Option Value},P.Nodup->P[i]? =some x->vs[i]? =some v->kindOf x=some .local->
  bindL kindOf (P.zip vs) m x=some v
 | [],_,_,_,_,h,_,_=>by simp at h
 | _::_,[],_,_,_,_,h,_=>by simp at h
 | p::P,w::vs,0,m,nd,h1,h2,hk=>by
  simp at h1 h2;subst h1;subst h2
  show bindL kindOf ((p,w)::P.zip vs) m p=_
  unfold bindL
  rw [kw fun v hv=>(List.nodup_cons.mp nd).1 (List.of_mem_zip hv).1,if_pos hk]
  simp
 | p::P,w::vs,i+1,m,nd,h1,h2,hk=>by
  show bindL kindOf ((p,w)::P.zip vs) m x=_
  unfold bindL
  exact kx (i:=i) (List.nodup_cons.mp nd).2 (by simpa using h1) (by simpa using h2) hk
theorem kA {kindOf:Str->Option NameKind} {x:Str} {v:Value}: ∀ {P:List Str} {vs:List Value} {i:Nat} {m:Str->Option Value},P.Nodup->P[i]? =some x->vs[i]? =some v->kindOf x≠some .local->
  bindC kindOf (P.zip vs) m x=some v
 | [],_,_,_,_,h,_,_=>by simp at h
 | _::_,[],_,_,_,_,h,_=>by simp at h
 | p::P,w::vs,0,m,nd,h1,h2,hk=>by
  simp at h1 h2;subst h1;subst h2
  show bindC kindOf ((p,w)::P.zip vs) m p=_
  unfold bindC
  rw [kz fun v hv=>(List.nodup_cons.mp nd).1 (List.of_mem_zip hv).1,if_neg hk]
  simp
 | p::P,w::vs,i+1,m,nd,h1,h2,hk=>by
  show bindC kindOf ((p,w)::P.zip vs) m x=_
  unfold bindC
  exact kA (i:=i) (List.nodup_cons.mp nd).2 (by simpa using h1) (by simpa using h2) hk
noncomputable def gc (N:List Str) (vs:List V):St:=vs.map some++List.replicate (N.length-vs.length) none
noncomputable def dR (CX:CXT) (P:Program) (w:World) (K:PySem.W.Frag) (mg:Str->Option Value) (base:Heap) (N:List Str) (qual:Str) (scope:Scope) (f:Addr) (cd:Value) (A:Around) (outer:List Env) (s:Shared) (H:Hp) (E:XK):Cx where
 prog:=P
 w:=w
 K:=K
 mg:=mg
 base:=base
 A:=A.deeper (envOfC qual scope s.heap.objs.size f cd)
 N:=N
 s₀:=s
 H₀:=H
 env:=envOfC qual scope s.heap.objs.size f cd
 outer:=outer
 stack:=envOfC qual scope s.heap.objs.size f cd::outer
 ex:=[]
 calm:=true
 fn:=fun _=>true
 pn:=[]
 xe:=fun e s'=>wpAny (model P w) (A.deeper (envOfC qual scope s.heap.objs.size f cd)) (leaving (envOfC qual scope s.heap.objs.size f cd) e) (fun _ s''=>CX outer H s E e s'') (fun e' s''=>CX outer H s E e' s'') s'
theorem om {sc:Scope} {n:Nat} {x:Str} (h:sc.names.lookup x=some .cell): ∃ c,(cellsFrom n sc.names []).lookup x=some c:=by
 have q:=PySem.W.cellsFrom_some sc.names n [] (.inl h)
 exact Option.isSome_iff_exists.mp q
theorem rZ {CX:CXT} {P:Program} {w:World} {K:PySem.W.Frag} {mg:Str->Option Value} {base:Heap} {N ps:List Str} {qual:Str} {scope:Scope} {f:Addr} {cd:Value} {A:Around} {outer:List Env} {s s1:Shared} {H:Hp} {E:XK} {us:List Value} {vs:List V}
  (S:aH N ps scope) (hd:A.handled=none) (e0:vn P w K mg base A outer s H) (hl:vs.length=ps.length) (r:Vals vs us)
  (x:InCallC s s.heap.objs.size (bindL (envOfC qual scope s.heap.objs.size f cd).kindOf (ps.zip us) fun _=>none) (cellsFrom (s.heap.objs.size+1) scope.names []) (bindC (envOfC qual scope s.heap.objs.size f cd).kindOf (ps.zip us) fun _=>none) s1):
  Inv (dR CX P w K mg base N qual scope f cd A outer s H E) [] (gc N vs) H s1:=by
 have hpl:ps.length<=N.length:=by have:=congrArg List.length S.pre;rw [List.length_take]at this;lia
 obtain ⟨h1,tk,rfl,hk⟩:=x.done
 have noA: ∀ b:Addr,b∉(dR CX P w K mg base N qual scope f cd A outer s H E).ex:=fun b z=>absurd (show b∈([]:List Addr)from z) (by simp)
 refine ⟨⟨e0.mod,S.kind,rfl,rfl,Nat.le_refl _,fun y z c h1 h2=>?_,fun y hy=>?_,fun y c _ h=>?_,fun _=>hd,Around.frames_deeper e0.frames,.inr ⟨rfl,rfl⟩,fun b z=>absurd z (noA b),e0.bs,e0.bsz,fun b _ _=>noA b,fun b z=>absurd z (noA b),e0.funs,e0.frf⟩,
  rfl,e0.bare,Un.kept hk,⟨_,x.toInCall.ns,fun i y v h1 h2 h3=>?_⟩,fun y c h=>⟨_,x.cell y c h⟩,e0.hok.fresh (Nat.le_refl _),fun y c h=>?_,fun p hp=>absurd (show p∈([]:List (Addr×Obj))from hp) (by simp),e0.hok.kept hk,?_⟩
 ·exact name_of_addr x.apart (PySem.mem_of_lookup h1) (PySem.mem_of_lookup h2)
 ·have hy:scope.names.lookup y=some .cell\/scope.names.lookup y=some .free:=hy
  rcases hy with hy | hy
  ·exact om hy
  ·exact absurd rfl (S.nofree _ (PySem.mem_of_lookup hy))
 ·exact Nat.le_of_lt (x.above y c (PySem.mem_of_lookup h))
 ·have hi:i<vs.length:=by
   unfold gc at h2
   by_cases hi:i<vs.length
   ·exact hi
   ·rw [List.getElem?_append_right (by simpa using hi)]at h2
    rw [List.getElem?_replicate]at h2
    split at h2 <;> cases h2
  have ha:vs[i]? =some v:=by
   unfold gc at h2
   rw [List.getElem?_append_left (by simpa using hi),List.getElem?_map]at h2
   cases e:vs[i]? with
   | none=>rw [e]at h2;cases h2
   | some a=>rw [e]at h2;cases h2;rfl
  obtain ⟨u,hu,rv⟩:=r.get ha
  have hp:ps[i]? =some y:=by
   rw [<- S.pre,List.getElem?_take_of_lt (by lia)];exact h1
  have ndP:ps.Nodup:=by rw [<- S.pre];exact S.nd.sublist (List.take_sublist _ _)
  refine ⟨u,rv,?_⟩
  rcases S.par y (List.mem_of_getElem? hp)with k | k
  ·exact .inl ⟨k,kx ndP hp hu k⟩
  ·obtain ⟨c,e⟩:=om (n:=s.heap.objs.size+1) k
   refine .inr ⟨.inl k,c,e,?_⟩
   have q:=x.cell y c e
   rw [kA ndP hp hu (by show scope.names.lookup y≠_;rw [k];decide)]at q
   exact q
 ·exact e0.hok.fresh (Nat.le_of_lt (x.above y c (PySem.mem_of_lookup h)))
 ·unfold gc
  show _=N.length
  rw [List.length_append,List.length_map,List.length_replicate]
  lia
theorem wF {CX:CXT} {P:Program} {w:World} {K:PySem.W.Frag} {mg:Str->Option Value} {base:Heap} {k:Nat} {f:Addr} {name qual:Str} {params:Arguments} {body:List Stmt} {scope:Scope} {dV kV doc pm cdv ct oc:Value} {an od:Option Addr}
  {osl:Array (Option Value)} {N ps:List Str} {sp:Sp} (lk:K.lookup f=some ⟨oc,od,.func (PySem.W.fnOf name qual params body scope dV kV doc pm an cdv ct),osl⟩) (hcd:PySem.W.codeIn K cdv qual=true) (S:aH N ps scope)
  (len: ∀ vs H Q E,sp vs H Q E->vs.length=ps.length)
  (hbody: ∀ (A:Around) (outer:List Env) (s:Shared) (H:Hp) (vs:List V) (Q:VK) (E:XK),Room k (A.deeper (envOfC qual scope s.heap.objs.size f cdv))->sp vs H Q E->
   ∃ t,PSs (dR CX P w K mg base N qual scope f cdv A outer s H E) body t/\t {nx:=fun _ H'=>Q .non H',rt:=Q} (gc N vs) H):
  FnOk P w K mg base CX (k+1) f (PySem.W.fnOf name qual params body scope dV kV doc pm an cdv ct) ps sp:=by
 refine ⟨len,fun A outer s H args us vs Q E hr e0 hb r hsp=>?_⟩
 have hl:=len _ _ _ _ hsp
 have KX:K.In s.heap:=e0.mod.kin.keeps fun b o e=>(e0.bs b o e).1
 have lim:s.heap.NoLimit:=e0.mod.nolimit.keeps fun b o e=>(e0.bs b o e).1
 have hkind: ∀ y∈ps.zip us,scope.names.lookup y.1=some .local\/(scope.names.lookup y.1=some .cell/\((cellsFrom (s.heap.objs.size+1) scope.names []).lookup y.1).isSome=true):=fun ⟨n,v⟩ hy=>by
  rcases S.par n (List.of_mem_zip hy).1 with q | q
  ·exact .inl q
  ·exact .inr ⟨q,PySem.W.cellsFrom_some _ _ _ (.inl q)⟩
 refine codeAny_call_function hr.depth (KX _ _ lk) rfl S.co S.gen rfl (PySem.W.codeRec_of KX hcd) (hb _ _ _ _ ?_)
 refine wpAny_newFunctionEnv_cells S.kind hkind fun env he s1 x=>?_
 subst he
 refine ⟨lim.keeps x.toInCall.keep,codeAny_func ?_⟩
 obtain ⟨t,ht,hq⟩:=hbody A outer s H vs Q E (hr.deeper _) hsp
 have I:Inv (dR CX P w K mg base N qual scope f cdv A outer s H E) [] (gc N vs) H s1:=rZ S hr.hd e0 hl r x
 refine wpAny_mono (ht [] s1 (gc N vs) H _ I hq) (fun fl s' hs=>?_) fun e s' hs=>hs
 have fin: ∀ {σ':St} {H':Hp} {v:V} {u:Value},Inv (dR CX P w K mg base N qual scope f cdv A outer s H E) [] σ' H' s'->RelV v u->Q v H'->CE outer P w H s Q u s':=
  fun {σ' H' v u} J rv q=>⟨v,H',J.os,J.bare,J.base,J.hok,rv,q⟩
 cases fl with
 | ret u=>
  obtain ⟨v,σ',H',J,rv,q⟩:=hs
  exact fin J rv q
 | next=>
  obtain ⟨σ',H',J,q⟩:=hs
  exact fin (v:=V.non) (u:=Value.none) J rfl q
 | brk=>
  obtain ⟨_,_,_,q⟩:=hs
  exact False.elim q
 | cont=>
  obtain ⟨_,_,_,q⟩:=hs
  exact False.elim q
section
variable {X:Cx} {x:Str} {p pos:Pos} {e:Expr} {es:List Expr} {t:TA} {id T:String} {r:List V->Hp->VK->Prop}
noncomputable def tCB (r:List V->Hp->VK->Prop) (t:TA):TE:=fun σ H Q=>t σ H fun vs H1=>r vs H1 Q
theorem aA (hc:dG X (.builtin id) r) (hg:Gl X x) (hm:X.mg x=none) (hv:bootBuiltins x=some (.builtin id)) (ha:PA X (e::es) t) (hn:x≠"__name__":=by decide) (hdb:(x==("__debug__":Str))=false:=by decide)
  (he:starEach (e::es) X.env=(false,eval e X.env)::starEach es X.env:=by rfl) (hpl:(backTo pos (starEach es X.env)).any (·.1)=false:=by rfl):PE X (.Call (.Name x p) (e::es) [] pos) (tCB r t):=by
 intro pins s σ H Q I h
 refine wpAny_Call_Name_kw (eM I hg hm hv ?_ hn hdb)
 exact PyProof.Rows.callWith_builtin1 (thn (ha pos pins s σ H _ I h) fun us s1 ⟨vs,H1,I1,r1,q1⟩=>hc pins s1 σ H1 vs us Q I1 r1 q1) he hpl
theorem bg (hc:dG X (.type T) r) (hg:Gl X x) (hm:X.mg x=none) (hv:bootBuiltins x=some (.type T)) (ha:PA X (e::es) t) (hn:x≠"__name__":=by decide) (hdb:(x==("__debug__":Str))=false:=by decide)
  (he:starEach (e::es) X.env=(false,eval e X.env)::starEach es X.env:=by rfl) (hpl:(backTo pos (starEach es X.env)).any (·.1)=false:=by rfl):PE X (.Call (.Name x p) (e::es) [] pos) (tCB r t):=by
 intro pins s σ H Q I h
 refine wpAny_Call_Name_kw (eM I hg hm hv ?_ hn hdb)
 exact PyProof.Rows.callWith_type1 (thn (ha pos pins s σ H _ I h) fun us s1 ⟨vs,H1,I1,r1,q1⟩=>hc pins s1 σ H1 vs us Q I1 r1 q1) he hpl
end
end L2
namespace HT
open PySem PyProof.Rows
section
variable {prog:Program} {w:World} {A:Around} {E:Value->Shared->Prop} {s:Shared}
theorem cat_tup {t b:Addr} {vs ws:List Value} {Q:Value->Shared->Prop} (ht:IsTup s.heap t vs.toArray) (hb:IsTup s.heap b ws.toArray) (hv:vs≠[])
  (h1:ws=[]->Q (.ref t) s) (h2:ws≠[]->Q (.ref s.heap.objs.size) {s with heap:=s.heap.push {cls:=.type "tuple",data:=.seq (vs++ws).toArray}})
  (hsz:vs.length+ws.length<=sizeLine):wpAny (model prog w) A (binaryOp .Add (.ref t) (.ref b)) Q E s:=by
 obtain ⟨⟨cls,dd,data,sl⟩,ho,hc,n,hd⟩:=id ht
 obtain ⟨⟨cls2,dd2,data2,sl2⟩,ho2,hc2,n2,hd2⟩:=id hb
 simp only at hc hd hc2 hd2
 subst hc hd hc2 hd2
 have e:vs.toArray++ws.toArray=(vs++ws).toArray:=by simp
 by_cases hw:ws=[]
 ·exact concat_meets ⟨_,ho,rfl⟩ ⟨_,ho2,rfl⟩ noFill_tuple_add seq_tuple_add PySem.F.slot_tuple_add PySem.F.entry_tuple_add (PySem.F.args_tuple_add_2 _ _)
   (tuple_addW1 t b vs.toArray ws.toArray n n2 dd dd2 sl sl2 (by simpa using hv) (by simp [hw])) ⟨ho,ho2,h1 hw⟩
 ·refine concat_meets ⟨_,ho,rfl⟩ ⟨_,ho2,rfl⟩ noFill_tuple_add seq_tuple_add PySem.F.slot_tuple_add PySem.F.entry_tuple_add (PySem.F.args_tuple_add_2 _ _)
   (tuple_addW2 t b vs.toArray ws.toArray n n2 dd dd2 sl sl2 (by simpa using hv) (by simpa using hw) (by rw [List.size_toArray,List.size_toArray];exact hsz)) ⟨ho,ho2,?_⟩
  rw [e]
  exact h2 hw
noncomputable def sIx (n d:Nat):Option Int->Nat
 | none=>d
 | some v=>if v<0 then (v+ (n:Int)).toNat else min v.toNat n
theorem sIx_none (n d:Nat):sIx n d none=d:=rfl
theorem sIx_nat (n d k:Nat):sIx n d (some (k:Int))=min k n:=by
 show (if (k:Int) <0 then ((k:Int) + (n:Int)).toNat else min (k:Int).toNat n)=min k n
 rw [if_neg (by lia),Int.toNat_natCast]
theorem wZ (n d:Nat) (hd:d<=n) (o:Option Int):sIx n d o<=n:=by
 cases o with
 | none=>exact hd
 | some v=>
  show (if v<0 then (v+ (n:Int)).toNat else min v.toNat n)<=n
  by_cases hv:v<0
  ·rw [if_pos hv];lia
  ·rw [if_neg hv];exact Nat.min_le_right _ _
theorem qM (v:Int) (n d:Nat):(if v<0 then max (v+ (n:Int)) 0 else min v (n:Int))=((sIx n d (some v):Nat):Int):=by
 show (if v<0 then max (v+ (n:Int)) 0 else min v (n:Int))=(((if v<0 then (v+ (n:Int)).toNat else min v.toNat n):Nat):Int)
 by_cases hv:v<0
 ·simp only [if_pos hv];lia
 ·simp only [if_neg hv];lia
theorem pN (lo hi:Option Int) (n:Nat):Builtin.Slice.sliceAdjust lo hi 1 (n:Int)=(((sIx n 0 lo:Nat):Int),((sIx n n hi:Nat):Int)):=by
 have h1: ¬ ((1:Int) <0):=by lia
 unfold Builtin.Slice.sliceAdjust
 simp only [h1,if_false]
 refine Prod.ext ?_ ?_
 ·cases lo with
  | none=>rfl
  | some v=>exact qM v n 0
 ·cases hi with
  | none=>rfl
  | some v=>exact qM v n n
theorem oT (i j:Nat):Builtin.Slice.slicePlaces (i:Int) (j:Int) 1=j-i:=by
 unfold Builtin.Slice.slicePlaces
 have h1:(1:Int) >0:=by lia
 simp only [h1,if_true,Int.ediv_one]
 split <;> lia
theorem dz {v:Value} {o:Option Int} {Q:Option Int->Shared->Prop} (p:IsPart v o) (h:Q o s):wpAny (model prog w) A (Builtin.Slice.slicePartIndex v) Q E s:=by
 cases p with
 | none=>exact slicePart_none h
 | int i t=>exact slicePart_int h
theorem dX {sl:Addr} {vl vu:Value} {lo hi:Option Int} {n:Nat} {Q:Int×Int×Nat->Shared->Prop} (hs:s.heap.IsSliceOf sl vl vu .none) (pl:IsPart vl lo) (pu:IsPart vu hi)
  (h:Q (((sIx n 0 lo:Nat):Int),1,sIx n n hi-sIx n 0 lo) s):wpAny (model prog w) A (Builtin.Slice.sliceApplied (.ref sl) (pure (n:Int))) Q E s:=by
 obtain ⟨os,hos,hcs,hds⟩:=id hs
 unfold Builtin.Slice.sliceApplied Builtin.Slice.sliceFields
 refine wpAny_bind (wpAny_bind (wpAny_field hos hds (x:=vl) rfl (wpAny_bind (wpAny_field hos hds (x:=vu) rfl (wpAny_bind (wpAny_field hos hds (x:=.none) rfl (wpAny_pure ?_)))))))
 refine wpAny_bind (slicePart_none ?_)
 show wpAny _ _ (if ((1:Int)==0)=true then _ else _) _ _ s
 rw [if_neg (by decide)]
 refine wpAny_bind (dz pl (wpAny_bind (dz pu (wpAny_bind (wpAny_pure ?_)))))
 show wpAny _ _ (match Builtin.Slice.sliceAdjust lo hi 1 (n:Int)with | (lo,hi)=>pure (lo,(1:Int),Builtin.Slice.slicePlaces lo hi 1)) _ _ s
 rw [pN lo hi n]
 show wpAny _ _ (pure (((sIx n 0 lo:Nat):Int),(1:Int),Builtin.Slice.slicePlaces ((sIx n 0 lo:Nat):Int) ((sIx n n hi:Nat):Int) 1)) _ _ s
 rw [oT]
 exact wpAny_pure h
theorem uc (xs:Array Value) (i k:Nat):((List.range k).filterMap fun (m:Nat)=>xs[((i:Int) + (m:Int) *1).toNat]?).toArray=((xs.toList.drop i).take k).toArray:=by
 have e:(fun (m:Nat)=>xs[((i:Int) + (m:Int) *1).toNat]?)=fun m=>xs[i+m]? :=by
  funext m
  have:((i:Int) + (m:Int) *1).toNat=i+m:=by lia
  rw [this]
 rw [e]
 have:=pick_run xs i k
 rw [List.filterMap_map]at this
 have e2:((fun x=>xs[x]?)∘fun x=>i+x)=fun m=>xs[i+m]? :=rfl
 rw [e2]at this
 rw [this]
theorem getItem_tuple_cut {t sl:Addr} {items:Array Value} {vl vu:Value} {lo hi:Option Int} {Q:Value->Shared->Prop} (ht:IsTup s.heap t items) (hs:s.heap.IsSliceOf sl vl vu .none) (pl:IsPart vl lo) (pu:IsPart vu hi)
  (hw: ¬ (sIx items.size 0 lo=0/\sIx items.size items.size hi=items.size))
  (h:Q (.ref s.heap.objs.size) {s with heap:=s.heap.push {cls:=.type "tuple",data:=.seq ((items.toList.drop (sIx items.size 0 lo)).take (sIx items.size items.size hi-sIx items.size 0 lo)).toArray}})
  (hsz:items.size<=sizeLine):wpAny (model prog w) A (getItem (.ref t) (.ref sl)) Q E s:=by
 have htake:sizeOk (.seq ((items.toList.drop (sIx items.size 0 lo)).take (sIx items.size items.size hi-sIx items.size 0 lo)).toArray):=by
  show ((items.toList.drop (sIx items.size 0 lo)).take (sIx items.size items.size hi-sIx items.size 0 lo)).toArray.size<=sizeLine
  rw [List.size_toArray,List.length_take,List.length_drop,Array.length_toList]
  lia
 have hj:sIx items.size items.size hi<=items.size:=wZ _ _ (Nat.le_refl _) hi
 obtain ⟨os,hos,hcs,hds⟩:=id hs
 have hTs:s.TypeIs (.ref sl) "slice":=⟨os,hos,hcs⟩
 unfold getItem
 try with_reducible refine wpAny_holding ?_
 first | refine wpAny_bind (wpAny_pure ?_) | skip
 refine wpAny_bind (wpAny_sequenceKey ht.typeIs (by decide) ?_)
 refine wpAny_bind (wpAny_callSpecial?_slot (name:=Str.ofString "__getitem__") ht.typeIs PyProof.Rows.slot_tuple_getitem
  (wpAny_call_entry PyProof.Rows.slot_tuple_getitem ht.typeIs entry_tuple_getitem ?_ (args_tuple_getitem _ _)))
 show wpAny _ _ (Builtin.Tuple.tupleItemsOf (.ref t) >>= _) _ _ s
 refine wpAny_bind (tupleItemsOf_ ht ?_)
 refine wpAny_bind (wpAny_typeOf hTs ?_)
 rw [if_pos (by decide)]
 refine wpAny_bind (dX hs pl pu ?_)
 have hno: ¬ ((((sIx items.size 0 lo:Nat):Int)==0&&(1:Int)==1&&(sIx items.size items.size hi-sIx items.size 0 lo)==items.size)=true):=by
  intro q
  rw [Bool.and_eq_true,Bool.and_eq_true]at q
  have q1:((sIx items.size 0 lo:Nat):Int)=0:=eq_of_beq q.1.1
  have q2:sIx items.size items.size hi-sIx items.size 0 lo=items.size:=eq_of_beq q.2
  exact hw ⟨by lia,by lia⟩
 show wpAny _ _ (if (((sIx items.size 0 lo:Nat):Int)==0&&(1:Int)==1&&(sIx items.size items.size hi-sIx items.size 0 lo)==items.size)=true then _ else _) _ _ s
 rw [if_neg hno,uc]
 first
  | exact wpAny_bind (m:=Builtin.Tuple.tupleExact _) (wpAny_newObj_type (wpAny_pure ⟨_,rfl,wpAny_pure h⟩) htake)
  | exact wpAny_bind (m:=Builtin.Tuple.tupleExact _) (wpAny_newObj_type (wpAny_bind (wpAny_pure (wpAny_pure ⟨_,rfl,wpAny_pure h⟩))) htake)
  | exact wpAny_bind (wpAny_bind (m:=Builtin.Tuple.tupleExact _) (wpAny_newObj_type (wpAny_pure (wpAny_pure ⟨_,rfl,wpAny_pure h⟩)) htake))
  | exact wpAny_bind (wpAny_bind (m:=Builtin.Tuple.tupleExact _) (wpAny_newObj_type (wpAny_pure ⟨_,rfl,wpAny_pure h⟩) htake))
end
end HT
namespace L2
open PySem PySem.Spec PyProof.Rows
noncomputable abbrev TO:=St->Hp->(Option Int->Hp->Prop)->Prop
noncomputable def PO (X:Cx) (e:Option Expr) (t:TO):Prop:=
 ∀ (pins:List (Addr×Obj)) (s:Shared) (σ:St) (H:Hp) (Q:Option Int->Hp->Prop),Inv X pins σ H s->t σ H Q->
  wpAny (model X.prog X.w) X.A (evalPart e X.env) (fun u s'=> ∃ o H',Inv X pins σ H' s'/\IsPart u o/\Q o H') X.xe s
noncomputable def vw:TO:=fun _ H Q=>Q none H
noncomputable def xQ (t:TE):TO:=fun σ H Q=>t σ H fun x H1=> ∃ i,x=.int i/\Q (some i) H1
section
variable {X:Cx} {e:Expr} {te:TE} {lo hi:Option Expr} {tl th:TO} {pos p2:Pos}
theorem cC:PO X none vw:=by
 intro pins s σ H Q I h
 rw [evalPart_none]
 exact wpAny_pure ⟨none,H,I,.none,h⟩
theorem cg (h:PE X e te):PO X (some e) (xQ te):=by
 intro pins s σ H Q I hw
 rw [evalPart_some]
 refine thn (h pins s σ H _ I hw) fun u s1 ⟨x,H1,I1,r1,q1⟩=>?_
 obtain ⟨i,rfl,q⟩:=q1
 obtain ⟨t,rfl⟩:=r1
 exact ⟨some i,H1,I1,.int i t,q⟩
noncomputable def SlR (X:Cx) (r:V->Option Int->Option Int->Hp->VK->Prop):Prop:=
 ∀ (pins:List (Addr×Obj)) (s:Shared) (σ:St) (H:Hp) (x:V) (v vl vu:Value) (lo hi:Option Int) (sl:Addr) (Q:VK),Inv X pins σ H s->RelV x v->s.heap.IsSliceOf sl vl vu .none->IsPart vl lo->IsPart vu hi->r x lo hi H Q->
  ∃ T id,typeLookup (.type T) "__getitem__"=pure (some (.builtin id))/\s.TypeIs v T/\wpAny (model X.prog X.w) X.A (getItem v (.ref sl)) (EP X pins σ Q) X.xe s
noncomputable def tSl (r:V->Option Int->Option Int->Hp->VK->Prop) (te:TE) (tl th:TO):TE:=fun σ H Q=>te σ H fun x H1=>tl σ H1 fun l H2=>th σ H2 fun u H3=>r x l u H3 Q
theorem bA {r:V->Option Int->Option Int->Hp->VK->Prop} (hr:SlR X r) (he:PE X e te) (hl:PO X lo tl) (hu:PO X hi th):PE X (.Subscript e (.Slice lo hi none p2) pos) (tSl r te tl th):=by
 intro pins s σ H Q I h
 refine Subscript_ (thn (he pins s σ H _ I h) fun v s1 ⟨x,H1,I1,r1,q1⟩=>?_)
 refine wpAny_Slice (thn (hl pins s1 σ H1 _ I1 q1) fun vl s2 ⟨l,H2,I2,pl,q2⟩=>thn (hu pins s2 σ H2 _ I2 q2) fun vu s3 ⟨u,H3,I3,pu,q3⟩=>?_)
 rw [evalPart_none]
 refine wpAny_pure ?_
 have I4:Inv X pins σ H3 {s3 with heap:=s3.heap.push {cls:=.type "slice",data:=.fields #[vl,vu,.none]}}:=I3.kept (t':=s3.toks) fun b ob q=>Heap.get?_push_of_some _ q
 obtain ⟨T,id,hT,ht,hg⟩:=hr pins {s3 with heap:=s3.heap.push {cls:=.type "slice",data:=.fields #[vl,vu,.none]}} σ H3 x v vl vu l u s3.heap.objs.size Q I4 r1 (Heap.IsSliceOf.new ..) pl pu q3
 show wpAny (model X.prog X.w) X.A (subscriptTail e (.Slice lo hi none p2) v (.ref s3.heap.objs.size)) (EP X pins σ Q) X.xe {s3 with heap:=s3.heap.push {cls:=.type "slice",data:=.fields #[vl,vu,.none]}}
 exact tail_any (ops:=[.ref s3.heap.objs.size,v]) ht hT hg (by with_unfolding_all rfl)
noncomputable def dD (xs:List V) (lo hi:Option Int):List V:=(xs.drop (HT.sIx xs.length 0 lo)).take (HT.sIx xs.length xs.length hi-HT.sIx xs.length 0 lo)
theorem iw (xs:List V) (lo hi:Option Int):(dD xs lo hi).length<=xs.length:=by
 unfold dD
 rw [List.length_take,List.length_drop]
 lia
noncomputable def yQ (K:PySem.W.Frag):V->Option Int->Option Int->Hp->VK->Prop:=fun x lo hi H Q=> ∃ a xs,x=.ref a/\SqT K H a xs/\
 ¬ (HT.sIx xs.length 0 lo=0/\HT.sIx xs.length xs.length hi=xs.length)/\ ∀ p,H p=none->Q (.ref p) (upd H p (.tup (dD xs lo hi)))
theorem lh:SlR X (yQ X.K):=by
 intro pins s σ H x v vl vu lo hi sl Q I rx hs pl pu h
 obtain ⟨a,xs,rfl,hx,hw,q⟩:=h
 cases rx
 obtain ⟨its,r,ht,hz⟩:=I.tuple hx
 have hlen:its.toArray.size=xs.length:=by rw [List.size_toArray];exact r.length.symm
 refine ⟨"tuple",_,PyProof.Rows.slot_tuple_getitem.lookup,ht.typeIs,?_⟩
 refine HT.getItem_tuple_cut ht hs pl pu (by rw [hlen];exact hw) ?_ (by rw [hlen];exact hz)
 rw [hlen]
 refine ⟨.ref s.heap.objs.size,_,I.laid (t':=s.toks) (o:=.tup (dD xs lo hi)) (fun b ob q=>Heap.get?_push_of_some _ q) (Nat.le_refl _) ?_,rfl,q _ (I.hok.fresh (Nat.le_refl _))⟩
 exact ⟨Nat.le_trans (iw xs lo hi) hz,_,(r.drop (HT.sIx xs.length 0 lo)).take (HT.sIx xs.length xs.length hi-HT.sIx xs.length 0 lo),IsTup.new _ _⟩
noncomputable def ya (K:PySem.W.Frag):R2:=fun x y H Q=> ∃ a b xs ys,x=.ref a/\y=.ref b/\SqT K H a xs/\SqT K H b ys/\xs≠[]/\xs.length+ys.length<=sizeLine/\
 (ys=[]->Q (.ref a) H)/\(ys≠[]-> ∀ p,H p=none->Q (.ref p) (upd H p (.tup (xs++ys))))
theorem Vals.nil_iff {xs:List V} {us:List Value} (r:Vals xs us):us=[]↔xs=[]:=by
 cases r with
 | nil=>simp
 | cons _ _=>simp
theorem vM:OpR X (binaryOp .Add) (ya X.K):=by
 intro pins s σ H x y v u Q I rx ry h
 obtain ⟨a,b,xs,ys,rfl,rfl,ha,hb,hx,hz,q1,q2⟩:=h
 cases rx
 cases ry
 obtain ⟨its,r1,p1,_⟩:=I.tuple ha
 obtain ⟨its2,r2,p2,_⟩:=I.tuple hb
 refine HT.cat_tup p1 p2 (fun z=>hx (r1.nil_iff.mp z)) (fun z=>⟨.ref a,H,I,rfl,q1 (r2.nil_iff.mp z)⟩) (fun z=>?_) (by rw [<- r1.length,<- r2.length];exact hz)
 refine ⟨.ref s.heap.objs.size,_,I.laid (t':=s.toks) (o:=.tup (xs++ys)) (fun b ob q=>Heap.get?_push_of_some _ q) (Nat.le_refl _) ?_,rfl,q2 (fun w=>z (r2.nil_iff.mpr w)) _ (I.hok.fresh (Nat.le_refl _))⟩
 exact ⟨by rw [List.length_append];exact hz,_,r1.append r2,IsTup.new _ _⟩
end
noncomputable def ixN (n:Nat) (i:Int):Option Nat:=if 0<=i then (if i<n then some i.toNat else none)else if -(n:Int)<=i then some (i+n).toNat else none
noncomputable def atI {α:Type} (xs:List α) (i:Int):Option α:=(ixN xs.length i).bind fun j=>xs[j]?
theorem qB {n:Nat} {i:Int} {j:Nat} (h:ixN n i=some j):seqIndex? i n=some j/\j<n/\ -(n:Int)<=i/\i<n:=by
 unfold ixN at h
 by_cases h0:0<=i
 ·rw [if_pos h0]at h
  by_cases h1:i<n
  ·rw [if_pos h1]at h
   have e:i.toNat=j:=Option.some.inj h
   exact ⟨by rw [seqIndex_of h0 h1,e],by lia,by lia,h1⟩
  ·rw [if_neg h1]at h;cases h
 ·rw [if_neg h0]at h
  by_cases h1: -(n:Int)<=i
  ·rw [if_pos h1]at h
   have e:(i+n).toNat=j:=Option.some.inj h
   exact ⟨by rw [seqIndex_neg (by lia) h1,e],by lia,h1,by lia⟩
  ·rw [if_neg h1]at h;cases h
theorem l6 {α:Type} {xs:List α} {i:Int} {v:α} (h:atI xs i=some v): ∃ j,seqIndex? i xs.length=some j/\xs[j]? =some v/\j<xs.length/\ -(xs.length:Int)<=i/\i<xs.length:=by
 unfold atI at h
 cases e:ixN xs.length i with
 | none=>rw [e]at h;cases h
 | some j=>
  rw [e]at h
  obtain ⟨h1,h2,h3,h4⟩:=qB e
  exact ⟨j,h1,h,h2,h3,h4⟩
theorem ao {α:Type} {xs:List α} {j:Nat} {v:α} (h:xs[j]? =some v):atI xs (j:Int)=some v:=by
 have hj:j<xs.length:=(List.getElem?_eq_some_iff.mp h).1
 have e:ixN xs.length (j:Int)=some j:=by
  unfold ixN
  rw [if_pos (by lia),if_pos (by lia)];simp
 unfold atI;rw [e];exact h
noncomputable def wA (b:Expr):Prop:= ∀ o i,subscripted b false o i=operate [o,i] (getItem o i)
noncomputable def IxR (X:Cx) (r:R2):Prop:=
 ∀ (value slice:Expr) (pins:List (Addr×Obj)) (s:Shared) (σ:St) (H:Hp) (x y:V) (v u:Value) (Q:VK),Inv X pins σ H s->RelV x v->RelV y u->r x y H Q->
  subscripted slice false v u=operate [v,u] (getItem v u)->wpAny (model X.prog X.w) X.A (subscriptTail value slice v u) (EP X pins σ Q) X.xe s
noncomputable def MtR (X:Cx) (id:String) (r:V->List V->Hp->VK->Prop):Prop:=
 ∀ (pins:List (Addr×Obj)) (s:Shared) (σ:St) (H:Hp) (x:V) (xs:List V) (v:Value) (us:List Value) (Q:VK),Inv X pins σ H s->RelV x v->Vals xs us->r x xs H Q->
  wpAny (model X.prog X.w) X.A (call (.builtin id) (v::us)) (EP X pins σ Q) X.xe s
section
variable {X:Cx} {a b:Expr} {ta tb:TE} {pos:Pos}
theorem aq {r:R2} (hr:IxR X r) (ha:PE X a ta) (hb:PE X b tb) (hs:wA b):PE X (.Subscript a b pos) (tOp r ta tb):=by
 intro pins s σ H Q I h
 exact Subscript_ (xG ha hb I h fun v u s2 x y H2 I2 rx ry q=>hr a b pins s2 σ H2 x y v u Q I2 rx ry q (hs _ _))
noncomputable def xb (K:PySem.W.Frag):R2:=fun x y H Q=> ∃ p xs i v,x=.ref p/\y=.int i/\SqL K H p xs/\atI xs i=some v/\Q v H
noncomputable def lG (K:PySem.W.Frag):R2:=fun x y H Q=> ∃ p xs i v,x=.ref p/\y=.int i/\SqT K H p xs/\atI xs i=some v/\Q v H
noncomputable def yU:R2:=fun x y H Q=> ∃ z i c,x=.str z/\y=.int i/\z.length<=sizeLine/\atI z.cps.toList i=some c/\Q (.str ⟨#[c]⟩) H
theorem aL:IxR X (xb X.K):=by
 intro value slice pins s σ H x y v u Q I rx ry h hs
 obtain ⟨p,xs,i,z,rfl,rfl,hq,he,q⟩:=h
 cases rx
 obtain ⟨t,rfl⟩:=ry
 obtain ⟨its,r,pl,hz⟩:=I.list hq
 obtain ⟨j,h1,h2,h3,h4,h5⟩:=l6 he
 obtain ⟨w,ew,rw'⟩:=r.get h2
 have hl:=r.length
 have hn:=ib
 have fin:EP X pins σ Q w s:=⟨z,H,I,rw',q⟩
 by_cases h0:0<=i
 ·have hj:i.toNat=j:=by
   rw [seqIndex_of h0 h5]at h1
   exact Option.some.inj h1
  exact item_listR pl.isList h0 (by lia) (by rw [hj];simpa using ew) fin hs
 ·have hj:(i+ (its.toArray.size:Int)).toNat=j:=by
   rw [seqIndex_neg (by lia) h4]at h1
   rw [List.size_toArray,<- hl]
   exact Option.some.inj h1
  exact subscriptTail_builtinR (x:=w) pl.isList.typeIs slot_list_getitem.lookup
   (wpAny_getItem_list_neg (Q:=fun r s'=>r=w/\EP X pins σ Q r s') pl.isList (by lia) (by rw [List.size_toArray] <;> lia) (by lia) (by rw [hj];simpa using ew) ⟨rfl,fin⟩) hs
theorem aB:IxR X (lG X.K):=by
 intro value slice pins s σ H x y v u Q I rx ry h hs
 obtain ⟨p,xs,i,z,rfl,rfl,hq,he,q⟩:=h
 cases rx
 obtain ⟨t,rfl⟩:=ry
 obtain ⟨its,r,pl,hz⟩:=I.tuple hq
 obtain ⟨j,h1,h2,h3,h4,h5⟩:=l6 he
 obtain ⟨w,ew,rw'⟩:=r.get h2
 have hl:=r.length
 have hn:=ib
 have fin:EP X pins σ Q w s:=⟨z,H,I,rw',q⟩
 exact subscriptTail_builtinR (x:=w) pl.typeIs slot_tuple_getitem.lookup
  (getItem_tuple (j:=j) (Q:=fun r s'=>r=w/\EP X pins σ Q r s') pl (by lia) (by lia) (by rw [List.size_toArray,<- hl];exact h1) (by simpa using ew) ⟨rfl,fin⟩) hs
theorem pC:IxR X yU:=by
 intro value slice pins s σ H x y v u Q I rx ry h hs
 obtain ⟨z,i,c,rfl,rfl,hz,he,q⟩:=h
 obtain ⟨t,rfl⟩:=rx
 obtain ⟨t',rfl⟩:=ry
 obtain ⟨j,h1,h2,h3,h4,h5⟩:=l6 he
 have hl:z.cps.toList.length=z.length:=by simp [Str.length]
 rw [hl]at h1 h4 h5
 have hn:=ib
 exact tail_any (typeIs_str s z t) slot_str_getitem.lookup (getItem_str (c:=c) (by
  have e1:decide (i< -(2^63:Int))=false:=decide_eq_false (by lia)
  have e2:decide (i≥2^63)=false:=decide_eq_false (by lia)
  rw [e1,e2,Bool.or_false]) (by rw [h1];simpa using h2) ⟨.str ⟨#[c]⟩,H,I.tok _,⟨_,rfl⟩,q⟩) hs
theorem pA (its:List Value) (n j:Nat) (u:Value):Obj.mapSeq (·.setIfInBounds j u) {cls:=.type "list",data:=.seq its.toArray n}={cls:=.type "list",data:=.seq (its.set j u).toArray n}:=by
 simp [Obj.mapSeq]
theorem Inv.lst {pins:List (Addr×Obj)} {σ:St} {H:Hp} {s:Shared} {p:Addr} {xs:List V} (I:Inv X pins σ H s) (h:H p=some (.lst xs)):
  ∃ (its:List Value) (n:Nat),Vals xs its/\s.heap.get? p=some {cls:=.type "list",data:=.seq its.toArray n}/\xs.length<=sizeLine:=by
 obtain ⟨z,its,n,r,e⟩:=I.hok p _ h
 exact ⟨its,n,r,e,z⟩
theorem Inv.lstUpd {pins:List (Addr×Obj)} {σ:St} {H:Hp} {s:Shared} {p:Addr} {xs ys:List V} {its its':List Value} {n n':Nat} {f:Obj->Obj} (I:Inv X pins σ H s) (h:H p=some (.lst xs))
  (ho:s.heap.get? p=some {cls:=.type "list",data:=.seq its.toArray n}) (hf:f {cls:=.type "list",data:=.seq its.toArray n}={cls:=.type "list",data:=.seq its'.toArray n'}) (r:Vals ys its') (hz:ys.length<=sizeLine) (t:Nat):
  Inv X pins σ (upd H p (.lst ys)) {s with heap:=s.heap.update p f,toks:=t}:=by
 have e:(s.heap.update p f).get? p=some {cls:=.type "list",data:=.seq its'.toArray n'}:=by
  rw [Heap.get?_update_self f ho (by rw [hf] <;> rfl),hf]
 refine I.write (x:=p) (e:=p) (by rw [h];trivial) (.inl rfl) (fun b u hb q=>(Heap.get?_update_other _ _ (Ne.symm hb)).trans q) ⟨_,e⟩ ?_
 exact ⟨hz,its',n',r,e⟩
noncomputable def x6:V->V->V->Hp->(Hp->Prop)->Prop:=fun o i v H Q=> ∃ p xs k j,o=.ref p/\i=.int k/\H p=some (.lst xs)/\ixN xs.length k=some j/\Q (upd H p (.lst (xs.set j v)))
theorem mH:yB X x6:=by
 intro pins s σ H o i v ov iv u Q I ro ri rv h
 obtain ⟨p,xs,k,j,rfl,rfl,hp,hj,q⟩:=h
 cases ro
 obtain ⟨t,rfl⟩:=ri
 obtain ⟨its,n,r,ho,hz⟩:=I.lst hp
 obtain ⟨h1,h2,h3,h4⟩:=qB hj
 have hl:=r.length
 have hn:=ib
 have I':Inv X pins σ (upd H p (.lst (xs.set j v))) {s with heap:=s.heap.update p (Obj.mapSeq (·.setIfInBounds j u))}:=
  I.lstUpd hp ho (pA its n j u) (r.set rv j) (by rw [List.length_set];exact hz) s.toks
 by_cases h0:0<=k
 ·have hk:k.toNat=j:=by
   rw [seqIndex_of h0 h4]at h1
   exact Option.some.inj h1
  exact PySem.W.ki_setAt ho h0 (by lia) (by rw [List.size_toArray,<- hl];exact h4) (by rw [hk];exact ⟨_,I',q⟩)
 ·have hk:(k+ (its.toArray.size:Int)).toNat=j:=by
   rw [seqIndex_neg (by lia) h3]at h1
   rw [List.size_toArray,<- hl]
   exact Option.some.inj h1
  exact PySem.W.ki_setBack ho (by lia) (by rw [List.size_toArray,<- hl];exact h3) (by lia) (by rw [hk];exact ⟨_,I',q⟩)
theorem lg (lo hi:Option Int) (n:Nat):(sliceBounds lo hi none n).1=((HT.sIx n 0 lo:Nat):Int)/\(sliceBounds lo hi none n).2.1=((HT.sIx n n hi:Nat):Int)/\(sliceBounds lo hi none n).2.2=1:=by
 refine ⟨?_,?_,rfl⟩
 ·cases lo with
  | none=>simp [sliceBounds,HT.sIx]
  | some i=>
   simp only [sliceBounds,HT.sIx,Option.getD_none,show (1:Int) >0 by decide,if_true]
   by_cases h:i<0
   ·simp only [h,if_true] <;> lia
   ·simp only [h,if_false] <;> lia
 ·cases hi with
  | none=>simp [sliceBounds,HT.sIx]
  | some i=>
   simp only [sliceBounds,HT.sIx,Option.getD_none,show (1:Int) >0 by decide,if_true]
   by_cases h:i<0
   ·simp only [h,if_true] <;> lia
   ·simp only [h,if_false] <;> lia
theorem jI (its:List Value) (lo hi:Option Int):slicePick its.toArray lo hi none=((its.drop (HT.sIx its.length 0 lo)).take (HT.sIx its.length its.length hi-HT.sIx its.length 0 lo)).toArray:=by
 obtain ⟨h1,h2,h3⟩:=lg lo hi its.toArray.size
 unfold slicePick
 rw [h1,h2,h3]
 simp only [sliceRange_one,pick_run,List.size_toArray] <;> rfl
noncomputable def yS (K:PySem.W.Frag):V->Option Int->Option Int->Hp->VK->Prop:=fun x lo hi H Q=> ∃ a xs,x=.ref a/\SqL K H a xs/\ ∀ p,H p=none->Q (.ref p) (upd H p (.lst (dD xs lo hi)))
theorem iD:SlR X (yS X.K):=by
 intro pins s σ H x v vl vu lo hi sl Q I rx hs pl pu h
 obtain ⟨a,xs,rfl,hx,q⟩:=h
 cases rx
 obtain ⟨its,r,ht,hz⟩:=I.list hx
 have hlen:=r.length
 refine ⟨"list",_,slot_list_getitem.lookup,ht.isList.typeIs,?_⟩
 refine wpAny_getItem_list_slice ht.isList hs pl pu .none (by simp) ?_ (by rw [List.size_toArray] <;> lia)
 rw [jI,<- hlen]
 refine ⟨.ref s.heap.objs.size,_,I.laid (t':=s.toks) (o:=.lst (dD xs lo hi)) (fun b ob q=>Heap.get?_push_of_some _ q) (Nat.le_refl _) ?_,rfl,q _ (I.hok.fresh (Nat.le_refl _))⟩
 exact ⟨Nat.le_trans (iw xs lo hi) hz,_,0,(r.drop (HT.sIx xs.length 0 lo)).take (HT.sIx xs.length xs.length hi-HT.sIx xs.length 0 lo),Heap.get?_push_size _ rfl⟩
noncomputable def gH:V->Bool
 | .non=>true
 | .bl _=>true
 | .int _=>true
 | .str _=>true
 | _=>false
noncomputable def eqV:V->V->Bool
 | .non,.non=>true
 | .bl a,.bl b=>a==b
 | .bl a,.int b=>(if a then 1 else 0)==b
 | .int a,.bl b=>a==(if b then 1 else 0)
 | .int a,.int b=>a==b
 | .str a,.str b=>a==b
 | _,_=>false
theorem xB {A:Around} {s:Shared} {y x:V} {u v:Value} (ry:RelV y u) (rx:RelV x v) (fy:gH y=true) (fx:gH x=true):SeqAt.EqAt A s u v (eqV y x):=by
 cases y with
 | non=>
  cases ry
  cases x with
  | non=>cases rx;exact SeqAt.EqAt.same _
  | bl b=>cases rx;exact SeqAt.EqAt.none_bool b
  | int b=>obtain ⟨t,rfl⟩:=rx;exact SeqAt.EqAt.none_int b t
  | str b=>obtain ⟨t,rfl⟩:=rx;exact SeqAt.EqAt.none_str b t
  | _=>exact absurd (show false=true from fx) Bool.false_ne_true
 | bl a=>
  cases ry
  cases x with
  | non=>cases rx;exact SeqAt.EqAt.bool_none a
  | bl b=>cases rx;exact SeqAt.EqAt.bool_bool a b
  | int b=>obtain ⟨t,rfl⟩:=rx;exact SeqAt.EqAt.bool_int a b t
  | str b=>obtain ⟨t,rfl⟩:=rx;exact SeqAt.EqAt.bool_str a b t
  | _=>exact absurd (show false=true from fx) Bool.false_ne_true
 | int a=>
  obtain ⟨t',rfl⟩:=ry
  cases x with
  | non=>cases rx;exact SeqAt.EqAt.int_none a t'
  | bl b=>cases rx;exact SeqAt.EqAt.int_bool a t' b
  | int b=>obtain ⟨t,rfl⟩:=rx;exact SeqAt.EqAt.int_int a t' b t
  | str b=>obtain ⟨t,rfl⟩:=rx;exact SeqAt.EqAt.int_str a t' b t
  | _=>exact absurd (show false=true from fx) Bool.false_ne_true
 | str a=>
  obtain ⟨t',rfl⟩:=ry
  cases x with
  | non=>cases rx;exact SeqAt.EqAt.str_none a t'
  | bl b=>cases rx;exact SeqAt.EqAt.str_bool a t' b
  | int b=>obtain ⟨t,rfl⟩:=rx;exact SeqAt.EqAt.str_int a t' b t
  | str b=>obtain ⟨t,rfl⟩:=rx;exact SeqAt.EqAt.str_str a t' b t
  | _=>exact absurd (show false=true from fx) Bool.false_ne_true
 | _=>exact absurd (show false=true from fy) Bool.false_ne_true
noncomputable def eqU (x:V) (u:Value):Bool:=match u with
 | .none=>eqV .non x
 | .bool b=>eqV (.bl b) x
 | .int i _=>eqV (.int i) x
 | .str z _=>eqV (.str z) x
 | _=>false
theorem u0 {x y:V} {u:Value} (r:RelV y u) (f:gH y=true):eqU x u=eqV y x:=by
 cases y with
 | non=>cases r;rfl
 | bl b=>cases r;rfl
 | int i=>obtain ⟨t,rfl⟩:=r;rfl
 | str z=>obtain ⟨t,rfl⟩:=r;rfl
 | _=>exact absurd (show false=true from f) Bool.false_ne_true
theorem l8 {x:V}: ∀ {xs:List V} {us:List Value},Vals xs us->xs.all gH=true->us.any (eqU x)=xs.any fun y=>eqV y x
 | _,_,.nil,_=>rfl
 | y::xs,u::us,.cons r t,f=>by
  rw [List.all_cons,Bool.and_eq_true]at f
  rw [List.any_cons,List.any_cons,u0 r f.1,l8 t f.2]
theorem jm {A:Around} {s:Shared} {x:V} {v:Value} (rx:RelV x v) (fx:gH x=true): ∀ {xs:List V} {us:List Value},Vals xs us->xs.all gH=true-> ∀ u∈us,SeqAt.EqAt A s u v (eqU x u)
 | _,_,.nil,_=>fun u hu=>by cases hu
 | y::xs,u::us,.cons r t,f=>fun u' hu=>by
  rw [List.all_cons,Bool.and_eq_true]at f
  rcases List.mem_cons.mp hu with rfl | hu
  ·rw [u0 r f.1];exact xB r rx f.1 fx
  ·exact jm rx fx t f.2 u' hu
noncomputable def inV (x:V) (xs:List V):Bool:=xs.any fun y=>eqV y x
noncomputable def rIn (K:PySem.W.Frag) (neg:Bool):R2:=fun x y H Q=> ∃ p xs,y=.ref p/\(SqL K H p xs\/SqT K H p xs)/\gH x=true/\xs.all gH=true/\Q (.bl (if neg then !inV x xs else inV x xs)) H
theorem hX:OpR X (compareOp .In) (rIn X.K false):=by
 intro pins s σ H x y v u Q I rx ry h
 obtain ⟨p,xs,rfl,hq,fx,fs,q⟩:=h
 cases ry
 rcases hq with hq | hq
 ·obtain ⟨its,r,pl,hz⟩:=I.list hq
  refine SeqAt.in_listAt (eqU x) pl.isList (fun w hw=>jm rx fx r fs w (by simpa using hw)) ⟨.bl _,H,I,rfl,?_⟩
  rw [show its.toArray.any (eqU x)=its.any (eqU x) by simp,l8 r fs]
  exact q
 ·obtain ⟨its,r,pl,hz⟩:=I.tuple hq
  refine SeqAt.in_tupleAt (eqU x) pl (fun w hw=>jm rx fx r fs w (by simpa using hw)) ⟨.bl _,H,I,rfl,?_⟩
  rw [show its.toArray.any (eqU x)=its.any (eqU x) by simp,l8 r fs]
  exact q
theorem aJ:dG X (.builtin "len") (fun xs H Q=> ∃ p ys,xs=[.ref p]/\(SqL X.K H p ys\/SqT X.K H p ys)/\Q (.int ys.length) H):=by
 intro pins s σ H xs us Q I r h
 obtain ⟨p,ys,rfl,hq,q⟩:=h
 obtain ⟨u,rfl,rx⟩:=fB r
 cases rx
 have hn:=ib
 rcases hq with hq | hq
 ·obtain ⟨its,r',pl,hz⟩:=I.list hq
  have hlen:=r'.length
  exact Calls.call_len_list pl.isList (by simp only [List.size_toArray] <;> lia) ⟨.int ys.length,H,I.tok _,⟨s.toks+1,by rw [List.size_toArray,hlen]⟩,q⟩
 ·obtain ⟨its,r',pl,hz⟩:=I.tuple hq
  have hlen:=r'.length
  exact len_tuple pl (by simp only [List.size_toArray] <;> lia) ⟨.int ys.length,H,I.tok _,⟨s.toks+1,by rw [List.size_toArray,hlen]⟩,q⟩
theorem l5:dG X (.type "list") (fun xs H Q=> ∃ p ys,xs=[.ref p]/\(SqL X.K H p ys\/SqT X.K H p ys)/\ ∀ l,H l=none->Q (.ref l) (upd H l (.lst ys))):=by
 intro pins s σ H xs us Q I r h
 obtain ⟨p,ys,rfl,hq,q⟩:=h
 obtain ⟨u,rfl,rx⟩:=fB r
 cases rx
 have fin: ∀ (its:List Value),Vals ys its->ys.length<=sizeLine-> ∀ (h':Heap) (c':Nat),(∀ b o',s.heap.get? b=some o'->h'.get? b=some o')->
   h'.get? s.heap.objs.size=some {cls:=.type "list",dict:=none,data:=.seq its.toArray c',slots:= #[]}->EP X pins σ Q (.ref s.heap.objs.size) {s with heap:=h'}:=fun its r' hz h' c' kp e=>
  ⟨.ref s.heap.objs.size,_,I.laid (t':=s.toks) kp (Nat.le_refl _) (show ObjOk X.prog X.w _ h' _ (.lst ys)from ⟨hz,its,c',r',e⟩),rfl,q _ (I.hok.fresh (Nat.le_refl _))⟩
 rcases hq with hq | hq
 ·obtain ⟨its,r',pl,hz⟩:=I.list hq
  have hlen:=r'.length
  obtain ⟨o,ho,hc,n,hd⟩:=pl.isList
  exact call_list_seq p (.inl rfl) ho hc hd (fun h' c' kp e=>fin its r' hz h' c' kp e) (by simp only [List.size_toArray] <;> lia)
 ·obtain ⟨its,r',pl,hz⟩:=I.tuple hq
  have hlen:=r'.length
  obtain ⟨o,ho,hc,n,hd⟩:=pl
  exact call_list_seq p (.inr rfl) ho hc hd (fun h' c' kp e=>fin its r' hz h' c' kp e) (by simp only [List.size_toArray] <;> lia)
theorem aW:dG X (.type "tuple") (fun xs H Q=> ∃ p ys,xs=[.ref p]/\((SqL X.K H p ys/\ ∀ l,H l=none->Q (.ref l) (upd H l (.tup ys)))\/(SqT X.K H p ys/\Q (.ref p) H))):=by
 intro pins s σ H xs us Q I r h
 obtain ⟨p,ys,rfl,h⟩:=h
 obtain ⟨u,rfl,rx⟩:=fB r
 cases rx
 rcases h with ⟨hq,q⟩ | ⟨hq,q⟩
 ·obtain ⟨its,r',pl,hz⟩:=I.list hq
  have hlen:=r'.length
  refine call_tuple_list pl.isList (fun h' kp=>?_) (by simp only [List.size_toArray] <;> lia)
  have I1:Inv X pins σ H {s with heap:=h'}:=I.kept (t':=s.toks) kp
  have I2:Inv X pins σ (upd H h'.objs.size (.tup ys)) {s with heap:=h'.push {cls:=.type "tuple",data:=.seq its.toArray}}:=
   I1.laid (t':=s.toks) (fun b o e=>Heap.get?_push_of_some _ e) (Nat.le_refl _) (show ObjOk X.prog X.w _ _ _ (.tup ys)from ⟨hz,its,r',IsTup.new _ _⟩)
  exact ⟨.ref h'.objs.size,_,I2,rfl,q _ (I1.hok.fresh (Nat.le_refl _))⟩
 ·obtain ⟨its,r',pl,hz⟩:=I.tuple hq
  exact call_tuple_same pl ⟨.ref p,H,I,rfl,q⟩
noncomputable def tyV (K:PySem.W.Frag) (T:String) (x:V) (H:Hp):Prop:=match x with
 | .str _=>T="str"
 | .int _=>T="int"
 | .ref p=>(T="list"/\ ∃ xs,SqL K H p xs)\/(T="tuple"/\ ∃ o,K.lookup p=some o/\o.cls=.type "tuple"/\o.dict=none)\/
   (T="dict"/\((∃ kvs,H p=some (.dK kvs))\/ ∃ kvs,H p=some (.dT kvs)))\/(T="set"/\ ∃ S n,H p=some (.set S n))
 | _=>False
theorem sS {pins:List (Addr×Obj)} {σ:St} {H:Hp} {s:Shared} {T:String} {x:V} {v:Value} (I:Inv X pins σ H s) (r:RelV x v) (ty:tyV X.K T x H):
  s.TypeIs v T/\ ∀ a,v=.ref a-> ∃ ob,s.heap.get? a=some ob/\ob.dict=none:=by
 cases x with
 | str z=>
  obtain ⟨t,rfl⟩:=r
  cases (show T="str" from ty)
  exact ⟨typeIs_str s z t,fun _ e=>nomatch e⟩
 | int i=>
  obtain ⟨t,rfl⟩:=r
  cases (show T="int" from ty)
  exact ⟨typeIs_int s i t,fun _ e=>nomatch e⟩
 | ref p=>
  cases r
  rcases ty with ⟨rfl,xs,hq⟩ | ⟨rfl,o,hk,hc,hd⟩ | ⟨rfl,hk⟩ | ⟨rfl,S,n,hk⟩
  ·obtain ⟨its,_,pl,_⟩:=I.list hq
   refine ⟨pl.isList.typeIs,fun a e=>?_⟩
   cases e
   obtain ⟨o,n,e,c,hd,_⟩:=pl
   exact ⟨o,e,hd⟩
  ·refine ⟨⟨o,I.kIn p o hk,hc⟩,fun a e=>?_⟩
   cases e
   exact ⟨o,I.kIn _ o hk,hd⟩
  ·have z: ∃ o,s.heap.get? p=some o/\o.ExactDict:=by
    rcases hk with ⟨kvs,hk⟩ | ⟨kvs,hk⟩
    ·obtain ⟨_,_,_,_,o,_,_,e,ex,_⟩:=I.hok p _ hk
     exact ⟨o,e,ex⟩
    ·obtain ⟨_,_,_,_,o,_,_,e,ex,_⟩:=I.hok p _ hk
     exact ⟨o,e,ex⟩
   obtain ⟨o,e,ex⟩:=z
   refine ⟨⟨o,e,ex.1⟩,fun a e2=>?_⟩
   cases e2
   exact ⟨o,e,ex.2.1⟩
  ·obtain ⟨o,_,_,_,e,ex,_⟩:=I.hok p _ hk
   refine ⟨⟨o,e,ex.1⟩,fun a e2=>?_⟩
   cases e2
   exact ⟨o,e,ex.2.1⟩
 | _=>exact False.elim ty
noncomputable def wU (K:PySem.W.Frag) (T:String) (r:V->List V->Hp->VK->Prop) (to:TE):TE:=fun σ H Q=>to σ H fun x H1=>tyV K T x H1/\r x [] H1 Q
noncomputable def tBM (K:PySem.W.Frag) (T:String) (r:V->List V->Hp->VK->Prop) (to:TE) (t:TA):TE:=fun σ H Q=>to σ H fun x H1=>tyV K T x H1/\t σ H1 fun xs H2=>r x xs H2 Q
variable {o e:Expr} {es:List Expr} {to:TE} {t:TA} {name:Str} {apos cpos:Pos} {T id:String} {r:V->List V->Hp->VK->Prop}
theorem hU (pa:PlainAttrs T) (slot:Slot T name id) (hty:typeOf (.builtin id)=pure (.type "method_descriptor")) (hm:MtR X id r) (ho:PE X o to)
  (hbase:attributeBase o name X.env (eval o X.env)=eval o X.env:=by rfl) (hline:(apos.endLine==cpos.line)=true:=by rfl):PE X (.Call (.Attribute o name apos) [] [] cpos) (wU X.K T r to):=by
 intro pins s σ H Q I h
 refine wpAny_Call_method0_late hbase hline (thn (ho pins s σ H _ I h) fun v s1 ⟨x,H1,I1,r1,ty,q1⟩=>?_)
 obtain ⟨h1,h2⟩:=sS I1 r1 ty
 exact ⟨T,id,pa,slot,hty,h1,h2,Calls.callWith_builtin rfl (PySem.evalArgs_none (hm pins s1 σ H1 x [] v [] Q I1 r1 .nil q1))⟩
theorem ee (pa:PlainAttrs T) (slot:Slot T name id) (hty:typeOf (.builtin id)=pure (.type "method_descriptor")) (hm:MtR X id r) (ho:PE X o to) (ha:PA X (e::es) t)
  (hbase:attributeBase o name X.env (eval o X.env)=eval o X.env:=by rfl)
  (hfew:((backTo cpos (starEach (e::es) X.env)).all (fun x=> !x.1)&&(backToKw cpos (keywordEach [] X.env)).all (fun x=>x.1.isSome)
   &&decide ((e::es).length+ ([]:List Keyword).length+ (if ([]:List Keyword).isEmpty then 0 else 1) <30))=true:=by rfl)
  (hline:(apos.endLine==cpos.line)=true:=by rfl) (hs:starEach (e::es) X.env=(false,eval e X.env)::starEach es X.env:=by rfl) (hplain:(backTo cpos (starEach es X.env)).any (·.1)=false:=by rfl):
  PE X (.Call (.Attribute o name apos) (e::es) [] cpos) (tBM X.K T r to t):=by
 intro pins s σ H Q I h
 refine wpAny_Call_method_late hbase hfew hline rfl (thn (ho pins s σ H _ I h) fun v s1 ⟨x,H1,I1,r1,ty,q1⟩=>?_)
 obtain ⟨h1,h2⟩:=sS I1 r1 ty
 refine ⟨T,id,pa,slot,hty,h1,h2,?_⟩
 have hA:=ha cpos pins s1 σ H1 _ I1 q1
 rw [hs]at hA ⊢
 refine Calls.callWith_builtin (by show (false||(backTo cpos (starEach es X.env)).any (·.1))=false;rw [hplain] <;> rfl) (Calls.evalArgs_plain ?_)
 exact thn hA fun us s2 ⟨vs,H2,I2,r2,q2⟩=>hm pins s2 σ H2 x vs v us Q I2 r1 r2 q2
end
noncomputable def MtM (X:Cx) (id:String) (r:V->List V->Hp->VK->Prop):Prop:=
 ∀ (pins:List (Addr×Obj)) (s:Shared) (σ:St) (H:Hp) (x:V) (xs:List V) (v:Value) (us:List Value) (Q:VK),Inv X pins σ H s->RelV x v->Vals xs us->r x xs H Q->
  wpAny (model X.prog X.w) X.A (call (.builtin id) (v::us)) (EP X pins σ Q) X.xe s
theorem Vals.one: ∀ {x:V} {us:List Value},Vals [x] us-> ∃ u,us=[u]/\RelV x u
 | _,_,.cons r .nil=>⟨_,rfl,r⟩
theorem Vals.two: ∀ {x y:V} {us:List Value},Vals [x,y] us-> ∃ u v,us=[u,v]/\RelV x u/\RelV y v
 | _,_,_,.cons r (.cons q .nil)=>⟨_,_,rfl,r,q⟩
theorem Vals.zero: ∀ {us:List Value},Vals [] us->us=[]
 | _,.nil=>rfl
theorem Vals.dropLast {xs:List V} {us:List Value} (h:Vals xs us):Vals xs.dropLast us.dropLast:=by
 induction h with
 | nil=>exact .nil
 | cons r t ih=>
  cases t with
  | nil=>exact .nil
  | cons q t'=>exact .cons r ih
theorem pJ {α:Type} (l:List α):l.eraseIdx (l.length-1)=l.dropLast:=by
 induction l with
 | nil=>rfl
 | cons a r ih=>
  cases r with
  | nil=>rfl
  | cons b r=>
   have e:(a::b::r).length-1=((b::r).length-1) +1:=by
    have h1:(a::b::r).length=r.length+2:=rfl
    have h2:(b::r).length=r.length+1:=rfl
    lia
   rw [e,List.eraseIdx_cons_succ,ih]
   all_goals rfl
section
variable {X:Cx} {pins:List (Addr×Obj)} {σ:St} {H:Hp} {s:Shared} {l b:Addr} {xs ys zs:List V}
theorem Inv.lset {its its':List Value} {n:Nat} {f:Array Value->Array Value} {t':Nat} (I:Inv X pins σ H s) (hH:H l=some (.lst xs))
  (e:s.heap.get? l=some {cls:=.type "list",data:=.seq its.toArray n}) (hf:f its.toArray=its'.toArray) (hv:Vals ys its') (hz:ys.length<=sizeLine):
  Inv X pins σ (upd H l (.lst ys)) {s with heap:=s.heap.update l (Obj.mapSeq f),toks:=t'}:=by
 have q:=PySem.IsL.update e f
 rw [hf]at q
 refine I.write (x:=l) (e:=l) (by rw [hH];exact trivial) (.inl rfl) (fun b' u hb hu=>(Heap.get?_update_other s.heap (Obj.mapSeq f) (Ne.symm hb)).trans hu) ⟨_,q⟩ ?_
 exact ⟨hz,its',_,hv,q⟩
theorem Inv.lnew {its:List Value} {t':Nat} (I:Inv X pins σ H s) (hv:Vals ys its) (hz:ys.length<=sizeLine):
  Inv X pins σ (upd H s.heap.objs.size (.lst ys)) {s with heap:=s.heap.push {cls:=.type "list",data:=.seq its.toArray},toks:=t'}:=
 I.laid (fun _ _ q=>Heap.get?_push_of_some _ q) (Nat.le_refl _) ⟨hz,its,0,hv,Heap.get?_push_size _ rfl⟩
theorem Inv.fresh (I:Inv X pins σ H s):H s.heap.objs.size=none:=I.hok.fresh (Nat.le_refl _)
theorem Inv.lstM (I:Inv X pins σ H s) (hH:H l=some (.lst xs)):xs.length<=sizeLine/\ ∃ (its:List Value) (n:Nat),Vals xs its/\xs.length=its.length/\s.heap.get? l=some {cls:=.type "list",data:=.seq its.toArray n}:=by
 obtain ⟨z,its,n,r,e⟩:=I.hok l _ hH
 exact ⟨z,its,n,r,r.length,e⟩
theorem nJ {n:Nat} (h:n<=sizeLine):Builtin.List.listTooLong n=false:=by
 unfold Builtin.List.listTooLong
 exact decide_eq_false (by lia)
end
section
variable {X:Cx}
noncomputable def vI:V->List V->Hp->VK->Prop:=fun x vs H Q=> ∃ l xs y,x=.ref l/\vs=[y]/\H l=some (.lst xs)/\xs.length<sizeLine/\Q .non (upd H l (.lst (xs++[y])))
theorem bo:MtM X "list.append" vI:=by
 intro pins s σ H x vs v us Q I rx rv h
 obtain ⟨l,xs,y,rfl,rfl,hH,hz,q⟩:=h
 cases rx
 obtain ⟨u,rfl,ru⟩:=rv.one
 obtain ⟨z,its,n,r,hl,e⟩:=I.lstM hH
 refine call_meets F.slot_list_append ⟨_,e,rfl⟩ F.entry_list_append (F.args_list_append_2 _ _) (PySem.list_append l its.toArray n u (by rw [List.size_toArray];lia)) ⟨e,?_⟩
 refine ⟨.non,_,I.lset (its':=its++[u]) hH e (by simp) (r.append (.cons ru .nil)) ?_,rfl,q⟩
 rw [List.length_append,List.length_singleton]
 lia
noncomputable def vH:V->List V->Hp->VK->Prop:=fun x vs H Q=> ∃ l b xs zs,x=.ref l/\vs=[.ref b]/\H l=some (.lst xs)/\H b=some (.lst zs)/\xs.length+zs.length<=sizeLine/\Q .non (upd H l (.lst (xs++zs)))
theorem ka:MtM X "list.extend" vH:=by
 intro pins s σ H x vs v us Q I rx rv h
 obtain ⟨l,b,xs,zs,rfl,rfl,hH,hB,hz,q⟩:=h
 cases rx
 obtain ⟨u,rfl,ru⟩:=rv.one
 cases ru
 obtain ⟨z,its,n,r,hl,e⟩:=I.lstM hH
 obtain ⟨z2,its2,n2,r2,hl2,e2⟩:=I.lstM hB
 have hsz:its.toArray.size+its2.toArray.size<=sizeLine:=by rw [List.size_toArray,List.size_toArray];lia
 have hlong: ¬ (!its.toArray.isEmpty&&Builtin.List.listTooLong (its.toArray.size+its2.toArray.size))=true:=by
  rw [nJ hsz,Bool.and_false]
  exact Bool.false_ne_true
 refine call_meets F.slot_list_extend ⟨_,e,rfl⟩ F.entry_list_extend (F.args_list_extend_2 _ _)
  (AutoSeq1.list_extend_list_list_0 l its.toArray n b its2.toArray n2 hlong (by rw [List.size_toArray];lia) (by lia)) ⟨e,e2,?_⟩
 refine ⟨.non,_,I.lset (its':=its++its2) hH e (by simp) (r.append r2) ?_,rfl,q⟩
 rw [List.length_append]
 lia
noncomputable def w8:V->List V->Hp->VK->Prop:=fun x vs H Q=> ∃ l xs y,x=.ref l/\vs=[]/\H l=some (.lst xs)/\xs[xs.length-1]? =some y/\Q y (upd H l (.lst xs.dropLast))
theorem h8:MtM X "list.pop" w8:=by
 intro pins s σ H x vs v us Q I rx rv h
 obtain ⟨l,xs,y,rfl,rfl,hH,hy,q⟩:=h
 cases rx
 have hus:=rv.zero
 subst hus
 obtain ⟨z,its,n,r,hl,e⟩:=I.lstM hH
 obtain ⟨u,hu,ru⟩:=r.get hy
 have hy':its.toArray[its.toArray.size-1]? =some u:=by
  show its.toArray[its.length-1]? =some u
  rw [<- Array.getElem?_toList,<- hl]
  exact hu
 refine call_meets F.slot_list_pop ⟨_,e,rfl⟩ F.entry_list_pop (F.args_list_pop_1 _) (MeetsSeq.list_pop_last l its.toArray n u hy' (by rw [List.size_toArray];lia)) ⟨e,?_⟩
 refine ⟨y,_,I.lset (its':=its.dropLast) hH e ?_ r.dropLast ?_,ru,q⟩
 ·show its.toArray.eraseIdxIfInBounds (its.toArray.size-1)=its.dropLast.toArray
  rw [List.size_toArray,List.eraseIdxIfInBounds_toArray,pJ]
 ·rw [List.length_dropLast]
  lia
noncomputable def yW:R2:=fun x y H Q=> ∃ l b xs zs,x=.ref l/\y=.ref b/\H l=some (.lst xs)/\H b=some (.lst zs)/\xs.length+zs.length<=sizeLine/\ ∀ p,H p=none->Q (.ref p) (upd H p (.lst (xs++zs)))
theorem oX:OpR X (binaryOp .Add) yW:=by
 intro pins s σ H x y v u Q I rx ry h
 obtain ⟨l,b,xs,zs,rfl,rfl,hH,hB,hz,q⟩:=h
 cases rx
 cases ry
 obtain ⟨z,its,n,r,hl,e⟩:=I.lstM hH
 obtain ⟨z2,its2,n2,r2,hl2,e2⟩:=I.lstM hB
 refine PySem.P.add_list e e2 ?_ (by rw [List.size_toArray,List.size_toArray];lia)
 have ea:its.toArray++its2.toArray=(its++its2).toArray:=by simp
 rw [ea]
 exact ⟨.ref _,_,I.lnew (t':=s.toks) (r.append r2) (by rw [List.length_append];lia),rfl,q _ I.fresh⟩
end
section
variable {κ:Type} [DecidableEq κ]
noncomputable def aP (kvs:List (κ×V)) (k:κ):Option V:=(kvs.find? fun kv=>decide (kv.1=k)).map (·.2)
noncomputable def bq (kvs:List (κ×V)) (k:κ) (v:V):List (κ×V):=
 if (kvs.any fun kv=>decide (kv.1=k))=true then kvs.map (fun kv=>if kv.1=k then (kv.1,v)else kv)else kvs++[(k,v)]
theorem sO {k:κ}:aP ([]:List (κ×V)) k=none:=rfl
theorem cu {p:κ×V} {r:List (κ×V)} {k:κ} (e:p.1=k):aP (p::r) k=some p.2:=by simp [aP,List.find?_cons,e]
theorem bf {p:κ×V} {r:List (κ×V)} {k:κ} (e: ¬ p.1=k):aP (p::r) k=aP r k:=by simp [aP,List.find?_cons,e]
theorem dr (k:κ): ∀ kvs:List (κ×V),(kvs.any fun kv=>decide (kv.1=k))=(aP kvs k).isSome
 | []=>rfl
 | p::r=>by
  rw [List.any_cons]
  by_cases e:p.1=k
  ·simp only [cu e,decide_eq_true e,Bool.true_or,Option.isSome_some]
  ·rw [bf e,decide_eq_false e,Bool.false_or];exact dr k r
theorem mf (k j:κ) (y:V): ∀ kvs:List (κ×V),aP (kvs.map fun kv=>if kv.1=k then (kv.1,y)else kv) j=(aP kvs j).map fun x=>if j=k then y else x
 | []=>rfl
 | p::r=>by
  have ih:=mf k j y r
  rw [List.map_cons]
  by_cases h:p.1=k
  ·rw [if_pos h]
   by_cases e:p.1=j
   ·rw [cu (p:=(p.1,y)) e,cu e,Option.map_some,if_pos (e.symm.trans h)]
   ·rw [bf (p:=(p.1,y)) e,bf e,ih]
  ·rw [if_neg h]
   by_cases e:p.1=j
   ·rw [cu (p:=p) e,cu e,Option.map_some,if_neg (fun z=>h (e.trans z))]
   ·rw [bf (p:=p) e,bf e,ih]
theorem jN (k j:κ) (y:V): ∀ kvs:List (κ×V),aP kvs k=none->aP (kvs++[(k,y)]) j=if j=k then some y else aP kvs j
 | [],_=>by
  by_cases e:k=j
  ·rw [if_pos e.symm];exact cu (p:=(k,y)) e
  ·rw [if_neg (fun z=>e z.symm)];exact bf (p:=(k,y)) e
 | p::r,hn=>by
  rw [List.cons_append]
  have hk: ¬ p.1=k:=fun z=>by rw [cu z]at hn;cases hn
  rw [bf hk]at hn
  have ih:=jN k j y r hn
  by_cases e:p.1=j
  ·rw [cu e,cu e,if_neg (fun z=>hk (e.trans z))]
  ·rw [bf e,bf e,ih]
theorem cD (kvs:List (κ×V)) (k j:κ) (y:V):aP (bq kvs k y) j=if j=k then some y else aP kvs j:=by
 unfold bq
 by_cases a:(kvs.any fun kv=>decide (kv.1=k))=true
 ·rw [if_pos a,mf]
  rw [dr]at a
  by_cases e:j=k
  ·obtain ⟨x,hx⟩:=Option.isSome_iff_exists.mp a
   rw [if_pos e,e,hx,Option.map_some,if_pos rfl]
  ·rw [if_neg e]
   cases aP kvs j with
   | none=>rfl
   | some x=>rw [Option.map_some,if_neg e]
 ·rw [if_neg a]
  refine jN k j y kvs ?_
  rw [dr]at a
  cases q:aP kvs k with
  | none=>rfl
  | some x=>rw [q]at a;exact (a rfl).elim
theorem bj (kvs:List (κ×V)) (k:κ) (v:V):(bq kvs k v).length<=kvs.length+1:=by
 unfold bq
 split
 ·rw [List.length_map];lia
 ·rw [List.length_append,List.length_cons,List.length_nil];lia
theorem tX {kvs:List (κ×V)} {k:κ} (v:V) (h:aP kvs k=none):bq kvs k v=kvs++[(k,v)]:=by
 unfold bq
 rw [dr,h]
 exact if_neg (by decide)
theorem RelO.isSome_eq {o:Option V} {u:Option Value} (r:RelO o u):o.isSome=u.isSome:=by
 cases o with
 | none=>cases u with
  | none=>rfl
  | some _=>exact (show False from r).elim
 | some _=>cases u with
  | none=>exact (show False from r).elim
  | some _=>rfl
theorem RelO.getD {o:Option V} {u:Option Value} {d:V} {d':Value} (r:RelO o u) (rd:RelV d d'):RelV (o.getD d) (u.getD d'):=by
 cases o with
 | none=>cases u with
  | none=>exact rd
  | some _=>exact (show False from r).elim
 | some _=>cases u with
  | none=>exact (show False from r).elim
  | some _=>exact r
theorem KV.val {kvs:List (κ×V)} {vs:List (κ×Value)} (r:KV kvs vs) (k:κ):RelO (aP kvs k) (valueAt vs k):=by
 unfold KV at r
 induction r with
 | nil=>exact True.intro
 | @cons p q ps qs h t ih=>
  obtain ⟨h1,h2⟩:=h
  by_cases e:p.1=k
  ·have e':q.1=k:=h1.symm.trans e
   have b:valueAt (q::qs) k=some q.2:=by simp [valueAt,List.find?_cons,e']
   rw [cu e,b];exact h2
  ·have e': ¬ q.1=k:=fun z=>e (h1.trans z)
   have b:valueAt (q::qs) k=valueAt qs k:=by simp [valueAt,List.find?_cons,e']
   rw [bf e,b];exact ih
theorem KV.any {kvs:List (κ×V)} {vs:List (κ×Value)} (r:KV kvs vs) (k:κ):(kvs.any fun kv=>decide (kv.1=k))=vs.any fun kv=>decide (kv.1=k):=by
 unfold KV at r
 induction r with
 | nil=>rfl
 | cons h t ih=>rw [List.any_cons,List.any_cons,ih,h.1]
theorem KV.repl {kvs:List (κ×V)} {vs:List (κ×Value)} (r:KV kvs vs) (k:κ) {y:V} {u:Value} (ry:RelV y u):
  KV (kvs.map fun kv=>if kv.1=k then (kv.1,y)else kv) (vs.map fun kv=>if kv.1=k then (kv.1,u)else kv):=by
 unfold KV at r ⊢
 induction r with
 | nil=>exact .nil
 | @cons p q ps qs h t ih=>
  rw [List.map_cons,List.map_cons]
  refine .cons ?_ ih
  obtain ⟨h1,h2⟩:=h
  by_cases e:p.1=k
  ·rw [if_pos e,if_pos (h1.symm.trans e)];exact ⟨h1,ry⟩
  ·rw [if_neg e,if_neg (fun z=>e (h1.trans z))];exact ⟨h1,h2⟩
theorem KV.put {kvs:List (κ×V)} {vs:List (κ×Value)} (r:KV kvs vs) (k:κ) {y:V} {u:Value} (ry:RelV y u):KV (bq kvs k y) (stored vs k u):=by
 unfold bq stored
 rw [r.any k]
 by_cases e:(vs.any fun kv=>decide (kv.1=k))=true
 ·rw [if_pos e,if_pos e];exact r.repl k ry
 ·rw [if_neg e,if_neg e];exact Paired.snoc r ⟨rfl,ry⟩
theorem KV.length {kvs:List (κ×V)} {vs:List (κ×Value)} (r:KV kvs vs):kvs.length=vs.length:=Paired.length r
end
theorem jq {P:Program} {w:World} {k:Key} {u:Value} (r:RelV (kV k) u):(aU P w).is k u=true:=by
 cases k with
 | inl i=>obtain ⟨t,e⟩:=(show ∃ t,u=Value.int i t from r);subst e;exact nM P w i t
 | inr x=>obtain ⟨t,e⟩:=(show ∃ t,u=Value.str x t from r);subst e;exact nL P w x t
theorem ke {P:Program} {w:World}: ∀ {ks:List Key} {us:List Value},Vals (ks.map kV) us->ItemsAre (aU P w) ks us
 | [],_,r=>by rw [List.map_nil]at r;cases r;exact .nil
 | k::ks,_,r=>by
  rw [List.map_cons]at r
  cases r with
  | cons h t=>exact .cons (jq h) (ke t)
noncomputable abbrev KT (H:Hp):List (List Key×V)->List (List Key×Addr×Value)->Prop:=Paired fun p q=>p.1=q.1/\H q.2.1=some (.tup (p.1.map kV))/\RelV p.2 q.2.2
theorem KT.val {H:Hp} {kvs:List (List Key×V)} {xs:List (List Key×Addr×Value)} (r:KT H kvs xs) (k:List Key):RelO (aP kvs k) ((atKey xs k).map (·.2)):=by
 induction r with
 | nil=>exact True.intro
 | @cons p q ps qs h t ih=>
  obtain ⟨h1,_,h2⟩:=h
  by_cases e:p.1=k
  ·have e':q.1=k:=h1.symm.trans e
   have b:atKey (q::qs) k=some q.2:=by simp [atKey,List.find?_cons,e']
   rw [cu e,b];exact h2
  ·have e': ¬ q.1=k:=fun z=>e (h1.trans z)
   have b:atKey (q::qs) k=atKey qs k:=by simp [atKey,List.find?_cons,e']
   rw [bf e,b];exact ih
theorem KT.repl {H:Hp} {kvs:List (List Key×V)} {xs:List (List Key×Addr×Value)} (r:KT H kvs xs) (k:List Key) {y:V} {u:Value} (ry:RelV y u):
  KT H (kvs.map fun kv=>if kv.1=k then (kv.1,y)else kv) (xs.map (putAt k u)):=by
 induction r with
 | nil=>exact .nil
 | @cons p q ps qs h t ih=>
  rw [List.map_cons,List.map_cons]
  refine .cons ?_ ih
  obtain ⟨h1,h2,h3⟩:=h
  unfold putAt
  by_cases e:p.1=k
  ·rw [if_pos e,if_pos (h1.symm.trans e)];exact ⟨h1,h2,ry⟩
  ·rw [if_neg e,if_neg (fun z=>e (h1.trans z))];exact ⟨h1,h2,h3⟩
theorem KT.put {H:Hp} {kvs:List (List Key×V)} {xs:List (List Key×Addr×Value)} (r:KT H kvs xs) (k:List Key) {b:Addr} {y:V} {u:Value} (hb:H b=some (.tup (k.map kV))) (ry:RelV y u):
  KT H (bq kvs k y) (storedH xs k b u):=by
 have e:(kvs.any fun kv=>decide (kv.1=k))=(atKey xs k).isSome:=by
  rw [dr,(r.val k).isSome_eq,Option.isSome_map]
 unfold bq storedH
 rw [e]
 by_cases q:(atKey xs k).isSome=true
 ·rw [if_pos q,if_pos q];exact r.repl k ry
 ·rw [if_neg q,if_neg q];exact Paired.snoc r ⟨rfl,hb,ry⟩
theorem KT.keeps {H H':Hp} {kvs:List (List Key×V)} {xs:List (List Key×Addr×Value)} (r:KT H kvs xs) (ht: ∀ b ys,H b=some (.tup ys)->H' b=some (.tup ys)):KT H' kvs xs:=
 Paired.mapP r fun _ _ z=>⟨z.1,ht _ _ z.2.1,z.2.2⟩
noncomputable abbrev KP (H:Hp):List ((List Key×Key)×V)->List ((List Key×Key)×Addr×Value)->Prop:=Paired fun p q=>p.1=q.1/\(∃ c,H q.2.1=some (.tup [.ref c,kV p.1.2])/\H c=some (.tup (p.1.1.map kV)))/\RelV p.2 q.2.2
theorem KP.val {H:Hp} {kvs:List ((List Key×Key)×V)} {xs:List ((List Key×Key)×Addr×Value)} (r:KP H kvs xs) (k:List Key×Key):RelO (aP kvs k) ((atKey xs k).map (·.2)):=by
 induction r with
 | nil=>exact True.intro
 | @cons p q ps qs h t ih=>
  obtain ⟨h1,_,h2⟩:=h
  by_cases e:p.1=k
  ·have e':q.1=k:=h1.symm.trans e
   have b:atKey (q::qs) k=some q.2:=by simp [atKey,List.find?_cons,e']
   rw [cu e,b];exact h2
  ·have e': ¬ q.1=k:=fun z=>e (h1.trans z)
   have b:atKey (q::qs) k=atKey qs k:=by simp [atKey,List.find?_cons,e']
   rw [bf e,b];exact ih
theorem KP.repl {H:Hp} {kvs:List ((List Key×Key)×V)} {xs:List ((List Key×Key)×Addr×Value)} (r:KP H kvs xs) (k:List Key×Key) {y:V} {u:Value} (ry:RelV y u):
  KP H (kvs.map fun kv=>if kv.1=k then (kv.1,y)else kv) (xs.map (putAt k u)):=by
 induction r with
 | nil=>exact .nil
 | @cons p q ps qs h t ih=>
  rw [List.map_cons,List.map_cons]
  refine .cons ?_ ih
  obtain ⟨h1,h2,h3⟩:=h
  unfold putAt
  by_cases e:p.1=k
  ·rw [if_pos e,if_pos (h1.symm.trans e)];exact ⟨h1,h2,ry⟩
  ·rw [if_neg e,if_neg (fun z=>e (h1.trans z))];exact ⟨h1,h2,h3⟩
theorem KP.put {H:Hp} {kvs:List ((List Key×Key)×V)} {xs:List ((List Key×Key)×Addr×Value)} (r:KP H kvs xs) (k:List Key×Key) {b:Addr} {y:V} {u:Value} (hb: ∃ c,H b=some (.tup [.ref c,kV k.2])/\H c=some (.tup (k.1.map kV))) (ry:RelV y u):
  KP H (bq kvs k y) (storedH xs k b u):=by
 have e:(kvs.any fun kv=>decide (kv.1=k))=(atKey xs k).isSome:=by
  rw [dr,(r.val k).isSome_eq,Option.isSome_map]
 unfold bq storedH
 rw [e]
 by_cases q:(atKey xs k).isSome=true
 ·rw [if_pos q,if_pos q];exact r.repl k ry
 ·rw [if_neg q,if_neg q];exact Paired.snoc r ⟨rfl,hb,ry⟩
theorem KP.keeps {H H':Hp} {kvs:List ((List Key×Key)×V)} {xs:List ((List Key×Key)×Addr×Value)} (r:KP H kvs xs) (ht: ∀ b ys,H b=some (.tup ys)->H' b=some (.tup ys)):KP H' kvs xs:=
 Paired.mapP r fun _ _ z=>⟨z.1,let ⟨c,e1,e2⟩:=z.2.1;⟨c,ht _ _ e1,ht _ _ e2⟩,z.2.2⟩
section
variable {P:Program} {w:World} {H:Hp} {h:Heap} {a:Addr}
theorem tU {u:HO} (ok:HOk P w H h) (e:Rd H a u):ObjOk P w H h a u:=e.ok ok
theorem kj {kvs:List (Key×V)} (ok:HOk P w H h) (e:Rd H a (.dK kvs)):kvs.length<=sizeLine/\(a==sysModules)=false/\ ∃ vs,KV kvs vs/\h.DictOf (aU P w) a vs:=
 show ObjOk P w H h a (.dK kvs)from tU ok e
theorem wG {kvs:List (Key×V)} (ok:HOk P w H h) (e:H a=some (.dK kvs)):kvs.length<=sizeLine/\(a==sysModules)=false/\ ∃ vs,KV kvs vs/\h.DictOf (aU P w) a vs:=kj ok (.inl e)
theorem ic {ks:List Key} (ok:HOk P w H h) (e:H a=some (.tup (ks.map kV))):(tupleKind (aU P w)).is h ks a:=by
 obtain ⟨_,its,r,o,h1,h2,n,h3⟩:=(show ObjOk P w H h a (.tup (ks.map kV))from ok a _ e)
 exact ⟨o,its.toArray,n,h1,h2,h3,by simpa using ke r⟩
theorem ki {kvs:List (List Key×V)} (ok:HOk P w H h) (e:Rd H a (.dT kvs)):kvs.length<=sizeLine/\(a==sysModules)=false/\
  ∃ xs,KT H kvs xs/\h.DictOfH (tupleKind (aU P w)) a xs:=by
 obtain ⟨z,y,xs,r,o,es,ep,h1,h2,h3,h4,h5⟩:=(show ObjOk P w H h a (.dT kvs)from tU ok e)
 refine ⟨z,y,xs,r,o,es,ep,h1,h2,h3,h4,fun x hx=>?_,h5⟩
 have all: ∀ {l:List (List Key×V)} {m:List (List Key×Addr×Value)},KT H l m-> ∀ x∈m,(tupleKind (aU P w)).is h x.1 x.2.1:=by
  intro l m q
  induction q with
  | nil=>intro x hx;exact nomatch hx
  | @cons p q ps qs hq t ih=>
   intro x hx
   rcases List.mem_cons.mp hx with e | hx
   ·subst e
    exact ic ok (by rw [<- hq.1];exact hq.2.1)
   ·exact ih x hx
 exact all r x hx
theorem yr {kvs:List (List Key×V)} (ok:HOk P w H h) (e:H a=some (.dT kvs)):kvs.length<=sizeLine/\(a==sysModules)=false/\
  ∃ xs,KT H kvs xs/\h.DictOfH (tupleKind (aU P w)) a xs:=ki ok (.inl e)
theorem gC {k:List Key×Key} (ok:HOk P w H h) (e: ∃ c,H a=some (.tup [.ref c,kV k.2])/\H c=some (.tup (k.1.map kV))):(ef (aU P w) (aU P w)).is h k a:=by
 obtain ⟨c,e1,e2⟩:=e
 obtain ⟨_,its,r,o,h1,h2,n,h3⟩:=(show ObjOk P w H h a (.tup [.ref c,kV k.2])from ok a _ e1)
 obtain ⟨u,v,rfl,ru,rv⟩:=r.two
 cases (show u=Value.ref c from ru)
 exact ⟨o,_,n,c,v,h1,h2,h3,by simp,ic ok e2,jq rv⟩
theorem n0 {kvs:List ((List Key×Key)×V)} (ok:HOk P w H h) (e:Rd H a (.dP kvs)):kvs.length<=sizeLine/\(a==sysModules)=false/\
  ∃ xs,KP H kvs xs/\h.DictOfH (ef (aU P w) (aU P w)) a xs:=by
 obtain ⟨z,y,xs,r,o,es,ep,h1,h2,h3,h4,h5⟩:=(show ObjOk P w H h a (.dP kvs)from tU ok e)
 refine ⟨z,y,xs,r,o,es,ep,h1,h2,h3,h4,fun x hx=>?_,h5⟩
 have all: ∀ {l:List ((List Key×Key)×V)} {m:List ((List Key×Key)×Addr×Value)},KP H l m-> ∀ x∈m,(ef (aU P w) (aU P w)).is h x.1 x.2.1:=by
  intro l m q
  induction q with
  | nil=>intro x hx;exact nomatch hx
  | @cons p q ps qs hq t ih=>
   intro x hx
   rcases List.mem_cons.mp hx with e | hx
   ·subst e
    rw [<- hq.1];exact gC ok hq.2.1
   ·exact ih x hx
 exact all r x hx
theorem yt {kvs:List ((List Key×Key)×V)} (ok:HOk P w H h) (e:H a=some (.dP kvs)):kvs.length<=sizeLine/\(a==sysModules)=false/\
  ∃ xs,KP H kvs xs/\h.DictOfH (ef (aU P w) (aU P w)) a xs:=n0 ok (.inl e)
end
noncomputable def DGet (H:Hp) (a:Addr) (y:V) (r:Option V):Prop:=
 (∃ kvs k,Rd H a (.dK kvs)/\y=kV k/\r=aP kvs k)\/(∃ kvs k b,Rd H a (.dT kvs)/\y=.ref b/\H b=some (.tup (k.map kV))/\r=aP kvs k)\/
 ∃ kvs k b,Rd H a (.dP kvs)/\y=.ref b/\(∃ c,H b=some (.tup [.ref c,kV k.2])/\H c=some (.tup (k.1.map kV)))/\r=aP kvs k
noncomputable def DPut (H:Hp) (a:Addr) (y v:V) (H':Hp):Prop:=
 (∃ kvs k,H a=some (.dK kvs)/\y=kV k/\kvs.length<sizeLine/\H'=upd H a (.dK (bq kvs k v)))\/
 (∃ kvs k b,H a=some (.dT kvs)/\y=.ref b/\H b=some (.tup (k.map kV))/\kvs.length<sizeLine/\H'=upd H a (.dT (bq kvs k v)))\/
 ∃ kvs k b,H a=some (.dP kvs)/\y=.ref b/\(∃ c,H b=some (.tup [.ref c,kV k.2])/\H c=some (.tup (k.1.map kV)))/\kvs.length<sizeLine/\H'=upd H a (.dP (bq kvs k v))
theorem DGet.k {H:Hp} {a:Addr} {kvs:List (Key×V)} {k:Key} (e:H a=some (.dK kvs)):DGet H a (kV k) (aP kvs k):=.inl ⟨kvs,k,.inl e,rfl,rfl⟩
theorem DGet.t {H:Hp} {a b:Addr} {kvs:List (List Key×V)} {k:List Key} (e:H a=some (.dT kvs)) (eb:H b=some (.tup (k.map kV))):DGet H a (.ref b) (aP kvs k):=.inr (.inl ⟨kvs,k,b,.inl e,rfl,eb,rfl⟩)
theorem DPut.k {H:Hp} {a:Addr} {kvs:List (Key×V)} {k:Key} {v:V} (e:H a=some (.dK kvs)) (hl:kvs.length<sizeLine):DPut H a (kV k) v (upd H a (.dK (bq kvs k v))):=.inl ⟨kvs,k,e,rfl,hl,rfl⟩
theorem DPut.t {H:Hp} {a b:Addr} {kvs:List (List Key×V)} {k:List Key} {v:V} (e:H a=some (.dT kvs)) (eb:H b=some (.tup (k.map kV))) (hl:kvs.length<sizeLine):
  DPut H a (.ref b) v (upd H a (.dT (bq kvs k v))):=.inr (.inl ⟨kvs,k,b,e,rfl,eb,hl,rfl⟩)
section
variable {X:Cx} {pins:List (Addr×Obj)} {σ:St} {H:Hp} {s:Shared} {a:Addr} {y v:V} {u r:Value} {o:Option V} {A:Around} {E:Value->Shared->Prop}
theorem Inv.big (I:Inv X pins σ H s):sysModules<s.heap.objs.size:=by
 have h:mainGlobals<s.heap.objs.size:=(I.mod.glob.keeps I.bk).lt
 exact Nat.lt_trans (by decide) h
theorem sB {Q:Value->Shared->Prop} (hu:A.units+16<cLine) (I:Inv X pins σ H s) (g:DGet H a y (some v)) (ry:RelV y u) (h: ∀ w' s',Inv X pins σ H s'->RelV v w'->Q w' s'):
  wpAny (model X.prog X.w) A (getItem (.ref a) u) Q E s:=by
 rcases g with ⟨kvs,k,e,ey,l⟩ | ⟨kvs,k,b,e,ey,eb,l⟩ | ⟨kvs,k,b,e,ey,eb,l⟩
 ·subst ey
  obtain ⟨z,hd,vs,rel,dd⟩:=kj I.hok e
  obtain ⟨w',hw,rw'⟩:=RelO.some_of (v:=v) (o:=valueAt vs k) (by rw [l];exact rel.val k)
  exact wpAny_getItem_of (jq ry) dd.mapOf hw (h w' _ (I.tok _) rw')
 ·subst ey
  cases (show u=Value.ref b from ry)
  obtain ⟨z,hd,xs,rel,dd⟩:=ki I.hok e
  obtain ⟨w',hw,rw'⟩:=RelO.some_of (v:=v) (o:=(atKey xs k).map (·.2)) (by rw [l];exact rel.val k)
  obtain ⟨p,hp,hp2⟩:=Option.map_eq_some_iff.mp hw
  refine wpAny_getItem_heap (tupleKind_room_in1 (by lia)) (ic I.hok eb) dd hp ?_
  rw [hp2]
  exact h w' _ (I.tok _) rw'
 ·subst ey
  cases (show u=Value.ref b from ry)
  obtain ⟨z,hd,xs,rel,dd⟩:=n0 I.hok e
  obtain ⟨w',hw,rw'⟩:=RelO.some_of (v:=v) (o:=(atKey xs k).map (·.2)) (by rw [l];exact rel.val k)
  obtain ⟨p,hp,hp2⟩:=Option.map_eq_some_iff.mp hw
  refine wpAny_getItem_heap (show _+8<cLine by show A.units+1+8<cLine;lia) (gC I.hok eb) dd hp ?_
  rw [hp2]
  exact h w' _ (I.tok _) rw'
theorem zc {Q:Value->Shared->Prop} (hu:A.units+16<cLine) (I:Inv X pins σ H s) (g:DGet H a y o) (ry:RelV y u) (h: ∀ s',Inv X pins σ H s'->Q (.bool o.isSome) s'):
  wpAny (model X.prog X.w) A (compareOp .In u (.ref a)) Q E s:=by
 rcases g with ⟨kvs,k,e,ey,l⟩ | ⟨kvs,k,b,e,ey,eb,l⟩ | ⟨kvs,k,b,e,ey,eb,l⟩
 ·subst ey
  obtain ⟨z,hd,vs,rel,dd⟩:=kj I.hok e
  refine wpAny_in_of (jq ry) hd dd.mapOf ?_
  rw [<- (rel.val k).isSome_eq,<- l]
  exact h _ (I.tok _)
 ·subst ey
  cases (show u=Value.ref b from ry)
  obtain ⟨z,hd,xs,rel,dd⟩:=ki I.hok e
  refine wpAny_in_heap (tupleKind_room_in1 (by lia)) (ic I.hok eb) hd dd ?_
  have q:=(rel.val k).isSome_eq
  rw [Option.isSome_map]at q
  rw [<- q,<- l]
  exact h _ (I.tok _)
 ·subst ey
  cases (show u=Value.ref b from ry)
  obtain ⟨z,hd,xs,rel,dd⟩:=n0 I.hok e
  refine wpAny_in_heap (show _+8<cLine by show A.units+1+8<cLine;lia) (gC I.hok eb) hd dd ?_
  have q:=(rel.val k).isSome_eq
  rw [Option.isSome_map]at q
  rw [<- q,<- l]
  exact h _ (I.tok _)
theorem iN {h':Heap} {t':Nat} {ob:HO} (I:Inv X pins σ H s) (mu:Mut (H a)) (hs:Heap.SameBut a s.heap h') (he: ∃ q,h'.get? a=some q) (new:ObjOk X.prog X.w (upd H a ob) h' a ob):
  Inv X pins σ (upd H a ob) {s with heap:=h',toks:=t'}:=
 I.write (x:=a) (e:=a) mu (.inl rfl) (fun b q hb z=>(hs.2 b hb).trans z) he new
theorem xC {P:Program} {w:World} {H':Hp} {h':Heap} {kvs:List (Key×V)} {vs:List (Key×Value)} (z:kvs.length<=sizeLine) (hd:(a==sysModules)=false) (rel:KV kvs vs) (dd:h'.DictOf (aU P w) a vs):
  ObjOk P w H' h' a (.dK kvs):=⟨z,hd,vs,rel,dd⟩
theorem sA {H':Hp} {Q:Unit->Shared->Prop} (hu:A.units+16<cLine) (I:Inv X pins σ H s) (g:DPut H a y v H') (ry:RelV y u) (rv:RelV v r) (h: ∀ s',Inv X pins σ H' s'->Q () s'):
  wpAny (model X.prog X.w) A (setItem (.ref a) u r) Q E s:=by
 rcases g with ⟨kvs,k,e,ey,l,eH⟩ | ⟨kvs,k,b,e,ey,eb,l,eH⟩ | ⟨kvs,k,b,e,ey,eb,l,eH⟩
 ·subst ey eH
  obtain ⟨z,hd,vs,rel,dd⟩:=wG I.hok e
  have hz:vs.length<=sizeLine:=by rw [<- rel.length];exact z
  have hl:(bq kvs k v).length<=sizeLine:=by have:=bj kvs k v;lia
  refine wpAny_setItem_pairs (hsz:=hz) (jq ry) dd fun h' dd' hs=>h _ ?_
  have he: ∃ q,h'.get? a=some q:=let ⟨q,_,_,hq,_⟩:=dd';⟨q,hq⟩
  exact iN I (by rw [e];exact True.intro) hs he (xC hl hd (rel.put k rv) dd')
 ·subst ey eH
  cases (show u=Value.ref b from ry)
  obtain ⟨z,hd,xs,rel,dd⟩:=yr I.hok e
  have hz:xs.length<=sizeLine:=by rw [<- Paired.length rel];exact z
  have hl:(bq kvs k v).length<=sizeLine:=by have:=bj kvs k v;lia
  refine wpAny_setItem_heap (hsz:=hz) (tupleKind_room_in1 (by lia)) (ic I.hok eb) dd fun h' dd' hs=>h _ ?_
  obtain ⟨q,es,ep,hq,h2,h3,h4,_,h5⟩:=dd'
  refine iN I (by rw [e];exact True.intro) hs ⟨q,hq⟩ ⟨hl,hd,_,(rel.put k eb rv).keeps fun c ys ec=>?_,q,es,ep,hq,h2,h3,h4,h5⟩
  rw [ai (wD ec e (fun z=>nomatch z))]
  exact ec
 ·subst ey eH
  cases (show u=Value.ref b from ry)
  obtain ⟨z,hd,xs,rel,dd⟩:=yt I.hok e
  have hz:xs.length<=sizeLine:=by rw [<- Paired.length rel];exact z
  have hl:(bq kvs k v).length<=sizeLine:=by have:=bj kvs k v;lia
  refine wpAny_setItem_heap (hsz:=hz) (show _+8<cLine by show A.units+1+8<cLine;lia) (gC I.hok eb) dd fun h' dd' hs=>h _ ?_
  obtain ⟨q,es,ep,hq,h2,h3,h4,_,h5⟩:=dd'
  refine iN I (by rw [e];exact True.intro) hs ⟨q,hq⟩ ⟨hl,hd,_,(rel.put k eb rv).keeps fun c ys ec=>?_,q,es,ep,hq,h2,h3,h4,h5⟩
  rw [ai (wD ec e (fun z=>nomatch z))]
  exact ec
end
noncomputable def yD (i:Expr):Prop:= ∀ ov iv,subscripted i false ov iv=operate [ov,iv] (getItem ov iv)
theorem vy {prog:Program} {w:World} {A:Around} {E:Value->Shared->Prop} {s:Shared} {env:Env} {value slice:Expr} {pos:Pos} {T id:String} {Q:Value->Shared->Prop}
  (hl:typeLookup (.type T) "__getitem__"=pure (some (.builtin id))) (hs:yD slice)
  (h:wpAny (model prog w) A (eval value env) (fun o s₁=>wpAny (model prog w) A (eval slice env) (fun i s₂=>s₂.TypeIs o T/\wpAny (model prog w) A (getItem o i) Q E s₂) E s₁) E s):
  wpAny (model prog w) A (eval (.Subscript value slice pos) env) Q E s:=by
 refine Subscript_ (wpAny_mono h (fun o s₁ h₁=>wpAny_mono h₁ (fun i s₂ h₂=>?_) fun _ _ x=>x) fun _ _ x=>x)
 obtain ⟨hT,h₂⟩:=h₂
 unfold subscriptTail
 refine wpAny_bind ?_
 rw [getitemInPython_of_ne hT.not_modules]
 refine wpAny_bind (wpAny_specialOf hT hl ?_)
 have fin:wpAny (model prog w) A (subscripted slice false o i) (fun r s₃=>wpAny (model prog w) A (letTemporaryGo value o r >>= fun _=>pure r) Q E s₃) E s₂:=by
  rw [hs o i]
  exact wpAny_operating (wpAny_mono h₂ (fun r s₃ h₃=>wpAny_bind (wpAny_letTemporaryGo (wpAny_pure h₃))) fun _ _ x=>x)
 first
  | exact wpAny_pure (wpAny_bind fin)
  | exact wpAny_bind (wpAny_pure (wpAny_bind fin))
  | exact wpAny_bind fin
theorem oh {X:Cx} {pins:List (Addr×Obj)} {σ:St} {H:Hp} {s:Shared} {a:Addr} {y:V} {o:Option V} (I:Inv X pins σ H s) (g:DGet H a y o):s.TypeIs (.ref a) "dict":=by
 rcases g with ⟨kvs,k,e,_,_⟩ | ⟨kvs,k,b,e,_,_,_⟩ | ⟨kvs,k,b,e,_,_,_⟩
 ·obtain ⟨_,_,vs,_,dd⟩:=kj I.hok e
  exact dd.typeIs
 ·obtain ⟨_,_,xs,_,dd⟩:=ki I.hok e
  exact dd.typeIs
 ·obtain ⟨_,_,xs,_,dd⟩:=n0 I.hok e
  exact dd.typeIs
noncomputable def xV (td ty:TE):TE:=fun σ H Q=>td σ H fun x H1=>ty σ H1 fun y H2=> ∃ a v,x=.ref a/\DGet H2 a y (some v)/\Q v H2
noncomputable def yO (ty td:TE):TE:=fun σ H Q=>ty σ H fun y H1=>td σ H1 fun x H2=> ∃ a o,x=.ref a/\DGet H2 a y o/\Q (.bl o.isSome) H2
noncomputable def x5 (td ty tv:TE):TS:=fun D σ H=>tv σ H fun v H1=>td σ H1 fun x H2=>ty σ H2 fun y H3=> ∃ a H4,x=.ref a/\DPut H3 a y v H4/\D.nx σ H4
section
variable {X:Cx} {o i e value:Expr} {pos pos' tpos:Pos} {td ty tv:TE}
theorem be (hu:X.A.units+16<cLine) (ho:PE X o td) (hi:PE X i ty) (hs:yD i):PE X (.Subscript o i pos) (xV td ty):=by
 intro pins s σ H Q I h
 refine vy PySem.F.slot_dict_getitem.lookup hs (thn (ho pins s σ H _ I h) fun u s1 ⟨x,H1,I1,rx,q1⟩=>thn (hi pins s1 σ H1 _ I1 q1) fun iv s2 ⟨y,H2,I2,ry,a,v,ex,g,q2⟩=>?_)
 subst ex
 obtain rfl:u=Value.ref a:=rx
 exact ⟨oh I2 g,sB hu I2 g ry fun w' s3 I3 rw'=>⟨v,H2,I3,rw',q2⟩⟩
theorem hV (hu:X.A.units+16<cLine) (hi:PE X i ty) (ho:PE X o td):PC X .In i o (yO ty td):=by
 intro pins s σ H Q I h
 refine thn (hi pins s σ H _ I h) fun iv s1 ⟨y,H1,I1,ry,q1⟩=>thn (ho pins s1 σ H1 _ I1 q1) fun u s2 ⟨x,H2,I2,rx,a,ov,ex,g,q2⟩=>?_
 subst ex
 obtain rfl:u=Value.ref a:=rx
 exact zc hu I2 g ry fun s3 I3=>⟨.bl ov.isSome,H2,I3,rfl,q2⟩
theorem da (hu:X.A.units+16<cLine) (ho:PE X o td) (hi:PE X i ty) (hv:PE X value tv) (hs:swapsWith value (some (.Subscript o i pos')) pos.line X.env=pure false):
  PS X (.Assign [.Subscript o i pos'] value pos) (x5 td ty tv):=by
 intro pins s σ H D I h
 refine wpAny_Assign_Subscript (thn (hv pins s σ H _ I h) fun r s1 ⟨v,H1,I1,rv,q1⟩=>thn (ho pins s1 σ H1 _ I1 q1) fun u s2 ⟨x,H2,I2,rx,q2⟩=>thn (hi pins s2 σ H2 _ I2 q2) fun iv s3 ⟨y,H3,I3,ry,a,H4,ex,g,q3⟩=>?_) hs
 subst ex
 obtain rfl:u=Value.ref a:=rx
 exact sA hu I3 g ry rv fun s4 I4=>⟨σ,H4,I4,q3⟩
end
theorem u9 {P:Program} {w:World} {H:Hp} (h:Heap) (hb:sysModules<h.objs.size):ObjOk P w H (h.push {cls:=.type "dict",data:=.dict #[]}) h.objs.size (.dK []):=
 ⟨Nat.zero_le _,beq_eq_false_iff_ne.mpr (Ne.symm (Nat.ne_of_lt hb)),[],.nil,Heap.DictOf.new h⟩
theorem u7 {P:Program} {w:World} {H:Hp} (h:Heap) (hb:sysModules<h.objs.size):ObjOk P w H (h.push {cls:=.type "dict",data:=.dict #[]}) h.objs.size (.dT []):=
 ⟨Nat.zero_le _,beq_eq_false_iff_ne.mpr (Ne.symm (Nat.ne_of_lt hb)),[],.nil,_,#[],0,Heap.get?_push_size _ rfl,⟨rfl,rfl,rfl⟩,rfl,rfl,List.nodup_nil⟩
noncomputable def wQ:TE:=fun _ H Q=> ∀ p,H p=none->Q (.ref p) (upd H p (.dK []))
noncomputable def wP:TE:=fun _ H Q=> ∀ p,H p=none->Q (.ref p) (upd H p (.dT []))
section
variable {X:Cx} {pos:Pos}
theorem dZ:PE X (.Dict [] [] pos) wQ:=fun pins s σ H Q I h=>
 wpAny_Dict_empty ⟨.ref s.heap.objs.size,_,I.laid (a:=s.heap.objs.size) (o:=.dK []) (t':=s.toks) (fun _ _ q=>Heap.get?_push_of_some _ q) (Nat.le_refl _) (u9 s.heap I.big),rfl,h _ (I.hok.fresh (Nat.le_refl _))⟩
theorem gu:PE X (.Dict [] [] pos) wP:=fun pins s σ H Q I h=>
 wpAny_Dict_empty ⟨.ref s.heap.objs.size,_,I.laid (a:=s.heap.objs.size) (o:=.dT []) (t':=s.toks) (fun _ _ q=>Heap.get?_push_of_some _ q) (Nat.le_refl _) (u7 s.heap I.big),rfl,h _ (I.hok.fresh (Nat.le_refl _))⟩
end
structure M2 (X:Cx) (o:Expr) (m:Str) (apos:Pos) (e f:Expr) (cpos:Pos):Prop where
 base:attributeBase o m X.env (eval o X.env)=eval o X.env
 few:((backTo cpos (starEach [e,f] X.env)).all (fun x=> !x.1)&&(backToKw cpos (keywordEach [] X.env)).all (fun x=>x.1.isSome)
  &&decide (([e,f]:List Expr).length+ ([]:List Keyword).length+ (if ([]:List Keyword).isEmpty then 0 else 1) <30))=true
 line:(apos.endLine==cpos.line)=true
 trees:backTo cpos (starEach [e,f] X.env)=[(false,eval e X.env),(false,eval f X.env)]
noncomputable def IsD (H:Hp) (a:Addr):Prop:=(∃ kvs,Rd H a (.dK kvs))\/ ∃ kvs,Rd H a (.dT kvs)
theorem xw {X:Cx} {pins:List (Addr×Obj)} {σ:St} {H:Hp} {s:Shared} {a:Addr} (I:Inv X pins σ H s) (d:IsD H a):
  s.TypeIs (.ref a) "dict"/\(∀ b,Value.ref a=.ref b-> ∃ ob,s.heap.get? b=some ob/\ob.dict=none)/\(a==sysModules)=false:=by
 rcases d with ⟨kvs,e⟩ | ⟨kvs,e⟩
 ·obtain ⟨_,hd,vs,_,dd⟩:=kj I.hok e
  refine ⟨dd.typeIs,fun b q=>?_,hd⟩
  cases q
  obtain ⟨ob,_,_,h1,h2,_⟩:=dd
  exact ⟨ob,h1,h2.2.1⟩
 ·obtain ⟨_,hd,xs,_,dd⟩:=ki I.hok e
  refine ⟨dd.typeIs,fun b q=>?_,hd⟩
  cases q
  obtain ⟨ob,_,_,h1,h2,_⟩:=dd
  exact ⟨ob,h1,h2.2.1⟩
section
variable {X:Cx} {pins:List (Addr×Obj)} {σ:St} {H:Hp} {s:Shared} {a:Addr} {y d:V} {u r:Value} {o:Option V} {A:Around} {E:Value->Shared->Prop}
theorem xD {Q:Value->Shared->Prop} (hu:A.units+16<cLine) (I:Inv X pins σ H s) (g:DGet H a y o) (ry:RelV y u) (rd:RelV d r) (h: ∀ w' s',Inv X pins σ H s'->RelV (o.getD d) w'->Q w' s'):
  wpAny (model X.prog X.w) A (call (.builtin "dict.get") [.ref a,u,r]) Q E s:=by
 rcases g with ⟨kvs,k,e,ey,l⟩ | ⟨kvs,k,b,e,ey,eb,l⟩ | ⟨kvs,k,b,e,ey,eb,l⟩
 ·subst ey
  obtain ⟨z,hd,vs,rel,dd⟩:=kj I.hok e
  refine call_meetsIn PySem.F.slot_dict_get dd.typeIs PySem.F.entry_dict_get (PySem.F.args_dict_get_3 _ _ _) (meets_dict_get_default (aU X.prog X.w) a (jq ry) hd r) ⟨_,dd.mapOf,h _ _ (I.tok _) ?_⟩
  rw [l]
  exact (rel.val k).getD rd
 ·subst ey
  cases (show u=Value.ref b from ry)
  obtain ⟨z,hd,xs,rel,dd⟩:=ki I.hok e
  refine call_meetsIn PySem.F.slot_dict_get dd.typeIs PySem.F.entry_dict_get (PySem.F.args_dict_get_3 _ _ _) (meetsH_dict_get_default (tupleKind (aU X.prog X.w)) a b hd r) ⟨tupleKind_room_in1 (by lia),k,xs,ic I.hok eb,dd,h _ _ (I.tok _) ?_⟩
  rw [l]
  exact (rel.val k).getD rd
 ·subst ey
  cases (show u=Value.ref b from ry)
  obtain ⟨z,hd,xs,rel,dd⟩:=n0 I.hok e
  refine call_meetsIn PySem.F.slot_dict_get dd.typeIs PySem.F.entry_dict_get (PySem.F.args_dict_get_3 _ _ _) (meetsH_dict_get_default (ef (aU X.prog X.w) (aU X.prog X.w)) a b hd r) ⟨(show _+8<cLine by show A.units+1+8<cLine;lia),k,xs,gC I.hok eb,dd,h _ _ (I.tok _) ?_⟩
  rw [l]
  exact (rel.val k).getD rd
end
noncomputable def wR (td ty tx:TE):TE:=fun σ H Q=>td σ H fun x H1=> ∃ a,x=.ref a/\IsD H1 a/\ty σ H1 fun y H2=>tx σ H2 fun z H3=> ∃ o,DGet H3 a y o/\Q (o.getD z) H3
section
variable {X:Cx} {o e f:Expr} {apos cpos:Pos} {td ty tx:TE}
theorem nw (hu:X.A.units+16<cLine) (ho:PE X o td) (he:PE X e ty) (hf:PE X f tx) (m:M2 X o "get" apos e f cpos):PE X (.Call (.Attribute o "get" apos) [e,f] [] cpos) (wR td ty tx):=by
 intro pins s σ H Q I h
 refine wpAny_Call_method m.base m.few m.line PySem.F.plainAttrs_dict PySem.F.slot_dict_get PySem.F.type_dict_get (thn (ho pins s σ H _ I h) fun u s1 ⟨x,H1,I1,rx,a,ex,d,q1⟩=>?_)
 subst ex
 obtain rfl:u=Value.ref a:=rx
 obtain ⟨t1,t2,_⟩:=xw I1 d
 refine ⟨t1,t2,?_⟩
 rw [m.trees]
 refine Calls.callWith_builtin rfl (Calls.evalArgs_plain (Calls.spliced_cons (thn (he pins s1 σ H1 _ I1 q1) fun iv s2 ⟨y,H2,I2,ry,q2⟩=>
  Calls.spliced_cons (thn (hf pins s2 σ H2 _ I2 q2) fun fv s3 ⟨z,H3,I3,rz,ov,g,q3⟩=>Calls.spliced_nil ?_))))
 exact xD hu I3 g ry rz fun w' s4 I4 rw'=>⟨_,H3,I4,rw',q3⟩
end
end L2
namespace Att
open PySem PySem.W PySem.Calls PyProof.Rows
theorem iz {P:Params} {h:Heap}: ∀ (ns:List Int) (vs:List Value),WellAll P h vs (ns.map WData.int)->IntsAre vs ns:=by
 intro ns
 induction ns with
 | nil=>
  intro vs w
  rw [List.map_nil]at w
  cases w
  exact .nil
 | cons n ns ih=>
  intro vs w
  rw [List.map_cons]at w
  cases w with
  | cons a b=>
   cases a
   exact .cons _ _ (ih _ b)
theorem qY {l:OpenLaw} {n:Nat} (hn:l.most=some n) {P:Params} {h:Heap} {args:List WData} {vals:List Value}
  (hpre:l.row.toRowW.claim.pre args=true) (hwl:WellAll P h vals args):
  ∃ a vs ns,vals=[Value.ref a]/\args=[WData.list (ns.map WData.int)]/\h.get? a=some {cls:=.type "list",data:=.seq vs.toArray}/\IntsAre vs ns/\ns.length<=n:=by
 have hsh:WShape.hasAll [] args [.list .int]=true:=(pre_splitW hpre).1
 have hc:l.pre.holds [] {args:=args}=true:=(pre_splitW hpre).2
 obtain ⟨d,r,rfl,h1,h2⟩:=hasAllW_cons hsh
 obtain rfl:=hasAllW_nil h2
 obtain ⟨xs,rfl,h3⟩:=hasW_list h1
 obtain ⟨ns,rfl⟩:=items_int h3
 have hlen:ns.length<=n:=by
  unfold OpenLaw.pre at hc
  have h4:(WTm.not (.lt (.lit (.int (n:Int))) (.len (.arg 0)))).holds [] {args:=[.list (ns.map .int)]}=true:=by
   have h4:=(holds_andW hc).1
   rw [hn]at h4
   exact h4
  have h5:=condW_of h4 (w_not (w_lt w_lit (w_len_list (w_arg rfl))))
  rw [List.length_map]at h5
  refine Nat.le_of_not_lt fun q=>?_
  have q':(n:Int) < ((ns.length:Nat):Int):=by lia
  first
   | (rw [decide_eq_true q']at h5;exact absurd h5 (by decide))
   | (simp at h5;lia)
 cases hwl with
 | cons w1 w2=>
  cases w2
  cases w1 with
  | list ho hall=>exact ⟨_,_,ns,rfl,rfl,ho,iz ns _ hall,hlen⟩
theorem rg (l:OpenLaw) (args:List WData):l.row.toRowW.claim.post args (.bool true) args=true:=
 postW_of (r:=l.row.toRowW) (X:=(true==true))
  (show WShape.has [] (.bool true) .bool=true by first | rfl | decide | simp [WShape.has,WShape.arms,WShape.armsAll])
  (show (WTm.eq .res (.lit (.bool true))).value [] {args:=args,res:=some (.bool true),after:=args}=some (.bool (true==true))from w_eq_bool (w_res rfl) w_lit) rfl
theorem attach_call {l:OpenLaw} {n:Nat} {q:Program} {loose:List Str} {XP:(Str->Option Value)->Heap->Prop} {YP:World->Heap->Prop} {d:DefRec}
  (hn:l.most=some n) (hdf:d.params.defaults=[])
  (call: ∀ (w:World) (s₀ s₁:Shared) (mg mb:Str->Option Value) (fa:Addr) (o:Obj) (pm cd doc:Value) (a:Addr) (vs:List Value) (ns:List Int),
   Ground q loose [] XP w s₀ mg mb s₁.heap->YP w s₁.heap->
   s₁.heap.get? fa=some o->o.data=.func (docDef d.name d.params d.body d.scope pm cd doc)->s₁.heap.CodeRec cd d.name->mg d.name=some (.ref fa)->
   s₁.heap.get? a=some {cls:=.type "list",data:=.seq vs.toArray}->IntsAre vs ns->ns.length<=n->s₁.gens= #[]->
   codeAny (model l.prog w) callerA (.call (.ref fa) ⟨[.ref a],[]⟩) (fun r s'=>r=.ok (.ret (.bool true))/\OldK s₁.heap s'.heap/\s'.os=s₁.os/\AllBare s'.gens) s₁):
  WalkO q loose XP YP l.row.toRowW d [] (fun f vs=>PySem.call f vs):=by
 intro w s₀ s₁ mg mb G Y fa o pm cd doc dV kV ho hd hcd hD hmg hg args vals as hpre hlay hrd hwl hlo
 obtain rfl:dV=.none:=Dflts.none hD hdf
 obtain rfl:kV=.none:=Dflts.noKw hD
 obtain ⟨a,vs,ns,rfl,rfl,hobj,hints,hlen⟩:=qY hn hpre hwl
 refine enter_call (codeAny_mono (call w s₀ s₁ mg mb fa o pm cd doc a vs ns G Y ho (fd_plain hd) hcd hmg hobj hints hlen hg) fun r s' hq=>?_)
 obtain ⟨rfl,h2,h3,h4⟩:=hq
 exact ⟨.inl ⟨.bool true,.bool true,[],rfl,fun _=>rfl,.bool true,rg l _,fun _=>⟨List.Pairwise.nil,fun _ hm=>(nomatch hm)⟩⟩,h2,h3,h4⟩
end Att
namespace L2
open PySem PySem.Spec PyProof.Rows
theorem jL: ∀ {vs:List Value} {ns:List Int},IntsAre vs ns->Vals (ns.map V.int) vs
 | _,_,.nil=>.nil
 | _,_,.cons n t h=>.cons ⟨t,rfl⟩ (jL h)
noncomputable def gI (s:Stmt):Arguments:=match s with
 | .FunctionDef _ a _ _ _ _ _ _ _ _=>a
 | _=>{posonlyargs:=[],args:=[],vararg:=none,kwonlyargs:=[],kw_defaults:=[],kwarg:=none,defaults:=[]}
noncomputable def cq (s:Stmt):List Stmt:=match s with
 | .FunctionDef _ _ b _ _ _ _ _ _ _=>b
 | _=>[]
noncomputable def ah (s:Stmt):Scope:=match s with
 | .FunctionDef _ _ _ _ _ _ sc _ _ _=>sc
 | _=>{kind:=.function,names:=[],isGenerator:=false,isCoroutine:=false}
noncomputable abbrev CX0:CXT:=fun _ _ _ _ _ _=>False
noncomputable abbrev E0:XK:=fun _ _ _=>False
theorem ax {X:Cx}:pO CX0 X E0:=fun _ _ _ _ _ _ _ h=>h.elim
structure Fun (K:PySem.W.Frag) (x qual:Str) (st:Stmt) (f:Addr) (fd:FuncData):Prop where
 ex: ∃ (oc:Value) (od:Option Addr) (kV doc pm:Value) (an:Option Addr) (cdv ct:Value) (osl:Array (Option Value)),
  fd=PySem.W.fnOf x qual (gI st) (cq st) (ah st) .none kV doc pm an cdv ct/\K.lookup f=some ⟨oc,od,.func fd,osl⟩/\PySem.W.codeIn K cdv qual=true
 kp:PySem.W.keepIn K (.ref f)=true
section
variable {P:Program} {w:World} {K:PySem.W.Frag} {mg:Str->Option Value} {base:Heap}
theorem Fun.ok {x qual:Str} {st:Stmt} {f:Addr} {fd:FuncData} {N ps:List Str} {k:Nat} {sp:Sp} (F:Fun K x qual st f fd) (S:aH N ps (ah st)) (len: ∀ vs H Q E,sp vs H Q E->vs.length=ps.length)
  (hbody: ∀ (cdv:Value) (A:Around) (outer:List Env) (s:Shared) (H:Hp) (vs:List V) (Q:VK) (E:XK),Room k (A.deeper (envOfC qual (ah st) s.heap.objs.size f cdv))->sp vs H Q E->
   ∃ t,PSs (dR CX0 P w K mg base N qual (ah st) f cdv A outer s H E).nox (cq st) t/\t {nx:=fun _ H'=>Q .non H',rt:=Q} (gc N vs) H):FnOk P w K mg base CX0 (k+1) f fd ps sp:=by
 obtain ⟨oc,od,kV,doc,pm,an,cdv,ct,osl,rfl,lk,hcd⟩:=F.ex
 refine wF lk hcd S len fun A outer s H vs Q E hr hsp=>?_
 obtain ⟨t,h,q⟩:=hbody cdv A outer s H vs Q E hr hsp
 exact ⟨t,h.nox,q⟩
theorem Fun.binds {x qual:Str} {st:Stmt} {f:Addr} {fd:FuncData} {ps:List Str} (F:Fun K x qual st f fd)
  (h: ∀ (kV doc pm:Value) (an:Option Addr) (cdv ct:Value) (us:List Value),us.length=ps.length->bindArgs (PySem.W.fnOf x qual (gI st) (cq st) (ah st) .none kV doc pm an cdv ct) ⟨us,[]⟩=pure (ps.zip us)):Binds K fd ps []:=by
 obtain ⟨oc,od,kV,doc,pm,an,cdv,ct,osl,rfl,lk,hcd⟩:=F.ex
 exact .all (h kV doc pm an cdv ct)
end
theorem dh {A:Around} {k:Nat} (hr:Room k A):A.units+16<cLine:=Nat.lt_of_le_of_lt (Nat.add_le_add_left (by decide:16<=64) _) hr.units
theorem au {n:Nat} (h:n<=1000):n<sizeLine:=Nat.lt_of_le_of_lt h (by decide)
section
variable {X:Cx}
theorem pv (i:Nat) {x:Str} {pos:Pos} (hN:X.N[i]? =some x:=by rfl) (hv:Vis X.env.scope x:=by first | exact Or.inl rfl | exact Or.inr (Or.inl rfl) | exact Or.inr (Or.inr rfl)) (hd:(x==("__debug__":Str))=false:=by decide)
  (hcd:(x==("__classdict__":Str))=false:=by decide):PE X (.Name x pos) (vv i):=ug hN hv hd hcd
end
theorem cp {A B:Prop} (h:B):if false=true then A else B:=by
 rw [if_neg Bool.false_ne_true]
 exact h
theorem dQ {A B:Prop} (h:A):if true=true then A else B:=by
 rw [if_pos rfl]
 exact h
theorem bQ {c A B:Prop} [Decidable c] (h1:c->A) (h2: ¬ c->B):if c then A else B:=by
 by_cases h:c
 ·rw [if_pos h]
  exact h1 h
 ·rw [if_neg h]
  exact h2 h
noncomputable def Same (H H':Hp):Prop:= ∀ b o,H b=some o->H' b=some o
theorem Same.refl (H:Hp):Same H H:=fun _ _ h=>h
theorem Same.trans {H H1 H2:Hp} (a:Same H H1) (b:Same H1 H2):Same H H2:=fun c o h=>b c o (a c o h)
theorem Same.free {H H':Hp} (e:Same H H') {l:Addr} (h:H' l=Option.none):H l=Option.none:=by
 cases q:H l with
 | none=>rfl
 | some o=>
  rw [e l o q]at h
  cases h
theorem Same.seq {K:PySem.W.Frag} {H H':Hp} {a:Addr} {xs:List V} (e:Same H H') (h:SqL K H a xs):SqL K H' a xs:=by
 rcases h with (h | ⟨o,h⟩) | h
 ·exact .inl (.inl (e _ _ h))
 ·exact .inl (.inr ⟨o,e _ _ h⟩)
 ·exact .inr h
section
variable {κ:Type} [DecidableEq κ]
theorem vq {kvs:List (κ×V)} {k:κ} {v:V} (h:aP kvs k=some v):k∈kvs.map (·.1):=by
 have q:(kvs.any fun kv=>decide (kv.1=k))=true:=by
  rw [dr,h]
  all_goals rfl
 obtain ⟨p,hp,e⟩:=List.any_eq_true.mp q
 exact List.mem_map.mpr ⟨p,hp,of_decide_eq_true e⟩
end
section
variable {X:Cx}
theorem vf:dG X (.builtin "isinstance") (fun xs H Q=> ∃ x T t b,xs=[x,.ty T]/\gL X.K H x t/\PySem.W.kitOne X.K t (.type T)=some b/\Q (.bl b) H):=by
 intro pins s σ H xs us Q I r h
 obtain ⟨x,T,t,b,rfl,ty,e,q⟩:=h
 obtain ⟨u,w',rfl,ru,rw'⟩:=jM r
 cases (show w'=Value.type T from rw')
 exact rY I ru ty e fun tk=>⟨.bl b,H,I.tok tk,rfl,q⟩
end
theorem gG {α β:Type} {f:α->β->Sem (ForInStep β)} (g:β->α->β): ∀ {l:List α} (c:β),(∀ x∈l,∀ c,f x c=pure (.yield (g c x)))->forIn l c f=pure (l.foldl g c)
 | [],c,_=>rfl
 | x::l,c,h=>by
  have hx:=h x List.mem_cons_self c
  rw [List.forIn_cons,hx,pure_bind]
  exact gG g (g c x) fun y hy=>h y (List.mem_cons_of_mem _ hy)
noncomputable def cv (cells:List (Str×Addr)) (c:List (Str×Addr)) (x:Str×NameKind):List (Str×Addr):=
 if x.2=.free then (match cells.lookup x.1 with | some a=>(x.1,a)::c | none=>c)else c
noncomputable def ce (cells:List (Str×Addr)) (names:List (Str×NameKind)):List (Str×Addr):=names.foldl (cv cells) []
theorem cH {scope:Scope} {env:Env} (h: ∀ x∈scope.names,x.2=.free-> ∃ c,env.cells.lookup x.1=some c):closureFor scope env=pure (ce env.cells scope.names):=by
 simp only [closureFor]
 rw [gG (cv env.cells) [] (fun x hx c=>by
  obtain ⟨n,kind⟩:=x
  by_cases hk:kind=.free
  ·subst hk
   obtain ⟨a,ha⟩:=h _ hx rfl
   simp only [cv,if_true,beq_self_eq_true,cellOf,ha,pure_bind]
  ·have hb:(kind==NameKind.free)=false:=by simpa using hk
   simp only [cv,hb,hk,Bool.false_eq_true,if_false])]
 rfl
theorem jD {cells:List (Str×Addr)}: ∀ {names:List (Str×NameKind)} {acc:List (Str×Addr)},(∀ p∈acc,cells.lookup p.1=some p.2)-> ∀ p∈names.foldl (cv cells) acc,cells.lookup p.1=some p.2
 | [],_,h=>h
 | x::r,acc,h=>by
  refine jD (names:=r) (acc:=cv cells acc x) ?_
  intro p hp
  unfold cv at hp
  split at hp
  ·split at hp
   ·rename_i a ha
    rcases List.mem_cons.mp hp with e | e
    ·subst e
     exact ha
    ·exact h p e
   ·exact h p hp
  ·exact h p hp
theorem jE {cells:List (Str×Addr)}: ∀ {names:List (Str×NameKind)} {acc:List (Str×Addr)} {p:Str×Addr},p∈acc->p∈names.foldl (cv cells) acc
 | [],_,_,h=>h
 | x::r,acc,p,h=>by
  refine jE (names:=r) (acc:=cv cells acc x) ?_
  unfold cv
  split
  ·split
   ·exact List.mem_cons_of_mem _ h
   ·exact h
  ·exact h
theorem oj {cells:List (Str×Addr)} {n:Str} {c:Addr} (hc:cells.lookup n=some c): ∀ {names:List (Str×NameKind)} {acc:List (Str×Addr)},(n,NameKind.free)∈names->(n,c)∈names.foldl (cv cells) acc
 | [],_,h=>by simp at h
 | x::r,acc,h=>by
  rcases List.mem_cons.mp h with e | e
  ·subst e
   refine jE (names:=r) ?_
   simp [cv,hc]
  ·exact oj hc (names:=r) e
theorem mem_of_lookup {α β:Type} [BEq α] [LawfulBEq α] {k:α} {v:β}: ∀ {l:List (α×β)},l.lookup k=some v->(k,v)∈l
 | [],h=>by simp at h
 | (a,b)::r,h=>by
  rw [List.lookup_cons]at h
  split at h
  ·rename_i e
   have:=eq_of_beq e
   subst this
   cases h
   exact List.mem_cons_self
  ·exact List.mem_cons_of_mem _ (mem_of_lookup h)
theorem fF {α β:Type} [BEq α] [LawfulBEq α] {k:α} {v:β}: ∀ {l:List (α×β)},(k,v)∈l-> ∃ v',l.lookup k=some v'
 | [],h=>by simp at h
 | (a,b)::r,h=>by
  rw [List.lookup_cons]
  split
  ·exact ⟨b,rfl⟩
  ·rename_i e
   rcases List.mem_cons.mp h with q | q
   ·cases q
    simp at e
   ·exact fF q
theorem cb {cells:List (Str×Addr)} {names:List (Str×NameKind)} {n:Str} {c:Addr} (h:(ce cells names).lookup n=some c):cells.lookup n=some c:=
 jD (names:=names) (acc:=[]) (by simp) (n,c) (mem_of_lookup h)
theorem cr {cells:List (Str×Addr)} {names:List (Str×NameKind)} {n:Str} {c:Addr} (hc:cells.lookup n=some c) (h:(n,NameKind.free)∈names):(ce cells names).lookup n=some c:=by
 obtain ⟨c',e⟩:=fF (oj hc (acc:=[]) h)
 have:=cb e
 rw [hc]at this
 cases this
 exact e
noncomputable def aX (sc0 scope:Scope):List (Str×NameKind):=
 scope.names.map fun (n,k)=>if (k== .free&&sc0.kind== .function&&sc0.names.lookup n==some .cell)then (n,.cell)else (n,k)
structure fU (sc0:Scope) (N0:List Str) (scope:Scope) (x:Str) (ys:List Str) (fr:List Nat):Prop where
 kind:scope.kind=.function
 nocell: ∀ y∈scope.names,y.2≠ .cell
 loc: ∀ y∈scope.names,y.2=.local->scope.names.lookup y.1=some .local
 xl:(aX sc0 scope).lookup x=some .local
 free: ∀ y∈scope.names,y.2=.free->sc0.names.lookup y.1=some .cell
 nd:(x::ys).Nodup
 len:ys.length=fr.length
 sl: ∀ q∈ys.zip fr,N0[q.2]? =some q.1/\sc0.names.lookup q.1=some .cell/\(aX sc0 scope).lookup q.1=some .cell
theorem cok {sc0:Scope} {N0:List Str} {scope:Scope} {x:Str} {ys:List Str} {fr:List Nat} (kind_:scope.kind=.function:=by rfl) (nocell_: ∀ y∈scope.names,y.2≠ .cell:=by decide +kernel) (loc_: ∀ y∈scope.names,y.2=.local->scope.names.lookup y.1=some .local:=by decide +kernel) (xl_:(aX sc0 scope).lookup x=some .local:=by decide +kernel) (free_: ∀ y∈scope.names,y.2=.free->sc0.names.lookup y.1=some .cell:=by decide +kernel) (nd_:(x::ys).Nodup:=by decide +kernel) (len_:ys.length=fr.length:=by rfl) (sl_: ∀ q∈ys.zip fr,N0[q.2]? =some q.1/\sc0.names.lookup q.1=some .cell/\(aX sc0 scope).lookup q.1=some .cell:=by decide +kernel):fU sc0 N0 scope x ys fr:=⟨kind_,nocell_,loc_,xl_,free_,nd_,len_,sl_⟩
noncomputable def bt (X:Cx) (x:Str) (ys:List Str) (scope:Scope) (C:Addr) (s:Shared) (H:Hp) (ex:List Addr):Cx:=
 {X with N:=x::ys,s₀:=s,H₀:=H,env:=compEnvC scope (ce X.env.cells scope.names) C X.env,outer:=X.stack,stack:=X.stack,ex:=ex,fn:=fun _=>false,pn:=[],xe:=fun _ _=>False}
section
variable {prog:Program} {w:World} {A:Around} {R:Result->Shared->Prop} {s:Shared}
theorem dS {elt target iter:Expr} {scope:Scope} {pos:Pos} {it acc:Value} {env:Env} (I:Nat->Shared->Prop)
  (turn: ∀ n s,I n s->wpAny (model prog w) A (pyNext it) (fun r s₁=>match r with
   | none=>R (.ok .next) s₁
   | some v=>wpAny (model prog w) A (letOwnedTupleGo target it v) (fun _ s₁'=>wpAny (model prog w) A (assign target env v) (fun _ s₂=>wpAny (model prog w) A (eval elt env) (fun x s₃=>
     wpAny (model prog w) A (call (.builtin "list.append") [acc,x]) (fun _ s₄=> ∃ m,m<n/\I m s₄) (fun _ _=>False) s₃) (fun _ _=>False) s₂) (fun _ _=>False) s₁') (fun _ _=>False) s₁) (fun _ _=>False) s)
  (n:Nat) (h:I n s):codeAny (model prog w) A (.compLoop (.ListComp elt [⟨target,iter,[],0⟩] scope pos) 0 it acc env) R s:=by
 refine codeAny_loop rfl I (fun n s hI=>?_) n h
 show wpAny _ _ ((compTurn (.ListComp elt [⟨target,iter,[],0⟩] scope pos) 0 it acc env).onRaise (fun x=>do noteFrame x env;theTreesLotGoes x)) _ _ s
 refine wpAny_noted ?_
 rw [compTurn_list1]
 refine wpAny_noRaise ?_
 refine wpAny_bind (wpAny_standAt (wpAny_bind (wpAny_mono (turn n s hI) (fun r s₁ h₁=>?_) fun _ _ h'=>h')))
 cases r with
 | none=>exact wpAny_pure h₁
 | some v=>
  refine wpAny_bind (wpAny_mono h₁ (fun _ s₁' h₁'=>?_) fun _ _ h'=>h')
  exact wpAny_bind (wpAny_mono h₁' (fun _ s₂ h₂=>wpAny_bind (wpAny_bind (wpAny_mono h₂ (fun x s₃ h₃=>wpAny_bind (wpAny_mono h₃
   (fun _ s₄ h₄=>wpAny_pure (wpAny_pure ⟨rfl,h₄⟩)) fun _ _ h'=>h')) fun _ _ h'=>h'))) fun _ _ h'=>h')
end
noncomputable def bi (fr:List Nat) (σ:St):St:=fr.map fun j=>(σ[j]?).join
noncomputable def de (fr:List Nat) (te:TE) (σ:St) (J:It) (H1:Hp) (Q:VK):Prop:=
 ∀ p,H1 p=none-> ∃ W:Nat->Nat->List V->Hp->Prop,(∃ m,W 0 m [] (upd H1 p (.lst [])))/\ ∀ i m ys H,W i m ys H->H p=some (.lst ys)/\
  ((J.stop i H/\Q (.ref p) H)\/(J.go i H/\ys.length<sizeLine/\ ∀ x H',J.yld i H x H'->te (some x::bi fr σ) H' fun v H2=>
   H2 p=some (.lst ys)/\ ∃ m',m'<m/\W (i+1) m' (ys++[v]) (upd H2 p (.lst (ys++[v])))))
noncomputable def tm (wi:TI) (fr:List Nat) (te:TE):TE:=fun σ H Q=>wi σ H fun J H1=>de fr te σ J H1 Q
section
variable {X:Cx} {x:Str} {px pos fpos:Pos} {iter elt:Expr} {scope sc0:Scope} {N0 ys:List Str} {fr:List Nat} {wi:TI} {te:TE} {pins:List (Addr×Obj)} {σ:St} {H:Hp} {s:Shared}
theorem kr {use:Option (Value->Sem Unit)} {Qv:Value->Shared->Prop} {Q:VK} (hcalm:X.calm=true) (hi:PI X (.Name x px) iter wi) (hsc:X.env.scope=sc0) (hN:X.N=N0) (ok:fU sc0 N0 scope x ys fr)
  (hE: ∀ C s H ex,PE (bt X x ys scope C s H ex) elt te) (I:Inv X pins σ H s) (h:tm wi fr te σ H Q) (hs: ∀ v,foldedSetIterable iter X.env v=pure v)
  (fin: ∀ (p C:Addr) (H':Hp) (s':Shared) (m:Str->Option Value),Inv X pins σ H' s'->s'.heap.Ns C m->H' C=none->C≠X.env.locals->X.s₀.heap.objs.size<=C->(∀ y c,X.env.cells.lookup y=some c->c≠C)->(∀ q∈X.pn++pins,q.1≠C)->Q (.ref p) H'->
   compPost (model X.prog X.w) X.A X.xe use Qv (.ref p) C (.ok .next) s'):
  wpAny (model X.prog X.w) X.A (comprehension (.ListComp elt [⟨.Name x px,iter,[],0⟩] scope pos) scope X.env fpos (newList []) false (eval iter X.env) use) Qv X.xe s:=by
 subst hsc hN
 have hkof: ∀ y,X.env.kindOf y=X.env.scope.names.lookup y:=fun y=>rfl
 have hfree: ∀ y∈scope.names,y.2=.free-> ∃ c,X.env.cells.lookup y.1=some c:=fun y hy e=>I.ok.has y.1 (.inl (ok.free y hy e))
 refine wpAny_comprehension_free (gs:=[]) rfl hs (cH hfree) ok.kind ok.loc (thn (hi pins s σ H _ I h) fun v s1 h1=>thn h1 fun itv s2 h2=>?_)
 obtain ⟨it,fp,tn,J,H2,e,I2,T,st2,f2,hp⟩:=h2
 subst e
 refine wpAny_newObj_type (wpAny_newFunctionEnv ok.nocell (by intro y hy;simp at hy) (fun h₁ hns₁ hsb₁=>?_) ok.kind)
 dsimp only at hns₁ hsb₁ ⊢
 have I3:Inv X pins σ (upd H2 s2.heap.objs.size (.lst [])) {s2 with heap:=s2.heap.push {cls:=.type "list",data:=.seq ([]:List Value).toArray}}:=
  I2.lnew (its:=[]) (ys:=[]) (t':=s2.toks) .nil (Nat.zero_le _)
 have hf2: ∀ b∈fp,b<s2.heap.objs.size:=fun b hb=>by
  obtain ⟨o,e,_⟩:=T.obj _ _ st2 b hb
  exact Heap.lt_size e
 have hps:s2.heap.objs.size< (s2.heap.push {cls:=.type "list",data:=.seq ([]:List Value).toArray}).objs.size:=by rw [Heap.size_push];exact Nat.lt_succ_self _
 have W0:=hp s2.heap.objs.size I2.fresh
 have st3:tn 0 (s2.heap.push {cls:=.type "list",data:=.seq ([]:List Value).toArray}):=T.keep _ _ _ st2 fun b hb o e=>Heap.get?_push_of_some _ e
 generalize hpp:s2.heap.objs.size=p at I3 W0 hf2 hps ⊢
 generalize hh3:(s2.heap.push {cls:=.type "list",data:=.seq ([]:List Value).toArray})=h3 at I3 hns₁ hsb₁ hps st3 ⊢
 generalize hH3:upd H2 p (.lst [])=H3 at I3 W0
 have hold: ∀ b o,h3.get? b=some o->h₁.get? b=some o:=fun b o e=>hsb₁.extBut b o (Nat.ne_of_lt (Heap.lt_size e)) (Heap.get?_push_of_some _ e)
 have fH3: ∀ b∈fp,H3 b=none:=fun b hb=>by
  rw [<- hH3,ai (Nat.ne_of_lt (hf2 b hb))]
  exact (f2 b hb).1
 have hclos: ∀ y c,(ce X.env.cells scope.names).lookup y=some c->X.env.cells.lookup y=some c:=fun y c e=>cb e
 have hcell3: ∀ y c,X.env.cells.lookup y=some c->c<h3.objs.size:=fun y c e=>by
  obtain ⟨v,o,ho,_⟩:=I3.cell y c e
  exact Heap.lt_size ho
 have hlt3:X.env.locals<h3.objs.size:=I3.lt
 have Yok:(bt X x ys scope h3.objs.size {s2 with heap:=h3} H3 fp).Ok:={
  mod:=I.ok.mod
  kind:=ok.kind
  glob:=I.ok.glob
  blt:=I.ok.blt
  above:=Nat.le_refl _
  inj:=fun y z c e1 e2=>I.ok.inj y z c (hclos _ _ e1) (hclos _ _ e2)
  has:=fun y hk=>by
   have hfr:(y,NameKind.free)∈scope.names:=by
    have hm: ∃ k,(aX X.env.scope scope).lookup y=some k/\(k=.cell\/k=.free):=by
     rcases hk with hk | hk
     ·exact ⟨_,hk,.inl rfl⟩
     ·exact ⟨_,hk,.inr rfl⟩
    obtain ⟨k,hk,hkk⟩:=hm
    have hmem:=mem_of_lookup hk
    unfold aX at hmem
    obtain ⟨⟨n,k0⟩,hn,en⟩:=List.mem_map.mp hmem
    dsimp only at en
    split at en
    ·rename_i hc
     simp only [Bool.and_eq_true]at hc
     have hk0:k0=.free:=by simpa using hc.1.1
     cases en
     rw [<- hk0]
     exact hn
    ·cases en
     rcases hkk with e | e
     ·exact absurd e (ok.nocell _ hn)
     ·rw [<- e]
      exact hn
   obtain ⟨c,hc⟩:=hfree _ hfr rfl
   exact ⟨c,cr hc hfr⟩
  cab:=fun y c hf _=>by cases hf
  hd:=I.ok.hd
  frames:=I.ok.frames
  stk:=.inl rfl
  exf:=fun b hb=>⟨fun e=>absurd (hf2 b hb) (by rw [e];exact Nat.not_lt.mpr (Nat.le_of_lt hps)),fun y c e=>(f2 b hb).2.2.2.2.1 y c (hclos _ _ e)⟩
  bs:=fun b o e=>⟨(I3.bs b o e).1,(I3.bs b o e).2⟩
  bsz:=Nat.le_trans I.ok.bsz I3.sz
  noex:=fun b o e hb=>by
   rcases (f2 b hb).2.2.2.1 with q | q
   ·exact I.ok.noex b o e q
   ·have h1:b<X.base.objs.size:=Heap.lt_size e
    exact absurd h1 (Nat.not_lt.mpr (Nat.le_trans I.ok.bsz q))
  exfs:=fun b hb hm=>by
   rcases List.mem_cons.mp (I3.stkSub b hm)with q | q
   ·exact (f2 b hb).2.1 q
   ·exact (f2 b hb).2.2.1 q
  funs:=I3.stack
  frf:=I3.stkFree}
 have IY:Inv (bt X x ys scope h3.objs.size {s2 with heap:=h3} H3 fp) [] (none::bi fr σ) H3 {s2 with heap:=h₁,toks:=s2.toks+ ([]:List (Str×Value)).length}:={
  ok:=Yok
  os:=rfl
  bare:=I2.bare
  base:=Un.kept hold
  loc:=by
   refine ⟨_,hns₁,fun i y v hy hv hvis=>?_⟩
   cases i with
   | zero=>cases hv
   | succ j=>
    have hy':ys[j]? =some y:=hy
    have hv':(bi fr σ)[j]? =some (some v):=hv
    unfold bi at hv'
    rw [List.getElem?_map]at hv'
    obtain ⟨i0,hi0,hv0⟩:=Option.map_eq_some_iff.mp hv'
    have hz:(y,i0)∈ys.zip fr:=by
     refine List.mem_iff_getElem?.mpr ⟨j,?_⟩
     rw [List.getElem?_zip_eq_some]
     exact ⟨hy',hi0⟩
    obtain ⟨hn,hk,hk2⟩:=ok.sl _ hz
    have hσ:σ[i0]? =some (some v):=by
     cases e:σ[i0]? with
     | none=>rw [e]at hv0;cases hv0
     | some o=>
      rw [e]at hv0
      rw [show o=some v from hv0]
    obtain ⟨m,hm,hl⟩:=I3.loc
    obtain ⟨u,ru,lk⟩:=hl i0 y v hn hσ (.inr (.inl hk))
    refine ⟨u,ru,.inr ⟨.inl hk2,?_⟩⟩
    rcases lk with ⟨a,_⟩ | ⟨_,c,hc,hcell⟩
    ·have a':X.env.scope.names.lookup y=some .local:=a
     have hk':X.env.scope.names.lookup y=some .cell:=hk
     rw [hk']at a'
     cases a'
    ·have hfr:(y,NameKind.free)∈scope.names:=by
      have hmem:=mem_of_lookup hk2
      unfold aX at hmem
      obtain ⟨⟨n,k0⟩,hn0,en⟩:=List.mem_map.mp hmem
      dsimp only at en
      split at en
      ·rename_i hc0
       simp only [Bool.and_eq_true]at hc0
       have hk0:k0=.free:=by simpa using hc0.1.1
       cases en
       rw [<- hk0]
       exact hn0
      ·cases en
       exact absurd rfl (ok.nocell _ hn0)
     exact ⟨c,cr hc hfr,hcell.keeps hold⟩
  cell:=fun y c e=>by
   obtain ⟨v,hv⟩:=I3.cell y c (hclos _ _ e)
   exact ⟨v,hv.keeps hold⟩
  free:=I3.fresh
  freeC:=fun y c e=>I3.freeC y c (hclos _ _ e)
  pin:=fun q hq=>by cases hq
  hok:=I3.hok.kept hold
  len:=by
   show (none::bi fr σ).length=(x::ys).length
   rw [List.length_cons,List.length_cons,ok.len]
   unfold bi
   rw [List.length_map]}
 have hxl:(bt X x ys scope h3.objs.size {s2 with heap:=h3} H3 fp).env.scope.names.lookup x=some .local:=ok.xl
 have pgx:PG (bt X x ys scope h3.objs.size {s2 with heap:=h3} H3 fp) (.Name x px) (dC 0):=aw (i:=0) ok.nd rfl (.inl hxl) (.inr hxl)
 have pel:=hE h3.objs.size {s2 with heap:=h3} H3 fp
 obtain ⟨W,⟨m0,w0⟩,turn⟩:=W0
 have stat: ∀ {H':Hp},(∀ b∈fp,H' b=none)-> ∀ b∈fp,iA (bt X x ys scope h3.objs.size {s2 with heap:=h3} H3 fp) [] H' b:=fun hn b hb=>
  ⟨hn b hb,(Yok.exf b hb).1,Yok.exfs b hb,.inl hb,(Yok.exf b hb).2,fun q hq=>by cases hq⟩
 have loop:codeAny (model X.prog X.w) X.A (.compLoop (.ListComp elt [⟨.Name x px,iter,[],0⟩] scope pos) 0 (.ref it) (.ref p) (compEnvC scope (ce X.env.cells scope.names) h3.objs.size X.env))
   (compPost (model X.prog X.w) X.A X.xe use Qv (.ref p) h3.objs.size) {s2 with heap:=h₁,toks:=s2.toks+ ([]:List (Str×Value)).length}:=by
  refine dS (fun n s'=> ∃ i zs v0 H',Inv (bt X x ys scope h3.objs.size {s2 with heap:=h3} H3 fp) [] (v0::bi fr σ) H' s'/\tn i s'.heap/\(∀ b∈fp,H' b=none)/\W i n zs H') ?_ m0
   ⟨0,[],none,H3,IY,T.keep _ _ _ st3 fun b hb o e=>hold b o e,fH3,w0⟩
  rintro n s5 ⟨i,zs,v0,H5,I5,st5,fr5,w5⟩
  obtain ⟨hacc,turn5⟩:=turn i n zs H5 w5
  rcases turn5 with ⟨stop,qn⟩ | ⟨go,hlen,step⟩
  ·refine thn (T.done (bt X x ys scope h3.objs.size {s2 with heap:=h3} H3 fp) rfl rfl rfl hcalm i [] s5 _ H5 _ I5 (stat fr5) st5 stop) fun r s6 ⟨hr,I6⟩=>?_
   subst hr
   obtain ⟨m6,n6,_⟩:=I6.loc
   refine fin p h3.objs.size H5 s6 m6 (I3.call' I6.os I6.base I6.hok I6.bare fun b hb=>⟨(f2 b hb).2.2.2.1,(f2 b hb).2.1,(f2 b hb).2.2.2.2.1,(f2 b hb).2.2.2.2.2⟩) n6 I6.free (Nat.ne_of_gt hlt3) I3.sz (fun y c e=>Nat.ne_of_lt (hcell3 y c e)) (fun q hq=>?_) qn
   exact Nat.ne_of_lt (Heap.lt_size (I3.pin q hq).1)
  ·refine thn (T.item (bt X x ys scope h3.objs.size {s2 with heap:=h3} H3 fp) rfl rfl rfl hcalm i [] s5 _ H5 _ I5 (stat fr5) st5 go) fun r s6 ⟨u,hr,h6⟩=>?_
   subst hr
   refine thn h6 fun _ s7 ⟨xv,H7,I7,r7,y7,st7,fr7⟩=>?_
   have I7':=I7.pinned (stat fr7) (T.obj _ _ st7)
   refine thn (pgx _ s7 _ H7 xv u (fun σ' H'=>σ'=some xv::bi fr σ/\H'=H7) I7' r7 ⟨rfl,rfl⟩) fun _ s8 ⟨σ8,H8,I8,e8,e8'⟩=>?_
   subst e8 e8'
   refine thn (pel _ s8 _ H8 _ I8 (step xv H8 y7)) fun yv s9 ⟨v9,H9,I9,r9,hp9,m',hm',w9⟩=>?_
   refine thn (bo _ s9 _ H9 (.ref p) [v9] (.ref p) [yv] (fun _ H'=>H'=upd H9 p (.lst (zs++[v9]))) I9 rfl (.cons r9 .nil) ⟨p,zs,v9,rfl,rfl,hp9,hlen,rfl⟩) fun _ s10 ⟨_,H10,I10,_,e10⟩=>?_
   subst e10
   refine ⟨m',hm',i+1,zs++[v9],some xv,_,I10.unpinned,T.keep _ _ _ st7 fun b hb o e=>(I10.pin (b,o) (List.mem_append_right _ (List.mem_append_right _ (br hb e)))).1,fun b hb=>?_,w9⟩
   obtain ⟨o,e,d⟩:=T.obj _ _ st7 b hb
   exact (I10.pin (b,o) (List.mem_append_right _ (List.mem_append_right _ (br hb e)))).2.1
 exact codeAny_compStart_list loop (T.self X.A 0 _ _ _ (T.keep _ _ _ st3 fun b hb o e=>hold b o e) loop)
theorem bV (hcalm:X.calm=true) (hi:PI X (.Name x px) iter wi) (hsc:X.env.scope=sc0) (hN:X.N=N0) (ok:fU sc0 N0 scope x ys fr)
  (hE: ∀ C s H ex,PE (bt X x ys scope C s H ex) elt te) (hs: ∀ v,foldedSetIterable iter X.env v=pure v:=by intro _;rfl):
  PE X (.ListComp elt [⟨.Name x px,iter,[],0⟩] scope pos) (tm wi fr te):=by
 intro pins s σ H Q I h
 rw [eval_ListComp]
 refine kr (use:=none) (Qv:=EP X pins σ Q) (Q:=Q) hcalm hi hsc hN ok hE I h hs fun p C H' s' m I' hn h0 h1 h2 h3 h4 q=>?_
 refine ⟨m,hn,fun h' sb=>⟨.ref p,H',I'.turned (t':=s'.toks) (fun b o hb e=>sb.extBut b o hb e) h0 (Ne.symm (Ne.symm h1)) (.inr h2) h3 h4,rfl,q⟩⟩
theorem eG {i:Nat} {y:Str} {py spos:Pos} (hcalm:X.calm=true) (hnd:X.N.Nodup) (hiN:X.N[i]? =some y) (hy:Loc X.env.scope y) (hi:PI X (.Name x px) iter wi) (hsc:X.env.scope=sc0) (hN:X.N=N0) (ok:fU sc0 N0 scope x ys fr)
  (hE: ∀ C s H ex,PE (bt X x ys scope C s H ex) elt te) (hsw:swapsWith (.ListComp elt [⟨.Name x px,iter,[],0⟩] scope pos) (some (.Name y py)) spos.line X.env=pure true:=by rfl)
  (hs: ∀ v,foldedSetIterable iter X.env v=pure v:=by intro _;rfl) (hf:X.fn y=true\/X.env.scope.names.lookup y=some .local:=by first | exact .inl rfl | exact .inr rfl | assumption):
  PS X (.Assign [.Name y py] (.ListComp elt [⟨.Name x px,iter,[],0⟩] scope pos) spos) (mj (tm wi fr te) (dC i)):=by
 intro pins s σ H D I h
 rw [exec_Assign_Name_used _ _ _ _ hsw]
 refine wpAny_bind (wpAny_standAt (wpAny_bind ?_))
 show wpAny _ X.A (do let _ <- comprehension (.ListComp elt [⟨.Name x px,iter,[],0⟩] scope pos) scope X.env _ (newList []) false (eval iter X.env) (some (assign (.Name y py) X.env))) _ _ s
 refine wpAny_bind (thn (kr (use:=some (assign (.Name y py) X.env)) (Qv:=fun _ s'=>SP X pins D .next s') (Q:=fun v H'=>D.nx (σ.set i (some v)) H') hcalm hi hsc hN ok hE I h hs fun p C H' s' m I' hn h0 h1 h2 h3 h4 q=>?_) fun _ s' hq=>wpAny_pure (wpAny_pure hq))
 show wpAny _ X.A (assign (.Name y py) X.env (.ref p)) _ _ s'
 refine wpAny_assign_Name (dW (v:=.ref p) I' hnd hiN hy rfl (fun s'' I'' ⟨a,sb,ha⟩=>?_) hf)
 have hCa:C≠a:=by
  rcases ha with e | e
  ·rw [e];exact h1
  ·exact (h3 y a e).symm
 refine ⟨m,hn.sameBut sb hCa,fun h' sb'=>⟨_,H',I''.turned (t':=s''.toks) (fun b o hb e=>sb'.extBut b o hb e) h0 h1 (.inr h2) h3 h4,q⟩⟩
theorem ig {n:Nat} {J:It} {H1:Hp} {Q:VK} {R:Nat->V->Prop} (hn:n<=1000) (hgo: ∀ i H,i<n->J.go i H) (hstop: ∀ H,J.stop n H) (hy: ∀ i H v H',J.yld i H v H'->H'=H/\R i v)
  (Pv:Addr->Nat->List V->Hp->Prop) (h0: ∀ p,H1 p=none->Pv p 0 [] (upd H1 p (.lst []))) (hl: ∀ p i zs H,Pv p i zs H->H p=some (.lst zs)/\zs.length=i)
  (hs: ∀ p i zs H v (k:VK),H1 p=none->i<n->R i v->Pv p i zs H->(∀ u H2,H2 p=some (.lst zs)->Pv p (i+1) (zs++[u]) (upd H2 p (.lst (zs++[u])))->k u H2)->te (some v::bi fr σ) H k)
  (hd: ∀ p zs H,H1 p=none->Pv p n zs H->Q (.ref p) H):de fr te σ J H1 Q:=by
 intro p hp
 refine ⟨fun i m zs H=>i<=n/\m=n-i/\Pv p i zs H,⟨n,Nat.zero_le _,by simp,h0 p hp⟩,?_⟩
 rintro i m zs H ⟨hi,hm,q⟩
 obtain ⟨hp',hz⟩:=hl p i zs H q
 refine ⟨hp',?_⟩
 by_cases e:i=n
 ·subst e
  exact .inl ⟨hstop H,hd p zs H hp q⟩
 ·have hlt:i<n:=by lia
  refine .inr ⟨hgo i H hlt,au (by lia),fun v H' hv=>?_⟩
  obtain ⟨rfl,r⟩:=hy i H v H' hv
  refine hs p i zs H' v _ hp hlt r q fun u H2 a b=>?_
  exact ⟨a,n- (i+1),by lia,by lia,rfl,b⟩
theorem pD {lo:Int} {n:Nat}: ∀ i H,i<n->(Itr lo n).go i H:=fun _ _ h=>h
theorem js {lo:Int} {n:Nat}: ∀ H,(Itr lo n).stop n H:=fun _=>Nat.le_refl n
theorem lZ {lo:Int} {n:Nat}: ∀ i H v H',(Itr lo n).yld i H v H'->H'=H/\v=.int (lo+i):=fun _ _ _ _ h=>h
end
section
variable {X:Cx} {e k:Expr} {te tk:TE} {pos p2:Pos}
theorem dU: ∀ (ix:List Nat) {xs:List V} {us:List Value},Vals xs us->Vals (ix.filterMap (xs[·]?)) (ix.filterMap (us[·]?))
 | [],_,_,_=>.nil
 | i::r,xs,us,h=>by
  rw [List.filterMap_cons,List.filterMap_cons]
  cases ex:xs[i]? with
  | none=>
   rw [h.none_of ex]
   exact dU r h
  | some x=>
   obtain ⟨u,eu,ru⟩:=h.get ex
   rw [eu]
   exact .cons ru (dU r h)
noncomputable def eS (n:Nat) (c:Int):List Nat:=sliceRange (sliceBounds none none (some c) n).1 (sliceBounds none none (some c) n).2.1 (sliceBounds none none (some c) n).2.2
noncomputable def im (xs:List V) (c:Int):List V:=(eS xs.length c).filterMap (xs[·]?)
theorem oP {α:Type} (xs:List α):(List.range xs.length).filterMap (xs[·]?)=xs:=by
 induction xs with
 | nil=>rfl
 | cons x r ih=>
  rw [List.length_cons,List.range_succ_eq_map,List.filterMap_cons,List.filterMap_map]
  show x::List.filterMap ((fun j=>(x::r)[j]?)∘Nat.succ) (List.range r.length)=x::r
  congr 1
theorem oG (n:Nat):eS n 1=List.range n:=by
 unfold eS sliceBounds sliceRange
 simp only [Option.getD_some,show (1:Int) >0 by decide,if_true]
 by_cases h:n=0
 ·subst h
  rfl
 ·rw [if_pos (by lia)]
  have e:(((n:Int) -0+1-1) /1).toNat=n:=by rw [Int.ediv_one];lia
  rw [e]
  conv=>rhs;rw [<- List.map_id (List.range n)]
  apply List.map_congr_left
  intro k hk
  show (0+1* (k:Int)).toNat=k
  lia
theorem qX (xs:List V):im xs 1=xs:=by
 unfold im
 rw [oG]
 exact oP xs
theorem oH (n:Nat):eS n (-1)=(List.range n).map fun k=>n-1-k:=by
 unfold eS sliceBounds sliceRange
 simp only [Option.getD_some,show ¬ ((-1:Int) >0) by decide,if_false]
 by_cases h:n=0
 ·subst h
  rfl
 ·rw [if_pos (by lia)]
  have e:(((n:Int) -1- -1- -1-1) / (- -1)).toNat=n:=by
   rw [show (- -1:Int)=1 by decide,Int.ediv_one];lia
  rw [e]
  apply List.map_congr_left
  intro k hk
  have:=List.mem_range.mp hk
  show ((n:Int) -1+ -1* (k:Int)).toNat=n-1-k
  lia
theorem rev_pick {α:Type} (xs:List α):((List.range xs.length).map fun k=>xs.length-1-k).filterMap (xs[·]?)=xs.reverse:=by
 apply List.ext_getElem?
 intro i
 have hall:((List.range xs.length).map fun k=>xs.length-1-k).filterMap (xs[·]?)=(List.range xs.length).filterMap fun k=>xs[xs.length-1-k]? :=by
  rw [List.filterMap_map]
  rfl
 rw [hall]
 have hsome: ∀ (l:List Nat),(∀ k∈l,k<xs.length)-> ∀ j:Nat,(l.filterMap fun k=>xs[xs.length-1-k]?)[j]? =l[j]?.bind fun k=>xs[xs.length-1-k]? :=by
  intro l
  induction l with
  | nil=>intro _ j;rfl
  | cons a r ih=>
   intro hl j
   have ha:=hl a List.mem_cons_self
   have hx:xs[xs.length-1-a]? =some xs[xs.length-1-a]:=List.getElem?_eq_getElem (by lia)
   rw [List.filterMap_cons,hx]
   cases j with
   | zero=>simp [hx]
   | succ j=>
    rw [List.getElem?_cons_succ,List.getElem?_cons_succ]
    exact ih (fun k hk=>hl k (List.mem_cons_of_mem _ hk)) j
 rw [hsome _ (fun k hk=>List.mem_range.mp hk) i]
 by_cases hi:i<xs.length
 ·rw [List.getElem?_range hi,List.getElem?_reverse hi]
  rfl
 ·rw [List.getElem?_eq_none (by simpa using hi),List.getElem?_eq_none (by simpa using hi)]
  rfl
theorem gO (xs:List V):im xs (-1)=xs.reverse:=by
 unfold im
 rw [oH]
 exact rev_pick xs
noncomputable def xO (K:PySem.W.Frag) (te tk:TE):TE:=fun σ H Q=>te σ H fun x H1=>tk σ H1 fun y H2=> ∃ a xs c,x=.ref a/\y=.int c/\SqL K H2 a xs/\c≠0/\ ∀ p,H2 p=none->Q (.ref p) (upd H2 p (.lst (im xs c)))
theorem lM (he:PE X e te) (hk:PE X k tk):PE X (.Subscript e (.Slice none none (some k) p2) pos) (xO X.K te tk):=by
 intro pins s σ H Q I h
 refine Subscript_ (thn (he pins s σ H _ I h) fun v s1 ⟨x,H1,I1,r1,q1⟩=>?_)
 refine wpAny_Slice ?_
 rw [evalPart_none,evalPart_some]
 refine wpAny_pure (wpAny_pure ?_)
 refine thn (hk pins s1 σ H1 _ I1 q1) fun vk s3 ⟨y,H3,I3,ry,a,xs,c,ex,ey,hq,hc,q⟩=>?_
 subst ex ey
 obtain ⟨t,rfl⟩:=ry
 cases r1
 have I4:Inv X pins σ H3 {s3 with heap:=s3.heap.push {cls:=.type "slice",data:=.fields #[.none,.none,.int c t]}}:=I3.kept (t':=s3.toks) fun b ob q=>Heap.get?_push_of_some _ q
 obtain ⟨its,r,ht,hz⟩:=I4.list hq
 have hlen:=r.length
 have hpick:slicePick its.toArray none none (some c)=((eS xs.length c).filterMap (its[·]?)).toArray:=by
  unfold slicePick eS
  rw [List.size_toArray,hlen]
  simp
 have hle:(im xs c).length<=sizeLine:=by
  have h1:=slicePick_size_le its.toArray none none (some c)
  rw [hpick,List.size_toArray,List.size_toArray]at h1
  have h2:=(dU (eS xs.length c) r).length
  unfold im
  lia
 show wpAny (model X.prog X.w) X.A (subscriptTail e (.Slice none none (some k) p2) (.ref a) (.ref s3.heap.objs.size)) (EP X pins σ Q) X.xe {s3 with heap:=s3.heap.push {cls:=.type "slice",data:=.fields #[.none,.none,.int c t]}}
 refine tail_any (ops:=[.ref a,.ref s3.heap.objs.size]) ht.isList.typeIs slot_list_getitem.lookup (wpAny_getItem_list_slice ht.isList (Heap.IsSliceOf.new ..) .none .none (.int c t) (by simpa using hc) ?_ (by rw [List.size_toArray];lia)) (by with_unfolding_all rfl)
 rw [hpick]
 refine ⟨.ref (s3.heap.push {cls:=.type "slice",data:=.fields #[.none,.none,.int c t]}).objs.size,_,I4.laid (t':=s3.toks) (o:=.lst (im xs c)) (fun b ob q=>Heap.get?_push_of_some _ q) (Nat.le_refl _) ?_,rfl,q _ I4.fresh⟩
 exact ⟨hle,_,0,dU _ r,Heap.get?_push_size _ rfl⟩
noncomputable def yR:V->Option Int->Option Int->Hp->VK->Prop:=fun x lo hi H Q=> ∃ z,x=.str z/\z.length<=sizeLine/\Q (.str (Txt.slice z lo hi)) H
theorem li:SlR X yR:=by
 intro pins s σ H x v vl vu lo hi sl Q I rx hs pl pu h
 obtain ⟨z,rfl,hz,q⟩:=h
 obtain ⟨t,rfl⟩:=rx
 refine ⟨"str",_,F.slot_str_getitem.lookup,typeIs_str _ _ _,?_⟩
 have go: ∀ (l u:Option (Int×Tok)),vl=partValue l->vu=partValue u->lo=l.map (·.1)->hi=u.map (·.1)->wpAny (model X.prog X.w) X.A (getItem (.str z t) (.ref sl)) (EP X pins σ Q) X.xe s:=by
  intro l u e1 e2 e3 e4
  subst e1 e2 e3 e4
  refine wpAny_getItem_str_slice (l:=l) (u:=u) (st:=none) hs rfl ?_
  exact post_val_or_str ⟨Nat.le_trans (Txt.slice_le z _ _) hz,fun t' k=>⟨.str (Txt.slice z (l.map (·.1)) (u.map (·.1))),H,I.tok k,⟨t',rfl⟩,q⟩⟩
 cases pl with
 | none=>
  cases pu with
  | none=>exact go none none rfl rfl rfl rfl
  | int j tj=>exact go none (some (j,tj)) rfl rfl rfl rfl
 | int i ti=>
  cases pu with
  | none=>exact go (some (i,ti)) none rfl rfl rfl rfl
  | int j tj=>exact go (some (i,ti)) (some (j,tj)) rfl rfl rfl rfl
open PySem.AutoSeq1 (wpAny_loadPart')in
theorem pI (l:Addr) (items:Array Value) (n:Nat) (b:Addr) (items2:Array Value) (n2:Nat) (dd:Option Addr) (sl:Array (Option Value)) (hs0: ¬(!items.isEmpty&&Builtin.List.listTooLong (items.size+items2.size))=true) (hs1:items.size<=sizeLine) (hs2:items.size+items2.size<=sizeLine+1):
  Meets (Builtin.«list.extend» ⟨[.ref l,.ref b],[]⟩) (fun _ R s=>s.heap.get? l=some {cls:=.type "list",dict:=none,data:=.seq items n,slots:= #[]}/\s.heap.get? b=some {cls:=.type "tuple",dict:=dd,data:=.seq items2 n2,slots:=sl}/\R (.ok (.ret Value.none)) {s with heap:=s.heap.update l (Obj.mapSeq fun x=>x++items2),toks:=s.toks}):=
 .of_wp fun prog w A R s h=>by
  obtain ⟨hp,g,d,tk,os⟩:=s;obtain ⟨hl,hb,h⟩:=h;have f1:=AutoSeq1.idx_int;have f2:=AutoSeq1.sub_tuple_tuple;have f3:=AutoSeq1.sub_list_list;have f4:=AutoSeq1.sub_tuple_list;have f5:=AutoSeq1.sub_list_tuple;
  have hz':(items++items2).size<=sizeLine+1:=by rw [Array.size_append];exact hs2
  wp_walk using (wpAny_updateSeq hl rfl (hz:=hs1) (_hz':=hz')),wpAny_loadPart' hl,wpAny_loadPart' hb;exact ⟨_,rfl,h⟩
noncomputable def x9 (K:PySem.W.Frag):V->List V->Hp->VK->Prop:=fun x vs H Q=> ∃ l b xs zs,x=.ref l/\vs=[.ref b]/\H l=some (.lst xs)/\SqT K H b zs/\xs.length+zs.length<=sizeLine/\Q .non (upd H l (.lst (xs++zs)))
theorem v4:MtM X "list.extend" (x9 X.K):=by
 intro pins s σ H x vs v us Q I rx rv h
 obtain ⟨l,b,xs,zs,rfl,rfl,hH,hB,hz,q⟩:=h
 cases rx
 obtain ⟨u,rfl,ru⟩:=rv.one
 cases ru
 obtain ⟨z,its,n,r,hl,e⟩:=I.lstM hH
 obtain ⟨its2,r2,ht2,hz2⟩:=I.tuple hB
 obtain ⟨⟨c2,d2,dat2,sl2⟩,e2,hc2,n2,hd2⟩:=ht2
 dsimp only at hc2 hd2
 subst hc2 hd2
 have hl2:=r2.length
 have hsz:its.toArray.size+its2.toArray.size<=sizeLine:=by rw [List.size_toArray,List.size_toArray];lia
 have hlong: ¬ (!its.toArray.isEmpty&&Builtin.List.listTooLong (its.toArray.size+its2.toArray.size))=true:=by
  rw [nJ hsz,Bool.and_false]
  exact Bool.false_ne_true
 refine call_meets F.slot_list_extend ⟨_,e,rfl⟩ F.entry_list_extend (F.args_list_extend_2 _ _)
  (pI l its.toArray n b its2.toArray n2 d2 sl2 hlong (by rw [List.size_toArray];lia) (by lia)) ⟨e,e2,?_⟩
 refine ⟨.non,_,I.lset (its':=its++its2) hH e (by simp) (r.append r2) ?_,rfl,q⟩
 rw [List.length_append]
 lia
theorem rc (bs:List Bool):((List.range bs.length).all fun i=>(bs[i]?).getD true)=bs.all id:=by
 induction bs with
 | nil=>rfl
 | cons b r ih=>
  rw [List.length_cons,List.range_succ_eq_map,List.all_cons,List.all_map]
  show (b&&(List.range r.length).all (fun i=>((b::r)[i+1]?).getD true))=(b&&r.all id)
  rw [<- ih]
  rfl
theorem gK (hc:X.calm=true):dG X (.builtin "all") (fun xs H Q=> ∃ (p:Addr) (bs:List Bool),xs=[.ref p]/\SqL X.K H p (bs.map V.bl)/\Q (.bl (bs.all id)) H):=by
 intro pins s σ H xs us Q I r h
 obtain ⟨p,bs,rfl,hq,q⟩:=h
 obtain ⟨u,rfl,ru⟩:=fB r
 cases ru
 obtain ⟨its,rv,pl,hz⟩:=I.list hq
 have hl:=pl.isList
 have hlt:p<s.heap.objs.size:=by obtain ⟨_,e,_⟩:=hl;exact Heap.lt_size e
 have hn:its.toArray.size=bs.length:=by have:=rv.length;rw [List.length_map]at this;rw [List.size_toArray];lia
 refine call_all_walk (wpAny_pyIter_list hl ?_)
 refine ⟨s.heap.objs.size,[s.heap.objs.size,p],[s.heap.objs.size],its.toArray.size,_,_,fun i=>(bs[i]?).getD true,rfl,Walks.list (A:=X.A.in1) (I.ok.hd hc) _ p (Nat.ne_of_lt hlt) its.toArray,
  ⟨⟨_,Heap.get?_push_size _ rfl,rfl,rfl⟩,hl.push _⟩,fun i v s' Q' E' hP hQ=>?_,fun h' tk hk=>?_⟩
 ·have hv:its[i]? =some v:=by simpa using hP
  have hi:i<bs.length:=by
   have:=(List.getElem?_eq_some_iff.mp hv).1
   have:=rv.length
   rw [List.length_map]at this
   lia
  have hb:(bs.map V.bl)[i]? =some (V.bl bs[i]):=by rw [List.getElem?_map,List.getElem?_eq_getElem hi] <;> rfl
  obtain ⟨u,eu,ru⟩:=rv.get hb
  rw [hv]at eu
  cases eu
  cases (show v=Value.bool bs[i]from ru)
  have hQ':=hQ
  simp only [List.getElem?_eq_getElem hi,Option.getD_some]at hQ'
  exact wpAny_truthy_bool hQ'
 ·rw [hn,rc]
  refine ⟨.bl (bs.all id),H,I.kept (t':=tk) fun b x e=>?_,rfl,q⟩
  exact hk b x (fun hm=>by rw [List.mem_singleton.mp hm]at e;exact Nat.lt_irrefl _ (Heap.lt_size e)) (Heap.get?_push_of_some _ e)
noncomputable def wB (P:Program) (w:World) (K:PySem.W.Frag) (a:Addr) (kvs:List (Key×V)):Prop:=
 (a==sysModules)=false/\ ∀ h:Heap,K.In h-> ∃ vs,KV kvs vs/\h.DictOf (aU P w) a vs
noncomputable def yV (P:Program) (w:World) (K:PySem.W.Frag) (neg:Bool):R2:=fun x y H Q=> ∃ k a kvs,x=kV k/\y=.ref a/\wB P w K a kvs/\Q (.bl (if neg then !(aP kvs k).isSome else (aP kvs k).isSome)) H
theorem xc:OpR X (compareOp .In) (yV X.prog X.w X.K false):=by
 intro pins s σ H x y v u Q I rx ry h
 obtain ⟨k,a,kvs,rfl,rfl,⟨hd,T⟩,q⟩:=h
 cases (show u=Value.ref a from ry)
 obtain ⟨vs,rel,dd⟩:=T _ I.kIn
 refine wpAny_in_of (jq rx) hd dd.mapOf ?_
 rw [<- (rel.val k).isSome_eq]
 exact ⟨.bl (aP kvs k).isSome,H,I.tok _,rfl,q⟩
end
noncomputable def qw:Expr->Bool
 | .Starred _ _=>false
 | _=>true
theorem jH {e:Expr} {es:List Expr} {env:Env} (h:qw e=true):starEach (e::es) env=(false,eval e env)::starEach es env:=by
 cases e <;> first | rfl | cases h
theorem pac {X:Cx} {e:Expr} {es:List Expr} {te:TE} {t:TA} (ha:PE X e te) (hr:PA X es t) (h:qw e=true:=by rfl):PA X (e::es) (wC te t):=aa ha hr (jH h)
noncomputable def pK:Const->Option V
 | .str x=>some (.str x)
 | .int i=>some (.int i)
 | .bool b=>some (.bl b)
 | .none=>some .non
 | _=>none
noncomputable def gJ:List Expr->Option (List V)
 | []=>some []
 | .Constant c _ _::r=>(match pK c,gJ r with | some v,some vs=>some (v::vs) | _,_=>none)
 | _::_=>none
theorem ui {X:Cx} {c:Const} {j:Nat} {pos:Pos} {v:V} (h:pK c=some v):PE X (.Constant c j pos) (tC v):=by
 cases c with
 | str x=>cases h;exact aT
 | int i=>cases h;exact ae
 | bool b=>cases h;exact uk
 | none=>cases h;exact lN
 | _=>cases h
theorem j3 {X:Cx}: ∀ {es:List Expr} {vs:List V},gJ es=some vs->PA X es (fun _ H Q=>Q vs H)
 | [],vs,h=>by
  cases h
  exact ac
 | e::r,vs,h=>by
  cases e with
  | Constant c j pos=>
   simp only [gJ]at h
   cases hc:pK c with
   | none=>rw [hc]at h;cases h
   | some v=>
    cases hr:gJ r with
    | none=>rw [hc,hr]at h;cases h
    | some ws=>
     rw [hc,hr]at h
     cases h
     exact pac (ui hc) (j3 hr)
  | _=>cases h
theorem vK {X:Cx} {i:Nat} {x:Str} {es:List Expr} {vs:List V} {pos p pos':Pos} (hN:X.N.Nodup) (hi:X.N[i]? =some x) (hx:Loc X.env.scope x) (hf:X.fn x=true\/X.env.scope.names.lookup x=some .local) (h:gJ es=some vs):
  PS X (.Assign [.Name x pos'] (.List es p) pos) (mj (xT (fun _ H Q=>Q vs H)) (dC i)):=
 am hN hi hx (bu (j3 h)) rfl hf
end L2
namespace HT
open PySem PyProof.Rows
section
variable {prog:Program} {w:World} {A:Around} {s:Shared} {E:Value->Shared->Prop}
theorem oq (n:Nat):Builtin.Slice.sliceAdjust none none (-1) (n:Int)=((n:Int) -1,-1):=by
 unfold Builtin.Slice.sliceAdjust
 simp
theorem nu (n:Nat):Builtin.Slice.slicePlaces ((n:Int) -1) (-1) (-1)=n:=by
 unfold Builtin.Slice.slicePlaces
 have h1: ¬ ((-1:Int) >0):=by lia
 simp only [h1,if_false]
 rw [show (- -1:Int)=1 by decide,Int.ediv_one]
 split <;> lia
theorem l7 {sl:Addr} {t:Tok} {n:Nat} {Q:Int×Int×Nat->Shared->Prop} (hs:s.heap.IsSliceOf sl .none .none (.int (-1) t)) (h:Q ((n:Int) -1,-1,n) s):
  wpAny (model prog w) A (Builtin.Slice.sliceApplied (.ref sl) (pure (n:Int))) Q E s:=by
 obtain ⟨os,hos,hcs,hds⟩:=id hs
 unfold Builtin.Slice.sliceApplied Builtin.Slice.sliceFields
 refine wpAny_bind (wpAny_bind (wpAny_field hos hds (x:=.none) rfl (wpAny_bind (wpAny_field hos hds (x:=.none) rfl (wpAny_bind (wpAny_field hos hds (x:=.int (-1) t) rfl (wpAny_pure ?_)))))))
 refine wpAny_bind (dz (.int (-1) t) ?_)
 show wpAny _ _ (if ((-1:Int)==0)=true then _ else _) _ _ s
 rw [if_neg (by decide)]
 refine wpAny_bind (dz .none (wpAny_bind (dz .none (wpAny_bind (wpAny_pure ?_)))))
 show wpAny _ _ (match Builtin.Slice.sliceAdjust none none (-1) (n:Int)with | (lo,hi)=>pure (lo,(-1:Int),Builtin.Slice.slicePlaces lo hi (-1))) _ _ s
 rw [oq n]
 show wpAny _ _ (pure ((n:Int) -1,(-1:Int),Builtin.Slice.slicePlaces ((n:Int) -1) (-1) (-1))) _ _ s
 rw [nu]
 exact wpAny_pure h
theorem nY {α β:Type} {f g:α->Option β}: ∀ {l:List α},(∀ x∈l,f x=g x)->l.filterMap f=l.filterMap g
 | [],_=>rfl
 | x::r,h=>by rw [List.filterMap_cons,List.filterMap_cons,h x List.mem_cons_self,nY fun y hy=>h y (List.mem_cons_of_mem _ hy)]
theorem rh (xs:Array Value):((List.range xs.size).filterMap fun (m:Nat)=>xs[((xs.size:Int) -1+ (m:Int) * -1).toNat]?).toArray=xs.toList.reverse.toArray:=by
 congr 1
 rw [<- L2.rev_pick xs.toList,List.filterMap_map,Array.length_toList]
 refine nY fun m hm=>?_
 have:=List.mem_range.mp hm
 have e:((xs.size:Int) -1+ (m:Int) * -1).toNat=xs.size-1-m:=by lia
 rw [e]
 simp
theorem getItem_tuple_back {a sl:Addr} {items:Array Value} {t:Tok} {Q:Value->Shared->Prop} (ht:IsTup s.heap a items) (hs:s.heap.IsSliceOf sl .none .none (.int (-1) t))
  (h:Q (.ref s.heap.objs.size) {s with heap:=s.heap.push {cls:=.type "tuple",data:=.seq items.toList.reverse.toArray}})
  (hsz:items.size<=sizeLine):wpAny (model prog w) A (getItem (.ref a) (.ref sl)) Q E s:=by
 have hok:sizeOk (.seq items.toList.reverse.toArray):=by
  show items.toList.reverse.toArray.size<=sizeLine
  rw [List.size_toArray,List.length_reverse,Array.length_toList]
  exact hsz
 obtain ⟨os,hos,hcs,hds⟩:=id hs
 have hTs:s.TypeIs (.ref sl) "slice":=⟨os,hos,hcs⟩
 unfold getItem
 try with_reducible refine wpAny_holding ?_
 first | refine wpAny_bind (wpAny_pure ?_) | skip
 refine wpAny_bind (wpAny_sequenceKey ht.typeIs (by decide) ?_)
 refine wpAny_bind (wpAny_callSpecial?_slot (name:=Str.ofString "__getitem__") ht.typeIs PyProof.Rows.slot_tuple_getitem
  (wpAny_call_entry PyProof.Rows.slot_tuple_getitem ht.typeIs entry_tuple_getitem ?_ (args_tuple_getitem _ _)))
 show wpAny _ _ (Builtin.Tuple.tupleItemsOf (.ref a) >>= _) _ _ s
 refine wpAny_bind (tupleItemsOf_ ht ?_)
 refine wpAny_bind (wpAny_typeOf hTs ?_)
 rw [if_pos (by decide)]
 refine wpAny_bind (l7 hs ?_)
 show wpAny _ _ (if (((items.size:Int) -1)==0&&(-1:Int)==1&&items.size==items.size)=true then _ else _) _ _ s
 rw [if_neg (by simp),rh]
 first
  | exact wpAny_bind (m:=Builtin.Tuple.tupleExact _) (wpAny_newObj_type (wpAny_pure ⟨_,rfl,wpAny_pure h⟩) hok)
  | exact wpAny_bind (m:=Builtin.Tuple.tupleExact _) (wpAny_newObj_type (wpAny_bind (wpAny_pure (wpAny_pure ⟨_,rfl,wpAny_pure h⟩))) hok)
  | exact wpAny_bind (wpAny_bind (m:=Builtin.Tuple.tupleExact _) (wpAny_newObj_type (wpAny_pure (wpAny_pure ⟨_,rfl,wpAny_pure h⟩)) hok))
  | exact wpAny_bind (wpAny_bind (m:=Builtin.Tuple.tupleExact _) (wpAny_newObj_type (wpAny_pure ⟨_,rfl,wpAny_pure h⟩) hok))
end
end HT
namespace L2
open PySem PySem.Spec PyProof.Rows
section
variable {X:Cx} {e k:Expr} {te tk:TE} {pos p2:Pos}
noncomputable def wT (K:PySem.W.Frag) (te tk:TE):TE:=fun σ H Q=>te σ H fun x H1=>tk σ H1 fun y H2=> ∃ a xs,x=.ref a/\y=.int (-1)/\SqT K H2 a xs/\ ∀ p,H2 p=none->Q (.ref p) (upd H2 p (.tup xs.reverse))
theorem sN {xs:List V} {us:List Value} (h:Vals xs us):Vals xs.reverse us.reverse:=by
 rw [<- rev_pick xs,<- rev_pick us,h.length]
 exact dU _ h
theorem nz (he:PE X e te) (hk:PE X k tk):PE X (.Subscript e (.Slice none none (some k) p2) pos) (wT X.K te tk):=by
 intro pins s σ H Q I h
 refine Subscript_ (thn (he pins s σ H _ I h) fun v s1 ⟨x,H1,I1,r1,q1⟩=>?_)
 refine wpAny_Slice ?_
 rw [evalPart_none,evalPart_some]
 refine wpAny_pure (wpAny_pure ?_)
 refine thn (hk pins s1 σ H1 _ I1 q1) fun vk s3 ⟨y,H3,I3,ry,a,xs,ex,ey,hq,q⟩=>?_
 subst ex ey
 obtain ⟨t,rfl⟩:=ry
 cases r1
 have I4:Inv X pins σ H3 {s3 with heap:=s3.heap.push {cls:=.type "slice",data:=.fields #[.none,.none,.int (-1) t]}}:=I3.kept (t':=s3.toks) fun b ob q=>Heap.get?_push_of_some _ q
 obtain ⟨its,r,ht,hz⟩:=I4.tuple hq
 show wpAny (model X.prog X.w) X.A (subscriptTail e (.Slice none none (some k) p2) (.ref a) (.ref s3.heap.objs.size)) (EP X pins σ Q) X.xe {s3 with heap:=s3.heap.push {cls:=.type "slice",data:=.fields #[.none,.none,.int (-1) t]}}
 refine tail_any (ops:=[.ref a,.ref s3.heap.objs.size]) ht.typeIs PyProof.Rows.slot_tuple_getitem.lookup (HT.getItem_tuple_back ht (Heap.IsSliceOf.new ..) ?_ (by rw [List.size_toArray,<- r.length];exact hz)) (by with_unfolding_all rfl)
 refine ⟨.ref (s3.heap.push {cls:=.type "slice",data:=.fields #[.none,.none,.int (-1) t]}).objs.size,_,I4.laid (t':=s3.toks) (o:=.tup xs.reverse) (fun b ob q=>Heap.get?_push_of_some _ q) (Nat.le_refl _) ?_,rfl,q _ I4.fresh⟩
 exact ⟨by rw [List.length_reverse];exact hz,_,sN r,IsTup.new _ _⟩
end
section
variable {X:Cx}
noncomputable def dw:List Int->Int
 | []=>0
 | n::r=>n+dw r
theorem rf (ns:List Int): ∀ k,k<=ns.length->preSum (fun i=>(ns[i]?).getD 0) k=dw (ns.take k):=by
 intro k
 induction k with
 | zero=>intro _;rfl
 | succ k ih=>
  intro h
  have hk:k<ns.length:=h
  show preSum (fun i=>(ns[i]?).getD 0) k+ (ns[k]?).getD 0=dw (ns.take (k+1))
  rw [ih (Nat.le_of_lt hk)]
  have: ∀ (l:List Int) (j:Nat) (hj:j<l.length),dw (l.take (j+1))=dw (l.take j) + (l[j]?).getD 0:=by
   intro l
   induction l with
   | nil=>intro j hj;cases hj
   | cons x r ih=>
    intro j hj
    cases j with
    | zero=>simp [dw]
    | succ j=>
     rw [List.take_succ_cons,List.take_succ_cons,List.getElem?_cons_succ]
     show x+dw (r.take (j+1))=x+dw (r.take j) + (r[j]?).getD 0
     rw [ih j (by simpa using hj)]
     lia
  exact (this ns k hk).symm
theorem lJ (ns:List Int) (h: ∀ n∈ns,0<=n/\n<=1000000): ∀ k,k<=ns.length->0<=preSum (fun i=>(ns[i]?).getD 0) k/\preSum (fun i=>(ns[i]?).getD 0) k<=1000000*k:=by
 intro k
 induction k with
 | zero=>intro _;exact ⟨Int.le_refl _,by show (0:Int)<=1000000* ((0:Nat):Int);lia⟩
 | succ k ih=>
  intro hk
  obtain ⟨a,b⟩:=ih (Nat.le_of_succ_le hk)
  have e:ns[k]? =some ns[k]:=List.getElem?_eq_getElem hk
  obtain ⟨c,d⟩:=h ns[k] (List.getElem_mem hk)
  show 0<=preSum (fun i=>(ns[i]?).getD 0) k+ (ns[k]?).getD 0/\preSum (fun i=>(ns[i]?).getD 0) k+ (ns[k]?).getD 0<=1000000* ((k+1:Nat):Int)
  rw [e,Option.getD_some]
  constructor <;> lia
theorem jF (hc:X.calm=true):dG X (.builtin "sum") (fun xs H Q=> ∃ (p:Addr) (ns:List Int),xs=[.ref p]/\SqL X.K H p (ns.map V.int)/\ns.length<=1000/\(∀ n∈ns,0<=n/\n<=1000000)/\Q (.int (dw ns)) H):=by
 intro pins s σ H xs us Q I r h
 obtain ⟨p,ns,rfl,hq,hle,hb,q⟩:=h
 obtain ⟨u,rfl,ru⟩:=fB r
 cases ru
 obtain ⟨its,rv,pl,hz⟩:=I.list hq
 have hl:=pl.isList
 have hlt:p<s.heap.objs.size:=by obtain ⟨_,e,_⟩:=hl;exact Heap.lt_size e
 have hlen:its.length=ns.length:=by have:=rv.length;rw [List.length_map]at this;lia
 have hn:its.toArray.size=ns.length:=by rw [List.size_toArray];exact hlen
 refine call_sum_walk (wpAny_pyIter_list hl ?_)
 refine ⟨s.heap.objs.size,[s.heap.objs.size,p],[s.heap.objs.size],its.toArray.size,_,_,fun i=>(ns[i]?).getD 0,rfl,Walks.list (A:=X.A.in1) (I.ok.hd hc) _ p (Nat.ne_of_lt hlt) its.toArray,
  ⟨⟨_,Heap.get?_push_size _ rfl,rfl,rfl⟩,hl.push _⟩,fun b hb=>?_,fun i v hP=>?_,fun j hj=>?_,fun h' tk t' hk=>?_⟩
 ·rw [Heap.size_push]
  rcases List.mem_cons.mp hb with e | e
  ·rw [e];exact Nat.lt_succ_self _
  ·rw [List.mem_singleton.mp e];exact Nat.lt_succ_of_lt hlt
 ·have hv:its[i]? =some v:=by simpa using hP
  have hi:i<ns.length:=by
   have:=(List.getElem?_eq_some_iff.mp hv).1
   lia
  have hx:(ns.map V.int)[i]? =some (V.int ns[i]):=by rw [List.getElem?_map,List.getElem?_eq_getElem hi] <;> rfl
  obtain ⟨u,eu,ru⟩:=rv.get hx
  rw [hv]at eu
  cases eu
  obtain ⟨t,rfl⟩:=ru
  refine ⟨t,?_⟩
  show Value.int ns[i] t=Value.int ((ns[i]?).getD 0) t
  rw [List.getElem?_eq_getElem hi]
  rfl
 ·rw [hn]at hj
  obtain ⟨a,b⟩:=lJ ns hb (j+1) hj
  have e:ns[j]? =some ns[j]:=List.getElem?_eq_getElem hj
  obtain ⟨c,d⟩:=hb ns[j] (List.getElem_mem hj)
  refine ⟨⟨?_,?_⟩,?_,?_⟩
  ·show -(2^63)<=(ns[j]?).getD 0
   rw [e,Option.getD_some];lia
  ·show (ns[j]?).getD 0<2^63
   rw [e,Option.getD_some];lia
  ·lia
  ·lia
 ·rw [hn,rf ns _ (Nat.le_refl _),List.take_length]
  refine ⟨.int (dw ns),H,I.kept (t':=tk) fun b x e=>?_,⟨_,rfl⟩,q⟩
  exact hk b x (fun hm=>by rw [List.mem_singleton.mp hm]at e;exact Nat.lt_irrefl _ (Heap.lt_size e)) (Heap.get?_push_of_some _ e)
end
end L2
namespace HT
open PySem PyProof.Rows
section
variable {prog:Program} {w:World} {A:Around} {s:Shared} {E:Value->Shared->Prop} {d j:Addr} {ks:List Value} {i ep:Nat}
noncomputable def DEs (h:Heap) (d:Addr) (ks:List Value) (ep:Nat):Prop:= ∃ o es,h.get? d=some o/\o.ExactDict/\o.data=.dict es ep/\es.toList.map (·.key)=ks
theorem DEs.type (m:DEs s.heap d ks ep):s.TypeIs (.ref d) "dict":=by
 obtain ⟨o,_,ho,hc,_⟩:=m
 exact ⟨o,ho,hc.1⟩
theorem gV {es:Array DictEntry} (e:es.toList.map (·.key)=ks):es.size=ks.length:=by
 rw [<- e,List.length_map,Array.length_toList]
theorem iter_des {Q:Value->Shared->Prop} (lo:(d==sysModules)=false) (m:DEs s.heap d ks ep)
  (q:Q (.ref s.heap.objs.size) {s with heap:=s.heap.push {cls:=.type "dict_keyiterator",data:=.fields #[.ref d,.int 0 0,.int ks.length 0,.int ep 0]}}):wpAny (model prog w) A (pyIter (.ref d)) Q E s:=by
 have ty:=m.type
 obtain ⟨o,es,ho,hc,hdat,hk⟩:=m
 refine wpAny_pyIter_slot ty PySem.F.slot_dict_iter (wpAny_call_entry PySem.F.slot_dict_iter ty PySem.F.entry_dict_iter ?_ (PySem.F.args_dict_iter_1 _))
 unfold Builtin.«dict.__iter__» Builtin.Dict.dictSlotNone
 refine wpAny_bind (wpAny_bind (wpAny_notOrdered_dict ty ?_))
 refine wpAny_pure (show wpAny _ _ (Builtin.Dict.showsAll d >>= _) _ _ s from ?_)
 unfold Builtin.Dict.showsAll
 rw [if_neg (by rw [lo];exact Bool.false_ne_true)]
 refine wpAny_bind (wpAny_pure (wpAny_bind (wpAny_dictEntries ho hdat (wpAny_bind (wpAny_dictEpoch ho hdat ?_)))))
 refine wpAny_bind (wpAny_newObj_type (wpAny_pure ⟨_,rfl,"dict_keyiterator",_,⟨_,Heap.get?_push_size _ rfl,rfl⟩,PySem.F.slot_dict_keyiterator_next.lookup,?_⟩))
 simpa [rawInt,gV hk]using q
theorem next_des {x:Value} {Q:Option Value->Shared->Prop} (st:s.heap.IsKeyIter j d i ks.length ep) (m:DEs s.heap d ks ep) (hx:ks[i]? =some x)
  (q: ∀ h',h'.IsKeyIter j d (i+1) ks.length ep->Heap.SameBut j s.heap h'->Q (some x) {s with heap:=h'}):wpAny (model prog w) A (pyNext (.ref j)) Q E s:=by
 have ty:=st.typeIs
 obtain ⟨o,ho,hc,hd⟩:=id st
 obtain ⟨od,es,hod,hcd,hdd,hk⟩:=m
 have hz:=gV hk
 have hlt:i<ks.length:=(List.getElem?_eq_some_iff.mp hx).1
 have hes:i<es.size:=by lia
 have hkey:es[i].key=x:=by
  have e1:(es.toList.map (·.key))[i]? =some x:=by rw [hk];exact hx
  rw [List.getElem?_map,Array.getElem?_toList,Array.getElem?_eq_getElem hes]at e1
  exact Option.some.inj e1
 unfold pyNext
 refine wpAny_bind (wpAny_attempt (wpAny_callSpecial?_slot (name:=Str.ofString "__next__") ty PySem.F.slot_dict_keyiterator_next (wpAny_call_entry PySem.F.slot_dict_keyiterator_next ty PySem.F.entry_dict_keyiterator_next ?_ (PySem.F.args_dict_keyiterator_next_1 _))))
 refine wpAny_bind (wpAny_pure (wpAny_bind (wpAny_bind ?_)))
 first | refine wpAny_bind (wpAny_typeNameOfWhole_keyiter ty (wpAny_pure (wpAny_bind (wpAny_fieldsOf ho hd ?_)))) | refine wpAny_bind (wpAny_typeNameOf_keyiter ty (wpAny_pure (wpAny_bind (wpAny_fieldsOf ho hd ?_))))
 have own:Builtin.Dict_items.ownsTuple "dict_keyiterator"=false:=by decide
 simp only [own,Bool.false_eq_true,if_false]
 refine (show wpAny _ _ (if (Value.ref d==Value.none)=true then _ else _) _ _ s from ?_)
 rw [if_neg fun b0:(Value.ref d==Value.none)=true=>Bool.false_ne_true b0]
 refine wpAny_bind (wpAny_pure (wpAny_bind (wpAny_dictEntries hod hdd ?_)))
 rw [if_neg (by rw [hz];simp)]
 refine wpAny_bind (wpAny_pure (wpAny_bind (wpAny_dictEpoch hod hdd ?_)))
 rw [if_neg (by simp)]
 refine wpAny_pure ?_
 simp only [show ¬ ((i:Int) <0)from by lia,if_false,Int.toNat_natCast,Array.getElem?_eq_getElem hes]
 refine wpAny_bind ?_
 first | refine wpAny_bind (wpAny_typeNameOfWhole_keyiter ty (wpAny_pure (wpAny_bind (wpAny_isOneOf_keyiter ty ?_)))) | refine wpAny_bind (wpAny_typeNameOf_keyiter ty (wpAny_pure (wpAny_bind (wpAny_isOneOf_keyiter ty ?_))))
 refine (show wpAny _ _ (setField (.ref j) 1 (rawInt ((i:Int) +1)) >>= _) _ _ s from ?_)
 refine wpAny_bind (wpAny_setField ho hd (by simp) ?_)
 have st':(s.heap.update j (Obj.mapFields (·.setIfInBounds 1 (rawInt ((i:Int) +1))))).IsKeyIter j d (i+1) ks.length ep:=by
  refine ⟨_,Heap.get?_update_self _ ho (Obj.isFreed_of_fields (Obj.data_mapFields hd _)),(Obj.cls_mapFields ..).trans hc,?_⟩
  rw [Obj.data_mapFields hd];simp [rawInt]
 refine wpAny_bind (wpAny_holding (wpAny_bind (wpAny_isOneOf_keyiter (s:={s with heap:=s.heap.update j (Obj.mapFields (·.setIfInBounds 1 (rawInt ((i:Int) +1))))}) st'.typeIs ?_)))
 refine (show wpAny _ _ (pure es[i].key) _ _ _ from ?_)
 rw [hkey]
 exact wpAny_pure (wpAny_pure ⟨_,rfl,wpAny_pure (q _ st' (Heap.SameBut.update ..))⟩)
theorem end_des {Q:Option Value->Shared->Prop} (hh:A.handled=none) (st:s.heap.IsKeyIter j d i ks.length ep) (m:DEs s.heap d ks ep) (hx:ks.length<=i)
  (q: ∀ h',Heap.ExtBut j s.heap h'->Q none {s with heap:=h'}):wpAny (model prog w) A (pyNext (.ref j)) Q E s:=by
 have ty:=st.typeIs
 obtain ⟨o,ho,hc,hd⟩:=id st
 obtain ⟨od,es,hod,hcd,hdd,hk⟩:=m
 have hz:=gV hk
 unfold pyNext
 refine wpAny_bind (wpAny_attempt (wpAny_callSpecial?_slot (name:=Str.ofString "__next__") ty PySem.F.slot_dict_keyiterator_next (wpAny_call_entry PySem.F.slot_dict_keyiterator_next ty PySem.F.entry_dict_keyiterator_next ?_ (PySem.F.args_dict_keyiterator_next_1 _))))
 refine wpAny_bind (wpAny_pure (wpAny_bind (wpAny_bind ?_)))
 first | refine wpAny_bind (wpAny_typeNameOfWhole_keyiter ty (wpAny_pure (wpAny_bind (wpAny_fieldsOf ho hd ?_)))) | refine wpAny_bind (wpAny_typeNameOf_keyiter ty (wpAny_pure (wpAny_bind (wpAny_fieldsOf ho hd ?_))))
 have own:Builtin.Dict_items.ownsTuple "dict_keyiterator"=false:=by decide
 simp only [own,Bool.false_eq_true,if_false]
 refine (show wpAny _ _ (if (Value.ref d==Value.none)=true then _ else _) _ _ s from ?_)
 rw [if_neg fun b0:(Value.ref d==Value.none)=true=>Bool.false_ne_true b0]
 refine wpAny_bind (wpAny_pure (wpAny_bind (wpAny_dictEntries hod hdd ?_)))
 rw [if_neg (by rw [hz];simp)]
 refine wpAny_bind (wpAny_pure (wpAny_bind (wpAny_dictEpoch hod hdd ?_)))
 rw [if_neg (by simp)]
 refine wpAny_pure ?_
 have hge:es.size<=i:=by lia
 simp only [show ¬ ((i:Int) <0)from by lia,if_false,Int.toNat_natCast,Array.getElem?_eq_none hge]
 refine wpAny_bind ?_
 first | refine wpAny_bind (wpAny_typeNameOfWhole_keyiter ty (wpAny_pure ?_)) | refine wpAny_bind (wpAny_typeNameOf_keyiter ty (wpAny_pure ?_))
 refine (show wpAny _ _ (setField (.ref j) 0 .none >>= _) _ _ s from wpAny_bind (wpAny_setField ho hd (by simp) ?_))
 refine (show wpAny _ _ (newExc (.type "StopIteration") [] >>= _) _ _ _ from wpAny_bind ?_)
 simp only [newExc,newTuple]
 refine wpAny_bind (wpAny_newObj_type (wpAny_bind (m:=firstArgMember _ _) (wpAny_of_eq (a:=Value.none) (by first | rfl | (simp only [firstArgMember];rfl)) (wpAny_newObj_type ?_ (by size_fits)))) (by size_fits))
 simp only [raiseNew]
 refine wpAny_bind (wpAny_handled ?_)
 rw [show A.in1.handled=none from hh]
 refine (wpAny_bind (wpAny_pure (wpAny_throw (?_))))
 refine wpAny_bind (wpAny_isInstance (T:="StopIteration") (b:=true) ⟨_,Heap.get?_push_size _ rfl,rfl⟩ isSubtype_stop (wpAny_pure (q _ ?_)))
 exact ((Heap.SameBut.update ..).extBut.push _).push _
end
end HT
namespace L2
open PySem PySem.Spec PyProof.Rows
section
variable {X:Cx}
instance zm (ks:List Key) (kss:List (List Key)):Decidable (ks∈kss):=decidable_of_iff (kss.any (fun l=>decide (l=ks))=true) ⟨fun h=>by
  obtain ⟨x,hx,e⟩:=List.any_eq_true.mp h
  rw [<- of_decide_eq_true e]
  exact hx,fun h=>List.any_eq_true.mpr ⟨ks,h,decide_eq_true rfl⟩⟩
theorem iI (K:PySem.W.Frag) (t:String) (ht:t∈["NoneType","bool","int","str","list","tuple","dict"]):
  PySem.W.kitAny K (.type t) [.type "tuple",.type "list"]=some (t=="tuple"||t=="list"):=by
 simp only [List.mem_cons,List.not_mem_nil,or_false]at ht
 rcases ht with rfl | rfl | rfl | rfl | rfl | rfl | rfl <;> first | rfl | (with_unfolding_all rfl) | (with_unfolding_all decide)
inductive TL (H:Hp):V->Bool->Prop where
 | str (z:Str):TL H (.str z) false
 | int (i:Int):TL H (.int i) false
 | tup {a:Addr} {xs:List V}:H a=some (.tup xs)->TL H (.ref a) true
 | lst {a:Addr} {xs:List V}:H a=some (.lst xs)->TL H (.ref a) true
theorem sG:dG X (.builtin "isinstance") (fun xs H Q=> ∃ x p b,xs=[x,.ref p]/\H p=some (.tup [.ty "tuple",.ty "list"])/\TL H x b/\Q (.bl b) H):=by
 intro pins s σ H xs us Q I r h
 obtain ⟨x,p,b,rfl,hp,ty,q⟩:=h
 obtain ⟨u,w',rfl,rx,rp⟩:=jM r
 cases (show w'=Value.ref p from rp)
 obtain ⟨_,its,rv,o,h1,h2,n,h3⟩:=(show ObjOk X.prog X.w H s.heap p (.tup [.ty "tuple",.ty "list"])from I.hok p _ hp)
 obtain ⟨u1,u2,rfl,r1,r2⟩:=jM rv
 cases (show u1=Value.type "tuple" from r1)
 cases (show u2=Value.type "list" from r2)
 obtain ⟨c,d,dt,sl⟩:=o
 simp only at h2 h3
 subst h2 h3
 have k: ∀ tk,EP X pins σ Q (.bool b) {s with toks:=tk}:=fun tk=>⟨.bl b,H,I.tok tk,rfl,q⟩
 cases ty with
 | int i=>
  obtain ⟨t,e⟩:=(show ∃ t,u=Value.int i t from rx)
  cases e
  exact PySem.W.kia_tup PySem.W.kitx_int I.kIn True.intro h1 (iI _ "int" (by simp)) (fun z=>nomatch z) k
 | str y=>
  obtain ⟨t,e⟩:=(show ∃ t,u=Value.str y t from rx)
  cases e
  exact PySem.W.kia_tup PySem.W.kitx_str I.kIn True.intro h1 (iI _ "str" (by simp)) (fun z=>nomatch z) k
 | @lst a xs ea=>
  cases (show u=Value.ref a from rx)
  obtain ⟨_,_,_,_,h4⟩:=(show ObjOk X.prog X.w H s.heap a (.lst xs)from I.hok a _ ea)
  exact PySem.W.kia_tup PySem.W.kitx_list I.kIn ⟨_,h4,rfl⟩ h1 (iI _ "list" (by simp)) (fun z=>nomatch z) k
 | @tup a xs ea=>
  cases (show u=Value.ref a from rx)
  obtain ⟨_,_,_,o2,h4,h5,_⟩:=(show ObjOk X.prog X.w H s.heap a (.tup xs)from I.hok a _ ea)
  exact PySem.W.kia_tup PySem.W.kitx_tuple I.kIn ⟨o2,h4,h5⟩ h1 (iI _ "tuple" (by simp)) (fun z=>nomatch z) k
end
end L2
namespace HT
open PySem PyProof.Rows
section
variable {prog:Program} {w:World} {A:Around} {s:Shared} {E:Value->Shared->Prop} {j t:Addr} {i:Nat} {items:Array Value}
theorem u8 {x:Value} {Q:Value->Shared->Prop} (st:s.heap.IsTupleIter j t i) (ht:s.heap.IsTuple t items) (hx:items[i]? =some x)
  (q: ∀ h',h'.IsTupleIter j t (i+1)->Heap.SameBut j s.heap h'->Q x {s with heap:=h'}):wpAny (model prog w) A (Builtin.SmallTypes.nextOf (.ref j)) Q E s:=by
 have ty:=st.typeIs
 obtain ⟨o,ho,hc,hd⟩:=id st
 obtain ⟨ol,hol,_,nl,hdl⟩:=ht
 unfold Builtin.SmallTypes.nextOf
 refine wpAny_bind (wpAny_callSpecial?_slot (name:=Str.ofString "__next__") ty PySem.F.slot_tuple_iterator_next (wpAny_call_entry PySem.F.slot_tuple_iterator_next ty PySem.F.entry_tuple_iterator_next ?_ (PySem.F.args_tuple_iterator_next_1 _)))
 refine (show wpAny _ _ (field (.ref j) 0 >>= _) _ _ s from wpAny_bind (wpAny_field ho hd (x:=.ref t) rfl ?_))
 refine (show wpAny _ _ (if (Value.ref t==Value.none)=true then _ else _) _ _ s from ?_)
 rw [if_neg fun b0:(Value.ref t==Value.none)=true=>Bool.false_ne_true b0]
 refine (show wpAny _ _ (field (.ref j) 1 >>= _) _ _ s from wpAny_bind (wpAny_field ho hd (x:=.int i 0) rfl ?_))
 refine (show wpAny _ _ (seqItems? (.ref t) >>= _) _ _ s from wpAny_bind (wpAny_seqItems hol hdl ?_))
 simp only [Int.toNat_natCast,hx]
 refine wpAny_bind (wpAny_setField ho hd (by simp) (wpAny_pure ⟨x,rfl,wpAny_pure (q _ ⟨_,Heap.get?_update_self _ ho (Obj.isFreed_of_fields (Obj.data_mapFields hd _)),(Obj.cls_mapFields ..).trans hc,?_⟩ (Heap.SameBut.update ..))⟩))
 rw [Obj.data_mapFields hd];simp [rawInt]
theorem nZ {Q:Value->Shared->Prop} (hh:A.handled=none) (st:s.heap.IsTupleIter j t i) (ht:s.heap.IsTuple t items) (hx:items[i]? =none)
  (q: ∀ h' e,Heap.ExtBut j s.heap h'->(∃ o,h'.get? e=some o/\o.cls=.type "StopIteration")->E (.ref e) {s with heap:=h'}):wpAny (model prog w) A (Builtin.SmallTypes.nextOf (.ref j)) Q E s:=by
 have ty:=st.typeIs
 obtain ⟨o,ho,hc,hd⟩:=id st
 obtain ⟨ol,hol,_,nl,hdl⟩:=ht
 unfold Builtin.SmallTypes.nextOf
 refine wpAny_bind (wpAny_callSpecial?_slot (name:=Str.ofString "__next__") ty PySem.F.slot_tuple_iterator_next (wpAny_call_entry PySem.F.slot_tuple_iterator_next ty PySem.F.entry_tuple_iterator_next ?_ (PySem.F.args_tuple_iterator_next_1 _)))
 refine (show wpAny _ _ (field (.ref j) 0 >>= _) _ _ s from wpAny_bind (wpAny_field ho hd (x:=.ref t) rfl ?_))
 refine (show wpAny _ _ (if (Value.ref t==Value.none)=true then _ else _) _ _ s from ?_)
 rw [if_neg fun b0:(Value.ref t==Value.none)=true=>Bool.false_ne_true b0]
 refine (show wpAny _ _ (field (.ref j) 1 >>= _) _ _ s from wpAny_bind (wpAny_field ho hd (x:=.int i 0) rfl ?_))
 refine (show wpAny _ _ (seqItems? (.ref t) >>= _) _ _ s from wpAny_bind (wpAny_seqItems hol hdl ?_))
 simp only [Int.toNat_natCast,hx]
 refine wpAny_bind (wpAny_rule (wpAny_bind (wpAny_setField ho hd (by simp) (show wpAny _ _ (newExc (.type "StopIteration") [] >>= _) _ _ _ from wpAny_bind ?_))))
 simp only [newExc,newTuple]
 refine wpAny_bind (wpAny_newObj_type (wpAny_bind (m:=firstArgMember _ _) (wpAny_of_eq (a:=Value.none) (by first | rfl | (simp only [firstArgMember];rfl)) (wpAny_newObj_type ?_ (by size_fits)))) (by size_fits))
 simp only [raiseNew]
 refine wpAny_bind (wpAny_handled ?_)
 rw [show A.in1.handled=none from hh]
 exact wpAny_bind (wpAny_pure (wpAny_throw (q _ _ (((Heap.SameBut.update ..).extBut.push _).push _) ⟨_,Heap.get?_push_size _ rfl,rfl⟩)))
noncomputable def SIter (c:Bool) (h:Heap) (j l:Addr) (i:Nat):Prop:=if c=true then h.IsTupleIter j l i else h.IsListIter j l i
noncomputable def SSeq (c:Bool) (h:Heap) (l:Addr) (items:Array Value):Prop:=if c=true then h.IsTuple l items else h.IsList l items
theorem SIter.obj {c:Bool} {h:Heap} {l:Addr} (x:SIter c h j l i): ∃ o,h.get? j=some o/\ ∀ v,o.data≠ .cell v:=by
 cases c with
 | true=>obtain ⟨o,e,_,d⟩:=(show h.IsTupleIter j l i from x);exact ⟨o,e,fun v z=>by rw [d]at z;cases z⟩
 | false=>obtain ⟨o,e,_,d⟩:=(show h.IsListIter j l i from x);exact ⟨o,e,fun v z=>by rw [d]at z;cases z⟩
theorem SIter.at {c:Bool} {h h':Heap} {l:Addr} (x:SIter c h j l i) (k: ∀ o,h.get? j=some o->h'.get? j=some o):SIter c h' j l i:=by
 cases c with
 | true=>obtain ⟨o,e,r⟩:=(show h.IsTupleIter j l i from x);exact (show h'.IsTupleIter j l i from ⟨o,k o e,r⟩)
 | false=>obtain ⟨o,e,r⟩:=(show h.IsListIter j l i from x);exact (show h'.IsListIter j l i from ⟨o,k o e,r⟩)
theorem SSeq.at {c:Bool} {h h':Heap} {l:Addr} (x:SSeq c h l items) (k: ∀ o,h.get? l=some o->h'.get? l=some o):SSeq c h' l items:=by
 cases c with
 | true=>obtain ⟨o,e,r⟩:=(show h.IsTuple l items from x);exact (show h'.IsTuple l items from ⟨o,k o e,r⟩)
 | false=>obtain ⟨o,e,r⟩:=(show h.IsList l items from x);exact (show h'.IsList l items from ⟨o,k o e,r⟩)
theorem draws_seq (c:Bool) (hh:A.handled=none) (j l:Addr) (hne:l≠j) (items:Array Value):
  Draws prog w A j [j,l] items.size (fun i v=>items[i]? =some v) (fun i h=>SIter c h j l i/\SSeq c h l items) where
 live:=fun _ _ st=>let ⟨o,e,_⟩:=st.1.obj;⟨o,e⟩
 frame:=fun _ _ _ st k=>⟨st.1.at fun o e=>k j (by simp) o e,st.2.at fun o e=>k l (by simp) o e⟩
 item:=fun i s Q E hi st hQ=>by
  have hx:items[i]? =some items[i]:=Array.getElem?_eq_getElem hi
  cases c with
  | true=>exact u8 st.1 st.2 hx fun h' st' sb=>hQ _ h' s.toks hx ⟨st',st.2.at fun o e=>sb.extBut l o hne e⟩ sb
  | false=>exact wpAny_nextOf_list_item st.1 st.2 hx fun h' st' sb=>hQ _ h' s.toks hx ⟨st',st.2.at fun o e=>sb.extBut l o hne e⟩ sb
 done:=fun s Q E st hE=>by
  cases c with
  | true=>exact nZ hh st.1 st.2 (by simp) hE
  | false=>exact wpAny_nextOf_list_end hh st.1 st.2 (by simp) hE
end
structure ZAp (z TI TO i1 i2:Addr) (f1 f2:List Addr):Prop where
 tz:TI≠z
 oz:TO≠z
 a1z:i1≠z
 a2z:i2≠z
 to:TI≠TO
 t1:TI≠i1
 t2:TI≠i2
 o1:TO≠i1
 o2:TO≠i2
 ii:i1≠i2
 z1:z∉f1
 z2:z∉f2
 p1:TO∉f1
 p2:TO∉f2
 q1:i2∉f1
 q2:i1∉f2
section
variable {prog:Program} {w:World} {A:Around} {s:Shared} {E:Value->Shared->Prop} {z TI TO i1 i2:Addr} {f1 f2:List Addr} {n1 n2 k:Nat} {P1 P2:Nat->Value->Prop} {S1 S2:Nat->Heap->Prop} {a b:Value}
theorem sL {Q:Value->Shared->Prop} (D1:Draws prog w A i1 f1 n1 P1 S1) (D2:Draws prog w A i2 f2 n2 P2 S2) (D:ZAp z TI TO i1 i2 f1 f2)
  (hz:IsZip s.heap z TI TO .none) (hTI:IsPair s.heap TI (.ref i1) (.ref i2)) (hTO:IsPair s.heap TO a b) (st1:S1 k s.heap) (st2:S2 k s.heap) (k1:k<n1) (k2:k<n2)
  (q: ∀ x y h' tk,P1 k x->P2 k y->IsZip h' z TI TO (rawInt s.heap.objs.size)->IsPair h' TO x y->S1 (k+1) h'->S2 (k+1) h'->IsPair h' s.heap.objs.size x y->
   (∀ c o,c≠z->c≠TO->c≠i1->c≠i2->s.heap.get? c=some o->h'.get? c=some o)->Q (.ref s.heap.objs.size) {s with heap:=h',toks:=tk}):
  wpAny (model prog w) A (Builtin.«zip.__next__» ⟨[.ref z],[]⟩) (fun fin s'=> ∃ v,fin=.done (.ret v)/\Q v s') E s:=by
 refine (show wpAny _ _ (field (.ref z) 2 >>= _) _ _ _ from wpAny_bind (wpAny_field hz rfl (x:=.bool false) rfl ?_))
 refine (show wpAny _ _ (field (.ref z) 3 >>= _) _ _ _ from wpAny_bind (wpAny_field hz rfl (x:=.ref TI) rfl (wpAny_bind (wpAny_seqItems hTI rfl ?_))))
 refine (show wpAny _ _ (Builtin.SmallTypes.ownedTupleIsFree (.ref z) >>= _) _ _ _ from wpAny_bind ?_)
 unfold Builtin.SmallTypes.ownedTupleIsFree
 refine wpAny_bind (wpAny_field hz rfl (x:=.none) rfl (wpAny_pure ?_))
 simp only [if_true]
 refine wpAny_bind (wpAny_rule (wpAny_bind (wpAny_field hz rfl (x:=.ref TO) rfl (wpAny_bind (wpAny_setField_rec hz (by simp) fun g1 zz1 sb1=>?_)))))
 replace zz1:IsZip g1 z TI TO .ellipsis:=zz1
 refine wpAny_bind ?_
 simp only [List.zipIdx_cons,List.zipIdx_nil,List.forIn_cons,List.forIn_nil]
 refine wpAny_bind (wpAny_bind (wpAny_onRaise (show wpAny _ _ (Builtin.SmallTypes.nextOf (.ref i1) >>= _) _ _ _ from ?_)))
 refine wpAny_bind (D1.item k _ _ _ k1 (D1.frame k s.heap g1 st1 fun c hc o e=>sb1.extBut c o (fun x=>D.z1 (x▸hc)) e) fun x g2 tk2 hx s1' sb2=>wpAny_pure ?_)
 have to2:IsPair g2 TO a b:=sb2.extBut _ _ D.o1 (sb1.extBut _ _ D.oz hTO)
 refine wpAny_bind (wpAny_seqItems to2 rfl (wpAny_bind (wpAny_updateSeq_pair to2 fun g3 to3 sb3=>?_)))
 replace to3:IsPair g3 TO x b:=to3
 refine wpAny_bind (wpAny_letGo (wpAny_pure ?_))
 refine wpAny_bind (wpAny_bind (wpAny_onRaise (show wpAny _ _ (Builtin.SmallTypes.nextOf (.ref i2) >>= _) _ _ _ from ?_)))
 refine wpAny_bind (D2.item k _ _ _ k2 (D2.frame k s.heap g3 st2 fun c hc o e=>?_) fun y g4 tk4 hy s2' sb4=>wpAny_pure ?_)
 ·exact sb3.extBut c o (fun x=>D.p2 (x▸hc)) (sb2.extBut c o (fun x=>D.q2 (x▸hc)) (sb1.extBut c o (fun x=>D.z2 (x▸hc)) e))
 have to4:IsPair g4 TO x b:=sb4.extBut _ _ D.o2 to3
 refine wpAny_bind (wpAny_seqItems to4 rfl (wpAny_bind (wpAny_updateSeq_pair to4 fun g5 to5 sb5=>?_)))
 replace to5:IsPair g5 TO x y:=to5
 refine wpAny_bind (wpAny_letGo (wpAny_pure (wpAny_pure ?_)))
 refine wpAny_bind (wpAny_seqItems to5 rfl (wpAny_bind (wpAny_newTuple ?_)))
 have sz:g5.objs.size=s.heap.objs.size:=by rw [sb5.1,sb4.1,sb3.1,sb2.1,sb1.1]
 have zz5:IsZip g5 z TI TO .ellipsis:=sb5.extBut _ _ D.oz.symm (sb4.extBut _ _ D.a2z.symm (sb3.extBut _ _ D.oz.symm (sb2.extBut _ _ D.a1z.symm zz1)))
 have kk5: ∀ c o,c≠z->c≠TO->c≠i1->c≠i2->s.heap.get? c=some o->g5.get? c=some o:=fun c o c1 c2 c3 c4 e=>
  sb5.extBut c o c2 (sb4.extBut c o c4 (sb3.extBut c o c2 (sb2.extBut c o c3 (sb1.extBut c o c1 e))))
 have zlt:z<g5.objs.size:=Heap.lt_size zz5
 refine (show wpAny _ _ (Builtin.SmallTypes.ownedTupleHandOut (.ref z) (.ref g5.objs.size) >>= _) _ _ _ from wpAny_bind ?_)
 unfold Builtin.SmallTypes.ownedTupleHandOut
 have zz6:IsZip (g5.push {cls:=.type "tuple",data:=.seq #[x,y]}) z TI TO .ellipsis:=Heap.get?_push_of_some _ zz5
 refine wpAny_bind (wpAny_setField_rec zz6 (by simp) fun g7 zz7 sb7=>?_)
 replace zz7:IsZip g7 z TI TO (rawInt g5.objs.size):=zz7
 refine wpAny_setField_rec zz7 (by simp) fun g8 zz8 sb8=>?_
 replace zz8:IsZip g8 z TI TO (rawInt g5.objs.size):=zz8
 have up: ∀ c o,c≠z->g5.get? c=some o->g8.get? c=some o:=fun c o c1 e=>sb8.extBut c o c1 (sb7.extBut c o c1 (Heap.get?_push_of_some _ e))
 have tt8:IsPair g8 g5.objs.size x y:=sb8.extBut _ _ (Nat.ne_of_gt zlt) (sb7.extBut _ _ (Nat.ne_of_gt zlt) (Heap.get?_push_size _ rfl))
 rw [sz]at zz8 tt8
 refine wpAny_pure ⟨_,rfl,(show Q (.ref g5.objs.size) _ from ?_)⟩
 rw [sz]
 refine q x y g8 _ hx hy zz8 (up _ _ D.oz to5) ?_ ?_ tt8 fun c o c1 c2 c3 c4 e=>up c o c1 (kk5 c o c1 c2 c3 c4 e)
 ·refine D1.frame (k+1) g2 g8 s1' fun c hc o e=>up c o (fun x=>D.z1 (x▸hc)) (sb5.extBut c o (fun x=>D.p1 (x▸hc)) (sb4.extBut c o (fun x=>D.q1 (x▸hc)) (sb3.extBut c o (fun x=>D.p1 (x▸hc)) e)))
 ·exact D2.frame (k+1) g4 g8 s2' fun c hc o e=>up c o (fun x=>D.z2 (x▸hc)) (sb5.extBut c o (fun x=>D.p2 (x▸hc)) e)
theorem me {Q:Fin->Shared->Prop} (D1:Draws prog w A i1 f1 n1 P1 S1) (D:ZAp z TI TO i1 i2 f1 f2)
  (hz:IsZip s.heap z TI TO .none) (hTI:IsPair s.heap TI (.ref i1) (.ref i2)) (hTO:IsPair s.heap TO a b) (st1:S1 n1 s.heap)
  (q: ∀ h' e,(∀ c o,c≠z->c≠TO->c≠i1->c≠i2->s.heap.get? c=some o->h'.get? c=some o)->(∃ o,h'.get? e=some o/\o.cls=.type "StopIteration")->E (.ref e) {s with heap:=h'}):
  wpAny (model prog w) A (Builtin.«zip.__next__» ⟨[.ref z],[]⟩) Q E s:=by
 refine (show wpAny _ _ (field (.ref z) 2 >>= _) _ _ _ from wpAny_bind (wpAny_field hz rfl (x:=.bool false) rfl ?_))
 refine (show wpAny _ _ (field (.ref z) 3 >>= _) _ _ _ from wpAny_bind (wpAny_field hz rfl (x:=.ref TI) rfl (wpAny_bind (wpAny_seqItems hTI rfl ?_))))
 refine (show wpAny _ _ (Builtin.SmallTypes.ownedTupleIsFree (.ref z) >>= _) _ _ _ from wpAny_bind ?_)
 unfold Builtin.SmallTypes.ownedTupleIsFree
 refine wpAny_bind (wpAny_field hz rfl (x:=.none) rfl (wpAny_pure ?_))
 simp only [if_true]
 refine wpAny_bind (wpAny_rule (wpAny_bind (wpAny_field hz rfl (x:=.ref TO) rfl (wpAny_bind (wpAny_setField_rec hz (by simp) fun g1 zz1 sb1=>?_)))))
 replace zz1:IsZip g1 z TI TO .ellipsis:=zz1
 refine wpAny_bind ?_
 simp only [List.zipIdx_cons,List.zipIdx_nil,List.forIn_cons,List.forIn_nil]
 refine wpAny_bind (wpAny_bind (wpAny_onRaise (show wpAny _ _ (Builtin.SmallTypes.nextOf (.ref i1) >>= _) _ _ _ from ?_)))
 refine wpAny_bind (D1.done _ _ _ (D1.frame n1 s.heap g1 st1 fun c hc o e=>sb1.extBut c o (fun x=>D.z1 (x▸hc)) e) fun g2 e eb2 he=>?_)
 obtain ⟨oe,hoe,hce⟩:=he
 have zz2:IsZip g2 z TI TO .ellipsis:=eb2 _ _ D.a1z.symm zz1
 have ez:e≠z:=fun x=>by subst x;rw [zz2]at hoe;cases hoe;simp at hce
 exact wpAny_setField_rec zz2 (by simp) fun g3 _ sb3=>q g3 e (fun c o c1 _ c3 _ x=>sb3.extBut c o c1 (eb2 c o c3 (sb1.extBut c o c1 x))) ⟨oe,sb3.extBut _ _ ez hoe,hce⟩
theorem next_zip {Q:Option Value->Shared->Prop} (D1:Draws prog w A.in1 i1 f1 n1 P1 S1) (D2:Draws prog w A.in1 i2 f2 n2 P2 S2) (D:ZAp z TI TO i1 i2 f1 f2)
  (hz:IsZip s.heap z TI TO .none) (hTI:IsPair s.heap TI (.ref i1) (.ref i2)) (hTO:IsPair s.heap TO a b) (st1:S1 k s.heap) (st2:S2 k s.heap) (k1:k<n1) (k2:k<n2)
  (q: ∀ x y h' tk,P1 k x->P2 k y->IsZip h' z TI TO (rawInt s.heap.objs.size)->IsPair h' TO x y->S1 (k+1) h'->S2 (k+1) h'->IsPair h' s.heap.objs.size x y->
   (∀ c o,c≠z->c≠TO->c≠i1->c≠i2->s.heap.get? c=some o->h'.get? c=some o)->Q (some (.ref s.heap.objs.size)) {s with heap:=h',toks:=tk}):
  wpAny (model prog w) A (pyNext (.ref z)) Q E s:=by
 have ty:s.TypeIs (.ref z) "zip":=⟨_,hz,rfl⟩
 unfold pyNext
 exact wpAny_bind (wpAny_attempt (wpAny_callSpecial?_slot (name:=Str.ofString "__next__") ty PySem.F.slot_zip_next (wpAny_call_entry PySem.F.slot_zip_next ty PySem.F.entry_zip_next
  (sL D1 D2 D hz hTI hTO st1 st2 k1 k2 fun x y h' tk a0 b0 a1 a2 a3 a4 a5 a6=>wpAny_pure (q x y h' tk a0 b0 a1 a2 a3 a4 a5 a6)) (PySem.F.args_zip_next_1 _))))
theorem end_zip {Q:Option Value->Shared->Prop} (D1:Draws prog w A.in1 i1 f1 n1 P1 S1) (D:ZAp z TI TO i1 i2 f1 f2)
  (hz:IsZip s.heap z TI TO .none) (hTI:IsPair s.heap TI (.ref i1) (.ref i2)) (hTO:IsPair s.heap TO a b) (st1:S1 n1 s.heap)
  (q: ∀ h',(∀ c o,c≠z->c≠TO->c≠i1->c≠i2->s.heap.get? c=some o->h'.get? c=some o)->Q none {s with heap:=h'}):wpAny (model prog w) A (pyNext (.ref z)) Q E s:=by
 have ty:s.TypeIs (.ref z) "zip":=⟨_,hz,rfl⟩
 unfold pyNext
 refine wpAny_bind (wpAny_attempt (wpAny_callSpecial?_slot (name:=Str.ofString "__next__") ty PySem.F.slot_zip_next (wpAny_call_entry PySem.F.slot_zip_next ty PySem.F.entry_zip_next
  (me D1 D hz hTI hTO st1 fun h' e kk he=>?_) (PySem.F.args_zip_next_1 _))))
 obtain ⟨o,ho,hc⟩:=he
 exact wpAny_bind (wpAny_isInstance (T:="StopIteration") (b:=true) ⟨o,ho,hc⟩ isSubtype_stop (wpAny_pure (q _ kk)))
end
section
variable {prog:Program} {w:World} {A:Around} {s:Shared} {E:Value->Shared->Prop}
noncomputable def tIt (l:Addr):Obj:={cls:=.type "tuple_iterator",data:=.fields #[.ref l,.int 0 0]}
noncomputable def zG2 (h:Heap) (l1 l2:Addr):Heap:=(h.push (tIt l1)).push (tIt l2)
noncomputable def zG3 (h:Heap) (l1 l2:Addr):Heap:=(zG2 h l1 l2).push {cls:=.type "tuple",data:=.seq #[.ref h.objs.size,.ref (h.push (tIt l1)).objs.size]}
noncomputable def zG4 (h:Heap) (l1 l2:Addr):Heap:=(zG3 h l1 l2).push {cls:=.type "tuple",data:=.seq #[.none,.none]}
noncomputable def zG5 (h:Heap) (l1 l2:Addr):Heap:=(zG4 h l1 l2).push {cls:=.type "zip",data:=.fields #[.none,.bool false,.bool false,.ref (zG2 h l1 l2).objs.size,.ref (zG3 h l1 l2).objs.size]}
theorem sK (l1 l2:Addr) (xs ys:Array Value):Meets (Builtin.«zip.__new__» ⟨[.type "zip",.ref l1,.ref l2],[]⟩)
  (fun _ R s=>s.heap.IsTuple l1 xs/\s.heap.IsTuple l2 ys/\R (.ok (.ret (.ref (zG4 s.heap l1 l2).objs.size))) {s with heap:=zG5 s.heap l1 l2}):=
 .of_wp fun prog w A R s h=>by
  obtain ⟨hp,g,d,tk,os⟩:=s
  obtain ⟨a1,a2,h⟩:=h
  have sub:=sub_zip
  have b1:Heap.IsTuple (Shared.heap ⟨hp,g,d,tk,os⟩) l1 xs:=a1
  have b2:Heap.IsTuple (Shared.heap ⟨hp.push {cls:=.type "tuple_iterator",data:=.fields #[.ref l1,.int 0 0]},g,d,tk,os⟩) l2 ys:=Heap.IsTuple.push a2 _
  wp_walk using wpAny_pyIter_tuple b1,wpAny_pyIter_tuple b2
  exact ⟨_,rfl,h⟩
theorem call_zipS {c:Bool} {l1 l2:Addr} {xs ys:Array Value} {Q:Value->Shared->Prop} (a1:SSeq c s.heap l1 xs) (a2:SSeq c s.heap l2 ys)
  (q: ∀ h',IsZip h' (s.heap.objs.size+4) (s.heap.objs.size+2) (s.heap.objs.size+3) .none->IsPair h' (s.heap.objs.size+2) (.ref s.heap.objs.size) (.ref (s.heap.objs.size+1))->
   IsPair h' (s.heap.objs.size+3) .none .none->SIter c h' s.heap.objs.size l1 0->SIter c h' (s.heap.objs.size+1) l2 0->
   (∀ b o,s.heap.get? b=some o->h'.get? b=some o)->Q (.ref (s.heap.objs.size+4)) {s with heap:=h'}):wpAny (model prog w) A (call (.type "zip") [.ref l1,.ref l2]) Q E s:=by
 cases c with
 | false=>exact call_zip_2 a1 a2 fun h' b1 b2 b3 b4 b5 _ b7=>q h' b1 b2 b3 b4 b5 b7
 | true=>
  refine callType_new PySem.F.called_zip (by decide) (PySem.F.typeCall_zip_2 _ _) (PySem.F.newCall_zip_2 _ _) (fun obj=>PySem.F.args_object_init_3 obj _ _) PySem.F.entry_zip_new (sK l1 l2 xs ys) ⟨a1,a2,?_⟩
  have z1:(s.heap.push (tIt l1)).objs.size=s.heap.objs.size+1:=Heap.size_push ..
  have z2:(zG2 s.heap l1 l2).objs.size=s.heap.objs.size+2:=by unfold zG2;rw [Heap.size_push,z1]
  have z3:(zG3 s.heap l1 l2).objs.size=s.heap.objs.size+3:=by unfold zG3;rw [Heap.size_push,z2]
  have z4:(zG4 s.heap l1 l2).objs.size=s.heap.objs.size+4:=by unfold zG4;rw [Heap.size_push,z3]
  have g5:(zG5 s.heap l1 l2).get? (zG4 s.heap l1 l2).objs.size=some {cls:=.type "zip",data:=.fields #[.none,.bool false,.bool false,.ref (zG2 s.heap l1 l2).objs.size,.ref (zG3 s.heap l1 l2).objs.size]}:=Heap.get?_push_size _ rfl
  have g4:(zG5 s.heap l1 l2).get? (zG3 s.heap l1 l2).objs.size=some {cls:=.type "tuple",data:=.seq #[.none,.none]}:=Heap.get?_push_of_some _ (Heap.get?_push_size _ rfl)
  have g3:(zG5 s.heap l1 l2).get? (zG2 s.heap l1 l2).objs.size=some {cls:=.type "tuple",data:=.seq #[.ref s.heap.objs.size,.ref (s.heap.push (tIt l1)).objs.size]}:=Heap.get?_push_of_some _ (Heap.get?_push_of_some _ (Heap.get?_push_size _ rfl))
  have g2:(zG5 s.heap l1 l2).get? (s.heap.push (tIt l1)).objs.size=some (tIt l2):=Heap.get?_push_of_some _ (Heap.get?_push_of_some _ (Heap.get?_push_of_some _ (Heap.get?_push_size _ rfl)))
  have g1:(zG5 s.heap l1 l2).get? s.heap.objs.size=some (tIt l1):=Heap.get?_push_of_some _ (Heap.get?_push_of_some _ (Heap.get?_push_of_some _ (Heap.get?_push_of_some _ (Heap.get?_push_size _ rfl))))
  show _/\_
  rw [z2,z3,z4]at g5
  rw [z1,z2]at g3
  rw [z3]at g4
  rw [z1]at g2
  rw [z4]
  exact ⟨⟨_,g5,rfl⟩,q _ g5 g3 g4 (show Heap.IsTupleIter _ _ _ _ from ⟨_,g1,rfl,rfl⟩) (show Heap.IsTupleIter _ _ _ _ from ⟨_,g2,rfl,rfl⟩) fun b o x=>
   Heap.get?_push_of_some _ (Heap.get?_push_of_some _ (Heap.get?_push_of_some _ (Heap.get?_push_of_some _ (Heap.get?_push_of_some _ x))))⟩
end
end HT
namespace L2
open PySem PySem.Spec PyProof.Rows
noncomputable def dA (c:Bool) (xs:List V):HO:=if c=true then .tup xs else .lst xs
theorem mK {c:Bool} {xs ys:List V} (h:dA c xs=dA c ys):xs=ys:=by
 cases c with
 | true=>exact HO.tup.inj h
 | false=>exact HO.lst.inj h
theorem Inv.seqS {X:Cx} {pins:List (Addr×Obj)} {σ:St} {H:Hp} {s:Shared} {c:Bool} {a:Addr} {xs:List V} (I:Inv X pins σ H s) (h:H a=some (dA c xs)): ∃ its:List Value,Vals xs its/\HT.SSeq c s.heap a its.toArray/\xs.length<=sizeLine:=by
 cases c with
 | true=>obtain ⟨its,r,p,z⟩:=I.tuple (SqT.of (K:=X.K) h);exact ⟨its,r,p,z⟩
 | false=>obtain ⟨its,r,p,z⟩:=I.list (SqL.of (K:=X.K) h);exact ⟨its,r,p.isList,z⟩
noncomputable def Itz (c:Bool) (l1 l2:Addr):It:=
 ⟨fun i H=> ∃ xs ys x y,H l1=some (dA c xs)/\H l2=some (dA c ys)/\xs[i]? =some x/\ys[i]? =some y,
  fun i H v H'=> ∃ T x y,H T=none/\v=.ref T/\H'=upd H T (.tup [x,y])/\ ∀ xs ys,H l1=some (dA c xs)->H l2=some (dA c ys)->xs[i]? =some x/\ys[i]? =some y,
  fun i H=> ∃ xs ys,H l1=some (dA c xs)/\H l2=some (dA c ys)/\xs.length=i/\ys.length=i⟩
noncomputable def ZAt (c:Bool) (z TI TO i1 i2 l1 l2:Addr) (i:Nat) (h:Heap):Prop:=IsZip h z TI TO .none/\IsPair h TI (.ref i1) (.ref i2)/\(∃ a b,IsPair h TO a b)/\HT.SIter c h i1 l1 i/\HT.SIter c h i2 l2 i
theorem fp5 {z TI TO i1 i2 b:Addr} (h:b∈[z,TI,TO,i1,i2]):b=z\/b=TI\/b=TO\/b=i1\/b=i2:=by simpa using h
theorem sU {P:Program} {w:World} {K:PySem.W.Frag} {es:List Expr} {kk:Nat} {tpos:Pos} (c:Bool) (z TI TO i1 i2 l1 l2:Addr) (nd:[z,TI,TO,i1,i2].Nodup):
  ot P w K (.Tuple es kk tpos) (Itz c l1 l2) [z,TI,TO,i1,i2] z (ZAt c z TI TO i1 i2 l1 l2):=by
 simp only [List.nodup_cons,List.mem_cons,List.not_mem_nil,or_false,not_or,List.nodup_nil,and_true]at nd
 obtain ⟨⟨n1,n2,n3,n4⟩,⟨n5,n6,n7⟩,⟨n8,n9⟩,n10,_⟩:=nd
 have ap: ∀ {X:Cx} {pins:List (Addr×Obj)} {H:Hp} {xs ys:List V},(∀ b∈[z,TI,TO,i1,i2],iA X pins H b)->H l1=some (dA c xs)->H l2=some (dA c ys)->
   HT.ZAp z TI TO i1 i2 [i1,l1] [i2,l2]/\l1≠i1/\l2≠i2:=by
  intro X pins H xs ys hf h1 h2
  have a: ∀ b∈[z,TI,TO,i1,i2],b≠l1/\b≠l2:=fun b hb=>⟨(af h1 (hf b hb).1).symm,(af h2 (hf b hb).1).symm⟩
  have az:=a z (by simp)
  have aO:=a TO (by simp)
  have a1:=a i1 (by simp)
  have a2:=a i2 (by simp)
  refine ⟨⟨Ne.symm n1,Ne.symm n2,Ne.symm n3,Ne.symm n4,n5,n6,n7,n8,n9,n10,?_,?_,?_,?_,?_,?_⟩,Ne.symm a1.1,Ne.symm a2.2⟩ <;> simp only [List.mem_cons,List.not_mem_nil,or_false,not_or]
  ·exact ⟨n3,az.1⟩
  ·exact ⟨n4,az.2⟩
  ·exact ⟨n8,aO.1⟩
  ·exact ⟨n9,aO.2⟩
  ·exact ⟨Ne.symm n10,a2.1⟩
  ·exact ⟨n10,a1.2⟩
 refine ⟨by simp,fun i h st b hb=>?_,fun i h h' st k=>?_,?_,?_,fun _ _ _ _ _ st h=>wpAny_pyIter_zip st.1 h⟩
 ·obtain ⟨h1,h2,⟨a,b',h3⟩,h4,h5⟩:=st
  rcases fp5 hb with rfl | rfl | rfl | rfl | rfl
  ·exact ⟨_,h1,fun v e=>nomatch e⟩
  ·exact ⟨_,h2,fun v e=>nomatch e⟩
  ·exact ⟨_,h3,fun v e=>nomatch e⟩
  ·exact h4.obj
  ·exact h5.obj
 ·obtain ⟨h1,h2,⟨a,b',h3⟩,h4,h5⟩:=st
  exact ⟨k z (by simp) _ h1,k TI (by simp) _ h2,⟨a,b',k TO (by simp) _ h3⟩,h4.at fun o e=>k i1 (by simp) o e,h5.at fun o e=>k i2 (by simp) o e⟩
 ·intro X hP hw hK hc i pins s σ H E I hf st hg
  subst hP hw hK
  obtain ⟨xs,ys,x,y,hx,hy,ex,ey⟩:=hg
  obtain ⟨its1,r1,q1,_⟩:=I.seqS hx
  obtain ⟨its2,r2,q2,_⟩:=I.seqS hy
  obtain ⟨u,hu,ru⟩:=r1.get ex
  obtain ⟨v,hv,rv⟩:=r2.get ey
  obtain ⟨z0,t0,⟨a,b,o0⟩,s1,s2⟩:=st
  obtain ⟨D,e1,e2⟩:=ap hf hx hy
  refine HT.next_zip (HT.draws_seq (A:=X.A.in1) c (I.ok.hd hc) i1 l1 e1 its1.toArray) (HT.draws_seq (A:=X.A.in1) c (I.ok.hd hc) i2 l2 e2 its2.toArray) D z0 t0 o0 ⟨s1,q1⟩ ⟨s2,q2⟩
   (by rw [List.size_toArray];exact (List.getElem?_eq_some_iff.mp hu).1) (by rw [List.size_toArray];exact (List.getElem?_eq_some_iff.mp hv).1) fun x' y' h' tk px py z1 o1 t1 t2 pr kk=>?_
  have ex':x'=u:=by
   have p1:its1[i]? =some x':=by simpa using px
   rw [hu]at p1;exact (Option.some.inj p1).symm
  have ey':y'=v:=by
   have p1:its2[i]? =some y':=by simpa using py
   rw [hv]at p1;exact (Option.some.inj p1).symm
  subst ex' ey'
  refine ⟨_,rfl,wpAny_letOwnedTupleGo_zip z1 fun h'' z2 sb=>?_⟩
  have lt: ∀ {b:Addr} {ob:Obj},s.heap.get? b=some ob->b≠s.heap.objs.size:=fun e=>Nat.ne_of_lt (Heap.lt_size e)
  have fT:H s.heap.objs.size=none:=I.hok.fresh (Nat.le_refl _)
  have keep: ∀ b ob,b∉[z,TO,i1,i2]->s.heap.get? b=some ob->h''.get? b=some ob:=fun b ob hb e=>by
   simp only [List.mem_cons,List.not_mem_nil,or_false,not_or]at hb
   exact sb.extBut b ob hb.1 (kk b ob hb.1 hb.2.1 hb.2.2.1 hb.2.2.2 e)
  have sub: ∀ b,b∈[z,TO,i1,i2]->b∈[z,TI,TO,i1,i2]:=fun b hb=>by
   simp only [List.mem_cons,List.not_mem_nil,or_false]at hb ⊢
   rcases hb with h | h | h | h
   ·exact .inl h
   ·exact .inr (.inr (.inl h))
   ·exact .inr (.inr (.inr (.inl h)))
   ·exact .inr (.inr (.inr (.inr h)))
  have trk: ∀ b uo,H b=some uo->b∉[z,TO,i1,i2]:=fun b uo e hb=>by rw [(hf b (sub b hb)).1]at e;cases e
  have ptT:IsPair h'' s.heap.objs.size x' y':=sb.extBut _ _ (Ne.symm (lt z0)) pr
  have I2:Inv X pins σ (upd H s.heap.objs.size (.tup [x,y])) {s with heap:=h'',toks:=tk}:=by
   refine I.step (g':=s.gens) (d':=s.drawn) (ch:=[z,TO,i1,i2]) (fun b hb=>?_) (fun b ob _ _ hb e _=>keep b ob hb e) (fun b ob _ _ hb e _=>⟨ob.slots,keep b ob hb e⟩) (fun b ob hb e n=>by rw [ai (lt e)];exact n)
    (fun b ob hb e=>⟨ob,keep b ob hb e⟩) (fun b zs e=>by rw [ai (af e fT)];exact e) (fun b ob uo e=>by rw [ai (af e fT)];exact e) (fun b ps e=>⟨#[],by rw [ai (af e fT),e];simp⟩) (fun m hm=>?_) (fun b uo e=>?_) I.bare
   ·obtain ⟨_,f1,_,f3,f4,f5⟩:=hf b (sub b hb)
    exact ⟨f3,f1,f4,f5⟩
   ·obtain ⟨ob,es',ep,ho,r⟩:=hm
    exact ⟨ob,es',ep,keep _ ob (fun hb=>(hf _ (sub _ hb)).2.1 rfl) ho,r⟩
   ·by_cases hb:b=s.heap.objs.size
    ·subst hb
     rw [ab]at e
     cases e
     exact ⟨by show 2<=sizeLine;decide,[x',y'],.cons ru (.cons rv .nil),_,ptT,rfl,_,rfl⟩
    ·rw [ai hb]at e
     refine (I.hok b uo e).stay (fun c' v' hc' q=>keep c' v' ?_ q) (fun c' q=>by rw [ai (af q fT)];exact q) fun c' zs q=>by rw [ai (af q fT)];exact q
     rcases hc' with h | h
     ·rw [h];exact trk b uo e
     ·exact trk c' _ h
  refine ⟨.ref s.heap.objs.size,_,I2,rfl,⟨_,x,y,fT,rfl,rfl,fun xs' ys' h1 h2=>?_⟩,⟨z2,sb.extBut _ _ (Ne.symm n1) (kk _ _ (Ne.symm n1) n5 n6 n7 t0),⟨_,_,sb.extBut _ _ (Ne.symm n2) o1⟩,t1.1.at fun o e=>sb.extBut _ o (Ne.symm n3) e,t2.1.at fun o e=>sb.extBut _ o (Ne.symm n4) e⟩,fun b hb=>?_⟩
  ·rw [hx]at h1
   rw [hy]at h2
   rw [<- mK (Option.some.inj h1),<- mK (Option.some.inj h2)]
   exact ⟨ex,ey⟩
  ·have hb': ∃ ob,s.heap.get? b=some ob:=by
    rcases fp5 hb with rfl | rfl | rfl | rfl | rfl
    ·exact ⟨_,z0⟩
    ·exact ⟨_,t0⟩
    ·exact ⟨_,o0⟩
    ·obtain ⟨ob,e,_⟩:=s1.obj;exact ⟨ob,e⟩
    ·obtain ⟨ob,e,_⟩:=s2.obj;exact ⟨ob,e⟩
   obtain ⟨ob,e⟩:=hb'
   rw [ai (lt e)]
   exact (hf b hb).1
 ·intro X hP hw hK hc i pins s σ H E I hf st hg
  subst hP hw hK
  obtain ⟨xs,ys,hx,hy,l,l'⟩:=hg
  obtain ⟨its1,r1,q1,_⟩:=I.seqS hx
  obtain ⟨z0,t0,⟨a,b,o0⟩,s1,s2⟩:=st
  obtain ⟨D,e1,e2⟩:=ap hf hx hy
  have hi:i=its1.toArray.size:=by rw [List.size_toArray,<- l];exact r1.length
  rw [hi]at s1
  refine HT.end_zip (HT.draws_seq (A:=X.A.in1) c (I.ok.hd hc) i1 l1 e1 its1.toArray) D z0 t0 o0 ⟨s1,q1⟩ fun h' kk=>⟨rfl,?_⟩
  have keep: ∀ b ob,b∉[z,TO,i1,i2]->s.heap.get? b=some ob->h'.get? b=some ob:=fun b ob hb e=>by
   simp only [List.mem_cons,List.not_mem_nil,or_false,not_or]at hb
   exact kk b ob hb.1 hb.2.1 hb.2.2.1 hb.2.2.2 e
  have sub: ∀ b,b∈[z,TO,i1,i2]->b∈[z,TI,TO,i1,i2]:=fun b hb=>by
   simp only [List.mem_cons,List.not_mem_nil,or_false]at hb ⊢
   rcases hb with h | h | h | h
   ·exact .inl h
   ·exact .inr (.inr (.inl h))
   ·exact .inr (.inr (.inr (.inl h)))
   ·exact .inr (.inr (.inr (.inr h)))
  have trk: ∀ b uo,H b=some uo->b∉[z,TO,i1,i2]:=fun b uo e hb=>by rw [(hf b (sub b hb)).1]at e;cases e
  refine I.step (g':=s.gens) (d':=s.drawn) (t':=s.toks) (ch:=[z,TO,i1,i2]) (fun b hb=>?_) (fun b ob _ _ hb e _=>keep b ob hb e) (fun b ob _ _ hb e _=>⟨ob.slots,keep b ob hb e⟩) (fun b ob hb e n=>n)
   (fun b ob hb e=>⟨ob,keep b ob hb e⟩) (fun b zs e=>e) (fun b ob uo e=>e) (fun b ps e=>⟨#[],by rw [e];simp⟩) (fun m hm=>?_) (fun b uo e=>?_) I.bare
  ·obtain ⟨_,f1,_,f3,f4,f5⟩:=hf b (sub b hb)
   exact ⟨f3,f1,f4,f5⟩
  ·obtain ⟨ob,es',ep,ho,r⟩:=hm
   exact ⟨ob,es',ep,keep _ ob (fun hb=>(hf _ (sub _ hb)).2.1 rfl) ho,r⟩
  ·refine (I.hok b uo e).stay (fun c' v' hc' q=>keep c' v' ?_ q) (fun _ q=>q) fun _ _ q=>q
   rcases hc' with h | h
   ·rw [h];exact trk b uo e
   ·exact trk c' _ h
noncomputable def y0 (ta:TA):TI:=fun σ H R=>ta σ H fun vs H1=> ∃ c l1 l2 xs ys,vs=[.ref l1,.ref l2]/\H1 l1=some (dA c xs)/\H1 l2=some (dA c ys)/\R (Itz c l1 l2) H1
theorem lL {X:Cx} {es:List Expr} {kk:Nat} {tpos:Pos} {a b:Expr} {ta:TA} {p pos:Pos} (hg:Gl X "zip") (hm:X.mg "zip"=none) (ha:PA X [a,b] ta) (hs:starEach [a,b] X.env=[(false,eval a X.env),(false,eval b X.env)]:=by rfl) (hs2:starEach [b] X.env=[(false,eval b X.env)]:=by rfl):
  PI X (.Tuple es kk tpos) (.Call (.Name "zip" p) [a,b] [] pos) (y0 ta):=by
 intro pins s σ H R I h
 refine Call_ (eM I hg hm (show bootBuiltins "zip"=some (.type "zip") by decide +kernel) (PyProof.Rows.callWith_type1 (thn (ha pos pins s σ H _ I h) fun us s1 ⟨vs,H1,I1,r1,q1⟩=>?_) (by rw [hs,hs2]) (by rw [hs2];rfl)))
 obtain ⟨c,l1,l2,xs,ys,rfl,hx,hy,q⟩:=q1
 obtain ⟨u,v,rfl,ru,rv⟩:=jM r1
 cases (show u=Value.ref l1 from ru)
 cases (show v=Value.ref l2 from rv)
 obtain ⟨its1,_,e1,_⟩:=I1.seqS hx
 obtain ⟨its2,_,e2,_⟩:=I1.seqS hy
 refine HT.call_zipS e1 e2 fun h' a1 a2 a3 a4 a5 kp=>?_
 have I2:Inv X pins σ H1 {s1 with heap:=h'}:=I1.kept (t':=s1.toks) kp
 refine wpAny_pyIter_zip a1 ?_
 refine ⟨s1.heap.objs.size+4,[s1.heap.objs.size+4,s1.heap.objs.size+2,s1.heap.objs.size+3,s1.heap.objs.size,s1.heap.objs.size+1],_,_,H1,rfl,I2,sU c _ _ _ _ _ l1 l2 (by simp),⟨a1,a2,⟨_,_,a3⟩,a4,a5⟩,fun b hb=>?_,q⟩
 have hb':s1.heap.objs.size<=b:=by rcases fp5 hb with rfl | rfl | rfl | rfl | rfl <;> lia
 exact I1.fpOk hb' (I1.hok.fresh hb')
structure ma (sc0:Scope) (N0:List Str) (scope:Scope) (x x2:Str) (ys:List Str) (fr:List Nat):Prop where
 kind:scope.kind=.function
 nocell: ∀ y∈scope.names,y.2≠ .cell
 loc: ∀ y∈scope.names,y.2=.local->scope.names.lookup y.1=some .local
 xl:(aX sc0 scope).lookup x=some .local
 xl2:(aX sc0 scope).lookup x2=some .local
 free: ∀ y∈scope.names,y.2=.free->sc0.names.lookup y.1=some .cell
 nd:(x::x2::ys).Nodup
 len:ys.length=fr.length
 sl: ∀ q∈ys.zip fr,N0[q.2]? =some q.1/\sc0.names.lookup q.1=some .cell/\(aX sc0 scope).lookup q.1=some .cell
noncomputable def cP (X:Cx) (x x2:Str) (ys:List Str) (scope:Scope) (C:Addr) (s:Shared) (H:Hp) (ex:List Addr):Cx:=
 {X with N:=x::x2::ys,s₀:=s,H₀:=H,env:=compEnvC scope (ce X.env.cells scope.names) C X.env,outer:=X.stack,stack:=X.stack,ex:=ex,fn:=fun _=>false,pn:=[],xe:=fun _ _=>False}
noncomputable def kK (fr:List Nat) (te:TE) (σ:St) (J:It) (H1:Hp) (Q:VK):Prop:=
 ∀ p,H1 p=none-> ∃ W:Nat->Nat->List V->Hp->Prop,(∃ m,W 0 m [] (upd H1 p (.lst [])))/\ ∀ i m ys H,W i m ys H->H p=some (.lst ys)/\
  ((J.stop i H/\Q (.ref p) H)\/(J.go i H/\ys.length<sizeLine/\ ∀ x H',J.yld i H x H'-> ∃ T v1 v2,x=.ref T/\H' T=some (.tup [v1,v2])/\te (some v1::some v2::bi fr σ) H' fun v H2=>
   H2 p=some (.lst ys)/\ ∃ m',m'<m/\W (i+1) m' (ys++[v]) (upd H2 p (.lst (ys++[v])))))
noncomputable def oE (wi:TI) (fr:List Nat) (te:TE):TE:=fun σ H Q=>wi σ H fun J H1=>kK fr te σ J H1 Q
section
variable {X:Cx} {x x2:Str} {px px2 tpos pos fpos:Pos} {kk:Nat} {iter elt:Expr} {scope sc0:Scope} {N0 ys:List Str} {fr:List Nat} {wi:TI} {te:TE} {pins:List (Addr×Obj)} {σ:St} {H:Hp} {s:Shared}
theorem jA {use:Option (Value->Sem Unit)} {Qv:Value->Shared->Prop} {Q:VK} (hcalm:X.calm=true) (hi:PI X (.Tuple [.Name x px,.Name x2 px2] kk tpos) iter wi) (hsc:X.env.scope=sc0) (hN:X.N=N0) (ok:ma sc0 N0 scope x x2 ys fr)
  (hE: ∀ C s H ex,PE (cP X x x2 ys scope C s H ex) elt te) (I:Inv X pins σ H s) (h:oE wi fr te σ H Q) (hs: ∀ v,foldedSetIterable iter X.env v=pure v)
  (fin: ∀ (p C:Addr) (H':Hp) (s':Shared) (m:Str->Option Value),Inv X pins σ H' s'->s'.heap.Ns C m->H' C=none->C≠X.env.locals->X.s₀.heap.objs.size<=C->(∀ y c,X.env.cells.lookup y=some c->c≠C)->(∀ q∈X.pn++pins,q.1≠C)->Q (.ref p) H'->
   compPost (model X.prog X.w) X.A X.xe use Qv (.ref p) C (.ok .next) s'):
  wpAny (model X.prog X.w) X.A (comprehension (.ListComp elt [⟨.Tuple [.Name x px,.Name x2 px2] kk tpos,iter,[],0⟩] scope pos) scope X.env fpos (newList []) false (eval iter X.env) use) Qv X.xe s:=by
 subst hsc hN
 have hkof: ∀ y,X.env.kindOf y=X.env.scope.names.lookup y:=fun y=>rfl
 have hfree: ∀ y∈scope.names,y.2=.free-> ∃ c,X.env.cells.lookup y.1=some c:=fun y hy e=>I.ok.has y.1 (.inl (ok.free y hy e))
 refine wpAny_comprehension_free (gs:=[]) rfl hs (cH hfree) ok.kind ok.loc (thn (hi pins s σ H _ I h) fun v s1 h1=>thn h1 fun itv s2 h2=>?_)
 obtain ⟨it,fp,tn,J,H2,e,I2,T,st2,f2,hp⟩:=h2
 subst e
 refine wpAny_newObj_type (wpAny_newFunctionEnv ok.nocell (by intro y hy;simp at hy) (fun h₁ hns₁ hsb₁=>?_) ok.kind)
 dsimp only at hns₁ hsb₁ ⊢
 have I3:Inv X pins σ (upd H2 s2.heap.objs.size (.lst [])) {s2 with heap:=s2.heap.push {cls:=.type "list",data:=.seq ([]:List Value).toArray}}:=
  I2.lnew (its:=[]) (ys:=[]) (t':=s2.toks) .nil (Nat.zero_le _)
 have hf2: ∀ b∈fp,b<s2.heap.objs.size:=fun b hb=>by
  obtain ⟨o,e,_⟩:=T.obj _ _ st2 b hb
  exact Heap.lt_size e
 have hps:s2.heap.objs.size< (s2.heap.push {cls:=.type "list",data:=.seq ([]:List Value).toArray}).objs.size:=by rw [Heap.size_push];exact Nat.lt_succ_self _
 have W0:=hp s2.heap.objs.size I2.fresh
 have st3:tn 0 (s2.heap.push {cls:=.type "list",data:=.seq ([]:List Value).toArray}):=T.keep _ _ _ st2 fun b hb o e=>Heap.get?_push_of_some _ e
 generalize hpp:s2.heap.objs.size=p at I3 W0 hf2 hps ⊢
 generalize hh3:(s2.heap.push {cls:=.type "list",data:=.seq ([]:List Value).toArray})=h3 at I3 hns₁ hsb₁ hps st3 ⊢
 generalize hH3:upd H2 p (.lst [])=H3 at I3 W0
 have hold: ∀ b o,h3.get? b=some o->h₁.get? b=some o:=fun b o e=>hsb₁.extBut b o (Nat.ne_of_lt (Heap.lt_size e)) (Heap.get?_push_of_some _ e)
 have fH3: ∀ b∈fp,H3 b=none:=fun b hb=>by
  rw [<- hH3,ai (Nat.ne_of_lt (hf2 b hb))]
  exact (f2 b hb).1
 have hclos: ∀ y c,(ce X.env.cells scope.names).lookup y=some c->X.env.cells.lookup y=some c:=fun y c e=>cb e
 have hcell3: ∀ y c,X.env.cells.lookup y=some c->c<h3.objs.size:=fun y c e=>by
  obtain ⟨v,o,ho,_⟩:=I3.cell y c e
  exact Heap.lt_size ho
 have hlt3:X.env.locals<h3.objs.size:=I3.lt
 have Yok:(cP X x x2 ys scope h3.objs.size {s2 with heap:=h3} H3 fp).Ok:={
  mod:=I.ok.mod
  kind:=ok.kind
  glob:=I.ok.glob
  blt:=I.ok.blt
  above:=Nat.le_refl _
  inj:=fun y z c e1 e2=>I.ok.inj y z c (hclos _ _ e1) (hclos _ _ e2)
  has:=fun y hk=>by
   have hfr:(y,NameKind.free)∈scope.names:=by
    have hm: ∃ k,(aX X.env.scope scope).lookup y=some k/\(k=.cell\/k=.free):=by
     rcases hk with hk | hk
     ·exact ⟨_,hk,.inl rfl⟩
     ·exact ⟨_,hk,.inr rfl⟩
    obtain ⟨k,hk,hkk⟩:=hm
    have hmem:=mem_of_lookup hk
    unfold aX at hmem
    obtain ⟨⟨n,k0⟩,hn,en⟩:=List.mem_map.mp hmem
    dsimp only at en
    split at en
    ·rename_i hc
     simp only [Bool.and_eq_true]at hc
     have hk0:k0=.free:=by simpa using hc.1.1
     cases en
     rw [<- hk0]
     exact hn
    ·cases en
     rcases hkk with e | e
     ·exact absurd e (ok.nocell _ hn)
     ·rw [<- e]
      exact hn
   obtain ⟨c,hc⟩:=hfree _ hfr rfl
   exact ⟨c,cr hc hfr⟩
  cab:=fun y c hf _=>by cases hf
  hd:=I.ok.hd
  frames:=I.ok.frames
  stk:=.inl rfl
  exf:=fun b hb=>⟨fun e=>absurd (hf2 b hb) (by rw [e];exact Nat.not_lt.mpr (Nat.le_of_lt hps)),fun y c e=>(f2 b hb).2.2.2.2.1 y c (hclos _ _ e)⟩
  bs:=fun b o e=>⟨(I3.bs b o e).1,(I3.bs b o e).2⟩
  bsz:=Nat.le_trans I.ok.bsz I3.sz
  noex:=fun b o e hb=>by
   rcases (f2 b hb).2.2.2.1 with q | q
   ·exact I.ok.noex b o e q
   ·have h1:b<X.base.objs.size:=Heap.lt_size e
    exact absurd h1 (Nat.not_lt.mpr (Nat.le_trans I.ok.bsz q))
  exfs:=fun b hb hm=>by
   rcases List.mem_cons.mp (I3.stkSub b hm)with q | q
   ·exact (f2 b hb).2.1 q
   ·exact (f2 b hb).2.2.1 q
  funs:=I3.stack
  frf:=I3.stkFree}
 have IY:Inv (cP X x x2 ys scope h3.objs.size {s2 with heap:=h3} H3 fp) [] (none::none::bi fr σ) H3 {s2 with heap:=h₁,toks:=s2.toks+ ([]:List (Str×Value)).length}:={
  ok:=Yok
  os:=rfl
  bare:=I2.bare
  base:=Un.kept hold
  loc:=by
   refine ⟨_,hns₁,fun i y v hy hv hvis=>?_⟩
   match i,hy,hv with
   | 0,_,hv=>cases hv
   | 1,_,hv=>cases hv
   | j+2,hy,hv=>
    have hy':ys[j]? =some y:=hy
    have hv':(bi fr σ)[j]? =some (some v):=hv
    unfold bi at hv'
    rw [List.getElem?_map]at hv'
    obtain ⟨i0,hi0,hv0⟩:=Option.map_eq_some_iff.mp hv'
    have hz:(y,i0)∈ys.zip fr:=by
     refine List.mem_iff_getElem?.mpr ⟨j,?_⟩
     rw [List.getElem?_zip_eq_some]
     exact ⟨hy',hi0⟩
    obtain ⟨hn,hk,hk2⟩:=ok.sl _ hz
    have hσ:σ[i0]? =some (some v):=by
     cases e:σ[i0]? with
     | none=>rw [e]at hv0;cases hv0
     | some o=>
      rw [e]at hv0
      rw [show o=some v from hv0]
    obtain ⟨m,hm,hl⟩:=I3.loc
    obtain ⟨u,ru,lk⟩:=hl i0 y v hn hσ (.inr (.inl hk))
    refine ⟨u,ru,.inr ⟨.inl hk2,?_⟩⟩
    rcases lk with ⟨a,_⟩ | ⟨_,c,hc,hcell⟩
    ·have a':X.env.scope.names.lookup y=some .local:=a
     have hk':X.env.scope.names.lookup y=some .cell:=hk
     rw [hk']at a'
     cases a'
    ·have hfr:(y,NameKind.free)∈scope.names:=by
      have hmem:=mem_of_lookup hk2
      unfold aX at hmem
      obtain ⟨⟨n,k0⟩,hn0,en⟩:=List.mem_map.mp hmem
      dsimp only at en
      split at en
      ·rename_i hc0
       simp only [Bool.and_eq_true]at hc0
       have hk0:k0=.free:=by simpa using hc0.1.1
       cases en
       rw [<- hk0]
       exact hn0
      ·cases en
       exact absurd rfl (ok.nocell _ hn0)
     exact ⟨c,cr hc hfr,hcell.keeps hold⟩
  cell:=fun y c e=>by
   obtain ⟨v,hv⟩:=I3.cell y c (hclos _ _ e)
   exact ⟨v,hv.keeps hold⟩
  free:=I3.fresh
  freeC:=fun y c e=>I3.freeC y c (hclos _ _ e)
  pin:=fun q hq=>by cases hq
  hok:=I3.hok.kept hold
  len:=by
   show (none::none::bi fr σ).length=(x::x2::ys).length
   rw [List.length_cons,List.length_cons,List.length_cons,List.length_cons,ok.len]
   unfold bi
   rw [List.length_map]}
 have hxl:(cP X x x2 ys scope h3.objs.size {s2 with heap:=h3} H3 fp).env.scope.names.lookup x=some .local:=ok.xl
 have hxl2:(cP X x x2 ys scope h3.objs.size {s2 with heap:=h3} H3 fp).env.scope.names.lookup x2=some .local:=ok.xl2
 have pgx:PG (cP X x x2 ys scope h3.objs.size {s2 with heap:=h3} H3 fp) (.Tuple [.Name x px,.Name x2 px2] kk tpos) (xz X.K 2 (kh (dC 0) (kh (dC 1) xA))):=
  cQ hcalm (aE (aw (i:=0) ok.nd rfl (.inl hxl) (.inr hxl)) (aE (aw (i:=1) ok.nd rfl (.inl hxl2) (.inr hxl2)) cn))
 have pel:=hE h3.objs.size {s2 with heap:=h3} H3 fp
 obtain ⟨W,⟨m0,w0⟩,turn⟩:=W0
 have stat: ∀ {H':Hp},(∀ b∈fp,H' b=none)-> ∀ b∈fp,iA (cP X x x2 ys scope h3.objs.size {s2 with heap:=h3} H3 fp) [] H' b:=fun hn b hb=>
  ⟨hn b hb,(Yok.exf b hb).1,Yok.exfs b hb,.inl hb,(Yok.exf b hb).2,fun q hq=>by cases hq⟩
 have loop:codeAny (model X.prog X.w) X.A (.compLoop (.ListComp elt [⟨.Tuple [.Name x px,.Name x2 px2] kk tpos,iter,[],0⟩] scope pos) 0 (.ref it) (.ref p) (compEnvC scope (ce X.env.cells scope.names) h3.objs.size X.env))
   (compPost (model X.prog X.w) X.A X.xe use Qv (.ref p) h3.objs.size) {s2 with heap:=h₁,toks:=s2.toks+ ([]:List (Str×Value)).length}:=by
  refine dS (fun n s'=> ∃ i zs v0 w0 H',Inv (cP X x x2 ys scope h3.objs.size {s2 with heap:=h3} H3 fp) [] (v0::w0::bi fr σ) H' s'/\tn i s'.heap/\(∀ b∈fp,H' b=none)/\W i n zs H') ?_ m0
   ⟨0,[],none,none,H3,IY,T.keep _ _ _ st3 fun b hb o e=>hold b o e,fH3,w0⟩
  rintro n s5 ⟨i,zs,v0,wv0,H5,I5,st5,fr5,w5⟩
  obtain ⟨hacc,turn5⟩:=turn i n zs H5 w5
  rcases turn5 with ⟨stop,qn⟩ | ⟨go,hlen,step⟩
  ·refine thn (T.done (cP X x x2 ys scope h3.objs.size {s2 with heap:=h3} H3 fp) rfl rfl rfl hcalm i [] s5 _ H5 _ I5 (stat fr5) st5 stop) fun r s6 ⟨hr,I6⟩=>?_
   subst hr
   obtain ⟨m6,n6,_⟩:=I6.loc
   refine fin p h3.objs.size H5 s6 m6 (I3.call' I6.os I6.base I6.hok I6.bare fun b hb=>⟨(f2 b hb).2.2.2.1,(f2 b hb).2.1,(f2 b hb).2.2.2.2.1,(f2 b hb).2.2.2.2.2⟩) n6 I6.free (Nat.ne_of_gt hlt3) I3.sz (fun y c e=>Nat.ne_of_lt (hcell3 y c e)) (fun q hq=>?_) qn
   exact Nat.ne_of_lt (Heap.lt_size (I3.pin q hq).1)
  ·refine thn (T.item (cP X x x2 ys scope h3.objs.size {s2 with heap:=h3} H3 fp) rfl rfl rfl hcalm i [] s5 _ H5 _ I5 (stat fr5) st5 go) fun r s6 ⟨u,hr,h6⟩=>?_
   subst hr
   refine thn h6 fun _ s7 ⟨xv,H7,I7,r7,y7,st7,fr7⟩=>?_
   have I7':=I7.pinned (stat fr7) (T.obj _ _ st7)
   obtain ⟨T7,v1,v2,eT,hT7,step7⟩:=step xv H7 y7
   refine thn (pgx _ s7 _ H7 xv u (fun σ' H'=>σ'=some v1::some v2::bi fr σ/\H'=H7) I7' r7 ⟨T7,[v1,v2],eT,SqT.of hT7,rfl,v1,[v2],rfl,v2,[],rfl,rfl,rfl,rfl⟩) fun _ s8 ⟨σ8,H8,I8,e8,e8'⟩=>?_
   subst e8 e8'
   refine thn (pel _ s8 _ H8 _ I8 step7) fun yv s9 ⟨v9,H9,I9,r9,hp9,m',hm',w9⟩=>?_
   refine thn (bo _ s9 _ H9 (.ref p) [v9] (.ref p) [yv] (fun _ H'=>H'=upd H9 p (.lst (zs++[v9]))) I9 rfl (.cons r9 .nil) ⟨p,zs,v9,rfl,rfl,hp9,hlen,rfl⟩) fun _ s10 ⟨_,H10,I10,_,e10⟩=>?_
   subst e10
   refine ⟨m',hm',i+1,zs++[v9],some v1,some v2,_,I10.unpinned,T.keep _ _ _ st7 fun b hb o e=>(I10.pin (b,o) (List.mem_append_right _ (List.mem_append_right _ (br hb e)))).1,fun b hb=>?_,w9⟩
   obtain ⟨o,e,d⟩:=T.obj _ _ st7 b hb
   exact (I10.pin (b,o) (List.mem_append_right _ (List.mem_append_right _ (br hb e)))).2.1
 exact codeAny_compStart_list loop (T.self X.A 0 _ _ _ (T.keep _ _ _ st3 fun b hb o e=>hold b o e) loop)
theorem je (hcalm:X.calm=true) (hi:PI X (.Tuple [.Name x px,.Name x2 px2] kk tpos) iter wi) (hsc:X.env.scope=sc0) (hN:X.N=N0) (ok:ma sc0 N0 scope x x2 ys fr)
  (hE: ∀ C s H ex,PE (cP X x x2 ys scope C s H ex) elt te) (hs: ∀ v,foldedSetIterable iter X.env v=pure v:=by intro _;rfl):
  PE X (.ListComp elt [⟨.Tuple [.Name x px,.Name x2 px2] kk tpos,iter,[],0⟩] scope pos) (oE wi fr te):=by
 intro pins s σ H Q I h
 rw [eval_ListComp]
 refine jA (use:=none) (Qv:=EP X pins σ Q) (Q:=Q) hcalm hi hsc hN ok hE I h hs fun p C H' s' m I' hn h0 h1 h2 h3 h4 q=>?_
 refine ⟨m,hn,fun h' sb=>⟨.ref p,H',I'.turned (t':=s'.toks) (fun b o hb e=>sb.extBut b o hb e) h0 (Ne.symm (Ne.symm h1)) (.inr h2) h3 h4,rfl,q⟩⟩
end
end L2
namespace My
open PySem L2
variable {P:Program} {w:World} {K:PySem.W.Frag} {mg:Str->Option Value} {base:Heap} {aD aR c f f2 f3 f4 f5 f6 f7 f8 g tbA:Addr} {fd fd2 fd3 fd4 fd5 fd6 fd7 fd8 gd:FuncData}
noncomputable def v6 (c:Nat):Bool:=decide (97<=c/\c<=122)
noncomputable def cV (x:Str):Bool:=decide (1<=x.length)&&decide (x.length<=8)&&x.cps.toList.all v6
noncomputable def ops:List Str:=["plus","less","times","least","most"]
inductive Fm where
 | num (n:Int)
 | own (x:Str)
 | part (k:Int) (x:Str)
 | bin (op:Str) (a b:Fm)
 | whn (a b c:Fm)
noncomputable def Fm.size:Fm->Nat
 | .num _=>1
 | .own _=>1
 | .part _ _=>1
 | .bin _ a b=>a.size+b.size+1
 | .whn a b c=>a.size+b.size+c.size+1
noncomputable def Fm.wf:Fm->Prop
 | .num n=> -999999<=n/\n<=999999
 | .own x=>cV x=true
 | .part k x=>(0<=k/\k<=2)/\cV x=true
 | .bin op a b=>op∈ops/\a.wf/\b.wf
 | .whn a b c=>a.wf/\b.wf/\c.wf
theorem Fm.size_pos: ∀ f:Fm,1<=f.size
 | .num _=>Nat.le_refl 1
 | .own _=>Nat.le_refl 1
 | .part _ _=>Nat.le_refl 1
 | .bin _ a b=>by show 1<=a.size+b.size+1;lia
 | .whn a b c=>by show 1<=a.size+b.size+c.size+1;lia
noncomputable def Rep (H:Hp):Fm->V->Prop
 | .num n,v=> ∃ a,v=.ref a/\H a=some (.tup [.str "num",.int n])
 | .own x,v=> ∃ a,v=.ref a/\H a=some (.tup [.str "own",.str x])
 | .part k x,v=> ∃ a,v=.ref a/\H a=some (.tup [.str "part",.int k,.str x])
 | .bin op A B,v=> ∃ a u w,v=.ref a/\H a=some (.tup [.str op,u,w])/\Rep H A u/\Rep H B w
 | .whn A B C,v=> ∃ a u w z,v=.ref a/\H a=some (.tup [.str "when",u,w,z])/\Rep H A u/\Rep H B w/\Rep H C z
noncomputable def TK (H H':Hp):Prop:= ∀ a xs,H a=some (.tup xs)->H' a=some (.tup xs)
theorem TK.trans {H H1 H2:Hp} (a:TK H H1) (b:TK H1 H2):TK H H2:=fun c o h=>b c o (a c o h)
theorem TK.upd {H:Hp} {p:Addr} {o:HO} (h: ∀ xs,H p≠some (.tup xs)):TK H (upd H p o):=fun a xs e=>by
 by_cases q:a=p
 ·subst q
  exact absurd e (h xs)
 ·rw [ai q]
  exact e
theorem TK.lst {H:Hp} {p:Addr} {o:HO} {ys:List V} (h:H p=some (.lst ys)):TK H (L2.upd H p o):=TK.upd fun xs e=>by rw [h]at e;cases e
theorem TK.new {H:Hp} {p:Addr} {o:HO} (h:H p=none):TK H (L2.upd H p o):=TK.upd fun xs e=>by rw [h]at e;cases e
theorem Rep.mono {H H':Hp} (t:TK H H'): ∀ {f:Fm} {v:V},Rep H f v->Rep H' f v
 | .num _,_,⟨a,e,h⟩=>⟨a,e,t _ _ h⟩
 | .own _,_,⟨a,e,h⟩=>⟨a,e,t _ _ h⟩
 | .part _ _,_,⟨a,e,h⟩=>⟨a,e,t _ _ h⟩
 | .bin _ _ _,_,⟨a,u,w,e,h,r1,r2⟩=>⟨a,u,w,e,t _ _ h,Rep.mono t r1,Rep.mono t r2⟩
 | .whn _ _ _,_,⟨a,u,w,z,e,h,r1,r2,r3⟩=>⟨a,u,w,z,e,t _ _ h,Rep.mono t r1,Rep.mono t r2,Rep.mono t r3⟩
noncomputable def isV (T:String) (H:Hp) (v:V):Bool:=match v with
 | .bl _=>T=="bool"||T=="int"
 | .int _=>T=="int"
 | .str _=>T=="str"
 | .ref a=>(match H a with | some (.lst _)=>T=="list" | some (.tup _)=>T=="tuple" | some (.dK _)=>T=="dict" | _=>false)
 | _=>false
noncomputable def Sh (H:Hp):V->Prop
 | .non=>True
 | .bl _=>True
 | .int _=>True
 | .str x=>x.length<=1000
 | .ref a=>(∃ xs,H a=some (.lst xs))\/(∃ xs,H a=some (.tup xs))\/ ∃ kvs,H a=some (.dK kvs)
 | _=>False
section
variable {X:Cx}
theorem wa (K:PySem.W.Frag) (t T:String) (ht:t∈["NoneType","bool","int","str","list","tuple","dict"]) (hT:T∈["bool","int","str","list","tuple","dict"]):
  PySem.W.kitOne K (.type t) (.type T)=some (t==T||(t=="bool"&&T=="int")):=by
 simp only [List.mem_cons,List.not_mem_nil,or_false]at ht hT
 rcases ht with rfl | rfl | rfl | rfl | rfl | rfl | rfl <;> rcases hT with rfl | rfl | rfl | rfl | rfl | rfl <;> first | rfl | (with_unfolding_all rfl) | (with_unfolding_all decide)
theorem cI:dG X (.builtin "isinstance") (fun xs H Q=> ∃ x T,xs=[x,.ty T]/\Sh H x/\T∈["bool","int","str","list","tuple","dict"]/\Q (.bl (isV T H x)) H):=by
 intro pins s σ H xs us Q I r h
 obtain ⟨x,T,rfl,hs,hT,q⟩:=h
 have go: ∀ t,gL X.K H x (.type t)->t∈["NoneType","bool","int","str","list","tuple","dict"]->isV T H x=(t==T||(t=="bool"&&T=="int"))->wpAny (model X.prog X.w) X.A (call (.builtin "isinstance") us) (EP X pins σ Q) X.xe s:=by
  intro t ty ht e
  refine vf pins s σ H _ us Q I r ⟨x,T,.type t,_,rfl,ty,wa X.K t T ht hT,?_⟩
  rw [<- e]
  exact q
 have hTT:=hT
 simp only [List.mem_cons,List.not_mem_nil,or_false]at hTT
 cases x with
 | non=>exact go _ .non (by simp) (by rcases hTT with rfl | rfl | rfl | rfl | rfl | rfl <;> rfl)
 | bl b=>exact go _ (.bl b) (by simp) (by rcases hTT with rfl | rfl | rfl | rfl | rfl | rfl <;> rfl)
 | int i=>exact go _ (.int i) (by simp) (by rcases hTT with rfl | rfl | rfl | rfl | rfl | rfl <;> rfl)
 | str z=>exact go _ (.str z) (by simp) (by rcases hTT with rfl | rfl | rfl | rfl | rfl | rfl <;> rfl)
 | ref a=>
  rcases hs with ⟨ys,e⟩ | ⟨ys,e⟩ | ⟨ys,e⟩
  ·exact go _ (.lst e) (by simp) (by simp only [isV,e];rcases hTT with rfl | rfl | rfl | rfl | rfl | rfl <;> rfl)
  ·exact go _ (.tup e) (by simp) (by simp only [isV,e];rcases hTT with rfl | rfl | rfl | rfl | rfl | rfl <;> rfl)
  ·exact go _ (.dK e) (by simp) (by simp only [isV,e];rcases hTT with rfl | rfl | rfl | rfl | rfl | rfl <;> rfl)
 | byt _=>exact hs.elim
 | flt _=>exact hs.elim
 | ty _=>exact hs.elim
end
end My
namespace L2
open PySem PySem.Spec PyProof.Rows
section
variable {prog:Program} {w:World} {A:Around} {R:Result->Shared->Prop} {s:Shared}
theorem jC {elt target iter cnd:Expr} {scope:Scope} {pos:Pos} {it acc:Value} {env:Env} (I:Nat->Shared->Prop)
  (turn: ∀ n s,I n s->wpAny (model prog w) A (pyNext it) (fun r s₁=>match r with
   | none=>R (.ok .next) s₁
   | some v=>wpAny (model prog w) A (letOwnedTupleGo target it v) (fun _ s₁'=>wpAny (model prog w) A (assign target env v) (fun _ s₂=>wpAny (model prog w) A (isTrue cnd env (eval cnd env)) (fun ok s₃=>
     if ok=true then wpAny (model prog w) A (eval elt env) (fun x s₄=>
      wpAny (model prog w) A (call (.builtin "list.append") [acc,x]) (fun _ s₅=> ∃ m,m<n/\I m s₅) (fun _ _=>False) s₄) (fun _ _=>False) s₃
     else ∃ m,m<n/\I m s₃) (fun _ _=>False) s₂) (fun _ _=>False) s₁') (fun _ _=>False) s₁) (fun _ _=>False) s)
  (n:Nat) (h:I n s):codeAny (model prog w) A (.compLoop (.ListComp elt [⟨target,iter,[cnd],0⟩] scope pos) 0 it acc env) R s:=by
 refine codeAny_loop rfl I (fun n s hI=>?_) n h
 show wpAny _ _ ((compTurn (.ListComp elt [⟨target,iter,[cnd],0⟩] scope pos) 0 it acc env).onRaise (fun x=>do noteFrame x env;theTreesLotGoes x)) _ _ s
 refine wpAny_noted ?_
 rw [compTurn_list]
 refine wpAny_noRaise ?_
 refine wpAny_bind (wpAny_standAt (wpAny_bind (wpAny_mono (turn n s hI) (fun r s₁ h₁=>?_) fun _ _ h'=>h')))
 cases r with
 | none=>exact wpAny_pure h₁
 | some v=>
  refine wpAny_bind (wpAny_mono h₁ (fun _ s₁' h₁'=>?_) fun _ _ h'=>h')
  refine wpAny_bind (wpAny_mono h₁' (fun _ s₂ h₂=>wpAny_bind (wpAny_mono (wpAny_tests_one h₂) (fun ok s₃ h₃=>?_) fun _ _ h'=>h')) fun _ _ h'=>h')
  cases ok with
  | false=>exact wpAny_pure ⟨rfl,h₃⟩
  | true=>
   exact wpAny_bind (wpAny_bind (wpAny_mono h₃ (fun x s₄ h₄=>wpAny_bind (wpAny_mono h₄ (fun _ s₅ h₅=>wpAny_pure (wpAny_pure ⟨rfl,h₅⟩)) fun _ _ h'=>h')) fun _ _ h'=>h'))
end
noncomputable def kH (fr:List Nat) (tc:TT) (te:TE) (σ:St) (J:It) (H1:Hp) (Q:VK):Prop:=
 ∀ p,H1 p=none-> ∃ W:Nat->Nat->List V->Hp->Prop,(∃ m,W 0 m [] (upd H1 p (.lst [])))/\ ∀ i m ys H,W i m ys H->H p=some (.lst ys)/\
  ((J.stop i H/\Q (.ref p) H)\/(J.go i H/\ys.length<sizeLine/\ ∀ x H',J.yld i H x H'->tc (some x::bi fr σ) H' fun b H2=>if b=true then te (some x::bi fr σ) H2 fun v H3=>
   H3 p=some (.lst ys)/\ ∃ m',m'<m/\W (i+1) m' (ys++[v]) (upd H3 p (.lst (ys++[v])))else ∃ m',m'<m/\W (i+1) m' ys H2))
noncomputable def oD (wi:TI) (fr:List Nat) (tc:TT) (te:TE):TE:=fun σ H Q=>wi σ H fun J H1=>kH fr tc te σ J H1 Q
section
variable {X:Cx} {x:Str} {px pos fpos:Pos} {iter elt cnd:Expr} {scope sc0:Scope} {N0 ys:List Str} {fr:List Nat} {wi:TI} {tc:TT} {te:TE} {pins:List (Addr×Obj)} {σ:St} {H:Hp} {s:Shared}
theorem jz {use:Option (Value->Sem Unit)} {Qv:Value->Shared->Prop} {Q:VK} (hcalm:X.calm=true) (hi:PI X (.Name x px) iter wi) (hsc:X.env.scope=sc0) (hN:X.N=N0) (ok:fU sc0 N0 scope x ys fr)
  (hT: ∀ C s H ex,PT (bt X x ys scope C s H ex) cnd tc) (hE: ∀ C s H ex,PE (bt X x ys scope C s H ex) elt te) (I:Inv X pins σ H s) (h:oD wi fr tc te σ H Q) (hs: ∀ v,foldedSetIterable iter X.env v=pure v)
  (fin: ∀ (p C:Addr) (H':Hp) (s':Shared) (m:Str->Option Value),Inv X pins σ H' s'->s'.heap.Ns C m->H' C=none->C≠X.env.locals->X.s₀.heap.objs.size<=C->(∀ y c,X.env.cells.lookup y=some c->c≠C)->(∀ q∈X.pn++pins,q.1≠C)->Q (.ref p) H'->
   compPost (model X.prog X.w) X.A X.xe use Qv (.ref p) C (.ok .next) s'):
  wpAny (model X.prog X.w) X.A (comprehension (.ListComp elt [⟨.Name x px,iter,[cnd],0⟩] scope pos) scope X.env fpos (newList []) false (eval iter X.env) use) Qv X.xe s:=by
 subst hsc hN
 have hkof: ∀ y,X.env.kindOf y=X.env.scope.names.lookup y:=fun y=>rfl
 have hfree: ∀ y∈scope.names,y.2=.free-> ∃ c,X.env.cells.lookup y.1=some c:=fun y hy e=>I.ok.has y.1 (.inl (ok.free y hy e))
 refine wpAny_comprehension_free (gs:=[]) rfl hs (cH hfree) ok.kind ok.loc (thn (hi pins s σ H _ I h) fun v s1 h1=>thn h1 fun itv s2 h2=>?_)
 obtain ⟨it,fp,tn,J,H2,e,I2,T,st2,f2,hp⟩:=h2
 subst e
 refine wpAny_newObj_type (wpAny_newFunctionEnv ok.nocell (by intro y hy;simp at hy) (fun h₁ hns₁ hsb₁=>?_) ok.kind)
 dsimp only at hns₁ hsb₁ ⊢
 have I3:Inv X pins σ (upd H2 s2.heap.objs.size (.lst [])) {s2 with heap:=s2.heap.push {cls:=.type "list",data:=.seq ([]:List Value).toArray}}:=
  I2.lnew (its:=[]) (ys:=[]) (t':=s2.toks) .nil (Nat.zero_le _)
 have hf2: ∀ b∈fp,b<s2.heap.objs.size:=fun b hb=>by
  obtain ⟨o,e,_⟩:=T.obj _ _ st2 b hb
  exact Heap.lt_size e
 have hps:s2.heap.objs.size< (s2.heap.push {cls:=.type "list",data:=.seq ([]:List Value).toArray}).objs.size:=by rw [Heap.size_push];exact Nat.lt_succ_self _
 have W0:=hp s2.heap.objs.size I2.fresh
 have st3:tn 0 (s2.heap.push {cls:=.type "list",data:=.seq ([]:List Value).toArray}):=T.keep _ _ _ st2 fun b hb o e=>Heap.get?_push_of_some _ e
 generalize hpp:s2.heap.objs.size=p at I3 W0 hf2 hps ⊢
 generalize hh3:(s2.heap.push {cls:=.type "list",data:=.seq ([]:List Value).toArray})=h3 at I3 hns₁ hsb₁ hps st3 ⊢
 generalize hH3:upd H2 p (.lst [])=H3 at I3 W0
 have hold: ∀ b o,h3.get? b=some o->h₁.get? b=some o:=fun b o e=>hsb₁.extBut b o (Nat.ne_of_lt (Heap.lt_size e)) (Heap.get?_push_of_some _ e)
 have fH3: ∀ b∈fp,H3 b=none:=fun b hb=>by
  rw [<- hH3,ai (Nat.ne_of_lt (hf2 b hb))]
  exact (f2 b hb).1
 have hclos: ∀ y c,(ce X.env.cells scope.names).lookup y=some c->X.env.cells.lookup y=some c:=fun y c e=>cb e
 have hcell3: ∀ y c,X.env.cells.lookup y=some c->c<h3.objs.size:=fun y c e=>by
  obtain ⟨v,o,ho,_⟩:=I3.cell y c e
  exact Heap.lt_size ho
 have hlt3:X.env.locals<h3.objs.size:=I3.lt
 have Yok:(bt X x ys scope h3.objs.size {s2 with heap:=h3} H3 fp).Ok:={
  mod:=I.ok.mod
  kind:=ok.kind
  glob:=I.ok.glob
  blt:=I.ok.blt
  above:=Nat.le_refl _
  inj:=fun y z c e1 e2=>I.ok.inj y z c (hclos _ _ e1) (hclos _ _ e2)
  has:=fun y hk=>by
   have hfr:(y,NameKind.free)∈scope.names:=by
    have hm: ∃ k,(aX X.env.scope scope).lookup y=some k/\(k=.cell\/k=.free):=by
     rcases hk with hk | hk
     ·exact ⟨_,hk,.inl rfl⟩
     ·exact ⟨_,hk,.inr rfl⟩
    obtain ⟨k,hk,hkk⟩:=hm
    have hmem:=mem_of_lookup hk
    unfold aX at hmem
    obtain ⟨⟨n,k0⟩,hn,en⟩:=List.mem_map.mp hmem
    dsimp only at en
    split at en
    ·rename_i hc
     simp only [Bool.and_eq_true]at hc
     have hk0:k0=.free:=by simpa using hc.1.1
     cases en
     rw [<- hk0]
     exact hn
    ·cases en
     rcases hkk with e | e
     ·exact absurd e (ok.nocell _ hn)
     ·rw [<- e]
      exact hn
   obtain ⟨c,hc⟩:=hfree _ hfr rfl
   exact ⟨c,cr hc hfr⟩
  cab:=fun y c hf _=>by cases hf
  hd:=I.ok.hd
  frames:=I.ok.frames
  stk:=.inl rfl
  exf:=fun b hb=>⟨fun e=>absurd (hf2 b hb) (by rw [e];exact Nat.not_lt.mpr (Nat.le_of_lt hps)),fun y c e=>(f2 b hb).2.2.2.2.1 y c (hclos _ _ e)⟩
  bs:=fun b o e=>⟨(I3.bs b o e).1,(I3.bs b o e).2⟩
  bsz:=Nat.le_trans I.ok.bsz I3.sz
  noex:=fun b o e hb=>by
   rcases (f2 b hb).2.2.2.1 with q | q
   ·exact I.ok.noex b o e q
   ·have h1:b<X.base.objs.size:=Heap.lt_size e
    exact absurd h1 (Nat.not_lt.mpr (Nat.le_trans I.ok.bsz q))
  exfs:=fun b hb hm=>by
   rcases List.mem_cons.mp (I3.stkSub b hm)with q | q
   ·exact (f2 b hb).2.1 q
   ·exact (f2 b hb).2.2.1 q
  funs:=I3.stack
  frf:=I3.stkFree}
 have IY:Inv (bt X x ys scope h3.objs.size {s2 with heap:=h3} H3 fp) [] (none::bi fr σ) H3 {s2 with heap:=h₁,toks:=s2.toks+ ([]:List (Str×Value)).length}:={
  ok:=Yok
  os:=rfl
  bare:=I2.bare
  base:=Un.kept hold
  loc:=by
   refine ⟨_,hns₁,fun i y v hy hv hvis=>?_⟩
   cases i with
   | zero=>cases hv
   | succ j=>
    have hy':ys[j]? =some y:=hy
    have hv':(bi fr σ)[j]? =some (some v):=hv
    unfold bi at hv'
    rw [List.getElem?_map]at hv'
    obtain ⟨i0,hi0,hv0⟩:=Option.map_eq_some_iff.mp hv'
    have hz:(y,i0)∈ys.zip fr:=by
     refine List.mem_iff_getElem?.mpr ⟨j,?_⟩
     rw [List.getElem?_zip_eq_some]
     exact ⟨hy',hi0⟩
    obtain ⟨hn,hk,hk2⟩:=ok.sl _ hz
    have hσ:σ[i0]? =some (some v):=by
     cases e:σ[i0]? with
     | none=>rw [e]at hv0;cases hv0
     | some o=>
      rw [e]at hv0
      rw [show o=some v from hv0]
    obtain ⟨m,hm,hl⟩:=I3.loc
    obtain ⟨u,ru,lk⟩:=hl i0 y v hn hσ (.inr (.inl hk))
    refine ⟨u,ru,.inr ⟨.inl hk2,?_⟩⟩
    rcases lk with ⟨a,_⟩ | ⟨_,c,hc,hcell⟩
    ·have a':X.env.scope.names.lookup y=some .local:=a
     have hk':X.env.scope.names.lookup y=some .cell:=hk
     rw [hk']at a'
     cases a'
    ·have hfr:(y,NameKind.free)∈scope.names:=by
      have hmem:=mem_of_lookup hk2
      unfold aX at hmem
      obtain ⟨⟨n,k0⟩,hn0,en⟩:=List.mem_map.mp hmem
      dsimp only at en
      split at en
      ·rename_i hc0
       simp only [Bool.and_eq_true]at hc0
       have hk0:k0=.free:=by simpa using hc0.1.1
       cases en
       rw [<- hk0]
       exact hn0
      ·cases en
       exact absurd rfl (ok.nocell _ hn0)
     exact ⟨c,cr hc hfr,hcell.keeps hold⟩
  cell:=fun y c e=>by
   obtain ⟨v,hv⟩:=I3.cell y c (hclos _ _ e)
   exact ⟨v,hv.keeps hold⟩
  free:=I3.fresh
  freeC:=fun y c e=>I3.freeC y c (hclos _ _ e)
  pin:=fun q hq=>by cases hq
  hok:=I3.hok.kept hold
  len:=by
   show (none::bi fr σ).length=(x::ys).length
   rw [List.length_cons,List.length_cons,ok.len]
   unfold bi
   rw [List.length_map]}
 have hxl:(bt X x ys scope h3.objs.size {s2 with heap:=h3} H3 fp).env.scope.names.lookup x=some .local:=ok.xl
 have pgx:PG (bt X x ys scope h3.objs.size {s2 with heap:=h3} H3 fp) (.Name x px) (dC 0):=aw (i:=0) ok.nd rfl (.inl hxl) (.inr hxl)
 have pel:=hE h3.objs.size {s2 with heap:=h3} H3 fp
 have ptl:=hT h3.objs.size {s2 with heap:=h3} H3 fp
 obtain ⟨W,⟨m0,w0⟩,turn⟩:=W0
 have stat: ∀ {H':Hp},(∀ b∈fp,H' b=none)-> ∀ b∈fp,iA (bt X x ys scope h3.objs.size {s2 with heap:=h3} H3 fp) [] H' b:=fun hn b hb=>
  ⟨hn b hb,(Yok.exf b hb).1,Yok.exfs b hb,.inl hb,(Yok.exf b hb).2,fun q hq=>by cases hq⟩
 have loop:codeAny (model X.prog X.w) X.A (.compLoop (.ListComp elt [⟨.Name x px,iter,[cnd],0⟩] scope pos) 0 (.ref it) (.ref p) (compEnvC scope (ce X.env.cells scope.names) h3.objs.size X.env))
   (compPost (model X.prog X.w) X.A X.xe use Qv (.ref p) h3.objs.size) {s2 with heap:=h₁,toks:=s2.toks+ ([]:List (Str×Value)).length}:=by
  refine jC (fun n s'=> ∃ i zs v0 H',Inv (bt X x ys scope h3.objs.size {s2 with heap:=h3} H3 fp) [] (v0::bi fr σ) H' s'/\tn i s'.heap/\(∀ b∈fp,H' b=none)/\W i n zs H') ?_ m0
   ⟨0,[],none,H3,IY,T.keep _ _ _ st3 fun b hb o e=>hold b o e,fH3,w0⟩
  rintro n s5 ⟨i,zs,v0,H5,I5,st5,fr5,w5⟩
  obtain ⟨hacc,turn5⟩:=turn i n zs H5 w5
  rcases turn5 with ⟨stop,qn⟩ | ⟨go,hlen,step⟩
  ·refine thn (T.done (bt X x ys scope h3.objs.size {s2 with heap:=h3} H3 fp) rfl rfl rfl hcalm i [] s5 _ H5 _ I5 (stat fr5) st5 stop) fun r s6 ⟨hr,I6⟩=>?_
   subst hr
   obtain ⟨m6,n6,_⟩:=I6.loc
   refine fin p h3.objs.size H5 s6 m6 (I3.call' I6.os I6.base I6.hok I6.bare fun b hb=>⟨(f2 b hb).2.2.2.1,(f2 b hb).2.1,(f2 b hb).2.2.2.2.1,(f2 b hb).2.2.2.2.2⟩) n6 I6.free (Nat.ne_of_gt hlt3) I3.sz (fun y c e=>Nat.ne_of_lt (hcell3 y c e)) (fun q hq=>?_) qn
   exact Nat.ne_of_lt (Heap.lt_size (I3.pin q hq).1)
  ·refine thn (T.item (bt X x ys scope h3.objs.size {s2 with heap:=h3} H3 fp) rfl rfl rfl hcalm i [] s5 _ H5 _ I5 (stat fr5) st5 go) fun r s6 ⟨u,hr,h6⟩=>?_
   subst hr
   refine thn h6 fun _ s7 ⟨xv,H7,I7,r7,y7,st7,fr7⟩=>?_
   have I7':=I7.pinned (stat fr7) (T.obj _ _ st7)
   refine thn (pgx _ s7 _ H7 xv u (fun σ' H'=>σ'=some xv::bi fr σ/\H'=H7) I7' r7 ⟨rfl,rfl⟩) fun _ s8 ⟨σ8,H8,I8,e8,e8'⟩=>?_
   subst e8 e8'
   refine thn (ptl _ s8 _ H8 _ I8 (step xv H8 y7)) fun bb s8' ⟨H8',I8',hb⟩=>?_
   cases bb with
   | false=>
    obtain ⟨m',hm',w9⟩:=hb
    refine ⟨m',hm',i+1,zs,some xv,_,I8'.unpinned,T.keep _ _ _ st7 fun b hb o e=>(I8'.pin (b,o) (List.mem_append_right _ (List.mem_append_right _ (br hb e)))).1,fun b hb=>?_,w9⟩
    obtain ⟨o,e,d⟩:=T.obj _ _ st7 b hb
    exact (I8'.pin (b,o) (List.mem_append_right _ (List.mem_append_right _ (br hb e)))).2.1
   | true=>
   refine thn (pel _ s8' _ H8' _ I8' hb) fun yv s9 ⟨v9,H9,I9,r9,hp9,m',hm',w9⟩=>?_
   refine thn (bo _ s9 _ H9 (.ref p) [v9] (.ref p) [yv] (fun _ H'=>H'=upd H9 p (.lst (zs++[v9]))) I9 rfl (.cons r9 .nil) ⟨p,zs,v9,rfl,rfl,hp9,hlen,rfl⟩) fun _ s10 ⟨_,H10,I10,_,e10⟩=>?_
   subst e10
   refine ⟨m',hm',i+1,zs++[v9],some xv,_,I10.unpinned,T.keep _ _ _ st7 fun b hb o e=>(I10.pin (b,o) (List.mem_append_right _ (List.mem_append_right _ (br hb e)))).1,fun b hb=>?_,w9⟩
   obtain ⟨o,e,d⟩:=T.obj _ _ st7 b hb
   exact (I10.pin (b,o) (List.mem_append_right _ (List.mem_append_right _ (br hb e)))).2.1
 exact codeAny_compStart_list loop (T.self X.A 0 _ _ _ (T.keep _ _ _ st3 fun b hb o e=>hold b o e) loop)
theorem ny (hcalm:X.calm=true) (hi:PI X (.Name x px) iter wi) (hsc:X.env.scope=sc0) (hN:X.N=N0) (ok:fU sc0 N0 scope x ys fr)
  (hT: ∀ C s H ex,PT (bt X x ys scope C s H ex) cnd tc) (hE: ∀ C s H ex,PE (bt X x ys scope C s H ex) elt te) (hs: ∀ v,foldedSetIterable iter X.env v=pure v:=by intro _;rfl):
  PE X (.ListComp elt [⟨.Name x px,iter,[cnd],0⟩] scope pos) (oD wi fr tc te):=by
 intro pins s σ H Q I h
 rw [eval_ListComp]
 refine jz (use:=none) (Qv:=EP X pins σ Q) (Q:=Q) hcalm hi hsc hN ok hT hE I h hs fun p C H' s' m I' hn h0 h1 h2 h3 h4 q=>?_
 refine ⟨m,hn,fun h' sb=>⟨.ref p,H',I'.turned (t':=s'.toks) (fun b o hb e=>sb.extBut b o hb e) h0 (Ne.symm (Ne.symm h1)) (.inr h2) h3 h4,rfl,q⟩⟩
theorem jb {i:Nat} {y:Str} {py spos:Pos} (hcalm:X.calm=true) (hnd:X.N.Nodup) (hiN:X.N[i]? =some y) (hy:Loc X.env.scope y) (hi:PI X (.Name x px) iter wi) (hsc:X.env.scope=sc0) (hN:X.N=N0) (ok:fU sc0 N0 scope x ys fr)
  (hT: ∀ C s H ex,PT (bt X x ys scope C s H ex) cnd tc) (hE: ∀ C s H ex,PE (bt X x ys scope C s H ex) elt te) (hsw:swapsWith (.ListComp elt [⟨.Name x px,iter,[cnd],0⟩] scope pos) (some (.Name y py)) spos.line X.env=pure true:=by rfl)
  (hs: ∀ v,foldedSetIterable iter X.env v=pure v:=by intro _;rfl) (hf:X.fn y=true\/X.env.scope.names.lookup y=some .local:=by first | exact .inl rfl | exact .inr rfl | assumption):
  PS X (.Assign [.Name y py] (.ListComp elt [⟨.Name x px,iter,[cnd],0⟩] scope pos) spos) (mj (oD wi fr tc te) (dC i)):=by
 intro pins s σ H D I h
 rw [exec_Assign_Name_used _ _ _ _ hsw]
 refine wpAny_bind (wpAny_standAt (wpAny_bind ?_))
 show wpAny _ X.A (do let _ <- comprehension (.ListComp elt [⟨.Name x px,iter,[cnd],0⟩] scope pos) scope X.env _ (newList []) false (eval iter X.env) (some (assign (.Name y py) X.env))) _ _ s
 refine wpAny_bind (thn (jz (use:=some (assign (.Name y py) X.env)) (Qv:=fun _ s'=>SP X pins D .next s') (Q:=fun v H'=>D.nx (σ.set i (some v)) H') hcalm hi hsc hN ok hT hE I h hs fun p C H' s' m I' hn h0 h1 h2 h3 h4 q=>?_) fun _ s' hq=>wpAny_pure (wpAny_pure hq))
 show wpAny _ X.A (assign (.Name y py) X.env (.ref p)) _ _ s'
 refine wpAny_assign_Name (dW (v:=.ref p) I' hnd hiN hy rfl (fun s'' I'' ⟨a,sb,ha⟩=>?_) hf)
 have hCa:C≠a:=by
  rcases ha with e | e
  ·rw [e];exact h1
  ·exact (h3 y a e).symm
 refine ⟨m,hn.sameBut sb hCa,fun h' sb'=>⟨_,H',I''.turned (t':=s''.toks) (fun b o hb e=>sb'.extBut b o hb e) h0 h1 (.inr h2) h3 h4,q⟩⟩
end
end L2
namespace My
open PySem L2
noncomputable def top (i:Nat):Stmt:=PySem.Challenge.pw_boughworth_k61_rows_of_trees.main.body.getD i (.Pass ⟨0,0,0,0⟩)
noncomputable abbrev oM:Stmt:=top 3
noncomputable abbrev lp:Stmt:=top 4
noncomputable abbrev iF:Stmt:=top 5
noncomputable abbrev iZ:Stmt:=top 7
noncomputable abbrev i7:Stmt:=top 8
noncomputable abbrev eE:Stmt:=top 9
noncomputable abbrev eF:Stmt:=top 10
noncomputable abbrev wY:Stmt:=top 11
noncomputable abbrev eW:Stmt:=top 12
noncomputable abbrev i4:Stmt:=top 13
noncomputable abbrev i3:Stmt:=top 14
noncomputable abbrev oO:Stmt:=top 15
noncomputable abbrev nh:Stmt:=top 17
noncomputable abbrev lr:Stmt:=top 18
noncomputable abbrev iX:Stmt:=top 19
noncomputable abbrev lB:Stmt:=top 20
noncomputable abbrev gj:Stmt:=top 22
noncomputable abbrev lq:Stmt:=top 24
noncomputable abbrev gW:Stmt:=top 25
noncomputable abbrev lm:Stmt:=top 26
noncomputable abbrev tR:Stmt:=top 28
noncomputable abbrev tN:Stmt:=top 29
noncomputable abbrev oN:Stmt:=top 30
noncomputable abbrev eZ:Stmt:=top 31
noncomputable abbrev ls:Stmt:=top 32
noncomputable abbrev tP:Stmt:=top 33
noncomputable abbrev gX:Stmt:=top 34
noncomputable abbrev iY:Stmt:=top 35
noncomputable abbrev lA:Stmt:=top 36
noncomputable abbrev ng:Stmt:=top 37
noncomputable abbrev oK:Stmt:=top 38
noncomputable abbrev i6:Stmt:=top 39
noncomputable abbrev i5:Stmt:=top 40
noncomputable abbrev c7:Stmt:=top 41
noncomputable abbrev lE:Stmt:=top 42
noncomputable abbrev lC:Stmt:=top 43
noncomputable abbrev dl:Stmt:=top 44
noncomputable abbrev eX:Stmt:=top 45
noncomputable abbrev gi:Stmt:=top 46
noncomputable abbrev cm:Stmt:=top 47
noncomputable abbrev eY:Stmt:=top 48
noncomputable abbrev fk:Stmt:=top 49
noncomputable abbrev tQ:Stmt:=top 50
noncomputable abbrev ni:Stmt:=top 51
noncomputable abbrev lx:Stmt:=top 52
noncomputable abbrev cJ:Stmt:=top 53
noncomputable abbrev jY:Stmt:=top 54
noncomputable abbrev iE:Stmt:=gX
structure Gb (mg:Str->Option Value):Prop where
 isi:mg "isinstance"=none
 int:mg "int"=none
 bool:mg "bool"=none
 str:mg "str"=none
 tuple:mg "tuple"=none
 len:mg "len"=none
 all:mg "all"=none
 range:mg "range"=none
 max:mg "max"=none
 min:mg "min"=none
noncomputable def oy:V->Bool
 | .int _=>true
 | _=>false
theorem wm {H:Hp} {v:V} (h:Sh H v):(if isV "int" H v=true then !isV "bool" H v else false)=oy v:=by
 cases v with
 | ref a=>rcases h with ⟨ys,e⟩ | ⟨ys,e⟩ | ⟨ys,e⟩ <;> (simp only [isV,e];rfl)
 | _=>rfl
theorem qb {Q:VK} {b b':Bool} {H:Hp} (q:Q (.bl b) H) (e:b=b'):Q (.bl b') H:=e▸q
theorem ag {H:Hp} {p:Addr} (h:H p=none) (o:HO):Same H (upd H p o):=fun b u q=>by rw [ai (af q h)];exact q
noncomputable def la:Sp:=fun vs H Q _=> ∃ v,vs=[v]/\Sh H v/\Q (.bl (oy v)) H
noncomputable def c6 (k:Str):Option Nat:=if k∈ops then some 2 else if k="when" then some 3 else none
noncomputable def ft:List V->List V
 | .str k::r=>if (c6 k).isSome then r else []
 | _=>[]
noncomputable def kf:List (Key×V):=[(.inr "plus",.int 2),(.inr "less",.int 2),(.inr "times",.int 2),(.inr "least",.int 2),(.inr "most",.int 2),(.inr "when",.int 3)]
theorem xx (k:Str):aP kf (.inr k)=(c6 k).map fun (n:Nat)=>V.int n:=by
 unfold c6 ops kf
 by_cases h1:k="plus"
 ·subst h1;decide +kernel
 by_cases h2:k="less"
 ·subst h2;decide +kernel
 by_cases h3:k="times"
 ·subst h3;decide +kernel
 by_cases h4:k="least"
 ·subst h4;decide +kernel
 by_cases h5:k="most"
 ·subst h5;decide +kernel
 by_cases h6:k="when"
 ·subst h6;decide +kernel
 have ne: ∀ {y:Str},¬ k=y-> ¬ (Sum.inr y:Key)=Sum.inr k:=fun h e=>h (Sum.inr.inj e).symm
 rw [bf (ne h1),bf (ne h2),bf (ne h3),bf (ne h4),bf (ne h5),bf (ne h6),sO,if_neg,if_neg h6]
 ·rfl
 ·simp only [List.mem_cons,List.not_mem_nil,or_false,not_or]
  exact ⟨h1,h2,h3,h4,h5⟩
theorem cf {α:Type} {x:α} {r:List α}:atI (x::r) 0=some x:=ao (j:=0) rfl
theorem zf {α:Type} {x y:α} {r:List α}:atI (x::y::r) 1=some y:=ao (j:=1) rfl
theorem ze {α:Type} {x y z:α} {r:List α}:atI (x::y::z::r) 2=some z:=ao (j:=2) rfl
noncomputable def ld:Sp:=fun vs H Q _=> ∃ a k r,vs=[.ref a]/\H a=some (.tup (.str k::r))/\r.length<=1000/\ ∀ p H',Same H H'->H' p=some (.tup (ft (.str k::r)))->Q (.ref p) H'
theorem vC:aH ["formula"] ["formula"] (ah oM):=fsc
theorem jl (F:Fun K "inner_of" "inner_of" oM f fd) (mD:mg "INNER_COUNTS"=some (.ref aD)) (D:wB P w K aD kf):FnOk P w K mg base CX0 1 f fd ["formula"] ld:=by
 refine F.ok vC (fun vs H Q E h=>?_) (fun cdv A outer s H vs Q E hr h=>?_)
 ·obtain ⟨a,k,r,rfl,_⟩:=h
  rfl
 obtain ⟨a,k,r,rfl,ha,hl,q⟩:=h
 refine ⟨_,aj (ay (db (aF xc (aq aB (pv 0) ae (fun _ _=>rfl)) (qo (v:=.ref aD) rfl mD rfl) (by with_unfolding_all rfl)) (bA lh (pv 0) (cg ae) cC) (aS ac))),?_⟩
 refine ⟨_,rfl,a,_,0,_,rfl,rfl,SqT.of ha,cf,.inr k,aD,kf,rfl,rfl,D,_,rfl,?_⟩
 have hv:=xx k
 cases hk:c6 k with
 | none=>
  rw [hk]at hv
  refine bQ (fun c=>?_) (fun c=>?_)
  ·rw [hv]at c
   exact absurd c (by decide)
  ·refine ⟨(by show 0<=sizeLine;decide),fun p hp=>?_⟩
   refine q p _ (ag hp _) ?_
   rw [ab]
   show some (HO.tup [])=some (HO.tup (if (c6 k).isSome=true then r else []))
   rw [hk]
   rfl
 | some n=>
  rw [hk]at hv
  refine bQ (fun c=>?_) (fun c=>?_)
  ·refine ⟨_,rfl,1,rfl,a,_,rfl,SqT.of ha,?_,fun p hp=>?_⟩
   ·rintro ⟨h1,_⟩
    have:HT.sIx (V.str k::r).length 0 (some 1)=min 1 (V.str k::r).length:=HT.sIx_nat _ _ 1
    rw [this,List.length_cons]at h1
    lia
   ·refine q p _ (ag hp _) ?_
    rw [ab]
    have e1:HT.sIx (V.str k::r).length 0 (some 1)=1:=by
     have:HT.sIx (V.str k::r).length 0 (some 1)=min 1 (V.str k::r).length:=HT.sIx_nat _ _ 1
     rw [this,List.length_cons]
     lia
    have e2:dD (V.str k::r) (some 1) none=r:=by
     unfold dD
     rw [e1,HT.sIx_none,List.length_cons,List.drop_one,List.tail_cons,Nat.add_sub_cancel,List.take_length]
    show some (HO.tup (dD (V.str k::r) (some 1) none))=some (HO.tup (if (c6 k).isSome=true then r else []))
    rw [hk,e2]
    rfl
  ·rw [hv]at c
   exact absurd rfl c
noncomputable def Kp (tp:Addr) (H H':Hp):Prop:= ∀ b o,H b=some o->b≠tp->H' b=some o
theorem Kp.refl {tp:Addr} {H:Hp}:Kp tp H H:=fun _ _ h _=>h
theorem Kp.trans {tp:Addr} {H H1 H2:Hp} (a:Kp tp H H1) (b:Kp tp H1 H2):Kp tp H H2:=fun c o h n=>b c o (a c o h n) n
theorem Kp.same {tp:Addr} {H H1 H2:Hp} (a:Kp tp H H1) (b:Same H1 H2):Kp tp H H2:=fun c o h n=>b c o (a c o h n)
theorem Kp.tape {tp:Addr} {H:Hp} {o:HO}:Kp tp H (upd H tp o):=fun b u h n=>by rw [ai n];exact h
theorem Kp.new {tp p:Addr} {H H1:Hp} {o:HO} (a:Kp tp H H1) (h:H1 p=none):Kp tp H (upd H1 p o):=a.same (ag h _)
noncomputable def Tp (H:Hp) (tp:Addr):Prop:= ∃ t:Int,H tp=some (.lst [.int t])
theorem Kp.tk {tp:Addr} {H H':Hp} (a:Kp tp H H') (t:Tp H tp):TK H H':=fun b xs h=>a b _ h fun e=>by
 obtain ⟨t,ht⟩:=t
 subst e
 rw [ht]at h
 cases h
theorem Tp.new {H:Hp} {tp p:Addr} {o:HO} (t:Tp H tp) (h:H p=none):Tp (upd H p o) tp:=by
 obtain ⟨t,ht⟩:=t
 exact ⟨t,by rw [ai (af ht h)];exact ht⟩
noncomputable def tJ (K:PySem.W.Frag):Sp:=fun vs H Q _=> ∃ (a:Addr) (ns:List Int) (k:Int),vs=[.ref a,.int k]/\SqL K H a (ns.map V.int)/\ns.length<=63/\0<=k/\ ∀ c:Int,Q (.int c) H
noncomputable def lb (K:PySem.W.Frag):Sp:=fun vs H Q _=> ∃ (a:Addr) (ns:List Int) (k:Int),vs=[.ref a,.int k]/\SqL K H a (ns.map V.int)/\ns.length<=63/\0<=k/\k<1000/\ ∀ p t,H p=none->Q (.ref p) (upd H p (.lst [.int t]))
noncomputable def bH:Sp:=fun vs H Q _=> ∃ (tp:Addr) (m:Int),vs=[.ref tp,.int m]/\Tp H tp/\0<m/\m<1073741824/\ ∀ d t:Int,0<=d->d<m->Q (.int d) (upd H tp (.lst [.int t]))
noncomputable def iV:Sp:=fun vs H Q _=> ∃ tp,vs=[.ref tp]/\Tp H tp/\ ∀ (n:Int) H',-999999<=n->n<=999999->Kp tp H H'->Tp H' tp->Q (.int n) H'
theorem wX:aH ["script","k"] ["script","k"] (ah tR):=fsc
theorem vY (F:Fun K "_law_cell_at" "_law_cell_at" tR f fd) (G:Gb mg):FnOk P w K mg base CX0 1 f fd ["script","k"] (tJ K):=by
 refine F.ok wX (fun vs H Q E h=>?_) (fun cdv A outer s H vs Q E hr h=>?_)
 ·obtain ⟨a,ns,k,rfl,_⟩:=h
  rfl
 obtain ⟨a,ns,k,rfl,hS,hl,hk,q⟩:=h
 refine ⟨_,ad (aY (aF j4 (pv 1) (aA aJ rfl G.len PySem.boot_len (aa (pv 0) ac)) (aK _)) (aj (ay (aq aL (pv 0) (pv 1) (fun _ _=>rfl)))) aM) (aj (ay ae)),?_⟩
 refine ⟨_,rfl,_,rfl,a,_,rfl,.inl hS,_,_,rfl,rfl,_,rfl,?_⟩
 refine bQ (fun c=>?_) (fun c=>?_)
 ·have c':k< (((ns.map V.int).length:Nat):Int):=of_decide_eq_true c
  rw [List.length_map]at c'
  have hk':k.toNat<ns.length:=by lia
  have e:atI (ns.map V.int) k=some (V.int ns[k.toNat]):=by
   have ek:k=((k.toNat:Nat):Int):=by lia
   have q:atI (ns.map V.int) ((k.toNat:Nat):Int)=some (V.int ns[k.toNat]):=ao (by rw [List.getElem?_map,List.getElem?_eq_getElem hk'] <;> rfl)
   rw [<- ek]at q
   exact q
  exact ⟨_,rfl,_,rfl,a,_,k,_,rfl,rfl,hS,e,q _⟩
 ·exact q 0
theorem scTape:aH ["script","k","cell","p","one","two","three","four"] ["script","k"] (ah tN):=fsc
theorem vS (F:Fun K "_law_tape" "_law_tape" tN f fd) (GC:FnOk P w K mg base CX0 1 g gd ["script","k"] (tJ K)) (bC:Binds K gd ["script","k"] []) (kC:PySem.W.keepIn K (.ref g)=true) (mC:mg "_law_cell_at"=some (.ref g)):
  FnOk P w K mg base CX0 2 f fd ["script","k"] (lb K):=by
 refine F.ok scTape (fun vs H Q E h=>?_) (fun cdv A outer s H vs Q E hr h=>?_)
 ·obtain ⟨a,ns,k,rfl,_⟩:=h
  rfl
 obtain ⟨a,ns,k,rfl,hS,hl,hk,hk2,q⟩:=h
 refine ⟨_,ad (am (i:=2) scTape.nd rfl (Or.inl rfl) (al GC hr rfl mC kC bC .nil ax (aa (pv 0) (aa (pv 1) ac))))
  (ad (aY (aF bh (aC cZ (pv 2) ae) ae (aK _)) (aj (ay (bu (aa (aC qr (pv 2) ae) ac)))) aM)
  (ad (am (i:=3) scTape.nd rfl (Or.inl rfl) ae)
  (ad (am (i:=4) scTape.nd rfl (Or.inl rfl) (aC cZ (aC aV (aC aV (aC df (aC cZ (pv 2) (pv 3)) ae) (aC df ae (pv 1))) ae) (pv 3)))
  (ad (am (i:=5) scTape.nd rfl (Or.inl rfl) (aC cZ (aC aV (aC aV (aC df (pv 4) (pv 4)) (aC df ae (pv 1))) (pv 4)) (pv 3)))
  (ad (am (i:=6) scTape.nd rfl (Or.inl rfl) (aC cZ (aC aV (aC df (pv 5) (pv 5)) (pv 4)) (pv 3)))
  (ad (am (i:=7) scTape.nd rfl (Or.inl rfl) (aC cZ (aC aV (aC df (pv 6) (pv 6)) (pv 5)) (pv 3)))
  (aj (ay (bu (aa (aC aV (aC df (aC aV (aC df (aC aV (aC df (pv 4) (pv 3)) (pv 5)) (pv 3)) (pv 6)) (pv 3)) (pv 7)) ac)))))))))),?_⟩
 refine ⟨_,rfl,_,rfl,a,ns,k,rfl,hS,hl,hk,fun c=>?_⟩
 refine ⟨_,rfl,_,_,rfl,rfl,(by show (0:Int) <2;decide),rfl,_,rfl,?_⟩
 refine bQ (fun _=>?_) (fun _=>?_)
 ·exact ⟨_,rfl,_,_,rfl,rfl,⟨by decide,by decide⟩,(by show 1<=sizeLine;decide),fun p hp=>q p _ hp⟩
 have hp0:(0:Int) <2305843009213693951:=by decide
 have mm: ∀ x:Int,-(2^64) <x%2305843009213693951/\x%2305843009213693951<2^64:=fun x=>by
  have h1:=Int.emod_nonneg x (show (2305843009213693951:Int)≠0 by decide)
  have h2:=Int.emod_lt_of_pos x hp0
  lia
 have hkk: -(2^64) <k/\k<2^64:=by lia
 have hpp:(-(2^64):Int) <2305843009213693951/\(2305843009213693951:Int) <2^64:=by decide
 refine ⟨_,rfl,_,rfl,_,_,rfl,rfl,hp0,_,_,rfl,rfl,.inl (mm _),_,rfl,_,_,rfl,rfl,.inr hkk,_,_,rfl,rfl,_,_,rfl,rfl,_,rfl,_,_,rfl,rfl,hp0,?_⟩
 refine ⟨_,rfl,_,rfl,_,_,rfl,rfl,.inl (mm _),_,rfl,_,_,rfl,rfl,.inr hkk,_,_,rfl,rfl,_,rfl,_,_,rfl,rfl,_,rfl,_,_,rfl,rfl,hp0,?_⟩
 refine ⟨_,rfl,_,rfl,_,_,rfl,rfl,.inl (mm _),_,rfl,_,_,rfl,rfl,_,rfl,_,_,rfl,rfl,hp0,?_⟩
 refine ⟨_,rfl,_,rfl,_,_,rfl,rfl,.inl (mm _),_,rfl,_,_,rfl,rfl,_,rfl,_,_,rfl,rfl,hp0,?_⟩
 refine ⟨_,rfl,_,rfl,_,_,rfl,rfl,.inr hpp,_,rfl,_,_,rfl,rfl,_,rfl,_,_,rfl,rfl,.inr hpp,_,rfl,_,_,rfl,rfl,_,rfl,_,_,rfl,rfl,.inr hpp,_,rfl,_,_,rfl,rfl,(by show 1<=sizeLine;decide),fun p hp=>q p _ hp⟩
theorem scDigit:aH ["tape","many","found"] ["tape","many"] (ah oN):=fsc
theorem uH (F:Fun K "_law_digit" "_law_digit" oN f fd):FnOk P w K mg base CX0 1 f fd ["tape","many"] bH:=by
 refine F.ok scDigit (fun vs H Q E h=>?_) (fun cdv A outer s H vs Q E hr h=>?_)
 ·obtain ⟨tp,m,rfl,_⟩:=h
  rfl
 obtain ⟨tp,m,rfl,⟨t,ht⟩,hm,hm2,q⟩:=h
 refine ⟨_,ad (am (i:=2) scDigit.nd rfl (Or.inl rfl) (aC cZ (aq aL (pv 0) ae (fun _ _=>rfl)) (pv 1)))
  (ad (fI (aC qr (aq aL (pv 0) ae (fun _ _=>rfl)) (pv 1)) (uf (pv 0) ae mH))
  (aj (ay (pv 2)))),?_⟩
 refine ⟨_,rfl,tp,_,0,_,rfl,rfl,SqL.of ht,cf,_,rfl,_,_,rfl,rfl,hm,?_⟩
 refine ⟨_,rfl,tp,_,0,_,rfl,rfl,SqL.of ht,cf,_,rfl,_,_,rfl,rfl,⟨hm,hm2⟩,?_⟩
 refine ⟨_,rfl,tp,_,0,0,rfl,rfl,ht,rfl,?_⟩
 exact ⟨_,rfl,q (t%m) (t/m) (Int.emod_nonneg _ (by lia)) (Int.emod_lt_of_pos _ hm)⟩
theorem scNumber:aH ["tape","way"] ["tape"] (ah ls):=fsc
theorem rn (F:Fun K "_law_number" "_law_number" ls f fd) (GD:FnOk P w K mg base CX0 1 g gd ["tape","many"] bH) (bD:Binds K gd ["tape","many"] []) (kD:PySem.W.keepIn K (.ref g)=true) (mD:mg "_law_digit"=some (.ref g)):
  FnOk P w K mg base CX0 2 f fd ["tape"] iV:=by
 refine F.ok scNumber (fun vs H Q E h=>?_) (fun cdv A outer s H vs Q E hr h=>?_)
 ·obtain ⟨tp,rfl,_⟩:=h
  rfl
 obtain ⟨tp,rfl,hT,q⟩:=h
 refine ⟨_,ad (am (i:=1) scNumber.nd rfl (Or.inl rfl) (al GD hr rfl mD kD bD .nil ax (aa (pv 0) (aa ae ac))))
  (ad (aY (aF j4 (pv 1) ae (aK _)) (aj (ay (pv 1))) aM)
  (aj (ay (aq aL (bu (aa (ip eR ae) (aa (aC cT (al GD hr rfl mD kD bD .nil ax (aa (pv 0) (aa ae ac))) ae)
   (aa (aC cT (al GD hr rfl mD kD bD .nil ax (aa (pv 0) (aa ae ac))) ae) ac)))) (aC cT (pv 1) ae) (fun _ _=>rfl))))),?_⟩
 refine ⟨_,rfl,tp,6,rfl,hT,by decide,by decide,fun d t h0 h1=>?_⟩
 refine ⟨_,rfl,_,_,rfl,rfl,_,rfl,?_⟩
 refine bQ (fun c=>?_) (fun c=>?_)
 ·exact ⟨_,rfl,q d _ (by lia) (by lia) Kp.tape ⟨t,ab⟩⟩
 have c':3<=d:=by
  rcases Int.lt_or_le d 3 with z | z
  ·exact absurd (decide_eq_true z) c
  ·exact z
 refine ⟨_,rfl,_,rfl,tp,1001,rfl,⟨t,ab⟩,by decide,by decide,fun d2 t2 h20 h21=>?_⟩
 refine ⟨_,_,rfl,rfl,_,rfl,tp,1999999,rfl,⟨t2,ab⟩,by decide,by decide,fun d3 t3 h30 h31=>?_⟩
 refine ⟨_,_,rfl,rfl,(by show 3<=sizeLine;decide),fun p hp=>?_⟩
 rw [eA,eA]at hp ⊢
 have hd:d=3\/d=4\/d=5:=by lia
 have fin: ∀ n:Int,-999999<=n->n<=999999->Q (.int n) (upd (upd H tp (.lst [.int t3])) p (.lst [.int (-1),.int (d2-500),.int (d3-999999)])):=fun n h1 h2=>
  q n _ h1 h2 (Kp.tape.new hp) (Tp.new ⟨t3,ab⟩ hp)
 rcases hd with rfl | rfl | rfl
 ·exact ⟨_,rfl,_,_,rfl,rfl,p,_,0,_,rfl,rfl,SqL.of ab,cf,fin _ (by lia) (by lia)⟩
 ·exact ⟨_,rfl,_,_,rfl,rfl,p,_,1,_,rfl,rfl,SqL.of ab,zf,fin _ (by lia) (by lia)⟩
 ·exact ⟨_,rfl,_,_,rfl,rfl,p,_,2,_,rfl,rfl,SqL.of ab,ze,fin _ (by lia) (by lia)⟩
theorem rk {k:Str} (h:k∈ops):k.length<=1000:=by
 unfold ops at h
 simp only [List.mem_cons,List.not_mem_nil,or_false]at h
 rcases h with rfl | rfl | rfl | rfl | rfl <;> decide +kernel
theorem ox {x:Str} (h:cV x=true):x.length<=1000:=by
 unfold cV at h
 simp only [Bool.and_eq_true,decide_eq_true_eq]at h
 lia
theorem sf {op:Str} (h:op∈ops):c6 op=some 2:=by unfold c6;rw [if_pos h]
theorem sh:c6 "num"=none:=by decide +kernel
theorem se:c6 "own"=none:=by decide +kernel
theorem pG:c6 "part"=none:=by decide +kernel
theorem dF {α:Type} {xs:List α} {d:Int} (h0:0<=d) (h1:d<xs.length): ∃ x,atI xs d=some x/\xs[d.toNat]? =some x:=by
 have hk:d.toNat<xs.length:=by lia
 have ek:d=((d.toNat:Nat):Int):=by lia
 have q:atI xs ((d.toNat:Nat):Int)=some xs[d.toNat]:=ao (List.getElem?_eq_getElem hk)
 rw [<- ek]at q
 exact ⟨_,q,List.getElem?_eq_getElem hk⟩
theorem jW (z:Str) {j:Int} (h0:0<=j) (h1:j<=z.length):((Txt.slice z none (some j)).length:Int)=j:=by
 rcases PyProof.Rows.slice_ns_cases z j h0 with ⟨_,h⟩ | ⟨h,_⟩
 ·exact h
 ·lia
noncomputable def letters:Str:="abcdefghijklmnopqrstuvwxyz"
theorem nO:letters.cps.toList.all v6=true:=by decide +kernel
theorem iu:letters.length=26:=by decide +kernel
theorem rV {d:Int} (h0:0<=d) (h1:d<26): ∃ c,atI letters.cps.toList d=some c/\v6 c=true:=by
 have hl:letters.cps.toList.length=26:=by decide +kernel
 obtain ⟨c,e,e2⟩:=dF (xs:=letters.cps.toList) h0 (by rw [hl];lia)
 exact ⟨c,e,List.all_eq_true.mp nO c (List.mem_of_getElem? e2)⟩
theorem wx (x y:Str):(x++y).length=x.length+y.length:=by
 show (x.cps++y.cps).size=_
 rw [Array.size_append]
 rfl
noncomputable def names13:List Str:=["own","up","down","min","max","of","top","form","sort","wheel","book","tree","ok"]
theorem aneq:(Txt.slice "aneqoubi" none (some 7)).length=7/\(Txt.slice "aneqoubi" none (some 7)).cps.toList.all v6=true:=by decide +kernel
theorem qH:("eyzmopq":Str).length=7:=by decide +kernel
theorem Tp.same {H H':Hp} {tp:Addr} (t:Tp H tp) (s:Same H H'):Tp H' tp:=by
 obtain ⟨t0,e⟩:=t
 exact ⟨t0,s _ _ e⟩
noncomputable def nQ (d:Int):Nat:=(atI letters.cps.toList d).getD 0
noncomputable def eC (tu:Int):Str:=(⟨#[nQ tu]⟩:Str)++Txt.slice "aneqoubi" none (some 7)
noncomputable def nm0 (tu:Int) (i:Nat):Str:=if (0+ (i:Int)) <8 then Txt.slice (eC tu) none (some (0+ (i:Int) +1))else (⟨#[nQ ((tu+1) %26)]⟩:Str)++Txt.slice (eC tu) none (some (0+ (i:Int) -8))
noncomputable def nm1 (tu:Int) (i:Nat):Str:=((names13)[((tu+ (0+ (i:Int))) %13).toNat]?).getD ""
noncomputable def nm2 (tu:Int) (i:Nat):Str:=(⟨#[nQ ((tu+ (0+ (i:Int))) %26)]⟩:Str)++Txt.slice "eyzmopq" none (some ((tu+3* (0+ (i:Int))) %8))
noncomputable def jK (way:Nat) (tu:Int) (i:Nat):Str:=if way=0 then nm0 tu i else if way=1 then nm1 tu i else nm2 tu i
noncomputable def NamesAre (m:Nat) (ws:List Str):Prop:= ∃ (way tu:Nat) (back:Bool),way<3/\tu<26/\ws=(if back=true then ((List.range m).map (jK way tu)).reverse else (List.range m).map (jK way tu))
noncomputable def iW:Sp:=fun vs H Q _=> ∃ tp m,vs=[.ref tp,.int m]/\Tp H tp/\0<=m/\m<=13/\
 ∀ l (ws:List Str) H',H' l=some (.lst (ws.map V.str))->(ws.length:Int)=m->NamesAre m.toNat ws->l≠tp->Kp tp H H'->Tp H' tp->Q (.ref l) H'
theorem lX {d:Int} (h0:0<=d) (h1:d<26):atI letters.cps.toList d=some (nQ d):=by
 obtain ⟨c,e,_⟩:=rV h0 h1
 unfold nQ
 rw [e]
 rfl
theorem tw (tu:Int):(eC tu).length=8:=by unfold eC;rw [wx,aneq.1];rfl
theorem scNamesX:aH ["tape","many","letters","way","turn","back","stem","names","words"] ["tape","many"] (ah eZ):=fsc
theorem rq (F:Fun K "_law_names" "_law_names" eZ f fd) (G:Gb mg) (GD:FnOk P w K mg base CX0 1 g gd ["tape","many"] bH) (bD:Binds K gd ["tape","many"] []) (kD:PySem.W.keepIn K (.ref g)=true) (mD:mg "_law_digit"=some (.ref g)):
  FnOk P w K mg base CX0 2 f fd ["tape","many"] iW:=by
 refine F.ok scNamesX (fun vs H Q E h=>?_) (fun cdv A outer s H vs Q E hr h=>?_)
 ·obtain ⟨tp,m,rfl,_⟩:=h
  rfl
 obtain ⟨tp,m,rfl,hT,hm0,hm1,q⟩:=h
 obtain ⟨t,ht,hread⟩: ∃ t,PSs (dR CX0 P w K mg base ["tape","many","letters","way","turn","back","stem","names","words"] "_law_names" (ah eZ) f cdv A outer s H E).nox ((cq eZ).drop 5) t/\
   ∀ (b:Int) (l:Addr) (way tu:Nat) (H2:Hp) (o2 o3 o4 o6 o8:Option V),(b=1\/b= -1)->way<3->tu<26->H2 l=some (.lst (((List.range m.toNat).map (jK way tu)).map V.str))->Kp tp H H2->Tp H2 tp->
    t {nx:=fun _ H'=>Q .non H',rt:=Q} [some (.ref tp),some (.int m),o2,o3,o4,some (.int b),o6,some (.ref l),o8] H2:=by
  refine ⟨_,aj (ay (lM (pv 7) (pv 5))),fun b l way tu H2 o2 o3 o4 o6 o8 hb hw1 hw2 hl k2 t2=>?_⟩
  have hlen:(((List.range m.toNat).map (jK way tu)).length:Int)=m:=by rw [List.length_map,List.length_range];lia
  refine ⟨_,rfl,_,rfl,l,_,b,rfl,rfl,SqL.of hl,by lia,fun p hp=>?_⟩
  have hpt:p≠tp:=fun e=>by
   obtain ⟨t0,e0⟩:=t2
   subst e
   rw [e0]at hp
   cases hp
  rcases hb with rfl | rfl
  ·rw [qX]
   exact q p _ _ ab hlen ⟨way,tu,false,hw1,hw2,rfl⟩ hpt (k2.new hp) (t2.new hp)
  ·rw [gO,<- List.map_reverse]
   exact q p _ _ ab (by rw [List.length_reverse];exact hlen) ⟨way,tu,true,hw1,hw2,rfl⟩ hpt (k2.new hp) (t2.new hp)
 have cw: ∀ {te:TE} {fr:List Nat} {σ:St} {H2:Hp} {Q2:VK} (g:Nat->Str),(∀ (i:Nat) (H3:Hp) (k:VK),(i:Int) <m->k (.str (g i)) H3->te (some (.int (0+i))::bi fr σ) H3 k)->
   (∀ p,H2 p=none->Q2 (.ref p) (upd H2 p (.lst (((List.range m.toNat).map g).map V.str))))->de fr te σ (Itr 0 m.toNat) H2 Q2:=by
  intro te fr σ H2 Q2 g hs hd
  refine ig (n:=m.toNat) (R:=fun i v=>v=.int (0+i)) (by lia) pD js lZ
   (fun p i zs H'=>H'=upd H2 p (.lst zs)/\zs=((List.range i).map g).map V.str) (fun p hp=>⟨rfl,rfl⟩) ?_ ?_ ?_
  ·rintro p i zs H' ⟨rfl,rfl⟩
   exact ⟨ab,by rw [List.length_map,List.length_map,List.length_range]⟩
  ·rintro p i zs H' v k hp hi rfl ⟨rfl,rfl⟩ hk
   exact hs i _ k (by lia) (hk (.str (g i)) _ ab ⟨eA,by rw [List.range_succ];simp⟩)
  ·rintro p zs H' hp ⟨rfl,rfl⟩
   exact hd p hp
 refine ⟨_,ad (am (i:=2) scNamesX.nd rfl (Or.inr rfl) aT)
  (ad (am (i:=3) scNamesX.nd rfl (Or.inl rfl) (al GD hr rfl mD kD bD .nil ax (aa (pv 0) (aa ae ac))))
  (ad (am (i:=4) scNamesX.nd rfl (Or.inr rfl) (al GD hr rfl mD kD bD .nil ax (aa (pv 0) (aa ae ac))))
  (ad (am (i:=5) scNamesX.nd rfl (Or.inl rfl) (aC cT ae (aC df ae (al GD hr rfl mD kD bD .nil ax (aa (pv 0) (aa ae ac))))))
  (ad (aY (aF bh (pv 3) ae (aK _))
   (ad (am (i:=6) scNamesX.nd rfl (Or.inr rfl) (aC fL (aq pC (pv 2) (pv 4) (fun _ _=>rfl)) (bA li aT cC (cg ae))))
   (aj (eG (i:=7) (sc0:=ah eZ) (N0:=["tape","many","letters","way","turn","back","stem","names","words"]) (ys:=["letters","stem","turn"]) (fr:=[2,6,4]) rfl scNamesX.nd rfl (Or.inl rfl) (bn rfl G.range (aa (pv 1) ac)) rfl rfl
    cok
    (fun C s H ex=>db (aF j4 (pv 0) ae (aK _)) (bA li (pv 2) cC (cg (aC aV (pv 0) ae)))
     (aC fL (aq pC (pv 1) (aC cZ (aC aV (pv 3) ae) ae) (fun _ _=>rfl)) (bA li (pv 2) cC (cg (aC cT (pv 0) ae))))))))
   (aj (aY (aF bh (pv 3) ae (aK _))
    (@ad _ _ _ _ _ (@vK _ 8 _ _ (names13.map V.str) _ _ _ scNamesX.nd rfl (Or.inr rfl) (Or.inl rfl) rfl)
    (aj (eG (i:=7) (sc0:=ah eZ) (N0:=["tape","many","letters","way","turn","back","stem","names","words"]) (ys:=["turn","words"]) (fr:=[4,8]) rfl scNamesX.nd rfl (Or.inl rfl) (bn rfl G.range (aa (pv 1) ac)) rfl rfl
     cok
     (fun C s H ex=>aq (r:=xb K) aL (pv 2) (aC cZ (aC aV (pv 1) (pv 0)) ae) (fun _ _=>rfl)))))
    (aj (eG (i:=7) (sc0:=ah eZ) (N0:=["tape","many","letters","way","turn","back","stem","names","words"]) (ys:=["letters","turn"]) (fr:=[2,4]) rfl scNamesX.nd rfl (Or.inl rfl) (bn rfl G.range (aa (pv 1) ac)) rfl rfl
     cok
     (fun C s H ex=>aC fL (aq pC (pv 1) (aC cZ (aC aV (pv 2) (pv 0)) ae) (fun _ _=>rfl)) (bA li aT cC (cg (aC cZ (aC aV (pv 2) (aC df ae (pv 0))) ae)))))))))
  ht)))),?_⟩
 refine ⟨_,rfl,tp,3,rfl,hT,by decide,by decide,fun wy t1 hw0 hw1=>?_⟩
 refine ⟨_,rfl,tp,26,rfl,⟨t1,ab⟩,by decide,by decide,fun tu t2 htu0 htu1=>?_⟩
 rw [eA]
 refine ⟨_,rfl,tp,2,rfl,⟨t2,ab⟩,by decide,by decide,fun bk t3 hb0 hb1=>?_⟩
 rw [eA]
 refine ⟨2,_,rfl,rfl,.inl ⟨by decide,by decide⟩,1,_,rfl,rfl,?_⟩
 have hb:(1-2*bk=1\/1-2*bk= -1):=by lia
 have k3:Kp tp H (upd H tp (.lst [.int t3])):=Kp.tape
 have tt3:Tp (upd H tp (.lst [.int t3])) tp:=⟨t3,ab⟩
 generalize upd H tp (.lst [.int t3])=H3 at k3 tt3 ⊢
 have l26:(letters.length:Int)=26:=by rw [iu];rfl
 have lsz:letters.length<=sizeLine:=by rw [iu];exact Nat.le_of_lt (au (by decide))
 refine ⟨_,rfl,rfl,_,rfl,?_⟩
 refine bQ (fun c=>?_) (fun c=>?_)
 ·-- stems
  have hwy:wy=0:=V.int.inj (of_decide_eq_true c)
  have ec0:=lX htu0 htu1
  refine ⟨_,rfl,_,rfl,letters,tu,nQ tu,rfl,rfl,lsz,ec0,7,rfl,"aneqoubi",rfl,(by decide +kernel),_,_,rfl,rfl,?_,?_⟩
  ·rw [aneq.1]
   show 1+7<=sizeLine
   exact Nat.le_of_lt (au (by decide))
  have zl:=tw tu
  have zsz:(eC tu).length<=sizeLine:=by rw [zl];exact Nat.le_of_lt (au (by decide))
  refine ⟨_,rfl,m,rfl,by lia,by lia,?_⟩
  refine cw (nm0 tu) ?_ ?_
  ·intro i H4 k hi hk
   refine ⟨_,rfl,_,_,rfl,rfl,_,rfl,?_⟩
   refine bQ (fun ci=>?_) (fun ci=>?_)
   ·have ci':(0+ (i:Int)) <8:=of_decide_eq_true ci
    refine ⟨_,rfl,_,rfl,_,_,rfl,rfl,_,rfl,eC tu,rfl,zsz,?_⟩
    unfold nm0 at hk
    rw [if_pos ci']at hk
    exact hk
   ·have ci': ¬ (0+ (i:Int)) <8:=fun y=>ci (decide_eq_true y)
    have ec1:=lX (d:=(tu+1) %26) (Int.emod_nonneg _ (by decide)) (Int.emod_lt_of_pos _ (by decide))
    have e:=jW (eC tu) (j:=0+ (i:Int) -8) (by lia) (by rw [zl];lia)
    unfold nm0 at hk
    rw [if_neg ci']at hk
    refine ⟨_,rfl,_,rfl,_,_,rfl,rfl,_,_,rfl,rfl,(by show (0:Int) <26;decide),letters,_,nQ ((tu+1) %26),rfl,rfl,lsz,ec1,_,rfl,_,rfl,_,_,rfl,rfl,_,rfl,eC tu,rfl,zsz,_,_,rfl,rfl,?_,hk⟩
    show 1+ (Txt.slice (eC tu) none (some (0+ (i:Int) -8))).length<=sizeLine
    exact Nat.le_of_lt (au (by lia))
  ·intro p hp
   have etu:((tu.toNat:Nat):Int)=tu:=by lia
   refine hread (1-2*bk) p 0 tu.toNat _ _ _ _ _ _ hb (by decide) (by lia) ?_ (k3.new hp) (tt3.new hp)
   rw [etu]
   exact ab
 ·refine ⟨_,rfl,rfl,_,rfl,?_⟩
  refine bQ (fun c2=>?_) (fun c2=>?_)
  ·-- written words
   refine ⟨(by show 13<=sizeLine;decide),fun pw hpw=>?_⟩
   refine ⟨_,rfl,m,rfl,by lia,by lia,?_⟩
   have s4:Same H3 (upd H3 pw (.lst (names13.map V.str))):=ag hpw _
   have g4:(upd H3 pw (.lst (names13.map V.str))) pw=some (.lst (names13.map V.str)):=ab
   have k4:Kp tp H (upd H3 pw (.lst (names13.map V.str))):=k3.same s4
   have tt4:Tp (upd H3 pw (.lst (names13.map V.str))) tp:=tt3.new hpw
   generalize upd H3 pw (.lst (names13.map V.str))=H4 at s4 g4 k4 tt4 ⊢
   refine ig (n:=m.toNat) (R:=fun i v=>v=.int (0+i)) (by lia) pD js lZ
    (fun p i zs H'=>H'=upd H4 p (.lst zs)/\H4 p=none/\zs=((List.range i).map (nm1 tu)).map V.str) (fun p hp=>⟨rfl,hp,rfl⟩) ?_ ?_ ?_
   ·rintro p i zs H' ⟨rfl,_,rfl⟩
    exact ⟨ab,by rw [List.length_map,List.length_map,List.length_range]⟩
   ·rintro p i zs H' v k hp hi rfl ⟨rfl,hp4,rfl⟩ hk
    have h1:=Int.emod_nonneg (tu+ (0+ (i:Int))) (show (13:Int)≠0 by decide)
    have h2:=Int.emod_lt_of_pos (tu+ (0+ (i:Int))) (show (0:Int) <13 by decide)
    obtain ⟨xv,ex,ex2⟩:=dF (xs:=names13.map V.str) h1 (by rw [List.length_map];exact h2)
    have exv:xv=.str (nm1 tu i):=by
     rw [List.getElem?_map]at ex2
     unfold nm1
     cases hx:names13[((tu+ (0+ (i:Int))) %13).toNat]? with
     | none=>rw [hx]at ex2;cases ex2
     | some y=>rw [hx]at ex2;exact (Option.some.inj ex2).symm
    subst exv
    have g5:(upd H4 p (.lst (((List.range i).map (nm1 tu)).map V.str))) pw=some (.lst (names13.map V.str)):=by rw [ai (af g4 hp4)];exact g4
    refine ⟨_,rfl,_,rfl,_,rfl,_,_,rfl,rfl,_,_,rfl,rfl,(by show (0:Int) <13;decide),pw,_,_,_,rfl,rfl,SqL.of g5,ex,?_⟩
    exact hk _ _ ab ⟨eA,hp4,by rw [List.range_succ];simp⟩
   ·rintro p zs H' hp ⟨rfl,hp4,rfl⟩
    have etu:((tu.toNat:Nat):Int)=tu:=by lia
    refine hread (1-2*bk) p 1 tu.toNat _ _ _ _ _ _ hb (by decide) (by lia) ?_ (k4.new hp4) (tt4.new hp4)
    rw [etu]
    exact ab
  ·-- a letter and a tail
   refine ⟨_,rfl,m,rfl,by lia,by lia,?_⟩
   refine cw (nm2 tu) ?_ ?_
   ·intro i H4 k hi hk
    have ec1:=lX (d:=(tu+ (0+ (i:Int))) %26) (Int.emod_nonneg _ (by decide)) (Int.emod_lt_of_pos _ (by decide))
    have h1:=Int.emod_nonneg (tu+3* (0+ (i:Int))) (show (8:Int)≠0 by decide)
    have h2:=Int.emod_lt_of_pos (tu+3* (0+ (i:Int))) (show (0:Int) <8 by decide)
    have e:=jW "eyzmopq" (j:=(tu+3* (0+ (i:Int))) %8) h1 (by rw [qH];lia)
    refine ⟨_,rfl,_,rfl,_,rfl,_,_,rfl,rfl,_,_,rfl,rfl,(by show (0:Int) <26;decide),letters,_,nQ ((tu+ (0+ (i:Int))) %26),rfl,rfl,lsz,ec1,_,rfl,_,rfl,3,_,rfl,rfl,.inl ⟨by decide,by decide⟩,_,_,rfl,rfl,_,_,rfl,rfl,(by show (0:Int) <8;decide),_,rfl,"eyzmopq",rfl,(by rw [qH];exact Nat.le_of_lt (au (by decide))),_,_,rfl,rfl,?_,hk⟩
    ·show 1+ (Txt.slice "eyzmopq" none (some ((tu+3* (0+ (i:Int))) %8))).length<=sizeLine
     exact Nat.le_of_lt (au (by lia))
   ·intro p hp
    have etu:((tu.toNat:Nat):Int)=tu:=by lia
    refine hread (1-2*bk) p 2 tu.toNat _ _ _ _ _ _ hb (by decide) (by lia) ?_ (k3.new hp) (tt3.new hp)
    rw [etu]
    exact ab
theorem jx (xs:List V) {j:Int} (h0:0<=j) (h1:j<=xs.length):dD xs none (some j)=xs.take j.toNat:=by
 have ej:j=((j.toNat:Nat):Int):=by lia
 have e:HT.sIx xs.length xs.length (some j)=j.toNat:=by
  rw [ej,HT.sIx_nat]
  lia
 unfold dD
 rw [e,HT.sIx_none,List.drop_zero,Nat.sub_zero]
theorem jy (xs:List V) {j:Int} (h0:0<=j) (h1:j<=xs.length):dD xs (some j) none=xs.drop j.toNat:=by
 have ej:j=((j.toNat:Nat):Int):=by lia
 have e:HT.sIx xs.length 0 (some j)=j.toNat:=by
  rw [ej,HT.sIx_nat]
  lia
 unfold dD
 rw [e,HT.sIx_none]
 apply List.take_of_length_le
 rw [List.length_drop]
 lia
noncomputable def Fm.wfp (ρ:Fm->Prop):Fm->Prop
 | .num n=> -999999<=n/\n<=999999
 | .own x=>cV x=true/\ρ (.own x)
 | .part k x=>((0<=k/\k<=2)/\cV x=true)/\ρ (.part k x)
 | .bin op a b=>op∈ops/\a.wfp ρ/\b.wfp ρ
 | .whn a b c=>a.wfp ρ/\b.wfp ρ/\c.wfp ρ
theorem Fm.wfp.wf {ρ:Fm->Prop}: ∀ {f:Fm},f.wfp ρ->f.wf
 | .num _,h=>h
 | .own _,h=>h.1
 | .part _ _,h=>h.1
 | .bin _ _ _,h=>⟨h.1,Fm.wfp.wf h.2.1,Fm.wfp.wf h.2.2⟩
 | .whn _ _ _,h=>⟨Fm.wfp.wf h.1,Fm.wfp.wf h.2.1,Fm.wfp.wf h.2.2⟩
theorem Fm.wfp.imp {ρ q:Fm->Prop} (i: ∀ f,ρ f->q f): ∀ {f:Fm},f.wfp ρ->f.wfp q
 | .num _,h=>h
 | .own _,h=>⟨h.1,i _ h.2⟩
 | .part _ _,h=>⟨h.1,i _ h.2⟩
 | .bin _ _ _,h=>⟨h.1,Fm.wfp.imp i h.2.1,Fm.wfp.imp i h.2.2⟩
 | .whn _ _ _,h=>⟨Fm.wfp.imp i h.1,Fm.wfp.imp i h.2.1,Fm.wfp.imp i h.2.2⟩
noncomputable def yG (ρ:Fm->Prop) (H:Hp) (rs:List V):Prop:= ∀ v∈rs,∃ f,Rep H f v/\f.wfp ρ/\f.size=1
noncomputable def qd (ρ:Fm->Prop):Sp:=fun vs H Q _=> ∃ tp rl rs,vs=[.ref tp,.ref rl]/\Tp H tp/\rl≠tp/\H rl=some (.lst rs)/\rs.length<=1000/\yG ρ H rs/\
 ∀ v f H',Rep H' f v->f.wfp ρ->f.size=1->Kp tp H H'->Tp H' tp->Q v H'
theorem vz:aH ["tape","readings"] ["tape","readings"] (ah tP):=fsc
theorem uE {ρ:Fm->Prop} (F:Fun K "_law_leaf" "_law_leaf" tP f fd) (G:Gb mg) (GD:FnOk P w K mg base CX0 1 g gd ["tape","many"] bH) (bD:Binds K gd ["tape","many"] []) (kD:PySem.W.keepIn K (.ref g)=true) (mD:mg "_law_digit"=some (.ref g))
  (GN:FnOk P w K mg base CX0 2 f2 fd2 ["tape"] iV) (bN:Binds K fd2 ["tape"] []) (kN:PySem.W.keepIn K (.ref f2)=true) (mN:mg "_law_number"=some (.ref f2)):
  FnOk P w K mg base CX0 3 f fd ["tape","readings"] (qd ρ):=by
 refine F.ok vz (fun vs H Q E h=>?_) (fun cdv A outer s H vs Q E hr h=>?_)
 ·obtain ⟨tp,rl,rs,rfl,_⟩:=h
  rfl
 obtain ⟨tp,rl,rs,rfl,hT,hne,hrl,hlen,hL,q⟩:=h
 have hr1:=hr.mono (show 1<=2 by decide)
 refine ⟨_,ad (aY (PW.pt (lH (aF jk (aA aJ rfl G.len PySem.boot_len (aa (pv 1) ac)) ae (aK _))
   (iG (aF j4 (al GD hr1 rfl mD kD bD .nil ax (aa (pv 0) (aa ae ac))) ae (aK _)))))
   (aj (ay (aq aL (pv 1) (al GD hr1 rfl mD kD bD .nil ax (aa (pv 0) (aa (aA aJ rfl G.len PySem.boot_len (aa (pv 1) ac)) ac))) (fun _ _=>rfl)))) aM)
  (aj (ay (aS (aa aT (aa (al GN hr rfl mN kN bN .nil ax (aa (pv 0) ac)) ac))))),?_⟩
 have num: ∀ H1,Kp tp H H1->Tp H1 tp->(∃ v,([some (V.ref tp),some (.ref rl)]:St)[0]? =some (some v)/\iV [v] H1 (fun x H2=>[V.str "num",x].length<=sizeLine/\ ∀ p,H2 p=none->Q (.ref p) (upd H2 p (.tup [V.str "num",x]))) E0):=fun H1 k1 t1=>by
  refine ⟨_,rfl,tp,rfl,t1,fun n H2 h1 h2 k2 t2=>⟨(by show 2<=sizeLine;decide),fun p hp=>?_⟩⟩
  exact q _ (.num n) _ ⟨p,rfl,ab⟩ ⟨h1,h2⟩ rfl ((k1.trans k2).new hp) (t2.new hp)
 refine ⟨_,rfl,rl,rs,rfl,.inl (SqL.of hrl),_,_,rfl,rfl,_,rfl,?_⟩
 refine bQ (fun c=>?_) (fun c=>?_)
 ·have c':0<rs.length:=by have:=of_decide_eq_true c;lia
  refine ⟨_,rfl,tp,4,rfl,hT,by decide,by decide,fun d t h0 h1=>?_⟩
  refine ⟨_,_,rfl,rfl,_,rfl,?_⟩
  refine bQ (fun c2=>?_) (fun c2=>?_)
  ·have h2:(upd H tp (.lst [.int t])) rl=some (.lst rs):=by rw [ai hne];exact hrl
   refine ⟨_,rfl,_,rfl,_,rfl,rl,rs,rfl,.inl (SqL.of h2),tp,_,rfl,⟨t,ab⟩,by lia,by lia,fun d2 t2 h20 h21=>?_⟩
   rw [eA]
   have h3:(upd H tp (.lst [.int t2])) rl=some (.lst rs):=by rw [ai hne];exact hrl
   obtain ⟨x,ex,ex2⟩:=dF (xs:=rs) h20 h21
   obtain ⟨fm,r,wf,sz⟩:=hL x (List.mem_of_getElem? ex2)
   have k2:Kp tp H (upd H tp (.lst [.int t2])):=Kp.tape
   exact ⟨rl,rs,d2,x,rfl,rfl,SqL.of h3,ex,q x fm _ (r.mono (k2.tk hT)) wf sz k2 ⟨t2,ab⟩⟩
  ·exact num _ Kp.tape ⟨t,ab⟩
 ·exact num _ Kp.refl hT
noncomputable def ndB:List Str->Bool
 | []=>true
 | x::r=> !(r.any fun y=>x.cps.toList==y.cps.toList)&&ndB r
theorem uL: ∀ {l:List Str},ndB l=true->l.Nodup
 | [],_=>List.nodup_nil
 | x::r,h=>by
  unfold ndB at h
  rw [Bool.and_eq_true]at h
  refine List.nodup_cons.mpr ⟨fun m=>?_,uL h.2⟩
  have h1:=h.1
  rw [Bool.not_eq_true',List.any_eq_false]at h1
  exact h1 x m (by simp)
theorem rR:((List.range 3).all fun way=>(List.range 26).all fun tu=>ndB ((List.range 13).map (jK way tu))&&((List.range 13).map (jK way tu)).all cV)=true:=by
 decide +kernel
theorem NamesAre.ok {m:Nat} {ws:List Str} (h:NamesAre m ws) (hm:m<=13):ws.length=m/\ws.Nodup/\ ∀ x∈ws,cV x=true:=by
 obtain ⟨way,tu,back,h1,h2,e⟩:=h
 have a:=rR
 rw [List.all_eq_true]at a
 have a:=a way (List.mem_range.mpr h1)
 rw [List.all_eq_true]at a
 have a:=a tu (List.mem_range.mpr h2)
 rw [Bool.and_eq_true]at a
 have n13:=uL a.1
 have w13:=List.all_eq_true.mp a.2
 have sub:((List.range m).map (jK way tu)).Sublist ((List.range 13).map (jK way tu)):=List.Sublist.map _ (List.range_sublist.mpr hm)
 have nd:=n13.sublist sub
 have wd: ∀ x∈(List.range m).map (jK way tu),cV x=true:=fun x hx=>w13 x (sub.subset hx)
 have ln:((List.range m).map (jK way tu)).length=m:=by rw [List.length_map,List.length_range]
 cases back with
 | false=>
  rw [if_neg (by decide)]at e
  subst e
  exact ⟨ln,nd,wd⟩
 | true=>
  rw [if_pos rfl]at e
  subst e
  exact ⟨by rw [List.length_reverse];exact ln,(List.reverse_perm _).nodup_iff.mpr nd,fun x hx=>wd x (List.mem_reverse.mp hx)⟩
structure Srt where
 name:Str
 downs:List Str
 ups:List Str
noncomputable def RepS (H:Hp) (s:Srt) (v:V):Prop:= ∃ a b c,v=.ref a/\H a=some (.tup [.str s.name,.ref b,.ref c])/\H b=some (.tup (s.downs.map V.str))/\H c=some (.tup (s.ups.map V.str))
theorem RepS.mono {H H':Hp} (t:TK H H') {s:Srt} {v:V}:RepS H s v->RepS H' s v:=fun ⟨a,b,c,e,h1,h2,h3⟩=>⟨a,b,c,e,t _ _ h1,t _ _ h2,t _ _ h3⟩
noncomputable def Srt.ok (s:Srt):Prop:=(s.downs++s.ups).Nodup/\(∀ x∈s.downs++s.ups,cV x=true)/\s.downs.length<=3/\s.ups.length<=3/\1<=s.downs.length+s.ups.length
noncomputable def RepSs (H:Hp) (ss:List Srt) (vs:List V):Prop:=Paired (RepS H) ss vs
theorem RepSs.mono {H H':Hp} (t:TK H H') {ss:List Srt} {vs:List V} (h:RepSs H ss vs):RepSs H' ss vs:=Paired.mapP h fun _ _ r=>r.mono t
theorem RepSs.len {H:Hp} {ss:List Srt} {vs:List V} (h:RepSs H ss vs):ss.length=vs.length:=Paired.length h
theorem aN {α β:Type} {F:α->β->Prop}: ∀ {l:List α} {r:List β} {i:Nat} {b:β},Paired F l r->r[i]? =some b-> ∃ a,l[i]? =some a/\F a b
 | _,_,i,b,.nil,e=>by cases i <;> cases e
 | _,_,0,b,.cons h _,e=>⟨_,rfl,by cases e;exact h⟩
 | _,_,i+1,b,.cons _ t,e=>aN (i:=i) t e
noncomputable def wz (ss:List Srt):Prop:=1<=ss.length/\ss.length<=4/\(ss.map Srt.name).Nodup/\(∀ s∈ss,cV s.name=true)/\ ∀ s∈ss,s.ok
theorem qT {ws:List Str} (n:ws.Nodup) (w: ∀ x∈ws,cV x=true) (hl:ws.length=6) (k d u:Nat) (hd:d<=3) (hu:u<=3) (h1:1<=d+u) (nm:Str):
  (Srt.mk nm ((ws.drop k++ws.take k).take d) (((ws.drop k++ws.take k).drop d).take u)).ok:=by
 have nt:(ws.drop k++ws.take k).Nodup:=by
  have:(ws.drop k++ws.take k).Perm (ws.take k++ws.drop k):=List.perm_append_comm
  rw [List.take_append_drop]at this
  exact this.nodup_iff.mpr n
 have mt: ∀ x∈ws.drop k++ws.take k,cV x=true:=fun x hx=>by
  rw [List.mem_append]at hx
  rcases hx with h | h
  ·exact w x (List.mem_of_mem_drop h)
  ·exact w x (List.mem_of_mem_take h)
 have lt:(ws.drop k++ws.take k).length=6:=by rw [List.length_append,List.length_drop,List.length_take];lia
 generalize ws.drop k++ws.take k=ts at nt mt lt
 have sub:(ts.take d++(ts.drop d).take u).Sublist ts:=by
  have:=List.take_append_drop d ts
  conv=>rhs;rw [<- this]
  exact List.Sublist.append (List.Sublist.refl _) (List.take_sublist _ _)
 refine ⟨nt.sublist sub,fun x hx=>mt x (sub.subset hx),?_,?_,?_⟩
 ·show (ts.take d).length<=3
  rw [List.length_take];lia
 ·show ((ts.drop d).take u).length<=3
  rw [List.length_take];lia
 ·show 1<=(ts.take d).length+ ((ts.drop d).take u).length
  rw [List.length_take,List.length_take,List.length_drop];lia
theorem cW {H:Hp} {tp p:Addr} (t:Tp H tp) (hp:H p=none):p≠tp:=fun e=>by
 obtain ⟨t0,e0⟩:=t
 subst e
 rw [e0]at hp
 cases hp
theorem wr (xs:List V) {a b:Nat} (h:a+b<=xs.length):dD xs (some (a:Int)) (some ((a:Int) + (b:Int)))=(xs.drop a).take b:=by
 unfold dD
 rw [show ((a:Int) + (b:Int))=((a+b:Nat):Int) by lia,HT.sIx_nat,HT.sIx_nat,Nat.min_eq_left h,Nat.min_eq_left (by lia),Nat.add_sub_cancel_left]
noncomputable def yz (H:Hp) (ys:List V) (z:V):Prop:= ∃ a,z=.ref a/\H a=some (.tup ys)
theorem aG {H H':Hp} (s:Same H H'):TK H H':=fun a xs h=>s _ _ h
theorem iq {α β:Type} {F:α->β->Prop}: ∀ {l:List α} {r:List β},Paired F l r-> ∀ n,Paired F (l.take n) (r.take n)
 | _,_,.nil,n=>by rw [List.take_nil,List.take_nil];exact .nil
 | _,_,.cons h t,0=>.nil
 | _,_,.cons h t,n+1=>.cons h (iq t n)
noncomputable def eB (k:Int):List Srt->List (Int×Str)
 | []=>[]
 | q::r=>q.downs.map (fun x=>(k,x))++eB (k+1) r
noncomputable def qW (o:Srt) (qs:List Srt):List (Int×Str):=o.ups.map (fun x=>(-1,x))++eB 0 qs
noncomputable def SrtsAt (H:Hp) (a:Addr) (ss:List Srt):Prop:= ∃ xs,H a=some (.tup xs)/\RepSs H ss xs
theorem SrtsAt.mono {H H':Hp} (t:TK H H') {a:Addr} {ss:List Srt}:SrtsAt H a ss->SrtsAt H' a ss:=fun ⟨xs,h,r⟩=>⟨xs,t _ _ h,r.mono t⟩
structure Rul where
 pl:Int
 word:Str
 fm:Fm
structure Frm where
 name:Str
 own:Srt
 parts:List Srt
 rules:List Rul
noncomputable def RepR (H:Hp) (r:Rul) (v:V):Prop:= ∃ a u,v=.ref a/\H a=some (.tup [.int r.pl,.str r.word,u])/\Rep H r.fm u
theorem RepR.mono {H H':Hp} (t:TK H H') {r:Rul} {v:V}:RepR H r v->RepR H' r v:=fun ⟨a,u,e,h,p⟩=>⟨a,u,e,t _ _ h,p.mono t⟩
noncomputable def RepRs (H:Hp) (rs:List Rul) (vs:List V):Prop:=Paired (RepR H) rs vs
theorem RepRs.mono {H H':Hp} (t:TK H H') {rs:List Rul} {vs:List V} (h:RepRs H rs vs):RepRs H' rs vs:=Paired.mapP h fun _ _ r=>r.mono t
theorem RepRs.len {H:Hp} {rs:List Rul} {vs:List V} (h:RepRs H rs vs):rs.length=vs.length:=Paired.length h
noncomputable def bE (qs:List Srt):List V:=qs.map fun q=>V.str (Srt.name q)
noncomputable def RepF (H:Hp) (fr:Frm) (v:V):Prop:= ∃ a pa ra rv,v=.ref a/\H a=some (.tup [.str fr.name,.str fr.own.name,.ref pa,.ref ra])/\H pa=some (.tup (bE fr.parts))/\H ra=some (.tup rv)/\RepRs H fr.rules rv
theorem RepF.mono {H H':Hp} (t:TK H H') {fr:Frm} {v:V}:RepF H fr v->RepF H' fr v:=fun ⟨a,pa,ra,rv,e,h1,h2,h3,h4⟩=>⟨a,pa,ra,rv,e,t _ _ h1,t _ _ h2,t _ _ h3,h4.mono t⟩
theorem oW {α β:Type} {F:α->β->Prop}: ∀ {l:List α} {r:List β} {b:β},Paired F l r->b∈r-> ∃ a∈l,F a b:=fun {l r b} h m=>by
 obtain ⟨i,hi⟩:=List.getElem?_of_mem m
 obtain ⟨a,ha,f⟩:=aN h hi
 exact ⟨a,List.mem_of_getElem? ha,f⟩
structure Bk where
 wheel:Int
 sorts:List Srt
 forms:List Frm
noncomputable def RepFs (H:Hp) (fs:List Frm) (vs:List V):Prop:=Paired (RepF H) fs vs
theorem RepFs.mono {H H':Hp} (t:TK H H') {fs:List Frm} {vs:List V} (h:RepFs H fs vs):RepFs H' fs vs:=Paired.mapP h fun _ _ r=>r.mono t
theorem RepFs.len {H:Hp} {fs:List Frm} {vs:List V} (h:RepFs H fs vs):fs.length=vs.length:=Paired.length h
noncomputable def RepB (H:Hp) (b:Bk) (v:V):Prop:= ∃ a sa fa fv,v=.ref a/\H a=some (.tup [.int b.wheel,.ref sa,.ref fa])/\SrtsAt H sa b.sorts/\H fa=some (.tup fv)/\RepFs H b.forms fv
theorem RepB.mono {H H':Hp} (t:TK H H') {b:Bk} {v:V}:RepB H b v->RepB H' b v:=fun ⟨a,sa,fa,fv,e,h1,h2,h3,h4⟩=>⟨a,sa,fa,fv,e,t _ _ h1,h2.mono t,t _ _ h3,h4.mono t⟩
theorem SqL.keep {K:PySem.W.Frag} {H H':Hp} {a:Addr} {xs:List V} (h:SqL K H a xs) (k: ∀ o,H a=some o->H' a=some o):SqL K H' a xs:=by
 rcases h with (h | ⟨o,h⟩) | h
 ·exact .inl (.inl (k _ h))
 ·exact .inl (.inr ⟨o,k _ h⟩)
 ·exact .inr h
noncomputable def x8 (K:PySem.W.Frag):List V->Hp->VK->Prop:=fun xs H Q=> ∃ p ys,xs=[.ref p]/\(SqL K H p ys\/SqT K H p ys)/\Q (.int ys.length) H
noncomputable def wo (s:Stmt):List Stmt:=match s with
 | .For _ _ b _ _=>b
 | _=>[]
structure ik (b:Bk):Prop where
 so:wz b.sorts
 few:b.forms.length<=10
 more:1<=b.forms.length
 nd:(b.forms.map Frm.name).Nodup
 wd: ∀ fr∈b.forms,cV fr.name=true
 fo: ∃ mode:Int,True/\ ∀ fr∈b.forms,fr.own∈b.sorts/\(∀ q∈fr.parts,q∈b.sorts)/\fr.parts.length<=3/\True
 nil: ∃ fr,fr∈b.forms/\fr.parts=[]
noncomputable def ff (nm:Str):List Frm->Option Frm
 | []=>none
 | f::r=>match ff nm r with
  | some x=>some x
  | none=>if f.name=nm then some f else none
theorem fM (nm:Str) (f:Frm): ∀ l:List Frm,ff nm (l++[f])=if f.name=nm then some f else ff nm l
 | []=>by show (if f.name=nm then some f else none)=_;rfl
 | g::r=>by
  show (match ff nm (r++[f])with | some x=>some x | none=>if g.name=nm then some g else none)=_
  rw [fM nm f r]
  by_cases c:f.name=nm
  ·rw [if_pos c,if_pos c]
  ·rw [if_neg c,if_neg c];rfl
theorem jn {nm:Str} {f:Frm}: ∀ {l:List Frm},(l.map Frm.name).Nodup->f∈l->f.name=nm->ff nm l=some f
 | [],_,h,_=>by cases h
 | g::r,nd,h,e=>by
  rw [List.map_cons,List.nodup_cons]at nd
  have none_of: ∀ {l:List Frm},nm∉l.map Frm.name->ff nm l=none:=by
   intro l
   induction l with
   | nil=>intro _;rfl
   | cons x t ih=>
    intro hn
    rw [List.map_cons,List.mem_cons,not_or]at hn
    show (match ff nm t with | some x=>some x | none=>if x.name=nm then some x else none)=none
    rw [ih hn.2]
    exact if_neg (fun z=>hn.1 z.symm)
  rcases List.mem_cons.mp h with rfl | h
  ·show (match ff nm r with | some x=>some x | none=>if f.name=nm then some f else none)=some f
   rw [none_of (by rw [<- e];exact nd.1)]
   exact if_pos e
  ·show (match ff nm r with | some x=>some x | none=>if g.name=nm then some g else none)=some f
   rw [jn nd.2 h e]
noncomputable def yC (H:Hp) (o:Option Frm) (v:V):Prop:=match o with
 | none=>v=.non
 | some f=>RepF H f v
noncomputable def gh:Sp:=fun vs H Q _=> ∃ bv bk nm,vs=[bv,.str nm]/\RepB H bk bv/\bk.forms.length<=1000/\ ∀ v,yC H (ff nm bk.forms) v->Q v H
theorem scFormOf:aH ["book","name","found","form"] ["book","name"] (ah lE):=fsc
theorem rN (F:Fun K "_law_form_of" "_law_form_of" lE f fd):FnOk P w K mg base CX0 1 f fd ["book","name"] gh:=by
 refine F.ok scFormOf (fun vs H Q E h=>?_) (fun cdv A outer s H vs Q E hr h=>?_)
 ·obtain ⟨bv,bk,nm,rfl,_⟩:=h
  rfl
 obtain ⟨bv,bk,nm,rfl,⟨a,sa,fa,fv,rfl,ha,_,hfa,hF⟩,hl,q⟩:=h
 refine ⟨_,ad (am (i:=2) scFormOf.nd rfl (Or.inl rfl) lN)
  (ad (bc PassesOwn.never rfl (a8 (aq aB (pv 0) ae (fun _ _=>rfl))) (aw (i:=3) scFormOf.nd rfl (Or.inl rfl))
   (aj (aY (aF bh (aq aB (pv 3) ae (fun _ _=>rfl)) (pv 1) (aK _)) (aj (am (i:=2) scFormOf.nd rfl (Or.inl rfl) (pv 3))) aM)))
  (aj (ay (pv 2)))),?_⟩
 refine ⟨_,rfl,a,_,2,.ref fa,rfl,rfl,SqT.of ha,ao (j:=2) rfl,fa,rfl,⟨fv,SqT.of hfa⟩,?_⟩
 refine cN (xs:=fv) (fun i σ H'=> ∃ v o3,σ=[some (.ref a),some (.str nm),some v,o3]/\H'=H/\yC H (ff nm (bk.forms.take i)) v)
  ⟨.non,none,rfl,rfl,rfl⟩ (fun i σ H' _ h=>by obtain ⟨_,_,_,rfl,_⟩:=h;exact SqT.of hfa) ?_ ?_
 ·rintro i x σ _ hx ⟨v,o3,rfl,rfl,hv⟩
  obtain ⟨fr,hfr,b,pa,ra,rv,rfl,hb,hrest⟩:=aN hF hx
  refine ⟨_,rfl,b,_,0,_,rfl,rfl,SqT.of hb,cf,_,rfl,rfl,_,rfl,?_⟩
  have e1:bk.forms.take (i+1)=bk.forms.take i++[fr]:=by rw [List.take_add_one,hfr];rfl
  refine bQ (fun c=>?_) (fun c=>?_)
  ·have c':fr.name=nm:=V.str.inj (of_decide_eq_true c)
   refine ⟨_,rfl,_,_,rfl,rfl,?_⟩
   rw [e1,fM,if_pos c']
   exact ⟨b,pa,ra,rv,rfl,hb,hrest⟩
  ·have c': ¬ fr.name=nm:=fun e=>c (decide_eq_true (by rw [e]))
   refine ⟨_,_,rfl,rfl,?_⟩
   rw [e1,fM,if_neg c']
   exact hv
 ·rintro σ _ ⟨v,o3,rfl,rfl,hv⟩
  rw [<- hF.len,List.take_length]at hv
  exact ⟨_,rfl,q v hv⟩
inductive Bt where
 | mk (nm:Str) (ps:List Bt)
noncomputable def Bt.nm:Bt->Str
 | .mk x _=>x
noncomputable def Bt.ps:Bt->List Bt
 | .mk _ l=>l
noncomputable def RepT (H:Hp):Nat->Bt->V->Prop
 | 0,_,_=>False
 | n+1,t,v=> ∃ a b vs,v=.ref a/\H a=some (.tup [.str t.nm,.ref b])/\H b=some (.tup vs)/\Paired (RepT H n) t.ps vs
theorem RepT.mono {H H':Hp} (k:TK H H'): ∀ {n:Nat} {t:Bt} {v:V},RepT H n t v->RepT H' n t v
 | 0,_,_,h=>h
 | n+1,_,_,⟨a,b,vs,e,h1,h2,h3⟩=>⟨a,b,vs,e,k _ _ h1,k _ _ h2,Paired.mapP h3 fun _ _ r=>RepT.mono k r⟩
theorem RepT.up {H:Hp}: ∀ {n:Nat} {t:Bt} {v:V},RepT H n t v->RepT H (n+1) t v
 | 0,_,_,h=>h.elim
 | n+1,_,_,⟨a,b,vs,e,h1,h2,h3⟩=>⟨a,b,vs,e,h1,h2,Paired.mapP h3 fun _ _ r=>RepT.up r⟩
theorem RepT.le {H:Hp} {n m:Nat} {t:Bt} {v:V} (h:RepT H n t v) (l:n<=m):RepT H m t v:=by
 induction l with
 | refl=>exact h
 | step _ ih=>exact ih.up
theorem aZ {α β:Type} {F:α->β->Prop}: ∀ {l:List α} {r:List β} {i:Nat} {a:α},Paired F l r->l[i]? =some a-> ∃ b,r[i]? =some b/\F a b
 | _,_,i,a,.nil,e=>by cases i <;> cases e
 | _,_,0,a,.cons h _,e=>⟨_,rfl,by cases e;exact h⟩
 | _,_,i+1,a,.cons _ t,e=>aZ (i:=i) t e
noncomputable def plV (pl:List Nat):List V:=pl.map fun (k:Nat)=>V.int (k:Int)
mutual
noncomputable def Bt.places:Bt->List (List Nat)
 | .mk _ ps=>[]::cj 0 ps
noncomputable def cj:Nat->List Bt->List (List Nat)
 | _,[]=>[]
 | k,t::r=>t.places.map (fun p=>k::p)++cj (k+1) r
end
theorem dY (t:Bt):t.places=[]::cj 0 t.ps:=by
 cases t with
 | mk x l=>rw [Bt.places];rfl
theorem dH (k:Nat):cj k []=[]:=by rw [cj]
theorem dm (k:Nat) (t:Bt) (r:List Bt):cj k (t::r)=t.places.map (fun p=>k::p)++cj (k+1) r:=by rw [cj]
noncomputable def Bt.sz (t:Bt):Nat:=t.places.length
noncomputable def szL:List Bt->Nat
 | []=>0
 | t::r=>t.sz+szL r
theorem dI: ∀ (l:List Bt) (k:Nat),(cj k l).length=szL l
 | [],k=>by rw [dH];rfl
 | t::r,k=>by
  rw [dm,List.length_append,List.length_map,dI r (k+1)]
  rfl
theorem iS (t:Bt):t.sz=szL t.ps+1:=by
 show t.places.length=_
 rw [dY,List.length_cons,dI]
theorem iT: ∀ (a b:List Bt),szL (a++b)=szL a+szL b
 | [],b=>by show szL b=0+szL b;lia
 | t::r,b=>by
  show t.sz+szL (r++b)=(t.sz+szL r) +szL b
  rw [iT r b];lia
theorem gN (t:Bt):1<=t.sz:=by rw [iS];lia
theorem fg: ∀ {l:List Bt} {t:Bt},t∈l->t.sz<=szL l
 | u::r,t,h=>by
  show t.sz<=u.sz+szL r
  rcases List.mem_cons.mp h with rfl | h
  ·lia
  ·have:=fg h;lia
theorem fc: ∀ {l:List Bt} {k:Nat} {p:List Nat},p∈cj k l-> ∃ j u p',l[j]? =some u/\p=(k+j)::p'/\p'∈u.places
 | [],k,p,h=>by rw [dH]at h;cases h
 | t::r,k,p,h=>by
  rw [dm,List.mem_append]at h
  rcases h with h | h
  ·obtain ⟨p',hp,rfl⟩:=List.mem_map.mp h
   exact ⟨0,t,p',rfl,rfl,hp⟩
  ·obtain ⟨j,u,p',h1,rfl,h2⟩:=fc h
   exact ⟨j+1,u,p',h1,by rw [show k+1+j=k+ (j+1) by lia],h2⟩
theorem gm: ∀ (n:Nat) (t:Bt),t.sz<=n-> ∀ p∈t.places,p.length<t.sz
 | 0,t,h,_,_=>by have:=gN t;lia
 | n+1,t,h,p,hp=>by
  have e:=iS t
  rw [dY]at hp
  rcases List.mem_cons.mp hp with rfl | hp
  ·show 0<t.sz;lia
  ·obtain ⟨j,u,p',h1,rfl,h2⟩:=fc hp
   have h3:=fg (List.mem_of_getElem? h1)
   have:=gm n u (by lia) p' h2
   rw [List.length_cons]
   lia
theorem pU: ∀ (l:List Bt),l.length<=szL l
 | []=>Nat.le_refl _
 | t::r=>by
  show r.length+1<=t.sz+szL r
  have:=pU r
  have:=gN t
  lia
theorem wu {J:It} {xs:List V} {fr:List Nat} {te:TE} {σ:St} {H1:Hp} {Q:VK} {α:Type} (hn:xs.length<=1000)
  (hgo: ∀ i H,Same H1 H->i<xs.length->J.go i H) (hst: ∀ H,Same H1 H->J.stop xs.length H) (hy: ∀ i H v H',Same H1 H->J.yld i H v H'->H'=H/\xs[i]? =some v)
  (R:Hp->α->V->Prop) (mono: ∀ {H H':Hp} {a:α} {v:V},TK H H'->R H a v->R H' a v) (g:V->α)
  (hte: ∀ v H (k:VK),v∈xs->Same H1 H->(∀ u H',Same H H'->R H' (g v) u->k u H')->te (some v::bi fr σ) H k)
  (hd: ∀ p zs H',H1 p=none->Same H1 H'->H' p=some (.lst zs)->Paired (R H') (xs.map g) zs->Q (.ref p) H'):de fr te σ J H1 Q:=by
 intro p hp
 refine ⟨fun i m zs H=>i<=xs.length/\m=xs.length-i/\Same H1 H/\H p=some (.lst zs)/\zs.length=i/\Paired (R H) ((xs.take i).map g) zs,⟨_,Nat.zero_le _,rfl,ag hp _,ab,rfl,.nil⟩,?_⟩
 rintro i m zs H ⟨hi,hm,sm,gp,hz,hT⟩
 refine ⟨gp,?_⟩
 by_cases e:i=xs.length
 ·subst e
  rw [List.take_length]at hT
  exact .inl ⟨hst H sm,hd p zs H hp sm gp hT⟩
 ·have hlt:i<xs.length:=by lia
  refine .inr ⟨hgo i H sm hlt,au (by lia),fun v H' hv=>?_⟩
  obtain ⟨rfl,hv2⟩:=hy i H v H' sm hv
  refine hte v _ _ (List.mem_of_getElem? hv2) sm fun u H2 s2 r=>?_
  have gp2:=s2 _ _ gp
  have tk:TK H2 (upd H2 p (.lst (zs++[u]))):=TK.lst gp2
  refine ⟨gp2,xs.length- (i+1),by lia,by lia,rfl,?_,ab,by rw [List.length_append,hz];rfl,?_⟩
  ·intro b o hb
   rw [ai (af hb hp)]
   exact s2 _ _ (sm _ _ hb)
  ·rw [List.take_add_one,hv2,List.map_append]
   exact Paired.snoc (Paired.mapP hT fun _ _ r=>mono ((aG s2).trans tk) r) (mono tk r)
theorem fP {K:PySem.W.Frag} {a:Addr} {xs:List V} {H1:Hp} (ha:H1 a=some (.tup xs)): ∀ i H,Same H1 H->i<xs.length->(Itt K a).go i H:=fun i H s h=>⟨xs,xs[i],SqT.of (s _ _ ha),List.getElem?_eq_getElem h⟩
theorem fO {K:PySem.W.Frag} {a:Addr} {xs:List V} {H1:Hp} (ha:H1 a=some (.tup xs)): ∀ H,Same H1 H->(Itt K a).stop xs.length H:=fun H s=>⟨xs,SqT.of (s _ _ ha),Nat.le_refl _⟩
theorem jr {K:PySem.W.Frag} {a:Addr} {xs:List V} {H1:Hp} (ha:H1 a=some (.tup xs)): ∀ i H v H',Same H1 H->(Itt K a).yld i H v H'->H'=H/\xs[i]? =some v:=fun i H v H' s hv=>⟨hv.1,by obtain ⟨rfl,hv⟩:=hv;exact hv xs (SqT.of (s _ _ ha))⟩
theorem fz {J:It} {xs:List V} {fr:List Nat} {te:TE} {σ:St} {H1:Hp} {Q:VK} (hn:xs.length<=1000)
  (hgo: ∀ i H,Same H1 H->i<xs.length->J.go i H) (hst: ∀ H,Same H1 H->J.stop xs.length H) (hy: ∀ i H v H',Same H1 H->J.yld i H v H'->H'=H/\xs[i]? =some v)
  (h:V->V) (hte: ∀ v H (k:VK),v∈xs->Same H1 H->k (h v) H->te (some v::bi fr σ) H k)
  (hd: ∀ p H',H1 p=none->Same H1 H'->H' p=some (.lst (xs.map h))->Q (.ref p) H'):de fr te σ J H1 Q:=by
 refine wu hn hgo hst hy (fun _ (a:V) v=>v=a) (fun _ h=>h) h (fun v H k hv s hk=>hte v H k hv s (hk _ _ (fun _ _ h=>h) rfl)) fun p zs H' hp s gp hP=>?_
 have:zs=xs.map h:=by
  have go: ∀ {l r:List V},Paired (fun (a v:V)=>v=a) l r->r=l:=by
   intro l r hh
   induction hh with
   | nil=>rfl
   | cons a _ ih=>rw [a,ih]
  exact go hP
 rw [this]at gp
 exact hd p H' hp s gp
noncomputable def Lst (kvs:List (Key×V)) (s:Srt) (n:Nat):Prop:=aP kvs (.inr s.name)=some (.int (n:Int))
noncomputable def gB:Nat->Nat
 | 0=>0
 | n+1=>1+3*gB n
theorem iL: ∀ {a b:Nat},a<=b->gB a<=gB b
 | 0,b,_=>Nat.zero_le _
 | a+1,0,h=>by lia
 | a+1,b+1,h=>by
  have:=iL (a:=a) (b:=b) (by lia)
  show 1+3*gB a<=1+3*gB b
  lia
noncomputable def bK:List Nat->Nat
 | []=>0
 | n::r=>n+bK r
noncomputable def dB (kvs:List (Key×V)) (s:Srt):Bool:=(aP kvs (.inr s.name)).isSome
noncomputable def cnt (bk:Bk) (kvs:List (Key×V)):Nat:=bk.sorts.countP (dB kvs)
theorem xE (bk:Bk) (kvs:List (Key×V)):cnt bk kvs<=bk.sorts.length:=List.countP_le_length
theorem kn {α:Type} {p q:α->Bool}: ∀ {l:List α} {x:α},(∀ y,p y=true->q y=true)->x∈l->p x=false->q x=true->l.countP p+1<=l.countP q
 | y::r,x,hpq,hx,h1,h2=>by
  rw [List.countP_cons,List.countP_cons]
  rcases List.mem_cons.mp hx with rfl | hx
  ·rw [h1,h2]
   have:r.countP p<=r.countP q:=List.countP_mono_left fun z _=>hpq z
   simp only [Bool.false_eq_true,if_false,if_true]
   lia
  ·have ih:=kn hpq hx h1 h2
   by_cases c:p y=true
   ·rw [if_pos c,if_pos (hpq y c)];lia
   ·rw [if_neg c];lia
structure LI (bk:Bk) (kvs:List (Key×V)):Prop where
 vl: ∀ k v,aP kvs k=some v-> ∃ s,s∈bk.sorts/\k=.inr (Srt.name s)/\ ∃ n:Nat,v=.int (n:Int)/\1<=n/\n<=gB (cnt bk kvs)
 cl: ∀ s n,s∈bk.sorts->Lst kvs s n-> ∃ fr,fr∈bk.forms/\Frm.own fr=s/\ ∃ ms,Paired (Lst kvs) fr.parts ms/\1+bK ms<=n
theorem LI.nil (bk:Bk):LI bk []:=⟨fun k v h=>(by cases h),fun s n _ h=>(by cases h)⟩
theorem iB {ss:List Srt} (nd:(ss.map Srt.name).Nodup) {a b:Srt} (ha:a∈ss) (hb:b∈ss) (e:a.name=b.name):a=b:=by
 obtain ⟨i,hi⟩:=List.getElem?_of_mem ha
 obtain ⟨j,hj⟩:=List.getElem?_of_mem hb
 have q1:(ss.map Srt.name)[i]? =some a.name:=by rw [List.getElem?_map,hi];rfl
 have q2:(ss.map Srt.name)[j]? =some a.name:=by rw [List.getElem?_map,hj,e];rfl
 have:=fe nd q1 q2
 subst this
 rw [hi]at hj
 exact Option.some.inj hj
theorem qx {kvs:List (Key×V)} {s:Srt} {n m:Nat} (a:Lst kvs s n) (b:Lst kvs s m):n=m:=by
 unfold Lst at a b
 rw [a]at b
 have:=V.int.inj (Option.some.inj b)
 lia
theorem LI.val {bk:Bk} {kvs:List (Key×V)} (h:LI bk kvs) {s:Srt} {v:V} (e:aP kvs (.inr s.name)=some v): ∃ n:Nat,v=.int (n:Int)/\1<=n/\n<=gB (cnt bk kvs):=by
 obtain ⟨_,_,_,n,h⟩:=h.vl _ _ e
 exact ⟨n,h⟩
theorem LI.sum {bk:Bk} {kvs:List (Key×V)} (h:LI bk kvs): ∀ {ps:List Srt} {ms:List Nat},Paired (Lst kvs) ps ms->bK ms<=ps.length*gB (cnt bk kvs)
 | _,_,.nil=>Nat.zero_le _
 | _,_,@Paired.cons _ _ _ a b l m x t=>by
  obtain ⟨n,e,_,h2⟩:=h.val x
  have e:(b:Int)=n:=V.int.inj e
  have ih:=LI.sum h t
  show b+bK m<=(l.length+1) *gB (cnt bk kvs)
  rw [Nat.succ_mul]
  lia
theorem dL {kvs kvs':List (Key×V)} (h: ∀ s n,Lst kvs s n-> ∃ n',Lst kvs' s n'/\n'<=n): ∀ {ps:List Srt} {ms:List Nat},Paired (Lst kvs) ps ms-> ∃ ms',Paired (Lst kvs') ps ms'/\bK ms'<=bK ms
 | _,_,.nil=>⟨[],.nil,Nat.le_refl _⟩
 | _,_,@Paired.cons _ _ _ a b l m x t=>by
  obtain ⟨n',h1,h2⟩:=h _ _ x
  obtain ⟨ms',h3,h4⟩:=dL h t
  exact ⟨n'::ms',.cons h1 h3,by show n'+bK ms'<=b+bK m;lia⟩
theorem LI.put {bk:Bk} {kvs:List (Key×V)} (h:LI bk kvs) (nd:(bk.sorts.map Srt.name).Nodup) {fr:Frm} (hf:fr∈bk.forms) (ho:fr.own∈bk.sorts) (hp:fr.parts.length<=3) {ms:List Nat} (hm:Paired (Lst kvs) fr.parts ms)
  {n:Nat} (hn:(aP kvs (.inr fr.own.name)=none/\n=1+bK ms)\/ ∃ m:Nat,Lst kvs fr.own m/\n=min (1+bK ms) m):LI bk (bq kvs (.inr fr.own.name) (.int (n:Int))):=by
 have hsum:=h.sum hm
 have hle:fr.parts.length*gB (cnt bk kvs)<=3*gB (cnt bk kvs):=Nat.mul_le_mul_right _ hp
 have hput: ∀ j,aP (bq kvs (.inr fr.own.name) (.int (n:Int))) j=if j=.inr fr.own.name then some (.int (n:Int))else aP kvs j:=fun j=>cD _ _ _ _
 have hmon: ∀ y,dB kvs y=true->dB (bq kvs (.inr fr.own.name) (.int (n:Int))) y=true:=by
  intro y hy
  unfold dB at hy ⊢
  rw [hput]
  by_cases c:(Sum.inr y.name:Key)=.inr fr.own.name
  ·rw [if_pos c];rfl
  ·rw [if_neg c];exact hy
 have hcnt:cnt bk kvs<=cnt bk (bq kvs (.inr fr.own.name) (.int (n:Int))):=List.countP_mono_left fun z _=>hmon z
 have hg:=iL hcnt
 have hfall: ∀ s m,Lst kvs s m-> ∃ n',Lst (bq kvs (.inr fr.own.name) (.int (n:Int))) s n'/\n'<=m:=by
  intro s m hs
  by_cases c:s.name=fr.own.name
  ·refine ⟨n,by unfold Lst;rw [hput,if_pos (by rw [c])],?_⟩
   rcases hn with ⟨e,_⟩ | ⟨m',e,rfl⟩
   ·unfold Lst at hs;rw [c,e]at hs;cases hs
   ·have:Lst kvs fr.own m:=by unfold Lst at hs ⊢;rw [<- c];exact hs
    have:=qx e this
    lia
  ·exact ⟨m,by unfold Lst;rw [hput,if_neg (fun z=>c (Sum.inr.inj z))];exact hs,Nat.le_refl _⟩
 refine ⟨fun k v hv=>?_,fun s m hs hl=>?_⟩
 ·rw [hput]at hv
  by_cases c:k=.inr fr.own.name
  ·rw [if_pos c]at hv
   refine ⟨fr.own,ho,c,n,(Option.some.inj hv).symm,?_,?_⟩
   ·rcases hn with ⟨_,rfl⟩ | ⟨m,e,rfl⟩
    ·lia
    ·obtain ⟨m',e',h1,_⟩:=h.val e
     have e':(m:Int)=m':=V.int.inj e'
     lia
   ·rcases hn with ⟨e,rfl⟩ | ⟨m,e,rfl⟩
    ·have:=kn (p:=dB kvs) (q:=dB (bq kvs (.inr fr.own.name) (.int ((1+bK ms:Nat):Int)))) hmon ho (by unfold dB;rw [e];rfl) (by unfold dB;rw [hput,if_pos rfl];rfl)
     have:=iL this
     have e3:gB (bk.sorts.countP (dB kvs) +1)=1+3*gB (cnt bk kvs):=rfl
     show 1+bK ms<=gB (bk.sorts.countP _)
     lia
    ·obtain ⟨m',e',_,h2⟩:=h.val e
     have e':(m:Int)=m':=V.int.inj e'
     lia
  ·rw [if_neg c]at hv
   obtain ⟨s,h1,h2,m,h3,h4,h5⟩:=h.vl k v hv
   exact ⟨s,h1,h2,m,h3,h4,by lia⟩
 ·by_cases c:s.name=fr.own.name
  ·have es:=iB nd hs ho c
   subst es
   have hl':n=m:=by
    unfold Lst at hl
    rw [hput,if_pos rfl]at hl
    have:=V.int.inj (Option.some.inj hl)
    lia
   subst hl'
   obtain ⟨ms',h1,h2⟩:=dL hfall hm
   rcases hn with ⟨_,e⟩ | ⟨m',e,e2⟩
   ·exact ⟨fr,hf,rfl,ms',h1,by lia⟩
   ·by_cases c2:1+bK ms<=m'
    ·exact ⟨fr,hf,rfl,ms',h1,by lia⟩
    ·obtain ⟨fr2,g1,g2,ms2,g3,g4⟩:=h.cl _ _ ho e
     obtain ⟨ms3,g5,g6⟩:=dL hfall g3
     exact ⟨fr2,g1,g2,ms3,g5,by lia⟩
  ·have hl':Lst kvs s m:=by
    unfold Lst at hl ⊢
    rw [hput,if_neg (fun z=>c (Sum.inr.inj z))]at hl
    exact hl
   obtain ⟨fr2,g1,g2,ms2,g3,g4⟩:=h.cl _ _ hs hl'
   obtain ⟨ms3,g5,g6⟩:=dL hfall g3
   exact ⟨fr2,g1,g2,ms3,g5,by lia⟩
noncomputable def pS (bk:Bk) (kvs:List (Key×V)):Prop:= ∃ fr,fr∈bk.forms/\ ∃ n,Lst kvs (Frm.own fr) n
noncomputable def hIn (kvs:List (Key×V)):V->V
 | .str x=>.bl (aP kvs (.inr x)).isSome
 | _=>.non
noncomputable def sj (kvs:List (Key×V)):V->V
 | .str x=>(aP kvs (.inr x)).getD .non
 | _=>.non
theorem kg (kvs:List (Key×V)) (ps:List Srt):(bE ps).map (hIn kvs)=(ps.map (dB kvs)).map V.bl:=by
 unfold bE
 rw [List.map_map,List.map_map]
 rfl
theorem jg {bk:Bk} {kvs:List (Key×V)} (h:LI bk kvs): ∀ (ps:List Srt),(ps.map (dB kvs)).all id=true-> ∃ ms,Paired (Lst kvs) ps ms
 | [],_=>⟨[],.nil⟩
 | p::r,e=>by
  rw [List.map_cons,List.all_cons,Bool.and_eq_true]at e
  obtain ⟨ms,hm⟩:=jg h r e.2
  obtain ⟨v,hv⟩:=Option.isSome_iff_exists.mp (show (aP kvs (.inr p.name)).isSome=true from e.1)
  obtain ⟨n,rfl,_⟩:=h.val hv
  exact ⟨n::ms,.cons hv hm⟩
theorem fQ {kvs:List (Key×V)}: ∀ {ps:List Srt} {ms:List Nat},Paired (Lst kvs) ps ms->(bE ps).map (sj kvs)=(ms.map fun m=>((m:Nat):Int)).map V.int
 | _,_,.nil=>rfl
 | _,_,@Paired.cons _ _ _ a b l m x t=>by
  have ih:=fQ t
  show (aP kvs (.inr a.name)).getD .non::(bE l).map (sj kvs)=V.int (b:Int)::_
  rw [ih,show aP kvs (.inr a.name)=some (.int (b:Int))from x]
  rfl
theorem fX: ∀ ms:List Nat,dw (ms.map fun m=>((m:Nat):Int))=(bK ms:Int)
 | []=>rfl
 | m::r=>by
  show (m:Int) +dw (r.map fun m=>((m:Nat):Int))=((m+bK r:Nat):Int)
  rw [fX r]
  lia
theorem cR (ps:List Srt):(bE ps).length=ps.length:=List.length_map _
theorem eL {ps:List Srt} {v:V} (h:v∈bE ps): ∃ s,s∈ps/\v=.str (Srt.name s):=by
 obtain ⟨s,hs,e⟩:=List.mem_map.mp h
 exact ⟨s,hs,e.symm⟩
theorem LI.small {bk:Bk} {kvs:List (Key×V)} (h:LI bk kvs) (hk:ik bk) {s:Srt} {n:Nat} (hn:Lst kvs s n):1<=n/\n<=40:=by
 obtain ⟨m,e,h1,h2⟩:=h.val hn
 have e:(n:Int)=m:=V.int.inj e
 have h3:=xE bk kvs
 have h4:=hk.so.2.1
 have h5:=iL (show cnt bk kvs<=4 by lia)
 have h6:gB 4=40:=rfl
 lia
theorem dq {bk:Bk} {kvs:List (Key×V)} (h:LI bk kvs) (hk:ik bk): ∀ {ps:List Srt} {ms:List Nat},Paired (Lst kvs) ps ms-> ∀ m∈ms,1<=m/\m<=40
 | _,_,.nil,m,hm=>by cases hm
 | _,_,@Paired.cons _ _ _ a b l r x t,m,hm=>by
  rcases List.mem_cons.mp hm with rfl | hm
  ·exact h.small hk x
  ·exact dq h hk t m hm
noncomputable def xi:Option V->Nat
 | some (.int i)=>i.toNat
 | _=>0
noncomputable def szF (kvs:List (Key×V)) (fr:Frm):Nat:=1+bK (fr.parts.map fun p=>xi (aP kvs (.inr p.name)))
noncomputable def pB (kvs:List (Key×V)) (fr:Frm):Nat:=match aP kvs (.inr fr.own.name)with
 | none=>szF kvs fr
 | some v=>min (szF kvs fr) (xi (some v))
noncomputable def nN (kvs:List (Key×V)) (fr:Frm):List (Key×V):=if (fr.parts.map (dB kvs)).all id=true then bq kvs (.inr fr.own.name) (.int ((pB kvs fr:Nat):Int))else kvs
noncomputable def ia (bk:Bk):Nat->List (Key×V)
 | 0=>[]
 | i+1=>bk.forms.foldl nN (ia bk i)
noncomputable def a7 (bk:Bk):List (Key×V):=ia bk bk.sorts.length
theorem eJ {kvs:List (Key×V)}: ∀ {ps:List Srt} {ms:List Nat},Paired (Lst kvs) ps ms->ps.map (fun p=>xi (aP kvs (.inr p.name)))=ms
 | _,_,.nil=>rfl
 | _,_,@Paired.cons _ _ _ a b l m x t=>by
  rw [List.map_cons,eJ t,show aP kvs (.inr a.name)=some (.int (b:Int))from x]
  show (b:Int).toNat::m=b::m
  rw [Int.toNat_natCast]
theorem qy {bk:Bk} {kvs:List (Key×V)} (h:LI bk kvs) {fr:Frm} {ms:List Nat} (hm:Paired (Lst kvs) fr.parts ms):
  (aP kvs (.inr fr.own.name)=none/\pB kvs fr=1+bK ms)\/ ∃ m:Nat,Lst kvs fr.own m/\pB kvs fr=min (1+bK ms) m:=by
 have e:szF kvs fr=1+bK ms:=by unfold szF;rw [eJ hm]
 cases hv:aP kvs (.inr fr.own.name)with
 | none=>exact .inl ⟨rfl,by unfold pB;rw [hv];exact e⟩
 | some v=>
  obtain ⟨m,rfl,_⟩:=h.val hv
  refine .inr ⟨m,hv,?_⟩
  unfold pB
  rw [hv]
  show min (szF kvs fr) (m:Int).toNat=_
  rw [e,Int.toNat_natCast]
noncomputable def qc:Sp:=fun vs H Q _=> ∃ bv bk,vs=[bv]/\RepB H bk bv/\ik bk/\ ∀ d H',H d=none->Same H H'->H' d=some (.dK (a7 bk))->LI bk (a7 bk)->pS bk (a7 bk)->Q (.ref d) H'
noncomputable abbrev pP:List Str:=["book","found","turn","name","sort","parts","rules","size"]
theorem scLeast:aH pP ["book"] (ah gX):=fsc
theorem uD (F:Fun K "_law_least" "_law_least" gX f fd) (G:Gb mg) (hsum:mg "sum"=none):FnOk P w K mg base CX0 1 f fd ["book"] qc:=by
 refine F.ok scLeast (fun vs H Q E h=>?_) (fun cdv A outer s H vs Q E hr h=>?_)
 ·obtain ⟨bv,bk,rfl,_⟩:=h
  rfl
 obtain ⟨bv,bk,rfl,⟨a,sa,fa,fv,rfl,ha,⟨sx,hsa,hS⟩,hfa,hF⟩,hok,q⟩:=h
 have hu:=dh hr
 refine ⟨_,ad (am (i:=1) scLeast.nd rfl (Or.inr rfl) dZ)
  (ad (bc PassesOwn.never rfl (bn rfl G.range (aa (aA aJ rfl G.len PySem.boot_len (aa (aq aB (pv 0) ae (fun _ _=>rfl)) ac)) ac)) (aw (i:=2) scLeast.nd rfl (Or.inl rfl))
   (aj (bc PassesOwn.never rfl (a8 (aq aB (pv 0) ae (fun _ _=>rfl)))
    (cQ rfl (aE (aw (i:=3) scLeast.nd rfl (Or.inl rfl)) (aE (aw (i:=4) scLeast.nd rfl (Or.inl rfl)) (aE (aw (i:=5) scLeast.nd rfl (Or.inl rfl)) (aE (aw (i:=6) scLeast.nd rfl (Or.inl rfl)) cn)))))
    (aj (aY (dO (aA (gK rfl) rfl G.all (by decide +kernel) (aa (bV (sc0:=ah gX) (N0:=pP) (ys:=["found"]) (fr:=[1]) rfl (a8 (pv 5)) rfl rfl
       cok (fun C s H ex=>oV (hV hu (pv 0) (pv 1)))) ac)))
     (ad (am (i:=7) scLeast.nd rfl (Or.inl rfl) (aC aV ae (aA (jF rfl) rfl hsum (by decide +kernel) (aa (bV (sc0:=ah gX) (N0:=pP) (ys:=["found"]) (fr:=[1]) rfl (a8 (pv 5)) rfl rfl
       cok (fun C s H ex=>be hu (pv 1) (pv 0) (fun _ _=>rfl))) ac))))
     (aj (da hu (pv 1) (pv 4) (aA (fA rfl) rfl G.min (by decide +kernel) (aa (pv 7) (aa (nw hu (pv 1) (pv 4) (pv 7) ⟨rfl,rfl,rfl,rfl⟩) ac))) rfl)))
     aM)))))
  (aj (ay (pv 1)))),?_⟩
 have lS:=hS.len
 have lF:=hF.len
 refine fun td htd=>?_
 have s0:=ag htd (.dK [])
 have g0:(upd H td (.dK [])) td=some (.dK []):=ab
 generalize upd H td (.dK [])=H0 at s0 g0 ⊢
 have h4:=hok.so.2.1
 have h10:=hok.few
 obtain ⟨fr0,hfr0,hnil0⟩:=hok.nil
 obtain ⟨i0,hi0⟩:=List.getElem?_of_mem hfr0
 refine ⟨_,rfl,a,_,1,.ref sa,rfl,rfl,SqT.of (s0 _ _ ha),ao (j:=1) rfl,sa,sx,rfl,.inr (SqT.of (s0 _ _ hsa)),_,rfl,by lia,by lia,?_⟩
 refine cz (fun i σ H'=> ∃ o2 o3 o4 o5 o6 o7 kvs,σ=[some (.ref a),some (.ref td),o2,o3,o4,o5,o6,o7]/\Same H H'/\H' td=some (.dK kvs)/\LI bk kvs/\kvs.length<=10*i/\(1<=i->pS bk kvs)/\kvs=ia bk i)
  ⟨none,none,none,none,none,none,[],rfl,s0,g0,LI.nil bk,Nat.le_refl _,fun z=>absurd z (by lia),rfl⟩ ?_ ?_
 ·rintro i σ H1 hi ⟨o2,o3,o4,o5,o6,o7,kvs,rfl,S1,gd1,hI1,hl1,ht1,hk1⟩
  refine ⟨_,rfl,a,_,2,.ref fa,rfl,rfl,SqT.of (S1 _ _ ha),ao (j:=2) rfl,fa,rfl,⟨fv,SqT.of (S1 _ _ hfa)⟩,?_⟩
  refine cN (xs:=fv) (fun j σ H'=>j<=fv.length/\ ∃ o3 o4 o5 o6 o7 kvs,σ=[some (.ref a),some (.ref td),some (.int (0+ (i:Int))),o3,o4,o5,o6,o7]/\Same H H'/\H' td=some (.dK kvs)/\LI bk kvs/\kvs.length<=10*i+j/\(1<=i\/i0<j->pS bk kvs)/\kvs=(bk.forms.take j).foldl nN (ia bk i))
   ⟨Nat.zero_le _,o3,o4,o5,o6,o7,kvs,rfl,S1,gd1,hI1,hl1,fun z=>ht1 (by lia),hk1⟩ (fun j σ H' _ h=>by obtain ⟨_,_,_,_,_,_,_,_,sm,_⟩:=h;exact SqT.of (sm _ _ hfa)) ?_ ?_
  ·rintro j x σ H2 hx ⟨hj,o3,o4,o5,o6,o7,kvs,rfl,S2,gd2,hI2,hl2,ht2,hk2⟩
   have hjl:j<fv.length:=(List.getElem?_eq_some_iff.mp hx).1
   obtain ⟨fr,hfr,b,pa,ra,rv,rfl,hb,hpa,hra,hR⟩:=aN hF hx
   have hfm:=List.mem_of_getElem? hfr
   have hk1000:kvs.length<=1000:=by lia
   obtain ⟨mode,_,hfo⟩:=hok.fo
   obtain ⟨hown,hparts,hp3,_⟩:=hfo fr hfm
   have ek:(bk.forms.take (j+1)).foldl nN (ia bk i)=nN kvs fr:=by
    rw [List.take_add_one,hfr,List.foldl_append,<- hk2]
    rfl
   refine ⟨b,_,rfl,SqT.of (S2 _ _ hb),rfl,_,_,rfl,_,_,rfl,_,_,rfl,_,_,rfl,rfl,?_⟩
   refine ⟨_,rfl,pa,rfl,⟨_,SqT.of (S2 _ _ hpa)⟩,?_⟩
   refine fz (by rw [cR];lia) (fP (S2 _ _ hpa)) (fO (S2 _ _ hpa)) (jr (S2 _ _ hpa)) (hIn kvs) ?_ ?_
   ·intro v H' k hv s' hk
    obtain ⟨sr,_,rfl⟩:=eL hv
    exact ⟨_,rfl,_,rfl,td,_,rfl,DGet.k (k:=.inr sr.name) (s' _ _ gd2),hk⟩
   intro p3 H3 hp3' s3 gp3
   rw [kg]at gp3
   have S3:Same H H3:=S2.trans s3
   have gd3:=s3 _ _ gd2
   refine ⟨p3,_,rfl,SqL.of gp3,_,rfl,?_⟩
   refine bQ (fun c=>?_) (fun c=>?_)
   ·obtain ⟨ms,hms⟩:=jg hI2 _ c
    have hsm:=dq hI2 hok hms
    have lms:fr.parts.length=ms.length:=Paired.length hms
    refine ⟨_,rfl,pa,rfl,⟨_,SqT.of (S3 _ _ hpa)⟩,?_⟩
    refine fz (by rw [cR];lia) (fP (S3 _ _ hpa)) (fO (S3 _ _ hpa)) (jr (S3 _ _ hpa)) (sj kvs) ?_ ?_
    ·intro v H' k hv s' hk
     obtain ⟨sr,hsr,rfl⟩:=eL hv
     obtain ⟨i',hi'⟩:=List.getElem?_of_mem hsr
     obtain ⟨m,_,hm⟩:=aZ hms hi'
     refine ⟨_,rfl,_,rfl,td,.int (m:Int),rfl,(by rw [<- show aP kvs (.inr sr.name)=some (.int (m:Int))from hm];exact DGet.k (k:=.inr sr.name) (s' _ _ gd3)),?_⟩
     have:sj kvs (.str sr.name)=.int (m:Int):=by
      show (aP kvs (.inr sr.name)).getD .non=_
      rw [show aP kvs (.inr sr.name)=some (.int (m:Int))from hm]
      rfl
     rw [this]at hk
     exact hk
    intro p4 H4 hp4 s4 gp4
    rw [fQ hms]at gp4
    have S4:Same H H4:=S3.trans s4
    have gd4:=s4 _ _ gd3
    refine ⟨p4,_,rfl,SqL.of gp4,by rw [List.length_map];lia,?_,?_⟩
    ·intro n hn
     obtain ⟨m,hm,rfl⟩:=List.mem_map.mp hn
     have:=hsm m hm
     lia
    rw [fX]
    refine ⟨_,_,rfl,rfl,?_⟩
    rw [show ((fun (i j:Int)=>V.int (i+j)) 1 (bK ms:Int))=V.int ((1+bK ms:Nat):Int)from congrArg V.int (show (1:Int) + (bK ms:Int)=((1+bK ms:Nat):Int) by lia)]
    refine ⟨_,rfl,_,rfl,td,rfl,.inl ⟨kvs,.inl gd4⟩,_,rfl,_,rfl,_,DGet.k (k:=.inr fr.own.name) gd4,?_⟩
    have fin: ∀ n:Nat,n=pB kvs fr->
      j+1<=fv.length/\ ∃ o3 o4 o5 o6 o7 kvs',[some (V.ref a),some (.ref td),some (.int (0+ (i:Int))),some (.str fr.name),some (.str fr.own.name),some (.ref pa),some (.ref ra),some (.int ((1+bK ms:Nat):Int))]=[some (V.ref a),some (.ref td),some (.int (0+ (i:Int))),o3,o4,o5,o6,o7]/\
       Same H (upd H4 td (.dK (bq kvs (.inr fr.own.name) (.int (n:Int)))))/\(upd H4 td (.dK (bq kvs (.inr fr.own.name) (.int (n:Int))))) td=some (.dK kvs')/\LI bk kvs'/\kvs'.length<=10*i+ (j+1)/\(1<=i\/i0<j+1->pS bk kvs')/\kvs'=(bk.forms.take (j+1)).foldl nN (ia bk i):=by
     intro n hn
     subst hn
     refine ⟨hjl,_,_,_,_,_,_,rfl,?_,ab,hI2.put hok.so.2.2.1 hfm hown hp3 hms (qy hI2 hms),?_,fun _=>?_,by rw [ek];exact (if_pos c).symm⟩
     ·intro y oo h
      rw [ai (af h htd)]
      exact S4 _ _ h
     ·have:=bj kvs (.inr fr.own.name) (.int ((pB kvs fr:Nat):Int))
      lia
     ·exact ⟨fr,hfm,_,by unfold Lst;rw [cD,if_pos rfl]⟩
    have hmn:=qy hI2 hms
    cases hold:aP kvs (.inr fr.own.name)with
    | none=>
     refine ⟨_,_,rfl,?_⟩
     rw [if_neg (by lia)]
     refine ⟨_,rfl,_,rfl,td,_,rfl,DPut.k (k:=.inr fr.own.name) gd4 (au hk1000),?_⟩
     exact fin (1+bK ms) (by rcases hmn with ⟨_,e⟩ | ⟨m',e,_⟩;exact e.symm;unfold Lst at e;rw [hold]at e;cases e)
    | some v=>
     obtain ⟨m,rfl,_⟩:=hI2.val hold
     refine ⟨_,_,rfl,?_⟩
     have e5:(if (m:Int) < ((1+bK ms:Nat):Int)then (m:Int)else ((1+bK ms:Nat):Int))=((min (1+bK ms) m:Nat):Int):=by
      by_cases c5:(m:Int) < ((1+bK ms:Nat):Int)
      ·rw [if_pos c5];lia
      ·rw [if_neg c5];lia
     rw [e5]
     refine ⟨_,rfl,_,rfl,td,_,rfl,DPut.k (k:=.inr fr.own.name) gd4 (au hk1000),?_⟩
     exact fin _ (by rcases hmn with ⟨e,_⟩ | ⟨m',e,e2⟩;rw [hold]at e;cases e;rw [e2,qx e hold])
   ·refine ⟨hjl,_,_,_,_,_,kvs,rfl,S3,gd3,hI2,by lia,fun z=>?_,by rw [ek];exact (if_neg c).symm⟩
    by_cases c0:1<=i\/i0<j
    ·exact ht2 c0
    ·have j0:j=i0:=by lia
     subst j0
     rw [hi0]at hfr
     cases hfr
     rw [hnil0]at c
     exact absurd rfl c
  ·rintro σ H2 ⟨_,o3,o4,o5,o6,o7,kvs,rfl,S2,gd2,hI2,hl2,ht2,hk2⟩
   have:=hok.more
   have:=hok.so.1
   rw [<- lF,List.take_length]at hk2
   have hi0l:=(List.getElem?_eq_some_iff.mp hi0).1
   exact ⟨_,_,_,_,_,_,kvs,rfl,S2,gd2,hI2,by lia,fun _=>ht2 (.inr (by lia)),hk2⟩
 ·rintro σ H1 ⟨o2,o3,o4,o5,o6,o7,kvs,rfl,S1,gd1,hI1,hl1,ht1,hk1⟩
  have:=hok.so.1
  rw [Int.toNat_natCast,<- lS]at hk1 ht1
  subst hk1
  exact ⟨_,rfl,q td H1 htd S1 gd1 hI1 (ht1 (by lia))⟩
noncomputable def TreeOk (bk:Bk):Nat->Bt->Srt->Prop
 | 0,_,_=>False
 | n+1,t,s=>(∃ m,Lst (a7 bk) s m)/\ ∃ fr,fr∈bk.forms/\Frm.name fr=t.nm/\fr.own=s/\Paired (TreeOk bk n) t.ps fr.parts
theorem ve {K:PySem.W.Frag} {kvs:List (Key×V)} {pa d:Addr} {ps:List Srt} {fr:List Nat} {te:TE} {σ:St} {H:Hp} {Q:VK} (hd:H d=some (.dK kvs)) (hpa:H pa=some (.tup (bE ps))) (hl:ps.length<=1000)
  (hte: ∀ (x:Str) H' (k:VK),H' d=some (.dK kvs)->k (.bl (aP kvs (.inr x)).isSome) H'->te (some (.str x)::bi fr σ) H' k)
  (hQ: ∀ p H',H p=none->Same H H'->H' p=some (.lst ((ps.map (dB kvs)).map V.bl))->Q (.ref p) H'):de fr te σ (Itt K pa) H Q:=by
 refine fz (by rw [cR];lia) (fP hpa) (fO hpa) (jr hpa) (hIn kvs) ?_ ?_
 ·intro v H' k hv s' hk
  obtain ⟨sr,_,rfl⟩:=eL hv
  exact hte _ _ _ (s' _ _ hd) hk
 ·intro p H' hp s' gp
  rw [kg]at gp
  exact hQ p H' hp s' gp
theorem kq {K:PySem.W.Frag} {kvs:List (Key×V)} {pa d:Addr} {ps:List Srt} {ms:List Nat} {fr:List Nat} {te:TE} {σ:St} {H:Hp} {Q:VK} (hm:Paired (Lst kvs) ps ms) (hd:H d=some (.dK kvs)) (hpa:H pa=some (.tup (bE ps))) (hl:ps.length<=1000)
  (hte: ∀ (x:Str) (m:Nat) H' (k:VK),H' d=some (.dK kvs)->aP kvs (.inr x)=some (.int (m:Int))->k (.int (m:Int)) H'->te (some (.str x)::bi fr σ) H' k)
  (hQ: ∀ p H',H p=none->Same H H'->H' p=some (.lst ((ms.map fun m=>((m:Nat):Int)).map V.int))->Q (.ref p) H'):de fr te σ (Itt K pa) H Q:=by
 refine fz (by rw [cR];lia) (fP hpa) (fO hpa) (jr hpa) (sj kvs) ?_ ?_
 ·intro v H' k hv s' hk
  obtain ⟨sr,hsr,rfl⟩:=eL hv
  obtain ⟨i',hi'⟩:=List.getElem?_of_mem hsr
  obtain ⟨m,_,hm⟩:=aZ hm hi'
  have hm':aP kvs (.inr sr.name)=some (.int (m:Int)):=hm
  refine hte _ m _ _ (s' _ _ hd) hm' ?_
  have:sj kvs (.str sr.name)=.int (m:Int):=by
   show (aP kvs (.inr sr.name)).getD .non=_
   rw [hm']
   rfl
  rw [this]at hk
  exact hk
 ·intro p H' hp s' gp
  rw [fQ hm]at gp
  exact hQ p H' hp s' gp
theorem gE {H:Hp} {d:Addr} {kvs:List (Key×V)} {x:Str} {v:V} (g:H d=some (.dK kvs)) (e:aP kvs (.inr x)=some v):DGet H d (.str x) (some v):=by
 rw [<- e]
 exact DGet.k (k:=.inr x) g
theorem jP: ∀ (l:List Nat) (i m:Nat),l[i]? =some m->bK (l.drop i)=m+bK (l.drop (i+1))
 | [],i,m,h=>by cases i <;> cases h
 | a::r,0,m,h=>by cases h;rfl
 | a::r,i+1,m,h=>jP r i m h
noncomputable def gP (n:Nat):Sp:=fun vs H Q _=> ∃ tp bv d bk s r m,vs=[.ref tp,bv,.ref d,.str (Srt.name s),.int ((r:Nat):Int)]/\RepB H bk bv/\ik bk/\LI bk (a7 bk)/\H d=some (.dK (a7 bk))/\Tp H tp/\s∈bk.sorts/\Lst (a7 bk) s m/\m<=r/\r<=n/\r<=1000/\
 ∀ v t H',RepT H' n t v->TreeOk bk n t s->t.sz<=r->Kp tp H H'->Tp H' tp->Q v H'
noncomputable abbrev qP:List Str:=["tape","book","least","sort","room","forms","form","spare","parts","name","more"]
theorem scTree:aH qP ["tape","book","least","sort","room"] (ah iY):=fsc
theorem uu {n:Nat} (F:Fun K "_law_tree" "_law_tree" iY f fd) (G:Gb mg) (hsum:mg "sum"=none)
  (GD:FnOk P w K mg base CX0 1 g gd ["tape","many"] bH) (bD:Binds K gd ["tape","many"] []) (kD:PySem.W.keepIn K (.ref g)=true) (mD:mg "_law_digit"=some (.ref g))
  (GT:FnOk P w K mg base CX0 (n+2) f fd ["tape","book","least","sort","room"] (gP n)) (bT:Binds K fd ["tape","book","least","sort","room"] []) (mT:mg "_law_tree"=some (.ref f)):
  FnOk P w K mg base CX0 (n+3) f fd ["tape","book","least","sort","room"] (gP (n+1)):=by
 refine F.ok scTree (fun vs H Q E h=>?_) (fun cdv A outer s H vs Q E hr h=>?_)
 ·obtain ⟨tp,bv,d,bk,sr,r,m,rfl,_⟩:=h
  rfl
 obtain ⟨tp,bv,d,bk,sr,r,m,rfl,hB,hok,hI,gd0,tt0,hsr,hm,hmr,hrn,hr1000,q⟩:=h
 have hB':=hB
 obtain ⟨a,sa,fa,fv,rfl,ha,⟨sx,hsa,hS⟩,hfa,hF⟩:=hB'
 have hu:=dh hr
 have hr1:=hr.mono (show 1<=n+2 by lia)
 refine ⟨_,ad (am (i:=5) scTree.nd rfl (Or.inl rfl) (bu ac))
  (ad (bc PassesOwn.never rfl (a8 (aq aB (pv 1) ae (fun _ _=>rfl))) (aw (i:=6) scTree.nd rfl (Or.inl rfl))
   (aj (aY (PW.pt (lH (aF bh (aq aB (pv 6) ae (fun _ _=>rfl)) (pv 3) (aK _))
     (iG (dO (aA (gK rfl) rfl G.all (by decide +kernel) (aa (bV (sc0:=ah iY) (N0:=qP) (ys:=["least"]) (fr:=[2]) rfl (a8 (aq aB (pv 6) ae (fun _ _=>rfl))) rfl rfl
       cok (fun C s H ex=>oV (hV hu (pv 0) (pv 1)))) ac))))))
    (aj (aY (aF yd (aC aV ae (aA (jF rfl) rfl hsum (by decide +kernel) (aa (bV (sc0:=ah iY) (N0:=qP) (ys:=["least"]) (fr:=[2]) rfl (a8 (aq aB (pv 6) ae (fun _ _=>rfl))) rfl rfl
       cok (fun C s H ex=>be hu (pv 1) (pv 0) (fun _ _=>rfl))) ac))) (pv 4) (aK _))
     (aj (cG (ee PySem.F.plainAttrs_list PySem.F.slot_list_append PySem.F.type_list_append bo (pv 5) (aa (pv 6) ac)))) aM)) aM)))
  (ad (am (i:=6) scTree.nd rfl (Or.inl rfl) (aq aL (pv 5) (al GD hr1 rfl mD kD bD .nil ax (aa (pv 0) (aa (aA aJ rfl G.len PySem.boot_len (aa (pv 5) ac)) ac))) (fun _ _=>rfl)))
  (ad (am (i:=7) scTree.nd rfl (Or.inl rfl) (aC cT (aC cT (pv 4) ae) (aA (jF rfl) rfl hsum (by decide +kernel) (aa (bV (sc0:=ah iY) (N0:=qP) (ys:=["least"]) (fr:=[2]) rfl (a8 (aq aB (pv 6) ae (fun _ _=>rfl))) rfl rfl
       cok (fun C s H ex=>be hu (pv 1) (pv 0) (fun _ _=>rfl))) ac))))
  (ad (am (i:=8) scTree.nd rfl (Or.inl rfl) (bu ac))
  (ad (bc PassesOwn.never rfl (a8 (aq aB (pv 6) ae (fun _ _=>rfl))) (aw (i:=9) scTree.nd rfl (Or.inl rfl))
   (ad (am (i:=10) scTree.nd rfl (Or.inl rfl) (al GD hr1 rfl mD kD bD .nil ax (aa (pv 0) (aa (aC aV (pv 7) ae) ac))))
   (ad (am (i:=7) scTree.nd rfl (Or.inl rfl) (aC cT (pv 7) (pv 10)))
   (aj (cG (ee PySem.F.plainAttrs_list PySem.F.slot_list_append PySem.F.type_list_append bo (pv 8) (aa
    (al GT hr rfl mT F.kp bT .nil ax (aa (pv 0) (aa (pv 1) (aa (pv 2) (aa (pv 9) (aa (aC aV (be hu (pv 2) (pv 9) (fun _ _=>rfl)) (pv 10)) ac)))))) ac)))))))
  (aj (ay (aS (aa (aq aB (pv 6) ae (fun _ _=>rfl)) (aa (bg aW rfl G.tuple (by decide +kernel) (aa (pv 8) ac)) ac)))))))))),?_⟩
 refine ⟨(by show 0<=sizeLine;decide),fun fl hfl=>?_⟩
 have s0:=ag hfl (.lst [])
 have g0:(upd H fl (.lst [])) fl=some (.lst []):=ab
 generalize upd H fl (.lst [])=H0 at s0 g0 ⊢
 have lF:=hF.len
 have h10:=hok.few
 have hfree: ∀ {fr:Frm},fr∈bk.forms->fr.own∈bk.sorts/\fr.parts.length<=3/\ ∀ p∈fr.parts,p∈bk.sorts:=fun {fr} hf=>by
  obtain ⟨mode,_,hfo⟩:=hok.fo
  obtain ⟨h1,h2,h3,_⟩:=hfo fr hf
  exact ⟨h1,h3,h2⟩
 refine ⟨_,rfl,a,_,2,.ref fa,rfl,rfl,SqT.of (s0 _ _ ha),ao (j:=2) rfl,fa,rfl,⟨fv,SqT.of (s0 _ _ hfa)⟩,?_⟩
 refine cN (xs:=fv) (fun i σ H'=>i<=fv.length/\ ∃ o6 xs frs,σ=[some (.ref tp),some (.ref a),some (.ref d),some (.str sr.name),some (.int (r:Int)),some (.ref fl),o6,none,none,none,none]/\Same H H'/\H' fl=some (.lst xs)/\RepFs H' frs xs/\xs.length<=i/\
   (∀ fr∈frs,fr∈bk.forms/\Frm.own fr=sr/\ ∃ ms,Paired (Lst (a7 bk)) fr.parts ms/\1+bK ms<=r)/\(∀ fr ms,fr∈bk.forms.take i->Frm.own fr=sr->Paired (Lst (a7 bk)) fr.parts ms->1+bK ms<=r->frs≠[]))
  ⟨Nat.zero_le _,none,[],[],rfl,s0,g0,.nil,Nat.le_refl _,fun fr h=>(by cases h),fun fr ms h=>(by cases h)⟩ (fun i σ H' _ h=>by obtain ⟨_,_,_,_,_,sm,_⟩:=h;exact SqT.of (sm _ _ hfa)) ?_ ?_
 ·rintro i x σ H1 hx ⟨hi,o6,xs,frs,rfl,S1,gf1,hR1,hl1,hg1,hn1⟩
  have hil:i<fv.length:=(List.getElem?_eq_some_iff.mp hx).1
  obtain ⟨fr,hfr,b,pa,ra,rv,rfl,hb,hpa,hra,hRr⟩:=aN hF hx
  have hfm:=List.mem_of_getElem? hfr
  obtain ⟨hown,hp3,hpin⟩:=hfree hfm
  have etk:bk.forms.take (i+1)=bk.forms.take i++[fr]:=by rw [List.take_add_one,hfr];rfl
  have stay: ∀ {H2:Hp},Same H1 H2-> ¬ (fr.own=sr/\ ∃ ms,Paired (Lst (a7 bk)) fr.parts ms/\1+bK ms<=r)->i+1<=fv.length/\ ∃ o6 xs' frs',[some (V.ref tp),some (.ref a),some (.ref d),some (.str sr.name),some (.int (r:Int)),some (.ref fl),some (.ref b),none,none,none,none]=[some (.ref tp),some (.ref a),some (.ref d),some (.str sr.name),some (.int (r:Int)),some (.ref fl),o6,none,none,none,none]/\Same H H2/\H2 fl=some (.lst xs')/\RepFs H2 frs' xs'/\xs'.length<=i+1/\
   (∀ fr∈frs',fr∈bk.forms/\Frm.own fr=sr/\ ∃ ms,Paired (Lst (a7 bk)) fr.parts ms/\1+bK ms<=r)/\(∀ fr ms,fr∈bk.forms.take (i+1)->Frm.own fr=sr->Paired (Lst (a7 bk)) fr.parts ms->1+bK ms<=r->frs'≠[]):=by
   intro H2 s2 hno
   refine ⟨hil,_,xs,frs,rfl,S1.trans s2,s2 _ _ gf1,hR1.mono (aG s2),by lia,hg1,fun fr' ms h1 h2 h3 h4=>?_⟩
   rw [etk,List.mem_append,List.mem_singleton]at h1
   rcases h1 with h1 | rfl
   ·exact hn1 fr' ms h1 h2 h3 h4
   ·exact absurd ⟨h2,ms,h3,h4⟩ hno
  refine ⟨_,rfl,b,_,1,_,rfl,rfl,SqT.of (S1 _ _ hb),ao (j:=1) rfl,_,rfl,rfl,_,rfl,?_⟩
  refine bQ (fun c=>?_) (fun c=>?_)
  ·have c':fr.own.name=sr.name:=V.str.inj (of_decide_eq_true c)
   have eo:=iB hok.so.2.2.1 hown hsr c'
   refine ⟨_,rfl,b,_,2,.ref pa,rfl,rfl,SqT.of (S1 _ _ hb),ao (j:=2) rfl,pa,rfl,⟨_,SqT.of (S1 _ _ hpa)⟩,?_⟩
   refine ve (d:=d) (kvs:=a7 bk) (S1 _ _ gd0) (S1 _ _ hpa) (by lia) (fun x H' k g hk=>⟨_,rfl,_,rfl,d,_,rfl,DGet.k (k:=.inr x) g,hk⟩) fun p2 H2 hp2 s2 gp2=>?_
   refine ⟨p2,_,rfl,SqL.of gp2,_,rfl,?_⟩
   refine bQ (fun c2=>?_) (fun c2=>?_)
   ·obtain ⟨ms,hms⟩:=jg hI _ c2
    have hsm:=dq hI hok hms
    have lms:fr.parts.length=ms.length:=Paired.length hms
    have S2:Same H H2:=S1.trans s2
    refine ⟨_,rfl,b,_,2,.ref pa,rfl,rfl,SqT.of (S2 _ _ hb),ao (j:=2) rfl,pa,rfl,⟨_,SqT.of (S2 _ _ hpa)⟩,?_⟩
    refine kq (d:=d) hms (S2 _ _ gd0) (S2 _ _ hpa) (by lia) (fun x m H' k g e hk=>⟨_,rfl,_,rfl,d,_,rfl,gE g e,hk⟩) fun p3 H3 hp3' s3 gp3=>?_
    refine ⟨p3,_,rfl,SqL.of gp3,by rw [List.length_map];lia,?_,?_⟩
    ·intro n' hn'
     obtain ⟨m',hm',rfl⟩:=List.mem_map.mp hn'
     have:=hsm m' hm'
     lia
    rw [fX]
    refine ⟨_,_,rfl,rfl,_,rfl,_,_,rfl,rfl,_,rfl,?_⟩
    have S3:Same H H3:=S2.trans s3
    refine bQ (fun c3=>?_) (fun c3=>?_)
    ·have c3':(1:Int) + (bK ms:Int)<=(r:Int):=of_decide_eq_true c3
     have gf3:=s3 _ _ (s2 _ _ gf1)
     refine ⟨_,rfl,.inl ⟨rfl,_,SqL.of gf3⟩,_,rfl,fl,xs,.ref b,rfl,rfl,gf3,au (by lia),?_⟩
     have tk:TK H3 (upd H3 fl (.lst (xs++[.ref b]))):=TK.lst gf3
     have tk1:TK H1 (upd H3 fl (.lst (xs++[.ref b]))):=((aG s2).trans (aG s3)).trans tk
     refine ⟨hil,_,xs++[.ref b],frs++[fr],rfl,?_,ab,Paired.snoc (hR1.mono tk1) ⟨b,pa,ra,rv,rfl,tk1 _ _ (S1 _ _ hb),tk1 _ _ (S1 _ _ hpa),tk1 _ _ (S1 _ _ hra),(hRr.mono (aG S1)).mono tk1⟩,by rw [List.length_append];show xs.length+1<=i+1;lia,?_,?_⟩
     ·intro y oo h
      rw [ai (af h hfl)]
      exact S3 _ _ h
     ·intro fr' hf'
      rw [List.mem_append,List.mem_singleton]at hf'
      rcases hf' with hf' | rfl
      ·exact hg1 fr' hf'
      ·exact ⟨hfm,eo,ms,hms,by lia⟩
     ·intro _ _ _ _ _ _ z
      exact absurd (List.append_eq_nil_iff.mp z).2 (by simp)
    ·refine stay (s2.trans s3) ?_
     rintro ⟨_,ms',h1,h2⟩
     have:ms'=ms:=by
      have e1:=eJ h1
      have e2:=eJ hms
      rw [e1]at e2
      exact e2
     subst this
     exact c3 (decide_eq_true (by show (1:Int) + (bK ms':Int)<=(r:Int);lia))
   ·refine stay s2 ?_
    rintro ⟨_,ms',h1,_⟩
    refine c2 ?_
    rw [List.all_eq_true]
    intro y hy
    obtain ⟨p,hp,rfl⟩:=List.mem_map.mp hy
    obtain ⟨i',hi'⟩:=List.getElem?_of_mem hp
    obtain ⟨m',_,hm'⟩:=aZ h1 hi'
    show dB (a7 bk) p=true
    unfold dB
    rw [show aP (a7 bk) (.inr p.name)=some (.int (m':Int))from hm']
    rfl
  ·refine stay (fun _ _ h=>h) ?_
   rintro ⟨e,_⟩
   exact c (decide_eq_true (by rw [e]))
 ·rintro σ H1 ⟨_,o6,xs,frs,rfl,S1,gf1,hR1,hl1,hg1,hn1⟩
  rw [<- lF,List.take_length]at hn1
  obtain ⟨fr0,q1,q2,ms0,q3,q4⟩:=hI.cl _ _ hsr hm
  have hne:frs≠[]:=hn1 fr0 ms0 q1 q2 q3 (by lia)
  have lxs:=hR1.len
  have lpos:0<frs.length:=List.length_pos_iff.mpr hne
  have tt1:Tp H1 tp:=tt0.same S1
  refine ⟨_,rfl,_,rfl,_,rfl,fl,xs,rfl,.inl (SqL.of gf1),tp,_,rfl,tt1,by lia,by lia,fun dd t1 hd0 hd1=>?_⟩
  obtain ⟨x,ex,ex2⟩:=dF hd0 hd1
  obtain ⟨fr,hfr,hRf⟩:=aN hR1 ex2
  obtain ⟨hfm,eo,ms,hms,hmsr⟩:=hg1 fr (List.mem_of_getElem? hfr)
  obtain ⟨hown,hp3,hpin⟩:=hfree hfm
  have hsm:=dq hI hok hms
  have lms:fr.parts.length=ms.length:=Paired.length hms
  have nfl:fl≠tp:=Ne.symm (cW tt0 hfl).symm
  have k2:Kp tp H (upd H1 tp (.lst [.int t1])):=(Kp.refl.same S1).trans Kp.tape
  have tt2:Tp (upd H1 tp (.lst [.int t1])) tp:=⟨t1,ab⟩
  have gf2:(upd H1 tp (.lst [.int t1])) fl=some (.lst xs):=by rw [ai nfl];exact gf1
  have hRf2:RepF (upd H1 tp (.lst [.int t1])) fr x:=hRf.mono (Kp.tk Kp.tape tt1)
  generalize upd H1 tp (.lst [.int t1])=H2 at k2 tt2 gf2 hRf2 ⊢
  refine ⟨fl,xs,dd,x,rfl,rfl,SqL.of gf2,ex,?_⟩
  obtain ⟨b,pa,ra,rv,rfl,hb,hpa,hra,hRr⟩:=hRf2
  have ndt:d≠tp:=fun e=>by obtain ⟨t,ht⟩:=tt0;rw [e,ht]at gd0;cases gd0
  have gd2:H2 d=some (.dK (a7 bk)):=k2 _ _ gd0 ndt
  refine ⟨_,rfl,_,_,rfl,rfl,_,rfl,b,_,2,.ref pa,rfl,rfl,SqT.of hb,ao (j:=2) rfl,pa,rfl,⟨_,SqT.of hpa⟩,?_⟩
  refine kq (d:=d) hms gd2 hpa (by lia) (fun x m H' k g e hk=>⟨_,rfl,_,rfl,d,_,rfl,gE g e,hk⟩) fun p3 H3 hp3' s3 gp3=>?_
  refine ⟨p3,_,rfl,SqL.of gp3,by rw [List.length_map];lia,?_,?_⟩
  ·intro n' hn'
   obtain ⟨m',hm',rfl⟩:=List.mem_map.mp hn'
   have:=hsm m' hm'
   lia
  rw [fX]
  refine ⟨_,_,rfl,rfl,?_⟩
  rw [show ((fun (i j:Int)=>V.int (i-j)) ((r:Int) -1) (bK ms:Int))=V.int ((r-1-bK ms:Nat):Int)from congrArg V.int (show (r:Int) -1- (bK ms:Int)=((r-1-bK ms:Nat):Int) by lia)]
  have k3:Kp tp H H3:=k2.same s3
  have tt3:=tt2.same s3
  refine ⟨(by show 0<=sizeLine;decide),fun pl hpl=>?_⟩
  have s4:=ag hpl (.lst [])
  have g4:(upd H3 pl (.lst [])) pl=some (.lst []):=ab
  have npl:pl≠tp:=cW tt3 hpl
  generalize upd H3 pl (.lst [])=H4 at s4 g4 ⊢
  have k4:Kp tp H H4:=k3.same s4
  have tt4:=tt3.same s4
  have hb4:=s4 _ _ (s3 _ _ hb)
  have hpa4:=s4 _ _ (s3 _ _ hpa)
  have hpl0:H pl=none:=by
   cases e:H pl with
   | none=>rfl
   | some o=>exact absurd (k3 _ _ e npl) (by rw [hpl];intro z;cases z)
  have nb:b≠tp:=fun e=>by obtain ⟨t,ht⟩:=tt4;rw [e,ht]at hb4;cases hb4
  have npa:pa≠tp:=fun e=>by obtain ⟨t,ht⟩:=tt4;rw [e,ht]at hpa4;cases hpa4
  have nbl:b≠pl:=af (s3 _ _ hb) hpl
  have npal:pa≠pl:=af (s3 _ _ hpa) hpl
  refine ⟨_,rfl,b,_,2,.ref pa,rfl,rfl,SqT.of hb4,ao (j:=2) rfl,pa,rfl,⟨_,SqT.of hpa4⟩,?_⟩
  refine cN (xs:=bE fr.parts) (fun i σ H'=>i<=(bE fr.parts).length/\ ∃ o9 o10 sp pvs ts,σ=[some (.ref tp),some (.ref a),some (.ref d),some (.str sr.name),some (.int (r:Int)),some (.ref fl),some (.ref b),some (.int ((sp:Nat):Int)),some (.ref pl),o9,o10]/\Kp tp H H'/\Tp H' tp/\H' b=some (.tup [.str fr.name,.str fr.own.name,.ref pa,.ref ra])/\H' pa=some (.tup (bE fr.parts))/\H' pl=some (.lst pvs)/\
    Paired (RepT H' n) ts pvs/\Paired (TreeOk bk n) ts (fr.parts.take i)/\szL ts+bK (ms.drop i) +1+sp<=r)
   ⟨Nat.zero_le _,none,none,r-1-bK ms,[],[],rfl,k4,tt4,hb4,hpa4,g4,.nil,.nil,by show 0+bK ms+1+_<=r;lia⟩ (fun i σ H' _ h=>by obtain ⟨_,_,_,_,_,_,_,_,_,_,h,_⟩:=h;exact SqT.of h) ?_ ?_
  ·rintro i x σ H5 hx ⟨hi,o9,o10,sp,pvs,ts,rfl,k5,tt5,hb5,hpa5,gp5,hT5,hO5,hs5⟩
   have hil:i< (bE fr.parts).length:=(List.getElem?_eq_some_iff.mp hx).1
   rw [cR]at hil
   obtain ⟨pq,hpq⟩: ∃ pq,fr.parts[i]? =some pq:=⟨fr.parts[i],List.getElem?_eq_getElem hil⟩
   obtain ⟨mi,hmi,hLi⟩:=aZ hms hpq
   have hdrop:=jP ms i mi hmi
   have ex:x=.str pq.name:=by
    unfold bE at hx
    rw [List.getElem?_map,hpq]at hx
    exact (Option.some.inj hx).symm
   subst ex
   refine ⟨_,rfl,_,rfl,_,_,rfl,rfl,tp,_,rfl,tt5,by show (0:Int) < (sp:Int) +1;lia,by show (sp:Int) +1<_;lia,fun mo t2 hm0 hm1=>?_⟩
   obtain ⟨mo,rfl⟩: ∃ k:Nat,mo=(k:Int):=⟨mo.toNat,by lia⟩
   have hm1':mo<=sp:=by
    have:(mo:Int) < (sp:Int) +1:=hm1
    lia
   have k6:Kp tp H5 (upd H5 tp (.lst [.int t2])):=Kp.tape
   have tt6:Tp (upd H5 tp (.lst [.int t2])) tp:=⟨t2,ab⟩
   generalize upd H5 tp (.lst [.int t2])=H6 at k6 tt6 ⊢
   refine ⟨_,rfl,_,rfl,_,_,rfl,rfl,?_⟩
   rw [show ((fun (i j:Int)=>V.int (i-j)) (sp:Int) (mo:Int))=V.int ((sp-mo:Nat):Int)from congrArg V.int (show (sp:Int) - (mo:Int)=((sp-mo:Nat):Int) by lia)]
   have k06:Kp tp H H6:=k5.trans k6
   have gp6:=k6 _ _ gp5 npl
   have gd6:=k06 _ _ gd0 ndt
   refine ⟨_,rfl,.inl ⟨rfl,_,SqL.of gp6⟩,?_⟩
   refine ⟨_,rfl,_,rfl,_,rfl,_,rfl,_,rfl,_,rfl,d,_,rfl,gE gd6 hLi,_,rfl,_,_,rfl,rfl,?_⟩
   refine ⟨tp,_,d,bk,pq,mi+mo,mi,rfl,hB.mono (k06.tk tt0),hok,hI,gd6,tt6,hpin pq (List.mem_of_getElem? hpq),hLi,by lia,by lia,by lia,fun v t H7 rT tO tsz k7 tt7=>?_⟩
   have gp7:=k7 _ _ gp6 npl
   have lts:=Paired.length hT5
   have lto:=Paired.length hO5
   rw [List.length_take]at lto
   refine ⟨pl,pvs,v,rfl,rfl,gp7,au (by lia),?_⟩
   have tk:TK H7 (upd H7 pl (.lst (pvs++[v]))):=TK.lst gp7
   have tk5:TK H5 H7:=(k6.trans k7).tk tt5
   refine ⟨by rw [cR];exact hil,_,_,sp-mo,pvs++[v],ts++[t],rfl,?_,?_,?_,?_,ab,?_,?_,?_⟩
   ·intro y oo h hny
    rw [ai (af h hpl0)]
    exact (k06.trans k7) _ _ h hny
   ·obtain ⟨t',ht'⟩:=tt7
    exact ⟨t',by rw [ai (Ne.symm npl)];exact ht'⟩
   ·exact tk _ _ (tk5 _ _ hb5)
   ·exact tk _ _ (tk5 _ _ hpa5)
   ·exact Paired.snoc (Paired.mapP hT5 fun _ _ r=>r.mono (tk5.trans tk)) (rT.mono tk)
   ·rw [List.take_add_one,hpq]
    exact Paired.snoc hO5 tO
   ·rw [iT]
    show szL ts+ (t.sz+0) +bK (ms.drop (i+1)) +1+ (sp-mo)<=r
    lia
  ·rintro σ H5 ⟨_,o9,o10,sp,pvs,ts,rfl,k5,tt5,hb5,hpa5,gp5,hT5,hO5,hs5⟩
   rw [cR,List.take_length]at hO5
   refine ⟨_,rfl,b,_,0,_,rfl,rfl,SqT.of hb5,cf,_,rfl,pl,pvs,rfl,.inl ⟨SqL.of gp5,fun pt hpt=>?_⟩⟩
   have s6:=ag hpt (.tup pvs)
   have g6:(upd H5 pt (.tup pvs)) pt=some (.tup pvs):=ab
   generalize upd H5 pt (.tup pvs)=H6 at s6 g6 ⊢
   refine ⟨(by show 2<=sizeLine;decide),fun pu hpu=>?_⟩
   have s7:=ag hpu (.tup [.str fr.name,.ref pt])
   refine q _ (.mk fr.name ts) _ ⟨pu,pt,pvs,rfl,ab,s7 _ _ g6,Paired.mapP hT5 fun _ _ r=>r.mono ((aG s6).trans (aG s7))⟩ ⟨⟨m,hm⟩,fr,hfm,rfl,eo,hO5⟩ ?_ ((k5.same s6).same s7) ((tt5.same s6).same s7)
   rw [iS]
   show szL ts+1<=r
   lia
theorem uw:FnOk P w K mg base CX0 2 f fd ["tape","book","least","sort","room"] (gP 0):=by
 have no: ∀ vs H Q E,¬ gP 0 vs H Q E:=fun vs H Q E h=>by
  obtain ⟨tp,bv,d,bk,sr,r,m,rfl,hB,hok,hI,gd0,tt0,hsr,hm,hmr,hrn,_⟩:=h
  have:=(hI.small hok hm).1
  lia
 exact ⟨fun vs H Q E h=>absurd h (no vs H Q E),fun A outer s H args us vs Q E _ _ _ _ h=>absurd h (no vs H Q E)⟩
theorem qt (F:Fun K "_law_tree" "_law_tree" iY f fd) (G:Gb mg) (hsum:mg "sum"=none)
  (GD:FnOk P w K mg base CX0 1 g gd ["tape","many"] bH) (bD:Binds K gd ["tape","many"] []) (kD:PySem.W.keepIn K (.ref g)=true) (mD:mg "_law_digit"=some (.ref g))
  (bT:Binds K fd ["tape","book","least","sort","room"] []) (mT:mg "_law_tree"=some (.ref f)): ∀ n:Nat,FnOk P w K mg base CX0 (n+2) f fd ["tape","book","least","sort","room"] (gP n)
 | 0=>uw
 | n+1=>uu F G hsum GD bD kD mD (qt F G hsum GD bD kD mD bT mT n) bT mT
theorem jB {α:Type} {J:It} {as:List α} {xs:List V} {A:α->V->Prop} {fr:List Nat} {tc:TT} {te:TE} {σ:St} {H1:Hp} {Q:VK} (hn:xs.length<=1000) (hP:Paired A as xs)
  (hgo: ∀ i H,Same H1 H->i<xs.length->J.go i H) (hst: ∀ H,Same H1 H->J.stop xs.length H) (hy: ∀ i H v H',Same H1 H->J.yld i H v H'->H'=H/\xs[i]? =some v)
  (c:α->Bool) (R:Hp->α->V->Prop) (mono: ∀ {H H':Hp} {a:α} {v:V},TK H H'->R H a v->R H' a v)
  (htc: ∀ a v H (k:Bool->Hp->Prop),a∈as->A a v->Same H1 H->k (c a) H->tc (some v::bi fr σ) H k)
  (hte: ∀ a v H (k:VK),a∈as->A a v->c a=true->Same H1 H->(∀ u H',Same H H'->R H' a u->k u H')->te (some v::bi fr σ) H k)
  (hd: ∀ p zs H',H1 p=none->Same H1 H'->H' p=some (.lst zs)->Paired (R H') (as.filter c) zs->Q (.ref p) H'):kH fr tc te σ J H1 Q:=by
 intro p hp
 refine ⟨fun i m zs H=>i<=xs.length/\m=xs.length-i/\Same H1 H/\H p=some (.lst zs)/\zs.length<=i/\Paired (R H) ((as.take i).filter c) zs,⟨_,Nat.zero_le _,rfl,ag hp _,ab,Nat.le_refl _,.nil⟩,?_⟩
 rintro i m zs H ⟨hi,hm,sm,gp,hz,hT⟩
 refine ⟨gp,?_⟩
 by_cases e:i=xs.length
 ·subst e
  rw [<- Paired.length hP,List.take_length]at hT
  exact .inl ⟨hst H sm,hd p zs H hp sm gp hT⟩
 ·have hlt:i<xs.length:=by lia
  refine .inr ⟨hgo i H sm hlt,au (by lia),fun v H' hv=>?_⟩
  obtain ⟨rfl,hv2⟩:=hy i H v H' sm hv
  obtain ⟨a,ha,hA⟩:=aN hP hv2
  have etk:(as.take (i+1)).filter c=(as.take i).filter c++(if c a then [a]else []):=take_succ_filter c as i a ha
  refine htc a v _ _ (List.mem_of_getElem? ha) hA sm ?_
  by_cases hc:c a=true
  ·rw [if_pos hc]at etk
   show if c a=true then _ else _
   rw [if_pos hc]
   refine hte a v _ _ (List.mem_of_getElem? ha) hA hc sm fun u H2 s2 r=>?_
   have gp2:=s2 _ _ gp
   have tk:TK H2 (upd H2 p (.lst (zs++[u]))):=TK.lst gp2
   refine ⟨gp2,xs.length- (i+1),by lia,by lia,rfl,?_,ab,by rw [List.length_append];show zs.length+1<=i+1;lia,?_⟩
   ·intro b o hb
    rw [ai (af hb hp)]
    exact s2 _ _ (sm _ _ hb)
   ·rw [etk]
    exact Paired.snoc (Paired.mapP hT fun _ _ r=>mono ((aG s2).trans tk) r) (mono tk r)
  ·rw [if_neg hc,List.append_nil]at etk
   show if c a=true then _ else _
   rw [if_neg hc]
   exact ⟨xs.length- (i+1),by lia,by lia,rfl,sm,gp,by lia,by rw [etk];exact hT⟩
theorem j1 {α:Type} {h:α->V}: ∀ {l:List α} {r:List V},Paired (fun (a:α) (v:V)=>v=h a) l r->r=l.map h
 | _,_,.nil=>rfl
 | _,_,.cons a t=>by rw [a,j1 t];rfl
noncomputable def qg (n:Nat):Sp:=fun vs H Q _=> ∃ tp bv bk r,vs=[.ref tp,bv,.int ((r:Nat):Int)]/\RepB H bk bv/\ik bk/\Tp H tp/\max r 40<=n/\n<=1000/\
 ∀ v t s H',RepT H' n t v->s∈bk.sorts->TreeOk bk n t s->t.sz<=max r 40->LI bk (a7 bk)->Kp tp H H'->Tp H' tp->Q v H'
noncomputable abbrev vj:List Str:=["tape","book","room","least","sort","grown"]
theorem scGrown:aH vj ["tape","book","room"] (ah lC):=fsc
theorem uG {n:Nat} (F:Fun K "_law_grown_tree" "_law_grown_tree" lC f fd) (G:Gb mg)
  (GD:FnOk P w K mg base CX0 1 g gd ["tape","many"] bH) (bD:Binds K gd ["tape","many"] []) (kD:PySem.W.keepIn K (.ref g)=true) (mD:mg "_law_digit"=some (.ref g))
  (GL:FnOk P w K mg base CX0 1 f2 fd2 ["book"] qc) (bL:Binds K fd2 ["book"] []) (kL:PySem.W.keepIn K (.ref f2)=true) (mL:mg "_law_least"=some (.ref f2))
  (GT:FnOk P w K mg base CX0 (n+2) f3 fd3 ["tape","book","least","sort","room"] (gP n)) (bT:Binds K fd3 ["tape","book","least","sort","room"] []) (kT:PySem.W.keepIn K (.ref f3)=true) (mT:mg "_law_tree"=some (.ref f3)):
  FnOk P w K mg base CX0 (n+3) f fd ["tape","book","room"] (qg n):=by
 refine F.ok scGrown (fun vs H Q E h=>?_) (fun cdv A outer s H vs Q E hr h=>?_)
 ·obtain ⟨tp,bv,bk,r,rfl,_⟩:=h
  rfl
 obtain ⟨tp,bv,bk,r,rfl,hB,hok,tt0,hrn,hn1000,q⟩:=h
 have hB':=hB
 obtain ⟨a,sa,fa,fv,rfl,ha,⟨sx,hsa,hS⟩,hfa,hF⟩:=hB'
 have hu:=dh hr
 have hr1:=hr.mono (show 1<=n+2 by lia)
 refine ⟨_,ad (am (i:=3) scGrown.nd rfl (Or.inr rfl) (al GL hr1 rfl mL kL bL .nil ax (aa (pv 1) ac)))
  (ad (jb (i:=5) (sc0:=ah lC) (N0:=vj) (ys:=["least"]) (fr:=[3]) rfl scGrown.nd rfl (Or.inl rfl)
    (a8 (aq aB (pv 1) ae (fun _ _=>rfl))) rfl rfl
    cok
    (fun C s H ex=>oR (hV hu (aq (r:=lG K) aB (pv 0) ae (fun _ _=>rfl)) (pv 1)))
    (fun C s H ex=>aq (r:=lG K) aB (pv 0) ae (fun _ _=>rfl)))
  (ad (am (i:=4) scGrown.nd rfl (Or.inl rfl) (aq aL (pv 5) (al GD hr1 rfl mD kD bD .nil ax (aa (pv 0) (aa (aA aJ rfl G.len PySem.boot_len (aa (pv 5) ac)) ac))) (fun _ _=>rfl)))
  (aj (ay (al GT hr rfl mT kT bT .nil ax (aa (pv 0) (aa (pv 1) (aa (pv 3) (aa (pv 4) (aa
   (aA (ij rfl) rfl G.max (by decide +kernel) (aa (pv 2) (aa (be hu (pv 3) (pv 4) (fun _ _=>rfl)) ac))) ac)))))))))),?_⟩
 refine ⟨_,rfl,_,bk,rfl,hB,hok,fun d H1 hd s1 gd1 hI hT=>?_⟩
 have h4:=hok.so.2.1
 have lS:=hS.len
 refine ⟨_,rfl,a,_,1,.ref sa,rfl,rfl,SqT.of (s1 _ _ ha),ao (j:=1) rfl,sa,rfl,⟨sx,SqT.of (s1 _ _ hsa)⟩,?_⟩
 refine jB (by lia) hS (fP (s1 _ _ hsa)) (fO (s1 _ _ hsa)) (jr (s1 _ _ hsa)) (dB (a7 bk)) (fun _ s v=>v=.str s.name) (fun _ h=>h) ?_ ?_ ?_
 ·rintro sr v H' k _ ⟨a1,b1,c1,rfl,g1,_⟩ s' hk
  exact ⟨_,rfl,a1,_,0,_,rfl,rfl,SqT.of (s' _ _ (s1 _ _ g1)),cf,_,rfl,d,_,rfl,DGet.k (k:=.inr sr.name) (s' _ _ gd1),_,rfl,hk⟩
 ·rintro sr v H' k _ ⟨a1,b1,c1,rfl,g1,_⟩ _ s' hk
  exact ⟨_,rfl,a1,_,0,_,rfl,rfl,SqT.of (s' _ _ (s1 _ _ g1)),cf,hk _ _ (fun _ _ h=>h) rfl⟩
 intro gl zs H2 hgl s2 ggl hz
 have ez:=j1 hz
 subst ez
 have S2:Same H H2:=s1.trans s2
 have tt2:=tt0.same S2
 have hpos:0< (bk.sorts.filter (dB (a7 bk))).length:=by
  have h1:=hok.so.1
  have h2:=hok.more
  obtain ⟨fr,hfr,m,hm⟩:=hT
  obtain ⟨mode,_,hfo⟩:=hok.fo
  have:=(hfo fr hfr).1
  refine List.length_pos_of_mem (List.mem_filter.mpr ⟨this,?_⟩)
  unfold dB
  rw [show aP (a7 bk) (.inr fr.own.name)=_ from hm]
  rfl
 have hfl:(bk.sorts.filter (dB (a7 bk))).length<=bk.sorts.length:=List.length_filter_le _ _
 have lmap:((bk.sorts.filter (dB (a7 bk))).map fun s=>V.str (Srt.name s)).length=(bk.sorts.filter (dB (a7 bk))).length:=List.length_map _
 refine ⟨_,rfl,_,rfl,_,rfl,gl,_,rfl,.inl (SqL.of ggl),tp,_,rfl,tt2,by lia,by lia,fun dd t1 hd0 hd1=>?_⟩
 obtain ⟨x,ex,ex2⟩:=dF hd0 hd1
 have k3:Kp tp H (upd H2 tp (.lst [.int t1])):=(Kp.refl.same S2).trans Kp.tape
 have tt3:Tp (upd H2 tp (.lst [.int t1])) tp:=⟨t1,ab⟩
 have ngl:gl≠tp:=cW (tt0.same s1) hgl
 have nd:d≠tp:=cW tt0 hd
 have g3:(upd H2 tp (.lst [.int t1])) gl=some (.lst ((bk.sorts.filter (dB (a7 bk))).map fun s=>V.str (Srt.name s))):=by rw [ai ngl];exact ggl
 have gd3:(upd H2 tp (.lst [.int t1])) d=some (.dK (a7 bk)):=by rw [ai nd];exact s2 _ _ gd1
 generalize upd H2 tp (.lst [.int t1])=H3 at k3 tt3 g3 gd3 ⊢
 refine ⟨gl,_,dd,x,rfl,rfl,SqL.of g3,ex,?_⟩
 obtain ⟨sr,hsr,rfl⟩: ∃ sr,sr∈bk.sorts.filter (dB (a7 bk))/\x=V.str (Srt.name sr):=by
  obtain ⟨sr,h1,h2⟩:=List.mem_map.mp (List.mem_of_getElem? ex2)
  exact ⟨sr,h1,h2.symm⟩
 obtain ⟨hsin,hshas⟩:=List.mem_filter.mp hsr
 obtain ⟨v,hv⟩:=Option.isSome_iff_exists.mp (show (aP (a7 bk) (.inr sr.name)).isSome=true from hshas)
 obtain ⟨m,rfl,_⟩:=hI.val hv
 have hm40:=hI.small hok hv
 refine ⟨_,rfl,_,rfl,_,rfl,_,rfl,_,rfl,_,rfl,_,rfl,d,_,rfl,gE gd3 hv,_,_,rfl,?_⟩
 have em:(if (m:Int) > (r:Int)then (m:Int)else (r:Int))=((max r m:Nat):Int):=by
  by_cases c:(m:Int) > (r:Int)
  ·rw [if_pos c];lia
  ·rw [if_neg c];lia
 rw [em]
 refine ⟨tp,_,d,bk,sr,max r m,m,rfl,hB.mono (k3.tk tt0),hok,hI,gd3,tt3,hsin,hv,by lia,by lia,by lia,fun v t H4 rT tO tsz k4 tt4=>?_⟩
 exact q v t sr H4 rT hsin tO (by lia) hI (k3.trans k4) tt4
structure BkS (bk:Bk):Prop where
 few:bk.forms.length<=10
 nd:(bk.forms.map Frm.name).Nodup
 s4:bk.sorts.length<=4
 sd:(bk.sorts.map Srt.name).Nodup
 ws: ∀ s∈bk.sorts,s.downs.length<=3/\s.ups.length<=3/\(s.downs++s.ups).Nodup/\ ∀ x∈s.downs++s.ups,x.length<=1000
 fo: ∀ fr∈bk.forms,fr.own∈bk.sorts/\(∀ q∈fr.parts,q∈bk.sorts)/\fr.parts.length<=3/\fr.rules.map (fun r=>(r.pl,r.word))=qW fr.own fr.parts/\ ∀ r∈fr.rules,r.fm.wf/\r.fm.size<=15
theorem jO {k:Int}: ∀ {qs:List Srt},(∀ q∈qs,q.downs.length<=3)->(eB k qs).length<=3*qs.length
 | [],_=>Nat.le_refl _
 | q::r,h=>by
  have h1:=jO (k:=k+1) (qs:=r) fun x hx=>h x (List.mem_cons_of_mem _ hx)
  have h2:=h q List.mem_cons_self
  show (q.downs.map (fun x=>(k,x))++eB (k+1) r).length<=_
  rw [List.length_append,List.length_map,List.length_cons]
  lia
theorem BkS.rules12 {bk:Bk} (h:BkS bk) {fr:Frm} (m:fr∈bk.forms):fr.rules.length<=12:=by
 obtain ⟨h1,h2,h3,h4,_⟩:=h.fo fr m
 have e:=congrArg List.length h4
 rw [List.length_map]at e
 have h5:=jO (k:=0) (qs:=fr.parts) fun q hq=>(h.ws q (h2 q hq)).1
 have h6:=(h.ws _ h1).2.1
 have h7:(qW fr.own fr.parts).length=fr.own.ups.length+ (eB 0 fr.parts).length:=by
  unfold qW
  rw [List.length_append,List.length_map]
 lia
end My
namespace L2
open PySem PySem.Spec PyProof.Rows
section
variable {X:Cx}
theorem uq:OpR X (binaryOp .Add) (fun x y H Q=> ∃ a b xs ys,x=.ref a/\y=.ref b/\SqT X.K H a xs/\SqT X.K H b ys/\xs.length+ys.length<=sizeLine/\(xs=[]->Q (.ref b) H)/\(xs≠[]->ys=[]->Q (.ref a) H)/\
  (xs≠[]->ys≠[]-> ∀ p,H p=none->Q (.ref p) (upd H p (.tup (xs++ys))))):=by
 intro pins s σ H x y v u Q I rx ry h
 obtain ⟨a,b,xs,ys,rfl,rfl,ha,hb,hz,q0,q1,q2⟩:=h
 by_cases hx:xs=[]
 ·subst hx
  cases rx
  cases ry
  obtain ⟨its,r1,p1,_⟩:=I.tuple ha
  obtain ⟨its2,r2,p2,_⟩:=I.tuple hb
  cases r1
  obtain ⟨⟨cls,dd,data,sl⟩,ho,hc,n,hd⟩:=id p1
  obtain ⟨⟨cls2,dd2,data2,sl2⟩,ho2,hc2,n2,hd2⟩:=id p2
  simp only at hc hd hc2 hd2
  subst hc hd hc2 hd2
  exact concat_meets ⟨_,ho,rfl⟩ ⟨_,ho2,rfl⟩ noFill_tuple_add seq_tuple_add PySem.F.slot_tuple_add PySem.F.entry_tuple_add (PySem.F.args_tuple_add_2 _ _)
   (tuple_addW0 a b #[] its2.toArray n n2 dd dd2 sl sl2 rfl) ⟨ho,ho2,⟨.ref b,H,I,rfl,q0 rfl⟩⟩
 ·exact vM pins s σ H _ _ v u Q I rx ry ⟨a,b,xs,ys,rfl,rfl,ha,hb,hx,hz,q1 hx,q2 hx⟩
end
end L2
namespace HT
open PySem PyProof.Rows
open PySem.AutoSeq1 (wpAny_loadPart')
section
variable {prog:Program} {w:World} {A:Around} {s:Shared} {E:Value->Shared->Prop}
noncomputable def eO (it:Addr):Obj:={cls:=.type "enumerate",data:=.fields #[.none,.bool false,.ref it,rawInt 0,.none,.none]}
theorem sw (l:Addr) (o:Obj) (items:Array Value):Meets (Builtin.«enumerate.__new__» ⟨[.type "enumerate",.ref l],[]⟩)
  (fun _ R s=>s.heap.get? l=some o/\s.heap.IsTuple l items/\R (.ok (.ret (.ref (s.heap.push (tIt l)).objs.size))) {s with heap:=(s.heap.push (tIt l)).push (eO s.heap.objs.size)}):=
 .of_wp fun prog w A R s h=>by
  obtain ⟨hp,g,d,tk,os⟩:=s
  obtain ⟨hl,a1,h⟩:=h
  have hsub:=sub_enumerate
  have b1:Heap.IsTuple (Shared.heap ⟨hp,g,d,tk,os⟩) l items:=a1
  wp_walk using wpAny_loadPart' hl
  refine wpAny_stack_any fun st=>wpAny_pure ?_
  split
  ·rename_i c _ _ _ _ _
   cases (c==Value.type "enumerate") <;> (wp_walk using wpAny_loadPart' hl,wpAny_pyIter_tuple b1;exact ⟨_,rfl,h⟩)
  ·wp_walk using wpAny_loadPart' hl,wpAny_pyIter_tuple b1
   exact ⟨_,rfl,h⟩
theorem call_enumT {l:Addr} {items:Array Value} {Q:Value->Shared->Prop} (a1:s.heap.IsTuple l items)
  (q: ∀ h',IsEnum h' (s.heap.objs.size+1) s.heap.objs.size 0 .none->h'.IsTupleIter s.heap.objs.size l 0->(∀ b o,s.heap.get? b=some o->h'.get? b=some o)->Q (.ref (s.heap.objs.size+1)) {s with heap:=h'}):
  wpAny (model prog w) A (call (.type "enumerate") [.ref l]) Q E s:=by
 obtain ⟨o,ho,_⟩:=id a1
 refine callType_new PySem.F.called_enumerate (by decide) (PySem.F.typeCall_enumerate_1 _) (PySem.F.newCall_enumerate_1 _) (fun obj=>PySem.F.args_object_init_2 obj _) PySem.F.entry_enumerate_new (sw l o items) ⟨ho,a1,?_⟩
 have z1:(s.heap.push (tIt l)).objs.size=s.heap.objs.size+1:=Heap.size_push ..
 have g2:((s.heap.push (tIt l)).push (eO s.heap.objs.size)).get? (s.heap.push (tIt l)).objs.size=some (eO s.heap.objs.size):=Heap.get?_push_size _ rfl
 have g1:((s.heap.push (tIt l)).push (eO s.heap.objs.size)).get? s.heap.objs.size=some (tIt l):=Heap.get?_push_of_some _ (Heap.get?_push_size _ rfl)
 show _/\_
 rw [z1]at g2 ⊢
 exact ⟨⟨_,g2,rfl⟩,q _ g2 ⟨_,g1,rfl,rfl⟩ fun b o x=>Heap.get?_push_of_some _ (Heap.get?_push_of_some _ x)⟩
end
end HT
namespace L2
open PySem PySem.Spec PyProof.Rows
noncomputable def Ite (l:Addr):It:=
 ⟨fun i H=> ∃ xs x,H l=some (.tup xs)/\xs[i]? =some x,
  fun i H v H'=> ∃ T x,H T=none/\v=.ref T/\H'=upd H T (.tup [.int (i:Int),x])/\ ∀ xs,H l=some (.tup xs)->xs[i]? =some x,
  fun i H=> ∃ xs,H l=some (.tup xs)/\xs.length=i⟩
noncomputable def zj (e it l:Addr) (i:Nat) (h:Heap):Prop:=(∃ old,IsEnum h e it (i:Int) old)/\HT.SIter true h it l i
theorem fp2 {e it b:Addr} (h:b∈[e,it]):b=e\/b=it:=by simpa using h
theorem qV {P:Program} {w:World} {K:PySem.W.Frag} {es:List Expr} {kk:Nat} {tpos:Pos} (e it l:Addr) (nd:e≠it):ot P w K (.Tuple es kk tpos) (Ite l) [e,it] e (zj e it l):=by
 have ap: ∀ {X:Cx} {pins:List (Addr×Obj)} {H:Hp} {xs:List V},(∀ b∈[e,it],iA X pins H b)->H l=some (.tup xs)->e≠l/\l≠it:=by
  intro X pins H xs hf h1
  have a: ∀ b∈[e,it],b≠l:=fun b hb=>(af h1 (hf b hb).1).symm
  exact ⟨a e (by simp),Ne.symm (a it (by simp))⟩
 refine ⟨by simp,fun i h st b hb=>?_,fun i h h' st k=>?_,?_,?_,fun _ _ _ _ _ st h=>wpAny_pyIter_enum st.1.choose_spec h⟩
 ·obtain ⟨⟨old,h1⟩,h2⟩:=st
  rcases fp2 hb with rfl | rfl
  ·exact ⟨_,h1,fun v e=>nomatch e⟩
  ·exact h2.obj
 ·obtain ⟨⟨old,h1⟩,h2⟩:=st
  exact ⟨⟨old,k e (by simp) _ h1⟩,h2.at fun o z=>k it (by simp) o z⟩
 ·intro X hP hw hK hc i pins s σ H E I hf st hg
  subst hP hw hK
  obtain ⟨xs,x,hx,ex⟩:=hg
  obtain ⟨its,r1,q1,_⟩:=I.seqS (c:=true) hx
  obtain ⟨u,hu,ru⟩:=r1.get ex
  obtain ⟨⟨old,z0⟩,s1⟩:=st
  obtain ⟨a1,a2⟩:=ap hf hx
  refine wpAny_pyNext_enum_itemD (HT.draws_seq (A:=X.A.in1) true (I.ok.hd hc) it l a2 its.toArray) z0 ⟨s1,q1⟩ (by rw [List.size_toArray];exact (List.getElem?_eq_some_iff.mp hu).1) nd
   (by simp only [List.mem_cons,List.not_mem_nil,or_false,not_or];exact ⟨nd,a1⟩) fun x' h' tk px z1 t1 pr _ kk=>?_
  have ex':x'=u:=by
   have p1:its[i]? =some x':=by simpa using px
   rw [hu]at p1;exact (Option.some.inj p1).symm
  subst ex'
  refine ⟨_,rfl,wpAny_letOwnedTupleGo_enum z1 fun h'' z2 sb=>?_⟩
  have lt: ∀ {b:Addr} {ob:Obj},s.heap.get? b=some ob->b≠s.heap.objs.size:=fun e=>Nat.ne_of_lt (Heap.lt_size e)
  have fT:H s.heap.objs.size=none:=I.hok.fresh (Nat.le_refl _)
  have keep: ∀ b ob,b∉[e,it]->s.heap.get? b=some ob->h''.get? b=some ob:=fun b ob hb z=>by
   simp only [List.mem_cons,List.not_mem_nil,or_false,not_or]at hb
   exact sb.extBut b ob hb.1 (kk b ob hb.1 hb.2 z)
  have trk: ∀ b uo,H b=some uo->b∉[e,it]:=fun b uo z hb=>by rw [(hf b hb).1]at z;cases z
  have ptT:=sb.extBut _ _ (Ne.symm (lt z0)) pr
  have I2:Inv X pins σ (upd H s.heap.objs.size (.tup [.int (i:Int),x])) {s with heap:=h'',toks:=tk+1}:=by
   refine I.step (g':=s.gens) (d':=s.drawn) (ch:=[e,it]) (fun b hb=>?_) (fun b ob _ _ hb z _=>keep b ob hb z) (fun b ob _ _ hb z _=>⟨ob.slots,keep b ob hb z⟩) (fun b ob hb z n=>by rw [ai (lt z)];exact n)
    (fun b ob hb z=>⟨ob,keep b ob hb z⟩) (fun b zs z=>by rw [ai (af z fT)];exact z) (fun b ob uo z=>by rw [ai (af z fT)];exact z) (fun b ps z=>⟨#[],by rw [ai (af z fT),z];simp⟩) (fun m hm=>?_) (fun b uo z=>?_) I.bare
   ·obtain ⟨_,f1,_,f3,f4,f5⟩:=hf b hb
    exact ⟨f3,f1,f4,f5⟩
   ·obtain ⟨ob,es',ep,ho,r⟩:=hm
    exact ⟨ob,es',ep,keep _ ob (fun hb=>(hf _ hb).2.1 rfl) ho,r⟩
   ·by_cases hb:b=s.heap.objs.size
    ·subst hb
     rw [ab]at z
     cases z
     exact ⟨by show 2<=sizeLine;decide,[.int (i:Int) tk,x'],.cons ⟨tk,rfl⟩ (.cons ru .nil),_,ptT,rfl,_,rfl⟩
    ·rw [ai hb]at z
     refine (I.hok b uo z).stay (fun c' v' hc' q=>keep c' v' ?_ q) (fun c' q=>by rw [ai (af q fT)];exact q) fun c' zs q=>by rw [ai (af q fT)];exact q
     rcases hc' with h | h
     ·rw [h];exact trk b uo z
     ·exact trk c' _ h
  refine ⟨.ref s.heap.objs.size,_,I2,rfl,⟨_,x,fT,rfl,rfl,fun xs' h1=>?_⟩,⟨⟨_,by rw [Int.natCast_add];exact z2⟩,t1.1.at fun o z=>sb.extBut _ o (Ne.symm nd) z⟩,fun b hb=>?_⟩
  ·rw [hx]at h1
   cases h1
   exact ex
  ·have hb': ∃ ob,s.heap.get? b=some ob:=by
    rcases fp2 hb with rfl | rfl
    ·exact ⟨_,z0⟩
    ·obtain ⟨ob,z,_⟩:=s1.obj;exact ⟨ob,z⟩
   obtain ⟨ob,z⟩:=hb'
   rw [ai (lt z)]
   exact (hf b hb).1
 ·intro X hP hw hK hc i pins s σ H E I hf st hg
  subst hP hw hK
  obtain ⟨xs,hx,l'⟩:=hg
  obtain ⟨its,r1,q1,_⟩:=I.seqS (c:=true) hx
  obtain ⟨⟨old,z0⟩,s1⟩:=st
  obtain ⟨a1,a2⟩:=ap hf hx
  have hi:i=its.toArray.size:=by rw [List.size_toArray,<- l'];exact r1.length
  rw [hi]at s1
  refine wpAny_pyNext_enum_endD (HT.draws_seq (A:=X.A.in1) true (I.ok.hd hc) it l a2 its.toArray) z0 ⟨s1,q1⟩ fun h' eb=>⟨rfl,?_⟩
  exact I.turned (t':=s.toks) (it:=it) (fun b ob hb z=>eb b ob hb z) (hf it (by simp)).1 (hf it (by simp)).2.1 (hf it (by simp)).2.2.2.1 (hf it (by simp)).2.2.2.2.1 (hf it (by simp)).2.2.2.2.2
noncomputable def yn (ta:TA):TI:=fun σ H R=>ta σ H fun vs H1=> ∃ l xs,vs=[.ref l]/\H1 l=some (.tup xs)/\R (Ite l) H1
theorem qm {X:Cx} {es:List Expr} {kk:Nat} {tpos:Pos} {a:Expr} {ta:TA} {p pos:Pos} (hg:Gl X "enumerate") (hm:X.mg "enumerate"=none) (ha:PA X [a] ta) (hs:starEach [a] X.env=[(false,eval a X.env)]:=by rfl):
  PI X (.Tuple es kk tpos) (.Call (.Name "enumerate" p) [a] [] pos) (yn ta):=by
 intro pins s σ H R I h
 refine Call_ (eM I hg hm (show bootBuiltins "enumerate"=some (.type "enumerate") by decide +kernel) (PyProof.Rows.callWith_type1 (thn (ha pos pins s σ H _ I h) fun us s1 ⟨vs,H1,I1,r1,q1⟩=>?_) (by rw [hs];rfl) rfl))
 obtain ⟨l,xs,rfl,hx,q⟩:=q1
 obtain ⟨u,rfl,ru⟩:=fB r1
 cases (show u=Value.ref l from ru)
 obtain ⟨its,_,e1,_⟩:=I1.seqS (c:=true) hx
 refine HT.call_enumT e1 fun h' a1 a2 kp=>?_
 have I2:Inv X pins σ H1 {s1 with heap:=h'}:=I1.kept (t':=s1.toks) kp
 refine wpAny_pyIter_enum a1 ?_
 refine ⟨s1.heap.objs.size+1,[s1.heap.objs.size+1,s1.heap.objs.size],_,_,H1,rfl,I2,qV _ _ l (Nat.succ_ne_self _),⟨⟨_,a1⟩,a2⟩,fun b hb=>?_,q⟩
 have hb':s1.heap.objs.size<=b:=by rcases fp2 hb with rfl | rfl <;> lia
 exact I1.fpOk hb' (I1.hok.fresh hb')
section
variable {X:Cx} {x x2:Str} {px px2 tpos pos fpos:Pos} {kk:Nat} {iter elt:Expr} {scope sc0:Scope} {N0 ys:List Str} {fr:List Nat} {wi:TI} {te:TE}
theorem tZ {i:Nat} {y:Str} {py spos:Pos} (hcalm:X.calm=true) (hnd:X.N.Nodup) (hiN:X.N[i]? =some y) (hy:Loc X.env.scope y) (hi:PI X (.Tuple [.Name x px,.Name x2 px2] kk tpos) iter wi) (hsc:X.env.scope=sc0) (hN:X.N=N0) (ok:ma sc0 N0 scope x x2 ys fr)
  (hE: ∀ C s H ex,PE (cP X x x2 ys scope C s H ex) elt te) (hsw:swapsWith (.ListComp elt [⟨.Tuple [.Name x px,.Name x2 px2] kk tpos,iter,[],0⟩] scope pos) (some (.Name y py)) spos.line X.env=pure true:=by rfl)
  (hs: ∀ v,foldedSetIterable iter X.env v=pure v:=by intro _;rfl) (hf:X.fn y=true\/X.env.scope.names.lookup y=some .local:=by first | exact .inl rfl | exact .inr rfl | assumption):
  PS X (.Assign [.Name y py] (.ListComp elt [⟨.Tuple [.Name x px,.Name x2 px2] kk tpos,iter,[],0⟩] scope pos) spos) (mj (oE wi fr te) (dC i)):=by
 intro pins s σ H D I h
 rw [exec_Assign_Name_used _ _ _ _ hsw]
 refine wpAny_bind (wpAny_standAt (wpAny_bind ?_))
 show wpAny _ X.A (do let _ <- comprehension (.ListComp elt [⟨.Tuple [.Name x px,.Name x2 px2] kk tpos,iter,[],0⟩] scope pos) scope X.env _ (newList []) false (eval iter X.env) (some (assign (.Name y py) X.env))) _ _ s
 refine wpAny_bind (thn (jA (use:=some (assign (.Name y py) X.env)) (Qv:=fun _ s'=>SP X pins D .next s') (Q:=fun v H'=>D.nx (σ.set i (some v)) H') hcalm hi hsc hN ok hE I h hs fun p C H' s' m I' hn h0 h1 h2 h3 h4 q=>?_) fun _ s' hq=>wpAny_pure (wpAny_pure hq))
 show wpAny _ X.A (assign (.Name y py) X.env (.ref p)) _ _ s'
 refine wpAny_assign_Name (dW (v:=.ref p) I' hnd hiN hy rfl (fun s'' I'' ⟨a,sb,ha⟩=>?_) hf)
 have hCa:C≠a:=by
  rcases ha with e | e
  ·rw [e];exact h1
  ·exact (h3 y a e).symm
 refine ⟨m,hn.sameBut sb hCa,fun h' sb'=>⟨_,H',I''.turned (t':=s''.toks) (fun b o hb e=>sb'.extBut b o hb e) h0 h1 (.inr h2) h3 h4,q⟩⟩
noncomputable def tV (K:PySem.W.Frag):R2:=fun x y H Q=> ∃ a b xs ys,x=.ref a/\y=.ref b/\SqT K H a xs/\SqT K H b ys/\xs.length+ys.length<=sizeLine/\(xs=[]->Q (.ref b) H)/\(xs≠[]->ys=[]->Q (.ref a) H)/\
 (xs≠[]->ys≠[]-> ∀ p,H p=none->Q (.ref p) (upd H p (.tup (xs++ys))))
theorem nB:OpR X (binaryOp .Add) (tV X.K):=by
 intro pins s σ H x y v u Q I rx ry h
 obtain ⟨a,b,xs,ys,e1,e2,h1,h2,h3,q1,q2,q3⟩:=h
 exact uq pins s σ H x y v u Q I rx ry ⟨a,b,xs,ys,e1,e2,h1,h2,h3,q1,q2,q3⟩
end
end L2
namespace HT
open PySem PyProof.Rows
section
variable {prog:Program} {w:World} {A:Around} {s:Shared} {E:Value->Shared->Prop}
theorem getItem_tuple_all {t sl:Addr} {items:Array Value} {vl vu:Value} {lo hi:Option Int} {Q:Value->Shared->Prop} (ht:IsTup s.heap t items) (hs:s.heap.IsSliceOf sl vl vu .none) (pl:IsPart vl lo) (pu:IsPart vu hi)
  (i1:sIx items.size 0 lo=0) (i2:sIx items.size items.size hi=items.size) (h:Q (.ref t) s):wpAny (model prog w) A (getItem (.ref t) (.ref sl)) Q E s:=by
 obtain ⟨os,hos,hcs,hds⟩:=id hs
 have hTs:s.TypeIs (.ref sl) "slice":=⟨os,hos,hcs⟩
 unfold getItem
 try with_reducible refine wpAny_holding ?_
 first | refine wpAny_bind (wpAny_pure ?_) | skip
 refine wpAny_bind (wpAny_sequenceKey ht.typeIs (by decide) (wpAny_bind (wpAny_callSpecial?_slot (name:=Str.ofString "__getitem__") ht.typeIs PyProof.Rows.slot_tuple_getitem
  (wpAny_call_entry PyProof.Rows.slot_tuple_getitem ht.typeIs entry_tuple_getitem ?_ (args_tuple_getitem _ _)))))
 refine (show wpAny _ _ (Builtin.Tuple.tupleItemsOf (.ref t) >>= _) _ _ s from wpAny_bind (tupleItemsOf_ ht (wpAny_bind (wpAny_typeOf hTs ?_))))
 rw [if_pos (by decide)]
 refine wpAny_bind (dX hs pl pu ?_)
 rw [i1,i2]
 refine (show wpAny _ _ (if (((0:Nat):Int)==0&&(1:Int)==1&&(items.size-0)==items.size)=true then _ else _) _ _ s from ?_)
 rw [if_pos (by simp)]
 refine wpAny_bind (m:=Builtin.Tuple.tupleIsExact _) ?_
 unfold Builtin.Tuple.tupleIsExact
 refine wpAny_bind (wpAny_typeOf ht.typeIs (wpAny_pure ?_))
 rw [if_pos (by decide)]
 exact wpAny_bind (wpAny_rule (wpAny_pure ⟨_,rfl,wpAny_pure h⟩))
end
end HT
namespace L2
open PySem PySem.Spec PyProof.Rows
section
variable {X:Cx}
noncomputable def yT:V->Option Int->Option Int->Hp->VK->Prop:=fun x lo hi H Q=> ∃ a xs,x=.ref a/\H a=some (.tup xs)/\ ∀ p H',(∀ b o,H b=some o->H' b=some o)->H' p=some (.tup (dD xs lo hi))->Q (.ref p) H'
theorem iC:SlR X yT:=by
 intro pins s σ H x v vl vu lo hi sl Q I rx hs pl pu h
 obtain ⟨a,xs,ex,hx,q⟩:=h
 by_cases hw:HT.sIx xs.length 0 lo=0/\HT.sIx xs.length xs.length hi=xs.length
 ·subst ex
  cases rx
  obtain ⟨its,r,ht,hz⟩:=I.tuple (SqT.of (K:=X.K) hx)
  have hl:=r.length
  refine ⟨"tuple",_,PyProof.Rows.slot_tuple_getitem.lookup,ht.typeIs,HT.getItem_tuple_all ht hs pl pu (by rw [List.size_toArray,<- hl];exact hw.1) (by rw [List.size_toArray,<- hl];exact hw.2) ⟨.ref a,H,I,rfl,q a H (fun _ _ h=>h) ?_⟩⟩
  rw [hx]
  unfold dD
  rw [hw.1,hw.2,List.drop_zero,Nat.sub_zero,List.take_length]
 ·exact lh pins s σ H x v vl vu lo hi sl Q I rx hs pl pu ⟨a,xs,ex,SqT.of hx,hw,fun p hp=>q p _ (fun b o e=>by rw [ai (af e hp)];exact e) ab⟩
theorem qp:OpR X (binaryOp .Mult) (rI IntMulOk fun i j=>.int (i*j)):=opI fun _ _ _ _ _ _ _ hc q=>mul_int q hc
theorem il: ∀ (ns:List Int) (a:Int),PySem.W.Num.sumInts a (ns.map PySem.W.WData.int)=some (.int (a+dw ns))
 | [],a=>by show some (PySem.W.WData.int a)=some (.int (a+0));rw [Int.add_zero]
 | n::r,a=>by
  have fold: ∀ (r:List Int) (b:Int),PySem.W.Num.foldFrom PySem.W.Num.add (.int b) (r.map PySem.W.WData.int)=some (.int (b+dw r)):=by
   intro r
   induction r with
   | nil=>intro b;show some (PySem.W.WData.int b)=some (.int (b+0));rw [Int.add_zero]
   | cons m r ih=>
    intro b
    show PySem.W.Num.foldFrom PySem.W.Num.add (.int (b+m)) (r.map PySem.W.WData.int)=some (.int (b+ (m+dw r)))
    rw [ih,Int.add_assoc]
  show (if (PySem.W.Num.fitsLong n&&PySem.W.Num.fitsLong (a+n))=true then PySem.W.Num.sumInts (a+n) (r.map PySem.W.WData.int)else PySem.W.Num.foldFrom PySem.W.Num.add (.int (a+n)) (r.map PySem.W.WData.int))=some (.int (a+ (n+dw r)))
  split
  ·rw [il r,Int.add_assoc]
  ·rw [fold,Int.add_assoc]
theorem ku (hc:X.calm=true):dG X (.builtin "sum") (fun xs H Q=> ∃ (p:Addr) (ns:List Int),xs=[.ref p]/\SqL X.K H p (ns.map V.int)/\Q (.int (dw ns)) H):=by
 intro pins s σ H xs us Q I r h
 obtain ⟨p,ns,rfl,hq,q⟩:=h
 obtain ⟨u,rfl,ru⟩:=fB r
 cases ru
 obtain ⟨its,rv,pl,hz⟩:=I.list hq
 have hl:=pl.isList
 have hlt:p<s.heap.objs.size:=by obtain ⟨_,e,_⟩:=hl;exact Heap.lt_size e
 have hlen:its.length=ns.length:=by have:=rv.length;rw [List.length_map]at this;lia
 refine PySem.Flt.call_sum_walkF (xs:=ns.map PySem.W.WData.int) (r:=.int (dw ns)) (by rw [il,Int.zero_add]) (wpAny_pyIter_list hl ?_)
 have W:=Walks.toS (Walks.list (prog:=X.prog) (w:=X.w) (A:=X.A.in1) (I.ok.hd hc) s.heap.objs.size p (Nat.ne_of_lt hlt) its.toArray)
 rw [show its.toArray.size=(ns.map PySem.W.WData.int).length by rw [List.size_toArray,List.length_map];exact hlen]at W
 refine ⟨s.heap.objs.size,[s.heap.objs.size,p],[s.heap.objs.size],_,_,_,rfl,W,⟨⟨_,Heap.get?_push_size _ rfl,rfl,rfl⟩,hl.push _⟩,fun b hb=>?_,fun i v hP=>?_,fun s' v hv hm=>?_⟩
 ·show b< (s.heap.push _).objs.size
  rw [Heap.size_push]
  rcases List.mem_cons.mp hb with e | e
  ·rw [e];exact Nat.lt_succ_self _
  ·rw [List.mem_singleton.mp e];exact Nat.lt_succ_of_lt hlt
 ·have hv:its[i]? =some v:=by simpa using hP
  have hi:i<ns.length:=by
   have:=(List.getElem?_eq_some_iff.mp hv).1
   lia
  have hx:(ns.map V.int)[i]? =some (V.int ns[i]):=by rw [List.getElem?_map,List.getElem?_eq_getElem hi] <;> rfl
  obtain ⟨u,eu,ru⟩:=rv.get hx
  rw [hv]at eu
  cases eu
  obtain ⟨t,rfl⟩:=ru
  exact ⟨.int ns[i],by rw [List.getElem?_map,List.getElem?_eq_getElem hi] <;> rfl,.int _ t⟩
 ·cases hv
  obtain ⟨hh,g,d,tk,os⟩:=s'
  obtain rfl:g=s.gens:=hm.gens
  obtain rfl:d=s.drawn:=hm.drawn
  obtain rfl:os=s.os:=hm.os
  refine ⟨.int _,H,I.kept (t':=tk) (h':=hh) fun b o e=>hm.heap b o (fun z=>?_) (Heap.get?_push_of_some _ e),⟨_,rfl⟩,q⟩
  rw [List.mem_singleton.mp z]at e
  exact absurd (Heap.lt_size e) (Nat.lt_irrefl _)
end
end L2
namespace HT
open PySem PyProof.Rows
section
variable {prog:Program} {w:World} {A:Around} {s:Shared} {E:Value->Shared->Prop} {d j:Addr} {ks:List Value} {i ep:Nat}
noncomputable def VEs (h:Heap) (d:Addr) (ks:List Value) (ep:Nat):Prop:= ∃ o es,h.get? d=some o/\o.ExactDict/\o.data=.dict es ep/\es.toList.map (·.val)=ks
theorem VEs.type (m:VEs s.heap d ks ep):s.TypeIs (.ref d) "dict":=by
 obtain ⟨o,_,ho,hc,_⟩:=m
 exact ⟨o,ho,hc.1⟩
theorem VEs.keeps {h h':Heap} (m:VEs h d ks ep) (k: ∀ o,h.get? d=some o->h'.get? d=some o):VEs h' d ks ep:=by
 obtain ⟨o,es,ho,r⟩:=m
 exact ⟨o,es,k o ho,r⟩
theorem VEs.lt {h:Heap} (m:VEs h d ks ep):d<h.objs.size:=by
 obtain ⟨o,es,ho,_⟩:=m
 exact Heap.lt_size ho
theorem gU {es:Array DictEntry} (e:es.toList.map (·.val)=ks):es.size=ks.length:=by
 rw [<- e,List.length_map,Array.length_toList]
theorem uR {r:Addr} {Q:Value->Shared->Prop} (hv:s.heap.IsValuesView r d) (m:VEs s.heap d ks ep)
  (q:Q (.ref s.heap.objs.size) {s with heap:=s.heap.push {cls:=.type "dict_valueiterator",data:=.fields #[.ref d,.int 0 0,.int ks.length 0,.int ep 0]}}):wpAny (model prog w) A (pyIter (.ref r)) Q E s:=by
 obtain ⟨ov,hov,hcv,hdv⟩:=(show ∃ o,s.heap.get? r=some o/\o.cls=.type "dict_values"/\o.data=.fields #[.ref d]from hv)
 obtain ⟨o,es,ho,hc,hdat,hk⟩:=m
 refine wpAny_pyIter_slot hv.typeIs PySem.F.slot_dict_values_iter (wpAny_call_entry PySem.F.slot_dict_values_iter hv.typeIs PySem.F.entry_dict_values_iter ?_ (PySem.F.args_dict_values_iter_1 _))
 unfold Builtin.«dict_values.__iter__» Builtin.Dict_items.dictOf Builtin.Dict_items.newIterator
 refine wpAny_bind (wpAny_pure (wpAny_bind (wpAny_bind (wpAny_field hov hdv (x:=.ref d) rfl (wpAny_pure (wpAny_bind (wpAny_bind (wpAny_dictEntries ho hdat (wpAny_bind (wpAny_dictEpoch ho hdat ?_))))))))))
 have own:Builtin.Dict_items.ownsTuple "dict_valueiterator"=false:=by decide
 simp only [own,Bool.false_eq_true,if_false]
 refine wpAny_newObj_type (wpAny_pure ⟨_,rfl,"dict_valueiterator",_,⟨_,Heap.get?_push_size _ rfl,rfl⟩,PySem.F.slot_dict_valueiterator_next.lookup,?_⟩)
 simpa [rawInt,gU hk]using q
theorem call_ves {Q:Value->Shared->Prop} (lo:(d==sysModules)=false) (m:VEs s.heap d ks ep)
  (q:Q (.ref s.heap.objs.size) {s with heap:=s.heap.push {cls:=.type "dict_values",data:=.fields #[.ref d]}}):wpAny (model prog w) A (call (.builtin "dict.values") [.ref d]) Q E s:=by
 have ty:=m.type
 refine wpAny_call_entry PySem.F.slot_dict_values ty PySem.F.entry_dict_values ?_ (PySem.F.args_dict_values_1 _)
 refine wpAny_bind ?_
 unfold Builtin.Dict.noArgs
 refine wpAny_bind (wpAny_notOrdered_dict ty ?_)
 refine (show wpAny _ _ (pure d) _ _ s from wpAny_pure (show wpAny _ _ (Builtin.Dict.showsAll d >>= _) _ _ s from ?_))
 unfold Builtin.Dict.showsAll
 rw [if_neg (by rw [lo];exact Bool.false_ne_true)]
 exact wpAny_bind (wpAny_pure (wpAny_bind (wpAny_newObj_type (wpAny_pure ⟨_,rfl,q⟩))))
theorem uK {x:Value} {Q:Option Value->Shared->Prop} (st:s.heap.IsValIter j d i ks.length ep) (m:VEs s.heap d ks ep) (hx:ks[i]? =some x)
  (q: ∀ h',h'.IsValIter j d (i+1) ks.length ep->Heap.SameBut j s.heap h'->Q (some x) {s with heap:=h'}):wpAny (model prog w) A (pyNext (.ref j)) Q E s:=by
 have ty:=st.typeIs
 obtain ⟨o,ho,hc,hd⟩:=id st
 obtain ⟨od,es,hod,hcd,hdd,hk⟩:=m
 have hz:=gU hk
 have hlt:i<ks.length:=(List.getElem?_eq_some_iff.mp hx).1
 have hes:i<es.size:=by lia
 have hkey:es[i].val=x:=by
  have e1:(es.toList.map (·.val))[i]? =some x:=by rw [hk];exact hx
  rw [List.getElem?_map,Array.getElem?_toList,Array.getElem?_eq_getElem hes]at e1
  exact Option.some.inj e1
 unfold pyNext
 refine wpAny_bind (wpAny_attempt (wpAny_callSpecial?_slot (name:=Str.ofString "__next__") ty PySem.F.slot_dict_valueiterator_next (wpAny_call_entry PySem.F.slot_dict_valueiterator_next ty PySem.F.entry_dict_valueiterator_next ?_ (PySem.F.args_dict_valueiterator_next_1 _))))
 refine wpAny_bind (wpAny_pure (wpAny_bind (wpAny_bind ?_)))
 first | refine wpAny_bind (wpAny_typeNameOfWhole_valiter ty (wpAny_pure (wpAny_bind (wpAny_fieldsOf ho hd ?_)))) | refine wpAny_bind (wpAny_typeNameOf_valiter ty (wpAny_pure (wpAny_bind (wpAny_fieldsOf ho hd ?_))))
 have own:Builtin.Dict_items.ownsTuple "dict_valueiterator"=false:=by decide
 simp only [own,Bool.false_eq_true,if_false]
 refine (show wpAny _ _ (if (Value.ref d==Value.none)=true then _ else _) _ _ s from ?_)
 rw [if_neg fun b0:(Value.ref d==Value.none)=true=>Bool.false_ne_true b0]
 refine wpAny_bind (wpAny_pure (wpAny_bind (wpAny_dictEntries hod hdd ?_)))
 rw [if_neg (by rw [hz];simp)]
 refine wpAny_bind (wpAny_pure (wpAny_bind (wpAny_dictEpoch hod hdd ?_)))
 rw [if_neg (by simp)]
 refine wpAny_pure ?_
 simp only [show ¬ ((i:Int) <0)from by lia,if_false,Int.toNat_natCast,Array.getElem?_eq_getElem hes]
 refine wpAny_bind ?_
 first | refine wpAny_bind (wpAny_typeNameOfWhole_valiter ty (wpAny_pure (wpAny_bind (wpAny_isOneOf_valiter ty ?_)))) | refine wpAny_bind (wpAny_typeNameOf_valiter ty (wpAny_pure (wpAny_bind (wpAny_isOneOf_valiter ty ?_))))
 refine (show wpAny _ _ (setField (.ref j) 1 (rawInt ((i:Int) +1)) >>= _) _ _ s from ?_)
 refine wpAny_bind (wpAny_setField ho hd (by simp) ?_)
 have st':(s.heap.update j (Obj.mapFields (·.setIfInBounds 1 (rawInt ((i:Int) +1))))).IsValIter j d (i+1) ks.length ep:=by
  refine ⟨_,Heap.get?_update_self _ ho (Obj.isFreed_of_fields (Obj.data_mapFields hd _)),(Obj.cls_mapFields ..).trans hc,?_⟩
  rw [Obj.data_mapFields hd];simp [rawInt]
 refine wpAny_bind (wpAny_holding (wpAny_bind (wpAny_isOneOf_valiter (s:={s with heap:=s.heap.update j (Obj.mapFields (·.setIfInBounds 1 (rawInt ((i:Int) +1))))}) st'.typeIs (wpAny_bind (wpAny_isOneOf_valiter (s:={s with heap:=s.heap.update j (Obj.mapFields (·.setIfInBounds 1 (rawInt ((i:Int) +1))))}) st'.typeIs ?_)))))
 refine (show wpAny _ _ (pure es[i].val) _ _ _ from ?_)
 rw [hkey]
 exact wpAny_pure (wpAny_pure ⟨_,rfl,wpAny_pure (q _ st' (Heap.SameBut.update ..))⟩)
theorem wp {Q:Option Value->Shared->Prop} (hh:A.handled=none) (st:s.heap.IsValIter j d i ks.length ep) (m:VEs s.heap d ks ep) (hx:ks.length<=i)
  (q: ∀ h',Heap.ExtBut j s.heap h'->Q none {s with heap:=h'}):wpAny (model prog w) A (pyNext (.ref j)) Q E s:=by
 have ty:=st.typeIs
 obtain ⟨o,ho,hc,hd⟩:=id st
 obtain ⟨od,es,hod,hcd,hdd,hk⟩:=m
 have hz:=gU hk
 unfold pyNext
 refine wpAny_bind (wpAny_attempt (wpAny_callSpecial?_slot (name:=Str.ofString "__next__") ty PySem.F.slot_dict_valueiterator_next (wpAny_call_entry PySem.F.slot_dict_valueiterator_next ty PySem.F.entry_dict_valueiterator_next ?_ (PySem.F.args_dict_valueiterator_next_1 _))))
 refine wpAny_bind (wpAny_pure (wpAny_bind (wpAny_bind ?_)))
 first | refine wpAny_bind (wpAny_typeNameOfWhole_valiter ty (wpAny_pure (wpAny_bind (wpAny_fieldsOf ho hd ?_)))) | refine wpAny_bind (wpAny_typeNameOf_valiter ty (wpAny_pure (wpAny_bind (wpAny_fieldsOf ho hd ?_))))
 have own:Builtin.Dict_items.ownsTuple "dict_valueiterator"=false:=by decide
 simp only [own,Bool.false_eq_true,if_false]
 refine (show wpAny _ _ (if (Value.ref d==Value.none)=true then _ else _) _ _ s from ?_)
 rw [if_neg fun b0:(Value.ref d==Value.none)=true=>Bool.false_ne_true b0]
 refine wpAny_bind (wpAny_pure (wpAny_bind (wpAny_dictEntries hod hdd ?_)))
 rw [if_neg (by rw [hz];simp)]
 refine wpAny_bind (wpAny_pure (wpAny_bind (wpAny_dictEpoch hod hdd ?_)))
 rw [if_neg (by simp)]
 refine wpAny_pure ?_
 have hge:es.size<=i:=by lia
 simp only [show ¬ ((i:Int) <0)from by lia,if_false,Int.toNat_natCast,Array.getElem?_eq_none hge]
 refine wpAny_bind ?_
 first | refine wpAny_bind (wpAny_typeNameOfWhole_valiter ty (wpAny_pure ?_)) | refine wpAny_bind (wpAny_typeNameOf_valiter ty (wpAny_pure ?_))
 refine (show wpAny _ _ (setField (.ref j) 0 .none >>= _) _ _ s from wpAny_bind (wpAny_setField ho hd (by simp) ?_))
 refine (show wpAny _ _ (newExc (.type "StopIteration") [] >>= _) _ _ _ from wpAny_bind ?_)
 simp only [newExc,newTuple]
 refine wpAny_bind (wpAny_newObj_type (wpAny_bind (m:=firstArgMember _ _) (wpAny_of_eq (a:=Value.none) (by first | rfl | (simp only [firstArgMember];rfl)) (wpAny_newObj_type ?_ (by size_fits)))) (by size_fits))
 simp only [raiseNew]
 refine wpAny_bind (wpAny_handled ?_)
 rw [show A.in1.handled=none from hh]
 refine (wpAny_bind (wpAny_pure (wpAny_throw (?_))))
 refine wpAny_bind (wpAny_isInstance (T:="StopIteration") (b:=true) ⟨_,Heap.get?_push_size _ rfl,rfl⟩ isSubtype_stop (wpAny_pure (q _ ?_)))
 exact ((Heap.SameBut.update ..).extBut.push _).push _
theorem qS (hh:A.handled=none) (hne:d≠j):Walks prog w A j [j,d] [j] ks.length (fun i v=>ks[i]? =some v) (fun i h=>h.IsValIter j d i ks.length ep/\VEs h d ks ep) where
 sub:=fun b hb=>by rw [List.mem_singleton.mp hb];exact List.mem_cons_self
 frame:=fun _ _ _ st k=>⟨st.1.at fun o e=>k j (by simp) o e,st.2.keeps fun o e=>k d (by simp) o e⟩
 item:=fun i s Q E hi st hQ=>by
  have hx:ks[i]? =some ks[i]:=List.getElem?_eq_getElem hi
  refine uK st.1 st.2 hx fun h' st' sb=>?_
  exact hQ _ h' s.toks hx ⟨st',st.2.keeps fun o e=>sb.extBut d o hne e⟩ fun b o hb e=>sb.extBut b o (fun z=>hb (by rw [z];exact List.mem_cons_self)) e
 done:=fun s Q E st hQ=>wp hh st.1 st.2 (Nat.le_refl _) fun h' eb=>hQ h' s.toks fun b o hb e=>eb b o (fun z=>hb (by rw [z];exact List.mem_cons_self)) e
 self:=fun _ _ _ _ st hQ=>wpAny_pyIter_valiter st.1 hQ
theorem src_ves {r:Addr}:PySem.W.KdlSrc prog w "dict_values" r d ks.length (fun i v=>ks[i]? =some v) (fun h=>h.IsValuesView r d/\VEs h d ks ep) where
 type:=fun _ m=>m.1.typeIs
 there:=fun _ m=>⟨by obtain ⟨_,ho,_⟩:=m.1;exact Heap.lt_size ho,m.2.lt⟩
 keep:=fun _ _ m k=>⟨by obtain ⟨o,ho,x⟩:=m.1;exact ⟨o,k r (.inl rfl) o ho,x⟩,m.2.keeps fun o e=>k d (.inr rfl) o e⟩
 notList:=by decide
 notTuple:=by decide
 hint:=fun _ _ _ _ m q=>PySem.W.kdl_hint_values m.1.typeIs q
 iter:=fun _ _ hh m=>⟨_,_,fun _ _ q=>uR m.1 m.2 q,qS hh (Nat.ne_of_lt m.2.lt),⟨⟨_,Heap.get?_push_size _ rfl,rfl,rfl⟩,m.2.keeps fun o e=>Heap.get?_push_of_some _ e⟩⟩
end
end HT
namespace L2
open PySem PySem.Spec PyProof.Rows
section
variable {X:Cx} {o l:Expr} {to tl:TE} {p pos apos cpos:Pos}
theorem vp {H:Hp} {kvs:List (List Key×V)} {xs:List (List Key×Addr×Value)} (r:KT H kvs xs):Vals (kvs.map (·.2)) (xs.map fun q=>q.2.2):=by
 induction r with
 | nil=>exact .nil
 | cons h _ ih=>exact .cons h.2.2 ih
noncomputable def tLv (to:TE):TE:=fun σ H Q=>to σ H fun x H1=> ∃ a kvs,x=.ref a/\H1 a=some (.dT kvs)/\ ∀ p,H1 p=none->Q (.ref p) (upd H1 p (.lst (kvs.map (·.2))))
theorem nv (hc:X.calm=true) (hg:Gl X "list") (hm:X.mg "list"=none) (ho:PE X o to)
  (hbase:attributeBase o "values" X.env (eval o X.env)=eval o X.env:=by rfl) (hline:(apos.endLine==cpos.line)=true:=by rfl):
  PE X (.Call (.Name "list" p) [.Call (.Attribute o "values" apos) [] [] cpos] [] pos) (tLv to):=by
 intro pins s σ H Q I h
 refine Call_ (eM I hg hm (show bootBuiltins "list"=some (.type "list") by decide +kernel) (PyProof.Rows.callWith_type1 (Calls.spliced_cons ?_) rfl rfl))
 refine wpAny_Call_method0_late hbase hline (thn (ho pins s σ H _ I h) fun v s1 ⟨x,H1,I1,r1,a,kvs,ex,ha,q1⟩=>?_)
 subst ex
 cases r1
 obtain ⟨hz,lo,ys,kt,ob,es,ep,h1,h2,h3,h4,h5⟩:=(show ObjOk X.prog X.w H1 s1.heap a (.dT kvs)from I1.hok a _ ha)
 have hm:HT.VEs s1.heap a (ys.map fun q=>q.2.2) ep:=by
  refine ⟨ob,es,h1,h2,h3,?_⟩
  rw [h4,List.map_map]
  rfl
 have hl:ys.length=kvs.length:=(Paired.length kt).symm
 refine ⟨"dict","dict.values",PySem.F.plainAttrs_dict,PySem.F.slot_dict_values,PySem.F.type_dict_values,hm.type,(fun b e=>?_),Calls.callWith_builtin rfl (PySem.evalArgs_none (HT.call_ves lo hm ?_))⟩
 ·cases e
  exact ⟨ob,h1,h2.2.1⟩
 refine Calls.spliced_nil ?_
 have kp0: ∀ b o,s1.heap.get? b=some o->(s1.heap.push {cls:=.type "dict_values",data:=.fields #[.ref a]}).get? b=some o:=fun b o e=>Heap.get?_push_of_some _ e
 refine PySem.W.kdl_call (HT.src_ves (r:=s1.heap.objs.size) (d:=a)) (I.ok.hd hc) ⟨⟨_,Heap.get?_push_size _ rfl,rfl,rfl⟩,hm.keeps fun o e=>kp0 _ o e⟩ (by rw [List.length_map];lia) fun h' tk acc c' kp e hi=>?_
 obtain ⟨i1,i2⟩:=hi
 have hacc:acc.toList=ys.map fun q=>q.2.2:=by
  refine List.ext_getElem? fun i=>?_
  rw [Array.getElem?_toList]
  cases hv:acc[i]? with
  | some v=>exact (i2 i v hv).symm
  | none=>
   have:acc.size<=i:=Array.getElem?_eq_none_iff.mp hv
   exact (List.getElem?_eq_none (by rw [<- i1];exact this)).symm
 have hsz:s1.heap.objs.size<=(s1.heap.push {cls:=.type "dict_values",data:=.fields #[.ref a]}).objs.size:=by rw [Heap.size_push];exact Nat.le_succ _
 refine ⟨.ref (s1.heap.push {cls:=.type "dict_values",data:=.fields #[.ref a]}).objs.size,_,I1.laid (t':=tk) (o:=.lst (kvs.map (·.2))) (fun b o z=>kp b o (kp0 b o z)) hsz ?_,rfl,q1 _ (I1.hok.fresh hsz)⟩
 refine ⟨by rw [List.length_map];lia,_,c',vp kt,?_⟩
 rw [<- hacc,Array.toArray_toList]
 exact e
noncomputable def Itv (K:PySem.W.Frag) (a:Addr) (n:Nat):It:=
 ⟨fun i H=>i<n/\ ∃ xs,xs.length=n/\SqL K H a xs,fun i H x H'=>H'=H/\ ∀ xs,SqL K H a xs->xs[n-1-i]? =some x,fun i H=>i=n⟩
theorem sV {P:Program} {w:World} {K:PySem.W.Frag} {tg:Expr} (a it:Addr) (n:Nat):ot P w K tg (Itv K a n) [it] it (fun i h=>h.IsRevIter it a ((n:Int) -1- (i:Int))) where
 mem:=by simp
 obj:=fun i h st b hb=>by
  have e:b=it:=by simpa using hb
  subst e
  obtain ⟨o,e,c,d⟩:=st
  exact ⟨o,e,fun v z=>by rw [d]at z;cases z⟩
 keep:=fun i h h' st k=>st.at fun o e=>k it (by simp) o e
 item:=by
  intro X hP hw hK hc i pins s σ H E I hf st hg
  subst hP hw hK
  obtain ⟨hi,xs,hn,hq⟩:=hg
  obtain ⟨its,rv,p,hz⟩:=I.list hq
  have hl:=rv.length
  have hx:xs[n-1-i]? =some (xs[n-1-i]'(by lia)):=List.getElem?_eq_getElem (by lia)
  obtain ⟨u,hu,ru⟩:=rv.get hx
  obtain ⟨f0,f1,f2,f3,f4,f5⟩:=hf it (by simp)
  have st1:s.heap.IsRevIter it a ((n-1-i:Nat):Int):=by
   have e:(n:Int) -1- (i:Int)=((n-1-i:Nat):Int):=by lia
   rw [<- e];exact st
  refine wpAny_pyNext_rev_item st1 p.isList (x:=u) (by simpa using hu) fun h' st' sb=>?_
  have I1:Inv X pins σ H {s with heap:=h'}:=I.turned (t':=s.toks) (fun b o hb e=>(sb.2 b hb).trans e) f0 f1 f3 f4 f5
  have st2:h'.IsRevIter it a ((n:Int) -1- ((i+1:Nat):Int)):=by
   have e:(n:Int) -1- ((i+1:Nat):Int)=((n-1-i:Nat):Int) -1:=by lia
   rw [e];exact st'
  obtain ⟨o,e,c,d⟩:=id st'
  exact ⟨u,rfl,nX (s:={s with heap:=h'}) e c d (by decide) ⟨_,H,I1,ru,⟨rfl,fun ys hy=>by rw [I.list_inj hy hq];exact hx⟩,st2,fun b hb=>(hf b hb).1⟩⟩
 done:=by
  intro X hP hw hK hc i pins s σ H E I hf st hg
  subst hP hw hK
  have hi:i=n:=hg
  obtain ⟨f0,f1,f2,f3,f4,f5⟩:=hf it (by simp)
  have st1:s.heap.IsRevIter it a (-1):=by
   have e:(n:Int) -1- (i:Int)= -1:=by lia
   rw [<- e];exact st
  exact wpAny_pyNext_rev_end (I.ok.hd hc) st1 fun h' eb=>⟨rfl,I.turned (t':=s.toks) (fun b o hb e=>eb b o hb e) f0 f1 f3 f4 f5⟩
 self:=fun _ _ _ _ _ st h=>wpAny_pyIter_revIter st h
noncomputable def y2 (K:PySem.W.Frag) (tl:TE):TI:=fun σ H R=>tl σ H fun x H1=> ∃ a xs,x=.ref a/\SqL K H1 a xs/\R (Itv K a xs.length) H1
theorem ud {tg:Expr} (hg:Gl X "reversed") (hm:X.mg "reversed"=none) (hl:PE X l tl) (hs:starEach [l] X.env=[(false,eval l X.env)]:=by rfl):PI X tg (.Call (.Name "reversed" p) [l] [] pos) (y2 X.K tl):=by
 intro pins s σ H R I h
 refine Call_ (eM I hg hm (show bootBuiltins "reversed"=some (.type "reversed") by decide +kernel) (PyProof.Rows.callWith_type1 (by rw [hs];exact Calls.spliced_cons (thn (hl pins s σ H _ I h) fun v s1 ⟨x,H1,I1,r1,q1⟩=>Calls.spliced_nil (by
  obtain ⟨a,xs,ex,hq,q⟩:=q1
  subst ex
  cases r1
  obtain ⟨its,rv,pl,hz⟩:=I1.list hq
  refine call_reversed_list pl.isList ?_
  refine wpAny_pyIter_revIter (i:=(its.toArray.size:Int) -1) ⟨_,Heap.get?_push_size _ rfl,rfl,rfl⟩ ?_
  refine ⟨s1.heap.objs.size,[s1.heap.objs.size],_,_,H1,rfl,I1.kept (t':=s1.toks) fun b o e=>Heap.get?_push_of_some _ e,sV a _ xs.length,⟨_,Heap.get?_push_size _ rfl,rfl,?_⟩,fun b hb=>?_,q⟩
  ·have e:(its.toArray.size:Int) -1=(xs.length:Int) -1- ((0:Nat):Int):=by rw [List.size_toArray,rv.length];lia
   rw [<- e];rfl
  ·have e:b=s1.heap.objs.size:=by simpa using hb
   subst e
   exact I1.fpOk (Nat.le_refl _) (I1.hok.fresh (Nat.le_refl _))))) (by rw [hs];rfl) rfl))
theorem qF {K:PySem.W.Frag} {a:Addr} {xs:List V} {g:TG} {tb:TS} {D:eh} {σ:St} {H:Hp} (Pv:Nat->St->Hp->Prop) (h0:Pv 0 σ H) (hl: ∀ i σ H,i<=xs.length->Pv i σ H->SqL K H a xs)
  (step: ∀ i x σ H,i<xs.length->xs[xs.length-1-i]? =some x->Pv i σ H->g x σ H fun σ2 H2=>tb {D with nx:=Pv (i+1),ct:=Pv (i+1),bk:=D.nx} σ2 H2) (fin: ∀ σ H,Pv xs.length σ H->D.nx σ H):
  ∃ W:Nat->Nat->St->Hp->Prop,(∃ m,W 0 m σ H)/\ ∀ i m σ H,W i m σ H->
   ((Itv K a xs.length).stop i H/\D.nx σ H)\/((Itv K a xs.length).go i H/\ ∃ N:St->Hp->Prop,(∀ σ' H',N σ' H'-> ∃ m',m'<m/\W (i+1) m' σ' H')/\ ∀ x H',(Itv K a xs.length).yld i H x H'->g x σ H' fun σ2 H2=>tb {D with nx:=N,ct:=N,bk:=D.nx} σ2 H2):=by
 refine ⟨fun i m σ H=>m=xs.length-i/\i<=xs.length/\Pv i σ H,⟨xs.length,by simp,Nat.zero_le _,h0⟩,?_⟩
 rintro i m σ H ⟨rfl,hi,p⟩
 have q:=hl i σ H hi p
 by_cases hlt:i<xs.length
 ·refine .inr ⟨⟨hlt,xs,rfl,q⟩,Pv (i+1),fun σ' H' p'=>⟨xs.length- (i+1),by lia,rfl,hlt,p'⟩,fun x H' y=>?_⟩
  obtain ⟨e,y⟩:=y
  subst e
  exact step i x σ _ hlt (y xs q) p
 ·have e:i=xs.length:=by lia
  subst e
  exact .inl ⟨rfl,fin σ H p⟩
end
end L2
namespace L2
open PySem PyProof.Rows
structure qR (sc0:Scope) (N0:List Str) (scope:Scope) (x x2 x3:Str) (ys:List Str) (fr:List Nat):Prop where
 kind:scope.kind=.function
 nocell: ∀ y∈scope.names,y.2≠ .cell
 loc: ∀ y∈scope.names,y.2=.local->scope.names.lookup y.1=some .local
 xl:(aX sc0 scope).lookup x=some .local
 xl2:(aX sc0 scope).lookup x2=some .local
 xl3:(aX sc0 scope).lookup x3=some .local
 free: ∀ y∈scope.names,y.2=.free->sc0.names.lookup y.1=some .cell
 nd:(x::x2::x3::ys).Nodup
 len:ys.length=fr.length
 sl: ∀ q∈ys.zip fr,N0[q.2]? =some q.1/\sc0.names.lookup q.1=some .cell/\(aX sc0 scope).lookup q.1=some .cell
noncomputable def cO (X:Cx) (x x2 x3:Str) (ys:List Str) (scope:Scope) (C:Addr) (s:Shared) (H:Hp) (ex:List Addr):Cx:=
 {X with N:=x::x2::x3::ys,s₀:=s,H₀:=H,env:=compEnvC scope (ce X.env.cells scope.names) C X.env,outer:=X.stack,stack:=X.stack,ex:=ex,fn:=fun _=>false,pn:=[],xe:=fun _ _=>False}
noncomputable def pT (fr:List Nat) (te:TE) (σ:St) (J:It) (H1:Hp) (Q:VK):Prop:=
 ∀ p,H1 p=none-> ∃ W:Nat->Nat->List V->Hp->Prop,(∃ m,W 0 m [] (upd H1 p (.lst [])))/\ ∀ i m ys H,W i m ys H->H p=some (.lst ys)/\
  ((J.stop i H/\Q (.ref p) H)\/(J.go i H/\ys.length<sizeLine/\ ∀ x H',J.yld i H x H'-> ∃ T v1 v2 v3,x=.ref T/\H' T=some (.tup [v1,v2,v3])/\te (some v1::some v2::some v3::bi fr σ) H' fun v H2=>
   H2 p=some (.lst ys)/\ ∃ m',m'<m/\W (i+1) m' (ys++[v]) (upd H2 p (.lst (ys++[v])))))
noncomputable def sZ (wi:TI) (fr:List Nat) (te:TE):TE:=fun σ H Q=>wi σ H fun J H1=>pT fr te σ J H1 Q
section
variable {X:Cx} {x x2 x3:Str} {px px2 px3 tpos pos fpos:Pos} {kk:Nat} {iter elt:Expr} {scope sc0:Scope} {N0 ys:List Str} {fr:List Nat} {wi:TI} {te:TE} {pins:List (Addr×Obj)} {σ:St} {H:Hp} {s:Shared}
theorem pL {use:Option (Value->Sem Unit)} {Qv:Value->Shared->Prop} {Q:VK} (hcalm:X.calm=true) (hi:PI X (.Tuple [.Name x px,.Name x2 px2,.Name x3 px3] kk tpos) iter wi) (hsc:X.env.scope=sc0) (hN:X.N=N0) (ok:qR sc0 N0 scope x x2 x3 ys fr)
  (hE: ∀ C s H ex,PE (cO X x x2 x3 ys scope C s H ex) elt te) (I:Inv X pins σ H s) (h:sZ wi fr te σ H Q) (hs: ∀ v,foldedSetIterable iter X.env v=pure v)
  (fin: ∀ (p C:Addr) (H':Hp) (s':Shared) (m:Str->Option Value),Inv X pins σ H' s'->s'.heap.Ns C m->H' C=none->C≠X.env.locals->X.s₀.heap.objs.size<=C->(∀ y c,X.env.cells.lookup y=some c->c≠C)->(∀ q∈X.pn++pins,q.1≠C)->Q (.ref p) H'->
   compPost (model X.prog X.w) X.A X.xe use Qv (.ref p) C (.ok .next) s'):
  wpAny (model X.prog X.w) X.A (comprehension (.ListComp elt [⟨.Tuple [.Name x px,.Name x2 px2,.Name x3 px3] kk tpos,iter,[],0⟩] scope pos) scope X.env fpos (newList []) false (eval iter X.env) use) Qv X.xe s:=by
 subst hsc hN
 have hkof: ∀ y,X.env.kindOf y=X.env.scope.names.lookup y:=fun y=>rfl
 have hfree: ∀ y∈scope.names,y.2=.free-> ∃ c,X.env.cells.lookup y.1=some c:=fun y hy e=>I.ok.has y.1 (.inl (ok.free y hy e))
 refine wpAny_comprehension_free (gs:=[]) rfl hs (cH hfree) ok.kind ok.loc (thn (hi pins s σ H _ I h) fun v s1 h1=>thn h1 fun itv s2 h2=>?_)
 obtain ⟨it,fp,tn,J,H2,e,I2,T,st2,f2,hp⟩:=h2
 subst e
 refine wpAny_newObj_type (wpAny_newFunctionEnv ok.nocell (by intro y hy;simp at hy) (fun h₁ hns₁ hsb₁=>?_) ok.kind)
 dsimp only at hns₁ hsb₁ ⊢
 have I3:Inv X pins σ (upd H2 s2.heap.objs.size (.lst [])) {s2 with heap:=s2.heap.push {cls:=.type "list",data:=.seq ([]:List Value).toArray}}:=
  I2.lnew (its:=[]) (ys:=[]) (t':=s2.toks) .nil (Nat.zero_le _)
 have hf2: ∀ b∈fp,b<s2.heap.objs.size:=fun b hb=>by
  obtain ⟨o,e,_⟩:=T.obj _ _ st2 b hb
  exact Heap.lt_size e
 have hps:s2.heap.objs.size< (s2.heap.push {cls:=.type "list",data:=.seq ([]:List Value).toArray}).objs.size:=by rw [Heap.size_push];exact Nat.lt_succ_self _
 have W0:=hp s2.heap.objs.size I2.fresh
 have st3:tn 0 (s2.heap.push {cls:=.type "list",data:=.seq ([]:List Value).toArray}):=T.keep _ _ _ st2 fun b hb o e=>Heap.get?_push_of_some _ e
 generalize hpp:s2.heap.objs.size=p at I3 W0 hf2 hps ⊢
 generalize hh3:(s2.heap.push {cls:=.type "list",data:=.seq ([]:List Value).toArray})=h3 at I3 hns₁ hsb₁ hps st3 ⊢
 generalize hH3:upd H2 p (.lst [])=H3 at I3 W0
 have hold: ∀ b o,h3.get? b=some o->h₁.get? b=some o:=fun b o e=>hsb₁.extBut b o (Nat.ne_of_lt (Heap.lt_size e)) (Heap.get?_push_of_some _ e)
 have fH3: ∀ b∈fp,H3 b=none:=fun b hb=>by
  rw [<- hH3,ai (Nat.ne_of_lt (hf2 b hb))]
  exact (f2 b hb).1
 have hclos: ∀ y c,(ce X.env.cells scope.names).lookup y=some c->X.env.cells.lookup y=some c:=fun y c e=>cb e
 have hcell3: ∀ y c,X.env.cells.lookup y=some c->c<h3.objs.size:=fun y c e=>by
  obtain ⟨v,o,ho,_⟩:=I3.cell y c e
  exact Heap.lt_size ho
 have hlt3:X.env.locals<h3.objs.size:=I3.lt
 have Yok:(cO X x x2 x3 ys scope h3.objs.size {s2 with heap:=h3} H3 fp).Ok:={
  mod:=I.ok.mod
  kind:=ok.kind
  glob:=I.ok.glob
  blt:=I.ok.blt
  above:=Nat.le_refl _
  inj:=fun y z c e1 e2=>I.ok.inj y z c (hclos _ _ e1) (hclos _ _ e2)
  has:=fun y hk=>by
   have hfr:(y,NameKind.free)∈scope.names:=by
    have hm: ∃ k,(aX X.env.scope scope).lookup y=some k/\(k=.cell\/k=.free):=by
     rcases hk with hk | hk
     ·exact ⟨_,hk,.inl rfl⟩
     ·exact ⟨_,hk,.inr rfl⟩
    obtain ⟨k,hk,hkk⟩:=hm
    have hmem:=mem_of_lookup hk
    unfold aX at hmem
    obtain ⟨⟨n,k0⟩,hn,en⟩:=List.mem_map.mp hmem
    dsimp only at en
    split at en
    ·rename_i hc
     simp only [Bool.and_eq_true]at hc
     have hk0:k0=.free:=by simpa using hc.1.1
     cases en
     rw [<- hk0]
     exact hn
    ·cases en
     rcases hkk with e | e
     ·exact absurd e (ok.nocell _ hn)
     ·rw [<- e]
      exact hn
   obtain ⟨c,hc⟩:=hfree _ hfr rfl
   exact ⟨c,cr hc hfr⟩
  cab:=fun y c hf _=>by cases hf
  hd:=I.ok.hd
  frames:=I.ok.frames
  stk:=.inl rfl
  exf:=fun b hb=>⟨fun e=>absurd (hf2 b hb) (by rw [e];exact Nat.not_lt.mpr (Nat.le_of_lt hps)),fun y c e=>(f2 b hb).2.2.2.2.1 y c (hclos _ _ e)⟩
  bs:=fun b o e=>⟨(I3.bs b o e).1,(I3.bs b o e).2⟩
  bsz:=Nat.le_trans I.ok.bsz I3.sz
  noex:=fun b o e hb=>by
   rcases (f2 b hb).2.2.2.1 with q | q
   ·exact I.ok.noex b o e q
   ·have h1:b<X.base.objs.size:=Heap.lt_size e
    exact absurd h1 (Nat.not_lt.mpr (Nat.le_trans I.ok.bsz q))
  exfs:=fun b hb hm=>by
   rcases List.mem_cons.mp (I3.stkSub b hm)with q | q
   ·exact (f2 b hb).2.1 q
   ·exact (f2 b hb).2.2.1 q
  funs:=I3.stack
  frf:=I3.stkFree}
 have IY:Inv (cO X x x2 x3 ys scope h3.objs.size {s2 with heap:=h3} H3 fp) [] (none::none::none::bi fr σ) H3 {s2 with heap:=h₁,toks:=s2.toks+ ([]:List (Str×Value)).length}:={
  ok:=Yok
  os:=rfl
  bare:=I2.bare
  base:=Un.kept hold
  loc:=by
   refine ⟨_,hns₁,fun i y v hy hv hvis=>?_⟩
   match i,hy,hv with
   | 0,_,hv=>cases hv
   | 1,_,hv=>cases hv
   | 2,_,hv=>cases hv
   | j+3,hy,hv=>
    have hy':ys[j]? =some y:=hy
    have hv':(bi fr σ)[j]? =some (some v):=hv
    unfold bi at hv'
    rw [List.getElem?_map]at hv'
    obtain ⟨i0,hi0,hv0⟩:=Option.map_eq_some_iff.mp hv'
    have hz:(y,i0)∈ys.zip fr:=by
     refine List.mem_iff_getElem?.mpr ⟨j,?_⟩
     rw [List.getElem?_zip_eq_some]
     exact ⟨hy',hi0⟩
    obtain ⟨hn,hk,hk2⟩:=ok.sl _ hz
    have hσ:σ[i0]? =some (some v):=by
     cases e:σ[i0]? with
     | none=>rw [e]at hv0;cases hv0
     | some o=>
      rw [e]at hv0
      rw [show o=some v from hv0]
    obtain ⟨m,hm,hl⟩:=I3.loc
    obtain ⟨u,ru,lk⟩:=hl i0 y v hn hσ (.inr (.inl hk))
    refine ⟨u,ru,.inr ⟨.inl hk2,?_⟩⟩
    rcases lk with ⟨a,_⟩ | ⟨_,c,hc,hcell⟩
    ·have a':X.env.scope.names.lookup y=some .local:=a
     have hk':X.env.scope.names.lookup y=some .cell:=hk
     rw [hk']at a'
     cases a'
    ·have hfr:(y,NameKind.free)∈scope.names:=by
      have hmem:=mem_of_lookup hk2
      unfold aX at hmem
      obtain ⟨⟨n,k0⟩,hn0,en⟩:=List.mem_map.mp hmem
      dsimp only at en
      split at en
      ·rename_i hc0
       simp only [Bool.and_eq_true]at hc0
       have hk0:k0=.free:=by simpa using hc0.1.1
       cases en
       rw [<- hk0]
       exact hn0
      ·cases en
       exact absurd rfl (ok.nocell _ hn0)
     exact ⟨c,cr hc hfr,hcell.keeps hold⟩
  cell:=fun y c e=>by
   obtain ⟨v,hv⟩:=I3.cell y c (hclos _ _ e)
   exact ⟨v,hv.keeps hold⟩
  free:=I3.fresh
  freeC:=fun y c e=>I3.freeC y c (hclos _ _ e)
  pin:=fun q hq=>by cases hq
  hok:=I3.hok.kept hold
  len:=by
   show (none::none::none::bi fr σ).length=(x::x2::x3::ys).length
   rw [List.length_cons,List.length_cons,List.length_cons,List.length_cons,List.length_cons,List.length_cons,ok.len]
   unfold bi
   rw [List.length_map]}
 have hxl:(cO X x x2 x3 ys scope h3.objs.size {s2 with heap:=h3} H3 fp).env.scope.names.lookup x=some .local:=ok.xl
 have hxl2:(cO X x x2 x3 ys scope h3.objs.size {s2 with heap:=h3} H3 fp).env.scope.names.lookup x2=some .local:=ok.xl2
 have hxl3:(cO X x x2 x3 ys scope h3.objs.size {s2 with heap:=h3} H3 fp).env.scope.names.lookup x3=some .local:=ok.xl3
 have pgx:PG (cO X x x2 x3 ys scope h3.objs.size {s2 with heap:=h3} H3 fp) (.Tuple [.Name x px,.Name x2 px2,.Name x3 px3] kk tpos) (xz X.K 3 (kh (dC 0) (kh (dC 1) (kh (dC 2) xA)))):=
  cQ hcalm (aE (aw (i:=0) ok.nd rfl (.inl hxl) (.inr hxl)) (aE (aw (i:=1) ok.nd rfl (.inl hxl2) (.inr hxl2)) (aE (aw (i:=2) ok.nd rfl (.inl hxl3) (.inr hxl3)) cn)))
 have pel:=hE h3.objs.size {s2 with heap:=h3} H3 fp
 obtain ⟨W,⟨m0,w0⟩,turn⟩:=W0
 have stat: ∀ {H':Hp},(∀ b∈fp,H' b=none)-> ∀ b∈fp,iA (cO X x x2 x3 ys scope h3.objs.size {s2 with heap:=h3} H3 fp) [] H' b:=fun hn b hb=>
  ⟨hn b hb,(Yok.exf b hb).1,Yok.exfs b hb,.inl hb,(Yok.exf b hb).2,fun q hq=>by cases hq⟩
 have loop:codeAny (model X.prog X.w) X.A (.compLoop (.ListComp elt [⟨.Tuple [.Name x px,.Name x2 px2,.Name x3 px3] kk tpos,iter,[],0⟩] scope pos) 0 (.ref it) (.ref p) (compEnvC scope (ce X.env.cells scope.names) h3.objs.size X.env))
   (compPost (model X.prog X.w) X.A X.xe use Qv (.ref p) h3.objs.size) {s2 with heap:=h₁,toks:=s2.toks+ ([]:List (Str×Value)).length}:=by
  refine dS (fun n s'=> ∃ i zs v0 w0 z0 H',Inv (cO X x x2 x3 ys scope h3.objs.size {s2 with heap:=h3} H3 fp) [] (v0::w0::z0::bi fr σ) H' s'/\tn i s'.heap/\(∀ b∈fp,H' b=none)/\W i n zs H') ?_ m0
   ⟨0,[],none,none,none,H3,IY,T.keep _ _ _ st3 fun b hb o e=>hold b o e,fH3,w0⟩
  rintro n s5 ⟨i,zs,v0,wv0,zv0,H5,I5,st5,fr5,w5⟩
  obtain ⟨hacc,turn5⟩:=turn i n zs H5 w5
  rcases turn5 with ⟨stop,qn⟩ | ⟨go,hlen,step⟩
  ·refine thn (T.done (cO X x x2 x3 ys scope h3.objs.size {s2 with heap:=h3} H3 fp) rfl rfl rfl hcalm i [] s5 _ H5 _ I5 (stat fr5) st5 stop) fun r s6 ⟨hr,I6⟩=>?_
   subst hr
   obtain ⟨m6,n6,_⟩:=I6.loc
   refine fin p h3.objs.size H5 s6 m6 (I3.call' I6.os I6.base I6.hok I6.bare fun b hb=>⟨(f2 b hb).2.2.2.1,(f2 b hb).2.1,(f2 b hb).2.2.2.2.1,(f2 b hb).2.2.2.2.2⟩) n6 I6.free (Nat.ne_of_gt hlt3) I3.sz (fun y c e=>Nat.ne_of_lt (hcell3 y c e)) (fun q hq=>?_) qn
   exact Nat.ne_of_lt (Heap.lt_size (I3.pin q hq).1)
  ·refine thn (T.item (cO X x x2 x3 ys scope h3.objs.size {s2 with heap:=h3} H3 fp) rfl rfl rfl hcalm i [] s5 _ H5 _ I5 (stat fr5) st5 go) fun r s6 ⟨u,hr,h6⟩=>?_
   subst hr
   refine thn h6 fun _ s7 ⟨xv,H7,I7,r7,y7,st7,fr7⟩=>?_
   have I7':=I7.pinned (stat fr7) (T.obj _ _ st7)
   obtain ⟨T7,v1,v2,v3,eT,hT7,step7⟩:=step xv H7 y7
   refine thn (pgx _ s7 _ H7 xv u (fun σ' H'=>σ'=some v1::some v2::some v3::bi fr σ/\H'=H7) I7' r7 ⟨T7,[v1,v2,v3],eT,SqT.of hT7,rfl,v1,[v2,v3],rfl,v2,[v3],rfl,v3,[],rfl,rfl,rfl,rfl⟩) fun _ s8 ⟨σ8,H8,I8,e8,e8'⟩=>?_
   subst e8 e8'
   refine thn (pel _ s8 _ H8 _ I8 step7) fun yv s9 ⟨v9,H9,I9,r9,hp9,m',hm',w9⟩=>?_
   refine thn (bo _ s9 _ H9 (.ref p) [v9] (.ref p) [yv] (fun _ H'=>H'=upd H9 p (.lst (zs++[v9]))) I9 rfl (.cons r9 .nil) ⟨p,zs,v9,rfl,rfl,hp9,hlen,rfl⟩) fun _ s10 ⟨_,H10,I10,_,e10⟩=>?_
   subst e10
   refine ⟨m',hm',i+1,zs++[v9],some v1,some v2,some v3,_,I10.unpinned,T.keep _ _ _ st7 fun b hb o e=>(I10.pin (b,o) (List.mem_append_right _ (List.mem_append_right _ (br hb e)))).1,fun b hb=>?_,w9⟩
   obtain ⟨o,e,d⟩:=T.obj _ _ st7 b hb
   exact (I10.pin (b,o) (List.mem_append_right _ (List.mem_append_right _ (br hb e)))).2.1
 exact codeAny_compStart_list loop (T.self X.A 0 _ _ _ (T.keep _ _ _ st3 fun b hb o e=>hold b o e) loop)
end
end L2
namespace L2
open PySem PySem.Spec PyProof.Rows
theorem uY {l:Addr} {xs:List V} {g:TG} {tb:TS} {D:eh} {σ:St} {H:Hp} (Pv:Nat->St->Hp->Prop) (h0:Pv 0 σ H) (hl: ∀ i σ H,i<=xs.length->Pv i σ H->H l=some (.tup xs))
  (step: ∀ i x T σ H,xs[i]? =some x->H T=none->Pv i σ H->g (.ref T) σ (upd H T (.tup [.int (i:Int),x])) fun σ2 H2=>tb {D with nx:=Pv (i+1),ct:=Pv (i+1),bk:=D.nx} σ2 H2) (fin: ∀ σ H,Pv xs.length σ H->D.nx σ H):
  ∃ W:Nat->Nat->St->Hp->Prop,(∃ m,W 0 m σ H)/\ ∀ i m σ H,W i m σ H->
   ((Ite l).stop i H/\D.nx σ H)\/((Ite l).go i H/\ ∃ N:St->Hp->Prop,(∀ σ' H',N σ' H'-> ∃ m',m'<m/\W (i+1) m' σ' H')/\ ∀ x H',(Ite l).yld i H x H'->g x σ H' fun σ2 H2=>tb {D with nx:=N,ct:=N,bk:=D.nx} σ2 H2):=by
 refine ⟨fun i m σ H=>m=xs.length-i/\i<=xs.length/\Pv i σ H,⟨xs.length,by simp,Nat.zero_le _,h0⟩,?_⟩
 rintro i m σ H ⟨rfl,hi,p⟩
 have q:=hl i σ H hi p
 by_cases hlt:i<xs.length
 ·refine .inr ⟨⟨xs,xs[i],q,List.getElem?_eq_getElem hlt⟩,Pv (i+1),fun σ' H' p'=>⟨xs.length- (i+1),by lia,rfl,hlt,p'⟩,fun x H' y=>?_⟩
  obtain ⟨T,v,fT,rfl,rfl,hk⟩:=y
  exact step i v T σ H (hk xs q) fT p
 ·have e:i=xs.length:=by lia
  subst e
  exact .inl ⟨⟨xs,q,rfl⟩,fin σ H p⟩
end L2
namespace My
open PySem L2
inductive Ts (H:Hp):List V->List V->Prop where
 | nil:Ts H [] []
 | cons {a:Addr} {k:Str} {r vs out:List V}:H a=some (.tup (.str k::r))->k.length<=1000->r.length<=3->Ts H (ft (.str k::r)++vs) out->Ts H (.ref a::vs) (.ref a::out)
theorem Ts.len {H:Hp} {ws out:List V} (h:Ts H ws out):ws.length<=out.length:=by
 induction h with
 | nil=>exact Nat.le_refl _
 | cons _ _ _ _ ih=>
  rw [List.length_append]at ih
  rw [List.length_cons,List.length_cons]
  lia
theorem Ts.same {H H':Hp} {ws out:List V} (sm:Same H H') (h:Ts H ws out):Ts H' ws out:=by
 induction h with
 | nil=>exact .nil
 | cons ha hk hr _ ih=>exact .cons (sm _ _ ha) hk hr ih
noncomputable def mw:Sp:=fun vs H Q _=> ∃ v out,vs=[v]/\Ts H [v] out/\out.length<=1000/\ ∀ p H',Same H H'->H' p=some (.lst out)->Q (.ref p) H'
theorem scTuples:aH ["formula","found","waiting","one"] ["formula"] (ah lp):=fsc
theorem j8 (F:Fun K "tuples_of" "tuples_of" lp f fd)
  (GI:FnOk P w K mg base CX0 1 f2 fd2 ["formula"] ld) (bI:Binds K fd2 ["formula"] []) (kI:PySem.W.keepIn K (.ref f2)=true) (mI:mg "inner_of"=some (.ref f2)):
  FnOk P w K mg base CX0 2 f fd ["formula"] mw:=by
 refine F.ok scTuples (fun vs H Q E h=>?_) (fun cdv A outer s H vs Q E hr h=>?_)
 ·obtain ⟨v,b,rfl,_⟩:=h
  rfl
 obtain ⟨v,out,rfl,hT,hout,q⟩:=h
 refine ⟨_,ad (am (i:=1) scTuples.nd rfl (Or.inl rfl) (bu ac))
  (ad (am (i:=2) scTuples.nd rfl (Or.inl rfl) (bu (aa (pv 0) ac)))
  (ad (nr PassesOwn.never (nq (pv 2) (fun _=>rfl))
   (ad (am (i:=3) scTuples.nd rfl (Or.inl rfl) (hU PySem.F.plainAttrs_list PySem.F.slot_list_pop PySem.F.type_list_pop h8 (pv 2)))
   (ad (cG (ee PySem.F.plainAttrs_list PySem.F.slot_list_append PySem.F.type_list_append bo (pv 1) (aa (pv 3) ac)))
   (aj (cG (ee PySem.F.plainAttrs_list PySem.F.slot_list_extend PySem.F.type_list_extend v4 (pv 2) (aa (nz (al GI hr rfl mI kI bI .nil ax (aa (pv 3) ac)) (ip eR ae)) ac)))))))
  (aj (ay (pv 1))))),?_⟩
 refine ⟨(by show 0<=sizeLine;decide),fun p1 h1=>?_⟩
 refine ⟨_,rfl,(by show 1<=sizeLine;decide),fun p2 h2=>?_⟩
 dsimp only [xP,mj,dC,tC]
 have n21:p1≠p2:=fun e=>by
  subst e
  rw [ab]at h2
  cases h2
 have h2':H p2=none:=by rw [ai (Ne.symm n21)]at h2;exact h2
 refine sM (fun σ H'=> ∃ (ws done rest:List V) (o:Option V),σ=[some v,some (.ref p1),some (.ref p2),o]/\H' p1=some (.lst done)/\H' p2=some (.lst ws.reverse)/\Same H H'/\Ts H ws rest/\done++rest=out)
  (fun _ H'=>match H' p1 with | some (.lst d)=>out.length-d.length | _=>0) ⟨[v],[],out,none,rfl,by rw [ai n21,ab],ab,(ag h1 _).trans (ag h2 _),hT,rfl⟩ ?_ ?_
 ·rintro σ H' ⟨ws,done,rest,o,rfl,g1,g2,sm,hW,he⟩
  refine ⟨_,rfl,_,.inl ⟨ws.reverse,SqL.of g2,rfl⟩,?_⟩
  have hle:done.length+rest.length=out.length:=by rw [<- he,List.length_append]
  cases hW with
  | nil=>
   refine cp ?_
   refine ⟨_,rfl,?_⟩
   rw [List.append_nil]at he
   subst he
   exact q _ _ sm g1
  | @cons a k r vs rest' ha hk hr3 ht=>
   have ne:(!((V.ref a::vs).reverse).isEmpty)=true:=by simp
   refine bQ (fun _=>?_) (fun c=>absurd ne c)
   rw [List.reverse_cons]at g2
   refine ⟨_,rfl,.inl ⟨rfl,_,SqL.of g2⟩,p2,_,.ref a,rfl,rfl,g2,by simp,?_⟩
   rw [List.dropLast_concat]
   have l1: ∀ {c:Addr} {oo:HO},H c=some oo->c≠p1:=fun h=>af h h1
   have l2: ∀ {c:Addr} {oo:HO},H c=some oo->c≠p2:=fun h=>af h h2'
   rw [List.length_cons]at hle
   refine ⟨_,rfl,.inl ⟨rfl,_,SqL.of (show upd H' p2 (.lst vs.reverse) p1=some (.lst done) by rw [ai n21];exact g1)⟩,_,rfl,p1,done,.ref a,rfl,rfl,by rw [ai n21];exact g1,au (by lia),?_⟩
   have sm1:Same H (upd (upd H' p2 (.lst vs.reverse)) p1 (.lst (done++[.ref a]))):=fun c oo h=>by rw [ai (l1 h),ai (l2 h)];exact sm c oo h
   have k2:upd (upd H' p2 (.lst vs.reverse)) p1 (.lst (done++[.ref a])) p2=some (.lst vs.reverse):=by rw [ai (Ne.symm n21),ab]
   refine ⟨_,rfl,.inl ⟨rfl,_,SqL.of k2⟩,_,rfl,a,k,r,rfl,sm1 _ _ ha,by lia,fun p H3 sm4 hp=>?_⟩
   have k1':H3 p1=some (.lst (done++[.ref a])):=sm4 _ _ ab
   have k2':H3 p2=some (.lst vs.reverse):=sm4 _ _ k2
   have hil:(ft (.str k::r)).length<=3:=by
    show (if (c6 k).isSome=true then r else []).length<=3
    split
    ·exact hr3
    ·exact Nat.zero_le _
   refine ⟨_,rfl,p,_,rfl,rfl,SqT.of hp,fun p4 h4=>?_⟩
   have n41:p1≠p4:=af k1' h4
   have n42:p2≠p4:=af k2' h4
   have hlv:=ht.len
   rw [List.length_append]at hlv
   refine ⟨p2,p4,_,_,rfl,rfl,by rw [ai n42];exact k2',SqT.of ab,?_,?_⟩
   ·rw [List.length_reverse,List.length_reverse]
    exact Nat.le_of_lt (au (by lia))
   ·refine ⟨⟨ft (.str k::r)++vs,done++[.ref a],rest',_,rfl,by rw [ai n21,ai n41];exact k1',by rw [ab,List.reverse_append],fun c oo h=>?_,ht,by rw [List.append_assoc];exact he⟩,?_⟩
    ·have h3:=sm4 _ _ (sm1 c oo h)
     rw [ai (l2 h),ai (af h3 h4)]
     exact h3
    ·rw [ai n21,ai n41,k1',g1]
     show out.length- (done++[V.ref a]).length<out.length-done.length
     rw [List.length_append,List.length_singleton]
     lia
 ·rintro σ H' Q1 Q2 hq ⟨y,e1,k,t,h⟩
  exact ⟨y,e1,k,t,hq _ _ h⟩
theorem bX {J:It} {α:Type} {as:List α} {A:α->V->Prop} {xs:List V} {fr:List Nat} {te:TE} {σ:St} {H1:Hp} {Q:VK} (hn:xs.length<=1000) (hP:Paired A as xs)
  (hgo: ∀ i H,Same H1 H->i<xs.length->J.go i H) (hst: ∀ H,Same H1 H->J.stop xs.length H) (hy: ∀ i H v H',Same H1 H->J.yld i H v H'->H'=H/\xs[i]? =some v)
  (R:Hp->α->V->Prop) (mono: ∀ {H H':Hp} {a:α} {v:V},TK H H'->R H a v->R H' a v)
  (hte: ∀ a v H (k:VK),a∈as->A a v->Same H1 H->(∀ u H',Same H H'->R H' a u->k u H')->te (some v::bi fr σ) H k)
  (hd: ∀ p zs H',H1 p=none->Same H1 H'->H' p=some (.lst zs)->Paired (R H') as zs->Q (.ref p) H'):de fr te σ J H1 Q:=by
 intro p hp
 have hl:as.length=xs.length:=Paired.length hP
 refine ⟨fun i m zs H=>i<=xs.length/\m=xs.length-i/\Same H1 H/\H p=some (.lst zs)/\zs.length=i/\Paired (R H) (as.take i) zs,⟨_,Nat.zero_le _,rfl,ag hp _,ab,rfl,.nil⟩,?_⟩
 rintro i m zs H ⟨hi,hm,sm,gp,hz,hT⟩
 refine ⟨gp,?_⟩
 by_cases e:i=xs.length
 ·subst e
  rw [<- hl,List.take_length]at hT
  exact .inl ⟨hst H sm,hd p zs H hp sm gp hT⟩
 ·have hlt:i<xs.length:=by lia
  refine .inr ⟨hgo i H sm hlt,au (by lia),fun v H' hv=>?_⟩
  obtain ⟨rfl,hv2⟩:=hy i H v H' sm hv
  obtain ⟨a,ha,hA⟩:=aN hP hv2
  refine hte a v _ _ (List.mem_of_getElem? ha) hA sm fun u H2 s2 r=>?_
  have gp2:=s2 _ _ gp
  have tk:TK H2 (upd H2 p (.lst (zs++[u]))):=TK.lst gp2
  refine ⟨gp2,xs.length- (i+1),by lia,by lia,rfl,?_,ab,by rw [List.length_append,hz];rfl,?_⟩
  ·intro b o hb
   rw [ai (af hb hp)]
   exact s2 _ _ (sm _ _ hb)
  ·rw [List.take_add_one,ha]
   exact Paired.snoc (Paired.mapP hT fun _ _ r=>mono ((aG s2).trans tk) r) (mono tk r)
theorem qL {α:Type} {J:It} {as:List α} {xs:List V} {A:α->V->Prop} {fr:List Nat} {tc:TT} {te:TE} {σ:St} {H1:Hp} {Q:VK} (hn:xs.length<=1000) (hP:Paired A as xs)
  (hgo: ∀ i H,Same H1 H->i<xs.length->J.go i H) (hst: ∀ H,Same H1 H->J.stop xs.length H) (hy: ∀ i H v H',Same H1 H->J.yld i H v H'->H'=H/\xs[i]? =some v)
  (c:α->Bool) (R:Hp->α->V->Prop) (mono: ∀ {H H':Hp} {a:α} {v:V},TK H H'->R H a v->R H' a v)
  (htc: ∀ a v H (k:Bool->Hp->Prop),a∈as->A a v->Same H1 H->(∀ H',Same H H'->k (c a) H')->tc (some v::bi fr σ) H k)
  (hte: ∀ a v H (k:VK),a∈as->A a v->c a=true->Same H1 H->(∀ u H',Same H H'->R H' a u->k u H')->te (some v::bi fr σ) H k)
  (hd: ∀ p zs H',H1 p=none->Same H1 H'->H' p=some (.lst zs)->Paired (R H') (as.filter c) zs->Q (.ref p) H'):kH fr tc te σ J H1 Q:=by
 intro p hp
 refine ⟨fun i m zs H=>i<=xs.length/\m=xs.length-i/\Same H1 H/\H p=some (.lst zs)/\zs.length<=i/\Paired (R H) ((as.take i).filter c) zs,⟨_,Nat.zero_le _,rfl,ag hp _,ab,Nat.le_refl _,.nil⟩,?_⟩
 rintro i m zs H ⟨hi,hm,sm,gp,hz,hT⟩
 refine ⟨gp,?_⟩
 by_cases e:i=xs.length
 ·subst e
  rw [<- Paired.length hP,List.take_length]at hT
  exact .inl ⟨hst H sm,hd p zs H hp sm gp hT⟩
 ·have hlt:i<xs.length:=by lia
  refine .inr ⟨hgo i H sm hlt,au (by lia),fun v H' hv=>?_⟩
  obtain ⟨rfl,hv2⟩:=hy i H v H' sm hv
  obtain ⟨a,ha,hA⟩:=aN hP hv2
  have etk:(as.take (i+1)).filter c=(as.take i).filter c++(if c a then [a]else []):=by
   rw [List.take_add_one,ha,List.filter_append]
   congr 1
   show List.filter c [a]=_
   by_cases hc:c a=true
   ·rw [if_pos hc,List.filter_cons_of_pos hc];rfl
   ·rw [if_neg hc,List.filter_cons_of_neg hc];rfl
  refine htc a v _ _ (List.mem_of_getElem? ha) hA sm fun H0 s0=>?_
  have sm0:=sm.trans s0
  have gp0:=s0 _ _ gp
  by_cases hc:c a=true
  ·rw [if_pos hc]at etk
   rw [if_pos hc]
   refine hte a v _ _ (List.mem_of_getElem? ha) hA hc sm0 fun u H2 s2 r=>?_
   have gp2:=s2 _ _ gp0
   have tk:TK H2 (upd H2 p (.lst (zs++[u]))):=TK.lst gp2
   refine ⟨gp2,xs.length- (i+1),by lia,by lia,rfl,?_,ab,by rw [List.length_append];show zs.length+1<=i+1;lia,?_⟩
   ·intro b o hb
    rw [ai (af hb hp)]
    exact s2 _ _ (sm0 _ _ hb)
   ·rw [etk]
    exact Paired.snoc (Paired.mapP hT fun _ _ r=>mono ((aG (s0.trans s2)).trans tk) r) (mono tk r)
  ·rw [if_neg hc,List.append_nil]at etk
   rw [if_neg hc]
   exact ⟨xs.length- (i+1),by lia,by lia,rfl,sm0,gp0,by lia,by rw [etk];exact Paired.mapP hT fun _ _ r=>mono (aG s0) r⟩
theorem iK {K:PySem.W.Frag} {a:Addr} {xs:List V} {H1:Hp} (ha:H1 a=some (.lst xs)): ∀ i H,Same H1 H->i<xs.length->(Itl K a).go i H:=fun i H s h=>⟨xs,xs[i],SqL.of (s _ _ ha),List.getElem?_eq_getElem h⟩
theorem iJ {K:PySem.W.Frag} {a:Addr} {xs:List V} {H1:Hp} (ha:H1 a=some (.lst xs)): ∀ H,Same H1 H->(Itl K a).stop xs.length H:=fun H s=>⟨xs,SqL.of (s _ _ ha),Nat.le_refl _⟩
theorem l0 {K:PySem.W.Frag} {a:Addr} {xs:List V} {H1:Hp} (ha:H1 a=some (.lst xs)): ∀ i H v H',Same H1 H->(Itl K a).yld i H v H'->H'=H/\xs[i]? =some v:=fun i H v H' s hv=>⟨hv.1,by obtain ⟨rfl,hv⟩:=hv;exact hv xs (SqL.of (s _ _ ha))⟩
theorem cM {K:PySem.W.Frag} {a:Addr} {xs:List V} {H1:Hp} (ha:H1 a=some (.tup xs)): ∀ i H,Same H1 H->i<xs.length->(Itt K a).go i H:=fun i H s h=>⟨xs,xs[i],SqT.of (s _ _ ha),List.getElem?_eq_getElem h⟩
theorem cL {K:PySem.W.Frag} {a:Addr} {xs:List V} {H1:Hp} (ha:H1 a=some (.tup xs)): ∀ H,Same H1 H->(Itt K a).stop xs.length H:=fun H s=>⟨xs,SqT.of (s _ _ ha),Nat.le_refl _⟩
theorem dg {K:PySem.W.Frag} {a:Addr} {xs:List V} {H1:Hp} (ha:H1 a=some (.tup xs)): ∀ i H v H',Same H1 H->(Itt K a).yld i H v H'->H'=H/\xs[i]? =some v:=fun i H v H' s hv=>⟨hv.1,by obtain ⟨rfl,hv⟩:=hv;exact hv xs (SqT.of (s _ _ ha))⟩
theorem cx {α:Type} {g:α->V}: ∀ {l:List α} {zs:List V},Paired (fun a v=>v=g a) l zs->zs=l.map g
 | _,_,.nil=>rfl
 | _,_,.cons h t=>by rw [h,cx t];rfl
noncomputable def Fm.prt:Fm->List Int
 | .num _=>[]
 | .own _=>[]
 | .part k _=>[k]
 | .bin _ a b=>a.prt++b.prt
 | .whn a b c=>a.prt++(b.prt++c.prt)
noncomputable def Fm.lvl:Fm->Prop
 | .num _=>True
 | .own _=>False
 | .part _ _=>True
 | .bin op a b=>a.lvl/\b.lvl/\(op="times"-> ∀ k∈a.prt,k∉b.prt)
 | .whn _ _ _=>False
noncomputable def LvP (ρ:Fm->Prop) (H:Hp) (rs:List V):Prop:= ∀ v∈rs,∃ k x,Rep H (.part k x) v/\(Fm.part k x).wfp ρ
theorem LvP.mono {ρ:Fm->Prop} {H H':Hp} (t:TK H H') {rs:List V} (h:LvP ρ H rs):LvP ρ H' rs:=fun v hv=>by
 obtain ⟨k,x,r,w⟩:=h v hv
 exact ⟨k,x,r.mono t,w⟩
theorem LvP.leafs {ρ:Fm->Prop} {H:Hp} {rs:List V} (h:LvP ρ H rs):yG ρ H rs:=fun v hv=>by
 obtain ⟨k,x,r,w⟩:=h v hv
 exact ⟨_,r,w,rfl⟩
theorem ei {ρ:Fm->Prop} {S:Int->Prop} (hS: ∀ k x,ρ (.part k x)->S k): ∀ {f:Fm},f.wfp ρ-> ∀ k∈f.prt,S k
 | .num _,_,k,h=>by cases h
 | .own _,_,k,h=>by cases h
 | .part j x,w,k,h=>by rw [List.mem_singleton.mp h];exact hS j x w.2
 | .bin _ a b,w,k,h=>by
  rcases List.mem_append.mp h with h | h
  ·exact ei hS w.2.1 k h
  ·exact ei hS w.2.2 k h
 | .whn a b c,w,k,h=>by
  rcases List.mem_append.mp h with h | h
  ·exact ei hS w.1 k h
  ·rcases List.mem_append.mp h with h | h
   ·exact ei hS w.2.1 k h
   ·exact ei hS w.2.2 k h
theorem et {ρ τ:Fm->Prop} (hS: ∀ f,ρ f->τ f): ∀ {f:Fm},f.wfp ρ->f.wfp τ
 | .num _,h=>h
 | .own _,h=>⟨h.1,hS _ h.2⟩
 | .part _ _,h=>⟨h.1,hS _ h.2⟩
 | .bin _ _ _,h=>⟨h.1,et hS h.2.1,et hS h.2.2⟩
 | .whn _ _ _,h=>⟨et hS h.1,et hS h.2.1,et hS h.2.2⟩
theorem nR {ρ:Fm->Prop} (hno: ∀ x,¬ ρ (.own x)) {f:Fm} (w:f.wfp ρ) (h:f.size=1):f.lvl:=by
 cases f with
 | num _=>trivial
 | own x=>exact (hno x w.2).elim
 | part _ _=>trivial
 | bin _ a b=>have:=a.size_pos;have:a.size+b.size+1=1:=h;lia
 | whn a b c=>have:=a.size_pos;have:a.size+b.size+c.size+1=1:=h;lia
noncomputable def xY (n:Nat) (ρ:Fm->Prop):Sp:=fun vs H Q _=> ∃ (tp rl sg:Addr) (rs:List V) (room:Int) (ss:List Str),vs=[.ref tp,.ref rl,.int room,.ref sg]/\Tp H tp/\rl≠tp/\sg≠tp/\H rl=some (.lst rs)/\rs.length<=1000/\LvP ρ H rs/\
 H sg=some (.lst (ss.map V.str))/\1<=ss.length/\ss.length<=1000/\(∀ x∈ss,x∈ops)/\1<=room/\room<=(n:Int)/\room<=1000/\ ∀ v f H',Rep H' f v->f.wfp ρ->f.lvl->(f.size:Int)<=2*room-1->Kp tp H H'->Tp H' tp->Q v H'
theorem jo (tp:Addr) (H:Hp) (o:HO):Kp tp H (upd H tp o):=fun b u h hb=>by rw [ai hb];exact h
theorem qA {tp:Addr} {H H':Hp} (s:Same H H'):Kp tp H H':=fun b u h _=>s _ _ h
theorem wE {ρ:Fm->Prop} {H:Hp}: ∀ {rs:List V},LvP ρ H rs-> ∃ ks:List Int,Paired (fun (k:Int) v=> ∃ x,Rep H (.part k x) v/\(Fm.part k x).wfp ρ) ks rs
 | [],_=>⟨[],.nil⟩
 | v::r,h=>by
  obtain ⟨ks,hk⟩:=wE (rs:=r) fun u hu=>h u (List.mem_cons_of_mem _ hu)
  obtain ⟨k,x,hR,hw⟩:=h v List.mem_cons_self
  exact ⟨k::ks,.cons ⟨x,hR,hw⟩ hk⟩
theorem uP {ρ:Fm->Prop} {S:Int->Prop} {H:Hp}: ∀ {ks:List Int} {zs:List V},Paired (fun (k:Int) v=> ∃ x,Rep H (.part k x) v/\(Fm.part k x).wfp ρ) ks zs->(∀ k∈ks,S k)->LvP (fun g=>ρ g/\ ∀ k x,g=.part k x->S k) H zs
 | _,_,.nil,_,v,hv=>by cases hv
 | _,_,.cons ⟨x,hR,hw⟩ t,hS,v,hv=>by
  rcases List.mem_cons.mp hv with e | e
  ·subst e
   exact ⟨_,x,hR,hw.1,hw.2,fun k y z=>by cases z;exact hS _ List.mem_cons_self⟩
  ·exact uP t (fun k hk=>hS k (List.mem_cons_of_mem _ hk)) v e
theorem FnOk.exA {P:Program} {w:World} {K:PySem.W.Frag} {mg:Str->Option Value} {base:Heap} {CX:CXT} {k:Nat} {f:Addr} {fd:FuncData} {ps:List Str} {α:Type} {sp:α->Sp} (h: ∀ a,FnOk P w K mg base CX k f fd ps (sp a)):FnOk P w K mg base CX k f fd ps (fun vs H Q E=> ∃ a,sp a vs H Q E):=
 ⟨fun vs H Q E ⟨a,z⟩=>(h a).len vs H Q E z,fun A o s H args us vs Q E r e b v ⟨a,z⟩=>(h a).run A o s H args us vs Q E r e b v z⟩
noncomputable def mx (n:Nat):Sp:=fun vs H Q E=> ∃ ρ:Fm->Prop,(∀ x,¬ ρ (.own x))/\xY n ρ vs H Q E
noncomputable def qe:Sp:=fun vs H Q E=> ∃ ρ:Fm->Prop,qd ρ vs H Q E
noncomputable abbrev xI:List Str:=["tape","readings","room","signs","left","sign","one","cut","some","others","other"]
theorem scLvF:aH xI ["tape","readings","room","signs"] (ah c7):=fsc
theorem vU {n:Nat} (F:Fun K "_law_level_formula" "_law_level_formula" c7 f fd) (G:Gb mg)
  (GD:FnOk P w K mg base CX0 1 f2 fd2 ["tape","many"] bH) (bD:Binds K fd2 ["tape","many"] []) (kD:PySem.W.keepIn K (.ref f2)=true) (mD:mg "_law_digit"=some (.ref f2))
  (GL:FnOk P w K mg base CX0 3 f3 fd3 ["tape","readings"] qe) (bL:Binds K fd3 ["tape","readings"] []) (kL:PySem.W.keepIn K (.ref f3)=true) (mL:mg "_law_leaf"=some (.ref f3))
  (GS:FnOk P w K mg base CX0 (n+3) f fd ["tape","readings","room","signs"] (mx n)) (bS:Binds K fd ["tape","readings","room","signs"] []) (mS:mg "_law_level_formula"=some (.ref f)):
  FnOk P w K mg base CX0 (n+4) f fd ["tape","readings","room","signs"] (mx (n+1)):=by
 refine F.ok scLvF (fun vs H Q E h=>?_) (fun cdv A outer s H vs Q E hr h=>?_)
 ·obtain ⟨ρ,_,tp,rl,sg,rs,room,ss,rfl,_⟩:=h
  rfl
 obtain ⟨ρ,hno,tp,rl,sg,rs,room,ss,rfl,ht,n1,n2,hrl,hrs,hlv,hsg,hs1,hs2,hso,h1,h2,h3,q⟩:=h
 have hr1:=hr.mono (show 1<=n+3 by lia)
 have hr3:=hr.mono (show 3<=n+3 by lia)
 refine ⟨_,ad (aY (PW.pt (tW (aF j4 (pv 2) ae (aK _)) (oQ (aF bh (al GD hr1 rfl mD kD bD .nil ax (aa (pv 0) (aa ae ac))) ae (aK _)))))
   (aj (ay (al GL hr3 rfl mL kL bL .nil ax (aa (pv 0) (aa (pv 1) ac))))) aM)
  (ad (am (i:=4) scLvF.nd rfl (Or.inl rfl) (aC aV ae (al GD hr1 rfl mD kD bD .nil ax (aa (pv 0) (aa (aC cT (pv 2) ae) ac)))))
  (ad (am (i:=5) scLvF.nd rfl (Or.inl rfl) (aq aL (pv 3) (al GD hr1 rfl mD kD bD .nil ax (aa (pv 0) (aa (aA aJ rfl G.len PySem.boot_len (aa (pv 3) ac)) ac))) (fun _ _=>rfl)))
  (ad (aY (aF nA (pv 5) aT (aK _))
   (ad (am (i:=6) scLvF.nd rfl (Or.inl rfl) (al GS hr rfl mS F.kp bS .nil ax (aa (pv 0) (aa (pv 1) (aa (pv 4) (aa (pv 3) ac))))))
   (aj (ay (aS (aa (pv 5) (aa (pv 6) (aa (al GS hr rfl mS F.kp bS .nil ax (aa (pv 0) (aa (pv 1) (aa (aC cT (pv 2) (pv 4)) (aa (pv 3) ac))))) ac))))))) aM)
  (ad (am (i:=7) scLvF.nd rfl (Or.inr rfl) (al GD hr1 rfl mD kD bD .nil ax (aa (pv 0) (aa ae ac))))
  (ad (jb (i:=8) (sc0:=ah c7) (N0:=xI) (ys:=["cut"]) (fr:=[7]) rfl scLvF.nd rfl (Or.inl rfl) (gr (pv 1)) rfl rfl
    cok
    (fun C s H ex=>aF bh (aq (r:=lG K) aB (pv 0) ae (fun _ _=>rfl)) (pv 1) (aK _)) (fun C s H ex=>pv 0))
  (ad (jb (i:=9) (sc0:=ah c7) (N0:=xI) (ys:=["cut"]) (fr:=[7]) rfl scLvF.nd rfl (Or.inl rfl) (gr (pv 1)) rfl rfl
    cok
    (fun C s H ex=>aF nA (aq (r:=lG K) aB (pv 0) ae (fun _ _=>rfl)) (pv 1) (aK _)) (fun C s H ex=>pv 0))
  (ad (am (i:=6) scLvF.nd rfl (Or.inl rfl) (al GS hr rfl mS F.kp bS .nil ax (aa (pv 0) (aa (pv 8) (aa (pv 4) (aa (pv 3) ac))))))
  (ad (am (i:=10) scLvF.nd rfl (Or.inl rfl) (al GS hr rfl mS F.kp bS .nil ax (aa (pv 0) (aa (pv 9) (aa (aC cT (pv 2) (pv 4)) (aa (pv 3) ac))))))
  (aj (ay (aq aL (bu (aa (aS (aa aT (aa (pv 6) (aa (pv 10) ac)))) (aa (aS (aa aT (aa (pv 10) (aa (pv 6) ac)))) ac))) (al GD hr1 rfl mD kD bD .nil ax (aa (pv 0) (aa ae ac))) (fun _ _=>rfl)))))))))))),?_⟩
 have hsl:(ss.map V.str).length=ss.length:=List.length_map _
 refine ⟨_,rfl,room,2,rfl,rfl,_,rfl,?_⟩
 refine bQ (fun c=>dQ ?_) (fun c=>?_)
 ·exact ⟨_,rfl,_,rfl,ρ,tp,rl,rs,rfl,ht,n1,hrl,hrs,hlv.leafs,fun v g H2 hR hw hz k2 t2=>q v g H2 hR hw (nR hno hw hz) (by rw [hz];lia) k2 t2⟩
 have hroom:2<=room:=by
  have: ¬ room<2:=fun z=>c (decide_eq_true z)
  lia
 refine ⟨_,rfl,tp,5,rfl,ht,by decide,by decide,fun d t d0 d1=>?_⟩
 have k1:Kp tp H (upd H tp (.lst [.int t])):=jo _ _ _
 have t1:Tp (upd H tp (.lst [.int t])) tp:=⟨t,ab⟩
 generalize upd H tp (.lst [.int t])=H1 at k1 t1 ⊢
 refine ⟨rfl,_,rfl,?_⟩
 refine bQ (fun c1=>?_) (fun c1=>?_)
 ·exact ⟨_,rfl,_,rfl,ρ,tp,rl,rs,rfl,t1,n1,k1 _ _ hrl n1,hrs,(hlv.mono (k1.tk ht)).leafs,fun v g H2 hR hw hz k2 t2=>q v g H2 hR hw (nR hno hw hz) (by rw [hz];lia) (k1.trans k2) t2⟩
 refine ⟨_,rfl,_,rfl,room,1,rfl,rfl,tp,room-1,rfl,t1,by lia,by lia,fun d2 u2 e0 e1=>?_⟩
 have k2:=k1.trans (jo tp H1 (.lst [.int u2]))
 have t2:Tp (upd H1 tp (.lst [.int u2])) tp:=⟨u2,ab⟩
 generalize upd H1 tp (.lst [.int u2])=H2 at k2 t2 ⊢
 refine ⟨1,d2,rfl,rfl,?_⟩
 refine ⟨_,rfl,_,rfl,_,rfl,sg,_,rfl,.inl (SqL.of (k2 _ _ hsg n2)),tp,_,rfl,t2,by lia,by lia,fun d3 u3 g0 g1=>?_⟩
 have k3:=k2.trans (jo tp H2 (.lst [.int u3]))
 have t3:Tp (upd H2 tp (.lst [.int u3])) tp:=⟨u3,ab⟩
 generalize upd H2 tp (.lst [.int u3])=H3 at k3 t3 ⊢
 obtain ⟨sv,eat,eix⟩:=dF g0 g1
 rw [List.getElem?_map]at eix
 obtain ⟨sn,hsn,rfl⟩:=Option.map_eq_some_iff.mp eix
 have hop:=hso sn (List.mem_of_getElem? hsn)
 refine ⟨sg,_,_,_,rfl,rfl,SqL.of (k3 _ _ hsg n2),eat,?_⟩
 refine ⟨_,rfl,rfl,_,rfl,?_⟩
 have tp3:=k3.tk ht
 by_cases hne:sn="times"
 ·subst hne
  rw [show (!decide (V.str "times"=V.str "times"))=false by rw [decide_eq_true rfl];rfl]
  refine cp ?_
  refine ⟨_,rfl,tp,3,rfl,t3,by decide,by decide,fun d4 u4 _ _=>?_⟩
  have k4:=k3.trans (jo tp H3 (.lst [.int u4]))
  have t4:Tp (upd H3 tp (.lst [.int u4])) tp:=⟨u4,ab⟩
  generalize upd H3 tp (.lst [.int u4])=H4 at k4 t4 ⊢
  have hrl4:=k4 _ _ hrl n1
  obtain ⟨ks,hks⟩:=wE (hlv.mono (k4.tk ht))
  refine ⟨_,rfl,rl,rfl,⟨_,SqL.of hrl4⟩,?_⟩
  refine qL hrs hks (iK hrl4) (iJ hrl4) (l0 hrl4) (fun k=>decide (V.int k=V.int d4)) (fun H k v=> ∃ x,Rep H (.part k x) v/\(Fm.part k x).wfp ρ) (fun t ⟨x,hR,hw⟩=>⟨x,hR.mono t,hw⟩) ?_ ?_ ?_
  ·rintro k v Ha kk _ ⟨x,⟨b,rfl,hb⟩,_⟩ sa hk
   exact ⟨_,rfl,b,_,1,.int k,rfl,rfl,SqT.of (sa _ _ hb),ao (j:=1) rfl,_,rfl,rfl,_,rfl,hk Ha (Same.refl Ha)⟩
  ·rintro k v Ha kk _ ⟨x,hR,hw⟩ _ sa hk
   exact ⟨_,rfl,hk _ Ha (Same.refl Ha) ⟨x,hR.mono (aG sa),hw⟩⟩
  intro p5 zs H5 hp5 s5 gz hz
  have k5:=k4.trans (qA (tp:=tp) s5)
  have hrl5:=s5 _ _ hrl4
  refine ⟨_,rfl,rl,rfl,⟨_,SqL.of hrl5⟩,?_⟩
  refine qL hrs (Paired.mapP hks fun k v ⟨x,hR,hw⟩=>(⟨x,hR.mono (aG s5),hw⟩: ∃ x,Rep H5 (.part k x) v/\(Fm.part k x).wfp ρ)) (iK hrl5) (iJ hrl5) (l0 hrl5) (fun k=> !decide (V.int k=V.int d4)) (fun H k v=> ∃ x,Rep H (.part k x) v/\(Fm.part k x).wfp ρ) (fun t ⟨x,hR,hw⟩=>⟨x,hR.mono t,hw⟩) ?_ ?_ ?_
  ·rintro k v Ha kk _ ⟨x,⟨b,rfl,hb⟩,_⟩ sa hk
   exact ⟨_,rfl,b,_,1,.int k,rfl,rfl,SqT.of (sa _ _ hb),ao (j:=1) rfl,_,rfl,rfl,_,rfl,hk Ha (Same.refl Ha)⟩
  ·rintro k v Ha kk _ ⟨x,hR,hw⟩ _ sa hk
   exact ⟨_,rfl,hk _ Ha (Same.refl Ha) ⟨x,hR.mono (aG sa),hw⟩⟩
  intro p6 ys H6 hp6 s6 gy hy
  have k6:=k5.trans (qA (tp:=tp) s6)
  have ntp: ∀ {H':Hp} {b:Addr},Tp H' tp->H' b=none->b≠tp:=fun ⟨u,hu⟩ hb z=>by rw [z,hu]at hb;cases hb
  have t5:Tp H5 tp:=by obtain ⟨u,hu⟩:=t4;exact ⟨u,s5 _ _ hu⟩
  have t6:Tp H6 tp:=by obtain ⟨u,hu⟩:=t5;exact ⟨u,s6 _ _ hu⟩
  have n5:=ntp t4 hp5
  have n6:=ntp t5 hp6
  have lk:=Paired.length hks
  have lz:=Paired.length hz
  have ly:=Paired.length hy
  have lf1:=List.length_filter_le (fun k=>decide (V.int k=V.int d4)) ks
  have lf2:=List.length_filter_le (fun k=> !decide (V.int k=V.int d4)) ks
  have L1:LvP (fun g=>ρ g/\ ∀ k x,g=.part k x->k=d4) H6 zs:=(uP (S:=fun k=>k=d4) hz fun k hk=>V.int.inj (of_decide_eq_true (List.mem_filter.mp hk).2)).mono (aG s6)
  have L2:LvP (fun g=>ρ g/\ ∀ k x,g=.part k x->k≠d4) H6 ys:=uP (S:=fun k=>k≠d4) hy fun k hk z=>by
   have:=(List.mem_filter.mp hk).2
   rw [z,decide_eq_true rfl]at this
   cases this
  refine ⟨_,rfl,_,rfl,_,rfl,_,rfl,_,fun x h=>hno x h.1,tp,p5,sg,zs,1+d2,ss,rfl,t6,n5,n2,s6 _ _ gz,by lia,L1,k6 _ _ hsg n2,hs1,hs2,hso,by lia,by lia,by lia,fun v1 f1 H7 hR1 hw1 hl1 hz1 k7 t7=>?_⟩
  have k07:=k6.trans k7
  refine ⟨_,rfl,_,rfl,_,rfl,_,rfl,room,1+d2,rfl,rfl,_,rfl,_,fun x h=>hno x h.1,tp,p6,sg,ys,room- (1+d2),ss,rfl,t7,n6,n2,k7 _ _ gy n6,by lia,L2.mono (k7.tk t6),k07 _ _ hsg n2,hs1,hs2,hso,by lia,by lia,by lia,fun v2 f2 H8 hR2 hw2 hl2 hz2 k8 t8=>?_⟩
  have hR1':=hR1.mono (k8.tk t7)
  refine ⟨_,rfl,_,rfl,(by show 3<=sizeLine;decide),fun pa hpa=>?_⟩
  have s9:=ag hpa (.tup [.str "times",v1,v2])
  have g9:(upd H8 pa (.tup [.str "times",v1,v2])) pa=some (.tup [.str "times",v1,v2]):=ab
  generalize upd H8 pa (.tup [.str "times",v1,v2])=H9 at s9 g9 ⊢
  refine ⟨_,rfl,_,rfl,(by show 3<=sizeLine;decide),fun pb hpb=>?_⟩
  have s10:=ag hpb (.tup [.str "times",v2,v1])
  have g10:(upd H9 pb (.tup [.str "times",v2,v1])) pb=some (.tup [.str "times",v2,v1]):=ab
  generalize upd H9 pb (.tup [.str "times",v2,v1])=H10 at s10 g10 ⊢
  refine ⟨(by show 2<=sizeLine;decide),fun pl hpl=>?_⟩
  have s11:=ag hpl (.lst [.ref pa,.ref pb])
  have g11:(upd H10 pl (.lst [.ref pa,.ref pb])) pl=some (.lst [.ref pa,.ref pb]):=ab
  generalize upd H10 pl (.lst [.ref pa,.ref pb])=H11 at s11 g11 ⊢
  have S11:=s9.trans (s10.trans s11)
  have t11:Tp H11 tp:=by obtain ⟨u,hu⟩:=t8;exact ⟨u,S11 _ _ hu⟩
  have t10:Tp H10 tp:=by obtain ⟨u,hu⟩:=t8;exact ⟨u,s10 _ _ (s9 _ _ hu)⟩
  refine ⟨_,rfl,tp,2,rfl,t11,by decide,by decide,fun d5 u5 h50 h51=>?_⟩
  have k12:=jo tp H11 (.lst [.int u5])
  have t12:Tp (upd H11 tp (.lst [.int u5])) tp:=⟨u5,ab⟩
  generalize upd H11 tp (.lst [.int u5])=H12 at k12 t12 ⊢
  have kall:=k07.trans (k8.trans ((qA (tp:=tp) S11).trans k12))
  have T12:TK H8 H12:=fun b xs h=>k12.tk t11 _ _ (S11 _ _ h)
  have gl:=k12 _ _ g11 (ntp t10 hpl)
  have ga:=k12.tk t11 _ _ (s11 _ _ (s10 _ _ g9))
  have gb:=k12.tk t11 _ _ (s11 _ _ g10)
  have pr1:=ei (S:=fun k=>k=d4) (fun k x h=>h.2 k x rfl) hw1
  have pr2:=ei (S:=fun k=>k≠d4) (fun k x h=>h.2 k x rfl) hw2
  have W1:=et (τ:=ρ) (fun f h=>h.1) hw1
  have W2:=et (τ:=ρ) (fun f h=>h.1) hw2
  have hd5:d5=0\/d5=1:=by lia
  rcases hd5 with rfl | rfl
  ·refine ⟨pl,_,0,.ref pa,rfl,rfl,SqL.of gl,cf,q _ (.bin "times" f1 f2) H12 ⟨pa,v1,v2,rfl,ga,hR1'.mono T12,hR2.mono T12⟩ ⟨hop,W1,W2⟩ ⟨hl1,hl2,fun _ k a b=>pr2 k b (pr1 k a)⟩ ?_ kall t12⟩
   show ((f1.size+f2.size+1:Nat):Int)<=_
   lia
  ·refine ⟨pl,_,1,.ref pb,rfl,rfl,SqL.of gl,ao (j:=1) rfl,q _ (.bin "times" f2 f1) H12 ⟨pb,v2,v1,rfl,gb,hR2.mono T12,hR1'.mono T12⟩ ⟨hop,W2,W1⟩ ⟨hl2,hl1,fun _ k a b=>pr2 k a (pr1 k b)⟩ ?_ kall t12⟩
   show ((f2.size+f1.size+1:Nat):Int)<=_
   lia
 ·rw [show (!decide (V.str sn=V.str "times"))=true by rw [decide_eq_false fun z=>hne (V.str.inj z)];rfl]
  refine dQ ?_
  refine ⟨_,rfl,_,rfl,_,rfl,_,rfl,ρ,hno,tp,rl,sg,rs,1+d2,ss,rfl,t3,n1,n2,k3 _ _ hrl n1,hrs,hlv.mono tp3,k3 _ _ hsg n2,hs1,hs2,hso,by lia,by lia,by lia,fun v1 f1 H4 hR1 hw1 hl1 hz1 k4 t4=>?_⟩
  have k04:=k3.trans k4
  refine ⟨_,rfl,_,rfl,_,rfl,_,rfl,_,rfl,_,rfl,room,1+d2,rfl,rfl,_,rfl,ρ,hno,tp,rl,sg,rs,room- (1+d2),ss,rfl,t4,n1,n2,k04 _ _ hrl n1,hrs,hlv.mono (k04.tk ht),k04 _ _ hsg n2,hs1,hs2,hso,by lia,by lia,by lia,fun v2 f2 H5 hR2 hw2 hl2 hz2 k5 t5=>⟨(by show 3<=sizeLine;decide),fun p hp=>?_⟩⟩
  have s6:=ag hp (.tup [.str sn,v1,v2])
  have k56:Kp tp H5 (upd H5 p (.tup [.str sn,v1,v2])):=qA s6
  refine q _ (.bin sn f1 f2) _ ⟨p,v1,v2,rfl,ab,hR1.mono ((k5.trans k56).tk t4),hR2.mono (aG s6)⟩ ⟨hop,hw1,hw2⟩ ⟨hl1,hl2,fun z=>absurd z hne⟩ ?_ (k04.trans (k5.trans k56)) ?_
  ·show ((f1.size+f2.size+1:Nat):Int)<=_
   lia
  ·obtain ⟨u,hu⟩:=t5
   exact ⟨u,s6 _ _ hu⟩
theorem vV:FnOk P w K mg base CX0 3 f fd ["tape","readings","room","signs"] (mx 0):=
 ⟨fun vs H Q E h=>by
  obtain ⟨ρ,_,tp,rl,sg,rs,room,ss,rfl,_⟩:=h
  rfl,fun A o s H args us vs Q E r e b v h=>by
  obtain ⟨ρ,hno,tp,rl,sg,rs,room,ss,_,_,_,_,_,_,_,_,_,_,_,h1,h2,_⟩:=h
  have h2:room<=0:=h2
  lia⟩
theorem uC (F:Fun K "_law_level_formula" "_law_level_formula" c7 f fd) (G:Gb mg)
  (GD:FnOk P w K mg base CX0 1 f2 fd2 ["tape","many"] bH) (bD:Binds K fd2 ["tape","many"] []) (kD:PySem.W.keepIn K (.ref f2)=true) (mD:mg "_law_digit"=some (.ref f2))
  (GL:FnOk P w K mg base CX0 3 f3 fd3 ["tape","readings"] qe) (bL:Binds K fd3 ["tape","readings"] []) (kL:PySem.W.keepIn K (.ref f3)=true) (mL:mg "_law_leaf"=some (.ref f3))
  (bS:Binds K fd ["tape","readings","room","signs"] []) (mS:mg "_law_level_formula"=some (.ref f)): ∀ n:Nat,FnOk P w K mg base CX0 (n+3) f fd ["tape","readings","room","signs"] (mx n)
 | 0=>vV
 | n+1=>vU F G GD bD kD mD GL bL kL mL (uC F G GD bD kD mD GL bL kL mL bS mS n) bS mS
structure FrP where
 name:Str
 own:Str
 parts:List Str
 rules:List Rul
structure BkP where
 wheel:Int
 sorts:List Srt
 forms:List FrP
noncomputable def RepFP (H:Hp) (fr:FrP) (v:V):Prop:= ∃ a pa ra rv,v=.ref a/\H a=some (.tup [.str fr.name,.str fr.own,.ref pa,.ref ra])/\H pa=some (.tup (fr.parts.map V.str))/\H ra=some (.tup rv)/\RepRs H fr.rules rv
theorem RepFP.mono {H H':Hp} (t:TK H H') {fr:FrP} {v:V}:RepFP H fr v->RepFP H' fr v:=fun ⟨a,pa,ra,rv,e,h1,h2,h3,h4⟩=>⟨a,pa,ra,rv,e,t _ _ h1,t _ _ h2,t _ _ h3,h4.mono t⟩
noncomputable def RepFPs (H:Hp) (fs:List FrP) (vs:List V):Prop:=Paired (RepFP H) fs vs
theorem RepFPs.mono {H H':Hp} (t:TK H H') {fs:List FrP} {vs:List V} (h:RepFPs H fs vs):RepFPs H' fs vs:=Paired.mapP h fun _ _ r=>r.mono t
theorem RepFPs.len {H:Hp} {fs:List FrP} {vs:List V} (h:RepFPs H fs vs):fs.length=vs.length:=Paired.length h
noncomputable def RepBP (H:Hp) (b:BkP) (v:V):Prop:= ∃ a sa fa fv,v=.ref a/\H a=some (.tup [.int b.wheel,.ref sa,.ref fa])/\SrtsAt H sa b.sorts/\H fa=some (.tup fv)/\RepFPs H b.forms fv
theorem RepBP.mono {H H':Hp} (t:TK H H') {b:BkP} {v:V}:RepBP H b v->RepBP H' b v:=fun ⟨a,sa,fa,fv,e,h1,h2,h3,h4⟩=>⟨a,sa,fa,fv,e,t _ _ h1,h2.mono t,t _ _ h3,h4.mono t⟩
noncomputable def FrP.ok (fr:FrP):Prop:=fr.rules.length<=12/\(fr.rules.map fun r=>(r.pl,r.word)).Nodup/\fr.parts.length<=10/\ ∀ r∈fr.rules,r.fm.wf/\r.fm.size<=40
structure sJ (bk:BkP):Prop where
 few:bk.forms.length<=20
 s5:bk.sorts.length<=20
 ok: ∀ fr∈bk.forms,fr.ok
noncomputable def fG:Fm->Str
 | .num _=>"num"
 | .own _=>"own"
 | .part _ _=>"part"
 | .bin op _ _=>op
 | .whn _ _ _=>"when"
theorem ja {H:Hp} {g:Fm} {u:V} (h:Rep H g u): ∃ a r,u=.ref a/\H a=some (.tup (.str (fG g)::r)):=by
 cases g with
 | num n=>obtain ⟨a,e,h⟩:=h;exact ⟨a,_,e,h⟩
 | own x=>obtain ⟨a,e,h⟩:=h;exact ⟨a,_,e,h⟩
 | part k x=>obtain ⟨a,e,h⟩:=h;exact ⟨a,_,e,h⟩
 | bin op x y=>obtain ⟨a,_,_,e,h,_⟩:=h;exact ⟨a,_,e,h⟩
 | whn x y z=>obtain ⟨a,_,_,_,e,h,_⟩:=h;exact ⟨a,_,e,h⟩
theorem fu (x:Str): ∀ {xs:List Str},inV (.str x) (xs.map V.str)=decide (x∈xs)
 | []=>(decide_eq_false (by simp)).symm
 | b::r=>by
  have e:inV (.str x) ((b::r).map V.str)=(eqV (.str b) (.str x)||inV (.str x) (r.map V.str)):=rfl
  rw [e,fu x (xs:=r)]
  by_cases h:b=x
  ·rw [decide_eq_true (show x∈b::r by rw [h];exact List.mem_cons_self)]
   simp [eqV,h]
  ·have:(x∈b::r)↔x∈r:=by rw [List.mem_cons];exact ⟨fun z=>z.elim (fun e=>absurd e.symm h) id,.inr⟩
   rw [show decide (x∈b::r)=decide (x∈r)from decide_eq_decide.mpr this]
   have:(b==x)=false:=by
    cases hh:(b==x)with
    | false=>rfl
    | true=>exact absurd (eq_of_beq hh) h
   simp [eqV,this]
theorem c8: ∀ {xs:List Str},(xs.map V.str).all gH=true
 | []=>rfl
 | b::r=>by rw [List.map_cons,List.all_cons,c8 (xs:=r)];rfl
theorem wt (x:V) (r:List V):dD (x::r) (some 1) none=r:=by
 have e1:HT.sIx (x::r).length 0 (some 1)=1:=by
  have:HT.sIx (x::r).length 0 (some 1)=min 1 (x::r).length:=HT.sIx_nat _ _ 1
  rw [this,List.length_cons]
  lia
 unfold dD
 rw [e1,HT.sIx_none,List.length_cons,List.drop_one,List.tail_cons,Nat.add_sub_cancel,List.take_length]
theorem fq (x:V) (r:List V): ¬ (HT.sIx (x::r).length 0 (some 1)=0/\HT.sIx (x::r).length (x::r).length none=(x::r).length):=by
 rintro ⟨h1,_⟩
 have:HT.sIx (x::r).length 0 (some 1)=min 1 (x::r).length:=HT.sIx_nat _ _ 1
 rw [this,List.length_cons]at h1
 lia
end My
namespace L2
open PySem PySem.Spec PyProof.Rows
section
variable {X:Cx}
theorem sE (hc:X.calm=true):dG X (.builtin "max") (fun xs H Q=> ∃ (p:Addr) (ns:List Int),xs=[.ref p]/\SqL X.K H p (ns.map V.int)/\0<ns.length/\ ∀ M,M∈ns->(∀ a∈ns,a<=M)->Q (.int M) H):=by
 intro pins s σ H xs us Q I r h
 obtain ⟨p,ns,rfl,hq,hne,q⟩:=h
 obtain ⟨u,rfl,ru⟩:=fB r
 cases ru
 obtain ⟨its,rv,pl,hz⟩:=I.list hq
 have hl:=pl.isList
 have hlt:p<s.heap.objs.size:=by obtain ⟨_,e,_⟩:=hl;exact Heap.lt_size e
 have hn:its.toArray.size=ns.length:=by have:=rv.length;rw [List.length_map]at this;rw [List.size_toArray];lia
 refine call_max_walk (wpAny_pyIter_list hl ?_)
 have hval: ∀ (i:Nat) (v:Value),its.toArray[i]? =some v-> ∃ t,v=Value.int (ns.getD i 0) t:=fun i v hP=>by
  have hv:its[i]? =some v:=by simpa using hP
  have hi:i<ns.length:=by
   have:=(List.getElem?_eq_some_iff.mp hv).1
   have:=rv.length
   rw [List.length_map]at this
   lia
  have hb:(ns.map V.int)[i]? =some (V.int ns[i]):=by rw [List.getElem?_map,List.getElem?_eq_getElem hi];rfl
  obtain ⟨u,eu,ru⟩:=rv.get hb
  rw [hv]at eu
  cases eu
  obtain ⟨t,e⟩:=(show ∃ t,v=Value.int ns[i] t from ru)
  refine ⟨t,?_⟩
  rw [e,List.getD_eq_getElem?_getD,List.getElem?_eq_getElem hi]
  rfl
 refine ⟨s.heap.objs.size,[s.heap.objs.size,p],[s.heap.objs.size],its.toArray.size,_,_,fun i j=>decide (ns.getD i 0>ns.getD j 0),rfl,Walks.list (A:=X.A.in1) (I.ok.hd hc) _ p (Nat.ne_of_lt hlt) its.toArray,
  ⟨⟨_,Heap.get?_push_size _ rfl,rfl,rfl⟩,hl.push _⟩,fun b hb=>?_,by rw [hn];exact hne,CmpOf.ints_gt (fun i=>ns.getD i 0) hval,fun v h' tk hP hk=>?_⟩
 ·simp only [List.mem_cons,List.not_mem_nil,or_false]at hb
  rw [size_push']
  rcases hb with rfl | rfl
  ·exact Nat.lt_succ_self _
  ·exact Nat.lt_succ_of_lt hlt
 ·obtain ⟨a1,a2⟩:=argBest_gt (fun i=>ns.getD i 0) (its.toArray.size-1)
  obtain ⟨t,rfl⟩:=hval _ _ hP
  rw [hn]at a1 a2
  refine ⟨.int _,H,I.kept (t':=tk) fun b x e=>?_,⟨t,rfl⟩,?_⟩
  ·exact hk b x (fun hm=>by rw [List.mem_singleton.mp hm]at e;exact Nat.lt_irrefl _ (Heap.lt_size e)) (Heap.get?_push_of_some _ e)
  ·rw [hn]
   refine q _ ?_ fun a ha=>?_
   ·have hi:argBest (fun i j=>decide (ns.getD i 0>ns.getD j 0)) (ns.length-1) <ns.length:=by lia
    show ns.getD _ 0∈ns
    rw [List.getD_eq_getElem?_getD,List.getElem?_eq_getElem hi]
    exact List.getElem_mem _
   ·obtain ⟨j,hj⟩:=List.getElem?_of_mem ha
    have hjl:=(List.getElem?_eq_some_iff.mp hj).1
    have:=a2 j (by lia)
    rw [show ns.getD j 0=a by rw [List.getD_eq_getElem?_getD,hj];rfl]at this
    exact this
end
end L2
namespace My
open PySem L2
noncomputable def fj (n:Nat):Sp:=fun vs H Q _=> ∃ v fm,vs=[v]/\Rep H fm v/\Fm.wf fm/\fm.size<=n/\ ∀ H',Same H H'->Q (.int (fm.size:Int)) H'
noncomputable def IntV (kvs:List (Key×V)):Prop:= ∀ k v,aP kvs k=some v-> ∃ n:Int,v=.int n
theorem IntV.put {kvs:List (Key×V)} (h:IntV kvs) (k:Key) (n:Int):IntV (bq kvs k (.int n)):=fun j v e=>by
 rw [cD]at e
 by_cases c:j=k
 ·rw [if_pos c]at e
  exact ⟨n,(Option.some.inj e).symm⟩
 ·rw [if_neg c]at e
  exact h j v e
noncomputable def my:Sp:=fun vs H Q _=> ∃ bv bk,vs=[bv]/\RepBP H bk bv/\sJ bk/\ ∀ td kvs H',H td=none->Same H H'->H' td=some (.dK kvs)->IntV kvs->Q (.ref td) H'
noncomputable def gg:Sp:=fun vs H Q _=> ∃ av bv ak bk sm,vs=[av,bv,.bl sm]/\RepBP H ak av/\RepBP H bk bv/\sJ ak/\sJ bk/\1<=ak.forms.length/\(∀ s∈ak.sorts,s.ups.length<=3)/\(∀ s∈bk.sorts,s.ups.length<=3)/\ ∀ (c:Bool) H',Same H H'->Q (.bl c) H'
theorem qD {α:Type}: ∀ {l:List α} {zs:List V},Paired (fun (_:α) (v:V)=> ∃ n:Int,v=.int n) l zs-> ∃ ns:List Int,zs=ns.map V.int
 | _,_,.nil=>⟨[],rfl⟩
 | _,_,.cons ⟨n,e⟩ t=>by
  obtain ⟨ns,e2⟩:=qD t
  exact ⟨n::ns,by rw [e,e2];rfl⟩
theorem bw: ∀ ws:List Str,Paired (fun (x:Str) (v:V)=>v=.str x) ws (ws.map V.str)
 | []=>.nil
 | _::r=>.cons rfl (bw r)
theorem vA:aH ["formula"] ["formula"] (ah i5):=fsc
theorem rF {n:Nat} (F:Fun K "_law_size" "_law_size" i5 f fd) (hsum:mg "sum"=none)
  (GS:FnOk P w K mg base CX0 (n+1) f fd ["formula"] (fj n)) (bS:Binds K fd ["formula"] []) (mS:mg "_law_size"=some (.ref f)):
  FnOk P w K mg base CX0 (n+2) f fd ["formula"] (fj (n+1)):=by
 refine F.ok vA (fun vs H Q E h=>?_) (fun cdv A outer s H vs Q E hr h=>?_)
 ·obtain ⟨v,fm,rfl,_⟩:=h
  rfl
 obtain ⟨v,fm,rfl,hR,hwf,hsz,q⟩:=h
 refine ⟨_,ad (aY (aF hX (aq aB (pv 0) ae (fun _ _=>rfl)) (aS (pac aT (pac aT (pac aT ac)))) (by with_unfolding_all rfl)) (aj (ay ae)) aM)
  (aj (ay (aC aV ae (aA (ku rfl) rfl hsum (by decide +kernel) (aa (bV (sc0:=ah i5) (N0:=["formula"]) (ys:=[]) (fr:=[]) rfl (a8 (bA lh (pv 0) (cg ae) cC)) rfl rfl
    cok (fun C s H ex=>al GS hr rfl mS F.kp bS .nil ax (aa (pv 0) ac))) ac))))),?_⟩
 obtain ⟨a,r,rfl,ha⟩:=ja hR
 refine ⟨_,rfl,a,_,0,.str (fG fm),rfl,rfl,SqT.of ha,cf,(by show 3<=sizeLine;decide),fun p1 h1=>?_⟩
 have s1:=ag h1 (.tup [.str "num",.str "own",.str "part"])
 have g1:(upd H p1 (.tup [.str "num",.str "own",.str "part"])) p1=some (.tup (([("num":Str),"own","part"]:List Str).map V.str)):=ab
 generalize upd H p1 (.tup [.str "num",.str "own",.str "part"])=HX at s1 g1 ⊢
 have sX:Same H HX:=s1
 refine ⟨p1,_,rfl,.inr (SqT.of g1),rfl,c8,_,rfl,?_⟩
 refine (show if inV (.str (fG fm)) ((["num","own","part"]:List Str).map V.str)=true then _ else _ from ?_)
 rw [fu]
 cases fm with
 | num m=>
  rw [show decide (fG (.num m)∈(["num","own","part"]:List Str))=true from decide_eq_true (by show ("num":Str)∈_;decide +kernel)]
  exact dQ (q HX sX)
 | own x=>
  rw [show decide (fG (.own x)∈(["num","own","part"]:List Str))=true from decide_eq_true (by show ("own":Str)∈_;decide +kernel)]
  exact dQ (q HX sX)
 | part k x=>
  rw [show decide (fG (.part k x)∈(["num","own","part"]:List Str))=true from decide_eq_true (by show ("part":Str)∈_;decide +kernel)]
  exact dQ (q HX sX)
 | bin op X Y=>
  obtain ⟨a1,u1,u2,e,ha1,r1,r2⟩:=hR
  cases e
  rw [ha]at ha1
  cases ha1
  obtain ⟨ho,w1,w2⟩:op∈ops/\X.wf/\Y.wf:=hwf
  have hz:X.size+Y.size+1<=n+1:=hsz
  have hno:op∉(["num","own","part"]:List Str):=fun z=>by
   simp only [List.mem_cons,List.not_mem_nil,or_false]at z
   rcases z with z | z | z <;> (rw [z]at ho;exact absurd ho (by decide +kernel))
  rw [show decide (fG (.bin op X Y)∈(["num","own","part"]:List Str))=false from decide_eq_false hno]
  refine cp ?_
  refine ⟨_,rfl,1,rfl,a,_,rfl,SqT.of (sX _ _ ha),fq _ _,fun p5 h5=>?_⟩
  rw [wt]
  have s5:=ag h5 (.tup [u1,u2])
  have g5:(upd HX p5 (.tup [u1,u2])) p5=some (.tup [u1,u2]):=ab
  generalize upd HX p5 (.tup [u1,u2])=H5 at s5 g5 ⊢
  have S5:=sX.trans s5
  refine ⟨p5,rfl,⟨_,SqT.of g5⟩,?_⟩
  refine bX (as:=[X,Y]) (A:=fun g v=>Rep H g v/\g.wf/\g.size<=n) (by show 2<=1000;decide) (.cons ⟨r1,w1,by lia⟩ (.cons ⟨r2,w2,by lia⟩ .nil)) (cM g5) (cL g5) (dg g5) (fun _ g v=>v=.int (g.size:Int)) (fun _ h=>h) ?_ ?_
  ·rintro g v' H6 k hg ⟨hRg,hwg,hsg⟩ s6 hk
   exact ⟨_,rfl,v',g,rfl,hRg.mono (aG (S5.trans s6)),hwg,hsg,fun H7 s7=>hk _ H7 s7 rfl⟩
  ·intro p7 zs H7 hp7 s7 g7 hz7
   have e7:=cx (g:=fun g:Fm=>V.int (g.size:Int)) hz7
   have e8:zs=([X,Y].map fun g=>(g.size:Int)).map V.int:=by rw [e7,List.map_map];rfl
   rw [e8]at g7
   refine ⟨p7,_,rfl,SqL.of g7,_,_,rfl,rfl,?_⟩
   have:=q H7 (S5.trans s7)
   rw [show (((Fm.bin op X Y).size:Nat):Int)=1+dw ([X,Y].map fun g=>(g.size:Int)) by show ((X.size+Y.size+1:Nat):Int)=1+ ((X.size:Int) + ((Y.size:Int) +0));lia]at this
   exact this
 | whn X Y Z=>
  obtain ⟨a1,u1,u2,u3,e,ha1,r1,r2,r3⟩:=hR
  cases e
  rw [ha]at ha1
  cases ha1
  obtain ⟨w1,w2,w3⟩:X.wf/\Y.wf/\Z.wf:=hwf
  have hz:X.size+Y.size+Z.size+1<=n+1:=hsz
  rw [show decide (fG (.whn X Y Z)∈(["num","own","part"]:List Str))=false from decide_eq_false (by show ("when":Str)∉_;decide +kernel)]
  refine cp ?_
  refine ⟨_,rfl,1,rfl,a,_,rfl,SqT.of (sX _ _ ha),fq _ _,fun p5 h5=>?_⟩
  rw [wt]
  have s5:=ag h5 (.tup [u1,u2,u3])
  have g5:(upd HX p5 (.tup [u1,u2,u3])) p5=some (.tup [u1,u2,u3]):=ab
  generalize upd HX p5 (.tup [u1,u2,u3])=H5 at s5 g5 ⊢
  have S5:=sX.trans s5
  refine ⟨p5,rfl,⟨_,SqT.of g5⟩,?_⟩
  refine bX (as:=[X,Y,Z]) (A:=fun g v=>Rep H g v/\g.wf/\g.size<=n) (by show 3<=1000;decide) (.cons ⟨r1,w1,by lia⟩ (.cons ⟨r2,w2,by lia⟩ (.cons ⟨r3,w3,by lia⟩ .nil))) (cM g5) (cL g5) (dg g5) (fun _ g v=>v=.int (g.size:Int)) (fun _ h=>h) ?_ ?_
  ·rintro g v' H6 k hg ⟨hRg,hwg,hsg⟩ s6 hk
   exact ⟨_,rfl,v',g,rfl,hRg.mono (aG (S5.trans s6)),hwg,hsg,fun H7 s7=>hk _ H7 s7 rfl⟩
  ·intro p7 zs H7 hp7 s7 g7 hz7
   have e7:=cx (g:=fun g:Fm=>V.int (g.size:Int)) hz7
   have e8:zs=([X,Y,Z].map fun g=>(g.size:Int)).map V.int:=by rw [e7,List.map_map];rfl
   rw [e8]at g7
   refine ⟨p7,_,rfl,SqL.of g7,_,_,rfl,rfl,?_⟩
   have:=q H7 (S5.trans s7)
   rw [show (((Fm.whn X Y Z).size:Nat):Int)=1+dw ([X,Y,Z].map fun g=>(g.size:Int)) by show ((X.size+Y.size+Z.size+1:Nat):Int)=1+ ((X.size:Int) + ((Y.size:Int) + ((Z.size:Int) +0)));lia]at this
   exact this
theorem rG:FnOk P w K mg base CX0 1 f fd ["formula"] (fj 0):=by
 have no: ∀ vs H Q E,¬ fj 0 vs H Q E:=fun vs H Q E h=>by
  obtain ⟨v,fm,_,_,_,h,_⟩:=h
  have:=fm.size_pos
  lia
 exact ⟨fun vs H Q E h=>absurd h (no vs H Q E),fun A outer s H args us vs Q E _ _ _ _ h=>absurd h (no vs H Q E)⟩
theorem nG (F:Fun K "_law_size" "_law_size" i5 f fd) (hsum:mg "sum"=none) (bS:Binds K fd ["formula"] []) (mS:mg "_law_size"=some (.ref f)): ∀ n:Nat,FnOk P w K mg base CX0 (n+1) f fd ["formula"] (fj n)
 | 0=>rG
 | n+1=>rF F hsum (nG F hsum bS mS n) bS mS
noncomputable abbrev xJ:List Str:=["book","found","turn","name","sort","parts","rules","size"]
theorem scLLeast:aH xJ ["book"] (ah iE):=fsc
theorem rE (F:Fun K "_law_least" "_law_least" iE f fd) (G:Gb mg) (hsum:mg "sum"=none):FnOk P w K mg base CX0 1 f fd ["book"] my:=by
 refine F.ok scLLeast (fun vs H Q E h=>?_) (fun cdv A outer s H vs Q E hr h=>?_)
 ·obtain ⟨bv,bk,rfl,_⟩:=h
  rfl
 obtain ⟨bv,bk,rfl,⟨a,sa,fa,fv,rfl,ha,⟨sx,hsa,hS⟩,hfa,hF⟩,hok,q⟩:=h
 have hu:=dh hr
 refine ⟨_,ad (am (i:=1) scLLeast.nd rfl (Or.inr rfl) dZ)
  (ad (bc PassesOwn.never rfl (bn rfl G.range (aa (aA aJ rfl G.len PySem.boot_len (aa (aq aB (pv 0) ae (fun _ _=>rfl)) ac)) ac)) (aw (i:=2) scLLeast.nd rfl (Or.inl rfl))
   (aj (bc PassesOwn.never rfl (a8 (aq aB (pv 0) ae (fun _ _=>rfl)))
    (cQ rfl (aE (aw (i:=3) scLLeast.nd rfl (Or.inl rfl)) (aE (aw (i:=4) scLLeast.nd rfl (Or.inl rfl)) (aE (aw (i:=5) scLLeast.nd rfl (Or.inl rfl)) (aE (aw (i:=6) scLLeast.nd rfl (Or.inl rfl)) cn)))))
    (aj (aY (dO (aA (gK rfl) rfl G.all (by decide +kernel) (aa (bV (sc0:=ah iE) (N0:=xJ) (ys:=["found"]) (fr:=[1]) rfl (a8 (pv 5)) rfl rfl
       cok (fun C s H ex=>oV (hV hu (pv 0) (pv 1)))) ac)))
     (ad (am (i:=7) scLLeast.nd rfl (Or.inl rfl) (aC aV ae (aA (ku rfl) rfl hsum (by decide +kernel) (aa (bV (sc0:=ah iE) (N0:=xJ) (ys:=["found"]) (fr:=[1]) rfl (a8 (pv 5)) rfl rfl
       cok (fun C s H ex=>be hu (pv 1) (pv 0) (fun _ _=>rfl))) ac))))
     (aj (da hu (pv 1) (pv 4) (aA (fA rfl) rfl G.min (by decide +kernel) (aa (pv 7) (aa (nw hu (pv 1) (pv 4) (pv 7) ⟨rfl,rfl,rfl,rfl⟩) ac))) rfl)))
     aM)))))
  (aj (ay (pv 1)))),?_⟩
 have lS:bk.sorts.length=sx.length:=hS.len
 have lF:=hF.len
 have h20:=hok.s5
 have h10:=hok.few
 refine fun td htd=>?_
 have s0:=ag htd (.dK [])
 have g0:(upd H td (.dK [])) td=some (.dK []):=ab
 generalize upd H td (.dK [])=H0 at s0 g0 ⊢
 refine ⟨_,rfl,a,_,1,.ref sa,rfl,rfl,SqT.of (s0 _ _ ha),ao (j:=1) rfl,sa,sx,rfl,.inr (SqT.of (s0 _ _ hsa)),_,rfl,by lia,by lia,?_⟩
 refine cz (fun i σ H'=> ∃ o2 o3 o4 o5 o6 o7 kvs,σ=[some (.ref a),some (.ref td),o2,o3,o4,o5,o6,o7]/\Same H H'/\H' td=some (.dK kvs)/\IntV kvs/\kvs.length<=20*i)
  ⟨none,none,none,none,none,none,[],rfl,s0,g0,fun k v e=>(by cases e),Nat.le_refl _⟩ ?_ ?_
 ·rintro i σ H1 hi ⟨o2,o3,o4,o5,o6,o7,kvs,rfl,S1,gd1,hI1,hl1⟩
  refine ⟨_,rfl,a,_,2,.ref fa,rfl,rfl,SqT.of (S1 _ _ ha),ao (j:=2) rfl,fa,rfl,⟨fv,SqT.of (S1 _ _ hfa)⟩,?_⟩
  refine cN (xs:=fv) (fun j σ H'=>j<=fv.length/\ ∃ o3 o4 o5 o6 o7 kvs,σ=[some (.ref a),some (.ref td),some (.int (0+ (i:Int))),o3,o4,o5,o6,o7]/\Same H H'/\H' td=some (.dK kvs)/\IntV kvs/\kvs.length<=20*i+j)
   ⟨Nat.zero_le _,o3,o4,o5,o6,o7,kvs,rfl,S1,gd1,hI1,hl1⟩ (fun j σ H' _ h=>by obtain ⟨_,_,_,_,_,_,_,_,sm,_⟩:=h;exact SqT.of (sm _ _ hfa)) ?_ ?_
  ·rintro j x σ H2 hx ⟨hj,o3,o4,o5,o6,o7,kvs,rfl,S2,gd2,hI2,hl2⟩
   have hjl:j<fv.length:=(List.getElem?_eq_some_iff.mp hx).1
   obtain ⟨fr,hfr,b,pa,ra,rv,rfl,hb,hpa,hra,hR⟩:=aN hF hx
   obtain ⟨_,_,hp10,_⟩:=hok.ok fr (List.mem_of_getElem? hfr)
   refine ⟨b,_,rfl,SqT.of (S2 _ _ hb),rfl,_,_,rfl,_,_,rfl,_,_,rfl,_,_,rfl,rfl,?_⟩
   refine ⟨_,rfl,pa,rfl,⟨_,SqT.of (S2 _ _ hpa)⟩,?_⟩
   have hpa2:=S2 _ _ hpa
   refine bX (by rw [List.length_map];lia) (bw fr.parts) (cM hpa2) (cL hpa2) (dg hpa2) (fun _ x v=>v=.bl (aP kvs (.inr x)).isSome) (fun _ h=>h) ?_ ?_
   ·rintro x v H' k hv rfl s' hk
    exact ⟨_,rfl,_,rfl,td,_,rfl,DGet.k (k:=.inr x) (s' _ _ gd2),hk _ H' (Same.refl _) rfl⟩
   intro p3 zs H3 hp3' s3 gp3 hz3
   have e3:zs=(fr.parts.map fun x=>(aP kvs (.inr x)).isSome).map V.bl:=by rw [cx (g:=fun x=>V.bl (aP kvs (.inr x)).isSome) hz3,List.map_map];rfl
   rw [e3]at gp3
   have S3:Same H H3:=S2.trans s3
   have gd3:=s3 _ _ gd2
   refine ⟨p3,_,rfl,SqL.of gp3,_,rfl,?_⟩
   refine bQ (fun c=>?_) (fun c=>⟨hjl,_,_,_,_,_,kvs,rfl,S3,gd3,hI2,by lia⟩)
   have hin: ∀ x∈fr.parts,∃ n:Int,aP kvs (.inr x)=some (.int n):=fun x hm=>by
    have c:=List.all_eq_true.mp c _ (List.mem_map.mpr ⟨x,hm,rfl⟩)
    have c:(aP kvs (.inr x)).isSome=true:=c
    cases e:aP kvs (.inr x)with
    | none=>rw [e]at c;cases c
    | some v=>
     obtain ⟨n,rfl⟩:=hI2 _ _ e
     exact ⟨n,rfl⟩
   refine ⟨_,rfl,pa,rfl,⟨_,SqT.of (S3 _ _ hpa)⟩,?_⟩
   have hpa3:=S3 _ _ hpa
   refine bX (by rw [List.length_map];lia) (bw fr.parts) (cM hpa3) (cL hpa3) (dg hpa3) (fun _ x v=> ∃ n:Int,v=.int n) (fun _ h=>h) ?_ ?_
   ·rintro x v H' k hv rfl s' hk
    obtain ⟨n,en⟩:=hin x hv
    exact ⟨_,rfl,_,rfl,td,.int n,rfl,(by rw [<- en];exact DGet.k (k:=.inr x) (s' _ _ gd3)),hk _ H' (Same.refl _) ⟨n,rfl⟩⟩
   intro p4 ys H4 hp4 s4 gp4 hz4
   obtain ⟨ns,en⟩: ∃ ns:List Int,ys=ns.map V.int:=qD hz4
   rw [en]at gp4
   have S4:Same H H4:=S3.trans s4
   have gd4:=s4 _ _ gd3
   refine ⟨p4,ns,rfl,SqL.of gp4,1,_,rfl,rfl,?_⟩
   rw [show ((fun (i j:Int)=>V.int (i+j)) 1 (dw ns))=V.int (1+dw ns)from rfl]
   generalize 1+dw ns=size
   have fin: ∀ n:Int,j+1<=fv.length/\ ∃ o3 o4 o5 o6 o7 kvs',[some (V.ref a),some (.ref td),some (.int (0+ (i:Int))),some (.str fr.name),some (.str fr.own),some (.ref pa),some (.ref ra),some (.int size)]=[some (V.ref a),some (.ref td),some (.int (0+ (i:Int))),o3,o4,o5,o6,o7]/\
     Same H (upd H4 td (.dK (bq kvs (.inr fr.own) (.int n))))/\(upd H4 td (.dK (bq kvs (.inr fr.own) (.int n)))) td=some (.dK kvs')/\IntV kvs'/\kvs'.length<=20*i+ (j+1):=fun n=>by
    refine ⟨hjl,_,_,_,_,_,_,rfl,?_,ab,hI2.put _ n,?_⟩
    ·intro y oo h
     rw [ai (af h htd)]
     exact S4 _ _ h
    ·have:=bj kvs (.inr fr.own) (.int n)
     lia
   refine ⟨_,rfl,_,rfl,td,rfl,.inl ⟨kvs,.inl gd4⟩,_,rfl,_,rfl,_,DGet.k (k:=.inr fr.own) gd4,?_⟩
   cases hold:aP kvs (.inr fr.own)with
   | none=>
    refine ⟨_,_,rfl,?_⟩
    exact ⟨_,rfl,_,rfl,td,_,rfl,DPut.k (k:=.inr fr.own) gd4 (au (by lia)),fin _⟩
   | some v=>
    obtain ⟨m,rfl⟩:=hI2 _ _ hold
    refine ⟨_,_,rfl,?_⟩
    exact ⟨_,rfl,_,rfl,td,_,rfl,DPut.k (k:=.inr fr.own) gd4 (au (by lia)),fin _⟩
  ·rintro σ H2 ⟨_,o3,o4,o5,o6,o7,kvs,rfl,S2,gd2,hI2,hl2⟩
   exact ⟨_,_,_,_,_,_,kvs,rfl,S2,gd2,hI2,by lia⟩
 ·rintro σ H1 ⟨o2,o3,o4,o5,o6,o7,kvs,rfl,S1,gd1,hI1,hl1⟩
  exact ⟨_,rfl,q td kvs H1 htd S1 gd1 hI1⟩
noncomputable abbrev NMb:List Str:=["one","other","same","least","many","sort","size","k"]
theorem scMayBe:aH NMb ["one","other","same"] (ah lx):=fsc
theorem uB (F:Fun K "_law_may_be_great" "_law_may_be_great" lx f fd) (G:Gb mg)
  (GL:FnOk P w K mg base CX0 1 f2 fd2 ["book"] my) (bL:Binds K fd2 ["book"] []) (kL:PySem.W.keepIn K (.ref f2)=true) (mL:mg "_law_least"=some (.ref f2)):
  FnOk P w K mg base CX0 2 f fd ["one","other","same"] gg:=by
 refine F.ok scMayBe (fun vs H Q E h=>?_) (fun cdv A outer s H vs Q E hr h=>?_)
 ·obtain ⟨av,bv,ak,bk,sm,rfl,_⟩:=h
  rfl
 obtain ⟨av,bv,ak,bk,sm,rfl,hA,hB,oa,ob,hf1,hua,hub,q⟩:=h
 have hu:=dh hr
 refine ⟨_,ad (am (i:=3) scMayBe.nd rfl (Or.inl rfl) (al GL hr rfl mL kL bL .nil ax (aa (pv 0) ac)))
  (ad (am (i:=4) scMayBe.nd rfl (Or.inl rfl) ae)
  (ad (bc PassesOwn.never rfl (a8 (aq aB (pv 0) ae (fun _ _=>rfl))) (aw (i:=5) scMayBe.nd rfl (Or.inl rfl))
   (aj (aY (oR (hV hu (aq aB (pv 5) ae (fun _ _=>rfl)) (pv 3))) (aj (am (i:=4) scMayBe.nd rfl (Or.inl rfl) (aC aV (aC aV (pv 4) ae) (aA aJ rfl G.len PySem.boot_len (aa (aq aB (pv 5) ae (fun _ _=>rfl)) ac))))) aM)))
  (ad (bc PassesOwn.never rfl (a8 (aq aB (pv 1) ae (fun _ _=>rfl))) (aw (i:=5) scMayBe.nd rfl (Or.inl rfl))
   (aj (aY (PW.pt (lH (oR (hV hu (aq aB (pv 5) ae (fun _ _=>rfl)) (pv 3))) (iG (lI (dO (pv 2)))))) (aj (am (i:=4) scMayBe.nd rfl (Or.inl rfl) (aC aV (pv 4) (aA aJ rfl G.len PySem.boot_len (aa (aq aB (pv 5) ae (fun _ _=>rfl)) ac))))) aM)))
  (ad (am (i:=6) scMayBe.nd rfl (Or.inl rfl) ae)
  (ad (bc PassesOwn.never rfl (bn rfl G.range (aa (aC cT (pv 4) ae) ac)) (aw (i:=7) scMayBe.nd rfl (Or.inl rfl))
   (aj (am (i:=6) scMayBe.nd rfl (Or.inl rfl) (aC aV ae (aC df (pv 6) (aA (sE rfl) rfl G.max (by decide +kernel) (aa (bV (sc0:=ah lx) (N0:=NMb) (ys:=[]) (fr:=[]) rfl (a8 (aq aB (pv 0) ae (fun _ _=>rfl))) rfl rfl
    cok (fun C s H ex=>aA (r:=x8 K) aJ rfl G.len PySem.boot_len (aa (aq (r:=lG K) aB (pv 0) ae (fun _ _=>rfl)) ac))) ac)))))))
  (aj (ay (dJ jk (pv 6) ae (aK _))))))))),?_⟩
 obtain ⟨a,sa,fa,fv,rfl,ha,⟨sx,hsa,hS⟩,hfa,hF⟩:=id hA
 obtain ⟨b,sb,fb,gv,rfl,hb,⟨sy,hsb,hT⟩,hfb,hG⟩:=id hB
 have lS:ak.sorts.length=sx.length:=hS.len
 have lT:bk.sorts.length=sy.length:=hT.len
 have lF:=hF.len
 have ha20:=oa.s5
 have hb20:=ob.s5
 have hf20:=oa.few
 refine ⟨_,rfl,.ref a,ak,rfl,hA,oa,fun td kvs H1 htd s1 g1 hI=>?_⟩
 refine ⟨_,rfl,a,_,1,.ref sa,rfl,rfl,SqT.of (s1 _ _ ha),ao (j:=1) rfl,sa,rfl,⟨sx,SqT.of (s1 _ _ hsa)⟩,?_⟩
 refine cN (xs:=sx) (fun i σ H'=>i<=sx.length/\ ∃ o5 m,σ=[some (.ref a),some (.ref b),some (.bl sm),some (.ref td),some (.int m),o5,none,none]/\Same H1 H'/\0<=m/\m<=4* (i:Int)) ⟨Nat.zero_le _,none,0,rfl,Same.refl _,by decide,by decide⟩ (fun i σ H' _ h=>by obtain ⟨_,_,_,_,s',_⟩:=h;exact SqT.of (s' _ _ (s1 _ _ hsa))) ?_ ?_
 ·rintro i x σ H2 hx ⟨_,o5,m,rfl,s2,hm0,hm1⟩
  have hil:i<sx.length:=(List.getElem?_eq_some_iff.mp hx).1
  obtain ⟨sr,hsr,e1,e2,e3,rfl,h1,h2,h3⟩:=aN hS hx
  have S2:=s1.trans s2
  refine ⟨_,rfl,e1,_,0,.str sr.name,rfl,rfl,SqT.of (S2 _ _ h1),cf,_,rfl,td,_,rfl,DGet.k (k:=.inr sr.name) (s2 _ _ g1),_,rfl,?_⟩
  have lu:=hua sr (List.mem_of_getElem? hsr)
  refine bQ (fun _=>?_) (fun _=>⟨hil,_,m,rfl,s2,hm0,by lia⟩)
  refine ⟨_,rfl,_,_,rfl,rfl,_,rfl,e1,_,2,.ref e3,rfl,rfl,SqT.of (S2 _ _ h1),ao (j:=2) rfl,e3,_,rfl,.inr (SqT.of (S2 _ _ h3)),_,_,rfl,rfl,?_⟩
  refine ⟨hil,_,_,rfl,s2,?_,?_⟩
  ·rw [List.length_map];lia
  ·rw [List.length_map];lia
 ·rintro σ H2 ⟨_,o5,m,rfl,s2,hm0,hm1⟩
  have S2:=s1.trans s2
  refine ⟨_,rfl,b,_,1,.ref sb,rfl,rfl,SqT.of (S2 _ _ hb),ao (j:=1) rfl,sb,rfl,⟨sy,SqT.of (S2 _ _ hsb)⟩,?_⟩
  refine cN (xs:=sy) (fun i σ H'=>i<=sy.length/\ ∃ o5 m',σ=[some (.ref a),some (.ref b),some (.bl sm),some (.ref td),some (.int m'),o5,none,none]/\Same H1 H'/\0<=m'/\m'<=m+3* (i:Int)) ⟨Nat.zero_le _,o5,m,rfl,s2,hm0,by lia⟩ (fun i σ H' _ h=>by obtain ⟨_,_,_,_,s',_⟩:=h;exact SqT.of (s' _ _ (s1 _ _ hsb))) ?_ ?_
  ·rintro i x σ H3 hx ⟨_,o5,m',rfl,s3,hm0,hm1'⟩
   have hil:i<sy.length:=(List.getElem?_eq_some_iff.mp hx).1
   obtain ⟨sr,hsr,e1,e2,e3,rfl,h1,h2,h3⟩:=aN hT hx
   have S3:=s1.trans s3
   refine ⟨_,rfl,e1,_,0,.str sr.name,rfl,rfl,SqT.of (S3 _ _ h1),cf,_,rfl,td,_,rfl,DGet.k (k:=.inr sr.name) (s3 _ _ g1),_,rfl,?_⟩
   have lu:=hub sr (List.mem_of_getElem? hsr)
   have stay:i+1<=sy.length/\ ∃ o5 m2,[some (V.ref a),some (.ref b),some (.bl sm),some (.ref td),some (.int m'),some (.ref e1),none,none]=[some (V.ref a),some (.ref b),some (.bl sm),some (.ref td),some (.int m2),o5,none,none]/\Same H1 H3/\0<=m2/\m2<=m+3* ((i+1:Nat):Int):=⟨hil,_,m',rfl,s3,hm0,by lia⟩
   refine bQ (fun _=>?_) (fun _=>cp stay)
   refine ⟨_,rfl,_,rfl,?_⟩
   refine bQ (fun _=>?_) (fun _=>stay)
   refine ⟨_,rfl,_,rfl,e1,_,2,.ref e3,rfl,rfl,SqT.of (S3 _ _ h1),ao (j:=2) rfl,e3,_,rfl,.inr (SqT.of (S3 _ _ h3)),_,_,rfl,rfl,?_⟩
   refine ⟨hil,_,_,rfl,s3,?_,?_⟩
   ·rw [List.length_map];lia
   ·rw [List.length_map];lia
  ·rintro σ H3 ⟨_,o5,m',rfl,s3,hm0,hm1'⟩
   refine ⟨_,rfl,_,_,rfl,rfl,_,rfl,?_,?_,?_⟩
   ·lia
   ·lia
   refine cz (fun i σ H'=> ∃ o7 z,σ=[some (.ref a),some (.ref b),some (.bl sm),some (.ref td),some (.int m'),o5,some (.int z),o7]/\Same H1 H') ⟨none,1,rfl,s3⟩ ?_ ?_
   ·rintro i σ H4 hi ⟨o7,z,rfl,s4⟩
    have S4:=s1.trans s4
    refine ⟨_,rfl,_,rfl,a,_,2,.ref fa,rfl,rfl,SqT.of (S4 _ _ ha),ao (j:=2) rfl,fa,rfl,⟨fv,SqT.of (S4 _ _ hfa)⟩,?_⟩
    have hfa4:=S4 _ _ hfa
    refine bX (by lia) hF (cM hfa4) (cL hfa4) (dg hfa4) (fun _ fr v=>v=.int (FrP.parts fr).length) (fun _ h=>h) ?_ ?_
    ·rintro fr v H5 k hfr ⟨c,pa,ra,rv,rfl,hc,hpa,_⟩ s5 hk
     have S5:=S4.trans s5
     refine ⟨_,rfl,c,_,2,.ref pa,rfl,rfl,SqT.of (S5 _ _ hc),ao (j:=2) rfl,pa,_,rfl,.inr (SqT.of (S5 _ _ hpa)),?_⟩
     rw [List.length_map]
     exact hk _ H5 (Same.refl _) rfl
    ·intro p5 zs H5 hp5 s5 g5 hz5
     have e5:zs=(ak.forms.map fun fr=>((FrP.parts fr).length:Int)).map V.int:=by rw [cx (g:=fun fr:FrP=>V.int (FrP.parts fr).length) hz5,List.map_map];rfl
     rw [e5]at g5
     refine ⟨p5,_,rfl,SqL.of g5,by rw [List.length_map];lia,fun M hM _=>?_⟩
     obtain ⟨fr,hfr,rfl⟩:=List.mem_map.mp hM
     have hp10:=(oa.ok fr hfr).2.2.1
     refine ⟨_,_,rfl,rfl,.inr ⟨by lia,by lia⟩,_,_,rfl,rfl,?_⟩
     exact ⟨_,_,rfl,s4.trans s5⟩
   ·rintro σ H4 ⟨o7,z,rfl,s4⟩
    refine ⟨_,rfl,_,_,rfl,rfl,?_⟩
    exact q _ H4 (s1.trans s4)
theorem eI {α β γ:Type} {F:β->γ->Prop} {g:α->β}: ∀ {l:List α} {r:List γ},Paired (fun a c=>F (g a) c) l r->Paired F (l.map g) r
 | _,_,.nil=>.nil
 | _,_,.cons a t=>.cons a (eI t)
noncomputable abbrev F3:=Str×Str×List Str
noncomputable def F3At (H:Hp) (f:F3) (z:V):Prop:= ∃ c pa,z=.ref c/\H c=some (.tup [.str f.1,.str f.2.1,.ref pa])/\H pa=some (.tup (f.2.2.map V.str))
theorem F3At.mono {H H':Hp} (t:TK H H') {f:F3} {z:V}:F3At H f z->F3At H' f z:=fun ⟨c,pa,e,h1,h2⟩=>⟨c,pa,e,t _ _ h1,t _ _ h2⟩
structure BdP where
 names:List Str
 forms:List F3
noncomputable def RepBd (H:Hp) (bd:BdP) (v:V):Prop:= ∃ a nl fl zs,v=.ref a/\H a=some (.tup [.ref nl,.ref fl])/\H nl=some (.lst (bd.names.map V.str))/\H fl=some (.lst zs)/\Paired (F3At H) bd.forms zs
theorem RepBd.same {H H':Hp} (t:Same H H') {bd:BdP} {v:V}:RepBd H bd v->RepBd H' bd v:=fun ⟨a,nl,fl,zs,e,h1,h2,h3,h4⟩=>⟨a,nl,fl,zs,e,t _ _ h1,t _ _ h2,t _ _ h3,Paired.mapP h4 fun _ _ h=>h.mono (aG t)⟩
noncomputable def xL (ns ws:List Str) (i:Nat) (fs:List F3):Prop:=(∀ f∈fs,f.2.1∈ns/\(∀ p∈f.2.2,p∈ns)/\f.2.2.length<=3)/\fs.map (·.1)=ws.take i/\ ∀ f,fs[0]? =some f->f.2.2=[]
structure BdOk (bd:BdP):Prop where
 n1:1<=bd.names.length
 n3:bd.names.length<=3
 f1:1<=bd.forms.length
 f6:bd.forms.length<=6
 fo: ∀ f∈bd.forms,f.2.1∈bd.names/\(∀ p∈f.2.2,p∈bd.names)/\f.2.2.length<=3
 nd:bd.names.Nodup
 wd: ∀ x∈bd.names,cV x=true
 fn:(bd.forms.map (·.1)).Nodup
 fw: ∀ f∈bd.forms,cV f.1=true
 nil: ∀ f,bd.forms[0]? =some f->f.2.2=[]
noncomputable def mz:Sp:=fun vs H Q _=> ∃ (tp:Addr) (many most:Int),vs=[.ref tp,.int many,.int most]/\Tp H tp/\1<=many/\many<=3/\1<=most/\most<=3/\ ∀ v bd H',RepBd H' bd v->BdOk bd->Kp tp H H'->Tp H' tp->Q v H'
noncomputable abbrev NBd:List Str:=["tape","many","most","names","words","forms","k","own","size"]
theorem scLBuild:aH NBd ["tape","many","most"] (ah dl):=fsc
noncomputable def bdFor:List Stmt:=wo ((cq dl).getD 3 (.Pass ⟨0,0,0,0⟩))
noncomputable def BDI (H:Hp) (tp nl wl fl:Addr) (many most:Int) (ns ws:List Str) (i:Nat) (σ:St) (H':Hp):Prop:= ∃ o6 o7 o8 zs fs,σ=[some (.ref tp),some (.int many),some (.int most),some (.ref nl),some (.ref wl),some (.ref fl),o6,o7,o8]/\Kp tp H H'/\Tp H' tp/\H' nl=some (.lst (ns.map V.str))/\H' wl=some (.lst (ws.map V.str))/\H' fl=some (.lst zs)/\Paired (F3At H') fs zs/\zs.length=i/\xL ns ws i fs
theorem yx {cdv:Value} {A:Around} {outer:List Env} {s:Shared} {H H0:Hp} {E:XK} (G:Gb mg)
  (GD:FnOk P w K mg base CX0 1 f2 fd2 ["tape","many"] bH) (bD:Binds K fd2 ["tape","many"] []) (kD:PySem.W.keepIn K (.ref f2)=true) (mD:mg "_law_digit"=some (.ref f2))
  (hr1:Room 1 (dR CX0 P w K mg base NBd "_law_build" (ah dl) f cdv A outer s H0 E).nox.A):
  ∃ t,PSs (dR CX0 P w K mg base NBd "_law_build" (ah dl) f cdv A outer s H0 E).nox (bdFor.drop 4) t/\
   ∀ (D:eh) (tp nl wl fl:Addr) (many most:Int) (ns ws:List Str) (i:Nat) (on:Str) (m:Int) (zs:List V) (fs:List F3) (H6:Hp),1<=many->many<=3->ns.length=many.toNat->ws.length=10->i<6->on∈ns->0<=m->m<=3->(i=0->m=0)->nl≠tp->wl≠tp->fl≠tp->nl≠fl->wl≠fl->(∀ {c:Addr} {oo:HO},H c=some oo->c≠tp->c≠fl)->
    Kp tp H H6->Tp H6 tp->H6 nl=some (.lst (ns.map V.str))->H6 wl=some (.lst (ws.map V.str))->H6 fl=some (.lst zs)->Paired (F3At H6) fs zs->zs.length=i->xL ns ws i fs->
    (∀ σ' H',BDI H tp nl wl fl many most ns ws (i+1) σ' H'->D.nx σ' H')->
    t D [some (.ref tp),some (.int many),some (.int most),some (.ref nl),some (.ref wl),some (.ref fl),some (.int (0+ (i:Int))),some (.str on),some (.int m)] H6:=by
 refine ⟨_,aj (cG (ee PySem.F.plainAttrs_list PySem.F.slot_list_append PySem.F.type_list_append bo (pv 5) (aa (aS (aa (aq aL (pv 4) (pv 6) (fun _ _=>rfl)) (aa (pv 7)
    (aa (bg aW rfl G.tuple (by decide +kernel) (aa (bV (sc0:=ah dl) (N0:=NBd) (ys:=["many","names","tape"]) (fr:=[1,3,0]) rfl (bn rfl G.range (aa (pv 8) ac)) rfl rfl
     cok (fun C s H ex=>aq (r:=xb K) aL (pv 2) (al GD hr1 rfl mD kD bD .nil ax (aa (pv 3) (aa (pv 1) ac))) (fun _ _=>rfl))) ac)) ac)))) ac))),?_⟩
 intro D tp nl wl fl many most ns ws i on m zs fs H6 hm1 hm3 nLen wLen hi6 hon h0 h3 hm0 hnne hwne hflt nnl nwl hfl0 k6 tt6 hnl hwl gfl hP hzl hfo hD
 obtain ⟨nm,enm⟩: ∃ nm,ws[i]? =some nm:=⟨ws[i]'(by lia),List.getElem?_eq_getElem (by lia)⟩
 have eat:atI (ws.map V.str) (0+ (i:Int))=some (V.str nm):=by
  rw [Int.zero_add]
  exact ao (by rw [List.getElem?_map,enm];rfl)
 refine ⟨_,rfl,.inl ⟨rfl,_,SqL.of gfl⟩,_,rfl,_,rfl,wl,_,_,_,rfl,rfl,SqL.of hwl,eat,_,rfl,_,rfl,m,rfl,by lia,by lia,?_⟩
 refine ig (n:=m.toNat) (R:=fun i v=>v=.int (0+i)) (by lia) pD js lZ
  (fun p n ys H'=>Kp tp H6 H'/\Tp H' tp/\H' p=some (.lst ys)/\p≠tp/\ys.length=n/\ ∃ ps:List Str,ys=ps.map V.str/\ ∀ x∈ps,x∈ns) ?_ ?_ ?_ ?_
 ·intro p hp
  exact ⟨Kp.refl.new hp,tt6.new hp,ab,cW tt6 hp,rfl,[],rfl,fun q h=>by cases h⟩
 ·rintro p n ys H' ⟨_,_,gp,_,hl,_⟩
  exact ⟨gp,hl⟩
 ·rintro p n ys H' v k hp hn rfl ⟨k7,tt7,gp,hpn,hl,ps,rfl,hps⟩ hk
  refine ⟨_,rfl,_,rfl,_,rfl,tp,many,rfl,tt7,by lia,by lia,fun d t hd0 hd1=>?_⟩
  obtain ⟨x,ex,ex2⟩:=dF (xs:=ns.map V.str) hd0 (by rw [List.length_map,nLen];lia)
  obtain ⟨x',hx',rfl⟩:=List.mem_map.mp (List.mem_of_getElem? ex2)
  have k8:Kp tp H6 (upd H' tp (.lst [.int t])):=k7.trans Kp.tape
  refine ⟨nl,_,d,.str x',rfl,rfl,SqL.of (k8 _ _ hnl hnne),ex,?_⟩
  have gp7:(upd H' tp (.lst [.int t])) p=some (.lst (ps.map V.str)):=by rw [ai hpn];exact gp
  refine hk _ _ gp7 ⟨?_,⟨t,?_⟩,ab,hpn,by rw [List.length_append,hl];rfl,ps++[x'],by rw [List.map_append];rfl,?_⟩
  ·intro b' o' hb hbn
   rw [ai (af hb hp)]
   exact k8 _ _ hb hbn
  ·rw [ai (Ne.symm hpn),ab]
  ·intro y hy
   rcases List.mem_append.mp hy with h | h
   ·exact hps y h
   ·rw [List.mem_singleton.mp h];exact hx'
 ·rintro p ys H7 hp ⟨k7,tt7,gp,hpn,hl,ps,rfl,hps⟩
  have lps:ps.length<=3:=by rw [List.length_map]at hl;lia
  refine ⟨p,_,rfl,.inl ⟨SqL.of gp,fun pt hpt=>?_⟩⟩
  have s8:=ag hpt (.tup (ps.map V.str))
  have g8:(upd H7 pt (.tup (ps.map V.str))) pt=some (.tup (ps.map V.str)):=ab
  have tt8:=tt7.same s8
  generalize upd H7 pt (.tup (ps.map V.str))=H8 at s8 g8 tt8 ⊢
  refine ⟨(by show 3<=sizeLine;decide),fun p9 hp9=>?_⟩
  have s9:=ag hp9 (.tup [.str nm,.str on,.ref pt])
  have g9:(upd H8 p9 (.tup [.str nm,.str on,.ref pt])) p9=some (.tup [.str nm,.str on,.ref pt]):=ab
  have tt9:=tt8.same s9
  generalize upd H8 p9 (.tup [.str nm,.str on,.ref pt])=H9 at s9 g9 tt9 ⊢
  have k69:Kp tp H6 H9:=(k7.same s8).same s9
  have gfl9:=k69 _ _ gfl hflt
  refine ⟨fl,zs,.ref p9,rfl,rfl,gfl9,au (by lia),?_⟩
  have tk:TK H9 (upd H9 fl (.lst (zs++[.ref p9]))):=TK.lst gfl9
  have tk6:TK H6 (upd H9 fl (.lst (zs++[.ref p9]))):=(k69.tk tt6).trans tk
  refine hD _ _ ⟨_,_,_,zs++[.ref p9],fs++[(nm,on,ps)],rfl,?_,?_,?_,?_,ab,?_,?_,?_⟩
  ·intro c oo h hn
   rw [ai (hfl0 h hn)]
   exact k69 _ _ (k6 _ _ h hn) hn
  ·obtain ⟨t9,e9⟩:=tt9
   exact ⟨t9,by rw [ai (Ne.symm hflt)];exact e9⟩
  ·rw [ai nnl];exact k69 _ _ hnl hnne
  ·rw [ai nwl];exact k69 _ _ hwl hwne
  ·exact Paired.snoc (Paired.mapP hP fun _ _ h=>h.mono tk6) ⟨p9,pt,rfl,tk _ _ g9,tk _ _ (s9 _ _ g8)⟩
  ·rw [List.length_append,hzl];rfl
  ·have lfs:fs.length=zs.length:=Paired.length hP
   refine ⟨fun f hf=>?_,?_,fun f hf=>?_⟩
   ·rcases List.mem_append.mp hf with h | h
    ·exact hfo.1 f h
    ·rw [List.mem_singleton.mp h]
     exact ⟨hon,hps,lps⟩
   ·rw [List.map_append,hfo.2.1,List.take_add_one,enm]
    rfl
   ·cases hfs:fs with
    | nil=>
     rw [hfs]at hf lfs
     cases hf
     have hi0:i=0:=by rw [<- hzl,<- lfs];rfl
     have hm:=hm0 hi0
     rw [List.length_map,hm]at hl
     exact List.eq_nil_of_length_eq_zero hl
    | cons f0 r0=>
     rw [hfs]at hf
     exact hfo.2.2 f (by rw [hfs];exact hf)
theorem yy {cdv:Value} {A:Around} {outer:List Env} {s:Shared} {H H0:Hp} {E:XK} (G:Gb mg)
  (GD:FnOk P w K mg base CX0 1 f2 fd2 ["tape","many"] bH) (bD:Binds K fd2 ["tape","many"] []) (kD:PySem.W.keepIn K (.ref f2)=true) (mD:mg "_law_digit"=some (.ref f2))
  (hr1:Room 1 (dR CX0 P w K mg base NBd "_law_build" (ah dl) f cdv A outer s H0 E).nox.A):
  ∃ t,PSs (dR CX0 P w K mg base NBd "_law_build" (ah dl) f cdv A outer s H0 E).nox (bdFor.drop 2) t/\
   ∀ (D:eh) (tp nl wl fl:Addr) (many most:Int) (ns ws:List Str) (i:Nat) (on:Str) (o8:Option V) (zs:List V) (fs:List F3) (H6:Hp),1<=many->many<=3->1<=most->most<=3->ns.length=many.toNat->ws.length=10->i<6->on∈ns->nl≠tp->wl≠tp->fl≠tp->nl≠fl->wl≠fl->(∀ {c:Addr} {oo:HO},H c=some oo->c≠tp->c≠fl)->
    Kp tp H H6->Tp H6 tp->H6 nl=some (.lst (ns.map V.str))->H6 wl=some (.lst (ws.map V.str))->H6 fl=some (.lst zs)->Paired (F3At H6) fs zs->zs.length=i->xL ns ws i fs->
    (∀ σ' H',BDI H tp nl wl fl many most ns ws (i+1) σ' H'->D.nx σ' H')->
    t D [some (.ref tp),some (.int many),some (.int most),some (.ref nl),some (.ref wl),some (.ref fl),some (.int (0+ (i:Int))),some (.str on),o8] H6:=by
 obtain ⟨t,ht,hnext⟩:=yx (f:=f) (cdv:=cdv) (A:=A) (outer:=outer) (s:=s) (H:=H) (H0:=H0) (E:=E) G GD bD kD mD hr1
 refine ⟨_,ad (am (i:=8) scLBuild.nd rfl (Or.inl rfl) (al GD hr1 rfl mD kD bD .nil ax (aa (pv 0) (aa (aC aV (pv 2) ae) ac))))
   (ad (aY (aF bh (pv 6) ae (aK _)) (aj (am (i:=8) scLBuild.nd rfl (Or.inl rfl) ae)) aM) ht),?_⟩
 intro D tp nl wl fl many most ns ws i on o8 zs fs H6 hm1 hm3 ho1 ho3 nLen wLen hi6 hon hnne hwne hflt nnl nwl hfl0 k6 tt6 hnl hwl gfl hP hzl hfo hD
 refine ⟨_,rfl,_,rfl,_,_,rfl,rfl,tp,_,rfl,tt6,by lia,by lia,fun d t hd0 hd1=>?_⟩
 have k7:Kp tp H6 (upd H6 tp (.lst [.int t])):=Kp.tape
 have tt7:Tp (upd H6 tp (.lst [.int t])) tp:=⟨t,ab⟩
 generalize upd H6 tp (.lst [.int t])=H7 at k7 tt7 ⊢
 have go:=fun (m:Int) (h0:0<=m) (h3:m<=3) (hz:i=0->m=0)=>hnext D tp nl wl fl many most ns ws i on m zs fs H7 hm1 hm3 nLen wLen hi6 hon h0 h3 hz hnne hwne hflt nnl nwl hfl0 (k6.trans k7) tt7 (k7 _ _ hnl hnne) (k7 _ _ hwl hwne) (k7 _ _ gfl hflt) (Paired.mapP hP fun _ _ h=>h.mono (k7.tk tt6)) hzl hfo hD
 refine ⟨_,rfl,rfl,_,rfl,?_⟩
 refine bQ (fun _=>go 0 (by decide) (by decide) (fun _=>rfl)) (fun c=>go d hd0 (by lia) (fun e=>absurd (decide_eq_true (by rw [e];rfl)) c))
theorem rK (F:Fun K "_law_build" "_law_build" dl f fd) (G:Gb mg)
  (GD:FnOk P w K mg base CX0 1 f2 fd2 ["tape","many"] bH) (bD:Binds K fd2 ["tape","many"] []) (kD:PySem.W.keepIn K (.ref f2)=true) (mD:mg "_law_digit"=some (.ref f2))
  (GN:FnOk P w K mg base CX0 2 f3 fd3 ["tape","many"] iW) (bN:Binds K fd3 ["tape","many"] []) (kN:PySem.W.keepIn K (.ref f3)=true) (mN:mg "_law_names"=some (.ref f3)):
  FnOk P w K mg base CX0 3 f fd ["tape","many","most"] mz:=by
 refine F.ok scLBuild (fun vs H Q E h=>?_) (fun cdv A outer s H vs Q E hr h=>?_)
 ·obtain ⟨tp,many,most,rfl,_⟩:=h
  rfl
 obtain ⟨tp,many,most,rfl,hT,hm1,hm3,ho1,ho3,q⟩:=h
 have hr1:=hr.mono (show 1<=2 by decide)
 obtain ⟨t,ht,hnext⟩:=yy (f:=f) (cdv:=cdv) (A:=A) (outer:=outer) (s:=s) (H:=H) (H0:=H) (E:=E) G GD bD kD mD hr1
 refine ⟨_,ad (am (i:=3) scLBuild.nd rfl (Or.inr rfl) (al GN hr rfl mN kN bN .nil ax (aa (pv 0) (aa (pv 1) ac))))
  (ad (am (i:=4) scLBuild.nd rfl (Or.inl rfl) (al GN hr rfl mN kN bN .nil ax (aa (pv 0) (aa ae ac))))
  (ad (am (i:=5) scLBuild.nd rfl (Or.inl rfl) (bu ac))
  (ad (bc PassesOwn.never rfl (bn rfl G.range (aa (aC aV (aC aV (pv 1) ae) (al GD hr1 rfl mD kD bD .nil ax (aa (pv 0) (aa ae ac)))) ac)) (aw (i:=6) scLBuild.nd rfl (Or.inl rfl))
   (ad (am (i:=7) scLBuild.nd rfl (Or.inl rfl) (aq aL (pv 3) (aC cZ (pv 6) (pv 1)) (fun _ _=>rfl)))
   (ad (aY (aF ye (pv 6) (pv 1) (aK _)) (aj (am (i:=7) scLBuild.nd rfl (Or.inl rfl) (aq aL (pv 3) (al GD hr1 rfl mD kD bD .nil ax (aa (pv 0) (aa (pv 1) ac))) (fun _ _=>rfl)))) aM)
   ht)))
  (aj (ay (aS (aa (pv 3) (aa (pv 5) ac)))))))),?_⟩
 refine ⟨_,rfl,_,rfl,tp,many,rfl,hT,by lia,by lia,fun nl ns H1 hnl hnlen hN hnne k1 tt1=>?_⟩
 refine ⟨_,rfl,tp,10,rfl,tt1,by decide,by decide,fun wl ws H2 hwl hwlen hW hwne k2' tt2=>?_⟩
 have k2:=k1.trans k2'
 have hnl2:=k2' _ _ hnl hnne
 obtain ⟨nLen,nNd,nWd⟩:=hN.ok (by lia)
 obtain ⟨wLen,wNd,wWd⟩:=hW.ok (by decide)
 have nLen:ns.length=many.toNat:=nLen
 have wLen:ws.length=10:=wLen
 refine ⟨(by show 0<=sizeLine;decide),fun fl hfl=>?_⟩
 have hflt:=cW tt2 hfl
 have k3:Kp tp H (upd H2 fl (.lst [])):=k2.new hfl
 have tt3:=tt2.new (o:=.lst []) hfl
 have s3:=ag hfl (.lst [])
 have nnl:nl≠fl:=af hnl2 hfl
 have nwl:wl≠fl:=af hwl hfl
 have hfl0: ∀ {c:Addr} {oo:HO},H c=some oo->c≠tp->c≠fl:=fun h hn=>af (k2 _ _ h hn) hfl
 have hnl3:=s3 _ _ hnl2
 have hwl3:=s3 _ _ hwl
 have g3:(upd H2 fl (.lst [])) fl=some (.lst []):=ab
 generalize upd H2 fl (.lst [])=H3 at k3 tt3 hnl3 hwl3 g3 ⊢
 refine ⟨_,rfl,_,_,rfl,rfl,_,rfl,tp,3,rfl,tt3,by decide,by decide,fun d1 t1 hd0 hd1=>?_⟩
 have k4:Kp tp H (upd H3 tp (.lst [.int t1])):=k3.trans Kp.tape
 have tt4:Tp (upd H3 tp (.lst [.int t1])) tp:=⟨t1,ab⟩
 have hnl4:(upd H3 tp (.lst [.int t1])) nl=some (.lst (ns.map V.str)):=by rw [ai hnne];exact hnl3
 have hwl4:(upd H3 tp (.lst [.int t1])) wl=some (.lst (ws.map V.str)):=by rw [ai hwne];exact hwl3
 have g4:(upd H3 tp (.lst [.int t1])) fl=some (.lst []):=by rw [ai hflt];exact g3
 generalize upd H3 tp (.lst [.int t1])=H4 at k4 tt4 hnl4 hwl4 g4 ⊢
 refine ⟨_,_,rfl,rfl,_,rfl,by lia,by lia,?_⟩
 refine cz (fun i σ H'=>BDI H tp nl wl fl many most ns ws i σ H')
  ⟨none,none,none,[],[],rfl,k4,tt4,hnl4,hwl4,g4,.nil,rfl,⟨fun f h=>(by cases h),rfl,fun f h=>(by cases h)⟩⟩ ?_ ?_
 ·rintro i σ H5 hi ⟨o6,o7,o8,zs,fs,rfl,k5,tt5,hnl5,hwl5,g5,hP,hzl,hfo⟩
  have hi6:i<6:=by lia
  have hm0:0<=(0+ (i:Int)) %many:=Int.emod_nonneg _ (by lia)
  have hmm:(0+ (i:Int)) %many<many:=Int.emod_lt_of_pos _ (by lia)
  obtain ⟨ov,eov,eov'⟩:=dF (xs:=ns.map V.str) hm0 (by rw [List.length_map,nLen];lia)
  obtain ⟨on,hon,rfl⟩: ∃ on,on∈ns/\V.str on=ov:=by
   obtain ⟨on,h1,h2⟩:=List.mem_map.mp (List.mem_of_getElem? eov')
   exact ⟨on,h1,h2⟩
  refine ⟨_,rfl,_,rfl,_,rfl,_,_,rfl,rfl,(by show (0:Int) <many;lia),nl,_,_,.str on,rfl,rfl,SqL.of hnl5,eov,?_⟩
  refine ⟨_,rfl,_,rfl,_,_,rfl,rfl,_,rfl,?_⟩
  refine bQ (fun c=>?_) (fun c=>?_)
  ·refine ⟨_,rfl,_,rfl,_,rfl,tp,many,rfl,tt5,by lia,by lia,fun d2 t2 h20 h21=>?_⟩
   have k6:Kp tp H5 (upd H5 tp (.lst [.int t2])):=Kp.tape
   have tt6:Tp (upd H5 tp (.lst [.int t2])) tp:=⟨t2,ab⟩
   generalize upd H5 tp (.lst [.int t2])=H6 at k6 tt6 ⊢
   obtain ⟨ov2,eov2,eov2'⟩:=dF (xs:=ns.map V.str) h20 (by rw [List.length_map,nLen];lia)
   obtain ⟨on2,hon2,rfl⟩:=List.mem_map.mp (List.mem_of_getElem? eov2')
   refine ⟨nl,_,_,.str on2,rfl,rfl,SqL.of (k6 _ _ hnl5 hnne),eov2,?_⟩
   exact hnext _ tp nl wl fl many most ns ws i on2 _ zs fs H6 hm1 hm3 ho1 ho3 nLen wLen hi6 hon2 hnne hwne hflt nnl nwl hfl0 (k5.trans k6) tt6 (k6 _ _ hnl5 hnne) (k6 _ _ hwl5 hwne) (k6 _ _ g5 hflt) (Paired.mapP hP fun _ _ h=>h.mono (k6.tk tt5)) hzl hfo fun σ' H' h=>h
  ·exact hnext _ tp nl wl fl many most ns ws i on _ zs fs H5 hm1 hm3 ho1 ho3 nLen wLen hi6 hon hnne hwne hflt nnl nwl hfl0 k5 tt5 hnl5 hwl5 g5 hP hzl hfo fun σ' H' h=>h
 ·rintro σ H5 ⟨o6,o7,o8,zs,fs,rfl,k5,tt5,hnl5,hwl5,g5,hP,hzl,hfo⟩
  refine ⟨_,rfl,_,rfl,(by show 2<=sizeLine;decide),fun p9 hp9=>?_⟩
  have s9:=ag hp9 (.tup [.ref nl,.ref fl])
  have lfs:fs.length=zs.length:=Paired.length hP
  refine q (.ref p9) ⟨ns,fs⟩ _ ⟨p9,nl,fl,zs,rfl,ab,s9 _ _ hnl5,s9 _ _ g5,Paired.mapP hP fun _ _ h=>h.mono (aG s9)⟩ ⟨?_,?_,?_,?_,hfo.1,nNd,nWd,by show (fs.map _).Nodup;rw [hfo.2.1];exact wNd.sublist (List.take_sublist _ _),fun f hf=>wWd _ (List.mem_of_mem_take (by rw [<- hfo.2.1];exact List.mem_map.mpr ⟨f,hf,rfl⟩)),hfo.2.2⟩ (k5.same s9) (tt5.same s9)
  ·show 1<=ns.length
   lia
  ·show ns.length<=3
   lia
  ·show 1<=fs.length
   lia
  ·show fs.length<=6
   lia
noncomputable def rdP (tb:Str->List Str) (parts:List Str) (g:Fm):Prop:= ∃ (j:Nat) (x p:Str),g=.part (j:Int) x/\parts[j]? =some p/\x∈tb p
noncomputable def jG (most:Int) (ups:List Str):Prop:=1<=ups.length/\(ups.length:Int)<=most/\ups.Nodup/\ ∀ x∈ups,cV x=true
noncomputable def FrL (z:Nat) (ns:List Str) (tb:Str->List Str) (fr:FrP):Prop:=fr.own∈ns/\(∀ p∈fr.parts,p∈ns)/\fr.parts.length<=3/\fr.rules.map (fun r=>(r.pl,r.word))=(tb fr.own).map (fun x=>((-1:Int),x))/\ ∀ r∈fr.rules,r.fm.wfp (rdP tb fr.parts)/\r.fm.lvl/\r.fm.size<=z
structure PlOk (z:Nat) (ns:List Str) (tb:Str->List Str) (bk:BkP):Prop where
 w:bk.wheel=0
 so:bk.sorts=ns.map fun x=>⟨x,[],tb x⟩
 n1:1<=ns.length
 n3:ns.length<=3
 up: ∀ x∈ns,jG 2 (tb x)
 f1:1<=bk.forms.length
 f6:bk.forms.length<=6
 fo: ∀ fr∈bk.forms,FrL z ns tb fr
noncomputable def TabW (hd:Addr) (H:Hp) (kvs:List (Key×V)) (tb:Str->List Str) (xs:List Str):Prop:= ∀ x∈xs,∃ a,a≠hd/\aP kvs (.inr x)=some (.ref a)/\H a=some (.lst ((tb x).map V.str))/\jG 2 (tb x)
theorem TabW.same {hd:Addr} {H H':Hp} (s:Same H H') {kvs:List (Key×V)} {tb:Str->List Str} {xs:List Str} (h:TabW hd H kvs tb xs):TabW hd H' kvs tb xs:=fun x hx=>by
 obtain ⟨a,n,e,h1,h2⟩:=h x hx
 exact ⟨a,n,e,s _ _ h1,h2⟩
noncomputable def w6 (K:PySem.W.Frag):List V->Hp->VK->Prop:=fun xs H Q=> ∃ p ys,xs=[.ref p]/\((SqL K H p ys/\ ∀ l,H l=none->Q (.ref l) (upd H l (.tup ys)))\/(SqT K H p ys/\Q (.ref p) H))
noncomputable def gR (K:PySem.W.Frag):Sp:=fun vs H Q _=> ∃ (sc:Addr) (ns:List Int) (st:Int) (bv:V) (bd:BdP),vs=[.ref sc,.int st,bv,.int 2]/\SqL K H sc (ns.map V.int)/\ns.length<=63/\0<=st/\st<900/\RepBd H bd bv/\BdOk bd/\ ∀ v bk tb H',RepBP H' bk v->PlOk 11 bd.names tb bk->bk.forms.map (fun fr=>(fr.name,fr.own,fr.parts))=bd.forms->Same H H'->Q v H'
noncomputable abbrev NPo:List Str:=["script","start","build","most","names","forms","head","words","table","k","turned","made","tape","name","own","parts","readings","j","word","rules","room"]
theorem scPlainOf:aH NPo ["script","start","build","most"] (ah eX):=fsc
theorem pf (F:Fun K "_law_plain_of" "_law_plain_of" eX f fd) (G:Gb mg)
  (GD:FnOk P w K mg base CX0 1 f2 fd2 ["tape","many"] bH) (bD:Binds K fd2 ["tape","many"] []) (kD:PySem.W.keepIn K (.ref f2)=true) (mD:mg "_law_digit"=some (.ref f2))
  (GN:FnOk P w K mg base CX0 2 f3 fd3 ["tape","many"] iW) (bN:Binds K fd3 ["tape","many"] []) (kN:PySem.W.keepIn K (.ref f3)=true) (mN:mg "_law_names"=some (.ref f3))
  (GT:FnOk P w K mg base CX0 2 f4 fd4 ["script","k"] (lb K)) (bT:Binds K fd4 ["script","k"] []) (kT:PySem.W.keepIn K (.ref f4)=true) (mT:mg "_law_tape"=some (.ref f4))
  (GL:FnOk P w K mg base CX0 11 f5 fd5 ["tape","readings","room","signs"] (mx 8)) (bL:Binds K fd5 ["tape","readings","room","signs"] []) (kL:PySem.W.keepIn K (.ref f5)=true) (mL:mg "_law_level_formula"=some (.ref f5)):
  FnOk P w K mg base CX0 12 f fd ["script","start","build","most"] (gR K):=by
 refine F.ok scPlainOf (fun vs H Q E h=>?_) (fun cdv A outer s H vs Q E hr h=>?_)
 ·obtain ⟨sc,ns,st,bv,bd,rfl,_⟩:=h
  rfl
 obtain ⟨sc,is,st,bv,bd,rfl,hS,hns,hst0,hst1,hBd,hbo,q⟩:=h
 have hu:=dh hr
 have hr1:=hr.mono (show 1<=11 by decide)
 have hr2:=hr.mono (show 2<=11 by decide)
 refine ⟨_,ad (fI (pv 2) (cQ rfl (aE (aw (i:=4) scPlainOf.nd rfl (Or.inl rfl)) (aE (aw (i:=5) scPlainOf.nd rfl (Or.inl rfl)) cn))))
  (ad (am (i:=6) scPlainOf.nd rfl (Or.inl rfl) (al GT hr2 rfl mT kT bT .nil ax (aa (pv 0) (aa (pv 1) ac))))
  (ad (am (i:=7) scPlainOf.nd rfl (Or.inl rfl) (al GN hr2 rfl mN kN bN .nil ax (aa (pv 6) (aa ae ac))))
  (ad (am (i:=8) scPlainOf.nd rfl (Or.inr rfl) dZ)
  (ad (bc PassesOwn.never rfl (bn rfl G.range (aa (aA aJ rfl G.len PySem.boot_len (aa (pv 4) ac)) ac)) (aw (i:=9) scPlainOf.nd rfl (Or.inl rfl))
   (ad (am (i:=10) scPlainOf.nd rfl (Or.inl rfl) (aC oX (bA iD (pv 7) (cg (pv 9)) cC) (bA iD (pv 7) cC (cg (pv 9)))))
   (aj (da hu (pv 8) (aq aL (pv 4) (pv 9) (fun _ _=>rfl)) (bA iD (pv 10) cC (cg (aC aV ae (al GD hr1 rfl mD kD bD .nil ax (aa (pv 6) (aa (pv 3) ac)))))) rfl))))
  (ad (am (i:=11) scPlainOf.nd rfl (Or.inl rfl) (bu ac))
  (ad (bc PassesOwn.never rfl (bn rfl G.range (aa (aA aJ rfl G.len PySem.boot_len (aa (pv 5) ac)) ac)) (aw (i:=9) scPlainOf.nd rfl (Or.inl rfl))
   (ad (am (i:=12) scPlainOf.nd rfl (Or.inl rfl) (al GT hr2 rfl mT kT bT .nil ax (aa (pv 0) (aa (aC aV (aC aV (pv 1) ae) (pv 9)) ac))))
   (ad (fI (aq aL (pv 5) (pv 9) (fun _ _=>rfl)) (cQ rfl (aE (aw (i:=13) scPlainOf.nd rfl (Or.inl rfl)) (aE (aw (i:=14) scPlainOf.nd rfl (Or.inl rfl)) (aE (aw (i:=15) scPlainOf.nd rfl (Or.inl rfl)) cn)))))
   (ad (am (i:=16) scPlainOf.nd rfl (Or.inl rfl) (bu ac))
   (ad (bc PassesOwn.never rfl (bn rfl G.range (aa (aA aJ rfl G.len PySem.boot_len (aa (pv 15) ac)) ac)) (aw (i:=17) scPlainOf.nd rfl (Or.inr rfl))
    (aj (cG (ee PySem.F.plainAttrs_list PySem.F.slot_list_extend PySem.F.type_list_extend ka (pv 16) (aa
     (bV (sc0:=ah eX) (N0:=NPo) (ys:=["j"]) (fr:=[17]) rfl (gr (be hu (pv 8) (aq aB (pv 15) (pv 17) (fun _ _=>rfl)) (fun _ _=>rfl))) rfl rfl
      cok (fun C s H ex=>aS (aa aT (aa (pv 1) (aa (pv 0) ac))))) ac)))))
   (ad (am (i:=19) scPlainOf.nd rfl (Or.inl rfl) (bu ac))
   (ad (bc PassesOwn.never rfl (gr (be hu (pv 8) (pv 14) (fun _ _=>rfl))) (aw (i:=18) scPlainOf.nd rfl (Or.inl rfl))
    (ad (am (i:=20) scPlainOf.nd rfl (Or.inl rfl) (aC aV ae (al GD hr1 rfl mD kD bD .nil ax (aa (pv 12) (aa ae ac)))))
    (aj (cG (ee PySem.F.plainAttrs_list PySem.F.slot_list_append PySem.F.type_list_append bo (pv 19) (aa
     (aS (aa (ip eR ae) (aa (pv 18) (aa (al GL hr rfl mL kL bL .nil ax (aa (pv 12) (aa (pv 16) (aa (pv 20) (aa (bu (pac aT (pac aT (pac aT ac)))) ac))))) ac)))) ac))))))
   (aj (cG (ee PySem.F.plainAttrs_list PySem.F.slot_list_append PySem.F.type_list_append bo (pv 11) (aa
    (aS (aa (pv 13) (aa (pv 14) (aa (pv 15) (aa (bg aW rfl G.tuple (by decide +kernel) (aa (pv 19) ac)) ac))))) ac)))))))))))
  (aj (ay (aS (aa ae (aa (bg aW rfl G.tuple (by decide +kernel) (aa (bV (sc0:=ah eX) (N0:=NPo) (ys:=["table"]) (fr:=[8]) rfl (gr (pv 4)) rfl rfl
    cok (fun C s H ex=>aS (aa (pv 0) (aa (aS ac) (aa (bg (r:=w6 K) aW rfl G.tuple (by decide +kernel) (aa (be hu (pv 1) (pv 0) (fun _ _=>rfl)) ac)) ac))))) ac))
   (aa (bg aW rfl G.tuple (by decide +kernel) (aa (pv 11) ac)) ac)))))))))))),?_⟩
 obtain ⟨ba,nl,fl,zs,rfl,hba,hnl,hfl,hP⟩:=id hBd
 have lP:bd.forms.length=zs.length:=Paired.length hP
 have n1:=hbo.n1
 have n3:=hbo.n3
 have f1:=hbo.f1
 have f6:=hbo.f6
 have lnl:(bd.names.map V.str).length=bd.names.length:=List.length_map _
 refine ⟨_,rfl,ba,_,rfl,SqT.of hba,rfl,_,_,rfl,_,_,rfl,rfl,?_⟩
 refine ⟨_,rfl,_,rfl,sc,is,st,rfl,hS,hns,hst0,by lia,fun hd t0 hhd=>?_⟩
 have s1:=ag hhd (.lst [.int t0])
 have tt1:Tp (upd H hd (.lst [.int t0])) hd:=⟨t0,ab⟩
 generalize upd H hd (.lst [.int t0])=H1 at s1 tt1 ⊢
 refine ⟨_,rfl,hd,6,rfl,tt1,by decide,by decide,fun wl ws H2 hwl hwlen hW hwne k2 tt2=>?_⟩
 obtain ⟨wLen,wNd,wWd⟩:=hW.ok (by decide)
 have wLen6:ws.length=6:=wLen
 have S2:Same H H2:=fun c oo h=>k2 c oo (s1 c oo h) (af h hhd)
 refine fun td htd=>?_
 have ntd:=cW tt2 htd
 have s3:=ag htd (.dK [])
 have g3:(upd H2 td (.dK [])) td=some (.dK []):=ab
 have tt3:=tt2.same s3
 have hwl3:=s3 _ _ hwl
 have htd0:H td=none:=S2.free htd
 have nwt:wl≠td:=af hwl htd
 generalize upd H2 td (.dK [])=H3 at s3 g3 tt3 hwl3 ⊢
 have S3:=S2.trans s3
 refine ⟨_,rfl,nl,_,rfl,.inl (SqL.of (S3 _ _ hnl)),_,rfl,by lia,by lia,?_⟩
 refine cz (fun i σ H'=> ∃ o9 o10 kvs tb,σ=[some (.ref sc),some (.int st),some (.ref ba),some (.int 2),some (.ref nl),some (.ref fl),some (.ref hd),some (.ref wl),some (.ref td),o9,o10,none,none,none,none,none,none,none,none,none,none]/\Same H H'/\Tp H' hd/\H' wl=some (.lst (ws.map V.str))/\H' td=some (.dK kvs)/\kvs.length<=i/\TabW hd H' kvs tb (bd.names.take i))
  ⟨none,none,[],fun _=>[],rfl,S3,tt3,hwl3,g3,Nat.le_refl _,fun x h=>(by cases h)⟩ ?_ ?_
 ·rintro i σ H4 hi ⟨o9,o10,kvs,tb,rfl,S4,tt4,hwl4,g4,hl4,hT4⟩
  rw [lnl]at hi
  have hi3:i<3:=by lia
  obtain ⟨x,hx⟩: ∃ x,bd.names[i]? =some x:=⟨bd.names[i]'(by lia),List.getElem?_eq_getElem (by lia)⟩
  have eat:atI (bd.names.map V.str) (0+ (i:Int))=some (V.str x):=by
   rw [Int.zero_add]
   exact ao (by rw [List.getElem?_map,hx];rfl)
  refine ⟨_,rfl,_,rfl,0+ (i:Int),rfl,wl,_,rfl,SqL.of hwl4,fun p1 hp1=>?_⟩
  rw [jy (ws.map V.str) (by lia) (by rw [List.length_map];lia)]
  have hct:dD (ws.map V.str) none (some (0+ (i:Int)))=(ws.map V.str).take (0+ (i:Int)).toNat:=jx (ws.map V.str) (by lia) (by rw [List.length_map];lia)
  have hn6:(0+ (i:Int)).toNat<=6:=by lia
  generalize hn:(0+ (i:Int)).toNat=n at hct hn6 ⊢
  have s5:=ag hp1 (.lst ((ws.map V.str).drop n))
  have g5:(upd H4 p1 (.lst ((ws.map V.str).drop n))) p1=some (.lst ((ws.map V.str).drop n)):=ab
  generalize upd H4 p1 (.lst ((ws.map V.str).drop n))=H5 at s5 g5 ⊢
  refine ⟨_,rfl,_,rfl,0+ (i:Int),rfl,wl,_,rfl,SqL.of (s5 _ _ hwl4),fun p2 hp2=>?_⟩
  rw [hct]
  have s6:=ag hp2 (.lst ((ws.map V.str).take n))
  have g6:(upd H5 p2 (.lst ((ws.map V.str).take n))) p2=some (.lst ((ws.map V.str).take n)):=ab
  generalize upd H5 p2 (.lst ((ws.map V.str).take n))=H6 at s6 g6 ⊢
  have lcat:((ws.map V.str).drop n).length+ ((ws.map V.str).take n).length<=12:=by rw [List.length_drop,List.length_take,List.length_map];lia
  refine ⟨p1,p2,_,_,rfl,rfl,s6 _ _ g5,g6,Nat.le_of_lt (au (by lia)),fun p3 hp3=>?_⟩
  have e3:(ws.map V.str).drop n++(ws.map V.str).take n=(ws.drop n++ws.take n).map V.str:=by rw [List.map_append,List.map_drop,List.map_take]
  rw [e3]
  have lts:(ws.drop n++ws.take n).length=6:=by rw [List.length_append,List.length_drop,List.length_take];lia
  have hsok:=fun (v:Nat) (hv:v<=3) (hv1:1<=v) (nm:Str)=>qT wNd wWd wLen6 n 0 v (by lia) hv (by lia) nm
  generalize ws.drop n++ws.take n=ts at lts hsok ⊢
  have s7:=ag hp3 (.lst (ts.map V.str))
  have g7:(upd H6 p3 (.lst (ts.map V.str))) p3=some (.lst (ts.map V.str)):=ab
  generalize upd H6 p3 (.lst (ts.map V.str))=H7 at s7 g7 ⊢
  have S47:Same H4 H7:=s5.trans (s6.trans s7)
  have tt7:Tp H7 hd:=tt4.same S47
  have np3:=cW (tt4.same (s5.trans s6)) hp3
  refine ⟨_,rfl,_,rfl,_,rfl,hd,2,rfl,tt7,by decide,by decide,fun du t5 hdu0 hdu1=>?_⟩
  have k8:Kp hd H7 (upd H7 hd (.lst [.int t5])):=Kp.tape
  have tt8:Tp (upd H7 hd (.lst [.int t5])) hd:=⟨t5,ab⟩
  generalize upd H7 hd (.lst [.int t5])=H8 at k8 tt8 ⊢
  refine ⟨1,du,rfl,rfl,1+du,rfl,p3,_,rfl,SqL.of (k8 _ _ g7 np3),fun p9 hp9=>?_⟩
  rw [jx (ts.map V.str) (by lia) (by rw [List.length_map];lia),<- List.map_take]
  have hv1:1<=(1+du).toNat:=by lia
  have hv2:(1+du).toNat<=2:=by lia
  generalize (1+du).toNat=v at hv1 hv2 ⊢
  have np9:=cW tt8 hp9
  have s9:=ag hp9 (.lst ((ts.take v).map V.str))
  have g9:(upd H8 p9 (.lst ((ts.take v).map V.str))) p9=some (.lst ((ts.take v).map V.str)):=ab
  have tt9:=tt8.same s9
  generalize upd H8 p9 (.lst ((ts.take v).map V.str))=H9 at s9 g9 tt9 ⊢
  have k49:Kp hd H4 H9:=fun c oo h hn=>s9 _ _ (k8 _ _ (S47 _ _ h) hn)
  have S9:Same H H9:=fun c oo h=>k49 c oo (S4 c oo h) (af h hhd)
  have g9d:=k49 _ _ g4 ntd.symm.symm
  refine ⟨_,rfl,_,rfl,_,rfl,nl,_,_,.str x,rfl,rfl,SqL.of (S9 _ _ hnl),eat,td,_,rfl,DPut.k (k:=.inr x) g9d (au (by lia)),?_⟩
  have eok:=hsok v (by lia) hv1 x
  rw [List.take_zero,List.drop_zero]at eok
  have lv:(ts.take v).length=v:=by rw [List.length_take];lia
  have uok:jG 2 (ts.take v):=⟨by lia,by lia,eok.1,eok.2.1⟩
  refine ⟨_,_,bq kvs (.inr x) (.ref p9),fun y=>if y=x then ts.take v else tb y,rfl,?_,?_,?_,ab,?_,?_⟩
  ·intro c oo h
   rw [ai (af h htd0)]
   exact S9 _ _ h
  ·obtain ⟨t9,e9⟩:=tt9
   exact ⟨t9,by rw [ai ntd.symm];exact e9⟩
  ·rw [ai nwt]
   exact k49 _ _ hwl4 hwne
  ·have:=bj kvs (.inr x) (.ref p9)
   lia
  ·intro y hy
   have ptd: ∀ {a:Addr} {xs:List V},H9 a=some (.lst xs)->a≠td:=fun h z=>by rw [z,g9d]at h;cases h
   by_cases c:y=x
   ·refine ⟨p9,np9,by rw [cD,if_pos (by rw [c])],?_,?_⟩
    ·rw [ai (ptd g9)]
     show _=some (HO.lst ((if y=x then ts.take v else tb y).map V.str))
     rw [if_pos c]
     exact g9
    ·show jG 2 (if y=x then ts.take v else tb y)
     rw [if_pos c]
     exact uok
   ·rw [List.take_add_one,hx]at hy
    have hy:y∈bd.names.take i:=by
     rcases List.mem_append.mp hy with h | h
     ·exact h
     ·exact absurd (by simpa using h) c
    obtain ⟨a',n',e',h1,h2⟩:=hT4 y hy
    have h1':=k49 _ _ h1 n'
    refine ⟨a',n',by rw [cD,if_neg (fun z=>c (Sum.inr.inj z))];exact e',?_,?_⟩
    ·rw [ai (ptd h1')]
     show _=some (HO.lst ((if y=x then ts.take v else tb y).map V.str))
     rw [if_neg c]
     exact h1'
    ·show jG 2 (if y=x then ts.take v else tb y)
     rw [if_neg c]
     exact h2
 ·rintro σ H4 ⟨o9,o10,kvs,tb,rfl,S4,tt4,hwl4,g4,hl4,hT4⟩
  rw [List.take_of_length_le (by rw [lnl];lia)]at hT4
  refine ⟨(by show 0<=sizeLine;decide),fun ml hml=>?_⟩
  have s5:=ag hml (.lst [])
  have g5:(upd H4 ml (.lst [])) ml=some (.lst []):=ab
  generalize upd H4 ml (.lst [])=H5 at s5 g5 ⊢
  refine ⟨_,rfl,fl,_,rfl,.inl (SqL.of (s5 _ _ (S4 _ _ hfl))),_,rfl,by lia,by lia,?_⟩
  refine cz (fun i σ H'=> ∃ o9 o12 o13 o14 o15 o16 o17 o18 o19 o20 mv frs,σ=[some (.ref sc),some (.int st),some (.ref ba),some (.int 2),some (.ref nl),some (.ref fl),some (.ref hd),some (.ref wl),some (.ref td),o9,o10,some (.ref ml),o12,o13,o14,o15,o16,o17,o18,o19,o20]/\Same H4 H'/\H' ml=some (.lst mv)/\RepFPs H' frs mv/\frs.length=i/\frs.map (fun fr=>(fr.name,fr.own,fr.parts))=bd.forms.take i/\ ∀ fr∈frs,FrL 11 bd.names tb fr)
   ⟨_,none,none,none,none,none,none,none,none,none,[],[],rfl,s5,g5,.nil,rfl,rfl,fun fr h=>(by cases h)⟩ ?_ ?_
  ·rintro i σ H6 hi ⟨o9,o12,o13,o14,o15,o16,o17,o18,o19,o20,mv,frs,rfl,S6,gml,hFs,hfl6,hmp,hfo⟩
   have hi6:i<6:=by lia
   have SH6:=S4.trans S6
   refine ⟨_,rfl,_,rfl,_,_,rfl,rfl,_,rfl,_,_,rfl,rfl,sc,is,_,rfl,SH6.seq hS,hns,by lia,by lia,fun tp t1 htp=>?_⟩
   have s7:=ag htp (.lst [.int t1])
   have tt7:Tp (upd H6 tp (.lst [.int t1])) tp:=⟨t1,ab⟩
   generalize upd H6 tp (.lst [.int t1])=H7 at s7 tt7 ⊢
   have SH7:=SH6.trans s7
   obtain ⟨z,hz⟩: ∃ z,zs[i]? =some z:=⟨zs[i]'(by lia),List.getElem?_eq_getElem (by lia)⟩
   obtain ⟨f3',hf3,c,pa,rfl,hc,hpa⟩:=aN hP hz
   obtain ⟨nm,on,ps⟩:=f3'
   obtain ⟨hon,hps,lps⟩:=hbo.fo _ (List.mem_of_getElem? hf3)
   have eat:atI zs (0+ (i:Int))=some (.ref c):=by
    rw [Int.zero_add]
    exact ao hz
   refine ⟨_,rfl,_,rfl,fl,_,_,.ref c,rfl,rfl,SqL.of (SH7 _ _ hfl),eat,c,_,rfl,SqT.of (SH7 _ _ hc),rfl,_,_,rfl,_,_,rfl,_,_,rfl,rfl,?_⟩
   refine ⟨(by show 0<=sizeLine;decide),fun rl hrl=>?_⟩
   have nrt:=cW tt7 hrl
   have s8:=ag hrl (.lst [])
   have g8:(upd H7 rl (.lst [])) rl=some (.lst []):=ab
   have tt8:=tt7.same s8
   generalize upd H7 rl (.lst [])=H8 at s8 g8 tt8 ⊢
   have S68:=s7.trans s8
   have SH8:=SH6.trans S68
   have lpv:(ps.map V.str).length=ps.length:=List.length_map _
   have T8: ∀ H',Same H7 H'->TabW hd H' kvs tb bd.names:=fun H' s'=>hT4.same (S6.trans (s7.trans s'))
   have gtd: ∀ H',Same H7 H'->H' td=some (.dK kvs):=fun H' s'=>s' _ _ (s7 _ _ (S6 _ _ g4))
   refine ⟨_,rfl,pa,_,rfl,.inr (SqT.of (SH8 _ _ hpa)),_,rfl,by rw [lpv];show -(2^62:Int)<=_;lia,by rw [lpv];have:ps.length<=3:=lps;lia,?_⟩
   refine cz (fun n σ H'=> ∃ o17 rv,σ=[some (.ref sc),some (.int st),some (.ref ba),some (.int 2),some (.ref nl),some (.ref fl),some (.ref hd),some (.ref wl),some (.ref td),some (.int (0+ (i:Int))),o10,some (.ref ml),some (.ref tp),some (.str nm),some (.str on),some (.ref pa),some (.ref rl),o17,o18,o19,o20]/\Same H7 H'/\H' rl=some (.lst rv)/\rv.length<=2*n/\LvP (rdP tb ps) H' rv)
    ⟨_,[],rfl,s8,g8,Nat.le_refl _,fun v h=>(by cases h)⟩ ?_ ?_
   ·rintro n σ H9 hn ⟨o17,rv,rfl,S9,grl,lrv,hLv⟩
    rw [lpv]at hn
    have lps':ps.length<=3:=lps
    obtain ⟨p,hp⟩: ∃ p,ps[n]? =some p:=⟨ps[n]'(by lia),List.getElem?_eq_getElem (by lia)⟩
    have eatp:atI (ps.map V.str) (0+ (n:Int))=some (V.str p):=by
     rw [Int.zero_add]
     exact ao (by rw [List.getElem?_map,hp];rfl)
    obtain ⟨a',_,ea,ha',hup⟩:=T8 H9 S9 p (hps p (List.mem_of_getElem? hp))
    refine ⟨_,rfl,.inl ⟨rfl,_,SqL.of grl⟩,?_⟩
    refine ⟨_,rfl,_,rfl,_,rfl,pa,_,_,.str p,rfl,rfl,SqT.of (S9 _ _ (SH7 _ _ hpa)),eatp,td,.ref a',rfl,(by rw [<- ea];exact DGet.k (k:=.inr p) (gtd H9 S9)),a',rfl,⟨_,SqL.of ha'⟩,?_⟩
    have lup:(tb p).length<=2:=by have:=hup.2.1;lia
    refine bX (as:=tb p) (A:=fun x v=>v=.str x) (by rw [List.length_map];lia) (bw (tb p)) (iK ha') (iJ ha') (l0 ha') (fun H x v=>yz H [.str "part",.int (0+ (n:Int)),.str x] v) (fun t ⟨a,e,h⟩=>⟨a,e,t _ _ h⟩) ?_ ?_
    ·rintro x v H10 k hx rfl s10 hk
     refine ⟨_,rfl,_,rfl,(by show 3<=sizeLine;decide),fun p1 hp1=>?_⟩
     exact hk _ _ (ag hp1 _) ⟨p1,rfl,ab⟩
    ·intro pl vs H10 hpl s10 gpl hTw
     have lw:(tb p).length=vs.length:=Paired.length hTw
     have grl10:=s10 _ _ grl
     refine ⟨rl,pl,rv,vs,rfl,rfl,grl10,gpl,Nat.le_of_lt (au (by lia)),?_⟩
     have tk:TK H10 (upd H10 rl (.lst (rv++vs))):=TK.lst grl10
     refine ⟨_,rv++vs,rfl,?_,ab,by rw [List.length_append];lia,?_⟩
     ·intro y oo h
      rw [ai (af h hrl)]
      exact s10 _ _ (S9 _ _ h)
     ·intro v hv
      rcases List.mem_append.mp hv with h | h
      ·obtain ⟨k',x',r',w'⟩:=hLv v h
       exact ⟨k',x',r'.mono ((aG s10).trans tk),w'⟩
      ·obtain ⟨x,hx,a1,rfl,ha1⟩:=oW hTw h
       exact ⟨0+ (n:Int),x,⟨a1,rfl,tk _ _ ha1⟩,⟨⟨by lia,by lia⟩,hup.2.2.2 x hx⟩,n,x,p,by rw [Int.zero_add],hp,hx⟩
   ·rintro σ H9 ⟨o17,rv,rfl,S9,grl,lrv,hLv⟩
    have lrv9:rv.length<=6:=by
     have h3:ps.length<=3:=lps
     have h4:(((ps.map V.str).length:Int)).toNat=ps.length:=by rw [lpv];exact Int.toNat_natCast _
     have lrv':rv.length<=2* (((ps.map V.str).length:Int)).toNat:=lrv
     rw [h4]at lrv'
     lia
    have tt9:Tp H9 tp:=tt7.same S9
    refine ⟨(by show 0<=sizeLine;decide),fun ra hra=>?_⟩
    have nra:=cW tt9 hra
    have s10:=ag hra (.lst [])
    have g10:(upd H9 ra (.lst [])) ra=some (.lst []):=ab
    have tt10:=tt9.same s10
    generalize upd H9 ra (.lst [])=H10 at s10 g10 tt10 ⊢
    have S710:=S9.trans s10
    obtain ⟨a',_,ea,ha',hup⟩:=T8 H10 S710 on hon
    have na':a'≠tp:=fun z=>by
     obtain ⟨t,ht⟩:=tt10
     rw [z,ht]at ha'
     cases hh:tb on with
     | nil=>rw [hh]at ha';cases ha'
     | cons y ys=>rw [hh]at ha';cases ha'
    have lup:(tb on).length<=2:=by have:=hup.2.1;lia
    refine ⟨_,rfl,_,rfl,td,.ref a',rfl,(by rw [<- ea];exact DGet.k (k:=.inr on) (gtd H10 S710)),a',rfl,⟨_,SqL.of ha'⟩,?_⟩
    refine uX (xs:=(tb on).map V.str) (fun n σ H'=>n<=(tb on).length/\ ∃ o18 o20 rvs rules,σ=[some (.ref sc),some (.int st),some (.ref ba),some (.int 2),some (.ref nl),some (.ref fl),some (.ref hd),some (.ref wl),some (.ref td),some (.int (0+ (i:Int))),o10,some (.ref ml),some (.ref tp),some (.str nm),some (.str on),some (.ref pa),some (.ref rl),o17,o18,some (.ref ra),o20]/\Kp tp H9 H'/\Tp H' tp/\H' a'=some (.lst ((tb on).map V.str))/\H' ra=some (.lst rvs)/\RepRs H' rules rvs/\rules.map (fun r=>(r.pl,r.word))=((tb on).take n).map (fun x=>((-1:Int),x))/\ ∀ r∈rules,r.fm.wfp (rdP tb ps)/\r.fm.lvl/\r.fm.size<=11)
     ⟨Nat.zero_le _,_,_,[],[],rfl,Kp.refl.same s10,tt10,ha',g10,.nil,rfl,fun r h=>(by cases h)⟩ (fun n σ H' _ h=>by obtain ⟨_,_,_,_,_,_,_,_,g,_⟩:=h;exact SqL.of g) ?_ ?_
    ·rintro n x σ H11 hx ⟨hn,o18,o20,rvs,rules,rfl,k11,tt11,ha11,gra,hRr,hmap,hfm⟩
     have hlt:n< (tb on).length:=by
      have:=(List.getElem?_eq_some_iff.mp hx).1
      rw [List.length_map]at this
      exact this
     obtain ⟨wd,hwd,rfl⟩: ∃ wd,(tb on)[n]? =some wd/\V.str wd=x:=by
      rw [List.getElem?_map]at hx
      cases he:(tb on)[n]? with
      | none=>rw [he]at hx;cases hx
      | some t=>rw [he]at hx;exact ⟨t,rfl,Option.some.inj hx⟩
     have lrules:rules.length=n:=by
      have:=congrArg List.length hmap
      rw [List.length_map,List.length_map,List.length_take]at this
      lia
     have lrvs:rvs.length=n:=by rw [<- hRr.len];exact lrules
     refine ⟨_,rfl,tp,6,rfl,tt11,by decide,by decide,fun d t hd0 hd1=>⟨1,d,rfl,rfl,?_⟩⟩
     have k12:Kp tp H11 (upd H11 tp (.lst [.int t])):=Kp.tape
     have tt12:Tp (upd H11 tp (.lst [.int t])) tp:=⟨t,ab⟩
     generalize upd H11 tp (.lst [.int t])=H12 at k12 tt12 ⊢
     have gra12:=k12 _ _ gra nra
     refine ⟨_,rfl,.inl ⟨rfl,_,SqL.of gra12⟩,1,rfl,_,rfl,_,rfl,_,rfl,_,rfl,(by show 3<=sizeLine;decide),fun sg hsg=>?_⟩
     have nst:=cW tt12 hsg
     have s13:=ag hsg (.lst [.str "plus",.str "less",.str "times"])
     have g13:(upd H12 sg (.lst [.str "plus",.str "less",.str "times"])) sg=some (.lst (([("plus":Str),"less","times"]:List Str).map V.str)):=ab
     have tt13:=tt12.same s13
     generalize upd H12 sg (.lst [.str "plus",.str "less",.str "times"])=H13 at s13 g13 tt13 ⊢
     have k913:Kp tp H9 H13:=(k11.trans k12).same s13
     have hLv13:LvP (rdP tb ps) H13 rv:=fun v hv=>by
      obtain ⟨k',x',r',w'⟩:=hLv v hv
      exact ⟨k',x',r'.mono (k913.tk tt9),w'⟩
     refine ⟨rdP tb ps,(fun y ⟨_,_,_,e,_⟩=>by cases e),tp,rl,sg,rv,1+d,_,rfl,tt13,nrt,nst,k913 _ _ grl nrt,by lia,hLv13,g13,by decide,by decide,fun y hy=>by revert y;decide +kernel,by lia,by lia,by lia,fun v fm H14 rp wf lv sz k14 tt14=>?_⟩
     have k1114:Kp tp H11 H14:=(k12.same s13).trans k14
     have gra14:=k1114 _ _ gra nra
     refine ⟨(by show 3<=sizeLine;decide),fun p5 hp5=>?_⟩
     have s15:=ag hp5 (.tup [.int (-1),.str wd,v])
     have g15:(upd H14 p5 (.tup [.int (-1),.str wd,v])) p5=some (.tup [.int (-1),.str wd,v]):=ab
     have tt15:=tt14.same s15
     have gra15:=s15 _ _ gra14
     generalize upd H14 p5 (.tup [.int (-1),.str wd,v])=H15 at s15 g15 tt15 gra15 ⊢
     have k1115:Kp tp H11 H15:=k1114.same s15
     refine ⟨ra,rvs,.ref p5,rfl,rfl,gra15,au (by lia),?_⟩
     have tk:TK H15 (upd H15 ra (.lst (rvs++[.ref p5]))):=TK.lst gra15
     have tk11:TK H11 (upd H15 ra (.lst (rvs++[.ref p5]))):=(k1115.tk tt11).trans tk
     have nar:a'≠ra:=fun z=>by rw [z]at ha';rw [g10]at ha';cases hh:tb on with
      | nil=>rw [hh]at hlt;exact absurd hlt (Nat.not_lt_zero _)
      | cons y ys=>rw [hh]at ha';cases ha'
     refine ⟨hlt,_,_,rvs++[.ref p5],rules++[⟨-1,wd,fm⟩],rfl,?_,?_,?_,ab,?_,?_,?_⟩
     ·intro b oo hb hbn
      rw [ai (af hb hra)]
      exact k1115 _ _ (k11 _ _ hb hbn) hbn
     ·obtain ⟨t9,e9⟩:=tt15
      exact ⟨t9,by rw [ai (Ne.symm nra)];exact e9⟩
     ·rw [ai nar]
      exact k1115 _ _ ha11 na'
     ·exact Paired.snoc (hRr.mono tk11) ⟨p5,v,rfl,tk _ _ g15,rp.mono ((aG s15).trans tk)⟩
     ·rw [List.map_append,hmap,List.take_add_one,hwd,List.map_append]
      rfl
     ·intro r hrr
      rw [List.mem_append,List.mem_singleton]at hrr
      rcases hrr with h | h
      ·exact hfm r h
      ·subst h
       exact ⟨wf,lv,by show fm.size<=11;lia⟩
    ·rintro σ H11 ⟨_,o18,o20,rvs,rules,rfl,k11,tt11,ha11,gra,hRr,hmap,hfm⟩
     rw [List.length_map,List.take_length]at hmap
     have S611:Same H6 H11:=fun b oo h=>k11 b oo (S9 b oo (s7 b oo h)) (af h htp)
     have gml11:=S611 _ _ gml
     refine ⟨_,rfl,.inl ⟨rfl,_,SqL.of gml11⟩,_,rfl,_,rfl,_,rfl,_,rfl,ra,_,rfl,.inl ⟨SqL.of gra,fun rt hrt=>?_⟩⟩
     have s12:=ag hrt (.tup rvs)
     have g12:(upd H11 rt (.tup rvs)) rt=some (.tup rvs):=ab
     generalize upd H11 rt (.tup rvs)=H12 at s12 g12 ⊢
     refine ⟨(by show 4<=sizeLine;decide),fun p13 hp13=>?_⟩
     have s13:=ag hp13 (.tup [.str nm,.str on,.ref pa,.ref rt])
     have g13:(upd H12 p13 (.tup [.str nm,.str on,.ref pa,.ref rt])) p13=some (.tup [.str nm,.str on,.ref pa,.ref rt]):=ab
     generalize upd H12 p13 (.tup [.str nm,.str on,.ref pa,.ref rt])=H13 at s13 g13 ⊢
     have S613:Same H6 H13:=S611.trans (s12.trans s13)
     have gml13:=S613 _ _ gml
     have lmv:=hFs.len
     refine ⟨ml,mv,.ref p13,rfl,rfl,gml13,au (by lia),?_⟩
     have tk:TK H13 (upd H13 ml (.lst (mv++[.ref p13]))):=TK.lst gml13
     have tk6:TK H6 (upd H13 ml (.lst (mv++[.ref p13]))):=(aG S613).trans tk
     refine ⟨_,_,_,_,_,_,_,_,_,_,mv++[.ref p13],frs++[⟨nm,on,ps,rules⟩],rfl,?_,ab,?_,?_,?_,?_⟩
     ·intro b oo h
      rw [ai (af h hml)]
      exact S613 _ _ (S6 _ _ h)
     ·exact Paired.snoc (RepFPs.mono tk6 hFs) ⟨p13,pa,rt,rvs,rfl,tk _ _ g13,tk _ _ (S613 _ _ (SH6 _ _ hpa)),tk _ _ (s13 _ _ g12),hRr.mono ((aG (s12.trans s13)).trans tk)⟩
     ·rw [List.length_append,hfl6];rfl
     ·rw [List.map_append,hmp,List.take_add_one,hf3];rfl
     ·intro fr hfr
      rw [List.mem_append,List.mem_singleton]at hfr
      rcases hfr with h | h
      ·exact hfo fr h
      ·subst h
       exact ⟨hon,hps,lps,hmap,hfm⟩
  ·rintro σ H6 ⟨o9,o12,o13,o14,o15,o16,o17,o18,o19,o20,mv,frs,rfl,S6,gml,hFs,hfl6,hmp,hfo⟩
   have SH6:=S4.trans S6
   have hT6:TabW hd H6 kvs tb bd.names:=hT4.same S6
   have g6:=S6 _ _ g4
   have hnl6:=SH6 _ _ hnl
   refine ⟨_,rfl,nl,rfl,⟨_,SqL.of hnl6⟩,?_⟩
   refine bX (as:=bd.names) (A:=fun x v=>v=.str x) (by rw [lnl];lia) (bw bd.names) (iK hnl6) (iJ hnl6) (l0 hnl6) (fun H x v=>RepS H ⟨x,[],tb x⟩ v) (fun t h=>RepS.mono t h) ?_ ?_
   ·rintro x v H7 k hx rfl s7 hk
    obtain ⟨a',_,ea,ha',hup⟩:=hT6 x hx
    refine ⟨_,rfl,(by show 0<=sizeLine;decide),fun p1 hp1=>?_⟩
    have s8:=ag hp1 (.tup [])
    have g8:(upd H7 p1 (.tup [])) p1=some (.tup []):=ab
    generalize upd H7 p1 (.tup [])=H8 at s8 g8 ⊢
    refine ⟨_,rfl,_,rfl,td,.ref a',rfl,(by rw [<- ea];exact DGet.k (k:=.inr x) (s8 _ _ (s7 _ _ g6))),a',_,rfl,.inl ⟨SqL.of (s8 _ _ (s7 _ _ ha')),fun p2 hp2=>?_⟩⟩
    have s9:=ag hp2 (.tup ((tb x).map V.str))
    have g9:(upd H8 p2 (.tup ((tb x).map V.str))) p2=some (.tup ((tb x).map V.str)):=ab
    generalize upd H8 p2 (.tup ((tb x).map V.str))=H9 at s9 g9 ⊢
    refine ⟨(by show 3<=sizeLine;decide),fun p3 hp3=>?_⟩
    have s10:=ag hp3 (.tup [.str x,.ref p1,.ref p2])
    exact hk _ _ (s8.trans (s9.trans s10)) ⟨p3,p1,p2,rfl,ab,s10 _ _ (s9 _ _ g8),s10 _ _ g9⟩
   ·intro pl vs H7 hpl s7 gpl hSs
    refine ⟨pl,_,rfl,.inl ⟨SqL.of gpl,fun pt hpt=>?_⟩⟩
    have s8:=ag hpt (.tup vs)
    have g8:(upd H7 pt (.tup vs)) pt=some (.tup vs):=ab
    generalize upd H7 pt (.tup vs)=H8 at s8 g8 ⊢
    refine ⟨_,rfl,ml,mv,rfl,.inl ⟨SqL.of (s8 _ _ (s7 _ _ gml)),fun fa hfa=>?_⟩⟩
    have s9:=ag hfa (.tup mv)
    have g9:(upd H8 fa (.tup mv)) fa=some (.tup mv):=ab
    generalize upd H8 fa (.tup mv)=H9 at s9 g9 ⊢
    refine ⟨(by show 3<=sizeLine;decide),fun pb hpb=>?_⟩
    have s10:=ag hpb (.tup [.int 0,.ref pt,.ref fa])
    have S610:Same H6 _:=s7.trans (s8.trans (s9.trans s10))
    have hsort:RepSs _ (bd.names.map fun x=>⟨x,[],tb x⟩) vs:=eI (F:=RepS _) (g:=fun x:Str=>(⟨x,[],tb x⟩:Srt)) (Paired.mapP hSs fun _ _ h=>RepS.mono (aG (s8.trans (s9.trans s10))) h)
    have hfm6:bd.forms.take zs.length=bd.forms:=List.take_of_length_le (by lia)
    refine q (.ref pb) ⟨0,bd.names.map fun x=>⟨x,[],tb x⟩,frs⟩ tb _ ⟨pb,pt,fa,mv,rfl,ab,⟨vs,s10 _ _ (s9 _ _ g8),hsort⟩,s10 _ _ g9,RepFPs.mono (aG S610) hFs⟩ ⟨rfl,rfl,n1,n3,fun x hx=>?_,?_,?_,hfo⟩ ?_ (SH6.trans S610)
    ·obtain ⟨_,_,_,_,h⟩:=hT4 x hx
     exact h
    ·show 1<=frs.length
     lia
    ·show frs.length<=6
     lia
    ·rw [hmp]
     exact hfm6
end My
namespace L2
open PySem PySem.Spec PyProof.Rows
section
variable {X:Cx} {x x2 x3:Str} {px px2 px3 tpos pos fpos:Pos} {kk:Nat} {iter elt:Expr} {scope sc0:Scope} {N0 ys:List Str} {fr:List Nat} {wi:TI} {te:TE}
theorem tY {i:Nat} {y:Str} {py spos:Pos} (hcalm:X.calm=true) (hnd:X.N.Nodup) (hiN:X.N[i]? =some y) (hy:Loc X.env.scope y) (hi:PI X (.Tuple [.Name x px,.Name x2 px2,.Name x3 px3] kk tpos) iter wi) (hsc:X.env.scope=sc0) (hN:X.N=N0) (ok:qR sc0 N0 scope x x2 x3 ys fr)
  (hE: ∀ C s H ex,PE (cO X x x2 x3 ys scope C s H ex) elt te) (hsw:swapsWith (.ListComp elt [⟨.Tuple [.Name x px,.Name x2 px2,.Name x3 px3] kk tpos,iter,[],0⟩] scope pos) (some (.Name y py)) spos.line X.env=pure true:=by rfl)
  (hs: ∀ v,foldedSetIterable iter X.env v=pure v:=by intro _;rfl) (hf:X.fn y=true\/X.env.scope.names.lookup y=some .local:=by first | exact .inl rfl | exact .inr rfl | assumption):
  PS X (.Assign [.Name y py] (.ListComp elt [⟨.Tuple [.Name x px,.Name x2 px2,.Name x3 px3] kk tpos,iter,[],0⟩] scope pos) spos) (mj (sZ wi fr te) (dC i)):=by
 intro pins s σ H D I h
 rw [exec_Assign_Name_used _ _ _ _ hsw]
 refine wpAny_bind (wpAny_standAt (wpAny_bind ?_))
 show wpAny _ X.A (do let _ <- comprehension (.ListComp elt [⟨.Tuple [.Name x px,.Name x2 px2,.Name x3 px3] kk tpos,iter,[],0⟩] scope pos) scope X.env _ (newList []) false (eval iter X.env) (some (assign (.Name y py) X.env))) _ _ s
 refine wpAny_bind (thn (pL (use:=some (assign (.Name y py) X.env)) (Qv:=fun _ s'=>SP X pins D .next s') (Q:=fun v H'=>D.nx (σ.set i (some v)) H') hcalm hi hsc hN ok hE I h hs fun p C H' s' m I' hn h0 h1 h2 h3 h4 q=>?_) fun _ s' hq=>wpAny_pure (wpAny_pure hq))
 show wpAny _ X.A (assign (.Name y py) X.env (.ref p)) _ _ s'
 refine wpAny_assign_Name (dW (v:=.ref p) I' hnd hiN hy rfl (fun s'' I'' ⟨a,sb,ha⟩=>?_) hf)
 have hCa:C≠a:=by
  rcases ha with e | e
  ·rw [e];exact h1
  ·exact (h3 y a e).symm
 refine ⟨m,hn.sameBut sb hCa,fun h' sb'=>⟨_,H',I''.turned (t':=s''.toks) (fun b o hb e=>sb'.extBut b o hb e) h0 h1 (.inr h2) h3 h4,q⟩⟩
end
end L2
namespace My
open PySem L2
noncomputable def nwL:List Str:=["pa","p","pab"]
noncomputable def nwW (i:Nat):Str:=nwL.getD i "pa"
noncomputable def vL (x:Str):List Str->Nat
 | []=>0
 | y::r=>if y=x then 0 else vL x r+1
theorem fJ: ∀ {ys:List Str} {i:Nat} {x:Str},ys.Nodup->ys[i]? =some x->vL x ys=i
 | [],i,_,_,h=>by cases i <;> cases h
 | y::ys,0,x,_,h=>by cases h;exact if_pos rfl
 | y::ys,i+1,x,nd,h=>by
  have h:ys[i]? =some x:=h
  obtain ⟨n1,n2⟩:=List.nodup_cons.mp nd
  show (if y=x then 0 else vL x ys+1)=i+1
  rw [if_neg (fun e=>n1 (by rw [e];exact List.mem_of_getElem? h)),fJ n2 h]
noncomputable def nwF (ups:List Str) (y:Str):Str:=nwW (vL y ups)
noncomputable def tbN (tb:Str->List Str) (x:Str):List Str:=(tb x).reverse.map (nwF (tb x))
theorem vt {tb:Str->List Str} {p x:Str} (h:x∈tb p):nwF (tb p) x∈tbN tb p:=List.mem_map.mpr ⟨x,List.mem_reverse.mpr h,rfl⟩
noncomputable def TbsAt (H:Hp) (tb:Str->List Str) (ps:List Str) (dv:List V):Prop:= ∀ (j:Nat) p,ps[j]? =some p-> ∃ d kvs,dv[j]? =some (.ref d)/\H d=some (.dK kvs)/\ ∀ x∈tb p,aP kvs (.inr x)=some (.str (nwF (tb p) x))/\cV (nwF (tb p) x)=true
noncomputable def dy (n:Nat):Sp:=fun vs H Q _=> ∃ (tp tl:Addr) (v:V) (fm:Fm) (tb:Str->List Str) (ps:List Str) (dv:List V),vs=[.ref tp,v,.ref tl]/\Tp H tp/\tl≠tp/\Rep H fm v/\fm.wfp (rdP tb ps)/\fm.lvl/\fm.size<=n/\ps.length<=3/\H tl=some (.lst dv)/\TbsAt H tb ps dv/\
 ∀ u g H',Rep H' g u->g.wfp (rdP (tbN tb) ps)->g.lvl->(∀ k∈g.prt,k∈fm.prt)->g.size<=fm.size->Kp tp H H'->Tp H' tp->Q u H'
theorem TbsAt.kp {tp:Addr} {H H':Hp} (k:Kp tp H H') (t:Tp H tp) {tb:Str->List Str} {ps:List Str} {dv:List V} (h:TbsAt H tb ps dv):TbsAt H' tb ps dv:=fun j p hp=>by
 obtain ⟨d,kvs,e,hd,hx⟩:=h j p hp
 refine ⟨d,kvs,e,k _ _ hd fun z=>?_,hx⟩
 obtain ⟨u,hu⟩:=t
 rw [z,hu]at hd
 cases hd
theorem prA {a b c d:Fm} {op:Str} (h1: ∀ k∈c.prt,k∈a.prt) (h2: ∀ k∈d.prt,k∈b.prt): ∀ k∈(Fm.bin op c d).prt,k∈(Fm.bin op a b).prt:=fun k hk=>by
 rcases List.mem_append.mp (show k∈c.prt++d.prt from hk)with h | h
 ·exact List.mem_append_left _ (h1 k h)
 ·exact List.mem_append_right _ (h2 k h)
theorem prB {a b c d:Fm} {op:Str} (h1: ∀ k∈c.prt,k∈a.prt) (h2: ∀ k∈d.prt,k∈b.prt): ∀ k∈(Fm.bin op d c).prt,k∈(Fm.bin op a b).prt:=fun k hk=>by
 rcases List.mem_append.mp (show k∈d.prt++c.prt from hk)with h | h
 ·exact List.mem_append_right _ (h2 k h)
 ·exact List.mem_append_left _ (h1 k h)
noncomputable abbrev NTf:List Str:=["tape","formula","tables","one","other"]
theorem scTurnedF:aH NTf ["tape","formula","tables"] (ah gi):=fsc
theorem oZ {n:Nat} (F:Fun K "_law_turned_formula" "_law_turned_formula" gi f fd)
  (GD:FnOk P w K mg base CX0 1 f2 fd2 ["tape","many"] bH) (bD:Binds K fd2 ["tape","many"] []) (kD:PySem.W.keepIn K (.ref f2)=true) (mD:mg "_law_digit"=some (.ref f2))
  (GS:FnOk P w K mg base CX0 (n+1) f fd ["tape","formula","tables"] (dy n)) (bS:Binds K fd ["tape","formula","tables"] []) (mS:mg "_law_turned_formula"=some (.ref f)):
  FnOk P w K mg base CX0 (n+2) f fd ["tape","formula","tables"] (dy (n+1)):=by
 refine F.ok scTurnedF (fun vs H Q E h=>?_) (fun cdv A outer s H vs Q E hr h=>?_)
 ·obtain ⟨tp,tl,v,fm,tb,ps,dv,rfl,_⟩:=h
  rfl
 obtain ⟨tp,tl,v,fm,tb,ps,dv,rfl,hT,htl,hR,hw,hlv,hsz,hps,gtl,hTb,q⟩:=h
 have hu:=dh hr
 have hr1:=hr.mono (show 1<=n+1 by lia)
 refine ⟨_,ad (aY (aF bh (aq aB (pv 1) ae (fun _ _=>rfl)) aT (aK _)) (aj (ay (pv 1))) aM)
  (ad (aY (aF bh (aq aB (pv 1) ae (fun _ _=>rfl)) aT (aK _)) (aj (ay (aS (aa aT (aa (aq aB (pv 1) ae (fun _ _=>rfl)) (aa (be hu (aq aL (pv 2) (aq aB (pv 1) ae (fun _ _=>rfl)) (fun _ _=>rfl)) (aq aB (pv 1) ae (fun _ _=>rfl)) (fun _ _=>rfl)) ac)))))) aM)
  (ad (am (i:=3) scTurnedF.nd rfl (Or.inl rfl) (al GS hr rfl mS F.kp bS .nil ax (aa (pv 0) (aa (aq aB (pv 1) ae (fun _ _=>rfl)) (aa (pv 2) ac)))))
  (ad (am (i:=4) scTurnedF.nd rfl (Or.inl rfl) (al GS hr rfl mS F.kp bS .nil ax (aa (pv 0) (aa (aq aB (pv 1) ae (fun _ _=>rfl)) (aa (pv 2) ac)))))
  (ad (aY (PW.pt (lH (aF nA (aq aB (pv 1) ae (fun _ _=>rfl)) aT (aK _)) (iG (aF bh (al GD hr1 rfl mD kD bD .nil ax (aa (pv 0) (aa ae ac))) ae (aK _)))))
   (aj (ay (aS (aa (aq aB (pv 1) ae (fun _ _=>rfl)) (aa (pv 4) (aa (pv 3) ac)))))) aM)
  (aj (ay (aS (aa (aq aB (pv 1) ae (fun _ _=>rfl)) (aa (pv 3) (aa (pv 4) ac)))))))))),?_⟩
 cases fm with
 | num m=>
  have hR0:=hR
  obtain ⟨a,rfl,ha⟩:=hR
  refine ⟨_,rfl,a,_,0,.str "num",rfl,rfl,SqT.of ha,cf,rfl,true,(by rw [decide_eq_true rfl]),dQ ?_⟩
  exact ⟨_,rfl,q _ (.num m) H hR0 hw trivial (fun k h=>h) (Nat.le_refl _) Kp.refl hT⟩
 | own x=>exact hlv.elim
 | whn A B C=>exact hlv.elim
 | part k x=>
  obtain ⟨a,rfl,ha⟩:=hR
  obtain ⟨⟨⟨k0,k2⟩,hx⟩,j,x',p,e,hp,hxp⟩:((0<=k/\k<=2)/\cV x=true)/\rdP tb ps (.part k x):=hw
  cases e
  obtain ⟨d,kvs,ed,hd,hxs⟩:=hTb j p hp
  obtain ⟨ey,hy⟩:=hxs x hxp
  refine ⟨_,rfl,a,_,0,.str "part",rfl,rfl,SqT.of ha,cf,rfl,false,(by rw [decide_eq_false (by decide +kernel)]),cp ?_⟩
  refine ⟨_,rfl,a,_,0,.str "part",rfl,rfl,SqT.of ha,cf,rfl,true,(by rw [decide_eq_true rfl]),dQ ?_⟩
  refine ⟨_,rfl,a,_,1,.int (j:Int),rfl,rfl,SqT.of ha,ao (j:=1) rfl,?_⟩
  refine ⟨_,rfl,_,rfl,a,_,1,.int (j:Int),rfl,rfl,SqT.of ha,ao (j:=1) rfl,tl,_,_,.ref d,rfl,rfl,SqL.of gtl,ao ed,_,rfl,a,_,2,.str x,rfl,rfl,SqT.of ha,ao (j:=2) rfl,d,.str (nwF (tb p) x),rfl,(by rw [<- ey];exact DGet.k (k:=.inr x) hd),?_⟩
  refine ⟨(by show 3<=sizeLine;decide),fun p9 hp9=>?_⟩
  exact q (.ref p9) (.part (j:Int) (nwF (tb p) x)) _ ⟨p9,rfl,ab⟩ ⟨⟨⟨k0,k2⟩,hy⟩,j,_,p,rfl,hp,vt hxp⟩ trivial (fun k h=>h) (Nat.le_refl _) (Kp.refl.new hp9) (hT.new hp9)
 | bin op A B=>
  obtain ⟨a,u1,u2,rfl,ha,r1,r2⟩:=hR
  obtain ⟨ho,w1,w2⟩:op∈ops/\A.wfp _/\B.wfp _:=hw
  obtain ⟨l1,l2,l3⟩:A.lvl/\B.lvl/\(op="times"-> ∀ k∈A.prt,k∉B.prt):=hlv
  have hz:A.size+B.size+1<=n+1:=hsz
  have hnn:op≠"num":=fun z=>by rw [z]at ho;exact absurd ho (by decide +kernel)
  have hnp:op≠"part":=fun z=>by rw [z]at ho;exact absurd ho (by decide +kernel)
  refine ⟨_,rfl,a,_,0,.str op,rfl,rfl,SqT.of ha,cf,rfl,false,(by rw [decide_eq_false fun z=>hnn (V.str.inj z)]),cp ?_⟩
  refine ⟨_,rfl,a,_,0,.str op,rfl,rfl,SqT.of ha,cf,rfl,false,(by rw [decide_eq_false fun z=>hnp (V.str.inj z)]),cp ?_⟩
  refine ⟨_,rfl,_,rfl,a,_,1,u1,rfl,rfl,SqT.of ha,ao (j:=1) rfl,_,rfl,tp,tl,u1,A,tb,ps,dv,rfl,hT,htl,r1,w1,l1,by lia,hps,gtl,hTb,fun v1 g1 H1 q1 wf1 lv1 pr1 z1 k1 tt1=>?_⟩
  have tk1:=k1.tk hT
  refine ⟨_,rfl,_,rfl,a,_,2,u2,rfl,rfl,SqT.of (tk1 _ _ ha),ao (j:=2) rfl,_,rfl,tp,tl,u2,B,tb,ps,dv,rfl,tt1,htl,r2.mono tk1,w2,l2,by lia,hps,k1 _ _ gtl htl,hTb.kp k1 hT,fun v2 g2 H2 q2 wf2 lv2 pr2 z2 k2 tt2=>?_⟩
  have k02:=k1.trans k2
  have tk02:=k02.tk hT
  have tk2:=k2.tk tt1
  have fin: ∀ H3,Kp tp H2 H3->Tp H3 tp-> ∀ p,H3 p=none->Q (.ref p) (upd H3 p (.tup [.str op,v1,v2])):=fun H3 k3 tt3 p hp=>by
   have s4:=ag hp (.tup [.str op,v1,v2])
   have t3:=(k3.tk tt2).trans (aG s4)
   exact q (.ref p) (.bin op g1 g2) _ ⟨p,v1,v2,rfl,ab,(q1.mono tk2).mono t3,q2.mono t3⟩ ⟨ho,wf1,wf2⟩ ⟨lv1,lv2,fun e k h1 h2=>l3 e k (pr1 k h1) (pr2 k h2)⟩ (prA pr1 pr2) (by show g1.size+g2.size+1<=A.size+B.size+1;lia) ((k02.trans k3).new hp) (tt3.new hp)
  refine ⟨_,rfl,a,_,0,.str op,rfl,rfl,SqT.of (tk02 _ _ ha),cf,rfl,_,rfl,?_⟩
  refine bQ (fun c=>?_) (fun c=>cp ?_)
  ·refine ⟨_,rfl,tp,2,rfl,tt2,by decide,by decide,fun d t hd0 hd1=>?_⟩
   have k3:Kp tp H2 (upd H2 tp (.lst [.int t])):=Kp.tape
   have tt3:Tp (upd H2 tp (.lst [.int t])) tp:=⟨t,ab⟩
   generalize upd H2 tp (.lst [.int t])=H3 at k3 tt3 ⊢
   have tk03:=(k02.trans k3).tk hT
   refine ⟨rfl,_,rfl,?_⟩
   refine bQ (fun _=>?_) (fun _=>?_)
   ·refine ⟨_,rfl,a,_,0,.str op,rfl,rfl,SqT.of (tk03 _ _ ha),cf,_,rfl,_,rfl,(by show 3<=sizeLine;decide),fun p hp=>?_⟩
    have s4:=ag hp (.tup [.str op,v2,v1])
    have t3:=(k3.tk tt2).trans (aG s4)
    exact q (.ref p) (.bin op g2 g1) _ ⟨p,v2,v1,rfl,ab,q2.mono t3,(q1.mono tk2).mono t3⟩ ⟨ho,wf2,wf1⟩ ⟨lv2,lv1,fun e k h1 h2=>l3 e k (pr1 k h2) (pr2 k h1)⟩ (prB pr1 pr2) (by show g2.size+g1.size+1<=A.size+B.size+1;lia) ((k02.trans k3).new hp) (tt3.new hp)
   ·refine ⟨_,rfl,a,_,0,.str op,rfl,rfl,SqT.of (tk03 _ _ ha),cf,_,rfl,_,rfl,(by show 3<=sizeLine;decide),fun p hp=>fin H3 k3 tt3 p hp⟩
  ·refine ⟨_,rfl,a,_,0,.str op,rfl,rfl,SqT.of (tk02 _ _ ha),cf,_,rfl,_,rfl,(by show 3<=sizeLine;decide),fun p hp=>fin H2 Kp.refl tt2 p hp⟩
theorem pc:FnOk P w K mg base CX0 1 f fd ["tape","formula","tables"] (dy 0):=by
 have no: ∀ vs H Q E,¬ dy 0 vs H Q E:=fun vs H Q E h=>by
  obtain ⟨tp,tl,v,fm,tb,ps,dv,_,_,_,_,_,_,h,_⟩:=h
  have:=fm.size_pos
  lia
 exact ⟨fun vs H Q E h=>absurd h (no vs H Q E),fun A outer s H args us vs Q E _ _ _ _ h=>absurd h (no vs H Q E)⟩
theorem j7 (F:Fun K "_law_turned_formula" "_law_turned_formula" gi f fd)
  (GD:FnOk P w K mg base CX0 1 f2 fd2 ["tape","many"] bH) (bD:Binds K fd2 ["tape","many"] []) (kD:PySem.W.keepIn K (.ref f2)=true) (mD:mg "_law_digit"=some (.ref f2))
  (bS:Binds K fd ["tape","formula","tables"] []) (mS:mg "_law_turned_formula"=some (.ref f)): ∀ n:Nat,FnOk P w K mg base CX0 (n+1) f fd ["tape","formula","tables"] (dy n)
 | 0=>pc
 | n+1=>oZ F GD bD kD mD (j7 F GD bD kD mD bS mS n) bS mS
noncomputable def te3 (te:TE):TE:=fun σ H k=>match σ with
 | some x::r=> ∃ T v1 v2 v3,x=.ref T/\H T=some (.tup [v1,v2,v3])/\te (some v1::some v2::some v3::r) H k
 | _=>False
theorem yu {fr:List Nat} {te:TE} {σ:St} {J:It} {H1:Hp} {Q:VK} (h:de fr (te3 te) σ J H1 Q):pT fr te σ J H1 Q:=h
theorem vb {J:It} {α:Type} {as:List α} {A:α->V->Prop} {xs:List V} {fr:List Nat} {te:TE} {σ:St} {H1:Hp} {Q:VK} {tp:Addr} (hn:xs.length<=1000) (tt:Tp H1 tp) (hP:Paired A as xs)
  (hgo: ∀ i H,Kp tp H1 H->i<xs.length->J.go i H) (hst: ∀ H,Kp tp H1 H->J.stop xs.length H) (hy: ∀ i H v H',Kp tp H1 H->J.yld i H v H'->H'=H/\xs[i]? =some v)
  (R:Hp->α->V->Prop) (mono: ∀ {H H':Hp} {a:α} {v:V},TK H H'->R H a v->R H' a v)
  (hte: ∀ a v H (k:VK),a∈as->A a v->Kp tp H1 H->Tp H tp->(∀ u H',Kp tp H H'->Tp H' tp->R H' a u->k u H')->te (some v::bi fr σ) H k)
  (hd: ∀ p zs H',H1 p=none->Kp tp H1 H'->Tp H' tp->H' p=some (.lst zs)->Paired (R H') as zs->Q (.ref p) H'):de fr te σ J H1 Q:=by
 intro p hp
 have hl:as.length=xs.length:=Paired.length hP
 have npt:=cW tt hp
 refine ⟨fun i m zs H=>i<=xs.length/\m=xs.length-i/\Kp tp H1 H/\Tp H tp/\H p=some (.lst zs)/\zs.length=i/\Paired (R H) (as.take i) zs,⟨_,Nat.zero_le _,rfl,Kp.refl.new hp,tt.new hp,ab,rfl,.nil⟩,?_⟩
 rintro i m zs H ⟨hi,hm,km,th,gp,hz,hT⟩
 refine ⟨gp,?_⟩
 by_cases e:i=xs.length
 ·subst e
  rw [<- hl,List.take_length]at hT
  exact .inl ⟨hst H km,hd p zs H hp km th gp hT⟩
 ·have hlt:i<xs.length:=by lia
  refine .inr ⟨hgo i H km hlt,au (by lia),fun v H' hv=>?_⟩
  obtain ⟨rfl,hv2⟩:=hy i H v H' km hv
  obtain ⟨a,ha,hA⟩:=aN hP hv2
  refine hte a v _ _ (List.mem_of_getElem? ha) hA km th fun u H2 k2 t2 r=>?_
  have gp2:=k2 _ _ gp npt
  have tk:TK H2 (upd H2 p (.lst (zs++[u]))):=TK.lst gp2
  refine ⟨gp2,xs.length- (i+1),by lia,by lia,rfl,?_,?_,ab,by rw [List.length_append,hz];rfl,?_⟩
  ·intro b o hb hn
   rw [ai (af hb hp)]
   exact k2 _ _ (km _ _ hb hn) hn
  ·obtain ⟨t9,e9⟩:=t2
   exact ⟨t9,by rw [ai (Ne.symm npt)];exact e9⟩
  ·rw [List.take_add_one,ha]
   exact Paired.snoc (Paired.mapP hT fun _ _ r=>mono ((k2.tk th).trans tk) r) (mono tk r)
theorem we {K:PySem.W.Frag} {a tp:Addr} {xs:List V} {H1:Hp} (tt:Tp H1 tp) (ha:H1 a=some (.tup xs)): ∀ i H,Kp tp H1 H->i<xs.length->(Itt K a).go i H:=fun i H k h=>⟨xs,xs[i],SqT.of (k.tk tt _ _ ha),List.getElem?_eq_getElem h⟩
theorem wc {K:PySem.W.Frag} {a tp:Addr} {xs:List V} {H1:Hp} (tt:Tp H1 tp) (ha:H1 a=some (.tup xs)): ∀ H,Kp tp H1 H->(Itt K a).stop xs.length H:=fun H k=>⟨xs,SqT.of (k.tk tt _ _ ha),Nat.le_refl _⟩
theorem xt {K:PySem.W.Frag} {a tp:Addr} {xs:List V} {H1:Hp} (tt:Tp H1 tp) (ha:H1 a=some (.tup xs)): ∀ i H v H',Kp tp H1 H->(Itt K a).yld i H v H'->H'=H/\xs[i]? =some v:=fun i H v H' k hv=>⟨hv.1,by obtain ⟨rfl,hv⟩:=hv;exact hv xs (SqT.of (k.tk tt _ _ ha))⟩
theorem uJ {i:Nat} (h:i<3):atI [V.str "pa",.str "p",.str "pab"] (0+ (i:Int))=some (.str (nwW i))/\cV (nwW i)=true:=by
 have h3:i=0\/i=1\/i=2:=by lia
 rcases h3 with rfl | rfl | rfl
 ·exact ⟨rfl,by decide +kernel⟩
 ·exact ⟨rfl,by decide +kernel⟩
 ·exact ⟨rfl,by decide +kernel⟩
noncomputable def NwOk (ups:List Str) (kv:List (Key×V)):Prop:= ∀ (i:Nat) y,ups[i]? =some y->aP kv (.inr y)=some (.str (nwW i))
noncomputable def NewsAt (H:Hp) (kvs:List (Key×V)) (tb:Str->List Str) (xs:List Str):Prop:= ∀ x∈xs,∃ d kv,aP kvs (.inr x)=some (.ref d)/\H d=some (.dK kv)/\NwOk (tb x) kv
theorem NewsAt.kp {tp:Addr} {H H':Hp} (k:Kp tp H H') (t:Tp H tp) {kvs:List (Key×V)} {tb:Str->List Str} {xs:List Str} (h:NewsAt H kvs tb xs):NewsAt H' kvs tb xs:=fun x hx=>by
 obtain ⟨d,kv,e,hd,hn⟩:=h x hx
 refine ⟨d,kv,e,k _ _ hd fun z=>?_,hn⟩
 obtain ⟨u,hu⟩:=t
 rw [z,hu]at hd
 cases hd
theorem NwOk.put {ups:List Str} {kv:List (Key×V)} {m:Nat} {y:Str} (nd:ups.Nodup) (hy:ups[m]? =some y) (h:NwOk (ups.take m) kv):NwOk (ups.take (m+1)) (bq kv (.inr y) (.str (nwW m))):=fun i z hz=>by
 rw [cD]
 have hz':ups[i]? =some z:=by
  rw [List.getElem?_take]at hz
  split at hz
  ·exact hz
  ·cases hz
 have hi:i<m+1:=by
  have:=(List.getElem?_eq_some_iff.mp hz).1
  rw [List.length_take]at this
  lia
 by_cases c:(Sum.inr z:Key)=.inr y
 ·have e:z=y:=Sum.inr.inj c
  subst e
  have:=(List.getElem?_inj (List.getElem?_eq_some_iff.mp hz').1 nd).mp (hz'.trans hy.symm)
  subst this
  rw [if_pos rfl]
 ·rw [if_neg c]
  have:i≠m:=fun e=>c (by subst e;rw [hz']at hy;rw [Option.some.inj hy])
  exact h i z (by rw [List.getElem?_take,if_pos (by lia)];exact hz')
noncomputable def FrK (fr:FrP):Prop:=1<=fr.rules.length/\fr.rules.length<=3/\(fr.rules.map fun r=>(r.pl,r.word)).Nodup/\fr.parts.length<=3/\ ∀ r∈fr.rules,r.fm.wf/\r.fm.size<=15
structure LkOk (bk:BkP):Prop where
 w:bk.wheel=0
 s3:bk.sorts.length<=3
 up: ∀ s∈bk.sorts,s.ups.length<=3
 f1:1<=bk.forms.length
 f6:bk.forms.length<=6
 fo: ∀ fr∈bk.forms,FrK fr
theorem LkOk.bp {bk:BkP} (h:LkOk bk):sJ bk:=⟨by have:=h.f6;lia,by have:=h.s3;lia,fun fr hf=>by
 obtain ⟨_,b,c,d,e⟩:=h.fo fr hf
 exact ⟨by lia,c,by lia,fun r hr=>⟨(e r hr).1,by have:=(e r hr).2;lia⟩⟩⟩
theorem PlOk.lk {z:Nat} (hz:z<=15) {ns:List Str} {tb:Str->List Str} {bk:BkP} (h:PlOk z ns tb bk):LkOk bk:=by
 refine ⟨h.w,?_,fun s hs=>?_,h.f1,h.f6,fun fr hf=>?_⟩
 ·rw [h.so,List.length_map]
  exact h.n3
 ·rw [h.so]at hs
  obtain ⟨x,hx,rfl⟩:=List.mem_map.mp hs
  have:=(h.up x hx).2.1
  show (tb x).length<=3
  lia
 ·obtain ⟨a,b,c,d,e⟩:=h.fo fr hf
  obtain ⟨u1,u2,u3,u4⟩:=h.up _ a
  have l:=congrArg List.length d
  rw [List.length_map,List.length_map]at l
  refine ⟨by lia,by lia,?_,c,fun r hr=>⟨(e r hr).1.wf,by have:=(e r hr).2.2;lia⟩⟩
  rw [d]
  exact List.Pairwise.map _ (fun a b (hab:a≠b) e=>hab (Prod.mk.inj e).2) u3
theorem PlOk.le {z y:Nat} (hz:z<=y) {ns:List Str} {tb:Str->List Str} {bk:BkP} (h:PlOk z ns tb bk):PlOk y ns tb bk:=
 ⟨h.w,h.so,h.n1,h.n3,h.up,h.f1,h.f6,fun fr hf=>by
  obtain ⟨a,b,c,d,e⟩:=h.fo fr hf
  exact ⟨a,b,c,d,fun r hr=>⟨(e r hr).1,(e r hr).2.1,Nat.le_trans (e r hr).2.2 hz⟩⟩⟩
noncomputable abbrev k3 (fr:FrP):F3:=(fr.name,fr.own,fr.parts)
noncomputable def srN (tb:Str->List Str) (x:Str):Srt:=⟨x,[],tbN tb x⟩
theorem yH {tb:Str->List Str} {x:Str} (h:jG 2 (tb x)):jG 2 (tbN tb x):=by
 obtain ⟨h1,h2,h3,h4⟩:=h
 unfold tbN
 have l:((tb x).reverse.map (nwF (tb x))).length=(tb x).length:=by rw [List.length_map,List.length_reverse]
 refine ⟨by lia,by lia,?_,?_⟩
 ·generalize tb x=l at h1 h2 h3
  match l,h1,h2,h3 with
  | [a],_,_,_=>exact List.pairwise_singleton _ _
  | [a,b],_,_,h3=>
   have e1:nwF [a,b] a=nwW 0:=congrArg nwW (fJ h3 (i:=0) rfl)
   have e2:nwF [a,b] b=nwW 1:=congrArg nwW (fJ h3 (i:=1) rfl)
   show [nwF [a,b] b,nwF [a,b] a].Nodup
   rw [e1,e2]
   decide +kernel
  | _::_::_::_,_,h,_=>simp only [List.length_cons]at h;lia
 ·intro y hy
  obtain ⟨z,hz,rfl⟩:=List.mem_map.mp hy
  obtain ⟨i,hi⟩:=List.getElem?_of_mem (List.mem_reverse.mp hz)
  have hi3:i<3:=by have:=(List.getElem?_eq_some_iff.mp hi).1;lia
  unfold nwF
  rw [fJ h3 hi]
  exact (uJ hi3).2
noncomputable def eU:Sp:=fun vs H Q _=> ∃ (tp:Addr) (bv:V) (bk:BkP) (ns:List Str) (tb:Str->List Str),vs=[.ref tp,bv]/\Tp H tp/\RepBP H bk bv/\PlOk 11 ns tb bk/\ ∀ v bk' H',RepBP H' bk' v->PlOk 11 ns (tbN tb) bk'->bk'.forms.map k3=bk.forms.map k3->Kp tp H H'->Tp H' tp->Q v H'
noncomputable def nI (kv:List (Key×V)) (x:Str):Str:=match aP kv (.inr x)with
 | some (.str z)=>z
 | _=>"pa"
theorem qv {ups:List Str} {kv:List (Key×V)} (h:NwOk ups kv) {i:Nat} {y:Str} (e:ups[i]? =some y):nI kv y=nwW i:=by
 unfold nI
 rw [h i y e]
theorem qj {α β:Type} {F:α->β->Prop}: ∀ {a c:List α} {b d:List β},Paired F a b->Paired F c d->Paired F (a++c) (b++d)
 | _,_,_,_,.nil,h=>h
 | _,_,_,_,.cons h t,h2=>.cons h (qj t h2)
theorem ji {α β:Type} {F:α->β->Prop}: ∀ {a:List α} {b:List β},Paired F a b->Paired F a.reverse b.reverse
 | _,_,.nil=>.nil
 | _,_,.cons x t=>by rw [List.reverse_cons,List.reverse_cons];exact qj (ji t) (.cons x .nil)
theorem ir {α β:Type} {F:α->β->Prop}: ∀ {l:List α} {r:List β},Paired F l r-> ∀ {i:Nat} {a:α},l[i]? =some a-> ∃ b,r[i]? =some b/\F a b
 | _,_,.nil,i,a,h=>by cases i <;> cases h
 | _,_,.cons x t,0,a,h=>by cases h;exact ⟨_,rfl,x⟩
 | _,_,.cons x t,i+1,a,h=>ir t h
theorem fC {H:Hp} {kv:List (Key×V)} {ρ:Fm->Prop}: ∀ {rs:List Rul} {zs:List V},Paired (fun (r:Rul) v=> ∃ g,RepR H ⟨-1,nI kv r.word,g⟩ v/\g.wfp ρ/\g.lvl/\g.size<=11) rs zs-> ∃ rs':List Rul,RepRs H rs' zs/\rs'.map (fun r=>(r.pl,r.word))=rs.map (fun r=>((-1:Int),nI kv r.word))/\ ∀ r∈rs',r.fm.wfp ρ/\r.fm.lvl/\r.fm.size<=11
 | _,_,.nil=>⟨[],.nil,rfl,fun r h=>by cases h⟩
 | _,_,.cons ⟨g,h,w1,w2,w3⟩ t=>by
  obtain ⟨rs',h1,h2,h3⟩:=fC t
  refine ⟨_::rs',.cons h h1,by rw [List.map_cons,List.map_cons,h2],fun r hr=>?_⟩
  rcases List.mem_cons.mp hr with e | e
  ·subst e
   exact ⟨w1,w2,w3⟩
  ·exact h3 r e
noncomputable abbrev NOw:List Str:=["tape","book","news","sorts","name","downs","ups","k","forms","own","parts","rules","tables","made"]
theorem scOtherwise:aH NOw ["tape","book"] (ah cm):=fsc
theorem ul {cdv:Value} {A:Around} {outer:List Env} {s:Shared} {H0:Hp} {E:XK} (G:Gb mg)
  (GU:FnOk P w K mg base CX0 12 f2 fd2 ["tape","formula","tables"] (dy 11)) (bU:Binds K fd2 ["tape","formula","tables"] []) (kU:PySem.W.keepIn K (.ref f2)=true) (mU:mg "_law_turned_formula"=some (.ref f2))
  (hr:Room 12 (dR CX0 P w K mg base NOw "_law_told_otherwise" (ah cm) f cdv A outer s H0 E).nox.A):
  ∃ t,PSs (dR CX0 P w K mg base NOw "_law_told_otherwise" (ah cm) f cdv A outer s H0 E).nox ((cq cm).drop 3) t/\
   ∀ (D:eh) (tp nd sl:Addr) (bv:V) (bk:BkP) (ns:List Str) (tb:Str->List Str) (kvs:List (Key×V)) (sv:List V) (o4 o5 o6 o7:Option V) (H:Hp),Tp H tp->RepBP H bk bv->PlOk 11 ns tb bk->H nd=some (.dK kvs)->NewsAt H kvs tb ns->H sl=some (.lst sv)->sl≠tp->RepSs H (ns.map (srN tb)) sv->
    (∀ v bk' H',RepBP H' bk' v->PlOk 11 ns (tbN tb) bk'->bk'.forms.map k3=bk.forms.map k3->Kp tp H H'->Tp H' tp->D.rt v H')->
    t D [some (.ref tp),some bv,some (.ref nd),some (.ref sl),o4,o5,o6,o7,none,none,none,none,none,none] H:=by
 have hu:=dh hr
 refine ⟨_,ad (am (i:=8) scOtherwise.nd rfl (Or.inl rfl) (bu ac))
  (ad (bc PassesOwn.never rfl (a8 (aq aB (pv 1) ae (fun _ _=>rfl))) (cQ rfl (aE (aw (i:=4) scOtherwise.nd rfl (Or.inr rfl)) (aE (aw (i:=9) scOtherwise.nd rfl (Or.inr rfl)) (aE (aw (i:=10) scOtherwise.nd rfl (Or.inl rfl)) (aE (aw (i:=11) scOtherwise.nd rfl (Or.inl rfl)) cn)))))
   (ad (am (i:=12) scOtherwise.nd rfl (Or.inr rfl) (bV (sc0:=ah cm) (N0:=NOw) (ys:=["news"]) (fr:=[2]) rfl (a8 (pv 10)) rfl rfl
    cok (fun C s H ex=>be hu (pv 1) (pv 0) (fun _ _=>rfl))))
   (ad (tY (i:=13) (sc0:=ah cm) (N0:=NOw) (ys:=["news","own","tables","tape"]) (fr:=[2,9,12,0]) rfl scOtherwise.nd rfl (Or.inl rfl) (a8 (pv 11)) rfl rfl
    ⟨rfl,by decide +kernel,by decide +kernel,by decide +kernel,by decide +kernel,by decide +kernel,by decide +kernel,by decide +kernel,rfl,by decide +kernel⟩ (fun C s H ex=>aS (aa (ip eR ae) (aa (be hu (be hu (pv 3) (pv 4) (fun _ _=>rfl)) (pv 1) (fun _ _=>rfl)) (aa (al GU hr rfl mU kU bU .nil ax (aa (pv 6) (aa (pv 2) (aa (pv 5) ac)))) ac)))))
   (aj (cG (ee PySem.F.plainAttrs_list PySem.F.slot_list_append PySem.F.type_list_append bo (pv 8) (aa (aS (aa (pv 4) (aa (pv 9) (aa (pv 10) (aa (bg aW rfl G.tuple (by decide +kernel) (aa (lM (pv 13) (ip eR ae)) ac)) ac))))) ac)))))))
  (aj (ay (aS (aa ae (aa (bg aW rfl G.tuple (by decide +kernel) (aa (pv 3) ac)) (aa (bg aW rfl G.tuple (by decide +kernel) (aa (pv 8) ac)) ac))))))),?_⟩
 intro D tp nd sl bv bk ns tb kvs sv o4 o5 o6 o7 H hT hB hpl gnd hNw gsl nsl hSs q
 obtain ⟨b,sa,fa,fv,rfl,hb,hSA,hfa,hF⟩:=id hB
 have lF:=hF.len
 have f6:=hpl.f6
 have f1:=hpl.f1
 refine ⟨(by show 0<=sizeLine;decide),fun fl hfl=>?_⟩
 have nft:=cW hT hfl
 have s1:=ag hfl (.lst [])
 have g1:(upd H fl (.lst [])) fl=some (.lst []):=ab
 have tt1:=hT.same s1
 generalize upd H fl (.lst [])=H1 at s1 g1 tt1 ⊢
 refine ⟨_,rfl,b,_,2,.ref fa,rfl,rfl,SqT.of (s1 _ _ hb),ao (j:=2) rfl,fa,rfl,⟨fv,SqT.of (s1 _ _ hfa)⟩,?_⟩
 refine cN (xs:=fv) (fun i σ H'=>i<=fv.length/\ ∃ o4 o9 o10 o11 o12 o13 mv frs,σ=[some (.ref tp),some (.ref b),some (.ref nd),some (.ref sl),o4,o5,o6,o7,some (.ref fl),o9,o10,o11,o12,o13]/\Kp tp H H'/\Tp H' tp/\H' fl=some (.lst mv)/\RepFPs H' frs mv/\frs.length=i/\frs.map k3=(bk.forms.take i).map k3/\ ∀ fr∈frs,FrL 11 ns (tbN tb) fr)
  ⟨Nat.zero_le _,_,none,none,none,none,none,[],[],rfl,Kp.refl.same s1,tt1,g1,.nil,rfl,rfl,fun fr h=>(by cases h)⟩ (fun i σ H' _ h=>by obtain ⟨_,_,_,_,_,_,_,_,_,_,k,_⟩:=h;exact SqT.of (k.tk hT _ _ hfa)) ?_ ?_
 ·rintro i x σ H2 hx ⟨_,o4,o9,o10,o11,o12,o13,mv,frs,rfl,k2,tt2,gfl,hFs,hfl2,hk3,hfo⟩
  have hil:i<fv.length:=(List.getElem?_eq_some_iff.mp hx).1
  obtain ⟨fr,hfr,c,pa,ra,rv,rfl,hc,hpa,hra,hRr⟩:=aN hF hx
  obtain ⟨hon,hps,lps,hmap,hrul⟩:=hpl.fo fr (List.mem_of_getElem? hfr)
  obtain ⟨u1,u2,u3,u4⟩:=hpl.up _ hon
  have tk2:=k2.tk hT
  have lmap:=congrArg List.length hmap
  rw [List.length_map,List.length_map]at lmap
  have lR:=hRr.len
  refine ⟨c,_,rfl,SqT.of (tk2 _ _ hc),rfl,_,_,rfl,_,_,rfl,_,_,rfl,_,_,rfl,rfl,?_⟩
  have hpa2:=tk2 _ _ hpa
  have gnd2:H2 nd=some (.dK kvs):=k2 _ _ gnd fun z=>by
   obtain ⟨t,ht⟩:=hT
   rw [z,ht]at gnd
   cases gnd
  refine ⟨_,rfl,pa,rfl,⟨_,SqT.of hpa2⟩,?_⟩
  refine bX (by rw [List.length_map];lia) (bw fr.parts) (cM hpa2) (cL hpa2) (dg hpa2) (fun _ p v=>aP kvs (.inr p)=some v) (fun _ h=>h) ?_ ?_
  ·rintro p v H3 k hp rfl s3 hk
   obtain ⟨d,kv,ed,hd,_⟩:=hNw p (hps p hp)
   exact ⟨_,rfl,_,rfl,nd,.ref d,rfl,(by rw [<- ed];exact DGet.k (k:=.inr p) (s3 _ _ gnd2)),hk _ H3 (Same.refl _) ed⟩
  intro tl dv H3 htl s3 gtl hdv
  have ntl:=cW tt2 htl
  have tt3:=tt2.same s3
  have k3:=k2.same s3
  have tk3:=k3.tk hT
  have gnd3:=s3 _ _ gnd2
  have hNw3:=hNw.kp k3 hT
  have hTb3:TbsAt H3 tb fr.parts dv:=fun j p hp=>by
   obtain ⟨v,ev,hv⟩:=ir hdv hp
   obtain ⟨d,kv,ed,hd,hn⟩:=hNw3 p (hps p (List.mem_of_getElem? hp))
   rw [ed]at hv
   refine ⟨d,kv,by rw [ev,<- Option.some.inj hv],hd,fun x hx=>?_⟩
   obtain ⟨m,hm⟩:=List.getElem?_of_mem hx
   have l2:(tb p).length<=2:=by have:=(hpl.up p (hps p (List.mem_of_getElem? hp))).2.1;lia
   have hm3:m<3:=by have:=(List.getElem?_eq_some_iff.mp hm).1;lia
   have en:nwF (tb p) x=nwW m:=congrArg nwW (fJ (hpl.up p (hps p (List.mem_of_getElem? hp))).2.2.1 hm)
   exact ⟨by rw [en];exact hn m x hm,by rw [en];exact (uJ hm3).2⟩
  obtain ⟨d,kv,ed,hd3,hn⟩:=hNw3 fr.own hon
  have ndt:d≠tp:=fun z=>by
   obtain ⟨t,ht⟩:=tt3
   rw [z,ht]at hd3
   cases hd3
  have nndt:nd≠tp:=fun z=>by
   obtain ⟨t,ht⟩:=tt3
   rw [z,ht]at gnd3
   cases gnd3
  have hra3:=tk3 _ _ hra
  refine ⟨_,rfl,ra,rfl,⟨_,SqT.of hra3⟩,?_⟩
  refine yu (vb (tp:=tp) (by lia) tt3 (RepRs.mono tk3 hRr) (we tt3 hra3) (wc tt3 hra3) (xt tt3 hra3) (fun H r v=> ∃ g,RepR H ⟨-1,nI kv r.word,g⟩ v/\g.wfp (rdP (tbN tb) fr.parts)/\g.lvl/\g.size<=11) (fun t ⟨g,h,w⟩=>⟨g,h.mono t,w⟩) ?_ ?_)
  ·rintro r v H4 k hr' ⟨ar,u,rfl,har,hRu⟩ k4 tt4 hk
   have tk4:=k4.tk tt3
   obtain ⟨z1,z2,z3⟩:=hrul r hr'
   have hwin:r.word∈tb fr.own:=by
    have:(r.pl,r.word)∈(tb fr.own).map (fun x=>((-1:Int),x)):=by rw [<- hmap];exact List.mem_map.mpr ⟨r,hr',rfl⟩
    obtain ⟨x,hx,e⟩:=List.mem_map.mp this
    rw [<- (Prod.mk.inj e).2]
    exact hx
   obtain ⟨m,hm⟩:=List.getElem?_of_mem hwin
   have en:=qv hn hm
   refine ⟨ar,_,_,_,rfl,tk4 _ _ har,1,rfl,_,rfl,_,rfl,nd,.ref d,rfl,(by rw [<- ed];exact DGet.k (k:=.inr fr.own) (k4 _ _ gnd3 nndt)),_,rfl,d,.str (nwW m),rfl,(by rw [<- hn m _ hm];exact DGet.k (k:=.inr r.word) (k4 _ _ hd3 ndt)),?_⟩
   refine ⟨_,rfl,_,rfl,_,rfl,tp,tl,u,r.fm,tb,fr.parts,dv,rfl,tt4,ntl,hRu.mono tk4,z1,z2,z3,lps,k4 _ _ gtl ntl,hTb3.kp k4 tt3,fun u' g H5 q1 q2 ql _ q3 k5 tt5=>?_⟩
   refine ⟨(by show 3<=sizeLine;decide),fun p6 hp6=>?_⟩
   have s6:=ag hp6 (.tup [.int (-1),.str (nwW m),u'])
   exact hk _ _ (k5.same s6) (tt5.same s6) ⟨g,⟨p6,u',rfl,by rw [en];exact ab,q1.mono (aG s6)⟩,q2,ql,by lia⟩
  intro ml zs H4 hml k4 tt4 gml hzs
  have lz:fr.rules.length=zs.length:=Paired.length hzs
  have nmt:=cW tt3 hml
  have gfl4:=k4 _ _ (s3 _ _ gfl) nft
  refine ⟨_,rfl,.inl ⟨rfl,_,SqL.of gfl4⟩,_,rfl,_,rfl,_,rfl,_,rfl,1,rfl,?_⟩
  refine ⟨ml,zs,_,rfl,rfl,SqL.of gml,by decide,fun p5 hp5=>?_⟩
  rw [gO]
  have s5:=ag hp5 (.lst zs.reverse)
  have g5:(upd H4 p5 (.lst zs.reverse)) p5=some (.lst zs.reverse):=ab
  generalize upd H4 p5 (.lst zs.reverse)=H5 at s5 g5 ⊢
  refine ⟨p5,_,rfl,.inl ⟨SqL.of g5,fun p6 hp6=>?_⟩⟩
  have s6:=ag hp6 (.tup zs.reverse)
  have g6:(upd H5 p6 (.tup zs.reverse)) p6=some (.tup zs.reverse):=ab
  generalize upd H5 p6 (.tup zs.reverse)=H6 at s6 g6 ⊢
  refine ⟨(by show 4<=sizeLine;decide),fun p7 hp7=>?_⟩
  have s7:=ag hp7 (.tup [.str fr.name,.str fr.own,.ref pa,.ref p6])
  have g7:(upd H6 p7 (.tup [.str fr.name,.str fr.own,.ref pa,.ref p6])) p7=some (.tup [.str fr.name,.str fr.own,.ref pa,.ref p6]):=ab
  generalize upd H6 p7 (.tup [.str fr.name,.str fr.own,.ref pa,.ref p6])=H7 at s7 g7 ⊢
  have S47:=s5.trans (s6.trans s7)
  have k27:Kp tp H2 H7:=((Kp.refl.same s3).trans k4).same S47
  have tt7:=tt4.same S47
  have gfl7:=S47 _ _ gfl4
  have lmv:=hFs.len
  refine ⟨fl,mv,.ref p7,rfl,rfl,gfl7,au (by lia),?_⟩
  have tk:TK H7 (upd H7 fl (.lst (mv++[.ref p7]))):=TK.lst gfl7
  have tk27:TK H2 (upd H7 fl (.lst (mv++[.ref p7]))):=(k27.tk tt2).trans tk
  obtain ⟨rs,hrs,hkey,hok⟩: ∃ rs:List Rul,RepRs (upd H7 fl (.lst (mv++[.ref p7]))) rs zs/\rs.map (fun r=>(r.pl,r.word))=fr.rules.map (fun r=>((-1:Int),nI kv r.word))/\ ∀ r∈rs,r.fm.wfp (rdP (tbN tb) fr.parts)/\r.fm.lvl/\r.fm.size<=11:=
   fC (Paired.mapP hzs fun _ _ ⟨g,h,w⟩=>⟨g,h.mono ((aG S47).trans tk),w⟩)
  have lrs:rs.length=fr.rules.length:=by
   have:=congrArg List.length hkey
   rw [List.length_map,List.length_map]at this
   exact this
  refine ⟨hil,_,_,_,_,_,_,mv++[.ref p7],frs++[⟨fr.name,fr.own,fr.parts,rs.reverse⟩],rfl,?_,?_,ab,?_,?_,?_,?_⟩
  ·intro y oo h hn'
   rw [ai (af h hfl)]
   exact k27 _ _ (k2 _ _ h hn') hn'
  ·obtain ⟨t9,e9⟩:=tt7
   exact ⟨t9,by rw [ai (Ne.symm nft)];exact e9⟩
  ·exact Paired.snoc (RepFPs.mono tk27 hFs) ⟨p7,pa,p6,zs.reverse,rfl,tk _ _ g7,tk27 _ _ hpa2,tk _ _ (s7 _ _ g6),ji hrs⟩
  ·rw [List.length_append,hfl2];rfl
  ·rw [List.map_append,hk3,List.take_add_one,hfr,List.map_append]
   rfl
  ·intro fr' hfr'
   rw [List.mem_append,List.mem_singleton]at hfr'
   rcases hfr' with h | h
   ·exact hfo fr' h
   ·subst h
    refine ⟨hon,hps,lps,?_,fun r hr'=>hok r (List.mem_reverse.mp hr')⟩
    show rs.reverse.map (fun r=>(r.pl,r.word))=(tbN tb fr.own).map (fun x=>((-1:Int),x))
    rw [List.map_reverse,hkey]
    have e2:fr.rules.map (fun r=>((-1:Int),nI kv r.word))=((tb fr.own).map (nwF (tb fr.own))).map (fun x=>((-1:Int),x)):=by
     have e3:fr.rules.map Rul.word=tb fr.own:=by
      have:=congrArg (List.map Prod.snd) hmap
      rw [List.map_map,List.map_map]at this
      have e4:(Prod.snd∘fun x:Str=>((-1:Int),x))=id:=rfl
      rw [e4,List.map_id]at this
      exact this
     have e5:(tb fr.own).map (nwF (tb fr.own))=(tb fr.own).map (nI kv):=List.map_congr_left fun y hy=>by
      obtain ⟨i,hi⟩:=List.getElem?_of_mem hy
      rw [qv hn hi]
      exact congrArg nwW (fJ u3 hi)
     rw [e5,<- e3,List.map_map,List.map_map]
     rfl
    rw [e2,<- List.map_reverse,<- List.map_reverse]
    rfl
 ·rintro σ H2 ⟨_,o4,o9,o10,o11,o12,o13,mv,frs,rfl,k2,tt2,gfl,hFs,hfl2,hk3,hfo⟩
  have gsl2:=k2 _ _ gsl nsl
  have tk2:=k2.tk hT
  refine ⟨_,rfl,sl,sv,rfl,.inl ⟨SqL.of gsl2,fun p3 hp3=>?_⟩⟩
  have s3:=ag hp3 (.tup sv)
  have g3:(upd H2 p3 (.tup sv)) p3=some (.tup sv):=ab
  generalize upd H2 p3 (.tup sv)=H3 at s3 g3 ⊢
  refine ⟨_,rfl,fl,mv,rfl,.inl ⟨SqL.of (s3 _ _ gfl),fun p4 hp4=>?_⟩⟩
  have s4:=ag hp4 (.tup mv)
  have g4:(upd H3 p4 (.tup mv)) p4=some (.tup mv):=ab
  generalize upd H3 p4 (.tup mv)=H4 at s4 g4 ⊢
  refine ⟨(by show 3<=sizeLine;decide),fun p5 hp5=>?_⟩
  have s5:=ag hp5 (.tup [.int 0,.ref p3,.ref p4])
  have S25:=s3.trans (s4.trans s5)
  refine q (.ref p5) ⟨0,ns.map (srN tb),frs⟩ _ ⟨p5,p3,p4,mv,rfl,ab,⟨sv,s5 _ _ (s4 _ _ g3),hSs.mono (tk2.trans (aG S25))⟩,s5 _ _ g4,RepFPs.mono (aG S25) hFs⟩ ⟨rfl,rfl,hpl.n1,hpl.n3,fun x hx=>yH (hpl.up x hx),?_,?_,hfo⟩ (by show frs.map k3=_;rw [hk3,<- lF,List.take_length]) (k2.same S25) (tt2.same S25)
  ·show 1<=frs.length
   lia
  ·show frs.length<=6
   lia
noncomputable def yE (nd:Addr) (H:Hp) (kvs:List (Key×V)) (tb:Str->List Str) (xs:List Str):Prop:= ∀ x∈xs,∃ d kv,d≠nd/\aP kvs (.inr x)=some (.ref d)/\H d=some (.dK kv)/\NwOk (tb x) kv
theorem lU (F:Fun K "_law_told_otherwise" "_law_told_otherwise" cm f fd) (G:Gb mg)
  (GU:FnOk P w K mg base CX0 12 f2 fd2 ["tape","formula","tables"] (dy 11)) (bU:Binds K fd2 ["tape","formula","tables"] []) (kU:PySem.W.keepIn K (.ref f2)=true) (mU:mg "_law_turned_formula"=some (.ref f2)):
  FnOk P w K mg base CX0 13 f fd ["tape","book"] eU:=by
 refine F.ok scOtherwise (fun vs H Q E h=>?_) (fun cdv A outer s H vs Q E hr h=>?_)
 ·obtain ⟨tp,bv,bk,ns,tb,rfl,_⟩:=h
  rfl
 obtain ⟨tp,bv,bk,ns,tb,rfl,hT,hB,hpl,q⟩:=h
 have hu:=dh hr
 obtain ⟨t,ht,hnext⟩:=ul (f:=f) (cdv:=cdv) (A:=A) (outer:=outer) (s:=s) (H0:=H) (E:=E) G GU bU kU mU hr
 refine ⟨_,ad (am (i:=2) scOtherwise.nd rfl (Or.inr rfl) dZ)
  (ad (am (i:=3) scOtherwise.nd rfl (Or.inl rfl) (bu ac))
  (ad (bc PassesOwn.never rfl (a8 (aq aB (pv 1) ae (fun _ _=>rfl))) (cQ rfl (aE (aw (i:=4) scOtherwise.nd rfl (Or.inr rfl)) (aE (aw (i:=5) scOtherwise.nd rfl (Or.inl rfl)) (aE (aw (i:=6) scOtherwise.nd rfl (Or.inl rfl)) cn))))
   (ad (da hu (pv 2) (pv 4) dZ rfl)
   (ad (bc PassesOwn.never rfl (bn rfl G.range (aa (aA aJ rfl G.len PySem.boot_len (aa (pv 6) ac)) ac)) (aw (i:=7) scOtherwise.nd rfl (Or.inl rfl))
    (aj (da hu (be hu (pv 2) (pv 4) (fun _ _=>rfl)) (aq aB (pv 6) (pv 7) (fun _ _=>rfl)) (aq aL (bu (pac aT (pac aT (pac aT ac)))) (pv 7) (fun _ _=>rfl)) rfl)))
   (aj (cG (ee PySem.F.plainAttrs_list PySem.F.slot_list_append PySem.F.type_list_append bo (pv 3) (aa (aS (aa (pv 4) (aa (aS ac) (aa (bg aW rfl G.tuple (by decide +kernel) (aa
    (bV (sc0:=ah cm) (N0:=NOw) (ys:=["name","news"]) (fr:=[4,2]) rfl (a8 (nz (pv 6) (ip eR ae))) rfl rfl
     cok (fun C s H ex=>be hu (be hu (pv 2) (pv 1) (fun _ _=>rfl)) (pv 0) (fun _ _=>rfl))) ac)) ac)))) ac))))))) ht)),?_⟩
 obtain ⟨b,sa,fa,fv,rfl,hb,⟨sx,hsa,hSs⟩,hfa,hF⟩:=id hB
 have lS:bk.sorts.length=sx.length:=hSs.len
 have so:=hpl.so
 have n3:=hpl.n3
 have lns:sx.length=ns.length:=by rw [<- lS,so,List.length_map]
 refine fun nd hnd=>?_
 have nnt:=cW hT hnd
 have s1:=ag hnd (.dK [])
 have g1:(upd H nd (.dK [])) nd=some (.dK []):=ab
 have tt1:=hT.same s1
 generalize upd H nd (.dK [])=H1 at s1 g1 tt1 ⊢
 refine ⟨(by show 0<=sizeLine;decide),fun sl hsl=>?_⟩
 have nst:=cW tt1 hsl
 have nns:nd≠sl:=af g1 hsl
 have hsl0:H sl=none:=s1.free hsl
 have s2:=ag hsl (.lst [])
 have g2:(upd H1 sl (.lst [])) sl=some (.lst []):=ab
 have gd2:=s2 _ _ g1
 generalize upd H1 sl (.lst [])=H2 at s2 g2 gd2 ⊢
 have S2:=s1.trans s2
 refine ⟨_,rfl,b,_,1,.ref sa,rfl,rfl,SqT.of (S2 _ _ hb),ao (j:=1) rfl,sa,rfl,⟨sx,SqT.of (S2 _ _ hsa)⟩,?_⟩
 refine cN (xs:=sx) (fun i σ H'=>i<=sx.length/\ ∃ o4 o5 o6 o7 kvs sv,σ=[some (.ref tp),some (.ref b),some (.ref nd),some (.ref sl),o4,o5,o6,o7,none,none,none,none,none,none]/\Same H H'/\H' nd=some (.dK kvs)/\kvs.length<=i/\yE nd H' kvs tb (ns.take i)/\H' sl=some (.lst sv)/\RepSs H' ((ns.take i).map (srN tb)) sv)
  ⟨Nat.zero_le _,none,none,none,none,[],[],rfl,S2,gd2,Nat.le_refl _,fun x h=>(by cases h),g2,.nil⟩ (fun i σ H' _ h=>by obtain ⟨_,_,_,_,_,_,_,_,s',_⟩:=h;exact SqT.of (s' _ _ hsa)) ?_ ?_
 ·rintro i x σ H3 hx ⟨_,o4,o5,o6,o7,kvs,sv,rfl,S3,gd3,hl3,hN3,gs3,hR3⟩
  have hil:i<sx.length:=(List.getElem?_eq_some_iff.mp hx).1
  obtain ⟨sr,hsr,c,c1,c2,rfl,hc,hc1,hc2⟩:=aN hSs hx
  obtain ⟨nm,hnm,rfl⟩: ∃ nm,ns[i]? =some nm/\(⟨nm,[],tb nm⟩:Srt)=sr:=by
   rw [so,List.getElem?_map]at hsr
   cases he:ns[i]? with
   | none=>rw [he]at hsr;cases hsr
   | some t=>rw [he]at hsr;exact ⟨t,rfl,Option.some.inj hsr⟩
  have hnmm:=List.mem_of_getElem? hnm
  obtain ⟨u1,u2,u3,u4⟩:=hpl.up nm hnmm
  have hc:H c=some (.tup [.str nm,.ref c1,.ref c2]):=hc
  have hc2:H c2=some (.tup ((tb nm).map V.str)):=hc2
  have lup:((tb nm).map V.str).length=(tb nm).length:=List.length_map _
  refine ⟨c,_,rfl,SqT.of (S3 _ _ hc),rfl,_,_,rfl,_,_,rfl,_,_,rfl,rfl,?_⟩
  refine fun d hd=>?_
  have dnd:d≠nd:=fun z=>by rw [z,gd3]at hd;cases hd
  have dsl:d≠sl:=fun z=>by rw [z,gs3]at hd;cases hd
  have hd0:H d=none:=S3.free hd
  have s4:=ag hd (.dK [])
  have g4:(upd H3 d (.dK [])) d=some (.dK []):=ab
  generalize upd H3 d (.dK [])=H4 at s4 g4 ⊢
  refine ⟨_,rfl,_,rfl,nd,_,rfl,DPut.k (k:=.inr nm) (s4 _ _ gd3) (au (by lia)),?_⟩
  have k5:Kp nd H4 (upd H4 nd (.dK (bq kvs (.inr nm) (.ref d)))):=Kp.tape
  have g5n:(upd H4 nd (.dK (bq kvs (.inr nm) (.ref d)))) nd=some (.dK (bq kvs (.inr nm) (.ref d))):=ab
  have g5d:(upd H4 nd (.dK (bq kvs (.inr nm) (.ref d)))) d=some (.dK []):=by rw [ai dnd];exact g4
  have S5:Same H (upd H4 nd (.dK (bq kvs (.inr nm) (.ref d)))):=fun y oo h=>by rw [ai (af h hnd)];exact s4 _ _ (S3 _ _ h)
  have g5s:(upd H4 nd (.dK (bq kvs (.inr nm) (.ref d)))) sl=some (.lst sv):=by rw [ai (Ne.symm nns)];exact s4 _ _ gs3
  have tk5:TK H3 (upd H4 nd (.dK (bq kvs (.inr nm) (.ref d)))):=fun y xs h=>by
   rw [ai (fun z=>by rw [z,gd3]at h;cases h)]
   exact s4 _ _ h
  have hN5: ∀ y∈ns.take i,y≠nm-> ∃ d' kv,d'≠d/\d'≠nd/\aP (bq kvs (.inr nm) (.ref d)) (.inr y)=some (.ref d')/\(upd H4 nd (.dK (bq kvs (.inr nm) (.ref d)))) d'=some (.dK kv)/\NwOk (tb y) kv:=fun y hy hne=>by
   obtain ⟨d',kv,cc,e,h1,h2⟩:=hN3 y hy
   refine ⟨d',kv,af h1 hd,cc,by rw [cD,if_neg (fun z=>hne (Sum.inr.inj z))];exact e,?_,h2⟩
   rw [ai cc]
   exact s4 _ _ h1
  have evd:aP (bq kvs (.inr nm) (.ref d)) (.inr nm)=some (.ref d):=by rw [cD,if_pos rfl]
  have lpk:=bj kvs (.inr nm) (.ref d)
  have hR5:=hR3.mono tk5
  generalize upd H4 nd (.dK (bq kvs (.inr nm) (.ref d)))=H5 at g5n g5d S5 g5s hN5 hR5 ⊢
  generalize bq kvs (.inr nm) (.ref d)=kvs' at g5n hN5 evd lpk ⊢
  refine ⟨_,rfl,c2,_,rfl,.inr (SqT.of (S5 _ _ hc2)),_,rfl,by rw [lup];show -(2^62:Int)<=_;lia,by rw [lup];lia,?_⟩
  refine cz (fun m σ H'=> ∃ o7 kv2,σ=[some (.ref tp),some (.ref b),some (.ref nd),some (.ref sl),some (.str nm),some (.ref c1),some (.ref c2),o7,none,none,none,none,none,none]/\Kp d H5 H'/\H' d=some (.dK kv2)/\kv2.length<=m/\NwOk ((tb nm).take m) kv2)
   ⟨_,[],rfl,Kp.refl,g5d,Nat.le_refl _,fun i y h=>(by rw [List.take_zero]at h;cases h)⟩ ?_ ?_
  ·rintro m σ H6 hm ⟨o7,kv2,rfl,k6,gd6,hl6,hw6⟩
   rw [lup]at hm
   have hm3:m<3:=by lia
   obtain ⟨y,hy⟩: ∃ y,(tb nm)[m]? =some y:=⟨(tb nm)[m]'(by lia),List.getElem?_eq_getElem (by lia)⟩
   have eaty:atI ((tb nm).map V.str) (0+ (m:Int))=some (V.str y):=by
    rw [Int.zero_add]
    exact ao (by rw [List.getElem?_map,hy];rfl)
   have hcd:c2≠d:=fun z=>by
    have h:=k6 _ _ (S5 _ _ hc2) (af hc2 hd0)
    rw [z,gd6]at h
    cases h
   have gn6:=k6 _ _ g5n (Ne.symm dnd)
   have hc26:=k6 _ _ (S5 _ _ hc2) hcd
   refine ⟨(by show 3<=sizeLine;decide),fun pl hpl=>?_⟩
   have s7:=ag hpl (.lst [.str "pa",.str "p",.str "pab"])
   have g7:(upd H6 pl (.lst [.str "pa",.str "p",.str "pab"])) pl=some (.lst [.str "pa",.str "p",.str "pab"]):=ab
   generalize upd H6 pl (.lst [.str "pa",.str "p",.str "pab"])=H7 at s7 g7 ⊢
   refine ⟨_,rfl,pl,_,_,.str (nwW m),rfl,rfl,SqL.of g7,(uJ hm3).1,?_⟩
   refine ⟨_,rfl,_,rfl,nd,.ref d,rfl,(by rw [<- evd];exact DGet.k (k:=.inr nm) (s7 _ _ gn6)),_,rfl,_,rfl,c2,_,_,.str y,rfl,rfl,SqT.of (s7 _ _ hc26),eaty,d,_,rfl,DPut.k (k:=.inr y) (s7 _ _ gd6) (au (by lia)),?_⟩
   refine ⟨_,_,rfl,?_,ab,?_,NwOk.put u3 hy hw6⟩
   ·intro z oo h hn
    rw [ai hn]
    exact s7 _ _ (k6 _ _ h hn)
   ·have:=bj kv2 (.inr y) (.str (nwW m))
    lia
  ·rintro σ H6 ⟨o7,kv2,rfl,k6,gd6,hl6,hw6⟩
   have hw:NwOk (tb nm) kv2:=by
    have e:(((tb nm).map V.str).length:Int).toNat=(tb nm).length:=by rw [lup];exact Int.toNat_natCast _
    have h:=hw6
    rw [e,List.take_length]at h
    exact h
   have S6:Same H H6:=fun z oo h=>k6 z oo (S5 z oo h) (af h hd0)
   have gs6:=k6 _ _ g5s (Ne.symm dsl)
   have gn6:=k6 _ _ g5n (Ne.symm dnd)
   have tk56:TK H5 H6:=fun z xs h=>k6 _ _ h fun e=>by rw [e,g5d]at h;cases h
   refine ⟨_,rfl,.inl ⟨rfl,_,SqL.of gs6⟩,_,rfl,(by show 0<=sizeLine;decide),fun p7 hp7=>?_⟩
   have s7:=ag hp7 (.tup [])
   have g7:(upd H6 p7 (.tup [])) p7=some (.tup []):=ab
   generalize upd H6 p7 (.tup [])=H7 at s7 g7 ⊢
   refine ⟨_,rfl,1,rfl,c2,_,rfl,rfl,SqT.of (s7 _ _ (S6 _ _ hc2)),fun p8 hp8=>?_⟩
   rw [<- List.map_reverse]
   have s8:=ag hp8 (.tup ((tb nm).reverse.map V.str))
   have g8:(upd H7 p8 (.tup ((tb nm).reverse.map V.str))) p8=some (.tup ((tb nm).reverse.map V.str)):=ab
   generalize upd H7 p8 (.tup ((tb nm).reverse.map V.str))=H8 at s8 g8 ⊢
   have s68:=s7.trans s8
   refine ⟨p8,rfl,⟨_,SqT.of g8⟩,?_⟩
   refine bX (as:=(tb nm).reverse) (A:=fun x v=>v=.str x) (by rw [List.length_map,List.length_reverse];lia) (bw _) (cM g8) (cL g8) (dg g8) (fun _ y v=>v=.str (nwF (tb nm) y)) (fun _ h=>h) ?_ ?_
   ·rintro y v H9 k hy rfl s9 hk
    obtain ⟨m,hm⟩:=List.getElem?_of_mem (List.mem_reverse.mp hy)
    have S69:=s68.trans s9
    exact ⟨_,rfl,_,rfl,nd,.ref d,rfl,(by rw [<- evd];exact DGet.k (k:=.inr nm) (S69 _ _ gn6)),_,rfl,d,.str (nwW m),rfl,(by rw [<- hw m y hm];exact DGet.k (k:=.inr y) (S69 _ _ gd6)),hk _ H9 (Same.refl _) (congrArg (fun i=>V.str (nwW i)) (fJ u3 hm).symm)⟩
   ·intro pl zs H9 hpl s9 gpl hzs
    have ez:=cx (g:=fun y=>V.str (nwF (tb nm) y)) hzs
    obtain ⟨us,hus,rfl⟩: ∃ us,us=tbN tb nm/\zs=us.map V.str:=⟨_,rfl,by rw [ez,tbN,List.map_map];rfl⟩
    refine ⟨pl,_,rfl,.inl ⟨SqL.of gpl,fun p10 hp10=>?_⟩⟩
    have s10:=ag hp10 (.tup (us.map V.str))
    have g10:(upd H9 p10 (.tup (us.map V.str))) p10=some (.tup (us.map V.str)):=ab
    generalize upd H9 p10 (.tup (us.map V.str))=H10 at s10 g10 ⊢
    refine ⟨(by show 3<=sizeLine;decide),fun p11 hp11=>?_⟩
    have s11:=ag hp11 (.tup [.str nm,.ref p7,.ref p10])
    have g11:(upd H10 p11 (.tup [.str nm,.ref p7,.ref p10])) p11=some (.tup [.str nm,.ref p7,.ref p10]):=ab
    generalize upd H10 p11 (.tup [.str nm,.ref p7,.ref p10])=H11 at s11 g11 ⊢
    have S811:=s9.trans (s10.trans s11)
    have S611:=s68.trans S811
    have gs11:=S611 _ _ gs6
    have lsv:((ns.take i).map (srN tb)).length=sv.length:=hR3.len
    rw [List.length_map,List.length_take]at lsv
    refine ⟨sl,sv,.ref p11,rfl,rfl,gs11,au (by lia),?_⟩
    have tk:TK H11 (upd H11 sl (.lst (sv++[.ref p11]))):=TK.lst gs11
    refine ⟨hil,_,_,_,_,kvs',sv++[.ref p11],rfl,?_,?_,by lia,?_,ab,?_⟩
    ·intro z oo h
     rw [ai (af h hsl0)]
     exact S611 _ _ (S6 _ _ h)
    ·rw [ai nns]
     exact S611 _ _ gn6
    ·intro y hy
     by_cases cy:y=nm
     ·subst cy
      refine ⟨d,kv2,dnd,evd,?_,hw⟩
      rw [ai dsl]
      exact S611 _ _ gd6
     ·rw [List.take_add_one,hnm]at hy
      have hy:y∈ns.take i:=by
       rcases List.mem_append.mp hy with h | h
       ·exact h
       ·exact absurd (by simpa using h) cy
      obtain ⟨d',kv,n1,n2,e,h1,h2⟩:=hN5 y hy cy
      have h6:=S611 _ _ (k6 _ _ h1 n1)
      refine ⟨d',kv,n2,e,?_,h2⟩
      rw [ai (fun z=>by rw [z,gs11]at h6;cases h6)]
      exact h6
    ·rw [List.take_add_one,hnm,List.map_append]
     rw [hus]at g10
     exact Paired.snoc (hR5.mono ((tk56.trans (aG S611)).trans tk)) ⟨p11,p7,p10,rfl,tk _ _ g11,tk _ _ (S811 _ _ (s8 _ _ g7)),tk _ _ (s11 _ _ g10)⟩
 ·rintro σ H3 ⟨_,o4,o5,o6,o7,kvs,sv,rfl,S3,gd3,hl3,hN3,gs3,hR3⟩
  rw [List.take_of_length_le (by lia)]at hN3
  rw [List.take_of_length_le (by lia)]at hR3
  exact hnext _ tp nd sl (.ref b) bk ns tb kvs sv _ _ _ _ H3 (hT.same S3) (hB.mono (aG S3)) hpl gd3 (fun x hx=>by obtain ⟨d,kv,_,h⟩:=hN3 x hx;exact ⟨d,kv,h⟩) gs3 nst hR3 fun v bk' H' h1 h2 h25 h3 h4=>q v bk' H' h1 h2 h25 (fun y oo h hn=>h3 y oo (S3 y oo h) hn) h4
mutual
noncomputable def Bt.subs:Bt->List Bt
 | .mk x l=>.mk x l::cB l
noncomputable def cB:List Bt->List Bt
 | []=>[]
 | t::r=>t.subs++cB r
end
theorem fY (t:Bt):t.subs=t::cB t.ps:=by
 cases t with
 | mk x l=>rw [Bt.subs];rfl
theorem cF:cB []=[]:=by rw [cB]
theorem cE (t:Bt) (r:List Bt):cB (t::r)=t.subs++cB r:=by rw [cB]
theorem fZ: ∀ (a b:List Bt),cB (a++b)=cB a++cB b
 | [],b=>by rw [cF];rfl
 | t::r,b=>by rw [List.cons_append,cE,cE,fZ r b,List.append_assoc]
theorem fh (t:Bt) (r:List Bt):cB (t::r)=t::cB (t.ps++r):=by
 rw [cE,fY,fZ];rfl
theorem jQ (t:Bt):cB [t]=t.subs:=by rw [cE,cF,List.append_nil]
theorem mq: ∀ (n:Nat) (t:Bt),t.sz<=n->t.subs.length=t.sz:=by
 intro n
 induction n with
 | zero=>intro t h;have:=gN t;lia
 | succ n ih=>
  intro t h
  rw [fY,iS,List.length_cons]
  have go: ∀ l:List Bt,szL l<=n->(cB l).length=szL l:=by
   intro l
   induction l with
   | nil=>intro _;rw [cF];rfl
   | cons u r ih2=>
    intro hl
    have e:szL (u::r)=u.sz+szL r:=rfl
    rw [cE,List.length_append,ih u (by lia),ih2 (by lia),e]
  rw [go t.ps (by have:=iS t;lia)]
theorem vx: ∀ (n:Nat) (t:Bt),t.sz<=n-> ∀ u∈t.subs,u.sz<=t.sz:=by
 intro n
 induction n with
 | zero=>intro t h;have:=gN t;lia
 | succ n ih=>
  intro t h u hu
  rw [fY]at hu
  rcases List.mem_cons.mp hu with rfl | hu
  ·exact Nat.le_refl _
  have go: ∀ l:List Bt,szL l<=n-> ∀ u∈cB l,u.sz<=szL l:=by
   intro l
   induction l with
   | nil=>intro _ u h;rw [cF]at h;cases h
   | cons x r ih2=>
    intro hl u hu
    have e:szL (x::r)=x.sz+szL r:=rfl
    rw [cE]at hu
    rcases List.mem_append.mp hu with hu | hu
    ·have:=ih x (by lia) u hu;lia
    ·have:=ih2 (by lia) u hu;lia
  have e:=iS t
  have:=go t.ps (by lia) u hu
  lia
noncomputable def xh:List Bt->List Bt
 | []=>[]
 | t::r=>t.ps++r
noncomputable def cU (t:Bt):Nat->List Bt
 | 0=>[t]
 | j+1=>xh (cU t j)
theorem dM (t:Bt): ∀ j,t.subs.drop j=cB (cU t j)
 | 0=>(jQ t).symm
 | j+1=>by
  rw [<- List.tail_drop,dM t j]
  show (cB (cU t j)).tail=cB (xh (cU t j))
  cases cU t j with
  | nil=>rw [cF];show []=cB [];rw [cF]
  | cons u r=>rw [fh];rfl
theorem sk {t u:Bt} {j:Nat} (h:t.subs[j]? =some u): ∃ r,cU t j=u::r/\cU t (j+1)=u.ps++r:=by
 have e:=dM t j
 have hj:=(List.getElem?_eq_some_iff.mp h)
 rw [List.drop_eq_getElem_cons hj.1,hj.2]at e
 show ∃ r,cU t j=u::r/\xh (cU t j)=u.ps++r
 cases hf:cU t j with
 | nil=>rw [hf,cF]at e;cases e
 | cons x r=>
  rw [hf,fh]at e
  have:=(List.cons.inj e).1
  subst this
  exact ⟨r,rfl,rfl⟩
theorem pH (t:Bt):cU t t.subs.length=[]:=by
 have e:=dM t t.subs.length
 rw [List.drop_length]at e
 cases hf:cU t t.subs.length with
 | nil=>rfl
 | cons x r=>rw [hf,fh]at e;cases e
theorem jw {t:Bt}: ∀ j,(cU t j).length<=t.sz:=fun j=>by
 have e:=congrArg List.length (dM t j)
 have h1: ∀ l:List Bt,l.length<=(cB l).length:=by
  intro l
  induction l with
  | nil=>exact Nat.zero_le _
  | cons u r ih=>rw [cE,List.length_append,fY,List.length_cons,List.length_cons];lia
 have:=h1 (cU t j)
 rw [<- e,List.length_drop,mq _ t (Nat.le_refl _)]at this
 lia
theorem ko {J:It} {n:Nat} {fr:List Nat} {te:TE} {σ:St} {H1:Hp} {Q:VK} {pl:Addr} {rest top:List V} (hn:n<=1000) (ht:top.length=n) (gpl:H1 pl=some (.lst (rest++top.reverse)))
  (hgo: ∀ i H,Kp pl H1 H->i<n->J.go i H) (hst: ∀ H,Kp pl H1 H->J.stop n H) (hy: ∀ i H v H',J.yld i H v H'->H'=H)
  (hte: ∀ x H (k:VK) xs y,H pl=some (.lst xs)->xs[xs.length-1]? =some y->k y (upd H pl (.lst xs.dropLast))->te (some x::bi fr σ) H k)
  (hd: ∀ p H',H1 p=none->Kp pl H1 H'->H' pl=some (.lst rest)->H' p=some (.lst top)->Q (.ref p) H'):de fr te σ J H1 Q:=by
 intro p hp
 have npl:pl≠p:=fun z=>by rw [<- z,gpl]at hp;cases hp
 refine ⟨fun i m ys H=>i<=n/\m=n-i/\Kp pl H1 H/\ys=top.take i/\H p=some (.lst ys)/\H pl=some (.lst (rest++(top.drop i).reverse)),⟨_,Nat.zero_le _,rfl,Kp.refl.new hp,rfl,ab,by rw [ai npl];exact gpl⟩,?_⟩
 rintro i m ys H ⟨hi,hm,kp,rfl,gp,gl⟩
 refine ⟨gp,?_⟩
 by_cases e:i=n
 ·subst e
  rw [<- ht,List.drop_length,List.reverse_nil,List.append_nil]at gl
  rw [<- ht,List.take_length]at gp
  exact .inl ⟨hst H kp,hd p H hp kp gl gp⟩
 ·have hlt:i<n:=by lia
  have hx:top[i]? =some (top[i]'(by lia)):=List.getElem?_eq_getElem (by lia)
  refine .inr ⟨hgo i H kp hlt,au (by rw [List.length_take];lia),fun v H' hv=>?_⟩
  cases hy i H v H' hv
  have ed:rest++(top.drop i).reverse=(rest++(top.drop (i+1)).reverse)++[top[i]'(by lia)]:=by
   rw [List.drop_eq_getElem_cons (by lia),List.reverse_cons,List.append_assoc]
  rw [ed]at gl
  refine hte v H _ _ (top[i]'(by lia)) gl (by simp) ?_
  rw [List.dropLast_concat]
  refine ⟨by rw [ai (Ne.symm npl)];exact gp,n- (i+1),by lia,by lia,rfl,?_,?_,ab,by rw [ai npl,ab]⟩
  ·intro b o hb hne
   rw [ai (af hb hp),ai hne]
   exact kp b o hb hne
  ·rw [List.take_add_one,hx];rfl
theorem Kp.tkL {tp:Addr} {H H':Hp} {xs:List V} (a:Kp tp H H') (t:H tp=some (.lst xs)):TK H H':=fun b ys h=>a b _ h fun e=>by
 rw [e,t]at h;cases h
end My
namespace L2
open PySem PySem.Spec PyProof.Rows
noncomputable def nK (o:Obj):Nat:=match o.data with
 | .dict es _=>es.size
 | _=>0
noncomputable def eK (o:Obj):Nat:=match o.data with
 | .dict _ ep=>ep
 | _=>0
theorem Inv.freezeK {X:Cx} {pins:List (Addr×Obj)} {σ:St} {H:Hp} {s:Shared} {d:Addr} {o:Obj} {kvs:List (Key×V)} (I:Inv X pins σ H s) (hd:H d=some (.dK kvs)) (ho:s.heap.get? d=some o):Inv X pins σ (upd H d (.frz o (.dK kvs))) s:=by
 refine iN (t':=s.toks) (h':=s.heap) I (by rw [hd];exact True.intro) ⟨rfl,fun _ _=>rfl⟩ ⟨o,ho⟩ ⟨ho,?_⟩
 exact (show ObjOk X.prog X.w H s.heap d (.dK kvs)from I.hok d _ hd)
theorem yi {P:Program} {w:World} {k:Key} {u:Value} (h:(aU P w).is k u=true):RelV (kV k) u:=by
 rw [pz]at h
 rcases bx h with ⟨i,t,rfl,rfl⟩ | ⟨x,t,rfl,rfl⟩
 ·exact ⟨t,rfl⟩
 ·exact ⟨t,rfl⟩
theorem jh {P:Program} {w:World}: ∀ {es:List DictEntry} {ws:List (Key×Value)} {kvs:List (Key×V)},Pairs (aU P w) es ws->KV kvs ws->Vals (kvs.map fun q=>kV q.1) (es.map (·.key))
 | _,_,_,.nil,.nil=>.nil
 | _,_,_,.cons h _ t,.cons h2 t2=>.cons (show RelV (kV _) _ from by rw [h2.1];exact yi h) (jh t t2)
theorem ie {X:Cx} {pins:List (Addr×Obj)} {σ:St} {H:Hp} {s:Shared} {d:Addr} {o:Obj} {kvs:List (Key×V)} (I:Inv X pins σ H s) (hd:H d=some (.frz o (.dK kvs))):
  ∃ ks:List Value,Vals (kvs.map fun q=>kV q.1) ks/\(d==sysModules)=false/\nK o=ks.length/\HT.DEs s.heap d ks (eK o)/\s.heap.get? d=some o:=by
 obtain ⟨ho,z,lo,ws,rel,o',es,ep,h1,h2,h3,h4,h5,h6⟩:=(show ObjOk X.prog X.w H s.heap d (.frz o (.dK kvs))from I.hok d _ hd)
 rw [ho]at h1
 cases h1
 have e1:nK o=es.size:=by unfold nK;rw [h3]
 have e2:eK o=ep:=by unfold eK;rw [h3]
 refine ⟨es.toList.map (·.key),jh h5 rel,lo,by rw [e1,List.length_map,Array.length_toList],⟨o,es,ho,h2,by rw [e2];exact h3,rfl⟩,ho⟩
noncomputable def vm (d:Addr) (o:Obj):It:=
 ⟨fun i H=> ∃ kvs kv,H d=some (.frz o (.dK kvs))/\kvs[i]? =some kv,
  fun i H x H'=>H'=H/\ ∃ k,x=kV k/\ ∀ kvs,H d=some (.frz o (.dK kvs))->(kvs.map (·.1))[i]? =some k,
  fun i H=> ∃ kvs,H d=some (.frz o (.dK kvs))/\kvs.length=i⟩
theorem oC {P:Program} {w:World} {K:PySem.W.Frag} {tg:Expr} (it d:Addr) (o:Obj):ot P w K tg (vm d o) [it] it (fun i h=>h.IsKeyIter it d i (nK o) (eK o)) where
 mem:=by simp
 obj:=fun i h st b hb=>by
  have e:b=it:=by simpa using hb
  subst e
  obtain ⟨o,e,c,d⟩:=st
  exact ⟨o,e,fun v z=>by rw [d]at z;cases z⟩
 keep:=fun i h h' st k=>st.at fun o e=>k it (by simp) o e
 item:=by
  intro X hP hw hK hc i pins s σ H E I hf st hg
  subst hP hw hK
  obtain ⟨kvs,kv,hd,hx⟩:=hg
  obtain ⟨ks,rv,lo,hn,m,_⟩:=ie I hd
  obtain ⟨u,hu,ru⟩:=rv.get (show (kvs.map fun q=>kV q.1)[i]? =some (kV kv.1) by rw [List.getElem?_map,hx];rfl)
  obtain ⟨f0,f1,f2,f3,f4,f5⟩:=hf it (by simp)
  rw [hn]at st
  refine HT.next_des st m hu fun h' st' sb=>?_
  have I1:Inv X pins σ H {s with heap:=h'}:=I.turned (t':=s.toks) (fun b o hb e=>sb.extBut b o hb e) f0 f1 f3 f4 f5
  obtain ⟨o',e,c,d'⟩:=id st'
  rw [<- hn]at st'
  exact ⟨u,rfl,nX (s:={s with heap:=h'}) e c d' (by decide) ⟨kV kv.1,H,I1,ru,⟨rfl,kv.1,rfl,fun ys hy=>by rw [hd]at hy;cases hy;rw [List.getElem?_map,hx];rfl⟩,st',fun b hb=>(hf b hb).1⟩⟩
 done:=by
  intro X hP hw hK hc i pins s σ H E I hf st hg
  subst hP hw hK
  obtain ⟨kvs,hd,hl⟩:=hg
  obtain ⟨ks,rv,lo,hn,m,_⟩:=ie I hd
  have hle:kvs.length=ks.length:=by rw [<- rv.length,List.length_map]
  obtain ⟨f0,f1,f2,f3,f4,f5⟩:=hf it (by simp)
  rw [hn]at st
  exact HT.end_des (I.ok.hd hc) st m (by lia) fun h' eb=>⟨rfl,I.turned (t':=s.toks) (fun b o hb e=>eb b o hb e) f0 f1 f3 f4 f5⟩
 self:=fun _ _ _ _ _ st h=>wpAny_pyIter_keyiter st h
noncomputable def ym (to:TE):TI:=fun σ H R=>to σ H fun x H1=> ∃ d kvs,x=.ref d/\H1 d=some (.dK kvs)/\ ∀ o,R (vm d o) (upd H1 d (.frz o (.dK kvs)))
theorem ue {X:Cx} {tg:Expr} {o:Expr} {to:TE} (ho:PE X o to):PI X tg o (ym to):=by
 intro pins s σ H R I h
 refine thn (ho pins s σ H _ I h) fun v s1 ⟨x,H1,I1,r1,d,kvs,ex,hd,q⟩=>?_
 subst ex
 cases r1
 obtain ⟨z,lo,ws,rel,ob,es,ep,h1,_⟩:=wG I1.hok hd
 have I2:=I1.freezeK hd h1
 obtain ⟨ks,rv,lo,hn,m,hob⟩:=ie I2 ab
 refine HT.iter_des lo m ?_
 refine ⟨_,[_],_,_,_,rfl,I2.kept (t':=s1.toks) fun b o e=>Heap.get?_push_of_some _ e,oC _ d ob,?_,fun b hb=>?_,q ob⟩
 ·rw [<- hn]
  exact ⟨_,Heap.get?_push_size _ rfl,rfl,rfl⟩
 ·have e:b=s1.heap.objs.size:=by simpa using hb
  have hb':s1.heap.objs.size<=b:=Nat.le_of_eq e.symm
  exact I2.fpOk hb' (I2.hok.fresh hb')
theorem su {d:Addr} {o:Obj} {kvs:List (Key×V)} {g:TG} {tb:TS} {D:eh} {σ:St} {H:Hp} (Pv:Nat->St->Hp->Prop) (h0:Pv 0 σ H) (hl: ∀ i σ H,i<=kvs.length->Pv i σ H->H d=some (.frz o (.dK kvs)))
  (step: ∀ i k σ H,(kvs.map (·.1))[i]? =some k->Pv i σ H->g (kV k) σ H fun σ2 H2=>tb {D with nx:=Pv (i+1),ct:=Pv (i+1),bk:=D.nx} σ2 H2) (fin: ∀ σ H,Pv kvs.length σ H->D.nx σ H):
  ∃ W:Nat->Nat->St->Hp->Prop,(∃ m,W 0 m σ H)/\ ∀ i m σ H,W i m σ H->
   ((vm d o).stop i H/\D.nx σ H)\/((vm d o).go i H/\ ∃ N:St->Hp->Prop,(∀ σ' H',N σ' H'-> ∃ m',m'<m/\W (i+1) m' σ' H')/\ ∀ x H',(vm d o).yld i H x H'->g x σ H' fun σ2 H2=>tb {D with nx:=N,ct:=N,bk:=D.nx} σ2 H2):=by
 refine ⟨fun i m σ H=>m=kvs.length-i/\i<=kvs.length/\Pv i σ H,⟨kvs.length,by simp,Nat.zero_le _,h0⟩,?_⟩
 rintro i m σ H ⟨rfl,hi,p⟩
 have q:=hl i σ H hi p
 by_cases hlt:i<kvs.length
 ·refine .inr ⟨⟨kvs,kvs[i],q,List.getElem?_eq_getElem hlt⟩,Pv (i+1),fun σ' H' p'=>⟨kvs.length- (i+1),by lia,rfl,hlt,p'⟩,fun x H' y=>?_⟩
  obtain ⟨rfl,k,rfl,hk⟩:=y
  exact step i k σ _ (hk kvs q) p
 ·have e:i=kvs.length:=by lia
  subst e
  exact .inl ⟨⟨kvs,q,rfl⟩,fin σ H p⟩
theorem uW {c:Bool} {l1 l2:Addr} {xs ys:List V} {g:TG} {tb:TS} {D:eh} {σ:St} {H:Hp} (hl:xs.length=ys.length) (Pv:Nat->St->Hp->Prop) (h0:Pv 0 σ H)
  (hh: ∀ i σ H,Pv i σ H->H l1=some (dA c xs)/\H l2=some (dA c ys))
  (hs: ∀ i x y σ H T,xs[i]? =some x->ys[i]? =some y->Pv i σ H->H T=none->g (.ref T) σ (upd H T (.tup [x,y])) fun σ2 H2=>tb {D with nx:=Pv (i+1),ct:=Pv (i+1),bk:=D.nx} σ2 H2) (hd: ∀ σ H,Pv xs.length σ H->D.nx σ H):
  ∃ W:Nat->Nat->St->Hp->Prop,(∃ m,W 0 m σ H)/\ ∀ i m σ H,W i m σ H->
   ((Itz c l1 l2).stop i H/\D.nx σ H)\/((Itz c l1 l2).go i H/\ ∃ N:St->Hp->Prop,(∀ σ' H',N σ' H'-> ∃ m',m'<m/\W (i+1) m' σ' H')/\ ∀ x H',(Itz c l1 l2).yld i H x H'->g x σ H' fun σ2 H2=>tb {D with nx:=N,ct:=N,bk:=D.nx} σ2 H2):=by
 refine ⟨fun i m σ H=>m=xs.length-i/\i<=xs.length/\Pv i σ H,⟨xs.length,by simp,Nat.zero_le _,h0⟩,?_⟩
 rintro i m σ H ⟨rfl,hi,p⟩
 obtain ⟨q1,q2⟩:=hh i σ H p
 by_cases hlt:i<xs.length
 ·refine .inr ⟨⟨xs,ys,xs[i],ys[i],q1,q2,List.getElem?_eq_getElem hlt,List.getElem?_eq_getElem (by lia)⟩,Pv (i+1),fun σ' H' p'=>⟨xs.length- (i+1),by lia,rfl,hlt,p'⟩,?_⟩
  rintro _ _ ⟨T,x,y,fT,rfl,rfl,hxy⟩
  obtain ⟨ex,ey⟩:=hxy xs ys q1 q2
  exact hs i x y σ H T ex ey p fT
 ·have e:i=xs.length:=by lia
  subst e
  exact .inl ⟨⟨xs,ys,q1,q2,rfl,hl.symm⟩,hd σ H p⟩
noncomputable def l9 (P:Program) (w:World) (K:PySem.W.Frag) (mg:Str->Option Value) (base:Heap) (k:Nat) (fl:Addr) (sp:Sp):Prop:=
 (∃ o fd,base.get? fl=some o/\o.data=.func fd)/\
 ∀ (X:Cx) (pins:List (Addr×Obj)) (σ:St) (H:Hp) (s:Shared) (us:List Value) (vs:List V) (Q:VK),X.prog=P->X.w=w->X.K=K->X.mg=mg->X.base=base->Room k X.A->Inv X pins σ H s->Vals vs us->sp vs H Q E0->
  wpAny (model P w) X.A (call (.ref fl) us) (EP X pins σ Q) X.xe s
noncomputable def wS (i:Nat) (fl:Addr) (sp:Sp) (t:TA):TE:=fun σ H Q=>σ[i]? =some (some (.ref fl))/\t σ H fun vs H1=>sp vs H1 Q E0
theorem uj {X:Cx} {k i:Nat} {fl:Addr} {sp:Sp} {x:Str} {p pos:Pos} {e:Expr} {es:List Expr} {t:TA} (hT:l9 X.prog X.w X.K X.mg X.base k fl sp) (hr:Room k X.A) (hN:X.N[i]? =some x) (hv:Vis X.env.scope x) (ha:PA X (e::es) t)
  (hdb:(x==("__debug__":Str))=false:=by decide) (hcd:(x==("__classdict__":Str))=false:=by decide) (he:starEach (e::es) X.env=(false,eval e X.env)::starEach es X.env:=by rfl) (hpl:(backTo pos (starEach es X.env)).any (·.1)=false:=by rfl):
  PE X (.Call (.Name x p) (e::es) [] pos) (wS i fl sp t):=by
 intro pins s σ H Q I h
 obtain ⟨e0,h⟩:=h
 obtain ⟨⟨o,fd,ho,hd⟩,run⟩:=hT
 obtain ⟨c,d,dt,sl⟩:=o
 simp only at hd
 subst hd
 refine wpAny_Call_Name_kw (thn (ug hN hv hdb hcd pins s σ H (fun v H'=>v=.ref fl/\H'=H) I ⟨_,e0,rfl,rfl⟩) fun u s1 ⟨v,H1,I1,r1,ev,eH⟩=>?_)
 subst ev eH
 cases r1
 have kin: ∀ {h':Heap},(∀ b ob,X.base.get? b=some ob->h'.get? b=some ob)->PySem.W.Frag.In [(fl,⟨c,d,.func fd,sl⟩)] h':=fun hk a ob el=>by
  by_cases ea:a=fl
  ·subst ea
   simp at el
   rw [<- el]
   exact hk _ _ ho
  ·rw [List.lookup_cons,beq_eq_false_iff_ne.mpr ea]at el
   cases el
 refine PySem.W.callWith_K (K:=[(fl,⟨c,d,.func fd,sl⟩)]) (h₀:=X.base) (kin fun _ _ z=>z) (by simp [PySem.W.keepIn]) (thn (ha pos pins s1 σ H1 _ I1 h) fun us s2 ⟨vs,H2,I2,r2,q2⟩=>⟨kin I2.bk,?_⟩) he hpl
 exact run X pins σ H2 s2 us vs Q rfl rfl rfl rfl rfl hr I2 r2 q2
structure ow (ps ys:List Str) (sc:Scope):Prop where
 kind:sc.kind=.function
 co:sc.isCoroutine=false
 gen:sc.isGenerator=false
 nd:(ps++ys).Nodup
 par: ∀ x∈ps,sc.names.lookup x=some .local
 fre: ∀ y∈ys,sc.names.lookup y=some .free
 has: ∀ y∈sc.names,y.2=.free->y.1∈ys
 nocell: ∀ y∈sc.names,y.2≠ .cell
noncomputable def wH (P:Program) (w:World) (K:PySem.W.Frag) (mg:Str->Option Value) (base:Heap) (N:List Str) (qual:Str) (scope:Scope) (fl:Addr) (cd:Value) (cl:List (Str×Addr)) (A:Around) (outer:List Env) (s:Shared) (H:Hp):Cx where
 prog:=P
 w:=w
 K:=K
 mg:=mg
 base:=base
 A:=A.deeper (PySem.W.envX qual scope s.heap.objs.size fl cd cl)
 N:=N
 s₀:=s
 H₀:=H
 env:=PySem.W.envX qual scope s.heap.objs.size fl cd cl
 outer:=outer
 stack:=PySem.W.envX qual scope s.heap.objs.size fl cd cl::outer
 ex:=[]
 calm:=true
 fn:=fun _=>false
 pn:=[]
 xe:=fun _ _=>False
theorem gA {α β:Type} [BEq α] [LawfulBEq α] {k:α} {v:β}: ∀ {l:List (α×β)},(l.map (·.1)).Nodup->(k,v)∈l->l.lookup k=some v
 | [],_,h=>by cases h
 | (a,b)::r,nd,h=>by
  rw [List.map_cons,List.nodup_cons]at nd
  rw [List.lookup_cons]
  rcases List.mem_cons.mp h with e | e
  ·cases e
   simp
  ·have ne:(k==a)=false:=beq_eq_false_iff_ne.mpr fun z=>nd.1 (by rw [<- z];exact List.mem_map.mpr ⟨(k,v),e,rfl⟩)
   rw [ne]
   exact gA nd.2 e
theorem iP {ps:List Str} {us:List Value} {i:Nat} {x:Str} {u:Value} (nd:ps.Nodup) (h1:ps[i]? =some x) (h2:us[i]? =some u):(ps.zip us).reverse.lookup x=some u:=by
 refine gA ?_ (List.mem_reverse.mpr (List.mem_iff_getElem?.mpr ⟨i,by rw [List.getElem?_zip_eq_some];exact ⟨h1,h2⟩⟩))
 rw [List.map_reverse]
 refine List.pairwise_reverse.mpr (List.Pairwise.imp (fun h=>Ne.symm h) (show List.Pairwise (· ≠ ·) _ from ?_))
 have:(ps.zip us).map (·.1)=ps.take us.length:=by
  clear nd h1 h2
  induction ps generalizing us with
  | nil=>simp
  | cons p r ih=>
   cases us with
   | nil=>simp
   | cons w t=>simp [ih]
 rw [this]
 exact nd.sublist (List.take_sublist _ _)
theorem xk {P:Program} {w:World} {K:PySem.W.Frag} {mg:Str->Option Value} {base:Heap} {k:Nat} {fl c':Addr} {nm qual:Str} {params:Arguments} {body:Expr} {scope:Scope} {cl:List (Str×Addr)} {pm ctv:Value} {oc:Obj} {vc:Array Value} {tq:Tok}
  {ps ys:List Str} {cs:List V} {sp:Sp}
  (hfl:base.get? fl=some (PySem.W.kla_obj nm qual params body scope cl pm c' ctv)) (hoc:oc.data=.fields vc) (hq:vc[1]? =some (.str qual tq)) (S:ow ps ys scope)
  (hcell: ∀ x c,cl.lookup x=some c-> ∃ v,base.IsCell c v) (hinj: ∀ x y c,cl.lookup x=some c->cl.lookup y=some c->x=y)
  (hcap: ∀ (j:Nat) (y:Str),ys[j]? =some y-> ∃ c v u,cs[j]? =some v/\cl.lookup y=some c/\base.IsCell c (some u)/\RelV v u) (hcs:cs.length=ys.length)
  (bind: ∀ us:List Value,us.length=ps.length->bindArgs (PySem.W.kla_fn nm qual params body scope cl pm (.ref c') ctv) ⟨us,[]⟩=pure (ps.zip us))
  (len: ∀ vs H Q,sp vs H Q E0->vs.length=ps.length) (hH: ∀ vs H Q,sp vs H Q E0->H c'=some (.ext fun h=>h.get? c'=some oc))
  (hE: ∀ (A:Around) (outer:List Env) (s:Shared) (H:Hp) (vs:List V) (Q:VK),Room k (A.deeper (PySem.W.envX qual scope s.heap.objs.size fl (.ref c') cl))->sp vs H Q E0->
   ∃ t,PE (wH P w K mg base (ps++ys) qual scope fl (.ref c') cl A outer s H) body t/\t (vs.map some++cs.map some) H Q):l9 P w K mg base (k+1) fl sp:=by
 refine ⟨⟨_,_,hfl,rfl⟩,fun X pins σ H s us vs Q hP hw hK hm hb hr I r h=>?_⟩
 subst hP hw hK hm hb
 have hlv:=len vs H Q h
 have hlu:us.length=ps.length:=by rw [<- r.length];exact hlv
 have hc':s.heap.get? c'=some oc:=(show ObjOk X.prog X.w H s.heap c' (.ext fun h=>h.get? c'=some oc)from I.hok c' _ (hH vs H Q h)).1
 obtain ⟨t,hPE,ht⟩:=hE X.A X.stack s H vs Q (hr.deeper _) h
 refine wpAny_call (codeAny_mono (R:=CR CX0 X.stack X.prog X.w H s Q E0) (PySem.W.kla_callFunE hr.depth (I.bk _ _ hfl) rfl S.co S.gen rfl ⟨c',oc,vc,tq,rfl,hc',hoc,hq⟩ ?_) fun rr s' hq'=>?_)
 ·rw [bind us hlu]
  refine wpAny_pure (wpAny_newFunctionEnv S.nocell (fun x hx=>S.par _ (List.of_mem_zip hx).1) (fun h₁ hns hsb=>?_) S.kind)
  have hk: ∀ b o,s.heap.get? b=some o->h₁.get? b=some o:=fun b o e=>hsb.extBut b o (Nat.ne_of_lt (Heap.lt_size e)) (Heap.get?_push_of_some _ e)
  refine ⟨I.nolimit.keeps hk,?_⟩
  show codeAny _ _ (.expr body (PySem.W.envX qual scope s.heap.objs.size fl (.ref c') cl)) _ _
  refine PySem.W.kla_codeExpr ?_
  have hcl: ∀ x c,cl.lookup x=some c->H c=none/\ ∃ v,h₁.IsCell c v:=fun x c e=>by
   obtain ⟨v,o,ho,hd⟩:=hcell x c e
   obtain ⟨e1,e2⟩:=I.bs c o ho
   exact ⟨e2,v,o,hk _ _ e1,hd⟩
  have IY:Inv (wH X.prog X.w X.K X.mg X.base (ps++ys) qual scope fl (.ref c') cl X.A X.stack s H) [] (vs.map some++cs.map some) H {s with heap:=h₁,toks:=s.toks+ (ps.zip us).length}:=by
   have noA: ∀ b:Addr,b∉([]:List Addr):=fun b z=>by cases z
   refine ⟨⟨I.ok.mod,S.kind,rfl,rfl,Nat.le_refl _,hinj,fun y hy=>?_,fun y c hf _=>(by cases hf),fun _=>hr.hd,Around.frames_deeper I.ok.frames,.inr ⟨rfl,rfl⟩,fun b z=>absurd z (noA b),I.bs,Nat.le_trans I.ok.bsz I.sz,fun b _ _=>noA b,fun b z=>absurd z (noA b),I.stack,I.stkFree⟩,
    rfl,I.bare,Un.kept hk,⟨_,hns,fun i y v h1 h2 h3=>?_⟩,fun y c e=>(hcl y c e).2,I.hok.fresh (Nat.le_refl _),fun y c e=>(hcl y c e).1,fun p hp=>absurd (show p∈([]:List (Addr×Obj))from hp) (by simp),I.hok.kept hk,?_⟩
   ·have hy': ∃ kd,scope.names.lookup y=some kd/\(kd=.cell\/kd=.free):=by
     rcases hy with z | z
     ·exact ⟨_,z,.inl rfl⟩
     ·exact ⟨_,z,.inr rfl⟩
    obtain ⟨kd,hl,hkd⟩:=hy'
    have hmem:=L2.mem_of_lookup hl
    rcases hkd with z | z
    ·exact absurd z (S.nocell _ hmem)
    ·obtain ⟨j,hj⟩:=List.mem_iff_getElem?.mp (S.has _ hmem z)
     obtain ⟨c,_,_,_,e,_⟩:=hcap j y hj
     exact ⟨c,e⟩
   ·have h1':(ps++ys)[i]? =some y:=h1
    by_cases hi:i<ps.length
    ·rw [List.getElem?_append_left hi]at h1'
     rw [List.getElem?_append_left (by rw [List.length_map,hlv];exact hi),List.getElem?_map]at h2
     cases hv:vs[i]? with
     | none=>rw [hv]at h2;cases h2
     | some v0=>
      rw [hv]at h2
      cases h2
      obtain ⟨u,hu,ru⟩:=r.get hv
      refine ⟨u,ru,.inl ⟨S.par y (List.mem_of_getElem? h1'),iP (List.nodup_append.mp S.nd).1 h1' hu⟩⟩
    ·rw [List.getElem?_append_right (by lia)]at h1'
     rw [List.getElem?_append_right (by rw [List.length_map,hlv];lia),List.getElem?_map,List.length_map,hlv]at h2
     obtain ⟨c,v0,u,e1,e2,e3,e4⟩:=hcap _ y h1'
     rw [e1]at h2
     cases h2
     obtain ⟨o,ho,hd⟩:=e3
     exact ⟨u,e4,.inr ⟨.inr (S.fre y (List.mem_of_getElem? h1')),c,e2,o,hk _ _ (I.bk _ _ ho),hd⟩⟩
   ·show (vs.map some++cs.map some).length=(ps++ys).length
    rw [List.length_append,List.length_append,List.length_map,List.length_map,hlv,hcs]
  refine wpAny_mono (hPE [] _ _ H Q IY ht) (fun u s' ⟨v,H',J,rv,q⟩=>⟨v,H',J.os,J.bare,J.base,J.hok,rv,q⟩) fun _ _ z=>z.elim
 ·cases rr with
  | error e=>exact hq'.elim
  | ok f0=>
   cases f0 with
   | ret u=>exact I.after hq'
   | next=>exact False.elim hq'
   | brk=>exact False.elim hq'
   | cont=>exact False.elim hq'
section
variable {X:Cx} {pins:List (Addr×Obj)} {σ:St} {H:Hp} {s:Shared}
noncomputable def eN (X:Cx) (H:Hp) (s:Shared):Heap:=PySem.W.hideAll s.heap (trk s.heap H++frs X.stack)
theorem fR {b:Addr} {o:Obj} (e:s.heap.get? b=some o) (n:H b=none) (nf:b∉frs X.stack):(eN X H s).get? b=some o:=
 PySem.W.hideAll_get _ e fun hm=>by
  rcases List.mem_append.mp hm with z | z
  ·have q:(H b).isSome=true:=(List.mem_filter.mp z).2
   rw [n]at q;simp at q
  ·exact nf z
theorem rQ {b:Addr} {o:Obj} (e:(eN X H s).get? b=some o):s.heap.get? b=some o/\H b=none:=by
 have e1:=PySem.W.of_hideAll _ e
 refine ⟨e1,?_⟩
 cases q:H b with
 | none=>rfl
 | some u=>
  have hm:b∈trk s.heap H++frs X.stack:=List.mem_append_left _ (List.mem_filter.mpr ⟨List.mem_range.mpr (Heap.lt_size e1),by rw [q];rfl⟩)
  rw [show (eN X H s).get? b=none from PySem.W.hideAll_none _ hm]at e
  cases e
theorem qG {h b1 b2:Heap}: ∀ {l:List Env},h.FunFrames b1 l->(∀ b∈frs l,b2.get? b=none)->h.FunFrames b2 l
 | [],_,_=>trivial
 | env::r,⟨hk,⟨L,o,hf,_,ho,hd⟩,hr⟩,hn=>by
  have hL:L∈frs (env::r):=by unfold frs;rw [List.filterMap_cons,hf];exact List.mem_cons_self
  exact ⟨hk,⟨L,o,hf,hn L hL,ho,hd⟩,qG hr fun b hb=>hn b (by unfold frs;rw [List.filterMap_cons,hf];exact List.mem_cons_of_mem _ hb)⟩
theorem Inv.nostk (I:Inv X pins σ H s) {b:Addr} {o:Obj} (e:X.base.get? b=some o):b∉frs X.stack:=fun hb=>by
 have:=(I.stack.mem hb).1
 rw [e]at this
 cases this
theorem Inv.inB (I:Inv X pins σ H s): ∀ b o,X.base.get? b=some o->(eN X H s).get? b=some o:=fun b o e=>fR (I.bs b o e).1 (I.bs b o e).2 (I.nostk e)
theorem Inv.envB (I:Inv X pins σ H s):vn X.prog X.w X.K X.mg (eN X H s) X.A X.stack s H:=
 ⟨I.ok.frames,⟨I.mod.kin.keeps I.inB,I.mod.glob.keeps I.inB,let ⟨mb,h1,h2⟩:=I.mod.blt;⟨mb,h1.keeps I.inB,h2⟩,I.mod.nolimit.keeps I.inB⟩,fun b o e=>rQ e,Nat.le_of_eq (PySem.W.hideAll_size _ _),
  qG I.stack fun b hb=>PySem.W.hideAll_none _ (List.mem_append_right _ hb),I.stkFree,I.hok,I.bare⟩
theorem vD {k:Nat} {f:Addr} {fd:FuncData} {ps:List Str} {sp:Sp} {Q:VK} {us:List Value} {vs:List V} (F:FnOk X.prog X.w X.K X.mg (eN X H s) CX0 k f fd ps sp) (hr:Room k X.A) (hb:Binds X.K fd ps [])
  (I:Inv X pins σ H s) (r:Vals vs us) (h:sp vs H Q E0):wpAny (model X.prog X.w) X.A (call (.ref f) us) (EP X pins σ Q) X.xe s:=by
 have hl:(us++[]).length=ps.length:=by rw [List.append_nil,<- r.length];exact F.len _ _ _ _ h
 have hbd:=hb s us I.kIn hl
 rw [List.append_nil]at hbd
 refine wpAny_call (codeAny_mono (F.run X.A X.stack s H ⟨us,[]⟩ us vs Q E0 hr I.envB hbd r h) fun rr s' hq=>?_)
 cases rr with
 | error e=>exact hq.elim
 | ok f0=>
  cases f0 with
  | ret u=>exact I.after hq
  | next=>exact False.elim hq
  | brk=>exact False.elim hq
  | cont=>exact False.elim hq
end
noncomputable def qQ (base:Heap) (cl:List (Str×Addr)) (ys:List Str) (cs:List V) (fl c':Addr) (nm qual:Str) (params:Arguments) (body:Expr) (scope:Scope):Prop:=
 (∃ pm ctv,base.get? fl=some (PySem.W.kla_obj nm qual params body scope cl pm c' ctv))/\(∀ x c,cl.lookup x=some c-> ∃ v,base.IsCell c v)/\(∀ x y c,cl.lookup x=some c->cl.lookup y=some c->x=y)/\
 (∀ (j:Nat) (y:Str),ys[j]? =some y-> ∃ c v u,cs[j]? =some v/\cl.lookup y=some c/\base.IsCell c (some u)/\RelV v u)/\cs.length=ys.length
structure pQ (sc0:Scope) (N:List Str) (scope:Scope) (ys:List Str) (fr:List Nat):Prop where
 free: ∀ y∈scope.names,y.2=.free->sc0.names.lookup y.1=some .cell
 len:ys.length=fr.length
 sl: ∀ q∈ys.zip fr,N[q.2]? =some q.1/\sc0.names.lookup q.1=some .cell/\(q.1,NameKind.free)∈scope.names
noncomputable def fH (c':Addr) (oc:Obj):HO:=.ext fun h=>h.get? c'=some oc
noncomputable def iO (oc:Obj) (qual:Str):Prop:= ∃ vc tq,oc.data=.fields vc/\vc[1]? =some (.str qual tq)
noncomputable def sY (qual:Str) (cl:List (Str×Addr)) (Pt:Addr) (lpos:Pos) (scope:Scope) (params:Arguments) (body:Expr) (ys:List Str) (fr:List Nat) (spF:Heap->Sp) (te:TE):TE:=fun σ H Q=>te σ H fun v H1=>
 ∃ (ps:Array Value) (cs:List V),H1 Pt=some (.tbl ps)/\TriplesOk ps.toList/\bi fr σ=cs.map some/\
  ((codeAmong lpos ps.toList=none/\ ∀ fl c' oc base,H1 c'=none->c'≠Pt->iO oc qual->qQ base cl ys cs fl c' "<lambda>" qual params body scope->
    spF base [v,.ref fl] (upd (upd H1 Pt (.tbl (ps++ #[rawInt lpos.line,rawInt lpos.col,.ref c']))) c' (fH c' oc)) Q E0)\/
   ∃ c' oc,codeAmong lpos ps.toList=some (.ref c')/\H1 c'=some (fH c' oc)/\iO oc qual/\ ∀ fl base,qQ base cl ys cs fl c' "<lambda>" qual params body scope->spF base [v,.ref fl] H1 Q E0)
section
variable {X:Cx} {pins:List (Addr×Obj)} {σ:St} {H:Hp} {s:Shared}
theorem uO {ys:List Str} {fr:List Nat} {cs:List V} {scope:Scope} {fl c':Addr} {nm qual:Str} {params:Arguments} {body:Expr} {pm ctv:Value} (I:Inv X pins σ H s) (ok:pQ X.env.scope X.N scope ys fr) (hcs:bi fr σ=cs.map some)
  (hfl:s.heap.get? fl=some (PySem.W.kla_obj nm qual params body scope (ce X.env.cells scope.names) pm c' ctv)) (nfl:H fl=none) (nof1:fl∉frs X.stack) (hfn: ∀ x,X.fn x=true):
  qQ (eN X H s) (ce X.env.cells scope.names) ys cs fl c' nm qual params body scope:=by
 have nocell: ∀ {x:Str} {c:Addr},X.env.cells.lookup x=some c->c∉frs X.stack:=fun {x c} e hm=>by
  rcases List.mem_cons.mp (I.stkSub c hm)with z | z
  ·exact I.cne x c e z
  ·obtain ⟨_,o,ho,_⟩:=I.ok.funs.mem z
   exact absurd (Nat.lt_of_lt_of_le (Heap.lt_size ho) (I.ok.cab x c (hfn x) e)) (Nat.lt_irrefl _)
 have cellB: ∀ x c v,X.env.cells.lookup x=some c->s.heap.IsCell c v->(eN X H s).IsCell c v:=fun x c v e hc=>by
  have nf:=nocell e
  obtain ⟨o,ho,hd⟩:=hc
  exact ⟨o,fR ho (I.freeC x c e) nf,hd⟩
 refine ⟨⟨pm,ctv,fR hfl nfl nof1⟩,fun x c e=>?_,fun x y c e1 e2=>I.ok.inj x y c (cb e1) (cb e2),fun j y hj=>?_,?_⟩
 ·have e':=cb e
  obtain ⟨v,hv⟩:=I.cell x c e'
  exact ⟨v,cellB x c v e' hv⟩
 ·have hjl:j<fr.length:=by rw [<- ok.len];exact (List.getElem?_eq_some_iff.mp hj).1
  have hi0:fr[j]? =some fr[j]:=List.getElem?_eq_getElem hjl
  have hz:(y,fr[j])∈ys.zip fr:=List.mem_iff_getElem?.mpr ⟨j,by rw [List.getElem?_zip_eq_some];exact ⟨hj,hi0⟩⟩
  obtain ⟨hn,hk,hm⟩:=ok.sl _ hz
  have hc0:(bi fr σ)[j]? =some ((σ[fr[j]]?).join):=by unfold bi;rw [List.getElem?_map,hi0];rfl
  rw [hcs,List.getElem?_map]at hc0
  cases hcj:cs[j]? with
  | none=>rw [hcj]at hc0;cases hc0
  | some v=>
   rw [hcj]at hc0
   have hσ:σ[fr[j]]? =some (some v):=by
    cases e:σ[fr[j]]? with
    | none=>rw [e]at hc0;cases hc0
    | some o=>rw [e]at hc0;rw [show o=some v from (Option.some.inj hc0).symm]
   obtain ⟨m,_,hl⟩:=I.loc
   obtain ⟨u,ru,lk⟩:=hl _ y v hn hσ (.inr (.inl hk))
   rcases lk with ⟨a,_⟩ | ⟨_,c,hc,hcell⟩
   ·have a':X.env.scope.names.lookup y=some .local:=a
    rw [show X.env.scope.names.lookup y=some .cell from hk]at a'
    cases a'
   ·exact ⟨c,v,u,rfl,cr hc hm,cellB y c _ hc hcell,ru⟩
 ·have:=congrArg List.length hcs
  unfold bi at this
  rw [List.length_map,List.length_map]at this
  rw [ok.len]
  exact this.symm
theorem oU {k:Nat} {f c Pt:Addr} {fd:FuncData} {p1 p2 x:Str} {spF:Heap->Sp} {e body:Expr} {te:TE} {params:Arguments} {scope:Scope} {lpos p pos:Pos} {ys:List Str} {fr:List Nat}
  (F: ∀ base,FnOk X.prog X.w X.K X.mg base CX0 k f fd [p1,p2] (spF base)) (hr:Room k X.A) (hg:Gl X x) (hm:X.mg x=some (.ref f)) (hk:PySem.W.keepIn X.K (.ref f)=true) (hb:Binds X.K fd [p1,p2] [])
  (he:PE X e te) (hC:PySem.W.CodeHd X.base c Pt) (hcode:X.env.code=.ref c) (hB:X.base.BuiltinsAt X.mg Pt) (ok:pQ X.env.scope X.N scope ys fr) (hfn: ∀ x,X.fn x=true) (hdef:defaultsOf params X.env=([],[]))
  (hdb:(x==("__debug__":Str))=false:=by decide) (hs:starEach [e,.Lambda params body scope lpos] X.env=(false,eval e X.env)::starEach [.Lambda params body scope lpos] X.env:=by rfl)
  (hs2:starEach [.Lambda params body scope lpos] X.env=(false,eval (.Lambda params body scope lpos) X.env)::starEach [] X.env:=by rfl) (hpl:(backTo pos (starEach [.Lambda params body scope lpos] X.env)).any (·.1)=false:=by rfl):
  PE X (.Call (.Name x p) [e,.Lambda params body scope lpos] [] pos) (sY (X.env.qual++"<lambda>") (ce X.env.cells scope.names) Pt lpos scope params body ys fr spF te):=by
 intro pins s σ H Q I h
 refine wpAny_Call_Name_kw (lY I hg hm ?_ hdb)
 refine PySem.W.callWith_K (h₀:=X.base) I.ok.mod.kin hk ?_ hs hpl
 rw [hs]
 show wpAny _ _ (spliced ((false,eval e X.env)::backTo pos (starEach [.Lambda params body scope lpos] X.env))) _ _ s
 refine Calls.spliced_cons (thn (he pins s σ H _ I h) fun u s1 ⟨v,H1,I1,r1,ps,cs,hP,ht,hcs,q⟩=>?_)
 rw [hs2]
 show wpAny _ _ (spliced ((false,eval (.Lambda params body scope lpos) X.env)::backTo pos (starEach [] X.env))) _ _ s1
 have hcl:closureFor scope X.env=pure (ce X.env.cells scope.names):=cH fun y hy z=>I.ok.has y.1 (.inl (ok.free y hy z))
 have hPs:s1.heap.get? Pt=some (PySem.W.tabObj ps):=(show ObjOk X.prog X.w H1 s1.heap Pt (.tbl ps)from I1.hok Pt _ hP)
 have nP: ∀ {b:Addr},H1 b=none->b≠Pt:=fun hn z=>by rw [z,hP]at hn;cases hn
 have hgP:mainGlobals≠Pt:=by
  obtain ⟨o,es,ep,ho,_⟩:=I1.mod.glob
  exact nP (I1.bs _ _ ho).2
 have hB1:s1.heap.BuiltinsAt X.mg Pt:=by
  obtain ⟨bm,o,b1,b2,b3,b4,b5,b6⟩:=hB
  exact ⟨bm,o,b1,b2,b3,b4,I1.bk _ _ b5,b6⟩
 have fin: ∀ {fl:Addr} {s2:Shared} {H2:Hp} (I2:Inv X pins σ H2 s2),spF (eN X H2 s2) [v,.ref fl] H2 Q E0->X.K.In s2.heap/\wpAny (model X.prog X.w) X.A (call (.ref f) ([]++[u,.ref fl])) (EP X pins σ Q) X.xe s2:=fun {fl s2 H2} I2 hq=>
  ⟨I2.kIn,vD (vs:=[v,.ref fl]) (F _) hr hb I2 (.cons r1 (.cons (show RelV (.ref fl) (.ref fl)from rfl) .nil)) hq⟩
 refine Calls.spliced_cons (PySem.W.kla_eval hdef ?_)
 rcases q with ⟨hnf,q⟩ | ⟨c',oc,hf,hc',hoc,q⟩
 ·refine PySem.W.kla_makeFunction (mg:=X.mg) hcl I1.ok.glob (I1.mod.glob.keeps I1.bk) hcode (hC.keeps I1.bk) hPs ht hnf hgP hB1 fun c' ctv h' tk hx hge hlt hrec htb=>?_
  obtain ⟨c2,oc,vc,tq,e2,hoc,hd,hq1⟩:=hrec
  cases e2
  have nc:H1 c'=none:=I1.hok.fresh hge
  have ncP:c'≠Pt:=fun z=>by rw [z,hP]at nc;cases nc
  have old: ∀ b o,b≠Pt->s1.heap.get? b=some o->(h'.push (PySem.W.kla_obj "<lambda>" (X.env.qual++"<lambda>") params body scope (ce X.env.cells scope.names) ((X.mg "__name__").getD .none) c' ctv)).get? b=some o:=fun b o hb eo=>Heap.get?_push_of_some _ (hx b o hb eo)
  have lt: ∀ {b:Addr} {o:Obj},s1.heap.get? b=some o->b≠c':=fun eo z=>absurd (Heap.lt_size eo) (by rw [z];exact Nat.not_lt.mpr hge)
  have I2:Inv X pins σ (upd (upd H1 Pt (.tbl (ps++ #[rawInt lpos.line,rawInt lpos.col,.ref c']))) c' (fH c' oc)) {s1 with heap:=h'.push (PySem.W.kla_obj "<lambda>" (X.env.qual++"<lambda>") params body scope (ce X.env.cells scope.names) ((X.mg "__name__").getD .none) c' ctv),toks:=tk}:=by
   have up: ∀ {b:Addr} {oo:HO},H1 b=some oo->b≠Pt->(upd (upd H1 Pt (.tbl (ps++ #[rawInt lpos.line,rawInt lpos.col,.ref c']))) c' (fH c' oc)) b=some oo:=fun eo hb=>by rw [ai (af eo nc),ai hb];exact eo
   have nt: ∀ {b:Addr} {oo:HO},H1 b=some oo->oo≠ .tbl ps->b≠Pt:=fun eo hne z=>by rw [z,hP]at eo;exact hne (Option.some.inj eo).symm
   refine I1.step (g':=s1.gens) (d':=s1.drawn) (ch:=[]) (fun b hb=>by cases hb) (fun b o _ _ _ eo n=>old b o (nP n) eo) (fun b o _ _ _ eo n=>⟨o.slots,old b o (nP n) eo⟩) (fun b o _ eo n=>by rw [ai (lt eo),ai (nP n)];exact n)
    (fun b o _ eo=>?_) (fun b xs eo=>up eo (nt eo (by simp))) (fun b o uo eo=>up eo (nt eo (by simp))) (fun b qs eo=>?_) (fun m hm=>?_) (fun b oo eo=>?_) I1.bare
   ·by_cases hb:b=Pt
    ·subst hb;exact ⟨_,Heap.get?_push_of_some _ htb⟩
    ·exact ⟨o,old b o hb eo⟩
   ·by_cases hb:b=Pt
    ·subst hb
     rw [hP]at eo
     cases eo
     exact ⟨_,by rw [ai (Ne.symm ncP),ab]⟩
    ·exact ⟨#[],by rw [up eo hb];simp⟩
   ·obtain ⟨o,es,ep,ho,r⟩:=hm
    exact ⟨o,es,ep,old _ o (nP I1.free) ho,r⟩
   ·by_cases hb:b=c'
    ·subst hb
     rw [ab]at eo
     cases eo
     exact ⟨Heap.get?_push_of_some _ hoc,⟨oc,Heap.get?_push_of_some _ hoc⟩,fun h1 h2 a1 a2=>a2 _ a1⟩
    ·rw [ai hb]at eo
     by_cases hbP:b=Pt
     ·subst hbP
      rw [ab]at eo
      cases eo
      exact Heap.get?_push_of_some _ htb
     ·rw [ai hbP]at eo
      refine (I1.hok b oo eo).stay (fun d' vo hd' q'=>old d' vo ?_ q') (fun d' q'=>up q' (nt q' (by simp))) fun d' xs q'=>up q' (nt q' (by simp))
      rcases hd' with z | z
      ·rw [z];exact hbP
      ·exact nt z (by simp)
  have nfl:(upd (upd H1 Pt (.tbl (ps++ #[rawInt lpos.line,rawInt lpos.col,.ref c']))) c' (fH c' oc)) h'.objs.size=none:=by
   have a1:h'.objs.size≠c':=Nat.ne_of_gt hlt
   have a2:h'.objs.size≠Pt:=Nat.ne_of_gt (Heap.lt_size htb)
   rw [ai a1,ai a2]
   exact I1.hok.fresh (Nat.le_trans hge (Nat.le_of_lt hlt))
  have nff:h'.objs.size∉frs X.stack:=fun hmm=>by
   obtain ⟨_,o,ho,_⟩:=I1.stack.mem hmm
   exact absurd (Heap.lt_size ho) (Nat.not_lt.mpr (Nat.le_trans hge (Nat.le_of_lt hlt)))
  have L:=uO I2 ok hcs (Heap.get?_push_size _ rfl) nfl nff hfn
  exact Calls.spliced_nil (fin I2 (q _ c' oc _ nc ncP ⟨vc,tq,hd,hq1⟩ L))
 ·refine PySem.W.kla_makeFunctionHit (mg:=X.mg) hcl I1.ok.glob (I1.mod.glob.keeps I1.bk) hcode (hC.keeps I1.bk) hPs ht hf hB1 fun ctv h' tk hkp hsz=>?_
  have I2:Inv X pins σ H1 {s1 with heap:=h'.push {cls:=.type "function",data:=.func (PySem.W.kla_fn "<lambda>" (X.env.qual++"<lambda>") params body scope (ce X.env.cells scope.names) ((X.mg "__name__").getD .none) (.ref c') ctv)},toks:=tk}:=
   I1.kept fun b o eo=>Heap.get?_push_of_some _ (hkp b o eo)
  have nff:h'.objs.size∉frs X.stack:=fun hmm=>by
   obtain ⟨_,o,ho,_⟩:=I1.stack.mem hmm
   exact absurd (Heap.lt_size ho) (Nat.not_lt.mpr hsz)
  have L:=uO (c':=c') I2 ok hcs (Heap.get?_push_size _ rfl) (I1.hok.fresh hsz) nff hfn
  exact Calls.spliced_nil (fin I2 (q _ _ L))
end
noncomputable def vi (h:Heap) (mg:Str->Option Value) (nm:Str) (c Pt:Addr):Prop:=(∃ a o fd,mg nm=some (.ref a)/\h.get? a=some o/\o.data=.func fd/\fd.code=.ref c)/\PySem.W.CodeHd h c Pt
theorem rW {P:Program} {w:World} {K:PySem.W.Frag} {mg mb:Str->Option Value} {k:Nat} {fa a c Pt:Addr} {fd:FuncData} {x nm:Str} {sp:Sp} {s₁:Shared} {vs:List Value} {ns:List Int}
  (KX:K.In s₁.heap) (hns:s₁.heap.Ns mainGlobals mg) (hb:s₁.heap.Ns builtinsNs mb) (hbb: ∀ x:Str,x≠"__name__"->mb x=bootBuiltins x) (hlim:s₁.heap.NoLimit) (hg:s₁.gens= #[])
  (ha:s₁.heap.get? a=some {cls:=.type "list",data:=.seq vs.toArray}) (hi:IntsAre vs ns) (hl:ns.length<=sizeLine) (hr:Room k callerA)
  (hC:PySem.W.CodeHd s₁.heap c Pt) (hP:s₁.heap.get? Pt=some (PySem.W.tabObj #[])) (hB:s₁.heap.BuiltinsAt mg Pt) (hKt:K.lookup Pt=none)
  (F: ∀ base:Heap,K.In base->base.Ns mainGlobals mg->PySem.W.CodeHd base c Pt->base.BuiltinsAt mg Pt->FnOk P w K mg base CX0 k fa fd [x] sp) (hbind: ∀ (s:Shared) (u:Value),BindsTo s fd ⟨[u],[]⟩ [(x,u)])
  (hsp: ∀ H:Hp,H Pt=some (.tbl #[])->SqL K H a (ns.map V.int)->sp [.ref a] H (fun v _=>v=.bl true) E0):
  codeAny (model P w) callerA (.call (.ref fa) ⟨[.ref a],[]⟩) (fun r s'=>r=.ok (.ret (.bool true))/\OldK s₁.heap s'.heap/\s'.os=s₁.os/\AllBare s'.gens) s₁:=by
 have rv:=jL hi
 have lenV:=hi.length
 have haP:a≠Pt:=fun z=>by rw [z,hP]at ha;cases ha
 have core: ∀ H:Hp,H Pt=some (.tbl #[])->SqL K H a (ns.map V.int)->HOk P w H s₁.heap->(∀ b,H b≠none->b=a\/b=Pt)->(H a≠none->K.lookup a=none)->(∀ u,H a=some u-> ∃ xs,u=.frz {cls:=.type "list",data:=.seq vs.toArray} (.lst xs))->
   codeAny (model P w) callerA (.call (.ref fa) ⟨[.ref a],[]⟩) (fun r s'=>r=.ok (.ret (.bool true))/\OldK s₁.heap s'.heap/\s'.os=s₁.os/\AllBare s'.gens) s₁:=by
  intro H hH hS hok hA hK hfr
  have un0: ∀ {b:Addr} {o:Obj},s₁.heap.get? b=some o->o≠{cls:=.type "list",data:=.seq vs.toArray}->o≠PySem.W.tabObj #[]->H b=none:=fun {b o} e n1 n2=>by
   cases q:H b with
   | none=>rfl
   | some u=>
    rcases hA b (by rw [q];simp)with z | z
    ·subst z;rw [ha]at e;exact absurd (Option.some.inj e).symm n1
    ·subst z;rw [hP]at e;exact absurd (Option.some.inj e).symm n2
  have inB: ∀ {b:Addr} {o:Obj},s₁.heap.get? b=some o->H b=none->(ju s₁.heap H).get? b=some o:=fun e n=>uS e n
  have dictB: ∀ {b:Addr} {m:Str->Option Value},s₁.heap.Ns b m->(ju s₁.heap H).Ns b m:=fun {b m} ⟨o,es,ep,e,d,r⟩=>⟨o,es,ep,inB e (un0 e (fun z=>by rw [z]at d;cases d) (fun z=>by rw [z]at d;cases d)),d,r⟩
  have hKb:K.In (ju s₁.heap H):=fun b o e=>inB (KX b o e) (by
   cases q:H b with
   | none=>rfl
   | some u=>
    rcases hA b (by rw [q];simp)with z | z
    ·subst z;rw [hK (by rw [q];simp)]at e;cases e
    ·subst z;rw [hKt]at e;cases e)
  have hCb:PySem.W.CodeHd (ju s₁.heap H) c Pt:=by
   obtain ⟨o,vs',file,tf,flags,tg,inF,text,tt,e1,e2,r⟩:=hC
   exact ⟨o,vs',file,tf,flags,tg,inF,text,tt,inB e1 (un0 e1 (fun z=>by rw [z]at e2;exact absurd e2 (by simp)) (fun z=>by rw [z]at e2;exact absurd e2 (by simp))),e2,r⟩
  have hBb:(ju s₁.heap H).BuiltinsAt mg Pt:=by
   obtain ⟨bm,o,b1,b2,b3,b4,b5,b6,r⟩:=hB
   exact ⟨bm,o,b1,b2,b3,b4,inB b5 (un0 b5 (fun z=>by rw [z]at b6;exact absurd b6 (by simp)) (fun z=>by rw [z]at b6;exact absurd b6 (by simp))),b6,r⟩
  have hM:Mod K mg (ju s₁.heap H):=⟨hKb,dictB hns,⟨mb,dictB hb,hbb⟩,let ⟨mc,h1,h2⟩:=hlim;⟨mc,dictB h1,h2⟩⟩
  have e0:vn P w K mg (ju s₁.heap H) callerA [] s₁ H:=⟨rfl,hM,fun b o e=>vZ e,Nat.le_of_eq (si _ _),trivial,fun b hb=>absurd (show b∈([]:List Addr)from hb) (by simp),hok,.of_eq hg⟩
  refine codeAny_mono ((F _ hKb (dictB hns) hCb hBb).run callerA [] s₁ H ⟨[.ref a],[]⟩ [.ref a] [.ref a] _ _ hr e0 (hbind s₁ (.ref a)) (.cons rfl .nil) (hsp H hH hS)) fun r s' h=>?_
  cases r with
  | error e=>exact h.elim
  | ok fl=>
   cases fl with
   | next=>exact False.elim h
   | brk=>exact False.elim h
   | cont=>exact False.elim h
   | ret u=>
    obtain ⟨v,H',os,bare,un,hok',r',q⟩:=h
    have q':v=.bl true:=q
    subst q'
    obtain rfl:u=Value.bool true:=r'
    have tab: ∃ more:Array Value,s'.heap.get? Pt=some (PySem.W.tabObj (#[]++more)):=by
     obtain ⟨more,e⟩:=un.tbls Pt _ hH
     exact ⟨more,(show ObjOk P w H' s'.heap Pt (.tbl (#[]++more))from hok' Pt _ e)⟩
    have old: ∀ b o,b≠Pt->s₁.heap.get? b=some o->s'.heap.get? b=some o:=fun b o hbP e=>by
     cases q:H b with
     | none=>exact un.keep b o e q (by intro z;exact absurd (show b∈([]:List Addr)from z) (by simp)) (by simp)
     | some u=>
      rcases hA b (by rw [q];simp)with z | z
      ·subst z
       obtain ⟨xs,rfl⟩:=hfr u q
       obtain ⟨e1,_⟩:=hok' b _ (un.frzs b _ _ q)
       rw [ha]at e
       rw [<- Option.some.inj e]
       exact e1
      ·exact absurd z hbP
    obtain ⟨more,ht⟩:=tab
    refine ⟨rfl,⟨fun b o e=>?_,fun b o e=>?_⟩,os,bare⟩
    ·by_cases hbP:b=Pt
     ·subst hbP
      rw [hP]at e
      cases e
      obtain ⟨oc,vs',file,tf,flags,tg,inF,text,tt,e1,e2,e3,e4,_⟩:=hC
      exact .inr (.inl ⟨⟨c,oc,vs',e1,e2,e3,e4⟩,rfl,#[],more,rfl,ht⟩)
     ·exact .inl (old b o hbP e)
    ·by_cases hbP:b=Pt
     ·subst hbP;exact ⟨_,ht⟩
     ·exact ⟨o,old b o hbP e⟩
 cases hk:K.lookup a with
 | some o=>
  have e:=KX a o hk
  rw [ha]at e
  cases e
  refine core (fun b=>if b=Pt then some (.tbl #[])else none) (if_pos rfl) (.inr ⟨_,vs.toArray,_,hk,rfl,rfl,rfl,by rw [List.size_toArray,lenV];exact hl,by simpa using rv⟩) (fun b u z=>?_) (fun b z=>?_) (fun z=>absurd (if_neg haP) z) fun u z=>?_
  ·by_cases hb:b=Pt
   ·have z':=(if_pos hb).symm.trans z
    cases z'
    subst hb
    exact hP
   ·have z':=(if_neg hb).symm.trans z
    cases z'
  ·by_cases hb:b=Pt
   ·exact .inr hb
   ·exact absurd (if_neg hb) z
  ·have z':=(if_neg haP).symm.trans z
   cases z'
 | none=>
  have hPa: ¬ Pt=a:=fun z=>haP z.symm
  refine core (fun b=>if b=a then some (.frz {cls:=.type "list",data:=.seq vs.toArray} (.lst (ns.map V.int)))else if b=Pt then some (.tbl #[])else none) (by rw [if_neg hPa,if_pos rfl]) (.inl (.inr ⟨{cls:=.type "list",data:=.seq vs.toArray},if_pos rfl⟩)) (fun b u z=>?_) (fun b z=>?_) (fun _=>hk) fun u z=>?_
  ·by_cases hb:b=a
   ·have z':=(if_pos hb).symm.trans z
    cases z'
    subst hb
    exact ⟨ha,by rw [List.length_map];exact hl,vs,_,rv,ha⟩
   ·have z':=(if_neg hb).symm.trans z
    by_cases hb2:b=Pt
    ·have z2:=(if_pos hb2).symm.trans z'
     cases z2
     subst hb2
     exact hP
    ·have z2:=(if_neg hb2).symm.trans z'
     cases z2
  ·by_cases hb:b=a
   ·exact .inl hb
   ·by_cases hb2:b=Pt
    ·exact .inr hb2
    ·exact absurd (by rw [if_neg hb,if_neg hb2]) z
  ·have z':=(if_pos rfl).symm.trans z
   cases z'
   exact ⟨_,rfl⟩
theorem walk_ofT {l:PySem.W.OpenLaw} {n k:Nat} {q:Program} {loose:List Str} {XP:(Str->Option Value)->Heap->Prop} {YP:World->Heap->Prop} {d:DefRec} {K:Params->PySem.W.Frag} {sp:World->Addr->Sp} {x nm:Str}
  (hn:l.most=some n) (hn2:n<=sizeLine) (hdf:d.params.defaults=[]) (hr:Room k callerA) (hY: ∀ (w:World) (h:Heap),YP w h->(K w.params).In h) (hrec: ∃ e∈recsOf q,e.name=nm) (hKt: ∀ w:World,PySem.W.noTabs (K w.params)=true)
  (F: ∀ (w:World) (mg:Str->Option Value) (fa c Pt:Addr) (h:Heap),(K w.params).In h->h.Ns mainGlobals mg->mg d.name=some (.ref fa)->vi h mg nm c Pt->
   ∃ fd:FuncData,(∀ (s:Shared) (u:Value),BindsTo s fd ⟨[u],[]⟩ [(x,u)])/\ ∀ base:Heap,(K w.params).In base->base.Ns mainGlobals mg->PySem.W.CodeHd base c Pt->base.BuiltinsAt mg Pt->FnOk l.prog w (K w.params) mg base CX0 k fa fd [x] (sp w Pt))
  (hsp: ∀ (w:World) (Pt:Addr) (H:Hp) (a:Addr) (ns:List Int),ns.length<=n->H Pt=some (.tbl #[])->SqL (K w.params) H a (ns.map V.int)->sp w Pt [.ref a] H (fun v _=>v=.bl true) E0):
  PySem.W.WalkO q loose XP YP l.row.toRowW d [] (fun f vs=>PySem.call f vs):=by
 refine Att.attach_call hn hdf fun w s₀ s₁ mg mb fa o pm cd doc a vs ns G Y ho hd hcd hmg hobj hints hlen hg=>?_
 have KX:=hY w _ Y
 obtain ⟨e,he,rfl⟩:=hrec
 obtain ⟨a1,o1,fd1,c,Pt,t1,t2,t3,t4,t5,t6⟩:=G.T.tab e he
 have hC:=PySem.W.CodeHd.of t5 t6
 obtain ⟨fd,hb,hF⟩:=F w mg fa c Pt _ KX G.T.g hmg ⟨⟨a1,o1,fd1,t1,t2,t3,t4⟩,hC⟩
 obtain ⟨bm,ob,b1,b2,b3,b4,b5,b6⟩:=G.T.bmain
 have hP:s₁.heap.get? Pt=some (PySem.W.tabObj #[]):=t6.2
 have n1:bm≠mainGlobals:=fun z=>by
  obtain ⟨og,es,ep,e1,e2,_⟩:=G.T.g
  rw [z,e1]at b3
  cases b3
  rw [e2]at b6
  cases b6
 have n2:bm≠Pt:=fun z=>by
  rw [z,hP]at b3
  cases b3
  cases b4
 have hB:s₁.heap.BuiltinsAt mg Pt:=⟨bm,ob,b1,b2,n1,n2,b3,b4,b5,b6⟩
 have hKn:(K w.params).lookup Pt=none:=by
  cases q':(K w.params).lookup Pt with
  | none=>rfl
  | some ok=>
   have e1:=KX _ _ q'
   rw [hP]at e1
   have e2:=Option.some.inj e1
   have h2:=List.all_eq_true.mp (hKt w) (Pt,ok) (PySem.W.mem_of_lookupK q')
   subst e2
   exact absurd (show false=true from h2) Bool.false_ne_true
 exact rW (nm:=e.name) KX G.T.g G.T.b G.T.builtins G.T.nolimit hg hobj hints (Nat.le_trans hlen hn2) hr hC hP hB hKn hF hb fun H h1 h2=>hsp w Pt H a ns hlen h1 h2
theorem Fun.okC {P:Program} {w:World} {K:PySem.W.Frag} {mg:Str->Option Value} {base:Heap} {x qual:Str} {st:Stmt} {f:Addr} {fd:FuncData} {N ps:List Str} {k:Nat} {sp:Sp} (F:Fun K x qual st f fd) (S:aH N ps (ah st)) (len: ∀ vs H Q E,sp vs H Q E->vs.length=ps.length)
  (hbody: ∀ (A:Around) (outer:List Env) (s:Shared) (H:Hp) (vs:List V) (Q:VK) (E:XK),Room k (A.deeper (envOfC qual (ah st) s.heap.objs.size f fd.code))->sp vs H Q E->
   ∃ t,PSs (dR CX0 P w K mg base N qual (ah st) f fd.code A outer s H E).nox (cq st) t/\t {nx:=fun _ H'=>Q .non H',rt:=Q} (gc N vs) H):FnOk P w K mg base CX0 (k+1) f fd ps sp:=by
 obtain ⟨oc,od,kV,doc,pm,an,cdv,ct,osl,rfl,lk,hcd⟩:=F.ex
 refine wF lk hcd S len fun A outer s H vs Q E hr hsp=>?_
 obtain ⟨t,h,q⟩:=hbody A outer s H vs Q E hr hsp
 exact ⟨t,h.nox,q⟩
end L2
namespace My
open PySem L2
noncomputable def fN:Fm->List Fm
 | .bin _ a b=>[a,b]
 | .whn a b c=>[a,b,c]
 | _=>[]
noncomputable def hdW:Fm->Str
 | .num _=>"num"
 | .own _=>"own"
 | .part _ _=>"part"
 | .bin op _ _=>op
 | .whn _ _ _=>"when"
noncomputable def szK:List Fm->Nat
 | []=>0
 | f::r=>f.size+szK r
theorem iU: ∀ a b:List Fm,szK (a++b)=szK a+szK b
 | [],b=>(Nat.zero_add _).symm
 | f::r,b=>by
  show f.size+szK (r++b)=f.size+szK r+szK b
  rw [iU r b,Nat.add_assoc]
theorem kQ: ∀ l:List Fm,l.length<=szK l
 | []=>Nat.le_refl _
 | f::r=>by
  have:=kQ r
  have:=f.size_pos
  show r.length+1<=f.size+szK r
  lia
theorem jX: ∀ f:Fm,f.size=szK (fN f) +1
 | .num _=>rfl
 | .own _=>rfl
 | .part _ _=>rfl
 | .bin _ a b=>by show a.size+b.size+1=a.size+ (b.size+0) +1;lia
 | .whn a b c=>by show a.size+b.size+c.size+1=a.size+ (b.size+ (c.size+0)) +1;lia
theorem wb: ∀ f:Fm,f.wf-> ∀ g∈fN f,g.wf
 | .num _,_,g,h=>by cases h
 | .own _,_,g,h=>by cases h
 | .part _ _,_,g,h=>by cases h
 | .bin op a b,hw,g,h=>by
  obtain ⟨_,h1,h2⟩:op∈ops/\a.wf/\b.wf:=hw
  rcases List.mem_cons.mp h with rfl | h
  ·exact h1
  rcases List.mem_cons.mp h with rfl | h
  ·exact h2
  ·cases h
 | .whn a b c,hw,g,h=>by
  obtain ⟨h1,h2,h3⟩:a.wf/\b.wf/\c.wf:=hw
  rcases List.mem_cons.mp h with rfl | h
  ·exact h1
  rcases List.mem_cons.mp h with rfl | h
  ·exact h2
  rcases List.mem_cons.mp h with rfl | h
  ·exact h3
  ·cases h
noncomputable def nxF:List Fm->List Fm
 | []=>[]
 | g::r=>fN g++r
noncomputable def stF (fs:List Fm):Nat->List Fm
 | 0=>fs
 | i+1=>nxF (stF fs i)
theorem oI (fs:List Fm): ∀ i,stF fs (i+1)=stF (nxF fs) i
 | 0=>rfl
 | i+1=>by
  show nxF (stF fs (i+1))=nxF (stF (nxF fs) i)
  rw [oI fs i]
theorem nj {H:Hp} {f:Fm} {v:V} (h:Rep H f v) (wf:f.wf): ∃ a r,v=.ref a/\H a=some (.tup (.str (hdW f)::r))/\r.length<=3/\(hdW f).length<=1000/\Paired (Rep H) (fN f) (ft (.str (hdW f)::r)):=by
 cases f with
 | num n=>
  obtain ⟨a,e,h⟩:=h
  refine ⟨a,_,e,h,by simp,by show ("num":Str).length<=1000;decide +kernel,?_⟩
  show Paired (Rep H) [] (if (c6 "num").isSome=true then [.int n]else [])
  rw [sh]
  exact .nil
 | own x=>
  obtain ⟨a,e,h⟩:=h
  refine ⟨a,_,e,h,by simp,by show ("own":Str).length<=1000;decide +kernel,?_⟩
  show Paired (Rep H) [] (if (c6 "own").isSome=true then [.str x]else [])
  rw [se]
  exact .nil
 | part k x=>
  obtain ⟨a,e,h⟩:=h
  refine ⟨a,_,e,h,by simp,by show ("part":Str).length<=1000;decide +kernel,?_⟩
  show Paired (Rep H) [] (if (c6 "part").isSome=true then [.int k,.str x]else [])
  rw [pG]
  exact .nil
 | bin op A B=>
  obtain ⟨a,u,w,e,h,rA,rB⟩:=h
  refine ⟨a,_,e,h,by simp,rk wf.1,?_⟩
  show Paired (Rep H) [A,B] (if (c6 op).isSome=true then _ else [])
  rw [if_pos (show (c6 op).isSome=true by rw [sf wf.1];rfl)]
  exact .cons rA (.cons rB .nil)
 | whn A B C=>
  obtain ⟨a,u,w,z,e,h,rA,rB,rC⟩:=h
  refine ⟨a,_,e,h,by simp,by show ("when":Str).length<=1000;decide +kernel,?_⟩
  show Paired (Rep H) [A,B,C] (if (c6 "when").isSome=true then _ else [])
  rw [if_pos (show (c6 "when").isSome=true by decide +kernel)]
  exact .cons rA (.cons rB (.cons rC .nil))
theorem jc {α β:Type} {F:α->β->Prop}: ∀ {a c:List α} {b d:List β},Paired F a b->Paired F c d->Paired F (a++c) (b++d)
 | _,_,_,_,.nil,h=>h
 | _,_,_,_,.cons h t,h2=>.cons h (jc t h2)
theorem xM {H:Hp}: ∀ (n:Nat) {fs:List Fm} {ws:List V},szK fs=n->(∀ f∈fs,f.wf)->Paired (Rep H) fs ws->
  ∃ out,Ts H ws out/\out.length=n/\stF fs n=[]/\ ∀ i v,out[i]? =some v-> ∃ g r,stF fs i=g::r/\Rep H g v/\g.wf/\g.size+szK r+i=n:=by
 intro n
 induction n with
 | zero=>
  intro fs ws h hw hP
  cases hP with
  | nil=>exact ⟨[],.nil,rfl,rfl,fun i v e=>by cases i <;> cases e⟩
  | @cons f v fs ws _ _=>
   have h:f.size+szK fs=0:=h
   have:=f.size_pos
   lia
 | succ n ih=>
  intro fs ws h hw hP
  cases hP with
  | nil=>cases h
  | @cons f v fs ws hR hP=>
   have h:f.size+szK fs=n+1:=h
   have wf:=hw f List.mem_cons_self
   have hk:=jX f
   obtain ⟨a,r,rfl,ha,hr,hl,hK⟩:=nj hR wf
   obtain ⟨out,h1,h2,h3,h4⟩:=ih (fs:=fN f++fs) (by rw [iU];lia) (fun g hg=>by
    rcases List.mem_append.mp hg with hg | hg
    ·exact wb f wf g hg
    ·exact hw g (List.mem_cons_of_mem _ hg)) (jc hK hP)
   refine ⟨.ref a::out,.cons ha hl hr h1,by rw [List.length_cons,h2],by rw [oI];exact h3,fun i v e=>?_⟩
   cases i with
   | zero=>
    cases e
    exact ⟨f,fs,rfl,hR,wf,by lia⟩
   | succ i=>
    obtain ⟨g,r',e1,e2,e3,e4⟩:=h4 i v e
    exact ⟨g,r',by rw [oI];exact e1,e2,e3,by lia⟩
theorem pW {C:Fm->Prop} (hC: ∀ g,C g-> ∀ k∈fN g,C k) {fs:List Fm} (h: ∀ f∈fs,C f): ∀ i,∀ f∈stF fs i,C f
 | 0=>h
 | i+1=>fun f hf=>by
  have ih:=pW hC h i
  have hf:f∈nxF (stF fs i):=hf
  cases e:stF fs i with
  | nil=>rw [e]at hf;cases hf
  | cons g r=>
   rw [e]at hf ih
   rcases List.mem_append.mp (show f∈fN g++r from hf)with z | z
   ·exact hC g (ih g List.mem_cons_self) f z
   ·exact ih f (List.mem_cons_of_mem _ z)
noncomputable def pY (Pre:Hp->Prop) (C:Fm->Prop) (val:Fm->V) (c':Addr) (oc:Obj):Sp:=fun vs H Q _=> ∃ g v p,vs=[v,.ref p]/\Rep H g v/\g.wf/\C g/\Pre H/\H p=some (.lst ((fN g).map val))/\H c'=some (fH c' oc)/\ ∀ H',Same H H'->Q (val g) H'
noncomputable def lf (P:Program) (w:World) (K:PySem.W.Frag) (mg:Str->Option Value) (base:Heap):Sp:=fun vs H Q _=>
 ∃ f v fl c' oc Pre C val,vs=[v,.ref fl]/\Rep H f v/\f.wf/\f.size<=15/\(∀ H H',Same H H'->Pre H->Pre H')/\(∀ g:Fm,C g-> ∀ k∈fN g,C k)/\C f/\Pre H/\l9 P w K mg base 3 fl (pY Pre C val c' oc)/\H c'=some (fH c' oc)/\ ∀ H',Same H H'->Q (val f) H'
noncomputable abbrev wJ:List Str:=["formula","tell","pile","one","inner"]
theorem scFold:aH wJ ["formula","tell"] (ah iF):=fsc
theorem rO (F:Fun K "folded" "folded" iF f fd) (G:Gb mg) (hrev:mg "reversed"=none)
  (GT:FnOk P w K mg base CX0 2 f2 fd2 ["formula"] mw) (bT:Binds K fd2 ["formula"] []) (kT:PySem.W.keepIn K (.ref f2)=true) (mT:mg "tuples_of"=some (.ref f2))
  (GI:FnOk P w K mg base CX0 1 f3 fd3 ["formula"] ld) (bI:Binds K fd3 ["formula"] []) (kI:PySem.W.keepIn K (.ref f3)=true) (mI:mg "inner_of"=some (.ref f3)):
  FnOk P w K mg base CX0 4 f fd ["formula","tell"] (lf P w K mg base):=by
 refine F.ok scFold (fun vs H Q E h=>?_) (fun cdv A outer s H vs Q E hr h=>?_)
 ·obtain ⟨n,t,tv,c',oc,Pre,C,val,rfl,_⟩:=h
  rfl
 obtain ⟨fm,v,fl,c',oc,Pre,C,val,rfl,hR,wf,h15,hPs,hCk,hCf,hPre,hT,hc,q⟩:=h
 refine ⟨_,ad (am (i:=2) scFold.nd rfl (Or.inr rfl) (bu ac))
  (ad (bc PassesOwn.never rfl (ud rfl hrev (al GT (hr.mono (show 2<=3 by decide)) rfl mT kT bT .nil ax (aa (pv 0) ac))) (aw (i:=3) scFold.nd rfl (Or.inl rfl))
   (ad (eG (i:=4) (te:=wU K "list" w8 (vv 1)) (sc0:=ah iF) (N0:=wJ) (ys:=["pile"]) (fr:=[2]) rfl scFold.nd rfl (Or.inl rfl)
     (bn rfl G.range (aa (aA aJ rfl G.len PySem.boot_len (aa (al GI (hr.mono (show 1<=3 by decide)) rfl mI kI bI .nil ax (aa (pv 3) ac)) ac)) ac)) rfl rfl
    cok
    (fun C s H ex=>hU PySem.F.plainAttrs_list PySem.F.slot_list_pop PySem.F.type_list_pop h8 (pv 1)))
   (aj (cG (ee PySem.F.plainAttrs_list PySem.F.slot_list_append PySem.F.type_list_append bo (pv 2) (aa
    (uj (i:=1) hT hr rfl (Or.inl rfl) (aa (pv 3) (aa (pv 4) ac))) ac))))))
  (aj (ay (hU PySem.F.plainAttrs_list PySem.F.slot_list_pop PySem.F.type_list_pop h8 (pv 2))))),?_⟩
 obtain ⟨out,hTs,hol,hend,hat⟩:=xM (H:=H) fm.size (fs:=[fm]) (ws:=[v]) rfl (fun g hg=>by
  rcases List.mem_cons.mp hg with rfl | z
  ·exact wf
  ·cases z) (.cons hR .nil)
 have hall:=pW hCk (fs:=[fm]) (fun g hg=>by
  rcases List.mem_cons.mp hg with rfl | z
  ·exact hCf
  ·cases z)
 refine ⟨(by show 0<=sizeLine;decide),fun pl hpl=>?_⟩
 have s0:=ag hpl (.lst [])
 have g0:(upd H pl (.lst [])) pl=some (.lst []):=ab
 generalize upd H pl (.lst [])=H0 at s0 g0 ⊢
 refine ⟨_,rfl,v,out,rfl,hTs.same s0,by lia,fun lv H1 S1 g1=>⟨lv,out,rfl,SqL.of g1,?_⟩⟩
 have S01:=s0.trans S1
 have gp1:=S1 _ _ g0
 have nlp:lv≠pl:=fun z=>by
  rw [z,gp1]at g1
  cases g1
  have:=fm.size_pos
  rw [<- hol]at this
  cases this
 refine qF (fun i σ H'=>i<=out.length/\ ∃ o3 o4,σ=[some v,some (.ref fl),some (.ref pl),o3,o4]/\Same H H'/\H' lv=some (.lst out)/\H' pl=some (.lst ((stF [fm] (out.length-i)).map val).reverse))
  ⟨Nat.zero_le _,none,none,rfl,S01,g1,?_⟩ (fun i σ H' _ h=>by obtain ⟨_,_,_,_,_,g,_⟩:=h;exact SqL.of g) ?_ ?_
 ·rw [Nat.sub_zero,hol,hend];exact gp1
 ·rintro i x σ H3 hi hx ⟨_,o3,o4,rfl,S3,g3,gp3⟩
  obtain ⟨g,r,e1,hRg,wg,hsz⟩:=hat _ _ hx
  have hsr:=kQ r
  have hgs:=jX g
  have hkl:=kQ (fN g)
  obtain ⟨a,r',rfl,ha,hr3,hl,hK⟩:=nj hRg wg
  have hlk:(fN g).length=(ft (.str (hdW g)::r')).length:=Paired.length hK
  rw [show out.length-i=out.length-1-i+1 by lia]at gp3
  have gp3:H3 pl=some (.lst ((nxF (stF [fm] (out.length-1-i))).map val).reverse):=gp3
  rw [e1]at gp3
  have gp3:H3 pl=some (.lst ((fN g++r).map val).reverse):=gp3
  rw [List.map_append,List.reverse_append]at gp3
  refine ⟨_,rfl,a,hdW g,r',rfl,S3 _ _ ha,by lia,fun p4 H4 s4 g4=>⟨p4,_,rfl,.inr (SqT.of g4),_,rfl,by lia,by lia,?_⟩⟩
  have gp4:=s4 _ _ gp3
  have gl4:=s4 _ _ g3
  have S4:=S3.trans s4
  refine ko (n:=(fN g).length) (by lia) (List.length_map _) gp4 (fun i H k h=>(show i<_ by lia)) (fun H k=>(show _<=_ by lia)) (fun i H v H' h=>h.1)
   (fun x H k xs y h1 h2 h3=>⟨_,rfl,.inl ⟨rfl,xs,SqL.of h1⟩,pl,xs,y,rfl,rfl,h1,h2,h3⟩) ?_
  intro p5 H5 hp5 k5 gp5 g5
  have np:p5≠pl:=fun z=>by rw [z,gp4]at hp5;cases hp5
  have S5: ∀ b o,H b=some o->H5 b=some o:=fun b o h=>k5 _ _ (S4 _ _ h) (af h hpl)
  have gl5:=k5 _ _ gl4 nlp
  refine ⟨_,rfl,.inl ⟨rfl,_,SqL.of gp5⟩,rfl,_,rfl,_,rfl,g,.ref a,p5,rfl,hRg.mono (fun b xs h=>S5 _ _ h),wg,hall _ g (by rw [e1];exact List.mem_cons_self),hPs H H5 S5 hPre,g5,S5 _ _ hc,fun H6 s6=>?_⟩
  have gp6:=s6 _ _ gp5
  refine ⟨pl,_,_,rfl,rfl,gp6,au (by rw [List.length_reverse,List.length_map];lia),?_⟩
  refine ⟨hi,_,_,rfl,fun b o h=>?_,?_,?_⟩
  ·rw [ai (af h hpl)]
   exact s6 _ _ (S5 _ _ h)
  ·rw [ai nlp];exact s6 _ _ gl5
  ·rw [ab,show out.length- (i+1)=out.length-1-i by lia,e1,List.map_cons,List.reverse_cons]
 ·rintro σ H3 ⟨_,o3,o4,rfl,S3,g3,gp3⟩
  rw [Nat.sub_self]at gp3
  refine ⟨_,rfl,.inl ⟨rfl,_,SqL.of gp3⟩,pl,_,val fm,rfl,rfl,gp3,rfl,q _ fun y oo h=>?_⟩
  rw [ai (af h hpl)]
  exact S3 _ _ h
noncomputable def rst (w n:Int):Int:=if 0<w then n%w else n
noncomputable def opI (op:Str) (a b:Int):Int:=if op="plus" then a+b else if op="less" then a-b else if op="times" then a*b else if op="least" then (if b<a then b else a)else (if b>a then b else a)
theorem nC (a b:Int):opI "plus" a b=a+b:=by unfold opI;rw [if_pos rfl]
theorem nF (a b:Int):opI "less" a b=a-b:=by unfold opI;rw [if_neg (by decide +kernel),if_pos rfl]
theorem j5 (a b:Int):opI "times" a b=a*b:=by unfold opI;rw [if_neg (by decide +kernel),if_neg (by decide +kernel),if_pos rfl]
theorem j6 (a b:Int):opI "least" a b=if b<a then b else a:=by unfold opI;rw [if_neg (by decide +kernel),if_neg (by decide +kernel),if_neg (by decide +kernel),if_pos rfl]
theorem nE (a b:Int):opI "most" a b=if b>a then b else a:=by unfold opI;rw [if_neg (by decide +kernel),if_neg (by decide +kernel),if_neg (by decide +kernel),if_neg (by decide +kernel)]
noncomputable def Fm.ev (w:Int) (ρ:Fm->Int):Fm->Int
 | .num n=>rst w n
 | .own x=>rst w (ρ (.own x))
 | .part k x=>rst w (ρ (.part k x))
 | .bin op a b=>rst w (opI op (a.ev w ρ) (b.ev w ρ))
 | .whn a b c=>rst w (if a.ev w ρ=0 then b.ev w ρ else c.ev w ρ)
noncomputable def Fm.raw (w:Int) (ρ:Fm->Int):Fm->Int
 | .num n=>n
 | .own x=>ρ (.own x)
 | .part k x=>ρ (.part k x)
 | .bin op a b=>opI op (a.ev w ρ) (b.ev w ρ)
 | .whn a b c=>if a.ev w ρ=0 then b.ev w ρ else c.ev w ρ
theorem uZ (w:Int) (ρ:Fm->Int) (f:Fm):f.ev w ρ=rst w (f.raw w ρ):=by cases f <;> rfl
noncomputable def Fm.fit (w:Int) (ρ:Fm->Int):Fm->Prop
 | .num _=>True
 | .own _=>True
 | .part _ _=>True
 | .bin op a b=>a.fit w ρ/\b.fit w ρ/\(op="times"->IntMulOk (a.ev w ρ) (b.ev w ρ))
 | .whn a b c=>a.fit w ρ/\b.fit w ρ/\c.fit w ρ
noncomputable def Fm.tld (kvs:List (List Key×V)) (ρ:Fm->Int):Fm->Prop
 | .num _=>True
 | .own x=>aP kvs [.inr "own",.inr x]=some (.int (ρ (.own x)))
 | .part k x=>aP kvs [.inr "part",.inl k,.inr x]=some (.int (ρ (.part k x)))
 | .bin _ a b=>a.tld kvs ρ/\b.tld kvs ρ
 | .whn a b c=>a.tld kvs ρ/\b.tld kvs ρ/\c.tld kvs ρ
noncomputable def evV (w:Int) (ρ:Fm->Int) (f:Fm):V:=.int (f.ev w ρ)
noncomputable def FmC (w:Int) (ρ:Fm->Int) (kvs:List (List Key×V)) (f:Fm):Prop:=f.tld kvs ρ/\f.fit w ρ
theorem FmC.kids {w:Int} {ρ:Fm->Int} {kvs:List (List Key×V)}: ∀ g,FmC w ρ kvs g-> ∀ k∈fN g,FmC w ρ kvs k
 | .num _,_,k,hk=>by cases hk
 | .own _,_,k,hk=>by cases hk
 | .part _ _,_,k,hk=>by cases hk
 | .bin op a b,⟨⟨t1,t2⟩,f1,f2,_⟩,k,hk=>by
  rcases List.mem_cons.mp hk with rfl | hk
  ·exact ⟨t1,f1⟩
  rcases List.mem_cons.mp hk with rfl | hk
  ·exact ⟨t2,f2⟩
  ·cases hk
 | .whn a b c,⟨⟨t1,t2,t3⟩,f1,f2,f3⟩,k,hk=>by
  rcases List.mem_cons.mp hk with rfl | hk
  ·exact ⟨t1,f1⟩
  rcases List.mem_cons.mp hk with rfl | hk
  ·exact ⟨t2,f2⟩
  rcases List.mem_cons.mp hk with rfl | hk
  ·exact ⟨t3,f3⟩
  ·cases hk
noncomputable def tI:Sp:=fun vs H Q _=> ∃ (op:Str) (a b:Int),vs=[.str op,.int a,.int b]/\op∈ops/\(op="times"->IntMulOk a b)/\Q (.int (opI op a b)) H
noncomputable def oJ:Sp:=fun vs H Q _=> ∃ n w:Int,vs=[.int n,.int w]/\Q (.int (rst w n)) H
noncomputable def kX:Sp:=fun vs H Q _=> ∃ (g:Fm) (v:V) (td p:Addr) (kvs:List (List Key×V)) (w:Int) (ρ:Fm->Int),vs=[v,.ref td,.ref p]/\Rep H g v/\g.wf/\H td=some (.dT kvs)/\FmC w ρ kvs g/\H p=some (.lst ((fN g).map (evV w ρ)))/\Q (.int (g.raw w ρ)) H
theorem tM:aH ["kind","first","second"] ["kind","first","second"] (ah lB):=fsc
theorem rM (F:Fun K "joined" "joined" lB f fd) (G:Gb mg):FnOk P w K mg base CX0 1 f fd ["kind","first","second"] tI:=by
 refine F.ok tM (fun vs H Q E h=>?_) (fun cdv A outer s H vs Q E hr h=>?_)
 ·obtain ⟨op,a,b,rfl,_⟩:=h
  rfl
 obtain ⟨op,a,b,rfl,ho,hm,q⟩:=h
 refine ⟨_,ad (aY (aF bh (pv 0) aT (aK _)) (aj (ay (aC aV (pv 1) (pv 2)))) aM)
  (ad (aY (aF bh (pv 0) aT (aK _)) (aj (ay (aC cT (pv 1) (pv 2)))) aM)
  (ad (aY (aF bh (pv 0) aT (aK _)) (aj (ay (aC qp (pv 1) (pv 2)))) aM)
  (ad (aY (aF bh (pv 0) aT (aK _)) (aj (ay (aA (fA rfl) rfl G.min (by decide +kernel) (aa (pv 1) (aa (pv 2) ac))))) aM)
  (aj (ay (aA (ij rfl) rfl G.max (by decide +kernel) (aa (pv 1) (aa (pv 2) ac)))))))),?_⟩
 refine ⟨_,rfl,rfl,_,rfl,?_⟩
 refine bQ (fun c=>?_) (fun c=>?_)
 ·have e:=V.str.inj (of_decide_eq_true c)
  subst e
  rw [nC]at q
  exact ⟨_,rfl,_,rfl,_,_,rfl,rfl,q⟩
 have n1:op≠"plus":=fun e=>c (by rw [e];exact decide_eq_true rfl)
 refine ⟨_,rfl,rfl,_,rfl,?_⟩
 refine bQ (fun c=>?_) (fun c=>?_)
 ·have e:=V.str.inj (of_decide_eq_true c)
  subst e
  rw [nF]at q
  exact ⟨_,rfl,_,rfl,_,_,rfl,rfl,q⟩
 have n2:op≠"less":=fun e=>c (by rw [e];exact decide_eq_true rfl)
 refine ⟨_,rfl,rfl,_,rfl,?_⟩
 refine bQ (fun c=>?_) (fun c=>?_)
 ·have e:=V.str.inj (of_decide_eq_true c)
  subst e
  rw [j5]at q
  exact ⟨_,rfl,_,rfl,_,_,rfl,rfl,hm rfl,q⟩
 have n3:op≠"times":=fun e=>c (by rw [e];exact decide_eq_true rfl)
 refine ⟨_,rfl,rfl,_,rfl,?_⟩
 refine bQ (fun c=>?_) (fun c=>?_)
 ·have e:=V.str.inj (of_decide_eq_true c)
  subst e
  rw [j6]at q
  exact ⟨_,rfl,_,rfl,_,_,rfl,q⟩
 have n4:op≠"least":=fun e=>c (by rw [e];exact decide_eq_true rfl)
 have e:op="most":=by
  have ho:op∈(["plus","less","times","least","most"]:List Str):=ho
  simp only [List.mem_cons,List.not_mem_nil,or_false]at ho
  rcases ho with h | h | h | h | h
  ·exact absurd h n1
  ·exact absurd h n2
  ·exact absurd h n3
  ·exact absurd h n4
  ·exact h
 subst e
 rw [nE]at q
 exact ⟨_,rfl,_,rfl,_,_,rfl,q⟩
theorem tK:aH ["number","wheel"] ["number","wheel"] (ah lr):=fsc
theorem rm (F:Fun K "rest_of" "rest_of" lr f fd):FnOk P w K mg base CX0 1 f fd ["number","wheel"] oJ:=by
 refine F.ok tK (fun vs H Q E h=>?_) (fun cdv A outer s H vs Q E hr h=>?_)
 ·obtain ⟨n,w,rfl,_⟩:=h
  rfl
 obtain ⟨n,w,rfl,q⟩:=h
 refine ⟨_,aj (ay (db (aF jk (pv 1) ae (aK _)) (aC cZ (pv 0) (pv 1)) (pv 0))),?_⟩
 refine ⟨_,rfl,_,_,rfl,rfl,_,rfl,?_⟩
 refine bQ (fun c=>?_) (fun c=>?_)
 ·have h0:0<w:=of_decide_eq_true c
  unfold rst at q
  rw [if_pos h0]at q
  exact ⟨_,rfl,_,rfl,_,_,rfl,rfl,h0,q⟩
 ·have h0: ¬ 0<w:=fun z=>c (decide_eq_true z)
  unfold rst at q
  rw [if_neg h0]at q
  exact ⟨_,rfl,q⟩
theorem blF {a b:Str} (h:a≠b):V.bl (decide (V.str a=V.str b))=V.bl false:=by rw [decide_eq_false (fun z=>h (V.str.inj z))]
theorem blT {a b:Str} (h:a=b):V.bl (decide (V.str a=V.str b))=V.bl true:=by rw [decide_eq_true (by rw [h])]
theorem wI {a:Str} {l:List Str} (h:a∉l):V.bl (inV (.str a) (l.map V.str))=V.bl false:=by rw [fu,decide_eq_false h]
theorem yw {a:Str} {l:List Str} (h:a∈l):V.bl (inV (.str a) (l.map V.str))=V.bl true:=by rw [fu,decide_eq_true h]
noncomputable def rdgs:List Str:=["own","part"]
theorem scWorthOf:aH ["one","told","inner","kind"] ["one","told","inner"] (ah iX):=fsc
theorem oY (F:Fun K "worth_of" "worth_of" iX f fd) (mR:mg "READINGS"=some (.ref aR)) (hR: ∀ H,SqT K H aR (rdgs.map V.str))
  (GJ:FnOk P w K mg base CX0 1 f2 fd2 ["kind","first","second"] tI) (bJ:Binds K fd2 ["kind","first","second"] []) (kJ:PySem.W.keepIn K (.ref f2)=true) (mJ:mg "joined"=some (.ref f2)):
  FnOk P w K mg base CX0 2 f fd ["one","told","inner"] kX:=by
 refine F.ok scWorthOf (fun vs H Q E h=>?_) (fun cdv A outer s H vs Q E hr h=>?_)
 ·obtain ⟨g,v,td,p,kvs,w,ρ,rfl,_⟩:=h
  rfl
 obtain ⟨g,v,td,p,kvs,w,ρ,rfl,hRg,hwf,gtd,⟨ht,hfit⟩,gp,q⟩:=h
 have hu:=dh hr
 refine ⟨_,ad (am (i:=3) scWorthOf.nd rfl (Or.inl rfl) (aq aB (pv 0) ae (fun _ _=>rfl)))
  (ad (aY (aF bh (pv 3) aT (aK _)) (aj (ay (aq aB (pv 0) ae (fun _ _=>rfl)))) aM)
  (ad (aY (aF hX (pv 3) (qo (v:=.ref aR) rfl mR rfl) (by with_unfolding_all rfl)) (aj (ay (be hu (pv 1) (pv 0) (fun _ _=>rfl)))) aM)
  (ad (aY (aF bh (pv 3) aT (aK _)) (aj (ay (db (aF bh (aq aL (pv 2) ae (fun _ _=>rfl)) ae (aK _)) (aq aL (pv 2) ae (fun _ _=>rfl)) (aq aL (pv 2) ae (fun _ _=>rfl))))) aM)
  (aj (ay (al GJ hr rfl mJ kJ bJ .nil ax (aa (pv 3) (aa (aq aL (pv 2) ae (fun _ _=>rfl)) (aa (aq aL (pv 2) ae (fun _ _=>rfl)) ac))))))))),?_⟩
 obtain ⟨a,r,rfl,ha⟩:=ja hRg
 refine ⟨_,rfl,a,_,0,.str (fG g),rfl,rfl,SqT.of ha,cf,?_⟩
 cases g with
 | num n=>
  obtain ⟨a',e,ha'⟩:=hRg
  cases e
  refine ⟨_,rfl,rfl,true,(blT rfl),dQ ?_⟩
  exact ⟨_,rfl,a,_,1,.int n,rfl,rfl,SqT.of ha',ao (j:=1) rfl,q⟩
 | own x=>
  obtain ⟨a',e,ha'⟩:=hRg
  cases e
  refine ⟨_,rfl,rfl,false,(blF (by show ("own":Str)≠"num";decide +kernel)),cp ?_⟩
  refine ⟨_,rfl,aR,_,rfl,.inr (hR H),rfl,c8,true,(yw (by show ("own":Str)∈rdgs;decide +kernel)),dQ ?_⟩
  exact ⟨_,rfl,_,rfl,td,.int (ρ (.own x)),rfl,(by rw [<- (show _=_ from ht)];exact DGet.t (k:=[.inr "own",.inr x]) gtd ha'),q⟩
 | part k x=>
  obtain ⟨a',e,ha'⟩:=hRg
  cases e
  refine ⟨_,rfl,rfl,false,(blF (by show ("part":Str)≠"num";decide +kernel)),cp ?_⟩
  refine ⟨_,rfl,aR,_,rfl,.inr (hR H),rfl,c8,true,(yw (by show ("part":Str)∈rdgs;decide +kernel)),dQ ?_⟩
  exact ⟨_,rfl,_,rfl,td,.int (ρ (.part k x)),rfl,(by rw [<- (show _=_ from ht)];exact DGet.t (k:=[.inr "part",.inl k,.inr x]) gtd ha'),q⟩
 | bin op A B=>
  obtain ⟨ho,w1,w2⟩:op∈ops/\A.wf/\B.wf:=hwf
  have hnn:op≠"num":=fun z=>by rw [z]at ho;exact absurd ho (by decide +kernel)
  have hnw:op≠"when":=fun z=>by rw [z]at ho;exact absurd ho (by decide +kernel)
  have hnr:op∉rdgs:=fun z=>by
   simp only [rdgs,List.mem_cons,List.not_mem_nil,or_false]at z
   rcases z with z | z <;> (rw [z]at ho;exact absurd ho (by decide +kernel))
  have gp:H p=some (.lst [.int (A.ev w ρ),.int (B.ev w ρ)]):=gp
  refine ⟨_,rfl,rfl,false,(blF hnn),cp ?_⟩
  refine ⟨_,rfl,aR,_,rfl,.inr (hR H),rfl,c8,false,(wI hnr),cp ?_⟩
  refine ⟨_,rfl,rfl,false,(blF hnw),cp ?_⟩
  exact ⟨_,rfl,_,rfl,p,_,0,.int (A.ev w ρ),rfl,rfl,SqL.of gp,cf,_,rfl,p,_,1,.int (B.ev w ρ),rfl,rfl,SqL.of gp,ao (j:=1) rfl,op,_,_,rfl,ho,hfit.2.2,q⟩
 | whn A B C=>
  have gp:H p=some (.lst [.int (A.ev w ρ),.int (B.ev w ρ),.int (C.ev w ρ)]):=gp
  refine ⟨_,rfl,rfl,false,(blF (by show ("when":Str)≠"num";decide +kernel)),cp ?_⟩
  refine ⟨_,rfl,aR,_,rfl,.inr (hR H),rfl,c8,false,(wI (by show ("when":Str)∉rdgs;decide +kernel)),cp ?_⟩
  refine ⟨_,rfl,rfl,true,(blT rfl),dQ ?_⟩
  refine ⟨_,rfl,p,_,0,.int (A.ev w ρ),rfl,rfl,SqL.of gp,cf,rfl,_,rfl,?_⟩
  refine bQ (fun c=>?_) (fun c=>?_)
  ·have e:=V.int.inj (of_decide_eq_true c)
   have q:Q (.int (if A.ev w ρ=0 then B.ev w ρ else C.ev w ρ)) H:=q
   rw [if_pos e]at q
   exact ⟨_,rfl,p,_,1,.int (B.ev w ρ),rfl,rfl,SqL.of gp,ao (j:=1) rfl,q⟩
  ·have e: ¬ A.ev w ρ=0:=fun e=>c (by rw [e];exact decide_eq_true rfl)
   have q:Q (.int (if A.ev w ρ=0 then B.ev w ρ else C.ev w ρ)) H:=q
   rw [if_neg e]at q
   exact ⟨_,rfl,p,_,2,.int (C.ev w ρ),rfl,rfl,SqL.of gp,ao (j:=2) rfl,q⟩
noncomputable def v7:Expr:=match cq nh with
 | [.Return (some (.Call _ [_,l] _ _)) _]=>l
 | _=>.Constant .none 0 ⟨0,0,0,0⟩
noncomputable def yY:Arguments:=match v7 with
 | .Lambda a _ _ _=>a
 | _=>{posonlyargs:=[],args:=[],vararg:=none,kwonlyargs:=[],kw_defaults:=[],kwarg:=none,defaults:=[]}
noncomputable def yX:Expr:=match v7 with
 | .Lambda _ b _ _=>b
 | _=>.Constant .none 0 ⟨0,0,0,0⟩
noncomputable def xm:Scope:=match v7 with
 | .Lambda _ _ s _=>s
 | _=>{kind:=.function,names:=[],isGenerator:=false,isCoroutine:=false}
noncomputable def lamP:Pos:=match v7 with
 | .Lambda _ _ _ p=>p
 | _=>⟨0,0,0,0⟩
theorem x4:ow ["one","inner"] ["told","wheel"] xm:=⟨rfl,rfl,rfl,by decide +kernel,by decide +kernel,by decide +kernel,by decide +kernel,by decide +kernel⟩
theorem xn:pQ (ah nh) ["formula","told","wheel"] xm ["told","wheel"] [1,2]:=⟨by decide +kernel,rfl,by decide +kernel⟩
noncomputable def TabSt (tbA:Addr) (H:Hp):Prop:=H tbA=some (.tbl #[])\/ ∃ c' oc,H tbA=some (.tbl #[rawInt lamP.line,rawInt lamP.col,.ref c'])/\c'≠tbA/\H c'=some (fH c' oc)/\iO oc ("reckoned.<locals>."++"<lambda>")
theorem TabSt.same {tbA:Addr} {H H':Hp} (s:Same H H') (h:TabSt tbA H):TabSt tbA H':=by
 rcases h with h | ⟨c',oc,h1,h2,h3,h4⟩
 ·exact .inl (s _ _ h)
 ·exact .inr ⟨c',oc,s _ _ h1,h2,s _ _ h3,h4⟩
theorem TabSt.tbl {tbA:Addr} {H:Hp} (h:TabSt tbA H): ∃ x,H tbA=some (.tbl x):=by
 rcases h with h | ⟨c',oc,h1,_⟩
 ·exact ⟨_,h⟩
 ·exact ⟨_,h1⟩
noncomputable def tF (tbA:Addr):Sp:=fun vs H Q _=> ∃ (f:Fm) (v:V) (td:Addr) (kvs:List (List Key×V)) (w:Int) (ρ:Fm->Int),vs=[v,.ref td,.int w]/\Rep H f v/\f.wf/\f.size<=15/\H td=some (.dT kvs)/\FmC w ρ kvs f/\TabSt tbA H/\ ∀ H',Kp tbA H H'->TabSt tbA H'->Q (evV w ρ f) H'
theorem nS {qual:Str} {cl:List (Str×Addr)} {fl c' td:Addr} {oc:Obj} {kvs:List (List Key×V)} {wh:Int} {ρ:Fm->Int}
  (GW:FnOk P w K mg base CX0 2 f3 fd3 ["one","told","inner"] kX) (bW:Binds K fd3 ["one","told","inner"] []) (kW:PySem.W.keepIn K (.ref f3)=true) (mW:mg "worth_of"=some (.ref f3))
  (GR:FnOk P w K mg base CX0 1 f4 fd4 ["number","wheel"] oJ) (bR:Binds K fd4 ["number","wheel"] []) (kR:PySem.W.keepIn K (.ref f4)=true) (mR:mg "rest_of"=some (.ref f4))
  (hoc:iO oc qual) (hL:qQ base cl ["told","wheel"] [.ref td,.int wh] fl c' "<lambda>" qual yY yX xm):l9 P w K mg base 3 fl (pY (fun H=>H td=some (.dT kvs)) (FmC wh ρ kvs) (evV wh ρ) c' oc):=by
 obtain ⟨⟨pm,ctv,hfl⟩,hcell,hinj,hcap,hcs⟩:=hL
 obtain ⟨vc,tq,hd,hq⟩:=hoc
 refine xk (ps:=["one","inner"]) (ys:=["told","wheel"]) (cs:=[.ref td,.int wh]) hfl hd hq x4 hcell hinj hcap hcs (fun us hl=>?_) (fun vs H Q h=>?_) (fun vs H Q h=>?_) (fun A outer s H vs Q hr h=>?_)
 ·match us,hl with
  | [_,_],_=>rfl
 ·obtain ⟨g,v,p,rfl,_⟩:=h
  rfl
 ·obtain ⟨g,v,p,rfl,_,_,_,_,_,h,_⟩:=h
  exact h
 ·obtain ⟨g,v,p,rfl,hR,wf,hC,hP,hp,_,q⟩:=h
  refine ⟨_,al GR (hr.mono (show 1<=2 by decide)) rfl mR kR bR .nil ax (aa (al GW hr rfl mW kW bW .nil ax (aa (pv 0) (aa (pv 2) (aa (pv 1) ac)))) (aa (pv 3) ac)),?_⟩
  refine ⟨_,rfl,_,rfl,_,rfl,g,v,td,p,kvs,wh,ρ,rfl,hR,wf,hP,hC,hp,_,rfl,_,wh,rfl,?_⟩
  rw [<- uZ]
  exact q H (fun _ _ h=>h)
noncomputable abbrev di:List Str:=["formula","told","wheel"]
theorem wW:aH di di (ah nh):=fsc
theorem vT (F:Fun K "reckoned" "reckoned" nh f fd) (hfc:fd.code=.ref c) (hC:PySem.W.CodeHd base c tbA) (hB:base.BuiltinsAt mg tbA)
  (GF: ∀ base,FnOk P w K mg base CX0 4 f2 fd2 ["formula","tell"] (lf P w K mg base)) (bF:Binds K fd2 ["formula","tell"] []) (kF:PySem.W.keepIn K (.ref f2)=true) (mF:mg "folded"=some (.ref f2))
  (GW: ∀ base,FnOk P w K mg base CX0 2 f3 fd3 ["one","told","inner"] kX) (bW:Binds K fd3 ["one","told","inner"] []) (kW:PySem.W.keepIn K (.ref f3)=true) (mW:mg "worth_of"=some (.ref f3))
  (GR: ∀ base,FnOk P w K mg base CX0 1 f4 fd4 ["number","wheel"] oJ) (bR:Binds K fd4 ["number","wheel"] []) (kR:PySem.W.keepIn K (.ref f4)=true) (mR:mg "rest_of"=some (.ref f4)):
  FnOk P w K mg base CX0 5 f fd di (tF tbA):=by
 refine F.okC wW (fun vs H Q E h=>?_) (fun A outer s H vs Q E hr h=>?_)
 ·obtain ⟨fm,v,td,kvs,w,ρ,rfl,_⟩:=h
  rfl
 obtain ⟨fm,v,td,kvs,wh,ρ,rfl,hR,wf,h15,gtd,hFC,hTb,q⟩:=h
 refine ⟨_,aj (ay (oU (spF:=lf P w K mg) (ys:=["told","wheel"]) (fr:=[1,2]) GF hr rfl mF kF bF (pv 0) hC hfc hB xn (fun _=>rfl) rfl)),?_⟩
 have hPs: ∀ H H':Hp,Same H H'->H td=some (.dT kvs)->H' td=some (.dT kvs):=fun H H' s h=>s _ _ h
 rcases hTb with hP | ⟨c',oc,hP,hne,hc',hoc⟩
 ·have ntd:td≠tbA:=fun z=>by rw [z,hP]at gtd;cases gtd
  refine ⟨_,rfl,#[],[.ref td,.int wh],hP,trivial,rfl,.inl ⟨rfl,fun fl c' oc base nc ncP hoc hL=>?_⟩⟩
  have ntc:td≠c':=af gtd nc
  refine ⟨fm,v,fl,c',oc,(fun H=>H td=some (.dT kvs)),FmC wh ρ kvs,evV wh ρ,rfl,hR.mono ?_,wf,h15,hPs,FmC.kids,hFC,?_,nS (GW _) bW kW mW (GR _) bR kR mR hoc hL,ab,fun H' sm=>q H' (fun b o h hb=>sm _ _ ?_) (.inr ⟨c',oc,sm _ _ ?_,ncP,sm _ _ ab,hoc⟩)⟩
  ·refine TK.trans (TK.upd fun xs e=>?_) (TK.new ?_)
   ·rw [hP]at e;cases e
   ·rw [ai ncP];exact nc
  ·show (upd (upd H tbA _) c' _) td=_
   rw [ai ntc,ai ntd];exact gtd
  ·rw [ai (af h nc),ai hb];exact h
  ·rw [ai (Ne.symm ncP),ab];rfl
 ·refine ⟨_,rfl,_,[.ref td,.int wh],hP,trivial,rfl,.inr ⟨c',oc,rfl,hc',hoc,fun fl base hL=>?_⟩⟩
  exact ⟨fm,v,fl,c',oc,(fun H=>H td=some (.dT kvs)),FmC wh ρ kvs,evV wh ρ,rfl,hR,wf,h15,hPs,FmC.kids,hFC,gtd,nS (GW _) bW kW mW (GR _) bR kR mR hoc hL,hc',fun H' sm=>q H' (fun b o h _=>sm _ _ h) (TabSt.same sm (.inr ⟨c',oc,hP,hne,hc',hoc⟩))⟩
noncomputable def jU:Sp:=fun vs H Q _=> ∃ bv bk,vs=[bv]/\RepB H bk bv/\ ∀ fa fv,H fa=some (.tup fv)->RepFs H bk.forms fv->Q (.ref fa) H
noncomputable def gf:Sp:=fun vs H Q _=> ∃ v fr,vs=[v]/\RepF H fr v/\Q (.str fr.own.name) H
noncomputable def gS:Sp:=fun vs H Q _=> ∃ v fr,vs=[v]/\RepF H fr v/\ ∀ pa,H pa=some (.tup (bE fr.parts))->Q (.ref pa) H
noncomputable def eV:Sp:=fun vs H Q _=> ∃ bv bk nm fr,vs=[bv,.str nm]/\RepB H bk bv/\BkS bk/\fr∈bk.forms/\Frm.name fr=nm/\ ∀ v H',Same H H'->RepF H' fr v->Q v H'
theorem qE {l:List Frm} (nd:(l.map Frm.name).Nodup) {a b:Frm} (ha:a∈l) (hb:b∈l) (e:a.name=b.name):a=b:=by
 obtain ⟨i,hi⟩:=List.getElem?_of_mem ha
 obtain ⟨j,hj⟩:=List.getElem?_of_mem hb
 have q1:(l.map Frm.name)[i]? =some a.name:=by rw [List.getElem?_map,hi];rfl
 have q2:(l.map Frm.name)[j]? =some a.name:=by rw [List.getElem?_map,hj,e];rfl
 have:=fe nd q1 q2
 subst this
 rw [hi]at hj
 exact Option.some.inj hj
theorem rb:aH ["book"] ["book"] (ah i7):=fsc
theorem pj (F:Fun K "forms_of" "forms_of" i7 f fd):FnOk P w K mg base CX0 1 f fd ["book"] jU:=by
 refine F.ok rb (fun vs H Q E h=>?_) (fun cdv A outer s H vs Q E hr h=>?_)
 ·obtain ⟨bv,bk,rfl,_⟩:=h
  rfl
 obtain ⟨bv,bk,rfl,⟨a,sa,fa,fv,rfl,ha,_,hfa,hF⟩,q⟩:=h
 refine ⟨_,aj (ay (aq aB (pv 0) ae (fun _ _=>rfl))),?_⟩
 exact ⟨_,rfl,a,_,2,_,rfl,rfl,SqT.of ha,ao (j:=2) rfl,q fa fv hfa hF⟩
theorem ll:aH ["form"] ["form"] (ah eW):=fsc
theorem jJ (F:Fun K "sort_of_form" "sort_of_form" eW f fd):FnOk P w K mg base CX0 1 f fd ["form"] gf:=by
 refine F.ok ll (fun vs H Q E h=>?_) (fun cdv A outer s H vs Q E hr h=>?_)
 ·obtain ⟨v,fr,rfl,_⟩:=h
  rfl
 obtain ⟨v,fr,rfl,⟨a,pa,ra,rv,rfl,ha,_⟩,q⟩:=h
 refine ⟨_,aj (ay (aq aB (pv 0) ae (fun _ _=>rfl))),?_⟩
 exact ⟨_,rfl,a,_,1,_,rfl,rfl,SqT.of ha,ao (j:=1) rfl,q⟩
theorem q9:aH ["form"] ["form"] (ah i4):=fsc
theorem ph (F:Fun K "parts_of" "parts_of" i4 f fd):FnOk P w K mg base CX0 1 f fd ["form"] gS:=by
 refine F.ok q9 (fun vs H Q E h=>?_) (fun cdv A outer s H vs Q E hr h=>?_)
 ·obtain ⟨v,fr,rfl,_⟩:=h
  rfl
 obtain ⟨v,fr,rfl,⟨a,pa,ra,rv,rfl,ha,hpa,_⟩,q⟩:=h
 refine ⟨_,aj (ay (aq aB (pv 0) ae (fun _ _=>rfl))),?_⟩
 exact ⟨_,rfl,a,_,2,_,rfl,rfl,SqT.of ha,ao (j:=2) rfl,q pa hpa⟩
theorem mX:aH ["book","name"] ["book","name"] (ah eF):=fsc
theorem lV (F:Fun K "form_named" "form_named" eF f fd)
  (GF:FnOk P w K mg base CX0 1 f2 fd2 ["book"] jU) (bF:Binds K fd2 ["book"] []) (kF:PySem.W.keepIn K (.ref f2)=true) (mF:mg "forms_of"=some (.ref f2)):FnOk P w K mg base CX0 2 f fd ["book","name"] eV:=by
 refine F.ok mX (fun vs H Q E h=>?_) (fun cdv A outer s H vs Q E hr h=>?_)
 ·obtain ⟨bv,bk,nm,fr,rfl,_⟩:=h
  rfl
 obtain ⟨bv,bk,nm,fr,rfl,hB,hok,hf,hn,q⟩:=h
 refine ⟨_,aj (ay (aq aL (ny (sc0:=ah eF) (N0:=["book","name"]) (ys:=["name"]) (fr:=[1]) rfl
   (a8 (al GF hr rfl mF kF bF .nil ax (aa (pv 0) ac))) rfl rfl
   cok
   (fun C s H ex=>aF bh (aq (r:=lG K) aB (pv 0) ae (fun _ _=>rfl)) (pv 1) (aK _))
   (fun C s H ex=>pv 0)) ae (fun _ _=>rfl))),?_⟩
 refine ⟨_,rfl,bv,bk,rfl,hB,fun fa fv hfa hF=>?_⟩
 have h10:=hok.few
 have lF:=hF.len
 refine ⟨fa,rfl,⟨fv,SqT.of hfa⟩,?_⟩
 refine jB (by lia) hF (fP hfa) (fO hfa) (jr hfa) (fun fr=>decide (Frm.name fr=nm)) (fun H fr v=>RepF H fr v) (fun t h=>h.mono t) ?_ ?_ ?_
 ·rintro fr' v H' k _ ⟨a,pa,ra,rv,rfl,ha,_⟩ s' hk
  refine ⟨_,rfl,a,_,0,_,rfl,rfl,SqT.of (s' _ _ ha),cf,_,rfl,rfl,_,rfl,?_⟩
  have:decide (V.str fr'.name=V.str nm)=decide (fr'.name=nm):=by
   by_cases c:fr'.name=nm
   ·rw [decide_eq_true c,decide_eq_true (by rw [c])]
   ·rw [decide_eq_false c,decide_eq_false fun e=>c (V.str.inj e)]
  rw [this]
  exact hk
 ·rintro fr' v H' k _ hA _ s' hk
  exact ⟨_,rfl,hk _ _ (fun _ _ h=>h) (hA.mono (aG s'))⟩
 intro p zs H' hp s' gp hz
 cases hz0:bk.forms.filter (fun fr=>decide (Frm.name fr=nm))with
 | nil=>
  have:fr∈bk.forms.filter (fun fr=>decide (Frm.name fr=nm)):=List.mem_filter.mpr ⟨hf,decide_eq_true hn⟩
  rw [hz0]at this
  cases this
 | cons fr' rest=>
  rw [hz0]at hz
  cases hz with
  | @cons _ z _ _ hz1 _=>
   have hm:fr'∈bk.forms.filter (fun fr=>decide (Frm.name fr=nm)):=by rw [hz0];exact List.mem_cons_self
   obtain ⟨m1,m2⟩:=List.mem_filter.mp hm
   have:=qE hok.nd m1 hf ((of_decide_eq_true m2).trans hn.symm)
   subst this
   exact ⟨p,_,0,z,rfl,rfl,SqL.of gp,cf,q z H' s' hz1⟩
noncomputable def jS:Sp:=fun vs H Q _=> ∃ bv bk,vs=[bv]/\RepB H bk bv/\ ∀ sa sv,H sa=some (.tup sv)->RepSs H bk.sorts sv->Q (.ref sa) H
noncomputable def io:Sp:=fun vs H Q _=> ∃ bv bk nm s,vs=[bv,.str nm]/\RepB H bk bv/\BkS bk/\s∈bk.sorts/\Srt.name s=nm/\ ∀ v H',Same H H'->RepS H' s v->Q v H'
noncomputable def tE:Sp:=fun vs H Q _=> ∃ bv bk nm s,vs=[bv,.str nm]/\RepB H bk bv/\BkS bk/\s∈bk.sorts/\Srt.name s=nm/\ ∀ b H',Same H H'->H' b=some (.tup (List.map V.str (Srt.ups s)))->Q (.ref b) H'
noncomputable def jT:Sp:=fun vs H Q _=> ∃ v fr,vs=[v]/\RepF H fr v/\ ∀ ra rv,H ra=some (.tup rv)->RepRs H fr.rules rv->Q (.ref ra) H
noncomputable def hJ (r:Rul):List Key:=[.inl r.pl,.inr r.word]
noncomputable def qi:Sp:=fun vs H Q _=> ∃ v fr,vs=[v]/\RepF H fr v/\fr.rules.length<=12/\ ∀ d kvs H',H d=none->Same H H'->H' d=some (.dT kvs)->kvs.length<=12->(∀ r∈fr.rules,∃ x,aP kvs (hJ r)=some x)->(∀ kv∈kvs,∃ r∈fr.rules,kv.1=hJ r/\Rep H' r.fm kv.2)->Q (.ref d) H'
theorem vJ {κ:Type} [DecidableEq κ] {kvs:List (κ×V)} {k:κ} {v:V} {kv:κ×V} (h:kv∈bq kvs k v):kv∈kvs\/kv.1=k/\kv.2=v:=by
 unfold bq at h
 split at h
 ·obtain ⟨p,hp,e⟩:=List.mem_map.mp h
  by_cases c:p.1=k
  ·rw [if_pos c]at e
   exact .inr ⟨by rw [<- e];exact c,by rw [<- e]⟩
  ·rw [if_neg c]at e
   exact .inl (by rw [<- e];exact hp)
 ·rcases List.mem_append.mp h with h | h
  ·exact .inl h
  ·have:kv=(k,v):=by simpa using h
   exact .inr ⟨by rw [this],by rw [this]⟩
theorem qZ:aH ["book"] ["book"] (ah iZ):=fsc
theorem pd (F:Fun K "sorts_of" "sorts_of" iZ f fd):FnOk P w K mg base CX0 1 f fd ["book"] jS:=by
 refine F.ok qZ (fun vs H Q E h=>?_) (fun cdv A outer s H vs Q E hr h=>?_)
 ·obtain ⟨bv,bk,rfl,_⟩:=h
  rfl
 obtain ⟨bv,bk,rfl,⟨a,sa,fa,fv,rfl,ha,⟨sx,hsa,hS⟩,_⟩,q⟩:=h
 refine ⟨_,aj (ay (aq aB (pv 0) ae (fun _ _=>rfl))),?_⟩
 exact ⟨_,rfl,a,_,1,_,rfl,rfl,SqT.of ha,ao (j:=1) rfl,q sa sx hsa hS⟩
theorem mV:aH ["book","name"] ["book","name"] (ah eE):=fsc
theorem lQ (F:Fun K "sort_named" "sort_named" eE f fd)
  (GF:FnOk P w K mg base CX0 1 f2 fd2 ["book"] jS) (bF:Binds K fd2 ["book"] []) (kF:PySem.W.keepIn K (.ref f2)=true) (mF:mg "sorts_of"=some (.ref f2)):FnOk P w K mg base CX0 2 f fd ["book","name"] io:=by
 refine F.ok mV (fun vs H Q E h=>?_) (fun cdv A outer s H vs Q E hr h=>?_)
 ·obtain ⟨bv,bk,nm,fr,rfl,_⟩:=h
  rfl
 obtain ⟨bv,bk,nm,fr,rfl,hB,hok,hf,hn,q⟩:=h
 refine ⟨_,aj (ay (aq aL (ny (sc0:=ah eE) (N0:=["book","name"]) (ys:=["name"]) (fr:=[1]) rfl
   (a8 (al GF hr rfl mF kF bF .nil ax (aa (pv 0) ac))) rfl rfl
   cok
   (fun C s H ex=>aF bh (aq (r:=lG K) aB (pv 0) ae (fun _ _=>rfl)) (pv 1) (aK _))
   (fun C s H ex=>pv 0)) ae (fun _ _=>rfl))),?_⟩
 refine ⟨_,rfl,bv,bk,rfl,hB,fun fa fv hfa hF=>?_⟩
 have h4:=hok.s4
 have lF:=hF.len
 refine ⟨fa,rfl,⟨fv,SqT.of hfa⟩,?_⟩
 refine jB (by lia) hF (fP hfa) (fO hfa) (jr hfa) (fun fr=>decide (Srt.name fr=nm)) (fun H fr v=>RepS H fr v) (fun t h=>h.mono t) ?_ ?_ ?_
 ·rintro sr v H' k _ ⟨a1,b1,c1,rfl,g1,_⟩ s' hk
  refine ⟨_,rfl,a1,_,0,.str sr.name,rfl,rfl,SqT.of (s' _ _ g1),cf,_,rfl,rfl,_,rfl,?_⟩
  rw [show decide (V.str sr.name=V.str nm)=decide (sr.name=nm)from decide_eq_decide.mpr ⟨fun e=>V.str.inj e,fun e=>by rw [e]⟩]
  exact hk
 ·rintro sr v H' k _ hR _ s' hk
  exact ⟨_,rfl,hk _ _ (fun _ _ h=>h) (hR.mono (aG s'))⟩
 ·intro p zs H' hp s' gp hz
  have hm:fr∈bk.sorts.filter fun fr=>decide (Srt.name fr=nm):=List.mem_filter.mpr ⟨hf,decide_eq_true hn⟩
  cases hfl:bk.sorts.filter fun fr=>decide (Srt.name fr=nm)with
  | nil=>rw [hfl]at hm;cases hm
  | cons x r=>
   rw [hfl]at hz
   cases hz with
   | @cons _ z _ zr hx _=>
    have hxm:x∈bk.sorts.filter fun fr=>decide (Srt.name fr=nm):=by rw [hfl];exact List.mem_cons_self
    have e:x=fr:=iB hok.sd (List.mem_filter.mp hxm).1 hf (by rw [of_decide_eq_true (List.mem_filter.mp hxm).2,hn])
    subst e
    exact ⟨p,_,0,z,rfl,rfl,SqL.of gp,cf,q z H' s' hx⟩
theorem x0:aH ["book","sort"] ["book","sort"] (ah wY):=fsc
theorem xf (F:Fun K "ups_of" "ups_of" wY f fd)
  (GN:FnOk P w K mg base CX0 2 f2 fd2 ["book","name"] io) (bN:Binds K fd2 ["book","name"] []) (kN:PySem.W.keepIn K (.ref f2)=true) (mN:mg "sort_named"=some (.ref f2)):FnOk P w K mg base CX0 3 f fd ["book","sort"] tE:=by
 refine F.ok x0 (fun vs H Q E h=>?_) (fun cdv A outer s H vs Q E hr h=>?_)
 ·obtain ⟨bv,bk,nm,sr,rfl,_⟩:=h
  rfl
 obtain ⟨bv,bk,nm,sr,rfl,hB,hok,hs,hn,q⟩:=h
 refine ⟨_,aj (ay (aq aB (al GN hr rfl mN kN bN .nil ax (aa (pv 0) (aa (pv 1) ac))) ae (fun _ _=>rfl))),?_⟩
 refine ⟨_,rfl,_,rfl,bv,bk,nm,sr,rfl,hB,hok,hs,hn,fun v H' s' hR=>?_⟩
 obtain ⟨a,b,c,rfl,ha,hb,hc⟩:=hR
 exact ⟨a,_,2,.ref c,rfl,rfl,SqT.of ha,ao (j:=2) rfl,q c H' s' hc⟩
theorem q5:aH ["form"] ["form"] (ah i3):=fsc
theorem pe (F:Fun K "rules_of" "rules_of" i3 f fd):FnOk P w K mg base CX0 1 f fd ["form"] jT:=by
 refine F.ok q5 (fun vs H Q E h=>?_) (fun cdv A outer s H vs Q E hr h=>?_)
 ·obtain ⟨v,fr,rfl,_⟩:=h
  rfl
 obtain ⟨v,fr,rfl,⟨a,pa,ra,rv,rfl,ha,hpa,hra,hR⟩,q⟩:=h
 refine ⟨_,aj (ay (aq aB (pv 0) ae (fun _ _=>rfl))),?_⟩
 exact ⟨_,rfl,a,_,3,_,rfl,rfl,SqT.of ha,ao (j:=3) rfl,q ra rv hra hR⟩
noncomputable abbrev xK:List Str:=["form","found","at","word","formula"]
theorem scByKey:aH xK ["form"] (ah oO):=fsc
theorem uI (F:Fun K "formulas_by_key" "formulas_by_key" oO f fd)
  (GR:FnOk P w K mg base CX0 1 f2 fd2 ["form"] jT) (bR:Binds K fd2 ["form"] []) (kR:PySem.W.keepIn K (.ref f2)=true) (mR:mg "rules_of"=some (.ref f2)):FnOk P w K mg base CX0 2 f fd ["form"] qi:=by
 refine F.ok scByKey (fun vs H Q E h=>?_) (fun cdv A outer s H vs Q E hr h=>?_)
 ·obtain ⟨v,fr,rfl,_⟩:=h
  rfl
 obtain ⟨v,fr,rfl,hF,h12,q⟩:=h
 have hu:=dh hr
 refine ⟨_,ad (am (i:=1) scByKey.nd rfl (Or.inl rfl) gu)
  (ad (bc PassesOwn.never rfl (a8 (al GR hr rfl mR kR bR .nil ax (aa (pv 0) ac)))
    (cQ rfl (aE (aw (i:=2) scByKey.nd rfl (Or.inl rfl)) (aE (aw (i:=3) scByKey.nd rfl (Or.inl rfl)) (aE (aw (i:=4) scByKey.nd rfl (Or.inl rfl)) cn))))
   (aj (da hu (pv 1) (aS (aa (pv 2) (aa (pv 3) ac))) (pv 4) rfl)))
  (aj (ay (pv 1)))),?_⟩
 refine fun d hd=>?_
 have s0:=ag hd (.dT [])
 have g0:(upd H d (.dT [])) d=some (.dT []):=ab
 generalize upd H d (.dT [])=H0 at s0 g0 ⊢
 refine ⟨_,rfl,v,fr,rfl,hF.mono (aG s0),fun ra rv hra hR=>?_⟩
 refine ⟨ra,rfl,⟨rv,SqT.of hra⟩,?_⟩
 have lR:=hR.len
 have hra':=hra
 refine cN (xs:=rv) (fun i σ H'=>i<=rv.length/\ ∃ o2 o3 o4 kvs,σ=[some v,some (.ref d),o2,o3,o4]/\Same H H'/\H' ra=some (.tup rv)/\RepRs H' fr.rules rv/\H' d=some (.dT kvs)/\kvs.length<=i/\(∀ r∈fr.rules.take i,∃ x,aP kvs (hJ r)=some x)/\ ∀ kv∈kvs,∃ r∈fr.rules,kv.1=hJ r/\Rep H' r.fm kv.2)
  ⟨Nat.zero_le _,none,none,none,[],rfl,s0,hra,hR,g0,Nat.le_refl _,fun r h=>(by cases h),fun kv h=>(by cases h)⟩ (fun i σ H' _ h=>by obtain ⟨_,_,_,_,_,_,_,g,_⟩:=h;exact SqT.of g) ?_ ?_
 ·rintro i x σ H1 hx ⟨_,o2,o3,o4,kvs,rfl,S1,gra,hR1,gd,hl,hv,hall⟩
  have hil:i<rv.length:=(List.getElem?_eq_some_iff.mp hx).1
  obtain ⟨r,hr',a,u,rfl,ha,hu'⟩:=aN hR1 hx
  refine ⟨a,_,rfl,SqT.of ha,rfl,_,_,rfl,_,_,rfl,_,_,rfl,rfl,?_⟩
  refine ⟨_,rfl,_,rfl,_,rfl,_,rfl,(by show 2<=sizeLine;decide),fun t ht=>?_⟩
  have s2:=ag ht (.tup [.int r.pl,.str r.word])
  have g2:(upd H1 t (.tup [.int r.pl,.str r.word])) t=some (.tup ((hJ r).map kV)):=ab
  generalize upd H1 t (.tup [.int r.pl,.str r.word])=H2 at s2 g2 ⊢
  refine ⟨d,_,rfl,DPut.t (s2 _ _ gd) g2 (au (by lia)),?_⟩
  have tk:TK H1 (upd H2 d (.dT (bq kvs (hJ r) u))):=fun b xs e=>by
   rw [ai (fun z=>by rw [z,gd]at e;cases e)]
   exact s2 _ _ e
  refine ⟨hil,_,_,_,_,rfl,?_,tk _ _ gra,hR1.mono tk,ab,?_,?_,?_⟩
  ·intro y o h
   rw [ai (af h hd)]
   exact s2 _ _ (S1 _ _ h)
  ·have:=bj kvs (hJ r) u
   lia
  ·intro r' hm
   rw [cD]
   by_cases c:hJ r'=hJ r
   ·rw [if_pos c];exact ⟨_,rfl⟩
   ·rw [if_neg c]
    rw [List.take_add_one,hr']at hm
    rcases List.mem_append.mp hm with h | h
    ·exact hv r' h
    ·have:r'=r:=by simpa using h
     exact absurd (by rw [this]) c
  ·intro kv hkv
   rcases vJ hkv with h | h
   ·obtain ⟨r0,h1,h0,h2⟩:=hall kv h
    exact ⟨r0,h1,h0,h2.mono tk⟩
   ·exact ⟨r,List.mem_of_getElem? hr',h.1,by rw [h.2];exact hu'.mono tk⟩
 ·rintro σ H1 ⟨_,o2,o3,o4,kvs,rfl,S1,gra,hR1,gd,hl,hv,hall⟩
  rw [<- lR,List.take_length]at hv
  exact ⟨_,rfl,q d kvs H1 hd S1 gd (by lia) hv hall⟩
noncomputable def oS (H:Hp) (v:V):List V:=match v with
 | .ref a=>(match H a with
  | some (.tup [_,.ref b])=>(match H b with
   | some (.tup vs)=>vs
   | _=>[])
  | _=>[])
 | _=>[]
theorem RepT.prt {H:Hp} {n:Nat} {t:Bt} {v:V} (h:RepT H n t v): ∃ a b,v=.ref a/\H a=some (.tup [.str t.nm,.ref b])/\H b=some (.tup (oS H v))/\Paired (RepT H n) t.ps (oS H v):=by
 cases n with
 | zero=>exact h.elim
 | succ n=>
  obtain ⟨a,b,vs,rfl,h1,h2,h3⟩:=h
  have e:oS H (.ref a)=vs:=by simp only [oS,h1,h2]
  rw [e]
  exact ⟨a,b,rfl,h1,h2,Paired.mapP h3 fun _ _ r=>RepT.up r⟩
theorem j2 {α β:Type} {F:α->β->Prop}: ∀ {l:List α} {r:List β},l.length=r.length->(∀ (i:Nat) a b,l[i]? =some a->r[i]? =some b->F a b)->Paired F l r
 | [],[],_,_=>.nil
 | [],_::_,h,_=>by cases h
 | _::_,[],h,_=>by cases h
 | a::l,b::r,h,k=>.cons (k 0 a b rfl rfl) (j2 (by rw [List.length_cons,List.length_cons]at h;lia) fun i x y e1 e2=>k (i+1) x y e1 e2)
theorem Paired.appendP {α β:Type} {F:α->β->Prop}: ∀ {a c:List α} {b d:List β},Paired F a b->Paired F c d->Paired F (a++c) (b++d)
 | _,_,_,_,.nil,h=>h
 | _,_,_,_,.cons r t,h=>.cons r (Paired.appendP t h)
theorem sD {l:Addr} {xs:List V} {fr:List Nat} {te:TE} {σ:St} {H1:Hp} {Q:VK} {α:Type} (hn:xs.length<=1000) (hl:H1 l=some (.tup xs))
  (R:Hp->α->V->Prop) (mono: ∀ {H H':Hp} {a:α} {v:V},TK H H'->R H a v->R H' a v) (g:Nat->V->α)
  (hte: ∀ i v H (k:VK),xs[i]? =some v->Same H1 H->(∀ u H',Same H H'->R H' (g i v) u->k u H')->te (some (.int ((i:Nat):Int))::some v::bi fr σ) H k)
  (hd: ∀ p zs H',H1 p=none->Same H1 H'->H' p=some (.lst zs)->zs.length=xs.length->(∀ (i:Nat) v z,xs[i]? =some v->zs[i]? =some z->R H' (g i v) z)->Q (.ref p) H'):kK fr te σ (Ite l) H1 Q:=by
 intro p hp
 refine ⟨fun i m zs H=>i<=xs.length/\m=xs.length-i/\Same H1 H/\H p=some (.lst zs)/\zs.length=i/\(∀ (j:Nat) v z,xs[j]? =some v->zs[j]? =some z->R H (g j v) z),⟨_,Nat.zero_le _,rfl,ag hp _,ab,rfl,fun j v z _ h=>by cases j <;> cases h⟩,?_⟩
 rintro i m zs H ⟨hi,hm,sm,gp,hz,hT⟩
 refine ⟨gp,?_⟩
 by_cases e:i=xs.length
 ·subst e
  exact .inl ⟨⟨xs,sm _ _ hl,rfl⟩,hd p zs H hp sm gp hz hT⟩
 ·have hlt:i<xs.length:=by lia
  refine .inr ⟨⟨xs,xs[i],sm _ _ hl,List.getElem?_eq_getElem hlt⟩,au (by lia),fun v H' hv=>?_⟩
  obtain ⟨T,x,hT0,rfl,rfl,hx⟩:=hv
  have hx:=hx xs (sm _ _ hl)
  have sT:=ag hT0 (.tup [.int ((i:Nat):Int),x])
  have gT:(upd H T (.tup [.int ((i:Nat):Int),x])) T=some (.tup [.int ((i:Nat):Int),x]):=ab
  generalize upd H T (.tup [.int ((i:Nat):Int),x])=H2 at sT gT ⊢
  refine ⟨T,_,_,rfl,gT,?_⟩
  refine hte i x H2 _ hx (sm.trans sT) fun u H3 s3 r=>?_
  have gp3:=s3 _ _ (sT _ _ gp)
  have tk:TK H3 (upd H3 p (.lst (zs++[u]))):=TK.lst gp3
  refine ⟨gp3,xs.length- (i+1),by lia,by lia,rfl,?_,ab,by rw [List.length_append,hz];rfl,fun j v z e1 e2=>?_⟩
  ·intro b o hb
   rw [ai (af hb hp)]
   exact s3 _ _ (sT _ _ (sm _ _ hb))
  ·by_cases c:j<zs.length
   ·rw [List.getElem?_append_left c]at e2
    exact mono (((aG sT).trans (aG s3)).trans tk) (hT j v z e1 e2)
   ·rw [List.getElem?_append_right (by lia)]at e2
    have:j-zs.length=0:=by
     have:=(List.getElem?_eq_some_iff.mp e2).1
     have l1:([u]:List V).length=1:=rfl
     lia
    rw [this]at e2
    cases e2
    have:j=i:=by lia
    subst this
    rw [hx]at e1
    cases e1
    exact mono tk r
noncomputable def cX (pl:List Nat):List Key:=pl.map fun (k:Nat)=>(Sum.inl ((k:Nat):Int):Key)
theorem uQ (pl:List Nat):(cX pl).map kV=plV pl:=by
 unfold cX plV
 rw [List.map_map]
 rfl
theorem kc: ∀ {a b:List Nat},cX a=cX b->a=b
 | [],[],_=>rfl
 | [],_::_,h=>by cases h
 | _::_,[],h=>by cases h
 | x::a,y::b,h=>by
  have h:(Sum.inl ((x:Nat):Int):Key)::cX a=(Sum.inl ((y:Nat):Int):Key)::cX b:=h
  rw [List.cons.injEq]at h
  have e:((x:Nat):Int)=((y:Nat):Int):=Sum.inl.inj h.1
  rw [kc h.2,show x=y by lia]
noncomputable def cY:List (List Nat×Bt)->List (List Nat)
 | []=>[]
 | (pl,u)::r=>u.places.map (fun p=>pl++p)++cY r
theorem gk: ∀ (a b:List (List Nat×Bt)),cY (a++b)=cY a++cY b
 | [],b=>rfl
 | (pl,u)::r,b=>by
  show u.places.map _++cY (r++b)=(u.places.map _++cY r)++cY b
  rw [gk r b,List.append_assoc]
noncomputable def kids (pl:List Nat):Nat->List Bt->List (List Nat×Bt)
 | _,[]=>[]
 | k,x::r=>(pl++[k],x)::kids pl (k+1) r
theorem nU (pl:List Nat): ∀ (l:List Bt) (k:Nat),(kids pl k l).length=l.length
 | [],_=>rfl
 | _::r,k=>by show (kids pl (k+1) r).length+1=r.length+1;rw [nU pl r (k+1)]
theorem nT (pl:List Nat): ∀ (l:List Bt) (k:Nat),(kids pl k l).map (·.2)=l
 | [],_=>rfl
 | t::r,k=>by
  show t::(kids pl (k+1) r).map (·.2)=t::r
  rw [nT pl r (k+1)]
theorem nV (pl:List Nat): ∀ (l:List Bt) (k i:Nat) (q:List Nat×Bt),(kids pl k l)[i]? =some q-> ∃ x,l[i]? =some x/\q=(pl++[k+i],x)
 | [],_,i,q,h=>by cases i <;> cases h
 | x::r,k,0,q,h=>by cases h;exact ⟨x,rfl,rfl⟩
 | x::r,k,i+1,q,h=>by
  obtain ⟨y,h1,h2⟩:=nV pl r (k+1) i q h
  exact ⟨y,h1,by rw [h2,show k+1+i=k+ (i+1) by lia]⟩
theorem i9 (pl:List Nat): ∀ (l:List Bt) (k:Nat),cY (kids pl k l)=(cj k l).map (fun p=>pl++p)
 | [],k=>by rw [dH];rfl
 | x::r,k=>by
  show x.places.map (fun p=>(pl++[k])++p)++cY (kids pl (k+1) r)=_
  rw [i9 pl r (k+1),dm,List.map_append,List.map_map]
  congr 1
  refine List.map_congr_left fun p _=>?_
  show (pl++[k])++p=pl++(k::p)
  rw [List.append_assoc];rfl
theorem jZ: ∀ (l:List (List Nat×Bt)),l.length<=(cY l).length
 | []=>Nat.le_refl _
 | (pl,u)::r=>by
  show r.length+1<=(u.places.map _++cY r).length
  rw [List.length_append,List.length_map]
  have:=jZ r
  have h:=gN u
  unfold Bt.sz at h
  lia
theorem gq {l:List Bt} {k:Nat} {p:List Nat} (h:p∈cj k l): ∃ j p',p=(k+j)::p':=by
 obtain ⟨j,u,p',_,e,_⟩:=fc h
 exact ⟨j,p',e⟩
theorem fE {α β:Type} {g:α->β} (hg: ∀ a b,g a=g b->a=b): ∀ {l:List α},l.Nodup->(l.map g).Nodup
 | [],_=>List.nodup_nil
 | a::l,h=>by
  rw [List.map_cons,List.nodup_cons]
  rw [List.nodup_cons]at h
  refine ⟨fun z=>?_,fE hg h.2⟩
  obtain ⟨b,hb,e⟩:=List.mem_map.mp z
  exact h.1 (hg _ _ e▸hb)
theorem fD: ∀ (l:List Bt),(∀ x∈l,x.places.Nodup)-> ∀ k,(cj k l).Nodup
 | [],_,k=>by rw [dH];exact List.nodup_nil
 | x::r,h,k=>by
  rw [dm,List.nodup_append]
  refine ⟨fE (fun a b e=>(List.cons.inj e).2) (h x List.mem_cons_self),fD r (fun y hy=>h y (List.mem_cons_of_mem _ hy)) (k+1),fun a ha b hb e=>?_⟩
  obtain ⟨p,_,rfl⟩:=List.mem_map.mp ha
  obtain ⟨j,p',rfl⟩:=gq hb
  have:=(List.cons.inj e).1
  lia
theorem gn: ∀ (n:Nat) (t:Bt),t.sz<=n->t.places.Nodup
 | 0,t,h=>by have:=gN t;lia
 | n+1,t,h=>by
  have e:=iS t
  rw [dY,List.nodup_cons]
  refine ⟨fun z=>?_,fD _ (fun x hx=>gn n x ?_) 0⟩
  ·obtain ⟨j,p',q⟩:=gq z
   cases q
  ·have:=fg hx
   lia
noncomputable def RepP (H:Hp) (n:Nat) (q:List Nat×Bt) (z:V):Prop:= ∃ c a u,z=.ref c/\H c=some (.tup [.ref a,u])/\H a=some (.tup (plV q.1))/\RepT H n q.2 u
theorem RepP.mono {H H':Hp} {n:Nat} {q:List Nat×Bt} {z:V} (t:TK H H') (h:RepP H n q z):RepP H' n q z:=by
 obtain ⟨c,a,u,e,h1,h2,h3⟩:=h
 exact ⟨c,a,u,e,t _ _ h1,t _ _ h2,h3.mono t⟩
noncomputable def jV:Sp:=fun vs H Q _=> ∃ n t tv,vs=[tv]/\RepT H n t tv/\t.sz<=1000/\ ∀ d kvs H',H d=none->Same H H'->H' d=some (.dT kvs)->kvs.map (·.1)=t.places.map cX->Paired (RepT H' n) t.subs (kvs.map (·.2))->Q (.ref d) H'
noncomputable abbrev ou:List Str:=["tree","boughs","waiting","pair","below"]
theorem scByPlace:aH ou ["tree"] (ah gj):=fsc
theorem pp (F:Fun K "boughs_by_place" "boughs_by_place" gj f fd) (hen:mg "enumerate"=none):FnOk P w K mg base CX0 1 f fd ["tree"] jV:=by
 refine F.ok scByPlace (fun vs H Q E h=>?_) (fun cdv A outer s H vs Q E hr h=>?_)
 ·obtain ⟨n,t,tv,rfl,_⟩:=h
  rfl
 obtain ⟨n,t,tv,rfl,hT,hsz,q⟩:=h
 have hu:=dh hr
 refine ⟨_,ad (am (i:=1) scByPlace.nd rfl (Or.inl rfl) gu)
  (ad (am (i:=2) scByPlace.nd rfl (Or.inl rfl) (bu (aa (aS (aa (aS ac) (aa (pv 0) ac))) ac)))
  (ad (nr PassesOwn.never (nq (pv 2) (fun _=>rfl))
   (ad (am (i:=3) scByPlace.nd rfl (Or.inr rfl) (hU PySem.F.plainAttrs_list PySem.F.slot_list_pop PySem.F.type_list_pop h8 (pv 2)))
   (ad (da hu (pv 1) (aq aB (pv 3) ae (fun _ _=>rfl)) (aq aB (pv 3) ae (fun _ _=>rfl)) rfl)
   (ad (tZ (i:=4) (sc0:=ah gj) (N0:=ou) (ys:=["pair"]) (fr:=[3]) rfl scByPlace.nd rfl (Or.inl rfl) (qm rfl hen (aa (aq aB (aq aB (pv 3) ae (fun _ _=>rfl)) ae (fun _ _=>rfl)) ac)) rfl rfl
    ⟨rfl,by decide +kernel,by decide +kernel,by decide +kernel,by decide +kernel,by decide +kernel,by decide +kernel,rfl,by decide +kernel⟩
    (fun C s H ex=>aS (aa (aC (r:=tV K) nB (aq (r:=lG K) aB (pv 2) ae (fun _ _=>rfl)) (aS (aa (pv 0) ac))) (aa (pv 1) ac))))
   (aj (cG (ee PySem.F.plainAttrs_list PySem.F.slot_list_extend PySem.F.type_list_extend ka (pv 2) (aa (lM (pv 4) (ip eR ae)) ac))))))))
  (aj (ay (pv 1))))),?_⟩
 refine fun d hd=>?_
 have s0:=ag hd (.dT [])
 have g0:(upd H d (.dT [])) d=some (.dT []):=ab
 generalize upd H d (.dT [])=H0 at s0 g0 ⊢
 refine ⟨(by show 0<=sizeLine;decide),fun e0 he0=>?_⟩
 have s1:=ag he0 (.tup [])
 have g1:(upd H0 e0 (.tup [])) e0=some (.tup []):=ab
 generalize upd H0 e0 (.tup [])=H1 at s1 g1 ⊢
 refine ⟨_,rfl,(by show 2<=sizeLine;decide),fun c0 hc0=>?_⟩
 have s2:=ag hc0 (.tup [.ref e0,tv])
 have g2:(upd H1 c0 (.tup [.ref e0,tv])) c0=some (.tup [.ref e0,tv]):=ab
 generalize upd H1 c0 (.tup [.ref e0,tv])=H2 at s2 g2 ⊢
 refine ⟨(by show 1<=sizeLine;decide),fun l hl=>?_⟩
 have s3:=ag hl (.lst [.ref c0])
 have g3:(upd H2 l (.lst [.ref c0])) l=some (.lst [.ref c0]):=ab
 generalize upd H2 l (.lst [.ref c0])=H3 at s3 g3 ⊢
 have S3:Same H H3:=((s0.trans s1).trans s2).trans s3
 have hl0:H l=none:=((s0.trans s1).trans s2).free hl
 have hld:l≠d:=fun z=>by rw [z,s2 _ _ (s1 _ _ g0)]at hl;cases hl
 refine ⟨fun m σ H'=> ∃ (Wt:List (List Nat×Bt)) (ws:List V) (kvs:List (List Key×V)) (done:List (List Nat)) (dn:List Bt) (o3 o4:Option V),σ=[some tv,some (.ref d),some (.ref l),o3,o4]/\Same H H'/\H' d=some (.dT kvs)/\H' l=some (.lst ws.reverse)/\
   Paired (RepP H' n) Wt ws/\kvs.map (·.1)=done.map cX/\done++cY Wt=t.places/\Paired (RepT H' n) dn (kvs.map (·.2))/\dn++cB (Wt.map (·.2))=t.subs/\m=(cY Wt).length,
  ⟨_,[([],t)],[.ref c0],[],[],[],none,none,rfl,S3,s3 _ _ (s2 _ _ (s1 _ _ g0)),g3,.cons ⟨c0,e0,tv,rfl,s3 _ _ g2,s3 _ _ (s2 _ _ g1),hT.mono (aG S3)⟩ .nil,rfl,?_,.nil,jQ t,rfl⟩,?_⟩
 ·show []++(t.places.map (fun p=>[]++p)++[])=t.places
  rw [List.append_nil,List.nil_append]
  exact List.map_id _
 clear g3 S3 s3 g2 s2 g1 s1 g0 s0 hl hc0 he0
 rintro m σ H4 ⟨Wt,ws,kvs,done,dn,o3,o4,rfl,S4,gd,gl,hP,hk,hall,hdn,hsub,rfl⟩
 have hlen:done.length+ (cY Wt).length=t.sz:=by
  have:=congrArg List.length hall
  rw [List.length_append]at this
  exact this
 refine ⟨_,rfl,_,.inl ⟨ws.reverse,SqL.of gl,rfl⟩,?_⟩
 cases hP with
 | nil=>
  refine cp ?_
  have e:done=t.places:=by rw [<- hall];exact (List.append_nil _).symm
  have e2:dn=t.subs:=by rw [<- hsub];show dn=dn++cB [];rw [cF,List.append_nil]
  exact ⟨_,rfl,q d kvs H4 hd S4 gd (by rw [hk,e]) (by rw [<- e2];exact hdn)⟩
 | @cons qh z W' rs hz hP'=>
  have ne:(!((z::rs).reverse).isEmpty)=true:=by simp
  refine bQ (fun _=>?_) (fun c=>absurd ne c)
  refine ⟨_,fun σ' H'' h=>h,?_⟩
  rw [List.reverse_cons]at gl
  refine ⟨_,rfl,.inl ⟨rfl,_,SqL.of gl⟩,l,_,z,rfl,rfl,gl,by simp,?_⟩
  rw [List.dropLast_concat]
  obtain ⟨pl,u⟩:=qh
  have tk5:TK H4 (upd H4 l (.lst rs.reverse)):=TK.lst gl
  have S5:Same H (upd H4 l (.lst rs.reverse)):=fun y oo h=>by
   rw [ai (af h hl0)]
   exact S4 _ _ h
  have gl5:(upd H4 l (.lst rs.reverse)) l=some (.lst rs.reverse):=ab
  have gd5:(upd H4 l (.lst rs.reverse)) d=some (.dT kvs):=by rw [ai (Ne.symm hld)];exact gd
  have hz5:=RepP.mono tk5 hz
  have hP5:Paired (RepP (upd H4 l (.lst rs.reverse)) n) W' rs:=Paired.mapP hP' fun _ _ r=>r.mono tk5
  have hd5:Paired (RepT (upd H4 l (.lst rs.reverse)) n) dn (kvs.map (·.2)):=Paired.mapP hdn fun _ _ r=>r.mono tk5
  generalize upd H4 l (.lst rs.reverse)=H5 at tk5 S5 gl5 gd5 hz5 hP5 hd5 ⊢
  clear hz hP' gl gd S4 tk5 hdn
  obtain ⟨c,a,uv,rfl,hc,ha,hu5⟩:=hz5
  have hrest:cY ((pl,u)::W')=pl::((cj 0 u.ps).map (fun p=>pl++p)++cY W'):=by
   show u.places.map (fun p=>pl++p)++cY W'=_
   rw [dY,List.map_cons,List.append_nil];rfl
  rw [hrest]at hall hlen ⊢
  rw [List.length_cons]at hlen
  have hnew:aP kvs (cX pl)=none:=by
   cases hv:aP kvs (cX pl)with
   | none=>rfl
   | some v=>
    have hm:=vq hv
    rw [hk]at hm
    obtain ⟨p',hp',e⟩:=List.mem_map.mp hm
    rw [kc e]at hp'
    have nd:=gn t.sz t (Nat.le_refl _)
    rw [<- hall,List.nodup_append]at nd
    exact absurd rfl (nd.2.2 pl hp' pl List.mem_cons_self)
  have lkv:kvs.length=done.length:=by
   have:=congrArg List.length hk
   rw [List.length_map,List.length_map]at this
   exact this
  refine ⟨_,rfl,c,_,1,uv,rfl,rfl,SqT.of hc,ao (j:=1) rfl,_,rfl,_,rfl,c,_,0,.ref a,rfl,rfl,SqT.of hc,ao (j:=0) rfl,d,_,rfl,DPut.t gd5 (k:=cX pl) (by rw [uQ];exact ha) (au (by lia)),?_⟩
  rw [tX _ hnew]
  have tk6:TK H5 (upd H5 d (.dT (kvs++[(cX pl,uv)]))):=fun b xs e=>by
   rw [ai (fun z=>by rw [z,gd5]at e;cases e)];exact e
  have S6:Same H (upd H5 d (.dT (kvs++[(cX pl,uv)]))):=fun y oo h=>by
   rw [ai (af h hd)]
   exact S5 _ _ h
  have gl6:(upd H5 d (.dT (kvs++[(cX pl,uv)]))) l=some (.lst rs.reverse):=by rw [ai hld];exact gl5
  have gd6:(upd H5 d (.dT (kvs++[(cX pl,uv)]))) d=some (.dT (kvs++[(cX pl,uv)])):=ab
  have hc6:=tk6 _ _ hc
  have ha6:=tk6 _ _ ha
  have hu6:=hu5.mono tk6
  have hP6:Paired (RepP (upd H5 d (.dT (kvs++[(cX pl,uv)]))) n) W' rs:=Paired.mapP hP5 fun _ _ r=>r.mono tk6
  have hd6:Paired (RepT (upd H5 d (.dT (kvs++[(cX pl,uv)]))) n) dn (kvs.map (·.2)):=Paired.mapP hd5 fun _ _ r=>r.mono tk6
  generalize upd H5 d (.dT (kvs++[(cX pl,uv)]))=H6 at tk6 S6 gl6 gd6 hc6 ha6 hu6 hP6 hd6 ⊢
  clear hc ha hu5 hP5 hd5 gl5 gd5 S5 tk6
  obtain ⟨ua,ub,rfl,hua,hub,hps⟩:=hu6.prt
  have hpl:u.ps.length=(oS H6 (.ref ua)).length:=Paired.length hps
  have hszu:(cj 0 u.ps).length=szL u.ps:=dI _ _
  have hkl:=pU u.ps
  rw [List.length_append,List.length_map]at hlen
  refine ⟨_,rfl,c,_,1,.ref ua,rfl,rfl,SqT.of hc6,ao (j:=1) rfl,ua,_,1,.ref ub,rfl,rfl,SqT.of hua,ao (j:=1) rfl,ub,_,rfl,hub,?_⟩
  refine sD (by lia) hub (fun H q z=> ∃ c a,z=.ref c/\H c=some (.tup [.ref a,q.2])/\H a=some (.tup q.1)) (fun t ⟨c,a,e,h1,h2⟩=>⟨c,a,e,t _ _ h1,t _ _ h2⟩) (fun i v=>(plV pl++[V.int ((i:Nat):Int)],v)) ?_ ?_
  ·intro i v H7 k hv s7 hk7
   refine ⟨_,rfl,c,_,0,.ref a,rfl,rfl,SqT.of (s7 _ _ hc6),ao (j:=0) rfl,_,rfl,(by show 1<=sizeLine;decide),fun q1 hq1=>?_⟩
   have s8:=ag hq1 (.tup [V.int ((i:Nat):Int)])
   have g8:(upd H7 q1 (.tup [V.int ((i:Nat):Int)])) q1=some (.tup [V.int ((i:Nat):Int)]):=ab
   generalize upd H7 q1 (.tup [V.int ((i:Nat):Int)])=H8 at s8 g8 ⊢
   have ha8:=s8 _ _ (s7 _ _ ha6)
   have lpl:(plV pl).length=pl.length:=List.length_map _
   have hplm:pl∈t.places:=by rw [<- hall];exact List.mem_append_right _ List.mem_cons_self
   have hshort:=gm t.sz t (Nat.le_refl _) pl hplm
   have fin: ∀ (b:Addr) (H9:Hp),Same H8 H9->H9 b=some (.tup (plV pl++[V.int ((i:Nat):Int)]))-> ∀ p,H9 p=none->k (.ref p) (upd H9 p (.tup [.ref b,v])):=fun b H9 s9 gb p hp=>
    hk7 _ _ ((s8.trans s9).trans (ag hp _)) ⟨p,b,rfl,ab,(ag hp _) _ _ gb⟩
   refine ⟨a,q1,_,_,rfl,rfl,SqT.of ha8,SqT.of g8,?_,fun e=>?_,fun _ e=>(by cases e),fun _ _ b hb=>?_⟩
   ·rw [lpl];exact Nat.le_of_lt (au (by show pl.length+1<=1000;lia))
   ·refine ⟨_,rfl,(by show 2<=sizeLine;decide),fun p hp=>fin q1 H8 (fun _ _ h=>h) (by rw [e];exact g8) p hp⟩
   ·refine ⟨_,rfl,(by show 2<=sizeLine;decide),fun p hp=>fin b _ (ag hb _) ab p hp⟩
  ·intro pb zb H7 hpb s7 gpb lzb hzb
   have gl7:=s7 _ _ gl6
   refine ⟨_,rfl,.inl ⟨rfl,_,SqL.of gl7⟩,_,rfl,_,rfl,pb,zb,-1,rfl,rfl,SqL.of gpb,by decide,fun b hb=>?_⟩
   rw [gO]
   have s8:=ag hb (.lst zb.reverse)
   have g8:(upd H7 b (.lst zb.reverse)) b=some (.lst zb.reverse):=ab
   generalize upd H7 b (.lst zb.reverse)=H8 at s8 g8 ⊢
   have gl8:=s8 _ _ gl7
   have S8:Same H6 H8:=s7.trans s8
   have lrs:W'.length=rs.length:=Paired.length hP6
   have lW:=jZ W'
   refine ⟨l,b,_,_,rfl,rfl,gl8,g8,?_,?_⟩
   ·rw [List.length_reverse,List.length_reverse]
    exact Nat.le_of_lt (au (by lia))
   have tk9:TK H8 (upd H8 l (.lst (rs.reverse++zb.reverse))):=TK.lst gl8
   have hrk:cY (kids pl 0 u.ps++W')=(cj 0 u.ps).map (fun p=>pl++p)++cY W':=by rw [gk,i9]
   refine ⟨_,?_,kids pl 0 u.ps++W',zb++rs,kvs++[(cX pl,.ref ua)],done++[pl],dn++[u],_,_,rfl,?_,?_,?_,?_,?_,?_,?_,?_,rfl⟩
   ·rw [hrk,List.length_cons];lia
   ·intro y oo h
    rw [ai (af h hl0)]
    exact S8 _ _ (S6 _ _ h)
   ·rw [ai (Ne.symm hld)];exact S8 _ _ gd6
   ·rw [ab,List.reverse_append]
   ·refine Paired.appendP (j2 (by rw [nU,lzb];exact hpl) fun i qq z e1 e2=>?_) (Paired.mapP hP6 fun _ _ r=>(r.mono (aG S8)).mono tk9)
    obtain ⟨x,hx,rfl⟩:=nV pl u.ps 0 i qq e1
    obtain ⟨xv,hxv,rx⟩:=aZ hps hx
    obtain ⟨c',a',rfl,h1,h2⟩:=hzb i xv z hxv e2
    refine ⟨c',a',xv,rfl,tk9 _ _ (s8 _ _ h1),tk9 _ _ (s8 _ _ ?_),(rx.mono (aG S8)).mono tk9⟩
    rw [h2]
    show some (HO.tup (plV pl++[V.int ((i:Nat):Int)]))=some (HO.tup (plV (pl++[0+i])))
    rw [Nat.zero_add]
    unfold plV
    rw [List.map_append];rfl
   ·rw [List.map_append,List.map_append,hk];rfl
   ·rw [hrk,List.append_assoc];exact hall
   ·rw [List.map_append]
    exact Paired.appendP (Paired.mapP hd6 fun _ _ r=>(r.mono (aG S8)).mono tk9) (.cons ((hu6.mono (aG S8)).mono tk9) .nil)
   ·rw [<- hsub,List.map_append,nT,List.map_cons,fh,List.append_assoc];rfl
open Builtin.Int (intBits)
theorem vF (n:Int):rst 0 n=n:=if_neg (Int.lt_irrefl 0)
noncomputable def rdF (fr:Frm) (g:Fm):Prop:= ∃ (j:Nat) (q:Srt) (x:Str),g=.part (j:Int) x/\fr.parts[j]? =some q/\x∈q.ups
structure PkB (bk:Bk):Prop where
 s:BkS bk
 dn: ∀ s∈bk.sorts,s.downs=[]
 fo: ∀ fr∈bk.forms,∀ r∈fr.rules,r.fm.wfp (rdF fr)/\r.fm.lvl
noncomputable def lk:List Str->List Int->Str->Int
 | y::ys,n::ns,x=>if y=x then n else lk ys ns x
 | _,_,_=>0
theorem uN: ∀ {ys:List Str} {ns:List Int} {i:Nat} {x:Str} {n:Int},ys.Nodup->ys[i]? =some x->ns[i]? =some n->lk ys ns x=n
 | [],_,i,_,_,_,h,_=>by cases i <;> cases h
 | _::_,[],i,_,_,_,_,h=>by cases i <;> cases h
 | y::ys,m::ns,0,x,n,_,h1,h2=>by
  cases h1
  cases h2
  exact if_pos rfl
 | y::ys,m::ns,i+1,x,n,nd,h1,h2=>by
  have h1:ys[i]? =some x:=h1
  have h2:ns[i]? =some n:=h2
  obtain ⟨n1,n2⟩:=List.nodup_cons.mp nd
  show (if y=x then m else lk ys ns x)=n
  rw [if_neg (fun e=>n1 (by rw [e];exact List.mem_of_getElem? h1))]
  exact uN n2 h1 h2
theorem qO (B:Nat):intBits (0:Int)<=B:=intBits_le_iff.mpr (by show 0<2^B;exact Nat.pow_pos (by decide))
theorem qz {B:Nat}: ∀ {ys:List Str} {ns:List Int} {x:Str},(∀ n∈ns,intBits n<=B)->intBits (lk ys ns x)<=B
 | [],ns,x,_=>by unfold lk;exact qO B
 | _::_,[],x,_=>by unfold lk;exact qO B
 | y::ys,m::ns,x,h=>by
  show intBits (if y=x then m else lk ys ns x)<=B
  by_cases c:y=x
  ·rw [if_pos c];exact h m List.mem_cons_self
  ·rw [if_neg c];exact qz fun n hn=>h n (List.mem_cons_of_mem _ hn)
noncomputable def eP (fr:Frm) (rows:List (List Int)):Fm->Int
 | .part k x=>match fr.parts[k.toNat]?,rows[k.toNat]? with
  | some q,some r=>lk q.ups r x
  | _,_=>0
 | _=>0
theorem tT {fr:Frm} {rows:List (List Int)} {j:Nat} {q:Srt} {r:List Int} {x:Str} (h1:fr.parts[j]? =some q) (h2:rows[j]? =some r):eP fr rows (.part (j:Int) x)=lk q.ups r x:=by
 show (match fr.parts[((j:Nat):Int).toNat]?,rows[((j:Nat):Int).toNat]? with
  | some q,some r=>lk q.ups r x
  | _,_=>0)=lk q.ups r x
 rw [Int.toNat_natCast,h1,h2]
theorem tS {fr:Frm} {rows:List (List Int)} {B:Nat->Nat} (hB: ∀ j r,rows[j]? =some r-> ∀ n∈r,intBits n<=B j) (j:Nat) (x:Str):intBits (eP fr rows (.part (j:Int) x))<=B j:=by
 show intBits (match fr.parts[((j:Nat):Int).toNat]?,rows[((j:Nat):Int).toNat]? with
  | some q,some r=>lk q.ups r x
  | _,_=>0)<=B j
 rw [Int.toNat_natCast]
 cases h1:fr.parts[j]? with
 | none=>exact qO _
 | some q=>
  cases h2:rows[j]? with
  | none=>exact qO _
  | some r=>exact qz (hB j r h2)
noncomputable def bs (B:Nat->Nat) (S:List Int):Nat:=(if (0:Int)∈S then B 0 else 0) + (if (1:Int)∈S then B 1 else 0) + (if (2:Int)∈S then B 2 else 0)
theorem gD {a b:Prop} [Decidable a] [Decidable b] {x:Nat} (h:a->b):(if a then x else 0)<=(if b then x else 0):=by
 by_cases c:a
 ·rw [if_pos c,if_pos (h c)];exact Nat.le_refl _
 ·rw [if_neg c];exact Nat.zero_le _
theorem l4 {a b d:Prop} [Decidable a] [Decidable b] [Decidable d] {x:Nat} (h1:a->d) (h2:b->d) (h:a-> ¬ b):(if a then x else 0) + (if b then x else 0)<=(if d then x else 0):=by
 by_cases c:a
 ·rw [if_pos c,if_neg (h c),if_pos (h1 c)];exact Nat.le_refl _
 ·rw [if_neg c,Nat.zero_add];exact gD h2
theorem pE {a:Prop} [Decidable a] {x:Nat}:(if a then x else 0)<=x:=by
 by_cases c:a
 ·rw [if_pos c];exact Nat.le_refl _
 ·rw [if_neg c];exact Nat.zero_le _
theorem qN {B:Nat->Nat} {S T:List Int} (h: ∀ k∈S,k∈T):bs B S<=bs B T:=
 Nat.add_le_add (Nat.add_le_add (gD (h 0)) (gD (h 1))) (gD (h 2))
theorem wv {B:Nat->Nat} {S T:List Int} (h: ∀ k∈S,k∉T):bs B S+bs B T<=bs B (S++T):=by
 have h0:=l4 (x:=B 0) (a:=(0:Int)∈S) (b:=(0:Int)∈T) (d:=(0:Int)∈S++T) (List.mem_append_left _) (List.mem_append_right _) (h 0)
 have h1:=l4 (x:=B 1) (a:=(1:Int)∈S) (b:=(1:Int)∈T) (d:=(1:Int)∈S++T) (List.mem_append_left _) (List.mem_append_right _) (h 1)
 have h2:=l4 (x:=B 2) (a:=(2:Int)∈S) (b:=(2:Int)∈T) (d:=(2:Int)∈S++T) (List.mem_append_left _) (List.mem_append_right _) (h 2)
 unfold bs
 lia
theorem vg (B:Nat->Nat) (S:List Int):bs B S<=B 0+B 1+B 2:=Nat.add_le_add (Nat.add_le_add pE pE) pE
theorem vN {op:Str} {a b:Int} {m n k:Nat} (ha:intBits a<=m) (hb:intBits b<=n) (h1:max m n+1<=k) (h2:op="times"->m+n<=k):intBits (opI op a b)<=k:=by
 unfold opI
 by_cases c1:op="plus"
 ·rw [if_pos c1];exact Nat.le_trans (intBits_add_le ha hb) h1
 rw [if_neg c1]
 by_cases c2:op="less"
 ·rw [if_pos c2];exact Nat.le_trans (intBits_sub_le ha hb) h1
 rw [if_neg c2]
 by_cases c3:op="times"
 ·rw [if_pos c3];exact Nat.le_trans (intBits_mul_le ha hb) (h2 c3)
 rw [if_neg c3]
 by_cases c4:op="least"
 ·rw [if_pos c4];exact Nat.le_trans (intBits_ite_le hb ha) (by lia)
 ·rw [if_neg c4];exact Nat.le_trans (intBits_ite_le hb ha) (by lia)
theorem iM {fr:Frm} {rows:List (List Int)} {B:Nat->Nat} (hB: ∀ j r,rows[j]? =some r-> ∀ n∈r,intBits n<=B j) (hM:B 0+B 1+B 2<=60000000):
  ∀ {f:Fm},f.wfp (rdF fr)->f.lvl->f.size<=1000->f.fit 0 (eP fr rows)/\intBits (f.ev 0 (eP fr rows))<=21*f.size+bs B f.prt
 | .num n,h,_,_=>by
  refine ⟨trivial,?_⟩
  show intBits (rst 0 n)<=_
  rw [vF]
  have h: -999999<=n/\n<=999999:=h
  refine Nat.le_trans (m:=21) (intBits_le_iff.mpr ?_) (Nat.le_add_right _ _)
  have:n.natAbs<=999999:=by lia
  exact Nat.lt_of_le_of_lt this (by decide)
 | .own _,_,h,_=>h.elim
 | .whn _ _ _,_,h,_=>h.elim
 | .part k x,h,_,_=>by
  refine ⟨trivial,?_⟩
  show intBits (rst 0 (eP fr rows (.part k x)))<=_
  rw [vF]
  obtain ⟨⟨⟨h0,h2⟩,_⟩,j,q,y,e,hq,_⟩:=h
  cases e
  refine Nat.le_trans (tS hB j x) (Nat.le_trans ?_ (Nat.le_add_left _ _))
  show B j<=bs B [(j:Int)]
  have h3:j=0\/j=1\/j=2:=by lia
  unfold bs
  rcases h3 with rfl | rfl | rfl
  ·rw [if_pos (by simp)];lia
  ·rw [if_pos (show (1:Int)∈[((1:Nat):Int)] by simp)];lia
  ·rw [if_pos (show (2:Int)∈[((2:Nat):Int)] by simp)];lia
 | .bin op a b,h,hl,hs=>by
  obtain ⟨ho,w1,w2⟩:op∈ops/\a.wfp _/\b.wfp _:=h
  obtain ⟨l1,l2,l3⟩:a.lvl/\b.lvl/\(op="times"-> ∀ k∈a.prt,k∉b.prt):=hl
  have hs:a.size+b.size+1<=1000:=hs
  obtain ⟨f1,b1⟩:=iM hB hM w1 l1 (by lia)
  obtain ⟨f2,b2⟩:=iM hB hM w2 l2 (by lia)
  have m1:=qN (B:=B) (S:=a.prt) (T:=a.prt++b.prt) fun k hk=>List.mem_append_left _ hk
  have m2:=qN (B:=B) (S:=b.prt) (T:=a.prt++b.prt) fun k hk=>List.mem_append_right _ hk
  have t1:=vg B a.prt
  have t2:=vg B b.prt
  refine ⟨⟨f1,f2,fun _=>IntMulOk.of_le b1 b2 (by lia)⟩,?_⟩
  show intBits (rst 0 (opI op _ _))<=21* (a.size+b.size+1) +bs B (a.prt++b.prt)
  rw [vF]
  refine vN b1 b2 (by lia) fun e=>?_
  have:=wv (B:=B) (l3 e)
  lia
noncomputable def uV (bk:Bk) (nm:Str):Option Frm:=bk.forms.find? fun fr=>decide (Frm.name fr=nm)
theorem uU {bk:Bk} (nd:(bk.forms.map Frm.name).Nodup) {fr:Frm} (hf:fr∈bk.forms) {nm:Str} (e:fr.name=nm):uV bk nm=some fr:=by
 unfold uV
 cases h:bk.forms.find? fun fr=>decide (Frm.name fr=nm)with
 | none=>exact absurd (decide_eq_true e) (by have:=List.find?_eq_none.mp h fr hf;exact this)
 | some fr'=>
  have h1:=List.mem_of_find?_eq_some h
  have h2:Frm.name fr'=nm:=by simpa using List.find?_some h
  rw [qE nd h1 hf (h2.trans e.symm)]
noncomputable def wL (bk:Bk) (nm:Str) (rows:List (List Int)):List Int:=match uV bk nm with
 | some fr=>fr.rules.map fun r=>r.fm.ev 0 (eP fr rows)
 | none=>[]
mutual
noncomputable def Bt.upw (bk:Bk):Bt->List Int
 | .mk nm ps=>wL bk nm (sQ bk ps)
noncomputable def sQ (bk:Bk):List Bt->List (List Int)
 | []=>[]
 | t::r=>t.upw bk::sQ bk r
end
theorem mh (bk:Bk): ∀ l:List Bt,sQ bk l=l.map (Bt.upw bk)
 | []=>by rw [sQ];rfl
 | t::r=>by rw [sQ,mh bk r];rfl
theorem wK (bk:Bk) (t:Bt):t.upw bk=wL bk t.nm (t.ps.map (Bt.upw bk)):=by
 cases t with
 | mk nm ps=>rw [Bt.upw,mh];rfl
noncomputable def TrP (bk:Bk):Nat->Bt->Srt->Prop
 | 0,_,_=>False
 | n+1,t,s=> ∃ fr,fr∈bk.forms/\Frm.name fr=t.nm/\fr.own=s/\Paired (TrP bk n) t.ps fr.parts
theorem TreeOk.trP {bk:Bk}: ∀ {n:Nat} {t:Bt} {s:Srt},TreeOk bk n t s->TrP bk n t s
 | 0,_,_,h=>h.elim
 | n+1,_,_,⟨_,fr,h1,h2,h3,h4⟩=>⟨fr,h1,h2,h3,Paired.mapP h4 fun _ _ r=>TreeOk.trP r⟩
theorem TrP.up {bk:Bk}: ∀ {n:Nat} {t:Bt} {s:Srt},TrP bk n t s->TrP bk (n+1) t s
 | 0,_,_,h=>h.elim
 | n+1,_,_,⟨fr,h1,h2,h3,h4⟩=>⟨fr,h1,h2,h3,Paired.mapP h4 fun _ _ r=>TrP.up r⟩
theorem TrP.sub {bk:Bk}: ∀ {n:Nat} {t:Bt} {s:Srt},TrP bk n t s-> ∀ u∈t.subs,∃ s',TrP bk n u s':=by
 intro n
 induction n with
 | zero=>intro t s h;exact h.elim
 | succ n ih=>
  rintro t s h u hu
  have h':=h
  obtain ⟨fr,h1,h2,h3,h4⟩:=h'
  rw [fY]at hu
  rcases List.mem_cons.mp hu with rfl | hu
  ·exact ⟨s,h⟩
  have go: ∀ {l:List Bt} {q:List Srt},Paired (TrP bk n) l q-> ∀ u∈cB l,∃ s',TrP bk n u s':=by
   intro l q hp
   induction hp with
   | nil=>intro u h;rw [cF]at h;cases h
   | cons x _ ih2=>
    intro u hu
    rw [cE]at hu
    rcases List.mem_append.mp hu with hu | hu
    ·exact ih x u hu
    ·exact ih2 u hu
  obtain ⟨s',h5⟩:=go h4 u hu
  exact ⟨s',h5.up⟩
theorem PkB.keys {bk:Bk} (hk:PkB bk) {fr:Frm} (hf:fr∈bk.forms):fr.rules.map (fun r=>(r.pl,r.word))=fr.own.ups.map (fun x=>((-1:Int),x)):=by
 obtain ⟨h1,h2,h3,h4,_⟩:=hk.s.fo fr hf
 have e: ∀ (k:Int) (qs:List Srt),(∀ q∈qs,q∈bk.sorts)->eB k qs=[]:=by
  intro k qs
  induction qs generalizing k with
  | nil=>intro _;rfl
  | cons q r ih=>
   intro h
   show q.downs.map (fun x=>(k,x))++eB (k+1) r=[]
   rw [ih (k+1) fun x hx=>h x (List.mem_cons_of_mem _ hx),hk.dn q (h q List.mem_cons_self)]
   rfl
 rw [h4]
 unfold qW
 rw [e 0 fr.parts h2,List.append_nil]
theorem TrP.upw {bk:Bk} (hk:PkB bk) {n:Nat} {t:Bt} {s:Srt} (h:TrP bk (n+1) t s): ∃ fr,fr∈bk.forms/\Frm.name fr=t.nm/\fr.own=s/\Paired (TrP bk n) t.ps fr.parts/\t.upw bk=fr.rules.map (fun r=>r.fm.ev 0 (eP fr (t.ps.map (Bt.upw bk)))):=by
 obtain ⟨fr,h1,h2,h3,h4⟩:=h
 refine ⟨fr,h1,h2,h3,h4,?_⟩
 rw [wK,wL,uU hk.s.nd h1 h2]
theorem TrP.len {bk:Bk} (hk:PkB bk) {n:Nat} {t:Bt} {s:Srt} (h:TrP bk n t s):(t.upw bk).length=s.ups.length:=by
 cases n with
 | zero=>exact h.elim
 | succ n=>
  obtain ⟨fr,h1,h2,h3,h4,h5⟩:=TrP.upw hk h
  have e:=congrArg List.length (hk.keys h1)
  rw [List.length_map,List.length_map]at e
  rw [h5,List.length_map,e,h3]
noncomputable def szB (ps:List Bt) (j:Nat):Nat:=330* ((ps[j]?).map Bt.sz).getD 0
theorem pV {ps:List Bt} (h:ps.length<=3):szB ps 0+szB ps 1+szB ps 2=330*szL ps:=by
 match ps,h with
 | [],_=>rfl
 | [a],_=>show 330*a.sz+0+0=330* (a.sz+0);lia
 | [a,b],_=>show 330*a.sz+330*b.sz+0=330* (a.sz+ (b.sz+0));lia
 | [a,b,c],_=>show 330*a.sz+330*b.sz+330*c.sz=330* (a.sz+ (b.sz+ (c.sz+0)));lia
theorem oF (t:Bt):t.sz=szL t.ps+1:=by
 unfold Bt.sz
 rw [dY,List.length_cons,dI]
theorem TrP.bits {bk:Bk} (hk:PkB bk): ∀ {n:Nat} {t:Bt} {s:Srt},TrP bk n t s->t.sz<=1000-> ∀ i∈t.upw bk,intBits i<=330*t.sz
 | 0,_,_,h,_=>h.elim
 | n+1,t,s,h,hs=>by
  obtain ⟨fr,h1,h2,h3,h4,h5⟩:=TrP.upw hk h
  have hz:=oF t
  obtain ⟨_,_,hp3,_,hr⟩:=hk.s.fo fr h1
  have hl:=Paired.length h4
  have hB: ∀ j r,(t.ps.map (Bt.upw bk))[j]? =some r-> ∀ i∈r,intBits i<=szB t.ps j:=by
   intro j r hj i hi
   rw [List.getElem?_map]at hj
   cases hc:t.ps[j]? with
   | none=>rw [hc]at hj;cases hj
   | some c=>
    rw [hc]at hj
    cases hj
    obtain ⟨q,_,hq⟩:=aZ h4 hc
    have hcz:c.sz<=szL t.ps:=fg (List.mem_of_getElem? hc)
    have:=TrP.bits hk hq (by lia) i hi
    unfold szB
    rw [hc]
    exact this
  have hsum:=pV (ps:=t.ps) (by lia)
  intro i hi
  rw [h5]at hi
  obtain ⟨r,hrm,rfl⟩:=List.mem_map.mp hi
  have hsz:=(hr r hrm).2
  have:=(iM hB (by lia) (hk.fo fr h1 r hrm).1 (hk.fo fr h1 r hrm).2 (by lia)).2
  have:=vg (szB t.ps) r.fm.prt
  lia
theorem TrP.fits {bk:Bk} (hk:PkB bk) {n:Nat} {t:Bt} {fr:Frm} (h1:fr∈bk.forms) (h4:Paired (TrP bk n) t.ps fr.parts) (hs:t.sz<=1000): ∀ r∈fr.rules,r.fm.fit 0 (eP fr (t.ps.map (Bt.upw bk))):=by
 intro r hrm
 have hz:=oF t
 obtain ⟨_,_,hp3,_,hr⟩:=hk.s.fo fr h1
 have hl:=Paired.length h4
 have hB: ∀ j r,(t.ps.map (Bt.upw bk))[j]? =some r-> ∀ i∈r,intBits i<=szB t.ps j:=by
  intro j r hj i hi
  rw [List.getElem?_map]at hj
  cases hc:t.ps[j]? with
  | none=>rw [hc]at hj;cases hj
  | some c=>
   rw [hc]at hj
   cases hj
   obtain ⟨q,_,hq⟩:=aZ h4 hc
   have hcz:c.sz<=szL t.ps:=fg (List.mem_of_getElem? hc)
   have:=TrP.bits hk hq (by lia) i hi
   unfold szB
   rw [hc]
   exact this
 have hsum:=pV (ps:=t.ps) (by lia)
 have hsz:=(hr r hrm).2
 exact (iM hB (by lia) (hk.fo fr h1 r hrm).1 (hk.fo fr h1 r hrm).2 (by lia)).1
noncomputable def iy (b1 b2:Bk) (t:Bt):List Int:=1::(t.upw b1++t.upw b2)
noncomputable def IntsAt (H:Hp) (ns:List Int) (v:V):Prop:= ∃ a,v=.ref a/\H a=some (.tup (ns.map V.int))
theorem IntsAt.mono {H H':Hp} (t:TK H H') {ns:List Int} {v:V}:IntsAt H ns v->IntsAt H' ns v:=fun ⟨a,e,h⟩=>⟨a,e,t _ _ h⟩
theorem Kp.tkB {tp:Addr} {H H':Hp} {x:Array Value} (a:Kp tp H H') (t:H tp=some (.tbl x)):TK H H':=fun b xs h=>a b _ h fun e=>by
 rw [e,t]at h;cases h
theorem TabSt.tk {tp:Addr} {H H':Hp} (t:TabSt tp H) (a:Kp tp H H'):TK H H':=by
 obtain ⟨x,h⟩:=t.tbl
 exact a.tkB h
theorem TabSt.upd {tp p:Addr} {H:Hp} {o o':HO} (t:TabSt tp H) (h:H p=some o) (h1: ∀ x,o≠ .tbl x) (h2: ∀ c oc,o≠fH c oc):TabSt tp (L2.upd H p o'):=by
 rcases t with t | ⟨c',oc,t1,t2,t3,t4⟩
 ·refine .inl ?_
  rw [ai (fun e=>by rw [e,h]at t;exact h1 _ (Option.some.inj t))]
  exact t
 ·refine .inr ⟨c',oc,?_,t2,?_,t4⟩
  ·rw [ai (fun e=>by rw [e,h]at t1;exact h1 _ (Option.some.inj t1))]
   exact t1
  ·rw [ai (fun e=>by rw [e,h]at t3;exact h2 _ _ (Option.some.inj t3))]
   exact t3
theorem TabSt.lst {tp p:Addr} {H:Hp} {xs:List V} {o':HO} (t:TabSt tp H) (h:H p=some (.lst xs)):TabSt tp (L2.upd H p o'):=t.upd h (fun _ e=>by cases e) (fun _ _ e=>by cases e)
theorem TabSt.ne {tp p:Addr} {H:Hp} {o:HO} (t:TabSt tp H) (h:H p=some o) (h1: ∀ x,o≠ .tbl x):p≠tp:=fun e=>by
 obtain ⟨x,hx⟩:=t.tbl
 rw [e,hx]at h
 exact h1 x (Option.some.inj h).symm
theorem TabSt.fr {tp p:Addr} {H:Hp} (t:TabSt tp H) (h:H p=none):p≠tp:=fun e=>by
 obtain ⟨x,hx⟩:=t.tbl
 rw [e,hx]at h
 cases h
theorem vd {J:It} {α:Type} {as:List α} {A:α->V->Prop} {xs:List V} {fr:List Nat} {te:TE} {σ:St} {H1:Hp} {Q:VK} {tp:Addr} (hn:xs.length<=1000) (tt:TabSt tp H1) (hP:Paired A as xs)
  (hgo: ∀ i H,Kp tp H1 H->i<xs.length->J.go i H) (hst: ∀ H,Kp tp H1 H->J.stop xs.length H) (hy: ∀ i H v H',Kp tp H1 H->J.yld i H v H'->H'=H/\xs[i]? =some v)
  (R:Hp->α->V->Prop) (mono: ∀ {H H':Hp} {a:α} {v:V},TK H H'->R H a v->R H' a v)
  (hte: ∀ a v H (k:VK),a∈as->A a v->Kp tp H1 H->TabSt tp H->(∀ u H',Kp tp H H'->TabSt tp H'->R H' a u->k u H')->te (some v::bi fr σ) H k)
  (hd: ∀ p zs H',H1 p=none->Kp tp H1 H'->TabSt tp H'->H' p=some (.lst zs)->Paired (R H') as zs->Q (.ref p) H'):de fr te σ J H1 Q:=by
 intro p hp
 have hl:as.length=xs.length:=Paired.length hP
 have npt:=tt.fr hp
 refine ⟨fun i m zs H=>i<=xs.length/\m=xs.length-i/\Kp tp H1 H/\TabSt tp H/\H p=some (.lst zs)/\zs.length=i/\Paired (R H) (as.take i) zs,⟨_,Nat.zero_le _,rfl,Kp.refl.new hp,tt.same (ag hp _),ab,rfl,.nil⟩,?_⟩
 rintro i m zs H ⟨hi,hm,km,th,gp,hz,hT⟩
 refine ⟨gp,?_⟩
 by_cases e:i=xs.length
 ·subst e
  rw [<- hl,List.take_length]at hT
  exact .inl ⟨hst H km,hd p zs H hp km th gp hT⟩
 ·have hlt:i<xs.length:=by lia
  refine .inr ⟨hgo i H km hlt,au (by lia),fun v H' hv=>?_⟩
  obtain ⟨rfl,hv2⟩:=hy i H v H' km hv
  obtain ⟨a,ha,hA⟩:=aN hP hv2
  refine hte a v _ _ (List.mem_of_getElem? ha) hA km th fun u H2 k2 t2 r=>?_
  have gp2:=k2 _ _ gp npt
  have tk:TK H2 (upd H2 p (.lst (zs++[u]))):=TK.lst gp2
  refine ⟨gp2,xs.length- (i+1),by lia,by lia,rfl,?_,t2.lst gp2,ab,by rw [List.length_append,hz];rfl,?_⟩
  ·intro b o hb hn
   rw [ai (af hb hp)]
   exact k2 _ _ (km _ _ hb hn) hn
  ·rw [List.take_add_one,ha]
   exact Paired.snoc (Paired.mapP hT fun _ _ r=>mono ((th.tk k2).trans tk) r) (mono tk r)
theorem wk {K:PySem.W.Frag} {a tp:Addr} {xs:List V} {H1:Hp} (tt:TabSt tp H1) (ha:H1 a=some (.tup xs)): ∀ i H,Kp tp H1 H->i<xs.length->(Itt K a).go i H:=fun i H k h=>⟨xs,xs[i],SqT.of (tt.tk k _ _ ha),List.getElem?_eq_getElem h⟩
theorem wj {K:PySem.W.Frag} {a tp:Addr} {xs:List V} {H1:Hp} (tt:TabSt tp H1) (ha:H1 a=some (.tup xs)): ∀ H,Kp tp H1 H->(Itt K a).stop xs.length H:=fun H k=>⟨xs,SqT.of (tt.tk k _ _ ha),Nat.le_refl _⟩
theorem xu {K:PySem.W.Frag} {a tp:Addr} {xs:List V} {H1:Hp} (tt:TabSt tp H1) (ha:H1 a=some (.tup xs)): ∀ i H v H',Kp tp H1 H->(Itt K a).yld i H v H'->H'=H/\xs[i]? =some v:=fun i H v H' k hv=>⟨hv.1,by obtain ⟨rfl,hv⟩:=hv;exact hv xs (SqT.of (tt.tk k _ _ ha))⟩
theorem sP {κ:Type} [DecidableEq κ]: ∀ {kvs:List (κ×V)} {k:κ} {v:V},aP kvs k=some v->(k,v)∈kvs:=by
 intro kvs k v h
 unfold aP at h
 obtain ⟨p,h1,h2⟩:=Option.map_eq_some_iff.mp h
 have h3:=List.mem_of_find?_eq_some h1
 have h4:p.1=k:=by simpa using List.find?_some h1
 obtain ⟨a,b⟩:=p
 cases h4
 cases h2
 exact h3
noncomputable def pky (k:Nat) (x:Str):List Key:=[.inr "part",.inl (k:Int),.inr x]
noncomputable def TdTo (fr:Frm) (rows:List (List Int)) (m i:Nat) (kvs:List (List Key×V)):Prop:= ∀ (j l:Nat) (q:Srt) (x:Str),fr.parts[j]? =some q->q.ups[l]? =some x->(j<m\/(j=m/\l<i))->aP kvs (pky j x)=some (.int (eP fr rows (.part (j:Int) x)))
theorem TdTo.tld {fr:Frm} {rows:List (List Int)} {kvs:List (List Key×V)} {m:Nat} (h:TdTo fr rows m 0 kvs) (hm:fr.parts.length<=m): ∀ {f:Fm},f.wfp (rdF fr)->f.lvl->f.tld kvs (eP fr rows)
 | .num n,_,_=>trivial
 | .own _,_,hl=>hl.elim
 | .whn _ _ _,_,hl=>hl.elim
 | .part k x,hw,_=>by
  obtain ⟨_,j,q,y,e,hq,hx⟩:=hw
  cases e
  obtain ⟨l,hl⟩:=List.getElem?_of_mem hx
  exact h j l q x hq hl (.inl (Nat.lt_of_lt_of_le (List.getElem?_eq_some_iff.mp hq).1 hm))
 | .bin op a b,hw,hl=>⟨TdTo.tld h hm hw.2.1 hl.1,TdTo.tld h hm hw.2.2 hl.2.1⟩
theorem qk {j m:Nat} {x y:Str} (h:pky j x=pky m y):j=m/\x=y:=by
 unfold pky at h
 have h1:=(List.cons.inj h).2
 have h2:=(List.cons.inj h1).1
 have h3:=(List.cons.inj (List.cons.inj h1).2).1
 exact ⟨Int.ofNat.inj (Sum.inl.inj h2),Sum.inr.inj h3⟩
noncomputable def pX (tbA:Addr):Sp:=fun vs H Q _=> ∃ (bv:V) (bk:Bk) (n:Nat) (u:Bt) (s:Srt) (wl:Addr) (zs:List V),vs=[bv,.str u.nm,.ref wl]/\RepB H bk bv/\PkB bk/\TrP bk n u s/\u.sz<=1000/\H wl=some (.lst zs)/\Paired (fun c v=>IntsAt H (c.upw bk) v) u.ps zs/\TabSt tbA H/\
 ∀ v H',Kp tbA H H'->TabSt tbA H'->IntsAt H' (u.upw bk) v->Q v H'
noncomputable abbrev NUb:List Str:=["book","name","worths","form","told","k","part","up","worth","formulas"]
theorem scUpsBy:aH NUb ["book","name","worths"] (ah lm):=fsc
theorem ur (F:Fun K "ups_by_form" "ups_by_form" lm f fd) (G:Gb mg) (hen:mg "enumerate"=none) (hzip:mg "zip"=none)
  (GN:FnOk P w K mg base CX0 2 f2 fd2 ["book","name"] eV) (bN:Binds K fd2 ["book","name"] []) (kN:PySem.W.keepIn K (.ref f2)=true) (mN:mg "form_named"=some (.ref f2))
  (GP:FnOk P w K mg base CX0 1 f3 fd3 ["form"] gS) (bP:Binds K fd3 ["form"] []) (kP:PySem.W.keepIn K (.ref f3)=true) (mP:mg "parts_of"=some (.ref f3))
  (GU:FnOk P w K mg base CX0 3 f4 fd4 ["book","sort"] tE) (bU:Binds K fd4 ["book","sort"] []) (kU:PySem.W.keepIn K (.ref f4)=true) (mU:mg "ups_of"=some (.ref f4))
  (GS:FnOk P w K mg base CX0 1 f5 fd5 ["form"] gf) (bS:Binds K fd5 ["form"] []) (kS:PySem.W.keepIn K (.ref f5)=true) (mS:mg "sort_of_form"=some (.ref f5))
  (GB:FnOk P w K mg base CX0 2 f6 fd6 ["form"] qi) (bB:Binds K fd6 ["form"] []) (kB:PySem.W.keepIn K (.ref f6)=true) (mB:mg "formulas_by_key"=some (.ref f6))
  (GR:FnOk P w K mg base CX0 5 f7 fd7 di (tF tbA)) (bR:Binds K fd7 di []) (kR:PySem.W.keepIn K (.ref f7)=true) (mR:mg "reckoned"=some (.ref f7)):
  FnOk P w K mg base CX0 6 f fd ["book","name","worths"] (pX tbA):=by
 refine F.ok scUpsBy (fun vs H Q E h=>?_) (fun cdv A outer s H vs Q E hr h=>?_)
 ·obtain ⟨bv,bk,n,u,sr,wl,zs,rfl,_⟩:=h
  rfl
 obtain ⟨bv,bk,n,u,sr,wl,zs,rfl,hB,hk,hT,hsz,gwl,hZ,tt,q⟩:=h
 have hu:=dh hr
 have hr1:=hr.mono (show 1<=5 by decide)
 have hr2:=hr.mono (show 2<=5 by decide)
 have hr3:=hr.mono (show 3<=5 by decide)
 refine ⟨_,ad (am (i:=3) scUpsBy.nd rfl (Or.inl rfl) (al GN hr2 rfl mN kN bN .nil ax (aa (pv 0) (aa (pv 1) ac))))
  (ad (am (i:=4) scUpsBy.nd rfl (Or.inr rfl) gu)
  (ad (bc PassesOwn.never rfl (qm rfl hen (aa (al GP hr1 rfl mP kP bP .nil ax (aa (pv 3) ac)) ac)) (cQ rfl (aE (aw (i:=5) scUpsBy.nd rfl (Or.inl rfl)) (aE (aw (i:=6) scUpsBy.nd rfl (Or.inl rfl)) cn)))
   (aj (bc PassesOwn.never rfl (lL rfl hzip (aa (al GU hr3 rfl mU kU bU .nil ax (aa (pv 0) (aa (pv 6) ac))) (aa (aq aL (pv 2) (pv 5) (fun _ _=>rfl)) ac))) (cQ rfl (aE (aw (i:=7) scUpsBy.nd rfl (Or.inl rfl)) (aE (aw (i:=8) scUpsBy.nd rfl (Or.inl rfl)) cn)))
    (aj (da hu (pv 4) (aS (aa aT (aa (pv 5) (aa (pv 7) ac)))) (pv 8) rfl)))))
  (ad (am (i:=9) scUpsBy.nd rfl (Or.inr rfl) (al GB hr2 rfl mB kB bB .nil ax (aa (pv 3) ac)))
  (aj (ay (bg aW rfl G.tuple (by decide +kernel) (aa (bV (sc0:=ah lm) (N0:=NUb) (ys:=["formulas","told"]) (fr:=[9,4]) rfl
    (a8 (al GU hr3 rfl mU kU bU .nil ax (aa (pv 0) (aa (al GS hr1 rfl mS kS bS .nil ax (aa (pv 3) ac)) ac)))) rfl rfl
    cok
    (fun C s H ex=>al GR hr rfl mR kR bR .nil ax (aa (be hu (pv 1) (aS (aa (ip eR ae) (aa (pv 0) ac))) (fun _ _=>rfl)) (aa (pv 2) (aa ae ac))))) ac))))))),?_⟩
 cases n with
 | zero=>exact hT.elim
 | succ n=>
 obtain ⟨fr,hfr,hnm,hown,hPt,hup⟩:=TrP.upw hk hT
 obtain ⟨ho,hpi,hp3,_,hrul⟩:=hk.s.fo fr hfr
 have hfits:=TrP.fits hk hfr hPt hsz
 have lps:=Paired.length hPt
 have lzs:=Paired.length hZ
 refine ⟨_,rfl,_,rfl,bv,bk,u.nm,fr,rfl,hB,hk.s,hfr,hnm,fun fv H1 s1 hF1=>?_⟩
 have tt1:=tt.same s1
 refine fun td htd=>?_
 have s2:=ag htd (.dT [])
 have g2:(upd H1 td (.dT [])) td=some (.dT []):=ab
 have tt2:=tt1.same s2
 generalize upd H1 td (.dT [])=H2 at s2 g2 tt2 ⊢
 have S2:=s1.trans s2
 have htd0:H td=none:=s1.free htd
 refine ⟨_,rfl,fv,fr,rfl,hF1.mono (aG s2),fun pa gpa=>⟨pa,_,rfl,gpa,?_⟩⟩
 have hF2:=hF1.mono (aG s2)
 have hB2:=hB.mono (aG S2)
 have lpv:(bE fr.parts).length=fr.parts.length:=List.length_map _
 have gwl2:=S2 _ _ gwl
 have hZ2:Paired (fun c v=>IntsAt H2 (c.upw bk) v) u.ps zs:=Paired.mapP hZ fun _ _ h=>h.mono (aG S2)
 have ntw:wl≠td:=af gwl htd0
 refine uY (xs:=bE fr.parts) (fun i σ H'=>i<=fr.parts.length/\ ∃ o5 o6 o7 o8 kvs,σ=[some bv,some (.str u.nm),some (.ref wl),some fv,some (.ref td),o5,o6,o7,o8,none]/\Kp td H2 H'/\H' td=some (.dT kvs)/\kvs.length<=3*i/\TdTo fr (u.ps.map (Bt.upw bk)) i 0 kvs)
  ⟨Nat.zero_le _,none,none,none,none,[],rfl,Kp.refl,g2,Nat.le_refl _,fun j l q x _ _ h=>by lia⟩ (fun i σ H' _ h=>by obtain ⟨_,_,_,_,_,_,_,k,_⟩:=h;exact k _ _ gpa (fun z=>by rw [z,g2]at gpa;cases gpa)) ?_ ?_
 ·rintro i x T σ H3 hx hTn ⟨hi,o5,o6,o7,o8,kvs,rfl,k3,gd3,hl3,hTd⟩
  have nTt:td≠T:=af gd3 hTn
  rw [bE,List.getElem?_map]at hx
  obtain ⟨sq,hsq,ex⟩:=Option.map_eq_some_iff.mp hx
  subst ex
  have hil:i<fr.parts.length:=(List.getElem?_eq_some_iff.mp hsq).1
  have s4:=ag hTn (.tup [.int (i:Int),.str sq.name])
  have g4:(upd H3 T (.tup [.int (i:Int),.str sq.name])) T=some (.tup [.int (i:Int),.str sq.name]):=ab
  generalize upd H3 T (.tup [.int (i:Int),.str sq.name])=H4 at s4 g4 ⊢
  have k4:Kp td H2 H4:=k3.same s4
  have tkd: ∀ {H':Hp},Kp td H2 H'->TK H2 H':=fun k b xs h=>k _ _ h fun e=>by rw [e,g2]at h;cases h
  refine ⟨T,_,rfl,SqT.of g4,rfl,_,_,rfl,_,_,rfl,rfl,?_⟩
  refine ⟨_,rfl,_,rfl,bv,bk,sq.name,sq,rfl,hB2.mono (tkd k4),hk.s,hpi sq (List.mem_of_getElem? hsq),rfl,fun ua H5 s5 gua=>?_⟩
  have k5:Kp td H2 H5:=k4.same s5
  obtain ⟨c,hc⟩: ∃ c,u.ps[i]? =some c:=⟨u.ps[i]'(by lia),List.getElem?_eq_getElem (by lia)⟩
  obtain ⟨zv,hzv,ca,ez,hca⟩:=aZ hZ2 hc
  subst ez
  have hcP: ∃ q,fr.parts[i]? =some q/\TrP bk n c q:=aZ hPt hc
  obtain ⟨q',hq',hTc⟩:=hcP
  rw [hsq]at hq'
  cases hq'
  have hlen:=TrP.len hk hTc
  have hws:=hk.s.ws sq (hpi sq (List.mem_of_getElem? hsq))
  have hnd:sq.ups.Nodup:=(List.nodup_append.mp hws.2.2.1).2.1
  have hca5:=tkd k5 _ _ hca
  have hrow:(u.ps.map (Bt.upw bk))[i]? =some (c.upw bk):=by rw [List.getElem?_map,hc];rfl
  refine ⟨_,rfl,_,rfl,wl,_,(i:Int),.ref ca,rfl,rfl,SqL.of (k5 _ _ gwl2 ntw),ao hzv,?_⟩
  refine ⟨true,ua,ca,_,_,rfl,gua,hca5,?_⟩
  have l1:(sq.ups.map V.str).length=sq.ups.length:=List.length_map _
  have l2:((c.upw bk).map V.int).length=(c.upw bk).length:=List.length_map _
  have nua:ua≠td:=fun z=>by rw [z,s5 _ _ (s4 _ _ gd3)]at gua;cases gua
  have nca:ca≠td:=fun z=>by rw [z,s5 _ _ (s4 _ _ gd3)]at hca5;cases hca5
  refine uW (c:=true) (xs:=sq.ups.map V.str) (ys:=(c.upw bk).map V.int) (by rw [l1,l2];exact hlen.symm) (fun m σ H'=>m<=sq.ups.length/\ ∃ o7 o8 kvs,σ=[some bv,some (.str u.nm),some (.ref wl),some fv,some (.ref td),some (.int (i:Int)),some (.str sq.name),o7,o8,none]/\Kp td H5 H'/\H' td=some (.dT kvs)/\kvs.length<=3*i+m/\TdTo fr (u.ps.map (Bt.upw bk)) i m kvs)
   ⟨Nat.zero_le _,o7,o8,kvs,rfl,Kp.refl,s5 _ _ (s4 _ _ gd3),hl3,hTd⟩ (fun m σ H' h=>by obtain ⟨_,_,_,_,_,k,_⟩:=h;exact ⟨k _ _ gua nua,k _ _ hca5 nca⟩) ?_ ?_
  ·rintro m xv yv σ H6 T6 hxv hyv ⟨hm,o7,o8,kvs,rfl,k6,gd6,hl6,hTd6⟩ hT6
   rw [List.getElem?_map]at hxv hyv
   obtain ⟨x,hxm,rfl⟩:=Option.map_eq_some_iff.mp hxv
   obtain ⟨y,hym,rfl⟩:=Option.map_eq_some_iff.mp hyv
   have hml:m<sq.ups.length:=(List.getElem?_eq_some_iff.mp hxm).1
   have s7:=ag hT6 (.tup [.str x,.int y])
   have g7:(upd H6 T6 (.tup [.str x,.int y])) T6=some (.tup [.str x,.int y]):=ab
   generalize upd H6 T6 (.tup [.str x,.int y])=H7 at s7 g7 ⊢
   refine ⟨T6,_,rfl,SqT.of g7,rfl,_,_,rfl,_,_,rfl,rfl,?_⟩
   refine ⟨_,rfl,_,rfl,_,rfl,_,rfl,(by show 3<=sizeLine;decide),fun p8 hp8=>?_⟩
   have s8:=ag hp8 (.tup [.str "part",.int (i:Int),.str x])
   have g8:(upd H7 p8 (.tup [.str "part",.int (i:Int),.str x])) p8=some (.tup ((pky i x).map kV)):=ab
   generalize upd H7 p8 (.tup [.str "part",.int (i:Int),.str x])=H8 at s8 g8 ⊢
   have gd8:=s8 _ _ (s7 _ _ gd6)
   have h9:=hws.2.1
   refine ⟨td,_,rfl,DPut.t gd8 g8 (au (by lia)),?_⟩
   refine ⟨hml,_,_,_,rfl,?_,ab,?_,?_⟩
   ·intro b o h hn
    rw [ai hn]
    exact s8 _ _ (s7 _ _ (k6 _ _ h hn))
   ·have:=bj kvs (pky i x) (.int y)
    lia
   ·intro j l q z hq hz hor
    rw [cD]
    by_cases ck:pky j z=pky i x
    ·obtain ⟨e1,e2⟩:=qk ck
     subst e1 e2
     rw [if_pos rfl,tT hsq hrow,uN hnd hxm hym]
    ·rw [if_neg ck]
     refine hTd6 j l q z hq hz ?_
     rcases hor with h | ⟨h1,h2⟩
     ·exact .inl h
     ·refine .inr ⟨h1,?_⟩
      subst h1
      rw [hsq]at hq
      cases hq
      have:l≠m:=fun e=>ck (by subst e;rw [hxm]at hz;rw [Option.some.inj hz])
      lia
  ·rintro σ H6 ⟨hm,o7,o8,kvs,rfl,k6,gd6,hl6,hTd6⟩
   rw [l1]at hTd6 hl6
   have h9:=hws.2.1
   refine ⟨hil,_,_,_,_,kvs,rfl,k5.trans k6,gd6,by lia,fun j l q x hq hl hor=>hTd6 j l q x hq hl ?_⟩
   rcases hor with h | ⟨_,h⟩
   ·rcases Nat.lt_succ_iff_lt_or_eq.mp h with h | h
    ·exact .inl h
    ·subst h
     rw [hsq]at hq
     cases hq
     exact .inr ⟨rfl,(List.getElem?_eq_some_iff.mp hl).1⟩
   ·lia
 ·rintro σ H3 ⟨_,o5,o6,o7,o8,kvs,rfl,k3,gd3,hl3,hTd⟩
  rw [lpv]at hTd
  have tk3:TK H2 H3:=fun b xs h=>k3 _ _ h fun e=>by rw [e,g2]at h;cases h
  have tt3:TabSt tbA H3:=by
   have e: ∀ b o,H2 b=some o->b≠td->H3 b=some o:=k3
   rcases tt2 with t | ⟨c',oc,t1,t2,t3,t4⟩
   ·exact .inl (e _ _ t fun z=>by rw [z,g2]at t;cases t)
   ·exact .inr ⟨c',oc,e _ _ t1 (fun z=>by rw [z,g2]at t1;cases t1),t2,e _ _ t3 (fun z=>by rw [z,g2]at t3;cases t3),t4⟩
  refine ⟨_,rfl,fv,fr,rfl,hF2.mono tk3,hk.s.rules12 hfr,fun fd kv H4 hfd s4 gfd hkl hks hkv=>?_⟩
  have tt4:=tt3.same s4
  have gtd4:=s4 _ _ gd3
  have hB4:=hB2.mono (tk3.trans (aG s4))
  have hF4:=hF2.mono (tk3.trans (aG s4))
  refine ⟨_,rfl,_,rfl,fv,fr,rfl,hF4,bv,bk,fr.own.name,fr.own,rfl,hB4,hk.s,ho,rfl,fun ua H5 s5 gua=>?_⟩
  have tt5:=tt4.same s5
  refine ⟨ua,rfl,⟨_,SqT.of gua⟩,?_⟩
  have hkeys:=hk.keys hfr
  have lrul:=congrArg List.length hkeys
  rw [List.length_map,List.length_map]at lrul
  have hws:=hk.s.ws _ ho
  have hPr:Paired (fun (r:Rul) (v:V)=>v=.str r.word/\r.pl= -1) fr.rules (fr.own.ups.map V.str):=by
   have go: ∀ {rs:List Rul} {xs:List Str},rs.map (fun r=>(r.pl,r.word))=xs.map (fun x=>((-1:Int),x))->Paired (fun (r:Rul) (v:V)=>v=.str r.word/\r.pl= -1) rs (xs.map V.str):=by
    intro rs
    induction rs with
    | nil=>
     intro xs h
     cases xs with
     | nil=>exact .nil
     | cons _ _=>cases h
    | cons r rs ih=>
     intro xs h
     cases xs with
     | nil=>cases h
     | cons x xs=>
      rw [List.map_cons,List.map_cons]at h
      obtain ⟨h1,h2⟩:=List.cons.inj h
      obtain ⟨h3,h4⟩:=Prod.mk.inj h1
      exact .cons ⟨by rw [h4],h3⟩ (ih h2)
   exact go hkeys
  refine vd (by rw [List.length_map];lia) tt5 hPr (wk tt5 gua) (wj tt5 gua) (xu tt5 gua) (fun _ r v=>v=.int (r.fm.ev 0 (eP fr (u.ps.map (Bt.upw bk))))) (fun _ h=>h) ?_ ?_
  ·rintro r v H6 k hrm ⟨rfl,hpl⟩ k6 tt6 hk6
   have gfd6:=k6 _ _ (s5 _ _ gfd) (tt5.ne (s5 _ _ gfd) (fun _ e=>by cases e))
   have gtd6:=k6 _ _ (s5 _ _ gtd4) (tt5.ne (s5 _ _ gtd4) (fun _ e=>by cases e))
   obtain ⟨xv,hxv⟩:=hks r hrm
   obtain ⟨r',hr',er,hR'⟩:=hkv _ (sP hxv)
   have err:r'=r:=by
    have e1:(r'.pl,r'.word)=(r.pl,r.word):=by
     have er:hJ r=hJ r':=er
     unfold hJ at er
     have h1:=(List.cons.inj er).1
     have h2:=(List.cons.inj (List.cons.inj er).2).1
     rw [Sum.inl.inj h1,Sum.inr.inj h2]
    have nd:(fr.rules.map fun r=>(r.pl,r.word)).Nodup:=by
     rw [hkeys]
     exact List.Pairwise.map _ (fun a b (hab:a≠b) e=>hab (Prod.mk.inj e).2) (List.nodup_append.mp hws.2.2.1).2.1
    obtain ⟨i1,h1⟩:=List.getElem?_of_mem hr'
    obtain ⟨i2,h2⟩:=List.getElem?_of_mem hrm
    have q1:(fr.rules.map fun r=>(r.pl,r.word))[i1]? =some (r.pl,r.word):=by rw [List.getElem?_map,h1,<- e1];rfl
    have q2:(fr.rules.map fun r=>(r.pl,r.word))[i2]? =some (r.pl,r.word):=by rw [List.getElem?_map,h2];rfl
    have:=(List.getElem?_inj (List.getElem?_eq_some_iff.mp q1).1 nd).mp (q1.trans q2.symm)
    subst this
    rw [h1]at h2
    exact Option.some.inj h2
   subst err
   have hR6:=(hR'.mono (aG s5)).mono (tt5.tk k6)
   refine ⟨_,rfl,1,rfl,_,rfl,(by show 2<=sizeLine;decide),fun p7 hp7=>?_⟩
   have s7:=ag hp7 (.tup [.int (-1),.str r'.word])
   have g7:(upd H6 p7 (.tup [.int (-1),.str r'.word])) p7=some (.tup ((hJ r').map kV)):=by
    rw [ab]
    show some (HO.tup [V.int (-1),V.str r'.word])=some (HO.tup [V.int r'.pl,V.str r'.word])
    rw [hpl]
   have tt7:=tt6.same s7
   generalize upd H6 p7 (.tup [.int (-1),.str r'.word])=H7 at s7 g7 tt7 ⊢
   refine ⟨fd,xv,rfl,(by rw [<- hxv];exact DGet.t (s7 _ _ gfd6) g7),?_⟩
   refine ⟨_,rfl,r'.fm,xv,td,kvs,0,eP fr (u.ps.map (Bt.upw bk)),rfl,hR6.mono (aG s7),(hrul r' hrm).1,(hrul r' hrm).2,s7 _ _ gtd6,⟨hTd.tld (Nat.le_refl _) (hk.fo fr hfr r' hrm).1 (hk.fo fr hfr r' hrm).2,hfits r' hrm⟩,tt7,fun H8 k8 tt8=>?_⟩
   exact hk6 _ H8 ((Kp.refl.same s7).trans k8) tt8 rfl
  ·intro p6 ys H6 hp6 k6 tt6 gp6 hys
   have ey:=cx (g:=fun r:Rul=>V.int (r.fm.ev 0 (eP fr (u.ps.map (Bt.upw bk))))) hys
   have ey2:ys=(u.upw bk).map V.int:=by rw [ey,hup,List.map_map];rfl
   rw [ey2]at gp6
   refine ⟨p6,_,rfl,.inl ⟨SqL.of gp6,fun p7 hp7=>?_⟩⟩
   have s7:=ag hp7 (.tup ((u.upw bk).map V.int))
   refine q _ _ ?_ (tt6.same s7) ⟨p7,rfl,ab⟩
   intro b o h hn
   exact s7 _ _ (k6 _ _ (s5 _ _ (s4 _ _ (k3 _ _ (S2 _ _ h) (af h htd0)))) hn)
end My
namespace L2
open PySem PySem.Spec PyProof.Rows
noncomputable def yc:R2:=fun x y H Q=> ∃ a b xs ys,x=.ref a/\y=.ref b/\H a=some (.tup xs)/\H b=some (.tup ys)/\xs.length+ys.length<=sizeLine/\ ∀ p H',(∀ b o,H b=some o->H' b=some o)->H' p=some (.tup (xs++ys))->Q (.ref p) H'
theorem iH {X:Cx}:OpR X (binaryOp .Add) yc:=by
 intro pins s σ H x y v u Q I rx ry h
 obtain ⟨a,b,xs,ys,e1,e2,h1,h2,h3,q⟩:=h
 refine nB pins s σ H x y v u Q I rx ry ⟨a,b,xs,ys,e1,e2,SqT.of h1,SqT.of h2,h3,fun e=>q b H (fun _ _ h=>h) ?_,fun _ e=>q a H (fun _ _ h=>h) ?_,fun _ _ p hp=>q p _ (fun b o e=>by rw [ai (af e hp)];exact e) ab⟩
 ·rw [e];exact h2
 ·rw [e,List.append_nil];exact h1
end L2
namespace My
open PySem L2
theorem gw {α β:Type} {F:α->β->Prop}: ∀ {a c:List α} {l:List β},Paired F (a++c) l-> ∃ b d,l=b++d/\Paired F a b/\Paired F c d
 | [],_,_,h=>⟨[],_,rfl,.nil,h⟩
 | _::_,_,_,.cons h t=>by
  obtain ⟨b,d,rfl,h1,h2⟩:=gw t
  exact ⟨_::b,d,rfl,.cons h h1,h2⟩
theorem gx {α β:Type} {f:α->β} {l:List α} {k:Nat} {a b:α} (h:l[k]? =some a) (e:f b=f a):(l.set k b).map f=l.map f:=by
 rw [List.map_set,e]
 refine List.ext_getElem? fun i=>?_
 rw [List.getElem?_set]
 by_cases c:k=i
 ·subst c
  have hl:k< (l.map f).length:=by rw [List.length_map];exact (List.getElem?_eq_some_iff.mp h).1
  rw [if_pos rfl,if_pos hl,List.getElem?_map,h]
  rfl
 ·rw [if_neg c]
theorem fK {α β:Type} {F:α->β->Prop} {a:α} {b:β} (hab:F a b): ∀ {l:List α} {m:List β} (j:Nat),Paired F l m->Paired F (l.set j a) (m.set j b)
 | _,_,_,.nil=>.nil
 | _,_,0,.cons _ t=>.cons hab t
 | _,_,j+1,.cons h t=>.cons h (fK hab j t)
theorem ww {α:Type} {xs:List α} {d:Int} (h0:0<=d) (h1:d<xs.length):ixN xs.length d=some d.toNat:=by
 unfold ixN
 rw [if_pos h0,if_pos h1]
noncomputable def fi:Sp:=fun vs H Q _=> ∃ (tp:Addr) (bv:V) (bk:BkP) (ns:List Str) (tb:Str->List Str),vs=[.ref tp,bv]/\Tp H tp/\RepBP H bk bv/\PlOk 15 ns tb bk/\ ∀ v bk' H',RepBP H' bk' v->PlOk 15 ns tb bk'->bk'.forms.map k3=bk.forms.map k3->Kp tp H H'->Tp H' tp->Q v H'
theorem FrL.set {ns:List Str} {tb:Str->List Str} {fr:FrP} (h:FrL 15 ns tb fr) {j:Nat} {r:Rul} {g:Fm} (hj:fr.rules[j]? =some r) (hw:g.wfp (rdP tb fr.parts)) (hl:g.lvl) (hs:g.size<=15):FrL 15 ns tb ⟨fr.name,fr.own,fr.parts,fr.rules.set j ⟨r.pl,r.word,g⟩⟩:=by
 obtain ⟨a,b,c,d,e⟩:=h
 have ek:(fr.rules.set j ⟨r.pl,r.word,g⟩).map (fun r=>(r.pl,r.word))=fr.rules.map (fun r=>(r.pl,r.word)):=gx hj rfl
 refine ⟨a,b,c,ek.trans d,fun r' hr'=>?_⟩
 rcases List.mem_or_eq_of_mem_set (show r'∈fr.rules.set j ⟨r.pl,r.word,g⟩from hr')with h | h
 ·exact e r' h
 ·rw [h];exact ⟨hw,hl,hs⟩
theorem PlOk.rl {ns:List Str} {tb:Str->List Str} {bk:BkP} {z:Nat} (h:PlOk z ns tb bk) {fr:FrP} (hf:fr∈bk.forms):1<=fr.rules.length/\fr.rules.length<=2:=by
 obtain ⟨a,b,c,d,e⟩:=h.fo fr hf
 obtain ⟨u1,u2,_⟩:=h.up _ a
 have l:=congrArg List.length d
 rw [List.length_map,List.length_map]at l
 lia
noncomputable abbrev NOm:List Str:=["tape","book","forms","k","name","own","parts","rules","j","at","word","formula","made"]
theorem scOneMore:aH NOm ["tape","book"] (ah eY):=fsc
theorem vP {cdv:Value} {A:Around} {outer:List Env} {s:Shared} {H0:Hp} {E:XK} (G:Gb mg):
  ∃ t,PSs (dR CX0 P w K mg base NOm "_law_one_more" (ah eY) f cdv A outer s H0 E).nox ((cq eY).drop 7) t/\
   ∀ (D:eh) (tp b sa fl pa ra fa:Addr) (bk:BkP) (ns:List Str) (tb:Str->List Str) (fr:FrP) (r:Rul) (g:Fm) (dk dj:Int) (gv rv:List V) (u mv:V) (H:Hp),Tp H tp->fl≠tp->H b=some (.tup [.int 0,.ref sa,.ref fa])->SrtsAt H sa bk.sorts->H fl=some (.lst gv)->RepFPs H bk.forms gv->PlOk 15 ns tb bk->0<=dk->dk<gv.length->bk.forms[dk.toNat]? =some fr->H pa=some (.tup (fr.parts.map V.str))->H ra=some (.tup rv)->RepRs H fr.rules rv->0<=dj->dj<rv.length->fr.rules[dj.toNat]? =some r->Rep H g mv->g.wfp (rdP tb fr.parts)->g.lvl->g.size<=15->
    (∀ v bk' H',RepBP H' bk' v->PlOk 15 ns tb bk'->bk'.forms.map k3=bk.forms.map k3->(∀ c oo,H c=some oo->c≠fl->H' c=some oo)->Tp H' tp->D.rt v H')->
    t D [some (.ref tp),some (.ref b),some (.ref fl),some (.int dk),some (.str fr.name),some (.str fr.own),some (.ref pa),some (.ref ra),some (.int dj),some (.int r.pl),some (.str r.word),some u,some mv] H:=by
 refine ⟨_,ad (fI (aS (aa (pv 4) (aa (pv 5) (aa (pv 6) (aa (aC iH (aC iH (bA iC (pv 7) cC (cg (pv 8))) (aS (aa (aS (aa (pv 9) (aa (pv 10) (aa (pv 12) ac)))) ac))) (bA iC (pv 7) (cg (aC aV (pv 8) ae)) cC)) ac))))) (uf (pv 2) (pv 3) mH))
  (aj (ay (aS (aa (aq aB (pv 1) ae (fun _ _=>rfl)) (aa (aq aB (pv 1) ae (fun _ _=>rfl)) (aa (bg aW rfl G.tuple (by decide +kernel) (aa (pv 2) ac)) ac)))))),?_⟩
 intro D tp b sa fl pa ra fa bk ns tb fr r g dk dj gv rv u mv H hT nft hb hSA gfl hF hok hk0 hk1 hfr hpa hra hRr hj0 hj1 hrj hRg hwg hlg hsg q
 have lR:=hRr.len
 have lF:=hF.len
 have hK:=hok.fo fr (List.mem_of_getElem? hfr)
 have h3:=(hok.rl (List.mem_of_getElem? hfr)).2
 have f6:=hok.f6
 refine ⟨_,rfl,_,rfl,_,rfl,_,rfl,_,rfl,dj,rfl,ra,rv,rfl,hra,fun p1 H1 s1 g1=>?_⟩
 rw [jx rv hj0 (by lia)]at g1
 refine ⟨_,rfl,_,rfl,_,rfl,(by show 3<=sizeLine;decide),fun p2 hp2=>?_⟩
 have s2:=ag hp2 (.tup [.int r.pl,.str r.word,mv])
 have g2:(upd H1 p2 (.tup [.int r.pl,.str r.word,mv])) p2=some (.tup [.int r.pl,.str r.word,mv]):=ab
 generalize upd H1 p2 (.tup [.int r.pl,.str r.word,mv])=H2 at s2 g2 ⊢
 refine ⟨(by show 1<=sizeLine;decide),fun p3 hp3=>?_⟩
 have s3:=ag hp3 (.tup [.ref p2])
 have g3:(upd H2 p3 (.tup [.ref p2])) p3=some (.tup [.ref p2]):=ab
 generalize upd H2 p3 (.tup [.ref p2])=H3 at s3 g3 ⊢
 refine ⟨p1,p3,_,_,rfl,rfl,s3 _ _ (s2 _ _ g1),g3,Nat.le_of_lt (au (by rw [List.length_take];show _+1<=1000;lia)),fun p4 H4 s4 g4=>?_⟩
 have S4:Same H H4:=fun c oo h=>s4 _ _ (s3 _ _ (s2 _ _ (s1 _ _ h)))
 refine ⟨_,rfl,_,rfl,_,_,rfl,rfl,dj+1,rfl,ra,rv,rfl,S4 _ _ hra,fun p5 H5 s5 g5=>?_⟩
 rw [jy rv (by lia) (by lia)]at g5
 refine ⟨p4,p5,_,_,rfl,rfl,s5 _ _ g4,g5,Nat.le_of_lt (au (by rw [List.length_append,List.length_take,List.length_drop];show _+1+_<=1000;lia)),fun p6 H6 s6 g6=>?_⟩
 have S6:Same H H6:=fun c oo h=>s6 _ _ (s5 _ _ (S4 _ _ h))
 have eset:rv.take dj.toNat++[V.ref p2]++rv.drop (dj+1).toNat=rv.set dj.toNat (.ref p2):=by
  rw [List.set_eq_take_append_cons_drop,if_pos (by lia),show (dj+1).toNat=dj.toNat+1 by lia,List.append_assoc]
  rfl
 rw [eset]at g6
 refine ⟨(by show 4<=sizeLine;decide),fun p7 hp7=>?_⟩
 have s7:=ag hp7 (.tup [.str fr.name,.str fr.own,.ref pa,.ref p6])
 have g7:(upd H6 p7 (.tup [.str fr.name,.str fr.own,.ref pa,.ref p6])) p7=some (.tup [.str fr.name,.str fr.own,.ref pa,.ref p6]):=ab
 generalize upd H6 p7 (.tup [.str fr.name,.str fr.own,.ref pa,.ref p6])=H7 at s7 g7 ⊢
 have S7:=S6.trans s7
 refine ⟨_,rfl,_,rfl,fl,gv,dk,dk.toNat,rfl,rfl,S7 _ _ gfl,ww hk0 hk1,?_⟩
 have tk8:TK H7 (upd H7 fl (.lst (gv.set dk.toNat (.ref p7)))):=TK.lst (S7 _ _ gfl)
 have g8:(upd H7 fl (.lst (gv.set dk.toNat (.ref p7)))) fl=some (.lst (gv.set dk.toNat (.ref p7))):=ab
 have tk08:=(aG S7).trans tk8
 have g2':H7 p2=some (.tup [.int r.pl,.str r.word,mv]):=s7 _ _ (s6 _ _ (s5 _ _ (s4 _ _ (s3 _ _ g2))))
 have hR8:RepRs (upd H7 fl (.lst (gv.set dk.toNat (.ref p7)))) (fr.rules.set dj.toNat ⟨r.pl,r.word,g⟩) (rv.set dj.toNat (.ref p2)):=
  fK (F:=RepR _) (a:=⟨r.pl,r.word,g⟩) (b:=.ref p2) ⟨p2,mv,rfl,tk8 _ _ g2',hRg.mono tk08⟩ _ (RepRs.mono tk08 hRr)
 have hF8:RepFPs (upd H7 fl (.lst (gv.set dk.toNat (.ref p7)))) (bk.forms.set dk.toNat ⟨fr.name,fr.own,fr.parts,fr.rules.set dj.toNat ⟨r.pl,r.word,g⟩⟩) (gv.set dk.toNat (.ref p7)):=
  fK (F:=RepFP _) (a:=⟨fr.name,fr.own,fr.parts,fr.rules.set dj.toNat ⟨r.pl,r.word,g⟩⟩) (b:=.ref p7) ⟨p7,pa,p6,_,rfl,tk8 _ _ g7,tk08 _ _ hpa,tk8 _ _ (s7 _ _ g6),hR8⟩ _ (RepFPs.mono tk08 hF)
 have k8: ∀ c oo,H c=some oo->c≠fl->(upd H7 fl (.lst (gv.set dk.toNat (.ref p7)))) c=some oo:=fun c oo h hn=>by rw [ai hn];exact S7 _ _ h
 have tt8:Tp (upd H7 fl (.lst (gv.set dk.toNat (.ref p7)))) tp:=by
  obtain ⟨t,ht⟩:=hT
  exact ⟨t,k8 _ _ ht (Ne.symm nft)⟩
 generalize upd H7 fl (.lst (gv.set dk.toNat (.ref p7)))=H8 at g8 tk08 hF8 k8 tt8 ⊢
 refine ⟨_,rfl,b,_,0,.int 0,rfl,rfl,SqT.of (tk08 _ _ hb),cf,_,rfl,b,_,1,.ref sa,rfl,rfl,SqT.of (tk08 _ _ hb),ao (j:=1) rfl,_,rfl,fl,_,rfl,.inl ⟨SqL.of g8,fun p9 hp9=>?_⟩⟩
 have s9:=ag hp9 (.tup (gv.set dk.toNat (.ref p7)))
 have g9:(upd H8 p9 (.tup (gv.set dk.toNat (.ref p7)))) p9=some (.tup (gv.set dk.toNat (.ref p7))):=ab
 generalize upd H8 p9 (.tup (gv.set dk.toNat (.ref p7)))=H9 at s9 g9 ⊢
 refine ⟨(by show 3<=sizeLine;decide),fun p10 hp10=>?_⟩
 have s10:=ag hp10 (.tup [.int 0,.ref sa,.ref p9])
 have S810:=s9.trans s10
 refine q (.ref p10) ⟨0,bk.sorts,bk.forms.set dk.toNat ⟨fr.name,fr.own,fr.parts,fr.rules.set dj.toNat ⟨r.pl,r.word,g⟩⟩⟩ _ ⟨p10,sa,p9,_,rfl,ab,hSA.mono (tk08.trans (aG S810)),s10 _ _ g9,RepFPs.mono (aG S810) hF8⟩ ⟨rfl,hok.so,hok.n1,hok.n3,hok.up,?_,?_,fun fr' hfr'=>?_⟩ (gx (f:=k3) hfr rfl) (fun c oo h hn=>S810 _ _ (k8 c oo h hn)) (tt8.same S810)
 ·show 1<=(bk.forms.set _ _).length
  rw [List.length_set];exact hok.f1
 ·show (bk.forms.set _ _).length<=6
  rw [List.length_set];exact hok.f6
 ·rcases List.mem_or_eq_of_mem_set (show fr'∈bk.forms.set dk.toNat _ from hfr')with h | h
  ·exact hok.fo fr' h
  ·rw [h];exact hK.set hrj hwg hlg hsg
theorem pi (F:Fun K "_law_one_more" "_law_one_more" eY f fd) (G:Gb mg) (hlist:mg "list"=none)
  (GD:FnOk P w K mg base CX0 1 f2 fd2 ["tape","many"] bH) (bD:Binds K fd2 ["tape","many"] []) (kD:PySem.W.keepIn K (.ref f2)=true) (mD:mg "_law_digit"=some (.ref f2))
  (GZ:FnOk P w K mg base CX0 18 f3 fd3 ["formula"] (fj 17)) (bZ:Binds K fd3 ["formula"] []) (kZ:PySem.W.keepIn K (.ref f3)=true) (mZ:mg "_law_size"=some (.ref f3)):
  FnOk P w K mg base CX0 19 f fd ["tape","book"] fi:=by
 refine F.ok scOneMore (fun vs H Q E h=>?_) (fun cdv A outer s H vs Q E hr h=>?_)
 ·obtain ⟨tp,bv,bk,ns,tb,rfl,_⟩:=h
  rfl
 obtain ⟨tp,bv,bk,ns,tb,rfl,hT,hB,hok,q⟩:=h
 have hr1:=hr.mono (show 1<=18 by decide)
 obtain ⟨t,ht,hnext⟩:=vP (f:=f) (cdv:=cdv) (A:=A) (outer:=outer) (s:=s) (H0:=H) (E:=E) G
 refine ⟨_,ad (am (i:=2) scOneMore.nd rfl (Or.inl rfl) (bg l5 rfl hlist (by decide +kernel) (aa (aq aB (pv 1) ae (fun _ _=>rfl)) ac)))
  (ad (am (i:=3) scOneMore.nd rfl (Or.inl rfl) (al GD hr1 rfl mD kD bD .nil ax (aa (pv 0) (aa (aA aJ rfl G.len PySem.boot_len (aa (pv 2) ac)) ac))))
  (ad (fI (aq aL (pv 2) (pv 3) (fun _ _=>rfl)) (cQ rfl (aE (aw (i:=4) scOneMore.nd rfl (Or.inl rfl)) (aE (aw (i:=5) scOneMore.nd rfl (Or.inl rfl)) (aE (aw (i:=6) scOneMore.nd rfl (Or.inl rfl)) (aE (aw (i:=7) scOneMore.nd rfl (Or.inl rfl)) cn))))))
  (ad (am (i:=8) scOneMore.nd rfl (Or.inl rfl) (al GD hr1 rfl mD kD bD .nil ax (aa (pv 0) (aa (aA aJ rfl G.len PySem.boot_len (aa (pv 7) ac)) ac))))
  (ad (fI (aq aB (pv 7) (pv 8) (fun _ _=>rfl)) (cQ rfl (aE (aw (i:=9) scOneMore.nd rfl (Or.inl rfl)) (aE (aw (i:=10) scOneMore.nd rfl (Or.inl rfl)) (aE (aw (i:=11) scOneMore.nd rfl (Or.inl rfl)) cn)))))
  (ad (am (i:=12) scOneMore.nd rfl (Or.inl rfl) (aS (aa aT (aa (aS (aa aT (aa ae ac))) (aa (pv 11) ac)))))
  (ad (aY (aF jk (al GZ hr rfl mZ kZ bZ .nil ax (aa (pv 12) ac)) ae (aK _)) (aj (am (i:=12) scOneMore.nd rfl (Or.inl rfl) (aS (aa aT (aa ae ac))))) aM) ht)))))),?_⟩
 obtain ⟨b,sa,fa,gv,rfl,hb,hSA,hfa,hF⟩:=id hB
 have lF:=hF.len
 have f1:=hok.f1
 have f6:=hok.f6
 have w0:=hok.w
 rw [w0]at hb
 refine ⟨_,rfl,b,_,2,.ref fa,rfl,rfl,SqT.of hb,ao (j:=2) rfl,fa,_,rfl,.inr (SqT.of hfa),fun fl hfl=>?_⟩
 have nft:=cW hT hfl
 have s1:=ag hfl (.lst gv)
 have g1:(upd H fl (.lst gv)) fl=some (.lst gv):=ab
 have tt1:=hT.same s1
 generalize upd H fl (.lst gv)=H1 at s1 g1 tt1 ⊢
 refine ⟨_,rfl,_,rfl,fl,gv,rfl,.inl (SqL.of g1),tp,_,rfl,tt1,by lia,by lia,fun dk t1 hk0 hk1=>?_⟩
 have k2:Kp tp H1 (upd H1 tp (.lst [.int t1])):=Kp.tape
 have tt2:Tp (upd H1 tp (.lst [.int t1])) tp:=⟨t1,ab⟩
 generalize upd H1 tp (.lst [.int t1])=H2 at k2 tt2 ⊢
 have k02:Kp tp H H2:=(Kp.refl.same s1).trans k2
 have tk02:=k02.tk hT
 have g2:=k2 _ _ g1 nft
 obtain ⟨fx,efx,efx'⟩:=dF (xs:=gv) hk0 hk1
 obtain ⟨fr,hfr,c,pa,ra,rv,rfl,hc,hpa,hra,hRr⟩:=aN hF efx'
 have hK:=hok.fo fr (List.mem_of_getElem? hfr)
 have lR:=hRr.len
 obtain ⟨z1,z2⟩:=hok.rl (List.mem_of_getElem? hfr)
 obtain ⟨_,_,_,_,z5⟩:=hK
 refine ⟨_,rfl,_,rfl,fl,_,dk,.ref c,rfl,rfl,SqL.of g2,efx,c,_,rfl,SqT.of (tk02 _ _ hc),rfl,_,_,rfl,_,_,rfl,_,_,rfl,_,_,rfl,rfl,?_⟩
 refine ⟨_,rfl,_,rfl,ra,_,rfl,.inr (SqT.of (tk02 _ _ hra)),tp,_,rfl,tt2,by lia,by lia,fun dj t2 hj0 hj1=>?_⟩
 have k3:Kp tp H2 (upd H2 tp (.lst [.int t2])):=Kp.tape
 have tt3:Tp (upd H2 tp (.lst [.int t2])) tp:=⟨t2,ab⟩
 generalize upd H2 tp (.lst [.int t2])=H3 at k3 tt3 ⊢
 have k03:=k02.trans k3
 have tk03:=k03.tk hT
 have g3:=k3 _ _ g2 nft
 obtain ⟨rx,erx,erx'⟩:=dF (xs:=rv) hj0 hj1
 obtain ⟨r,hrj,ar,u,rfl,har,hRu⟩:=aN hRr erx'
 obtain ⟨hwf,hlv,hsz⟩:=z5 r (List.mem_of_getElem? hrj)
 refine ⟨_,rfl,_,rfl,ra,_,dj,.ref ar,rfl,rfl,SqT.of (tk03 _ _ hra),erx,ar,_,rfl,SqT.of (tk03 _ _ har),rfl,_,_,rfl,_,_,rfl,_,_,rfl,rfl,?_⟩
 refine ⟨(by show 2<=sizeLine;decide),fun p4 hp4=>?_⟩
 have s4:=ag hp4 (.tup [.str "num",.int 1])
 have g4:(upd H3 p4 (.tup [.str "num",.int 1])) p4=some (.tup [.str "num",.int 1]):=ab
 generalize upd H3 p4 (.tup [.str "num",.int 1])=H4 at s4 g4 ⊢
 refine ⟨_,rfl,(by show 3<=sizeLine;decide),fun p5 hp5=>?_⟩
 have s5:=ag hp5 (.tup [.str "plus",.ref p4,u])
 have g5:(upd H4 p5 (.tup [.str "plus",.ref p4,u])) p5=some (.tup [.str "plus",.ref p4,u]):=ab
 generalize upd H4 p5 (.tup [.str "plus",.ref p4,u])=H5 at s5 g5 ⊢
 have S35:=s4.trans s5
 have tk05:=tk03.trans (aG S35)
 have hRm:Rep H5 (.bin "plus" (.num 1) r.fm) (.ref p5):=⟨p5,.ref p4,u,rfl,g5,⟨p4,rfl,s5 _ _ g4⟩,hRu.mono tk05⟩
 have hwm:(Fm.bin "plus" (.num 1) r.fm).wfp (rdP tb fr.parts):=⟨by decide +kernel,⟨by decide,by decide⟩,hwf⟩
 have hlm:(Fm.bin "plus" (.num 1) r.fm).lvl:=⟨trivial,hlv,fun e=>absurd e (by decide +kernel)⟩
 have hzm:(Fm.bin "plus" (.num 1) r.fm).size=r.fm.size+2:=by show 1+r.fm.size+1=_;lia
 refine ⟨_,rfl,.ref p5,.bin "plus" (.num 1) r.fm,rfl,hRm,hwm.wf,by lia,fun H6 s6=>⟨_,_,rfl,rfl,_,rfl,?_⟩⟩
 have S36:=S35.trans s6
 have go: ∀ (mv:V) (g:Fm) (H7:Hp),Same H3 H7->Rep H7 g mv->g.wfp (rdP tb fr.parts)->g.lvl->g.size<=15->t {nx:=fun _ H'=>Q .non H',rt:=Q} [some (.ref tp),some (.ref b),some (.ref fl),some (.int dk),some (.str fr.name),some (.str fr.own),some (.ref pa),some (.ref ra),some (.int dj),some (.int r.pl),some (.str r.word),some u,some mv] H7:=fun mv g H7 s7 q1 q2 ql q3=>by
  have tk07:=tk03.trans (aG s7)
  refine hnext _ tp b sa fl pa ra fa bk ns tb fr r g dk dj gv rv u mv H7 (tt3.same s7) nft (tk07 _ _ hb) (hSA.mono tk07) (s7 _ _ g3) (RepFPs.mono tk07 hF) hok hk0 hk1 hfr (tk07 _ _ hpa) (tk07 _ _ hra) (hRr.mono tk07) hj0 hj1 hrj q1 q2 ql q3 fun v bk' H' h1 h2 h25 h3 h4=>q v bk' H' h1 h2 h25 (fun y oo h hn=>h3 y oo (s7 _ _ (k03 _ _ h hn)) (af h hfl)) h4
 refine bQ (fun c=>?_) (fun c=>?_)
 ·refine ⟨(by show 2<=sizeLine;decide),fun p7 hp7=>?_⟩
  have s7:=ag hp7 (.tup [.str "num",.int 1])
  exact go (.ref p7) (.num 1) _ (S36.trans s7) ⟨p7,rfl,ab⟩ ⟨by decide,by decide⟩ trivial (by decide)
 ·have c: ¬ (((Fm.bin "plus" (.num 1) r.fm).size:Int) >15):=fun z=>c (decide_eq_true z)
  exact go (.ref p5) _ H6 S36 (hRm.mono (aG s6)) hwm hlm (by lia)
noncomputable def sI (k1 k2:BkP):Prop:= ∃ (bd:BdP) (tb1 tb2:Str->List Str),BdOk bd/\PlOk 15 bd.names tb1 k1/\PlOk 15 bd.names tb2 k2/\k1.forms.map k3=bd.forms/\k2.forms.map k3=bd.forms
noncomputable def mE (K:PySem.W.Frag):Sp:=fun vs H Q _=> ∃ (sc:Addr) (is:List Int) (st:Int),vs=[.ref sc,.int st]/\SqL K H sc (is.map V.int)/\is.length<=63/\0<=st/\st<800/\ ∀ a u1 u2 c k1 k2 H',H' a=some (.tup [u1,u2,.bl c])->RepBP H' k1 u1->RepBP H' k2 u2->sI k1 k2->Same H H'->Q (.ref a) H'
theorem v5 {d:Int} (h0:0<=d) (h1:d<8): ∃ m:Int,atI [V.int 2,.int 2,.int 1,.int 2,.int 1,.int 3,.int 2,.int 2] d=some (.int m)/\1<=m/\m<=3:=by
 have h5:d=0\/d=1\/d=2\/d=3\/d=4\/d=5\/d=6\/d=7:=by lia
 rcases h5 with h | h | h | h | h | h | h | h <;> subst h <;> exact ⟨_,rfl,by decide,by decide⟩
theorem uM {m:Int} (h0:1<=m) (h1:m<=3): ∃ n:Int,atI [V.int 3,.int 2,.int 1] (m-1)=some (.int n)/\1<=n/\n<=3:=by
 have h5:m=1\/m=2\/m=3:=by lia
 rcases h5 with h | h | h <;> subst h <;> exact ⟨_,rfl,by decide,by decide⟩
theorem BdOk.two {bd:BdP} (h:BdOk bd):BdOk ⟨bd.names,bd.forms.take 2⟩:=by
 refine ⟨h.n1,h.n3,?_,?_,fun f hf=>h.fo f (List.mem_of_mem_take hf),h.nd,h.wd,by show ((bd.forms.take 2).map _).Nodup;rw [List.map_take];exact h.fn.sublist (List.take_sublist _ _),fun f hf=>h.fw f (List.mem_of_mem_take hf),fun f hf=>h.nil f (by have hf:(bd.forms.take 2)[0]? =some f:=hf;rw [List.getElem?_take,if_pos (by decide)]at hf;exact hf)⟩
 ·show 1<=(bd.forms.take 2).length
  have:=h.f1
  rw [List.length_take];lia
 ·show (bd.forms.take 2).length<=6
  rw [List.length_take];lia
theorem RepBd.tape {hd:Addr} {H H':Hp} (k:Kp hd H H') (t:Tp H hd) {bd:BdP} {v:V} (ok:BdOk bd):RepBd H bd v->RepBd H' bd v:=fun ⟨a,nl,fl,zs,e,h1,h2,h3,h4⟩=>by
 have tk:=k.tk t
 obtain ⟨x,hx⟩:=t
 refine ⟨a,nl,fl,zs,e,tk _ _ h1,k _ _ h2 fun z=>?_,k _ _ h3 fun z=>?_,Paired.mapP h4 fun _ _ h=>h.mono tk⟩
 ·rw [z,hx]at h2
  have n1:=ok.n1
  cases hn:bd.names with
  | nil=>rw [hn]at n1;exact absurd n1 (by decide)
  | cons y ys=>rw [hn]at h2;cases h2
 ·rw [z,hx]at h3
  have n1:=ok.f1
  cases hn:bd.forms with
  | nil=>rw [hn]at n1;exact absurd n1 (by decide)
  | cons y ys=>
   rw [hn]at h4
   cases h4 with
   | cons p q=>obtain ⟨c,pa,rfl,_⟩:=p;cases h3
theorem LkOk.mb {ak bk:BkP} (h1:LkOk ak) (h2:LkOk bk):sJ ak/\sJ bk/\1<=ak.forms.length/\(∀ s∈ak.sorts,s.ups.length<=3)/\(∀ s∈bk.sorts,s.ups.length<=3):=⟨h1.bp,h2.bp,h1.f1,h1.up,h2.up⟩
theorem sC (xs:List V) (n:Nat):dD xs none (some (n:Int))=xs.take n:=by
 unfold dD
 rw [HT.sIx_nat,HT.sIx_none,List.drop_zero,Nat.sub_zero]
 by_cases h:n<=xs.length
 ·rw [Nat.min_eq_left h]
 ·rw [Nat.min_eq_right (by lia),List.take_length,List.take_of_length_le (by lia)]
noncomputable abbrev NLb:List Str:=["script","start","head","most","many","build","one","way","other"]
theorem scLBooks:aH NLb ["script","start"] (ah cJ):=fsc
theorem xj {cdv:Value} {A:Around} {outer:List Env} {s:Shared} {H0:Hp} {E:XK}
  (GM:FnOk P w K mg base CX0 2 f3 fd3 ["one","other","same"] gg) (bM:Binds K fd3 ["one","other","same"] []) (kM:PySem.W.keepIn K (.ref f3)=true) (mM:mg "_law_may_be_great"=some (.ref f3))
  (hr:Room 19 (dR CX0 P w K mg base NLb "_law_books" (ah cJ) f cdv A outer s H0 E).nox.A):
  ∃ t,PSs (dR CX0 P w K mg base NLb "_law_books" (ah cJ) f cdv A outer s H0 E).nox ((cq cJ).drop 10) t/\
   ∀ (D:eh) (o0 o1 o2 o3 o4 o5:Option V) (u1 u2:V) (way:Int) (k1 k2:BkP) (H H5:Hp),Same H H5->RepBP H5 k1 u1->RepBP H5 k2 u2->sI k1 k2->
    (∀ a u1 u2 c k1 k2 H',H' a=some (.tup [u1,u2,.bl c])->RepBP H' k1 u1->RepBP H' k2 u2->sI k1 k2->Same H H'->D.rt (.ref a) H')->
    t D [o0,o1,o2,o3,o4,o5,some u1,some (.int way),some u2] H5:=by
 have hr2:=hr.mono (show 2<=19 by decide)
 refine ⟨_,aj (ay (aS (aa (pv 6) (aa (pv 8) (aa (uh (al GM hr2 rfl mM kM bM .nil ax (aa (pv 6) (aa (pv 8) (aa (dJ hX (pv 7) (aS (pac ae (pac ae ac))) (by with_unfolding_all rfl)) ac))))) ac))))),?_⟩
 intro D o0 o1 o2 o3 o4 o5 u1 u2 way k1 k2 H H5 S5 hB1 hB2 hpr q
 refine ⟨_,rfl,_,rfl,_,rfl,_,rfl,_,rfl,(by show 2<=sizeLine;decide),fun p hp=>?_⟩
 have s6:=ag hp (.tup [.int 1,.int 2])
 have g6:(upd H5 p (.tup [.int 1,.int 2])) p=some (.tup [.int 1,.int 2]):=ab
 generalize upd H5 p (.tup [.int 1,.int 2])=H6 at s6 g6 ⊢
 obtain ⟨m1,m2,m3,m4,m5⟩:_/\_/\_/\_/\_:=by
  obtain ⟨bd,tb1,tb2,_,hp1,hp2,_⟩:=hpr
  exact (hp1.lk (Nat.le_refl _)).mb (hp2.lk (Nat.le_refl _))
 refine ⟨p,_,rfl,.inr (SqT.of g6),rfl,rfl,u1,u2,k1,k2,_,rfl,hB1.mono (aG s6),hB2.mono (aG s6),m1,m2,m3,m4,m5,fun c H7 s7=>⟨c,rfl,(by show 3<=sizeLine;decide),fun p8 hp8=>?_⟩⟩
 have s8:=ag hp8 (.tup [u1,u2,.bl (!c)])
 have S8:=(s6.trans s7).trans s8
 exact q p8 u1 u2 (!c) k1 k2 _ ab (hB1.mono (aG S8)) (hB2.mono (aG S8)) hpr (S5.trans S8)
theorem yg {cdv:Value} {A:Around} {outer:List Env} {s:Shared} {H0:Hp} {E:XK}
  (GO:FnOk P w K mg base CX0 19 f2 fd2 ["tape","book"] fi) (bO:Binds K fd2 ["tape","book"] []) (kO:PySem.W.keepIn K (.ref f2)=true) (mO:mg "_law_one_more"=some (.ref f2))
  (GM:FnOk P w K mg base CX0 2 f3 fd3 ["one","other","same"] gg) (bM:Binds K fd3 ["one","other","same"] []) (kM:PySem.W.keepIn K (.ref f3)=true) (mM:mg "_law_may_be_great"=some (.ref f3))
  (hr:Room 19 (dR CX0 P w K mg base NLb "_law_books" (ah cJ) f cdv A outer s H0 E).nox.A):
  ∃ t,PSs (dR CX0 P w K mg base NLb "_law_books" (ah cJ) f cdv A outer s H0 E).nox ((cq cJ).drop 9) t/\
   ∀ (D:eh) (hd:Addr) (o0 o1 o3 o4 o5:Option V) (u1 u2:V) (way:Int) (k1 k2:BkP) (H H5:Hp),H hd=none->Tp H5 hd->Same H H5->RepBP H5 k1 u1->RepBP H5 k2 u2->sI k1 k2->
    (∀ a u1 u2 c k1 k2 H',H' a=some (.tup [u1,u2,.bl c])->RepBP H' k1 u1->RepBP H' k2 u2->sI k1 k2->Same H H'->D.rt (.ref a) H')->
    t D [o0,o1,some (.ref hd),o3,o4,o5,some u1,some (.int way),some u2] H5:=by
 obtain ⟨t,ht,hnext⟩:=xj (f:=f) (cdv:=cdv) (A:=A) (outer:=outer) (s:=s) (H0:=H0) (E:=E) GM bM kM mM hr
 refine ⟨_,ad (aY (aF jk (pv 7) ae (aK _)) (aj (am (i:=8) scLBooks.nd rfl (Or.inl rfl) (al GO hr rfl mO kO bO .nil ax (aa (pv 2) (aa (pv 8) ac))))) aM) ht,?_⟩
 intro D hd o0 o1 o3 o4 o5 u1 u2 way k1 k2 H H5 hhd tt5 S5 hB1 hB2 hpr q
 refine ⟨_,rfl,_,_,rfl,rfl,_,rfl,?_⟩
 refine bQ (fun c=>?_) (fun c=>?_)
 ·obtain ⟨bd,tb1,tb2,hb,hp1,hp2,e1,e2⟩:=hpr
  refine ⟨_,rfl,_,rfl,hd,u2,k2,bd.names,tb2,rfl,tt5,hB2,hp2,fun v kk H6 hB3 hk3 ek k6 t6=>?_⟩
  exact hnext _ _ _ _ _ _ _ u1 v way k1 kk H H6 (fun c oo h=>k6 _ _ (S5 _ _ h) (af h hhd)) (hB1.mono (k6.tk tt5)) hB3 ⟨bd,tb1,tb2,hb,hp1,hk3,e1,ek.trans e2⟩ q
 ·exact hnext _ _ _ _ _ _ _ u1 u2 way k1 k2 H H5 S5 hB1 hB2 hpr q
theorem yh {cdv:Value} {A:Around} {outer:List Env} {s:Shared} {H0:Hp} {E:XK}
  (GO:FnOk P w K mg base CX0 19 f2 fd2 ["tape","book"] fi) (bO:Binds K fd2 ["tape","book"] []) (kO:PySem.W.keepIn K (.ref f2)=true) (mO:mg "_law_one_more"=some (.ref f2))
  (GM:FnOk P w K mg base CX0 2 f3 fd3 ["one","other","same"] gg) (bM:Binds K fd3 ["one","other","same"] []) (kM:PySem.W.keepIn K (.ref f3)=true) (mM:mg "_law_may_be_great"=some (.ref f3))
  (GD:FnOk P w K mg base CX0 1 f4 fd4 ["tape","many"] bH) (bD:Binds K fd4 ["tape","many"] []) (kD:PySem.W.keepIn K (.ref f4)=true) (mD:mg "_law_digit"=some (.ref f4))
  (GP:FnOk P w K mg base CX0 12 f5 fd5 ["script","start","build","most"] (gR K)) (bP:Binds K fd5 ["script","start","build","most"] []) (kP:PySem.W.keepIn K (.ref f5)=true) (mP:mg "_law_plain_of"=some (.ref f5))
  (GW:FnOk P w K mg base CX0 13 f6 fd6 ["tape","book"] eU) (bW:Binds K fd6 ["tape","book"] []) (kW:PySem.W.keepIn K (.ref f6)=true) (mW:mg "_law_told_otherwise"=some (.ref f6))
  (hr:Room 19 (dR CX0 P w K mg base NLb "_law_books" (ah cJ) f cdv A outer s H0 E).nox.A):
  ∃ t,PSs (dR CX0 P w K mg base NLb "_law_books" (ah cJ) f cdv A outer s H0 E).nox ((cq cJ).drop 5) t/\
   ∀ (D:eh) (sc hd:Addr) (is:List Int) (st:Int) (o3 o4:Option V) (bv:V) (bd:BdP) (H H5:Hp),SqL K H sc (is.map V.int)->is.length<=63->0<=st->st<800->H hd=none->Tp H5 hd->Same H H5->RepBd H5 bd bv->BdOk bd->
    (∀ a u1 u2 c k1 k2 H',H' a=some (.tup [u1,u2,.bl c])->RepBP H' k1 u1->RepBP H' k2 u2->sI k1 k2->Same H H'->D.rt (.ref a) H')->
    t D [some (.ref sc),some (.int st),some (.ref hd),o3,o4,some bv,none,none,none] H5:=by
 have hr1:=hr.mono (show 1<=19 by decide)
 have hr12:=hr.mono (show 12<=19 by decide)
 have hr13:=hr.mono (show 13<=19 by decide)
 obtain ⟨t,ht,hnext⟩:=yg (f:=f) (cdv:=cdv) (A:=A) (outer:=outer) (s:=s) (H0:=H0) (E:=E) GO bO kO mO GM bM kM mM hr
 refine ⟨_,ad (am (i:=6) scLBooks.nd rfl (Or.inl rfl) (al GP hr12 rfl mP kP bP .nil ax (aa (pv 0) (aa (aC aV (pv 1) ae) (aa (pv 5) (aa ae ac))))))
  (ad (am (i:=7) scLBooks.nd rfl (Or.inl rfl) (al GD hr1 rfl mD kD bD .nil ax (aa (pv 2) (aa ae ac))))
  (ad (am (i:=8) scLBooks.nd rfl (Or.inl rfl) (al GP hr12 rfl mP kP bP .nil ax (aa (pv 0) (aa (aC aV (pv 1) ae) (aa (pv 5) (aa ae ac))))))
  (ad (aY (aF jk (pv 7) ae (aK _)) (aj (am (i:=8) scLBooks.nd rfl (Or.inl rfl) (al GW hr13 rfl mW kW bW .nil ax (aa (pv 2) (aa (pv 6) ac))))) aM) ht))),?_⟩
 intro D sc hd is st o3 o4 bv bd H H5 hS his hst0 hst1 hhd tt5 S5 hBd hbo q
 refine ⟨_,rfl,_,rfl,_,_,rfl,rfl,_,rfl,sc,is,st+1,bv,bd,rfl,SqL.keep hS (fun oo h=>S5 _ _ h),his,by lia,by lia,hBd,hbo,fun u1 k1 tb1 H6 hB1 hp1 e1 s6=>?_⟩
 have tt6:=tt5.same s6
 refine ⟨_,rfl,hd,_,rfl,tt6,by decide,by decide,fun way t1 hw0 hw1=>?_⟩
 have k7:Kp hd H6 (upd H6 hd (.lst [.int t1])):=Kp.tape
 have tt7:Tp (upd H6 hd (.lst [.int t1])) hd:=⟨t1,ab⟩
 generalize upd H6 hd (.lst [.int t1])=H7 at k7 tt7 ⊢
 have S7:Same H H7:=fun c oo h=>k7 _ _ (s6 _ _ (S5 _ _ h)) (af h hhd)
 have tk67:=k7.tk tt6
 refine ⟨_,rfl,_,rfl,_,_,rfl,rfl,_,rfl,sc,is,st+7,bv,bd,rfl,SqL.keep hS (fun oo h=>S7 _ _ h),his,by lia,by lia,(hBd.same s6).tape k7 tt6 hbo,hbo,fun u2 k2 tb2 H8 hB2 hp2 e2 s8=>?_⟩
 have tt8:=tt7.same s8
 have S8:=S7.trans s8
 have hB18:=hB1.mono (tk67.trans (aG s8))
 refine ⟨_,rfl,_,_,rfl,rfl,_,rfl,?_⟩
 refine bQ (fun c=>?_) (fun c=>?_)
 ·refine ⟨_,rfl,_,rfl,hd,u1,k1,bd.names,tb1,rfl,tt8,hB18,hp1,fun v kk H9 hB3 hk3 ek k9 t9=>?_⟩
  exact hnext _ hd _ _ _ _ _ u1 v way k1 kk H H9 hhd t9 (fun c oo h=>k9 _ _ (S8 _ _ h) (af h hhd)) (hB18.mono (k9.tk tt8)) hB3 ⟨bd,tb1,tbN tb1,hbo,hp1.le (by decide),hk3.le (by decide),e1,ek.trans e1⟩ q
 ·exact hnext _ hd _ _ _ _ _ u1 u2 way k1 k2 H H8 hhd tt8 S8 hB18 hB2 ⟨bd,tb1,tb2,hbo,hp1.le (by decide),hp2.le (by decide),e1,e2⟩ q
theorem rL (F:Fun K "_law_books" "_law_books" cJ f fd)
  (GO:FnOk P w K mg base CX0 19 f2 fd2 ["tape","book"] fi) (bO:Binds K fd2 ["tape","book"] []) (kO:PySem.W.keepIn K (.ref f2)=true) (mO:mg "_law_one_more"=some (.ref f2))
  (GM:FnOk P w K mg base CX0 2 f3 fd3 ["one","other","same"] gg) (bM:Binds K fd3 ["one","other","same"] []) (kM:PySem.W.keepIn K (.ref f3)=true) (mM:mg "_law_may_be_great"=some (.ref f3))
  (GD:FnOk P w K mg base CX0 1 f4 fd4 ["tape","many"] bH) (bD:Binds K fd4 ["tape","many"] []) (kD:PySem.W.keepIn K (.ref f4)=true) (mD:mg "_law_digit"=some (.ref f4))
  (GP:FnOk P w K mg base CX0 12 f5 fd5 ["script","start","build","most"] (gR K)) (bP:Binds K fd5 ["script","start","build","most"] []) (kP:PySem.W.keepIn K (.ref f5)=true) (mP:mg "_law_plain_of"=some (.ref f5))
  (GW:FnOk P w K mg base CX0 13 f6 fd6 ["tape","book"] eU) (bW:Binds K fd6 ["tape","book"] []) (kW:PySem.W.keepIn K (.ref f6)=true) (mW:mg "_law_told_otherwise"=some (.ref f6))
  (GB:FnOk P w K mg base CX0 3 f7 fd7 ["tape","many","most"] mz) (bB:Binds K fd7 ["tape","many","most"] []) (kB:PySem.W.keepIn K (.ref f7)=true) (mB:mg "_law_build"=some (.ref f7))
  (GT:FnOk P w K mg base CX0 2 f8 fd8 ["script","k"] (lb K)) (bT:Binds K fd8 ["script","k"] []) (kT:PySem.W.keepIn K (.ref f8)=true) (mT:mg "_law_tape"=some (.ref f8)):
  FnOk P w K mg base CX0 20 f fd ["script","start"] (mE K):=by
 refine F.ok scLBooks (fun vs H Q E h=>?_) (fun cdv A outer s H vs Q E hr h=>?_)
 ·obtain ⟨sc,is,st,rfl,_⟩:=h
  rfl
 obtain ⟨sc,is,st,rfl,hS,his,hst0,hst1,q⟩:=h
 have hr1:=hr.mono (show 1<=19 by decide)
 have hr2:=hr.mono (show 2<=19 by decide)
 have hr3:=hr.mono (show 3<=19 by decide)
 obtain ⟨t,ht,hnext⟩:=yh (f:=f) (cdv:=cdv) (A:=A) (outer:=outer) (s:=s) (H0:=H) (E:=E) GO bO kO mO GM bM kM mM GD bD kD mD GP bP kP mP GW bW kW mW hr
 refine ⟨_,ad (am (i:=2) scLBooks.nd rfl (Or.inl rfl) (al GT hr2 rfl mT kT bT .nil ax (aa (pv 0) (aa (pv 1) ac))))
  (ad (am (i:=3) scLBooks.nd rfl (Or.inl rfl) (aq aL (bu (pac ae (pac ae (pac ae (pac ae (pac ae (pac ae (pac ae (pac ae ac))))))))) (al GD hr1 rfl mD kD bD .nil ax (aa (pv 2) (aa ae ac))) (fun _ _=>rfl)))
  (ad (am (i:=4) scLBooks.nd rfl (Or.inl rfl) (aC aV ae (al GD hr1 rfl mD kD bD .nil ax (aa (pv 2) (aa (aq aL (bu (pac ae (pac ae (pac ae ac)))) (aC cT (pv 3) ae) (fun _ _=>rfl)) ac)))))
  (ad (am (i:=5) scLBooks.nd rfl (Or.inl rfl) (al GB hr3 rfl mB kB bB .nil ax (aa (pv 2) (aa (pv 4) (aa (pv 3) ac)))))
  (ad (aY (aF bh (pv 3) ae (aK _)) (aj (am (i:=5) scLBooks.nd rfl (Or.inl rfl) (aS (aa (aq aB (pv 5) ae (fun _ _=>rfl)) (aa (bA iD (aq aB (pv 5) ae (fun _ _=>rfl)) cC (cg ae)) ac))))) aM) ht)))),?_⟩
 refine ⟨_,rfl,_,rfl,sc,is,st,rfl,hS,his,hst0,by lia,fun hd t0 hhd=>?_⟩
 have s1:=ag hhd (.lst [.int t0])
 have tt1:Tp (upd H hd (.lst [.int t0])) hd:=⟨t0,ab⟩
 generalize upd H hd (.lst [.int t0])=H1 at s1 tt1 ⊢
 refine ⟨(by show 8<=sizeLine;decide),fun p2 hp2=>?_⟩
 have np2:=cW tt1 hp2
 have s2:=ag hp2 (.lst [.int 2,.int 2,.int 1,.int 2,.int 1,.int 3,.int 2,.int 2])
 have g2:(upd H1 p2 (.lst [.int 2,.int 2,.int 1,.int 2,.int 1,.int 3,.int 2,.int 2])) p2=some (.lst [.int 2,.int 2,.int 1,.int 2,.int 1,.int 3,.int 2,.int 2]):=ab
 have tt2:=tt1.same s2
 generalize upd H1 p2 (.lst [.int 2,.int 2,.int 1,.int 2,.int 1,.int 3,.int 2,.int 2])=H2 at s2 g2 tt2 ⊢
 refine ⟨_,rfl,hd,_,rfl,tt2,by decide,by decide,fun d1 t1 hd0 hd1=>?_⟩
 have k3:Kp hd H2 (upd H2 hd (.lst [.int t1])):=Kp.tape
 have tt3:Tp (upd H2 hd (.lst [.int t1])) hd:=⟨t1,ab⟩
 generalize upd H2 hd (.lst [.int t1])=H3 at k3 tt3 ⊢
 have g3:=k3 _ _ g2 np2
 have S3:Same H H3:=fun c oo h=>k3 _ _ (s2 _ _ (s1 _ _ h)) (af h hhd)
 obtain ⟨most,em,hm1,hm3⟩:=v5 hd0 hd1
 refine ⟨p2,_,d1,.int most,rfl,rfl,SqL.of g3,em,?_⟩
 refine ⟨_,rfl,(by show 3<=sizeLine;decide),fun p4 hp4=>?_⟩
 have s4:=ag hp4 (.lst [.int 3,.int 2,.int 1])
 have g4:(upd H3 p4 (.lst [.int 3,.int 2,.int 1])) p4=some (.lst [.int 3,.int 2,.int 1]):=ab
 have tt4:=tt3.same s4
 generalize upd H3 p4 (.lst [.int 3,.int 2,.int 1])=H4 at s4 g4 tt4 ⊢
 obtain ⟨mn,en,hn1,hn3⟩:=uM hm1 hm3
 refine ⟨_,rfl,_,_,rfl,rfl,p4,_,most-1,.int mn,rfl,rfl,SqL.of g4,en,hd,_,rfl,tt4,by lia,by lia,fun d2 t2 he0 he1=>?_⟩
 have k5:Kp hd H4 (upd H4 hd (.lst [.int t2])):=Kp.tape
 have tt5:Tp (upd H4 hd (.lst [.int t2])) hd:=⟨t2,ab⟩
 generalize upd H4 hd (.lst [.int t2])=H5 at k5 tt5 ⊢
 have S5:Same H H5:=fun c oo h=>k5 _ _ (s4 _ _ (S3 _ _ h)) (af h hhd)
 refine ⟨_,_,rfl,rfl,?_⟩
 refine ⟨_,rfl,_,rfl,_,rfl,hd,1+d2,most,rfl,tt5,by lia,by lia,hm1,hm3,fun bv bd H6 hBd hbo k6 tt6=>?_⟩
 have S6:Same H H6:=fun c oo h=>k6 _ _ (S5 _ _ h) (af h hhd)
 refine ⟨_,rfl,rfl,_,rfl,?_⟩
 refine bQ (fun c=>?_) (fun c=>?_)
 ·obtain ⟨a,nl,fl,zs,rfl,h1,h2,h3,h4⟩:=id hBd
  refine ⟨_,rfl,a,_,0,.ref nl,rfl,rfl,SqT.of h1,cf,_,rfl,a,_,1,.ref fl,rfl,rfl,SqT.of h1,ao (j:=1) rfl,2,rfl,fl,zs,rfl,SqL.of h3,fun p7 hp7=>?_⟩
  rw [show dD zs none (some 2)=zs.take 2 from sC zs 2]
  have s7:=ag hp7 (.lst (zs.take 2))
  have g7:(upd H6 p7 (.lst (zs.take 2))) p7=some (.lst (zs.take 2)):=ab
  generalize upd H6 p7 (.lst (zs.take 2))=H7 at s7 g7 ⊢
  refine ⟨(by show 2<=sizeLine;decide),fun p8 hp8=>?_⟩
  have s8:=ag hp8 (.tup [.ref nl,.ref p7])
  have S8:=s7.trans s8
  exact hnext _ sc hd is st _ _ (.ref p8) ⟨bd.names,bd.forms.take 2⟩ H _ hS his hst0 hst1 hhd (tt6.same S8) (S6.trans S8) ⟨p8,nl,p7,zs.take 2,rfl,ab,S8 _ _ h2,s8 _ _ g7,Paired.mapP (iq h4 2) fun _ _ h=>h.mono (aG S8)⟩ hbo.two q
 ·exact hnext _ sc hd is st _ _ bv bd H H6 hS his hst0 hst1 hhd tt6 S6 hBd hbo q
theorem TabSt.kp {tp p:Addr} {H H':Hp} {o:HO} (t:TabSt tp H) (h:H p=some o) (h1: ∀ x,o≠ .tbl x) (h2: ∀ c oc,o≠fH c oc) (k:Kp p H H'):TabSt tp H':=by
 rcases t with t | ⟨c',oc,t1,t2,t3,t4⟩
 ·exact .inl (k _ _ t fun z=>by rw [z,h]at t;exact h1 _ (Option.some.inj t))
 ·exact .inr ⟨c',oc,k _ _ t1 (fun z=>by rw [z,h]at t1;exact h1 _ (Option.some.inj t1)),t2,k _ _ t3 (fun z=>by rw [z,h]at t3;exact h2 _ _ (Option.some.inj t3)),t4⟩
theorem oi {c:Bool} {l1 l2:Addr} {α:Type} {as:List α} {A:α->V->V->Prop} {xs ys:List V} {fr:List Nat} {te:TE} {σ:St} {H1:Hp} {Q:VK} (hn:xs.length<=1000) (hl:as.length=xs.length) (hl2:xs.length=ys.length)
  (h1:H1 l1=some (dA c xs)) (h2:H1 l2=some (dA c ys)) (hA: ∀ (i:Nat) a x y,as[i]? =some a->xs[i]? =some x->ys[i]? =some y->A a x y)
  (R:Hp->α->V->Prop) (mono: ∀ {H H':Hp} {a:α} {v:V},TK H H'->R H a v->R H' a v)
  (hte: ∀ a x y H (k:VK),a∈as->A a x y->Same H1 H->(∀ u H',Same H H'->R H' a u->k u H')->te (some x::some y::bi fr σ) H k)
  (hd: ∀ p zs H',H1 p=none->Same H1 H'->H' p=some (.lst zs)->Paired (R H') as zs->Q (.ref p) H'):kK fr te σ (Itz c l1 l2) H1 Q:=by
 intro p hp
 refine ⟨fun i m zs H=>i<=xs.length/\m=xs.length-i/\Same H1 H/\H p=some (.lst zs)/\zs.length=i/\Paired (R H) (as.take i) zs,⟨_,Nat.zero_le _,rfl,ag hp _,ab,rfl,.nil⟩,?_⟩
 rintro i m zs H ⟨hi,hm,sm,gp,hz,hT⟩
 refine ⟨gp,?_⟩
 by_cases e:i=xs.length
 ·subst e
  rw [<- hl,List.take_length]at hT
  exact .inl ⟨⟨xs,ys,sm _ _ h1,sm _ _ h2,rfl,hl2.symm⟩,hd p zs H hp sm gp hT⟩
 ·have hlt:i<xs.length:=by lia
  refine .inr ⟨⟨xs,ys,xs[i],ys[i]'(by lia),sm _ _ h1,sm _ _ h2,List.getElem?_eq_getElem hlt,List.getElem?_eq_getElem (by lia)⟩,au (by lia),?_⟩
  rintro _ _ ⟨T,x,y,fT,rfl,rfl,hxy⟩
  obtain ⟨ex,ey⟩:=hxy xs ys (sm _ _ h1) (sm _ _ h2)
  obtain ⟨a,ha⟩: ∃ a,as[i]? =some a:=⟨as[i]'(by lia),List.getElem?_eq_getElem (by lia)⟩
  have sT:=ag fT (.tup [x,y])
  refine ⟨T,x,y,rfl,ab,hte a x y _ _ (List.mem_of_getElem? ha) (hA i a x y ha ex ey) (sm.trans sT) fun u H2 s2 r=>?_⟩
  have s02:=sT.trans s2
  have gp2:=s02 _ _ gp
  have tk:TK H2 (upd H2 p (.lst (zs++[u]))):=TK.lst gp2
  refine ⟨gp2,xs.length- (i+1),by lia,by lia,rfl,?_,ab,by rw [List.length_append,hz];rfl,?_⟩
  ·intro b o hb
   rw [ai (af hb hp)]
   exact s02 _ _ (sm _ _ hb)
  ·rw [List.take_add_one,ha]
   exact Paired.snoc (Paired.mapP hT fun _ _ r=>mono ((aG s02).trans tk) r) (mono tk r)
noncomputable abbrev fS (H:Hp) (b1 b2:Bk) (c:Bt) (v:V):Prop:=IntsAt H (iy b1 b2 c) v
noncomputable def qa (tbA:Addr):Sp:=fun vs H Q _=> ∃ (v1 v2:V) (b1 b2:Bk) (n m:Nat) (u:Bt) (s1 s2:Srt) (rl:Addr) (zs:List V),vs=[v1,v2,.str u.nm,.ref rl]/\RepB H b1 v1/\RepB H b2 v2/\PkB b1/\PkB b2/\TrP b1 n u s1/\TrP b2 m u s2/\u.sz<=1000/\H rl=some (.lst zs)/\Paired (fS H b1 b2) u.ps zs/\TabSt tbA H/\
 ∀ v H',Kp tbA H H'->TabSt tbA H'->fS H' b1 b2 u v->Q v H'
noncomputable def pZ (tbA:Addr):Sp:=fun vs H Q _=> ∃ (v1 v2 tv:V) (b1 b2:Bk) (n m k:Nat) (t:Bt) (s1 s2:Srt),vs=[v1,v2,tv]/\RepB H b1 v1/\RepB H b2 v2/\PkB b1/\PkB b2/\TrP b1 n t s1/\TrP b2 m t s2/\RepT H k t tv/\t.sz<=60/\TabSt tbA H/\
 ∀ v H',Kp tbA H H'->TabSt tbA H'->fS H' b1 b2 t v->Q v H'
noncomputable abbrev NRb:List Str:=["one","other","name","rows","parts","cuts","by_one","by_other"]
theorem scRowBy:aH NRb ["one","other","name","rows"] (ah gW):=fsc
theorem uA (F:Fun K "row_by_form" "row_by_form" gW f fd) (G:Gb mg) (hzip:mg "zip"=none)
  (GN:FnOk P w K mg base CX0 2 f2 fd2 ["book","name"] eV) (bN:Binds K fd2 ["book","name"] []) (kN:PySem.W.keepIn K (.ref f2)=true) (mN:mg "form_named"=some (.ref f2))
  (GP:FnOk P w K mg base CX0 1 f3 fd3 ["form"] gS) (bP:Binds K fd3 ["form"] []) (kP:PySem.W.keepIn K (.ref f3)=true) (mP:mg "parts_of"=some (.ref f3))
  (GU:FnOk P w K mg base CX0 3 f4 fd4 ["book","sort"] tE) (bU:Binds K fd4 ["book","sort"] []) (kU:PySem.W.keepIn K (.ref f4)=true) (mU:mg "ups_of"=some (.ref f4))
  (GY:FnOk P w K mg base CX0 6 f5 fd5 ["book","name","worths"] (pX tbA)) (bY:Binds K fd5 ["book","name","worths"] []) (kY:PySem.W.keepIn K (.ref f5)=true) (mY:mg "ups_by_form"=some (.ref f5)):
  FnOk P w K mg base CX0 7 f fd ["one","other","name","rows"] (qa tbA):=by
 refine F.ok scRowBy (fun vs H Q E h=>?_) (fun cdv A outer s H vs Q E hr h=>?_)
 ·obtain ⟨v1,v2,b1,b2,n,m,u,s1,s2,rl,zs,rfl,_⟩:=h
  rfl
 obtain ⟨v1,v2,b1,b2,n,m,u,sr1,sr2,rl,zs,rfl,hB1,hB2,hk1,hk2,hT1,hT2,hsz,grl,hZ,tt,q⟩:=h
 have hr1:=hr.mono (show 1<=6 by decide)
 have hr2:=hr.mono (show 2<=6 by decide)
 have hr3:=hr.mono (show 3<=6 by decide)
 refine ⟨_,ad (am (i:=4) scRowBy.nd rfl (Or.inl rfl) (al GP hr1 rfl mP kP bP .nil ax (aa (al GN hr2 rfl mN kN bN .nil ax (aa (pv 0) (aa (pv 2) ac))) ac)))
  (ad (eG (i:=5) (sc0:=ah gW) (N0:=NRb) (ys:=["one"]) (fr:=[0]) rfl scRowBy.nd rfl (Or.inl rfl) (a8 (pv 4)) rfl rfl
    cok
    (fun C s H ex=>aC aV ae (aA (r:=x8 K) aJ rfl G.len PySem.boot_len (aa (al GU hr3 rfl mU kU bU .nil ax (aa (pv 1) (aa (pv 0) ac))) ac))))
  (ad (am (i:=6) scRowBy.nd rfl (Or.inl rfl) (al GY hr rfl mY kY bY .nil ax (aa (pv 0) (aa (pv 2) (aa (je (sc0:=ah gW) (N0:=NRb) (ys:=[]) (fr:=[]) rfl (lL rfl hzip (aa (pv 3) (aa (pv 5) ac))) rfl rfl
    ⟨rfl,by decide +kernel,by decide +kernel,by decide +kernel,by decide +kernel,by decide +kernel,by decide +kernel,rfl,by decide +kernel⟩ (fun C s H ex=>bA iC (pv 0) (cg ae) (cg (pv 1)))) ac)))))
  (ad (am (i:=7) scRowBy.nd rfl (Or.inl rfl) (al GY hr rfl mY kY bY .nil ax (aa (pv 1) (aa (pv 2) (aa (je (sc0:=ah gW) (N0:=NRb) (ys:=[]) (fr:=[]) rfl (lL rfl hzip (aa (pv 3) (aa (pv 5) ac))) rfl rfl
    ⟨rfl,by decide +kernel,by decide +kernel,by decide +kernel,by decide +kernel,by decide +kernel,by decide +kernel,rfl,by decide +kernel⟩ (fun C s H ex=>bA iC (pv 0) (cg (pv 1)) cC)) ac)))))
  (aj (ay (aC iH (aC iH (aS (aa ae ac)) (pv 6)) (pv 7))))))),?_⟩
 cases n with
 | zero=>exact hT1.elim
 | succ n=>
 obtain ⟨fr,hfr,hnm,hown,hPt,_⟩:=TrP.upw hk1 hT1
 obtain ⟨_,hpi,hp3,_,_⟩:=hk1.s.fo fr hfr
 have lps:=Paired.length hPt
 have lzs:=Paired.length hZ
 refine ⟨_,rfl,_,rfl,v1,b1,u.nm,fr,rfl,hB1,hk1.s,hfr,hnm,fun fv H1 s1 hF1=>⟨fv,fr,rfl,hF1,fun pa gpa=>?_⟩⟩
 refine ⟨_,rfl,pa,rfl,⟨_,SqT.of gpa⟩,?_⟩
 have lpv:(bE fr.parts).length=fr.parts.length:=List.length_map _
 have hPp:Paired (fun (q:Srt) (v:V)=>v=.str q.name) fr.parts (bE fr.parts):=by
  have go: ∀ l:List Srt,Paired (fun (q:Srt) (v:V)=>v=.str q.name) l (bE l):=by
   intro l
   induction l with
   | nil=>exact .nil
   | cons x r ih=>exact .cons rfl ih
  exact go _
 refine bX (by lia) hPp (cM gpa) (cL gpa) (dg gpa) (fun _ q v=>v=.int (1+ (q.ups.length:Int))) (fun _ h=>h) ?_ ?_
 ·rintro q v H2 k hq rfl s2 hk
  refine ⟨_,rfl,_,rfl,v1,b1,q.name,q,rfl,hB1.mono (aG (s1.trans s2)),hk1.s,hpi q hq,rfl,fun ua H3 s3 gua=>?_⟩
  refine ⟨ua,_,rfl,.inr (SqT.of gua),_,_,rfl,rfl,?_⟩
  rw [List.length_map]
  exact hk _ H3 s3 rfl
 intro ca cs H2 hca s2 gca hcs
 have ecs:=cx (g:=fun q:Srt=>V.int (1+ (q.ups.length:Int))) hcs
 subst ecs
 have S2:=s1.trans s2
 have grl2:=S2 _ _ grl
 have tt2:=tt.same S2
 have lcs:(fr.parts.map fun q:Srt=>V.int (1+ (q.ups.length:Int))).length=fr.parts.length:=List.length_map _
 have hZ2:Paired (fS H2 b1 b2) u.ps zs:=Paired.mapP hZ fun _ _ h=>h.mono (aG S2)
 have hAt: ∀ (i:Nat) (c:Bt) x y,u.ps[i]? =some c->zs[i]? =some x->(fr.parts.map fun q:Srt=>V.int (1+ (q.ups.length:Int)))[i]? =some y-> ∃ a,x=.ref a/\H2 a=some (.tup ((iy b1 b2 c).map V.int))/\y=.int (1+ ((c.upw b1).length:Int)):=by
  intro i c x y hc hx hy
  obtain ⟨x',hx',a,ex,ha⟩:=aZ hZ2 hc
  rw [hx]at hx'
  cases hx'
  obtain ⟨q,hq,hTc⟩:=aZ hPt hc
  rw [List.getElem?_map,hq]at hy
  cases hy
  exact ⟨a,ex,ha,by rw [TrP.len hk1 hTc]⟩
 refine ⟨_,rfl,_,rfl,_,rfl,_,rfl,false,rl,ca,_,_,rfl,grl2,gca,?_⟩
 refine oi (as:=u.ps) (A:=fun c x y=> ∃ a,x=.ref a/\H2 a=some (.tup ((iy b1 b2 c).map V.int))/\y=.int (1+ ((c.upw b1).length:Int))) (by lia) (by lia) (by rw [lcs];lia) grl2 gca hAt (fun H c v=>IntsAt H (c.upw b1) v) (fun t h=>h.mono t) ?_ ?_
 ·rintro c x y H3 k _ ⟨a,rfl,ha,rfl⟩ s3 hk
  refine ⟨_,rfl,1,rfl,_,rfl,_,rfl,a,_,rfl,s3 _ _ ha,fun p H4 s4 g4=>hk _ H4 s4 ⟨p,rfl,?_⟩⟩
  rw [g4]
  have e:=wr ((iy b1 b2 c).map V.int) (a:=1) (b:=(c.upw b1).length) (by rw [List.length_map,iy,List.length_cons,List.length_append];lia)
  rw [show (some (1:Int))=some ((1:Nat):Int)from rfl,show (1:Int) + ((c.upw b1).length:Int)=((1:Nat):Int) + ((c.upw b1).length:Int)from rfl,e]
  show some (HO.tup (((c.upw b1++c.upw b2).map V.int).take (c.upw b1).length))=_
  rw [List.map_append,List.take_left' (List.length_map _)]
 intro wl ws H3 hwl s3 gwl hws
 have S3:=S2.trans s3
 have tt3:=tt2.same s3
 refine ⟨v1,b1,n+1,u,sr1,wl,ws,rfl,hB1.mono (aG S3),hk1,hT1,hsz,gwl,hws,tt3,fun w1 H4 k4 tt4 hw1=>?_⟩
 have tk4:=tt3.tk k4
 have grl4:H4 rl=some (.lst zs):=k4 _ _ (s3 _ _ grl2) (tt3.ne (s3 _ _ grl2) fun _ e=>by cases e)
 have gca4:H4 ca=some (.lst _):=k4 _ _ (s3 _ _ gca) (tt3.ne (s3 _ _ gca) fun _ e=>by cases e)
 refine ⟨_,rfl,_,rfl,_,rfl,_,rfl,false,rl,ca,_,_,rfl,grl4,gca4,?_⟩
 refine oi (as:=u.ps) (A:=fun c x y=> ∃ a,x=.ref a/\H4 a=some (.tup ((iy b1 b2 c).map V.int))/\y=.int (1+ ((c.upw b1).length:Int))) (by lia) (by lia) (by rw [lcs];lia) grl4 gca4 (fun i c x y h1 h2 h3=>by obtain ⟨a,e1,e2,e3⟩:=hAt i c x y h1 h2 h3;exact ⟨a,e1,tk4 _ _ (s3 _ _ e2),e3⟩) (fun H c v=>IntsAt H (c.upw b2) v) (fun t h=>h.mono t) ?_ ?_
 ·rintro c x y H5 k _ ⟨a,rfl,ha,rfl⟩ s5 hk
  refine ⟨_,rfl,_,rfl,_,rfl,a,_,rfl,s5 _ _ ha,fun p H6 s6 g6=>hk _ H6 s6 ⟨p,rfl,?_⟩⟩
  rw [g6]
  have e:=jy ((iy b1 b2 c).map V.int) (j:=1+ ((c.upw b1).length:Int)) (by lia) (by rw [List.length_map,iy,List.length_cons,List.length_append];lia)
  rw [e,show (1+ ((c.upw b1).length:Int)).toNat=(c.upw b1).length+1 by lia]
  show some (HO.tup (((c.upw b1++c.upw b2).map V.int).drop (c.upw b1).length))=_
  rw [List.map_append,List.drop_left' (List.length_map _)]
 intro wl2 ws2 H5 hwl2 s5 gwl2 hws2
 have tt5:=tt4.same s5
 have tk5:=tk4.trans (aG s5)
 refine ⟨v2,b2,m,u,sr2,wl2,ws2,rfl,(hB2.mono (aG S3)).mono tk5,hk2,hT2,hsz,gwl2,hws2,tt5,fun w2 H6 k6 tt6 hw2=>?_⟩
 have tk6:=tt5.tk k6
 obtain ⟨a1,rfl,ha1⟩:=hw1
 obtain ⟨a2,rfl,ha2⟩:=hw2
 have ha16:=tk6 _ _ (s5 _ _ ha1)
 have hl1:(u.upw b1).length<=3:=by
  rw [TrP.len hk1 hT1]
  obtain ⟨z1,z2,_⟩:=hk1.s.fo fr hfr
  rw [<- hown]
  exact (hk1.s.ws _ z1).2.1
 have hl2:(u.upw b2).length<=3:=by
  rw [TrP.len hk2 hT2]
  cases m with
  | zero=>exact hT2.elim
  | succ m=>
   obtain ⟨fr2,hfr2,_,hown2,_⟩:=hT2
   obtain ⟨z1,z2,_⟩:=hk2.s.fo fr2 hfr2
   rw [<- hown2]
   exact (hk2.s.ws _ z1).2.1
 refine ⟨(by show 1<=sizeLine;decide),fun p7 hp7=>?_⟩
 have s7:=ag hp7 (.tup [.int 1])
 have g7:(upd H6 p7 (.tup [.int 1])) p7=some (.tup [.int 1]):=ab
 generalize upd H6 p7 (.tup [.int 1])=H7 at s7 g7 ⊢
 refine ⟨_,rfl,p7,a1,_,_,rfl,rfl,g7,s7 _ _ ha16,Nat.le_of_lt (au (by rw [List.length_map];show 1+_<=1000;lia)),fun p8 H8 s8 g8=>?_⟩
 refine ⟨_,rfl,p8,a2,_,_,rfl,rfl,g8,s8 _ _ (s7 _ _ ha2),Nat.le_of_lt (au (by rw [List.length_append,List.length_map,List.length_map];show 1+_+_<=1000;lia)),fun p9 H9 s9 g9=>?_⟩
 have S69:Same H6 H9:=s7.trans (Same.trans s8 s9)
 refine q _ H9 ?_ (tt6.same S69) ⟨p9,rfl,?_⟩
 ·exact ((Kp.refl.same S3).trans k4).trans (((Kp.refl.same s5).trans k6).same S69)
 ·rw [g9,iy,List.map_cons,List.map_append]
  rfl
noncomputable abbrev NRo:List Str:=["one","other","tree","pile","bough","rows"]
theorem scRowOf:aH NRo ["one","other","tree"] (ah lq):=fsc
theorem uz (F:Fun K "row_of" "row_of" lq f fd) (hlist:mg "list"=none) (hrev:mg "reversed"=none)
  (GB:FnOk P w K mg base CX0 1 f2 fd2 ["tree"] jV) (bB:Binds K fd2 ["tree"] []) (kB:PySem.W.keepIn K (.ref f2)=true) (mB:mg "boughs_by_place"=some (.ref f2))
  (GR:FnOk P w K mg base CX0 7 f3 fd3 ["one","other","name","rows"] (qa tbA)) (bR:Binds K fd3 ["one","other","name","rows"] []) (kR:PySem.W.keepIn K (.ref f3)=true) (mR:mg "row_by_form"=some (.ref f3)):
  FnOk P w K mg base CX0 8 f fd ["one","other","tree"] (pZ tbA):=by
 refine F.ok scRowOf (fun vs H Q E h=>?_) (fun cdv A outer s H vs Q E hr h=>?_)
 ·obtain ⟨v1,v2,tv,b1,b2,n,m,k,t,s1,s2,rfl,_⟩:=h
  rfl
 obtain ⟨v1,v2,tv,b1,b2,n,m,k,t,sr1,sr2,rfl,hB1,hB2,hk1,hk2,hT1,hT2,hR,hsz,tt,q⟩:=h
 have hr1:=hr.mono (show 1<=7 by decide)
 refine ⟨_,ad (am (i:=3) scRowOf.nd rfl (Or.inr rfl) (bu ac))
  (ad (bc PassesOwn.never rfl (ud rfl hrev (nv rfl rfl hlist (al GB hr1 rfl mB kB bB .nil ax (aa (pv 2) ac)))) (aw (i:=4) scRowOf.nd rfl (Or.inl rfl))
   (ad (eG (i:=5) (te:=wU K "list" w8 (vv 1)) (sc0:=ah lq) (N0:=NRo) (ys:=["pile"]) (fr:=[3]) rfl scRowOf.nd rfl (Or.inl rfl) (a8 (aq aB (pv 4) ae (fun _ _=>rfl))) rfl rfl
    cok
    (fun C s H ex=>hU PySem.F.plainAttrs_list PySem.F.slot_list_pop PySem.F.type_list_pop h8 (pv 1)))
   (aj (cG (ee PySem.F.plainAttrs_list PySem.F.slot_list_append PySem.F.type_list_append bo (pv 3) (aa
    (al GR hr rfl mR kR bR .nil ax (aa (pv 0) (aa (pv 1) (aa (aq aB (pv 4) ae (fun _ _=>rfl)) (aa (pv 5) ac))))) ac))))))
  (aj (ay (hU PySem.F.plainAttrs_list PySem.F.slot_list_pop PySem.F.type_list_pop h8 (pv 3))))),?_⟩
 refine ⟨(by show 0<=sizeLine;decide),fun pl hpl=>?_⟩
 have s0:=ag hpl (.lst [])
 have g0:(upd H pl (.lst [])) pl=some (.lst []):=ab
 generalize upd H pl (.lst [])=H0 at s0 g0 ⊢
 refine ⟨_,rfl,k,t,tv,rfl,hR.mono (aG s0),by lia,fun d kvs H1 hd S1 gd hks hP=>?_⟩
 refine ⟨d,kvs,rfl,gd,fun lv hlv=>?_⟩
 have hvl:(kvs.map (·.2)).length=t.sz:=by
  have:=congrArg List.length hks
  rw [List.length_map,List.length_map]at this
  rw [List.length_map]
  exact this
 generalize kvs.map (·.2)=vs at hP hvl ⊢
 have s2:=ag hlv (.lst vs)
 have g2:(upd H1 lv (.lst vs)) lv=some (.lst vs):=ab
 have gp2:(upd H1 lv (.lst vs)) pl=some (.lst []):=s2 _ _ (S1 _ _ g0)
 have nlp:lv≠pl:=fun z=>by rw [z,S1 _ _ g0]at hlv;cases hlv
 have hP2:Paired (RepT (upd H1 lv (.lst vs)) k) t.subs vs:=Paired.mapP hP fun _ _ r=>r.mono (aG s2)
 have S2:Same H (upd H1 lv (.lst vs)):=(s0.trans S1).trans s2
 generalize upd H1 lv (.lst vs)=H2 at s2 g2 gp2 hP2 S2 ⊢
 have tt2:=tt.same S2
 have nlt:lv≠tbA:=tt2.ne g2 fun _ e=>by cases e
 have npt:pl≠tbA:=tt2.ne gp2 fun _ e=>by cases e
 have hsl:t.subs.length=t.sz:=mq _ t (Nat.le_refl _)
 refine ⟨lv,vs,rfl,SqL.of g2,?_⟩
 refine qF (fun i σ H'=>i<=vs.length/\ ∃ o4 o5 pv,σ=[some v1,some v2,some tv,some (.ref pl),o4,o5]/\Kp tbA H H'/\TabSt tbA H'/\H' lv=some (.lst vs)/\Paired (RepT H' k) t.subs vs/\H' pl=some (.lst (List.reverse pv))/\Paired (fS H' b1 b2) (cU t (vs.length-i)) pv)
  ⟨Nat.zero_le _,none,none,[],rfl,Kp.refl.same S2,tt2,g2,hP2,gp2,?_⟩ (fun i σ H' _ h=>by obtain ⟨_,_,_,_,_,_,_,g,_⟩:=h;exact SqL.of g) ?_ ?_
 ·rw [Nat.sub_zero,hvl,<- hsl,pH];exact .nil
 ·rintro i x σ H3 hi hx ⟨_,o4,o5,pv,rfl,k3,tt3,g3,hP3,gp3,hpv⟩
  obtain ⟨u,hu,hRu⟩:=aN hP3 hx
  obtain ⟨r,f1,f2⟩:=sk hu
  have hum:u∈t.subs:=List.mem_of_getElem? hu
  have husz:u.sz<=60:=Nat.le_trans (vx _ t (Nat.le_refl _) u hum) hsz
  obtain ⟨a,b,rfl,ha,hb,hps⟩:=hRu.prt
  have hlps:u.ps.length=(oS H3 (.ref a)).length:=Paired.length hps
  have hfl:=jw (t:=t) (vs.length-1-i)
  have hfl2:=jw (t:=t) (vs.length-i)
  rw [show vs.length-i=vs.length-1-i+1 by lia,f2]at hpv hfl2
  rw [f1]at hfl
  rw [List.length_append]at hfl2
  rw [List.length_cons]at hfl
  obtain ⟨tp,rs,epv,htop,hrest⟩:=gw hpv
  subst epv
  have ltp:=Paired.length htop
  have lrs:=Paired.length hrest
  rw [List.reverse_append]at gp3
  refine ⟨_,rfl,a,_,1,.ref b,rfl,rfl,SqT.of ha,ao (j:=1) rfl,b,rfl,⟨_,SqT.of hb⟩,?_⟩
  have kb: ∀ H,Kp pl H3 H->H b=some (.tup (oS H3 (.ref a))):=fun H k=>k b _ hb (fun z=>by rw [z,gp3]at hb;cases hb)
  refine ko (n:=u.ps.length) (by lia) ltp.symm gp3 (fun i H k h=>⟨_,_,SqT.of (kb H k),List.getElem?_eq_getElem (by lia)⟩) (fun H k=>⟨_,SqT.of (kb H k),by lia⟩) (fun i H v H' h=>h.1)
   (fun x H k xs y h1 h2 h3=>⟨_,rfl,.inl ⟨rfl,xs,SqL.of h1⟩,pl,xs,y,rfl,rfl,h1,h2,h3⟩) ?_
  intro p4 H4 hp4 k4 gp4 g4
  have tk4:TK H3 H4:=k4.tkL gp3
  have ha4:=tk4 _ _ ha
  have np:p4≠pl:=fun z=>by rw [z,gp3]at hp4;cases hp4
  have tt4:TabSt tbA H4:=tt3.kp gp3 (fun _ e=>by cases e) (fun _ _ e=>by cases e) k4
  have tk03:TK H H3:=tt.tk k3
  have tk04:=tk03.trans tk4
  obtain ⟨q1,hq1⟩:=TrP.sub hT1 u hum
  obtain ⟨q2,hq2⟩:=TrP.sub hT2 u hum
  refine ⟨_,rfl,.inl ⟨rfl,_,SqL.of gp4⟩,_,rfl,_,rfl,_,rfl,a,_,0,.str u.nm,rfl,rfl,SqT.of ha4,ao (j:=0) rfl,_,rfl,v1,v2,b1,b2,n,m,u,q1,q2,p4,tp,rfl,hB1.mono tk04,hB2.mono tk04,hk1,hk2,hq1,hq2,by lia,g4,Paired.mapP htop fun _ _ h=>h.mono tk4,tt4,fun v H5 k5 tt5 hv=>?_⟩
  have tk5:=tt4.tk k5
  have gp5:=k5 _ _ gp4 npt
  have tk6:TK H5 (upd H5 pl (.lst (rs.reverse++[v]))):=TK.lst gp5
  refine ⟨pl,_,_,rfl,rfl,gp5,au (by rw [List.length_reverse];lia),?_⟩
  refine ⟨hi,_,_,v::rs,rfl,?_,tt5.lst gp5,?_,Paired.mapP hP3 fun _ _ r=>((r.mono tk4).mono tk5).mono tk6,?_,?_⟩
  ·intro y oo h hn
   rw [ai (af h hpl)]
   exact k5 _ _ (k4 _ _ (k3 _ _ h hn) (af h hpl)) hn
  ·rw [ai nlp];exact k5 _ _ (k4 _ _ g3 nlp) nlt
  ·rw [ab,List.reverse_cons]
  ·rw [show vs.length- (i+1)=vs.length-1-i by lia,f1]
   exact .cons (hv.mono tk6) (Paired.mapP hrest fun _ _ h=>((h.mono tk4).mono tk5).mono tk6)
 ·rintro σ H3 ⟨_,o4,o5,pv,rfl,k3,tt3,g3,hP3,gp3,hpv⟩
  rw [Nat.sub_self]at hpv
  have hpv:Paired (fS H3 b1 b2) [t] pv:=hpv
  cases hpv with
  | @cons _ v _ rs hv hn=>
  cases hn
  have tk6:TK H3 (upd H3 pl (.lst [])):=TK.lst gp3
  refine ⟨_,rfl,.inl ⟨rfl,_,SqL.of gp3⟩,pl,_,v,rfl,rfl,gp3,rfl,q _ _ (fun y oo h hn=>?_) (tt3.lst gp3) (hv.mono tk6)⟩
  rw [ai (af h hpl)]
  exact k3 _ _ h hn
theorem vE (w n:Int):rst w (rst w n)=rst w n:=by
 unfold rst
 by_cases c:0<w
 ·rw [if_pos c,if_pos c,Int.emod_emod]
 ·rw [if_neg c,if_neg c]
theorem gY (w:Int) (ρ:Fm->Int) (f:Fm):rst w (f.ev w ρ)=f.ev w ρ:=by rw [uZ,vE]
noncomputable def lc:Sp:=fun vs H Q _=> ∃ n w:Int,vs=[.int n,.int w]/\0<=w/\Q (.int (rst w n)) H
noncomputable def eD (n:Nat):Sp:=fun vs H Q _=> ∃ (f:Fm) (v:V) (td:Addr) (kvs:List (List Key×V)) (w:Int) (ρ:Fm->Int),vs=[v,.ref td,.int w]/\0<=w/\Rep H f v/\f.wf/\f.size<=n/\H td=some (.dT kvs)/\FmC w ρ kvs f/\ ∀ H',Same H H'->Q (evV w ρ f) H'
theorem vB:aH ["number","wheel"] ["number","wheel"] (ah oK):=fsc
theorem uF (F:Fun K "_law_rest" "_law_rest" oK f fd):FnOk P w K mg base CX0 1 f fd ["number","wheel"] lc:=by
 refine F.ok vB (fun vs H Q E h=>?_) (fun cdv A outer s H vs Q E hr h=>?_)
 ·obtain ⟨n,w,rfl,_⟩:=h
  rfl
 obtain ⟨n,w,rfl,hw,q⟩:=h
 refine ⟨_,aj (ay (db (aF bh (pv 1) ae (aK _)) (pv 0) (aC cZ (pv 0) (pv 1)))),?_⟩
 refine ⟨_,rfl,rfl,_,rfl,?_⟩
 refine bQ (fun c=>?_) (fun c=>?_)
 ·have e:=V.int.inj (of_decide_eq_true c)
  subst e
  rw [vF]at q
  exact ⟨_,rfl,q⟩
 ·have h0:0<w:=by
   have:w≠0:=fun e=>c (by rw [e];exact decide_eq_true rfl)
   lia
  unfold rst at q
  rw [if_pos h0]at q
  exact ⟨_,rfl,_,rfl,_,_,rfl,rfl,h0,q⟩
noncomputable abbrev NLr:List Str:=["formula","told","wheel","sign","some"]
theorem scLReck:aH NLr di (ah i6):=fsc
theorem rH {n:Nat} (F:Fun K "_law_reckoned" "_law_reckoned" i6 f fd) (G:Gb mg)
  (GS:FnOk P w K mg base CX0 (n+1) f fd di (eD n)) (bS:Binds K fd di []) (mS:mg "_law_reckoned"=some (.ref f))
  (GR:FnOk P w K mg base CX0 1 f2 fd2 ["number","wheel"] lc) (bR:Binds K fd2 ["number","wheel"] []) (kR:PySem.W.keepIn K (.ref f2)=true) (mR:mg "_law_rest"=some (.ref f2)):
  FnOk P w K mg base CX0 (n+2) f fd di (eD (n+1)):=by
 refine F.ok scLReck (fun vs H Q E h=>?_) (fun cdv A outer s H vs Q E hr h=>?_)
 ·obtain ⟨fm,v,td,kvs,w,ρ,rfl,_⟩:=h
  rfl
 obtain ⟨fm,v,td,kvs,wh,ρ,rfl,hw0,hRf,hwf,hsz,gtd,⟨ht,hfit⟩,q⟩:=h
 have hu:=dh hr
 have hr1:=hr.mono (show 1<=n+1 by lia)
 refine ⟨_,ad (am (i:=3) scLReck.nd rfl (Or.inl rfl) (aq aB (pv 0) ae (fun _ _=>rfl)))
  (ad (aY (aF bh (pv 3) aT (aK _)) (aj (ay (al GR hr1 rfl mR kR bR .nil ax (aa (aq aB (pv 0) ae (fun _ _=>rfl)) (aa (pv 2) ac))))) aM)
  (ad (aY (PW.pt (tW (aF bh (pv 3) aT (aK _)) (oQ (aF bh (pv 3) aT (aK _))))) (aj (ay (al GR hr1 rfl mR kR bR .nil ax (aa (be hu (pv 1) (pv 0) (fun _ _=>rfl)) (aa (pv 2) ac))))) aM)
  (ad (eG (i:=4) (sc0:=ah i6) (N0:=NLr) (ys:=["told","wheel"]) (fr:=[1,2]) rfl scLReck.nd rfl (Or.inl rfl) (a8 (bA lh (pv 0) (cg ae) cC)) rfl rfl
    cok (fun C s H ex=>al GS hr rfl mS F.kp bS .nil ax (aa (pv 0) (aa (pv 1) (aa (pv 2) ac)))))
  (ad (aY (aF bh (pv 3) aT (aK _)) (aj (ay (db (aF bh (aq aL (pv 4) ae (fun _ _=>rfl)) ae (aK _)) (aq aL (pv 4) ae (fun _ _=>rfl)) (aq aL (pv 4) ae (fun _ _=>rfl))))) aM)
  (ad (aY (aF bh (pv 3) aT (aK _)) (aj (ay (db (aF j4 (aq aL (pv 4) ae (fun _ _=>rfl)) (aq aL (pv 4) ae (fun _ _=>rfl)) (aK _)) (aq aL (pv 4) ae (fun _ _=>rfl)) (aq aL (pv 4) ae (fun _ _=>rfl))))) aM)
  (ad (aY (aF bh (pv 3) aT (aK _)) (aj (ay (db (aF jk (aq aL (pv 4) ae (fun _ _=>rfl)) (aq aL (pv 4) ae (fun _ _=>rfl)) (aK _)) (aq aL (pv 4) ae (fun _ _=>rfl)) (aq aL (pv 4) ae (fun _ _=>rfl))))) aM)
  (ad (aY (aF bh (pv 3) aT (aK _)) (aj (ay (al GR hr1 rfl mR kR bR .nil ax (aa (aC qp (aq aL (pv 4) ae (fun _ _=>rfl)) (aq aL (pv 4) ae (fun _ _=>rfl))) (aa (pv 2) ac))))) aM)
  (aj (ay (al GR hr1 rfl mR kR bR .nil ax (aa (aC aV (aq aL (pv 4) ae (fun _ _=>rfl)) (aq aL (bu (aa (aq aL (pv 4) ae (fun _ _=>rfl)) (aa (aC cT ae (aq aL (pv 4) ae (fun _ _=>rfl))) ac))) (bg sH rfl G.int (by decide +kernel) (aa (dJ bh (pv 3) aT (aK _)) ac)) (fun _ _=>rfl))) (aa (pv 2) ac)))))))))))),?_⟩
 obtain ⟨a,r,rfl,ha⟩:=ja hRf
 refine ⟨_,rfl,a,_,0,.str (fG fm),rfl,rfl,SqT.of ha,cf,?_⟩
 cases fm with
 | num m=>
  obtain ⟨a',e,ha'⟩:=hRf
  cases e
  refine ⟨_,rfl,rfl,true,(blT rfl),dQ ?_⟩
  exact ⟨_,rfl,a,_,1,.int m,rfl,rfl,SqT.of ha',ao (j:=1) rfl,_,rfl,m,wh,rfl,hw0,q H (fun _ _ h=>h)⟩
 | own x=>
  obtain ⟨a',e,ha'⟩:=hRf
  cases e
  refine ⟨_,rfl,rfl,false,(blF (by show ("own":Str)≠"num";decide +kernel)),cp ?_⟩
  refine ⟨_,rfl,rfl,true,(blT rfl),dQ (dQ ?_)⟩
  exact ⟨_,rfl,_,rfl,td,.int (ρ (.own x)),rfl,(by rw [<- (show _=_ from ht)];exact DGet.t (k:=[.inr "own",.inr x]) gtd ha'),_,rfl,_,wh,rfl,hw0,q H (fun _ _ h=>h)⟩
 | part k x=>
  obtain ⟨a',e,ha'⟩:=hRf
  cases e
  refine ⟨_,rfl,rfl,false,(blF (by show ("part":Str)≠"num";decide +kernel)),cp ?_⟩
  refine ⟨_,rfl,rfl,false,(blF (by show ("part":Str)≠"own";decide +kernel)),cp ⟨_,rfl,rfl,true,(blT rfl),dQ ?_⟩⟩
  exact ⟨_,rfl,_,rfl,td,.int (ρ (.part k x)),rfl,(by rw [<- (show _=_ from ht)];exact DGet.t (k:=[.inr "part",.inl k,.inr x]) gtd ha'),_,rfl,_,wh,rfl,hw0,q H (fun _ _ h=>h)⟩
 | bin op A B=>
  obtain ⟨a1,u1,u2,e,ha1,r1,r2⟩:=hRf
  cases e
  obtain ⟨ho,w1,w2⟩:op∈ops/\A.wf/\B.wf:=hwf
  have hz:A.size+B.size+1<=n+1:=hsz
  have hnn:op≠"num":=fun z=>by rw [z]at ho;exact absurd ho (by decide +kernel)
  have hno:op≠"own":=fun z=>by rw [z]at ho;exact absurd ho (by decide +kernel)
  have hnp:op≠"part":=fun z=>by rw [z]at ho;exact absurd ho (by decide +kernel)
  have hnw:op≠"when":=fun z=>by rw [z]at ho;exact absurd ho (by decide +kernel)
  refine ⟨_,rfl,rfl,false,(blF hnn),cp ?_⟩
  refine ⟨_,rfl,rfl,false,(blF hno),cp ⟨_,rfl,rfl,false,(blF hnp),cp ?_⟩⟩
  refine ⟨_,rfl,1,rfl,a,_,rfl,SqT.of ha1,fq _ _,fun p5 h5=>?_⟩
  rw [wt]
  have s5:=ag h5 (.tup [u1,u2])
  have g5:(upd H p5 (.tup [u1,u2])) p5=some (.tup [u1,u2]):=ab
  generalize upd H p5 (.tup [u1,u2])=H5 at s5 g5 ⊢
  refine ⟨p5,rfl,⟨_,SqT.of g5⟩,?_⟩
  obtain ⟨t1,t2⟩:A.tld kvs ρ/\B.tld kvs ρ:=ht
  obtain ⟨f1,f2,f3⟩:A.fit wh ρ/\B.fit wh ρ/\(op="times"->IntMulOk (A.ev wh ρ) (B.ev wh ρ)):=hfit
  refine bX (as:=[A,B]) (A:=fun g v=>Rep H g v/\g.wf/\g.size<=n/\FmC wh ρ kvs g) (by show 2<=1000;decide) (.cons ⟨r1,w1,by lia,t1,f1⟩ (.cons ⟨r2,w2,by lia,t2,f2⟩ .nil)) (cM g5) (cL g5) (dg g5) (fun _ g v=>v=.int (g.ev wh ρ)) (fun _ h=>h) ?_ ?_
  ·rintro g v' H6 k hg ⟨hRg,hwg,hsg,hCg⟩ s6 hk
   exact ⟨_,rfl,_,rfl,_,rfl,g,v',td,kvs,wh,ρ,rfl,hw0,hRg.mono (aG (s5.trans s6)),hwg,hsg,s6 _ _ (s5 _ _ gtd),hCg,fun H7 s7=>hk _ H7 s7 rfl⟩
  ·intro p7 zs H7 hp7 s7 g7 hz7
   have e7:=cx (g:=fun g:Fm=>V.int (g.ev wh ρ)) hz7
   subst e7
   have g7:H7 p7=some (.lst [.int (A.ev wh ρ),.int (B.ev wh ρ)]):=g7
   have q7:Q (.int (rst wh (opI op (A.ev wh ρ) (B.ev wh ρ)))) H7:=q H7 (s5.trans s7)
   refine ⟨_,rfl,rfl,false,(blF hnw),cp ?_⟩
   refine ⟨_,rfl,rfl,_,rfl,?_⟩
   refine bQ (fun c=>?_) (fun c=>?_)
   ·have e:=V.str.inj (of_decide_eq_true c)
    have e:op="least":=e
    subst e
    rw [j6]at q7
    refine ⟨_,rfl,p7,_,1,.int (B.ev wh ρ),rfl,rfl,SqL.of g7,ao (j:=1) rfl,_,rfl,p7,_,0,.int (A.ev wh ρ),rfl,rfl,SqL.of g7,cf,_,_,rfl,rfl,_,rfl,?_⟩
    refine bQ (fun c=>?_) (fun c=>?_)
    ·rw [if_pos (of_decide_eq_true c),gY]at q7
     exact ⟨_,rfl,p7,_,1,.int (B.ev wh ρ),rfl,rfl,SqL.of g7,ao (j:=1) rfl,q7⟩
    ·rw [if_neg (fun z=>c (decide_eq_true z)),gY]at q7
     exact ⟨_,rfl,p7,_,0,.int (A.ev wh ρ),rfl,rfl,SqL.of g7,cf,q7⟩
   have n1:op≠"least":=fun e=>c (decide_eq_true (by show V.str op=_;rw [e]))
   refine ⟨_,rfl,rfl,_,rfl,?_⟩
   refine bQ (fun c=>?_) (fun c=>?_)
   ·have e:=V.str.inj (of_decide_eq_true c)
    have e:op="most":=e
    subst e
    rw [nE]at q7
    refine ⟨_,rfl,p7,_,1,.int (B.ev wh ρ),rfl,rfl,SqL.of g7,ao (j:=1) rfl,_,rfl,p7,_,0,.int (A.ev wh ρ),rfl,rfl,SqL.of g7,cf,_,_,rfl,rfl,_,rfl,?_⟩
    refine bQ (fun c=>?_) (fun c=>?_)
    ·rw [if_pos (of_decide_eq_true c),gY]at q7
     exact ⟨_,rfl,p7,_,1,.int (B.ev wh ρ),rfl,rfl,SqL.of g7,ao (j:=1) rfl,q7⟩
    ·rw [if_neg (fun z=>c (decide_eq_true z)),gY]at q7
     exact ⟨_,rfl,p7,_,0,.int (A.ev wh ρ),rfl,rfl,SqL.of g7,cf,q7⟩
   have n2:op≠"most":=fun e=>c (decide_eq_true (by show V.str op=_;rw [e]))
   refine ⟨_,rfl,rfl,_,rfl,?_⟩
   refine bQ (fun c=>?_) (fun c=>?_)
   ·have e:=V.str.inj (of_decide_eq_true c)
    have e:op="times":=e
    subst e
    rw [j5]at q7
    exact ⟨_,rfl,p7,_,0,.int (A.ev wh ρ),rfl,rfl,SqL.of g7,cf,_,rfl,p7,_,1,.int (B.ev wh ρ),rfl,rfl,SqL.of g7,ao (j:=1) rfl,_,_,rfl,rfl,f3 rfl,_,rfl,_,wh,rfl,hw0,q7⟩
   have n3:op≠"times":=fun e=>c (decide_eq_true (by show V.str op=_;rw [e]))
   have hor:op="plus"\/op="less":=by
    have ho:op∈(["plus","less","times","least","most"]:List Str):=ho
    simp only [List.mem_cons,List.not_mem_nil,or_false]at ho
    rcases ho with h | h | h | h | h
    ·exact .inl h
    ·exact .inr h
    ·exact absurd h n3
    ·exact absurd h n1
    ·exact absurd h n2
   refine ⟨_,rfl,p7,_,0,.int (A.ev wh ρ),rfl,rfl,SqL.of g7,cf,?_⟩
   refine ⟨_,rfl,p7,_,1,.int (B.ev wh ρ),rfl,rfl,SqL.of g7,ao (j:=1) rfl,_,rfl,p7,_,1,.int (B.ev wh ρ),rfl,rfl,SqL.of g7,ao (j:=1) rfl,_,_,rfl,rfl,(by show 2<=sizeLine;decide),fun p8 hp8=>?_⟩
   have s8:=ag hp8 (.lst [.int (B.ev wh ρ),.int (0-B.ev wh ρ)])
   have g8:(upd H7 p8 (.lst [.int (B.ev wh ρ),.int (0-B.ev wh ρ)])) p8=some (.lst [.int (B.ev wh ρ),.int (0-B.ev wh ρ)]):=ab
   have q8:Q (.int (rst wh (opI op (A.ev wh ρ) (B.ev wh ρ)))) (upd H7 p8 (.lst [.int (B.ev wh ρ),.int (0-B.ev wh ρ)])):=q _ ((s5.trans s7).trans s8)
   generalize upd H7 p8 (.lst [.int (B.ev wh ρ),.int (0-B.ev wh ρ)])=H8 at s8 g8 q8 ⊢
   rcases hor with e | e
   ·subst e
    rw [nC]at q8
    exact ⟨_,rfl,rfl,.inr ⟨false,congrArg (fun x=>[x]) (blF (by show ("plus":Str)≠"less";decide +kernel)),p8,_,0,.int (B.ev wh ρ),rfl,rfl,SqL.of g8,cf,_,_,rfl,rfl,_,rfl,_,wh,rfl,hw0,q8⟩⟩
   ·subst e
    rw [nF,show A.ev wh ρ-B.ev wh ρ=A.ev wh ρ+ (0-B.ev wh ρ) by lia]at q8
    exact ⟨_,rfl,rfl,.inr ⟨true,congrArg (fun x=>[x]) (blT rfl),p8,_,1,.int (0-B.ev wh ρ),rfl,rfl,SqL.of g8,ao (j:=1) rfl,_,_,rfl,rfl,_,rfl,_,wh,rfl,hw0,q8⟩⟩
 | whn A B C=>
  obtain ⟨a1,u1,u2,u3,e,ha1,r1,r2,r3⟩:=hRf
  cases e
  obtain ⟨w1,w2,w3⟩:A.wf/\B.wf/\C.wf:=hwf
  have hz:A.size+B.size+C.size+1<=n+1:=hsz
  refine ⟨_,rfl,rfl,false,(blF (by show ("when":Str)≠"num";decide +kernel)),cp ?_⟩
  refine ⟨_,rfl,rfl,false,(blF (by show ("when":Str)≠"own";decide +kernel)),cp ⟨_,rfl,rfl,false,(blF (by show ("when":Str)≠"part";decide +kernel)),cp ?_⟩⟩
  refine ⟨_,rfl,1,rfl,a,_,rfl,SqT.of ha1,fq _ _,fun p5 h5=>?_⟩
  rw [wt]
  have s5:=ag h5 (.tup [u1,u2,u3])
  have g5:(upd H p5 (.tup [u1,u2,u3])) p5=some (.tup [u1,u2,u3]):=ab
  generalize upd H p5 (.tup [u1,u2,u3])=H5 at s5 g5 ⊢
  refine ⟨p5,rfl,⟨_,SqT.of g5⟩,?_⟩
  obtain ⟨t1,t2,t3⟩:A.tld kvs ρ/\B.tld kvs ρ/\C.tld kvs ρ:=ht
  obtain ⟨f1,f2,f3⟩:A.fit wh ρ/\B.fit wh ρ/\C.fit wh ρ:=hfit
  refine bX (as:=[A,B,C]) (A:=fun g v=>Rep H g v/\g.wf/\g.size<=n/\FmC wh ρ kvs g) (by show 3<=1000;decide) (.cons ⟨r1,w1,by lia,t1,f1⟩ (.cons ⟨r2,w2,by lia,t2,f2⟩ (.cons ⟨r3,w3,by lia,t3,f3⟩ .nil))) (cM g5) (cL g5) (dg g5) (fun _ g v=>v=.int (g.ev wh ρ)) (fun _ h=>h) ?_ ?_
  ·rintro g v' H6 k hg ⟨hRg,hwg,hsg,hCg⟩ s6 hk
   exact ⟨_,rfl,_,rfl,_,rfl,g,v',td,kvs,wh,ρ,rfl,hw0,hRg.mono (aG (s5.trans s6)),hwg,hsg,s6 _ _ (s5 _ _ gtd),hCg,fun H7 s7=>hk _ H7 s7 rfl⟩
  ·intro p7 zs H7 hp7 s7 g7 hz7
   have e7:=cx (g:=fun g:Fm=>V.int (g.ev wh ρ)) hz7
   subst e7
   have g7:H7 p7=some (.lst [.int (A.ev wh ρ),.int (B.ev wh ρ),.int (C.ev wh ρ)]):=g7
   have q7:Q (.int (rst wh (if A.ev wh ρ=0 then B.ev wh ρ else C.ev wh ρ))) H7:=q H7 (s5.trans s7)
   refine ⟨_,rfl,rfl,true,(blT rfl),dQ ?_⟩
   refine ⟨_,rfl,p7,_,0,.int (A.ev wh ρ),rfl,rfl,SqL.of g7,cf,rfl,_,rfl,?_⟩
   refine bQ (fun c=>?_) (fun c=>?_)
   ·have e:=V.int.inj (of_decide_eq_true c)
    rw [if_pos e,gY]at q7
    exact ⟨_,rfl,p7,_,1,.int (B.ev wh ρ),rfl,rfl,SqL.of g7,ao (j:=1) rfl,q7⟩
   ·have e: ¬ A.ev wh ρ=0:=fun e=>c (by rw [e];exact decide_eq_true rfl)
    rw [if_neg e,gY]at q7
    exact ⟨_,rfl,p7,_,2,.int (C.ev wh ρ),rfl,rfl,SqL.of g7,ao (j:=2) rfl,q7⟩
theorem rJ:FnOk P w K mg base CX0 1 f fd di (eD 0):=by
 have no: ∀ vs H Q E,¬ eD 0 vs H Q E:=fun vs H Q E h=>by
  obtain ⟨fm,v,td,kvs,wh,ρ,_,_,_,_,h,_⟩:=h
  have:=fm.size_pos
  lia
 exact ⟨fun vs H Q E h=>absurd h (no vs H Q E),fun A outer s H args us vs Q E _ _ _ _ h=>absurd h (no vs H Q E)⟩
theorem nH (F:Fun K "_law_reckoned" "_law_reckoned" i6 f fd) (G:Gb mg) (bS:Binds K fd di []) (mS:mg "_law_reckoned"=some (.ref f))
  (GR:FnOk P w K mg base CX0 1 f2 fd2 ["number","wheel"] lc) (bR:Binds K fd2 ["number","wheel"] []) (kR:PySem.W.keepIn K (.ref f2)=true) (mR:mg "_law_rest"=some (.ref f2)): ∀ n:Nat,FnOk P w K mg base CX0 (n+1) f fd di (eD n)
 | 0=>rJ
 | n+1=>rH F G (nH F G bS mS GR bR kR mR n) bS mS GR bR kR mR
noncomputable def dN (xs:List Str) (ns:List Int):List (Key×V):=(xs.zip ns).map fun p=>((.inr p.1:Key),V.int p.2)
theorem re {κ:Type} [DecidableEq κ] {kvs:List (κ×V)} {k:κ} {v:V} (h:k∉kvs.map (·.1)):bq kvs k v=kvs++[(k,v)]:=by
 unfold bq
 rw [if_neg fun z=>by
  obtain ⟨kv,h1,h2⟩:=List.any_eq_true.mp z
  exact h (List.mem_map.mpr ⟨kv,h1,of_decide_eq_true h2⟩)]
theorem kE {κ:Type} [DecidableEq κ]: ∀ {kvs:List (κ×V)} {i:Nat} {k:κ} {v:V},(kvs.map (·.1)).Nodup->kvs[i]? =some (k,v)->aP kvs k=some v
 | [],i,_,_,_,h=>by cases i <;> cases h
 | (k0,v0)::r,0,k,v,_,h=>by
  cases h
  unfold aP
  rw [List.find?_cons_of_pos (by simp)]
  rfl
 | (k0,v0)::r,i+1,k,v,nd,h=>by
  have h:r[i]? =some (k,v):=h
  have nd:(k0::r.map (·.1)).Nodup:=nd
  obtain ⟨n1,n2⟩:=List.nodup_cons.mp nd
  have hne:k0≠k:=fun e=>n1 (by rw [e];exact List.mem_map.mpr ⟨(k,v),List.mem_of_getElem? h,rfl⟩)
  have ih:=kE n2 h
  unfold aP at ih ⊢
  rw [List.find?_cons_of_neg (by simpa using hne)]
  exact ih
theorem gM: ∀ {xs:List Str} {ns:List Int},xs.length=ns.length->(dN xs ns).map (·.1)=xs.map (fun x=>(.inr x:Key))
 | [],[],_=>rfl
 | [],_::_,h=>by cases h
 | _::_,[],h=>by cases h
 | x::xs,n::ns,h=>by
  have:=gM (xs:=xs) (ns:=ns) (by simpa using h)
  unfold dN at this ⊢
  rw [List.zip_cons_cons,List.map_cons,List.map_cons,List.map_cons,this]
theorem pR {xs:List Str} {ns:List Int} {i:Nat} {x:Str} {n:Int} (h1:xs[i]? =some x) (h2:ns[i]? =some n):(dN xs ns)[i]? =some (.inr x,.int n):=by
 unfold dN
 rw [List.getElem?_map,(List.getElem?_zip_eq_some (z:=(x,n))).mpr ⟨h1,h2⟩]
 rfl
theorem sR {xs:List Str} {ns:List Int} (h:xs.length=ns.length):(dN xs ns).length=xs.length:=by
 unfold dN
 rw [List.length_map,List.length_zip]
 lia
theorem iQ (ρ:Fm->Int): ∀ rs:List Rul,dN (rs.map Rul.word) (rs.map fun r=>r.fm.ev 0 ρ)=rs.map fun r=>((.inr r.word:Key),V.int (r.fm.ev 0 ρ))
 | []=>rfl
 | r::rs=>by
  have:=iQ ρ rs
  unfold dN at this ⊢
  rw [List.map_cons,List.map_cons,List.zip_cons_cons,List.map_cons,List.map_cons,this]
theorem j9 {xs:List Str} (h:xs.Nodup):(xs.map (fun x=>(.inr x:Key))).Nodup:=List.Pairwise.map _ (fun _ _ hab e=>hab (Sum.inr.inj e)) h
noncomputable def jR (n:Nat):Sp:=fun vs H Q _=> ∃ (bv tv:V) (bk:Bk) (t:Bt) (s:Srt),vs=[bv,tv]/\RepB H bk bv/\PkB bk/\RepT H n t tv/\TrP bk n t s/\t.sz<=1000/\ ∀ d H',H d=none->Same H H'->H' d=some (.dK (dN s.ups (t.upw bk)))->Q (.ref d) H'
noncomputable def tG:Sp:=fun vs H Q _=> ∃ (bv:V) (bk:Bk) (nm:Str) (s:Srt),vs=[bv,.str nm]/\RepB H bk bv/\BkS bk/\s∈bk.sorts/\Srt.name s=nm/\ ∀ a,H a=some (.tup (List.map V.str s.ups))->Q (.ref a) H
noncomputable def tH:Sp:=fun vs H Q _=> ∃ (v1 v2 tv:V) (b1 b2:Bk) (t:Bt) (s1 s2:Srt),vs=[v1,v2,tv]/\RepB H b1 v1/\RepB H b2 v2/\PkB b1/\PkB b2/\RepT H 60 t tv/\TrP b1 60 t s1/\TrP b2 60 t s2/\Srt.name s1=Srt.name s2/\t.sz<=60/\ ∀ v H',Same H H'->fS H' b1 b2 t v->Q v H'
theorem TrP.sort {bk:Bk} (hk:PkB bk) {n:Nat} {t:Bt} {s:Srt} (h:TrP bk n t s):s∈bk.sorts:=by
 cases n with
 | zero=>exact h.elim
 | succ n=>
  obtain ⟨fr,h1,_,h3,_⟩:=h
  rw [<- h3]
  exact (hk.s.fo fr h1).1
noncomputable abbrev NUw:List Str:=["book","tree","told","k","found","word","made","at","formula"]
theorem scUpW:aH NUw ["book","tree"] (ah fk):=fsc
theorem vQ {n:Nat} (F:Fun K "_law_up_worths" "_law_up_worths" fk f fd) (G:Gb mg)
  (GS:FnOk P w K mg base CX0 (n+17) f fd ["book","tree"] (jR n)) (bS:Binds K fd ["book","tree"] []) (mS:mg "_law_up_worths"=some (.ref f))
  (GF:FnOk P w K mg base CX0 1 f2 fd2 ["book","name"] gh) (bF:Binds K fd2 ["book","name"] []) (kF:PySem.W.keepIn K (.ref f2)=true) (mF:mg "_law_form_of"=some (.ref f2))
  (GR:FnOk P w K mg base CX0 16 f3 fd3 di (eD 15)) (bR:Binds K fd3 di []) (kR:PySem.W.keepIn K (.ref f3)=true) (mR:mg "_law_reckoned"=some (.ref f3)):
  FnOk P w K mg base CX0 (n+18) f fd ["book","tree"] (jR (n+1)):=by
 refine F.ok scUpW (fun vs H Q E h=>?_) (fun cdv A outer s H vs Q E hr h=>?_)
 ·obtain ⟨bv,tv,bk,t,s,rfl,_⟩:=h
  rfl
 obtain ⟨bv,tv,bk,t,sr,rfl,hB,hk,hR,hT,hsz,q⟩:=h
 have hu:=dh hr
 have hr1:=hr.mono (show 1<=n+17 by lia)
 have hr16:=hr.mono (show 16<=n+17 by lia)
 refine ⟨_,ad (am (i:=2) scUpW.nd rfl (Or.inl rfl) gu)
  (ad (bc PassesOwn.never rfl (bn rfl G.range (aa (aA aJ rfl G.len PySem.boot_len (aa (aq aB (pv 1) ae (fun _ _=>rfl)) ac)) ac)) (aw (i:=3) scUpW.nd rfl (Or.inl rfl))
   (ad (am (i:=4) scUpW.nd rfl (Or.inl rfl) (al GS hr rfl mS F.kp bS .nil ax (aa (pv 0) (aa (aq aB (aq aB (pv 1) ae (fun _ _=>rfl)) (pv 3) (fun _ _=>rfl)) ac))))
   (aj (bc PassesOwn.never rfl (ue (pv 4)) (aw (i:=5) scUpW.nd rfl (Or.inl rfl))
    (aj (da hu (pv 2) (aS (aa aT (aa (pv 3) (aa (pv 5) ac)))) (be hu (pv 4) (pv 5) (fun _ _=>rfl)) rfl))))))
  (ad (am (i:=6) scUpW.nd rfl (Or.inl rfl) dZ)
  (ad (bc PassesOwn.never rfl (a8 (aq aB (al GF hr1 rfl mF kF bF .nil ax (aa (pv 0) (aa (aq aB (pv 1) ae (fun _ _=>rfl)) ac))) ae (fun _ _=>rfl))) (cQ rfl (aE (aw (i:=7) scUpW.nd rfl (Or.inl rfl)) (aE (aw (i:=5) scUpW.nd rfl (Or.inl rfl)) (aE (aw (i:=8) scUpW.nd rfl (Or.inl rfl)) cn))))
   (aj (da hu (pv 6) (pv 5) (al GR hr16 rfl mR kR bR .nil ax (aa (pv 8) (aa (pv 2) (aa ae ac)))) rfl)))
  (aj (ay (pv 6)))))),?_⟩
 obtain ⟨fr,hfr,hnm,hown,hPt,hup⟩:=TrP.upw hk hT
 obtain ⟨ho,hpi,hp3,_,hrul⟩:=hk.s.fo fr hfr
 have hfits:=TrP.fits hk hfr hPt hsz
 have lps:=Paired.length hPt
 obtain ⟨a,b,us,rfl,ha,hb,hus⟩:=id hR
 have lus:=Paired.length hus
 refine fun td htd=>?_
 have s0:=ag htd (.dT [])
 have g0:(upd H td (.dT [])) td=some (.dT []):=ab
 generalize upd H td (.dT [])=H0 at s0 g0 ⊢
 refine ⟨_,rfl,a,_,1,.ref b,rfl,rfl,SqT.of (s0 _ _ ha),ao (j:=1) rfl,b,us,rfl,.inr (SqT.of (s0 _ _ hb)),_,rfl,by lia,by lia,?_⟩
 refine cz (fun i σ H'=> ∃ o3 o4 o5 kvs,σ=[some bv,some (.ref a),some (.ref td),o3,o4,o5,none,none,none]/\Same H H'/\H' td=some (.dT kvs)/\kvs.length<=3*i/\TdTo fr (t.ps.map (Bt.upw bk)) i 0 kvs)
  ⟨none,none,none,[],rfl,s0,g0,Nat.le_refl _,fun j l q x _ _ h=>by lia⟩ ?_ ?_
 ·rintro i σ H1 hi ⟨o3,o4,o5,kvs,rfl,S1,gd1,hl1,hTd⟩
  have hil:i<us.length:=by lia
  have hip:i<t.ps.length:=by lia
  obtain ⟨uv,huv⟩: ∃ uv,us[i]? =some uv:=⟨us[i],List.getElem?_eq_getElem hil⟩
  obtain ⟨c,hc,hRc⟩:=aN hus huv
  obtain ⟨sq,hsq,hTc⟩:=aZ hPt hc
  have hcz:c.sz<=szL t.ps:=fg (List.mem_of_getElem? hc)
  have htz:=oF t
  have hlen:=TrP.len hk hTc
  have hsqm:=hpi sq (List.mem_of_getElem? hsq)
  have hws:=hk.s.ws sq hsqm
  have hnd:sq.ups.Nodup:=(List.nodup_append.mp hws.2.2.1).2.1
  have hrow:(t.ps.map (Bt.upw bk))[i]? =some (c.upw bk):=by rw [List.getElem?_map,hc];rfl
  have eat:atI us (0+ (i:Int))=some uv:=by rw [Int.zero_add];exact ao huv
  refine ⟨_,rfl,_,rfl,a,_,1,.ref b,rfl,rfl,SqT.of (S1 _ _ ha),ao (j:=1) rfl,_,rfl,b,us,_,uv,rfl,rfl,SqT.of (S1 _ _ hb),eat,?_⟩
  refine ⟨bv,uv,bk,c,sq,rfl,hB.mono (aG S1),hk,hRc.mono (aG S1),hTc,by lia,fun d H2 hd s2 gd2=>?_⟩
  have S2:=S1.trans s2
  have hd0:H d=none:=S1.free hd
  have ndt:td≠d:=af gd1 hd
  refine ⟨_,rfl,d,_,rfl,gd2,fun o=>?_⟩
  have kl:=sR (xs:=sq.ups) (ns:=c.upw bk) hlen.symm
  have kk:=gM (xs:=sq.ups) (ns:=c.upw bk) hlen.symm
  have gF:(upd H2 d (.frz o (.dK (dN sq.ups (c.upw bk))))) d=some (.frz o (.dK (dN sq.ups (c.upw bk)))):=ab
  have sF:Same H (upd H2 d (.frz o (.dK (dN sq.ups (c.upw bk))))):=fun y u h=>by rw [ai (af h hd0)];exact S2 _ _ h
  have gtF:(upd H2 d (.frz o (.dK (dN sq.ups (c.upw bk))))) td=some (.dT kvs):=by rw [ai ndt];exact s2 _ _ gd1
  generalize upd H2 d (.frz o (.dK (dN sq.ups (c.upw bk))))=HF at gF sF gtF ⊢
  refine su (kvs:=dN sq.ups (c.upw bk)) (fun m σ H'=>m<=sq.ups.length/\ ∃ o5 kvs,σ=[some bv,some (.ref a),some (.ref td),some (.int (0+ (i:Int))),some (.ref d),o5,none,none,none]/\Same H H'/\H' d=some (.frz o (.dK (dN sq.ups (c.upw bk))))/\H' td=some (.dT kvs)/\kvs.length<=3*i+m/\TdTo fr (t.ps.map (Bt.upw bk)) i m kvs)
   ⟨Nat.zero_le _,o5,kvs,rfl,sF,gF,gtF,hl1,hTd⟩ (fun m σ H' _ h=>by obtain ⟨_,_,_,_,_,g,_⟩:=h;exact g) ?_ ?_
  ·rintro m ky σ H3 hky ⟨hm,o5,kvs,rfl,S3,gd3,gt3,hl3,hTd3⟩
   rw [kk,List.getElem?_map]at hky
   obtain ⟨x,hxm,rfl⟩:=Option.map_eq_some_iff.mp hky
   have hml:m<sq.ups.length:=(List.getElem?_eq_some_iff.mp hxm).1
   obtain ⟨y,hym⟩: ∃ y,(c.upw bk)[m]? =some y:=⟨(c.upw bk)[m]'(by lia),List.getElem?_eq_getElem (by lia)⟩
   have hval:aP (dN sq.ups (c.upw bk)) (.inr x)=some (.int y):=kE (by rw [kk];exact j9 hnd) (pR hxm hym)
   refine ⟨_,rfl,_,rfl,d,.int y,rfl,?_,?_⟩
   ·rw [<- hval]
    exact .inl ⟨_,.inr x,.inr ⟨o,gd3⟩,rfl,rfl⟩
   refine ⟨_,rfl,_,rfl,_,rfl,(by show 3<=sizeLine;decide),fun p8 hp8=>?_⟩
   have s8:=ag hp8 (.tup [.str "part",.int (0+ (i:Int)),kV (.inr x)])
   have g8:(upd H3 p8 (.tup [.str "part",.int (0+ (i:Int)),kV (.inr x)])) p8=some (.tup ((pky i x).map kV)):=by
    rw [ab,Int.zero_add];rfl
   generalize upd H3 p8 (.tup [.str "part",.int (0+ (i:Int)),kV (.inr x)])=H8 at s8 g8 ⊢
   have gt8:=s8 _ _ gt3
   have h9:=hws.2.1
   refine ⟨td,_,rfl,DPut.t gt8 g8 (au (by lia)),?_⟩
   refine ⟨hml,_,_,rfl,?_,?_,ab,?_,?_⟩
   ·intro z oo h
    rw [ai (af h htd)]
    exact s8 _ _ (S3 _ _ h)
   ·rw [ai (Ne.symm ndt)];exact s8 _ _ gd3
   ·have:=bj kvs (pky i x) (.int y)
    lia
   ·intro j l q z hq hz hor
    rw [cD]
    by_cases ck:pky j z=pky i x
    ·obtain ⟨e1,e2⟩:=qk ck
     subst e1 e2
     rw [if_pos rfl,tT hsq hrow,uN hnd hxm hym]
    ·rw [if_neg ck]
     refine hTd3 j l q z hq hz ?_
     rcases hor with h | ⟨h1,h2⟩
     ·exact .inl h
     ·refine .inr ⟨h1,?_⟩
      subst h1
      rw [hsq]at hq
      cases hq
      have:l≠m:=fun e=>ck (by subst e;rw [hxm]at hz;rw [Option.some.inj hz])
      lia
  ·rintro σ H3 ⟨hm,o5,kvs,rfl,S3,gd3,gt3,hl3,hTd3⟩
   rw [kl]at hl3 hTd3
   have h9:=hws.2.1
   refine ⟨_,_,_,kvs,rfl,S3,gt3,by lia,fun j l q x hq hl hor=>hTd3 j l q x hq hl ?_⟩
   rcases hor with h | ⟨_,h⟩
   ·rcases Nat.lt_succ_iff_lt_or_eq.mp h with h | h
    ·exact .inl h
    ·subst h
     rw [hsq]at hq
     cases hq
     exact .inr ⟨rfl,(List.getElem?_eq_some_iff.mp hl).1⟩
   ·lia
 ·rintro σ H1 ⟨o3,o4,o5,kvs,rfl,S1,gd1,hl1,hTd⟩
  have hTd:TdTo fr (t.ps.map (Bt.upw bk)) us.length 0 kvs:=by
   have e:((us.length:Nat):Int).toNat=us.length:=Int.toNat_natCast _
   rw [<- e];exact hTd
  refine fun md hmd=>?_
  have hmd0:H md=none:=S1.free hmd
  have ntm:td≠md:=af gd1 hmd
  have s2:=ag hmd (.dK [])
  have g2:(upd H1 md (.dK [])) md=some (.dK []):=ab
  generalize upd H1 md (.dK [])=H2 at s2 g2 ⊢
  have S2:=S1.trans s2
  have h10:=hk.s.few
  refine ⟨_,rfl,_,rfl,a,_,0,.str t.nm,rfl,rfl,SqT.of (S2 _ _ ha),cf,bv,bk,t.nm,rfl,hB.mono (aG S2),by lia,fun fv hfv=>?_⟩
  rw [jn hk.s.nd hfr hnm]at hfv
  obtain ⟨fa,pa,ra,rv,rfl,hfa,hpa,hra,hRr⟩:RepF H2 fr fv:=hfv
  refine ⟨fa,_,3,.ref ra,rfl,rfl,SqT.of hfa,ao (j:=3) rfl,ra,rfl,⟨rv,SqT.of hra⟩,?_⟩
  have lR:=hRr.len
  have hkeys:=hk.keys hfr
  have l12:=hk.s.rules12 hfr
  have hwd:fr.rules.map Rul.word=fr.own.ups:=by
   have:=congrArg (List.map Prod.snd) hkeys
   rw [List.map_map,List.map_map]at this
   have e2:fr.own.ups.map (Prod.snd∘fun x=>((-1:Int),x))=fr.own.ups:=by
    have:(Prod.snd∘fun (x:Str)=>((-1:Int),x))=id:=rfl
    rw [this,List.map_id]
   rw [e2]at this
   exact this
  have hnd:(fr.rules.map Rul.word).Nodup:=by
   rw [hwd]
   exact (List.nodup_append.mp (hk.s.ws _ ho).2.2.1).2.1
  refine cN (xs:=rv) (fun i σ H'=>i<=rv.length/\ ∃ o3 o4 o5 o7 o8,σ=[some bv,some (.ref a),some (.ref td),o3,o4,o5,some (.ref md),o7,o8]/\Same H H'/\H' td=some (.dT kvs)/\H' ra=some (.tup rv)/\RepRs H' fr.rules rv/\H' md=some (.dK ((fr.rules.take i).map fun r=>((.inr r.word:Key),V.int (r.fm.ev 0 (eP fr (t.ps.map (Bt.upw bk))))))))
   ⟨Nat.zero_le _,_,_,_,none,none,rfl,S2,s2 _ _ gd1,hra,hRr,g2⟩ (fun i σ H' _ h=>by obtain ⟨_,_,_,_,_,_,_,_,_,g,_⟩:=h;exact SqT.of g) ?_ ?_
  ·rintro i x σ H3 hx ⟨_,o3,o4,o5,o7,o8,rfl,S3,gt3,gra,hR3,gm3⟩
   have hil:i<rv.length:=(List.getElem?_eq_some_iff.mp hx).1
   obtain ⟨r,hri,xa,u,rfl,hxa,hRu⟩:=aN hR3 hx
   have hrm:=List.mem_of_getElem? hri
   refine ⟨xa,_,rfl,SqT.of hxa,rfl,_,_,rfl,_,_,rfl,_,_,rfl,rfl,?_⟩
   refine ⟨_,rfl,_,rfl,r.fm,u,td,kvs,0,eP fr (t.ps.map (Bt.upw bk)),rfl,Int.le_refl _,hRu,(hrul r hrm).1,(hrul r hrm).2,gt3,⟨hTd.tld (by lia) (hk.fo fr hfr r hrm).1 (hk.fo fr hfr r hrm).2,hfits r hrm⟩,fun H4 s4=>?_⟩
   have gm4:=s4 _ _ gm3
   refine ⟨_,rfl,_,rfl,md,_,rfl,DPut.k (k:=.inr r.word) gm4 (au (by rw [List.length_map,List.length_take];lia)),?_⟩
   have hn:(.inr r.word:Key)∉((fr.rules.take i).map fun r=>((.inr r.word:Key),V.int (r.fm.ev 0 (eP fr (t.ps.map (Bt.upw bk)))))).map (·.1):=fun hm=>by
    rw [List.map_map]at hm
    obtain ⟨r',h1,h2⟩:=List.mem_map.mp hm
    have h2:r'.word=r.word:=Sum.inr.inj h2
    obtain ⟨j,hj⟩:=List.getElem?_of_mem h1
    have hji:j<i:=by
     have:=(List.getElem?_eq_some_iff.mp hj).1
     rw [List.length_take]at this
     lia
    rw [List.getElem?_take,if_pos hji]at hj
    have q1:(fr.rules.map Rul.word)[j]? =some r.word:=by rw [List.getElem?_map,hj,<- h2];rfl
    have q2:(fr.rules.map Rul.word)[i]? =some r.word:=by rw [List.getElem?_map,hri];rfl
    have:=fe hnd q1 q2
    lia
   rw [re hn]
   have tk:TK H3 (upd H4 md (.dK (((fr.rules.take i).map fun r=>((.inr r.word:Key),V.int (r.fm.ev 0 (eP fr (t.ps.map (Bt.upw bk))))))++[(.inr r.word,evV 0 (eP fr (t.ps.map (Bt.upw bk))) r.fm)]))):=fun z xs e=>by
    rw [ai (fun y=>by rw [y,gm3]at e;cases e)]
    exact s4 _ _ e
   refine ⟨hil,_,_,_,_,_,rfl,?_,?_,tk _ _ gra,hR3.mono tk,?_⟩
   ·intro y oo h
    rw [ai (af h hmd0)]
    exact s4 _ _ (S3 _ _ h)
   ·rw [ai ntm];exact s4 _ _ gt3
   ·rw [ab,List.take_add_one,hri,List.map_append]
    rfl
  ·rintro σ H3 ⟨_,o3,o4,o5,o7,o8,rfl,S3,gt3,gra,hR3,gm3⟩
   rw [<- lR,List.take_length,<- iQ,hwd,<- hup,hown]at gm3
   exact ⟨_,rfl,q md H3 hmd0 S3 gm3⟩
theorem vR:FnOk P w K mg base CX0 17 f fd ["book","tree"] (jR 0):=by
 have no: ∀ vs H Q E,¬ jR 0 vs H Q E:=fun vs H Q E h=>by
  obtain ⟨bv,tv,bk,t,s,_,_,_,h,_⟩:=h
  exact h
 exact ⟨fun vs H Q E h=>absurd h (no vs H Q E),fun A outer s H args us vs Q E _ _ _ _ h=>absurd h (no vs H Q E)⟩
theorem ut (F:Fun K "_law_up_worths" "_law_up_worths" fk f fd) (G:Gb mg) (bS:Binds K fd ["book","tree"] []) (mS:mg "_law_up_worths"=some (.ref f))
  (GF:FnOk P w K mg base CX0 1 f2 fd2 ["book","name"] gh) (bF:Binds K fd2 ["book","name"] []) (kF:PySem.W.keepIn K (.ref f2)=true) (mF:mg "_law_form_of"=some (.ref f2))
  (GR:FnOk P w K mg base CX0 16 f3 fd3 di (eD 15)) (bR:Binds K fd3 di []) (kR:PySem.W.keepIn K (.ref f3)=true) (mR:mg "_law_reckoned"=some (.ref f3)): ∀ n:Nat,FnOk P w K mg base CX0 (n+17) f fd ["book","tree"] (jR n)
 | 0=>vR
 | n+1=>vQ F G (ut F G bS mS GF bF kF mF GR bR kR mR n) bS mS GF bF kF mF GR bR kR mR
theorem scLUps:aH ["book","name","sort"] ["book","name"] (ah tQ):=fsc
theorem vW (F:Fun K "_law_ups" "_law_ups" tQ f fd):FnOk P w K mg base CX0 1 f fd ["book","name"] tG:=by
 refine F.ok scLUps (fun vs H Q E h=>?_) (fun cdv A outer s H vs Q E hr h=>?_)
 ·obtain ⟨bv,bk,nm,s,rfl,_⟩:=h
  rfl
 obtain ⟨bv,bk,nm,sr,rfl,hB,hk,hs,hn,q⟩:=h
 refine ⟨_,ad (bc PassesOwn.never rfl (a8 (aq aB (pv 0) ae (fun _ _=>rfl))) (aw (i:=2) scLUps.nd rfl (Or.inl rfl))
   (aj (aY (aF bh (aq aB (pv 2) ae (fun _ _=>rfl)) (pv 1) (aK _)) (aj (ay (aq aB (pv 2) ae (fun _ _=>rfl)))) aM)))
  (aj (ay (aS ac))),?_⟩
 obtain ⟨b,sa,fa,fv,rfl,hb,⟨sx,hsa,hSs⟩,hfa,hF⟩:=id hB
 have lS:bk.sorts.length=sx.length:=hSs.len
 refine ⟨_,rfl,b,_,1,.ref sa,rfl,rfl,SqT.of hb,ao (j:=1) rfl,sa,rfl,⟨sx,SqT.of hsa⟩,?_⟩
 refine cN (xs:=sx) (fun i σ H'=>i<=sx.length/\H'=H/\(∃ o2,σ=[some (.ref b),some (.str nm),o2])/\ ∀ s'∈bk.sorts.take i,Srt.name s'≠nm)
  ⟨Nat.zero_le _,rfl,⟨none,rfl⟩,fun s' h=>by cases h⟩ (fun i σ H' _ h=>by obtain ⟨_,rfl,_⟩:=h;exact SqT.of hsa) ?_ ?_
 ·rintro i x σ H1 hx ⟨_,rfl,⟨o2,rfl⟩,hno⟩
  have hil:i<sx.length:=(List.getElem?_eq_some_iff.mp hx).1
  obtain ⟨s',hs',c,c1,c2,rfl,hc,hc1,hc2⟩:=aN hSs hx
  refine ⟨_,rfl,c,_,0,.str s'.name,rfl,rfl,SqT.of hc,cf,_,rfl,rfl,_,rfl,?_⟩
  refine bQ (fun cc=>?_) (fun cc=>?_)
  ·have e:=V.str.inj (of_decide_eq_true cc)
   have es:s'=sr:=iB hk.sd (List.mem_of_getElem? hs') hs (e.trans hn.symm)
   subst es
   exact ⟨_,rfl,c,_,2,.ref c2,rfl,rfl,SqT.of hc,ao (j:=2) rfl,q c2 hc2⟩
  ·refine ⟨hil,rfl,⟨_,rfl⟩,fun s2 h2=>?_⟩
   rw [List.take_add_one,hs']at h2
   rcases List.mem_append.mp h2 with h | h
   ·exact hno s2 h
   ·have:s2=s':=by simpa using h
    rw [this]
    exact fun e=>cc (decide_eq_true (by rw [e]))
 ·rintro σ H1 ⟨_,rfl,⟨o2,rfl⟩,hno⟩
  rw [List.take_of_length_le (by lia)]at hno
  exact absurd hn (hno sr hs)
noncomputable abbrev NLw:List Str:=["one","other","tree","sort","first","second","row"]
theorem scLRow:aH NLw ["one","other","tree"] (ah ni):=fsc
theorem vX (F:Fun K "_law_row" "_law_row" ni f fd) (G:Gb mg)
  (GF:FnOk P w K mg base CX0 1 f2 fd2 ["book","name"] gh) (bF:Binds K fd2 ["book","name"] []) (kF:PySem.W.keepIn K (.ref f2)=true) (mF:mg "_law_form_of"=some (.ref f2))
  (GW:FnOk P w K mg base CX0 77 f3 fd3 ["book","tree"] (jR 60)) (bW:Binds K fd3 ["book","tree"] []) (kW:PySem.W.keepIn K (.ref f3)=true) (mW:mg "_law_up_worths"=some (.ref f3))
  (GU:FnOk P w K mg base CX0 1 f4 fd4 ["book","name"] tG) (bU:Binds K fd4 ["book","name"] []) (kU:PySem.W.keepIn K (.ref f4)=true) (mU:mg "_law_ups"=some (.ref f4)):
  FnOk P w K mg base CX0 78 f fd ["one","other","tree"] tH:=by
 refine F.ok scLRow (fun vs H Q E h=>?_) (fun cdv A outer s H vs Q E hr h=>?_)
 ·obtain ⟨v1,v2,tv,b1,b2,t,s1,s2,rfl,_⟩:=h
  rfl
 obtain ⟨v1,v2,tv,b1,b2,t,sr1,sr2,rfl,hB1,hB2,hk1,hk2,hR,hT1,hT2,hnn,hsz,q⟩:=h
 have hu:=dh hr
 have hr1:=hr.mono (show 1<=77 by decide)
 refine ⟨_,ad (am (i:=3) scLRow.nd rfl (Or.inl rfl) (aq aB (al GF hr1 rfl mF kF bF .nil ax (aa (pv 0) (aa (aq aB (pv 2) ae (fun _ _=>rfl)) ac))) ae (fun _ _=>rfl)))
  (ad (am (i:=4) scLRow.nd rfl (Or.inr rfl) (al GW hr rfl mW kW bW .nil ax (aa (pv 0) (aa (pv 2) ac))))
  (ad (am (i:=5) scLRow.nd rfl (Or.inr rfl) (al GW hr rfl mW kW bW .nil ax (aa (pv 1) (aa (pv 2) ac))))
  (ad (am (i:=6) scLRow.nd rfl (Or.inl rfl) (aC oX (bu (aa ae ac)) (bV (sc0:=ah ni) (N0:=NLw) (ys:=["first"]) (fr:=[4]) rfl (a8 (al GU hr1 rfl mU kU bU .nil ax (aa (pv 0) (aa (pv 3) ac)))) rfl rfl
    cok (fun C s H ex=>be hu (pv 1) (pv 0) (fun _ _=>rfl)))))
  (aj (ay (bg aW rfl G.tuple (by decide +kernel) (aa (aC oX (pv 6) (bV (sc0:=ah ni) (N0:=NLw) (ys:=["second"]) (fr:=[5]) rfl (a8 (al GU hr1 rfl mU kU bU .nil ax (aa (pv 1) (aa (pv 3) ac)))) rfl rfl
    cok (fun C s H ex=>be hu (pv 1) (pv 0) (fun _ _=>rfl)))) ac))))))),?_⟩
 obtain ⟨fr,hfr,hnm,hown,hPt,_⟩:=TrP.upw (n:=59) hk1 hT1
 have h10:=hk1.s.few
 obtain ⟨a,b,us,rfl,ha,hb,hus⟩:=id hR
 refine ⟨_,rfl,_,rfl,a,_,0,.str t.nm,rfl,rfl,SqT.of ha,cf,v1,b1,t.nm,rfl,hB1,by lia,fun fv hfv=>?_⟩
 rw [jn hk1.s.nd hfr hnm]at hfv
 obtain ⟨fa,pa,ra,rv,rfl,hfa,_⟩:RepF H fr fv:=hfv
 rw [hown]at hfa
 refine ⟨fa,_,1,.str sr1.name,rfl,rfl,SqT.of hfa,ao (j:=1) rfl,?_⟩
 refine ⟨_,rfl,_,rfl,v1,.ref a,b1,t,sr1,rfl,hB1,hk1,hR,hT1,by lia,fun d1 H1 hd1 s1 gd1=>?_⟩
 refine ⟨_,rfl,_,rfl,v2,.ref a,b2,t,sr2,rfl,hB2.mono (aG s1),hk2,hR.mono (aG s1),hT2,by lia,fun d2 H2 hd2 s2 gd2=>?_⟩
 have S2:=s1.trans s2
 have gd12:=s2 _ _ gd1
 have key: ∀ (bk:Bk) (sr:Srt),PkB bk->TrP bk 60 t sr-> ∀ (j:Nat) x,sr.ups[j]? =some x-> ∃ y,(t.upw bk)[j]? =some y/\aP (dN sr.ups (t.upw bk)) (.inr x)=some (.int y):=by
  intro bk sr hk hT j x hx
  have hl:=TrP.len hk hT
  have hlt:=(List.getElem?_eq_some_iff.mp hx).1
  obtain ⟨y,hy⟩: ∃ y,(t.upw bk)[j]? =some y:=⟨(t.upw bk)[j]'(by lia),List.getElem?_eq_getElem (by lia)⟩
  exact ⟨y,hy,kE (by rw [gM hl.symm];exact j9 (List.nodup_append.mp (hk.s.ws _ (TrP.sort hk hT)).2.2.1).2.1) (pR hx hy)⟩
 have vals: ∀ (bk:Bk) (sr:Srt),PkB bk->TrP bk 60 t sr-> ∀ zs:List V,Paired (fun (x:Str) (v:V)=>aP (dN sr.ups (t.upw bk)) (.inr x)=some v) sr.ups zs->zs=(t.upw bk).map V.int:=by
  intro bk sr hk hT zs hz
  have hl:=TrP.len hk hT
  have lz:=Paired.length hz
  refine List.ext_getElem? fun j=>?_
  cases hj:sr.ups[j]? with
  | none=>
   have:=List.getElem?_eq_none_iff.mp hj
   rw [List.getElem?_eq_none (by lia),List.getElem?_eq_none (by rw [List.length_map];lia)]
  | some x=>
   obtain ⟨y,hy,hv⟩:=key bk sr hk hT j x hj
   obtain ⟨z,hz1,hz2⟩:=aZ hz hj
   rw [hv]at hz2
   rw [hz1,List.getElem?_map,hy,<- Option.some.inj hz2]
   rfl
 have hl1:=TrP.len hk1 hT1
 have hl2:=TrP.len hk2 hT2
 have hu1:=(hk1.s.ws _ (TrP.sort hk1 hT1)).2.1
 have hu2:=(hk2.s.ws _ (TrP.sort hk2 hT2)).2.1
 refine ⟨(by show 1<=sizeLine;decide),fun p3 hp3=>?_⟩
 have s3:=ag hp3 (.lst [.int 1])
 have g3:(upd H2 p3 (.lst [.int 1])) p3=some (.lst [.int 1]):=ab
 generalize upd H2 p3 (.lst [.int 1])=H3 at s3 g3 ⊢
 have S3:=S2.trans s3
 refine ⟨_,rfl,_,rfl,v1,b1,sr1.name,sr1,rfl,hB1.mono (aG S3),hk1.s,TrP.sort hk1 hT1,rfl,fun ua gua=>⟨ua,rfl,⟨_,SqT.of gua⟩,?_⟩⟩
 refine bX (by rw [List.length_map];lia) (bw sr1.ups) (cM gua) (cL gua) (dg gua) (fun _ x v=>aP (dN sr1.ups (t.upw b1)) (.inr x)=some v) (fun _ h=>h) ?_ ?_
 ·rintro x v H4 k hx rfl s4 hk
  obtain ⟨j,hj⟩:=List.getElem?_of_mem hx
  obtain ⟨y,_,hv⟩:=key b1 sr1 hk1 hT1 j x hj
  exact ⟨_,rfl,_,rfl,d1,.int y,rfl,(by rw [<- hv];exact DGet.k (k:=.inr x) (s4 _ _ (s3 _ _ gd12))),hk _ H4 (Same.refl _) hv⟩
 intro p4 zs H4 hp4 s4 g4 hz
 rw [vals b1 sr1 hk1 hT1 zs hz]at g4
 refine ⟨p3,p4,_,_,rfl,rfl,s4 _ _ g3,g4,Nat.le_of_lt (au (by rw [List.length_map];show 1+_<=1000;lia)),fun p5 hp5=>?_⟩
 have s5:=ag hp5 (.lst ([V.int 1]++(t.upw b1).map V.int))
 have g5:(upd H4 p5 (.lst ([V.int 1]++(t.upw b1).map V.int))) p5=some (.lst ([V.int 1]++(t.upw b1).map V.int)):=ab
 generalize upd H4 p5 (.lst ([V.int 1]++(t.upw b1).map V.int))=H5 at s5 g5 ⊢
 have S5:=S3.trans (s4.trans s5)
 refine ⟨_,rfl,_,rfl,_,rfl,v2,b2,sr1.name,sr2,rfl,hB2.mono (aG S5),hk2.s,TrP.sort hk2 hT2,hnn.symm,fun ub gub=>⟨ub,rfl,⟨_,SqT.of gub⟩,?_⟩⟩
 have gd25:=s5 _ _ (s4 _ _ (s3 _ _ gd2))
 refine bX (by rw [List.length_map];lia) (bw sr2.ups) (cM gub) (cL gub) (dg gub) (fun _ x v=>aP (dN sr2.ups (t.upw b2)) (.inr x)=some v) (fun _ h=>h) ?_ ?_
 ·rintro x v H6 k hx rfl s6 hk
  obtain ⟨j,hj⟩:=List.getElem?_of_mem hx
  obtain ⟨y,_,hv⟩:=key b2 sr2 hk2 hT2 j x hj
  exact ⟨_,rfl,_,rfl,d2,.int y,rfl,(by rw [<- hv];exact DGet.k (k:=.inr x) (s6 _ _ gd25)),hk _ H6 (Same.refl _) hv⟩
 intro p6 ys H6 hp6 s6 g6 hz6
 rw [vals b2 sr2 hk2 hT2 ys hz6]at g6
 refine ⟨p5,p6,_,_,rfl,rfl,s6 _ _ g5,g6,Nat.le_of_lt (au (by rw [List.length_append,List.length_map,List.length_map];show 1+_+_<=1000;lia)),fun p7 hp7=>?_⟩
 have s7:=ag hp7 (.lst ([V.int 1]++(t.upw b1).map V.int++(t.upw b2).map V.int))
 have g7:(upd H6 p7 (.lst ([V.int 1]++(t.upw b1).map V.int++(t.upw b2).map V.int))) p7=some (.lst ([V.int 1]++(t.upw b1).map V.int++(t.upw b2).map V.int)):=ab
 generalize upd H6 p7 (.lst ([V.int 1]++(t.upw b1).map V.int++(t.upw b2).map V.int))=H7 at s7 g7 ⊢
 refine ⟨p7,_,rfl,.inl ⟨SqL.of g7,fun p8 hp8=>?_⟩⟩
 have s8:=ag hp8 (.tup ([V.int 1]++(t.upw b1).map V.int++(t.upw b2).map V.int))
 refine q _ _ (S5.trans (s6.trans (s7.trans s8))) ⟨p8,rfl,?_⟩
 rw [ab,iy,List.map_cons,List.map_append]
 rfl
noncomputable def srP (tb:Str->List Str) (x:Str):Srt:=⟨x,[],tb x⟩
noncomputable def jv (tb:Str->List Str) (fr:FrP):Frm:=⟨fr.name,srP tb fr.own,fr.parts.map (srP tb),fr.rules⟩
noncomputable def BkP.bk (k:BkP) (tb:Str->List Str):Bk:=⟨k.wheel,k.sorts,k.forms.map (jv tb)⟩
theorem RepBP.rep {H:Hp} {k:BkP} {v:V} (tb:Str->List Str) (h:RepBP H k v):RepB H (k.bk tb) v:=by
 obtain ⟨a,sa,fa,fv,e,h1,h2,h3,h4⟩:=h
 refine ⟨a,sa,fa,fv,e,h1,h2,h3,eI (g:=jv tb) (Paired.mapP h4 fun fr v hf=>?_)⟩
 obtain ⟨c,pa,ra,rv,e1,g1,g2,g3,g4⟩:=hf
 refine ⟨c,pa,ra,rv,e1,g1,?_,g3,g4⟩
 rw [g2]
 show some (HO.tup (fr.parts.map V.str))=some (HO.tup (bE (fr.parts.map (srP tb))))
 unfold bE
 rw [List.map_map]
 rfl
theorem PlOk.names {z:Nat} {ns:List Str} {tb:Str->List Str} {k:BkP} (h:PlOk z ns tb k):k.sorts.map Srt.name=ns:=by
 rw [h.so,List.map_map]
 show ns.map (fun x=>x)=ns
 exact List.map_id' ns
theorem vh (k:BkP) (tb:Str->List Str):(k.bk tb).forms.map Frm.name=(k.forms.map k3).map (·.1):=by
 show (k.forms.map (jv tb)).map Frm.name=_
 rw [List.map_map,List.map_map]
 rfl
theorem iR (tb:Str->List Str): ∀ (ps:List Str) (k:Int),eB k (ps.map (srP tb))=[]
 | [],k=>rfl
 | p::r,k=>by
  show (srP tb p).downs.map (fun x=>(k,x))++eB (k+1) (r.map (srP tb))=[]
  rw [iR tb r (k+1)]
  rfl
theorem PlOk.pk {bd:BdP} {tb:Str->List Str} {k:BkP} (h:PlOk 15 bd.names tb k) (hb:BdOk bd) (e:k.forms.map k3=bd.forms):PkB (k.bk tb):=by
 have hso:k.sorts=bd.names.map (srP tb):=h.so
 have hsr: ∀ s∈(k.bk tb).sorts,∃ x∈bd.names,s=srP tb x:=fun s hs=>by
  have hs:s∈k.sorts:=hs
  rw [hso]at hs
  obtain ⟨x,hx,rfl⟩:=List.mem_map.mp hs
  exact ⟨x,hx,rfl⟩
 have hin: ∀ x∈bd.names,srP tb x∈(k.bk tb).sorts:=fun x hx=>by
  show srP tb x∈k.sorts
  rw [hso]
  exact List.mem_map.mpr ⟨x,hx,rfl⟩
 have hfr: ∀ fr∈(k.bk tb).forms,∃ f∈k.forms,fr=jv tb f:=fun fr hf=>by
  obtain ⟨f,hf1,rfl⟩:=List.mem_map.mp (show fr∈k.forms.map (jv tb)from hf)
  exact ⟨f,hf1,rfl⟩
 refine ⟨⟨?_,?_,?_,?_,?_,?_⟩,?_,?_⟩
 ·show (k.forms.map (jv tb)).length<=10
  have:=h.f6
  rw [List.length_map]
  lia
 ·rw [vh,e]
  exact hb.fn
 ·show k.sorts.length<=4
  have:=h.n3
  rw [hso,List.length_map]
  lia
 ·show (k.sorts.map Srt.name).Nodup
  rw [h.names]
  exact hb.nd
 ·intro s hs
  obtain ⟨x,hx,rfl⟩:=hsr s hs
  obtain ⟨u1,u2,u3,u4⟩:=h.up x hx
  exact ⟨Nat.zero_le _,by show (tb x).length<=3;lia,u3,fun y hy=>ox (u4 y hy)⟩
 ·intro fr hf
  obtain ⟨f,hf1,rfl⟩:=hfr fr hf
  obtain ⟨a,b,c,d,r⟩:=h.fo f hf1
  refine ⟨hin _ a,fun q hq=>?_,?_,?_,fun r' hr'=>⟨(r r' hr').1.wf,(r r' hr').2.2⟩⟩
  ·obtain ⟨p,hp,rfl⟩:=List.mem_map.mp (show q∈f.parts.map (srP tb)from hq)
   exact hin p (b p hp)
  ·show (f.parts.map (srP tb)).length<=3
   rw [List.length_map];exact c
  ·show f.rules.map (fun r=>(r.pl,r.word))=qW (srP tb f.own) (f.parts.map (srP tb))
   unfold qW
   rw [iR,List.append_nil,d]
   rfl
 ·intro s hs
  obtain ⟨x,hx,rfl⟩:=hsr s hs
  rfl
 ·intro fr hf r' hr'
  obtain ⟨f,hf1,rfl⟩:=hfr fr hf
  obtain ⟨a,b,c,d,r⟩:=h.fo f hf1
  refine ⟨(r r' hr').1.imp fun g hg=>?_,(r r' hr').2.1⟩
  obtain ⟨j,x,p,eg,hp,hx⟩:=hg
  exact ⟨j,srP tb p,x,eg,by show (f.parts.map (srP tb))[j]? =_;rw [List.getElem?_map,hp];rfl,hx⟩
theorem PlOk.book {bd:BdP} {tb:Str->List Str} {k:BkP} (h:PlOk 15 bd.names tb k) (hb:BdOk bd) (e:k.forms.map k3=bd.forms):ik (k.bk tb):=by
 have hpk:=h.pk hb e
 have hso:k.sorts=bd.names.map (srP tb):=h.so
 refine ⟨⟨?_,hpk.s.s4,hpk.s.sd,?_,?_⟩,hpk.s.few,?_,hpk.s.nd,?_,⟨0,trivial,fun fr hf=>?_⟩,?_⟩
 ·show 1<=k.sorts.length
  rw [hso,List.length_map]
  exact h.n1
 ·intro s hs
  have hs:s∈k.sorts:=hs
  rw [hso]at hs
  obtain ⟨x,hx,rfl⟩:=List.mem_map.mp hs
  exact hb.wd x hx
 ·intro s hs
  have hs:s∈k.sorts:=hs
  rw [hso]at hs
  obtain ⟨x,hx,rfl⟩:=List.mem_map.mp hs
  obtain ⟨u1,u2,u3,u4⟩:=h.up x hx
  exact ⟨u3,u4,Nat.zero_le _,by show (tb x).length<=3;lia,by show 1<=0+ (tb x).length;lia⟩
 ·show 1<=(k.forms.map (jv tb)).length
  rw [List.length_map]
  exact h.f1
 ·intro fr hf
  obtain ⟨f,hf1,rfl⟩:=List.mem_map.mp (show fr∈k.forms.map (jv tb)from hf)
  exact hb.fw (k3 f) (by rw [<- e];exact List.mem_map.mpr ⟨f,hf1,rfl⟩)
 ·obtain ⟨z1,z2,z3,_⟩:=hpk.s.fo fr hf
  exact ⟨z1,z2,z3,trivial⟩
 ·have f1:=h.f1
  obtain ⟨f0,hf0⟩: ∃ f0,k.forms[0]? =some f0:=⟨k.forms[0]'(by lia),List.getElem?_eq_getElem (by lia)⟩
  have:=hb.nil (k3 f0) (by rw [<- e,List.getElem?_map,hf0];rfl)
  refine ⟨jv tb f0,List.mem_map.mpr ⟨f0,List.mem_of_getElem? hf0,rfl⟩,?_⟩
  show f0.parts.map (srP tb)=[]
  rw [show f0.parts=[]from this]
  rfl
theorem TrP.other {k1 k2:BkP} {tb1 tb2:Str->List Str} (e:k1.forms.map k3=k2.forms.map k3): ∀ {n:Nat} {t:Bt} {x:Str},TrP (k1.bk tb1) n t (srP tb1 x)->TrP (k2.bk tb2) n t (srP tb2 x)
 | 0,_,_,h=>h.elim
 | n+1,t,x,⟨fr,h1,h2,h3,h4⟩=>by
  obtain ⟨f1,hf1,rfl⟩:=List.mem_map.mp (show fr∈k1.forms.map (jv tb1)from h1)
  have hm:k3 f1∈k2.forms.map k3:=by rw [<- e];exact List.mem_map.mpr ⟨f1,hf1,rfl⟩
  obtain ⟨f2,hf2,e2⟩:=List.mem_map.mp hm
  obtain ⟨en,eo⟩:=Prod.mk.inj e2
  obtain ⟨eo,ep⟩:=Prod.mk.inj eo
  have hx:f1.own=x:=congrArg Srt.name h3
  refine ⟨jv tb2 f2,List.mem_map.mpr ⟨f2,hf2,rfl⟩,?_,?_,?_⟩
  ·show f2.name=t.nm
   rw [en];exact h2
  ·show srP tb2 f2.own=srP tb2 x
   rw [eo,hx]
  ·show Paired (TrP (k2.bk tb2) n) t.ps (f2.parts.map (srP tb2))
   rw [ep]
   have go: ∀ {l:List Bt} {ps:List Str},Paired (TrP (k1.bk tb1) n) l (ps.map (srP tb1))->Paired (TrP (k2.bk tb2) n) l (ps.map (srP tb2)):=by
    intro l ps
    induction ps generalizing l with
    | nil=>
     intro h
     cases h
     exact .nil
    | cons p r ih=>
     intro h
     cases h with
     | cons a t=>exact .cons (TrP.other e a) (ih t)
   exact go h4
theorem TrP.le {bk:Bk} {n m:Nat} {t:Bt} {s:Srt} (h:TrP bk n t s) (l:n<=m):TrP bk m t s:=by
 induction l with
 | refl=>exact h
 | step _ ih=>exact ih.up
theorem tL:aH ["found"] ["found"] (ah lA):=fsc
theorem rD (F:Fun K "_law_whole" "_law_whole" lA f fd) (G:Gb mg):FnOk P w K mg base CX0 1 f fd ["found"] la:=by
 refine F.ok tL (fun vs H Q E h=>?_) (fun cdv A outer s H vs Q E hr h=>?_)
 ·obtain ⟨v,rfl,_⟩:=h
  rfl
 obtain ⟨v,rfl,hS,q⟩:=h
 refine ⟨_,aj (ay (jf (aA cI rfl G.isi (by decide +kernel) (aa (pv 0) (aa (cK (v:=.ty "int") rfl G.int (by decide +kernel) rfl) ac)))
  (jd (uh (aA cI rfl G.isi (by decide +kernel) (aa (pv 0) (aa (cK (v:=.ty "bool") rfl G.bool (by decide +kernel) rfl) ac))))))),?_⟩
 have e:=wm hS
 refine ⟨_,rfl,v,"int",rfl,hS,by simp,_,rfl,?_⟩
 refine bQ (fun c=>?_) (fun c=>?_)
 ·rw [if_pos c]at e
  refine ⟨_,rfl,v,"bool",rfl,hS,by simp,_,rfl,?_⟩
  exact qb q e.symm
 ·rw [if_neg c]at e
  exact qb q e.symm
noncomputable def SameV (H:Hp):Nat->V->V->Prop
 | 0,_,_=>False
 | n+1,v,u=>(∃ x:Str,v=.str x/\u=.str x/\x.length<=1000)\/(∃ i:Int,v=.int i/\u=.int i)\/
  ∃ (c:Bool) (a b:Addr) (xs ys:List V),v=.ref a/\u=.ref b/\H a=some (dA c xs)/\H b=some (dA c ys)/\xs.length<=1000/\Paired (SameV H n) xs ys
theorem SameV.mono {H H':Hp} (s:Same H H'): ∀ {n:Nat} {v u:V},SameV H n v u->SameV H' n v u
 | 0,_,_,h=>h
 | n+1,_,_,h=>by
  rcases h with h | h | ⟨c,a,b,xs,ys,e1,e2,h1,h2,hl,hp⟩
  ·exact .inl h
  ·exact .inr (.inl h)
  ·exact .inr (.inr ⟨c,a,b,xs,ys,e1,e2,s _ _ h1,s _ _ h2,hl,Paired.mapP hp fun _ _ h=>SameV.mono s h⟩)
noncomputable def gQ (n:Nat):Sp:=fun vs H Q _=> ∃ v u,vs=[v,u]/\SameV H n v u/\ ∀ H',Same H H'->Q (.bl true) H'
theorem qC {H:Hp} {c:Bool} {a:Addr} {xs:List V} (h:H a=some (dA c xs)):isV "tuple" H (.ref a)=c/\isV "list" H (.ref a)= !c/\isV "bool" H (.ref a)=false:=by
 cases c with
 | true=>
  have h':H a=some (.tup xs):=h
  simp only [isV,h']
  exact ⟨rfl,rfl,rfl⟩
 | false=>
  have h':H a=some (.lst xs):=h
  simp only [isV,h']
  exact ⟨rfl,rfl,rfl⟩
theorem lj {H:Hp} {c:Bool} {a:Addr} {xs:List V} (h:H a=some (dA c xs)):Sh H (.ref a):=by
 cases c with
 | true=>exact .inr (.inl ⟨xs,h⟩)
 | false=>exact .inl ⟨xs,h⟩
theorem wN {H:Hp} {c:Bool} {a:Addr} {xs:List V} (h:H a=some (dA c xs)):TL H (.ref a) true:=by
 cases c with
 | true=>exact .tup (show H a=some (.tup xs)from h)
 | false=>exact .lst (show H a=some (.lst xs)from h)
theorem tD {K:PySem.W.Frag} {H:Hp} {c:Bool} {a:Addr} {xs:List V} (h:H a=some (dA c xs)):SqL K H a xs\/SqT K H a xs:=by
 cases c with
 | true=>exact .inr (SqT.of h)
 | false=>exact .inl (SqL.of h)
theorem wV:aH ["found","due"] ["found","due"] (ah ng):=fsc
theorem ux {n:Nat} (F:Fun K "_law_same" "_law_same" ng f fd) (G:Gb mg) (hlist:mg "list"=none) (hzip:mg "zip"=none)
  (GS:FnOk P w K mg base CX0 (n+2) f fd ["found","due"] (gQ n)) (bS:Binds K fd ["found","due"] []) (mS:mg "_law_same"=some (.ref f))
  (GW:FnOk P w K mg base CX0 1 f2 fd2 ["found"] la) (bW:Binds K fd2 ["found"] []) (kW:PySem.W.keepIn K (.ref f2)=true) (mW:mg "_law_whole"=some (.ref f2)):
  FnOk P w K mg base CX0 (n+3) f fd ["found","due"] (gQ (n+1)):=by
 refine F.ok wV (fun vs H Q E h=>?_) (fun cdv A outer s H vs Q E hr h=>?_)
 ·obtain ⟨v,u,rfl,_⟩:=h
  rfl
 obtain ⟨v,u,rfl,hS,q⟩:=h
 have hr1:=hr.mono (show 1<=n+2 by lia)
 refine ⟨_,ad (aY (dO (aA sG rfl G.isi (by decide +kernel) (aa (pv 1) (aa (aS (aa (cK (v:=.ty "tuple") rfl G.tuple (by decide +kernel) rfl) (aa (cK (v:=.ty "list") rfl hlist (by decide +kernel) rfl) ac))) ac))))
   (ad (aY (PW.pt (tW (aF nA (aA cI rfl G.isi (by decide +kernel) (aa (pv 1) (aa (cK (v:=.ty "tuple") rfl G.tuple (by decide +kernel) rfl) ac))) (aA cI rfl G.isi (by decide +kernel) (aa (pv 0) (aa (cK (v:=.ty "tuple") rfl G.tuple (by decide +kernel) rfl) ac))) (aK _))
     (oQ (aF nA (aA cI rfl G.isi (by decide +kernel) (aa (pv 1) (aa (cK (v:=.ty "list") rfl hlist (by decide +kernel) rfl) ac))) (aA cI rfl G.isi (by decide +kernel) (aa (pv 0) (aa (cK (v:=.ty "list") rfl hlist (by decide +kernel) rfl) ac))) (aK _)))))
    (aj (ay uk)) aM)
   (aj (ay (jf (dJ bh (aA aJ rfl G.len PySem.boot_len (aa (pv 0) ac)) (aA aJ rfl G.len PySem.boot_len (aa (pv 1) ac)) (aK _))
    (jd (aA (gK rfl) rfl G.all (by decide +kernel) (aa (je (sc0:=ah ng) (N0:=["found","due"]) (ys:=[]) (fr:=[]) rfl (lL rfl hzip (aa (pv 0) (aa (pv 1) ac))) rfl rfl
     ⟨rfl,by decide +kernel,by decide +kernel,by decide +kernel,by decide +kernel,by decide +kernel,by decide +kernel,rfl,by decide +kernel⟩ (fun C s H ex=>al GS hr rfl mS F.kp bS .nil ax (aa (pv 0) (aa (pv 1) ac)))) ac)))))))
   aM)
  (ad (aY (aF um (pv 1) lN (aK _)) (aj (ay (dJ um (pv 0) lN (aK _)))) aM)
  (ad (aY (dO (aA cI rfl G.isi (by decide +kernel) (aa (pv 1) (aa (cK (v:=.ty "bool") rfl G.bool (by decide +kernel) rfl) ac))))
   (aj (ay (jf (aA cI rfl G.isi (by decide +kernel) (aa (pv 0) (aa (cK (v:=.ty "bool") rfl G.bool (by decide +kernel) rfl) ac))) (jd (dJ bh (pv 0) (pv 1) (aK _)))))) aM)
  (ad (aY (dO (aA cI rfl G.isi (by decide +kernel) (aa (pv 1) (aa (cK (v:=.ty "str") rfl G.str (by decide +kernel) rfl) ac))))
   (aj (ay (jf (aA cI rfl G.isi (by decide +kernel) (aa (pv 0) (aa (cK (v:=.ty "str") rfl G.str (by decide +kernel) rfl) ac))) (jd (dJ bh (pv 0) (pv 1) (aK _)))))) aM)
  (aj (ay (jf (al GW hr1 rfl mW kW bW .nil ax (aa (pv 0) ac)) (jd (dJ bh (pv 0) (pv 1) (aK _))))))))),?_⟩
 refine ⟨_,rfl,(by show 2<=sizeLine;decide),fun p0 h0=>?_⟩
 have s0:=ag h0 (.tup [.ty "tuple",.ty "list"])
 have g0:(upd H p0 (.tup [.ty "tuple",.ty "list"])) p0=some (.tup [.ty "tuple",.ty "list"]):=ab
 generalize upd H p0 (.tup [.ty "tuple",.ty "list"])=H0 at s0 g0 ⊢
 have hS0:=SameV.mono s0 hS
 rcases hS0 with ⟨x,rfl,rfl,hx⟩ | ⟨i,rfl,rfl⟩ | ⟨c,a,b,xs,ys,rfl,rfl,ha,hb,hl,hp⟩
 ·refine ⟨_,p0,false,rfl,g0,.str x,_,rfl,?_⟩
  refine cp ⟨_,rfl,rfl,_,rfl,?_⟩
  rw [show decide (V.str x=V.non)=false from decide_eq_false fun e=>nomatch e]
  refine cp ⟨_,rfl,_,"bool",rfl,hx,by simp,_,rfl,?_⟩
  rw [show isV "bool" H0 (V.str x)=false from rfl]
  refine cp ⟨_,rfl,_,"str",rfl,hx,by simp,_,rfl,?_⟩
  rw [show isV "str" H0 (V.str x)=true from rfl]
  refine dQ ⟨_,rfl,_,"str",rfl,hx,by simp,_,rfl,?_⟩
  rw [show isV "str" H0 (V.str x)=true from rfl]
  refine dQ ⟨_,rfl,_,rfl,rfl,?_⟩
  rw [decide_eq_true rfl]
  exact q H0 s0
 ·refine ⟨_,p0,false,rfl,g0,.int i,_,rfl,?_⟩
  refine cp ⟨_,rfl,rfl,_,rfl,?_⟩
  rw [show decide (V.int i=V.non)=false from decide_eq_false fun e=>nomatch e]
  refine cp ⟨_,rfl,_,"bool",rfl,True.intro,by simp,_,rfl,?_⟩
  rw [show isV "bool" H0 (V.int i)=false from rfl]
  refine cp ⟨_,rfl,_,"str",rfl,True.intro,by simp,_,rfl,?_⟩
  rw [show isV "str" H0 (V.int i)=false from rfl]
  refine cp ⟨_,rfl,_,rfl,True.intro,_,rfl,?_⟩
  rw [show oy (V.int i)=true from rfl]
  refine dQ ⟨_,rfl,_,rfl,rfl,?_⟩
  rw [decide_eq_true rfl]
  exact q H0 s0
 ·obtain ⟨a1,a2,_⟩:=qC ha
  obtain ⟨b1,b2,_⟩:=qC hb
  have hlen:xs.length=ys.length:=Paired.length hp
  refine ⟨_,p0,true,rfl,g0,wN hb,_,rfl,?_⟩
  refine dQ ⟨_,rfl,_,"tuple",rfl,lj hb,by simp,_,rfl,_,"tuple",rfl,lj ha,by simp,rfl,_,rfl,?_⟩
  rw [a1,b1,decide_eq_true rfl]
  refine cp ⟨_,rfl,_,"list",rfl,lj hb,by simp,_,rfl,_,"list",rfl,lj ha,by simp,rfl,_,rfl,?_⟩
  rw [a2,b2,decide_eq_true rfl]
  refine cp ⟨_,rfl,a,xs,rfl,tD ha,_,rfl,b,ys,rfl,tD hb,rfl,_,rfl,?_⟩
  rw [hlen,decide_eq_true rfl]
  refine dQ ⟨_,rfl,_,rfl,c,a,b,xs,ys,rfl,ha,hb,fun l hl0=>?_⟩
  refine ⟨fun i m zs H'=>i<=xs.length/\m=xs.length-i/\Same H0 H'/\H' l=some (.lst zs)/\zs=List.replicate i (.bl true),⟨_,Nat.zero_le _,rfl,ag hl0 _,ab,rfl⟩,?_⟩
  rintro i m zs H' ⟨hi,hm,sm,gl,rfl⟩
  refine ⟨gl,?_⟩
  by_cases e:i=xs.length
  ·refine .inl ⟨⟨xs,ys,sm _ _ ha,sm _ _ hb,e.symm,by lia⟩,l,List.replicate i true,rfl,SqL.of (by rw [List.map_replicate];exact gl),?_⟩
   rw [show (List.replicate i true).all id=true by simp]
   exact q H' (s0.trans sm)
  ·have hlt:i<xs.length:=by lia
   refine .inr ⟨⟨xs,ys,xs[i],ys[i],sm _ _ ha,sm _ _ hb,List.getElem?_eq_getElem hlt,List.getElem?_eq_getElem (by lia)⟩,au (by rw [List.length_replicate];lia),?_⟩
   rintro _ _ ⟨T,x,y,fT,rfl,rfl,hxy⟩
   obtain ⟨ex,ey⟩:=hxy xs ys (sm _ _ ha) (sm _ _ hb)
   obtain ⟨y',ey',hs⟩:=aZ hp ex
   rw [ey]at ey'
   cases ey'
   have sT:=sm.trans (ag fT (.tup [x,y]))
   refine ⟨T,x,y,rfl,ab,_,rfl,_,rfl,x,y,rfl,SameV.mono sT hs,fun H4 s4=>?_⟩
   have gl4:=s4 _ _ (ag fT (.tup [x,y]) _ _ gl)
   refine ⟨gl4,_,(by lia:xs.length- (i+1) <m),by lia,rfl,fun c' o h=>?_,ab,?_⟩
   ·rw [ai (af h hl0)]
    exact s4 _ _ (sT _ _ h)
   ·exact List.replicate_succ'.symm
theorem uy:FnOk P w K mg base CX0 2 f fd ["found","due"] (gQ 0):=by
 have no: ∀ vs H Q E,¬ gQ 0 vs H Q E:=fun vs H Q E h=>by
  obtain ⟨v,u,_,h,_⟩:=h
  exact h
 exact ⟨fun vs H Q E h=>absurd h (no vs H Q E),fun A outer s H args us vs Q E _ _ _ _ h=>absurd h (no vs H Q E)⟩
theorem qu (F:Fun K "_law_same" "_law_same" ng f fd) (G:Gb mg) (hlist:mg "list"=none) (hzip:mg "zip"=none) (bS:Binds K fd ["found","due"] []) (mS:mg "_law_same"=some (.ref f))
  (GW:FnOk P w K mg base CX0 1 f2 fd2 ["found"] la) (bW:Binds K fd2 ["found"] []) (kW:PySem.W.keepIn K (.ref f2)=true) (mW:mg "_law_whole"=some (.ref f2)): ∀ n:Nat,FnOk P w K mg base CX0 (n+2) f fd ["found","due"] (gQ n)
 | 0=>uy
 | n+1=>ux F G hlist hzip (qu F G hlist hzip bS mS GW bW kW mW n) bS mS GW bW kW mW
noncomputable def qf (K:PySem.W.Frag) (tbA:Addr):Sp:=fun vs H Q _=> ∃ (a:Addr) (ns:List Int),vs=[.ref a]/\SqL K H a (ns.map V.int)/\ns.length<=63/\TabSt tbA H/\ ∀ H',Q (.bl true) H'
theorem TabSt.sql {K:PySem.W.Frag} {tbA a:Addr} {H H':Hp} {xs:List V} (h:TabSt tbA H) (k:Kp tbA H H') (hS:SqL K H a xs):SqL K H' a xs:=by
 obtain ⟨t,h⟩:=h.tbl
 rcases hS with (e | ⟨o,e⟩) | e
 ·exact .inl (.inl (k _ _ e fun z=>by rw [z,h]at e;cases e))
 ·exact .inl (.inr ⟨o,k _ _ e fun z=>by rw [z,h]at e;cases e⟩)
 ·exact .inr e
theorem v8 {H H':Hp} {tp:Addr} {o:HO} (h:H tp=none) (k:Kp tp (upd H tp o) H'):Same H H':=fun b u e=>k b u (by rw [ai (af e h)];exact e) (af e h)
theorem gZ {H:Hp} {ns:List Int} {u v:V} (hl:ns.length<=1000) (h1:IntsAt H ns u) (h2:IntsAt H ns v):SameV H 2 u v:=by
 obtain ⟨a,rfl,ha⟩:=h1
 obtain ⟨b,rfl,hb⟩:=h2
 refine .inr (.inr ⟨true,a,b,_,_,rfl,rfl,ha,hb,by rw [List.length_map];exact hl,?_⟩)
 have go: ∀ l:List Int,Paired (SameV H 1) (l.map V.int) (l.map V.int):=by
  intro l
  induction l with
  | nil=>exact .nil
  | cons x r ih=>exact .cons (.inr (.inl ⟨x,rfl,rfl⟩)) ih
 exact go ns
theorem i8 {b1 b2:Bk} {n m:Nat} {t:Bt} {s1 s2:Srt} (hk1:PkB b1) (hk2:PkB b2) (h1:TrP b1 n t s1) (h2:TrP b2 m t s2):(iy b1 b2 t).length<=1000:=by
 have l1:=TrP.len hk1 h1
 have l2:=TrP.len hk2 h2
 have u1:=(hk1.s.ws _ (TrP.sort hk1 h1)).2.1
 have u2:=(hk2.s.ws _ (TrP.sort hk2 h2)).2.1
 unfold iy
 rw [List.length_cons,List.length_append]
 lia
noncomputable abbrev yF:List Str:=["script","one","other","few","start","tree"]
theorem scLawR:aH yF ["script"] (ah jY):=fsc
theorem xg (F:Fun K "law" "law" jY f fd) (G:Gb mg)
  (GB:FnOk P w K mg base CX0 20 f2 fd2 ["script","start"] (mE K)) (bB:Binds K fd2 ["script","start"] []) (kB:PySem.W.keepIn K (.ref f2)=true) (mB:mg "_law_books"=some (.ref f2))
  (GG:FnOk P w K mg base CX0 43 f3 fd3 ["tape","book","room"] (qg 40)) (bG:Binds K fd3 ["tape","book","room"] []) (kG:PySem.W.keepIn K (.ref f3)=true) (mG:mg "_law_grown_tree"=some (.ref f3))
  (GT:FnOk P w K mg base CX0 2 f4 fd4 ["script","k"] (lb K)) (bT:Binds K fd4 ["script","k"] []) (kT:PySem.W.keepIn K (.ref f4)=true) (mT:mg "_law_tape"=some (.ref f4))
  (GS:FnOk P w K mg base CX0 4 f5 fd5 ["found","due"] (gQ 2)) (bS:Binds K fd5 ["found","due"] []) (kS:PySem.W.keepIn K (.ref f5)=true) (mS:mg "_law_same"=some (.ref f5))
  (GR:FnOk P w K mg base CX0 8 f6 fd6 ["one","other","tree"] (pZ tbA)) (bR:Binds K fd6 ["one","other","tree"] []) (kR:PySem.W.keepIn K (.ref f6)=true) (mR:mg "row_of"=some (.ref f6))
  (GL:FnOk P w K mg base CX0 78 f7 fd7 ["one","other","tree"] tH) (bL:Binds K fd7 ["one","other","tree"] []) (kL:PySem.W.keepIn K (.ref f7)=true) (mL:mg "_law_row"=some (.ref f7)):
  FnOk P w K mg base CX0 79 f fd ["script"] (qf K tbA):=by
 refine F.ok scLawR (fun vs H Q E h=>?_) (fun cdv A outer s H vs Q E hr h=>?_)
 ·obtain ⟨a,ns,rfl,_⟩:=h
  rfl
 obtain ⟨a,ns,rfl,hS,hlen,tt,q⟩:=h
 have hr2:=hr.mono (show 2<=78 by decide)
 have hr4:=hr.mono (show 4<=78 by decide)
 have hr8:=hr.mono (show 8<=78 by decide)
 have hr20:=hr.mono (show 20<=78 by decide)
 have hr43:=hr.mono (show 43<=78 by decide)
 refine ⟨_,ad (fI (al GB hr20 rfl mB kB bB .nil ax (aa (pv 0) (aa ae ac))) (cQ rfl (aE (aw (i:=1) scLawR.nd rfl (Or.inl rfl)) (aE (aw (i:=2) scLawR.nd rfl (Or.inl rfl)) (aE (aw (i:=3) scLawR.nd rfl (Or.inl rfl)) cn)))))
  (ad (bc PassesOwn.never rfl (rj rfl G.range (aa ae (aa (aA (ij rfl) rfl G.max (by decide +kernel) (aa ae (aa (aA (fA rfl) rfl G.min (by decide +kernel) (aa ae (aa (aA aJ rfl G.len PySem.boot_len (aa (pv 0) ac)) ac))) ac))) ac))) (aw (i:=4) scLawR.nd rfl (Or.inl rfl))
   (ad (am (i:=5) scLawR.nd rfl (Or.inl rfl) (al GG hr43 rfl mG kG bG .nil ax (aa (al GT hr2 rfl mT kT bT .nil ax (aa (pv 0) (aa (pv 4) ac))) (aa (pv 1) (aa ae ac)))))
   (ad (aY (lI (dO (al GS hr4 rfl mS kS bS .nil ax (aa (al GR hr8 rfl mR kR bR .nil ax (aa (pv 1) (aa (pv 2) (aa (pv 5) ac)))) (aa (al GL hr rfl mL kL bL .nil ax (aa (pv 1) (aa (pv 2) (aa (pv 5) ac)))) ac))))) hO aM)
   (ad (aY (lI (dO (al GS hr4 rfl mS kS bS .nil ax (aa (al GR hr8 rfl mR kR bR .nil ax (aa (pv 2) (aa (pv 1) (aa (pv 5) ac)))) (aa (al GL hr rfl mL kL bL .nil ax (aa (pv 2) (aa (pv 1) (aa (pv 5) ac)))) ac))))) hO aM)
   (aj (aY (lI (dO (al GS hr4 rfl mS kS bS .nil ax (aa (al GR hr8 rfl mR kR bR .nil ax (aa (pv 1) (aa (pv 1) (aa (pv 5) ac)))) (aa (al GL hr rfl mL kL bL .nil ax (aa (pv 1) (aa (pv 1) (aa (pv 5) ac)))) ac))))) hO aM))))))
  (aj (ay uk))),?_⟩
 have hll:(ns.map V.int).length=ns.length:=List.length_map _
 refine ⟨_,rfl,a,ns,0,rfl,hS,hlen,by decide,by decide,fun b u1 u2 c k1 k2 H1 gb hB1 hB2 hpr s1=>?_⟩
 refine ⟨b,_,rfl,SqT.of gb,rfl,_,_,rfl,_,_,rfl,_,_,rfl,rfl,?_⟩
 have tt1:=tt.same s1
 have hS1:SqL K H1 a (ns.map V.int):=SqL.keep hS fun o e=>s1 _ _ e
 obtain ⟨bd,tb1,tb2,hbd,hp1,hp2,e1,e2⟩:=hpr
 have e12:k1.forms.map k3=k2.forms.map k3:=e1.trans e2.symm
 have hk1:=hp1.pk hbd e1
 have hk2:=hp2.pk hbd e2
 have hbk:=hp1.book hbd e1
 have hR1:=hB1.rep tb1
 have hR2:=hB2.rep tb2
 refine ⟨_,rfl,a,_,rfl,.inl hS1,22,_,rfl,15,_,rfl,14,_,rfl,?_,?_⟩
 ·rw [hll]
  refine ⟨by decide,by decide,?_,?_⟩ <;> split <;> split <;> lia
 rw [hll]
 have hb:((if (if (ns.length:Int) <22 then (ns.length:Int)else 22) >15 then (if (ns.length:Int) <22 then (ns.length:Int)else 22)else 15) -14).toNat<=22:=by
  split <;> (try split) <;> lia
 generalize ((if (if (ns.length:Int) <22 then (ns.length:Int)else 22) >15 then (if (ns.length:Int) <22 then (ns.length:Int)else 22)else 15) -14).toNat=m at hb ⊢
 refine cz (fun i σ H'=> ∃ o4 o5,σ=[some (.ref a),some u1,some u2,some (.bl c),o4,o5]/\Kp tbA H1 H'/\TabSt tbA H')
  ⟨none,none,rfl,Kp.refl,tt1⟩ ?_ ?_
 ·rintro i σ H2 hi ⟨o4,o5,rfl,kk2,tt2⟩
  have tk2:=tt1.tk kk2
  refine ⟨_,rfl,_,rfl,a,ns,_,rfl,tt1.sql kk2 hS1,hlen,by lia,by lia,fun tp t0 htp=>?_⟩
  have tt3:Tp (upd H2 tp (.lst [.int t0])) tp:=⟨t0,ab⟩
  have sT:=ag htp (.lst [.int t0])
  refine ⟨_,rfl,tp,u1,k1.bk tb1,12,rfl,(hR1.mono tk2).mono (aG sT),hbk,tt3,by decide,by decide,fun tv t sr H4 hT4 hsr hTr hsz _ k4 tt4=>?_⟩
  have S4:=v8 htp k4
  have tt4':=tt2.same S4
  have tk4:=tk2.trans (aG S4)
  have kk4:Kp tbA H1 H4:=kk2.same S4
  obtain ⟨x,hx,rfl⟩: ∃ x∈bd.names,sr=srP tb1 x:=by
   have h:sr∈k1.sorts:=hsr
   rw [show k1.sorts=bd.names.map (srP tb1)from hp1.so]at h
   obtain ⟨x,hx,rfl⟩:=List.mem_map.mp h
   exact ⟨x,hx,rfl⟩
  have hsz:t.sz<=60:=by lia
  have hP1:TrP (k1.bk tb1) 60 t (srP tb1 x):=hTr.trP.le (by decide)
  have hP2:TrP (k2.bk tb2) 60 t (srP tb2 x):=TrP.other e12 hP1
  have hT4:RepT H4 60 t tv:=hT4.le (by decide)
  refine ⟨_,rfl,_,rfl,_,rfl,u1,u2,tv,k1.bk tb1,k2.bk tb2,60,60,60,t,_,_,rfl,hR1.mono tk4,hR2.mono tk4,hk1,hk2,hP1,hP2,hT4,hsz,tt4',fun r1 H5 k5 t5 hr1=>?_⟩
  have tk5:=tt4'.tk k5
  have tk15:=tk4.trans tk5
  refine ⟨_,rfl,_,rfl,_,rfl,u1,u2,tv,k1.bk tb1,k2.bk tb2,t,_,_,rfl,hR1.mono tk15,hR2.mono tk15,hk1,hk2,hT4.mono tk5,hP1,hP2,rfl,hsz,fun r2 H6 s6 hr2=>?_⟩
  refine ⟨r1,r2,rfl,gZ (i8 hk1 hk2 hP1 hP2) (hr1.mono (aG s6)) hr2,fun H7 s7=>⟨true,rfl,cp ?_⟩⟩
  have s57:=s6.trans s7
  have t7:=t5.same s57
  have tk17:=tk15.trans (aG s57)
  have hT7:=(hT4.mono tk5).mono (aG s57)
  have kk7:Kp tbA H1 H7:=(kk4.trans k5).same s57
  refine ⟨_,rfl,_,rfl,_,rfl,u2,u1,tv,k2.bk tb2,k1.bk tb1,60,60,60,t,_,_,rfl,hR2.mono tk17,hR1.mono tk17,hk2,hk1,hP2,hP1,hT7,hsz,t7,fun r1 H8 k8 t8 hr1=>?_⟩
  have tk8:=t7.tk k8
  have tk18:=tk17.trans tk8
  refine ⟨_,rfl,_,rfl,_,rfl,u2,u1,tv,k2.bk tb2,k1.bk tb1,t,_,_,rfl,hR2.mono tk18,hR1.mono tk18,hk2,hk1,hT7.mono tk8,hP2,hP1,rfl,hsz,fun r2 H9 s9 hr2=>?_⟩
  refine ⟨r1,r2,rfl,gZ (i8 hk2 hk1 hP2 hP1) (hr1.mono (aG s9)) hr2,fun H10 s10=>⟨true,rfl,cp ?_⟩⟩
  have s810:=s9.trans s10
  have t10:=t8.same s810
  have tk110:=tk18.trans (aG s810)
  have hT10:=(hT7.mono tk8).mono (aG s810)
  have kk10:Kp tbA H1 H10:=(kk7.trans k8).same s810
  refine ⟨_,rfl,_,rfl,_,rfl,u1,u1,tv,k1.bk tb1,k1.bk tb1,60,60,60,t,_,_,rfl,hR1.mono tk110,hR1.mono tk110,hk1,hk1,hP1,hP1,hT10,hsz,t10,fun r1 H11 k11 t11 hr1=>?_⟩
  have tk11:=t10.tk k11
  have tk111:=tk110.trans tk11
  refine ⟨_,rfl,_,rfl,_,rfl,u1,u1,tv,k1.bk tb1,k1.bk tb1,t,_,_,rfl,hR1.mono tk111,hR1.mono tk111,hk1,hk1,hT10.mono tk11,hP1,hP1,rfl,hsz,fun r2 H12 s12 hr2=>?_⟩
  refine ⟨r1,r2,rfl,gZ (i8 hk1 hk1 hP1 hP1) (hr1.mono (aG s12)) hr2,fun H13 s13=>⟨true,rfl,cp ?_⟩⟩
  exact ⟨_,_,rfl,(kk10.trans k11).same (s12.trans s13),t11.same (s12.trans s13)⟩
 ·rintro σ H2 ⟨o4,o5,rfl,_⟩
  exact q _
theorem wq {P:Program} {w:World} {K:PySem.W.Frag} {aD:Addr} {h1 h2 h3 h4 h5 h6:Int} {t1 t2 t3 t4 t5 t6 u1 u2 u3 u4 u5 u6:Tok} {ep:Nat}
  (lD:K.lookup aD=some ⟨.type "dict",none,.dict #[⟨h1,.str "plus" t1,.int 2 u1⟩,⟨h2,.str "less" t2,.int 2 u2⟩,⟨h3,.str "times" t3,.int 2 u3⟩,⟨h4,.str "least" t4,.int 2 u4⟩,⟨h5,.str "most" t5,.int 2 u5⟩,⟨h6,.str "when" t6,.int 3 u6⟩] ep,#[]⟩)
  (e1:h1=hashStr w "plus") (e2:h2=hashStr w "less") (e3:h3=hashStr w "times") (e4:h4=hashStr w "least") (e5:h5=hashStr w "most") (e6:h6=hashStr w "when") (nD:(aD==sysModules)=false):wB P w K aD kf:=by
 refine ⟨nD,fun h X=>⟨[(.inr "plus",.int 2 u1),(.inr "less",.int 2 u2),(.inr "times",.int 2 u3),(.inr "least",.int 2 u4),(.inr "most",.int 2 u5),(.inr "when",.int 3 u6)],?_,?_⟩⟩
 ·exact .cons ⟨rfl,_,rfl⟩ (.cons ⟨rfl,_,rfl⟩ (.cons ⟨rfl,_,rfl⟩ (.cons ⟨rfl,_,rfl⟩ (.cons ⟨rfl,_,rfl⟩ (.cons ⟨rfl,_,rfl⟩ .nil)))))
 ·refine ⟨_,_,_,X _ _ lD,⟨rfl,rfl,rfl⟩,rfl,?_,?_,by dsimp only [List.map];decide +kernel⟩
  ·intro e he
   simp only [List.mem_toArray,List.mem_cons,List.not_mem_nil,or_false]at he
   rcases he with rfl | rfl | rfl | rfl | rfl | rfl
   ·exact ⟨.inr "plus",bz "plus" t1,e1⟩
   ·exact ⟨.inr "less",bz "less" t2,e2⟩
   ·exact ⟨.inr "times",bz "times" t3,e3⟩
   ·exact ⟨.inr "least",bz "least" t4,e4⟩
   ·exact ⟨.inr "most",bz "most" t5,e5⟩
   ·exact ⟨.inr "when",bz "when" t6,e6⟩
  ·exact .cons (bz "plus" t1) rfl (.cons (bz "less" t2) rfl (.cons (bz "times" t3) rfl (.cons (bz "least" t4) rfl (.cons (bz "most" t5) rfl (.cons (bz "when" t6) rfl .nil)))))
theorem c9 {α:Type} {l:List α} (h:l.length=1): ∃ a,l=[a]:=by
 match l,h with
 | [a],_=>exact ⟨a,rfl⟩
theorem cA {α:Type} {l:List α} (h:l.length=2): ∃ a b,l=[a,b]:=by
 match l,h with
 | [a,b],_=>exact ⟨a,b,rfl⟩
theorem dE {α:Type} {l:List α} (h:l.length=3): ∃ a b c,l=[a,b,c]:=by
 match l,h with
 | [a,b,c],_=>exact ⟨a,b,c,rfl⟩
theorem pM {α:Type} {l:List α} (h:l.length=4): ∃ a b c d,l=[a,b,c,d]:=by
 match l,h with
 | [a,b,c,d],_=>exact ⟨a,b,c,d,rfl⟩
theorem xF {α:Type} {l:List α} (h:l.length=5): ∃ a b c d e,l=[a,b,c,d,e]:=by
 match l,h with
 | [a,b,c,d,e],_=>exact ⟨a,b,c,d,e,rfl⟩
theorem zd {α:Type} {l:List α} (h:l.length=6): ∃ a b c d e f,l=[a,b,c,d,e,f]:=by
 match l,h with
 | [a,b,c,d,e,f],_=>exact ⟨a,b,c,d,e,f,rfl⟩
theorem vG {K:PySem.W.Frag} {aR:Addr} {od:Option Addr} {sl:Array (Option Value)} {t1 t2:Tok} {m:Nat} (l:K.lookup aR=some ⟨.type "tuple",od,.seq #[.str "own" t1,.str "part" t2] m,sl⟩): ∀ H,SqT K H aR (rdgs.map V.str):=
 fun H=>.inr ⟨_,_,_,l,rfl,rfl,(show 2<=sizeLine by decide),.cons ⟨_,rfl⟩ (.cons ⟨_,rfl⟩ .nil)⟩
/-- what is told of a def -/
structure Df (K:PySem.W.Frag) (nm:Str) (st:Stmt) (f:Addr) (fd:FuncData):Prop where
 a:PySem.W.nsIn K mainGlobals nm=some (some (.ref f))
 k:PySem.W.keepIn K (.ref f)=true
 F:Fun K nm nm st f fd
theorem Df.m {K:PySem.W.Frag} {nm:Str} {st:Stmt} {f:Addr} {fd:FuncData} {h:Heap} {mg:Str->Option Value} (d:Df K nm st f fd) (X:K.In h) (G:h.Ns mainGlobals mg):mg nm=some (.ref f):=PySem.W.mg_of X G d.a
theorem Df.of {K:PySem.W.Frag} {nm:Str} {st:Stmt} {f:Addr} {oc:Value} {od an:Option Addr} {osl:Array (Option Value)} {kV doc pm cdv ct:Value} (a:PySem.W.nsIn K mainGlobals nm=some (some (.ref f))) (k:PySem.W.keepIn K (.ref f)=true)
  (l:K.lookup f=some ⟨oc,od,.func (PySem.W.fnOf nm nm (gI st) (cq st) (ah st) .none kV doc pm an cdv ct),osl⟩) (c:PySem.W.codeIn K cdv nm=true):Df K nm st f (PySem.W.fnOf nm nm (gI st) (cq st) (ah st) .none kV doc pm an cdv ct):=
 ⟨a,k,⟨⟨oc,od,kV,doc,pm,an,cdv,ct,osl,rfl,l,c⟩,k⟩⟩
theorem all_mk {l:PySem.W.OpenLaw} {w:World} {K:PySem.W.Frag} {h:Heap} {mg:Str->Option Value} {fa cS Pt aD aR f1 f2 f3 f4 f5 f6 f7 f8 f9 f10 f11 f12 f13 f14 f15 f16 f17 f18 f19 f20 f21 f22 f23 f24 f25 f26 f27 f28 f29 f30 f31 f32 f33 f34 f35 f36 f37 f38 f39 f40 f41 f42 f43 f44 f45 f46 f47:Addr} {r1 r2 r3 r4 r5 r6 r7 r8 r9 r10 r11 r12 r13 r14 r15 r16 r17 r18 r19 r20 r21 r22 r23 r24 r25 r26 r27 r28 r29 r30 r31 r32 r33 r34 r35 r36 r37 r38 r39 r40 r41 r42 r43 r44 r45 r46 r47:FuncData} (X:K.In h) (G:h.Ns mainGlobals mg) (hfa:mg "law"=some (.ref fa)) (hTb:vi h mg "reckoned" cS Pt)
  {odR:Option Addr} {slR:Array (Option Value)} {w1 w2 t1 t2 t3 t4 t5 t6 u1 u2 u3 u4 u5 u6  :Tok} {h1 h2 h3 h4 h5 h6:Int} {ep mR:Nat}
  (d1:Df K "inner_of" oM f1 r1)
  (d2:Df K "tuples_of" lp f2 r2)
  (d3:Df K "folded" iF f3 r3)
  (d4:Df K "sorts_of" iZ f4 r4)
  (d5:Df K "forms_of" i7 f5 r5)
  (d6:Df K "sort_named" eE f6 r6)
  (d7:Df K "form_named" eF f7 r7)
  (d8:Df K "ups_of" wY f8 r8)
  (d9:Df K "sort_of_form" eW f9 r9)
  (d10:Df K "parts_of" i4 f10 r10)
  (d11:Df K "rules_of" i3 f11 r11)
  (d12:Df K "formulas_by_key" oO f12 r12)
  (d13:Df K "reckoned" nh f13 r13)
  (d14:Df K "rest_of" lr f14 r14)
  (d15:Df K "worth_of" iX f15 r15)
  (d16:Df K "joined" lB f16 r16)
  (d17:Df K "boughs_by_place" gj f17 r17)
  (d18:Df K "row_of" lq f18 r18)
  (d19:Df K "row_by_form" gW f19 r19)
  (d20:Df K "ups_by_form" lm f20 r20)
  (d21:Df K "_law_cell_at" tR f21 r21)
  (d22:Df K "_law_tape" tN f22 r22)
  (d23:Df K "_law_digit" oN f23 r23)
  (d24:Df K "_law_names" eZ f24 r24)
  (d25:Df K "_law_number" ls f25 r25)
  (d26:Df K "_law_leaf" tP f26 r26)
  (d27:Df K "_law_least" gX f27 r27)
  (d28:Df K "_law_tree" iY f28 r28)
  (d29:Df K "_law_whole" lA f29 r29)
  (d30:Df K "_law_same" ng f30 r30)
  (d31:Df K "_law_rest" oK f31 r31)
  (d32:Df K "_law_reckoned" i6 f32 r32)
  (d33:Df K "_law_size" i5 f33 r33)
  (d34:Df K "_law_level_formula" c7 f34 r34)
  (d35:Df K "_law_form_of" lE f35 r35)
  (d36:Df K "_law_grown_tree" lC f36 r36)
  (d37:Df K "_law_build" dl f37 r37)
  (d38:Df K "_law_plain_of" eX f38 r38)
  (d39:Df K "_law_turned_formula" gi f39 r39)
  (d40:Df K "_law_told_otherwise" cm f40 r40)
  (d41:Df K "_law_one_more" eY f41 r41)
  (d42:Df K "_law_up_worths" fk f42 r42)
  (d43:Df K "_law_ups" tQ f43 r43)
  (d44:Df K "_law_row" ni f44 r44)
  (d45:Df K "_law_may_be_great" lx f45 r45)
  (d46:Df K "_law_books" cJ f46 r46)
  (d47:Df K "law" jY f47 r47)
  (z1:PySem.W.nsIn K mainGlobals "isinstance"=some none)
  (z2:PySem.W.nsIn K mainGlobals "int"=some none)
  (z3:PySem.W.nsIn K mainGlobals "bool"=some none)
  (z4:PySem.W.nsIn K mainGlobals "str"=some none)
  (z5:PySem.W.nsIn K mainGlobals "tuple"=some none)
  (z6:PySem.W.nsIn K mainGlobals "len"=some none)
  (z7:PySem.W.nsIn K mainGlobals "all"=some none)
  (z8:PySem.W.nsIn K mainGlobals "range"=some none)
  (z9:PySem.W.nsIn K mainGlobals "max"=some none)
  (z10:PySem.W.nsIn K mainGlobals "min"=some none)
  (z11:PySem.W.nsIn K mainGlobals "list"=some none)
  (z12:PySem.W.nsIn K mainGlobals "sum"=some none)
  (z13:PySem.W.nsIn K mainGlobals "zip"=some none)
  (z14:PySem.W.nsIn K mainGlobals "enumerate"=some none)
  (z15:PySem.W.nsIn K mainGlobals "reversed"=some none)
  (aI:PySem.W.nsIn K mainGlobals "INNER_COUNTS"=some (some (.ref aD)))
  (lD:K.lookup aD=some ⟨.type "dict",none,.dict #[⟨h1,.str "plus" t1,.int 2 u1⟩,⟨h2,.str "less" t2,.int 2 u2⟩,⟨h3,.str "times" t3,.int 2 u3⟩,⟨h4,.str "least" t4,.int 2 u4⟩,⟨h5,.str "most" t5,.int 2 u5⟩,⟨h6,.str "when" t6,.int 3 u6⟩] ep,#[]⟩)
  (e1:h1=hashStr w "plus")    (e2:h2=hashStr w "less")    (e3:h3=hashStr w "times")    (e4:h4=hashStr w "least")    (e5:h5=hashStr w "most")    (e6:h6=hashStr w "when")
  (nD:(aD==sysModules)=false)
  (aQ:PySem.W.nsIn K mainGlobals "READINGS"=some (some (.ref aR))) (lR:K.lookup aR=some ⟨.type "tuple",odR,.seq #[.str "own" w1,.str "part" w2] mR,slR⟩):
  ∃ fd:FuncData,(∀ (s:Shared) (v:Value),BindsTo s fd ⟨[v],[]⟩ [("script",v)])/\ ∀ base:Heap,K.In base->base.Ns mainGlobals mg->PySem.W.CodeHd base cS Pt->base.BuiltinsAt mg Pt->FnOk l.prog w K mg base CX0 79 fa fd ["script"] (qf K Pt):=by
 have e:=hfa.symm.trans (d47.m X G)
 cases e
 have b1:=d1.F.binds (ps:=["formula"]) fun _ _ _ _ _ _ us hl=>by obtain ⟨x,rfl⟩:=c9 hl;rfl
 have m1:=d1.m X G
 have b2:=d2.F.binds (ps:=["formula"]) fun _ _ _ _ _ _ us hl=>by obtain ⟨x,rfl⟩:=c9 hl;rfl
 have m2:=d2.m X G
 have b3:=d3.F.binds (ps:=["formula","tell"]) fun _ _ _ _ _ _ us hl=>by obtain ⟨x,y,rfl⟩:=cA hl;rfl
 have m3:=d3.m X G
 have b4:=d4.F.binds (ps:=["book"]) fun _ _ _ _ _ _ us hl=>by obtain ⟨x,rfl⟩:=c9 hl;rfl
 have m4:=d4.m X G
 have b5:=d5.F.binds (ps:=["book"]) fun _ _ _ _ _ _ us hl=>by obtain ⟨x,rfl⟩:=c9 hl;rfl
 have m5:=d5.m X G
 have b6:=d6.F.binds (ps:=["book","name"]) fun _ _ _ _ _ _ us hl=>by obtain ⟨x,y,rfl⟩:=cA hl;rfl
 have m6:=d6.m X G
 have b7:=d7.F.binds (ps:=["book","name"]) fun _ _ _ _ _ _ us hl=>by obtain ⟨x,y,rfl⟩:=cA hl;rfl
 have m7:=d7.m X G
 have b8:=d8.F.binds (ps:=["book","sort"]) fun _ _ _ _ _ _ us hl=>by obtain ⟨x,y,rfl⟩:=cA hl;rfl
 have m8:=d8.m X G
 have b9:=d9.F.binds (ps:=["form"]) fun _ _ _ _ _ _ us hl=>by obtain ⟨x,rfl⟩:=c9 hl;rfl
 have m9:=d9.m X G
 have b10:=d10.F.binds (ps:=["form"]) fun _ _ _ _ _ _ us hl=>by obtain ⟨x,rfl⟩:=c9 hl;rfl
 have m10:=d10.m X G
 have b11:=d11.F.binds (ps:=["form"]) fun _ _ _ _ _ _ us hl=>by obtain ⟨x,rfl⟩:=c9 hl;rfl
 have m11:=d11.m X G
 have b12:=d12.F.binds (ps:=["form"]) fun _ _ _ _ _ _ us hl=>by obtain ⟨x,rfl⟩:=c9 hl;rfl
 have m12:=d12.m X G
 have b13:=d13.F.binds (ps:=["formula","told","wheel"]) fun _ _ _ _ _ _ us hl=>by obtain ⟨x,y,z,rfl⟩:=dE hl;rfl
 have m13:=d13.m X G
 have b14:=d14.F.binds (ps:=["number","wheel"]) fun _ _ _ _ _ _ us hl=>by obtain ⟨x,y,rfl⟩:=cA hl;rfl
 have m14:=d14.m X G
 have b15:=d15.F.binds (ps:=["one","told","inner"]) fun _ _ _ _ _ _ us hl=>by obtain ⟨x,y,z,rfl⟩:=dE hl;rfl
 have m15:=d15.m X G
 have b16:=d16.F.binds (ps:=["kind","first","second"]) fun _ _ _ _ _ _ us hl=>by obtain ⟨x,y,z,rfl⟩:=dE hl;rfl
 have m16:=d16.m X G
 have b17:=d17.F.binds (ps:=["tree"]) fun _ _ _ _ _ _ us hl=>by obtain ⟨x,rfl⟩:=c9 hl;rfl
 have m17:=d17.m X G
 have b18:=d18.F.binds (ps:=["one","other","tree"]) fun _ _ _ _ _ _ us hl=>by obtain ⟨x,y,z,rfl⟩:=dE hl;rfl
 have m18:=d18.m X G
 have b19:=d19.F.binds (ps:=["one","other","name","rows"]) fun _ _ _ _ _ _ us hl=>by obtain ⟨x,y,z,u,rfl⟩:=pM hl;rfl
 have m19:=d19.m X G
 have b20:=d20.F.binds (ps:=["book","name","worths"]) fun _ _ _ _ _ _ us hl=>by obtain ⟨x,y,z,rfl⟩:=dE hl;rfl
 have m20:=d20.m X G
 have b21:=d21.F.binds (ps:=["script","k"]) fun _ _ _ _ _ _ us hl=>by obtain ⟨x,y,rfl⟩:=cA hl;rfl
 have m21:=d21.m X G
 have b22:=d22.F.binds (ps:=["script","k"]) fun _ _ _ _ _ _ us hl=>by obtain ⟨x,y,rfl⟩:=cA hl;rfl
 have m22:=d22.m X G
 have b23:=d23.F.binds (ps:=["tape","many"]) fun _ _ _ _ _ _ us hl=>by obtain ⟨x,y,rfl⟩:=cA hl;rfl
 have m23:=d23.m X G
 have b24:=d24.F.binds (ps:=["tape","many"]) fun _ _ _ _ _ _ us hl=>by obtain ⟨x,y,rfl⟩:=cA hl;rfl
 have m24:=d24.m X G
 have b25:=d25.F.binds (ps:=["tape"]) fun _ _ _ _ _ _ us hl=>by obtain ⟨x,rfl⟩:=c9 hl;rfl
 have m25:=d25.m X G
 have b26:=d26.F.binds (ps:=["tape","readings"]) fun _ _ _ _ _ _ us hl=>by obtain ⟨x,y,rfl⟩:=cA hl;rfl
 have m26:=d26.m X G
 have b27:=d27.F.binds (ps:=["book"]) fun _ _ _ _ _ _ us hl=>by obtain ⟨x,rfl⟩:=c9 hl;rfl
 have m27:=d27.m X G
 have b28:=d28.F.binds (ps:=["tape","book","least","sort","room"]) fun _ _ _ _ _ _ us hl=>by obtain ⟨x,y,z,u,v,rfl⟩:=xF hl;rfl
 have m28:=d28.m X G
 have b29:=d29.F.binds (ps:=["found"]) fun _ _ _ _ _ _ us hl=>by obtain ⟨x,rfl⟩:=c9 hl;rfl
 have m29:=d29.m X G
 have b30:=d30.F.binds (ps:=["found","due"]) fun _ _ _ _ _ _ us hl=>by obtain ⟨x,y,rfl⟩:=cA hl;rfl
 have m30:=d30.m X G
 have b31:=d31.F.binds (ps:=["number","wheel"]) fun _ _ _ _ _ _ us hl=>by obtain ⟨x,y,rfl⟩:=cA hl;rfl
 have m31:=d31.m X G
 have b32:=d32.F.binds (ps:=["formula","told","wheel"]) fun _ _ _ _ _ _ us hl=>by obtain ⟨x,y,z,rfl⟩:=dE hl;rfl
 have m32:=d32.m X G
 have b33:=d33.F.binds (ps:=["formula"]) fun _ _ _ _ _ _ us hl=>by obtain ⟨x,rfl⟩:=c9 hl;rfl
 have m33:=d33.m X G
 have b34:=d34.F.binds (ps:=["tape","readings","room","signs"]) fun _ _ _ _ _ _ us hl=>by obtain ⟨x,y,z,u,rfl⟩:=pM hl;rfl
 have m34:=d34.m X G
 have b35:=d35.F.binds (ps:=["book","name"]) fun _ _ _ _ _ _ us hl=>by obtain ⟨x,y,rfl⟩:=cA hl;rfl
 have m35:=d35.m X G
 have b36:=d36.F.binds (ps:=["tape","book","room"]) fun _ _ _ _ _ _ us hl=>by obtain ⟨x,y,z,rfl⟩:=dE hl;rfl
 have m36:=d36.m X G
 have b37:=d37.F.binds (ps:=["tape","many","most"]) fun _ _ _ _ _ _ us hl=>by obtain ⟨x,y,z,rfl⟩:=dE hl;rfl
 have m37:=d37.m X G
 have b38:=d38.F.binds (ps:=["script","start","build","most"]) fun _ _ _ _ _ _ us hl=>by obtain ⟨x,y,z,u,rfl⟩:=pM hl;rfl
 have m38:=d38.m X G
 have b39:=d39.F.binds (ps:=["tape","formula","tables"]) fun _ _ _ _ _ _ us hl=>by obtain ⟨x,y,z,rfl⟩:=dE hl;rfl
 have m39:=d39.m X G
 have b40:=d40.F.binds (ps:=["tape","book"]) fun _ _ _ _ _ _ us hl=>by obtain ⟨x,y,rfl⟩:=cA hl;rfl
 have m40:=d40.m X G
 have b41:=d41.F.binds (ps:=["tape","book"]) fun _ _ _ _ _ _ us hl=>by obtain ⟨x,y,rfl⟩:=cA hl;rfl
 have m41:=d41.m X G
 have b42:=d42.F.binds (ps:=["book","tree"]) fun _ _ _ _ _ _ us hl=>by obtain ⟨x,y,rfl⟩:=cA hl;rfl
 have m42:=d42.m X G
 have b43:=d43.F.binds (ps:=["book","name"]) fun _ _ _ _ _ _ us hl=>by obtain ⟨x,y,rfl⟩:=cA hl;rfl
 have m43:=d43.m X G
 have b44:=d44.F.binds (ps:=["one","other","tree"]) fun _ _ _ _ _ _ us hl=>by obtain ⟨x,y,z,rfl⟩:=dE hl;rfl
 have m44:=d44.m X G
 have b45:=d45.F.binds (ps:=["one","other","same"]) fun _ _ _ _ _ _ us hl=>by obtain ⟨x,y,z,rfl⟩:=dE hl;rfl
 have m45:=d45.m X G
 have b46:=d46.F.binds (ps:=["script","start"]) fun _ _ _ _ _ _ us hl=>by obtain ⟨x,y,rfl⟩:=cA hl;rfl
 have m46:=d46.m X G
 have Gb0:Gb mg:=⟨PySem.W.mg_none_of X G z1,PySem.W.mg_none_of X G z2,PySem.W.mg_none_of X G z3,PySem.W.mg_none_of X G z4,PySem.W.mg_none_of X G z5,PySem.W.mg_none_of X G z6,PySem.W.mg_none_of X G z7,PySem.W.mg_none_of X G z8,PySem.W.mg_none_of X G z9,PySem.W.mg_none_of X G z10⟩
 have D:wB l.prog w K aD kf:=wq lD e1 e2 e3 e4 e5 e6 nD
 have mI:=PySem.W.mg_of X G aI
 have mQ:=PySem.W.mg_of X G aQ
 have hR:=vG lR
 have v11:=PySem.W.mg_none_of X G z11
 have v12:=PySem.W.mg_none_of X G z12
 have v13:=PySem.W.mg_none_of X G z13
 have v14:=PySem.W.mg_none_of X G z14
 have v15:=PySem.W.mg_none_of X G z15
 have hfc:r13.code=.ref cS:=by
  obtain ⟨⟨a,o,fd,t1,t2,t3,t4⟩,_⟩:=hTb
  rw [m13]at t1
  cases t1
  obtain ⟨oc,od,kV,doc,pm,an,cdv,ct,osl,_,lk,_⟩:=d13.F.ex
  rw [X _ _ lk]at t2
  cases t2
  cases t3
  exact t4
 have F47:=d47.F
 obtain ⟨_,_,kV,dc,pm,an,cd,ct,_,rfl,_,_⟩:=d47.F.ex
 refine ⟨PySem.W.fnOf "law" "law" (gI jY) (cq jY) (ah jY) .none kV dc pm an cd ct,fun s v=>.of_eq rfl,fun base _ _ hC hB=>?_⟩
 have g_inner:=jl (base:=base) d1.F mI D
 have g_tuples:=j8 d2.F g_inner b1 d1.k m1
 have g_folded:=fun b=>rO d3.F Gb0 v15 (j8 (base:=b) d2.F (jl (base:=b) d1.F mI D) b1 d1.k m1) b2 d2.k m2 (jl (base:=b) d1.F mI D) b1 d1.k m1
 have g_joined:=fun b=>rM (P:=l.prog) (w:=w) (mg:=mg) (base:=b) d16.F Gb0
 have g_rest:=fun b=>rm (P:=l.prog) (w:=w) (mg:=mg) (base:=b) d14.F
 have g_worth:=fun b=>oY d15.F mQ hR (g_joined b) b16 d16.k m16
 have g_reck:=vT d13.F hfc hC hB g_folded b3 d3.k m3 g_worth b15 d15.k m15 g_rest b14 d14.k m14
 have g_sortsOf:=pd (P:=l.prog) (w:=w) (mg:=mg) (base:=base) d4.F
 have g_formsOf:=pj (P:=l.prog) (w:=w) (mg:=mg) (base:=base) d5.F
 have g_sortNamed:=lQ d6.F g_sortsOf b4 d4.k m4
 have g_formNamed:=lV d7.F g_formsOf b5 d5.k m5
 have g_ups:=xf d8.F g_sortNamed b6 d6.k m6
 have g_sof:=jJ (P:=l.prog) (w:=w) (mg:=mg) (base:=base) d9.F
 have g_parts:=ph (P:=l.prog) (w:=w) (mg:=mg) (base:=base) d10.F
 have g_rules:=pe (P:=l.prog) (w:=w) (mg:=mg) (base:=base) d11.F
 have g_byKey:=uI d12.F g_rules b11 d11.k m11
 have g_upsBy:=ur d20.F Gb0 v14 v13 g_formNamed b7 d7.k m7 g_parts b10 d10.k m10 g_ups b8 d8.k m8 g_sof b9 d9.k m9 g_byKey b12 d12.k m12 g_reck b13 d13.k m13
 have g_rowBy:=uA d19.F Gb0 v13 g_formNamed b7 d7.k m7 g_parts b10 d10.k m10 g_ups b8 d8.k m8 g_upsBy b20 d20.k m20
 have g_byPlace:=pp (P:=l.prog) (w:=w) (mg:=mg) (base:=base) d17.F v14
 have g_rowOf:=uz d18.F v11 v15 g_byPlace b17 d17.k m17 g_rowBy b19 d19.k m19
 have g_lwhole:=rD (P:=l.prog) (w:=w) (mg:=mg) (base:=base) d29.F Gb0
 have g_same:=qu d30.F Gb0 v11 v13 b30 m30 g_lwhole b29 d29.k m29 2
 have g_lrest:=uF (P:=l.prog) (w:=w) (mg:=mg) (base:=base) d31.F
 have g_lreck:=nH d32.F Gb0 b32 m32 g_lrest b31 d31.k m31 15
 have g_lsize:=nG (P:=l.prog) (w:=w) (mg:=mg) (base:=base) d33.F v12 b33 m33 17
 have g_leastP:=rE (P:=l.prog) (w:=w) (mg:=mg) (base:=base) d27.F Gb0 v12
 have g_least:=uD (P:=l.prog) (w:=w) (mg:=mg) (base:=base) d27.F Gb0 v12
 have g_mayBe:=uB d45.F Gb0 g_leastP b27 d27.k m27
 have g_cell:=vY (P:=l.prog) (w:=w) (base:=base) d21.F Gb0
 have g_tape:=vS d22.F g_cell b21 d21.k m21
 have g_digit:=uH (P:=l.prog) (w:=w) (mg:=mg) (base:=base) d23.F
 have g_tree:=qt d28.F Gb0 v12 g_digit b23 d23.k m23 b28 m28 40
 have g_grown:=uG d36.F Gb0 g_digit b23 d23.k m23 g_least b27 d27.k m27 g_tree b28 d28.k m28
 have g_names:=rq d24.F Gb0 g_digit b23 d23.k m23
 have g_number:=rn d25.F g_digit b23 d23.k m23
 have g_leaf:=fun ρ=>uE (ρ:=ρ) d26.F Gb0 g_digit b23 d23.k m23 g_number b25 d25.k m25
 have g_leafA:=FnOk.exA g_leaf
 have g_lvF:=uC d34.F Gb0 g_digit b23 d23.k m23 g_leafA b26 d26.k m26 b34 m34 8
 have g_build:=rK d37.F Gb0 g_digit b23 d23.k m23 g_names b24 d24.k m24
 have g_plainOf:=pf d38.F Gb0 g_digit b23 d23.k m23 g_names b24 d24.k m24 g_tape b22 d22.k m22 g_lvF b34 d34.k m34
 have g_turned:=j7 d39.F g_digit b23 d23.k m23 b39 m39 11
 have g_otherwise:=lU d40.F Gb0 g_turned b39 d39.k m39
 have g_oneMore:=pi d41.F Gb0 v11 g_digit b23 d23.k m23 g_lsize b33 d33.k m33
 have g_books:=rL d46.F g_oneMore b41 d41.k m41 g_mayBe b45 d45.k m45 g_digit b23 d23.k m23 g_plainOf b38 d38.k m38 g_otherwise b40 d40.k m40 g_build b37 d37.k m37 g_tape b22 d22.k m22
 have g_formOf:=rN (P:=l.prog) (w:=w) (mg:=mg) (base:=base) d35.F
 have g_upW:=ut d42.F Gb0 b42 m42 g_formOf b35 d35.k m35 g_lreck b32 d32.k m32 60
 have g_lUps:=vW (P:=l.prog) (w:=w) (mg:=mg) (base:=base) d43.F
 have g_lRow:=vX d44.F Gb0 g_formOf b35 d35.k m35 g_upW b42 d42.k m42 g_lUps b43 d43.k m43
 exact xg F47 Gb0 g_books b46 d46.k m46 g_grown b36 d36.k m36 g_tape b22 d22.k m22 g_same b30 d30.k m30 g_rowOf b18 d18.k m18 g_lRow b44 d44.k m44
theorem walk {l:PySem.W.OpenLaw} {q:Program} {loose:List Str} {XP:(Str->Option Value)->Heap->Prop} {YP:World->Heap->Prop} {d:DefRec} {K:Params->PySem.W.Frag} (hn:l.most=some 63) (hdf:d.params.defaults=[])
  (hY: ∀ (w:World) (h:Heap),YP w h->(K w.params).In h) (hrec: ∃ e∈PyProof.Rows.recsOf q,e.name="reckoned") (hKt: ∀ w:World,PySem.W.noTabs (K w.params)=true)
  (F: ∀ (w:World) (mg:Str->Option Value) (fa c Pt:Addr) (h:Heap),(K w.params).In h->h.Ns mainGlobals mg->mg d.name=some (.ref fa)->vi h mg "reckoned" c Pt->
   ∃ fd:FuncData,(∀ (s:Shared) (u:Value),BindsTo s fd ⟨[u],[]⟩ [("script",u)])/\ ∀ base:Heap,(K w.params).In base->base.Ns mainGlobals mg->PySem.W.CodeHd base c Pt->base.BuiltinsAt mg Pt->FnOk l.prog w (K w.params) mg base CX0 79 fa fd ["script"] (qf (K w.params) Pt)):
  PySem.W.WalkO q loose XP YP l.row.toRowW d [] (fun f vs=>PySem.call f vs):=
 L2.walk_ofT (n:=63) (k:=79) (x:="script") (nm:="reckoned") (sp:=fun w Pt=>qf (K w.params) Pt) hn (by decide) hdf ⟨rfl,by decide,by decide⟩ hY hrec hKt F (fun _ Pt H a ns hl hP hS=>⟨a,ns,rfl,hS,hl,.inl hP,fun _=>rfl⟩)
end My
open PySem PySem.W PyProof.Rows
set_option maxRecDepth 100000 in
set_option maxHeartbeats 0 in
theorem PySem.Challenge.cw_boughworth_k61_rows_of_trees_holds : PySem.Challenge.rw_boughworth_k61_rows_of_trees.Holds := by
 refine My.parts.c My.parts.a0 My.parts.a1 My.parts.e0 My.parts.e1 My.parts.b0 My.parts.b1 ?_
 delta My.parts
 dsimp only
 k_fill
 refine My.walk (l:=PySem.Challenge.rw_boughworth_k61_rows_of_trees) rfl rfl (fun w h Y=>PySem.W.km_in_of Y) ?R ?T ?F
 case R=>exact ⟨_,List.mem_of_getElem? (i:=12) rfl,rfl⟩
 case T=>exact fun w=>rfl
 case F=>
  intro w mg fa cS Pt h KX G hmg hTb
  refine' My.all_mk KX G hmg hTb ?d1 ?d2 ?d3 ?d4 ?d5 ?d6 ?d7 ?d8 ?d9 ?d10 ?d11 ?d12 ?d13 ?d14 ?d15 ?d16 ?d17 ?d18 ?d19 ?d20 ?d21 ?d22 ?d23 ?d24 ?d25 ?d26 ?d27 ?d28 ?d29 ?d30 ?d31 ?d32 ?d33 ?d34 ?d35 ?d36 ?d37 ?d38 ?d39 ?d40 ?d41 ?d42 ?d43 ?d44 ?d45 ?d46 ?d47 ?z1 ?z2 ?z3 ?z4 ?z5 ?z6 ?z7 ?z8 ?z9 ?z10 ?z11 ?z12 ?z13 ?z14 ?z15 ?aI ?lD ?e1 ?e2 ?e3 ?e4 ?e5 ?e6 ?nD ?aQ ?lR
  (case d1=>exact My.Df.of (by k_is) (by k_is) (by k_is) (by k_is))
  (case d2=>exact My.Df.of (by k_is) (by k_is) (by k_is) (by k_is))
  (case d3=>exact My.Df.of (by k_is) (by k_is) (by k_is) (by k_is))
  (case d4=>exact My.Df.of (by k_is) (by k_is) (by k_is) (by k_is))
  (case d5=>exact My.Df.of (by k_is) (by k_is) (by k_is) (by k_is))
  (case d6=>exact My.Df.of (by k_is) (by k_is) (by k_is) (by k_is))
  (case d7=>exact My.Df.of (by k_is) (by k_is) (by k_is) (by k_is))
  (case d8=>exact My.Df.of (by k_is) (by k_is) (by k_is) (by k_is))
  (case d9=>exact My.Df.of (by k_is) (by k_is) (by k_is) (by k_is))
  (case d10=>exact My.Df.of (by k_is) (by k_is) (by k_is) (by k_is))
  (case d11=>exact My.Df.of (by k_is) (by k_is) (by k_is) (by k_is))
  (case d12=>exact My.Df.of (by k_is) (by k_is) (by k_is) (by k_is))
  (case d13=>exact My.Df.of (by k_is) (by k_is) (by k_is) (by k_is))
  (case d14=>exact My.Df.of (by k_is) (by k_is) (by k_is) (by k_is))
  (case d15=>exact My.Df.of (by k_is) (by k_is) (by k_is) (by k_is))
  (case d16=>exact My.Df.of (by k_is) (by k_is) (by k_is) (by k_is))
  (case d17=>exact My.Df.of (by k_is) (by k_is) (by k_is) (by k_is))
  (case d18=>exact My.Df.of (by k_is) (by k_is) (by k_is) (by k_is))
  (case d19=>exact My.Df.of (by k_is) (by k_is) (by k_is) (by k_is))
  (case d20=>exact My.Df.of (by k_is) (by k_is) (by k_is) (by k_is))
  (case d21=>exact My.Df.of (by k_is) (by k_is) (by k_is) (by k_is))
  (case d22=>exact My.Df.of (by k_is) (by k_is) (by k_is) (by k_is))
  (case d23=>exact My.Df.of (by k_is) (by k_is) (by k_is) (by k_is))
  (case d24=>exact My.Df.of (by k_is) (by k_is) (by k_is) (by k_is))
  (case d25=>exact My.Df.of (by k_is) (by k_is) (by k_is) (by k_is))
  (case d26=>exact My.Df.of (by k_is) (by k_is) (by k_is) (by k_is))
  (case d27=>exact My.Df.of (by k_is) (by k_is) (by k_is) (by k_is))
  (case d28=>exact My.Df.of (by k_is) (by k_is) (by k_is) (by k_is))
  (case d29=>exact My.Df.of (by k_is) (by k_is) (by k_is) (by k_is))
  (case d30=>exact My.Df.of (by k_is) (by k_is) (by k_is) (by k_is))
  (case d31=>exact My.Df.of (by k_is) (by k_is) (by k_is) (by k_is))
  (case d32=>exact My.Df.of (by k_is) (by k_is) (by k_is) (by k_is))
  (case d33=>exact My.Df.of (by k_is) (by k_is) (by k_is) (by k_is))
  (case d34=>exact My.Df.of (by k_is) (by k_is) (by k_is) (by k_is))
  (case d35=>exact My.Df.of (by k_is) (by k_is) (by k_is) (by k_is))
  (case d36=>exact My.Df.of (by k_is) (by k_is) (by k_is) (by k_is))
  (case d37=>exact My.Df.of (by k_is) (by k_is) (by k_is) (by k_is))
  (case d38=>exact My.Df.of (by k_is) (by k_is) (by k_is) (by k_is))
  (case d39=>exact My.Df.of (by k_is) (by k_is) (by k_is) (by k_is))
  (case d40=>exact My.Df.of (by k_is) (by k_is) (by k_is) (by k_is))
  (case d41=>exact My.Df.of (by k_is) (by k_is) (by k_is) (by k_is))
  (case d42=>exact My.Df.of (by k_is) (by k_is) (by k_is) (by k_is))
  (case d43=>exact My.Df.of (by k_is) (by k_is) (by k_is) (by k_is))
  (case d44=>exact My.Df.of (by k_is) (by k_is) (by k_is) (by k_is))
  (case d45=>exact My.Df.of (by k_is) (by k_is) (by k_is) (by k_is))
  (case d46=>exact My.Df.of (by k_is) (by k_is) (by k_is) (by k_is))
  (case d47=>exact My.Df.of (by k_is) (by k_is) (by k_is) (by k_is))
  (case z1=>k_is)
  (case z2=>k_is)
  (case z3=>k_is)
  (case z4=>k_is)
  (case z5=>k_is)
  (case z6=>k_is)
  (case z7=>k_is)
  (case z8=>k_is)
  (case z9=>k_is)
  (case z10=>k_is)
  (case z11=>k_is)
  (case z12=>k_is)
  (case z13=>k_is)
  (case z14=>k_is)
  (case z15=>k_is)
  (case aI=>k_is)
  (case lD=>k_is)
  (case e1=>first | rfl | k_is)
  (case e2=>first | rfl | k_is)
  (case e3=>first | rfl | k_is)
  (case e4=>first | rfl | k_is)
  (case e5=>first | rfl | k_is)
  (case e6=>first | rfl | k_is)
  (case nD=>first | rfl | decide | k_is)
  (case aQ=>k_is)
  (case lR=>k_is)
