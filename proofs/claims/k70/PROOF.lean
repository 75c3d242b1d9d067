import PyProof.Rows.All
import Wide.All
import OpenK.AllK
import Wide.FinOn
import Lean
import PyProof.EqAt
import PyProof.EqKinds
import PyProof.TupleCall
import PyProof.TupleKey
import PyProof.DictKeyH
import PyProof.SumWalk
import KE.KDictList
import PyProof.NeKinds
import PyProof.Draws
import PyProof.ZipIter
import PyProof.ListMulRoad
import KE.RegKIsAll
import OpenK.KOwn
import PyProof.EnumMake
import PyProof.Rows.StrNews
import Flt.Sum
import PyProof.FitsBits
import PyProof.DictTable
import KE.KItemsList
import PyProof.StrCalls6
import PyProof.ToksMono
import PyProof.StrLawsReplace
import PyProof.StrLawsJoin
import PyProof.Rows.StrSplitJoin
import PyProof.DictValues
import PyProof.DictWalks
import KE.KRevIter
import PyProof.DictItems
import KE.KPairComp
import PySem.SetOps
import PyProof.SetKind
import PyProof.InstSpecial
import KE.KSortKey
import PyProof.Rows.SortStr
import PyProof.AutoListH
import KE.KEqDict
import KE.KDictOf
import PyProof.MeetsDictList
import PyProof.MinMaxWalk
import PyProof.SeqI3
import PyProof.WalkInts
import PySem.Challenge.RW_boughworth_k70_priced_or_not
set_option Elab.async false
set_option linter.all false
set_option bootstrap.genMatcherCode false
set_option compiler.extract_closed false
set_option genSizeOfSpec false
set_option maxRecDepth 100000
set_option maxHeartbeats 4000000
namespace My
open PySem PySem.W PySem.Calls PyProof.Rows
theorem with_hl {P R Q:Prop} (hl:P) (hc:R) (main:Q):Q:=main
structure Parts (Q:Prop):Type where
 {P1:Prop}
 {P2:Prop}
 {P3:Prop}
 {P4:Prop}
 {P5:Prop}
 {P6:Prop}
 {W:Prop}
 a0:P1
 a1:P2
 e0:P3
 e1:P4
 b0:P5
 b1:P6
 c:P1->P2->P3->P4->P5->P6->W->Q
noncomputable def wO (_:Params):Obj:={cls:=Value.type "tuple",data:=Data.seq #[]}
noncomputable def wN (_:Params):Obj:={cls:=Value.none,data:=Data.fields #[]}
noncomputable def wM (_:Params):Obj:={cls:=Value.type "code",data:=Data.fields #[Value.str (Str.ofString "<module>") 182,Value.str (Str.ofString "<module>") 183,Value.str (Str.ofString "/claim/cut.py") 184,Value.int 1 0,Value.int 0 0,Value.int 0 0,Value.int 0 0,Value.int 0 0,Value.ref 11,Value.bool false,Value.int 181 0,Value.ref 12,Value.none,Value.none,Value.none,Value.none,Value.int 185 0,Value.int 1 0,Value.str (Str.ofString "/claim/cut.py") 186]}
noncomputable def wL (_:Params):Obj:={cls:=Value.type "frame",slots:= #[some (Value.ref 13),some (Value.ref 3),some (Value.ref 3),none,some (Value.str (Str.ofString "__main__") 164),none,some (Value.ref 0)]}
noncomputable def vM (P:Params):BT:=(BT.node (boot_o_0 P) (BT.node (boot_o_1 P) (BT.node (boot_o_3 P) (BT.node (boot_o_7 P) BT.nil BT.nil) (BT.node (wO P) BT.nil BT.nil)) (BT.node (boot_o_5 P) (BT.node (boot_o_9 P) BT.nil BT.nil) (BT.node (wM P) BT.nil BT.nil))) (BT.node (boot_o_2 P) (BT.node (boot_o_4 P) (BT.node (boot_o_8 P) BT.nil BT.nil) (BT.node (wN P) BT.nil BT.nil)) (BT.node (boot_o_6 P) (BT.node (boot_o_10 P) BT.nil BT.nil) (BT.node (wL P) BT.nil BT.nil))))
noncomputable def uU (p:Program):Env:={scope:=p.main.scope,locals:=mainNs,globals:=mainNs,cells:=[],code:=.ref 13,frame:=some 14}
noncomputable abbrev hC (p:Program):Code:=.body (behindTheImports p) (uU p)
noncomputable def hSt (w:World) (os:OsState):SharedT:=⟨vM w.params,15,{},#[],{},187,os⟩
abbrev ku:Pos:=⟨0,0,0,0⟩
noncomputable abbrev vN (p:Program):Thread:=piecesOf (behindTheImports p) (uU p) (hC p) ku [topFrame ku]
noncomputable abbrev rA (p:Program) (n:Nat) (w:World) (os:OsState):Option (Flow×SharedT×Code×Pos):=PySem.W.Fast.tw10110043849684766642 PySem.W.Fast.tw14364793385576792824 p w 11 (some (.ref 6)) 1 n (hSt w os) (vN p)
theorem wP {p:Program} {w:World} {n₀:Nat} {ann:Option Value} (s:Shared) (c:Code) (pos:Pos):topRun treeTable p w n₀ ann 2 s ⟨doneF .next,c,pos,[topFrame ku]⟩=some s:=by
 obtain ⟨h,g,d,t,o⟩:=s
 kernel_rfl
theorem vO (P:Params):((boot_heap P).isNs mainGlobals&&(#[]:Array GenState).size==0,(boot_heap P).objs.size,(boot_heap P).nsMap mainGlobals "__annotations__")=(true,11,some (.ref 6)):=by kernel_rfl
theorem left_of {p q:Program} {loose:List Str} {Xt:Shared->Bool} {α:Type} {Yf:Shared->α} {Ya:World->α} {N n:Nat} {g0:Bool} {posE:Pos}
  (e:opening p=plainProg p.main.scope.names) (hN:Nat.ble 600 N=true) (f: ∀ s,fenceModules? p s=some s) (le:Nat.ble (12+ (1+ (n+2))) N=true)
  (pre: ∀ (w:World) (os:OsState),topGo treeTable p w 11 (some (.ref 6)) 12 ⟨boot_heap w.params,#[],boot_drawn,boot_toks,os⟩ (topStub p)=some ((hSt w os).abs,⟨denote treeTable (hC p),hC p,ku,[topFrame ku]⟩))
  (block: ∀ (w:World) (os:OsState),segRun treeTable p w 11 (some (.ref 6)) 1 1 (hSt w os).abs (blockOf (behindTheImports p) (uU p) (hC p) ku [topFrame ku])=some (.next,(hSt w os).abs,hC p,ku))
  (runA: ∀ (w:World) (os:OsState),(rA p n w os).map (fun r=>(r.1,r.2.2,(staticsOk (importedModules p.main.body) (boot_heap w.params) r.2.1.abs.heap&&namesBound p r.2.1.abs.heap&&gensDone r.2.1.abs&&laidKept (boot_heap w.params) r.2.1.abs.heap),(openSeen q loose (importedModules p.main.body) Xt g0 r.2.1.abs).1,Yf r.2.1.abs))=some (.next,(hC p,posE),true,(openGood q loose).1,Ya w))
  (runE: ∀ (w:World) (os:OsState),(rA p n w os).map (fun r=>((openSeen q loose (importedModules p.main.body) Xt g0 r.2.1.abs).2.1,(openSeen q loose (importedModules p.main.body) Xt g0 r.2.1.abs).2.2.1))=some ((openGood q loose).2.1,(openGood q loose).2.2.1))
  (runB: ∀ (w:World) (os:OsState),(rA p n w os).map (fun r=>(openSeen q loose (importedModules p.main.body) Xt g0 r.2.1.abs).2.2.2)=some (openGood q loose).2.2.2):LeftO p q loose Xt Yf Ya N g0:=by
 intro w
 obtain ⟨⟨h,gs,d,k,os⟩,e1,e'⟩:=Option.map_eq_some_iff.mp (boot_open e hN f w)
 obtain ⟨rfl,rfl,rfl,rfl⟩:h=boot_heap w.params/\gs= #[]/\d=boot_drawn/\k=boot_toks:=by simpa using e'
 obtain ⟨z1,z2,z3⟩:_/\_/\_:=by simpa only [Prod.mk.injEq]using vO w.params
 have E:segRunT treeTable p w 11 (some (.ref 6)) 1 n (hSt w os) (vN p)=rA p n w os:=by
  unfold rA
  rw [<- PySem.W.Fast.te10110043849684766642,<- PySem.W.Fast.te14364793385576792824]
 have A:=runA w os
 have B:=runB w os
 have E2:=runE w os
 obtain ⟨⟨fl,x,c,pos⟩,r1,r2⟩:=Option.map_eq_some_iff.mp A
 simp only [Prod.mk.injEq]at r2
 obtain ⟨rfl,⟨rfl,rfl⟩,l1,l2a,yb⟩:=r2
 have l2e:((openSeen q loose (importedModules p.main.body) Xt g0 x.abs).2.1,(openSeen q loose (importedModules p.main.body) Xt g0 x.abs).2.2.1)=((openGood q loose).2.1,(openGood q loose).2.2.1):=by rw [r1]at E2;exact Option.some.inj E2
 have l2d:(openSeen q loose (importedModules p.main.body) Xt g0 x.abs).2.2.2=(openGood q loose).2.2.2:=by rw [r1]at B;exact Option.some.inj B
 have l2:openSeen q loose (importedModules p.main.body) Xt g0 x.abs=openGood q loose:=Prod.ext l2a (Prod.ext (Prod.mk.inj l2e).1 (Prod.ext (Prod.mk.inj l2e).2 l2d))
 have s1:=segRun_of (E.trans r1)
 have t1:=piece_app (rest:=[]) s1 (piece_nil (wP x.abs _ _))
 rw [List.append_nil]at t1
 have t3:=go_top (pre w os) (piece_block (block w os) t1)
 have r:=topRun_mono (N- (12+ (1+ (n+2)))) _ _ _ _ t3
 rw [show 12+ (1+ (n+2)) + (N- (12+ (1+ (n+2))))=N by have:=Nat.le_of_ble_eq_true le;omega]at r
 have t:topFrom treeTable p w N ⟨boot_heap w.params,#[],boot_drawn,boot_toks,os⟩=some x.abs:=by
  unfold topFrom
  dsimp only
  rw [z1,z2,z3,r]
  show (match staticsOk _ _ _&&namesBound _ _&&gensDone _&&laidKept _ _ with | true=>_ | false=>_)=_
  rw [l1]
 unfold openEnds
 rw [e1]
 change Option.map _ (topFrom treeTable p w N _)=_
 rw [t]
 exact congrArg some (Prod.ext l2 yb)
end My
open PySem PySem.W PyProof.Rows in
set_option maxHeartbeats 0 in
noncomputable def My.parts:My.Parts PySem.Challenge.rw_boughworth_k70_priced_or_not.Holds:=by
 apply My.Parts.mk
 case c=>
  intro ha0 ha1 he0 he1 hb0 hb1 hW
  w_on;o_law
  apply My.with_hl
  case main=>
   k_head;(case hw=>w_witness2)
  case hc=>exact hW
  case hl=>
   refine My.left_of (n:=1500) (posE:=⟨260,0,270,36⟩) ?e ?hN ?f ?le ?pre ?block (byRow2 "special-get-raises" ha0 ha1) (byRow2 "special-get-raises" he0 he1) (byRow2 "special-get-raises" hb0 hb1)
   case e=>kernel_rfl
   case hN=>decide
   case f=>intro s;kernel_rfl
   case le=>decide
   case pre=>(intro w os;kernel_rfl)
   case block=>(intro w os;kernel_rfl)
 case a0=>(intro w os;kernel_rfl)
 case a1=>(intro w os;kernel_rfl)
 case e0=>(intro w os;kernel_rfl)
 case e1=>(intro w os;kernel_rfl)
 case b0=>(intro w os;kernel_rfl)
 case b1=>(intro w os;kernel_rfl)
namespace PySem
section
variable {prog:Program} {w:World} {K K2:Type} [DecidableEq K] [DecidableEq K2] {knd:KeyKind prog w K} {kn2:KeyKind prog w K2}
noncomputable def IsPairKey (knd:KeyKind prog w K) (kn2:KeyKind prog w K2) (h:Heap) (p:List K×K2) (a:Addr):Prop:=
 ∃ o items n b v,h.get? a=some o/\o.cls=.type "tuple"/\o.data=.seq items n/\items.toList=[.ref b,v]/\IsTupleKey knd h p.1 b/\kn2.is p.2 v=true
noncomputable def gS (knd:KeyKind prog w K) (kn2:KeyKind prog w K2) (p:List K×K2):Int:=reduceHash (Builtin.Tuple.tupleHashOf [tupleKeyHash knd p.1,kn2.hash p.2])
variable {A:Around} {E:Value->Shared->Prop} {s:Shared}
theorem IsPairKey.typeIs {p:List K×K2} {a:Addr} (x:IsPairKey knd kn2 s.heap p a):s.TypeIs (.ref a) "tuple":=by
 obtain ⟨o,_,_,_,_,e,c,_⟩:=x
 exact ⟨o,e,c⟩
theorem IsPairKey.inj {h:Heap} {p q:List K×K2} {a:Addr} (x:IsPairKey knd kn2 h p a) (y:IsPairKey knd kn2 h q a):p=q:=by
 obtain ⟨o,i,n,b,v,e,_,d,t,k,m⟩:=x
 obtain ⟨o',i',n',b',v',e',_,d',t',k',m'⟩:=y
 rw [e]at e';cases e'
 rw [d]at d';cases d'
 rw [t]at t'
 have h1:b=b'/\v=v':=by simpa using t'
 obtain ⟨rfl,rfl⟩:=h1
 exact Prod.ext (k.inj k') (kn2.inj _ _ _ m m')
theorem IsPairKey.keeps {h h':Heap} {p:List K×K2} {a d:Addr} {o:Obj} {es ep} (x:IsPairKey knd kn2 h p a) (ho:h.get? d=some o) (hd:o.data=.dict es ep) (hs:Heap.SameBut d h h'):IsPairKey knd kn2 h' p a:=by
 obtain ⟨o',i,n,b,v,e,c,dt,t,k,m⟩:=x
 refine ⟨o',i,n,b,v,?_,c,dt,t,k.keeps ho hd hs,m⟩
 have ne:a≠d:=fun z=>by
  subst z
  rw [ho]at e;cases e
  rw [hd]at dt;cases dt
 rw [<- e]
 exact hs.2 a ne
theorem eE {p:List K×K2} {a:Addr} {Q:Int->Shared->Prop} (hu:A.units+8<cLine) (hk:IsPairKey knd kn2 s.heap p a) (h:Q (gS knd kn2 p) {s with toks:=s.toks+ (p.1.length+1+1+1)}):
  wpAny (model prog w) A (pyHash (.ref a)) Q E s:=by
 have hT:=hk.typeIs
 obtain ⟨o,items,n,b,v,ho,_,hd,hi,hb,hv⟩:=hk
 unfold pyHash
 first | unfold pyHashByItsType | skip
 first | refine wpAny_bind (wpAny_cRoomFor_or (.inr (by lia)) ?_) | skip
 refine wpAny_bind (wpAny_specialOf hT F.slot_tuple_hash.lookup ?_)
 show wpAny _ _ (if (some (Value.builtin "tuple.__hash__")==some Value.none)=true then _ else _) Q E s
 rw [if_neg (by rw [beq_builtin_none];exact Bool.false_ne_true)]
 refine wpAny_bind (wpAny_specialOf hT F.slot_tuple_hash.lookup ?_)
 show wpAny _ _ (callSpecialIfBoundUnlessNone? (.ref a) "__hash__" _ >>= _) Q E s
 refine wpAny_bind (wpAny_callSpecialIfBoundUnlessNone?_slot hT F.slot_tuple_hash (wpAny_call_entry F.slot_tuple_hash hT F.entry_tuple_hash ?_ (F.args_tuple_hash_1 _)))
 show wpAny _ _ (Builtin.Tuple.tupleItemsOf (.ref a) >>= _) _ _ s
 refine wpAny_bind (wpAny_tupleItemsOf ho hd ?_)
 refine wpAny_bind ?_
 rw [<- Array.forIn_toList,hi,List.forIn_cons]
 refine wpAny_bind (wpAny_bind (wpAny_pyHash_tuple (by show _<cLine;simp;lia) hb ?_))
 refine wpAny_pure ?_
 show wpAny _ _ (forIn [v] #[tupleKeyHash knd p.1] _) _ _ _
 rw [List.forIn_cons]
 refine wpAny_bind (wpAny_bind (kn2.pyHash hv ?_))
 refine wpAny_pure ?_
 show wpAny _ _ (forIn [] _ _) _ _ _
 rw [List.forIn_nil]
 refine wpAny_pure ?_
 show wpAny _ _ (retInt (Builtin.Tuple.tupleHashOf [tupleKeyHash knd p.1,kn2.hash p.2])) _ _ _
 refine wpAny_ret_mkInt ?_
 generalize hz:Builtin.Tuple.tupleHashOf [tupleKeyHash knd p.1,kn2.hash p.2]=z
 show wpAny _ _ (if (decide (-(2:Int) ^63<=z)&&decide (z<2^63))=true then _ else _) Q E _
 unfold gS reduceHash at h
 rw [hz]at h
 by_cases hr:(decide (-(2:Int) ^63<=z)&&decide (z<2^63))=true
 ·rw [if_pos hr]
  rw [if_pos hr]at h
  exact wpAny_pure (by simpa [Nat.add_assoc]using h)
 ·rw [if_neg hr]
  rw [if_neg hr]at h
  exact wpAny_bind (wpAny_rule (wpAny_pure (by simpa [Nat.add_assoc]using h)))
theorem j4 (m:Nat) {ks:List K} {a:Addr} {Q:Bool->Shared->Prop} (hk:IsTupleKey knd s.heap ks a) (h:Q true s):wpAny (model prog w) A (eqIsQuiet (m+1) (.ref a)) Q E s:=by
 have hT:=hk.typeIs
 obtain ⟨o,items,n,ho,_,hd,hi⟩:=hk
 unfold eqIsQuiet
 refine wpAny_bind (wpAny_specialOf hT F.slot_tuple_eq.lookup ?_)
 show wpAny _ _ (isInstance (.ref a) (.type "tuple") >>= _) _ _ s
 refine wpAny_bind (wpAny_isInstance hT isSubtype_tuple_tuple ?_)
 simp only [Bool.not_true,Bool.false_eq_true,if_false]
 refine wpAny_bind (wpAny_seqItems ho hd (wpAny_bind ?_))
 show wpAny _ _ (forIn items _ _) _ _ s
 rw [<- Array.forIn_toList]
 refine wpAny_forIn_list _ (fun rest r s'=>r.1=none/\s'=s/\ ∀ v∈rest,carriedByValue v=true) _ ?_ ?_ _ _ ⟨rfl,rfl,hi.byValue⟩
 ·rintro v rest r s' ⟨hr,rfl,hall⟩
  rw [eqIsQuiet_byValue _ (hall v List.mem_cons_self)]
  refine wpAny_bind (wpAny_pure ?_)
  simp only [Bool.not_true,Bool.false_eq_true,if_false]
  exact wpAny_pure ⟨rfl,rfl,fun u hu'=>hall u (List.mem_cons_of_mem _ hu')⟩
 ·rintro ⟨r1,r2⟩ s' ⟨hr,rfl,_⟩
  simp only at hr
  subst hr
  exact wpAny_pure h
theorem dy {p:List K×K2} {a:Addr} {Q:Bool->Shared->Prop} (hk:IsPairKey knd kn2 s.heap p a) (h:Q true s):wpAny (model prog w) A (eqIsQuiet 8 (.ref a)) Q E s:=by
 have hT:=hk.typeIs
 obtain ⟨o,items,n,b,v,ho,_,hd,hi,hb,hv⟩:=hk
 unfold eqIsQuiet
 refine wpAny_bind (wpAny_specialOf hT F.slot_tuple_eq.lookup ?_)
 show wpAny _ _ (isInstance (.ref a) (.type "tuple") >>= _) _ _ s
 refine wpAny_bind (wpAny_isInstance hT isSubtype_tuple_tuple ?_)
 simp only [Bool.not_true,Bool.false_eq_true,if_false]
 refine wpAny_bind (wpAny_seqItems ho hd ?_)
 refine wpAny_bind ?_
 show wpAny _ _ (forIn items _ _) _ _ s
 rw [<- Array.forIn_toList,hi,List.forIn_cons]
 refine wpAny_bind (wpAny_bind (j4 6 hb ?_))
 simp only [Bool.not_true,Bool.false_eq_true,if_false]
 refine wpAny_pure ?_
 show wpAny _ _ (forIn [v] (none,()) _) _ _ _
 rw [List.forIn_cons,eqIsQuiet_byValue _ (kn2.byValue _ _ hv)]
 refine wpAny_bind (wpAny_bind (wpAny_pure ?_))
 simp only [Bool.not_true,Bool.false_eq_true,if_false]
 refine wpAny_pure ?_
 show wpAny _ _ (forIn [] _ _) _ _ _
 rw [List.forIn_nil]
 exact wpAny_pure (wpAny_pure h)
theorem jr {p q:List K×K2} {a b:Addr} {R:Fin->Shared->Prop} (hu:A.units+4<cLine) (hx:IsPairKey knd kn2 s.heap p a) (hy:IsPairKey knd kn2 s.heap q b) (h:R (.done (.ret (.bool (decide (p=q))))) s):
  wpAny (model prog w) A (Builtin.«tuple.__eq__» ⟨[.ref a,.ref b],[]⟩) R E s:=by
 have hTb:=hy.typeIs
 obtain ⟨oa,xs,na,a1,v1,hoa,_,hda,hia,hka,hva⟩:=hx
 obtain ⟨ob,ys,nb,b1,v2,hob,_,hdb,hib,hkb,hvb⟩:=hy
 show wpAny _ _ (isInstance (.ref b) (.type "tuple") >>= _) _ _ s
 refine wpAny_bind (wpAny_isInstance hTb isSubtype_tuple_tuple ?_)
 simp only [Bool.not_true,Bool.false_eq_true,if_false]
 refine wpAny_bind (wpAny_tupleItemsOf hoa hda (wpAny_bind (wpAny_tupleItemsOf hob hdb (wpAny_bind ?_))))
 have hs:xs.size=ys.size:=by rw [<- Array.length_toList,<- Array.length_toList,hia,hib];rfl
 rw [hia,hib]
 show wpAny _ _ (forIn [(Value.ref a1,Value.ref b1),(v1,v2)] (none,()) _) _ _ _
 rw [List.forIn_cons]
 refine wpAny_bind (wpAny_bind (wpAny_eqBool_tuple (by lia) hka hkb ?_))
 by_cases h1:p.1=q.1
 ·rw [decide_eq_true h1]
  simp only [Bool.not_true,Bool.false_eq_true,if_false]
  refine wpAny_pure ?_
  show wpAny _ _ (forIn [(v1,v2)] (none,()) _) _ _ _
  rw [List.forIn_cons]
  refine wpAny_bind (wpAny_bind (kn2.eqBool (a:=p.2) (b:=q.2) hva hvb ?_))
  by_cases h2:p.2=q.2
  ·rw [decide_eq_true h2]
   simp only [Bool.not_true,Bool.false_eq_true,if_false]
   refine wpAny_pure ?_
   show wpAny _ _ (forIn [] _ _) _ _ _
   rw [List.forIn_nil]
   rw [decide_eq_true (Prod.ext h1 h2)]at h
   refine wpAny_pure (wpAny_pure ?_)
   show R (.done (.ret (.bool (xs.size==ys.size)))) s
   rw [hs,beq_self_eq_true]
   exact h
  ·rw [decide_eq_false h2]
   simp only [Bool.not_false,if_true]
   rw [decide_eq_false fun e=>h2 (congrArg Prod.snd e)]at h
   exact wpAny_bind (wpAny_pure (wpAny_pure (wpAny_pure (wpAny_pure h))))
 ·rw [decide_eq_false h1]
  simp only [Bool.not_false,if_true]
  rw [decide_eq_false fun e=>h1 (congrArg Prod.fst e)]at h
  exact wpAny_bind (wpAny_pure (wpAny_pure (wpAny_pure (wpAny_pure h))))
theorem eF {p q:List K×K2} {a b:Addr} {Q:Bool->Shared->Prop} (hu:A.units+8<cLine) (hx:IsPairKey knd kn2 s.heap p a) (hy:IsPairKey knd kn2 s.heap q b) (h:Q (decide (p=q)) s):
  wpAny (model prog w) A (eqBool (.ref a) (.ref b)) Q E s:=by
 unfold eqBool
 try with_reducible refine wpAny_holding ?_
 show wpAny _ _ (if (Value.ref a==Value.ref b)=true then _ else _) Q E s
 by_cases hab:(Value.ref a==Value.ref b)=true
 ·rw [if_pos hab]
  have e:a=b:=by have:=eq_of_beq hab;injection this
  subst e
  obtain rfl:=hx.inj hy
  exact wpAny_bind (wpAny_rule (wpAny_pure (by simpa using h)))
 ·rw [if_neg hab]
  exact wpAny_bind (wpAny_richCompare_same_room (op:=.Eq) hx.typeIs hy.typeIs F.slot_tuple_eq
   (wpAny_call_entry F.slot_tuple_eq hx.typeIs F.entry_tuple_eq (jr (by simp;lia) hx hy ⟨_,rfl,(fun e=>nomatch e),wpAny_truthy_bool h⟩) (F.args_tuple_eq_2 _ _)) (by lia))
end
noncomputable def dG {prog:Program} {w:World} {K K2:Type} [DecidableEq K] [DecidableEq K2] (knd:KeyKind prog w K) (kn2:KeyKind prog w K2):HeapKind prog w (List K×K2) where
 is:=IsPairKey knd kn2
 hash:=gS knd kn2
 draws:=fun p=>p.1.length+1+1+1
 room:=fun A=>A.units+8<cLine
 inj:=fun hx hy=>hx.inj hy
 keeps:=fun x ho hd hs=>x.keeps ho hd hs
 pyHash:=fun hu hk h=>eE hu hk h
 eqBool:=fun hu hx hy h=>eF hu hx hy h
 quiet:=fun hk h=>dy hk h
end PySem
namespace L2
open PySem PySem.Spec PyProof.Rows
noncomputable abbrev Key:=Sum Int Str
noncomputable def gX:Key->Value->Bool
 | .inl k,v=>Value.isInt k v
 | .inr x,v=>Value.isStrOf x v
noncomputable def wJ (w:World):Key->Int
 | .inl k=>hashInt k
 | .inr x=>hashStr w x
theorem be: ∀ {k:Key} {v:Value},gX k v=true->(∃ i t,k=Sum.inl i/\v=Value.int i t)\/(∃ x t,k=Sum.inr x/\v=Value.str x t)
 | .inl i,v,h=>by
  obtain ⟨t,e⟩:=Value.isInt_shape (k:=i) (v:=v) h
  exact .inl ⟨i,t,rfl,e⟩
 | .inr x,v,h=>by
  obtain ⟨t,e⟩:=Value.isStrOf_shape (x:=x) (v:=v) h
  exact .inr ⟨x,t,rfl,e⟩
theorem oZ (i:Int) (t:Tok):gX (.inl i) (.int i t)=true:=by simp [gX,Value.isInt]
theorem bf (x:Str) (t:Tok):gX (.inr x) (.str x t)=true:=by simp [gX,Value.isStrOf]
theorem uR (a b:Int):decide ((Sum.inl a:Key)=Sum.inl b)=(a==b):=by
 by_cases e:a=b
 ·subst e;simp
 ·have h: ¬ (Sum.inl a:Key)=Sum.inl b:=fun q=>e (Sum.inl.inj q)
  rw [decide_eq_false h]
  exact (beq_eq_false_iff_ne.mpr e).symm
theorem uO (a b:Str):decide ((Sum.inr a:Key)=Sum.inr b)=decide (a=b):=by
 by_cases e:a=b
 ·subst e;simp
 ·have h: ¬ (Sum.inr a:Key)=Sum.inr b:=fun q=>e (Sum.inr.inj q)
  rw [decide_eq_false h,decide_eq_false e]
theorem uQ (a:Int) (b:Str):decide ((Sum.inl a:Key)=Sum.inr b)=false:=decide_eq_false (fun q=>nomatch q)
theorem uP (a:Str) (b:Int):decide ((Sum.inr a:Key)=Sum.inl b)=false:=decide_eq_false (fun q=>nomatch q)
noncomputable def az (prog:Program) (w:World):PySem.KeyKind prog w Key where
 is:=gX
 hash:=wJ w
 inj:=fun v a b ha hb=>by
  rcases be ha with ⟨i,t,rfl,rfl⟩ | ⟨x,t,rfl,rfl⟩
  ·rcases be hb with ⟨j,u,rfl,e⟩ | ⟨y,u,rfl,e⟩
   ·injection e with e1 _;rw [e1]
   ·exact nomatch e
  ·rcases be hb with ⟨j,u,rfl,e⟩ | ⟨y,u,rfl,e⟩
   ·exact nomatch e
   ·injection e with e1 _;rw [e1]
 byValue:=fun k v h=>by
  rcases be h with ⟨i,t,rfl,rfl⟩ | ⟨x,t,rfl,rfl⟩ <;> rfl
 pyHash:=fun hv h=>by
  rcases be hv with ⟨i,t,rfl,rfl⟩ | ⟨x,t,rfl,rfl⟩
  ·exact wpAny_pyHash_int h
  ·exact wpAny_pyHash_str h
 eqBool:=fun hu hv h=>by
  rcases be hu with ⟨i,t,rfl,rfl⟩ | ⟨x,t,rfl,rfl⟩
  ·rcases be hv with ⟨j,u,rfl,rfl⟩ | ⟨y,u,rfl,rfl⟩
   ·rw [uR]at h;exact wpAny_eqBool_int h
   ·rw [uQ]at h;exact SeqAt.EqAt.int_str i t y u _ _ _ _ h
  ·rcases be hv with ⟨j,u,rfl,rfl⟩ | ⟨y,u,rfl,rfl⟩
   ·rw [uP]at h;exact SeqAt.EqAt.str_int x t j u _ _ _ _ h
   ·rw [uO]at h;exact wpAny_eqBool_str h
 «strs» :=fun k x t v h=>by
  rcases be h with ⟨i,u,rfl,e⟩ | ⟨y,u,rfl,e⟩
  ·exact nomatch e
  ·injection e with e1 _
   subst e1
   cases v <;> rfl
theorem gV (prog:Program) (w:World) (k:Key) (v:Value):(az prog w).is k v=gX k v:=rfl
theorem kj (prog:Program) (w:World) (i:Int) (t:Tok):(az prog w).is (.inl i) (.int i t)=true:=oZ i t
theorem fK (prog:Program) (w:World) (x:Str) (t:Tok):(az prog w).is (.inr x) (.str x t)=true:=bf x t
inductive V where
 | non | bl (b:Bool) | int (i:Int) | str (x:Str) | byt (b:Array UInt8) | flt (b:UInt64) | ref (a:Addr) | ty (n:String)
 deriving DecidableEq
noncomputable def RelV:V->Value->Prop
 | .non,u=>u=Value.none
 | .bl b,u=>u=Value.bool b
 | .int i,u=> ∃ t,u=Value.int i t
 | .str x,u=> ∃ t,u=Value.str x t
 | .byt b,u=> ∃ t,u=Value.bytes b t
 | .flt b,u=> ∃ t,u=Value.float b t
 | .ref a,u=>u=Value.ref a
 | .ty n,u=>u=Value.type n
noncomputable abbrev Vals:List V->List Value->Prop:=Paired RelV
theorem Vals.length {xs:List V} {us:List Value} (r:Vals xs us):xs.length=us.length:=Paired.length r
theorem Vals.get: ∀ {xs:List V} {us:List Value} {i:Nat} {x:V},Vals xs us->xs[i]? =some x-> ∃ u,us[i]? =some u/\RelV x u
 | _,_,_,_,.nil,e=>by simp at e
 | _,_,0,_,.cons r _,e=>by simp at e;subst e;exact ⟨_,rfl,r⟩
 | _,_,i+1,x,.cons _ t,e=>by
  obtain ⟨u,h1,h2⟩:=Vals.get (i:=i) (x:=x) t (by simpa using e)
  exact ⟨u,by simpa using h1,h2⟩
theorem Vals.set {x:V} {u:Value} (r:RelV x u): ∀ {xs:List V} {us:List Value} (i:Nat),Vals xs us->Vals (xs.set i x) (us.set i u)
 | _,_,_,.nil=>.nil
 | _,_,0,.cons _ t=>.cons r t
 | _,_,i+1,.cons q t=>.cons q (Vals.set r i t)
theorem Vals.append: ∀ {xs ys:List V} {us ws:List Value},Vals xs us->Vals ys ws->Vals (xs++ys) (us++ws)
 | _,_,_,_,.nil,s=>s
 | _,_,_,_,.cons r t,s=>.cons r (Vals.append t s)
theorem Vals.take: ∀ {xs:List V} {us:List Value} (n:Nat),Vals xs us->Vals (xs.take n) (us.take n)
 | _,_,0,_=>.nil
 | _,_,_+1,.nil=>.nil
 | _,_,n+1,.cons r t=>.cons r (Vals.take n t)
theorem Vals.drop: ∀ {xs:List V} {us:List Value} (n:Nat),Vals xs us->Vals (xs.drop n) (us.drop n)
 | _,_,0,r=>r
 | _,_,_+1,.nil=>.nil
 | _,_,n+1,.cons _ t=>Vals.drop n t
theorem Vals.none_of: ∀ {xs:List V} {us:List Value} {i:Nat},Vals xs us->xs[i]? =none->us[i]? =none:=fun {xs us i} r e=>by
 have h1:=r.length
 have h2:xs.length<=i:=List.getElem?_eq_none_iff.mp e
 exact List.getElem?_eq_none_iff.mpr (by lia)
noncomputable def RelO:Option V->Option Value->Prop
 | some v,some u=>RelV v u
 | none,none=>True
 | _,_=>False
noncomputable def KV {κ:Type}:List (κ×V)->List (κ×Value)->Prop:=Paired fun (p:κ×V) (q:κ×Value)=>p.1=q.1/\RelV p.2 q.2
noncomputable def kV:Key->V
 | .inl i=>.int i
 | .inr x=>.str x
inductive HO where
 /-- a list -/
 | lst (xs:List V)
 /-- a tuple (never changes) -/
 | tup (xs:List V)
 /-- a dict whose keys are ints and texts; one whose keys are tuples of ints and texts (the empty one is both) -/
 | dK (kvs:List (Key×V)) | dT (kvs:List (List Key×V)) | dP (kvs:List ((List Key×Key)×V))
 /-- a set of ints: its members, its size -/
 | set (S:Int->Bool) (n:Nat)
 /-- an instance of the class at C, its dict at dx, its attributes -/
 | ins (C dx:Addr) (fs:List (Str×V))
 /-- the dict of the instance at x -/
 | own (x:Addr)
 /-- the dict of an exception -/
 | xd (fs:List (Str×V))
 /-- a bound method, f of x -/
 | met (f x:Addr)
 /-- a range object lo, lo + 1, .. below hi -/
 | rng (lo hi:Int)
 /-- a thing that is known to the object (the script; a dict while a loop walks it): read, never written while it is so -/
 | frz (o:Obj) (u:HO)
 /-- a code object's table -/
 | tbl (ps:Array Value)
 /-- any other thing, by what is true of its one object (a def of one's own: rZ a S n := HO.ext fun h => ..) -/
 | ext (φ:Heap->Prop)
noncomputable abbrev Hp:=Addr->Option HO
noncomputable def upd (H:Hp) (a:Addr) (o:HO):Hp:=fun b=>if b=a then some o else H b
theorem ab {H:Hp} {a:Addr} {o:HO}:upd H a o a=some o:=by unfold upd;rw [if_pos rfl]
theorem ai {H:Hp} {a b:Addr} {o:HO} (h:b≠a):upd H a o b=H b:=by unfold upd;rw [if_neg h]
theorem de {H:Hp} {a:Addr} {o u:HO}:upd (upd H a o) a u=upd H a u:=by
 funext b;unfold upd;split <;> rfl
theorem ud {H:Hp} {a b:Addr} {o u:HO} (h:H a=some o) (h':H b=some u) (d:o≠u):a≠b:=by
 intro e;subst e;rw [h]at h';exact d (Option.some.inj h')
theorem ah {H:Hp} {a b:Addr} {o:HO} (h:H a=some o) (h':H b=none):a≠b:=by
 intro e;subst e;rw [h]at h';cases h'
section
variable (P:Program) (w:World)
noncomputable def ObjOk (H:Hp) (h:Heap) (a:Addr):HO->Prop
 | .lst xs=>xs.length<=sizeLine/\ ∃ (its:List Value) (n:Nat),Vals xs its/\h.get? a=some {cls:=.type "list",data:=.seq its.toArray n}
 | .tup xs=>xs.length<=sizeLine/\ ∃ its:List Value,Vals xs its/\IsTup h a its.toArray
 | .dK kvs=>kvs.length<=sizeLine/\(a==sysModules)=false/\ ∃ vs,KV kvs vs/\h.DictOf (az P w) a vs
 | .dT kvs=>kvs.length<=sizeLine/\(a==sysModules)=false/\ ∃ xs:List (List Key×Addr×Value),
   Paired (fun (p:List Key×V) (q:List Key×Addr×Value)=>p.1=q.1/\H q.2.1=some (.tup (p.1.map kV))/\RelV p.2 q.2.2) kvs xs/\
   ∃ o es ep,h.get? a=some o/\o.ExactDict/\o.data=.dict es ep/\es.toList=xs.map (entryOfKey (tupleKind (az P w)))/\(xs.map (·.1)).Nodup
 | .dP kvs=>kvs.length<=sizeLine/\(a==sysModules)=false/\ ∃ xs:List ((List Key×Key)×Addr×Value),
   Paired (fun (p:(List Key×Key)×V) (q:(List Key×Key)×Addr×Value)=>p.1=q.1/\(∃ b,H q.2.1=some (.tup [.ref b,kV p.1.2])/\H b=some (.tup (p.1.1.map kV)))/\RelV p.2 q.2.2) kvs xs/\
   ∃ o es ep,h.get? a=some o/\o.ExactDict/\o.data=.dict es ep/\es.toList=xs.map (entryOfKey (dG (az P w) (az P w)))/\(xs.map (·.1)).Nodup
 | .set S n=>h.SetOf (intKind P w) a S n
 | .ins C dx fs=>H dx=some (.own a)/\fs.length<=1000/\dx≠a/\h.get? a=some (PySem.W.instObj C dx)/\
   ∃ mA,h.Ns1 dx mA/\(∀ f,RelO (fs.lookup f) (mA f))/\PySem.Within mA (fs.map (·.1))
 | .own _=> ∃ o,h.get? a=some o
 | .xd fs=> ∃ mA,h.Ns1 a mA/\ ∀ f,RelO (fs.lookup f) (mA f)
 | .rng lo hi=> ∃ t u v,h.get? a=some {cls:=.type "range",data:=.fields #[.int lo t,.int hi u,.int 1 v]}
 | .frz o u=>h.get? a=some o/\ObjOk H h a u
 | .tbl ps=>h.get? a=some {cls:=.none,data:=.fields ps}
 | .met f x=>h.get? a=some (PySem.W.methodObj (.ref f) (.ref x))
 | .ext φ=>φ h/\(∃ o,h.get? a=some o)/\ ∀ h1 h2:Heap,φ h1->(∀ o,h1.get? a=some o->h2.get? a=some o)->φ h2
noncomputable def HOk (H:Hp) (h:Heap):Prop:= ∀ a o,H a=some o->ObjOk P w H h a o
end
section
variable {P:Program} {w:World} {H H':Hp} {h h':Heap} {a:Addr} {o:HO}
theorem ObjOk.lt (x:ObjOk P w H h a o):a<h.objs.size:=by
 cases o with
 | lst xs=>obtain ⟨_,_,_,_,e⟩:=x;exact Heap.lt_size e
 | tup xs=>obtain ⟨_,_,_,p⟩:=x;exact p.lt
 | dK kvs=>obtain ⟨_,_,_,_,o,_,_,e,_⟩:=x;exact Heap.lt_size e
 | dT kvs=>obtain ⟨_,_,_,_,o,_,_,e,_⟩:=x;exact Heap.lt_size e
 | dP kvs=>obtain ⟨_,_,_,_,o,_,_,e,_⟩:=x;exact Heap.lt_size e
 | set S n=>obtain ⟨o,_,_,_,e,_⟩:=x;exact Heap.lt_size e
 | ins C dx fs=>obtain ⟨_,_,_,e,_⟩:=x;exact Heap.lt_size e
 | own y=>obtain ⟨_,e⟩:=x;exact Heap.lt_size e
 | xd fs=>obtain ⟨_,⟨_,_,_,e,_⟩,_⟩:=x;exact Heap.lt_size e
 | rng lo hi=>obtain ⟨_,_,_,e⟩:=x;exact Heap.lt_size e
 | frz ob u=>obtain ⟨e,_⟩:=x;exact Heap.lt_size e
 | tbl ps=>exact Heap.lt_size (show h.get? a=some _ from x)
 | met f y=>exact Heap.lt_size (show h.get? a=some _ from x)
 | ext φ=>obtain ⟨_,⟨_,e⟩,_⟩:=x;exact Heap.lt_size e
theorem Paired.mapP {α β:Type} {F G:α->β->Prop}: ∀ {l₁:List α} {l₂:List β},Paired F l₁ l₂->(∀ a b,F a b->G a b)->Paired G l₁ l₂
 | _,_,.nil,_=>.nil
 | _,_,.cons r t,f=>.cons (f _ _ r) (Paired.mapP t f)
theorem ObjOk.stay (x:ObjOk P w H h a o) (k: ∀ b u,(b=a\/H b=some (.own a))->h.get? b=some u->h'.get? b=some u)
  (ho: ∀ b,H b=some (.own a)->H' b=some (.own a)) (ht: ∀ b xs,H b=some (.tup xs)->H' b=some (.tup xs)):ObjOk P w H' h' a o:=by
 induction o with
 | lst xs=>obtain ⟨z,its,n,r,e⟩:=x;exact ⟨z,its,n,r,k _ _ (.inl rfl) e⟩
 | tup xs=>obtain ⟨z,its,r,ob,e,c⟩:=x;exact ⟨z,its,r,ob,k _ _ (.inl rfl) e,c⟩
 | dK kvs=>obtain ⟨z,y,vs,r,ob,es,ep,e,c⟩:=x;exact ⟨z,y,vs,r,ob,es,ep,k _ _ (.inl rfl) e,c⟩
 | dT kvs=>
  obtain ⟨z,y,xs,r,ob,es,ep,e,c⟩:=x
  exact ⟨z,y,xs,Paired.mapP r fun p q z=>⟨z.1,ht _ _ z.2.1,z.2.2⟩,ob,es,ep,k _ _ (.inl rfl) e,c⟩
 | dP kvs=>
  obtain ⟨z,y,xs,r,ob,es,ep,e,c⟩:=x
  exact ⟨z,y,xs,Paired.mapP r fun p q z=>⟨z.1,let ⟨b,e1,e2⟩:=z.2.1;⟨b,ht _ _ e1,ht _ _ e2⟩,z.2.2⟩,ob,es,ep,k _ _ (.inl rfl) e,c⟩
 | set S n=>obtain ⟨ob,es,ep,t,e,c⟩:=x;exact ⟨ob,es,ep,t,k _ _ (.inl rfl) e,c⟩
 | ins C dx fs=>
  obtain ⟨d,z,ne,e,mA,⟨od,es,ep,e2,c⟩,r⟩:=x
  exact ⟨ho _ d,z,ne,k _ _ (.inl rfl) e,mA,⟨od,es,ep,k _ _ (.inr d) e2,c⟩,r⟩
 | own y=>obtain ⟨ob,e⟩:=x;exact ⟨ob,k _ _ (.inl rfl) e⟩
 | xd fs=>obtain ⟨mA,⟨od,es,ep,e,c⟩,r⟩:=x;exact ⟨mA,⟨od,es,ep,k _ _ (.inl rfl) e,c⟩,r⟩
 | rng lo hi=>obtain ⟨t,u,v,e⟩:=x;exact ⟨t,u,v,k _ _ (.inl rfl) e⟩
 | frz ob u ih=>obtain ⟨e,q⟩:=x;exact ⟨k _ _ (.inl rfl) e,ih q⟩
 | tbl ps=>
  have e:h.get? a=some {cls:=.none,data:=.fields ps}:=x
  show h'.get? a=some {cls:=.none,data:=.fields ps}
  exact k a _ (.inl rfl) e
 | met f y=>
  have e:h.get? a=some (PySem.W.methodObj (.ref f) (.ref y)):=x
  show h'.get? a=some (PySem.W.methodObj (.ref f) (.ref y))
  exact k a _ (.inl rfl) e
 | ext φ=>obtain ⟨p,⟨o,e⟩,st⟩:=x;exact ⟨st _ _ p fun o q=>k _ _ (.inl rfl) q,⟨o,k _ _ (.inl rfl) e⟩,st⟩
theorem HOk.lt (x:HOk P w H h) (e:H a=some o):a<h.objs.size:=(x a o e).lt
theorem HOk.fresh (x:HOk P w H h) (e:h.objs.size<=a):H a=none:=by
 cases q:H a with
 | none=>rfl
 | some u=>exact absurd (Nat.lt_of_lt_of_le (x.lt q) e) (Nat.lt_irrefl _)
theorem HOk.kept (x:HOk P w H h) (k: ∀ b u,h.get? b=some u->h'.get? b=some u):HOk P w H h':=fun a o e=>
 (x a o e).stay (fun b u _ q=>k b u q) (fun _ q=>q) fun _ _ q=>q
theorem HOk.laid (x:HOk P w H h) (k: ∀ b u,h.get? b=some u->h'.get? b=some u) (hp:h.objs.size<=a) (new:ObjOk P w (upd H a o) h' a o):HOk P w (upd H a o) h':=fun b u e=>by
 have hn:=x.fresh hp
 by_cases hb:b=a
 ·subst hb;rw [ab]at e;cases e;exact new
 ·rw [ai hb]at e
  exact (x b u e).stay (fun c v _ q=>k c v q) (fun c q=>by rw [ai (ah q hn)];exact q) fun c xs q=>by rw [ai (ah q hn)];exact q
end
noncomputable def Rd (H:Hp) (a:Addr) (u:HO):Prop:=H a=some u\/ ∃ o,H a=some (.frz o u)
theorem Rd.ok {P:Program} {w:World} {H:Hp} {h:Heap} {a:Addr} {u:HO} (r:Rd H a u) (x:HOk P w H h):ObjOk P w H h a u:=by
 rcases r with r | ⟨o,r⟩
 ·exact x a u r
 ·obtain ⟨_,q⟩:=x a _ r
  exact q
noncomputable def Mut:Option HO->Prop
 | some (.lst _)=>True
 | some (.dK _)=>True
 | some (.dT _)=>True
 | some (.dP _)=>True
 | some (.set _ _)=>True
 | some (.ins _ _ _)=>True
 | some (.ext _)=>True
 | _=>False
section
variable {P:Program} {w:World} {H:Hp} {h h':Heap} {x e:Addr} {o':HO}
theorem HOk.write (ok:HOk P w H h) (mu:Mut (H x)) (he:e=x\/H e=some (.own x)) (k: ∀ b u,b≠e->h.get? b=some u->h'.get? b=some u) (heo: ∃ u,h'.get? e=some u)
  (new:ObjOk P w (upd H x o') h' x o'):HOk P w (upd H x o') h':=fun b u q=>by
 have nown: ∀ c y,H c=some (.own y)->c≠x:=fun c y r z=>by subst z;rw [r]at mu;exact mu
 have ntup: ∀ c xs,H c=some (.tup xs)->c≠x:=fun c xs r z=>by subst z;rw [r]at mu;exact mu
 by_cases hb:b=x
 ·subst hb;rw [ab]at q;cases q;exact new
 ·rw [ai hb]at q
  by_cases hbe:b=e
  ·have q':H b=some (.own x):=by
    rcases he with z | z
    ·exact absurd (hbe.trans z) hb
    ·rw [hbe];exact z
   rw [q]at q';cases q'
   obtain ⟨v,hv⟩:=heo
   exact ⟨v,by rw [hbe];exact hv⟩
  ·refine (ok b u q).stay (fun c v hc r=>k c v ?_ r) (fun c r=>by rw [ai (nown c b r)];exact r) fun c xs r=>by rw [ai (ntup c xs r)];exact r
   rcases hc with rfl | hc
   ·exact hbe
   ·rintro rfl
    rcases he with z | z
    ·exact nown c b hc z
    ·rw [hc]at z;cases z;exact hb rfl
end
structure Un (fs ex:List Addr) (H H':Hp) (h h':Heap):Prop where
 keep: ∀ b o,h.get? b=some o->H b=none->b∉fs->b∉ex->h'.get? b=some o
 slot: ∀ b o,h.get? b=some o->H b=none->b∈fs->b∉ex-> ∃ sl,h'.get? b=some {o with slots:=sl}
 free: ∀ b o,h.get? b=some o->H b=none->b∉ex->H' b=none
 there: ∀ b o,h.get? b=some o->b∉ex-> ∃ o',h'.get? b=some o'
 tups: ∀ b xs,H b=some (.tup xs)->H' b=some (.tup xs)
 frzs: ∀ b o u,H b=some (.frz o u)->H' b=some (.frz o u)
 tbls: ∀ b ps,H b=some (.tbl ps)-> ∃ more,H' b=some (.tbl (ps++more))
section
variable {fs fs' ex ex':List Addr} {H H1 H2:Hp} {h h1 h2 h':Heap} {a x e:Addr} {o:HO}
theorem Un.any (u:Un fs ex H H1 h h1) {b:Addr} {ob:Obj} (q:h.get? b=some ob) (n:H b=none) (hx:b∉ex): ∃ sl,h1.get? b=some {ob with slots:=sl}:=by
 by_cases hb:b∈fs
 ·exact u.slot b ob q n hb hx
 ·exact ⟨ob.slots,u.keep b ob q n hb hx⟩
theorem Un.kept (k: ∀ b u,h.get? b=some u->h'.get? b=some u):Un fs ex H H h h':=
 ⟨fun b ob q _ _ _=>k b ob q,fun b ob q _ _ _=>⟨ob.slots,k b ob q⟩,fun _ _ _ n _=>n,fun b ob q _=>⟨ob,k b ob q⟩,fun _ _ q=>q,fun _ _ _ q=>q,fun _ ps q=>⟨#[],by rw [q];simp⟩⟩
theorem Un.refl:Un fs ex H H h h:=Un.kept fun _ _ q=>q
theorem Un.laid (k: ∀ b u,h.get? b=some u->h'.get? b=some u) (hp:h.objs.size<=a) (hn:H a=none):Un fs ex H (upd H a o) h h' where
 keep:=fun b u q _ _ _=>k b u q
 slot:=fun b u q _ _ _=>⟨u.slots,k b u q⟩
 free:=fun b u q n _=>by rw [ai (Nat.ne_of_lt (Nat.lt_of_lt_of_le (Heap.lt_size q) hp))];exact n
 there:=fun b u q _=>⟨u,k b u q⟩
 tups:=fun b xs q=>by rw [ai (ah q hn)];exact q
 frzs:=fun b u xs q=>by rw [ai (ah q hn)];exact q
 tbls:=fun b ps q=>⟨#[],by rw [ai (ah q hn),q];simp⟩
theorem Un.write (mu:Mut (H x)) (he:e=x\/H e=some (.own x)) (k: ∀ b u,b≠e->h.get? b=some u->h'.get? b=some u) (heo: ∃ u,h'.get? e=some u):Un fs ex H (upd H x o) h h':=by
 have hx: ∀ b,H b=none->b≠x:=fun b n z=>by subst z;rw [n]at mu;exact mu
 have hb: ∀ b,H b=none->b≠e:=fun b n z=>by
  subst z
  rcases he with r | r
  ·exact hx b n r
  ·rw [n]at r;cases r
 have hm: ∀ b u,H b=some u-> ¬ Mut (some u)->b≠x:=fun b u q nm z=>by subst z;rw [q]at mu;exact nm mu
 refine ⟨fun b u q n _ _=>k b u (hb b n) q,fun b u q n _ _=>⟨u.slots,k b u (hb b n) q⟩,fun b u q n _=>by rw [ai (hx b n)];exact n,fun b u q _=>?_,
  fun b xs q=>by rw [ai (hm b _ q fun z=>z)];exact q,fun b u xs q=>by rw [ai (hm b _ q fun z=>z)];exact q,fun b ps q=>⟨#[],by rw [ai (hm b _ q fun z=>z),q];simp⟩⟩
 by_cases hbe:b=e
 ·subst hbe;exact heo
 ·exact ⟨u,k b u hbe q⟩
end
noncomputable def trk (h:Heap) (H:Hp):List Addr:=(List.range h.objs.size).filter fun a=>(H a).isSome
noncomputable def jw (h:Heap) (H:Hp):Heap:=PySem.W.hideAll h (trk h H)
theorem pj (h:Heap) (H:Hp):(jw h H).objs.size=h.objs.size:=PySem.W.hideAll_size _ _
theorem rz {h:Heap} {H:Hp} {b:Addr} {o:Obj} (e:h.get? b=some o) (n:H b=none):(jw h H).get? b=some o:=
 PySem.W.hideAll_get _ e fun hm=>by
  have q:(H b).isSome=true:=(List.mem_filter.mp hm).2
  rw [n]at q;simp at q
theorem sW {h:Heap} {H:Hp} {b:Addr} {o:Obj} (e:(jw h H).get? b=some o):h.get? b=some o/\H b=none:=by
 have e':h.get? b=some o:=PySem.W.of_hideAll (trk h H) e
 refine ⟨e',?_⟩
 cases q:H b with
 | none=>rfl
 | some x=>
  have hm:b∈trk h H:=List.mem_filter.mpr ⟨List.mem_range.mpr (Heap.lt_size e'),by simp [q]⟩
  have z:(jw h H).get? b=none:=PySem.W.hideAll_none (trk h H) hm
  rw [z]at e;cases e
structure Mod (K:PySem.W.Frag) (mg:Str->Option Value) (base:Heap):Prop where
 kin:K.In base
 glob:base.Ns mainGlobals mg
 blt: ∃ mb,base.Ns builtinsNs mb/\ ∀ x:Str,x≠"__name__"->mb x=bootBuiltins x
 nolimit:base.NoLimit
structure Cx where
 prog:Program
 w:World
 K:PySem.W.Frag
 mg:Str->Option Value
 base:Heap
 A:Around
 N:List Str
 s₀:Shared
 H₀:Hp
 env:Env
 outer:List Env
 stack:List Env
 ex:List Addr
 fn:Str->Bool
 calm:Bool
 pn:List (Addr×Obj)
 xe:Value->Shared->Prop
noncomputable def frs (l:List Env):List Addr:=l.filterMap (·.frame)
noncomputable abbrev Cx.fs (X:Cx):List Addr:=frs X.outer
noncomputable def Vis (sc:Scope) (x:Str):Prop:=sc.names.lookup x=some .local\/sc.names.lookup x=some .cell\/sc.names.lookup x=some .free
noncomputable def Loc (sc:Scope) (x:Str):Prop:=sc.names.lookup x=some .local\/sc.names.lookup x=some .cell
noncomputable def wW (env:Env) (h:Heap) (m:Str->Option Value) (x:Str) (u:Value):Prop:=
 (env.kindOf x=some .local/\m x=some u)\/((env.kindOf x=some .cell\/env.kindOf x=some .free)/\ ∃ c,env.cells.lookup x=some c/\h.IsCell c (some u))
structure Cx.Ok (X:Cx):Prop where
 mod:Mod X.K X.mg X.base
 kind:X.env.scope.kind=.function
 glob:X.env.globals=mainGlobals
 blt:X.env.builtins=builtinsNs
 above:X.s₀.heap.objs.size<=X.env.locals
 inj: ∀ x y c,X.env.cells.lookup x=some c->X.env.cells.lookup y=some c->x=y
 has: ∀ x,(X.env.kindOf x=some .cell\/X.env.kindOf x=some .free)-> ∃ c,X.env.cells.lookup x=some c
 cab: ∀ x c,X.fn x=true->X.env.cells.lookup x=some c->X.s₀.heap.objs.size<=c
 hd:X.calm=true->X.A.handled=none
 frames:X.A.frames=some X.stack
 stk:X.stack=X.outer\/(X.stack=X.env::X.outer/\X.env.frame=some X.env.locals)
 exf: ∀ b∈X.ex,b≠X.env.locals/\ ∀ x c,X.env.cells.lookup x=some c->c≠b
 bs: ∀ b o,X.base.get? b=some o->X.s₀.heap.get? b=some o/\X.H₀ b=none
 bsz:X.base.objs.size<=X.s₀.heap.objs.size
 noex: ∀ b o,X.base.get? b=some o->b∉X.ex
 exfs: ∀ b∈X.ex,b∉X.fs
 funs:X.s₀.heap.FunFrames X.base X.outer
 frf: ∀ b∈X.fs,X.H₀ b=none
structure Inv (X:Cx) (pins:List (Addr×Obj)) (σ:List (Option V)) (H:Hp) (s:Shared):Prop where
 ok:X.Ok
 os:s.os=X.s₀.os
 bare:AllBare s.gens
 base:Un X.fs X.ex X.H₀ H X.s₀.heap s.heap
 loc: ∃ m,s.heap.Ns X.env.locals m/\ ∀ (i:Nat) (x:Str) (v:V),X.N[i]? =some x->σ[i]? =some (some v)->Vis X.env.scope x-> ∃ u,RelV v u/\wW X.env s.heap m x u
 cell: ∀ x c,X.env.cells.lookup x=some c-> ∃ v,s.heap.IsCell c v
 free:H X.env.locals=none
 freeC: ∀ x c,X.env.cells.lookup x=some c->H c=none
 pin: ∀ p∈X.pn++pins,s.heap.get? p.1=some p.2/\H p.1=none/\p.1≠X.env.locals/\p.1∉X.fs/\ ∀ v,p.2.data≠ .cell v
 hok:HOk X.prog X.w H s.heap
 len:σ.length=X.N.length
section
variable {X:Cx} {pins:List (Addr×Obj)} {σ:List (Option V)} {H H':Hp} {s:Shared} {h':Heap}
theorem Cx.Ok.nofr (ok:X.Ok) {b:Addr} {o:Obj} (e:X.base.get? b=some o):b∉X.fs:=fun hb=>by
 have:=(ok.funs.mem hb).1
 rw [e]at this;cases this
theorem Inv.bs (I:Inv X pins σ H s): ∀ b o,X.base.get? b=some o->s.heap.get? b=some o/\H b=none:=fun b o e=>
 ⟨I.base.keep b o (I.ok.bs b o e).1 (I.ok.bs b o e).2 (I.ok.nofr e) (I.ok.noex b o e),I.base.free b o (I.ok.bs b o e).1 (I.ok.bs b o e).2 (I.ok.noex b o e)⟩
theorem Inv.bk (I:Inv X pins σ H s): ∀ b o,X.base.get? b=some o->s.heap.get? b=some o:=fun b o e=>(I.bs b o e).1
theorem Inv.mod (I:Inv X pins σ H s):Mod X.K X.mg X.base:=I.ok.mod
theorem Inv.kIn (I:Inv X pins σ H s):X.K.In s.heap:=I.ok.mod.kin.keeps I.bk
theorem Inv.lt (I:Inv X pins σ H s):X.env.locals<s.heap.objs.size:=let ⟨_,hn,_⟩:=I.loc;hn.lt
theorem Inv.sz (I:Inv X pins σ H s):X.s₀.heap.objs.size<=s.heap.objs.size:=Nat.le_trans I.ok.above (Nat.le_of_lt I.lt)
theorem Inv.nofs (I:Inv X pins σ H s) {a:Addr} (h:s.heap.objs.size<=a):a∉X.fs:=fun hb=>by
 obtain ⟨_,o,ho,_⟩:=I.ok.funs.mem hb
 exact absurd (Nat.lt_of_lt_of_le (Heap.lt_size ho) (Nat.le_trans I.sz h)) (Nat.lt_irrefl _)
theorem Inv.cne (I:Inv X pins σ H s): ∀ x c,X.env.cells.lookup x=some c->c≠X.env.locals:=fun x c e z=>by
 obtain ⟨v,o,ho,hd⟩:=I.cell x c e
 obtain ⟨m,⟨o',es,ep,ho',hd',_⟩,_⟩:=I.loc
 rw [z,ho']at ho;cases ho;rw [hd']at hd;cases hd
theorem Inv.funs (I:Inv X pins σ H s):s.heap.FunFrames X.base X.outer:=by
 have all: ∀ (l:List Env),(∀ b∈frs l,b∈X.fs)->X.s₀.heap.FunFrames X.base l->s.heap.FunFrames X.base l:=by
  intro l
  induction l with
  | nil=>intro _ _;trivial
  | cons env r ih=>
   intro hs hl
   obtain ⟨hk,⟨L,o,hf,hn,ho,hd⟩,hr⟩:=hl
   have hL:L∈X.fs:=hs L (by unfold frs;rw [List.filterMap_cons,hf];exact List.mem_cons_self)
   obtain ⟨sl,e⟩:=I.base.slot L o ho (I.ok.frf L hL) hL fun z=>I.ok.exfs L z hL
   exact ⟨hk,⟨L,_,hf,hn,e,hd⟩,ih (fun b hb=>hs b (by unfold frs;rw [List.filterMap_cons,hf];exact List.mem_cons_of_mem _ hb)) hr⟩
 exact all X.outer (fun _ hb=>hb) I.ok.funs
theorem Inv.stack (I:Inv X pins σ H s):s.heap.FunFrames X.base X.stack:=by
 rcases I.ok.stk with e | ⟨e,hf⟩
 ·rw [e];exact I.funs
 ·rw [e]
  obtain ⟨m,hn,_⟩:=I.loc
  refine .cons (by rw [I.ok.kind];decide) hf hn ?_ I.funs
  exact Heap.get?_none_of_le (Nat.le_trans I.ok.bsz I.ok.above)
theorem Inv.stkSub (I:Inv X pins σ H s): ∀ b∈frs X.stack,b∈X.env.locals::X.fs:=fun b hb=>by
 rcases I.ok.stk with e | ⟨e,hf⟩
 ·rw [e]at hb;exact List.mem_cons_of_mem _ hb
 ·rw [e]at hb
  unfold frs at hb
  rw [List.filterMap_cons,hf]at hb
  exact hb
theorem Inv.stkFree (I:Inv X pins σ H s): ∀ b∈frs X.stack,H b=none:=fun b hb=>by
 rcases List.mem_cons.mp (I.stkSub b hb)with e | hb
 ·rw [e];exact I.free
 ·obtain ⟨_,o,ho,_⟩:=I.ok.funs.mem hb
  exact I.base.free b o ho (I.ok.frf b hb) fun z=>I.ok.exfs b z hb
theorem Inv.step {g':Array GenState} {t':Nat} {d':Drawn} {ch:List Addr} (I:Inv X pins σ H s)
  (hch: ∀ b∈ch,(b∈X.ex\/X.s₀.heap.objs.size<=b)/\b≠X.env.locals/\(∀ x c,X.env.cells.lookup x=some c->c≠b)/\ ∀ p∈X.pn++pins,p.1≠b)
  (keep: ∀ b o,b≠X.env.locals->b∉X.fs->b∉ch->s.heap.get? b=some o->H b=none->h'.get? b=some o)
  (slot: ∀ b o,b≠X.env.locals->b∈X.fs->b∉ch->s.heap.get? b=some o->H b=none-> ∃ sl,h'.get? b=some {o with slots:=sl}) (free: ∀ b o,b∉ch->s.heap.get? b=some o->H b=none->H' b=none)
  (there: ∀ b o,b∉ch->s.heap.get? b=some o-> ∃ o',h'.get? b=some o')
  (tups: ∀ b xs,H b=some (.tup xs)->H' b=some (.tup xs)) (frzs: ∀ b o u,H b=some (.frz o u)->H' b=some (.frz o u)) (tbls: ∀ b ps,H b=some (.tbl ps)-> ∃ more,H' b=some (.tbl (ps++more)))
  (ns: ∀ m,s.heap.Ns X.env.locals m->h'.Ns X.env.locals m) (hok:HOk X.prog X.w H' h') (hg:AllBare g'):
  Inv X pins σ H' {s with heap:=h',gens:=g',drawn:=d',toks:=t'}:=by
 have neL: ∀ b o,X.s₀.heap.get? b=some o->b≠X.env.locals:=fun b o e=>Nat.ne_of_lt (Nat.lt_of_lt_of_le (Heap.lt_size e) I.ok.above)
 have neC: ∀ b o,X.s₀.heap.get? b=some o->b∉X.ex->b∉ch:=fun b o e hx hb=>by
  rcases (hch b hb).1 with z | z
  ·exact hx z
  ·exact absurd (Nat.lt_of_lt_of_le (Heap.lt_size e) z) (Nat.lt_irrefl _)
 have cellK: ∀ x c,X.env.cells.lookup x=some c-> ∀ v,s.heap.IsCell c v->h'.IsCell c v:=fun x c e v ⟨o,ho,hd⟩=>by
  have nch:c∉ch:=fun z=>(hch c z).2.2.1 x c e rfl
  by_cases hc:c∈X.fs
  ·obtain ⟨sl,q⟩:=slot c o (I.cne x c e) hc nch ho (I.freeC x c e)
   exact ⟨_,q,hd⟩
  ·exact ⟨o,keep c o (I.cne x c e) hc nch ho (I.freeC x c e),hd⟩
 refine ⟨I.ok,I.os,hg,⟨fun b o e n hb hx=>?_,fun b o e n hb hx=>?_,fun b o e n hx=>?_,fun b o e hx=>?_,fun b xs e=>tups b xs (I.base.tups b xs e),fun b o xs e=>frzs b o xs (I.base.frzs b o xs e),fun b ps e=>?_⟩,?_,fun x c e=>?_,?_,fun x c e=>?_,fun p hp=>?_,hok,I.len⟩
 ·exact keep b o (neL b o e) hb (neC b o e hx) (I.base.keep b o e n hb hx) (I.base.free b o e n hx)
 ·obtain ⟨sl,e1⟩:=I.base.slot b o e n hb hx
  obtain ⟨sl',e2⟩:=slot b _ (neL b o e) hb (neC b o e hx) e1 (I.base.free b o e n hx)
  exact ⟨sl',e2⟩
 ·obtain ⟨o',e1⟩:=I.base.there b o e hx
  exact free b o' (neC b o e hx) e1 (I.base.free b o e n hx)
 ·obtain ⟨o',e1⟩:=I.base.there b o e hx
  exact there b o' (neC b o e hx) e1
 ·obtain ⟨m1,e1⟩:=I.base.tbls b ps e
  obtain ⟨m2,e2⟩:=tbls b _ e1
  exact ⟨m1++m2,by rw [e2,Array.append_assoc]⟩
 ·obtain ⟨m,hn,hl⟩:=I.loc
  refine ⟨m,ns m hn,fun i x v e1 e2 e3=>?_⟩
  obtain ⟨u,r,l⟩:=hl i x v e1 e2 e3
  refine ⟨u,r,?_⟩
  rcases l with l | ⟨k,c,e,z⟩
  ·exact .inl l
  ·exact .inr ⟨k,c,e,cellK x c e _ z⟩
 ·obtain ⟨v,z⟩:=I.cell x c e
  exact ⟨v,cellK x c e v z⟩
 ·obtain ⟨m,⟨o,_,_,ho,_⟩,_⟩:=I.loc
  exact free _ o (fun z=>(hch _ z).2.1 rfl) ho I.free
 ·obtain ⟨v,o,ho,hd⟩:=I.cell x c e
  exact free c o (fun z=>(hch c z).2.2.1 x c e rfl) ho (I.freeC x c e)
 ·obtain ⟨e,n,ne,nf,d⟩:=I.pin p hp
  have nch:p.1∉ch:=fun z=>(hch p.1 z).2.2.2 p hp rfl
  exact ⟨keep p.1 p.2 ne nf nch e n,free p.1 p.2 nch e n,ne,nf,d⟩
theorem Inv.un {t':Nat} (I:Inv X pins σ H s) (u:Un X.fs [] H H' s.heap h') (hok:HOk X.prog X.w H' h'):Inv X pins σ H' {s with heap:=h',toks:=t'}:=by
 obtain ⟨m,⟨o,es,ep,ho,r⟩,_⟩:=id I.loc
 obtain ⟨sl,hL⟩:=u.any ho I.free (by simp)
 exact I.step (g':=s.gens) (d':=s.drawn) (ch:=[]) (fun _ z=>nomatch z) (fun b o _ hb _ e n=>u.keep b o e n hb (by simp)) (fun b o _ hb _ e n=>u.slot b o e n hb (by simp)) (fun b o _ e n=>u.free b o e n (by simp)) (fun b o _ e=>u.there b o e (by simp)) u.tups u.frzs u.tbls (fun m' hm=>by
  obtain ⟨o',es',ep',ho',r'⟩:=hm
  rw [ho]at ho';cases ho'
  exact ⟨_,es',ep',hL,r'⟩) hok I.bare
theorem Inv.call {g':Array GenState} {t':Nat} {d':Drawn} {ch:List Addr} (I:Inv X pins σ H s) (u:Un (frs X.stack) ch H H' s.heap h') (hok:HOk X.prog X.w H' h') (hg:AllBare g')
  (hch: ∀ b∈ch,(b∈X.ex\/X.s₀.heap.objs.size<=b)/\b≠X.env.locals/\(∀ x c,X.env.cells.lookup x=some c->c≠b)/\ ∀ p∈X.pn++pins,p.1≠b):
  Inv X pins σ H' {s with heap:=h',gens:=g',drawn:=d',toks:=t'}:=by
 obtain ⟨m,⟨o,es,ep,ho,r⟩,_⟩:=id I.loc
 obtain ⟨sl,hL⟩:=u.any ho I.free fun z=>(hch _ z).2.1 rfl
 exact I.step (ch:=ch) hch (fun b o hL hb hc e n=>u.keep b o e n (fun z=>(List.mem_cons.mp (I.stkSub b z)).elim hL hb) hc) (fun b o _ _ hc e n=>u.any e n hc) (fun b o hc e n=>u.free b o e n hc) (fun b o hc e=>u.there b o e hc) u.tups u.frzs u.tbls (fun m' hm=>by
  obtain ⟨o',es',ep',ho',r'⟩:=hm
  rw [ho]at ho';cases ho'
  exact ⟨_,es',ep',hL,r'⟩) hok hg
theorem Inv.turned {t':Nat} {it:Addr} (I:Inv X pins σ H s) (k: ∀ b o,b≠it->s.heap.get? b=some o->h'.get? b=some o) (hn:H it=none) (hL:it≠X.env.locals)
  (h1:it∈X.ex\/X.s₀.heap.objs.size<=it) (h2: ∀ x c,X.env.cells.lookup x=some c->c≠it) (h3: ∀ p∈X.pn++pins,p.1≠it):Inv X pins σ H {s with heap:=h',toks:=t'}:=by
 have nit: ∀ b u,H b=some u->b≠it:=fun b u e z=>by rw [z,hn]at e;cases e
 refine I.step (g':=s.gens) (d':=s.drawn) (ch:=[it]) (fun b hb=>?_) (fun b o _ _ hc e _=>k b o (fun z=>hc (by simp [z])) e) (fun b o _ _ hc e _=>⟨o.slots,k b o (fun z=>hc (by simp [z])) e⟩) (fun _ _ _ _ n=>n)
  (fun b o hc e=>⟨o,k b o (fun z=>hc (by simp [z])) e⟩) (fun _ _ e=>e) (fun _ _ _ e=>e) (fun b ps e=>⟨#[],by rw [e];simp⟩) (fun m hm=>?_) (fun b u e=>?_) I.bare
 ·have e:b=it:=by simpa using hb
  subst e
  exact ⟨h1,hL,h2,h3⟩
 ·obtain ⟨o,es,ep,ho,r⟩:=hm
  exact ⟨o,es,ep,k _ o (Ne.symm hL) ho,r⟩
 ·refine (I.hok b u e).stay (fun c v hc q=>k c v ?_ q) (fun _ q=>q) fun _ _ q=>q
  rcases hc with z | z
  ·rw [z];exact nit b u e
  ·exact nit c _ z
theorem Inv.tok (I:Inv X pins σ H s) (t:Nat):Inv X pins σ H {s with toks:=t}:=I.un (h':=s.heap) (t':=t) Un.refl I.hok
theorem Inv.kept {t':Nat} (I:Inv X pins σ H s) (k: ∀ b u,s.heap.get? b=some u->h'.get? b=some u):Inv X pins σ H {s with heap:=h',toks:=t'}:=I.un (Un.kept k) (I.hok.kept k)
theorem Inv.laid {a:Addr} {o:HO} {t':Nat} (I:Inv X pins σ H s) (k: ∀ b u,s.heap.get? b=some u->h'.get? b=some u) (hp:s.heap.objs.size<=a) (new:ObjOk X.prog X.w (upd H a o) h' a o):
  Inv X pins σ (upd H a o) {s with heap:=h',toks:=t'}:=I.un (Un.laid k hp (I.hok.fresh hp)) (I.hok.laid k hp new)
theorem Inv.write {x e:Addr} {o:HO} {t':Nat} (I:Inv X pins σ H s) (mu:Mut (H x)) (he:e=x\/H e=some (.own x)) (k: ∀ b u,b≠e->s.heap.get? b=some u->h'.get? b=some u) (heo: ∃ u,h'.get? e=some u)
  (new:ObjOk X.prog X.w (upd H x o) h' x o):Inv X pins σ (upd H x o) {s with heap:=h',toks:=t'}:=I.un (Un.write mu he k heo) (I.hok.write mu he k heo new)
theorem Inv.pins_of {pins':List (Addr×Obj)} (I:Inv X pins σ H s) (h: ∀ p∈pins',s.heap.get? p.1=some p.2/\H p.1=none/\p.1≠X.env.locals/\p.1∉X.fs/\ ∀ v,p.2.data≠ .cell v):Inv X pins' σ H s:=
 ⟨I.ok,I.os,I.bare,I.base,I.loc,I.cell,I.free,I.freeC,fun p hp=>(List.mem_append.mp hp).elim (fun z=>I.pin p (List.mem_append_left _ z)) (h p),I.hok,I.len⟩
theorem kh {N:List Str} (hN:N.Nodup) {i j:Nat} {x:Str} (a:N[i]? =some x) (b:N[j]? =some x):i=j:=by
 obtain ⟨h1,e1⟩:=List.getElem?_eq_some_iff.mp a
 obtain ⟨h2,e2⟩:=List.getElem?_eq_some_iff.mp b
 exact (List.getElem_inj hN).mp (e1.trans e2.symm)
theorem fh {M:Model} {A:Around} {E:Value->Shared->Prop} {i:Nat} {x:Str} {v:V} {u:Value} {Q:Unit->Shared->Prop} (I:Inv X pins σ H s) (hN:X.N.Nodup) (hi:X.N[i]? =some x) (hx:Loc X.env.scope x) (r:RelV v u)
  (h: ∀ s',Inv X pins (σ.set i (some v)) H s'->(∃ a,Heap.SameBut a s.heap s'.heap/\(a=X.env.locals\/X.env.cells.lookup x=some a))->Q () s') (hf:X.fn x=true\/X.env.scope.names.lookup x=some .local:=by first | exact .inl rfl | exact .inr rfl | assumption):wpAny M A (storeName X.env x u) Q E s:=by
 obtain ⟨m,hn,hl⟩:=id I.loc
 have hcls:(X.env.scope.kind== .class||(X.env.scope.kind== .module&&X.env.locals !=X.env.globals))=false:=by rw [I.ok.kind];rfl
 have hiσ:i<σ.length:=by rw [I.len];exact (List.getElem?_eq_some_iff.mp hi).1
 have cne:=I.cne
 have tracked: ∀ {a:Addr} {h':Heap},(∃ o,s.heap.get? a=some o/\H a=none)->Heap.SameBut a s.heap h'->HOk X.prog X.w H h':=fun {a h'} ha hs b ob e=>by
  obtain ⟨_,_,hfree⟩:=ha
  refine (I.hok b ob e).stay (fun c w' hc q=>(hs.2 c ?_).trans q) (fun _ q=>q) fun _ _ q=>q
  rintro rfl
  rcases hc with rfl | hc
  ·rw [hfree]at e;cases e
  ·rw [hfree]at hc;cases hc
 rcases hx with hk | hk
 ·refine wpAny_storeName_local hk hn (fun h' hn' hs=>?_) hcls
  obtain ⟨oL,_,_,hoL,_⟩:=id hn
  refine h _ ⟨I.ok,I.os,I.bare,⟨fun b o e n hb hx=>?_,fun b o e n hb hx=>?_,I.base.free,fun b o e hx=>?_,I.base.tups,I.base.frzs,I.base.tbls⟩,⟨_,hn',fun j y v' e1 e2 e3=>?_⟩,fun y c e=>?_,I.free,I.freeC,fun p hp=>?_,tracked ⟨oL,hoL,I.free⟩ hs,by simpa using I.len⟩ ⟨_,hs,.inl rfl⟩
  ·exact (hs.2 b (Nat.ne_of_lt (Nat.lt_of_lt_of_le (Heap.lt_size e) I.ok.above))).trans (I.base.keep b o e n hb hx)
  ·obtain ⟨sl,e1⟩:=I.base.slot b o e n hb hx
   exact ⟨sl,(hs.2 b (Nat.ne_of_lt (Nat.lt_of_lt_of_le (Heap.lt_size e) I.ok.above))).trans e1⟩
  ·obtain ⟨o',e1⟩:=I.base.there b o e hx
   exact ⟨o',(hs.2 b (Nat.ne_of_lt (Nat.lt_of_lt_of_le (Heap.lt_size e) I.ok.above))).trans e1⟩
  ·by_cases hj:j=i
   ·subst hj
    rw [hi]at e1;cases e1
    rw [List.getElem?_set_self hiσ]at e2
    cases e2
    exact ⟨u,r,.inl ⟨hk,by simp⟩⟩
   ·rw [List.getElem?_set_ne (Ne.symm hj)]at e2
    obtain ⟨u',r',q⟩:=hl j y v' e1 e2 e3
    refine ⟨u',r',?_⟩
    rcases q with ⟨k,e⟩ | ⟨k,c,e,z⟩
    ·refine .inl ⟨k,?_⟩
     have:y≠x:=fun e=>hj (kh hN e1 (e▸hi))
     simp [this,e]
    ·exact .inr ⟨k,c,e,z.sameBut hs (cne y c e)⟩
  ·obtain ⟨w',z⟩:=I.cell y c e
   exact ⟨w',z.sameBut hs (cne y c e)⟩
  ·obtain ⟨e,n,ne,nf,d⟩:=I.pin p hp
   exact ⟨(hs.2 p.1 ne).trans e,n,ne,nf,d⟩
 ·have hfn:X.fn x=true:=by
   rcases hf with z | z
   ·exact z
   ·rw [z]at hk;cases hk
  obtain ⟨c,hc⟩:=I.ok.has x (.inl hk)
  obtain ⟨w',z⟩:=I.cell x c hc
  refine wpAny_storeName_cell I.ok.kind hk hc z (fun h' hc' hs=>?_)
  obtain ⟨oc,hoc,hocd⟩:=id z
  refine h {s with heap:=h'} ⟨I.ok,I.os,I.bare,⟨fun b o e n hb hx=>?_,fun b o e n hb hx=>?_,I.base.free,fun b o e hx=>?_,I.base.tups,I.base.frzs,I.base.tbls⟩,⟨m,hn.sameBut hs (Ne.symm (cne x c hc)),fun j y v' e1 e2 e3=>?_⟩,fun y c' e=>?_,I.free,I.freeC,fun p hp=>?_,tracked ⟨oc,hoc,I.freeC x c hc⟩ hs,by simpa using I.len⟩ ⟨c,hs,.inr hc⟩
  ·exact (hs.2 b (Nat.ne_of_lt (Nat.lt_of_lt_of_le (Heap.lt_size e) (I.ok.cab x c hfn hc)))).trans (I.base.keep b o e n hb hx)
  ·obtain ⟨sl,e1⟩:=I.base.slot b o e n hb hx
   exact ⟨sl,(hs.2 b (Nat.ne_of_lt (Nat.lt_of_lt_of_le (Heap.lt_size e) (I.ok.cab x c hfn hc)))).trans e1⟩
  ·obtain ⟨o',e1⟩:=I.base.there b o e hx
   exact ⟨o',(hs.2 b (Nat.ne_of_lt (Nat.lt_of_lt_of_le (Heap.lt_size e) (I.ok.cab x c hfn hc)))).trans e1⟩
  ·by_cases hj:j=i
   ·subst hj
    rw [hi]at e1;cases e1
    rw [List.getElem?_set_self hiσ]at e2
    cases e2
    exact ⟨u,r,.inr ⟨.inl hk,c,hc,hc'⟩⟩
   ·rw [List.getElem?_set_ne (Ne.symm hj)]at e2
    obtain ⟨u',r',q⟩:=hl j y v' e1 e2 e3
    refine ⟨u',r',?_⟩
    rcases q with q | ⟨k,c',e,z'⟩
    ·exact .inl q
    ·refine .inr ⟨k,c',e,z'.sameBut hs ?_⟩
     rintro rfl
     exact hj (kh hN e1 (I.ok.inj _ _ _ e hc▸hi))
  ·by_cases hcc:c'=c
   ·subst hcc;exact ⟨_,hc'⟩
   ·obtain ⟨w2,z2⟩:=I.cell y c' e
    exact ⟨w2,z2.sameBut hs hcc⟩
  ·obtain ⟨e,n,ne,nf,d⟩:=I.pin p hp
   refine ⟨(hs.2 p.1 ?_).trans e,n,ne,nf,d⟩
   intro q
   rw [q,hoc]at e
   have q':oc=p.2:=Option.some.inj e
   exact d w' (by rw [<- q'];exact hocd)
theorem jK {M:Model} {A:Around} {E:Value->Shared->Prop} {i:Nat} {x:Str} {v:V} {u:Value} {Q:Unit->Shared->Prop} (I:Inv X pins σ H s) (hN:X.N.Nodup) (hi:X.N[i]? =some x) (hx:Loc X.env.scope x) (r:RelV v u)
  (h: ∀ s',Inv X pins (σ.set i (some v)) H s'->Q () s') (hf:X.fn x=true\/X.env.scope.names.lookup x=some .local:=by first | exact .inl rfl | exact .inr rfl | assumption):wpAny M A (storeName X.env x u) Q E s:=
 fh I hN hi hx r (fun s' I' _=>h s' I') hf
theorem Inv.call' {s':Shared} {ch:List Addr} (I:Inv X pins σ H s) (ho:s'.os=s.os) (u:Un (frs X.stack) ch H H' s.heap s'.heap) (hok:HOk X.prog X.w H' s'.heap) (hg:AllBare s'.gens)
  (hch: ∀ b∈ch,(b∈X.ex\/X.s₀.heap.objs.size<=b)/\b≠X.env.locals/\(∀ x c,X.env.cells.lookup x=some c->c≠b)/\ ∀ p∈X.pn++pins,p.1≠b):Inv X pins σ H' s':=by
 obtain ⟨h',g',d',t',o'⟩:=s'
 have e:o'=s.os:=ho
 subst e
 exact I.call (g':=g') (t':=t') (d':=d') u hok hg hch
end
noncomputable abbrev XK:=Value->Option Addr->Hp->Prop
noncomputable abbrev St:=List (Option V)
noncomputable abbrev VK:=V->Hp->Prop
noncomputable abbrev TE:=St->Hp->VK->Prop
noncomputable abbrev TT:=St->Hp->(Bool->Hp->Prop)->Prop
noncomputable abbrev TA:=St->Hp->(List V->Hp->Prop)->Prop
structure cL where
 nx:St->Hp->Prop
 rt:VK
 bk:St->Hp->Prop:=fun _ _=>False
 ct:St->Hp->Prop:=fun _ _=>False
noncomputable abbrev TS:=cL->St->Hp->Prop
noncomputable def EP (X:Cx) (pins:List (Addr×Obj)) (σ:St) (Q:VK) (u:Value) (s':Shared):Prop:= ∃ v H',Inv X pins σ H' s'/\RelV v u/\Q v H'
noncomputable def TP (X:Cx) (pins:List (Addr×Obj)) (σ:St) (Q:Bool->Hp->Prop) (b:Bool) (s':Shared):Prop:= ∃ H',Inv X pins σ H' s'/\Q b H'
noncomputable def AP (X:Cx) (pins:List (Addr×Obj)) (σ:St) (Q:List V->Hp->Prop) (us:List Value) (s':Shared):Prop:= ∃ vs H',Inv X pins σ H' s'/\Vals vs us/\Q vs H'
noncomputable def SP (X:Cx) (pins:List (Addr×Obj)) (D:cL) (f:Flow) (s':Shared):Prop:=
 match f with
 | .next=> ∃ σ' H',Inv X pins σ' H' s'/\D.nx σ' H'
 | .brk=> ∃ σ' H',Inv X pins σ' H' s'/\D.bk σ' H'
 | .cont=> ∃ σ' H',Inv X pins σ' H' s'/\D.ct σ' H'
 | .ret u=> ∃ v σ' H',Inv X pins σ' H' s'/\RelV v u/\D.rt v H'
noncomputable def PE (X:Cx) (e:Expr) (t:TE):Prop:=
 ∀ (pins:List (Addr×Obj)) (s:Shared) (σ:St) (H:Hp) (Q:VK),Inv X pins σ H s->t σ H Q->wpAny (model X.prog X.w) X.A (eval e X.env) (EP X pins σ Q) X.xe s
noncomputable def PT (X:Cx) (e:Expr) (t:TT):Prop:=
 ∀ (pins:List (Addr×Obj)) (s:Shared) (σ:St) (H:Hp) (Q:Bool->Hp->Prop),Inv X pins σ H s->t σ H Q->wpAny (model X.prog X.w) X.A (isTrue e X.env (eval e X.env)) (TP X pins σ Q) X.xe s
noncomputable def PW (X:Cx) (e:Expr) (t:TT):Prop:=
 ∀ (whole:Sem Value) (pins:List (Addr×Obj)) (s:Shared) (σ:St) (H:Hp) (Q:Bool->Hp->Prop),Inv X pins σ H s->t σ H Q->wpAny (model X.prog X.w) X.A (isTrue e X.env whole) (TP X pins σ Q) X.xe s
theorem PW.pt {X:Cx} {e:Expr} {t:TT} (h:PW X e t):PT X e t:=h _
noncomputable def PA (X:Cx) (es:List Expr) (t:TA):Prop:=
 ∀ (pos:Pos) (pins:List (Addr×Obj)) (s:Shared) (σ:St) (H:Hp) (Q:List V->Hp->Prop),Inv X pins σ H s->t σ H Q->wpAny (model X.prog X.w) X.A (spliced (backTo pos (starEach es X.env))) (AP X pins σ Q) X.xe s
noncomputable def PS (X:Cx) (st:Stmt) (t:TS):Prop:=
 ∀ (pins:List (Addr×Obj)) (s:Shared) (σ:St) (H:Hp) (D:cL),Inv X pins σ H s->t D σ H->wpAny (model X.prog X.w) X.A (exec st X.env) (SP X pins D) X.xe s
noncomputable def PSs (X:Cx) (st:List Stmt) (t:TS):Prop:=
 ∀ (pins:List (Addr×Obj)) (s:Shared) (σ:St) (H:Hp) (D:cL),Inv X pins σ H s->t D σ H->wpAny (model X.prog X.w) X.A (execs st X.env) (SP X pins D) X.xe s
theorem thn {α:Type} {t:Sem α} {Q Q':α->Shared->Prop} {M:Model} {A:Around} {E:Value->Shared->Prop} {s:Shared} (h:wpAny M A t Q E s) (hQ: ∀ a s,Q a s->Q' a s):wpAny M A t Q' E s:=wpAny_mono h hQ fun _ _ x=>x
section
variable {X:Cx}
noncomputable def ui (i:Nat):TE:=fun σ H Q=> ∃ v,σ[i]? =some (some v)/\Q v H
noncomputable def tC (v:V):TE:=fun _ H Q=>Q v H
theorem uH {i:Nat} {x:Str} {pos:Pos} (hN:X.N[i]? =some x) (hv:Vis X.env.scope x) (hd:(x==("__debug__":Str))=false:=by decide) (hcd:(x==("__classdict__":Str))=false:=by decide):PE X (.Name x pos) (ui i):=by
 intro pins s σ H Q I h
 obtain ⟨v,e,h⟩:=h
 obtain ⟨m,hn,hl⟩:=I.loc
 obtain ⟨u,r,l⟩:=hl i x v hN e hv
 have fin:EP X pins σ Q u s:=⟨v,H,I,r,h⟩
 rcases l with ⟨hk,hm⟩ | ⟨hk,c,hc,hcell⟩
 ·exact wpAny_Name (wpAny_loadName_local I.ok.kind hk hn hm fin) hd
 ·rcases hk with hk | hk
  ·exact wpAny_Name (wpAny_loadName_cell I.ok.kind hk hc hcell fin) hd
  ·exact wpAny_Name (wpAny_loadName_free I.ok.kind hk hc hcell fin hcd) hd
theorem af {i j pos}:PE X (.Constant (.int i) j pos) (tC (.int i)):=fun _ _ _ H _ I h=>wpAny_Constant_int ⟨.int i,H,I.tok _,⟨_,rfl⟩,h⟩
theorem dr {b j pos}:PE X (.Constant (.bool b) j pos) (tC (.bl b)):=fun _ _ _ H _ I h=>Constant_bool ⟨.bl b,H,I,rfl,h⟩
theorem lK {j pos}:PE X (.Constant .none j pos) (tC .non):=fun _ _ _ H _ I h=>Constant_none ⟨.non,H,I,rfl,h⟩
theorem aE {x j pos}:PE X (.Constant (.str x) j pos) (tC (.str x)):=fun _ _ _ H _ I h=>Calls.Constant_str ⟨.str x,H,I.tok _,⟨_,rfl⟩,h⟩
noncomputable def Gl (X:Cx) (x:Str):Prop:=X.env.kindOf x=some .globalImplicit
theorem nI {E:Value->Shared->Prop} {pins:List (Addr×Obj)} {s:Shared} {σ:St} {H:Hp} {x:Str} {u:Value} {pos:Pos} {Q:Value->Shared->Prop} (I:Inv X pins σ H s) (hg:Gl X x) (hm:X.mg x=some u) (h:Q u s)
  (hd:(x==("__debug__":Str))=false:=by decide):wpAny (model X.prog X.w) X.A (eval (.Name x pos) X.env) Q E s:=
 Calls.Name_function_global I.ok.kind hg (Calls.loadGlobal_global (by rw [I.ok.glob];exact I.mod.glob.keeps I.bk) hm h) hd
theorem fu {E:Value->Shared->Prop} {pins:List (Addr×Obj)} {s:Shared} {σ:St} {H:Hp} {x:Str} {u:Value} {pos:Pos} {Q:Value->Shared->Prop} (I:Inv X pins σ H s) (hg:Gl X x) (hm:X.mg x=none) (hv:bootBuiltins x=some u) (h:Q u s)
  (hn:x≠"__name__":=by decide) (hd:(x==("__debug__":Str))=false:=by decide):wpAny (model X.prog X.w) X.A (eval (.Name x pos) X.env) Q E s:=by
 obtain ⟨mb,h1,h2⟩:=I.mod.blt
 exact Calls.Name_function_global I.ok.kind hg (Calls.loadGlobal_builtin (by rw [I.ok.glob];exact I.mod.glob.keeps I.bk) hm (by rw [I.ok.blt];exact h1.keeps I.bk) ((h2 x hn).trans hv) h) hd
theorem jq {x:Str} {v:V} {u:Value} {pos:Pos} (hg:Gl X x) (hm:X.mg x=some u) (r:RelV v u) (hd:(x==("__debug__":Str))=false:=by decide):PE X (.Name x pos) (tC v):=
 fun _ _ _ H _ I h=>nI I hg hm ⟨v,H,I,r,h⟩ hd
theorem fX {x:Str} {v:V} {u:Value} {pos:Pos} (hg:Gl X x) (hm:X.mg x=none) (hv:bootBuiltins x=some u) (r:RelV v u) (hn:x≠"__name__":=by decide) (hd:(x==("__debug__":Str))=false:=by decide):PE X (.Name x pos) (tC v):=
 fun _ _ _ H _ I h=>fu I hg hm hv ⟨v,H,I,r,h⟩ hn hd
variable {a b:Expr} {ta tb:TE} {pos:Pos}
noncomputable def tB (t:TE):TT:=fun σ H Q=>t σ H fun x H1=> ∃ c,x=.bl c/\Q c H1
theorem gN {e:Expr} {t:TE} (h:PE X e t) (he: ∀ whole,isTrue e X.env whole=(do let v <- whole;standAt e.pos;holding [v] (truthy v)):=by intro _;rfl):PT X e (tB t):=by
 intro pins s σ H Q I hw
 refine isTrue_plain (thn (h pins s σ H _ I hw) fun v s1 ⟨x,H1,I1,r1,q1⟩=>?_) (he _)
 obtain ⟨d,rfl,q⟩:=q1
 cases r1
 exact wpAny_truthy_bool ⟨H1,I1,q⟩
variable {tA tB':TT} {rest:List Expr}
noncomputable def ww (t u:TT):TT:=fun σ H Q=>t σ H fun c H1=>if c=true then u σ H1 Q else Q false H1
noncomputable def tOr (t u:TT):TT:=fun σ H Q=>t σ H fun c H1=>if c=true then Q true H1 else u σ H1 Q
noncomputable def wn (t:TT):TT:=fun σ H Q=>t σ H fun c H1=>Q (!c) H1
theorem jm (ha:PT X a tA):PW X (.BoolOp .And [a] pos) tA:=by
 intro wh pins s σ H Q I h
 refine isTrue_and (thn (ha pins s σ H Q I h) fun c s1 e=>?_)
 cases c with
 | true=>exact isTrue_and_nil e
 | false=>exact e
theorem fq (ha:PT X a tA):PW X (.BoolOp .Or [a] pos) tA:=by
 intro wh pins s σ H Q I h
 refine isTrue_or (thn (ha pins s σ H Q I h) fun c s1 e=>?_)
 cases c with
 | false=>exact isTrue_or_nil e
 | true=>exact e
theorem lG (ha:PT X a tA) (hb:PW X (.BoolOp .And (b::rest) pos) tB'):PW X (.BoolOp .And (a::b::rest) pos) (ww tA tB'):=by
 intro wh pins s σ H Q I h
 refine isTrue_and (thn (ha pins s σ H _ I h) fun c s1 ⟨H1,I1,q1⟩=>?_)
 cases c with
 | true=>exact hb wh pins s1 σ H1 Q I1 q1
 | false=>exact ⟨H1,I1,q1⟩
theorem iI (ha:PT X a tA) (hb:PW X (.BoolOp .Or (b::rest) pos) tB'):PW X (.BoolOp .Or (a::b::rest) pos) (tOr tA tB'):=by
 intro wh pins s σ H Q I h
 refine isTrue_or (thn (ha pins s σ H _ I h) fun c s1 ⟨H1,I1,q1⟩=>?_)
 cases c with
 | true=>exact ⟨H1,I1,q1⟩
 | false=>exact hb wh pins s1 σ H1 Q I1 q1
theorem lH (ha:PT X a tA):PT X (.UnaryOp .Not a pos) (wn tA):=by
 intro pins s σ H Q I h
 exact isTrue_not (ha pins s σ H (fun c H1=>Q (!c) H1) I h)
noncomputable def vo (ta tb:TE):TE:=fun σ H Q=>ta σ H fun x H1=> ∃ c,x=.bl c/\if c=true then tb σ H1 Q else Q (.bl false) H1
noncomputable def wm (ta tb:TE):TE:=fun σ H Q=>ta σ H fun x H1=> ∃ c,x=.bl c/\if c=true then Q (.bl true) H1 else tb σ H1 Q
theorem jp {op} {t:TE} (h:PE X a t):PE X (.BoolOp op [a] pos) t:=fun pins s σ H Q I hw=>BoolOp_one (h pins s σ H Q I hw)
theorem lM (ha:PE X a ta) (hb:PE X (.BoolOp .And (b::rest) pos) tb):PE X (.BoolOp .And (a::b::rest) pos) (vo ta tb):=by
 intro pins s σ H Q I h
 refine BoolOp_and (thn (ha pins s σ H _ I h) fun v s1 ⟨x,H1,I1,r1,q1⟩=>?_)
 obtain ⟨c,rfl,q1⟩:=q1
 cases r1
 refine wpAny_truthy_bool ?_
 cases c with
 | true=>exact hb pins s1 σ H1 Q I1 q1
 | false=>exact ⟨.bl false,H1,I1,rfl,q1⟩
theorem vF (ha:PE X a ta) (hb:PE X (.BoolOp .Or (b::rest) pos) tb):PE X (.BoolOp .Or (a::b::rest) pos) (wm ta tb):=by
 intro pins s σ H Q I h
 refine BoolOp_or (thn (ha pins s σ H _ I h) fun v s1 ⟨x,H1,I1,r1,q1⟩=>?_)
 obtain ⟨c,rfl,q1⟩:=q1
 cases r1
 refine wpAny_truthy_bool ?_
 cases c with
 | false=>exact hb pins s1 σ H1 Q I1 q1
 | true=>exact ⟨.bl true,H1,I1,rfl,q1⟩
noncomputable def tIf (t:TT) (ta tb:TE):TE:=fun σ H Q=>t σ H fun c H1=>if c=true then ta σ H1 Q else tb σ H1 Q
theorem kc {c:Expr} (hc:PT X c tA) (ha:PE X a ta) (hb:PE X b tb):PE X (.IfExp c a b pos) (tIf tA ta tb):=by
 intro pins s σ H Q I h
 refine wpAny_IfExp (thn (hc pins s σ H _ I h) fun d s1 ⟨H1,I1,q1⟩=>?_)
 cases d with
 | true=>exact ha pins s1 σ H1 Q I1 q1
 | false=>exact hb pins s1 σ H1 Q I1 q1
end
noncomputable def SqL (K:PySem.W.Frag) (H:Hp) (a:Addr) (xs:List V):Prop:=
 Rd H a (.lst xs)\/
  ∃ (o:Obj) (its:Array Value) (n:Nat),K.lookup a=some o/\o.cls=.type "list"/\o.dict=none/\o.data=.seq its n/\its.size<=sizeLine/\Vals xs its.toList
noncomputable def SqT (K:PySem.W.Frag) (H:Hp) (a:Addr) (xs:List V):Prop:=
 Rd H a (.tup xs)\/
  ∃ (o:Obj) (its:Array Value) (n:Nat),K.lookup a=some o/\o.cls=.type "tuple"/\o.data=.seq its n/\its.size<=sizeLine/\Vals xs its.toList
noncomputable def wT:Value->Option V
 | .none=>some .non
 | .bool b=>some (.bl b)
 | .int i _=>some (.int i)
 | .str x _=>some (.str x)
 | .bytes b _=>some (.byt b)
 | .float b _=>some (.flt b)
 | .ref a=>some (.ref a)
 | .type n=>some (.ty n)
 | _=>none
theorem RelV.abs {x:V} {u:Value} (r:RelV x u):wT u=some x:=by
 cases x with
 | non=>cases r;rfl
 | bl _=>cases r;rfl
 | int _=>obtain ⟨t,rfl⟩:=r;rfl
 | str _=>obtain ⟨t,rfl⟩:=r;rfl
 | byt _=>obtain ⟨t,rfl⟩:=r;rfl
 | flt _=>obtain ⟨t,rfl⟩:=r;rfl
 | ref _=>cases r;rfl
 | ty _=>cases r;rfl
theorem RelV.inj {x y:V} {u:Value} (r:RelV x u) (q:RelV y u):x=y:=Option.some.inj (r.abs.symm.trans q.abs)
theorem Vals.inj: ∀ {xs ys:List V} {us:List Value},Vals xs us->Vals ys us->xs=ys
 | _,_,_,.nil,.nil=>rfl
 | _,_,_,.cons r t,.cons r' t'=>by rw [r.inj r',Vals.inj t t']
section
variable {X:Cx} {pins:List (Addr×Obj)} {σ:St} {H:Hp} {s:Shared} {a:Addr} {xs ys:List V}
theorem SqL.of {K:PySem.W.Frag} (h:H a=some (.lst xs)):SqL K H a xs:=.inl (.inl h)
theorem SqT.of {K:PySem.W.Frag} (h:H a=some (.tup xs)):SqT K H a xs:=.inl (.inl h)
theorem Inv.list (I:Inv X pins σ H s) (h:SqL X.K H a xs): ∃ its:List Value,Vals xs its/\PlainL s.heap a its.toArray/\xs.length<=sizeLine:=by
 rcases h with h | ⟨o,its,n,hk,hc,hd,hs,hz,r⟩
 ·obtain ⟨z,its,n,r,e⟩:=h.ok I.hok
  exact ⟨its,r,⟨_,n,e,rfl,rfl,rfl⟩,z⟩
 ·refine ⟨its.toList,r,⟨o,n,I.kIn a o hk,hc,hd,by simpa using hs⟩,?_⟩
  have e:=r.length
  simp only [Array.length_toList]at e
  lia
theorem Inv.tuple (I:Inv X pins σ H s) (h:SqT X.K H a xs): ∃ its:List Value,Vals xs its/\IsTup s.heap a its.toArray/\xs.length<=sizeLine:=by
 rcases h with h | ⟨o,its,n,hk,hc,hs,hz,r⟩
 ·obtain ⟨z,its,r,p⟩:=h.ok I.hok
  exact ⟨its,r,p,z⟩
 ·refine ⟨its.toList,r,⟨o,I.kIn a o hk,hc,n,by simpa using hs⟩,?_⟩
  have e:=r.length
  simp only [Array.length_toList]at e
  lia
theorem Inv.list_inj (I:Inv X pins σ H s) (h:SqL X.K H a xs) (h':SqL X.K H a ys):xs=ys:=by
 obtain ⟨its,r,⟨o,n,e,_,_,d⟩,_⟩:=I.list h
 obtain ⟨its',r',⟨o',n',e',_,_,d'⟩,_⟩:=I.list h'
 rw [e]at e';cases e'
 rw [d]at d'
 injection d' with d1 _
 have:its=its':=by simpa using congrArg Array.toList d1
 subst this
 exact r.inj r'
theorem Inv.tuple_inj (I:Inv X pins σ H s) (h:SqT X.K H a xs) (h':SqT X.K H a ys):xs=ys:=by
 obtain ⟨its,r,⟨o,e,_,n,d⟩,_⟩:=I.tuple h
 obtain ⟨its',r',⟨o',e',_,n',d'⟩,_⟩:=I.tuple h'
 rw [e]at e';cases e'
 rw [d]at d'
 injection d' with d1 _
 have:its=its':=by simpa using congrArg Array.toList d1
 subst this
 exact r.inj r'
end
noncomputable abbrev Cx.wish (X:Cx) (E:Value->Shared->Prop):Cx:={X with xe:=E}
noncomputable abbrev Cx.nox (X:Cx):Cx:=X.wish fun _ _=>False
theorem Cx.Ok.wish {X:Cx} (ok:X.Ok) (E:Value->Shared->Prop):(X.wish E).Ok:=
 ⟨ok.mod,ok.kind,ok.glob,ok.blt,ok.above,ok.inj,ok.has,ok.cab,ok.hd,ok.frames,ok.stk,ok.exf,ok.bs,ok.bsz,ok.noex,ok.exfs,ok.funs,ok.frf⟩
theorem Cx.Ok.unwish {X:Cx} {E:Value->Shared->Prop} (ok:(X.wish E).Ok):X.Ok:=
 ⟨ok.mod,ok.kind,ok.glob,ok.blt,ok.above,ok.inj,ok.has,ok.cab,ok.hd,ok.frames,ok.stk,ok.exf,ok.bs,ok.bsz,ok.noex,ok.exfs,ok.funs,ok.frf⟩
section
variable {X:Cx} {pins:List (Addr×Obj)} {σ:St} {H:Hp} {s:Shared} {E:Value->Shared->Prop}
theorem Inv.wish (I:Inv X pins σ H s) (E:Value->Shared->Prop):Inv (X.wish E) pins σ H s:=⟨I.ok.wish E,I.os,I.bare,I.base,I.loc,I.cell,I.free,I.freeC,I.pin,I.hok,I.len⟩
theorem Inv.unwish (I:Inv (X.wish E) pins σ H s):Inv X pins σ H s:=⟨I.ok.unwish,I.os,I.bare,I.base,I.loc,I.cell,I.free,I.freeC,I.pin,I.hok,I.len⟩
theorem SP.unwish {D:cL} {f:Flow} {s':Shared} (h:SP (X.wish E) pins D f s'):SP X pins D f s':=by
 cases f with
 | next=>obtain ⟨σ',H',I,q⟩:=h;exact ⟨σ',H',I.unwish,q⟩
 | brk=>obtain ⟨σ',H',I,q⟩:=h;exact ⟨σ',H',I.unwish,q⟩
 | cont=>obtain ⟨σ',H',I,q⟩:=h;exact ⟨σ',H',I.unwish,q⟩
 | ret u=>obtain ⟨v,σ',H',I,r,q⟩:=h;exact ⟨v,σ',H',I.unwish,r,q⟩
theorem PSs.nox {st:List Stmt} {t:TS} (h:PSs X.nox st t):PSs X st t:=fun pins s σ H D I hw=>
 wpAny_mono (h pins s σ H D (I.wish _) hw) (fun _ _ q=>q.unwish) fun _ _ z=>False.elim z
end
section
variable {X:Cx} {st:Stmt} {rest:List Stmt} {t u:TS} {e:Expr} {te:TE} {pos:Pos}
noncomputable def vh:TS:=fun D σ H=>D.nx σ H
noncomputable def uj (t u:TS):TS:=fun D σ H=>t {D with nx:=u D} σ H
theorem aK:PSs X [] vh:=fun _ _ σ H _ I h=>wpAny_execs_nil ⟨σ,H,I,h⟩
theorem ad (h1:PS X st t) (h2:PSs X rest u):PSs X (st::rest) (uj t u):=by
 intro pins s σ H D I h
 refine wpAny_execs_cons (thn (h1 pins s σ H {D with nx:=u D} I h) fun f s1 q=>?_)
 cases f with
 | next=>
  obtain ⟨σ',H',I',q⟩:=q
  exact h2 pins s1 σ' H' D I' q
 | ret v=>exact q
 | brk=>exact q
 | cont=>exact q
theorem aj (h1:PS X st t):PSs X [st] t:=by
 intro pins s σ H D I h
 refine wpAny_execs_cons (thn (h1 pins s σ H D I h) fun f s1 q=>?_)
 cases f with
 | next=>exact wpAny_execs_nil q
 | ret v=>exact q
 | brk=>exact q
 | cont=>exact q
theorem Inv.quiet {pins:List (Addr×Obj)} {σ:St} {H:Hp} {s:Shared} (I:Inv X pins σ H s):interactive X.env=false:=by simp [interactive,I.ok.kind]
noncomputable def vj (te:TE):TS:=fun D σ H=>te σ H fun _ H1=>D.nx σ H1
theorem bG (he:PE X e te) (hs:swapsWith e none pos.line X.env=pure false:=by rfl):PS X (.Expr e pos) (vj te):=by
 intro pins s σ H D I h
 exact wpAny_Expr_any (thn (he pins s σ H _ I h) fun v s1 ⟨x,H1,I1,r1,q1⟩=>⟨σ,H1,I1,q1⟩) I.quiet hs
noncomputable def wk (te:TE):TS:=fun D σ H=>te σ H D.rt
theorem ax (he:PE X e te):PS X (.Return (some e) pos) (wk te):=by
 intro pins s σ H D I h
 exact wpAny_Return_some (thn (he pins s σ H _ I h) fun v s1 ⟨x,H1,I1,r1,q1⟩=>⟨x,σ,H1,I1,r1,q1⟩)
noncomputable def wq (c:TT) (t u:TS):TS:=fun D σ H=>c σ H fun b H1=>if b=true then t D σ H1 else u D σ H1
theorem aV {c:Expr} {a b:List Stmt} {tc:TT} (hc:PT X c tc) (ha:PSs X a t) (hb:PSs X b u):PS X (.If c a b pos) (wq tc t u):=by
 intro pins s σ H D I h
 refine wpAny_If (thn (hc pins s σ H _ I h) fun d s1 ⟨H1,I1,q1⟩=>?_)
 cases d with
 | true=>exact ha pins s1 σ H1 D I1 q1
 | false=>exact hb pins s1 σ H1 D I1 q1
noncomputable def uk:TS:=fun _ _ _=>False
theorem cN {sts:List Stmt}:PSs X sts uk:=fun _ _ _ _ _ _ h=>h.elim
end
noncomputable abbrev TG:=V->St->Hp->(St->Hp->Prop)->Prop
noncomputable abbrev TGs:=List V->St->Hp->(St->Hp->Prop)->Prop
noncomputable def PG (X:Cx) (target:Expr) (t:TG):Prop:=
 ∀ (pins:List (Addr×Obj)) (s:Shared) (σ:St) (H:Hp) (v:V) (u:Value) (Q:St->Hp->Prop),Inv X pins σ H s->RelV v u->t v σ H Q->
  wpAny (model X.prog X.w) X.A (assign target X.env u) (fun _ s'=> ∃ σ' H',Inv X pins σ' H' s'/\Q σ' H') X.xe s
noncomputable def PGs (X:Cx) (ts:List Expr) (t:TGs):Prop:=
 ∀ (pins:List (Addr×Obj)) (s:Shared) (σ:St) (H:Hp) (vs:List V) (us:List Value) (Q:St->Hp->Prop),Inv X pins σ H s->Vals vs us->t vs σ H Q->
  wpAny (model X.prog X.w) X.A (assignInOrder ((assignEach ts X.env).map (·.2)) us) (fun _ s'=> ∃ σ' H',Inv X pins σ' H' s'/\Q σ' H') X.xe s
noncomputable abbrev u9:=V->V->V->Hp->(Hp->Prop)->Prop
noncomputable def v8 (X:Cx) (t:u9):Prop:=
 ∀ (pins:List (Addr×Obj)) (s:Shared) (σ:St) (H:Hp) (o i v:V) (ov iv u:Value) (Q:Hp->Prop),Inv X pins σ H s->RelV o ov->RelV i iv->RelV v u->t o i v H Q->
  wpAny (model X.prog X.w) X.A (setItem ov iv u) (fun _ s'=> ∃ H',Inv X pins σ H' s'/\Q H') X.xe s
section
variable {X:Cx} {pos:Pos}
noncomputable def c3 (i:Nat):TG:=fun v σ H Q=>Q (σ.set i (some v)) H
theorem av {i:Nat} {x:Str} (hN:X.N.Nodup) (hi:X.N[i]? =some x) (hx:Loc X.env.scope x) (hf:X.fn x=true\/X.env.scope.names.lookup x=some .local:=by first | exact .inl rfl | exact .inr rfl | assumption):PG X (.Name x pos) (c3 i):=by
 intro pins s σ H v u Q I r h
 exact wpAny_assign_Name (jK I hN hi hx r (fun s' I'=>⟨_,H,I',h⟩) hf)
noncomputable def uW:TGs:=fun vs σ H Q=>vs=[]/\Q σ H
noncomputable def iW (t:TG) (u:TGs):TGs:=fun vs σ H Q=> ∃ v r,vs=v::r/\t v σ H fun σ' H'=>u r σ' H' Q
theorem cn:PGs X [] uW:=by
 intro pins s σ H vs us Q I r h
 obtain ⟨e,h⟩:=h
 subst e
 cases r
 exact assignInOrder_nil ⟨σ,H,I,h⟩
theorem aG {e:Expr} {es:List Expr} {t:TG} {u:TGs} (h1:PG X e t) (h2:PGs X es u)
  (hs:(assignEach (e::es) X.env).map (·.2)=assign e X.env::(assignEach es X.env).map (·.2):=by rfl):PGs X (e::es) (iW t u):=by
 intro pins s σ H vs us Q I r h
 obtain ⟨v,vr,e1,h⟩:=h
 subst e1
 cases r with
 | cons r rr=>
  rw [hs]
  refine assignInOrder_cons (thn (h1 pins s σ H _ _ _ I r h) fun _ s1 ⟨σ1,H1,I1,q1⟩=>?_)
  exact h2 pins s1 σ1 H1 _ _ Q I1 rr q1
noncomputable def uV (K:PySem.W.Frag) (n:Nat) (t:TGs):TG:=fun v σ H Q=> ∃ a xs,v=.ref a/\SqT K H a xs/\xs.length=n/\t xs σ H Q
theorem cQ {es:List Expr} {k:Nat} {t:TGs} {n:Nat} (hc:X.calm=true) (h:PGs X es t)
  (hn:(assignEach es X.env).length=n:=by rfl) (hst:(assignEach es X.env).findIdx? (·.1)=none:=by rfl):PG X (.Tuple es k pos) (uV X.K n t):=by
 intro pins s σ H v u Q I r hw
 obtain ⟨a,xs,e1,hq,hl,hw⟩:=hw
 subst e1
 cases r
 obtain ⟨its,rv,ht,hz⟩:=I.tuple hq
 refine assign_Tuple_tuple (I.ok.hd hc) ht (by simp [hn,<- hl,rv.length]) hst fun h' hx=>?_
 have I1:Inv X pins σ H {s with heap:=h'}:=I.kept (t':=s.toks) fun b o e=>hx b o (Nat.ne_of_lt (Heap.lt_size e)) e
 exact h pins _ σ H xs _ Q I1 (by simpa using rv) hw
noncomputable def wQ (to ti:TE) (t:u9):TG:=fun v σ H Q=>to σ H fun o H1=>ti σ H1 fun i H2=>t o i v H2 fun H3=>Q σ H3
theorem qJ {o i:Expr} {to ti:TE} {t:u9} (ho:PE X o to) (hi:PE X i ti) (hs:v8 X t)
  (ha: ∀ v,assign (.Subscript o i pos) X.env v=(do
   let ov <- holding [v] (eval o X.env)
   let iv <- holding [v,ov] (eval i X.env)
   standAt pos
   holding [v,ov,iv] (setItem ov iv v)
   release [v,ov,iv] []):=by intro _;rfl):PG X (.Subscript o i pos) (wQ to ti t):=by
 intro pins s σ H v u Q I r h
 rw [ha]
 refine wpAny_bind (wpAny_holding (thn (ho pins s σ H _ I h) fun ov s1 ⟨x,H1,I1,r1,q1⟩=>?_))
 refine wpAny_bind (wpAny_holding (thn (hi pins s1 σ H1 _ I1 q1) fun iv s2 ⟨y,H2,I2,r2,q2⟩=>?_))
 refine wpAny_bind (wpAny_standAt (wpAny_bind (wpAny_holding (thn (hs pins s2 σ H2 x y v ov iv u _ I2 r1 r2 r q2) fun _ s3 ⟨H3,I3,q3⟩=>?_))))
 exact wpAny_release ⟨σ,H3,I3,q3⟩
noncomputable def lg (te:TE) (g:TG):TS:=fun D σ H=>te σ H fun x H1=>g x σ H1 D.nx
theorem dZ {tg e:Expr} {te:TE} {g:TG} (he:PE X e te) (hg:PG X tg g) (hs:swapsWithSole [tg] e pos.line X.env=pure false:=by rfl) (hw:swappedStores [tg] e X.env=pure none:=by rfl)
  (h1:(assignEach [tg] X.env).map (·.2)=[assign tg X.env]:=by rfl):PS X (.Assign [tg] e pos) (lg te g):=by
 intro pins s σ H D I h
 refine wpAny_Assign_stores (thn (he pins s σ H _ I h) fun v s1 ⟨x,H1,I1,r1,q1⟩=>?_) hs hw
 rw [h1]
 exact thn (hg pins s1 σ H1 x v _ I1 r1 q1) fun _ s2 q=>q
theorem al {i:Nat} {x:Str} {e:Expr} {te:TE} {pos':Pos} (hN:X.N.Nodup) (hi:X.N[i]? =some x) (hx:Loc X.env.scope x) (he:PE X e te) (hs:swapsWith e (some (.Name x pos')) pos.line X.env=pure false:=by rfl) (hf:X.fn x=true\/X.env.scope.names.lookup x=some .local:=by first | exact .inl rfl | exact .inr rfl | assumption):
  PS X (.Assign [.Name x pos'] e pos) (lg te (c3 i)):=by
 intro pins s σ H D I h
 refine wpAny_Assign_Name (thn (he pins s σ H _ I h) fun v s1 ⟨y,H1,I1,r1,q1⟩=>?_) hs
 exact jK I1 hN hi hx r1 (fun s2 I2=>⟨_,H1,I2,q1⟩) hf
end
section
variable {X:Cx} {pos:Pos}
noncomputable def pP (c:TT) (tb:TS):TS:=fun D σ H=> ∃ W:Nat->St->Hp->Prop,(∃ m,W m σ H)/\ ∀ m σ H,W m σ H->
 c σ H fun b H1=>if b=true then ∃ N:St->Hp->Prop,(∀ σ' H',N σ' H'-> ∃ m',m'<m/\W m' σ' H')/\tb {D with nx:=N,ct:=N,bk:=D.nx} σ H1 else D.nx σ H1
theorem gO {c:Expr} {body:List Stmt} {tc:TT} {tb:TS} (hp:PassesOwn (model X.prog X.w) X.A X.env X.xe) (hc:PT X c tc) (hb:PSs X body tb):PS X (.While c body [] pos) (pP tc tb):=by
 intro pins s σ H D I h
 obtain ⟨W,⟨m0,w0⟩,turn⟩:=h
 refine wpAny_While (codeAny_whileLoop (fun n s'=> ∃ σ' H',Inv X pins σ' H' s'/\W n σ' H') ?_ m0 ⟨σ,H,I,w0⟩)
 rintro n s1 ⟨σ1,H1,I1,w1⟩
 refine wpAny_passesOwn hp (thn (hc pins s1 σ1 H1 _ I1 (turn n σ1 H1 w1)) fun b s2 ⟨H2,I2,q2⟩=>?_)
 cases b with
 | true=>
  obtain ⟨N,hN,q2⟩:=q2
  rw [if_pos rfl]
  refine wpAny_passesOwn hp (thn (hb pins s2 σ1 H2 _ I2 q2) fun f s3 q3=>?_)
  cases f with
  | next=>
   obtain ⟨σ3,H3,I3,n3⟩:=q3
   obtain ⟨m',hm,w3⟩:=hN σ3 H3 n3
   exact ⟨m',hm,σ3,H3,I3,w3⟩
  | cont=>
   obtain ⟨σ3,H3,I3,n3⟩:=q3
   obtain ⟨m',hm,w3⟩:=hN σ3 H3 n3
   exact ⟨m',hm,σ3,H3,I3,w3⟩
  | brk=>exact q3
  | ret v=>exact q3
 | false=>
  rw [if_neg Bool.false_ne_true]
  exact wpAny_execs_nil ⟨σ1,H2,I2,q2⟩
end
structure It where
 go:Nat->Hp->Prop
 yld:Nat->Hp->V->Hp->Prop
 stop:Nat->Hp->Prop
noncomputable def im (X:Cx) (pins:List (Addr×Obj)) (H:Hp) (b:Addr):Prop:=
 H b=none/\b≠X.env.locals/\b∉X.fs/\(b∈X.ex\/X.s₀.heap.objs.size<=b)/\(∀ x c,X.env.cells.lookup x=some c->c≠b)/\ ∀ p∈X.pn++pins,p.1≠b
theorem Inv.fpOk {X:Cx} {pins:List (Addr×Obj)} {σ:St} {H H':Hp} {s:Shared} {b:Addr} (I:Inv X pins σ H s) (hb:s.heap.objs.size<=b) (hn:H' b=none):im X pins H' b:=by
 refine ⟨hn,Nat.ne_of_gt (Nat.lt_of_lt_of_le I.lt hb),I.nofs hb,.inr (Nat.le_trans I.sz hb),fun x c e z=>?_,fun p hp z=>?_⟩
 ·obtain ⟨v,q⟩:=I.cell x c e
  exact absurd (Nat.lt_of_lt_of_le q.lt (by rw [z];exact hb)) (Nat.lt_irrefl _)
 ·exact absurd (Nat.lt_of_lt_of_le (Heap.lt_size (I.pin p hp).1) (by rw [z];exact hb)) (Nat.lt_irrefl _)
structure rY (P:Program) (w:World) (K:PySem.W.Frag) (tg:Expr) (J:It) (fp:List Addr) (it:Addr) (tn:Nat->Heap->Prop):Prop where
 mem:it∈fp
 obj: ∀ i h,tn i h-> ∀ b∈fp,∃ o,h.get? b=some o/\ ∀ v,o.data≠ .cell v
 keep: ∀ i h h',tn i h->(∀ b∈fp,∀ o,h.get? b=some o->h'.get? b=some o)->tn i h'
 item: ∀ (X:Cx),X.prog=P->X.w=w->X.K=K->X.calm=true-> ∀ (i:Nat) (pins:List (Addr×Obj)) (s:Shared) (σ:St) (H:Hp) (E:Value->Shared->Prop),Inv X pins σ H s->(∀ b∈fp,im X pins H b)->tn i s.heap->J.go i H->
  wpAny (model P w) X.A (pyNext (.ref it)) (fun r s1=> ∃ u,r=some u/\
   wpAny (model P w) X.A (letOwnedTupleGo tg (.ref it) u) (fun _ s2=> ∃ x H',Inv X pins σ H' s2/\RelV x u/\J.yld i H x H'/\tn (i+1) s2.heap/\ ∀ b∈fp,H' b=none) E s1) E s
 done: ∀ (X:Cx),X.prog=P->X.w=w->X.K=K->X.calm=true-> ∀ (i:Nat) (pins:List (Addr×Obj)) (s:Shared) (σ:St) (H:Hp) (E:Value->Shared->Prop),Inv X pins σ H s->(∀ b∈fp,im X pins H b)->tn i s.heap->J.stop i H->
  wpAny (model P w) X.A (pyNext (.ref it)) (fun r s1=>r=none/\Inv X pins σ H s1) E s
 self: ∀ (A:Around) (i:Nat) (s:Shared) (Q:Value->Shared->Prop) (E:Value->Shared->Prop),tn i s.heap->Q (.ref it) s->wpAny (model P w) A (pyIter (.ref it)) Q E s
noncomputable abbrev TI:=St->Hp->(It->Hp->Prop)->Prop
noncomputable def PIE (X:Cx) (pins:List (Addr×Obj)) (σ:St) (tg:Expr) (R:It->Hp->Prop) (itv:Value) (s2:Shared):Prop:=
 ∃ (it:Addr) (fp:List Addr) (tn:Nat->Heap->Prop) (J:It) (H':Hp),itv=.ref it/\Inv X pins σ H' s2/\rY X.prog X.w X.K tg J fp it tn/\tn 0 s2.heap/\(∀ b∈fp,im X pins H' b)/\R J H'
noncomputable def PI (X:Cx) (tg iter:Expr) (wi:TI):Prop:=
 ∀ (pins:List (Addr×Obj)) (s:Shared) (σ:St) (H:Hp) (R:It->Hp->Prop),Inv X pins σ H s->wi σ H R->
  wpAny (model X.prog X.w) X.A (eval iter X.env) (fun v s1=>wpAny (model X.prog X.w) X.A (pyIter v) (PIE X pins σ tg R) X.xe s1) X.xe s
theorem rB {M:Model} {A:Around} {E:Value->Shared->Prop} {s:Shared} {tg:Expr} {it:Addr} {u:Value} {o:Obj} {n:String} {vs:Array Value} {Q:Unit->Shared->Prop} (ho:s.heap.get? it=some o) (hc:o.cls=.type n) (hd:o.data=.fields vs)
  (hn:["enumerate","zip","dict_itemiterator","dict_reverseitemiterator","odict_iterator","itertools.zip_longest","itertools.pairwise"].contains n=false) (hQ:Q () s):wpAny M A (letOwnedTupleGo tg (.ref it) u) Q E s:=by
 unfold letOwnedTupleGo
 cases tg <;> first
  | exact wpAny_pure hQ
  | (cases u <;> first
    | exact wpAny_pure hQ
    | (refine wpAny_bind (wpAny_load ho ?_)
       rw [hc,hd]
       show wpAny M A (if (["enumerate","zip","dict_itemiterator","dict_reverseitemiterator","odict_iterator","itertools.zip_longest","itertools.pairwise"].contains n&&vs[0]? ==some (rawInt _))=true then _ else _) Q E s
       rw [if_neg (by intro h;rw [hn,Bool.false_and]at h;cases h)]
       exact wpAny_pure hQ))
noncomputable def Itl (K:PySem.W.Frag) (a:Addr):It:=
 ⟨fun i H=> ∃ xs x,SqL K H a xs/\xs[i]? =some x,fun i H x H'=>H'=H/\ ∀ xs,SqL K H a xs->xs[i]? =some x,fun i H=> ∃ xs,SqL K H a xs/\xs.length<=i⟩
noncomputable def Itt (K:PySem.W.Frag) (a:Addr):It:=
 ⟨fun i H=> ∃ xs x,SqT K H a xs/\xs[i]? =some x,fun i H x H'=>H'=H/\ ∀ xs,SqT K H a xs->xs[i]? =some x,fun i H=> ∃ xs,SqT K H a xs/\xs.length<=i⟩
noncomputable def Itr (lo:Int) (n:Nat):It:=⟨fun i _=>i<n,fun i H x H'=>H'=H/\x=.int (lo+i),fun i _=>n<=i⟩
theorem n8 {P:Program} {w:World} {K:PySem.W.Frag} {tg:Expr} (a it:Addr):rY P w K tg (Itl K a) [it] it (fun i h=>h.IsListIter it a i) where
 mem:=by simp
 obj:=fun i h st b hb=>by
  have e:b=it:=by simpa using hb
  subst e
  obtain ⟨o,e,c,d⟩:=st
  exact ⟨o,e,fun v z=>by rw [d]at z;cases z⟩
 keep:=fun i h h' st k=>st.at fun o e=>k it (by simp) o e
 item:=by
  intro X hP hw hK hc i pins s σ H E I hf st hg
  subst hP hw hK
  obtain ⟨xs,x,hq,hx⟩:=hg
  obtain ⟨its,rv,p,hz⟩:=I.list hq
  obtain ⟨u,hu,ru⟩:=rv.get hx
  obtain ⟨f0,f1,f2,f3,f4,f5⟩:=hf it (by simp)
  refine wpAny_pyNext_list_item st p.isList (x:=u) (by simpa using hu) fun h' st' sb=>?_
  have I1:Inv X pins σ H {s with heap:=h'}:=I.turned (t':=s.toks) (fun b o hb e=>(sb.2 b hb).trans e) f0 f1 f3 f4 f5
  obtain ⟨o,e,c,d⟩:=id st'
  exact ⟨u,rfl,rB (s:={s with heap:=h'}) e c d (by decide) ⟨x,H,I1,ru,⟨rfl,fun ys hy=>by rw [I.list_inj hy hq];exact hx⟩,st',fun b hb=>(hf b hb).1⟩⟩
 done:=by
  intro X hP hw hK hc i pins s σ H E I hf st hg
  subst hP hw hK
  obtain ⟨xs,hq,hx⟩:=hg
  obtain ⟨its,rv,p,hz⟩:=I.list hq
  obtain ⟨f0,f1,f2,f3,f4,f5⟩:=hf it (by simp)
  have hl:=rv.length
  exact wpAny_pyNext_list_end (I.ok.hd hc) st p.isList (by simp;lia) fun h' eb=>⟨rfl,I.turned (t':=s.toks) (fun b o hb e=>eb b o hb e) f0 f1 f3 f4 f5⟩
 self:=fun _ _ _ _ _ st h=>wpAny_pyIter_listiter st h
theorem ld {P:Program} {w:World} {K:PySem.W.Frag} {tg:Expr} (a it:Addr):rY P w K tg (Itt K a) [it] it (fun i h=>h.IsTupleIter it a i) where
 mem:=by simp
 obj:=fun i h st b hb=>by
  have e:b=it:=by simpa using hb
  subst e
  obtain ⟨o,e,c,d⟩:=st
  exact ⟨o,e,fun v z=>by rw [d]at z;cases z⟩
 keep:=fun i h h' st k=>st.at fun o e=>k it (by simp) o e
 item:=by
  intro X hP hw hK hc i pins s σ H E I hf st hg
  subst hP hw hK
  obtain ⟨xs,x,hq,hx⟩:=hg
  obtain ⟨its,rv,p,hz⟩:=I.tuple hq
  obtain ⟨u,hu,ru⟩:=rv.get hx
  obtain ⟨f0,f1,f2,f3,f4,f5⟩:=hf it (by simp)
  refine wpAny_pyNext_tuple_item st (show s.heap.IsTuple a its.toArray from p) (x:=u) (by simpa using hu) fun h' st' sb=>?_
  have I1:Inv X pins σ H {s with heap:=h'}:=I.turned (t':=s.toks) (fun b o hb e=>(sb.2 b hb).trans e) f0 f1 f3 f4 f5
  obtain ⟨o,e,c,d⟩:=id st'
  exact ⟨u,rfl,rB (s:={s with heap:=h'}) e c d (by decide) ⟨x,H,I1,ru,⟨rfl,fun ys hy=>by rw [I.tuple_inj hy hq];exact hx⟩,st',fun b hb=>(hf b hb).1⟩⟩
 done:=by
  intro X hP hw hK hc i pins s σ H E I hf st hg
  subst hP hw hK
  obtain ⟨xs,hq,hx⟩:=hg
  obtain ⟨its,rv,p,hz⟩:=I.tuple hq
  obtain ⟨f0,f1,f2,f3,f4,f5⟩:=hf it (by simp)
  have hl:=rv.length
  exact wpAny_pyNext_tuple_end (I.ok.hd hc) st (show s.heap.IsTuple a its.toArray from p) (by simp;lia) fun h' eb=>⟨rfl,I.turned (t':=s.toks) (fun b o hb e=>eb b o hb e) f0 f1 f3 f4 f5⟩
 self:=fun _ _ _ _ _ st h=>wpAny_pyIter_tupleiter st h
theorem lf {P:Program} {w:World} {K:PySem.W.Frag} {tg:Expr} (it:Addr) (lo:Int) (n:Nat):rY P w K tg (Itr lo n) [it] it (fun i h=>IsRangeIter h it (lo+ (i:Nat) *1) ((n:Int) - (i:Nat)) 1) where
 mem:=by simp
 obj:=fun i h st b hb=>by
  have e:b=it:=by simpa using hb
  subst e
  exact ⟨_,st,fun v z=>by
   have z':Data.fields _=Data.cell v:=z
   cases z'⟩
 keep:=fun i h h' st k=>k it (by simp) _ st
 item:=by
  intro X hP hw hK hc i pins s σ H E I hf st hg
  subst hP hw hK
  obtain ⟨f0,f1,f2,f3,f4,f5⟩:=hf it (by simp)
  have W:=Walks.range (prog:=X.prog) (w:=X.w) (I.ok.hd hc) it lo 1 n
  refine W.item i s _ _ hg st fun v h' tk hv st' kk=>?_
  obtain ⟨t,rfl⟩:=hv
  have I1:Inv X pins σ H {s with heap:=h',toks:=tk}:=I.turned (fun b o hb e=>kk b o (by simpa using hb) e) f0 f1 f3 f4 f5
  refine ⟨_,rfl,rB (s:={s with heap:=h',toks:=tk}) (n:="range_iterator") st' rfl rfl (by decide) ⟨.int (lo+i),H,I1,⟨t,?_⟩,⟨rfl,rfl⟩,st',fun b hb=>(hf b hb).1⟩⟩
  rw [Int.mul_one]
 done:=by
  intro X hP hw hK hc i pins s σ H E I hf st hg
  subst hP hw hK
  obtain ⟨f0,f1,f2,f3,f4,f5⟩:=hf it (by simp)
  exact wpAny_pyNext_range_end (I.ok.hd hc) st (by have:n<=i:=hg;lia) fun h' eb=>⟨rfl,I.turned (t':=s.toks) (fun b o hb e=>eb b o hb e) f0 f1 f3 f4 f5⟩
 self:=fun _ _ _ _ _ st h=>wpAny_pyIter_rangeiter st h
section
variable {X:Cx} {tg:Expr}
noncomputable def vK (K:PySem.W.Frag) (tl:TE):TI:=fun σ H R=>tl σ H fun x H1=> ∃ a,x=.ref a/\(∃ xs,SqL K H1 a xs)/\R (Itl K a) H1
noncomputable def wK (K:PySem.W.Frag) (tl:TE):TI:=fun σ H R=>tl σ H fun x H1=> ∃ a,x=.ref a/\(∃ xs,SqT K H1 a xs)/\R (Itt K a) H1
theorem cY {l:Expr} {tl:TE} (hl:PE X l tl):PI X tg l (vK X.K tl):=by
 intro pins s σ H R I h
 refine thn (hl pins s σ H _ I h) fun v s1 ⟨x,H1,I1,r1,q1⟩=>?_
 obtain ⟨a,e,⟨xs,hq⟩,q⟩:=q1
 subst e
 cases r1
 obtain ⟨its,rv,p,hz⟩:=I1.list hq
 refine wpAny_pyIter_list p.isList ?_
 refine ⟨s1.heap.objs.size,[s1.heap.objs.size],_,_,H1,rfl,I1.kept (t':=s1.toks) fun b o e=>Heap.get?_push_of_some _ e,n8 a _,⟨_,Heap.get?_push_size _ rfl,rfl,rfl⟩,fun b hb=>?_,q⟩
 have e:b=s1.heap.objs.size:=by simpa using hb
 subst e
 exact I1.fpOk (Nat.le_refl _) (I1.hok.fresh (Nat.le_refl _))
theorem cG {l:Expr} {tl:TE} (hl:PE X l tl):PI X tg l (wK X.K tl):=by
 intro pins s σ H R I h
 refine thn (hl pins s σ H _ I h) fun v s1 ⟨x,H1,I1,r1,q1⟩=>?_
 obtain ⟨a,e,⟨xs,hq⟩,q⟩:=q1
 subst e
 cases r1
 obtain ⟨its,rv,p,hz⟩:=I1.tuple hq
 refine wpAny_pyIter_tuple (show s1.heap.IsTuple a its.toArray from p) ?_
 refine ⟨s1.heap.objs.size,[s1.heap.objs.size],_,_,H1,rfl,I1.kept (t':=s1.toks) fun b o e=>Heap.get?_push_of_some _ e,ld a _,⟨_,Heap.get?_push_size _ rfl,rfl,rfl⟩,fun b hb=>?_,q⟩
 have e:b=s1.heap.objs.size:=by simpa using hb
 subst e
 exact I1.fpOk (Nat.le_refl _) (I1.hok.fresh (Nat.le_refl _))
theorem j3 {pins:List (Addr×Obj)} {σ:St} {H:Hp} {s:Shared} {R:It->Hp->Prop} {E:Value->Shared->Prop} {lo hi:Int} {t u v:Tok} {tk:Nat} (I:Inv X pins σ H s) (h1: -(2^62)<=lo) (h2:lo<2^62) (h3: -(2^62)<=hi) (h4:hi<2^62)
  (q:R (Itr lo (hi-lo).toNat) H):wpAny (model X.prog X.w) X.A (pyIter (.ref s.heap.objs.size)) (PIE X pins σ tg R) E {s with heap:=s.heap.push {cls:=.type "range",data:=.fields #[.int lo t,.int hi u,.int 1 v]},toks:=tk}:=by
 refine wpAny_pyIter_range (IsRange.new ..) (small_one h1 h2 h3 h4) ?_
 have I1:Inv X pins σ H {s with heap:=s.heap.push {cls:=.type "range",data:=.fields #[.int lo t,.int hi u,.int 1 v]},toks:=tk}:=I.kept fun b o e=>Heap.get?_push_of_some _ e
 refine ⟨(s.heap.push {cls:=.type "range",data:=.fields #[.int lo t,.int hi u,.int 1 v]}).objs.size,[(s.heap.push {cls:=.type "range",data:=.fields #[.int lo t,.int hi u,.int 1 v]}).objs.size],_,_,H,rfl,
  I1.kept (t':=tk) fun b o e=>Heap.get?_push_of_some _ e,lf _ lo (hi-lo).toNat,?_,fun b hb=>?_,q⟩
 ·have e1:lo+ ((0:Nat):Int) *1=lo:=by simp
  have e2:(((hi-lo).toNat:Nat):Int) - ((0:Nat):Int)=Builtin.Range.rangeSize lo hi 1:=by rw [rangeSize_one];split <;> lia
  show IsRangeIter _ _ (lo+ ((0:Nat):Int) *1) ((((hi-lo).toNat:Nat):Int) - ((0:Nat):Int)) 1
  rw [e1,e2]
  exact Heap.get?_push_size _ rfl
 ·have e:b=(s.heap.push {cls:=.type "range",data:=.fields #[.int lo t,.int hi u,.int 1 v]}).objs.size:=by simpa using hb
  subst e
  exact I1.fpOk (Nat.le_refl _) (I1.hok.fresh (Nat.le_refl _))
noncomputable def vJ (ta:TA):TI:=fun σ H R=>ta σ H fun vs H1=> ∃ j:Int,vs=[.int j]/\ -(2^62)<=j/\j<2^62/\R (Itr 0 j.toNat) H1
noncomputable def vI (ta:TA):TI:=fun σ H R=>ta σ H fun vs H1=> ∃ i j:Int,vs=[.int i,.int j]/\(-(2^62)<=i/\i<2^62/\ -(2^62)<=j/\j<2^62)/\R (Itr i (j-i).toNat) H1
theorem bj {a:Expr} {ta:TA} {p pos:Pos} (hg:Gl X "range") (hm:X.mg "range"=none) (ha:PA X [a] ta) (hs:starEach [a] X.env=[(false,eval a X.env)]:=by rfl):PI X tg (.Call (.Name "range" p) [a] [] pos) (vJ ta):=by
 intro pins s σ H R I h
 refine Call_ (fu I hg hm boot_range (PyProof.Rows.callWith_type1 (thn (ha pos pins s σ H _ I h) fun us s1 ⟨vs,H1,I1,r1,q1⟩=>?_) hs rfl))
 obtain ⟨j,e,q1,q2,q⟩:=q1
 subst e
 cases r1 with
 | cons r rr=>
  cases rr
  obtain ⟨t,rfl⟩:=r
  exact call_range_1 (j3 I1 (by lia) (by lia) q1 q2 (by simpa using q))
theorem oA {a b:Expr} {ta:TA} {p pos:Pos} (hg:Gl X "range") (hm:X.mg "range"=none) (ha:PA X [a,b] ta) (hs:starEach [a,b] X.env=[(false,eval a X.env),(false,eval b X.env)]:=by rfl) (hs2:starEach [b] X.env=[(false,eval b X.env)]:=by rfl):
  PI X tg (.Call (.Name "range" p) [a,b] [] pos) (vI ta):=by
 intro pins s σ H R I h
 refine Call_ (fu I hg hm boot_range (PyProof.Rows.callWith_type1 (thn (ha pos pins s σ H _ I h) fun us s1 ⟨vs,H1,I1,r1,q1⟩=>?_) (by rw [hs,hs2]) (by rw [hs2];rfl)))
 obtain ⟨i,j,e,⟨q1,q2,q3,q4⟩,q⟩:=q1
 subst e
 cases r1 with
 | cons r rr=>
  cases rr with
  | cons r' rr=>
   cases rr
   obtain ⟨t,rfl⟩:=r
   obtain ⟨t',rfl⟩:=r'
   exact call_range_2 (j3 I1 q1 q2 q3 q4 q)
noncomputable def wt (wi:TI) (g:TG) (tb:TS):TS:=fun D σ H=>wi σ H fun J H1=> ∃ W:Nat->Nat->St->Hp->Prop,(∃ m,W 0 m σ H1)/\ ∀ i m σ H,W i m σ H->
 (J.stop i H/\D.nx σ H)\/(J.go i H/\ ∃ N:St->Hp->Prop,(∀ σ' H',N σ' H'-> ∃ m',m'<m/\W (i+1) m' σ' H')/\ ∀ x H',J.yld i H x H'->g x σ H' fun σ2 H2=>tb {D with nx:=N,ct:=N,bk:=D.nx} σ2 H2)
noncomputable def jo (fp:List Addr) (h:Heap):List (Addr×Obj):=fp.filterMap fun b=>(h.get? b).map fun o=>(b,o)
theorem bc {fp:List Addr} {h:Heap} {b:Addr} {o:Obj} (hb:b∈fp) (e:h.get? b=some o):(b,o)∈jo fp h:=List.mem_filterMap.mpr ⟨b,hb,by rw [e];rfl⟩
theorem oU {fp:List Addr} {h:Heap} {p:Addr×Obj} (hp:p∈jo fp h):p.1∈fp/\h.get? p.1=some p.2:=by
 obtain ⟨b,hb,e⟩:=List.mem_filterMap.mp hp
 cases q:h.get? b with
 | none=>rw [q]at e;cases e
 | some o=>
  rw [q]at e
  have e':(b,o)=p:=Option.some.inj e
  subst e'
  exact ⟨hb,q⟩
theorem Inv.pinned {pins:List (Addr×Obj)} {σ:St} {H:Hp} {s:Shared} {fp:List Addr} (I:Inv X pins σ H s) (hf: ∀ b∈fp,im X pins H b) (ho: ∀ b∈fp,∃ o,s.heap.get? b=some o/\ ∀ v,o.data≠ .cell v):Inv X (pins++jo fp s.heap) σ H s:=
 I.pins_of fun p hp=>(List.mem_append.mp hp).elim (fun z=>I.pin p (List.mem_append_right _ z)) fun z=>by
  obtain ⟨hb,e⟩:=oU z
  obtain ⟨f0,f1,f2,_⟩:=hf p.1 hb
  obtain ⟨o,e',d⟩:=ho p.1 hb
  rw [e]at e';cases e'
  exact ⟨e,f0,f1,f2,d⟩
theorem Inv.unpinned {pins pl:List (Addr×Obj)} {σ:St} {H:Hp} {s:Shared} (I:Inv X (pins++pl) σ H s):Inv X pins σ H s:=I.pins_of fun p hp=>I.pin p (List.mem_append_right _ (List.mem_append_left _ hp))
theorem bA {iter:Expr} {body:List Stmt} {wi:TI} {g:TG} {tb:TS} {pos:Pos} (hp:PassesOwn (model X.prog X.w) X.A X.env X.xe) (hc:X.calm=true) (hi:PI X tg iter wi) (hg:PG X tg g) (hb:PSs X body tb)
  (hs: ∀ x,foldedSetIterable iter X.env x=pure x:=by intro _;rfl):PS X (.For tg iter body [] pos) (wt wi g tb):=by
 intro pins s σ H D I h
 refine wpAny_For (thn (hi pins s σ H _ I h) fun v s1 h1=>thn h1 fun itv s2 h2=>?_) hs
 obtain ⟨it,fp,tn,J,H2,e,I2,T,st2,f2,W,⟨m0,w0⟩,turn⟩:=h2
 subst e
 have stat: ∀ {H':Hp},(∀ b∈fp,H' b=none)-> ∀ b∈fp,im X pins H' b:=fun hn b hb=>⟨hn b hb,(f2 b hb).2⟩
 refine codeAny_forLoop_any (fun n s'=> ∃ i σ' H',Inv X pins σ' H' s'/\tn i s'.heap/\(∀ b∈fp,H' b=none)/\W i n σ' H') ?_ m0 ⟨0,σ,H2,I2,st2,fun b hb=>(f2 b hb).1,w0⟩
 rintro n s3 ⟨i,σ3,H3,I3,st3,fr3,w3⟩
 rcases turn i n σ3 H3 w3 with ⟨stop,qn⟩ | ⟨go,N,hN,step⟩
 ·refine wpAny_passesOwn hp (thn (T.done X rfl rfl rfl hc i pins s3 σ3 H3 X.xe I3 (stat fr3) st3 stop) fun r s4 ⟨hr,I4⟩=>?_)
  subst hr
  exact wpAny_execs_nil ⟨σ3,H3,I4,qn⟩
 ·refine wpAny_passesOwn hp (thn (T.item X rfl rfl rfl hc i pins s3 σ3 H3 X.xe I3 (stat fr3) st3 go) fun r s4 ⟨u,hr,h4⟩=>?_)
  subst hr
  refine wpAny_passesOwn hp (thn h4 fun _ s5 ⟨x,H5,I5,r5,y5,st5,fr5⟩=>?_)
  have I5':=I5.pinned (stat fr5) (T.obj _ _ st5)
  refine wpAny_passesOwn hp (thn (hg _ s5 σ3 H5 x u _ I5' r5 (step x H5 y5)) fun _ s6 ⟨σ6,H6,I6,q6⟩=>?_)
  refine wpAny_passesOwn hp (thn (hb _ s6 σ6 H6 _ I6 q6) fun f s7 q7=>?_)
  have again: ∀ {σ7:St} {H7:Hp},Inv X (pins++jo fp s5.heap) σ7 H7 s7->N σ7 H7-> ∃ m,m<n/\ ∃ i σ' H',Inv X pins σ' H' s7/\tn i s7.heap/\(∀ b∈fp,H' b=none)/\W i m σ' H':=fun {σ7 H7} I7 n7=>by
   obtain ⟨m',hm,w7⟩:=hN σ7 H7 n7
   refine ⟨m',hm,i+1,σ7,H7,I7.unpinned,T.keep _ _ _ st5 fun b hb o e=>(I7.pin (b,o) (List.mem_append_right _ (List.mem_append_right _ (bc hb e)))).1,fun b hb=>?_,w7⟩
   obtain ⟨o,e,d⟩:=T.obj _ _ st5 b hb
   exact (I7.pin (b,o) (List.mem_append_right _ (List.mem_append_right _ (bc hb e)))).2.1
  cases f with
  | next=>obtain ⟨σ7,H7,I7,n7⟩:=q7;exact again I7 n7
  | cont=>obtain ⟨σ7,H7,I7,n7⟩:=q7;exact again I7 n7
  | brk=>obtain ⟨σ7,H7,I7,q7⟩:=q7;exact ⟨σ7,H7,I7.unpinned,q7⟩
  | ret v=>obtain ⟨x7,σ7,H7,I7,r7,q7⟩:=q7;exact ⟨x7,σ7,H7,I7.unpinned,r7,q7⟩
end
theorem hJ {K:PySem.W.Frag} {a:Addr} {xs:List V} {g:TG} {tb:TS} {D:cL} {σ:St} {H:Hp} (Pv:Nat->St->Hp->Prop) (h0:Pv 0 σ H) (hl: ∀ i σ H,i<=xs.length->Pv i σ H->SqL K H a xs)
  (hs: ∀ i x σ H,xs[i]? =some x->Pv i σ H->g x σ H fun σ2 H2=>tb {D with nx:=Pv (i+1),ct:=Pv (i+1),bk:=D.nx} σ2 H2) (hd: ∀ σ H,Pv xs.length σ H->D.nx σ H):
  ∃ W:Nat->Nat->St->Hp->Prop,(∃ m,W 0 m σ H)/\ ∀ i m σ H,W i m σ H->
   ((Itl K a).stop i H/\D.nx σ H)\/((Itl K a).go i H/\ ∃ N:St->Hp->Prop,(∀ σ' H',N σ' H'-> ∃ m',m'<m/\W (i+1) m' σ' H')/\ ∀ x H',(Itl K a).yld i H x H'->g x σ H' fun σ2 H2=>tb {D with nx:=N,ct:=N,bk:=D.nx} σ2 H2):=by
 refine ⟨fun i m σ H=>m=xs.length-i/\i<=xs.length/\Pv i σ H,⟨xs.length,by simp,Nat.zero_le _,h0⟩,?_⟩
 rintro i m σ H ⟨rfl,hi,p⟩
 have q:=hl i σ H hi p
 by_cases hlt:i<xs.length
 ·refine .inr ⟨⟨xs,xs[i],q,by simp [hlt]⟩,Pv (i+1),fun σ' H' p'=>⟨xs.length- (i+1),by lia,rfl,hlt,p'⟩,fun x H' y=>?_⟩
  obtain ⟨e,y⟩:=y
  subst e
  exact hs i x σ _ (y xs q) p
 ·have e:i=xs.length:=by lia
  subst e
  exact .inl ⟨⟨xs,q,Nat.le_refl _⟩,hd σ H p⟩
theorem dQ {K:PySem.W.Frag} {a:Addr} {xs:List V} {g:TG} {tb:TS} {D:cL} {σ:St} {H:Hp} (Pv:Nat->St->Hp->Prop) (h0:Pv 0 σ H) (hl: ∀ i σ H,i<=xs.length->Pv i σ H->SqT K H a xs)
  (hs: ∀ i x σ H,xs[i]? =some x->Pv i σ H->g x σ H fun σ2 H2=>tb {D with nx:=Pv (i+1),ct:=Pv (i+1),bk:=D.nx} σ2 H2) (hd: ∀ σ H,Pv xs.length σ H->D.nx σ H):
  ∃ W:Nat->Nat->St->Hp->Prop,(∃ m,W 0 m σ H)/\ ∀ i m σ H,W i m σ H->
   ((Itt K a).stop i H/\D.nx σ H)\/((Itt K a).go i H/\ ∃ N:St->Hp->Prop,(∀ σ' H',N σ' H'-> ∃ m',m'<m/\W (i+1) m' σ' H')/\ ∀ x H',(Itt K a).yld i H x H'->g x σ H' fun σ2 H2=>tb {D with nx:=N,ct:=N,bk:=D.nx} σ2 H2):=by
 refine ⟨fun i m σ H=>m=xs.length-i/\i<=xs.length/\Pv i σ H,⟨xs.length,by simp,Nat.zero_le _,h0⟩,?_⟩
 rintro i m σ H ⟨rfl,hi,p⟩
 have q:=hl i σ H hi p
 by_cases hlt:i<xs.length
 ·refine .inr ⟨⟨xs,xs[i],q,by simp [hlt]⟩,Pv (i+1),fun σ' H' p'=>⟨xs.length- (i+1),by lia,rfl,hlt,p'⟩,fun x H' y=>?_⟩
  obtain ⟨e,y⟩:=y
  subst e
  exact hs i x σ _ (y xs q) p
 ·have e:i=xs.length:=by lia
  subst e
  exact .inl ⟨⟨xs,q,Nat.le_refl _⟩,hd σ H p⟩
theorem cj {lo:Int} {n:Nat} {g:TG} {tb:TS} {D:cL} {σ:St} {H:Hp} (Pv:Nat->St->Hp->Prop) (h0:Pv 0 σ H)
  (hs: ∀ i σ H,i<n->Pv i σ H->g (.int (lo+i)) σ H fun σ2 H2=>tb {D with nx:=Pv (i+1),ct:=Pv (i+1),bk:=D.nx} σ2 H2) (hd: ∀ σ H,Pv n σ H->D.nx σ H):
  ∃ W:Nat->Nat->St->Hp->Prop,(∃ m,W 0 m σ H)/\ ∀ i m σ H,W i m σ H->
   ((Itr lo n).stop i H/\D.nx σ H)\/((Itr lo n).go i H/\ ∃ N:St->Hp->Prop,(∀ σ' H',N σ' H'-> ∃ m',m'<m/\W (i+1) m' σ' H')/\ ∀ x H',(Itr lo n).yld i H x H'->g x σ H' fun σ2 H2=>tb {D with nx:=N,ct:=N,bk:=D.nx} σ2 H2):=by
 refine ⟨fun i m σ H=>m=n-i/\i<=n/\Pv i σ H,⟨n,by simp,Nat.zero_le _,h0⟩,?_⟩
 rintro i m σ H ⟨rfl,hi,p⟩
 by_cases hlt:i<n
 ·refine .inr ⟨hlt,Pv (i+1),fun σ' H' p'=>⟨n- (i+1),by lia,rfl,hlt,p'⟩,fun x H' y=>?_⟩
  obtain ⟨e,y⟩:=y
  subst e y
  exact hs i σ _ hlt p
 ·have e:i=n:=by lia
  subst e
  exact .inl ⟨Nat.le_refl _,hd σ H p⟩
theorem pJ {c:TT} {tb:TS} {D:cL} {σ:St} {H:Hp} (Pv:St->Hp->Prop) (μ:St->Hp->Nat) (h0:Pv σ H)
  (hs: ∀ σ H,Pv σ H->c σ H fun b H1=>if b=true then tb {D with nx:=fun σ' H'=>Pv σ' H'/\μ σ' H'<μ σ H,ct:=fun σ' H'=>Pv σ' H'/\μ σ' H'<μ σ H,bk:=D.nx} σ H1 else D.nx σ H1)
  (mono: ∀ σ H Q Q',(∀ b H1,Q b H1->Q' b H1)->c σ H Q->c σ H Q'):pP c tb D σ H:=by
 refine ⟨fun m σ H=>m=μ σ H/\Pv σ H,⟨_,rfl,h0⟩,?_⟩
 rintro m σ H ⟨rfl,p⟩
 refine mono σ H _ _ (fun b H1 q=>?_) (hs σ H p)
 cases b with
 | true=>exact ⟨_,fun σ' H' ⟨p',l⟩=>⟨_,l,rfl,p'⟩,q⟩
 | false=>exact q
noncomputable abbrev R2:=V->V->Hp->VK->Prop
noncomputable def OpR (X:Cx) (f:Value->Value->Sem Value) (r:R2):Prop:=
 ∀ (pins:List (Addr×Obj)) (s:Shared) (σ:St) (H:Hp) (x y:V) (v u:Value) (Q:VK),Inv X pins σ H s->RelV x v->RelV y u->r x y H Q->
  wpAny (model X.prog X.w) X.A (f v u) (EP X pins σ Q) X.xe s
noncomputable def UnR (X:Cx) (f:Value->Sem Value) (r:V->Hp->VK->Prop):Prop:=
 ∀ (pins:List (Addr×Obj)) (s:Shared) (σ:St) (H:Hp) (x:V) (v:Value) (Q:VK),Inv X pins σ H s->RelV x v->r x H Q->
  wpAny (model X.prog X.w) X.A (f v) (EP X pins σ Q) X.xe s
noncomputable def bV (X:Cx) (f:Value) (r:List V->Hp->VK->Prop):Prop:=
 ∀ (pins:List (Addr×Obj)) (s:Shared) (σ:St) (H:Hp) (xs:List V) (us:List Value) (Q:VK),Inv X pins σ H s->Vals xs us->r xs H Q->
  wpAny (model X.prog X.w) X.A (call f us) (EP X pins σ Q) X.xe s
noncomputable def wU (X:Cx) (r:V->Hp->(Bool->Hp->Prop)->Prop):Prop:=
 ∀ (pins:List (Addr×Obj)) (s:Shared) (σ:St) (H:Hp) (x:V) (v:Value) (Q:Bool->Hp->Prop),Inv X pins σ H s->RelV x v->r x H Q->
  wpAny (model X.prog X.w) X.A (truthy v) (TP X pins σ Q) X.xe s
noncomputable def tOp (r:R2) (ta tb:TE):TE:=fun σ H Q=>ta σ H fun x H1=>tb σ H1 fun y H2=>r x y H2 Q
noncomputable def tUn (r:V->Hp->VK->Prop) (ta:TE):TE:=fun σ H Q=>ta σ H fun x H1=>r x H1 Q
noncomputable def rI (C:Int->Int->Prop) (g:Int->Int->V):R2:=fun x y H Q=> ∃ i j,x=.int i/\y=.int j/\C i j/\Q (g i j) H
noncomputable def rI0 (g:Int->Int->V):R2:=fun x y H Q=> ∃ i j,x=.int i/\y=.int j/\Q (g i j) H
noncomputable def rU (g:Int->V):V->Hp->VK->Prop:=fun x H Q=> ∃ i,x=.int i/\Q (g i) H
section
variable {X:Cx} {a b c:Expr} {ta tb tc:TE} {pos:Pos}
theorem u0 (ha:PE X a ta) (hb:PE X b tb) {pins:List (Addr×Obj)} {s:Shared} {σ:St} {H:Hp} {R:V->V->Hp->Prop} (I:Inv X pins σ H s)
  (h:ta σ H fun x H1=>tb σ H1 fun y H2=>R x y H2) {Q:Value->Shared->Prop} {f:Value->Value->Sem Value}
  (hf: ∀ v u s2 x y H2,Inv X pins σ H2 s2->RelV x v->RelV y u->R x y H2->wpAny (model X.prog X.w) X.A (f v u) Q X.xe s2):
  wpAny (model X.prog X.w) X.A (eval a X.env) (fun v s₁=>wpAny (model X.prog X.w) X.A (eval b X.env) (fun u s₂=>wpAny (model X.prog X.w) X.A (f v u) Q X.xe s₂) X.xe s₁) X.xe s:=by
 refine thn (ha pins s σ H _ I h) fun v s1 ⟨x,H1,I1,r1,q1⟩=>?_
 refine thn (hb pins s1 σ H1 _ I1 q1) fun u s2 ⟨y,H2,I2,r2,q2⟩=>?_
 exact hf v u s2 x y H2 I2 r1 r2 q2
theorem ay {op:Operator} {r:R2} (ho:OpR X (binaryOp op) r) (ha:PE X a ta) (hb:PE X b tb):PE X (.BinOp a op b pos) (tOp r ta tb):=by
 intro pins s σ H Q I h
 exact wpAny_BinOp (u0 ha hb I h fun v u s2 x y H2 I2 rx ry q=>ho pins s2 σ H2 x y v u Q I2 rx ry q)
theorem fG {op:UnaryOp} {r:V->Hp->VK->Prop} (ho:UnR X (unaryOp op) r) (ha:PE X a ta):PE X (.UnaryOp op a pos) (tUn r ta):=by
 intro pins s σ H Q I h
 exact UnaryOp_ (thn (ha pins s σ H _ I h) fun v s1 ⟨x,H1,I1,r1,q1⟩=>ho pins s1 σ H1 x v Q I1 r1 q1)
theorem opI {f:Value->Value->Sem Value} {C:Int->Int->Prop} {g:Int->Int->Int}
  (rule: ∀ (i j:Int) (t u:Tok) (s:Shared) (Q:Value->Shared->Prop) (E:Value->Shared->Prop),C i j->Q (.int (g i j) s.toks) {s with toks:=s.toks+1}->wpAny (model X.prog X.w) X.A (f (.int i t) (.int j u)) Q E s):
  OpR X f (rI C fun i j=>.int (g i j)):=by
 intro pins s σ H x y v u Q I rx ry h
 obtain ⟨i,j,rfl,rfl,hc,q⟩:=h
 obtain ⟨t,rfl⟩:=rx
 obtain ⟨t',rfl⟩:=ry
 exact rule i j t t' s _ _ hc ⟨.int (g i j),H,I.tok _,⟨_,rfl⟩,q⟩
theorem vG {f:Value->Value->Sem Value} {g:Int->Int->Int}
  (rule: ∀ (i j:Int) (t u:Tok) (s:Shared) (Q:Value->Shared->Prop) (E:Value->Shared->Prop),Q (.int (g i j) s.toks) {s with toks:=s.toks+1}->wpAny (model X.prog X.w) X.A (f (.int i t) (.int j u)) Q E s):
  OpR X f (rI0 fun i j=>.int (g i j)):=by
 intro pins s σ H x y v u Q I rx ry h
 obtain ⟨i,j,rfl,rfl,q⟩:=h
 obtain ⟨t,rfl⟩:=rx
 obtain ⟨t',rfl⟩:=ry
 exact rule i j t t' s _ _ ⟨.int (g i j),H,I.tok _,⟨_,rfl⟩,q⟩
theorem uL {f:Value->Value->Sem Value} {g:Int->Int->Bool}
  (rule: ∀ (i j:Int) (t u:Tok) (s:Shared) (Q:Value->Shared->Prop) (E:Value->Shared->Prop),Q (.bool (g i j)) s->wpAny (model X.prog X.w) X.A (f (.int i t) (.int j u)) Q E s):
  OpR X f (rI0 fun i j=>.bl (g i j)):=by
 intro pins s σ H x y v u Q I rx ry h
 obtain ⟨i,j,rfl,rfl,q⟩:=h
 obtain ⟨t,rfl⟩:=rx
 obtain ⟨t',rfl⟩:=ry
 exact rule i j t t' s _ _ ⟨.bl (g i j),H,I,rfl,q⟩
noncomputable def wY (i j:Int):Prop:=0<j/\j<1073741824
noncomputable def CMul (i j:Int):Prop:=(-(2^64) <i/\i<2^64)\/(-(2^64) <j/\j<2^64)
theorem CMul.ok {i j:Int} (h:CMul i j):IntMulOk i j:=by
 rcases h with ⟨h1,h2⟩ | ⟨h1,h2⟩
 ·exact .of_left (intBits_le_64 h1 h2)
 ·exact .of_right (intBits_le_64 h1 h2)
theorem aZ:OpR X (binaryOp .Add) (rI0 fun i j=>.int (i+j)):=vG fun _ _ _ _ _ _ _ q=>add_int q
theorem dn:OpR X (binaryOp .Sub) (rI0 fun i j=>.int (i-j)):=vG fun _ _ _ _ _ _ _ q=>sub_int q
theorem cR:OpR X (binaryOp .Mult) (rI CMul fun i j=>.int (i*j)):=opI fun _ _ _ _ _ _ _ hc q=>mul_int q hc.ok
theorem nE:OpR X (binaryOp .FloorDiv) (rI wY fun i j=>.int (i/j)):=opI fun i j _ _ _ _ _ hc q=>by
 have h1:(0:Int) <j:=hc.1
 have h2:j<1073741824:=hc.2
 exact floordiv_int (by lia) (by rw [Int.fdiv_eq_ediv_of_nonneg i (by lia)];exact q) (.inl (PyProof.noPylong_small (by lia)))
theorem cH:OpR X (binaryOp .Mod) (rI (fun _ j=>0<j) fun i j=>.int (i%j)):=opI fun i j _ _ _ _ _ hc q=>by
 have h1:(0:Int) <j:=hc
 exact mod_int' (by lia) (by rw [Int.fmod_eq_emod_of_nonneg i (by lia)];exact q)
theorem unI {f:Value->Sem Value} {g:Int->Int}
  (rule: ∀ (i:Int) (t:Tok) (s:Shared) (Q:Value->Shared->Prop) (E:Value->Shared->Prop),Q (.int (g i) s.toks) {s with toks:=s.toks+1}->wpAny (model X.prog X.w) X.A (f (.int i t)) Q E s):
  UnR X f (rU fun i=>.int (g i)):=by
 intro pins s σ H x v Q I rx h
 obtain ⟨i,rfl,q⟩:=h
 obtain ⟨t,rfl⟩:=rx
 exact rule i t s _ _ ⟨.int (g i),H,I.tok _,⟨_,rfl⟩,q⟩
theorem dB:UnR X (unaryOp .USub) (rU fun i=>.int (-i)):=unI fun _ _ _ _ _ q=>neg_int q
end
noncomputable def vq:V->V->Bool
 | .non,.non=>true | .non,.int _=>true | .int _,.non=>true | .non,.bl _=>true | .bl _,.non=>true | .non,.str _=>true | .str _,.non=>true
 | .int _,.int _=>true | .bl _,.bl _=>true | .str _,.str _=>true | .byt _,.byt _=>true
 | .int _,.str _=>true | .str _,.int _=>true | .bl _,.str _=>true | .str _,.bl _=>true
 | _,_=>false
noncomputable def rEq:R2:=fun x y H Q=>vq x y=true/\Q (.bl (decide (x=y))) H
noncomputable def rNe:R2:=fun x y H Q=>vq x y=true/\Q (.bl (!decide (x=y))) H
theorem nR {i j:Int}:decide (V.int i=V.int j)=(i==j):=by
 rw [Bool.eq_iff_iff]
 simp
theorem rR {i j:Bool}:decide (V.bl i=V.bl j)=(i==j):=by
 rw [Bool.eq_iff_iff]
 simp
theorem nQ {i j:Str}:decide (V.str i=V.str j)=(i==j):=by
 rw [Bool.eq_iff_iff]
 simp
theorem nS {i j:Array UInt8}:decide (V.byt i=V.byt j)=(i.toList==j.toList):=by
 rw [Bool.eq_iff_iff]
 cases i
 cases j
 simp
section
variable {X:Cx} {a b c:Expr} {ta tb tc:TE} {pos:Pos}
theorem aN {pins:List (Addr×Obj)} {σ:St} {H:Hp} {s:Shared} {Q:VK} {k k':Bool} (I:Inv X pins σ H s) (q:Q (.bl k) H) (e:k=k'):EP X pins σ Q (.bool k') s:=by
 subst e
 exact ⟨.bl k,H,I,rfl,q⟩
theorem cp:OpR X (compareOp .Eq) rEq:=by
 intro pins s σ H x y v u Q I rx ry h
 obtain ⟨hs,q⟩:=h
 cases x with
 | non=>
  cases rx
  cases y with
  | non=>cases ry;exact PySem.EqNone.eq_none_none (aN I q (by simp))
  | bl j=>cases ry;exact PySem.EqNone.eq_none_bool (aN I q (by simp))
  | int j=>obtain ⟨t',rfl⟩:=ry;exact PySem.EqNone.eq_none_int (aN I q (by simp))
  | str j=>obtain ⟨t',rfl⟩:=ry;exact PySem.EqNone.eq_none_str (aN I q (by simp))
  | _=>exact absurd (show false=true from hs) Bool.false_ne_true
 | bl i=>
  cases rx
  cases y with
  | non=>cases ry;exact PySem.EqNone.eq_bool_none (aN I q (by simp))
  | bl j=>cases ry;exact eq_bool (aN I q rR)
  | str j=>obtain ⟨t',rfl⟩:=ry;exact PySem.EqMixed.eq_bool_str (aN I q (by simp))
  | _=>exact absurd (show false=true from hs) Bool.false_ne_true
 | int i=>
  obtain ⟨t,rfl⟩:=rx
  cases y with
  | non=>cases ry;exact PySem.EqNone.eq_int_none (aN I q (by simp))
  | int j=>obtain ⟨t',rfl⟩:=ry;exact eq_int (aN I q nR)
  | str j=>obtain ⟨t',rfl⟩:=ry;exact PySem.EqMixed.eq_int_str (aN I q (by simp))
  | _=>exact absurd (show false=true from hs) Bool.false_ne_true
 | str i=>
  obtain ⟨t,rfl⟩:=rx
  cases y with
  | non=>cases ry;exact PySem.EqNone.eq_str_none (aN I q (by simp))
  | bl j=>cases ry;exact PySem.EqMixed.eq_str_bool (aN I q (by simp))
  | int j=>obtain ⟨t',rfl⟩:=ry;exact PySem.EqMixed.eq_str_int (aN I q (by simp))
  | str j=>obtain ⟨t',rfl⟩:=ry;exact eq_str (aN I q nQ)
  | _=>exact absurd (show false=true from hs) Bool.false_ne_true
 | byt i=>
  obtain ⟨t,rfl⟩:=rx
  cases y with
  | byt j=>obtain ⟨t',rfl⟩:=ry;exact PySem.W.eq_bytes (aN I q nS)
  | _=>exact absurd (show false=true from hs) Bool.false_ne_true
 | _=>cases y <;> exact absurd (show false=true from hs) Bool.false_ne_true
theorem gT:OpR X (compareOp .NotEq) rNe:=by
 intro pins s σ H x y v u Q I rx ry h
 obtain ⟨hs,q⟩:=h
 cases x with
 | non=>
  cases rx
  cases y with
  | non=>cases ry;exact PySem.EqNone.ne_none_none (aN I q (by simp))
  | bl j=>cases ry;exact PySem.EqNone.ne_none_bool (aN I q (by simp))
  | int j=>obtain ⟨t',rfl⟩:=ry;exact PySem.EqNone.ne_none_int (aN I q (by simp))
  | str j=>obtain ⟨t',rfl⟩:=ry;exact PySem.EqNone.ne_none_str (aN I q (by simp))
  | _=>exact absurd (show false=true from hs) Bool.false_ne_true
 | bl i=>
  cases rx
  cases y with
  | non=>cases ry;exact PySem.EqNone.ne_bool_none (aN I q (by simp))
  | bl j=>cases ry;exact ne_bool (aN I q (congrArg not rR))
  | str j=>obtain ⟨t',rfl⟩:=ry;exact PySem.EqMixed.ne_bool_str (aN I q (by simp))
  | _=>exact absurd (show false=true from hs) Bool.false_ne_true
 | int i=>
  obtain ⟨t,rfl⟩:=rx
  cases y with
  | non=>cases ry;exact PySem.EqNone.ne_int_none (aN I q (by simp))
  | int j=>obtain ⟨t',rfl⟩:=ry;exact ne_int (aN I q (congrArg not nR))
  | str j=>obtain ⟨t',rfl⟩:=ry;exact PySem.EqMixed.ne_int_str (aN I q (by simp))
  | _=>exact absurd (show false=true from hs) Bool.false_ne_true
 | str i=>
  obtain ⟨t,rfl⟩:=rx
  cases y with
  | non=>cases ry;exact PySem.EqNone.ne_str_none (aN I q (by simp))
  | bl j=>cases ry;exact PySem.EqMixed.ne_str_bool (aN I q (by simp))
  | int j=>obtain ⟨t',rfl⟩:=ry;exact PySem.EqMixed.ne_str_int (aN I q (by simp))
  | str j=>obtain ⟨t',rfl⟩:=ry;exact ne_str (aN I q (congrArg not nQ))
  | _=>exact absurd (show false=true from hs) Bool.false_ne_true
 | byt i=>
  obtain ⟨t,rfl⟩:=rx
  cases y with
  | byt j=>obtain ⟨t',rfl⟩:=ry;exact PySem.W.ne_bytes (aN I q (congrArg not nS))
  | _=>exact absurd (show false=true from hs) Bool.false_ne_true
 | _=>cases y <;> exact absurd (show false=true from hs) Bool.false_ne_true
theorem iM:OpR X (compareOp .Lt) (rI0 fun i j=>.bl (decide (i<j))):=uL fun _ _ _ _ _ _ _ q=>lt_int q
theorem qQ:OpR X (compareOp .Gt) (rI0 fun i j=>.bl (decide (j<i))):=uL fun _ _ _ _ _ _ _ q=>gt_int q
theorem ub:OpR X (compareOp .GtE) (rI0 fun i j=>.bl (decide (j<=i))):=uL fun _ _ _ _ _ _ _ q=>ge_int q
theorem uJ:OpR X (compareOp .Is) (fun x y H Q=>y=.non/\Q (.bl (decide (x=.non))) H):=by
 intro pins s σ H x y v u Q I rx ry h
 obtain ⟨rfl,q⟩:=h
 cases ry
 refine is_none_gen (aN I q ?_)
 cases x <;> first
  | (cases rx;rfl)
  | (obtain ⟨t,rfl⟩:=rx;rfl)
theorem aH (b:Expr) {op:CmpOp} (h:op≠ .In:=by decide) (h2:op≠ .NotIn:=by decide):behindInMarks op b=false:=by
 have e1:(op==CmpOp.In)=false:=by cases op <;> first | rfl | exact absurd rfl h
 have e2:(op==CmpOp.NotIn)=false:=by cases op <;> first | rfl | exact absurd rfl h2
 cases b <;> simp [behindInMarks,e1,e2]
theorem di {op:CmpOp} {r:R2} (ho:OpR X (compareOp op) r) (ha:PE X a ta) (hb:PE X b tb) (hm:behindInMarks op b=false):PE X (.Compare a [op] [b] pos) (tOp r ta tb):=by
 intro pins s σ H Q I h
 exact wpAny_Compare1 (u0 ha hb I h fun v u s2 x y H2 I2 rx ry q=>ho pins s2 σ H2 x y v u Q I2 rx ry q) hm
noncomputable def ve (t:TE):TT:=fun σ H Q=>t σ H fun x H'=> ∃ k,x=.bl k/\Q k H'
theorem au {op:CmpOp} {r:R2} (ho:OpR X (compareOp op) r) (ha:PE X a ta) (hb:PE X b tb) (hm:behindInMarks op b=false):PT X (.Compare a [op] [b] pos) (ve (tOp r ta tb)):=by
 intro pins s σ H Q I h
 refine wpAny_isTrue_Compare1 (thn (ha pins s σ H _ I h) fun v s1 ⟨x,H1,I1,r1,q1⟩=>thn (hb pins s1 σ H1 _ I1 q1) fun u s2 ⟨y,H2,I2,r2,q2⟩=>
  thn (ho pins s2 σ H2 x y v u _ I2 r1 r2 q2) fun c s3 ⟨z,H3,I3,r3,k,e,q3⟩=>?_) hm
 subst e
 cases r3
 exact wpAny_truthy_bool ⟨H3,I3,q3⟩
noncomputable def v5 (K:PySem.W.Frag) (x:V) (H:Hp) (k:Bool):Prop:=
 match x with
 | .non=>k=false
 | .bl b=>k=b
 | .int i=>k=(i !=0)
 | .str y=>y.length<=sizeLine/\k=((y.length:Int)!=0)
 | .byt y=>y.size<=sizeLine/\k=((y.size:Int)!=0)
 | .ref p=>(∃ xs,SqL K H p xs/\k= !xs.isEmpty)\/(∃ xs,SqT K H p xs/\k= !xs.isEmpty)\/ ∃ kvs,H p=some (.dK kvs)/\k= !kvs.isEmpty
 | _=>False
theorem lX {κ:Type} {kvs:List (κ×V)} {vs:List (κ×Value)} (r:KV kvs vs):(!vs.isEmpty)= !kvs.isEmpty:=by
 cases r <;> rfl
theorem gZ {xs:List V} {its:List Value} (r:Vals xs its):(!its.toArray.isEmpty)= !xs.isEmpty:=by
 cases r <;> simp
theorem ft:(sizeLine:Nat) <2^63:=by rw [sizeLine_eq];decide
theorem uh:wU X (fun x H Q=> ∃ k,v5 X.K x H k/\Q k H):=by
 intro pins s σ H x v Q I rx h
 obtain ⟨k,e,q⟩:=h
 have hl:=ft
 have hs:sizeLine=16777216:=sizeLine_eq
 cases x with
 | non=>
  cases rx
  have e':k=false:=e
  subst e'
  exact truthy_none ⟨H,I,q⟩
 | bl b=>
  cases rx
  have e':k=b:=e
  subst e'
  exact wpAny_truthy_bool ⟨H,I,q⟩
 | int i=>
  obtain ⟨t,rfl⟩:=rx
  have e':k=(i !=0):=e
  subst e'
  exact PySem.P.truthy_int ⟨H,I,q⟩
 | str y=>
  obtain ⟨t,rfl⟩:=rx
  obtain ⟨hy,e'⟩:y.length<=sizeLine/\k=((y.length:Int)!=0):=e
  subst e'
  exact PySem.P.truthy_str (by lia) ⟨H,I.tok _,q⟩
 | byt y=>
  obtain ⟨t,rfl⟩:=rx
  obtain ⟨hy,e'⟩:y.size<=sizeLine/\k=((y.size:Int)!=0):=e
  subst e'
  exact PySem.W.truthy_bytes (by lia) ⟨H,I.tok _,q⟩
 | ref p=>
  cases rx
  have e':(∃ xs,SqL X.K H p xs/\k= !xs.isEmpty)\/(∃ xs,SqT X.K H p xs/\k= !xs.isEmpty)\/ ∃ kvs,H p=some (.dK kvs)/\k= !kvs.isEmpty:=e
  rcases e' with ⟨xs,hx,e'⟩ | ⟨xs,hx,e'⟩ | ⟨kvs,hx,e'⟩
  ·subst e'
   obtain ⟨its,r,pl,hz⟩:=I.list hx
   have hlen:=r.length
   exact wpAny_truthy_list pl.isList (by simp only [List.size_toArray];lia) ⟨H,I.tok _,by rw [gZ r];exact q⟩
  ·subst e'
   obtain ⟨its,r,pl,hz⟩:=I.tuple hx
   have hlen:=r.length
   exact truthy_tuple pl (by simp only [List.size_toArray];lia) ⟨H,I.tok _,by rw [gZ r];exact q⟩
  ·subst e'
   obtain ⟨hz,hS,vs,r,m⟩:kvs.length<=sizeLine/\(p==sysModules)=false/\ ∃ vs,KV kvs vs/\s.heap.DictOf (az X.prog X.w) p vs:=I.hok p _ hx
   have hlen:kvs.length=vs.length:=Paired.length r
   exact wpAny_truthy_dict hS m (by lia) ⟨H,I.tok _,by rw [lX r];exact q⟩
 | _=>exact (show False from e).elim
theorem qD (ha:PE X a ta) (he: ∀ whole,isTrue a X.env whole=(do let v <- whole;standAt a.pos;holding [v] (truthy v))):
  PT X a (fun σ H Q=>ta σ H fun x H'=> ∃ k,v5 X.K x H' k/\Q k H'):=by
 intro pins s σ H Q I h
 exact isTrue_plain (thn (ha pins s σ H _ I h) fun v s1 ⟨x,H1,I1,r1,q1⟩=>uh pins s1 σ H1 x v Q I1 r1 q1) (he _)
theorem ee:OpR X (binaryOp .Add) (fun x y H Q=> ∃ i j,x=.str i/\y=.str j/\i.length+j.length<=sizeLine/\Q (.str (i++j)) H):=by
 intro pins s σ H x y v u Q I rx ry h
 obtain ⟨i,j,rfl,rfl,hz,q⟩:=h
 obtain ⟨t,rfl⟩:=rx
 obtain ⟨t',rfl⟩:=ry
 exact add_str (fun t' tk=>⟨.str (i++j),H,I.tok _,⟨_,rfl⟩,q⟩) hz
theorem cI {x:V} {us:List Value} (r:Vals [x] us): ∃ u,us=[u]/\RelV x u:=by
 cases r with
 | cons r1 r2=>cases r2;exact ⟨_,rfl,r1⟩
theorem gj {x y:V} {us:List Value} (r:Vals [x,y] us): ∃ u w',us=[u,w']/\RelV x u/\RelV y w':=by
 cases r with
 | cons r1 r2=>
  cases r2 with
  | cons r3 r4=>cases r4;exact ⟨_,_,rfl,r1,r3⟩
theorem pG (hc:X.calm=true):bV X (.builtin "max") (fun xs H Q=> ∃ i j,xs=[.int i,.int j]/\Q (.int (if j>i then j else i)) H):=by
 intro pins s σ H xs us Q I r h
 obtain ⟨i,j,rfl,q⟩:=h
 obtain ⟨u,w',rfl,⟨t,rfl⟩,⟨t',rfl⟩⟩:=gj r
 refine max_two_ints (I.ok.hd hc) fun h' tk k=>⟨_,H,I.kept k,?_,q⟩
 by_cases hj:j>i
 ·rw [if_pos hj,if_pos hj];exact ⟨_,rfl⟩
 ·rw [if_neg hj,if_neg hj];exact ⟨_,rfl⟩
theorem pE (hc:X.calm=true):bV X (.builtin "min") (fun xs H Q=> ∃ i j,xs=[.int i,.int j]/\Q (.int (if j<i then j else i)) H):=by
 intro pins s σ H xs us Q I r h
 obtain ⟨i,j,rfl,q⟩:=h
 obtain ⟨u,w',rfl,⟨t,rfl⟩,⟨t',rfl⟩⟩:=gj r
 refine min_two_ints (I.ok.hd hc) fun h' tk k=>⟨_,H,I.kept k,?_,q⟩
 by_cases hj:j<i
 ·rw [if_pos hj,if_pos hj];exact ⟨_,rfl⟩
 ·rw [if_neg hj,if_neg hj];exact ⟨_,rfl⟩
theorem pI:bV X (.type "int") (fun xs H Q=>(∃ i,xs=[.int i]/\Q (.int i) H)\/ ∃ k,xs=[.bl k]/\Q (.int (if k then 1 else 0)) H):=by
 intro pins s σ H xs us Q I r h
 rcases h with ⟨i,rfl,q⟩ | ⟨k,rfl,q⟩
 ·obtain ⟨u,rfl,t,rfl⟩:=cI r
  exact call_int_int ⟨.int i,H,I,⟨_,rfl⟩,q⟩
 ·obtain ⟨u,rfl,r1⟩:=cI r
  cases r1
  exact call_int_bool ⟨.int (if k then 1 else 0),H,I.tok _,⟨_,rfl⟩,q⟩
end
structure ObjM (h:Heap) (x dx C:Addr) (mA:Str->Option Value):Prop where
 obj:h.get? x=some (PySem.W.instObj C dx)
 ns:h.Ns1 dx mA
 ne:dx≠x
theorem oX {h:Heap} {dx:Addr} {mA:Str->Option Value} (n:h.Ns1 dx mA): ∃ od,h.get? dx=some od/\ ∀ name,PySem.W.lookIn name od=some (mA name):=by
 obtain ⟨o,es,ep,ho,hd,hk,_,hm⟩:=n
 refine ⟨o,ho,fun name=>?_⟩
 have e:=hm name
 unfold nsFind findBy at e
 rw [<- Array.find?_toList]at e
 unfold PySem.W.lookIn
 rw [hd]
 dsimp only
 split
 ·rename_i y q
  rw [q]at e
  exact congrArg some e
 ·rename_i q
  rw [q]at e
  have a:es.toList.any (·.refKey)=false:=by
   rw [List.any_eq_false]
   intro y hy
   obtain ⟨z,t,hkey⟩:=hk y (Array.mem_toList_iff.mp hy)
   simp [DictEntry.refKey,hkey]
  have a': ¬ es.toList.any (·.refKey)=true:=by rw [a];exact Bool.false_ne_true
  rw [if_neg a']
  exact congrArg some e
theorem ObjM.look {h:Heap} {x dx C:Addr} {mA:Str->Option Value} (I:ObjM h x dx C mA): ∃ od,PySem.W.InstAt h x (PySem.W.instObj C dx) C (some od)/\ ∀ name,PySem.W.lookIn name od=some (mA name):=
 let ⟨od,ho,hl⟩:=oX I.ns
 ⟨od,⟨I.obj,rfl,rfl,ho⟩,hl⟩
theorem RelO.some_of {v:V} {o:Option Value} (r:RelO (some v) o): ∃ u,o=some u/\RelV v u:=by
 cases o with
 | none=>exact (show False from r).elim
 | some u=>exact ⟨u,rfl,r⟩
section
variable {P:Program} {w:World} {H H':Hp} {h h':Heap} {a C dx:Addr} {fs fs':List (Str×V)}
theorem tz (hok:HOk P w H h) (e:H a=some (.ins C dx fs)): ∃ mA,ObjM h a dx C mA/\(∀ f,RelO (fs.lookup f) (mA f))/\PySem.Within mA (fs.map (·.1))/\fs.length<=1000/\H dx=some (.own a):=by
 obtain ⟨d,z,ne,ob,mA,n,r,q⟩:=(show ObjOk P w H h a (.ins C dx fs)from hok a _ e)
 exact ⟨mA,⟨ob,n,ne⟩,r,q,z,d⟩
end
structure Cls (K:PySem.W.Frag) (C:Addr):Prop where
 pg:PySem.W.plainGet K C Str.empty=true
 hd:PySem.W.hasDictIn K C=true
 po:PySem.W.plainOver K C=true
 sa:PySem.W.findIn K (.ref C) "__setattr__"=some (some (.builtin "object.__setattr__"))
theorem Cls.get {K:PySem.W.Frag} {C:Addr} (c:Cls K C) (f:Str):PySem.W.plainGet K C f=true:=c.pg
section
variable {X:Cx} {pins:List (Addr×Obj)} {σ:St} {H:Hp} {s:Shared} {A:Around} {E:Value->Shared->Prop} {Q:Value->Shared->Prop} {c:Value} {b:Bool}
inductive ff (K:PySem.W.Frag) (H:Hp):V->Value->Prop where
 | non:ff K H .non (.type "NoneType")
 | bl (x:Bool):ff K H (.bl x) (.type "bool")
 | int (i:Int):ff K H (.int i) (.type "int")
 | str (x:Str):ff K H (.str x) (.type "str")
 | flt (x:UInt64):ff K H (.flt x) (.type "float")
 | lst {a:Addr} {xs:List V} (e:H a=some (.lst xs)):ff K H (.ref a) (.type "list")
 | frz {a:Addr} {o:Obj} {xs:List V} (e:H a=some (.frz o (.lst xs))):ff K H (.ref a) (.type "list")
 | tup {a:Addr} {xs:List V} (e:H a=some (.tup xs)):ff K H (.ref a) (.type "tuple")
 | dK {a:Addr} {kvs:List (Key×V)} (e:H a=some (.dK kvs)):ff K H (.ref a) (.type "dict")
 | dT {a:Addr} {kvs:List (List Key×V)} (e:H a=some (.dT kvs)):ff K H (.ref a) (.type "dict")
 | ins {a C dx:Addr} {fs:List (Str×V)} (e:H a=some (.ins C dx fs)) (cl:Cls K C) (ha:PySem.W.findIn K (.ref C) "__class__"=some (some (.builtin "object.__class__")))
   (hn:PySem.W.specialIn K (.builtin "object.__class__") "__get__"=some (some (.builtin "getset_descriptor.__get__"))) (htk:PySem.W.takesIn K (.builtin "object.__class__")=some true)
   (hm:PySem.W.mroIn K C (.type "object")=some true):ff K H (.ref a) (.ref C)
theorem pf {x:V} {u t:Value} (I:Inv X pins σ H s) (rx:RelV x u) (ty:ff X.K H x t) (e:PySem.W.kitOne X.K t c=some b) (h: ∀ tk,Q (.bool b) {s with toks:=tk}):
  wpAny (model X.prog X.w) A (call (.builtin "isinstance") [u,c]) Q E s:=by
 cases ty with
 | non=>cases (show u=Value.none from rx);exact PySem.W.kia_one PySem.W.kitx_none I.kIn True.intro e (fun z=>nomatch z) h
 | bl y=>cases (show u=Value.bool y from rx);exact PySem.W.kia_one PySem.W.kitx_bool I.kIn True.intro e (fun z=>nomatch z) h
 | int i=>obtain ⟨t,q⟩:=(show ∃ t,u=Value.int i t from rx);cases q;exact PySem.W.kia_one PySem.W.kitx_int I.kIn True.intro e (fun z=>nomatch z) h
 | str y=>obtain ⟨t,q⟩:=(show ∃ t,u=Value.str y t from rx);cases q;exact PySem.W.kia_one PySem.W.kitx_str I.kIn True.intro e (fun z=>nomatch z) h
 | flt y=>obtain ⟨t,q⟩:=(show ∃ t,u=Value.float y t from rx);cases q;exact PySem.W.kia_one PySem.W.kitx_float I.kIn True.intro e (fun z=>nomatch z) h
 | @lst a xs ea=>
  cases (show u=Value.ref a from rx)
  obtain ⟨_,_,n,_,h1⟩:=(show ObjOk X.prog X.w H s.heap a (.lst xs)from I.hok a _ ea)
  exact PySem.W.kia_one PySem.W.kitx_list I.kIn ⟨_,h1,rfl⟩ e (fun z=>nomatch z) h
 | @frz a ob xs ea=>
  cases (show u=Value.ref a from rx)
  obtain ⟨_,_,_,n,_,h1⟩:=(show ObjOk X.prog X.w H s.heap a (.frz ob (.lst xs))from I.hok a _ ea)
  exact PySem.W.kia_one PySem.W.kitx_list I.kIn ⟨_,h1,rfl⟩ e (fun z=>nomatch z) h
 | @tup a xs ea=>
  cases (show u=Value.ref a from rx)
  obtain ⟨_,_,_,p⟩:=(show ObjOk X.prog X.w H s.heap a (.tup xs)from I.hok a _ ea)
  obtain ⟨o,h1,h2,_⟩:=p
  exact PySem.W.kia_one PySem.W.kitx_tuple I.kIn ⟨o,h1,h2⟩ e (fun z=>nomatch z) h
 | @dK a kvs ea=>
  cases (show u=Value.ref a from rx)
  obtain ⟨_,_,vs,_,p⟩:=(show ObjOk X.prog X.w H s.heap a (.dK kvs)from I.hok a _ ea)
  obtain ⟨o,es,ep,h1,h2,_⟩:=p
  exact PySem.W.kia_one PySem.W.kitx_dict I.kIn ⟨o,h1,h2.1⟩ e (fun z=>nomatch z) h
 | @dT a kvs ea=>
  cases (show u=Value.ref a from rx)
  obtain ⟨_,_,xs,_,o,es,ep,h1,h2,_⟩:=(show ObjOk X.prog X.w H s.heap a (.dT kvs)from I.hok a _ ea)
  exact PySem.W.kia_one PySem.W.kitx_dict I.kIn ⟨o,h1,h2.1⟩ e (fun z=>nomatch z) h
 | @ins a C dx fs ea cl ha hn htk hm=>
  cases (show u=Value.ref a from rx)
  obtain ⟨mA,O,_⟩:=tz I.hok ea
  obtain ⟨od,J,_⟩:=O.look
  exact PySem.W.kia_one (PySem.W.kitx_own (cl.get _) cl.hd ha hn htk hm) I.kIn J e (fun z=>nomatch z) h
end
structure Room (k:Nat) (A:Around):Prop where
 hd:A.handled=none
 dp:A.depth+3*k+5<recursionLimit
 un:A.units+16*k+200<cLine
theorem Room.mono {j k:Nat} {A:Around} (r:Room k A) (h:j<=k):Room j A:=⟨r.hd,by have:=r.dp;lia,by have:=r.un;lia⟩
theorem Room.deeper {k:Nat} {A:Around} (r:Room (k+1) A) (env:Env):Room k (A.deeper env):=
 ⟨r.hd,by have:=r.dp;show A.depth+1+3*k+5<_;lia,by have:=r.un;show A.units+3+16*k+200<_;lia⟩
theorem Room.depth {k:Nat} {A:Around} (r:Room k A):A.depth<recursionLimit:=by have:=r.dp;lia
theorem Room.units {k:Nat} {A:Around} (r:Room k A):A.units+64<cLine:=by have:=r.un;lia
theorem Room.units0 {k:Nat} {A:Around} (r:Room k A):A.units<cLine:=by have:=r.un;lia
noncomputable def wp:TA:=fun _ H Q=>Q [] H
noncomputable def tY (ta:TE) (tr:TA):TA:=fun σ H Q=>ta σ H fun x H1=>tr σ H1 fun xs H2=>Q (x::xs) H2
section
variable {X:Cx} {e:Expr} {es:List Expr} {te:TE} {t:TA} {pos:Pos}
theorem ac:PA X [] wp:=fun _ _ _ _ H Q I h=>Calls.spliced_nil ⟨[],H,I,.nil,h⟩
theorem aa (ha:PE X e te) (hr:PA X es t) (hs:starEach (e::es) X.env=(false,eval e X.env)::starEach es X.env:=by rfl):PA X (e::es) (tY te t):=by
 intro pos pins s σ H Q I h
 rw [hs]
 show wpAny _ _ (spliced ((false,eval e X.env)::backTo pos (starEach es X.env))) _ _ s
 refine Calls.spliced_cons (thn (ha pins s σ H _ I h) fun u s1 ⟨x,H1,I1,r1,q1⟩=>?_)
 exact thn (hr pos pins s1 σ H1 _ I1 q1) fun us s2 ⟨xs,H2,I2,r2,q2⟩=>⟨x::xs,H2,I2,.cons r1 r2,q2⟩
noncomputable def wj (t:TA):TE:=fun σ H Q=>t σ H fun xs H1=>xs.length<=sizeLine/\ ∀ p,H1 p=none->Q (.ref p) (upd H1 p (.tup xs))
noncomputable def vi (t:TA):TE:=fun σ H Q=>t σ H fun xs H1=>xs.length<=sizeLine/\ ∀ p,H1 p=none->Q (.ref p) (upd H1 p (.lst xs))
theorem aB {x1} (h:PA X es t):PE X (.Tuple es x1 pos) (wj t):=by
 intro pins s σ H Q I hq
 refine wpAny_Tuple_spliced (thn (h pos pins s σ H _ I hq) fun us s1 ⟨xs,H1,I1,r,z,q⟩=>⟨by rw [<- r.length];exact z,?_⟩)
 have hf:H1 s1.heap.objs.size=none:=I1.hok.fresh (Nat.le_refl _)
 refine ⟨.ref s1.heap.objs.size,upd H1 s1.heap.objs.size (.tup xs),I1.laid (t':=s1.toks) (fun b u e=>Heap.get?_push_of_some _ e) (Nat.le_refl _) ?_,rfl,q _ hf⟩
 exact ⟨z,us,r,⟨_,Heap.get?_push_size _ rfl,rfl,_,rfl⟩⟩
theorem aY (h:PA X es t):PE X (.List es pos) (vi t):=by
 intro pins s σ H Q I hq
 refine wpAny_List_spliced (thn (h pos pins s σ H _ I hq) fun us s1 ⟨xs,H1,I1,r,z,q⟩=>⟨by rw [<- r.length];exact z,?_⟩)
 have hf:H1 s1.heap.objs.size=none:=I1.hok.fresh (Nat.le_refl _)
 refine ⟨.ref s1.heap.objs.size,upd H1 s1.heap.objs.size (.lst xs),I1.laid (t':=s1.toks) (fun b u e=>Heap.get?_push_of_some _ e) (Nat.le_refl _) ?_,rfl,q _ hf⟩
 exact ⟨z,us,0,r,Heap.get?_push_size _ rfl⟩
end
noncomputable abbrev Sp:=List V->Hp->VK->XK->Prop
noncomputable abbrev CXT:=List Env->Hp->Shared->XK->Value->Shared->Prop
structure tV (P:Program) (w:World) (K:PySem.W.Frag) (mg:Str->Option Value) (base:Heap) (A:Around) (outer:List Env) (s:Shared) (H:Hp):Prop where
 frames:A.frames=some outer
 mod:Mod K mg base
 bs: ∀ b o,base.get? b=some o->s.heap.get? b=some o/\H b=none
 bsz:base.objs.size<=s.heap.objs.size
 funs:s.heap.FunFrames base outer
 frf: ∀ b∈frs outer,H b=none
 hok:HOk P w H s.heap
 bare:AllBare s.gens
noncomputable def CE (outer:List Env) (P:Program) (w:World) (H:Hp) (s:Shared) (Q:VK) (u:Value) (s':Shared):Prop:=
 ∃ v H',s'.os=s.os/\AllBare s'.gens/\Un (frs outer) [] H H' s.heap s'.heap/\HOk P w H' s'.heap/\RelV v u/\Q v H'
noncomputable def CR (CX:CXT) (outer:List Env) (P:Program) (w:World) (H:Hp) (s:Shared) (Q:VK) (E:XK) (r:Result) (s':Shared):Prop:=
 match r with
 | .ok (.ret u)=>CE outer P w H s Q u s'
 | .ok _=>False
 | .error e=>CX outer H s E e s'
structure FnOk (P:Program) (w:World) (K:PySem.W.Frag) (mg:Str->Option Value) (base:Heap) (CX:CXT) (k:Nat) (f:Addr) (fd:FuncData) (ps:List Str) (sp:Sp):Prop where
 len: ∀ vs H Q E,sp vs H Q E->vs.length=ps.length
 run: ∀ (A:Around) (outer:List Env) (s:Shared) (H:Hp) (args:Args) (us:List Value) (vs:List V) (Q:VK) (E:XK),Room k A->tV P w K mg base A outer s H->BindsTo s fd args (ps.zip us)->Vals vs us->sp vs H Q E->
  codeAny (model P w) A (.call (.ref f) args) (CR CX outer P w H s Q E) s
section
variable {X:Cx} {pins:List (Addr×Obj)} {σ:St} {H:Hp} {s s':Shared}
theorem Inv.env0 (I:Inv X pins σ H s):tV X.prog X.w X.K X.mg X.base X.A X.stack s H:=
 ⟨I.ok.frames,I.ok.mod,I.bs,Nat.le_trans I.ok.bsz I.sz,I.stack,I.stkFree,I.hok,I.bare⟩
theorem Inv.after {Q:VK} {u:Value} (I:Inv X pins σ H s) (h:CE X.stack X.prog X.w H s Q u s'):EP X pins σ Q u s':=by
 obtain ⟨v,H',os,bare,un,hok,r,q⟩:=h
 obtain ⟨hh,g,d,t,os'⟩:=s'
 obtain rfl:os'=s.os:=os
 exact ⟨v,H',I.call (h':=hh) (g':=g) (d':=d) (t':=t) (ch:=[]) un hok bare (fun b z=>absurd z (by simp)),r,q⟩
end
noncomputable def vn (sp:Sp) (dvs:List V) (E:XK) (t:TA):TE:=fun σ H Q=>t σ H fun vs H1=>sp (vs++dvs) H1 Q E
noncomputable def Binds (K:PySem.W.Frag) (fd:FuncData) (ps:List Str) (ds:List Value):Prop:=
 ∀ (s:Shared) (us:List Value),K.In s.heap->(us++ds).length=ps.length->BindsTo s fd ⟨us,[]⟩ (ps.zip (us++ds))
theorem Binds.all {K:PySem.W.Frag} {fd:FuncData} {ps:List Str} (h: ∀ us:List Value,us.length=ps.length->bindArgs fd ⟨us,[]⟩=pure (ps.zip us)):Binds K fd ps []:=fun s us _ hl=>by
 rw [List.append_nil]at hl ⊢
 exact .of_eq (h us hl)
noncomputable def mE (CX:CXT) (X:Cx) (E:XK):Prop:= ∀ (pins:List (Addr×Obj)) (σ:St) (H:Hp) (s:Shared) (e:Value) (s':Shared),Inv X pins σ H s->CX X.stack H s E e s'->X.xe e s'
section
variable {X:Cx} {CX:CXT} {k:Nat} {f C:Addr} {fd:FuncData} {ps:List Str} {sp:Sp} {dvs:List V} {ds:List Value} {E:XK} {x m:Str} {p pos apos:Pos} {e o:Expr} {es:List Expr} {ta:TE} {t:TA}
theorem uz {pins:List (Addr×Obj)} {σ:St} {H:Hp} {s:Shared} {Q:VK} {us:List Value} {vs:List V} (F:FnOk X.prog X.w X.K X.mg X.base CX k f fd ps sp) (hr:Room k X.A) (hb:Binds X.K fd ps ds) (hd:Vals dvs ds) (hx:mE CX X E)
  (I:Inv X pins σ H s) (r:Vals vs us) (h:sp (vs++dvs) H Q E):wpAny (model X.prog X.w) X.A (call (.ref f) us) (EP X pins σ Q) X.xe s:=by
 have r2:Vals (vs++dvs) (us++ds):=r.append hd
 have hl:(us++ds).length=ps.length:=by rw [<- r2.length];exact F.len _ _ _ _ h
 refine wpAny_call (codeAny_mono (F.run X.A X.stack s H ⟨us,[]⟩ (us++ds) (vs++dvs) Q E hr I.env0 (hb s us I.kIn hl) r2 h) fun r s' hq=>?_)
 cases r with
 | error e=>exact hx pins σ H s e s' I hq
 | ok fl=>
  cases fl with
  | ret u=>exact I.after hq
  | next=>exact False.elim hq
  | brk=>exact False.elim hq
  | cont=>exact False.elim hq
theorem ak (F:FnOk X.prog X.w X.K X.mg X.base CX k f fd ps sp) (hr:Room k X.A) (hg:Gl X x) (hm:X.mg x=some (.ref f)) (hk:PySem.W.keepIn X.K (.ref f)=true) (hb:Binds X.K fd ps ds) (hd:Vals dvs ds) (hx:mE CX X E)
  (ha:PA X (e::es) t) (hdb:(x==("__debug__":Str))=false:=by decide) (he:starEach (e::es) X.env=(false,eval e X.env)::starEach es X.env:=by rfl) (hpl:(backTo pos (starEach es X.env)).any (·.1)=false:=by rfl):
  PE X (.Call (.Name x p) (e::es) [] pos) (vn sp dvs E t):=by
 intro pins s σ H Q I h
 refine wpAny_Call_Name_kw (nI I hg hm ?_ hdb)
 refine PySem.W.callWith_K (h₀:=X.base) I.ok.mod.kin hk (thn (ha pos pins s σ H _ I h) fun us s1 ⟨vs,H1,I1,r,q⟩=>⟨I1.kIn,?_⟩) he hpl
 exact uz F hr hb hd hx I1 r q
end
structure aA (N P:List Str) (sc:Scope):Prop where
 kind:sc.kind=.function
 co:sc.isCoroutine=false
 gen:sc.isGenerator=false
 nd:N.Nodup
 pre:N.take P.length=P
 par: ∀ x∈P,sc.names.lookup x=some .local\/sc.names.lookup x=some .cell
 nofree: ∀ y∈sc.names,y.2≠ .free
theorem fsc {N P:List Str} {sc:Scope} (kind_:sc.kind=.function:=by rfl) (co_:sc.isCoroutine=false:=by rfl) (gen_:sc.isGenerator=false:=by rfl) (nd_:N.Nodup:=by decide +kernel) (pre_:N.take P.length=P:=by rfl) (par_: ∀ x∈P,sc.names.lookup x=some .local\/sc.names.lookup x=some .cell:=by decide +kernel) (nofree_: ∀ y∈sc.names,y.2≠ .free:=by decide +kernel):aA N P sc:=⟨kind_,co_,gen_,nd_,pre_,par_,nofree_⟩
theorem iY {kindOf:Str->Option NameKind} {x:Str}: ∀ {binds:List (Str×Value)} {m:Str->Option Value},(∀ v,(x,v)∉binds)->bindL kindOf binds m x=m x
 | [],_,_=>rfl
 | (n,v)::r,m,h=>by
  unfold bindL
  rw [iY fun w hw=>h w (List.mem_cons_of_mem _ hw)]
  split
  ·have:x≠n:=by rintro rfl;exact h v List.mem_cons_self
   simp [this]
  ·rfl
theorem i3 {kindOf:Str->Option NameKind} {x:Str}: ∀ {binds:List (Str×Value)} {m:Str->Option Value},(∀ v,(x,v)∉binds)->bindC kindOf binds m x=m x
 | [],_,_=>rfl
 | (n,v)::r,m,h=>by
  unfold bindC
  rw [i3 fun w hw=>h w (List.mem_cons_of_mem _ hw)]
  split
  ·rfl
  ·have:x≠n:=by rintro rfl;exact h v List.mem_cons_self
   simp [this]
theorem iZ {kindOf:Str->Option NameKind} {x:Str} {v:Value}: ∀ {P:List Str} {vs:List Value} {i:Nat} {m:Str->Option Value},P.Nodup->P[i]? =some x->vs[i]? =some v->kindOf x=some .local->
  bindL kindOf (P.zip vs) m x=some v
 | [],_,_,_,_,h,_,_=>by simp at h
 | _::_,[],_,_,_,_,h,_=>by simp at h
 | p::P,w::vs,0,m,nd,h1,h2,hk=>by
  simp at h1 h2;subst h1;subst h2
  show bindL kindOf ((p,w)::P.zip vs) m p=_
  unfold bindL
  rw [iY fun v hv=>(List.nodup_cons.mp nd).1 (List.of_mem_zip hv).1,if_pos hk]
  simp
 | p::P,w::vs,i+1,m,nd,h1,h2,hk=>by
  show bindL kindOf ((p,w)::P.zip vs) m x=_
  unfold bindL
  exact iZ (i:=i) (List.nodup_cons.mp nd).2 (by simpa using h1) (by simpa using h2) hk
theorem i4 {kindOf:Str->Option NameKind} {x:Str} {v:Value}: ∀ {P:List Str} {vs:List Value} {i:Nat} {m:Str->Option Value},P.Nodup->P[i]? =some x->vs[i]? =some v->kindOf x≠some .local->
  bindC kindOf (P.zip vs) m x=some v
 | [],_,_,_,_,h,_,_=>by simp at h
 | _::_,[],_,_,_,_,h,_=>by simp at h
 | p::P,w::vs,0,m,nd,h1,h2,hk=>by
  simp at h1 h2;subst h1;subst h2
  show bindC kindOf ((p,w)::P.zip vs) m p=_
  unfold bindC
  rw [i3 fun v hv=>(List.nodup_cons.mp nd).1 (List.of_mem_zip hv).1,if_neg hk]
  simp
 | p::P,w::vs,i+1,m,nd,h1,h2,hk=>by
  show bindC kindOf ((p,w)::P.zip vs) m x=_
  unfold bindC
  exact i4 (i:=i) (List.nodup_cons.mp nd).2 (by simpa using h1) (by simpa using h2) hk
noncomputable def fE (N:List Str) (vs:List V):St:=vs.map some++List.replicate (N.length-vs.length) none
noncomputable def bZ (CX:CXT) (P:Program) (w:World) (K:PySem.W.Frag) (mg:Str->Option Value) (base:Heap) (N:List Str) (qual:Str) (scope:Scope) (f:Addr) (cd:Value) (A:Around) (outer:List Env) (s:Shared) (H:Hp) (E:XK):Cx where
 prog:=P
 w:=w
 K:=K
 mg:=mg
 base:=base
 A:=A.deeper (envOfC qual scope s.heap.objs.size f cd)
 N:=N
 s₀:=s
 H₀:=H
 env:=envOfC qual scope s.heap.objs.size f cd
 outer:=outer
 stack:=envOfC qual scope s.heap.objs.size f cd::outer
 ex:=[]
 calm:=true
 fn:=fun _=>true
 pn:=[]
 xe:=fun e s'=>wpAny (model P w) (A.deeper (envOfC qual scope s.heap.objs.size f cd)) (leaving (envOfC qual scope s.heap.objs.size f cd) e) (fun _ s''=>CX outer H s E e s'') (fun e' s''=>CX outer H s E e' s'') s'
theorem kX {sc:Scope} {n:Nat} {x:Str} (h:sc.names.lookup x=some .cell): ∃ c,(cellsFrom n sc.names []).lookup x=some c:=by
 have q:=PySem.W.cellsFrom_some sc.names n [] (.inl h)
 exact Option.isSome_iff_exists.mp q
theorem pi {CX:CXT} {P:Program} {w:World} {K:PySem.W.Frag} {mg:Str->Option Value} {base:Heap} {N ps:List Str} {qual:Str} {scope:Scope} {f:Addr} {cd:Value} {A:Around} {outer:List Env} {s s1:Shared} {H:Hp} {E:XK} {us:List Value} {vs:List V}
  (S:aA N ps scope) (hd:A.handled=none) (e0:tV P w K mg base A outer s H) (hl:vs.length=ps.length) (r:Vals vs us)
  (x:InCallC s s.heap.objs.size (bindL (envOfC qual scope s.heap.objs.size f cd).kindOf (ps.zip us) fun _=>none) (cellsFrom (s.heap.objs.size+1) scope.names []) (bindC (envOfC qual scope s.heap.objs.size f cd).kindOf (ps.zip us) fun _=>none) s1):
  Inv (bZ CX P w K mg base N qual scope f cd A outer s H E) [] (fE N vs) H s1:=by
 have hpl:ps.length<=N.length:=by have:=congrArg List.length S.pre;rw [List.length_take]at this;lia
 obtain ⟨h1,tk,rfl,hk⟩:=x.done
 have noA: ∀ b:Addr,b∉(bZ CX P w K mg base N qual scope f cd A outer s H E).ex:=fun b z=>absurd (show b∈([]:List Addr)from z) (by simp)
 refine ⟨⟨e0.mod,S.kind,rfl,rfl,Nat.le_refl _,fun y z c h1 h2=>?_,fun y hy=>?_,fun y c _ h=>?_,fun _=>hd,Around.frames_deeper e0.frames,.inr ⟨rfl,rfl⟩,fun b z=>absurd z (noA b),e0.bs,e0.bsz,fun b _ _=>noA b,fun b z=>absurd z (noA b),e0.funs,e0.frf⟩,
  rfl,e0.bare,Un.kept hk,⟨_,x.toInCall.ns,fun i y v h1 h2 h3=>?_⟩,fun y c h=>⟨_,x.cell y c h⟩,e0.hok.fresh (Nat.le_refl _),fun y c h=>?_,fun p hp=>absurd (show p∈([]:List (Addr×Obj))from hp) (by simp),e0.hok.kept hk,?_⟩
 ·exact name_of_addr x.apart (PySem.mem_of_lookup h1) (PySem.mem_of_lookup h2)
 ·have hy:scope.names.lookup y=some .cell\/scope.names.lookup y=some .free:=hy
  rcases hy with hy | hy
  ·exact kX hy
  ·exact absurd rfl (S.nofree _ (PySem.mem_of_lookup hy))
 ·exact Nat.le_of_lt (x.above y c (PySem.mem_of_lookup h))
 ·have hi:i<vs.length:=by
   unfold fE at h2
   by_cases hi:i<vs.length
   ·exact hi
   ·rw [List.getElem?_append_right (by simpa using hi)]at h2
    rw [List.getElem?_replicate]at h2
    split at h2 <;> cases h2
  have ha:vs[i]? =some v:=by
   unfold fE at h2
   rw [List.getElem?_append_left (by simpa using hi),List.getElem?_map]at h2
   cases e:vs[i]? with
   | none=>rw [e]at h2;cases h2
   | some a=>rw [e]at h2;cases h2;rfl
  obtain ⟨u,hu,rv⟩:=r.get ha
  have hp:ps[i]? =some y:=by
   rw [<- S.pre,List.getElem?_take_of_lt (by lia)];exact h1
  have ndP:ps.Nodup:=by rw [<- S.pre];exact S.nd.sublist (List.take_sublist _ _)
  refine ⟨u,rv,?_⟩
  rcases S.par y (List.mem_of_getElem? hp)with k | k
  ·exact .inl ⟨k,iZ ndP hp hu k⟩
  ·obtain ⟨c,e⟩:=kX (n:=s.heap.objs.size+1) k
   refine .inr ⟨.inl k,c,e,?_⟩
   have q:=x.cell y c e
   rw [i4 ndP hp hu (by show scope.names.lookup y≠_;rw [k];decide)]at q
   exact q
 ·exact e0.hok.fresh (Nat.le_of_lt (x.above y c (PySem.mem_of_lookup h)))
 ·unfold fE
  show _=N.length
  rw [List.length_append,List.length_map,List.length_replicate]
  lia
theorem vP {CX:CXT} {P:Program} {w:World} {K:PySem.W.Frag} {mg:Str->Option Value} {base:Heap} {k:Nat} {f:Addr} {name qual:Str} {params:Arguments} {body:List Stmt} {scope:Scope} {dV kV doc pm cdv ct oc:Value} {an od:Option Addr}
  {osl:Array (Option Value)} {N ps:List Str} {sp:Sp} (lk:K.lookup f=some ⟨oc,od,.func (PySem.W.fnOf name qual params body scope dV kV doc pm an cdv ct),osl⟩) (hcd:PySem.W.codeIn K cdv qual=true) (S:aA N ps scope)
  (len: ∀ vs H Q E,sp vs H Q E->vs.length=ps.length)
  (hbody: ∀ (A:Around) (outer:List Env) (s:Shared) (H:Hp) (vs:List V) (Q:VK) (E:XK),Room k (A.deeper (envOfC qual scope s.heap.objs.size f cdv))->sp vs H Q E->
   ∃ t,PSs (bZ CX P w K mg base N qual scope f cdv A outer s H E) body t/\t {nx:=fun _ H'=>Q .non H',rt:=Q} (fE N vs) H):
  FnOk P w K mg base CX (k+1) f (PySem.W.fnOf name qual params body scope dV kV doc pm an cdv ct) ps sp:=by
 refine ⟨len,fun A outer s H args us vs Q E hr e0 hb r hsp=>?_⟩
 have hl:=len _ _ _ _ hsp
 have KX:K.In s.heap:=e0.mod.kin.keeps fun b o e=>(e0.bs b o e).1
 have lim:s.heap.NoLimit:=e0.mod.nolimit.keeps fun b o e=>(e0.bs b o e).1
 have hkind: ∀ y∈ps.zip us,scope.names.lookup y.1=some .local\/(scope.names.lookup y.1=some .cell/\((cellsFrom (s.heap.objs.size+1) scope.names []).lookup y.1).isSome=true):=fun ⟨n,v⟩ hy=>by
  rcases S.par n (List.of_mem_zip hy).1 with q | q
  ·exact .inl q
  ·exact .inr ⟨q,PySem.W.cellsFrom_some _ _ _ (.inl q)⟩
 refine codeAny_call_function hr.depth (KX _ _ lk) rfl S.co S.gen rfl (PySem.W.codeRec_of KX hcd) (hb _ _ _ _ ?_)
 refine wpAny_newFunctionEnv_cells S.kind hkind fun env he s1 x=>?_
 subst he
 refine ⟨lim.keeps x.toInCall.keep,codeAny_func ?_⟩
 obtain ⟨t,ht,hq⟩:=hbody A outer s H vs Q E (hr.deeper _) hsp
 have I:Inv (bZ CX P w K mg base N qual scope f cdv A outer s H E) [] (fE N vs) H s1:=pi S hr.hd e0 hl r x
 refine wpAny_mono (ht [] s1 (fE N vs) H _ I hq) (fun fl s' hs=>?_) fun e s' hs=>hs
 have fin: ∀ {σ':St} {H':Hp} {v:V} {u:Value},Inv (bZ CX P w K mg base N qual scope f cdv A outer s H E) [] σ' H' s'->RelV v u->Q v H'->CE outer P w H s Q u s':=
  fun {σ' H' v u} J rv q=>⟨v,H',J.os,J.bare,J.base,J.hok,rv,q⟩
 cases fl with
 | ret u=>
  obtain ⟨v,σ',H',J,rv,q⟩:=hs
  exact fin J rv q
 | next=>
  obtain ⟨σ',H',J,q⟩:=hs
  exact fin (v:=V.non) (u:=Value.none) J rfl q
 | brk=>
  obtain ⟨_,_,_,q⟩:=hs
  exact False.elim q
 | cont=>
  obtain ⟨_,_,_,q⟩:=hs
  exact False.elim q
section
variable {X:Cx} {x:Str} {p pos:Pos} {e:Expr} {es:List Expr} {t:TA} {id T:String} {r:List V->Hp->VK->Prop}
noncomputable def tCB (r:List V->Hp->VK->Prop) (t:TA):TE:=fun σ H Q=>t σ H fun vs H1=>r vs H1 Q
theorem aJ (hc:bV X (.builtin id) r) (hg:Gl X x) (hm:X.mg x=none) (hv:bootBuiltins x=some (.builtin id)) (ha:PA X (e::es) t) (hn:x≠"__name__":=by decide) (hdb:(x==("__debug__":Str))=false:=by decide)
  (he:starEach (e::es) X.env=(false,eval e X.env)::starEach es X.env:=by rfl) (hpl:(backTo pos (starEach es X.env)).any (·.1)=false:=by rfl):PE X (.Call (.Name x p) (e::es) [] pos) (tCB r t):=by
 intro pins s σ H Q I h
 refine wpAny_Call_Name_kw (fu I hg hm hv ?_ hn hdb)
 exact PyProof.Rows.callWith_builtin1 (thn (ha pos pins s σ H _ I h) fun us s1 ⟨vs,H1,I1,r1,q1⟩=>hc pins s1 σ H1 vs us Q I1 r1 q1) he hpl
theorem aS (hc:bV X (.type T) r) (hg:Gl X x) (hm:X.mg x=none) (hv:bootBuiltins x=some (.type T)) (ha:PA X (e::es) t) (hn:x≠"__name__":=by decide) (hdb:(x==("__debug__":Str))=false:=by decide)
  (he:starEach (e::es) X.env=(false,eval e X.env)::starEach es X.env:=by rfl) (hpl:(backTo pos (starEach es X.env)).any (·.1)=false:=by rfl):PE X (.Call (.Name x p) (e::es) [] pos) (tCB r t):=by
 intro pins s σ H Q I h
 refine wpAny_Call_Name_kw (fu I hg hm hv ?_ hn hdb)
 exact PyProof.Rows.callWith_type1 (thn (ha pos pins s σ H _ I h) fun us s1 ⟨vs,H1,I1,r1,q1⟩=>hc pins s1 σ H1 vs us Q I1 r1 q1) he hpl
end
end L2
namespace HT
open PySem PyProof.Rows
section
variable {prog:Program} {w:World} {A:Around} {E:Value->Shared->Prop} {s:Shared}
theorem cat_tup {t b:Addr} {vs ws:List Value} {Q:Value->Shared->Prop} (ht:IsTup s.heap t vs.toArray) (hb:IsTup s.heap b ws.toArray) (hv:vs≠[])
  (h1:ws=[]->Q (.ref t) s) (h2:ws≠[]->Q (.ref s.heap.objs.size) {s with heap:=s.heap.push {cls:=.type "tuple",data:=.seq (vs++ws).toArray}})
  (hsz:vs.length+ws.length<=sizeLine):wpAny (model prog w) A (binaryOp .Add (.ref t) (.ref b)) Q E s:=by
 obtain ⟨⟨cls,dd,data,sl⟩,ho,hc,n,hd⟩:=id ht
 obtain ⟨⟨cls2,dd2,data2,sl2⟩,ho2,hc2,n2,hd2⟩:=id hb
 simp only at hc hd hc2 hd2
 subst hc hd hc2 hd2
 have e:vs.toArray++ws.toArray=(vs++ws).toArray:=by simp
 by_cases hw:ws=[]
 ·exact concat_meets ⟨_,ho,rfl⟩ ⟨_,ho2,rfl⟩ noFill_tuple_add seq_tuple_add PySem.F.slot_tuple_add PySem.F.entry_tuple_add (PySem.F.args_tuple_add_2 _ _)
   (tuple_addW1 t b vs.toArray ws.toArray n n2 dd dd2 sl sl2 (by simpa using hv) (by simp [hw])) ⟨ho,ho2,h1 hw⟩
 ·refine concat_meets ⟨_,ho,rfl⟩ ⟨_,ho2,rfl⟩ noFill_tuple_add seq_tuple_add PySem.F.slot_tuple_add PySem.F.entry_tuple_add (PySem.F.args_tuple_add_2 _ _)
   (tuple_addW2 t b vs.toArray ws.toArray n n2 dd dd2 sl sl2 (by simpa using hv) (by simpa using hw) (by rw [List.size_toArray,List.size_toArray];exact hsz)) ⟨ho,ho2,?_⟩
  rw [e]
  exact h2 hw
noncomputable def sIx (n d:Nat):Option Int->Nat
 | none=>d
 | some v=>if v<0 then (v+ (n:Int)).toNat else min v.toNat n
theorem sIx_none (n d:Nat):sIx n d none=d:=rfl
theorem sIx_nat (n d k:Nat):sIx n d (some (k:Int))=min k n:=by
 show (if (k:Int) <0 then ((k:Int) + (n:Int)).toNat else min (k:Int).toNat n)=min k n
 rw [if_neg (by lia),Int.toNat_natCast]
theorem uy (n d:Nat) (hd:d<=n) (o:Option Int):sIx n d o<=n:=by
 cases o with
 | none=>exact hd
 | some v=>
  show (if v<0 then (v+ (n:Int)).toNat else min v.toNat n)<=n
  by_cases hv:v<0
  ·rw [if_pos hv];lia
  ·rw [if_neg hv];exact Nat.min_le_right _ _
theorem nU (v:Int) (n d:Nat):(if v<0 then max (v+ (n:Int)) 0 else min v (n:Int))=((sIx n d (some v):Nat):Int):=by
 show (if v<0 then max (v+ (n:Int)) 0 else min v (n:Int))=(((if v<0 then (v+ (n:Int)).toNat else min v.toNat n):Nat):Int)
 by_cases hv:v<0
 ·simp only [if_pos hv];lia
 ·simp only [if_neg hv];lia
theorem mz (lo hi:Option Int) (n:Nat):Builtin.Slice.sliceAdjust lo hi 1 (n:Int)=(((sIx n 0 lo:Nat):Int),((sIx n n hi:Nat):Int)):=by
 have h1: ¬ ((1:Int) <0):=by lia
 unfold Builtin.Slice.sliceAdjust
 simp only [h1,if_false]
 refine Prod.ext ?_ ?_
 ·cases lo with
  | none=>rfl
  | some v=>exact nU v n 0
 ·cases hi with
  | none=>rfl
  | some v=>exact nU v n n
theorem lI (i j:Nat):Builtin.Slice.slicePlaces (i:Int) (j:Int) 1=j-i:=by
 unfold Builtin.Slice.slicePlaces
 have h1:(1:Int) >0:=by lia
 simp only [h1,if_true,Int.ediv_one]
 split <;> lia
theorem cO {v:Value} {o:Option Int} {Q:Option Int->Shared->Prop} (p:IsPart v o) (h:Q o s):wpAny (model prog w) A (Builtin.Slice.slicePartIndex v) Q E s:=by
 cases p with
 | none=>exact slicePart_none h
 | int i t=>exact slicePart_int h
theorem fj {sl:Addr} {vl vu:Value} {lo hi:Option Int} {n:Nat} {Q:Int×Int×Nat->Shared->Prop} (hs:s.heap.IsSliceOf sl vl vu .none) (pl:IsPart vl lo) (pu:IsPart vu hi)
  (h:Q (((sIx n 0 lo:Nat):Int),1,sIx n n hi-sIx n 0 lo) s):wpAny (model prog w) A (Builtin.Slice.sliceApplied (.ref sl) (pure (n:Int))) Q E s:=by
 obtain ⟨os,hos,hcs,hds⟩:=id hs
 unfold Builtin.Slice.sliceApplied Builtin.Slice.sliceFields
 refine wpAny_bind (wpAny_bind (wpAny_field hos hds (x:=vl) rfl (wpAny_bind (wpAny_field hos hds (x:=vu) rfl (wpAny_bind (wpAny_field hos hds (x:=.none) rfl (wpAny_pure ?_)))))))
 refine wpAny_bind (slicePart_none ?_)
 show wpAny _ _ (if ((1:Int)==0)=true then _ else _) _ _ s
 rw [if_neg (by decide)]
 refine wpAny_bind (cO pl (wpAny_bind (cO pu (wpAny_bind (wpAny_pure ?_)))))
 show wpAny _ _ (match Builtin.Slice.sliceAdjust lo hi 1 (n:Int)with | (lo,hi)=>pure (lo,(1:Int),Builtin.Slice.slicePlaces lo hi 1)) _ _ s
 rw [mz lo hi n]
 show wpAny _ _ (pure (((sIx n 0 lo:Nat):Int),(1:Int),Builtin.Slice.slicePlaces ((sIx n 0 lo:Nat):Int) ((sIx n n hi:Nat):Int) 1)) _ _ s
 rw [lI]
 exact wpAny_pure h
theorem qI (xs:Array Value) (i k:Nat):((List.range k).filterMap fun (m:Nat)=>xs[((i:Int) + (m:Int) *1).toNat]?).toArray=((xs.toList.drop i).take k).toArray:=by
 have e:(fun (m:Nat)=>xs[((i:Int) + (m:Int) *1).toNat]?)=fun m=>xs[i+m]? :=by
  funext m
  have:((i:Int) + (m:Int) *1).toNat=i+m:=by lia
  rw [this]
 rw [e]
 have:=pick_run xs i k
 rw [List.filterMap_map]at this
 have e2:((fun x=>xs[x]?)∘fun x=>i+x)=fun m=>xs[i+m]? :=rfl
 rw [e2]at this
 rw [this]
theorem getItem_tuple_cut {t sl:Addr} {items:Array Value} {vl vu:Value} {lo hi:Option Int} {Q:Value->Shared->Prop} (ht:IsTup s.heap t items) (hs:s.heap.IsSliceOf sl vl vu .none) (pl:IsPart vl lo) (pu:IsPart vu hi)
  (hw: ¬ (sIx items.size 0 lo=0/\sIx items.size items.size hi=items.size))
  (h:Q (.ref s.heap.objs.size) {s with heap:=s.heap.push {cls:=.type "tuple",data:=.seq ((items.toList.drop (sIx items.size 0 lo)).take (sIx items.size items.size hi-sIx items.size 0 lo)).toArray}})
  (hsz:items.size<=sizeLine):wpAny (model prog w) A (getItem (.ref t) (.ref sl)) Q E s:=by
 have htake:sizeOk (.seq ((items.toList.drop (sIx items.size 0 lo)).take (sIx items.size items.size hi-sIx items.size 0 lo)).toArray):=by
  show ((items.toList.drop (sIx items.size 0 lo)).take (sIx items.size items.size hi-sIx items.size 0 lo)).toArray.size<=sizeLine
  rw [List.size_toArray,List.length_take,List.length_drop,Array.length_toList]
  lia
 have hj:sIx items.size items.size hi<=items.size:=uy _ _ (Nat.le_refl _) hi
 obtain ⟨os,hos,hcs,hds⟩:=id hs
 have hTs:s.TypeIs (.ref sl) "slice":=⟨os,hos,hcs⟩
 unfold getItem
 try with_reducible refine wpAny_holding ?_
 first | refine wpAny_bind (wpAny_pure ?_) | skip
 refine wpAny_bind (wpAny_sequenceKey ht.typeIs (by decide) ?_)
 refine wpAny_bind (wpAny_callSpecial?_slot (name:=Str.ofString "__getitem__") ht.typeIs PyProof.Rows.slot_tuple_getitem
  (wpAny_call_entry PyProof.Rows.slot_tuple_getitem ht.typeIs entry_tuple_getitem ?_ (args_tuple_getitem _ _)))
 show wpAny _ _ (Builtin.Tuple.tupleItemsOf (.ref t) >>= _) _ _ s
 refine wpAny_bind (tupleItemsOf_ ht ?_)
 refine wpAny_bind (wpAny_typeOf hTs ?_)
 rw [if_pos (by decide)]
 refine wpAny_bind (fj hs pl pu ?_)
 have hno: ¬ ((((sIx items.size 0 lo:Nat):Int)==0&&(1:Int)==1&&(sIx items.size items.size hi-sIx items.size 0 lo)==items.size)=true):=by
  intro q
  rw [Bool.and_eq_true,Bool.and_eq_true]at q
  have q1:((sIx items.size 0 lo:Nat):Int)=0:=eq_of_beq q.1.1
  have q2:sIx items.size items.size hi-sIx items.size 0 lo=items.size:=eq_of_beq q.2
  exact hw ⟨by lia,by lia⟩
 show wpAny _ _ (if (((sIx items.size 0 lo:Nat):Int)==0&&(1:Int)==1&&(sIx items.size items.size hi-sIx items.size 0 lo)==items.size)=true then _ else _) _ _ s
 rw [if_neg hno,qI]
 first
  | exact wpAny_bind (m:=Builtin.Tuple.tupleExact _) (wpAny_newObj_type (wpAny_pure ⟨_,rfl,wpAny_pure h⟩) htake)
  | exact wpAny_bind (m:=Builtin.Tuple.tupleExact _) (wpAny_newObj_type (wpAny_bind (wpAny_pure (wpAny_pure ⟨_,rfl,wpAny_pure h⟩))) htake)
  | exact wpAny_bind (wpAny_bind (m:=Builtin.Tuple.tupleExact _) (wpAny_newObj_type (wpAny_pure (wpAny_pure ⟨_,rfl,wpAny_pure h⟩)) htake))
  | exact wpAny_bind (wpAny_bind (m:=Builtin.Tuple.tupleExact _) (wpAny_newObj_type (wpAny_pure ⟨_,rfl,wpAny_pure h⟩) htake))
end
end HT
namespace L2
open PySem PySem.Spec PyProof.Rows
noncomputable abbrev TO:=St->Hp->(Option Int->Hp->Prop)->Prop
noncomputable def PO (X:Cx) (e:Option Expr) (t:TO):Prop:=
 ∀ (pins:List (Addr×Obj)) (s:Shared) (σ:St) (H:Hp) (Q:Option Int->Hp->Prop),Inv X pins σ H s->t σ H Q->
  wpAny (model X.prog X.w) X.A (evalPart e X.env) (fun u s'=> ∃ o H',Inv X pins σ H' s'/\IsPart u o/\Q o H') X.xe s
noncomputable def se:TO:=fun _ H Q=>Q none H
noncomputable def vg (t:TE):TO:=fun σ H Q=>t σ H fun x H1=> ∃ i,x=.int i/\Q (some i) H1
section
variable {X:Cx} {e:Expr} {te:TE} {lo hi:Option Expr} {tl th:TO} {pos p2:Pos}
theorem bJ:PO X none se:=by
 intro pins s σ H Q I h
 rw [evalPart_none]
 exact wpAny_pure ⟨none,H,I,.none,h⟩
theorem bH (h:PE X e te):PO X (some e) (vg te):=by
 intro pins s σ H Q I hw
 rw [evalPart_some]
 refine thn (h pins s σ H _ I hw) fun u s1 ⟨x,H1,I1,r1,q1⟩=>?_
 obtain ⟨i,rfl,q⟩:=q1
 obtain ⟨t,rfl⟩:=r1
 exact ⟨some i,H1,I1,.int i t,q⟩
noncomputable def SlR (X:Cx) (r:V->Option Int->Option Int->Hp->VK->Prop):Prop:=
 ∀ (pins:List (Addr×Obj)) (s:Shared) (σ:St) (H:Hp) (x:V) (v vl vu:Value) (lo hi:Option Int) (sl:Addr) (Q:VK),Inv X pins σ H s->RelV x v->s.heap.IsSliceOf sl vl vu .none->IsPart vl lo->IsPart vu hi->r x lo hi H Q->
  ∃ T id,typeLookup (.type T) "__getitem__"=pure (some (.builtin id))/\s.TypeIs v T/\wpAny (model X.prog X.w) X.A (getItem v (.ref sl)) (EP X pins σ Q) X.xe s
noncomputable def tSl (r:V->Option Int->Option Int->Hp->VK->Prop) (te:TE) (tl th:TO):TE:=fun σ H Q=>te σ H fun x H1=>tl σ H1 fun l H2=>th σ H2 fun u H3=>r x l u H3 Q
theorem bn {r:V->Option Int->Option Int->Hp->VK->Prop} (hr:SlR X r) (he:PE X e te) (hl:PO X lo tl) (hu:PO X hi th):PE X (.Subscript e (.Slice lo hi none p2) pos) (tSl r te tl th):=by
 intro pins s σ H Q I h
 refine Subscript_ (thn (he pins s σ H _ I h) fun v s1 ⟨x,H1,I1,r1,q1⟩=>?_)
 refine wpAny_Slice (thn (hl pins s1 σ H1 _ I1 q1) fun vl s2 ⟨l,H2,I2,pl,q2⟩=>thn (hu pins s2 σ H2 _ I2 q2) fun vu s3 ⟨u,H3,I3,pu,q3⟩=>?_)
 rw [evalPart_none]
 refine wpAny_pure ?_
 have I4:Inv X pins σ H3 {s3 with heap:=s3.heap.push {cls:=.type "slice",data:=.fields #[vl,vu,.none]}}:=I3.kept (t':=s3.toks) fun b ob q=>Heap.get?_push_of_some _ q
 obtain ⟨T,id,hT,ht,hg⟩:=hr pins {s3 with heap:=s3.heap.push {cls:=.type "slice",data:=.fields #[vl,vu,.none]}} σ H3 x v vl vu l u s3.heap.objs.size Q I4 r1 (Heap.IsSliceOf.new ..) pl pu q3
 show wpAny (model X.prog X.w) X.A (subscriptTail e (.Slice lo hi none p2) v (.ref s3.heap.objs.size)) (EP X pins σ Q) X.xe {s3 with heap:=s3.heap.push {cls:=.type "slice",data:=.fields #[vl,vu,.none]}}
 exact tail_any (ops:=[.ref s3.heap.objs.size,v]) ht hT hg (by with_unfolding_all rfl)
noncomputable def dS (xs:List V) (lo hi:Option Int):List V:=(xs.drop (HT.sIx xs.length 0 lo)).take (HT.sIx xs.length xs.length hi-HT.sIx xs.length 0 lo)
theorem fO (xs:List V) (lo hi:Option Int):(dS xs lo hi).length<=xs.length:=by
 unfold dS
 rw [List.length_take,List.length_drop]
 lia
noncomputable def wA (K:PySem.W.Frag):V->Option Int->Option Int->Hp->VK->Prop:=fun x lo hi H Q=> ∃ a xs,x=.ref a/\SqT K H a xs/\
 ¬ (HT.sIx xs.length 0 lo=0/\HT.sIx xs.length xs.length hi=xs.length)/\ ∀ p,H p=none->Q (.ref p) (upd H p (.tup (dS xs lo hi)))
theorem jc:SlR X (wA X.K):=by
 intro pins s σ H x v vl vu lo hi sl Q I rx hs pl pu h
 obtain ⟨a,xs,rfl,hx,hw,q⟩:=h
 cases rx
 obtain ⟨its,r,ht,hz⟩:=I.tuple hx
 have hlen:its.toArray.size=xs.length:=by rw [List.size_toArray];exact r.length.symm
 refine ⟨"tuple",_,PyProof.Rows.slot_tuple_getitem.lookup,ht.typeIs,?_⟩
 refine HT.getItem_tuple_cut ht hs pl pu (by rw [hlen];exact hw) ?_ (by rw [hlen];exact hz)
 rw [hlen]
 refine ⟨.ref s.heap.objs.size,_,I.laid (t':=s.toks) (o:=.tup (dS xs lo hi)) (fun b ob q=>Heap.get?_push_of_some _ q) (Nat.le_refl _) ?_,rfl,q _ (I.hok.fresh (Nat.le_refl _))⟩
 exact ⟨Nat.le_trans (fO xs lo hi) hz,_,(r.drop (HT.sIx xs.length 0 lo)).take (HT.sIx xs.length xs.length hi-HT.sIx xs.length 0 lo),IsTup.new _ _⟩
noncomputable def vB (K:PySem.W.Frag):R2:=fun x y H Q=> ∃ a b xs ys,x=.ref a/\y=.ref b/\SqT K H a xs/\SqT K H b ys/\xs≠[]/\xs.length+ys.length<=sizeLine/\
 (ys=[]->Q (.ref a) H)/\(ys≠[]-> ∀ p,H p=none->Q (.ref p) (upd H p (.tup (xs++ys))))
theorem Vals.nil_iff {xs:List V} {us:List Value} (r:Vals xs us):us=[]↔xs=[]:=by
 cases r with
 | nil=>simp
 | cons _ _=>simp
theorem sN:OpR X (binaryOp .Add) (vB X.K):=by
 intro pins s σ H x y v u Q I rx ry h
 obtain ⟨a,b,xs,ys,rfl,rfl,ha,hb,hx,hz,q1,q2⟩:=h
 cases rx
 cases ry
 obtain ⟨its,r1,p1,_⟩:=I.tuple ha
 obtain ⟨its2,r2,p2,_⟩:=I.tuple hb
 refine HT.cat_tup p1 p2 (fun z=>hx (r1.nil_iff.mp z)) (fun z=>⟨.ref a,H,I,rfl,q1 (r2.nil_iff.mp z)⟩) (fun z=>?_) (by rw [<- r1.length,<- r2.length];exact hz)
 refine ⟨.ref s.heap.objs.size,_,I.laid (t':=s.toks) (o:=.tup (xs++ys)) (fun b ob q=>Heap.get?_push_of_some _ q) (Nat.le_refl _) ?_,rfl,q2 (fun w=>z (r2.nil_iff.mpr w)) _ (I.hok.fresh (Nat.le_refl _))⟩
 exact ⟨by rw [List.length_append];exact hz,_,r1.append r2,IsTup.new _ _⟩
end
noncomputable def ixN (n:Nat) (i:Int):Option Nat:=if 0<=i then (if i<n then some i.toNat else none)else if -(n:Int)<=i then some (i+n).toNat else none
noncomputable def atI {α:Type} (xs:List α) (i:Int):Option α:=(ixN xs.length i).bind fun j=>xs[j]?
theorem nL {n:Nat} {i:Int} {j:Nat} (h:ixN n i=some j):seqIndex? i n=some j/\j<n/\ -(n:Int)<=i/\i<n:=by
 unfold ixN at h
 by_cases h0:0<=i
 ·rw [if_pos h0]at h
  by_cases h1:i<n
  ·rw [if_pos h1]at h
   have e:i.toNat=j:=Option.some.inj h
   exact ⟨by rw [seqIndex_of h0 h1,e],by lia,by lia,h1⟩
  ·rw [if_neg h1]at h;cases h
 ·rw [if_neg h0]at h
  by_cases h1: -(n:Int)<=i
  ·rw [if_pos h1]at h
   have e:(i+n).toNat=j:=Option.some.inj h
   exact ⟨by rw [seqIndex_neg (by lia) h1,e],by lia,h1,by lia⟩
  ·rw [if_neg h1]at h;cases h
theorem jE {α:Type} {xs:List α} {i:Int} {v:α} (h:atI xs i=some v): ∃ j,seqIndex? i xs.length=some j/\xs[j]? =some v/\j<xs.length/\ -(xs.length:Int)<=i/\i<xs.length:=by
 unfold atI at h
 cases e:ixN xs.length i with
 | none=>rw [e]at h;cases h
 | some j=>
  rw [e]at h
  obtain ⟨h1,h2,h3,h4⟩:=nL e
  exact ⟨j,h1,h,h2,h3,h4⟩
theorem ar {α:Type} {xs:List α} {j:Nat} {v:α} (h:xs[j]? =some v):atI xs (j:Int)=some v:=by
 have hj:j<xs.length:=(List.getElem?_eq_some_iff.mp h).1
 have e:ixN xs.length (j:Int)=some j:=by
  unfold ixN
  rw [if_pos (by lia),if_pos (by lia)];simp
 unfold atI;rw [e];exact h
noncomputable def tU (b:Expr):Prop:= ∀ o i,subscripted b false o i=operate [o,i] (getItem o i)
noncomputable def IxR (X:Cx) (r:R2):Prop:=
 ∀ (value slice:Expr) (pins:List (Addr×Obj)) (s:Shared) (σ:St) (H:Hp) (x y:V) (v u:Value) (Q:VK),Inv X pins σ H s->RelV x v->RelV y u->r x y H Q->
  subscripted slice false v u=operate [v,u] (getItem v u)->wpAny (model X.prog X.w) X.A (subscriptTail value slice v u) (EP X pins σ Q) X.xe s
noncomputable def MtR (X:Cx) (id:String) (r:V->List V->Hp->VK->Prop):Prop:=
 ∀ (pins:List (Addr×Obj)) (s:Shared) (σ:St) (H:Hp) (x:V) (xs:List V) (v:Value) (us:List Value) (Q:VK),Inv X pins σ H s->RelV x v->Vals xs us->r x xs H Q->
  wpAny (model X.prog X.w) X.A (call (.builtin id) (v::us)) (EP X pins σ Q) X.xe s
section
variable {X:Cx} {a b:Expr} {ta tb:TE} {pos:Pos}
theorem aq {r:R2} (hr:IxR X r) (ha:PE X a ta) (hb:PE X b tb) (hs:tU b):PE X (.Subscript a b pos) (tOp r ta tb):=by
 intro pins s σ H Q I h
 exact Subscript_ (u0 ha hb I h fun v u s2 x y H2 I2 rx ry q=>hr a b pins s2 σ H2 x y v u Q I2 rx ry q (hs _ _))
noncomputable def uC (K:PySem.W.Frag):R2:=fun x y H Q=> ∃ p xs i v,x=.ref p/\y=.int i/\SqL K H p xs/\atI xs i=some v/\Q v H
noncomputable def ot (K:PySem.W.Frag):R2:=fun x y H Q=> ∃ p xs i v,x=.ref p/\y=.int i/\SqT K H p xs/\atI xs i=some v/\Q v H
noncomputable def wG:R2:=fun x y H Q=> ∃ z i c,x=.str z/\y=.int i/\z.length<=sizeLine/\atI z.cps.toList i=some c/\Q (.str ⟨#[c]⟩) H
theorem aO:IxR X (uC X.K):=by
 intro value slice pins s σ H x y v u Q I rx ry h hs
 obtain ⟨p,xs,i,z,rfl,rfl,hq,he,q⟩:=h
 cases rx
 obtain ⟨t,rfl⟩:=ry
 obtain ⟨its,r,pl,hz⟩:=I.list hq
 obtain ⟨j,h1,h2,h3,h4,h5⟩:=jE he
 obtain ⟨w,ew,rw'⟩:=r.get h2
 have hl:=r.length
 have hn:=ft
 have fin:EP X pins σ Q w s:=⟨z,H,I,rw',q⟩
 by_cases h0:0<=i
 ·have hj:i.toNat=j:=by
   rw [seqIndex_of h0 h5]at h1
   exact Option.some.inj h1
  exact item_listR pl.isList h0 (by lia) (by rw [hj];simpa using ew) fin hs
 ·have hj:(i+ (its.toArray.size:Int)).toNat=j:=by
   rw [seqIndex_neg (by lia) h4]at h1
   rw [List.size_toArray,<- hl]
   exact Option.some.inj h1
  exact subscriptTail_builtinR (x:=w) pl.isList.typeIs slot_list_getitem.lookup
   (wpAny_getItem_list_neg (Q:=fun r s'=>r=w/\EP X pins σ Q r s') pl.isList (by lia) (by rw [List.size_toArray] <;> lia) (by lia) (by rw [hj];simpa using ew) ⟨rfl,fin⟩) hs
theorem aw:IxR X (ot X.K):=by
 intro value slice pins s σ H x y v u Q I rx ry h hs
 obtain ⟨p,xs,i,z,rfl,rfl,hq,he,q⟩:=h
 cases rx
 obtain ⟨t,rfl⟩:=ry
 obtain ⟨its,r,pl,hz⟩:=I.tuple hq
 obtain ⟨j,h1,h2,h3,h4,h5⟩:=jE he
 obtain ⟨w,ew,rw'⟩:=r.get h2
 have hl:=r.length
 have hn:=ft
 have fin:EP X pins σ Q w s:=⟨z,H,I,rw',q⟩
 exact subscriptTail_builtinR (x:=w) pl.typeIs slot_tuple_getitem.lookup
  (getItem_tuple (j:=j) (Q:=fun r s'=>r=w/\EP X pins σ Q r s') pl (by lia) (by lia) (by rw [List.size_toArray,<- hl];exact h1) (by simpa using ew) ⟨rfl,fin⟩) hs
theorem lW:IxR X wG:=by
 intro value slice pins s σ H x y v u Q I rx ry h hs
 obtain ⟨z,i,c,rfl,rfl,hz,he,q⟩:=h
 obtain ⟨t,rfl⟩:=rx
 obtain ⟨t',rfl⟩:=ry
 obtain ⟨j,h1,h2,h3,h4,h5⟩:=jE he
 have hl:z.cps.toList.length=z.length:=by simp [Str.length]
 rw [hl]at h1 h4 h5
 have hn:=ft
 exact tail_any (typeIs_str s z t) slot_str_getitem.lookup (getItem_str (c:=c) (by
  have e1:decide (i< -(2^63:Int))=false:=decide_eq_false (by lia)
  have e2:decide (i≥2^63)=false:=decide_eq_false (by lia)
  rw [e1,e2,Bool.or_false]) (by rw [h1];simpa using h2) ⟨.str ⟨#[c]⟩,H,I.tok _,⟨_,rfl⟩,q⟩) hs
theorem lT (its:List Value) (n j:Nat) (u:Value):Obj.mapSeq (·.setIfInBounds j u) {cls:=.type "list",data:=.seq its.toArray n}={cls:=.type "list",data:=.seq (its.set j u).toArray n}:=by
 simp [Obj.mapSeq]
theorem Inv.lst {pins:List (Addr×Obj)} {σ:St} {H:Hp} {s:Shared} {p:Addr} {xs:List V} (I:Inv X pins σ H s) (h:H p=some (.lst xs)):
  ∃ (its:List Value) (n:Nat),Vals xs its/\s.heap.get? p=some {cls:=.type "list",data:=.seq its.toArray n}/\xs.length<=sizeLine:=by
 obtain ⟨z,its,n,r,e⟩:=I.hok p _ h
 exact ⟨its,n,r,e,z⟩
theorem Inv.lstUpd {pins:List (Addr×Obj)} {σ:St} {H:Hp} {s:Shared} {p:Addr} {xs ys:List V} {its its':List Value} {n n':Nat} {f:Obj->Obj} (I:Inv X pins σ H s) (h:H p=some (.lst xs))
  (ho:s.heap.get? p=some {cls:=.type "list",data:=.seq its.toArray n}) (hf:f {cls:=.type "list",data:=.seq its.toArray n}={cls:=.type "list",data:=.seq its'.toArray n'}) (r:Vals ys its') (hz:ys.length<=sizeLine) (t:Nat):
  Inv X pins σ (upd H p (.lst ys)) {s with heap:=s.heap.update p f,toks:=t}:=by
 have e:(s.heap.update p f).get? p=some {cls:=.type "list",data:=.seq its'.toArray n'}:=by
  rw [Heap.get?_update_self f ho (by rw [hf] <;> rfl),hf]
 refine I.write (x:=p) (e:=p) (by rw [h];trivial) (.inl rfl) (fun b u hb q=>(Heap.get?_update_other _ _ (Ne.symm hb)).trans q) ⟨_,e⟩ ?_
 exact ⟨hz,its',n',r,e⟩
noncomputable def vw:V->V->V->Hp->(Hp->Prop)->Prop:=fun o i v H Q=> ∃ p xs k j,o=.ref p/\i=.int k/\H p=some (.lst xs)/\ixN xs.length k=some j/\Q (upd H p (.lst (xs.set j v)))
theorem jY:v8 X vw:=by
 intro pins s σ H o i v ov iv u Q I ro ri rv h
 obtain ⟨p,xs,k,j,rfl,rfl,hp,hj,q⟩:=h
 cases ro
 obtain ⟨t,rfl⟩:=ri
 obtain ⟨its,n,r,ho,hz⟩:=I.lst hp
 obtain ⟨h1,h2,h3,h4⟩:=nL hj
 have hl:=r.length
 have hn:=ft
 have I':Inv X pins σ (upd H p (.lst (xs.set j v))) {s with heap:=s.heap.update p (Obj.mapSeq (·.setIfInBounds j u))}:=
  I.lstUpd hp ho (lT its n j u) (r.set rv j) (by rw [List.length_set];exact hz) s.toks
 by_cases h0:0<=k
 ·have hk:k.toNat=j:=by
   rw [seqIndex_of h0 h4]at h1
   exact Option.some.inj h1
  exact PySem.W.ki_setAt ho h0 (by lia) (by rw [List.size_toArray,<- hl];exact h4) (by rw [hk];exact ⟨_,I',q⟩)
 ·have hk:(k+ (its.toArray.size:Int)).toNat=j:=by
   rw [seqIndex_neg (by lia) h3]at h1
   rw [List.size_toArray,<- hl]
   exact Option.some.inj h1
  exact PySem.W.ki_setBack ho (by lia) (by rw [List.size_toArray,<- hl];exact h3) (by lia) (by rw [hk];exact ⟨_,I',q⟩)
theorem ja (lo hi:Option Int) (n:Nat):(sliceBounds lo hi none n).1=((HT.sIx n 0 lo:Nat):Int)/\(sliceBounds lo hi none n).2.1=((HT.sIx n n hi:Nat):Int)/\(sliceBounds lo hi none n).2.2=1:=by
 refine ⟨?_,?_,rfl⟩
 ·cases lo with
  | none=>simp [sliceBounds,HT.sIx]
  | some i=>
   simp only [sliceBounds,HT.sIx,Option.getD_none,show (1:Int) >0 by decide,if_true]
   by_cases h:i<0
   ·simp only [h,if_true] <;> lia
   ·simp only [h,if_false] <;> lia
 ·cases hi with
  | none=>simp [sliceBounds,HT.sIx]
  | some i=>
   simp only [sliceBounds,HT.sIx,Option.getD_none,show (1:Int) >0 by decide,if_true]
   by_cases h:i<0
   ·simp only [h,if_true] <;> lia
   ·simp only [h,if_false] <;> lia
theorem iq (its:List Value) (lo hi:Option Int):slicePick its.toArray lo hi none=((its.drop (HT.sIx its.length 0 lo)).take (HT.sIx its.length its.length hi-HT.sIx its.length 0 lo)).toArray:=by
 obtain ⟨h1,h2,h3⟩:=ja lo hi its.toArray.size
 unfold slicePick
 rw [h1,h2,h3]
 simp only [sliceRange_one,pick_run,List.size_toArray] <;> rfl
noncomputable def wC (K:PySem.W.Frag):V->Option Int->Option Int->Hp->VK->Prop:=fun x lo hi H Q=> ∃ a xs,x=.ref a/\SqL K H a xs/\ ∀ p,H p=none->Q (.ref p) (upd H p (.lst (dS xs lo hi)))
theorem eK:SlR X (wC X.K):=by
 intro pins s σ H x v vl vu lo hi sl Q I rx hs pl pu h
 obtain ⟨a,xs,rfl,hx,q⟩:=h
 cases rx
 obtain ⟨its,r,ht,hz⟩:=I.list hx
 have hlen:=r.length
 refine ⟨"list",_,slot_list_getitem.lookup,ht.isList.typeIs,?_⟩
 refine wpAny_getItem_list_slice ht.isList hs pl pu .none (by simp) ?_ (by rw [List.size_toArray] <;> lia)
 rw [iq,<- hlen]
 refine ⟨.ref s.heap.objs.size,_,I.laid (t':=s.toks) (o:=.lst (dS xs lo hi)) (fun b ob q=>Heap.get?_push_of_some _ q) (Nat.le_refl _) ?_,rfl,q _ (I.hok.fresh (Nat.le_refl _))⟩
 exact ⟨Nat.le_trans (fO xs lo hi) hz,_,0,(r.drop (HT.sIx xs.length 0 lo)).take (HT.sIx xs.length xs.length hi-HT.sIx xs.length 0 lo),Heap.get?_push_size _ rfl⟩
noncomputable def dW:V->Bool
 | .non=>true
 | .bl _=>true
 | .int _=>true
 | .str _=>true
 | _=>false
noncomputable def eqV:V->V->Bool
 | .non,.non=>true
 | .bl a,.bl b=>a==b
 | .bl a,.int b=>(if a then 1 else 0)==b
 | .int a,.bl b=>a==(if b then 1 else 0)
 | .int a,.int b=>a==b
 | .str a,.str b=>a==b
 | _,_=>false
theorem uX {A:Around} {s:Shared} {y x:V} {u v:Value} (ry:RelV y u) (rx:RelV x v) (fy:dW y=true) (fx:dW x=true):SeqAt.EqAt A s u v (eqV y x):=by
 cases y with
 | non=>
  cases ry
  cases x with
  | non=>cases rx;exact SeqAt.EqAt.same _
  | bl b=>cases rx;exact SeqAt.EqAt.none_bool b
  | int b=>obtain ⟨t,rfl⟩:=rx;exact SeqAt.EqAt.none_int b t
  | str b=>obtain ⟨t,rfl⟩:=rx;exact SeqAt.EqAt.none_str b t
  | _=>exact absurd (show false=true from fx) Bool.false_ne_true
 | bl a=>
  cases ry
  cases x with
  | non=>cases rx;exact SeqAt.EqAt.bool_none a
  | bl b=>cases rx;exact SeqAt.EqAt.bool_bool a b
  | int b=>obtain ⟨t,rfl⟩:=rx;exact SeqAt.EqAt.bool_int a b t
  | str b=>obtain ⟨t,rfl⟩:=rx;exact SeqAt.EqAt.bool_str a b t
  | _=>exact absurd (show false=true from fx) Bool.false_ne_true
 | int a=>
  obtain ⟨t',rfl⟩:=ry
  cases x with
  | non=>cases rx;exact SeqAt.EqAt.int_none a t'
  | bl b=>cases rx;exact SeqAt.EqAt.int_bool a t' b
  | int b=>obtain ⟨t,rfl⟩:=rx;exact SeqAt.EqAt.int_int a t' b t
  | str b=>obtain ⟨t,rfl⟩:=rx;exact SeqAt.EqAt.int_str a t' b t
  | _=>exact absurd (show false=true from fx) Bool.false_ne_true
 | str a=>
  obtain ⟨t',rfl⟩:=ry
  cases x with
  | non=>cases rx;exact SeqAt.EqAt.str_none a t'
  | bl b=>cases rx;exact SeqAt.EqAt.str_bool a t' b
  | int b=>obtain ⟨t,rfl⟩:=rx;exact SeqAt.EqAt.str_int a t' b t
  | str b=>obtain ⟨t,rfl⟩:=rx;exact SeqAt.EqAt.str_str a t' b t
  | _=>exact absurd (show false=true from fx) Bool.false_ne_true
 | _=>exact absurd (show false=true from fy) Bool.false_ne_true
noncomputable def eqU (x:V) (u:Value):Bool:=match u with
 | .none=>eqV .non x
 | .bool b=>eqV (.bl b) x
 | .int i _=>eqV (.int i) x
 | .str z _=>eqV (.str z) x
 | _=>false
theorem rE {x y:V} {u:Value} (r:RelV y u) (f:dW y=true):eqU x u=eqV y x:=by
 cases y with
 | non=>cases r;rfl
 | bl b=>cases r;rfl
 | int i=>obtain ⟨t,rfl⟩:=r;rfl
 | str z=>obtain ⟨t,rfl⟩:=r;rfl
 | _=>exact absurd (show false=true from f) Bool.false_ne_true
theorem fe {x:V}: ∀ {xs:List V} {us:List Value},Vals xs us->xs.all dW=true->us.any (eqU x)=xs.any fun y=>eqV y x
 | _,_,.nil,_=>rfl
 | y::xs,u::us,.cons r t,f=>by
  rw [List.all_cons,Bool.and_eq_true]at f
  rw [List.any_cons,List.any_cons,rE r f.1,fe t f.2]
theorem dH {A:Around} {s:Shared} {x:V} {v:Value} (rx:RelV x v) (fx:dW x=true): ∀ {xs:List V} {us:List Value},Vals xs us->xs.all dW=true-> ∀ u∈us,SeqAt.EqAt A s u v (eqU x u)
 | _,_,.nil,_=>fun u hu=>by cases hu
 | y::xs,u::us,.cons r t,f=>fun u' hu=>by
  rw [List.all_cons,Bool.and_eq_true]at f
  rcases List.mem_cons.mp hu with rfl | hu
  ·rw [rE r f.1];exact uX r rx f.1 fx
  ·exact dH rx fx t f.2 u' hu
noncomputable def inV (x:V) (xs:List V):Bool:=xs.any fun y=>eqV y x
noncomputable def rIn (K:PySem.W.Frag) (neg:Bool):R2:=fun x y H Q=> ∃ p xs,y=.ref p/\(SqL K H p xs\/SqT K H p xs)/\dW x=true/\xs.all dW=true/\Q (.bl (if neg then !inV x xs else inV x xs)) H
theorem da:OpR X (compareOp .In) (rIn X.K false):=by
 intro pins s σ H x y v u Q I rx ry h
 obtain ⟨p,xs,rfl,hq,fx,fs,q⟩:=h
 cases ry
 rcases hq with hq | hq
 ·obtain ⟨its,r,pl,hz⟩:=I.list hq
  refine SeqAt.in_listAt (eqU x) pl.isList (fun w hw=>dH rx fx r fs w (by simpa using hw)) ⟨.bl _,H,I,rfl,?_⟩
  rw [show its.toArray.any (eqU x)=its.any (eqU x) by simp,fe r fs]
  exact q
 ·obtain ⟨its,r,pl,hz⟩:=I.tuple hq
  refine SeqAt.in_tupleAt (eqU x) pl (fun w hw=>dH rx fx r fs w (by simpa using hw)) ⟨.bl _,H,I,rfl,?_⟩
  rw [show its.toArray.any (eqU x)=its.any (eqU x) by simp,fe r fs]
  exact q
theorem dq:OpR X (compareOp .NotIn) (rIn X.K true):=by
 intro pins s σ H x y v u Q I rx ry h
 obtain ⟨p,xs,rfl,hq,fx,fs,q⟩:=h
 cases ry
 rcases hq with hq | hq
 ·obtain ⟨its,r,pl,hz⟩:=I.list hq
  refine SeqAt.notIn_listAt (eqU x) pl.isList (fun w hw=>dH rx fx r fs w (by simpa using hw)) ⟨.bl _,H,I,rfl,?_⟩
  rw [show its.toArray.any (eqU x)=its.any (eqU x) by simp,fe r fs]
  exact q
 ·obtain ⟨its,r,pl,hz⟩:=I.tuple hq
  refine SeqAt.notIn_tupleAt (eqU x) pl (fun w hw=>dH rx fx r fs w (by simpa using hw)) ⟨.bl _,H,I,rfl,?_⟩
  rw [show its.toArray.any (eqU x)=its.any (eqU x) by simp,fe r fs]
  exact q
theorem aC:bV X (.builtin "len") (fun xs H Q=> ∃ p ys,xs=[.ref p]/\(SqL X.K H p ys\/SqT X.K H p ys)/\Q (.int ys.length) H):=by
 intro pins s σ H xs us Q I r h
 obtain ⟨p,ys,rfl,hq,q⟩:=h
 obtain ⟨u,rfl,rx⟩:=cI r
 cases rx
 have hn:=ft
 rcases hq with hq | hq
 ·obtain ⟨its,r',pl,hz⟩:=I.list hq
  have hlen:=r'.length
  exact Calls.call_len_list pl.isList (by simp only [List.size_toArray] <;> lia) ⟨.int ys.length,H,I.tok _,⟨s.toks+1,by rw [List.size_toArray,hlen]⟩,q⟩
 ·obtain ⟨its,r',pl,hz⟩:=I.tuple hq
  have hlen:=r'.length
  exact len_tuple pl (by simp only [List.size_toArray] <;> lia) ⟨.int ys.length,H,I.tok _,⟨s.toks+1,by rw [List.size_toArray,hlen]⟩,q⟩
theorem fc:bV X (.type "list") (fun xs H Q=> ∃ p ys,xs=[.ref p]/\(SqL X.K H p ys\/SqT X.K H p ys)/\ ∀ l,H l=none->Q (.ref l) (upd H l (.lst ys))):=by
 intro pins s σ H xs us Q I r h
 obtain ⟨p,ys,rfl,hq,q⟩:=h
 obtain ⟨u,rfl,rx⟩:=cI r
 cases rx
 have fin: ∀ (its:List Value),Vals ys its->ys.length<=sizeLine-> ∀ (h':Heap) (c':Nat),(∀ b o',s.heap.get? b=some o'->h'.get? b=some o')->
   h'.get? s.heap.objs.size=some {cls:=.type "list",dict:=none,data:=.seq its.toArray c',slots:= #[]}->EP X pins σ Q (.ref s.heap.objs.size) {s with heap:=h'}:=fun its r' hz h' c' kp e=>
  ⟨.ref s.heap.objs.size,_,I.laid (t':=s.toks) kp (Nat.le_refl _) (show ObjOk X.prog X.w _ h' _ (.lst ys)from ⟨hz,its,c',r',e⟩),rfl,q _ (I.hok.fresh (Nat.le_refl _))⟩
 rcases hq with hq | hq
 ·obtain ⟨its,r',pl,hz⟩:=I.list hq
  have hlen:=r'.length
  obtain ⟨o,ho,hc,n,hd⟩:=pl.isList
  exact call_list_seq p (.inl rfl) ho hc hd (fun h' c' kp e=>fin its r' hz h' c' kp e) (by simp only [List.size_toArray] <;> lia)
 ·obtain ⟨its,r',pl,hz⟩:=I.tuple hq
  have hlen:=r'.length
  obtain ⟨o,ho,hc,n,hd⟩:=pl
  exact call_list_seq p (.inr rfl) ho hc hd (fun h' c' kp e=>fin its r' hz h' c' kp e) (by simp only [List.size_toArray] <;> lia)
theorem bm:bV X (.type "tuple") (fun xs H Q=> ∃ p ys,xs=[.ref p]/\((SqL X.K H p ys/\ ∀ l,H l=none->Q (.ref l) (upd H l (.tup ys)))\/(SqT X.K H p ys/\Q (.ref p) H))):=by
 intro pins s σ H xs us Q I r h
 obtain ⟨p,ys,rfl,h⟩:=h
 obtain ⟨u,rfl,rx⟩:=cI r
 cases rx
 rcases h with ⟨hq,q⟩ | ⟨hq,q⟩
 ·obtain ⟨its,r',pl,hz⟩:=I.list hq
  have hlen:=r'.length
  refine call_tuple_list pl.isList (fun h' kp=>?_) (by simp only [List.size_toArray] <;> lia)
  have I1:Inv X pins σ H {s with heap:=h'}:=I.kept (t':=s.toks) kp
  have I2:Inv X pins σ (upd H h'.objs.size (.tup ys)) {s with heap:=h'.push {cls:=.type "tuple",data:=.seq its.toArray}}:=
   I1.laid (t':=s.toks) (fun b o e=>Heap.get?_push_of_some _ e) (Nat.le_refl _) (show ObjOk X.prog X.w _ _ _ (.tup ys)from ⟨hz,its,r',IsTup.new _ _⟩)
  exact ⟨.ref h'.objs.size,_,I2,rfl,q _ (I1.hok.fresh (Nat.le_refl _))⟩
 ·obtain ⟨its,r',pl,hz⟩:=I.tuple hq
  exact call_tuple_same pl ⟨.ref p,H,I,rfl,q⟩
noncomputable def tyV (K:PySem.W.Frag) (T:String) (x:V) (H:Hp):Prop:=match x with
 | .str _=>T="str"
 | .int _=>T="int"
 | .ref p=>(T="list"/\ ∃ xs,SqL K H p xs)\/(T="tuple"/\ ∃ o,K.lookup p=some o/\o.cls=.type "tuple"/\o.dict=none)\/
   (T="dict"/\((∃ kvs,H p=some (.dK kvs))\/ ∃ kvs,H p=some (.dT kvs)))\/(T="set"/\ ∃ S n,H p=some (.set S n))
 | _=>False
theorem pN {pins:List (Addr×Obj)} {σ:St} {H:Hp} {s:Shared} {T:String} {x:V} {v:Value} (I:Inv X pins σ H s) (r:RelV x v) (ty:tyV X.K T x H):
  s.TypeIs v T/\ ∀ a,v=.ref a-> ∃ ob,s.heap.get? a=some ob/\ob.dict=none:=by
 cases x with
 | str z=>
  obtain ⟨t,rfl⟩:=r
  cases (show T="str" from ty)
  exact ⟨typeIs_str s z t,fun _ e=>nomatch e⟩
 | int i=>
  obtain ⟨t,rfl⟩:=r
  cases (show T="int" from ty)
  exact ⟨typeIs_int s i t,fun _ e=>nomatch e⟩
 | ref p=>
  cases r
  rcases ty with ⟨rfl,xs,hq⟩ | ⟨rfl,o,hk,hc,hd⟩ | ⟨rfl,hk⟩ | ⟨rfl,S,n,hk⟩
  ·obtain ⟨its,_,pl,_⟩:=I.list hq
   refine ⟨pl.isList.typeIs,fun a e=>?_⟩
   cases e
   obtain ⟨o,n,e,c,hd,_⟩:=pl
   exact ⟨o,e,hd⟩
  ·refine ⟨⟨o,I.kIn p o hk,hc⟩,fun a e=>?_⟩
   cases e
   exact ⟨o,I.kIn _ o hk,hd⟩
  ·have z: ∃ o,s.heap.get? p=some o/\o.ExactDict:=by
    rcases hk with ⟨kvs,hk⟩ | ⟨kvs,hk⟩
    ·obtain ⟨_,_,_,_,o,_,_,e,ex,_⟩:=I.hok p _ hk
     exact ⟨o,e,ex⟩
    ·obtain ⟨_,_,_,_,o,_,_,e,ex,_⟩:=I.hok p _ hk
     exact ⟨o,e,ex⟩
   obtain ⟨o,e,ex⟩:=z
   refine ⟨⟨o,e,ex.1⟩,fun a e2=>?_⟩
   cases e2
   exact ⟨o,e,ex.2.1⟩
  ·obtain ⟨o,_,_,_,e,ex,_⟩:=I.hok p _ hk
   refine ⟨⟨o,e,ex.1⟩,fun a e2=>?_⟩
   cases e2
   exact ⟨o,e,ex.2.1⟩
 | _=>exact False.elim ty
noncomputable def wu (K:PySem.W.Frag) (T:String) (r:V->List V->Hp->VK->Prop) (to:TE):TE:=fun σ H Q=>to σ H fun x H1=>tyV K T x H1/\r x [] H1 Q
noncomputable def tBM (K:PySem.W.Frag) (T:String) (r:V->List V->Hp->VK->Prop) (to:TE) (t:TA):TE:=fun σ H Q=>to σ H fun x H1=>tyV K T x H1/\t σ H1 fun xs H2=>r x xs H2 Q
variable {o e:Expr} {es:List Expr} {to:TE} {t:TA} {name:Str} {apos cpos:Pos} {T id:String} {r:V->List V->Hp->VK->Prop}
theorem qN (pa:PlainAttrs T) (slot:Slot T name id) (hty:typeOf (.builtin id)=pure (.type "method_descriptor")) (hm:MtR X id r) (ho:PE X o to)
  (hbase:attributeBase o name X.env (eval o X.env)=eval o X.env:=by rfl) (hline:(apos.endLine==cpos.line)=true:=by rfl):PE X (.Call (.Attribute o name apos) [] [] cpos) (wu X.K T r to):=by
 intro pins s σ H Q I h
 refine wpAny_Call_method0_late hbase hline (thn (ho pins s σ H _ I h) fun v s1 ⟨x,H1,I1,r1,ty,q1⟩=>?_)
 obtain ⟨h1,h2⟩:=pN I1 r1 ty
 exact ⟨T,id,pa,slot,hty,h1,h2,Calls.callWith_builtin rfl (PySem.evalArgs_none (hm pins s1 σ H1 x [] v [] Q I1 r1 .nil q1))⟩
theorem c9 (pa:PlainAttrs T) (slot:Slot T name id) (hty:typeOf (.builtin id)=pure (.type "method_descriptor")) (hm:MtR X id r) (ho:PE X o to) (ha:PA X (e::es) t)
  (hbase:attributeBase o name X.env (eval o X.env)=eval o X.env:=by rfl)
  (hfew:((backTo cpos (starEach (e::es) X.env)).all (fun x=> !x.1)&&(backToKw cpos (keywordEach [] X.env)).all (fun x=>x.1.isSome)
   &&decide ((e::es).length+ ([]:List Keyword).length+ (if ([]:List Keyword).isEmpty then 0 else 1) <30))=true:=by rfl)
  (hline:(apos.endLine==cpos.line)=true:=by rfl) (hs:starEach (e::es) X.env=(false,eval e X.env)::starEach es X.env:=by rfl) (hplain:(backTo cpos (starEach es X.env)).any (·.1)=false:=by rfl):
  PE X (.Call (.Attribute o name apos) (e::es) [] cpos) (tBM X.K T r to t):=by
 intro pins s σ H Q I h
 refine wpAny_Call_method_late hbase hfew hline rfl (thn (ho pins s σ H _ I h) fun v s1 ⟨x,H1,I1,r1,ty,q1⟩=>?_)
 obtain ⟨h1,h2⟩:=pN I1 r1 ty
 refine ⟨T,id,pa,slot,hty,h1,h2,?_⟩
 have hA:=ha cpos pins s1 σ H1 _ I1 q1
 rw [hs]at hA ⊢
 refine Calls.callWith_builtin (by show (false||(backTo cpos (starEach es X.env)).any (·.1))=false;rw [hplain] <;> rfl) (Calls.evalArgs_plain ?_)
 exact thn hA fun us s2 ⟨vs,H2,I2,r2,q2⟩=>hm pins s2 σ H2 x vs v us Q I2 r1 r2 q2
end
noncomputable def MtM (X:Cx) (id:String) (r:V->List V->Hp->VK->Prop):Prop:=
 ∀ (pins:List (Addr×Obj)) (s:Shared) (σ:St) (H:Hp) (x:V) (xs:List V) (v:Value) (us:List Value) (Q:VK),Inv X pins σ H s->RelV x v->Vals xs us->r x xs H Q->
  wpAny (model X.prog X.w) X.A (call (.builtin id) (v::us)) (EP X pins σ Q) X.xe s
theorem Vals.one: ∀ {x:V} {us:List Value},Vals [x] us-> ∃ u,us=[u]/\RelV x u
 | _,_,.cons r .nil=>⟨_,rfl,r⟩
theorem Vals.two: ∀ {x y:V} {us:List Value},Vals [x,y] us-> ∃ u v,us=[u,v]/\RelV x u/\RelV y v
 | _,_,_,.cons r (.cons q .nil)=>⟨_,_,rfl,r,q⟩
theorem Vals.zero: ∀ {us:List Value},Vals [] us->us=[]
 | _,.nil=>rfl
theorem Vals.dropLast {xs:List V} {us:List Value} (h:Vals xs us):Vals xs.dropLast us.dropLast:=by
 induction h with
 | nil=>exact .nil
 | cons r t ih=>
  cases t with
  | nil=>exact .nil
  | cons q t'=>exact .cons r ih
theorem l6 {α:Type} (l:List α):l.eraseIdx (l.length-1)=l.dropLast:=by
 induction l with
 | nil=>rfl
 | cons a r ih=>
  cases r with
  | nil=>rfl
  | cons b r=>
   have e:(a::b::r).length-1=((b::r).length-1) +1:=by
    have h1:(a::b::r).length=r.length+2:=rfl
    have h2:(b::r).length=r.length+1:=rfl
    lia
   rw [e,List.eraseIdx_cons_succ,ih]
   all_goals rfl
section
variable {X:Cx} {pins:List (Addr×Obj)} {σ:St} {H:Hp} {s:Shared} {l b:Addr} {xs ys zs:List V}
theorem Inv.lset {its its':List Value} {n:Nat} {f:Array Value->Array Value} {t':Nat} (I:Inv X pins σ H s) (hH:H l=some (.lst xs))
  (e:s.heap.get? l=some {cls:=.type "list",data:=.seq its.toArray n}) (hf:f its.toArray=its'.toArray) (hv:Vals ys its') (hz:ys.length<=sizeLine):
  Inv X pins σ (upd H l (.lst ys)) {s with heap:=s.heap.update l (Obj.mapSeq f),toks:=t'}:=by
 have q:=PySem.IsL.update e f
 rw [hf]at q
 refine I.write (x:=l) (e:=l) (by rw [hH];exact trivial) (.inl rfl) (fun b' u hb hu=>(Heap.get?_update_other s.heap (Obj.mapSeq f) (Ne.symm hb)).trans hu) ⟨_,q⟩ ?_
 exact ⟨hz,its',_,hv,q⟩
theorem Inv.lnew {its:List Value} {t':Nat} (I:Inv X pins σ H s) (hv:Vals ys its) (hz:ys.length<=sizeLine):
  Inv X pins σ (upd H s.heap.objs.size (.lst ys)) {s with heap:=s.heap.push {cls:=.type "list",data:=.seq its.toArray},toks:=t'}:=
 I.laid (fun _ _ q=>Heap.get?_push_of_some _ q) (Nat.le_refl _) ⟨hz,its,0,hv,Heap.get?_push_size _ rfl⟩
theorem Inv.fresh (I:Inv X pins σ H s):H s.heap.objs.size=none:=I.hok.fresh (Nat.le_refl _)
theorem Inv.lstM (I:Inv X pins σ H s) (hH:H l=some (.lst xs)):xs.length<=sizeLine/\ ∃ (its:List Value) (n:Nat),Vals xs its/\xs.length=its.length/\s.heap.get? l=some {cls:=.type "list",data:=.seq its.toArray n}:=by
 obtain ⟨z,its,n,r,e⟩:=I.hok l _ hH
 exact ⟨z,its,n,r,r.length,e⟩
theorem kg {n:Nat} (h:n<=sizeLine):Builtin.List.listTooLong n=false:=by
 unfold Builtin.List.listTooLong
 exact decide_eq_false (by lia)
end
section
variable {X:Cx}
noncomputable def sw:V->List V->Hp->VK->Prop:=fun x vs H Q=> ∃ l xs y,x=.ref l/\vs=[y]/\H l=some (.lst xs)/\xs.length<sizeLine/\Q .non (upd H l (.lst (xs++[y])))
theorem bo:MtM X "list.append" sw:=by
 intro pins s σ H x vs v us Q I rx rv h
 obtain ⟨l,xs,y,rfl,rfl,hH,hz,q⟩:=h
 cases rx
 obtain ⟨u,rfl,ru⟩:=rv.one
 obtain ⟨z,its,n,r,hl,e⟩:=I.lstM hH
 refine call_meets F.slot_list_append ⟨_,e,rfl⟩ F.entry_list_append (F.args_list_append_2 _ _) (PySem.list_append l its.toArray n u (by rw [List.size_toArray];lia)) ⟨e,?_⟩
 refine ⟨.non,_,I.lset (its':=its++[u]) hH e (by simp) (r.append (.cons ru .nil)) ?_,rfl,q⟩
 rw [List.length_append,List.length_singleton]
 lia
noncomputable def su:V->List V->Hp->VK->Prop:=fun x vs H Q=> ∃ l b xs zs,x=.ref l/\vs=[.ref b]/\H l=some (.lst xs)/\H b=some (.lst zs)/\xs.length+zs.length<=sizeLine/\Q .non (upd H l (.lst (xs++zs)))
theorem iN:MtM X "list.extend" su:=by
 intro pins s σ H x vs v us Q I rx rv h
 obtain ⟨l,b,xs,zs,rfl,rfl,hH,hB,hz,q⟩:=h
 cases rx
 obtain ⟨u,rfl,ru⟩:=rv.one
 cases ru
 obtain ⟨z,its,n,r,hl,e⟩:=I.lstM hH
 obtain ⟨z2,its2,n2,r2,hl2,e2⟩:=I.lstM hB
 have hsz:its.toArray.size+its2.toArray.size<=sizeLine:=by rw [List.size_toArray,List.size_toArray];lia
 have hlong: ¬ (!its.toArray.isEmpty&&Builtin.List.listTooLong (its.toArray.size+its2.toArray.size))=true:=by
  rw [kg hsz,Bool.and_false]
  exact Bool.false_ne_true
 refine call_meets F.slot_list_extend ⟨_,e,rfl⟩ F.entry_list_extend (F.args_list_extend_2 _ _)
  (AutoSeq1.list_extend_list_list_0 l its.toArray n b its2.toArray n2 hlong (by rw [List.size_toArray];lia) (by lia)) ⟨e,e2,?_⟩
 refine ⟨.non,_,I.lset (its':=its++its2) hH e (by simp) (r.append r2) ?_,rfl,q⟩
 rw [List.length_append]
 lia
noncomputable def wD:V->List V->Hp->VK->Prop:=fun x vs H Q=> ∃ l xs y,x=.ref l/\vs=[]/\H l=some (.lst xs)/\xs[xs.length-1]? =some y/\Q y (upd H l (.lst xs.dropLast))
theorem rf:MtM X "list.pop" wD:=by
 intro pins s σ H x vs v us Q I rx rv h
 obtain ⟨l,xs,y,rfl,rfl,hH,hy,q⟩:=h
 cases rx
 have hus:=rv.zero
 subst hus
 obtain ⟨z,its,n,r,hl,e⟩:=I.lstM hH
 obtain ⟨u,hu,ru⟩:=r.get hy
 have hy':its.toArray[its.toArray.size-1]? =some u:=by
  show its.toArray[its.length-1]? =some u
  rw [<- Array.getElem?_toList,<- hl]
  exact hu
 refine call_meets F.slot_list_pop ⟨_,e,rfl⟩ F.entry_list_pop (F.args_list_pop_1 _) (MeetsSeq.list_pop_last l its.toArray n u hy' (by rw [List.size_toArray];lia)) ⟨e,?_⟩
 refine ⟨y,_,I.lset (its':=its.dropLast) hH e ?_ r.dropLast ?_,ru,q⟩
 ·show its.toArray.eraseIdxIfInBounds (its.toArray.size-1)=its.dropLast.toArray
  rw [List.size_toArray,List.eraseIdxIfInBounds_toArray,l6]
 ·rw [List.length_dropLast]
  lia
noncomputable def wI:R2:=fun x y H Q=> ∃ l b xs zs,x=.ref l/\y=.ref b/\H l=some (.lst xs)/\H b=some (.lst zs)/\xs.length+zs.length<=sizeLine/\ ∀ p,H p=none->Q (.ref p) (upd H p (.lst (xs++zs)))
theorem gU:OpR X (binaryOp .Add) wI:=by
 intro pins s σ H x y v u Q I rx ry h
 obtain ⟨l,b,xs,zs,rfl,rfl,hH,hB,hz,q⟩:=h
 cases rx
 cases ry
 obtain ⟨z,its,n,r,hl,e⟩:=I.lstM hH
 obtain ⟨z2,its2,n2,r2,hl2,e2⟩:=I.lstM hB
 refine PySem.P.add_list e e2 ?_ (by rw [List.size_toArray,List.size_toArray];lia)
 have ea:its.toArray++its2.toArray=(its++its2).toArray:=by simp
 rw [ea]
 exact ⟨.ref _,_,I.lnew (t':=s.toks) (r.append r2) (by rw [List.length_append];lia),rfl,q _ I.fresh⟩
end
section
variable {κ:Type} [DecidableEq κ]
noncomputable def bu (kvs:List (κ×V)) (k:κ):Option V:=(kvs.find? fun kv=>decide (kv.1=k)).map (·.2)
noncomputable def bz (kvs:List (κ×V)) (k:κ) (v:V):List (κ×V):=
 if (kvs.any fun kv=>decide (kv.1=k))=true then kvs.map (fun kv=>if kv.1=k then (kv.1,v)else kv)else kvs++[(k,v)]
theorem pM {k:κ}:bu ([]:List (κ×V)) k=none:=rfl
theorem bt {p:κ×V} {r:List (κ×V)} {k:κ} (e:p.1=k):bu (p::r) k=some p.2:=by simp [bu,List.find?_cons,e]
theorem aX {p:κ×V} {r:List (κ×V)} {k:κ} (e: ¬ p.1=k):bu (p::r) k=bu r k:=by simp [bu,List.find?_cons,e]
theorem dA (k:κ): ∀ kvs:List (κ×V),(kvs.any fun kv=>decide (kv.1=k))=(bu kvs k).isSome
 | []=>rfl
 | p::r=>by
  rw [List.any_cons]
  by_cases e:p.1=k
  ·simp only [bt e,decide_eq_true e,Bool.true_or,Option.isSome_some]
  ·rw [aX e,decide_eq_false e,Bool.false_or];exact dA k r
theorem jI (k j:κ) (y:V): ∀ kvs:List (κ×V),bu (kvs.map fun kv=>if kv.1=k then (kv.1,y)else kv) j=(bu kvs j).map fun x=>if j=k then y else x
 | []=>rfl
 | p::r=>by
  have ih:=jI k j y r
  rw [List.map_cons]
  by_cases h:p.1=k
  ·rw [if_pos h]
   by_cases e:p.1=j
   ·rw [bt (p:=(p.1,y)) e,bt e,Option.map_some,if_pos (e.symm.trans h)]
   ·rw [aX (p:=(p.1,y)) e,aX e,ih]
  ·rw [if_neg h]
   by_cases e:p.1=j
   ·rw [bt (p:=p) e,bt e,Option.map_some,if_neg (fun z=>h (e.trans z))]
   ·rw [aX (p:=p) e,aX e,ih]
theorem iC (k j:κ) (y:V): ∀ kvs:List (κ×V),bu kvs k=none->bu (kvs++[(k,y)]) j=if j=k then some y else bu kvs j
 | [],_=>by
  by_cases e:k=j
  ·rw [if_pos e.symm];exact bt (p:=(k,y)) e
  ·rw [if_neg (fun z=>e z.symm)];exact aX (p:=(k,y)) e
 | p::r,hn=>by
  rw [List.cons_append]
  have hk: ¬ p.1=k:=fun z=>by rw [bt z]at hn;cases hn
  rw [aX hk]at hn
  have ih:=iC k j y r hn
  by_cases e:p.1=j
  ·rw [bt e,bt e,if_neg (fun z=>hk (e.trans z))]
  ·rw [aX e,aX e,ih]
theorem jH (kvs:List (κ×V)) (k j:κ) (y:V):bu (bz kvs k y) j=if j=k then some y else bu kvs j:=by
 unfold bz
 by_cases a:(kvs.any fun kv=>decide (kv.1=k))=true
 ·rw [if_pos a,jI]
  rw [dA]at a
  by_cases e:j=k
  ·obtain ⟨x,hx⟩:=Option.isSome_iff_exists.mp a
   rw [if_pos e,e,hx,Option.map_some,if_pos rfl]
  ·rw [if_neg e]
   cases bu kvs j with
   | none=>rfl
   | some x=>rw [Option.map_some,if_neg e]
 ·rw [if_neg a]
  refine iC k j y kvs ?_
  rw [dA]at a
  cases q:bu kvs k with
  | none=>rfl
  | some x=>rw [q]at a;exact (a rfl).elim
theorem cZ (kvs:List (κ×V)) (k:κ) (v:V):(bz kvs k v).length<=kvs.length+1:=by
 unfold bz
 split
 ·rw [List.length_map];lia
 ·rw [List.length_append,List.length_cons,List.length_nil];lia
theorem RelO.isSome_eq {o:Option V} {u:Option Value} (r:RelO o u):o.isSome=u.isSome:=by
 cases o with
 | none=>cases u with
  | none=>rfl
  | some _=>exact (show False from r).elim
 | some _=>cases u with
  | none=>exact (show False from r).elim
  | some _=>rfl
theorem KV.val {kvs:List (κ×V)} {vs:List (κ×Value)} (r:KV kvs vs) (k:κ):RelO (bu kvs k) (valueAt vs k):=by
 unfold KV at r
 induction r with
 | nil=>exact True.intro
 | @cons p q ps qs h t ih=>
  obtain ⟨h1,h2⟩:=h
  by_cases e:p.1=k
  ·have e':q.1=k:=h1.symm.trans e
   have b:valueAt (q::qs) k=some q.2:=by simp [valueAt,List.find?_cons,e']
   rw [bt e,b];exact h2
  ·have e': ¬ q.1=k:=fun z=>e (h1.trans z)
   have b:valueAt (q::qs) k=valueAt qs k:=by simp [valueAt,List.find?_cons,e']
   rw [aX e,b];exact ih
theorem KV.any {kvs:List (κ×V)} {vs:List (κ×Value)} (r:KV kvs vs) (k:κ):(kvs.any fun kv=>decide (kv.1=k))=vs.any fun kv=>decide (kv.1=k):=by
 unfold KV at r
 induction r with
 | nil=>rfl
 | cons h t ih=>rw [List.any_cons,List.any_cons,ih,h.1]
theorem KV.repl {kvs:List (κ×V)} {vs:List (κ×Value)} (r:KV kvs vs) (k:κ) {y:V} {u:Value} (ry:RelV y u):
  KV (kvs.map fun kv=>if kv.1=k then (kv.1,y)else kv) (vs.map fun kv=>if kv.1=k then (kv.1,u)else kv):=by
 unfold KV at r ⊢
 induction r with
 | nil=>exact .nil
 | @cons p q ps qs h t ih=>
  rw [List.map_cons,List.map_cons]
  refine .cons ?_ ih
  obtain ⟨h1,h2⟩:=h
  by_cases e:p.1=k
  ·rw [if_pos e,if_pos (h1.symm.trans e)];exact ⟨h1,ry⟩
  ·rw [if_neg e,if_neg (fun z=>e (h1.trans z))];exact ⟨h1,h2⟩
theorem KV.put {kvs:List (κ×V)} {vs:List (κ×Value)} (r:KV kvs vs) (k:κ) {y:V} {u:Value} (ry:RelV y u):KV (bz kvs k y) (stored vs k u):=by
 unfold bz stored
 rw [r.any k]
 by_cases e:(vs.any fun kv=>decide (kv.1=k))=true
 ·rw [if_pos e,if_pos e];exact r.repl k ry
 ·rw [if_neg e,if_neg e];exact Paired.snoc r ⟨rfl,ry⟩
theorem KV.length {kvs:List (κ×V)} {vs:List (κ×Value)} (r:KV kvs vs):kvs.length=vs.length:=Paired.length r
end
theorem iP {P:Program} {w:World} {k:Key} {u:Value} (r:RelV (kV k) u):(az P w).is k u=true:=by
 cases k with
 | inl i=>obtain ⟨t,e⟩:=(show ∃ t,u=Value.int i t from r);subst e;exact kj P w i t
 | inr x=>obtain ⟨t,e⟩:=(show ∃ t,u=Value.str x t from r);subst e;exact fK P w x t
theorem iQ {P:Program} {w:World}: ∀ {ks:List Key} {us:List Value},Vals (ks.map kV) us->ItemsAre (az P w) ks us
 | [],_,r=>by rw [List.map_nil]at r;cases r;exact .nil
 | k::ks,_,r=>by
  rw [List.map_cons]at r
  cases r with
  | cons h t=>exact .cons (iP h) (iQ t)
noncomputable abbrev KT (H:Hp):List (List Key×V)->List (List Key×Addr×Value)->Prop:=Paired fun p q=>p.1=q.1/\H q.2.1=some (.tup (p.1.map kV))/\RelV p.2 q.2.2
theorem KT.val {H:Hp} {kvs:List (List Key×V)} {xs:List (List Key×Addr×Value)} (r:KT H kvs xs) (k:List Key):RelO (bu kvs k) ((atKey xs k).map (·.2)):=by
 induction r with
 | nil=>exact True.intro
 | @cons p q ps qs h t ih=>
  obtain ⟨h1,_,h2⟩:=h
  by_cases e:p.1=k
  ·have e':q.1=k:=h1.symm.trans e
   have b:atKey (q::qs) k=some q.2:=by simp [atKey,List.find?_cons,e']
   rw [bt e,b];exact h2
  ·have e': ¬ q.1=k:=fun z=>e (h1.trans z)
   have b:atKey (q::qs) k=atKey qs k:=by simp [atKey,List.find?_cons,e']
   rw [aX e,b];exact ih
theorem KT.repl {H:Hp} {kvs:List (List Key×V)} {xs:List (List Key×Addr×Value)} (r:KT H kvs xs) (k:List Key) {y:V} {u:Value} (ry:RelV y u):
  KT H (kvs.map fun kv=>if kv.1=k then (kv.1,y)else kv) (xs.map (putAt k u)):=by
 induction r with
 | nil=>exact .nil
 | @cons p q ps qs h t ih=>
  rw [List.map_cons,List.map_cons]
  refine .cons ?_ ih
  obtain ⟨h1,h2,h3⟩:=h
  unfold putAt
  by_cases e:p.1=k
  ·rw [if_pos e,if_pos (h1.symm.trans e)];exact ⟨h1,h2,ry⟩
  ·rw [if_neg e,if_neg (fun z=>e (h1.trans z))];exact ⟨h1,h2,h3⟩
theorem KT.put {H:Hp} {kvs:List (List Key×V)} {xs:List (List Key×Addr×Value)} (r:KT H kvs xs) (k:List Key) {b:Addr} {y:V} {u:Value} (hb:H b=some (.tup (k.map kV))) (ry:RelV y u):
  KT H (bz kvs k y) (storedH xs k b u):=by
 have e:(kvs.any fun kv=>decide (kv.1=k))=(atKey xs k).isSome:=by
  rw [dA,(r.val k).isSome_eq,Option.isSome_map]
 unfold bz storedH
 rw [e]
 by_cases q:(atKey xs k).isSome=true
 ·rw [if_pos q,if_pos q];exact r.repl k ry
 ·rw [if_neg q,if_neg q];exact Paired.snoc r ⟨rfl,hb,ry⟩
theorem KT.keeps {H H':Hp} {kvs:List (List Key×V)} {xs:List (List Key×Addr×Value)} (r:KT H kvs xs) (ht: ∀ b ys,H b=some (.tup ys)->H' b=some (.tup ys)):KT H' kvs xs:=
 Paired.mapP r fun _ _ z=>⟨z.1,ht _ _ z.2.1,z.2.2⟩
noncomputable abbrev KP (H:Hp):List ((List Key×Key)×V)->List ((List Key×Key)×Addr×Value)->Prop:=Paired fun p q=>p.1=q.1/\(∃ c,H q.2.1=some (.tup [.ref c,kV p.1.2])/\H c=some (.tup (p.1.1.map kV)))/\RelV p.2 q.2.2
theorem KP.val {H:Hp} {kvs:List ((List Key×Key)×V)} {xs:List ((List Key×Key)×Addr×Value)} (r:KP H kvs xs) (k:List Key×Key):RelO (bu kvs k) ((atKey xs k).map (·.2)):=by
 induction r with
 | nil=>exact True.intro
 | @cons p q ps qs h t ih=>
  obtain ⟨h1,_,h2⟩:=h
  by_cases e:p.1=k
  ·have e':q.1=k:=h1.symm.trans e
   have b:atKey (q::qs) k=some q.2:=by simp [atKey,List.find?_cons,e']
   rw [bt e,b];exact h2
  ·have e': ¬ q.1=k:=fun z=>e (h1.trans z)
   have b:atKey (q::qs) k=atKey qs k:=by simp [atKey,List.find?_cons,e']
   rw [aX e,b];exact ih
theorem KP.repl {H:Hp} {kvs:List ((List Key×Key)×V)} {xs:List ((List Key×Key)×Addr×Value)} (r:KP H kvs xs) (k:List Key×Key) {y:V} {u:Value} (ry:RelV y u):
  KP H (kvs.map fun kv=>if kv.1=k then (kv.1,y)else kv) (xs.map (putAt k u)):=by
 induction r with
 | nil=>exact .nil
 | @cons p q ps qs h t ih=>
  rw [List.map_cons,List.map_cons]
  refine .cons ?_ ih
  obtain ⟨h1,h2,h3⟩:=h
  unfold putAt
  by_cases e:p.1=k
  ·rw [if_pos e,if_pos (h1.symm.trans e)];exact ⟨h1,h2,ry⟩
  ·rw [if_neg e,if_neg (fun z=>e (h1.trans z))];exact ⟨h1,h2,h3⟩
theorem KP.put {H:Hp} {kvs:List ((List Key×Key)×V)} {xs:List ((List Key×Key)×Addr×Value)} (r:KP H kvs xs) (k:List Key×Key) {b:Addr} {y:V} {u:Value} (hb: ∃ c,H b=some (.tup [.ref c,kV k.2])/\H c=some (.tup (k.1.map kV))) (ry:RelV y u):
  KP H (bz kvs k y) (storedH xs k b u):=by
 have e:(kvs.any fun kv=>decide (kv.1=k))=(atKey xs k).isSome:=by
  rw [dA,(r.val k).isSome_eq,Option.isSome_map]
 unfold bz storedH
 rw [e]
 by_cases q:(atKey xs k).isSome=true
 ·rw [if_pos q,if_pos q];exact r.repl k ry
 ·rw [if_neg q,if_neg q];exact Paired.snoc r ⟨rfl,hb,ry⟩
theorem KP.keeps {H H':Hp} {kvs:List ((List Key×Key)×V)} {xs:List ((List Key×Key)×Addr×Value)} (r:KP H kvs xs) (ht: ∀ b ys,H b=some (.tup ys)->H' b=some (.tup ys)):KP H' kvs xs:=
 Paired.mapP r fun _ _ z=>⟨z.1,let ⟨c,e1,e2⟩:=z.2.1;⟨c,ht _ _ e1,ht _ _ e2⟩,z.2.2⟩
section
variable {P:Program} {w:World} {H:Hp} {h:Heap} {a:Addr}
theorem qA {u:HO} (ok:HOk P w H h) (e:Rd H a u):ObjOk P w H h a u:=e.ok ok
theorem rP {kvs:List (Key×V)} (ok:HOk P w H h) (e:Rd H a (.dK kvs)):kvs.length<=sizeLine/\(a==sysModules)=false/\ ∃ vs,KV kvs vs/\h.DictOf (az P w) a vs:=
 show ObjOk P w H h a (.dK kvs)from qA ok e
theorem fN {kvs:List (Key×V)} (ok:HOk P w H h) (e:H a=some (.dK kvs)):kvs.length<=sizeLine/\(a==sysModules)=false/\ ∃ vs,KV kvs vs/\h.DictOf (az P w) a vs:=rP ok (.inl e)
theorem ei {ks:List Key} (ok:HOk P w H h) (e:H a=some (.tup (ks.map kV))):(tupleKind (az P w)).is h ks a:=by
 obtain ⟨_,its,r,o,h1,h2,n,h3⟩:=(show ObjOk P w H h a (.tup (ks.map kV))from ok a _ e)
 exact ⟨o,its.toArray,n,h1,h2,h3,by simpa using iQ r⟩
theorem rJ {kvs:List (List Key×V)} (ok:HOk P w H h) (e:Rd H a (.dT kvs)):kvs.length<=sizeLine/\(a==sysModules)=false/\
  ∃ xs,KT H kvs xs/\h.DictOfH (tupleKind (az P w)) a xs:=by
 obtain ⟨z,y,xs,r,o,es,ep,h1,h2,h3,h4,h5⟩:=(show ObjOk P w H h a (.dT kvs)from qA ok e)
 refine ⟨z,y,xs,r,o,es,ep,h1,h2,h3,h4,fun x hx=>?_,h5⟩
 have all: ∀ {l:List (List Key×V)} {m:List (List Key×Addr×Value)},KT H l m-> ∀ x∈m,(tupleKind (az P w)).is h x.1 x.2.1:=by
  intro l m q
  induction q with
  | nil=>intro x hx;exact nomatch hx
  | @cons p q ps qs hq t ih=>
   intro x hx
   rcases List.mem_cons.mp hx with e | hx
   ·subst e
    exact ei ok (by rw [<- hq.1];exact hq.2.1)
   ·exact ih x hx
 exact all r x hx
theorem vR {kvs:List (List Key×V)} (ok:HOk P w H h) (e:H a=some (.dT kvs)):kvs.length<=sizeLine/\(a==sysModules)=false/\
  ∃ xs,KT H kvs xs/\h.DictOfH (tupleKind (az P w)) a xs:=rJ ok (.inl e)
theorem jt {k:List Key×Key} (ok:HOk P w H h) (e: ∃ c,H a=some (.tup [.ref c,kV k.2])/\H c=some (.tup (k.1.map kV))):(dG (az P w) (az P w)).is h k a:=by
 obtain ⟨c,e1,e2⟩:=e
 obtain ⟨_,its,r,o,h1,h2,n,h3⟩:=(show ObjOk P w H h a (.tup [.ref c,kV k.2])from ok a _ e1)
 obtain ⟨u,v,rfl,ru,rv⟩:=r.two
 cases (show u=Value.ref c from ru)
 exact ⟨o,_,n,c,v,h1,h2,h3,by simp,ei ok e2,iP rv⟩
theorem rO {kvs:List ((List Key×Key)×V)} (ok:HOk P w H h) (e:Rd H a (.dP kvs)):kvs.length<=sizeLine/\(a==sysModules)=false/\
  ∃ xs,KP H kvs xs/\h.DictOfH (dG (az P w) (az P w)) a xs:=by
 obtain ⟨z,y,xs,r,o,es,ep,h1,h2,h3,h4,h5⟩:=(show ObjOk P w H h a (.dP kvs)from qA ok e)
 refine ⟨z,y,xs,r,o,es,ep,h1,h2,h3,h4,fun x hx=>?_,h5⟩
 have all: ∀ {l:List ((List Key×Key)×V)} {m:List ((List Key×Key)×Addr×Value)},KP H l m-> ∀ x∈m,(dG (az P w) (az P w)).is h x.1 x.2.1:=by
  intro l m q
  induction q with
  | nil=>intro x hx;exact nomatch hx
  | @cons p q ps qs hq t ih=>
   intro x hx
   rcases List.mem_cons.mp hx with e | hx
   ·subst e
    rw [<- hq.1];exact jt ok hq.2.1
   ·exact ih x hx
 exact all r x hx
theorem vS {kvs:List ((List Key×Key)×V)} (ok:HOk P w H h) (e:H a=some (.dP kvs)):kvs.length<=sizeLine/\(a==sysModules)=false/\
  ∃ xs,KP H kvs xs/\h.DictOfH (dG (az P w) (az P w)) a xs:=rO ok (.inl e)
end
noncomputable def DGet (H:Hp) (a:Addr) (y:V) (r:Option V):Prop:=
 (∃ kvs k,Rd H a (.dK kvs)/\y=kV k/\r=bu kvs k)\/(∃ kvs k b,Rd H a (.dT kvs)/\y=.ref b/\H b=some (.tup (k.map kV))/\r=bu kvs k)\/
 ∃ kvs k b,Rd H a (.dP kvs)/\y=.ref b/\(∃ c,H b=some (.tup [.ref c,kV k.2])/\H c=some (.tup (k.1.map kV)))/\r=bu kvs k
noncomputable def DPut (H:Hp) (a:Addr) (y v:V) (H':Hp):Prop:=
 (∃ kvs k,H a=some (.dK kvs)/\y=kV k/\kvs.length<sizeLine/\H'=upd H a (.dK (bz kvs k v)))\/
 (∃ kvs k b,H a=some (.dT kvs)/\y=.ref b/\H b=some (.tup (k.map kV))/\kvs.length<sizeLine/\H'=upd H a (.dT (bz kvs k v)))\/
 ∃ kvs k b,H a=some (.dP kvs)/\y=.ref b/\(∃ c,H b=some (.tup [.ref c,kV k.2])/\H c=some (.tup (k.1.map kV)))/\kvs.length<sizeLine/\H'=upd H a (.dP (bz kvs k v))
theorem DGet.k {H:Hp} {a:Addr} {kvs:List (Key×V)} {k:Key} (e:H a=some (.dK kvs)):DGet H a (kV k) (bu kvs k):=.inl ⟨kvs,k,.inl e,rfl,rfl⟩
theorem DGet.t {H:Hp} {a b:Addr} {kvs:List (List Key×V)} {k:List Key} (e:H a=some (.dT kvs)) (eb:H b=some (.tup (k.map kV))):DGet H a (.ref b) (bu kvs k):=.inr (.inl ⟨kvs,k,b,.inl e,rfl,eb,rfl⟩)
theorem DPut.k {H:Hp} {a:Addr} {kvs:List (Key×V)} {k:Key} {v:V} (e:H a=some (.dK kvs)) (hl:kvs.length<sizeLine):DPut H a (kV k) v (upd H a (.dK (bz kvs k v))):=.inl ⟨kvs,k,e,rfl,hl,rfl⟩
theorem DPut.t {H:Hp} {a b:Addr} {kvs:List (List Key×V)} {k:List Key} {v:V} (e:H a=some (.dT kvs)) (eb:H b=some (.tup (k.map kV))) (hl:kvs.length<sizeLine):
  DPut H a (.ref b) v (upd H a (.dT (bz kvs k v))):=.inr (.inl ⟨kvs,k,b,e,rfl,eb,hl,rfl⟩)
section
variable {X:Cx} {pins:List (Addr×Obj)} {σ:St} {H:Hp} {s:Shared} {a:Addr} {y v:V} {u r:Value} {o:Option V} {A:Around} {E:Value->Shared->Prop}
theorem Inv.big (I:Inv X pins σ H s):sysModules<s.heap.objs.size:=by
 have h:mainGlobals<s.heap.objs.size:=(I.mod.glob.keeps I.bk).lt
 exact Nat.lt_trans (by decide) h
theorem pB {Q:Value->Shared->Prop} (hu:A.units+16<cLine) (I:Inv X pins σ H s) (g:DGet H a y (some v)) (ry:RelV y u) (h: ∀ w' s',Inv X pins σ H s'->RelV v w'->Q w' s'):
  wpAny (model X.prog X.w) A (getItem (.ref a) u) Q E s:=by
 rcases g with ⟨kvs,k,e,ey,l⟩ | ⟨kvs,k,b,e,ey,eb,l⟩ | ⟨kvs,k,b,e,ey,eb,l⟩
 ·subst ey
  obtain ⟨z,hd,vs,rel,dd⟩:=rP I.hok e
  obtain ⟨w',hw,rw'⟩:=RelO.some_of (v:=v) (o:=valueAt vs k) (by rw [l];exact rel.val k)
  exact wpAny_getItem_of (iP ry) dd.mapOf hw (h w' _ (I.tok _) rw')
 ·subst ey
  cases (show u=Value.ref b from ry)
  obtain ⟨z,hd,xs,rel,dd⟩:=rJ I.hok e
  obtain ⟨w',hw,rw'⟩:=RelO.some_of (v:=v) (o:=(atKey xs k).map (·.2)) (by rw [l];exact rel.val k)
  obtain ⟨p,hp,hp2⟩:=Option.map_eq_some_iff.mp hw
  refine wpAny_getItem_heap (tupleKind_room_in1 (by lia)) (ei I.hok eb) dd hp ?_
  rw [hp2]
  exact h w' _ (I.tok _) rw'
 ·subst ey
  cases (show u=Value.ref b from ry)
  obtain ⟨z,hd,xs,rel,dd⟩:=rO I.hok e
  obtain ⟨w',hw,rw'⟩:=RelO.some_of (v:=v) (o:=(atKey xs k).map (·.2)) (by rw [l];exact rel.val k)
  obtain ⟨p,hp,hp2⟩:=Option.map_eq_some_iff.mp hw
  refine wpAny_getItem_heap (show _+8<cLine by show A.units+1+8<cLine;lia) (jt I.hok eb) dd hp ?_
  rw [hp2]
  exact h w' _ (I.tok _) rw'
theorem gf {h':Heap} {t':Nat} {ob:HO} (I:Inv X pins σ H s) (mu:Mut (H a)) (hs:Heap.SameBut a s.heap h') (he: ∃ q,h'.get? a=some q) (new:ObjOk X.prog X.w (upd H a ob) h' a ob):
  Inv X pins σ (upd H a ob) {s with heap:=h',toks:=t'}:=
 I.write (x:=a) (e:=a) mu (.inl rfl) (fun b q hb z=>(hs.2 b hb).trans z) he new
theorem l8 {P:Program} {w:World} {H':Hp} {h':Heap} {kvs:List (Key×V)} {vs:List (Key×Value)} (z:kvs.length<=sizeLine) (hd:(a==sysModules)=false) (rel:KV kvs vs) (dd:h'.DictOf (az P w) a vs):
  ObjOk P w H' h' a (.dK kvs):=⟨z,hd,vs,rel,dd⟩
theorem pp {H':Hp} {Q:Unit->Shared->Prop} (hu:A.units+16<cLine) (I:Inv X pins σ H s) (g:DPut H a y v H') (ry:RelV y u) (rv:RelV v r) (h: ∀ s',Inv X pins σ H' s'->Q () s'):
  wpAny (model X.prog X.w) A (setItem (.ref a) u r) Q E s:=by
 rcases g with ⟨kvs,k,e,ey,l,eH⟩ | ⟨kvs,k,b,e,ey,eb,l,eH⟩ | ⟨kvs,k,b,e,ey,eb,l,eH⟩
 ·subst ey eH
  obtain ⟨z,hd,vs,rel,dd⟩:=fN I.hok e
  have hz:vs.length<=sizeLine:=by rw [<- rel.length];exact z
  have hl:(bz kvs k v).length<=sizeLine:=by have:=cZ kvs k v;lia
  refine wpAny_setItem_pairs (hsz:=hz) (iP ry) dd fun h' dd' hs=>h _ ?_
  have he: ∃ q,h'.get? a=some q:=let ⟨q,_,_,hq,_⟩:=dd';⟨q,hq⟩
  exact gf I (by rw [e];exact True.intro) hs he (l8 hl hd (rel.put k rv) dd')
 ·subst ey eH
  cases (show u=Value.ref b from ry)
  obtain ⟨z,hd,xs,rel,dd⟩:=vR I.hok e
  have hz:xs.length<=sizeLine:=by rw [<- Paired.length rel];exact z
  have hl:(bz kvs k v).length<=sizeLine:=by have:=cZ kvs k v;lia
  refine wpAny_setItem_heap (hsz:=hz) (tupleKind_room_in1 (by lia)) (ei I.hok eb) dd fun h' dd' hs=>h _ ?_
  obtain ⟨q,es,ep,hq,h2,h3,h4,_,h5⟩:=dd'
  refine gf I (by rw [e];exact True.intro) hs ⟨q,hq⟩ ⟨hl,hd,_,(rel.put k eb rv).keeps fun c ys ec=>?_,q,es,ep,hq,h2,h3,h4,h5⟩
  rw [ai (ud ec e (fun z=>nomatch z))]
  exact ec
 ·subst ey eH
  cases (show u=Value.ref b from ry)
  obtain ⟨z,hd,xs,rel,dd⟩:=vS I.hok e
  have hz:xs.length<=sizeLine:=by rw [<- Paired.length rel];exact z
  have hl:(bz kvs k v).length<=sizeLine:=by have:=cZ kvs k v;lia
  refine wpAny_setItem_heap (hsz:=hz) (show _+8<cLine by show A.units+1+8<cLine;lia) (jt I.hok eb) dd fun h' dd' hs=>h _ ?_
  obtain ⟨q,es,ep,hq,h2,h3,h4,_,h5⟩:=dd'
  refine gf I (by rw [e];exact True.intro) hs ⟨q,hq⟩ ⟨hl,hd,_,(rel.put k eb rv).keeps fun c ys ec=>?_,q,es,ep,hq,h2,h3,h4,h5⟩
  rw [ai (ud ec e (fun z=>nomatch z))]
  exact ec
end
noncomputable def wc (i:Expr):Prop:= ∀ ov iv,subscripted i false ov iv=operate [ov,iv] (getItem ov iv)
theorem sf {prog:Program} {w:World} {A:Around} {E:Value->Shared->Prop} {s:Shared} {env:Env} {value slice:Expr} {pos:Pos} {T id:String} {Q:Value->Shared->Prop}
  (hl:typeLookup (.type T) "__getitem__"=pure (some (.builtin id))) (hs:wc slice)
  (h:wpAny (model prog w) A (eval value env) (fun o s₁=>wpAny (model prog w) A (eval slice env) (fun i s₂=>s₂.TypeIs o T/\wpAny (model prog w) A (getItem o i) Q E s₂) E s₁) E s):
  wpAny (model prog w) A (eval (.Subscript value slice pos) env) Q E s:=by
 refine Subscript_ (wpAny_mono h (fun o s₁ h₁=>wpAny_mono h₁ (fun i s₂ h₂=>?_) fun _ _ x=>x) fun _ _ x=>x)
 obtain ⟨hT,h₂⟩:=h₂
 unfold subscriptTail
 refine wpAny_bind ?_
 rw [getitemInPython_of_ne hT.not_modules]
 refine wpAny_bind (wpAny_specialOf hT hl ?_)
 have fin:wpAny (model prog w) A (subscripted slice false o i) (fun r s₃=>wpAny (model prog w) A (letTemporaryGo value o r >>= fun _=>pure r) Q E s₃) E s₂:=by
  rw [hs o i]
  exact wpAny_operating (wpAny_mono h₂ (fun r s₃ h₃=>wpAny_bind (wpAny_letTemporaryGo (wpAny_pure h₃))) fun _ _ x=>x)
 first
  | exact wpAny_pure (wpAny_bind fin)
  | exact wpAny_bind (wpAny_pure (wpAny_bind fin))
  | exact wpAny_bind fin
theorem kG {X:Cx} {pins:List (Addr×Obj)} {σ:St} {H:Hp} {s:Shared} {a:Addr} {y:V} {o:Option V} (I:Inv X pins σ H s) (g:DGet H a y o):s.TypeIs (.ref a) "dict":=by
 rcases g with ⟨kvs,k,e,_,_⟩ | ⟨kvs,k,b,e,_,_,_⟩ | ⟨kvs,k,b,e,_,_,_⟩
 ·obtain ⟨_,_,vs,_,dd⟩:=rP I.hok e
  exact dd.typeIs
 ·obtain ⟨_,_,xs,_,dd⟩:=rJ I.hok e
  exact dd.typeIs
 ·obtain ⟨_,_,xs,_,dd⟩:=rO I.hok e
  exact dd.typeIs
noncomputable def vm (td ty:TE):TE:=fun σ H Q=>td σ H fun x H1=>ty σ H1 fun y H2=> ∃ a v,x=.ref a/\DGet H2 a y (some v)/\Q v H2
noncomputable def vt (td ty tv:TE):TS:=fun D σ H=>tv σ H fun v H1=>td σ H1 fun x H2=>ty σ H2 fun y H3=> ∃ a H4,x=.ref a/\DPut H3 a y v H4/\D.nx σ H4
section
variable {X:Cx} {o i e value:Expr} {pos pos' tpos:Pos} {td ty tv:TE}
theorem bq (hu:X.A.units+16<cLine) (ho:PE X o td) (hi:PE X i ty) (hs:wc i):PE X (.Subscript o i pos) (vm td ty):=by
 intro pins s σ H Q I h
 refine sf PySem.F.slot_dict_getitem.lookup hs (thn (ho pins s σ H _ I h) fun u s1 ⟨x,H1,I1,rx,q1⟩=>thn (hi pins s1 σ H1 _ I1 q1) fun iv s2 ⟨y,H2,I2,ry,a,v,ex,g,q2⟩=>?_)
 subst ex
 obtain rfl:u=Value.ref a:=rx
 exact ⟨kG I2 g,pB hu I2 g ry fun w' s3 I3 rw'=>⟨v,H2,I3,rw',q2⟩⟩
theorem cX (hu:X.A.units+16<cLine) (ho:PE X o td) (hi:PE X i ty) (hv:PE X value tv) (hs:swapsWith value (some (.Subscript o i pos')) pos.line X.env=pure false):
  PS X (.Assign [.Subscript o i pos'] value pos) (vt td ty tv):=by
 intro pins s σ H D I h
 refine wpAny_Assign_Subscript (thn (hv pins s σ H _ I h) fun r s1 ⟨v,H1,I1,rv,q1⟩=>thn (ho pins s1 σ H1 _ I1 q1) fun u s2 ⟨x,H2,I2,rx,q2⟩=>thn (hi pins s2 σ H2 _ I2 q2) fun iv s3 ⟨y,H3,I3,ry,a,H4,ex,g,q3⟩=>?_) hs
 subst ex
 obtain rfl:u=Value.ref a:=rx
 exact pp hu I3 g ry rv fun s4 I4=>⟨σ,H4,I4,q3⟩
end
theorem rQ {P:Program} {w:World} {H:Hp} (h:Heap) (hb:sysModules<h.objs.size):ObjOk P w H (h.push {cls:=.type "dict",data:=.dict #[]}) h.objs.size (.dK []):=
 ⟨Nat.zero_le _,beq_eq_false_iff_ne.mpr (Ne.symm (Nat.ne_of_lt hb)),[],.nil,Heap.DictOf.new h⟩
theorem rK {P:Program} {w:World} {H:Hp} (h:Heap) (hb:sysModules<h.objs.size):ObjOk P w H (h.push {cls:=.type "dict",data:=.dict #[]}) h.objs.size (.dT []):=
 ⟨Nat.zero_le _,beq_eq_false_iff_ne.mpr (Ne.symm (Nat.ne_of_lt hb)),[],.nil,_,#[],0,Heap.get?_push_size _ rfl,⟨rfl,rfl,rfl⟩,rfl,rfl,List.nodup_nil⟩
noncomputable def um:TE:=fun _ H Q=> ∀ p,H p=none->Q (.ref p) (upd H p (.dK []))
noncomputable def ul:TE:=fun _ H Q=> ∀ p,H p=none->Q (.ref p) (upd H p (.dT []))
section
variable {X:Cx} {pos:Pos}
theorem gP:PE X (.Dict [] [] pos) um:=fun pins s σ H Q I h=>
 wpAny_Dict_empty ⟨.ref s.heap.objs.size,_,I.laid (a:=s.heap.objs.size) (o:=.dK []) (t':=s.toks) (fun _ _ q=>Heap.get?_push_of_some _ q) (Nat.le_refl _) (rQ s.heap I.big),rfl,h _ (I.hok.fresh (Nat.le_refl _))⟩
theorem kd:PE X (.Dict [] [] pos) ul:=fun pins s σ H Q I h=>
 wpAny_Dict_empty ⟨.ref s.heap.objs.size,_,I.laid (a:=s.heap.objs.size) (o:=.dT []) (t':=s.toks) (fun _ _ q=>Heap.get?_push_of_some _ q) (Nat.le_refl _) (rK s.heap I.big),rfl,h _ (I.hok.fresh (Nat.le_refl _))⟩
end
end L2
namespace Att
open PySem PySem.W PySem.Calls PyProof.Rows
theorem fQ {P:Params} {h:Heap}: ∀ (ns:List Int) (vs:List Value),WellAll P h vs (ns.map WData.int)->IntsAre vs ns:=by
 intro ns
 induction ns with
 | nil=>
  intro vs w
  rw [List.map_nil]at w
  cases w
  exact .nil
 | cons n ns ih=>
  intro vs w
  rw [List.map_cons]at w
  cases w with
  | cons a b=>
   cases a
   exact .cons _ _ (ih _ b)
theorem oj {l:OpenLaw} {n:Nat} (hn:l.most=some n) {P:Params} {h:Heap} {args:List WData} {vals:List Value}
  (hpre:l.row.toRowW.claim.pre args=true) (hwl:WellAll P h vals args):
  ∃ a vs ns,vals=[Value.ref a]/\args=[WData.list (ns.map WData.int)]/\h.get? a=some {cls:=.type "list",data:=.seq vs.toArray}/\IntsAre vs ns/\ns.length<=n:=by
 have hsh:WShape.hasAll [] args [.list .int]=true:=(pre_splitW hpre).1
 have hc:l.pre.holds [] {args:=args}=true:=(pre_splitW hpre).2
 obtain ⟨d,r,rfl,h1,h2⟩:=hasAllW_cons hsh
 obtain rfl:=hasAllW_nil h2
 obtain ⟨xs,rfl,h3⟩:=hasW_list h1
 obtain ⟨ns,rfl⟩:=items_int h3
 have hlen:ns.length<=n:=by
  unfold OpenLaw.pre at hc
  have h4:(WTm.not (.lt (.lit (.int (n:Int))) (.len (.arg 0)))).holds [] {args:=[.list (ns.map .int)]}=true:=by
   have h4:=(holds_andW hc).1
   rw [hn]at h4
   exact h4
  have h5:=condW_of h4 (w_not (w_lt w_lit (w_len_list (w_arg rfl))))
  rw [List.length_map]at h5
  refine Nat.le_of_not_lt fun q=>?_
  have q':(n:Int) < ((ns.length:Nat):Int):=by lia
  first
   | (rw [decide_eq_true q']at h5;exact absurd h5 (by decide))
   | (simp at h5;lia)
 cases hwl with
 | cons w1 w2=>
  cases w2
  cases w1 with
  | list ho hall=>exact ⟨_,_,ns,rfl,rfl,ho,fQ ns _ hall,hlen⟩
theorem ox (l:OpenLaw) (args:List WData):l.row.toRowW.claim.post args (.bool true) args=true:=
 postW_of (r:=l.row.toRowW) (X:=(true==true))
  (show WShape.has [] (.bool true) .bool=true by first | rfl | decide | simp [WShape.has,WShape.arms,WShape.armsAll])
  (show (WTm.eq .res (.lit (.bool true))).value [] {args:=args,res:=some (.bool true),after:=args}=some (.bool (true==true))from w_eq_bool (w_res rfl) w_lit) rfl
theorem attach_call {l:OpenLaw} {n:Nat} {q:Program} {loose:List Str} {XP:(Str->Option Value)->Heap->Prop} {YP:World->Heap->Prop} {d:DefRec}
  (hn:l.most=some n) (hdf:d.params.defaults=[])
  (call: ∀ (w:World) (s₀ s₁:Shared) (mg mb:Str->Option Value) (fa:Addr) (o:Obj) (pm cd doc:Value) (a:Addr) (vs:List Value) (ns:List Int),
   Ground q loose [] XP w s₀ mg mb s₁.heap->YP w s₁.heap->
   s₁.heap.get? fa=some o->o.data=.func (docDef d.name d.params d.body d.scope pm cd doc)->s₁.heap.CodeRec cd d.name->mg d.name=some (.ref fa)->
   s₁.heap.get? a=some {cls:=.type "list",data:=.seq vs.toArray}->IntsAre vs ns->ns.length<=n->s₁.gens= #[]->
   codeAny (model l.prog w) callerA (.call (.ref fa) ⟨[.ref a],[]⟩) (fun r s'=>r=.ok (.ret (.bool true))/\OldK s₁.heap s'.heap/\s'.os=s₁.os/\AllBare s'.gens) s₁):
  WalkO q loose XP YP l.row.toRowW d [] (fun f vs=>PySem.call f vs):=by
 intro w s₀ s₁ mg mb G Y fa o pm cd doc dV kV ho hd hcd hD hmg hg args vals as hpre hlay hrd hwl hlo
 obtain rfl:dV=.none:=Dflts.none hD hdf
 obtain rfl:kV=.none:=Dflts.noKw hD
 obtain ⟨a,vs,ns,rfl,rfl,hobj,hints,hlen⟩:=oj hn hpre hwl
 refine enter_call (codeAny_mono (call w s₀ s₁ mg mb fa o pm cd doc a vs ns G Y ho (fd_plain hd) hcd hmg hobj hints hlen hg) fun r s' hq=>?_)
 obtain ⟨rfl,h2,h3,h4⟩:=hq
 exact ⟨.inl ⟨.bool true,.bool true,[],rfl,fun _=>rfl,.bool true,ox l _,fun _=>⟨List.Pairwise.nil,fun _ hm=>(nomatch hm)⟩⟩,h2,h3,h4⟩
end Att
namespace L2
open PySem PySem.Spec PyProof.Rows
theorem iy: ∀ {vs:List Value} {ns:List Int},IntsAre vs ns->Vals (ns.map V.int) vs
 | _,_,.nil=>.nil
 | _,_,.cons n t h=>.cons ⟨t,rfl⟩ (iy h)
noncomputable def va (H:Hp):Prop:= ∀ b,H b=none\/ ∃ o xs,H b=some (.frz o (.lst xs))
theorem rj {P:Program} {w:World} {K:PySem.W.Frag} {mg mb:Str->Option Value} {CX:CXT} {k:Nat} {fa a:Addr} {fd:FuncData} {x:Str} {sp:Sp} {s₁:Shared} {vs:List Value} {ns:List Int}
  (KX:K.In s₁.heap) (hns:s₁.heap.Ns mainGlobals mg) (hb:s₁.heap.Ns builtinsNs mb) (hbb: ∀ x:Str,x≠"__name__"->mb x=bootBuiltins x) (hlim:s₁.heap.NoLimit) (hg:s₁.gens= #[])
  (ha:s₁.heap.get? a=some {cls:=.type "list",data:=.seq vs.toArray}) (hi:IntsAre vs ns) (hl:ns.length<=sizeLine) (hr:Room k callerA)
  (F: ∀ base:Heap,K.In base->base.Ns mainGlobals mg->FnOk P w K mg base CX k fa fd [x] sp) (hbind: ∀ (s:Shared) (u:Value),BindsTo s fd ⟨[u],[]⟩ [(x,u)])
  (hsp: ∀ H:Hp,va H->SqL K H a (ns.map V.int)->sp [.ref a] H (fun v _=>v=.bl true) fun _ _ _=>False)
  (hCX: ∀ H e s',CX [] H s₁ (fun _ _ _=>False) e s'->False):
  codeAny (model P w) callerA (.call (.ref fa) ⟨[.ref a],[]⟩) (fun r s'=>r=.ok (.ret (.bool true))/\OldK s₁.heap s'.heap/\s'.os=s₁.os/\AllBare s'.gens) s₁:=by
 have rv:=iy hi
 have lenV:=hi.length
 have core: ∀ H:Hp,va H->SqL K H a (ns.map V.int)->HOk P w H s₁.heap->(∀ b,H b≠none->b=a)->(H a≠none->K.lookup a=none)->
   codeAny (model P w) callerA (.call (.ref fa) ⟨[.ref a],[]⟩) (fun r s'=>r=.ok (.ret (.bool true))/\OldK s₁.heap s'.heap/\s'.os=s₁.os/\AllBare s'.gens) s₁:=by
  intro H hO hS hok hA hK
  have base_of: ∀ {b:Addr} {o:Obj},s₁.heap.get? b=some o->H b=none->(jw s₁.heap H).get? b=some o:=fun e n=>rz e n
  have noA: ∀ {b:Addr} {o:Obj} {es:Array DictEntry} {ep:Nat},s₁.heap.get? b=some o->o.data=.dict es ep->H b=none:=fun {b o es ep} e d=>by
   cases q:H b with
   | none=>rfl
   | some u=>
    have e':b=a:=hA b (by rw [q];simp)
    subst e'
    rw [ha]at e;cases e
    have d':Data.seq vs.toArray _=Data.dict es ep:=d
    cases d'
  have nsK: ∀ {b:Addr} {m:Str->Option Value},s₁.heap.Ns b m->(jw s₁.heap H).Ns b m:=fun {b m} ⟨o,es,ep,e,d,r⟩=>⟨o,es,ep,base_of e (noA e d),d,r⟩
  have hKb:K.In (jw s₁.heap H):=fun b o e=>base_of (KX b o e) (by
   cases q:H b with
   | none=>rfl
   | some u=>
    have e':b=a:=hA b (by rw [q];simp)
    subst e'
    rw [hK (by rw [q];simp)]at e;cases e)
  have hM:Mod K mg (jw s₁.heap H):=⟨hKb,nsK hns,⟨mb,nsK hb,hbb⟩,let ⟨mc,h1,h2⟩:=hlim;⟨mc,nsK h1,h2⟩⟩
  have e0:tV P w K mg (jw s₁.heap H) callerA [] s₁ H:=⟨rfl,hM,fun b o e=>sW e,Nat.le_of_eq (pj _ _),trivial,fun b hb=>absurd (show b∈([]:List Addr)from hb) (by simp),hok,.of_eq hg⟩
  refine codeAny_mono ((F _ hKb (nsK hns)).run callerA [] s₁ H ⟨[.ref a],[]⟩ [.ref a] [.ref a] _ _ hr e0 (hbind s₁ (.ref a)) (.cons rfl .nil) (hsp H hO hS)) fun r s' h=>?_
  cases r with
  | error e=>exact (hCX H e s' h).elim
  | ok fl=>
   cases fl with
   | next=>exact False.elim h
   | brk=>exact False.elim h
   | cont=>exact False.elim h
   | ret u=>
    obtain ⟨v,H',os,bare,un,hok',r',q⟩:=h
    have q':v=.bl true:=q
    subst q'
    obtain rfl:u=Value.bool true:=r'
    refine ⟨rfl,OldK.of_keep fun b o e=>?_,os,bare⟩
    cases q:H b with
    | none=>exact un.keep b o e q (by intro z;exact absurd (show b∈([]:List Addr)from z) (by simp)) (by simp)
    | some u=>
     rcases hO b with z | ⟨ob,xs,z⟩
     ·rw [q]at z;cases z
     ·have z2:=un.frzs b ob _ z
      obtain ⟨e1,_⟩:=hok b _ z
      obtain ⟨e2,_⟩:=hok' b _ z2
      rw [e]at e1;cases e1
      exact e2
 cases hk:K.lookup a with
 | some o=>
  have e:=KX a o hk
  rw [ha]at e
  cases e
  refine core (fun _=>none) (fun _=>.inl rfl) (.inr ⟨_,vs.toArray,_,hk,rfl,rfl,rfl,by rw [List.size_toArray,lenV];exact hl,by simpa using rv⟩) (fun b u z=>by have z':(none:Option HO)=some u:=z;cases z') (fun b z=>absurd rfl z) fun z=>absurd rfl z
 | none=>
  refine core (fun b=>if b=a then some (.frz {cls:=.type "list",data:=.seq vs.toArray} (.lst (ns.map V.int)))else none) (fun b=>?_) (.inl (.inr ⟨{cls:=.type "list",data:=.seq vs.toArray},if_pos rfl⟩)) (fun b u z=>?_) (fun b z=>?_) fun _=>hk
  ·by_cases hb:b=a
   ·exact .inr ⟨_,_,if_pos hb⟩
   ·exact .inl (if_neg hb)
  ·by_cases hb:b=a
   ·have z':=(if_pos hb).symm.trans z
    cases z'
    subst hb
    exact ⟨ha,by rw [List.length_map];exact hl,vs,_,rv,ha⟩
   ·have z':=(if_neg hb).symm.trans z
    cases z'
  ·by_cases hb:b=a
   ·exact hb
   ·exact absurd (if_neg hb) z
theorem walk_of {l:PySem.W.OpenLaw} {n k:Nat} {q:Program} {loose:List Str} {XP:(Str->Option Value)->Heap->Prop} {YP:World->Heap->Prop} {d:DefRec} {K:Params->PySem.W.Frag} {CX:World->CXT} {sp:World->Sp} {x:Str}
  (hn:l.most=some n) (hn2:n<=sizeLine) (hdf:d.params.defaults=[]) (hr:Room k callerA)
  (hY: ∀ (w:World) (h:Heap),YP w h->(K w.params).In h)
  (F: ∀ (w:World) (mg:Str->Option Value) (fa:Addr) (h:Heap),(K w.params).In h->h.Ns mainGlobals mg->mg d.name=some (.ref fa)->
   ∃ fd:FuncData,(∀ (s:Shared) (u:Value),BindsTo s fd ⟨[u],[]⟩ [(x,u)])/\
    ∀ base:Heap,(K w.params).In base->base.Ns mainGlobals mg->FnOk l.prog w (K w.params) mg base (CX w) k fa fd [x] (sp w))
  (hsp: ∀ (w:World) (H:Hp) (a:Addr) (ns:List Int),ns.length<=n->va H->SqL (K w.params) H a (ns.map V.int)->sp w [.ref a] H (fun v _=>v=.bl true) fun _ _ _=>False)
  (hCX: ∀ (w:World) (H:Hp) (s:Shared) (e:Value) (s':Shared),CX w [] H s (fun _ _ _=>False) e s'->False):
  PySem.W.WalkO q loose XP YP l.row.toRowW d [] (fun f vs=>PySem.call f vs):=by
 refine Att.attach_call hn hdf fun w s₀ s₁ mg mb fa o pm cd doc a vs ns G Y ho hd hcd hmg hobj hints hlen hg=>?_
 have KX:=hY w _ Y
 obtain ⟨fd,hb,hF⟩:=F w mg fa _ KX G.T.g hmg
 exact rj KX G.T.g G.T.b G.T.builtins G.T.nolimit hg hobj hints (Nat.le_trans hlen hn2) hr hF hb (fun H hO hS=>hsp w H a ns hlen hO hS) fun H e s'=>hCX w H s₁ e s'
noncomputable def eY (s:Stmt):Arguments:=match s with
 | .FunctionDef _ a _ _ _ _ _ _ _ _=>a
 | _=>{posonlyargs:=[],args:=[],vararg:=none,kwonlyargs:=[],kw_defaults:=[],kwarg:=none,defaults:=[]}
noncomputable def bx (s:Stmt):List Stmt:=match s with
 | .FunctionDef _ _ b _ _ _ _ _ _ _=>b
 | _=>[]
noncomputable def ag (s:Stmt):Scope:=match s with
 | .FunctionDef _ _ _ _ _ _ sc _ _ _=>sc
 | _=>{kind:=.function,names:=[],isGenerator:=false,isCoroutine:=false}
noncomputable abbrev CX0:CXT:=fun _ _ _ _ _ _=>False
noncomputable abbrev E0:XK:=fun _ _ _=>False
theorem am {X:Cx}:mE CX0 X E0:=fun _ _ _ _ _ _ _ h=>h.elim
structure Fun (K:PySem.W.Frag) (x qual:Str) (st:Stmt) (f:Addr) (fd:FuncData):Prop where
 ex: ∃ (oc:Value) (od:Option Addr) (kV doc pm:Value) (an:Option Addr) (cdv ct:Value) (osl:Array (Option Value)),
  fd=PySem.W.fnOf x qual (eY st) (bx st) (ag st) .none kV doc pm an cdv ct/\K.lookup f=some ⟨oc,od,.func fd,osl⟩/\PySem.W.codeIn K cdv qual=true
 kp:PySem.W.keepIn K (.ref f)=true
section
variable {P:Program} {w:World} {K:PySem.W.Frag} {mg:Str->Option Value} {base:Heap}
theorem Fun.ok {x qual:Str} {st:Stmt} {f:Addr} {fd:FuncData} {N ps:List Str} {k:Nat} {sp:Sp} (F:Fun K x qual st f fd) (S:aA N ps (ag st)) (len: ∀ vs H Q E,sp vs H Q E->vs.length=ps.length)
  (hbody: ∀ (cdv:Value) (A:Around) (outer:List Env) (s:Shared) (H:Hp) (vs:List V) (Q:VK) (E:XK),Room k (A.deeper (envOfC qual (ag st) s.heap.objs.size f cdv))->sp vs H Q E->
   ∃ t,PSs (bZ CX0 P w K mg base N qual (ag st) f cdv A outer s H E).nox (bx st) t/\t {nx:=fun _ H'=>Q .non H',rt:=Q} (fE N vs) H):FnOk P w K mg base CX0 (k+1) f fd ps sp:=by
 obtain ⟨oc,od,kV,doc,pm,an,cdv,ct,osl,rfl,lk,hcd⟩:=F.ex
 refine vP lk hcd S len fun A outer s H vs Q E hr hsp=>?_
 obtain ⟨t,h,q⟩:=hbody cdv A outer s H vs Q E hr hsp
 exact ⟨t,h.nox,q⟩
theorem Fun.binds {x qual:Str} {st:Stmt} {f:Addr} {fd:FuncData} {ps:List Str} (F:Fun K x qual st f fd)
  (h: ∀ (kV doc pm:Value) (an:Option Addr) (cdv ct:Value) (us:List Value),us.length=ps.length->bindArgs (PySem.W.fnOf x qual (eY st) (bx st) (ag st) .none kV doc pm an cdv ct) ⟨us,[]⟩=pure (ps.zip us)):Binds K fd ps []:=by
 obtain ⟨oc,od,kV,doc,pm,an,cdv,ct,osl,rfl,lk,hcd⟩:=F.ex
 exact .all (h kV doc pm an cdv ct)
end
theorem cT {A:Around} {k:Nat} (hr:Room k A):A.units+16<cLine:=Nat.lt_of_le_of_lt (Nat.add_le_add_left (by decide:16<=64) _) hr.units
theorem ao {n:Nat} (h:n<=1000):n<sizeLine:=Nat.lt_of_le_of_lt h (by decide)
section
variable {X:Cx}
theorem pv (i:Nat) {x:Str} {pos:Pos} (hN:X.N[i]? =some x:=by rfl) (hv:Vis X.env.scope x:=by first | exact Or.inl rfl | exact Or.inr (Or.inl rfl) | exact Or.inr (Or.inr rfl)) (hd:(x==("__debug__":Str))=false:=by decide)
  (hcd:(x==("__classdict__":Str))=false:=by decide):PE X (.Name x pos) (ui i):=uH hN hv hd hcd
end
theorem aU {A B:Prop} (h:B):if false=true then A else B:=by
 rw [if_neg Bool.false_ne_true]
 exact h
theorem bg {A B:Prop} (h:A):if true=true then A else B:=by
 rw [if_pos rfl]
 exact h
theorem dw {c A B:Prop} [Decidable c] (h1:c->A) (h2: ¬ c->B):if c then A else B:=by
 by_cases h:c
 ·rw [if_pos h]
  exact h1 h
 ·rw [if_neg h]
  exact h2 h
noncomputable def Same (H H':Hp):Prop:= ∀ b o,H b=some o->H' b=some o
theorem Same.refl (H:Hp):Same H H:=fun _ _ h=>h
theorem Same.trans {H H1 H2:Hp} (a:Same H H1) (b:Same H1 H2):Same H H2:=fun c o h=>b c o (a c o h)
theorem Same.free {H H':Hp} (e:Same H H') {l:Addr} (h:H' l=Option.none):H l=Option.none:=by
 cases q:H l with
 | none=>rfl
 | some o=>
  rw [e l o q]at h
  cases h
theorem Same.seq {K:PySem.W.Frag} {H H':Hp} {a:Addr} {xs:List V} (e:Same H H') (h:SqL K H a xs):SqL K H' a xs:=by
 rcases h with (h | ⟨o,h⟩) | h
 ·exact .inl (.inl (e _ _ h))
 ·exact .inl (.inr ⟨o,e _ _ h⟩)
 ·exact .inr h
section
variable {X:Cx}
theorem fJ:OpR X (compareOp .IsNot) (fun x y H Q=> ∃ a b,x=.bl a/\y=.bl b/\Q (.bl (a !=b)) H):=by
 intro pins s σ H x y v u Q I rx ry h
 obtain ⟨a,b,rfl,rfl,q⟩:=h
 cases rx
 cases ry
 exact PyProof.Rows.isnot_bool (aN I q rfl)
theorem rV:bV X (.builtin "isinstance") (fun xs H Q=> ∃ x T t b,xs=[x,.ty T]/\ff X.K H x t/\PySem.W.kitOne X.K t (.type T)=some b/\Q (.bl b) H):=by
 intro pins s σ H xs us Q I r h
 obtain ⟨x,T,t,b,rfl,ty,e,q⟩:=h
 obtain ⟨u,w',rfl,ru,rw'⟩:=gj r
 cases (show w'=Value.type T from rw')
 exact pf I ru ty e fun tk=>⟨.bl b,H,I.tok tk,rfl,q⟩
end
theorem eW {α β:Type} {f:α->β->Sem (ForInStep β)} (g:β->α->β): ∀ {l:List α} (c:β),(∀ x∈l,∀ c,f x c=pure (.yield (g c x)))->forIn l c f=pure (l.foldl g c)
 | [],c,_=>rfl
 | x::l,c,h=>by
  have hx:=h x List.mem_cons_self c
  rw [List.forIn_cons,hx,pure_bind]
  exact eW g (g c x) fun y hy=>h y (List.mem_cons_of_mem _ hy)
noncomputable def bw (cells:List (Str×Addr)) (c:List (Str×Addr)) (x:Str×NameKind):List (Str×Addr):=
 if x.2=.free then (match cells.lookup x.1 with | some a=>(x.1,a)::c | none=>c)else c
noncomputable def cy (cells:List (Str×Addr)) (names:List (Str×NameKind)):List (Str×Addr):=names.foldl (bw cells) []
theorem cE {scope:Scope} {env:Env} (h: ∀ x∈scope.names,x.2=.free-> ∃ c,env.cells.lookup x.1=some c):closureFor scope env=pure (cy env.cells scope.names):=by
 simp only [closureFor]
 rw [eW (bw env.cells) [] (fun x hx c=>by
  obtain ⟨n,kind⟩:=x
  by_cases hk:kind=.free
  ·subst hk
   obtain ⟨a,ha⟩:=h _ hx rfl
   simp only [bw,if_true,beq_self_eq_true,cellOf,ha,pure_bind]
  ·have hb:(kind==NameKind.free)=false:=by simpa using hk
   simp only [bw,hb,hk,Bool.false_eq_true,if_false])]
 rfl
theorem hX {cells:List (Str×Addr)}: ∀ {names:List (Str×NameKind)} {acc:List (Str×Addr)},(∀ p∈acc,cells.lookup p.1=some p.2)-> ∀ p∈names.foldl (bw cells) acc,cells.lookup p.1=some p.2
 | [],_,h=>h
 | x::r,acc,h=>by
  refine hX (names:=r) (acc:=bw cells acc x) ?_
  intro p hp
  unfold bw at hp
  split at hp
  ·split at hp
   ·rename_i a ha
    rcases List.mem_cons.mp hp with e | e
    ·subst e
     exact ha
    ·exact h p e
   ·exact h p hp
  ·exact h p hp
theorem hZ {cells:List (Str×Addr)}: ∀ {names:List (Str×NameKind)} {acc:List (Str×Addr)} {p:Str×Addr},p∈acc->p∈names.foldl (bw cells) acc
 | [],_,_,h=>h
 | x::r,acc,p,h=>by
  refine hZ (names:=r) (acc:=bw cells acc x) ?_
  unfold bw
  split
  ·split
   ·exact List.mem_cons_of_mem _ h
   ·exact h
  ·exact h
theorem kM {cells:List (Str×Addr)} {n:Str} {c:Addr} (hc:cells.lookup n=some c): ∀ {names:List (Str×NameKind)} {acc:List (Str×Addr)},(n,NameKind.free)∈names->(n,c)∈names.foldl (bw cells) acc
 | [],_,h=>by simp at h
 | x::r,acc,h=>by
  rcases List.mem_cons.mp h with e | e
  ·subst e
   refine hZ (names:=r) ?_
   simp [bw,hc]
  ·exact kM hc (names:=r) e
theorem mem_of_lookup {α β:Type} [BEq α] [LawfulBEq α] {k:α} {v:β}: ∀ {l:List (α×β)},l.lookup k=some v->(k,v)∈l
 | [],h=>by simp at h
 | (a,b)::r,h=>by
  rw [List.lookup_cons]at h
  split at h
  ·rename_i e
   have:=eq_of_beq e
   subst this
   cases h
   exact List.mem_cons_self
  ·exact List.mem_cons_of_mem _ (mem_of_lookup h)
theorem dU {α β:Type} [BEq α] [LawfulBEq α] {k:α} {v:β}: ∀ {l:List (α×β)},(k,v)∈l-> ∃ v',l.lookup k=some v'
 | [],h=>by simp at h
 | (a,b)::r,h=>by
  rw [List.lookup_cons]
  split
  ·exact ⟨b,rfl⟩
  ·rename_i e
   rcases List.mem_cons.mp h with q | q
   ·cases q
    simp at e
   ·exact dU q
theorem cu {cells:List (Str×Addr)} {names:List (Str×NameKind)} {n:Str} {c:Addr} (h:(cy cells names).lookup n=some c):cells.lookup n=some c:=
 hX (names:=names) (acc:=[]) (by simp) (n,c) (mem_of_lookup h)
theorem bE {cells:List (Str×Addr)} {names:List (Str×NameKind)} {n:Str} {c:Addr} (hc:cells.lookup n=some c) (h:(n,NameKind.free)∈names):(cy cells names).lookup n=some c:=by
 obtain ⟨c',e⟩:=dU (kM hc (acc:=[]) h)
 have:=cu e
 rw [hc]at this
 cases this
 exact e
noncomputable def aL (sc0 scope:Scope):List (Str×NameKind):=
 scope.names.map fun (n,k)=>if (k== .free&&sc0.kind== .function&&sc0.names.lookup n==some .cell)then (n,.cell)else (n,k)
structure fC (sc0:Scope) (N0:List Str) (scope:Scope) (x:Str) (ys:List Str) (fr:List Nat):Prop where
 kind:scope.kind=.function
 nocell: ∀ y∈scope.names,y.2≠ .cell
 loc: ∀ y∈scope.names,y.2=.local->scope.names.lookup y.1=some .local
 xl:(aL sc0 scope).lookup x=some .local
 free: ∀ y∈scope.names,y.2=.free->sc0.names.lookup y.1=some .cell
 nd:(x::ys).Nodup
 len:ys.length=fr.length
 sl: ∀ q∈ys.zip fr,N0[q.2]? =some q.1/\sc0.names.lookup q.1=some .cell/\(aL sc0 scope).lookup q.1=some .cell
theorem cok {sc0:Scope} {N0:List Str} {scope:Scope} {x:Str} {ys:List Str} {fr:List Nat} (kind_:scope.kind=.function:=by rfl) (nocell_: ∀ y∈scope.names,y.2≠ .cell:=by decide +kernel) (loc_: ∀ y∈scope.names,y.2=.local->scope.names.lookup y.1=some .local:=by decide +kernel) (xl_:(aL sc0 scope).lookup x=some .local:=by decide +kernel) (free_: ∀ y∈scope.names,y.2=.free->sc0.names.lookup y.1=some .cell:=by decide +kernel) (nd_:(x::ys).Nodup:=by decide +kernel) (len_:ys.length=fr.length:=by rfl) (sl_: ∀ q∈ys.zip fr,N0[q.2]? =some q.1/\sc0.names.lookup q.1=some .cell/\(aL sc0 scope).lookup q.1=some .cell:=by decide +kernel):fC sc0 N0 scope x ys fr:=⟨kind_,nocell_,loc_,xl_,free_,nd_,len_,sl_⟩
noncomputable def bh (X:Cx) (x:Str) (ys:List Str) (scope:Scope) (C:Addr) (s:Shared) (H:Hp) (ex:List Addr):Cx:=
 {X with N:=x::ys,s₀:=s,H₀:=H,env:=compEnvC scope (cy X.env.cells scope.names) C X.env,outer:=X.stack,stack:=X.stack,ex:=ex,fn:=fun _=>false,pn:=[],xe:=fun _ _=>False}
section
variable {prog:Program} {w:World} {A:Around} {R:Result->Shared->Prop} {s:Shared}
theorem c5 {elt target iter:Expr} {scope:Scope} {pos:Pos} {it acc:Value} {env:Env} (I:Nat->Shared->Prop)
  (turn: ∀ n s,I n s->wpAny (model prog w) A (pyNext it) (fun r s₁=>match r with
   | none=>R (.ok .next) s₁
   | some v=>wpAny (model prog w) A (letOwnedTupleGo target it v) (fun _ s₁'=>wpAny (model prog w) A (assign target env v) (fun _ s₂=>wpAny (model prog w) A (eval elt env) (fun x s₃=>
     wpAny (model prog w) A (call (.builtin "list.append") [acc,x]) (fun _ s₄=> ∃ m,m<n/\I m s₄) (fun _ _=>False) s₃) (fun _ _=>False) s₂) (fun _ _=>False) s₁') (fun _ _=>False) s₁) (fun _ _=>False) s)
  (n:Nat) (h:I n s):codeAny (model prog w) A (.compLoop (.ListComp elt [⟨target,iter,[],0⟩] scope pos) 0 it acc env) R s:=by
 refine codeAny_loop rfl I (fun n s hI=>?_) n h
 show wpAny _ _ ((compTurn (.ListComp elt [⟨target,iter,[],0⟩] scope pos) 0 it acc env).onRaise (fun x=>do noteFrame x env;theTreesLotGoes x)) _ _ s
 refine wpAny_noted ?_
 rw [compTurn_list1]
 refine wpAny_noRaise ?_
 refine wpAny_bind (wpAny_standAt (wpAny_bind (wpAny_mono (turn n s hI) (fun r s₁ h₁=>?_) fun _ _ h'=>h')))
 cases r with
 | none=>exact wpAny_pure h₁
 | some v=>
  refine wpAny_bind (wpAny_mono h₁ (fun _ s₁' h₁'=>?_) fun _ _ h'=>h')
  exact wpAny_bind (wpAny_mono h₁' (fun _ s₂ h₂=>wpAny_bind (wpAny_bind (wpAny_mono h₂ (fun x s₃ h₃=>wpAny_bind (wpAny_mono h₃
   (fun _ s₄ h₄=>wpAny_pure (wpAny_pure ⟨rfl,h₄⟩)) fun _ _ h'=>h')) fun _ _ h'=>h'))) fun _ _ h'=>h')
end
noncomputable def bp (fr:List Nat) (σ:St):St:=fr.map fun j=>(σ[j]?).join
noncomputable def fg (fr:List Nat) (te:TE) (σ:St) (J:It) (H1:Hp) (Q:VK):Prop:=
 ∀ p,H1 p=none-> ∃ W:Nat->Nat->List V->Hp->Prop,(∃ m,W 0 m [] (upd H1 p (.lst [])))/\ ∀ i m ys H,W i m ys H->H p=some (.lst ys)/\
  ((J.stop i H/\Q (.ref p) H)\/(J.go i H/\ys.length<sizeLine/\ ∀ x H',J.yld i H x H'->te (some x::bp fr σ) H' fun v H2=>
   H2 p=some (.lst ys)/\ ∃ m',m'<m/\W (i+1) m' (ys++[v]) (upd H2 p (.lst (ys++[v])))))
noncomputable def pT (wi:TI) (fr:List Nat) (te:TE):TE:=fun σ H Q=>wi σ H fun J H1=>fg fr te σ J H1 Q
section
variable {X:Cx} {x:Str} {px pos fpos:Pos} {iter elt:Expr} {scope sc0:Scope} {N0 ys:List Str} {fr:List Nat} {wi:TI} {te:TE} {pins:List (Addr×Obj)} {σ:St} {H:Hp} {s:Shared}
theorem iX {use:Option (Value->Sem Unit)} {Qv:Value->Shared->Prop} {Q:VK} (hcalm:X.calm=true) (hi:PI X (.Name x px) iter wi) (hsc:X.env.scope=sc0) (hN:X.N=N0) (ok:fC sc0 N0 scope x ys fr)
  (hE: ∀ C s H ex,PE (bh X x ys scope C s H ex) elt te) (I:Inv X pins σ H s) (h:pT wi fr te σ H Q) (hs: ∀ v,foldedSetIterable iter X.env v=pure v)
  (fin: ∀ (p C:Addr) (H':Hp) (s':Shared) (m:Str->Option Value),Inv X pins σ H' s'->s'.heap.Ns C m->H' C=none->C≠X.env.locals->X.s₀.heap.objs.size<=C->(∀ y c,X.env.cells.lookup y=some c->c≠C)->(∀ q∈X.pn++pins,q.1≠C)->Q (.ref p) H'->
   compPost (model X.prog X.w) X.A X.xe use Qv (.ref p) C (.ok .next) s'):
  wpAny (model X.prog X.w) X.A (comprehension (.ListComp elt [⟨.Name x px,iter,[],0⟩] scope pos) scope X.env fpos (newList []) false (eval iter X.env) use) Qv X.xe s:=by
 subst hsc hN
 have hkof: ∀ y,X.env.kindOf y=X.env.scope.names.lookup y:=fun y=>rfl
 have hfree: ∀ y∈scope.names,y.2=.free-> ∃ c,X.env.cells.lookup y.1=some c:=fun y hy e=>I.ok.has y.1 (.inl (ok.free y hy e))
 refine wpAny_comprehension_free (gs:=[]) rfl hs (cE hfree) ok.kind ok.loc (thn (hi pins s σ H _ I h) fun v s1 h1=>thn h1 fun itv s2 h2=>?_)
 obtain ⟨it,fp,tn,J,H2,e,I2,T,st2,f2,hp⟩:=h2
 subst e
 refine wpAny_newObj_type (wpAny_newFunctionEnv ok.nocell (by intro y hy;simp at hy) (fun h₁ hns₁ hsb₁=>?_) ok.kind)
 dsimp only at hns₁ hsb₁ ⊢
 have I3:Inv X pins σ (upd H2 s2.heap.objs.size (.lst [])) {s2 with heap:=s2.heap.push {cls:=.type "list",data:=.seq ([]:List Value).toArray}}:=
  I2.lnew (its:=[]) (ys:=[]) (t':=s2.toks) .nil (Nat.zero_le _)
 have hf2: ∀ b∈fp,b<s2.heap.objs.size:=fun b hb=>by
  obtain ⟨o,e,_⟩:=T.obj _ _ st2 b hb
  exact Heap.lt_size e
 have hps:s2.heap.objs.size< (s2.heap.push {cls:=.type "list",data:=.seq ([]:List Value).toArray}).objs.size:=by rw [Heap.size_push];exact Nat.lt_succ_self _
 have W0:=hp s2.heap.objs.size I2.fresh
 have st3:tn 0 (s2.heap.push {cls:=.type "list",data:=.seq ([]:List Value).toArray}):=T.keep _ _ _ st2 fun b hb o e=>Heap.get?_push_of_some _ e
 generalize hpp:s2.heap.objs.size=p at I3 W0 hf2 hps ⊢
 generalize hh3:(s2.heap.push {cls:=.type "list",data:=.seq ([]:List Value).toArray})=h3 at I3 hns₁ hsb₁ hps st3 ⊢
 generalize hH3:upd H2 p (.lst [])=H3 at I3 W0
 have hold: ∀ b o,h3.get? b=some o->h₁.get? b=some o:=fun b o e=>hsb₁.extBut b o (Nat.ne_of_lt (Heap.lt_size e)) (Heap.get?_push_of_some _ e)
 have fH3: ∀ b∈fp,H3 b=none:=fun b hb=>by
  rw [<- hH3,ai (Nat.ne_of_lt (hf2 b hb))]
  exact (f2 b hb).1
 have hclos: ∀ y c,(cy X.env.cells scope.names).lookup y=some c->X.env.cells.lookup y=some c:=fun y c e=>cu e
 have hcell3: ∀ y c,X.env.cells.lookup y=some c->c<h3.objs.size:=fun y c e=>by
  obtain ⟨v,o,ho,_⟩:=I3.cell y c e
  exact Heap.lt_size ho
 have hlt3:X.env.locals<h3.objs.size:=I3.lt
 have Yok:(bh X x ys scope h3.objs.size {s2 with heap:=h3} H3 fp).Ok:={
  mod:=I.ok.mod
  kind:=ok.kind
  glob:=I.ok.glob
  blt:=I.ok.blt
  above:=Nat.le_refl _
  inj:=fun y z c e1 e2=>I.ok.inj y z c (hclos _ _ e1) (hclos _ _ e2)
  has:=fun y hk=>by
   have hfr:(y,NameKind.free)∈scope.names:=by
    have hm: ∃ k,(aL X.env.scope scope).lookup y=some k/\(k=.cell\/k=.free):=by
     rcases hk with hk | hk
     ·exact ⟨_,hk,.inl rfl⟩
     ·exact ⟨_,hk,.inr rfl⟩
    obtain ⟨k,hk,hkk⟩:=hm
    have hmem:=mem_of_lookup hk
    unfold aL at hmem
    obtain ⟨⟨n,k0⟩,hn,en⟩:=List.mem_map.mp hmem
    dsimp only at en
    split at en
    ·rename_i hc
     simp only [Bool.and_eq_true]at hc
     have hk0:k0=.free:=by simpa using hc.1.1
     cases en
     rw [<- hk0]
     exact hn
    ·cases en
     rcases hkk with e | e
     ·exact absurd e (ok.nocell _ hn)
     ·rw [<- e]
      exact hn
   obtain ⟨c,hc⟩:=hfree _ hfr rfl
   exact ⟨c,bE hc hfr⟩
  cab:=fun y c hf _=>by cases hf
  hd:=I.ok.hd
  frames:=I.ok.frames
  stk:=.inl rfl
  exf:=fun b hb=>⟨fun e=>absurd (hf2 b hb) (by rw [e];exact Nat.not_lt.mpr (Nat.le_of_lt hps)),fun y c e=>(f2 b hb).2.2.2.2.1 y c (hclos _ _ e)⟩
  bs:=fun b o e=>⟨(I3.bs b o e).1,(I3.bs b o e).2⟩
  bsz:=Nat.le_trans I.ok.bsz I3.sz
  noex:=fun b o e hb=>by
   rcases (f2 b hb).2.2.2.1 with q | q
   ·exact I.ok.noex b o e q
   ·have h1:b<X.base.objs.size:=Heap.lt_size e
    exact absurd h1 (Nat.not_lt.mpr (Nat.le_trans I.ok.bsz q))
  exfs:=fun b hb hm=>by
   rcases List.mem_cons.mp (I3.stkSub b hm)with q | q
   ·exact (f2 b hb).2.1 q
   ·exact (f2 b hb).2.2.1 q
  funs:=I3.stack
  frf:=I3.stkFree}
 have IY:Inv (bh X x ys scope h3.objs.size {s2 with heap:=h3} H3 fp) [] (none::bp fr σ) H3 {s2 with heap:=h₁,toks:=s2.toks+ ([]:List (Str×Value)).length}:={
  ok:=Yok
  os:=rfl
  bare:=I2.bare
  base:=Un.kept hold
  loc:=by
   refine ⟨_,hns₁,fun i y v hy hv hvis=>?_⟩
   cases i with
   | zero=>cases hv
   | succ j=>
    have hy':ys[j]? =some y:=hy
    have hv':(bp fr σ)[j]? =some (some v):=hv
    unfold bp at hv'
    rw [List.getElem?_map]at hv'
    obtain ⟨i0,hi0,hv0⟩:=Option.map_eq_some_iff.mp hv'
    have hz:(y,i0)∈ys.zip fr:=by
     refine List.mem_iff_getElem?.mpr ⟨j,?_⟩
     rw [List.getElem?_zip_eq_some]
     exact ⟨hy',hi0⟩
    obtain ⟨hn,hk,hk2⟩:=ok.sl _ hz
    have hσ:σ[i0]? =some (some v):=by
     cases e:σ[i0]? with
     | none=>rw [e]at hv0;cases hv0
     | some o=>
      rw [e]at hv0
      rw [show o=some v from hv0]
    obtain ⟨m,hm,hl⟩:=I3.loc
    obtain ⟨u,ru,lk⟩:=hl i0 y v hn hσ (.inr (.inl hk))
    refine ⟨u,ru,.inr ⟨.inl hk2,?_⟩⟩
    rcases lk with ⟨a,_⟩ | ⟨_,c,hc,hcell⟩
    ·have a':X.env.scope.names.lookup y=some .local:=a
     have hk':X.env.scope.names.lookup y=some .cell:=hk
     rw [hk']at a'
     cases a'
    ·have hfr:(y,NameKind.free)∈scope.names:=by
      have hmem:=mem_of_lookup hk2
      unfold aL at hmem
      obtain ⟨⟨n,k0⟩,hn0,en⟩:=List.mem_map.mp hmem
      dsimp only at en
      split at en
      ·rename_i hc0
       simp only [Bool.and_eq_true]at hc0
       have hk0:k0=.free:=by simpa using hc0.1.1
       cases en
       rw [<- hk0]
       exact hn0
      ·cases en
       exact absurd rfl (ok.nocell _ hn0)
     exact ⟨c,bE hc hfr,hcell.keeps hold⟩
  cell:=fun y c e=>by
   obtain ⟨v,hv⟩:=I3.cell y c (hclos _ _ e)
   exact ⟨v,hv.keeps hold⟩
  free:=I3.fresh
  freeC:=fun y c e=>I3.freeC y c (hclos _ _ e)
  pin:=fun q hq=>by cases hq
  hok:=I3.hok.kept hold
  len:=by
   show (none::bp fr σ).length=(x::ys).length
   rw [List.length_cons,List.length_cons,ok.len]
   unfold bp
   rw [List.length_map]}
 have hxl:(bh X x ys scope h3.objs.size {s2 with heap:=h3} H3 fp).env.scope.names.lookup x=some .local:=ok.xl
 have pgx:PG (bh X x ys scope h3.objs.size {s2 with heap:=h3} H3 fp) (.Name x px) (c3 0):=av (i:=0) ok.nd rfl (.inl hxl) (.inr hxl)
 have pel:=hE h3.objs.size {s2 with heap:=h3} H3 fp
 obtain ⟨W,⟨m0,w0⟩,turn⟩:=W0
 have stat: ∀ {H':Hp},(∀ b∈fp,H' b=none)-> ∀ b∈fp,im (bh X x ys scope h3.objs.size {s2 with heap:=h3} H3 fp) [] H' b:=fun hn b hb=>
  ⟨hn b hb,(Yok.exf b hb).1,Yok.exfs b hb,.inl hb,(Yok.exf b hb).2,fun q hq=>by cases hq⟩
 have loop:codeAny (model X.prog X.w) X.A (.compLoop (.ListComp elt [⟨.Name x px,iter,[],0⟩] scope pos) 0 (.ref it) (.ref p) (compEnvC scope (cy X.env.cells scope.names) h3.objs.size X.env))
   (compPost (model X.prog X.w) X.A X.xe use Qv (.ref p) h3.objs.size) {s2 with heap:=h₁,toks:=s2.toks+ ([]:List (Str×Value)).length}:=by
  refine c5 (fun n s'=> ∃ i zs v0 H',Inv (bh X x ys scope h3.objs.size {s2 with heap:=h3} H3 fp) [] (v0::bp fr σ) H' s'/\tn i s'.heap/\(∀ b∈fp,H' b=none)/\W i n zs H') ?_ m0
   ⟨0,[],none,H3,IY,T.keep _ _ _ st3 fun b hb o e=>hold b o e,fH3,w0⟩
  rintro n s5 ⟨i,zs,v0,H5,I5,st5,fr5,w5⟩
  obtain ⟨hacc,turn5⟩:=turn i n zs H5 w5
  rcases turn5 with ⟨stop,qn⟩ | ⟨go,hlen,step⟩
  ·refine thn (T.done (bh X x ys scope h3.objs.size {s2 with heap:=h3} H3 fp) rfl rfl rfl hcalm i [] s5 _ H5 _ I5 (stat fr5) st5 stop) fun r s6 ⟨hr,I6⟩=>?_
   subst hr
   obtain ⟨m6,n6,_⟩:=I6.loc
   refine fin p h3.objs.size H5 s6 m6 (I3.call' I6.os I6.base I6.hok I6.bare fun b hb=>⟨(f2 b hb).2.2.2.1,(f2 b hb).2.1,(f2 b hb).2.2.2.2.1,(f2 b hb).2.2.2.2.2⟩) n6 I6.free (Nat.ne_of_gt hlt3) I3.sz (fun y c e=>Nat.ne_of_lt (hcell3 y c e)) (fun q hq=>?_) qn
   exact Nat.ne_of_lt (Heap.lt_size (I3.pin q hq).1)
  ·refine thn (T.item (bh X x ys scope h3.objs.size {s2 with heap:=h3} H3 fp) rfl rfl rfl hcalm i [] s5 _ H5 _ I5 (stat fr5) st5 go) fun r s6 ⟨u,hr,h6⟩=>?_
   subst hr
   refine thn h6 fun _ s7 ⟨xv,H7,I7,r7,y7,st7,fr7⟩=>?_
   have I7':=I7.pinned (stat fr7) (T.obj _ _ st7)
   refine thn (pgx _ s7 _ H7 xv u (fun σ' H'=>σ'=some xv::bp fr σ/\H'=H7) I7' r7 ⟨rfl,rfl⟩) fun _ s8 ⟨σ8,H8,I8,e8,e8'⟩=>?_
   subst e8 e8'
   refine thn (pel _ s8 _ H8 _ I8 (step xv H8 y7)) fun yv s9 ⟨v9,H9,I9,r9,hp9,m',hm',w9⟩=>?_
   refine thn (bo _ s9 _ H9 (.ref p) [v9] (.ref p) [yv] (fun _ H'=>H'=upd H9 p (.lst (zs++[v9]))) I9 rfl (.cons r9 .nil) ⟨p,zs,v9,rfl,rfl,hp9,hlen,rfl⟩) fun _ s10 ⟨_,H10,I10,_,e10⟩=>?_
   subst e10
   refine ⟨m',hm',i+1,zs++[v9],some xv,_,I10.unpinned,T.keep _ _ _ st7 fun b hb o e=>(I10.pin (b,o) (List.mem_append_right _ (List.mem_append_right _ (bc hb e)))).1,fun b hb=>?_,w9⟩
   obtain ⟨o,e,d⟩:=T.obj _ _ st7 b hb
   exact (I10.pin (b,o) (List.mem_append_right _ (List.mem_append_right _ (bc hb e)))).2.1
 exact codeAny_compStart_list loop (T.self X.A 0 _ _ _ (T.keep _ _ _ st3 fun b hb o e=>hold b o e) loop)
theorem cK (hcalm:X.calm=true) (hi:PI X (.Name x px) iter wi) (hsc:X.env.scope=sc0) (hN:X.N=N0) (ok:fC sc0 N0 scope x ys fr)
  (hE: ∀ C s H ex,PE (bh X x ys scope C s H ex) elt te) (hs: ∀ v,foldedSetIterable iter X.env v=pure v:=by intro _;rfl):
  PE X (.ListComp elt [⟨.Name x px,iter,[],0⟩] scope pos) (pT wi fr te):=by
 intro pins s σ H Q I h
 rw [eval_ListComp]
 refine iX (use:=none) (Qv:=EP X pins σ Q) (Q:=Q) hcalm hi hsc hN ok hE I h hs fun p C H' s' m I' hn h0 h1 h2 h3 h4 q=>?_
 refine ⟨m,hn,fun h' sb=>⟨.ref p,H',I'.turned (t':=s'.toks) (fun b o hb e=>sb.extBut b o hb e) h0 (Ne.symm (Ne.symm h1)) (.inr h2) h3 h4,rfl,q⟩⟩
theorem fV {i:Nat} {y:Str} {py spos:Pos} (hcalm:X.calm=true) (hnd:X.N.Nodup) (hiN:X.N[i]? =some y) (hy:Loc X.env.scope y) (hi:PI X (.Name x px) iter wi) (hsc:X.env.scope=sc0) (hN:X.N=N0) (ok:fC sc0 N0 scope x ys fr)
  (hE: ∀ C s H ex,PE (bh X x ys scope C s H ex) elt te) (hsw:swapsWith (.ListComp elt [⟨.Name x px,iter,[],0⟩] scope pos) (some (.Name y py)) spos.line X.env=pure true:=by rfl)
  (hs: ∀ v,foldedSetIterable iter X.env v=pure v:=by intro _;rfl) (hf:X.fn y=true\/X.env.scope.names.lookup y=some .local:=by first | exact .inl rfl | exact .inr rfl | assumption):
  PS X (.Assign [.Name y py] (.ListComp elt [⟨.Name x px,iter,[],0⟩] scope pos) spos) (lg (pT wi fr te) (c3 i)):=by
 intro pins s σ H D I h
 rw [exec_Assign_Name_used _ _ _ _ hsw]
 refine wpAny_bind (wpAny_standAt (wpAny_bind ?_))
 show wpAny _ X.A (do let _ <- comprehension (.ListComp elt [⟨.Name x px,iter,[],0⟩] scope pos) scope X.env _ (newList []) false (eval iter X.env) (some (assign (.Name y py) X.env))) _ _ s
 refine wpAny_bind (thn (iX (use:=some (assign (.Name y py) X.env)) (Qv:=fun _ s'=>SP X pins D .next s') (Q:=fun v H'=>D.nx (σ.set i (some v)) H') hcalm hi hsc hN ok hE I h hs fun p C H' s' m I' hn h0 h1 h2 h3 h4 q=>?_) fun _ s' hq=>wpAny_pure (wpAny_pure hq))
 show wpAny _ X.A (assign (.Name y py) X.env (.ref p)) _ _ s'
 refine wpAny_assign_Name (fh (v:=.ref p) I' hnd hiN hy rfl (fun s'' I'' ⟨a,sb,ha⟩=>?_) hf)
 have hCa:C≠a:=by
  rcases ha with e | e
  ·rw [e];exact h1
  ·exact (h3 y a e).symm
 refine ⟨m,hn.sameBut sb hCa,fun h' sb'=>⟨_,H',I''.turned (t':=s''.toks) (fun b o hb e=>sb'.extBut b o hb e) h0 h1 (.inr h2) h3 h4,q⟩⟩
theorem dR {n:Nat} {J:It} {H1:Hp} {Q:VK} {R:Nat->V->Prop} (hn:n<=1000) (hgo: ∀ i H,i<n->J.go i H) (hstop: ∀ H,J.stop n H) (hy: ∀ i H v H',J.yld i H v H'->H'=H/\R i v)
  (Pv:Addr->Nat->List V->Hp->Prop) (h0: ∀ p,H1 p=none->Pv p 0 [] (upd H1 p (.lst []))) (hl: ∀ p i zs H,Pv p i zs H->H p=some (.lst zs)/\zs.length=i)
  (hs: ∀ p i zs H v (k:VK),H1 p=none->i<n->R i v->Pv p i zs H->(∀ u H2,H2 p=some (.lst zs)->Pv p (i+1) (zs++[u]) (upd H2 p (.lst (zs++[u])))->k u H2)->te (some v::bp fr σ) H k)
  (hd: ∀ p zs H,H1 p=none->Pv p n zs H->Q (.ref p) H):fg fr te σ J H1 Q:=by
 intro p hp
 refine ⟨fun i m zs H=>i<=n/\m=n-i/\Pv p i zs H,⟨n,Nat.zero_le _,by simp,h0 p hp⟩,?_⟩
 rintro i m zs H ⟨hi,hm,q⟩
 obtain ⟨hp',hz⟩:=hl p i zs H q
 refine ⟨hp',?_⟩
 by_cases e:i=n
 ·subst e
  exact .inl ⟨hstop H,hd p zs H hp q⟩
 ·have hlt:i<n:=by lia
  refine .inr ⟨hgo i H hlt,ao (by lia),fun v H' hv=>?_⟩
  obtain ⟨rfl,r⟩:=hy i H v H' hv
  refine hs p i zs H' v _ hp hlt r q fun u H2 a b=>?_
  exact ⟨a,n- (i+1),by lia,by lia,rfl,b⟩
theorem ju {lo:Int} {n:Nat}: ∀ i H,i<n->(Itr lo n).go i H:=fun _ _ h=>h
theorem eS {lo:Int} {n:Nat}: ∀ H,(Itr lo n).stop n H:=fun _=>Nat.le_refl n
theorem fY {lo:Int} {n:Nat}: ∀ i H v H',(Itr lo n).yld i H v H'->H'=H/\v=.int (lo+i):=fun _ _ _ _ h=>h
end
section
variable {X:Cx} {e k:Expr} {te tk:TE} {pos p2:Pos}
theorem c6: ∀ (ix:List Nat) {xs:List V} {us:List Value},Vals xs us->Vals (ix.filterMap (xs[·]?)) (ix.filterMap (us[·]?))
 | [],_,_,_=>.nil
 | i::r,xs,us,h=>by
  rw [List.filterMap_cons,List.filterMap_cons]
  cases ex:xs[i]? with
  | none=>
   rw [h.none_of ex]
   exact c6 r h
  | some x=>
   obtain ⟨u,eu,ru⟩:=h.get ex
   rw [eu]
   exact .cons ru (c6 r h)
noncomputable def dD (n:Nat) (c:Int):List Nat:=sliceRange (sliceBounds none none (some c) n).1 (sliceBounds none none (some c) n).2.1 (sliceBounds none none (some c) n).2.2
noncomputable def eI (xs:List V) (c:Int):List V:=(dD xs.length c).filterMap (xs[·]?)
theorem lC {α:Type} (xs:List α):(List.range xs.length).filterMap (xs[·]?)=xs:=by
 induction xs with
 | nil=>rfl
 | cons x r ih=>
  rw [List.length_cons,List.range_succ_eq_map,List.filterMap_cons,List.filterMap_map]
  show x::List.filterMap ((fun j=>(x::r)[j]?)∘Nat.succ) (List.range r.length)=x::r
  congr 1
theorem lh (n:Nat):dD n 1=List.range n:=by
 unfold dD sliceBounds sliceRange
 simp only [Option.getD_some,show (1:Int) >0 by decide,if_true]
 by_cases h:n=0
 ·subst h
  rfl
 ·rw [if_pos (by lia)]
  have e:(((n:Int) -0+1-1) /1).toNat=n:=by rw [Int.ediv_one];lia
  rw [e]
  conv=>rhs;rw [<- List.map_id (List.range n)]
  apply List.map_congr_left
  intro k hk
  show (0+1* (k:Int)).toNat=k
  lia
theorem oh (xs:List V):eI xs 1=xs:=by
 unfold eI
 rw [lh]
 exact lC xs
theorem li (n:Nat):dD n (-1)=(List.range n).map fun k=>n-1-k:=by
 unfold dD sliceBounds sliceRange
 simp only [Option.getD_some,show ¬ ((-1:Int) >0) by decide,if_false]
 by_cases h:n=0
 ·subst h
  rfl
 ·rw [if_pos (by lia)]
  have e:(((n:Int) -1- -1- -1-1) / (- -1)).toNat=n:=by
   rw [show (- -1:Int)=1 by decide,Int.ediv_one];lia
  rw [e]
  apply List.map_congr_left
  intro k hk
  have:=List.mem_range.mp hk
  show ((n:Int) -1+ -1* (k:Int)).toNat=n-1-k
  lia
theorem rev_pick {α:Type} (xs:List α):((List.range xs.length).map fun k=>xs.length-1-k).filterMap (xs[·]?)=xs.reverse:=by
 apply List.ext_getElem?
 intro i
 have hall:((List.range xs.length).map fun k=>xs.length-1-k).filterMap (xs[·]?)=(List.range xs.length).filterMap fun k=>xs[xs.length-1-k]? :=by
  rw [List.filterMap_map]
  rfl
 rw [hall]
 have hsome: ∀ (l:List Nat),(∀ k∈l,k<xs.length)-> ∀ j:Nat,(l.filterMap fun k=>xs[xs.length-1-k]?)[j]? =l[j]?.bind fun k=>xs[xs.length-1-k]? :=by
  intro l
  induction l with
  | nil=>intro _ j;rfl
  | cons a r ih=>
   intro hl j
   have ha:=hl a List.mem_cons_self
   have hx:xs[xs.length-1-a]? =some xs[xs.length-1-a]:=List.getElem?_eq_getElem (by lia)
   rw [List.filterMap_cons,hx]
   cases j with
   | zero=>simp [hx]
   | succ j=>
    rw [List.getElem?_cons_succ,List.getElem?_cons_succ]
    exact ih (fun k hk=>hl k (List.mem_cons_of_mem _ hk)) j
 rw [hsome _ (fun k hk=>List.mem_range.mp hk) i]
 by_cases hi:i<xs.length
 ·rw [List.getElem?_range hi,List.getElem?_reverse hi]
  rfl
 ·rw [List.getElem?_eq_none (by simpa using hi),List.getElem?_eq_none (by simpa using hi)]
  rfl
theorem iD (xs:List V):eI xs (-1)=xs.reverse:=by
 unfold eI
 rw [li]
 exact rev_pick xs
noncomputable def vf (K:PySem.W.Frag) (te tk:TE):TE:=fun σ H Q=>te σ H fun x H1=>tk σ H1 fun y H2=> ∃ a xs c,x=.ref a/\y=.int c/\SqL K H2 a xs/\c≠0/\ ∀ p,H2 p=none->Q (.ref p) (upd H2 p (.lst (eI xs c)))
theorem nC (he:PE X e te) (hk:PE X k tk):PE X (.Subscript e (.Slice none none (some k) p2) pos) (vf X.K te tk):=by
 intro pins s σ H Q I h
 refine Subscript_ (thn (he pins s σ H _ I h) fun v s1 ⟨x,H1,I1,r1,q1⟩=>?_)
 refine wpAny_Slice ?_
 rw [evalPart_none,evalPart_some]
 refine wpAny_pure (wpAny_pure ?_)
 refine thn (hk pins s1 σ H1 _ I1 q1) fun vk s3 ⟨y,H3,I3,ry,a,xs,c,ex,ey,hq,hc,q⟩=>?_
 subst ex ey
 obtain ⟨t,rfl⟩:=ry
 cases r1
 have I4:Inv X pins σ H3 {s3 with heap:=s3.heap.push {cls:=.type "slice",data:=.fields #[.none,.none,.int c t]}}:=I3.kept (t':=s3.toks) fun b ob q=>Heap.get?_push_of_some _ q
 obtain ⟨its,r,ht,hz⟩:=I4.list hq
 have hlen:=r.length
 have hpick:slicePick its.toArray none none (some c)=((dD xs.length c).filterMap (its[·]?)).toArray:=by
  unfold slicePick dD
  rw [List.size_toArray,hlen]
  simp
 have hle:(eI xs c).length<=sizeLine:=by
  have h1:=slicePick_size_le its.toArray none none (some c)
  rw [hpick,List.size_toArray,List.size_toArray]at h1
  have h2:=(c6 (dD xs.length c) r).length
  unfold eI
  lia
 show wpAny (model X.prog X.w) X.A (subscriptTail e (.Slice none none (some k) p2) (.ref a) (.ref s3.heap.objs.size)) (EP X pins σ Q) X.xe {s3 with heap:=s3.heap.push {cls:=.type "slice",data:=.fields #[.none,.none,.int c t]}}
 refine tail_any (ops:=[.ref a,.ref s3.heap.objs.size]) ht.isList.typeIs slot_list_getitem.lookup (wpAny_getItem_list_slice ht.isList (Heap.IsSliceOf.new ..) .none .none (.int c t) (by simpa using hc) ?_ (by rw [List.size_toArray];lia)) (by with_unfolding_all rfl)
 rw [hpick]
 refine ⟨.ref (s3.heap.push {cls:=.type "slice",data:=.fields #[.none,.none,.int c t]}).objs.size,_,I4.laid (t':=s3.toks) (o:=.lst (eI xs c)) (fun b ob q=>Heap.get?_push_of_some _ q) (Nat.le_refl _) ?_,rfl,q _ I4.fresh⟩
 exact ⟨hle,_,0,c6 _ r,Heap.get?_push_size _ rfl⟩
noncomputable def wB:V->Option Int->Option Int->Hp->VK->Prop:=fun x lo hi H Q=> ∃ z,x=.str z/\z.length<=sizeLine/\Q (.str (Txt.slice z lo hi)) H
theorem jd:SlR X wB:=by
 intro pins s σ H x v vl vu lo hi sl Q I rx hs pl pu h
 obtain ⟨z,rfl,hz,q⟩:=h
 obtain ⟨t,rfl⟩:=rx
 refine ⟨"str",_,F.slot_str_getitem.lookup,typeIs_str _ _ _,?_⟩
 have go: ∀ (l u:Option (Int×Tok)),vl=partValue l->vu=partValue u->lo=l.map (·.1)->hi=u.map (·.1)->wpAny (model X.prog X.w) X.A (getItem (.str z t) (.ref sl)) (EP X pins σ Q) X.xe s:=by
  intro l u e1 e2 e3 e4
  subst e1 e2 e3 e4
  refine wpAny_getItem_str_slice (l:=l) (u:=u) (st:=none) hs rfl ?_
  exact post_val_or_str ⟨Nat.le_trans (Txt.slice_le z _ _) hz,fun t' k=>⟨.str (Txt.slice z (l.map (·.1)) (u.map (·.1))),H,I.tok k,⟨t',rfl⟩,q⟩⟩
 cases pl with
 | none=>
  cases pu with
  | none=>exact go none none rfl rfl rfl rfl
  | int j tj=>exact go none (some (j,tj)) rfl rfl rfl rfl
 | int i ti=>
  cases pu with
  | none=>exact go (some (i,ti)) none rfl rfl rfl rfl
  | int j tj=>exact go (some (i,ti)) (some (j,tj)) rfl rfl rfl rfl
open PySem.AutoSeq1 (wpAny_loadPart')in
theorem l5 (l:Addr) (items:Array Value) (n:Nat) (b:Addr) (items2:Array Value) (n2:Nat) (dd:Option Addr) (sl:Array (Option Value)) (hs0: ¬(!items.isEmpty&&Builtin.List.listTooLong (items.size+items2.size))=true) (hs1:items.size<=sizeLine) (hs2:items.size+items2.size<=sizeLine+1):
  Meets (Builtin.«list.extend» ⟨[.ref l,.ref b],[]⟩) (fun _ R s=>s.heap.get? l=some {cls:=.type "list",dict:=none,data:=.seq items n,slots:= #[]}/\s.heap.get? b=some {cls:=.type "tuple",dict:=dd,data:=.seq items2 n2,slots:=sl}/\R (.ok (.ret Value.none)) {s with heap:=s.heap.update l (Obj.mapSeq fun x=>x++items2),toks:=s.toks}):=
 .of_wp fun prog w A R s h=>by
  obtain ⟨hp,g,d,tk,os⟩:=s;obtain ⟨hl,hb,h⟩:=h;have f1:=AutoSeq1.idx_int;have f2:=AutoSeq1.sub_tuple_tuple;have f3:=AutoSeq1.sub_list_list;have f4:=AutoSeq1.sub_tuple_list;have f5:=AutoSeq1.sub_list_tuple;
  have hz':(items++items2).size<=sizeLine+1:=by rw [Array.size_append];exact hs2
  wp_walk using (wpAny_updateSeq hl rfl (hz:=hs1) (_hz':=hz')),wpAny_loadPart' hl,wpAny_loadPart' hb;exact ⟨_,rfl,h⟩
noncomputable def vz (K:PySem.W.Frag):V->List V->Hp->VK->Prop:=fun x vs H Q=> ∃ l b xs zs,x=.ref l/\vs=[.ref b]/\H l=some (.lst xs)/\SqT K H b zs/\xs.length+zs.length<=sizeLine/\Q .non (upd H l (.lst (xs++zs)))
theorem nH:MtM X "list.extend" (vz X.K):=by
 intro pins s σ H x vs v us Q I rx rv h
 obtain ⟨l,b,xs,zs,rfl,rfl,hH,hB,hz,q⟩:=h
 cases rx
 obtain ⟨u,rfl,ru⟩:=rv.one
 cases ru
 obtain ⟨z,its,n,r,hl,e⟩:=I.lstM hH
 obtain ⟨its2,r2,ht2,hz2⟩:=I.tuple hB
 obtain ⟨⟨c2,d2,dat2,sl2⟩,e2,hc2,n2,hd2⟩:=ht2
 dsimp only at hc2 hd2
 subst hc2 hd2
 have hl2:=r2.length
 have hsz:its.toArray.size+its2.toArray.size<=sizeLine:=by rw [List.size_toArray,List.size_toArray];lia
 have hlong: ¬ (!its.toArray.isEmpty&&Builtin.List.listTooLong (its.toArray.size+its2.toArray.size))=true:=by
  rw [kg hsz,Bool.and_false]
  exact Bool.false_ne_true
 refine call_meets F.slot_list_extend ⟨_,e,rfl⟩ F.entry_list_extend (F.args_list_extend_2 _ _)
  (l5 l its.toArray n b its2.toArray n2 d2 sl2 hlong (by rw [List.size_toArray];lia) (by lia)) ⟨e,e2,?_⟩
 refine ⟨.non,_,I.lset (its':=its++its2) hH e (by simp) (r.append r2) ?_,rfl,q⟩
 rw [List.length_append]
 lia
theorem oq (bs:List Bool):((List.range bs.length).all fun i=>(bs[i]?).getD true)=bs.all id:=by
 induction bs with
 | nil=>rfl
 | cons b r ih=>
  rw [List.length_cons,List.range_succ_eq_map,List.all_cons,List.all_map]
  show (b&&(List.range r.length).all (fun i=>((b::r)[i+1]?).getD true))=(b&&r.all id)
  rw [<- ih]
  rfl
theorem ie (hc:X.calm=true):bV X (.builtin "all") (fun xs H Q=> ∃ (p:Addr) (bs:List Bool),xs=[.ref p]/\SqL X.K H p (bs.map V.bl)/\Q (.bl (bs.all id)) H):=by
 intro pins s σ H xs us Q I r h
 obtain ⟨p,bs,rfl,hq,q⟩:=h
 obtain ⟨u,rfl,ru⟩:=cI r
 cases ru
 obtain ⟨its,rv,pl,hz⟩:=I.list hq
 have hl:=pl.isList
 have hlt:p<s.heap.objs.size:=by obtain ⟨_,e,_⟩:=hl;exact Heap.lt_size e
 have hn:its.toArray.size=bs.length:=by have:=rv.length;rw [List.length_map]at this;rw [List.size_toArray];lia
 refine call_all_walk (wpAny_pyIter_list hl ?_)
 refine ⟨s.heap.objs.size,[s.heap.objs.size,p],[s.heap.objs.size],its.toArray.size,_,_,fun i=>(bs[i]?).getD true,rfl,Walks.list (A:=X.A.in1) (I.ok.hd hc) _ p (Nat.ne_of_lt hlt) its.toArray,
  ⟨⟨_,Heap.get?_push_size _ rfl,rfl,rfl⟩,hl.push _⟩,fun i v s' Q' E' hP hQ=>?_,fun h' tk hk=>?_⟩
 ·have hv:its[i]? =some v:=by simpa using hP
  have hi:i<bs.length:=by
   have:=(List.getElem?_eq_some_iff.mp hv).1
   have:=rv.length
   rw [List.length_map]at this
   lia
  have hb:(bs.map V.bl)[i]? =some (V.bl bs[i]):=by rw [List.getElem?_map,List.getElem?_eq_getElem hi] <;> rfl
  obtain ⟨u,eu,ru⟩:=rv.get hb
  rw [hv]at eu
  cases eu
  cases (show v=Value.bool bs[i]from ru)
  have hQ':=hQ
  simp only [List.getElem?_eq_getElem hi,Option.getD_some]at hQ'
  exact wpAny_truthy_bool hQ'
 ·rw [hn,oq]
  refine ⟨.bl (bs.all id),H,I.kept (t':=tk) fun b x e=>?_,rfl,q⟩
  exact hk b x (fun hm=>by rw [List.mem_singleton.mp hm]at e;exact Nat.lt_irrefl _ (Heap.lt_size e)) (Heap.get?_push_of_some _ e)
noncomputable def tX (P:Program) (w:World) (K:PySem.W.Frag) (a:Addr) (kvs:List (Key×V)):Prop:=
 (a==sysModules)=false/\ ∀ h:Heap,K.In h-> ∃ vs,KV kvs vs/\h.DictOf (az P w) a vs
noncomputable def wH (P:Program) (w:World) (K:PySem.W.Frag) (neg:Bool):R2:=fun x y H Q=> ∃ k a kvs,x=kV k/\y=.ref a/\tX P w K a kvs/\Q (.bl (if neg then !(bu kvs k).isSome else (bu kvs k).isSome)) H
theorem uK:OpR X (compareOp .In) (wH X.prog X.w X.K false):=by
 intro pins s σ H x y v u Q I rx ry h
 obtain ⟨k,a,kvs,rfl,rfl,⟨hd,T⟩,q⟩:=h
 cases (show u=Value.ref a from ry)
 obtain ⟨vs,rel,dd⟩:=T _ I.kIn
 refine wpAny_in_of (iP rx) hd dd.mapOf ?_
 rw [<- (rel.val k).isSome_eq]
 exact ⟨.bl (bu kvs k).isSome,H,I.tok _,rfl,q⟩
end
noncomputable def nG:Expr->Bool
 | .Starred _ _=>false
 | _=>true
theorem io {e:Expr} {es:List Expr} {env:Env} (h:nG e=true):starEach (e::es) env=(false,eval e env)::starEach es env:=by
 cases e <;> first | rfl | cases h
theorem pac {X:Cx} {e:Expr} {es:List Expr} {te:TE} {t:TA} (ha:PE X e te) (hr:PA X es t) (h:nG e=true:=by rfl):PA X (e::es) (tY te t):=aa ha hr (io h)
noncomputable def me:Const->Option V
 | .str x=>some (.str x)
 | .int i=>some (.int i)
 | .bool b=>some (.bl b)
 | .none=>some .non
 | _=>none
noncomputable def eZ:List Expr->Option (List V)
 | []=>some []
 | .Constant c _ _::r=>(match me c,eZ r with | some v,some vs=>some (v::vs) | _,_=>none)
 | _::_=>none
theorem qK {X:Cx} {c:Const} {j:Nat} {pos:Pos} {v:V} (h:me c=some v):PE X (.Constant c j pos) (tC v):=by
 cases c with
 | str x=>cases h;exact aE
 | int i=>cases h;exact af
 | bool b=>cases h;exact dr
 | none=>cases h;exact lK
 | _=>cases h
theorem iJ {X:Cx}: ∀ {es:List Expr} {vs:List V},eZ es=some vs->PA X es (fun _ H Q=>Q vs H)
 | [],vs,h=>by
  cases h
  exact ac
 | e::r,vs,h=>by
  cases e with
  | Constant c j pos=>
   simp only [eZ]at h
   cases hc:me c with
   | none=>rw [hc]at h;cases h
   | some v=>
    cases hr:eZ r with
    | none=>rw [hc,hr]at h;cases h
    | some ws=>
     rw [hc,hr]at h
     cases h
     exact pac (qK hc) (iJ hr)
  | _=>cases h
theorem sD {X:Cx} {i:Nat} {x:Str} {es:List Expr} {vs:List V} {pos p pos':Pos} (hN:X.N.Nodup) (hi:X.N[i]? =some x) (hx:Loc X.env.scope x) (hf:X.fn x=true\/X.env.scope.names.lookup x=some .local) (h:eZ es=some vs):
  PS X (.Assign [.Name x pos'] (.List es p) pos) (lg (vi (fun _ H Q=>Q vs H)) (c3 i)):=
 al hN hi hx (aY (iJ h)) rfl hf
end L2
namespace HT
open PySem PyProof.Rows
section
variable {prog:Program} {w:World} {A:Around} {s:Shared} {E:Value->Shared->Prop}
theorem kZ (n:Nat):Builtin.Slice.sliceAdjust none none (-1) (n:Int)=((n:Int) -1,-1):=by
 unfold Builtin.Slice.sliceAdjust
 simp
theorem j9 (n:Nat):Builtin.Slice.slicePlaces ((n:Int) -1) (-1) (-1)=n:=by
 unfold Builtin.Slice.slicePlaces
 have h1: ¬ ((-1:Int) >0):=by lia
 simp only [h1,if_false]
 rw [show (- -1:Int)=1 by decide,Int.ediv_one]
 split <;> lia
theorem jF {sl:Addr} {t:Tok} {n:Nat} {Q:Int×Int×Nat->Shared->Prop} (hs:s.heap.IsSliceOf sl .none .none (.int (-1) t)) (h:Q ((n:Int) -1,-1,n) s):
  wpAny (model prog w) A (Builtin.Slice.sliceApplied (.ref sl) (pure (n:Int))) Q E s:=by
 obtain ⟨os,hos,hcs,hds⟩:=id hs
 unfold Builtin.Slice.sliceApplied Builtin.Slice.sliceFields
 refine wpAny_bind (wpAny_bind (wpAny_field hos hds (x:=.none) rfl (wpAny_bind (wpAny_field hos hds (x:=.none) rfl (wpAny_bind (wpAny_field hos hds (x:=.int (-1) t) rfl (wpAny_pure ?_)))))))
 refine wpAny_bind (cO (.int (-1) t) ?_)
 show wpAny _ _ (if ((-1:Int)==0)=true then _ else _) _ _ s
 rw [if_neg (by decide)]
 refine wpAny_bind (cO .none (wpAny_bind (cO .none (wpAny_bind (wpAny_pure ?_)))))
 show wpAny _ _ (match Builtin.Slice.sliceAdjust none none (-1) (n:Int)with | (lo,hi)=>pure (lo,(-1:Int),Builtin.Slice.slicePlaces lo hi (-1))) _ _ s
 rw [kZ n]
 show wpAny _ _ (pure ((n:Int) -1,(-1:Int),Builtin.Slice.slicePlaces ((n:Int) -1) (-1) (-1))) _ _ s
 rw [j9]
 exact wpAny_pure h
theorem kw {α β:Type} {f g:α->Option β}: ∀ {l:List α},(∀ x∈l,f x=g x)->l.filterMap f=l.filterMap g
 | [],_=>rfl
 | x::r,h=>by rw [List.filterMap_cons,List.filterMap_cons,h x List.mem_cons_self,kw fun y hy=>h y (List.mem_cons_of_mem _ hy)]
theorem oz (xs:Array Value):((List.range xs.size).filterMap fun (m:Nat)=>xs[((xs.size:Int) -1+ (m:Int) * -1).toNat]?).toArray=xs.toList.reverse.toArray:=by
 congr 1
 rw [<- L2.rev_pick xs.toList,List.filterMap_map,Array.length_toList]
 refine kw fun m hm=>?_
 have:=List.mem_range.mp hm
 have e:((xs.size:Int) -1+ (m:Int) * -1).toNat=xs.size-1-m:=by lia
 rw [e]
 simp
theorem getItem_tuple_back {a sl:Addr} {items:Array Value} {t:Tok} {Q:Value->Shared->Prop} (ht:IsTup s.heap a items) (hs:s.heap.IsSliceOf sl .none .none (.int (-1) t))
  (h:Q (.ref s.heap.objs.size) {s with heap:=s.heap.push {cls:=.type "tuple",data:=.seq items.toList.reverse.toArray}})
  (hsz:items.size<=sizeLine):wpAny (model prog w) A (getItem (.ref a) (.ref sl)) Q E s:=by
 have hok:sizeOk (.seq items.toList.reverse.toArray):=by
  show items.toList.reverse.toArray.size<=sizeLine
  rw [List.size_toArray,List.length_reverse,Array.length_toList]
  exact hsz
 obtain ⟨os,hos,hcs,hds⟩:=id hs
 have hTs:s.TypeIs (.ref sl) "slice":=⟨os,hos,hcs⟩
 unfold getItem
 try with_reducible refine wpAny_holding ?_
 first | refine wpAny_bind (wpAny_pure ?_) | skip
 refine wpAny_bind (wpAny_sequenceKey ht.typeIs (by decide) ?_)
 refine wpAny_bind (wpAny_callSpecial?_slot (name:=Str.ofString "__getitem__") ht.typeIs PyProof.Rows.slot_tuple_getitem
  (wpAny_call_entry PyProof.Rows.slot_tuple_getitem ht.typeIs entry_tuple_getitem ?_ (args_tuple_getitem _ _)))
 show wpAny _ _ (Builtin.Tuple.tupleItemsOf (.ref a) >>= _) _ _ s
 refine wpAny_bind (tupleItemsOf_ ht ?_)
 refine wpAny_bind (wpAny_typeOf hTs ?_)
 rw [if_pos (by decide)]
 refine wpAny_bind (jF hs ?_)
 show wpAny _ _ (if (((items.size:Int) -1)==0&&(-1:Int)==1&&items.size==items.size)=true then _ else _) _ _ s
 rw [if_neg (by simp),oz]
 first
  | exact wpAny_bind (m:=Builtin.Tuple.tupleExact _) (wpAny_newObj_type (wpAny_pure ⟨_,rfl,wpAny_pure h⟩) hok)
  | exact wpAny_bind (m:=Builtin.Tuple.tupleExact _) (wpAny_newObj_type (wpAny_bind (wpAny_pure (wpAny_pure ⟨_,rfl,wpAny_pure h⟩))) hok)
  | exact wpAny_bind (wpAny_bind (m:=Builtin.Tuple.tupleExact _) (wpAny_newObj_type (wpAny_pure (wpAny_pure ⟨_,rfl,wpAny_pure h⟩)) hok))
  | exact wpAny_bind (wpAny_bind (m:=Builtin.Tuple.tupleExact _) (wpAny_newObj_type (wpAny_pure ⟨_,rfl,wpAny_pure h⟩) hok))
end
end HT
namespace L2
open PySem PySem.Spec PyProof.Rows
section
variable {X:Cx} {e k:Expr} {te tk:TE} {pos p2:Pos}
noncomputable def uq (K:PySem.W.Frag) (te tk:TE):TE:=fun σ H Q=>te σ H fun x H1=>tk σ H1 fun y H2=> ∃ a xs,x=.ref a/\y=.int (-1)/\SqT K H2 a xs/\ ∀ p,H2 p=none->Q (.ref p) (upd H2 p (.tup xs.reverse))
theorem pL {xs:List V} {us:List Value} (h:Vals xs us):Vals xs.reverse us.reverse:=by
 rw [<- rev_pick xs,<- rev_pick us,h.length]
 exact c6 _ h
theorem qO (he:PE X e te) (hk:PE X k tk):PE X (.Subscript e (.Slice none none (some k) p2) pos) (uq X.K te tk):=by
 intro pins s σ H Q I h
 refine Subscript_ (thn (he pins s σ H _ I h) fun v s1 ⟨x,H1,I1,r1,q1⟩=>?_)
 refine wpAny_Slice ?_
 rw [evalPart_none,evalPart_some]
 refine wpAny_pure (wpAny_pure ?_)
 refine thn (hk pins s1 σ H1 _ I1 q1) fun vk s3 ⟨y,H3,I3,ry,a,xs,ex,ey,hq,q⟩=>?_
 subst ex ey
 obtain ⟨t,rfl⟩:=ry
 cases r1
 have I4:Inv X pins σ H3 {s3 with heap:=s3.heap.push {cls:=.type "slice",data:=.fields #[.none,.none,.int (-1) t]}}:=I3.kept (t':=s3.toks) fun b ob q=>Heap.get?_push_of_some _ q
 obtain ⟨its,r,ht,hz⟩:=I4.tuple hq
 show wpAny (model X.prog X.w) X.A (subscriptTail e (.Slice none none (some k) p2) (.ref a) (.ref s3.heap.objs.size)) (EP X pins σ Q) X.xe {s3 with heap:=s3.heap.push {cls:=.type "slice",data:=.fields #[.none,.none,.int (-1) t]}}
 refine tail_any (ops:=[.ref a,.ref s3.heap.objs.size]) ht.typeIs PyProof.Rows.slot_tuple_getitem.lookup (HT.getItem_tuple_back ht (Heap.IsSliceOf.new ..) ?_ (by rw [List.size_toArray,<- r.length];exact hz)) (by with_unfolding_all rfl)
 refine ⟨.ref (s3.heap.push {cls:=.type "slice",data:=.fields #[.none,.none,.int (-1) t]}).objs.size,_,I4.laid (t':=s3.toks) (o:=.tup xs.reverse) (fun b ob q=>Heap.get?_push_of_some _ q) (Nat.le_refl _) ?_,rfl,q _ I4.fresh⟩
 exact ⟨by rw [List.length_reverse];exact hz,_,pL r,IsTup.new _ _⟩
end
section
variable {X:Cx}
noncomputable def i6:List Int->Int
 | []=>0
 | n::r=>n+i6 r
end
end L2
namespace HT
open PySem PyProof.Rows
section
variable {prog:Program} {w:World} {A:Around} {s:Shared} {E:Value->Shared->Prop} {d j:Addr} {ks:List Value} {i ep:Nat}
noncomputable def DEs (h:Heap) (d:Addr) (ks:List Value) (ep:Nat):Prop:= ∃ o es,h.get? d=some o/\o.ExactDict/\o.data=.dict es ep/\es.toList.map (·.key)=ks
theorem DEs.type (m:DEs s.heap d ks ep):s.TypeIs (.ref d) "dict":=by
 obtain ⟨o,_,ho,hc,_⟩:=m
 exact ⟨o,ho,hc.1⟩
theorem DEs.keeps {h h':Heap} (m:DEs h d ks ep) (k: ∀ o,h.get? d=some o->h'.get? d=some o):DEs h' d ks ep:=by
 obtain ⟨o,es,ho,r⟩:=m
 exact ⟨o,es,k o ho,r⟩
theorem DEs.lt {h:Heap} (m:DEs h d ks ep):d<h.objs.size:=by
 obtain ⟨o,es,ho,_⟩:=m
 exact Heap.lt_size ho
theorem fk {es:Array DictEntry} (e:es.toList.map (·.key)=ks):es.size=ks.length:=by
 rw [<- e,List.length_map,Array.length_toList]
theorem rn {Q:Value->Shared->Prop} (lo:(d==sysModules)=false) (m:DEs s.heap d ks ep)
  (q:Q (.ref s.heap.objs.size) {s with heap:=s.heap.push {cls:=.type "dict_keyiterator",data:=.fields #[.ref d,.int 0 0,.int ks.length 0,.int ep 0]}}):wpAny (model prog w) A (pyIter (.ref d)) Q E s:=by
 have ty:=m.type
 obtain ⟨o,es,ho,hc,hdat,hk⟩:=m
 refine wpAny_pyIter_slot ty PySem.F.slot_dict_iter (wpAny_call_entry PySem.F.slot_dict_iter ty PySem.F.entry_dict_iter ?_ (PySem.F.args_dict_iter_1 _))
 unfold Builtin.«dict.__iter__» Builtin.Dict.dictSlotNone
 refine wpAny_bind (wpAny_bind (wpAny_notOrdered_dict ty ?_))
 refine wpAny_pure (show wpAny _ _ (Builtin.Dict.showsAll d >>= _) _ _ s from ?_)
 unfold Builtin.Dict.showsAll
 rw [if_neg (by rw [lo];exact Bool.false_ne_true)]
 refine wpAny_bind (wpAny_pure (wpAny_bind (wpAny_dictEntries ho hdat (wpAny_bind (wpAny_dictEpoch ho hdat ?_)))))
 refine wpAny_bind (wpAny_newObj_type (wpAny_pure ⟨_,rfl,"dict_keyiterator",_,⟨_,Heap.get?_push_size _ rfl,rfl⟩,PySem.F.slot_dict_keyiterator_next.lookup,?_⟩))
 simpa [rawInt,fk hk]using q
theorem q9 {x:Value} {Q:Option Value->Shared->Prop} (st:s.heap.IsKeyIter j d i ks.length ep) (m:DEs s.heap d ks ep) (hx:ks[i]? =some x)
  (q: ∀ h',h'.IsKeyIter j d (i+1) ks.length ep->Heap.SameBut j s.heap h'->Q (some x) {s with heap:=h'}):wpAny (model prog w) A (pyNext (.ref j)) Q E s:=by
 have ty:=st.typeIs
 obtain ⟨o,ho,hc,hd⟩:=id st
 obtain ⟨od,es,hod,hcd,hdd,hk⟩:=m
 have hz:=fk hk
 have hlt:i<ks.length:=(List.getElem?_eq_some_iff.mp hx).1
 have hes:i<es.size:=by lia
 have hkey:es[i].key=x:=by
  have e1:(es.toList.map (·.key))[i]? =some x:=by rw [hk];exact hx
  rw [List.getElem?_map,Array.getElem?_toList,Array.getElem?_eq_getElem hes]at e1
  exact Option.some.inj e1
 unfold pyNext
 refine wpAny_bind (wpAny_attempt (wpAny_callSpecial?_slot (name:=Str.ofString "__next__") ty PySem.F.slot_dict_keyiterator_next (wpAny_call_entry PySem.F.slot_dict_keyiterator_next ty PySem.F.entry_dict_keyiterator_next ?_ (PySem.F.args_dict_keyiterator_next_1 _))))
 refine wpAny_bind (wpAny_pure (wpAny_bind (wpAny_bind ?_)))
 first | refine wpAny_bind (wpAny_typeNameOfWhole_keyiter ty (wpAny_pure (wpAny_bind (wpAny_fieldsOf ho hd ?_)))) | refine wpAny_bind (wpAny_typeNameOf_keyiter ty (wpAny_pure (wpAny_bind (wpAny_fieldsOf ho hd ?_))))
 have own:Builtin.Dict_items.ownsTuple "dict_keyiterator"=false:=by decide
 simp only [own,Bool.false_eq_true,if_false]
 refine (show wpAny _ _ (if (Value.ref d==Value.none)=true then _ else _) _ _ s from ?_)
 rw [if_neg fun b0:(Value.ref d==Value.none)=true=>Bool.false_ne_true b0]
 refine wpAny_bind (wpAny_pure (wpAny_bind (wpAny_dictEntries hod hdd ?_)))
 rw [if_neg (by rw [hz];simp)]
 refine wpAny_bind (wpAny_pure (wpAny_bind (wpAny_dictEpoch hod hdd ?_)))
 rw [if_neg (by simp)]
 refine wpAny_pure ?_
 simp only [show ¬ ((i:Int) <0)from by lia,if_false,Int.toNat_natCast,Array.getElem?_eq_getElem hes]
 refine wpAny_bind ?_
 first | refine wpAny_bind (wpAny_typeNameOfWhole_keyiter ty (wpAny_pure (wpAny_bind (wpAny_isOneOf_keyiter ty ?_)))) | refine wpAny_bind (wpAny_typeNameOf_keyiter ty (wpAny_pure (wpAny_bind (wpAny_isOneOf_keyiter ty ?_))))
 refine (show wpAny _ _ (setField (.ref j) 1 (rawInt ((i:Int) +1)) >>= _) _ _ s from ?_)
 refine wpAny_bind (wpAny_setField ho hd (by simp) ?_)
 have st':(s.heap.update j (Obj.mapFields (·.setIfInBounds 1 (rawInt ((i:Int) +1))))).IsKeyIter j d (i+1) ks.length ep:=by
  refine ⟨_,Heap.get?_update_self _ ho (Obj.isFreed_of_fields (Obj.data_mapFields hd _)),(Obj.cls_mapFields ..).trans hc,?_⟩
  rw [Obj.data_mapFields hd];simp [rawInt]
 refine wpAny_bind (wpAny_holding (wpAny_bind (wpAny_isOneOf_keyiter (s:={s with heap:=s.heap.update j (Obj.mapFields (·.setIfInBounds 1 (rawInt ((i:Int) +1))))}) st'.typeIs ?_)))
 refine (show wpAny _ _ (pure es[i].key) _ _ _ from ?_)
 rw [hkey]
 exact wpAny_pure (wpAny_pure ⟨_,rfl,wpAny_pure (q _ st' (Heap.SameBut.update ..))⟩)
theorem tK {Q:Option Value->Shared->Prop} (hh:A.handled=none) (st:s.heap.IsKeyIter j d i ks.length ep) (m:DEs s.heap d ks ep) (hx:ks.length<=i)
  (q: ∀ h',Heap.ExtBut j s.heap h'->Q none {s with heap:=h'}):wpAny (model prog w) A (pyNext (.ref j)) Q E s:=by
 have ty:=st.typeIs
 obtain ⟨o,ho,hc,hd⟩:=id st
 obtain ⟨od,es,hod,hcd,hdd,hk⟩:=m
 have hz:=fk hk
 unfold pyNext
 refine wpAny_bind (wpAny_attempt (wpAny_callSpecial?_slot (name:=Str.ofString "__next__") ty PySem.F.slot_dict_keyiterator_next (wpAny_call_entry PySem.F.slot_dict_keyiterator_next ty PySem.F.entry_dict_keyiterator_next ?_ (PySem.F.args_dict_keyiterator_next_1 _))))
 refine wpAny_bind (wpAny_pure (wpAny_bind (wpAny_bind ?_)))
 first | refine wpAny_bind (wpAny_typeNameOfWhole_keyiter ty (wpAny_pure (wpAny_bind (wpAny_fieldsOf ho hd ?_)))) | refine wpAny_bind (wpAny_typeNameOf_keyiter ty (wpAny_pure (wpAny_bind (wpAny_fieldsOf ho hd ?_))))
 have own:Builtin.Dict_items.ownsTuple "dict_keyiterator"=false:=by decide
 simp only [own,Bool.false_eq_true,if_false]
 refine (show wpAny _ _ (if (Value.ref d==Value.none)=true then _ else _) _ _ s from ?_)
 rw [if_neg fun b0:(Value.ref d==Value.none)=true=>Bool.false_ne_true b0]
 refine wpAny_bind (wpAny_pure (wpAny_bind (wpAny_dictEntries hod hdd ?_)))
 rw [if_neg (by rw [hz];simp)]
 refine wpAny_bind (wpAny_pure (wpAny_bind (wpAny_dictEpoch hod hdd ?_)))
 rw [if_neg (by simp)]
 refine wpAny_pure ?_
 have hge:es.size<=i:=by lia
 simp only [show ¬ ((i:Int) <0)from by lia,if_false,Int.toNat_natCast,Array.getElem?_eq_none hge]
 refine wpAny_bind ?_
 first | refine wpAny_bind (wpAny_typeNameOfWhole_keyiter ty (wpAny_pure ?_)) | refine wpAny_bind (wpAny_typeNameOf_keyiter ty (wpAny_pure ?_))
 refine (show wpAny _ _ (setField (.ref j) 0 .none >>= _) _ _ s from wpAny_bind (wpAny_setField ho hd (by simp) ?_))
 refine (show wpAny _ _ (newExc (.type "StopIteration") [] >>= _) _ _ _ from wpAny_bind ?_)
 simp only [newExc,newTuple]
 refine wpAny_bind (wpAny_newObj_type (wpAny_bind (m:=firstArgMember _ _) (wpAny_of_eq (a:=Value.none) (by first | rfl | (simp only [firstArgMember];rfl)) (wpAny_newObj_type ?_ (by size_fits)))) (by size_fits))
 simp only [raiseNew]
 refine wpAny_bind (wpAny_handled ?_)
 rw [show A.in1.handled=none from hh]
 refine (wpAny_bind (wpAny_pure (wpAny_throw (?_))))
 refine wpAny_bind (wpAny_isInstance (T:="StopIteration") (b:=true) ⟨_,Heap.get?_push_size _ rfl,rfl⟩ isSubtype_stop (wpAny_pure (q _ ?_)))
 exact ((Heap.SameBut.update ..).extBut.push _).push _
theorem nX (hh:A.handled=none) (hne:d≠j):Walks prog w A j [j,d] [j] ks.length (fun i v=>ks[i]? =some v) (fun i h=>h.IsKeyIter j d i ks.length ep/\DEs h d ks ep) where
 sub:=fun b hb=>by rw [List.mem_singleton.mp hb];exact List.mem_cons_self
 frame:=fun _ _ _ st k=>⟨st.1.at fun o e=>k j (by simp) o e,st.2.keeps fun o e=>k d (by simp) o e⟩
 item:=fun i s Q E hi st hQ=>by
  have hx:ks[i]? =some ks[i]:=List.getElem?_eq_getElem hi
  refine q9 st.1 st.2 hx fun h' st' sb=>?_
  exact hQ _ h' s.toks hx ⟨st',st.2.keeps fun o e=>sb.extBut d o hne e⟩ fun b o hb e=>sb.extBut b o (fun z=>hb (by rw [z];exact List.mem_cons_self)) e
 done:=fun s Q E st hQ=>tK hh st.1 st.2 (Nat.le_refl _) fun h' eb=>hQ h' s.toks fun b o hb e=>eb b o (fun z=>hb (by rw [z];exact List.mem_cons_self)) e
 self:=fun _ _ _ _ st hQ=>wpAny_pyIter_keyiter st.1 hQ
theorem src_des (lo:(d==sysModules)=false):PySem.W.KdlSrc prog w "dict" d d ks.length (fun i v=>ks[i]? =some v) (fun h=>DEs h d ks ep) where
 type:=fun _ m=>m.type
 there:=fun _ m=>⟨m.lt,m.lt⟩
 keep:=fun _ _ m k=>m.keeps fun o e=>k d (.inl rfl) o e
 notList:=by decide
 notTuple:=by decide
 hint:=fun _ _ _ _ m q=>PySem.W.kdl_hint_dict m.type q
 iter:=fun _ _ hh m=>⟨_,_,fun _ _ q=>rn lo m q,nX hh (Nat.ne_of_lt m.lt),⟨⟨_,Heap.get?_push_size _ rfl,rfl,rfl⟩,m.keeps fun o e=>Heap.get?_push_of_some _ e⟩⟩
end
end HT
namespace L2
open PySem PySem.Spec PyProof.Rows
section
variable {X:Cx}
noncomputable def KsOf (H:Hp):List V->List (List Key)->Prop:=Paired fun y ks=> ∃ b,y=.ref b/\H b=some (.tup (ks.map kV))
theorem KsOf.mono {H H':Hp} {ys:List V} {kss:List (List Key)} (h:KsOf H ys kss) (t: ∀ b xs,H b=some (.tup xs)->H' b=some (.tup xs)):KsOf H' ys kss:=
 Paired.mapP h fun _ _ ⟨b,e,hb⟩=>⟨b,e,t _ _ hb⟩
theorem rk {H:Hp} {kvs:List (List Key×V)} {xs:List (List Key×Addr×Value)} (r:KT H kvs xs):KsOf H (xs.map fun q=>V.ref q.2.1) (kvs.map (·.1)):=by
 induction r with
 | nil=>exact .nil
 | cons h _ ih=>exact .cons ⟨_,rfl,h.2.1⟩ ih
theorem mw (hc:X.calm=true):bV X (.type "list") (fun xs H Q=> ∃ a kvs,xs=[.ref a]/\H a=some (.dT kvs)/\ ∀ p ys,H p=none->KsOf H ys (kvs.map (·.1))->Q (.ref p) (upd H p (.lst ys))):=by
 intro pins s σ H xs us Q I r h
 obtain ⟨a,kvs,rfl,ha,q⟩:=h
 obtain ⟨u,rfl,ru⟩:=cI r
 cases ru
 obtain ⟨hz,lo,ys,kt,o,es,ep,h1,h2,h3,h4,h5⟩:=(show ObjOk X.prog X.w H s.heap a (.dT kvs)from I.hok a _ ha)
 have hm:HT.DEs s.heap a (ys.map fun q=>Value.ref q.2.1) ep:=by
  refine ⟨o,es,h1,h2,h3,?_⟩
  rw [h4,List.map_map]
  rfl
 have hl:ys.length=kvs.length:=(Paired.length kt).symm
 refine PySem.W.kdl_call (HT.src_des lo) (I.ok.hd hc) hm (by rw [List.length_map];lia) fun h' tk acc c' kp e hi=>?_
 obtain ⟨i1,i2⟩:=hi
 have hacc:acc.toList=ys.map fun q=>Value.ref q.2.1:=by
  refine List.ext_getElem? fun i=>?_
  rw [Array.getElem?_toList]
  cases hv:acc[i]? with
  | some v=>exact (i2 i v hv).symm
  | none=>
   have:acc.size<=i:=Array.getElem?_eq_none_iff.mp hv
   exact (List.getElem?_eq_none (by rw [<- i1];exact this)).symm
 have rv:Vals (ys.map fun q=>V.ref q.2.1) (ys.map fun q=>Value.ref q.2.1):=by
  clear kt h4 h5 hl i1 i2 hacc hm
  induction ys with
  | nil=>exact .nil
  | cons y r ih=>exact .cons rfl ih
 refine ⟨.ref s.heap.objs.size,_,I.laid (t':=tk) (o:=.lst (ys.map fun q=>V.ref q.2.1)) kp (Nat.le_refl _) ?_,rfl,q _ _ (I.hok.fresh (Nat.le_refl _)) (rk kt)⟩
 refine ⟨by rw [List.length_map];lia,_,c',rv,?_⟩
 rw [<- hacc,Array.toArray_toList]
 exact e
end
section
variable {X:Cx}
theorem iL (hu:X.A.units<cLine):OpR X (compareOp .NotEq) (fun x y H Q=> ∃ a b xs,x=.ref a/\y=.ref b/\SqL X.K H a xs/\SqL X.K H b []/\Q (.bl (!xs.isEmpty)) H):=by
 intro pins s σ H x y v u Q I rx ry h
 obtain ⟨a,b,xs,rfl,rfl,ha,hb,q⟩:=h
 cases rx
 cases ry
 obtain ⟨its,r,pl,_⟩:=I.list ha
 obtain ⟨its2,r2,pl2,_⟩:=I.list hb
 cases r2
 cases r with
 | nil=>exact SeqAt.RcNeAt.lists (e:=fun _=>true) pl.isList pl2.isList rfl hu (fun j h1 _=>absurd h1 (Nat.not_lt_zero _)) X.prog X.w X.xe _ ⟨.bl _,H,I,rfl,q⟩
 | cons r1 t=>exact SeqAt.RcNeAt.lists_lengths pl.isList pl2.isList (by simp) hu X.prog X.w X.xe _ ⟨.bl _,H,I,rfl,q⟩
instance w8 (ks:List Key) (kss:List (List Key)):Decidable (ks∈kss):=decidable_of_iff (kss.any (fun l=>decide (l=ks))=true) ⟨fun h=>by
  obtain ⟨x,hx,e⟩:=List.any_eq_true.mp h
  rw [<- of_decide_eq_true e]
  exact hx,fun h=>List.any_eq_true.mpr ⟨ks,h,decide_eq_true rfl⟩⟩
theorem eR (K:PySem.W.Frag) (t:String) (ht:t∈["NoneType","bool","int","str","list","tuple","dict"]):
  PySem.W.kitAny K (.type t) [.type "tuple",.type "list"]=some (t=="tuple"||t=="list"):=by
 simp only [List.mem_cons,List.not_mem_nil,or_false]at ht
 rcases ht with rfl | rfl | rfl | rfl | rfl | rfl | rfl <;> first | rfl | (with_unfolding_all rfl) | (with_unfolding_all decide)
inductive TL (H:Hp):V->Bool->Prop where
 | str (z:Str):TL H (.str z) false
 | int (i:Int):TL H (.int i) false
 | tup {a:Addr} {xs:List V}:H a=some (.tup xs)->TL H (.ref a) true
 | lst {a:Addr} {xs:List V}:H a=some (.lst xs)->TL H (.ref a) true
theorem pH:bV X (.builtin "isinstance") (fun xs H Q=> ∃ x p b,xs=[x,.ref p]/\H p=some (.tup [.ty "tuple",.ty "list"])/\TL H x b/\Q (.bl b) H):=by
 intro pins s σ H xs us Q I r h
 obtain ⟨x,p,b,rfl,hp,ty,q⟩:=h
 obtain ⟨u,w',rfl,rx,rp⟩:=gj r
 cases (show w'=Value.ref p from rp)
 obtain ⟨_,its,rv,o,h1,h2,n,h3⟩:=(show ObjOk X.prog X.w H s.heap p (.tup [.ty "tuple",.ty "list"])from I.hok p _ hp)
 obtain ⟨u1,u2,rfl,r1,r2⟩:=gj rv
 cases (show u1=Value.type "tuple" from r1)
 cases (show u2=Value.type "list" from r2)
 obtain ⟨c,d,dt,sl⟩:=o
 simp only at h2 h3
 subst h2 h3
 have k: ∀ tk,EP X pins σ Q (.bool b) {s with toks:=tk}:=fun tk=>⟨.bl b,H,I.tok tk,rfl,q⟩
 cases ty with
 | int i=>
  obtain ⟨t,e⟩:=(show ∃ t,u=Value.int i t from rx)
  cases e
  exact PySem.W.kia_tup PySem.W.kitx_int I.kIn True.intro h1 (eR _ "int" (by simp)) (fun z=>nomatch z) k
 | str y=>
  obtain ⟨t,e⟩:=(show ∃ t,u=Value.str y t from rx)
  cases e
  exact PySem.W.kia_tup PySem.W.kitx_str I.kIn True.intro h1 (eR _ "str" (by simp)) (fun z=>nomatch z) k
 | @lst a xs ea=>
  cases (show u=Value.ref a from rx)
  obtain ⟨_,_,_,_,h4⟩:=(show ObjOk X.prog X.w H s.heap a (.lst xs)from I.hok a _ ea)
  exact PySem.W.kia_tup PySem.W.kitx_list I.kIn ⟨_,h4,rfl⟩ h1 (eR _ "list" (by simp)) (fun z=>nomatch z) k
 | @tup a xs ea=>
  cases (show u=Value.ref a from rx)
  obtain ⟨_,_,_,o2,h4,h5,_⟩:=(show ObjOk X.prog X.w H s.heap a (.tup xs)from I.hok a _ ea)
  exact PySem.W.kia_tup PySem.W.kitx_tuple I.kIn ⟨o2,h4,h5⟩ h1 (eR _ "tuple" (by simp)) (fun z=>nomatch z) k
end
end L2
namespace HT
open PySem PyProof.Rows
section
variable {prog:Program} {w:World} {A:Around} {s:Shared} {E:Value->Shared->Prop} {j t:Addr} {i:Nat} {items:Array Value}
theorem rM {x:Value} {Q:Value->Shared->Prop} (st:s.heap.IsTupleIter j t i) (ht:s.heap.IsTuple t items) (hx:items[i]? =some x)
  (q: ∀ h',h'.IsTupleIter j t (i+1)->Heap.SameBut j s.heap h'->Q x {s with heap:=h'}):wpAny (model prog w) A (Builtin.SmallTypes.nextOf (.ref j)) Q E s:=by
 have ty:=st.typeIs
 obtain ⟨o,ho,hc,hd⟩:=id st
 obtain ⟨ol,hol,_,nl,hdl⟩:=ht
 unfold Builtin.SmallTypes.nextOf
 refine wpAny_bind (wpAny_callSpecial?_slot (name:=Str.ofString "__next__") ty PySem.F.slot_tuple_iterator_next (wpAny_call_entry PySem.F.slot_tuple_iterator_next ty PySem.F.entry_tuple_iterator_next ?_ (PySem.F.args_tuple_iterator_next_1 _)))
 refine (show wpAny _ _ (field (.ref j) 0 >>= _) _ _ s from wpAny_bind (wpAny_field ho hd (x:=.ref t) rfl ?_))
 refine (show wpAny _ _ (if (Value.ref t==Value.none)=true then _ else _) _ _ s from ?_)
 rw [if_neg fun b0:(Value.ref t==Value.none)=true=>Bool.false_ne_true b0]
 refine (show wpAny _ _ (field (.ref j) 1 >>= _) _ _ s from wpAny_bind (wpAny_field ho hd (x:=.int i 0) rfl ?_))
 refine (show wpAny _ _ (seqItems? (.ref t) >>= _) _ _ s from wpAny_bind (wpAny_seqItems hol hdl ?_))
 simp only [Int.toNat_natCast,hx]
 refine wpAny_bind (wpAny_setField ho hd (by simp) (wpAny_pure ⟨x,rfl,wpAny_pure (q _ ⟨_,Heap.get?_update_self _ ho (Obj.isFreed_of_fields (Obj.data_mapFields hd _)),(Obj.cls_mapFields ..).trans hc,?_⟩ (Heap.SameBut.update ..))⟩))
 rw [Obj.data_mapFields hd];simp [rawInt]
theorem kz {Q:Value->Shared->Prop} (hh:A.handled=none) (st:s.heap.IsTupleIter j t i) (ht:s.heap.IsTuple t items) (hx:items[i]? =none)
  (q: ∀ h' e,Heap.ExtBut j s.heap h'->(∃ o,h'.get? e=some o/\o.cls=.type "StopIteration")->E (.ref e) {s with heap:=h'}):wpAny (model prog w) A (Builtin.SmallTypes.nextOf (.ref j)) Q E s:=by
 have ty:=st.typeIs
 obtain ⟨o,ho,hc,hd⟩:=id st
 obtain ⟨ol,hol,_,nl,hdl⟩:=ht
 unfold Builtin.SmallTypes.nextOf
 refine wpAny_bind (wpAny_callSpecial?_slot (name:=Str.ofString "__next__") ty PySem.F.slot_tuple_iterator_next (wpAny_call_entry PySem.F.slot_tuple_iterator_next ty PySem.F.entry_tuple_iterator_next ?_ (PySem.F.args_tuple_iterator_next_1 _)))
 refine (show wpAny _ _ (field (.ref j) 0 >>= _) _ _ s from wpAny_bind (wpAny_field ho hd (x:=.ref t) rfl ?_))
 refine (show wpAny _ _ (if (Value.ref t==Value.none)=true then _ else _) _ _ s from ?_)
 rw [if_neg fun b0:(Value.ref t==Value.none)=true=>Bool.false_ne_true b0]
 refine (show wpAny _ _ (field (.ref j) 1 >>= _) _ _ s from wpAny_bind (wpAny_field ho hd (x:=.int i 0) rfl ?_))
 refine (show wpAny _ _ (seqItems? (.ref t) >>= _) _ _ s from wpAny_bind (wpAny_seqItems hol hdl ?_))
 simp only [Int.toNat_natCast,hx]
 refine wpAny_bind (wpAny_rule (wpAny_bind (wpAny_setField ho hd (by simp) (show wpAny _ _ (newExc (.type "StopIteration") [] >>= _) _ _ _ from wpAny_bind ?_))))
 simp only [newExc,newTuple]
 refine wpAny_bind (wpAny_newObj_type (wpAny_bind (m:=firstArgMember _ _) (wpAny_of_eq (a:=Value.none) (by first | rfl | (simp only [firstArgMember];rfl)) (wpAny_newObj_type ?_ (by size_fits)))) (by size_fits))
 simp only [raiseNew]
 refine wpAny_bind (wpAny_handled ?_)
 rw [show A.in1.handled=none from hh]
 exact wpAny_bind (wpAny_pure (wpAny_throw (q _ _ (((Heap.SameBut.update ..).extBut.push _).push _) ⟨_,Heap.get?_push_size _ rfl,rfl⟩)))
noncomputable def SIter (c:Bool) (h:Heap) (j l:Addr) (i:Nat):Prop:=if c=true then h.IsTupleIter j l i else h.IsListIter j l i
noncomputable def SSeq (c:Bool) (h:Heap) (l:Addr) (items:Array Value):Prop:=if c=true then h.IsTuple l items else h.IsList l items
theorem SIter.obj {c:Bool} {h:Heap} {l:Addr} (x:SIter c h j l i): ∃ o,h.get? j=some o/\ ∀ v,o.data≠ .cell v:=by
 cases c with
 | true=>obtain ⟨o,e,_,d⟩:=(show h.IsTupleIter j l i from x);exact ⟨o,e,fun v z=>by rw [d]at z;cases z⟩
 | false=>obtain ⟨o,e,_,d⟩:=(show h.IsListIter j l i from x);exact ⟨o,e,fun v z=>by rw [d]at z;cases z⟩
theorem SIter.at {c:Bool} {h h':Heap} {l:Addr} (x:SIter c h j l i) (k: ∀ o,h.get? j=some o->h'.get? j=some o):SIter c h' j l i:=by
 cases c with
 | true=>obtain ⟨o,e,r⟩:=(show h.IsTupleIter j l i from x);exact (show h'.IsTupleIter j l i from ⟨o,k o e,r⟩)
 | false=>obtain ⟨o,e,r⟩:=(show h.IsListIter j l i from x);exact (show h'.IsListIter j l i from ⟨o,k o e,r⟩)
theorem SSeq.at {c:Bool} {h h':Heap} {l:Addr} (x:SSeq c h l items) (k: ∀ o,h.get? l=some o->h'.get? l=some o):SSeq c h' l items:=by
 cases c with
 | true=>obtain ⟨o,e,r⟩:=(show h.IsTuple l items from x);exact (show h'.IsTuple l items from ⟨o,k o e,r⟩)
 | false=>obtain ⟨o,e,r⟩:=(show h.IsList l items from x);exact (show h'.IsList l items from ⟨o,k o e,r⟩)
theorem draws_seq (c:Bool) (hh:A.handled=none) (j l:Addr) (hne:l≠j) (items:Array Value):
  Draws prog w A j [j,l] items.size (fun i v=>items[i]? =some v) (fun i h=>SIter c h j l i/\SSeq c h l items) where
 live:=fun _ _ st=>let ⟨o,e,_⟩:=st.1.obj;⟨o,e⟩
 frame:=fun _ _ _ st k=>⟨st.1.at fun o e=>k j (by simp) o e,st.2.at fun o e=>k l (by simp) o e⟩
 item:=fun i s Q E hi st hQ=>by
  have hx:items[i]? =some items[i]:=Array.getElem?_eq_getElem hi
  cases c with
  | true=>exact rM st.1 st.2 hx fun h' st' sb=>hQ _ h' s.toks hx ⟨st',st.2.at fun o e=>sb.extBut l o hne e⟩ sb
  | false=>exact wpAny_nextOf_list_item st.1 st.2 hx fun h' st' sb=>hQ _ h' s.toks hx ⟨st',st.2.at fun o e=>sb.extBut l o hne e⟩ sb
 done:=fun s Q E st hE=>by
  cases c with
  | true=>exact kz hh st.1 st.2 (by simp) hE
  | false=>exact wpAny_nextOf_list_end hh st.1 st.2 (by simp) hE
end
section
variable {prog:Program} {w:World} {A:Around} {s:Shared} {E:Value->Shared->Prop}
noncomputable def tIt (l:Addr):Obj:={cls:=.type "tuple_iterator",data:=.fields #[.ref l,.int 0 0]}
end
end HT
namespace L2
open PySem PySem.Spec PyProof.Rows
noncomputable def wx (c:Bool) (xs:List V):HO:=if c=true then .tup xs else .lst xs
theorem Inv.seqS {X:Cx} {pins:List (Addr×Obj)} {σ:St} {H:Hp} {s:Shared} {c:Bool} {a:Addr} {xs:List V} (I:Inv X pins σ H s) (h:H a=some (wx c xs)): ∃ its:List Value,Vals xs its/\HT.SSeq c s.heap a its.toArray/\xs.length<=sizeLine:=by
 cases c with
 | true=>obtain ⟨its,r,p,z⟩:=I.tuple (SqT.of (K:=X.K) h);exact ⟨its,r,p,z⟩
 | false=>obtain ⟨its,r,p,z⟩:=I.list (SqL.of (K:=X.K) h);exact ⟨its,r,p.isList,z⟩
structure nW (sc0:Scope) (N0:List Str) (scope:Scope) (x x2:Str) (ys:List Str) (fr:List Nat):Prop where
 kind:scope.kind=.function
 nocell: ∀ y∈scope.names,y.2≠ .cell
 loc: ∀ y∈scope.names,y.2=.local->scope.names.lookup y.1=some .local
 xl:(aL sc0 scope).lookup x=some .local
 xl2:(aL sc0 scope).lookup x2=some .local
 free: ∀ y∈scope.names,y.2=.free->sc0.names.lookup y.1=some .cell
 nd:(x::x2::ys).Nodup
 len:ys.length=fr.length
 sl: ∀ q∈ys.zip fr,N0[q.2]? =some q.1/\sc0.names.lookup q.1=some .cell/\(aL sc0 scope).lookup q.1=some .cell
noncomputable def cq (X:Cx) (x x2:Str) (ys:List Str) (scope:Scope) (C:Addr) (s:Shared) (H:Hp) (ex:List Addr):Cx:=
 {X with N:=x::x2::ys,s₀:=s,H₀:=H,env:=compEnvC scope (cy X.env.cells scope.names) C X.env,outer:=X.stack,stack:=X.stack,ex:=ex,fn:=fun _=>false,pn:=[],xe:=fun _ _=>False}
noncomputable def mJ (fr:List Nat) (te:TE) (σ:St) (J:It) (H1:Hp) (Q:VK):Prop:=
 ∀ p,H1 p=none-> ∃ W:Nat->Nat->List V->Hp->Prop,(∃ m,W 0 m [] (upd H1 p (.lst [])))/\ ∀ i m ys H,W i m ys H->H p=some (.lst ys)/\
  ((J.stop i H/\Q (.ref p) H)\/(J.go i H/\ys.length<sizeLine/\ ∀ x H',J.yld i H x H'-> ∃ T v1 v2,x=.ref T/\H' T=some (.tup [v1,v2])/\te (some v1::some v2::bp fr σ) H' fun v H2=>
   H2 p=some (.lst ys)/\ ∃ m',m'<m/\W (i+1) m' (ys++[v]) (upd H2 p (.lst (ys++[v])))))
noncomputable def pS (wi:TI) (fr:List Nat) (te:TE):TE:=fun σ H Q=>wi σ H fun J H1=>mJ fr te σ J H1 Q
section
variable {X:Cx} {x x2:Str} {px px2 tpos pos fpos:Pos} {kk:Nat} {iter elt:Expr} {scope sc0:Scope} {N0 ys:List Str} {fr:List Nat} {wi:TI} {te:TE} {pins:List (Addr×Obj)} {σ:St} {H:Hp} {s:Shared}
theorem mi {use:Option (Value->Sem Unit)} {Qv:Value->Shared->Prop} {Q:VK} (hcalm:X.calm=true) (hi:PI X (.Tuple [.Name x px,.Name x2 px2] kk tpos) iter wi) (hsc:X.env.scope=sc0) (hN:X.N=N0) (ok:nW sc0 N0 scope x x2 ys fr)
  (hE: ∀ C s H ex,PE (cq X x x2 ys scope C s H ex) elt te) (I:Inv X pins σ H s) (h:pS wi fr te σ H Q) (hs: ∀ v,foldedSetIterable iter X.env v=pure v)
  (fin: ∀ (p C:Addr) (H':Hp) (s':Shared) (m:Str->Option Value),Inv X pins σ H' s'->s'.heap.Ns C m->H' C=none->C≠X.env.locals->X.s₀.heap.objs.size<=C->(∀ y c,X.env.cells.lookup y=some c->c≠C)->(∀ q∈X.pn++pins,q.1≠C)->Q (.ref p) H'->
   compPost (model X.prog X.w) X.A X.xe use Qv (.ref p) C (.ok .next) s'):
  wpAny (model X.prog X.w) X.A (comprehension (.ListComp elt [⟨.Tuple [.Name x px,.Name x2 px2] kk tpos,iter,[],0⟩] scope pos) scope X.env fpos (newList []) false (eval iter X.env) use) Qv X.xe s:=by
 subst hsc hN
 have hkof: ∀ y,X.env.kindOf y=X.env.scope.names.lookup y:=fun y=>rfl
 have hfree: ∀ y∈scope.names,y.2=.free-> ∃ c,X.env.cells.lookup y.1=some c:=fun y hy e=>I.ok.has y.1 (.inl (ok.free y hy e))
 refine wpAny_comprehension_free (gs:=[]) rfl hs (cE hfree) ok.kind ok.loc (thn (hi pins s σ H _ I h) fun v s1 h1=>thn h1 fun itv s2 h2=>?_)
 obtain ⟨it,fp,tn,J,H2,e,I2,T,st2,f2,hp⟩:=h2
 subst e
 refine wpAny_newObj_type (wpAny_newFunctionEnv ok.nocell (by intro y hy;simp at hy) (fun h₁ hns₁ hsb₁=>?_) ok.kind)
 dsimp only at hns₁ hsb₁ ⊢
 have I3:Inv X pins σ (upd H2 s2.heap.objs.size (.lst [])) {s2 with heap:=s2.heap.push {cls:=.type "list",data:=.seq ([]:List Value).toArray}}:=
  I2.lnew (its:=[]) (ys:=[]) (t':=s2.toks) .nil (Nat.zero_le _)
 have hf2: ∀ b∈fp,b<s2.heap.objs.size:=fun b hb=>by
  obtain ⟨o,e,_⟩:=T.obj _ _ st2 b hb
  exact Heap.lt_size e
 have hps:s2.heap.objs.size< (s2.heap.push {cls:=.type "list",data:=.seq ([]:List Value).toArray}).objs.size:=by rw [Heap.size_push];exact Nat.lt_succ_self _
 have W0:=hp s2.heap.objs.size I2.fresh
 have st3:tn 0 (s2.heap.push {cls:=.type "list",data:=.seq ([]:List Value).toArray}):=T.keep _ _ _ st2 fun b hb o e=>Heap.get?_push_of_some _ e
 generalize hpp:s2.heap.objs.size=p at I3 W0 hf2 hps ⊢
 generalize hh3:(s2.heap.push {cls:=.type "list",data:=.seq ([]:List Value).toArray})=h3 at I3 hns₁ hsb₁ hps st3 ⊢
 generalize hH3:upd H2 p (.lst [])=H3 at I3 W0
 have hold: ∀ b o,h3.get? b=some o->h₁.get? b=some o:=fun b o e=>hsb₁.extBut b o (Nat.ne_of_lt (Heap.lt_size e)) (Heap.get?_push_of_some _ e)
 have fH3: ∀ b∈fp,H3 b=none:=fun b hb=>by
  rw [<- hH3,ai (Nat.ne_of_lt (hf2 b hb))]
  exact (f2 b hb).1
 have hclos: ∀ y c,(cy X.env.cells scope.names).lookup y=some c->X.env.cells.lookup y=some c:=fun y c e=>cu e
 have hcell3: ∀ y c,X.env.cells.lookup y=some c->c<h3.objs.size:=fun y c e=>by
  obtain ⟨v,o,ho,_⟩:=I3.cell y c e
  exact Heap.lt_size ho
 have hlt3:X.env.locals<h3.objs.size:=I3.lt
 have Yok:(cq X x x2 ys scope h3.objs.size {s2 with heap:=h3} H3 fp).Ok:={
  mod:=I.ok.mod
  kind:=ok.kind
  glob:=I.ok.glob
  blt:=I.ok.blt
  above:=Nat.le_refl _
  inj:=fun y z c e1 e2=>I.ok.inj y z c (hclos _ _ e1) (hclos _ _ e2)
  has:=fun y hk=>by
   have hfr:(y,NameKind.free)∈scope.names:=by
    have hm: ∃ k,(aL X.env.scope scope).lookup y=some k/\(k=.cell\/k=.free):=by
     rcases hk with hk | hk
     ·exact ⟨_,hk,.inl rfl⟩
     ·exact ⟨_,hk,.inr rfl⟩
    obtain ⟨k,hk,hkk⟩:=hm
    have hmem:=mem_of_lookup hk
    unfold aL at hmem
    obtain ⟨⟨n,k0⟩,hn,en⟩:=List.mem_map.mp hmem
    dsimp only at en
    split at en
    ·rename_i hc
     simp only [Bool.and_eq_true]at hc
     have hk0:k0=.free:=by simpa using hc.1.1
     cases en
     rw [<- hk0]
     exact hn
    ·cases en
     rcases hkk with e | e
     ·exact absurd e (ok.nocell _ hn)
     ·rw [<- e]
      exact hn
   obtain ⟨c,hc⟩:=hfree _ hfr rfl
   exact ⟨c,bE hc hfr⟩
  cab:=fun y c hf _=>by cases hf
  hd:=I.ok.hd
  frames:=I.ok.frames
  stk:=.inl rfl
  exf:=fun b hb=>⟨fun e=>absurd (hf2 b hb) (by rw [e];exact Nat.not_lt.mpr (Nat.le_of_lt hps)),fun y c e=>(f2 b hb).2.2.2.2.1 y c (hclos _ _ e)⟩
  bs:=fun b o e=>⟨(I3.bs b o e).1,(I3.bs b o e).2⟩
  bsz:=Nat.le_trans I.ok.bsz I3.sz
  noex:=fun b o e hb=>by
   rcases (f2 b hb).2.2.2.1 with q | q
   ·exact I.ok.noex b o e q
   ·have h1:b<X.base.objs.size:=Heap.lt_size e
    exact absurd h1 (Nat.not_lt.mpr (Nat.le_trans I.ok.bsz q))
  exfs:=fun b hb hm=>by
   rcases List.mem_cons.mp (I3.stkSub b hm)with q | q
   ·exact (f2 b hb).2.1 q
   ·exact (f2 b hb).2.2.1 q
  funs:=I3.stack
  frf:=I3.stkFree}
 have IY:Inv (cq X x x2 ys scope h3.objs.size {s2 with heap:=h3} H3 fp) [] (none::none::bp fr σ) H3 {s2 with heap:=h₁,toks:=s2.toks+ ([]:List (Str×Value)).length}:={
  ok:=Yok
  os:=rfl
  bare:=I2.bare
  base:=Un.kept hold
  loc:=by
   refine ⟨_,hns₁,fun i y v hy hv hvis=>?_⟩
   match i,hy,hv with
   | 0,_,hv=>cases hv
   | 1,_,hv=>cases hv
   | j+2,hy,hv=>
    have hy':ys[j]? =some y:=hy
    have hv':(bp fr σ)[j]? =some (some v):=hv
    unfold bp at hv'
    rw [List.getElem?_map]at hv'
    obtain ⟨i0,hi0,hv0⟩:=Option.map_eq_some_iff.mp hv'
    have hz:(y,i0)∈ys.zip fr:=by
     refine List.mem_iff_getElem?.mpr ⟨j,?_⟩
     rw [List.getElem?_zip_eq_some]
     exact ⟨hy',hi0⟩
    obtain ⟨hn,hk,hk2⟩:=ok.sl _ hz
    have hσ:σ[i0]? =some (some v):=by
     cases e:σ[i0]? with
     | none=>rw [e]at hv0;cases hv0
     | some o=>
      rw [e]at hv0
      rw [show o=some v from hv0]
    obtain ⟨m,hm,hl⟩:=I3.loc
    obtain ⟨u,ru,lk⟩:=hl i0 y v hn hσ (.inr (.inl hk))
    refine ⟨u,ru,.inr ⟨.inl hk2,?_⟩⟩
    rcases lk with ⟨a,_⟩ | ⟨_,c,hc,hcell⟩
    ·have a':X.env.scope.names.lookup y=some .local:=a
     have hk':X.env.scope.names.lookup y=some .cell:=hk
     rw [hk']at a'
     cases a'
    ·have hfr:(y,NameKind.free)∈scope.names:=by
      have hmem:=mem_of_lookup hk2
      unfold aL at hmem
      obtain ⟨⟨n,k0⟩,hn0,en⟩:=List.mem_map.mp hmem
      dsimp only at en
      split at en
      ·rename_i hc0
       simp only [Bool.and_eq_true]at hc0
       have hk0:k0=.free:=by simpa using hc0.1.1
       cases en
       rw [<- hk0]
       exact hn0
      ·cases en
       exact absurd rfl (ok.nocell _ hn0)
     exact ⟨c,bE hc hfr,hcell.keeps hold⟩
  cell:=fun y c e=>by
   obtain ⟨v,hv⟩:=I3.cell y c (hclos _ _ e)
   exact ⟨v,hv.keeps hold⟩
  free:=I3.fresh
  freeC:=fun y c e=>I3.freeC y c (hclos _ _ e)
  pin:=fun q hq=>by cases hq
  hok:=I3.hok.kept hold
  len:=by
   show (none::none::bp fr σ).length=(x::x2::ys).length
   rw [List.length_cons,List.length_cons,List.length_cons,List.length_cons,ok.len]
   unfold bp
   rw [List.length_map]}
 have hxl:(cq X x x2 ys scope h3.objs.size {s2 with heap:=h3} H3 fp).env.scope.names.lookup x=some .local:=ok.xl
 have hxl2:(cq X x x2 ys scope h3.objs.size {s2 with heap:=h3} H3 fp).env.scope.names.lookup x2=some .local:=ok.xl2
 have pgx:PG (cq X x x2 ys scope h3.objs.size {s2 with heap:=h3} H3 fp) (.Tuple [.Name x px,.Name x2 px2] kk tpos) (uV X.K 2 (iW (c3 0) (iW (c3 1) uW))):=
  cQ hcalm (aG (av (i:=0) ok.nd rfl (.inl hxl) (.inr hxl)) (aG (av (i:=1) ok.nd rfl (.inl hxl2) (.inr hxl2)) cn))
 have pel:=hE h3.objs.size {s2 with heap:=h3} H3 fp
 obtain ⟨W,⟨m0,w0⟩,turn⟩:=W0
 have stat: ∀ {H':Hp},(∀ b∈fp,H' b=none)-> ∀ b∈fp,im (cq X x x2 ys scope h3.objs.size {s2 with heap:=h3} H3 fp) [] H' b:=fun hn b hb=>
  ⟨hn b hb,(Yok.exf b hb).1,Yok.exfs b hb,.inl hb,(Yok.exf b hb).2,fun q hq=>by cases hq⟩
 have loop:codeAny (model X.prog X.w) X.A (.compLoop (.ListComp elt [⟨.Tuple [.Name x px,.Name x2 px2] kk tpos,iter,[],0⟩] scope pos) 0 (.ref it) (.ref p) (compEnvC scope (cy X.env.cells scope.names) h3.objs.size X.env))
   (compPost (model X.prog X.w) X.A X.xe use Qv (.ref p) h3.objs.size) {s2 with heap:=h₁,toks:=s2.toks+ ([]:List (Str×Value)).length}:=by
  refine c5 (fun n s'=> ∃ i zs v0 w0 H',Inv (cq X x x2 ys scope h3.objs.size {s2 with heap:=h3} H3 fp) [] (v0::w0::bp fr σ) H' s'/\tn i s'.heap/\(∀ b∈fp,H' b=none)/\W i n zs H') ?_ m0
   ⟨0,[],none,none,H3,IY,T.keep _ _ _ st3 fun b hb o e=>hold b o e,fH3,w0⟩
  rintro n s5 ⟨i,zs,v0,wv0,H5,I5,st5,fr5,w5⟩
  obtain ⟨hacc,turn5⟩:=turn i n zs H5 w5
  rcases turn5 with ⟨stop,qn⟩ | ⟨go,hlen,step⟩
  ·refine thn (T.done (cq X x x2 ys scope h3.objs.size {s2 with heap:=h3} H3 fp) rfl rfl rfl hcalm i [] s5 _ H5 _ I5 (stat fr5) st5 stop) fun r s6 ⟨hr,I6⟩=>?_
   subst hr
   obtain ⟨m6,n6,_⟩:=I6.loc
   refine fin p h3.objs.size H5 s6 m6 (I3.call' I6.os I6.base I6.hok I6.bare fun b hb=>⟨(f2 b hb).2.2.2.1,(f2 b hb).2.1,(f2 b hb).2.2.2.2.1,(f2 b hb).2.2.2.2.2⟩) n6 I6.free (Nat.ne_of_gt hlt3) I3.sz (fun y c e=>Nat.ne_of_lt (hcell3 y c e)) (fun q hq=>?_) qn
   exact Nat.ne_of_lt (Heap.lt_size (I3.pin q hq).1)
  ·refine thn (T.item (cq X x x2 ys scope h3.objs.size {s2 with heap:=h3} H3 fp) rfl rfl rfl hcalm i [] s5 _ H5 _ I5 (stat fr5) st5 go) fun r s6 ⟨u,hr,h6⟩=>?_
   subst hr
   refine thn h6 fun _ s7 ⟨xv,H7,I7,r7,y7,st7,fr7⟩=>?_
   have I7':=I7.pinned (stat fr7) (T.obj _ _ st7)
   obtain ⟨T7,v1,v2,eT,hT7,step7⟩:=step xv H7 y7
   refine thn (pgx _ s7 _ H7 xv u (fun σ' H'=>σ'=some v1::some v2::bp fr σ/\H'=H7) I7' r7 ⟨T7,[v1,v2],eT,SqT.of hT7,rfl,v1,[v2],rfl,v2,[],rfl,rfl,rfl,rfl⟩) fun _ s8 ⟨σ8,H8,I8,e8,e8'⟩=>?_
   subst e8 e8'
   refine thn (pel _ s8 _ H8 _ I8 step7) fun yv s9 ⟨v9,H9,I9,r9,hp9,m',hm',w9⟩=>?_
   refine thn (bo _ s9 _ H9 (.ref p) [v9] (.ref p) [yv] (fun _ H'=>H'=upd H9 p (.lst (zs++[v9]))) I9 rfl (.cons r9 .nil) ⟨p,zs,v9,rfl,rfl,hp9,hlen,rfl⟩) fun _ s10 ⟨_,H10,I10,_,e10⟩=>?_
   subst e10
   refine ⟨m',hm',i+1,zs++[v9],some v1,some v2,_,I10.unpinned,T.keep _ _ _ st7 fun b hb o e=>(I10.pin (b,o) (List.mem_append_right _ (List.mem_append_right _ (bc hb e)))).1,fun b hb=>?_,w9⟩
   obtain ⟨o,e,d⟩:=T.obj _ _ st7 b hb
   exact (I10.pin (b,o) (List.mem_append_right _ (List.mem_append_right _ (bc hb e)))).2.1
 exact codeAny_compStart_list loop (T.self X.A 0 _ _ _ (T.keep _ _ _ st3 fun b hb o e=>hold b o e) loop)
theorem qM (hcalm:X.calm=true) (hi:PI X (.Tuple [.Name x px,.Name x2 px2] kk tpos) iter wi) (hsc:X.env.scope=sc0) (hN:X.N=N0) (ok:nW sc0 N0 scope x x2 ys fr)
  (hE: ∀ C s H ex,PE (cq X x x2 ys scope C s H ex) elt te) (hs: ∀ v,foldedSetIterable iter X.env v=pure v:=by intro _;rfl):
  PE X (.ListComp elt [⟨.Tuple [.Name x px,.Name x2 px2] kk tpos,iter,[],0⟩] scope pos) (pS wi fr te):=by
 intro pins s σ H Q I h
 rw [eval_ListComp]
 refine mi (use:=none) (Qv:=EP X pins σ Q) (Q:=Q) hcalm hi hsc hN ok hE I h hs fun p C H' s' m I' hn h0 h1 h2 h3 h4 q=>?_
 refine ⟨m,hn,fun h' sb=>⟨.ref p,H',I'.turned (t':=s'.toks) (fun b o hb e=>sb.extBut b o hb e) h0 (Ne.symm (Ne.symm h1)) (.inr h2) h3 h4,rfl,q⟩⟩
end
end L2
namespace My
open PySem L2
variable {P:Program} {w:World} {K:PySem.W.Frag} {mg:Str->Option Value} {base:Heap} {aD aR f f2 f3 f4 f5 f6 f7 f8 f9 g:Addr} {fd fd2 fd3 fd4 fd5 fd6 fd7 fd8 fd9 gd:FuncData}
noncomputable def tm (c:Nat):Bool:=decide (97<=c/\c<=122)
noncomputable def cA (x:Str):Bool:=decide (1<=x.length)&&decide (x.length<=8)&&x.cps.toList.all tm
noncomputable def ops:List Str:=["plus","less","times","least","most"]
inductive Fm where
 | num (n:Int)
 | own (x:Str)
 | part (k:Int) (x:Str)
 | bin (op:Str) (a b:Fm)
 | whn (a b c:Fm)
noncomputable def Fm.size:Fm->Nat
 | .num _=>1
 | .own _=>1
 | .part _ _=>1
 | .bin _ a b=>a.size+b.size+1
 | .whn a b c=>a.size+b.size+c.size+1
noncomputable def Fm.wf:Fm->Prop
 | .num n=> -999999<=n/\n<=999999
 | .own x=>cA x=true
 | .part k x=>(0<=k/\k<=2)/\cA x=true
 | .bin op a b=>op∈ops/\a.wf/\b.wf
 | .whn a b c=>a.wf/\b.wf/\c.wf
theorem Fm.size_pos: ∀ f:Fm,1<=f.size
 | .num _=>Nat.le_refl 1
 | .own _=>Nat.le_refl 1
 | .part _ _=>Nat.le_refl 1
 | .bin _ a b=>by show 1<=a.size+b.size+1;lia
 | .whn a b c=>by show 1<=a.size+b.size+c.size+1;lia
noncomputable def Rep (H:Hp):Fm->V->Prop
 | .num n,v=> ∃ a,v=.ref a/\H a=some (.tup [.str "num",.int n])
 | .own x,v=> ∃ a,v=.ref a/\H a=some (.tup [.str "own",.str x])
 | .part k x,v=> ∃ a,v=.ref a/\H a=some (.tup [.str "part",.int k,.str x])
 | .bin op A B,v=> ∃ a u w,v=.ref a/\H a=some (.tup [.str op,u,w])/\Rep H A u/\Rep H B w
 | .whn A B C,v=> ∃ a u w z,v=.ref a/\H a=some (.tup [.str "when",u,w,z])/\Rep H A u/\Rep H B w/\Rep H C z
noncomputable def TK (H H':Hp):Prop:= ∀ a xs,H a=some (.tup xs)->H' a=some (.tup xs)
theorem TK.trans {H H1 H2:Hp} (a:TK H H1) (b:TK H1 H2):TK H H2:=fun c o h=>b c o (a c o h)
theorem TK.upd {H:Hp} {p:Addr} {o:HO} (h: ∀ xs,H p≠some (.tup xs)):TK H (upd H p o):=fun a xs e=>by
 by_cases q:a=p
 ·subst q
  exact absurd e (h xs)
 ·rw [ai q]
  exact e
theorem TK.lst {H:Hp} {p:Addr} {o:HO} {ys:List V} (h:H p=some (.lst ys)):TK H (L2.upd H p o):=TK.upd fun xs e=>by rw [h]at e;cases e
theorem Rep.mono {H H':Hp} (t:TK H H'): ∀ {f:Fm} {v:V},Rep H f v->Rep H' f v
 | .num _,_,⟨a,e,h⟩=>⟨a,e,t _ _ h⟩
 | .own _,_,⟨a,e,h⟩=>⟨a,e,t _ _ h⟩
 | .part _ _,_,⟨a,e,h⟩=>⟨a,e,t _ _ h⟩
 | .bin _ _ _,_,⟨a,u,w,e,h,r1,r2⟩=>⟨a,u,w,e,t _ _ h,Rep.mono t r1,Rep.mono t r2⟩
 | .whn _ _ _,_,⟨a,u,w,z,e,h,r1,r2,r3⟩=>⟨a,u,w,z,e,t _ _ h,Rep.mono t r1,Rep.mono t r2,Rep.mono t r3⟩
noncomputable def isV (T:String) (H:Hp) (v:V):Bool:=match v with
 | .bl _=>T=="bool"||T=="int"
 | .int _=>T=="int"
 | .str _=>T=="str"
 | .ref a=>(match H a with | some (.lst _)=>T=="list" | some (.tup _)=>T=="tuple" | some (.dK _)=>T=="dict" | _=>false)
 | _=>false
noncomputable def Sh (H:Hp):V->Prop
 | .non=>True
 | .bl _=>True
 | .int _=>True
 | .str x=>x.length<=1000
 | .ref a=>(∃ xs,H a=some (.lst xs))\/(∃ xs,H a=some (.tup xs))\/ ∃ kvs,H a=some (.dK kvs)
 | _=>False
section
variable {X:Cx}
theorem tq (K:PySem.W.Frag) (t T:String) (ht:t∈["NoneType","bool","int","str","list","tuple","dict"]) (hT:T∈["bool","int","str","list","tuple","dict"]):
  PySem.W.kitOne K (.type t) (.type T)=some (t==T||(t=="bool"&&T=="int")):=by
 simp only [List.mem_cons,List.not_mem_nil,or_false]at ht hT
 rcases ht with rfl | rfl | rfl | rfl | rfl | rfl | rfl <;> rcases hT with rfl | rfl | rfl | rfl | rfl | rfl <;> first | rfl | (with_unfolding_all rfl) | (with_unfolding_all decide)
theorem kY:bV X (.builtin "isinstance") (fun xs H Q=> ∃ x T,xs=[x,.ty T]/\Sh H x/\T∈["bool","int","str","list","tuple","dict"]/\Q (.bl (isV T H x)) H):=by
 intro pins s σ H xs us Q I r h
 obtain ⟨x,T,rfl,hs,hT,q⟩:=h
 have go: ∀ t,ff X.K H x (.type t)->t∈["NoneType","bool","int","str","list","tuple","dict"]->isV T H x=(t==T||(t=="bool"&&T=="int"))->wpAny (model X.prog X.w) X.A (call (.builtin "isinstance") us) (EP X pins σ Q) X.xe s:=by
  intro t ty ht e
  refine rV pins s σ H _ us Q I r ⟨x,T,.type t,_,rfl,ty,tq X.K t T ht hT,?_⟩
  rw [<- e]
  exact q
 have hTT:=hT
 simp only [List.mem_cons,List.not_mem_nil,or_false]at hTT
 cases x with
 | non=>exact go _ .non (by simp) (by rcases hTT with rfl | rfl | rfl | rfl | rfl | rfl <;> rfl)
 | bl b=>exact go _ (.bl b) (by simp) (by rcases hTT with rfl | rfl | rfl | rfl | rfl | rfl <;> rfl)
 | int i=>exact go _ (.int i) (by simp) (by rcases hTT with rfl | rfl | rfl | rfl | rfl | rfl <;> rfl)
 | str z=>exact go _ (.str z) (by simp) (by rcases hTT with rfl | rfl | rfl | rfl | rfl | rfl <;> rfl)
 | ref a=>
  rcases hs with ⟨ys,e⟩ | ⟨ys,e⟩ | ⟨ys,e⟩
  ·exact go _ (.lst e) (by simp) (by simp only [isV,e];rcases hTT with rfl | rfl | rfl | rfl | rfl | rfl <;> rfl)
  ·exact go _ (.tup e) (by simp) (by simp only [isV,e];rcases hTT with rfl | rfl | rfl | rfl | rfl | rfl <;> rfl)
  ·exact go _ (.dK e) (by simp) (by simp only [isV,e];rcases hTT with rfl | rfl | rfl | rfl | rfl | rfl <;> rfl)
 | byt _=>exact hs.elim
 | flt _=>exact hs.elim
 | ty _=>exact hs.elim
end
end My
namespace L2
open PySem PySem.Spec PyProof.Rows
section
variable {prog:Program} {w:World} {A:Around} {R:Result->Shared->Prop} {s:Shared}
theorem hV {elt target iter cnd:Expr} {scope:Scope} {pos:Pos} {it acc:Value} {env:Env} (I:Nat->Shared->Prop)
  (turn: ∀ n s,I n s->wpAny (model prog w) A (pyNext it) (fun r s₁=>match r with
   | none=>R (.ok .next) s₁
   | some v=>wpAny (model prog w) A (letOwnedTupleGo target it v) (fun _ s₁'=>wpAny (model prog w) A (assign target env v) (fun _ s₂=>wpAny (model prog w) A (isTrue cnd env (eval cnd env)) (fun ok s₃=>
     if ok=true then wpAny (model prog w) A (eval elt env) (fun x s₄=>
      wpAny (model prog w) A (call (.builtin "list.append") [acc,x]) (fun _ s₅=> ∃ m,m<n/\I m s₅) (fun _ _=>False) s₄) (fun _ _=>False) s₃
     else ∃ m,m<n/\I m s₃) (fun _ _=>False) s₂) (fun _ _=>False) s₁') (fun _ _=>False) s₁) (fun _ _=>False) s)
  (n:Nat) (h:I n s):codeAny (model prog w) A (.compLoop (.ListComp elt [⟨target,iter,[cnd],0⟩] scope pos) 0 it acc env) R s:=by
 refine codeAny_loop rfl I (fun n s hI=>?_) n h
 show wpAny _ _ ((compTurn (.ListComp elt [⟨target,iter,[cnd],0⟩] scope pos) 0 it acc env).onRaise (fun x=>do noteFrame x env;theTreesLotGoes x)) _ _ s
 refine wpAny_noted ?_
 rw [compTurn_list]
 refine wpAny_noRaise ?_
 refine wpAny_bind (wpAny_standAt (wpAny_bind (wpAny_mono (turn n s hI) (fun r s₁ h₁=>?_) fun _ _ h'=>h')))
 cases r with
 | none=>exact wpAny_pure h₁
 | some v=>
  refine wpAny_bind (wpAny_mono h₁ (fun _ s₁' h₁'=>?_) fun _ _ h'=>h')
  refine wpAny_bind (wpAny_mono h₁' (fun _ s₂ h₂=>wpAny_bind (wpAny_mono (wpAny_tests_one h₂) (fun ok s₃ h₃=>?_) fun _ _ h'=>h')) fun _ _ h'=>h')
  cases ok with
  | false=>exact wpAny_pure ⟨rfl,h₃⟩
  | true=>
   exact wpAny_bind (wpAny_bind (wpAny_mono h₃ (fun x s₄ h₄=>wpAny_bind (wpAny_mono h₄ (fun _ s₅ h₅=>wpAny_pure (wpAny_pure ⟨rfl,h₅⟩)) fun _ _ h'=>h')) fun _ _ h'=>h'))
end
noncomputable def mG (fr:List Nat) (tc:TT) (te:TE) (σ:St) (J:It) (H1:Hp) (Q:VK):Prop:=
 ∀ p,H1 p=none-> ∃ W:Nat->Nat->List V->Hp->Prop,(∃ m,W 0 m [] (upd H1 p (.lst [])))/\ ∀ i m ys H,W i m ys H->H p=some (.lst ys)/\
  ((J.stop i H/\Q (.ref p) H)\/(J.go i H/\ys.length<sizeLine/\ ∀ x H',J.yld i H x H'->tc (some x::bp fr σ) H' fun b H2=>if b=true then te (some x::bp fr σ) H2 fun v H3=>
   H3 p=some (.lst ys)/\ ∃ m',m'<m/\W (i+1) m' (ys++[v]) (upd H3 p (.lst (ys++[v])))else ∃ m',m'<m/\W (i+1) m' ys H2))
noncomputable def pQ (wi:TI) (fr:List Nat) (tc:TT) (te:TE):TE:=fun σ H Q=>wi σ H fun J H1=>mG fr tc te σ J H1 Q
section
variable {X:Cx} {x:Str} {px pos fpos:Pos} {iter elt cnd:Expr} {scope sc0:Scope} {N0 ys:List Str} {fr:List Nat} {wi:TI} {tc:TT} {te:TE} {pins:List (Addr×Obj)} {σ:St} {H:Hp} {s:Shared}
theorem mf {use:Option (Value->Sem Unit)} {Qv:Value->Shared->Prop} {Q:VK} (hcalm:X.calm=true) (hi:PI X (.Name x px) iter wi) (hsc:X.env.scope=sc0) (hN:X.N=N0) (ok:fC sc0 N0 scope x ys fr)
  (hT: ∀ C s H ex,PT (bh X x ys scope C s H ex) cnd tc) (hE: ∀ C s H ex,PE (bh X x ys scope C s H ex) elt te) (I:Inv X pins σ H s) (h:pQ wi fr tc te σ H Q) (hs: ∀ v,foldedSetIterable iter X.env v=pure v)
  (fin: ∀ (p C:Addr) (H':Hp) (s':Shared) (m:Str->Option Value),Inv X pins σ H' s'->s'.heap.Ns C m->H' C=none->C≠X.env.locals->X.s₀.heap.objs.size<=C->(∀ y c,X.env.cells.lookup y=some c->c≠C)->(∀ q∈X.pn++pins,q.1≠C)->Q (.ref p) H'->
   compPost (model X.prog X.w) X.A X.xe use Qv (.ref p) C (.ok .next) s'):
  wpAny (model X.prog X.w) X.A (comprehension (.ListComp elt [⟨.Name x px,iter,[cnd],0⟩] scope pos) scope X.env fpos (newList []) false (eval iter X.env) use) Qv X.xe s:=by
 subst hsc hN
 have hkof: ∀ y,X.env.kindOf y=X.env.scope.names.lookup y:=fun y=>rfl
 have hfree: ∀ y∈scope.names,y.2=.free-> ∃ c,X.env.cells.lookup y.1=some c:=fun y hy e=>I.ok.has y.1 (.inl (ok.free y hy e))
 refine wpAny_comprehension_free (gs:=[]) rfl hs (cE hfree) ok.kind ok.loc (thn (hi pins s σ H _ I h) fun v s1 h1=>thn h1 fun itv s2 h2=>?_)
 obtain ⟨it,fp,tn,J,H2,e,I2,T,st2,f2,hp⟩:=h2
 subst e
 refine wpAny_newObj_type (wpAny_newFunctionEnv ok.nocell (by intro y hy;simp at hy) (fun h₁ hns₁ hsb₁=>?_) ok.kind)
 dsimp only at hns₁ hsb₁ ⊢
 have I3:Inv X pins σ (upd H2 s2.heap.objs.size (.lst [])) {s2 with heap:=s2.heap.push {cls:=.type "list",data:=.seq ([]:List Value).toArray}}:=
  I2.lnew (its:=[]) (ys:=[]) (t':=s2.toks) .nil (Nat.zero_le _)
 have hf2: ∀ b∈fp,b<s2.heap.objs.size:=fun b hb=>by
  obtain ⟨o,e,_⟩:=T.obj _ _ st2 b hb
  exact Heap.lt_size e
 have hps:s2.heap.objs.size< (s2.heap.push {cls:=.type "list",data:=.seq ([]:List Value).toArray}).objs.size:=by rw [Heap.size_push];exact Nat.lt_succ_self _
 have W0:=hp s2.heap.objs.size I2.fresh
 have st3:tn 0 (s2.heap.push {cls:=.type "list",data:=.seq ([]:List Value).toArray}):=T.keep _ _ _ st2 fun b hb o e=>Heap.get?_push_of_some _ e
 generalize hpp:s2.heap.objs.size=p at I3 W0 hf2 hps ⊢
 generalize hh3:(s2.heap.push {cls:=.type "list",data:=.seq ([]:List Value).toArray})=h3 at I3 hns₁ hsb₁ hps st3 ⊢
 generalize hH3:upd H2 p (.lst [])=H3 at I3 W0
 have hold: ∀ b o,h3.get? b=some o->h₁.get? b=some o:=fun b o e=>hsb₁.extBut b o (Nat.ne_of_lt (Heap.lt_size e)) (Heap.get?_push_of_some _ e)
 have fH3: ∀ b∈fp,H3 b=none:=fun b hb=>by
  rw [<- hH3,ai (Nat.ne_of_lt (hf2 b hb))]
  exact (f2 b hb).1
 have hclos: ∀ y c,(cy X.env.cells scope.names).lookup y=some c->X.env.cells.lookup y=some c:=fun y c e=>cu e
 have hcell3: ∀ y c,X.env.cells.lookup y=some c->c<h3.objs.size:=fun y c e=>by
  obtain ⟨v,o,ho,_⟩:=I3.cell y c e
  exact Heap.lt_size ho
 have hlt3:X.env.locals<h3.objs.size:=I3.lt
 have Yok:(bh X x ys scope h3.objs.size {s2 with heap:=h3} H3 fp).Ok:={
  mod:=I.ok.mod
  kind:=ok.kind
  glob:=I.ok.glob
  blt:=I.ok.blt
  above:=Nat.le_refl _
  inj:=fun y z c e1 e2=>I.ok.inj y z c (hclos _ _ e1) (hclos _ _ e2)
  has:=fun y hk=>by
   have hfr:(y,NameKind.free)∈scope.names:=by
    have hm: ∃ k,(aL X.env.scope scope).lookup y=some k/\(k=.cell\/k=.free):=by
     rcases hk with hk | hk
     ·exact ⟨_,hk,.inl rfl⟩
     ·exact ⟨_,hk,.inr rfl⟩
    obtain ⟨k,hk,hkk⟩:=hm
    have hmem:=mem_of_lookup hk
    unfold aL at hmem
    obtain ⟨⟨n,k0⟩,hn,en⟩:=List.mem_map.mp hmem
    dsimp only at en
    split at en
    ·rename_i hc
     simp only [Bool.and_eq_true]at hc
     have hk0:k0=.free:=by simpa using hc.1.1
     cases en
     rw [<- hk0]
     exact hn
    ·cases en
     rcases hkk with e | e
     ·exact absurd e (ok.nocell _ hn)
     ·rw [<- e]
      exact hn
   obtain ⟨c,hc⟩:=hfree _ hfr rfl
   exact ⟨c,bE hc hfr⟩
  cab:=fun y c hf _=>by cases hf
  hd:=I.ok.hd
  frames:=I.ok.frames
  stk:=.inl rfl
  exf:=fun b hb=>⟨fun e=>absurd (hf2 b hb) (by rw [e];exact Nat.not_lt.mpr (Nat.le_of_lt hps)),fun y c e=>(f2 b hb).2.2.2.2.1 y c (hclos _ _ e)⟩
  bs:=fun b o e=>⟨(I3.bs b o e).1,(I3.bs b o e).2⟩
  bsz:=Nat.le_trans I.ok.bsz I3.sz
  noex:=fun b o e hb=>by
   rcases (f2 b hb).2.2.2.1 with q | q
   ·exact I.ok.noex b o e q
   ·have h1:b<X.base.objs.size:=Heap.lt_size e
    exact absurd h1 (Nat.not_lt.mpr (Nat.le_trans I.ok.bsz q))
  exfs:=fun b hb hm=>by
   rcases List.mem_cons.mp (I3.stkSub b hm)with q | q
   ·exact (f2 b hb).2.1 q
   ·exact (f2 b hb).2.2.1 q
  funs:=I3.stack
  frf:=I3.stkFree}
 have IY:Inv (bh X x ys scope h3.objs.size {s2 with heap:=h3} H3 fp) [] (none::bp fr σ) H3 {s2 with heap:=h₁,toks:=s2.toks+ ([]:List (Str×Value)).length}:={
  ok:=Yok
  os:=rfl
  bare:=I2.bare
  base:=Un.kept hold
  loc:=by
   refine ⟨_,hns₁,fun i y v hy hv hvis=>?_⟩
   cases i with
   | zero=>cases hv
   | succ j=>
    have hy':ys[j]? =some y:=hy
    have hv':(bp fr σ)[j]? =some (some v):=hv
    unfold bp at hv'
    rw [List.getElem?_map]at hv'
    obtain ⟨i0,hi0,hv0⟩:=Option.map_eq_some_iff.mp hv'
    have hz:(y,i0)∈ys.zip fr:=by
     refine List.mem_iff_getElem?.mpr ⟨j,?_⟩
     rw [List.getElem?_zip_eq_some]
     exact ⟨hy',hi0⟩
    obtain ⟨hn,hk,hk2⟩:=ok.sl _ hz
    have hσ:σ[i0]? =some (some v):=by
     cases e:σ[i0]? with
     | none=>rw [e]at hv0;cases hv0
     | some o=>
      rw [e]at hv0
      rw [show o=some v from hv0]
    obtain ⟨m,hm,hl⟩:=I3.loc
    obtain ⟨u,ru,lk⟩:=hl i0 y v hn hσ (.inr (.inl hk))
    refine ⟨u,ru,.inr ⟨.inl hk2,?_⟩⟩
    rcases lk with ⟨a,_⟩ | ⟨_,c,hc,hcell⟩
    ·have a':X.env.scope.names.lookup y=some .local:=a
     have hk':X.env.scope.names.lookup y=some .cell:=hk
     rw [hk']at a'
     cases a'
    ·have hfr:(y,NameKind.free)∈scope.names:=by
      have hmem:=mem_of_lookup hk2
      unfold aL at hmem
      obtain ⟨⟨n,k0⟩,hn0,en⟩:=List.mem_map.mp hmem
      dsimp only at en
      split at en
      ·rename_i hc0
       simp only [Bool.and_eq_true]at hc0
       have hk0:k0=.free:=by simpa using hc0.1.1
       cases en
       rw [<- hk0]
       exact hn0
      ·cases en
       exact absurd rfl (ok.nocell _ hn0)
     exact ⟨c,bE hc hfr,hcell.keeps hold⟩
  cell:=fun y c e=>by
   obtain ⟨v,hv⟩:=I3.cell y c (hclos _ _ e)
   exact ⟨v,hv.keeps hold⟩
  free:=I3.fresh
  freeC:=fun y c e=>I3.freeC y c (hclos _ _ e)
  pin:=fun q hq=>by cases hq
  hok:=I3.hok.kept hold
  len:=by
   show (none::bp fr σ).length=(x::ys).length
   rw [List.length_cons,List.length_cons,ok.len]
   unfold bp
   rw [List.length_map]}
 have hxl:(bh X x ys scope h3.objs.size {s2 with heap:=h3} H3 fp).env.scope.names.lookup x=some .local:=ok.xl
 have pgx:PG (bh X x ys scope h3.objs.size {s2 with heap:=h3} H3 fp) (.Name x px) (c3 0):=av (i:=0) ok.nd rfl (.inl hxl) (.inr hxl)
 have pel:=hE h3.objs.size {s2 with heap:=h3} H3 fp
 have ptl:=hT h3.objs.size {s2 with heap:=h3} H3 fp
 obtain ⟨W,⟨m0,w0⟩,turn⟩:=W0
 have stat: ∀ {H':Hp},(∀ b∈fp,H' b=none)-> ∀ b∈fp,im (bh X x ys scope h3.objs.size {s2 with heap:=h3} H3 fp) [] H' b:=fun hn b hb=>
  ⟨hn b hb,(Yok.exf b hb).1,Yok.exfs b hb,.inl hb,(Yok.exf b hb).2,fun q hq=>by cases hq⟩
 have loop:codeAny (model X.prog X.w) X.A (.compLoop (.ListComp elt [⟨.Name x px,iter,[cnd],0⟩] scope pos) 0 (.ref it) (.ref p) (compEnvC scope (cy X.env.cells scope.names) h3.objs.size X.env))
   (compPost (model X.prog X.w) X.A X.xe use Qv (.ref p) h3.objs.size) {s2 with heap:=h₁,toks:=s2.toks+ ([]:List (Str×Value)).length}:=by
  refine hV (fun n s'=> ∃ i zs v0 H',Inv (bh X x ys scope h3.objs.size {s2 with heap:=h3} H3 fp) [] (v0::bp fr σ) H' s'/\tn i s'.heap/\(∀ b∈fp,H' b=none)/\W i n zs H') ?_ m0
   ⟨0,[],none,H3,IY,T.keep _ _ _ st3 fun b hb o e=>hold b o e,fH3,w0⟩
  rintro n s5 ⟨i,zs,v0,H5,I5,st5,fr5,w5⟩
  obtain ⟨hacc,turn5⟩:=turn i n zs H5 w5
  rcases turn5 with ⟨stop,qn⟩ | ⟨go,hlen,step⟩
  ·refine thn (T.done (bh X x ys scope h3.objs.size {s2 with heap:=h3} H3 fp) rfl rfl rfl hcalm i [] s5 _ H5 _ I5 (stat fr5) st5 stop) fun r s6 ⟨hr,I6⟩=>?_
   subst hr
   obtain ⟨m6,n6,_⟩:=I6.loc
   refine fin p h3.objs.size H5 s6 m6 (I3.call' I6.os I6.base I6.hok I6.bare fun b hb=>⟨(f2 b hb).2.2.2.1,(f2 b hb).2.1,(f2 b hb).2.2.2.2.1,(f2 b hb).2.2.2.2.2⟩) n6 I6.free (Nat.ne_of_gt hlt3) I3.sz (fun y c e=>Nat.ne_of_lt (hcell3 y c e)) (fun q hq=>?_) qn
   exact Nat.ne_of_lt (Heap.lt_size (I3.pin q hq).1)
  ·refine thn (T.item (bh X x ys scope h3.objs.size {s2 with heap:=h3} H3 fp) rfl rfl rfl hcalm i [] s5 _ H5 _ I5 (stat fr5) st5 go) fun r s6 ⟨u,hr,h6⟩=>?_
   subst hr
   refine thn h6 fun _ s7 ⟨xv,H7,I7,r7,y7,st7,fr7⟩=>?_
   have I7':=I7.pinned (stat fr7) (T.obj _ _ st7)
   refine thn (pgx _ s7 _ H7 xv u (fun σ' H'=>σ'=some xv::bp fr σ/\H'=H7) I7' r7 ⟨rfl,rfl⟩) fun _ s8 ⟨σ8,H8,I8,e8,e8'⟩=>?_
   subst e8 e8'
   refine thn (ptl _ s8 _ H8 _ I8 (step xv H8 y7)) fun bb s8' ⟨H8',I8',hb⟩=>?_
   cases bb with
   | false=>
    obtain ⟨m',hm',w9⟩:=hb
    refine ⟨m',hm',i+1,zs,some xv,_,I8'.unpinned,T.keep _ _ _ st7 fun b hb o e=>(I8'.pin (b,o) (List.mem_append_right _ (List.mem_append_right _ (bc hb e)))).1,fun b hb=>?_,w9⟩
    obtain ⟨o,e,d⟩:=T.obj _ _ st7 b hb
    exact (I8'.pin (b,o) (List.mem_append_right _ (List.mem_append_right _ (bc hb e)))).2.1
   | true=>
   refine thn (pel _ s8' _ H8' _ I8' hb) fun yv s9 ⟨v9,H9,I9,r9,hp9,m',hm',w9⟩=>?_
   refine thn (bo _ s9 _ H9 (.ref p) [v9] (.ref p) [yv] (fun _ H'=>H'=upd H9 p (.lst (zs++[v9]))) I9 rfl (.cons r9 .nil) ⟨p,zs,v9,rfl,rfl,hp9,hlen,rfl⟩) fun _ s10 ⟨_,H10,I10,_,e10⟩=>?_
   subst e10
   refine ⟨m',hm',i+1,zs++[v9],some xv,_,I10.unpinned,T.keep _ _ _ st7 fun b hb o e=>(I10.pin (b,o) (List.mem_append_right _ (List.mem_append_right _ (bc hb e)))).1,fun b hb=>?_,w9⟩
   obtain ⟨o,e,d⟩:=T.obj _ _ st7 b hb
   exact (I10.pin (b,o) (List.mem_append_right _ (List.mem_append_right _ (bc hb e)))).2.1
 exact codeAny_compStart_list loop (T.self X.A 0 _ _ _ (T.keep _ _ _ st3 fun b hb o e=>hold b o e) loop)
theorem j7 {i:Nat} {y:Str} {py spos:Pos} (hcalm:X.calm=true) (hnd:X.N.Nodup) (hiN:X.N[i]? =some y) (hy:Loc X.env.scope y) (hi:PI X (.Name x px) iter wi) (hsc:X.env.scope=sc0) (hN:X.N=N0) (ok:fC sc0 N0 scope x ys fr)
  (hT: ∀ C s H ex,PT (bh X x ys scope C s H ex) cnd tc) (hE: ∀ C s H ex,PE (bh X x ys scope C s H ex) elt te) (hsw:swapsWith (.ListComp elt [⟨.Name x px,iter,[cnd],0⟩] scope pos) (some (.Name y py)) spos.line X.env=pure true:=by rfl)
  (hs: ∀ v,foldedSetIterable iter X.env v=pure v:=by intro _;rfl) (hf:X.fn y=true\/X.env.scope.names.lookup y=some .local:=by first | exact .inl rfl | exact .inr rfl | assumption):
  PS X (.Assign [.Name y py] (.ListComp elt [⟨.Name x px,iter,[cnd],0⟩] scope pos) spos) (lg (pQ wi fr tc te) (c3 i)):=by
 intro pins s σ H D I h
 rw [exec_Assign_Name_used _ _ _ _ hsw]
 refine wpAny_bind (wpAny_standAt (wpAny_bind ?_))
 show wpAny _ X.A (do let _ <- comprehension (.ListComp elt [⟨.Name x px,iter,[cnd],0⟩] scope pos) scope X.env _ (newList []) false (eval iter X.env) (some (assign (.Name y py) X.env))) _ _ s
 refine wpAny_bind (thn (mf (use:=some (assign (.Name y py) X.env)) (Qv:=fun _ s'=>SP X pins D .next s') (Q:=fun v H'=>D.nx (σ.set i (some v)) H') hcalm hi hsc hN ok hT hE I h hs fun p C H' s' m I' hn h0 h1 h2 h3 h4 q=>?_) fun _ s' hq=>wpAny_pure (wpAny_pure hq))
 show wpAny _ X.A (assign (.Name y py) X.env (.ref p)) _ _ s'
 refine wpAny_assign_Name (fh (v:=.ref p) I' hnd hiN hy rfl (fun s'' I'' ⟨a,sb,ha⟩=>?_) hf)
 have hCa:C≠a:=by
  rcases ha with e | e
  ·rw [e];exact h1
  ·exact (h3 y a e).symm
 refine ⟨m,hn.sameBut sb hCa,fun h' sb'=>⟨_,H',I''.turned (t':=s''.toks) (fun b o hb e=>sb'.extBut b o hb e) h0 h1 (.inr h2) h3 h4,q⟩⟩
end
end L2
namespace My
open PySem L2
noncomputable def top (i:Nat):Stmt:=PySem.Challenge.pw_boughworth_k70_priced_or_not.main.body.getD i (.Pass ⟨0,0,0,0⟩)
noncomputable abbrev lu:Stmt:=top 3
noncomputable abbrev je:Stmt:=top 4
noncomputable abbrev lr:Stmt:=top 5
noncomputable abbrev gG:Stmt:=top 7
noncomputable abbrev gH:Stmt:=top 8
noncomputable abbrev gL:Stmt:=top 9
noncomputable abbrev dE:Stmt:=top 10
noncomputable abbrev gJ:Stmt:=top 11
noncomputable abbrev gI:Stmt:=top 12
noncomputable abbrev lB:Stmt:=top 13
noncomputable abbrev cM:Stmt:=top 16
noncomputable abbrev cW:Stmt:=top 17
noncomputable abbrev ji:Stmt:=top 18
noncomputable abbrev fS:Stmt:=top 19
noncomputable abbrev jh:Stmt:=top 20
noncomputable abbrev qv:Stmt:=top 22
noncomputable abbrev qp:Stmt:=top 23
noncomputable abbrev lA:Stmt:=top 24
noncomputable abbrev dF:Stmt:=top 25
noncomputable abbrev jk:Stmt:=top 26
noncomputable abbrev qt:Stmt:=top 27
noncomputable abbrev qq:Stmt:=top 29
noncomputable abbrev gK:Stmt:=top 30
noncomputable abbrev cB:Stmt:=top 31
noncomputable abbrev cJ:Stmt:=top 32
noncomputable abbrev qu:Stmt:=top 33
noncomputable abbrev qr:Stmt:=top 34
noncomputable abbrev dh:Stmt:=top 35
noncomputable abbrev cF:Stmt:=top 36
noncomputable abbrev jf:Stmt:=top 37
noncomputable abbrev lx:Stmt:=top 38
noncomputable abbrev cC:Stmt:=top 39
noncomputable abbrev cP:Stmt:=top 40
noncomputable abbrev jj:Stmt:=top 41
noncomputable abbrev jg:Stmt:=top 42
noncomputable abbrev iH:Stmt:=top 43
structure Gb (mg:Str->Option Value):Prop where
 isi:mg "isinstance"=none
 int:mg "int"=none
 bool:mg "bool"=none
 str:mg "str"=none
 tuple:mg "tuple"=none
 len:mg "len"=none
 all:mg "all"=none
 range:mg "range"=none
 max:mg "max"=none
 min:mg "min"=none
theorem qb {Q:VK} {b b':Bool} {H:Hp} (q:Q (.bl b) H) (e:b=b'):Q (.bl b') H:=e▸q
theorem ae {H:Hp} {p:Addr} (h:H p=none) (o:HO):Same H (upd H p o):=fun b u q=>by rw [ai (ah q h)];exact q
noncomputable def cS (k:Str):Option Nat:=if k∈ops then some 2 else if k="when" then some 3 else none
noncomputable def a9:List V->List V
 | .str k::r=>if (cS k).isSome then r else []
 | _=>[]
noncomputable def iV:List (Key×V):=[(.inr "plus",.int 2),(.inr "less",.int 2),(.inr "times",.int 2),(.inr "least",.int 2),(.inr "most",.int 2),(.inr "when",.int 3)]
theorem uT (k:Str):bu iV (.inr k)=(cS k).map fun (n:Nat)=>V.int n:=by
 unfold cS ops iV
 by_cases h1:k="plus"
 ·subst h1;decide +kernel
 by_cases h2:k="less"
 ·subst h2;decide +kernel
 by_cases h3:k="times"
 ·subst h3;decide +kernel
 by_cases h4:k="least"
 ·subst h4;decide +kernel
 by_cases h5:k="most"
 ·subst h5;decide +kernel
 by_cases h6:k="when"
 ·subst h6;decide +kernel
 have ne: ∀ {y:Str},¬ k=y-> ¬ (Sum.inr y:Key)=Sum.inr k:=fun h e=>h (Sum.inr.inj e).symm
 rw [aX (ne h1),aX (ne h2),aX (ne h3),aX (ne h4),aX (ne h5),aX (ne h6),pM,if_neg,if_neg h6]
 ·rfl
 ·simp only [List.mem_cons,List.not_mem_nil,or_false,not_or]
  exact ⟨h1,h2,h3,h4,h5⟩
theorem bY {α:Type} {x:α} {r:List α}:atI (x::r) 0=some x:=ar (j:=0) rfl
theorem tQ {α:Type} {x y:α} {r:List α}:atI (x::y::r) 1=some y:=ar (j:=1) rfl
theorem u7 {α:Type} {x y z:α} {r:List α}:atI (x::y::z::r) 2=some z:=ar (j:=2) rfl
noncomputable def nh:Sp:=fun vs H Q _=> ∃ a k r,vs=[.ref a]/\H a=some (.tup (.str k::r))/\r.length<=1000/\ ∀ p H',Same H H'->H' p=some (.tup (a9 (.str k::r)))->Q (.ref p) H'
theorem sj:aA ["formula"] ["formula"] (ag lu):=fsc
theorem qY (F:Fun K "inner_of" "inner_of" lu f fd) (mD:mg "INNER_COUNTS"=some (.ref aD)) (D:tX P w K aD iV):FnOk P w K mg base CX0 1 f fd ["formula"] nh:=by
 refine F.ok sj (fun vs H Q E h=>?_) (fun cdv A outer s H vs Q E hr h=>?_)
 ·obtain ⟨a,k,r,rfl,_⟩:=h
  rfl
 obtain ⟨a,k,r,rfl,ha,hl,q⟩:=h
 refine ⟨_,aj (ax (kc (au uK (aq aw (pv 0) af (fun _ _=>rfl)) (jq (v:=.ref aD) rfl mD rfl) (by with_unfolding_all rfl)) (bn jc (pv 0) (bH af) bJ) (aB ac))),?_⟩
 refine ⟨_,rfl,a,_,0,_,rfl,rfl,SqT.of ha,bY,.inr k,aD,iV,rfl,rfl,D,_,rfl,?_⟩
 have hv:=uT k
 cases hk:cS k with
 | none=>
  rw [hk]at hv
  refine dw (fun c=>?_) (fun c=>?_)
  ·rw [hv]at c
   exact absurd c (by decide)
  ·refine ⟨(by show 0<=sizeLine;decide),fun p hp=>?_⟩
   refine q p _ (ae hp _) ?_
   rw [ab]
   show some (HO.tup [])=some (HO.tup (if (cS k).isSome=true then r else []))
   rw [hk]
   rfl
 | some n=>
  rw [hk]at hv
  refine dw (fun c=>?_) (fun c=>?_)
  ·refine ⟨_,rfl,1,rfl,a,_,rfl,SqT.of ha,?_,fun p hp=>?_⟩
   ·rintro ⟨h1,_⟩
    have:HT.sIx (V.str k::r).length 0 (some 1)=min 1 (V.str k::r).length:=HT.sIx_nat _ _ 1
    rw [this,List.length_cons]at h1
    lia
   ·refine q p _ (ae hp _) ?_
    rw [ab]
    have e1:HT.sIx (V.str k::r).length 0 (some 1)=1:=by
     have:HT.sIx (V.str k::r).length 0 (some 1)=min 1 (V.str k::r).length:=HT.sIx_nat _ _ 1
     rw [this,List.length_cons]
     lia
    have e2:dS (V.str k::r) (some 1) none=r:=by
     unfold dS
     rw [e1,HT.sIx_none,List.length_cons,List.drop_one,List.tail_cons,Nat.add_sub_cancel,List.take_length]
    show some (HO.tup (dS (V.str k::r) (some 1) none))=some (HO.tup (if (cS k).isSome=true then r else []))
    rw [hk,e2]
    rfl
  ·rw [hv]at c
   exact absurd rfl c
noncomputable def Kp (tp:Addr) (H H':Hp):Prop:= ∀ b o,H b=some o->b≠tp->H' b=some o
theorem Kp.refl {tp:Addr} {H:Hp}:Kp tp H H:=fun _ _ h _=>h
theorem Kp.trans {tp:Addr} {H H1 H2:Hp} (a:Kp tp H H1) (b:Kp tp H1 H2):Kp tp H H2:=fun c o h n=>b c o (a c o h n) n
theorem Kp.same {tp:Addr} {H H1 H2:Hp} (a:Kp tp H H1) (b:Same H1 H2):Kp tp H H2:=fun c o h n=>b c o (a c o h n)
theorem Kp.tape {tp:Addr} {H:Hp} {o:HO}:Kp tp H (upd H tp o):=fun b u h n=>by rw [ai n];exact h
theorem Kp.new {tp p:Addr} {H H1:Hp} {o:HO} (a:Kp tp H H1) (h:H1 p=none):Kp tp H (upd H1 p o):=a.same (ae h _)
noncomputable def Tp (H:Hp) (tp:Addr):Prop:= ∃ t:Int,H tp=some (.lst [.int t])
theorem Kp.tk {tp:Addr} {H H':Hp} (a:Kp tp H H') (t:Tp H tp):TK H H':=fun b xs h=>a b _ h fun e=>by
 obtain ⟨t,ht⟩:=t
 subst e
 rw [ht]at h
 cases h
theorem Tp.new {H:Hp} {tp p:Addr} {o:HO} (t:Tp H tp) (h:H p=none):Tp (upd H p o) tp:=by
 obtain ⟨t,ht⟩:=t
 exact ⟨t,by rw [ai (ah ht h)];exact ht⟩
noncomputable def pY (K:PySem.W.Frag):Sp:=fun vs H Q _=> ∃ (a:Addr) (ns:List Int) (k:Int),vs=[.ref a,.int k]/\SqL K H a (ns.map V.int)/\ns.length<=63/\0<=k/\ ∀ c:Int,Q (.int c) H
noncomputable def i9 (K:PySem.W.Frag):Sp:=fun vs H Q _=> ∃ (a:Addr) (ns:List Int) (k:Int),vs=[.ref a,.int k]/\SqL K H a (ns.map V.int)/\ns.length<=63/\0<=k/\k<1000/\ ∀ p t,H p=none->Q (.ref p) (upd H p (.lst [.int t]))
noncomputable def aT:Sp:=fun vs H Q _=> ∃ (tp:Addr) (m:Int),vs=[.ref tp,.int m]/\Tp H tp/\0<m/\m<1073741824/\ ∀ d t:Int,0<=d->d<m->Q (.int d) (upd H tp (.lst [.int t]))
noncomputable def gr:Sp:=fun vs H Q _=> ∃ tp,vs=[.ref tp]/\Tp H tp/\ ∀ (n:Int) H',-999999<=n->n<=999999->Kp tp H H'->Tp H' tp->Q (.int n) H'
theorem ux:aA ["script","k"] ["script","k"] (ag qv):=fsc
theorem sU (F:Fun K "_law_cell_at" "_law_cell_at" qv f fd) (G:Gb mg):FnOk P w K mg base CX0 1 f fd ["script","k"] (pY K):=by
 refine F.ok ux (fun vs H Q E h=>?_) (fun cdv A outer s H vs Q E hr h=>?_)
 ·obtain ⟨a,ns,k,rfl,_⟩:=h
  rfl
 obtain ⟨a,ns,k,rfl,hS,hl,hk,q⟩:=h
 refine ⟨_,ad (aV (au iM (pv 1) (aJ aC rfl G.len PySem.boot_len (aa (pv 0) ac)) (aH _)) (aj (ax (aq aO (pv 0) (pv 1) (fun _ _=>rfl)))) aK) (aj (ax af)),?_⟩
 refine ⟨_,rfl,_,rfl,a,_,rfl,.inl hS,_,_,rfl,rfl,_,rfl,?_⟩
 refine dw (fun c=>?_) (fun c=>?_)
 ·have c':k< (((ns.map V.int).length:Nat):Int):=of_decide_eq_true c
  rw [List.length_map]at c'
  have hk':k.toNat<ns.length:=by lia
  have e:atI (ns.map V.int) k=some (V.int ns[k.toNat]):=by
   have ek:k=((k.toNat:Nat):Int):=by lia
   have q:atI (ns.map V.int) ((k.toNat:Nat):Int)=some (V.int ns[k.toNat]):=ar (by rw [List.getElem?_map,List.getElem?_eq_getElem hk'] <;> rfl)
   rw [<- ek]at q
   exact q
  exact ⟨_,rfl,_,rfl,a,_,k,_,rfl,rfl,hS,e,q _⟩
 ·exact q 0
theorem scTape:aA ["script","k","cell","p","one","two","three","four"] ["script","k"] (ag qp):=fsc
theorem sO (F:Fun K "_law_tape" "_law_tape" qp f fd) (GC:FnOk P w K mg base CX0 1 g gd ["script","k"] (pY K)) (bC:Binds K gd ["script","k"] []) (kC:PySem.W.keepIn K (.ref g)=true) (mC:mg "_law_cell_at"=some (.ref g)):
  FnOk P w K mg base CX0 2 f fd ["script","k"] (i9 K):=by
 refine F.ok scTape (fun vs H Q E h=>?_) (fun cdv A outer s H vs Q E hr h=>?_)
 ·obtain ⟨a,ns,k,rfl,_⟩:=h
  rfl
 obtain ⟨a,ns,k,rfl,hS,hl,hk,hk2,q⟩:=h
 refine ⟨_,ad (al (i:=2) scTape.nd rfl (Or.inl rfl) (ak GC hr rfl mC kC bC .nil am (aa (pv 0) (aa (pv 1) ac))))
  (ad (aV (au cp (ay cH (pv 2) af) af (aH _)) (aj (ax (aY (aa (ay nE (pv 2) af) ac)))) aK)
  (ad (al (i:=3) scTape.nd rfl (Or.inl rfl) af)
  (ad (al (i:=4) scTape.nd rfl (Or.inl rfl) (ay cH (ay aZ (ay aZ (ay cR (ay cH (pv 2) (pv 3)) af) (ay cR af (pv 1))) af) (pv 3)))
  (ad (al (i:=5) scTape.nd rfl (Or.inl rfl) (ay cH (ay aZ (ay aZ (ay cR (pv 4) (pv 4)) (ay cR af (pv 1))) (pv 4)) (pv 3)))
  (ad (al (i:=6) scTape.nd rfl (Or.inl rfl) (ay cH (ay aZ (ay cR (pv 5) (pv 5)) (pv 4)) (pv 3)))
  (ad (al (i:=7) scTape.nd rfl (Or.inl rfl) (ay cH (ay aZ (ay cR (pv 6) (pv 6)) (pv 5)) (pv 3)))
  (aj (ax (aY (aa (ay aZ (ay cR (ay aZ (ay cR (ay aZ (ay cR (pv 4) (pv 3)) (pv 5)) (pv 3)) (pv 6)) (pv 3)) (pv 7)) ac)))))))))),?_⟩
 refine ⟨_,rfl,_,rfl,a,ns,k,rfl,hS,hl,hk,fun c=>?_⟩
 refine ⟨_,rfl,_,_,rfl,rfl,(by show (0:Int) <2;decide),rfl,_,rfl,?_⟩
 refine dw (fun _=>?_) (fun _=>?_)
 ·exact ⟨_,rfl,_,_,rfl,rfl,⟨by decide,by decide⟩,(by show 1<=sizeLine;decide),fun p hp=>q p _ hp⟩
 have hp0:(0:Int) <2305843009213693951:=by decide
 have mm: ∀ x:Int,-(2^64) <x%2305843009213693951/\x%2305843009213693951<2^64:=fun x=>by
  have h1:=Int.emod_nonneg x (show (2305843009213693951:Int)≠0 by decide)
  have h2:=Int.emod_lt_of_pos x hp0
  lia
 have hkk: -(2^64) <k/\k<2^64:=by lia
 have hpp:(-(2^64):Int) <2305843009213693951/\(2305843009213693951:Int) <2^64:=by decide
 refine ⟨_,rfl,_,rfl,_,_,rfl,rfl,hp0,_,_,rfl,rfl,.inl (mm _),_,rfl,_,_,rfl,rfl,.inr hkk,_,_,rfl,rfl,_,_,rfl,rfl,_,rfl,_,_,rfl,rfl,hp0,?_⟩
 refine ⟨_,rfl,_,rfl,_,_,rfl,rfl,.inl (mm _),_,rfl,_,_,rfl,rfl,.inr hkk,_,_,rfl,rfl,_,rfl,_,_,rfl,rfl,_,rfl,_,_,rfl,rfl,hp0,?_⟩
 refine ⟨_,rfl,_,rfl,_,_,rfl,rfl,.inl (mm _),_,rfl,_,_,rfl,rfl,_,rfl,_,_,rfl,rfl,hp0,?_⟩
 refine ⟨_,rfl,_,rfl,_,_,rfl,rfl,.inl (mm _),_,rfl,_,_,rfl,rfl,_,rfl,_,_,rfl,rfl,hp0,?_⟩
 refine ⟨_,rfl,_,rfl,_,_,rfl,rfl,.inr hpp,_,rfl,_,_,rfl,rfl,_,rfl,_,_,rfl,rfl,.inr hpp,_,rfl,_,_,rfl,rfl,_,rfl,_,_,rfl,rfl,.inr hpp,_,rfl,_,_,rfl,rfl,(by show 1<=sizeLine;decide),fun p hp=>q p _ hp⟩
theorem scDigit:aA ["tape","many","found"] ["tape","many"] (ag lA):=fsc
theorem qZ (F:Fun K "_law_digit" "_law_digit" lA f fd):FnOk P w K mg base CX0 1 f fd ["tape","many"] aT:=by
 refine F.ok scDigit (fun vs H Q E h=>?_) (fun cdv A outer s H vs Q E hr h=>?_)
 ·obtain ⟨tp,m,rfl,_⟩:=h
  rfl
 obtain ⟨tp,m,rfl,⟨t,ht⟩,hm,hm2,q⟩:=h
 refine ⟨_,ad (al (i:=2) scDigit.nd rfl (Or.inl rfl) (ay cH (aq aO (pv 0) af (fun _ _=>rfl)) (pv 1)))
  (ad (dZ (ay nE (aq aO (pv 0) af (fun _ _=>rfl)) (pv 1)) (qJ (pv 0) af jY))
  (aj (ax (pv 2)))),?_⟩
 refine ⟨_,rfl,tp,_,0,_,rfl,rfl,SqL.of ht,bY,_,rfl,_,_,rfl,rfl,hm,?_⟩
 refine ⟨_,rfl,tp,_,0,_,rfl,rfl,SqL.of ht,bY,_,rfl,_,_,rfl,rfl,⟨hm,hm2⟩,?_⟩
 refine ⟨_,rfl,tp,_,0,0,rfl,rfl,ht,rfl,?_⟩
 exact ⟨_,rfl,q (t%m) (t/m) (Int.emod_nonneg _ (by lia)) (Int.emod_lt_of_pos _ hm)⟩
theorem scNumber:aA ["tape","way"] ["tape"] (ag jk):=fsc
theorem oI (F:Fun K "_law_number" "_law_number" jk f fd) (GD:FnOk P w K mg base CX0 1 g gd ["tape","many"] aT) (bD:Binds K gd ["tape","many"] []) (kD:PySem.W.keepIn K (.ref g)=true) (mD:mg "_law_digit"=some (.ref g)):
  FnOk P w K mg base CX0 2 f fd ["tape"] gr:=by
 refine F.ok scNumber (fun vs H Q E h=>?_) (fun cdv A outer s H vs Q E hr h=>?_)
 ·obtain ⟨tp,rfl,_⟩:=h
  rfl
 obtain ⟨tp,rfl,hT,q⟩:=h
 refine ⟨_,ad (al (i:=1) scNumber.nd rfl (Or.inl rfl) (ak GD hr rfl mD kD bD .nil am (aa (pv 0) (aa af ac))))
  (ad (aV (au iM (pv 1) af (aH _)) (aj (ax (pv 1))) aK)
  (aj (ax (aq aO (aY (aa (fG dB af) (aa (ay dn (ak GD hr rfl mD kD bD .nil am (aa (pv 0) (aa af ac))) af)
   (aa (ay dn (ak GD hr rfl mD kD bD .nil am (aa (pv 0) (aa af ac))) af) ac)))) (ay dn (pv 1) af) (fun _ _=>rfl))))),?_⟩
 refine ⟨_,rfl,tp,6,rfl,hT,by decide,by decide,fun d t h0 h1=>?_⟩
 refine ⟨_,rfl,_,_,rfl,rfl,_,rfl,?_⟩
 refine dw (fun c=>?_) (fun c=>?_)
 ·exact ⟨_,rfl,q d _ (by lia) (by lia) Kp.tape ⟨t,ab⟩⟩
 have c':3<=d:=by
  rcases Int.lt_or_le d 3 with z | z
  ·exact absurd (decide_eq_true z) c
  ·exact z
 refine ⟨_,rfl,_,rfl,tp,1001,rfl,⟨t,ab⟩,by decide,by decide,fun d2 t2 h20 h21=>?_⟩
 refine ⟨_,_,rfl,rfl,_,rfl,tp,1999999,rfl,⟨t2,ab⟩,by decide,by decide,fun d3 t3 h30 h31=>?_⟩
 refine ⟨_,_,rfl,rfl,(by show 3<=sizeLine;decide),fun p hp=>?_⟩
 rw [de,de]at hp ⊢
 have hd:d=3\/d=4\/d=5:=by lia
 have fin: ∀ n:Int,-999999<=n->n<=999999->Q (.int n) (upd (upd H tp (.lst [.int t3])) p (.lst [.int (-1),.int (d2-500),.int (d3-999999)])):=fun n h1 h2=>
  q n _ h1 h2 (Kp.tape.new hp) (Tp.new ⟨t3,ab⟩ hp)
 rcases hd with rfl | rfl | rfl
 ·exact ⟨_,rfl,_,_,rfl,rfl,p,_,0,_,rfl,rfl,SqL.of ab,bY,fin _ (by lia) (by lia)⟩
 ·exact ⟨_,rfl,_,_,rfl,rfl,p,_,1,_,rfl,rfl,SqL.of ab,tQ,fin _ (by lia) (by lia)⟩
 ·exact ⟨_,rfl,_,_,rfl,rfl,p,_,2,_,rfl,rfl,SqL.of ab,u7,fin _ (by lia) (by lia)⟩
theorem iK {k:Str} (h:k∈ops):k.length<=1000:=by
 unfold ops at h
 simp only [List.mem_cons,List.not_mem_nil,or_false]at h
 rcases h with rfl | rfl | rfl | rfl | rfl <;> decide +kernel
theorem gh {x:Str} (h:cA x=true):x.length<=1000:=by
 unfold cA at h
 simp only [Bool.and_eq_true,decide_eq_true_eq]at h
 lia
theorem iS {op:Str} (h:op∈ops):cS op=some 2:=by unfold cS;rw [if_pos h]
theorem hG:cS "when"=some 3:=by decide +kernel
theorem iT:cS "num"=none:=by decide +kernel
theorem fB:cS "own"=none:=by decide +kernel
theorem et:cS "part"=none:=by decide +kernel
theorem cU {α:Type} {xs:List α} {d:Int} (h0:0<=d) (h1:d<xs.length): ∃ x,atI xs d=some x/\xs[d.toNat]? =some x:=by
 have hk:d.toNat<xs.length:=by lia
 have ek:d=((d.toNat:Nat):Int):=by lia
 have q:atI xs ((d.toNat:Nat):Int)=some xs[d.toNat]:=ar (List.getElem?_eq_getElem hk)
 rw [<- ek]at q
 exact ⟨_,q,List.getElem?_eq_getElem hk⟩
theorem iG (z:Str) {j:Int} (h0:0<=j) (h1:j<=z.length):((Txt.slice z none (some j)).length:Int)=j:=by
 rcases PyProof.Rows.slice_ns_cases z j h0 with ⟨_,h⟩ | ⟨h,_⟩
 ·exact h
 ·lia
noncomputable def letters:Str:="abcdefghijklmnopqrstuvwxyz"
theorem kl:letters.cps.toList.all tm=true:=by decide +kernel
theorem fL:letters.length=26:=by decide +kernel
theorem oY {d:Int} (h0:0<=d) (h1:d<26): ∃ c,atI letters.cps.toList d=some c/\tm c=true:=by
 have hl:letters.cps.toList.length=26:=by decide +kernel
 obtain ⟨c,e,e2⟩:=cU (xs:=letters.cps.toList) h0 (by rw [hl];lia)
 exact ⟨c,e,List.all_eq_true.mp kl c (List.mem_of_getElem? e2)⟩
theorem tR (x y:Str):(x++y).length=x.length+y.length:=by
 show (x.cps++y.cps).size=_
 rw [Array.size_append]
 rfl
noncomputable def names13:List Str:=["own","up","down","min","max","of","top","form","sort","wheel","book","tree","ok"]
theorem aneq:(Txt.slice "aneqoubi" none (some 7)).length=7/\(Txt.slice "aneqoubi" none (some 7)).cps.toList.all tm=true:=by decide +kernel
theorem nO:("eyzmopq":Str).length=7:=by decide +kernel
theorem Tp.same {H H':Hp} {tp:Addr} (t:Tp H tp) (s:Same H H'):Tp H' tp:=by
 obtain ⟨t0,e⟩:=t
 exact ⟨t0,s _ _ e⟩
noncomputable def km (d:Int):Nat:=(atI letters.cps.toList d).getD 0
noncomputable def df (tu:Int):Str:=(⟨#[km tu]⟩:Str)++Txt.slice "aneqoubi" none (some 7)
noncomputable def nm0 (tu:Int) (i:Nat):Str:=if (0+ (i:Int)) <8 then Txt.slice (df tu) none (some (0+ (i:Int) +1))else (⟨#[km ((tu+1) %26)]⟩:Str)++Txt.slice (df tu) none (some (0+ (i:Int) -8))
noncomputable def nm1 (tu:Int) (i:Nat):Str:=((names13)[((tu+ (0+ (i:Int))) %13).toNat]?).getD ""
noncomputable def nm2 (tu:Int) (i:Nat):Str:=(⟨#[km ((tu+ (0+ (i:Int))) %26)]⟩:Str)++Txt.slice "eyzmopq" none (some ((tu+3* (0+ (i:Int))) %8))
noncomputable def ir (way:Nat) (tu:Int) (i:Nat):Str:=if way=0 then nm0 tu i else if way=1 then nm1 tu i else nm2 tu i
noncomputable def NamesAre (m:Nat) (ws:List Str):Prop:= ∃ (way tu:Nat) (back:Bool),way<3/\tu<26/\ws=(if back=true then ((List.range m).map (ir way tu)).reverse else (List.range m).map (ir way tu))
noncomputable def gu:Sp:=fun vs H Q _=> ∃ tp m,vs=[.ref tp,.int m]/\Tp H tp/\0<=m/\m<=13/\
 ∀ l (ws:List Str) H',H' l=some (.lst (ws.map V.str))->(ws.length:Int)=m->NamesAre m.toNat ws->l≠tp->Kp tp H H'->Tp H' tp->Q (.ref l) H'
theorem js {d:Int} (h0:0<=d) (h1:d<26):atI letters.cps.toList d=some (km d):=by
 obtain ⟨c,e,_⟩:=oY h0 h1
 unfold km
 rw [e]
 rfl
theorem pU (tu:Int):(df tu).length=8:=by unfold df;rw [tR,aneq.1];rfl
theorem scNamesX:aA ["tape","many","letters","way","turn","back","stem","names","words"] ["tape","many"] (ag dF):=fsc
theorem oJ (F:Fun K "_law_names" "_law_names" dF f fd) (G:Gb mg) (GD:FnOk P w K mg base CX0 1 g gd ["tape","many"] aT) (bD:Binds K gd ["tape","many"] []) (kD:PySem.W.keepIn K (.ref g)=true) (mD:mg "_law_digit"=some (.ref g)):
  FnOk P w K mg base CX0 2 f fd ["tape","many"] gu:=by
 refine F.ok scNamesX (fun vs H Q E h=>?_) (fun cdv A outer s H vs Q E hr h=>?_)
 ·obtain ⟨tp,m,rfl,_⟩:=h
  rfl
 obtain ⟨tp,m,rfl,hT,hm0,hm1,q⟩:=h
 obtain ⟨t,ht,hread⟩: ∃ t,PSs (bZ CX0 P w K mg base ["tape","many","letters","way","turn","back","stem","names","words"] "_law_names" (ag dF) f cdv A outer s H E).nox ((bx dF).drop 5) t/\
   ∀ (b:Int) (l:Addr) (way tu:Nat) (H2:Hp) (o2 o3 o4 o6 o8:Option V),(b=1\/b= -1)->way<3->tu<26->H2 l=some (.lst (((List.range m.toNat).map (ir way tu)).map V.str))->Kp tp H H2->Tp H2 tp->
    t {nx:=fun _ H'=>Q .non H',rt:=Q} [some (.ref tp),some (.int m),o2,o3,o4,some (.int b),o6,some (.ref l),o8] H2:=by
  refine ⟨_,aj (ax (nC (pv 7) (pv 5))),fun b l way tu H2 o2 o3 o4 o6 o8 hb hw1 hw2 hl k2 t2=>?_⟩
  have hlen:(((List.range m.toNat).map (ir way tu)).length:Int)=m:=by rw [List.length_map,List.length_range];lia
  refine ⟨_,rfl,_,rfl,l,_,b,rfl,rfl,SqL.of hl,by lia,fun p hp=>?_⟩
  have hpt:p≠tp:=fun e=>by
   obtain ⟨t0,e0⟩:=t2
   subst e
   rw [e0]at hp
   cases hp
  rcases hb with rfl | rfl
  ·rw [oh]
   exact q p _ _ ab hlen ⟨way,tu,false,hw1,hw2,rfl⟩ hpt (k2.new hp) (t2.new hp)
  ·rw [iD,<- List.map_reverse]
   exact q p _ _ ab (by rw [List.length_reverse];exact hlen) ⟨way,tu,true,hw1,hw2,rfl⟩ hpt (k2.new hp) (t2.new hp)
 have cw: ∀ {te:TE} {fr:List Nat} {σ:St} {H2:Hp} {Q2:VK} (g:Nat->Str),(∀ (i:Nat) (H3:Hp) (k:VK),(i:Int) <m->k (.str (g i)) H3->te (some (.int (0+i))::bp fr σ) H3 k)->
   (∀ p,H2 p=none->Q2 (.ref p) (upd H2 p (.lst (((List.range m.toNat).map g).map V.str))))->fg fr te σ (Itr 0 m.toNat) H2 Q2:=by
  intro te fr σ H2 Q2 g hs hd
  refine dR (n:=m.toNat) (R:=fun i v=>v=.int (0+i)) (by lia) ju eS fY
   (fun p i zs H'=>H'=upd H2 p (.lst zs)/\zs=((List.range i).map g).map V.str) (fun p hp=>⟨rfl,rfl⟩) ?_ ?_ ?_
  ·rintro p i zs H' ⟨rfl,rfl⟩
   exact ⟨ab,by rw [List.length_map,List.length_map,List.length_range]⟩
  ·rintro p i zs H' v k hp hi rfl ⟨rfl,rfl⟩ hk
   exact hs i _ k (by lia) (hk (.str (g i)) _ ab ⟨de,by rw [List.range_succ];simp⟩)
  ·rintro p zs H' hp ⟨rfl,rfl⟩
   exact hd p hp
 refine ⟨_,ad (al (i:=2) scNamesX.nd rfl (Or.inr rfl) aE)
  (ad (al (i:=3) scNamesX.nd rfl (Or.inl rfl) (ak GD hr rfl mD kD bD .nil am (aa (pv 0) (aa af ac))))
  (ad (al (i:=4) scNamesX.nd rfl (Or.inr rfl) (ak GD hr rfl mD kD bD .nil am (aa (pv 0) (aa af ac))))
  (ad (al (i:=5) scNamesX.nd rfl (Or.inl rfl) (ay dn af (ay cR af (ak GD hr rfl mD kD bD .nil am (aa (pv 0) (aa af ac))))))
  (ad (aV (au cp (pv 3) af (aH _))
   (ad (al (i:=6) scNamesX.nd rfl (Or.inr rfl) (ay ee (aq lW (pv 2) (pv 4) (fun _ _=>rfl)) (bn jd aE bJ (bH af))))
   (aj (fV (i:=7) (sc0:=ag dF) (N0:=["tape","many","letters","way","turn","back","stem","names","words"]) (ys:=["letters","stem","turn"]) (fr:=[2,6,4]) rfl scNamesX.nd rfl (Or.inl rfl) (bj rfl G.range (aa (pv 1) ac)) rfl rfl
    cok
    (fun C s H ex=>kc (au iM (pv 0) af (aH _)) (bn jd (pv 2) bJ (bH (ay aZ (pv 0) af)))
     (ay ee (aq lW (pv 1) (ay cH (ay aZ (pv 3) af) af) (fun _ _=>rfl)) (bn jd (pv 2) bJ (bH (ay dn (pv 0) af))))))))
   (aj (aV (au cp (pv 3) af (aH _))
    (@ad _ _ _ _ _ (@sD _ 8 _ _ (names13.map V.str) _ _ _ scNamesX.nd rfl (Or.inr rfl) (Or.inl rfl) rfl)
    (aj (fV (i:=7) (sc0:=ag dF) (N0:=["tape","many","letters","way","turn","back","stem","names","words"]) (ys:=["turn","words"]) (fr:=[4,8]) rfl scNamesX.nd rfl (Or.inl rfl) (bj rfl G.range (aa (pv 1) ac)) rfl rfl
     cok
     (fun C s H ex=>aq (r:=uC K) aO (pv 2) (ay cH (ay aZ (pv 1) (pv 0)) af) (fun _ _=>rfl)))))
    (aj (fV (i:=7) (sc0:=ag dF) (N0:=["tape","many","letters","way","turn","back","stem","names","words"]) (ys:=["letters","turn"]) (fr:=[2,4]) rfl scNamesX.nd rfl (Or.inl rfl) (bj rfl G.range (aa (pv 1) ac)) rfl rfl
     cok
     (fun C s H ex=>ay ee (aq lW (pv 1) (ay cH (ay aZ (pv 2) (pv 0)) af) (fun _ _=>rfl)) (bn jd aE bJ (bH (ay cH (ay aZ (pv 2) (ay cR af (pv 0))) af)))))))))
  ht)))),?_⟩
 refine ⟨_,rfl,tp,3,rfl,hT,by decide,by decide,fun wy t1 hw0 hw1=>?_⟩
 refine ⟨_,rfl,tp,26,rfl,⟨t1,ab⟩,by decide,by decide,fun tu t2 htu0 htu1=>?_⟩
 rw [de]
 refine ⟨_,rfl,tp,2,rfl,⟨t2,ab⟩,by decide,by decide,fun bk t3 hb0 hb1=>?_⟩
 rw [de]
 refine ⟨2,_,rfl,rfl,.inl ⟨by decide,by decide⟩,1,_,rfl,rfl,?_⟩
 have hb:(1-2*bk=1\/1-2*bk= -1):=by lia
 have k3:Kp tp H (upd H tp (.lst [.int t3])):=Kp.tape
 have tt3:Tp (upd H tp (.lst [.int t3])) tp:=⟨t3,ab⟩
 generalize upd H tp (.lst [.int t3])=H3 at k3 tt3 ⊢
 have l26:(letters.length:Int)=26:=by rw [fL];rfl
 have lsz:letters.length<=sizeLine:=by rw [fL];exact Nat.le_of_lt (ao (by decide))
 refine ⟨_,rfl,rfl,_,rfl,?_⟩
 refine dw (fun c=>?_) (fun c=>?_)
 ·-- stems
  have hwy:wy=0:=V.int.inj (of_decide_eq_true c)
  have ec0:=js htu0 htu1
  refine ⟨_,rfl,_,rfl,letters,tu,km tu,rfl,rfl,lsz,ec0,7,rfl,"aneqoubi",rfl,(by decide +kernel),_,_,rfl,rfl,?_,?_⟩
  ·rw [aneq.1]
   show 1+7<=sizeLine
   exact Nat.le_of_lt (ao (by decide))
  have zl:=pU tu
  have zsz:(df tu).length<=sizeLine:=by rw [zl];exact Nat.le_of_lt (ao (by decide))
  refine ⟨_,rfl,m,rfl,by lia,by lia,?_⟩
  refine cw (nm0 tu) ?_ ?_
  ·intro i H4 k hi hk
   refine ⟨_,rfl,_,_,rfl,rfl,_,rfl,?_⟩
   refine dw (fun ci=>?_) (fun ci=>?_)
   ·have ci':(0+ (i:Int)) <8:=of_decide_eq_true ci
    refine ⟨_,rfl,_,rfl,_,_,rfl,rfl,_,rfl,df tu,rfl,zsz,?_⟩
    unfold nm0 at hk
    rw [if_pos ci']at hk
    exact hk
   ·have ci': ¬ (0+ (i:Int)) <8:=fun y=>ci (decide_eq_true y)
    have ec1:=js (d:=(tu+1) %26) (Int.emod_nonneg _ (by decide)) (Int.emod_lt_of_pos _ (by decide))
    have e:=iG (df tu) (j:=0+ (i:Int) -8) (by lia) (by rw [zl];lia)
    unfold nm0 at hk
    rw [if_neg ci']at hk
    refine ⟨_,rfl,_,rfl,_,_,rfl,rfl,_,_,rfl,rfl,(by show (0:Int) <26;decide),letters,_,km ((tu+1) %26),rfl,rfl,lsz,ec1,_,rfl,_,rfl,_,_,rfl,rfl,_,rfl,df tu,rfl,zsz,_,_,rfl,rfl,?_,hk⟩
    show 1+ (Txt.slice (df tu) none (some (0+ (i:Int) -8))).length<=sizeLine
    exact Nat.le_of_lt (ao (by lia))
  ·intro p hp
   have etu:((tu.toNat:Nat):Int)=tu:=by lia
   refine hread (1-2*bk) p 0 tu.toNat _ _ _ _ _ _ hb (by decide) (by lia) ?_ (k3.new hp) (tt3.new hp)
   rw [etu]
   exact ab
 ·refine ⟨_,rfl,rfl,_,rfl,?_⟩
  refine dw (fun c2=>?_) (fun c2=>?_)
  ·-- written words
   refine ⟨(by show 13<=sizeLine;decide),fun pw hpw=>?_⟩
   refine ⟨_,rfl,m,rfl,by lia,by lia,?_⟩
   have s4:Same H3 (upd H3 pw (.lst (names13.map V.str))):=ae hpw _
   have g4:(upd H3 pw (.lst (names13.map V.str))) pw=some (.lst (names13.map V.str)):=ab
   have k4:Kp tp H (upd H3 pw (.lst (names13.map V.str))):=k3.same s4
   have tt4:Tp (upd H3 pw (.lst (names13.map V.str))) tp:=tt3.new hpw
   generalize upd H3 pw (.lst (names13.map V.str))=H4 at s4 g4 k4 tt4 ⊢
   refine dR (n:=m.toNat) (R:=fun i v=>v=.int (0+i)) (by lia) ju eS fY
    (fun p i zs H'=>H'=upd H4 p (.lst zs)/\H4 p=none/\zs=((List.range i).map (nm1 tu)).map V.str) (fun p hp=>⟨rfl,hp,rfl⟩) ?_ ?_ ?_
   ·rintro p i zs H' ⟨rfl,_,rfl⟩
    exact ⟨ab,by rw [List.length_map,List.length_map,List.length_range]⟩
   ·rintro p i zs H' v k hp hi rfl ⟨rfl,hp4,rfl⟩ hk
    have h1:=Int.emod_nonneg (tu+ (0+ (i:Int))) (show (13:Int)≠0 by decide)
    have h2:=Int.emod_lt_of_pos (tu+ (0+ (i:Int))) (show (0:Int) <13 by decide)
    obtain ⟨xv,ex,ex2⟩:=cU (xs:=names13.map V.str) h1 (by rw [List.length_map];exact h2)
    have exv:xv=.str (nm1 tu i):=by
     rw [List.getElem?_map]at ex2
     unfold nm1
     cases hx:names13[((tu+ (0+ (i:Int))) %13).toNat]? with
     | none=>rw [hx]at ex2;cases ex2
     | some y=>rw [hx]at ex2;exact (Option.some.inj ex2).symm
    subst exv
    have g5:(upd H4 p (.lst (((List.range i).map (nm1 tu)).map V.str))) pw=some (.lst (names13.map V.str)):=by rw [ai (ah g4 hp4)];exact g4
    refine ⟨_,rfl,_,rfl,_,rfl,_,_,rfl,rfl,_,_,rfl,rfl,(by show (0:Int) <13;decide),pw,_,_,_,rfl,rfl,SqL.of g5,ex,?_⟩
    exact hk _ _ ab ⟨de,hp4,by rw [List.range_succ];simp⟩
   ·rintro p zs H' hp ⟨rfl,hp4,rfl⟩
    have etu:((tu.toNat:Nat):Int)=tu:=by lia
    refine hread (1-2*bk) p 1 tu.toNat _ _ _ _ _ _ hb (by decide) (by lia) ?_ (k4.new hp4) (tt4.new hp4)
    rw [etu]
    exact ab
  ·-- a letter and a tail
   refine ⟨_,rfl,m,rfl,by lia,by lia,?_⟩
   refine cw (nm2 tu) ?_ ?_
   ·intro i H4 k hi hk
    have ec1:=js (d:=(tu+ (0+ (i:Int))) %26) (Int.emod_nonneg _ (by decide)) (Int.emod_lt_of_pos _ (by decide))
    have h1:=Int.emod_nonneg (tu+3* (0+ (i:Int))) (show (8:Int)≠0 by decide)
    have h2:=Int.emod_lt_of_pos (tu+3* (0+ (i:Int))) (show (0:Int) <8 by decide)
    have e:=iG "eyzmopq" (j:=(tu+3* (0+ (i:Int))) %8) h1 (by rw [nO];lia)
    refine ⟨_,rfl,_,rfl,_,rfl,_,_,rfl,rfl,_,_,rfl,rfl,(by show (0:Int) <26;decide),letters,_,km ((tu+ (0+ (i:Int))) %26),rfl,rfl,lsz,ec1,_,rfl,_,rfl,3,_,rfl,rfl,.inl ⟨by decide,by decide⟩,_,_,rfl,rfl,_,_,rfl,rfl,(by show (0:Int) <8;decide),_,rfl,"eyzmopq",rfl,(by rw [nO];exact Nat.le_of_lt (ao (by decide))),_,_,rfl,rfl,?_,hk⟩
    ·show 1+ (Txt.slice "eyzmopq" none (some ((tu+3* (0+ (i:Int))) %8))).length<=sizeLine
     exact Nat.le_of_lt (ao (by lia))
   ·intro p hp
    have etu:((tu.toNat:Nat):Int)=tu:=by lia
    refine hread (1-2*bk) p 2 tu.toNat _ _ _ _ _ _ hb (by decide) (by lia) ?_ (k3.new hp) (tt3.new hp)
    rw [etu]
    exact ab
theorem hU (xs:List V) {j:Int} (h0:0<=j) (h1:j<=xs.length):dS xs none (some j)=xs.take j.toNat:=by
 have ej:j=((j.toNat:Nat):Int):=by lia
 have e:HT.sIx xs.length xs.length (some j)=j.toNat:=by
  rw [ej,HT.sIx_nat]
  lia
 unfold dS
 rw [e,HT.sIx_none,List.drop_zero,Nat.sub_zero]
theorem kH (xs:List V) {j:Int} (h0:0<=j) (h1:j<=xs.length):dS xs (some j) none=xs.drop j.toNat:=by
 have ej:j=((j.toNat:Nat):Int):=by lia
 have e:HT.sIx xs.length 0 (some j)=j.toNat:=by
  rw [ej,HT.sIx_nat]
  lia
 unfold dS
 rw [e,HT.sIx_none]
 apply List.take_of_length_le
 rw [List.length_drop]
 lia
noncomputable def Fm.wfp (ρ:Fm->Prop):Fm->Prop
 | .num n=> -999999<=n/\n<=999999
 | .own x=>cA x=true/\ρ (.own x)
 | .part k x=>((0<=k/\k<=2)/\cA x=true)/\ρ (.part k x)
 | .bin op a b=>op∈ops/\a.wfp ρ/\b.wfp ρ
 | .whn a b c=>a.wfp ρ/\b.wfp ρ/\c.wfp ρ
theorem Fm.wfp.wf {ρ:Fm->Prop}: ∀ {f:Fm},f.wfp ρ->f.wf
 | .num _,h=>h
 | .own _,h=>h.1
 | .part _ _,h=>h.1
 | .bin _ _ _,h=>⟨h.1,Fm.wfp.wf h.2.1,Fm.wfp.wf h.2.2⟩
 | .whn _ _ _,h=>⟨Fm.wfp.wf h.1,Fm.wfp.wf h.2.1,Fm.wfp.wf h.2.2⟩
noncomputable def we (ρ:Fm->Prop) (H:Hp) (rs:List V):Prop:= ∀ v∈rs,∃ f,Rep H f v/\f.wfp ρ/\f.size=1
noncomputable def mZ (ρ:Fm->Prop):Sp:=fun vs H Q _=> ∃ tp rl rs,vs=[.ref tp,.ref rl]/\Tp H tp/\rl≠tp/\H rl=some (.lst rs)/\rs.length<=1000/\we ρ H rs/\
 ∀ v f H',Rep H' f v->f.wfp ρ->f.size=1->Kp tp H H'->Tp H' tp->Q v H'
theorem sh:aA ["tape","readings"] ["tape","readings"] (ag qt):=fsc
theorem qX {ρ:Fm->Prop} (F:Fun K "_law_leaf" "_law_leaf" qt f fd) (G:Gb mg) (GD:FnOk P w K mg base CX0 1 g gd ["tape","many"] aT) (bD:Binds K gd ["tape","many"] []) (kD:PySem.W.keepIn K (.ref g)=true) (mD:mg "_law_digit"=some (.ref g))
  (GN:FnOk P w K mg base CX0 2 f2 fd2 ["tape"] gr) (bN:Binds K fd2 ["tape"] []) (kN:PySem.W.keepIn K (.ref f2)=true) (mN:mg "_law_number"=some (.ref f2)):
  FnOk P w K mg base CX0 3 f fd ["tape","readings"] (mZ ρ):=by
 refine F.ok sh (fun vs H Q E h=>?_) (fun cdv A outer s H vs Q E hr h=>?_)
 ·obtain ⟨tp,rl,rs,rfl,_⟩:=h
  rfl
 obtain ⟨tp,rl,rs,rfl,hT,hne,hrl,hlen,hL,q⟩:=h
 have hr1:=hr.mono (show 1<=2 by decide)
 refine ⟨_,ad (aV (PW.pt (lG (au qQ (aJ aC rfl G.len PySem.boot_len (aa (pv 1) ac)) af (aH _))
   (jm (au iM (ak GD hr1 rfl mD kD bD .nil am (aa (pv 0) (aa af ac))) af (aH _)))))
   (aj (ax (aq aO (pv 1) (ak GD hr1 rfl mD kD bD .nil am (aa (pv 0) (aa (aJ aC rfl G.len PySem.boot_len (aa (pv 1) ac)) ac))) (fun _ _=>rfl)))) aK)
  (aj (ax (aB (aa aE (aa (ak GN hr rfl mN kN bN .nil am (aa (pv 0) ac)) ac))))),?_⟩
 have num: ∀ H1,Kp tp H H1->Tp H1 tp->(∃ v,([some (V.ref tp),some (.ref rl)]:St)[0]? =some (some v)/\gr [v] H1 (fun x H2=>[V.str "num",x].length<=sizeLine/\ ∀ p,H2 p=none->Q (.ref p) (upd H2 p (.tup [V.str "num",x]))) E0):=fun H1 k1 t1=>by
  refine ⟨_,rfl,tp,rfl,t1,fun n H2 h1 h2 k2 t2=>⟨(by show 2<=sizeLine;decide),fun p hp=>?_⟩⟩
  exact q _ (.num n) _ ⟨p,rfl,ab⟩ ⟨h1,h2⟩ rfl ((k1.trans k2).new hp) (t2.new hp)
 refine ⟨_,rfl,rl,rs,rfl,.inl (SqL.of hrl),_,_,rfl,rfl,_,rfl,?_⟩
 refine dw (fun c=>?_) (fun c=>?_)
 ·have c':0<rs.length:=by have:=of_decide_eq_true c;lia
  refine ⟨_,rfl,tp,4,rfl,hT,by decide,by decide,fun d t h0 h1=>?_⟩
  refine ⟨_,_,rfl,rfl,_,rfl,?_⟩
  refine dw (fun c2=>?_) (fun c2=>?_)
  ·have h2:(upd H tp (.lst [.int t])) rl=some (.lst rs):=by rw [ai hne];exact hrl
   refine ⟨_,rfl,_,rfl,_,rfl,rl,rs,rfl,.inl (SqL.of h2),tp,_,rfl,⟨t,ab⟩,by lia,by lia,fun d2 t2 h20 h21=>?_⟩
   rw [de]
   have h3:(upd H tp (.lst [.int t2])) rl=some (.lst rs):=by rw [ai hne];exact hrl
   obtain ⟨x,ex,ex2⟩:=cU (xs:=rs) h20 h21
   obtain ⟨fm,r,wf,sz⟩:=hL x (List.mem_of_getElem? ex2)
   have k2:Kp tp H (upd H tp (.lst [.int t2])):=Kp.tape
   exact ⟨rl,rs,d2,x,rfl,rfl,SqL.of h3,ex,q x fm _ (r.mono (k2.tk hT)) wf sz k2 ⟨t2,ab⟩⟩
  ·exact num _ Kp.tape ⟨t,ab⟩
 ·exact num _ Kp.refl hT
noncomputable def ndB:List Str->Bool
 | []=>true
 | x::r=> !(r.any fun y=>x.cps.toList==y.cps.toList)&&ndB r
theorem re: ∀ {l:List Str},ndB l=true->l.Nodup
 | [],_=>List.nodup_nil
 | x::r,h=>by
  unfold ndB at h
  rw [Bool.and_eq_true]at h
  refine List.nodup_cons.mpr ⟨fun m=>?_,re h.2⟩
  have h1:=h.1
  rw [Bool.not_eq_true',List.any_eq_false]at h1
  exact h1 x m (by simp)
theorem oV:((List.range 3).all fun way=>(List.range 26).all fun tu=>ndB ((List.range 13).map (ir way tu))&&((List.range 13).map (ir way tu)).all cA)=true:=by
 decide +kernel
theorem NamesAre.ok {m:Nat} {ws:List Str} (h:NamesAre m ws) (hm:m<=13):ws.length=m/\ws.Nodup/\ ∀ x∈ws,cA x=true:=by
 obtain ⟨way,tu,back,h1,h2,e⟩:=h
 have a:=oV
 rw [List.all_eq_true]at a
 have a:=a way (List.mem_range.mpr h1)
 rw [List.all_eq_true]at a
 have a:=a tu (List.mem_range.mpr h2)
 rw [Bool.and_eq_true]at a
 have n13:=re a.1
 have w13:=List.all_eq_true.mp a.2
 have sub:((List.range m).map (ir way tu)).Sublist ((List.range 13).map (ir way tu)):=List.Sublist.map _ (List.range_sublist.mpr hm)
 have nd:=n13.sublist sub
 have wd: ∀ x∈(List.range m).map (ir way tu),cA x=true:=fun x hx=>w13 x (sub.subset hx)
 have ln:((List.range m).map (ir way tu)).length=m:=by rw [List.length_map,List.length_range]
 cases back with
 | false=>
  rw [if_neg (by decide)]at e
  subst e
  exact ⟨ln,nd,wd⟩
 | true=>
  rw [if_pos rfl]at e
  subst e
  exact ⟨by rw [List.length_reverse];exact ln,(List.reverse_perm _).nodup_iff.mpr nd,fun x hx=>wd x (List.mem_reverse.mp hx)⟩
structure Srt where
 name:Str
 downs:List Str
 ups:List Str
noncomputable def RepS (H:Hp) (s:Srt) (v:V):Prop:= ∃ a b c,v=.ref a/\H a=some (.tup [.str s.name,.ref b,.ref c])/\H b=some (.tup (s.downs.map V.str))/\H c=some (.tup (s.ups.map V.str))
theorem RepS.mono {H H':Hp} (t:TK H H') {s:Srt} {v:V}:RepS H s v->RepS H' s v:=fun ⟨a,b,c,e,h1,h2,h3⟩=>⟨a,b,c,e,t _ _ h1,t _ _ h2,t _ _ h3⟩
noncomputable def Srt.ok (s:Srt):Prop:=(s.downs++s.ups).Nodup/\(∀ x∈s.downs++s.ups,cA x=true)/\s.downs.length<=3/\s.ups.length<=3/\1<=s.downs.length+s.ups.length
noncomputable def RepSs (H:Hp) (ss:List Srt) (vs:List V):Prop:=Paired (RepS H) ss vs
theorem RepSs.mono {H H':Hp} (t:TK H H') {ss:List Srt} {vs:List V} (h:RepSs H ss vs):RepSs H' ss vs:=Paired.mapP h fun _ _ r=>r.mono t
theorem RepSs.len {H:Hp} {ss:List Srt} {vs:List V} (h:RepSs H ss vs):ss.length=vs.length:=Paired.length h
theorem aM {α β:Type} {F:α->β->Prop}: ∀ {l:List α} {r:List β} {i:Nat} {b:β},Paired F l r->r[i]? =some b-> ∃ a,l[i]? =some a/\F a b
 | _,_,i,b,.nil,e=>by cases i <;> cases e
 | _,_,0,b,.cons h _,e=>⟨_,rfl,by cases e;exact h⟩
 | _,_,i+1,b,.cons _ t,e=>aM (i:=i) t e
theorem nZ {ws:List Str} (n:ws.Nodup) (w: ∀ x∈ws,cA x=true) (hl:ws.length=6) (k d u:Nat) (hd:d<=3) (hu:u<=3) (h1:1<=d+u) (nm:Str):
  (Srt.mk nm ((ws.drop k++ws.take k).take d) (((ws.drop k++ws.take k).drop d).take u)).ok:=by
 have nt:(ws.drop k++ws.take k).Nodup:=by
  have:(ws.drop k++ws.take k).Perm (ws.take k++ws.drop k):=List.perm_append_comm
  rw [List.take_append_drop]at this
  exact this.nodup_iff.mpr n
 have mt: ∀ x∈ws.drop k++ws.take k,cA x=true:=fun x hx=>by
  rw [List.mem_append]at hx
  rcases hx with h | h
  ·exact w x (List.mem_of_mem_drop h)
  ·exact w x (List.mem_of_mem_take h)
 have lt:(ws.drop k++ws.take k).length=6:=by rw [List.length_append,List.length_drop,List.length_take];lia
 generalize ws.drop k++ws.take k=ts at nt mt lt
 have sub:(ts.take d++(ts.drop d).take u).Sublist ts:=by
  have:=List.take_append_drop d ts
  conv=>rhs;rw [<- this]
  exact List.Sublist.append (List.Sublist.refl _) (List.take_sublist _ _)
 refine ⟨nt.sublist sub,fun x hx=>mt x (sub.subset hx),?_,?_,?_⟩
 ·show (ts.take d).length<=3
  rw [List.length_take];lia
 ·show ((ts.drop d).take u).length<=3
  rw [List.length_take];lia
 ·show 1<=(ts.take d).length+ ((ts.drop d).take u).length
  rw [List.length_take,List.length_take,List.length_drop];lia
theorem ck {H:Hp} {tp p:Addr} (t:Tp H tp) (hp:H p=none):p≠tp:=fun e=>by
 obtain ⟨t0,e0⟩:=t
 subst e
 rw [e0]at hp
 cases hp
noncomputable def uf (H:Hp) (ys:List V) (z:V):Prop:= ∃ a,z=.ref a/\H a=some (.tup ys)
noncomputable def Tups (H:Hp) (yss:List (List V)) (zs:List V):Prop:=Paired (uf H) yss zs
theorem Tups.mono {H H':Hp} (t:TK H H') {yss:List (List V)} {zs:List V} (h:Tups H yss zs):Tups H' yss zs:=Paired.mapP h fun _ _ ⟨a,e,g⟩=>⟨a,e,t _ _ g⟩
theorem Tups.len {H:Hp} {yss:List (List V)} {zs:List V} (h:Tups H yss zs):yss.length=zs.length:=Paired.length h
theorem aF {H H':Hp} (s:Same H H'):TK H H':=fun a xs h=>s _ _ h
theorem pC {K:PySem.W.Frag} {a:Addr} {xs:List V} {fr:List Nat} {te:TE} {σ:St} {H1:Hp} {Q:VK} (hn:xs.length<=1000) (ha:H1 a=some (.tup xs)) (g:V->List V)
  (hte: ∀ v H k,v∈xs->(∀ p,H p=none->k (.ref p) (upd H p (.tup (g v))))->te (some v::bp fr σ) H k)
  (hd: ∀ p zs H',H1 p=none->Same H1 H'->H' p=some (.lst zs)->Tups H' (xs.map g) zs->Q (.ref p) H'):fg fr te σ (Itt K a) H1 Q:=by
 intro p hp
 refine ⟨fun i m zs H=>i<=xs.length/\m=xs.length-i/\Same H1 H/\H p=some (.lst zs)/\zs.length=i/\Tups H ((xs.take i).map g) zs,⟨_,Nat.zero_le _,rfl,ae hp _,ab,rfl,.nil⟩,?_⟩
 rintro i m zs H ⟨hi,hm,sm,gp,hz,hT⟩
 refine ⟨gp,?_⟩
 by_cases e:i=xs.length
 ·subst e
  rw [List.take_length]at hT
  exact .inl ⟨⟨xs,SqT.of (sm _ _ ha),Nat.le_refl _⟩,hd p zs H hp sm gp hT⟩
 ·have hlt:i<xs.length:=by lia
  refine .inr ⟨⟨xs,xs[i],SqT.of (sm _ _ ha),List.getElem?_eq_getElem hlt⟩,ao (by lia),fun v H' hv=>?_⟩
  obtain ⟨rfl,hv⟩:=hv
  have hv:=hv xs (SqT.of (sm _ _ ha))
  refine hte v _ _ (List.mem_of_getElem? hv) fun q hq=>?_
  have s2:=ae hq (.tup (g v))
  have gq:(upd H' q (.tup (g v))) q=some (.tup (g v)):=ab
  generalize upd H' q (.tup (g v))=H2 at s2 gq ⊢
  have gp2:=s2 _ _ gp
  have tk:TK H2 (upd H2 p (.lst (zs++[.ref q]))):=TK.lst gp2
  refine ⟨gp2,xs.length- (i+1),by lia,by lia,rfl,?_,ab,by rw [List.length_append,hz];rfl,?_⟩
  ·intro b o hb
   rw [ai (ah hb hp)]
   exact s2 _ _ (sm _ _ hb)
  ·rw [List.take_add_one,hv,List.map_append]
   exact Paired.snoc (hT.mono ((aF s2).trans tk)) ⟨q,rfl,tk _ _ gq⟩
noncomputable def SrtsAt (H:Hp) (a:Addr) (ss:List Srt):Prop:= ∃ xs,H a=some (.tup xs)/\RepSs H ss xs
theorem SrtsAt.mono {H H':Hp} (t:TK H H') {a:Addr} {ss:List Srt}:SrtsAt H a ss->SrtsAt H' a ss:=fun ⟨xs,h,r⟩=>⟨xs,t _ _ h,r.mono t⟩
structure Rul where
 pl:Int
 word:Str
 fm:Fm
noncomputable def RepR (H:Hp) (r:Rul) (v:V):Prop:= ∃ a u,v=.ref a/\H a=some (.tup [.int r.pl,.str r.word,u])/\Rep H r.fm u
theorem RepR.mono {H H':Hp} (t:TK H H') {r:Rul} {v:V}:RepR H r v->RepR H' r v:=fun ⟨a,u,e,h,p⟩=>⟨a,u,e,t _ _ h,p.mono t⟩
noncomputable def RepRs (H:Hp) (rs:List Rul) (vs:List V):Prop:=Paired (RepR H) rs vs
theorem RepRs.mono {H H':Hp} (t:TK H H') {rs:List Rul} {vs:List V} (h:RepRs H rs vs):RepRs H' rs vs:=Paired.mapP h fun _ _ r=>r.mono t
theorem RepRs.len {H:Hp} {rs:List Rul} {vs:List V} (h:RepRs H rs vs):rs.length=vs.length:=Paired.length h
theorem gR {α β:Type} {F:α->β->Prop}: ∀ {l:List α} {r:List β} {b:β},Paired F l r->b∈r-> ∃ a∈l,F a b:=fun {l r b} h m=>by
 obtain ⟨i,hi⟩:=List.getElem?_of_mem m
 obtain ⟨a,ha,f⟩:=aM h hi
 exact ⟨a,List.mem_of_getElem? ha,f⟩
noncomputable def fZ (s:Stmt):List Stmt:=match s with
 | .For _ _ b _ _=>b
 | _=>[]
end My
namespace HT
open PySem PyProof.Rows
open PySem.AutoSeq1 (wpAny_loadPart')
section
variable {prog:Program} {w:World} {A:Around} {s:Shared} {E:Value->Shared->Prop}
noncomputable def eO (it:Addr):Obj:={cls:=.type "enumerate",data:=.fields #[.none,.bool false,.ref it,rawInt 0,.none,.none]}
theorem pk (l:Addr) (o:Obj) (items:Array Value):Meets (Builtin.«enumerate.__new__» ⟨[.type "enumerate",.ref l],[]⟩)
  (fun _ R s=>s.heap.get? l=some o/\s.heap.IsTuple l items/\R (.ok (.ret (.ref (s.heap.push (tIt l)).objs.size))) {s with heap:=(s.heap.push (tIt l)).push (eO s.heap.objs.size)}):=
 .of_wp fun prog w A R s h=>by
  obtain ⟨hp,g,d,tk,os⟩:=s
  obtain ⟨hl,a1,h⟩:=h
  have hsub:=sub_enumerate
  have b1:Heap.IsTuple (Shared.heap ⟨hp,g,d,tk,os⟩) l items:=a1
  wp_walk using wpAny_loadPart' hl
  refine wpAny_stack_any fun st=>wpAny_pure ?_
  split
  ·rename_i c _ _ _ _ _
   cases (c==Value.type "enumerate") <;> (wp_walk using wpAny_loadPart' hl,wpAny_pyIter_tuple b1;exact ⟨_,rfl,h⟩)
  ·wp_walk using wpAny_loadPart' hl,wpAny_pyIter_tuple b1
   exact ⟨_,rfl,h⟩
theorem call_enumT {l:Addr} {items:Array Value} {Q:Value->Shared->Prop} (a1:s.heap.IsTuple l items)
  (q: ∀ h',IsEnum h' (s.heap.objs.size+1) s.heap.objs.size 0 .none->h'.IsTupleIter s.heap.objs.size l 0->(∀ b o,s.heap.get? b=some o->h'.get? b=some o)->Q (.ref (s.heap.objs.size+1)) {s with heap:=h'}):
  wpAny (model prog w) A (call (.type "enumerate") [.ref l]) Q E s:=by
 obtain ⟨o,ho,_⟩:=id a1
 refine callType_new PySem.F.called_enumerate (by decide) (PySem.F.typeCall_enumerate_1 _) (PySem.F.newCall_enumerate_1 _) (fun obj=>PySem.F.args_object_init_2 obj _) PySem.F.entry_enumerate_new (pk l o items) ⟨ho,a1,?_⟩
 have z1:(s.heap.push (tIt l)).objs.size=s.heap.objs.size+1:=Heap.size_push ..
 have g2:((s.heap.push (tIt l)).push (eO s.heap.objs.size)).get? (s.heap.push (tIt l)).objs.size=some (eO s.heap.objs.size):=Heap.get?_push_size _ rfl
 have g1:((s.heap.push (tIt l)).push (eO s.heap.objs.size)).get? s.heap.objs.size=some (tIt l):=Heap.get?_push_of_some _ (Heap.get?_push_size _ rfl)
 show _/\_
 rw [z1]at g2 ⊢
 exact ⟨⟨_,g2,rfl⟩,q _ g2 ⟨_,g1,rfl,rfl⟩ fun b o x=>Heap.get?_push_of_some _ (Heap.get?_push_of_some _ x)⟩
end
end HT
namespace L2
open PySem PySem.Spec PyProof.Rows
noncomputable def Ite (l:Addr):It:=
 ⟨fun i H=> ∃ xs x,H l=some (.tup xs)/\xs[i]? =some x,
  fun i H v H'=> ∃ T x,H T=none/\v=.ref T/\H'=upd H T (.tup [.int (i:Int),x])/\ ∀ xs,H l=some (.tup xs)->xs[i]? =some x,
  fun i H=> ∃ xs,H l=some (.tup xs)/\xs.length=i⟩
noncomputable def wX (e it l:Addr) (i:Nat) (h:Heap):Prop:=(∃ old,IsEnum h e it (i:Int) old)/\HT.SIter true h it l i
theorem fp2 {e it b:Addr} (h:b∈[e,it]):b=e\/b=it:=by simpa using h
theorem oe {P:Program} {w:World} {K:PySem.W.Frag} {es:List Expr} {kk:Nat} {tpos:Pos} (e it l:Addr) (nd:e≠it):rY P w K (.Tuple es kk tpos) (Ite l) [e,it] e (wX e it l):=by
 have ap: ∀ {X:Cx} {pins:List (Addr×Obj)} {H:Hp} {xs:List V},(∀ b∈[e,it],im X pins H b)->H l=some (.tup xs)->e≠l/\l≠it:=by
  intro X pins H xs hf h1
  have a: ∀ b∈[e,it],b≠l:=fun b hb=>(ah h1 (hf b hb).1).symm
  exact ⟨a e (by simp),Ne.symm (a it (by simp))⟩
 refine ⟨by simp,fun i h st b hb=>?_,fun i h h' st k=>?_,?_,?_,fun _ _ _ _ _ st h=>wpAny_pyIter_enum st.1.choose_spec h⟩
 ·obtain ⟨⟨old,h1⟩,h2⟩:=st
  rcases fp2 hb with rfl | rfl
  ·exact ⟨_,h1,fun v e=>nomatch e⟩
  ·exact h2.obj
 ·obtain ⟨⟨old,h1⟩,h2⟩:=st
  exact ⟨⟨old,k e (by simp) _ h1⟩,h2.at fun o z=>k it (by simp) o z⟩
 ·intro X hP hw hK hc i pins s σ H E I hf st hg
  subst hP hw hK
  obtain ⟨xs,x,hx,ex⟩:=hg
  obtain ⟨its,r1,q1,_⟩:=I.seqS (c:=true) hx
  obtain ⟨u,hu,ru⟩:=r1.get ex
  obtain ⟨⟨old,z0⟩,s1⟩:=st
  obtain ⟨a1,a2⟩:=ap hf hx
  refine wpAny_pyNext_enum_itemD (HT.draws_seq (A:=X.A.in1) true (I.ok.hd hc) it l a2 its.toArray) z0 ⟨s1,q1⟩ (by rw [List.size_toArray];exact (List.getElem?_eq_some_iff.mp hu).1) nd
   (by simp only [List.mem_cons,List.not_mem_nil,or_false,not_or];exact ⟨nd,a1⟩) fun x' h' tk px z1 t1 pr _ kk=>?_
  have ex':x'=u:=by
   have p1:its[i]? =some x':=by simpa using px
   rw [hu]at p1;exact (Option.some.inj p1).symm
  subst ex'
  refine ⟨_,rfl,wpAny_letOwnedTupleGo_enum z1 fun h'' z2 sb=>?_⟩
  have lt: ∀ {b:Addr} {ob:Obj},s.heap.get? b=some ob->b≠s.heap.objs.size:=fun e=>Nat.ne_of_lt (Heap.lt_size e)
  have fT:H s.heap.objs.size=none:=I.hok.fresh (Nat.le_refl _)
  have keep: ∀ b ob,b∉[e,it]->s.heap.get? b=some ob->h''.get? b=some ob:=fun b ob hb z=>by
   simp only [List.mem_cons,List.not_mem_nil,or_false,not_or]at hb
   exact sb.extBut b ob hb.1 (kk b ob hb.1 hb.2 z)
  have trk: ∀ b uo,H b=some uo->b∉[e,it]:=fun b uo z hb=>by rw [(hf b hb).1]at z;cases z
  have ptT:=sb.extBut _ _ (Ne.symm (lt z0)) pr
  have I2:Inv X pins σ (upd H s.heap.objs.size (.tup [.int (i:Int),x])) {s with heap:=h'',toks:=tk+1}:=by
   refine I.step (g':=s.gens) (d':=s.drawn) (ch:=[e,it]) (fun b hb=>?_) (fun b ob _ _ hb z _=>keep b ob hb z) (fun b ob _ _ hb z _=>⟨ob.slots,keep b ob hb z⟩) (fun b ob hb z n=>by rw [ai (lt z)];exact n)
    (fun b ob hb z=>⟨ob,keep b ob hb z⟩) (fun b zs z=>by rw [ai (ah z fT)];exact z) (fun b ob uo z=>by rw [ai (ah z fT)];exact z) (fun b ps z=>⟨#[],by rw [ai (ah z fT),z];simp⟩) (fun m hm=>?_) (fun b uo z=>?_) I.bare
   ·obtain ⟨_,f1,_,f3,f4,f5⟩:=hf b hb
    exact ⟨f3,f1,f4,f5⟩
   ·obtain ⟨ob,es',ep,ho,r⟩:=hm
    exact ⟨ob,es',ep,keep _ ob (fun hb=>(hf _ hb).2.1 rfl) ho,r⟩
   ·by_cases hb:b=s.heap.objs.size
    ·subst hb
     rw [ab]at z
     cases z
     exact ⟨by show 2<=sizeLine;decide,[.int (i:Int) tk,x'],.cons ⟨tk,rfl⟩ (.cons ru .nil),_,ptT,rfl,_,rfl⟩
    ·rw [ai hb]at z
     refine (I.hok b uo z).stay (fun c' v' hc' q=>keep c' v' ?_ q) (fun c' q=>by rw [ai (ah q fT)];exact q) fun c' zs q=>by rw [ai (ah q fT)];exact q
     rcases hc' with h | h
     ·rw [h];exact trk b uo z
     ·exact trk c' _ h
  refine ⟨.ref s.heap.objs.size,_,I2,rfl,⟨_,x,fT,rfl,rfl,fun xs' h1=>?_⟩,⟨⟨_,by rw [Int.natCast_add];exact z2⟩,t1.1.at fun o z=>sb.extBut _ o (Ne.symm nd) z⟩,fun b hb=>?_⟩
  ·rw [hx]at h1
   cases h1
   exact ex
  ·have hb': ∃ ob,s.heap.get? b=some ob:=by
    rcases fp2 hb with rfl | rfl
    ·exact ⟨_,z0⟩
    ·obtain ⟨ob,z,_⟩:=s1.obj;exact ⟨ob,z⟩
   obtain ⟨ob,z⟩:=hb'
   rw [ai (lt z)]
   exact (hf b hb).1
 ·intro X hP hw hK hc i pins s σ H E I hf st hg
  subst hP hw hK
  obtain ⟨xs,hx,l'⟩:=hg
  obtain ⟨its,r1,q1,_⟩:=I.seqS (c:=true) hx
  obtain ⟨⟨old,z0⟩,s1⟩:=st
  obtain ⟨a1,a2⟩:=ap hf hx
  have hi:i=its.toArray.size:=by rw [List.size_toArray,<- l'];exact r1.length
  rw [hi]at s1
  refine wpAny_pyNext_enum_endD (HT.draws_seq (A:=X.A.in1) true (I.ok.hd hc) it l a2 its.toArray) z0 ⟨s1,q1⟩ fun h' eb=>⟨rfl,?_⟩
  exact I.turned (t':=s.toks) (it:=it) (fun b ob hb z=>eb b ob hb z) (hf it (by simp)).1 (hf it (by simp)).2.1 (hf it (by simp)).2.2.2.1 (hf it (by simp)).2.2.2.2.1 (hf it (by simp)).2.2.2.2.2
noncomputable def vL (ta:TA):TI:=fun σ H R=>ta σ H fun vs H1=> ∃ l xs,vs=[.ref l]/\H1 l=some (.tup xs)/\R (Ite l) H1
theorem sH {X:Cx} {es:List Expr} {kk:Nat} {tpos:Pos} {a:Expr} {ta:TA} {p pos:Pos} (hg:Gl X "enumerate") (hm:X.mg "enumerate"=none) (ha:PA X [a] ta) (hs:starEach [a] X.env=[(false,eval a X.env)]:=by rfl):
  PI X (.Tuple es kk tpos) (.Call (.Name "enumerate" p) [a] [] pos) (vL ta):=by
 intro pins s σ H R I h
 refine Call_ (fu I hg hm (show bootBuiltins "enumerate"=some (.type "enumerate") by decide +kernel) (PyProof.Rows.callWith_type1 (thn (ha pos pins s σ H _ I h) fun us s1 ⟨vs,H1,I1,r1,q1⟩=>?_) (by rw [hs];rfl) rfl))
 obtain ⟨l,xs,rfl,hx,q⟩:=q1
 obtain ⟨u,rfl,ru⟩:=cI r1
 cases (show u=Value.ref l from ru)
 obtain ⟨its,_,e1,_⟩:=I1.seqS (c:=true) hx
 refine HT.call_enumT e1 fun h' a1 a2 kp=>?_
 have I2:Inv X pins σ H1 {s1 with heap:=h'}:=I1.kept (t':=s1.toks) kp
 refine wpAny_pyIter_enum a1 ?_
 refine ⟨s1.heap.objs.size+1,[s1.heap.objs.size+1,s1.heap.objs.size],_,_,H1,rfl,I2,oe _ _ l (Nat.succ_ne_self _),⟨⟨_,a1⟩,a2⟩,fun b hb=>?_,q⟩
 have hb':s1.heap.objs.size<=b:=by rcases fp2 hb with rfl | rfl <;> lia
 exact I1.fpOk hb' (I1.hok.fresh hb')
section
variable {X:Cx}
theorem fD: ∀ (ns:List Int) (a:Int),PySem.W.Num.sumInts a (ns.map PySem.W.WData.int)=some (.int (a+i6 ns))
 | [],a=>by show some (PySem.W.WData.int a)=some (.int (a+0));rw [Int.add_zero]
 | n::r,a=>by
  have fold: ∀ (r:List Int) (b:Int),PySem.W.Num.foldFrom PySem.W.Num.add (.int b) (r.map PySem.W.WData.int)=some (.int (b+i6 r)):=by
   intro r
   induction r with
   | nil=>intro b;show some (PySem.W.WData.int b)=some (.int (b+0));rw [Int.add_zero]
   | cons m r ih=>
    intro b
    show PySem.W.Num.foldFrom PySem.W.Num.add (.int (b+m)) (r.map PySem.W.WData.int)=some (.int (b+ (m+i6 r)))
    rw [ih,Int.add_assoc]
  show (if (PySem.W.Num.fitsLong n&&PySem.W.Num.fitsLong (a+n))=true then PySem.W.Num.sumInts (a+n) (r.map PySem.W.WData.int)else PySem.W.Num.foldFrom PySem.W.Num.add (.int (a+n)) (r.map PySem.W.WData.int))=some (.int (a+ (n+i6 r)))
  split
  ·rw [fD r,Int.add_assoc]
  ·rw [fold,Int.add_assoc]
theorem pD (hc:X.calm=true):bV X (.builtin "sum") (fun xs H Q=> ∃ (p:Addr) (ns:List Int),xs=[.ref p]/\SqL X.K H p (ns.map V.int)/\Q (.int (i6 ns)) H):=by
 intro pins s σ H xs us Q I r h
 obtain ⟨p,ns,rfl,hq,q⟩:=h
 obtain ⟨u,rfl,ru⟩:=cI r
 cases ru
 obtain ⟨its,rv,pl,hz⟩:=I.list hq
 have hl:=pl.isList
 have hlt:p<s.heap.objs.size:=by obtain ⟨_,e,_⟩:=hl;exact Heap.lt_size e
 have hlen:its.length=ns.length:=by have:=rv.length;rw [List.length_map]at this;lia
 refine PySem.Flt.call_sum_walkF (xs:=ns.map PySem.W.WData.int) (r:=.int (i6 ns)) (by rw [fD,Int.zero_add]) (wpAny_pyIter_list hl ?_)
 have W:=Walks.toS (Walks.list (prog:=X.prog) (w:=X.w) (A:=X.A.in1) (I.ok.hd hc) s.heap.objs.size p (Nat.ne_of_lt hlt) its.toArray)
 rw [show its.toArray.size=(ns.map PySem.W.WData.int).length by rw [List.size_toArray,List.length_map];exact hlen]at W
 refine ⟨s.heap.objs.size,[s.heap.objs.size,p],[s.heap.objs.size],_,_,_,rfl,W,⟨⟨_,Heap.get?_push_size _ rfl,rfl,rfl⟩,hl.push _⟩,fun b hb=>?_,fun i v hP=>?_,fun s' v hv hm=>?_⟩
 ·show b< (s.heap.push _).objs.size
  rw [Heap.size_push]
  rcases List.mem_cons.mp hb with e | e
  ·rw [e];exact Nat.lt_succ_self _
  ·rw [List.mem_singleton.mp e];exact Nat.lt_succ_of_lt hlt
 ·have hv:its[i]? =some v:=by simpa using hP
  have hi:i<ns.length:=by
   have:=(List.getElem?_eq_some_iff.mp hv).1
   lia
  have hx:(ns.map V.int)[i]? =some (V.int ns[i]):=by rw [List.getElem?_map,List.getElem?_eq_getElem hi] <;> rfl
  obtain ⟨u,eu,ru⟩:=rv.get hx
  rw [hv]at eu
  cases eu
  obtain ⟨t,rfl⟩:=ru
  exact ⟨.int ns[i],by rw [List.getElem?_map,List.getElem?_eq_getElem hi] <;> rfl,.int _ t⟩
 ·cases hv
  obtain ⟨hh,g,d,tk,os⟩:=s'
  obtain rfl:g=s.gens:=hm.gens
  obtain rfl:d=s.drawn:=hm.drawn
  obtain rfl:os=s.os:=hm.os
  refine ⟨.int _,H,I.kept (t':=tk) (h':=hh) fun b o e=>hm.heap b o (fun z=>?_) (Heap.get?_push_of_some _ e),⟨_,rfl⟩,q⟩
  rw [List.mem_singleton.mp z]at e
  exact absurd (Heap.lt_size e) (Nat.lt_irrefl _)
end
end L2
namespace HT
open PySem PyProof.Rows
noncomputable def ins {K:Type} [DecidableEq K] (u:List K):List K->List K
 | []=>u
 | k::r=>ins (if k∈u then u else u++[k]) r
theorem SetOf.keep {prog:Program} {w:World} {K:Type} [DecidableEq K] {knd:KeyKind prog w K} {h h':Heap} {a:Addr} {S:K->Bool} {n:Nat} (H:Heap.SetOf knd h a S n) (k: ∀ o,h.get? a=some o->h'.get? a=some o):Heap.SetOf knd h' a S n:=by
 obtain ⟨o,es,ep,t,h1,h2⟩:=H
 exact ⟨o,es,ep,t,k o h1,h2⟩
theorem SetOf.cong {prog:Program} {w:World} {K:Type} [DecidableEq K] {knd:KeyKind prog w K} {h:Heap} {a:Addr} {S S':K->Bool} {n n':Nat} (H:Heap.SetOf knd h a S n) (e: ∀ k,S k=S' k) (en:n=n'):Heap.SetOf knd h a S' n':=by
 have:S=S':=funext e
 subst this
 subst en
 exact H
theorem qa {prog:Program} {w:World} {A:Around} {R:Result->Shared->Prop} {I:Addr} {fp wr:List Addr} {G:Array GenState->Array GenState->Prop} {P:Nat->Value->Prop} {St:Nat->Shared->Prop} {K:Type} [DecidableEq K] {knd:KeyKind prog w K} {n:Nat}
  (W:WalksS prog w A.in1 I fp wr G n P St) (S:Addr) (hS:S∉fp) (val:List K) (hl:val.length=n) (hP: ∀ i v,P i v-> ∃ k,val[i]? =some k/\knd.is k v=true/\v.scannable=true) (hn:n+1<scanBound):
  ∀ (k i:Nat) (s:Shared) (u:List K),n-i=k->i<=n->St i s->Heap.SetOf knd s.heap S (fun k'=>decide (k'∈u)) u.length->u.length<=i->
   (∀ s',Moved (S::wr) G s s'->Heap.SetOf knd s'.heap S (fun k'=>decide (k'∈ins u (val.drop i))) (ins u (val.drop i)).length->R (.ok (.ret .none)) s')->
   codeAny (model prog w) A (.builtin "set.update.loop" {pos:=[.ref S,.ref I]}) R s:=by
 intro k
 induction k with
 | zero=>
  intro i s u hk hi hst hset hu hR
  have e:i=n:=by lia
  subst e
  refine codeAny_builtin F.entry_set_update_loop ?_
  rw [Around.under_plainId F.plain_set_update_loop]
  refine wpAny_bind (W.done s _ _ hst fun s' mv=>?_)
  have hd:val.drop i=[]:=List.drop_eq_nil_of_le (by lia)
  refine wpAny_pure (hR s' (mv.mono fun b hb=>List.mem_cons_of_mem _ hb) ?_)
  rw [hd]
  exact SetOf.keep hset fun o ho=>mv.heap S o (fun hb=>hS (W.sub S hb)) ho
 | succ k ih=>
  intro i s u hk hi hst hset hu hR
  refine codeAny_builtin F.entry_set_update_loop ?_
  rw [Around.under_plainId F.plain_set_update_loop]
  refine wpAny_bind (W.item i s _ _ (by lia) hst fun v s' hv st' mv=>?_)
  obtain ⟨x,hx,hkx,hsc⟩:=hP i v hv
  have hset':=SetOf.keep hset fun o ho=>mv.heap S o (fun hb=>hS (W.sub S hb)) ho
  have hd:val.drop i=x::val.drop (i+1):=by
   obtain ⟨hlt,hx'⟩:=List.getElem?_eq_some_iff.mp hx
   rw [List.drop_eq_getElem_cons hlt,hx']
  refine wpAny_bind (wpAny_holding (wpAny_holding (wpAny_bind (knd.pyHash hkx (wpAny_setAddHashed_of hkx hsc hset' (by lia) fun h' sb so=>?_)))))
  refine wpAny_pure ⟨plainId_quiet F.plain_set_update_loop _,?_⟩
  refine ih (i+1) _ (if x∈u then u else u++[x]) (by lia) (by lia) ?_ ?_ ?_ ?_
  ·exact W.frame (i+1) s' h' (s'.toks+1) st' (Nat.le_succ _) fun b hb o ho=>(sb.2 b (fun z=>hS (z▸hb))).trans ho
  ·refine SetOf.cong so (fun k'=>?_) ?_
   ·by_cases c:x∈u
    ·rw [if_pos c]
     by_cases c2:k'=x
     ·subst c2;simp [c]
     ·simp [c2]
    ·rw [if_neg c]
     simp
   ·by_cases c:x∈u
    ·rw [if_pos c,if_pos (decide_eq_true c)]
    ·rw [if_neg c,if_neg (by rw [decide_eq_false c];exact Bool.false_ne_true),List.length_append];rfl
  ·split
   ·lia
   ·rw [List.length_append];show u.length+1<=_;lia
  ·intro s2 mv2 hs2
   refine hR s2 ?_ (by rw [hd];exact hs2)
   refine Moved.trans W.gtrans (Moved.then_heap (mv.mono fun b hb=>List.mem_cons_of_mem _ hb) (Nat.le_succ _) fun b o hb ho=>(sb.2 b (fun z=>hb (z▸List.mem_cons_self))).trans ho) mv2
theorem call_setS {prog:Program} {w:World} {A:Around} {E:Value->Shared->Prop} {s:Shared} {l:Addr} {items:Array Value} {K:Type} [DecidableEq K] {knd:KeyKind prog w K} {val:List K} {Q:Value->Shared->Prop} (hh:A.handled=none)
  (hL:s.heap.IsList l items) (hl:val.length=items.size) (hP: ∀ (i:Nat) (v:Value),items[i]? =some v-> ∃ k,val[i]? =some k/\knd.is k v=true/\v.scannable=true) (hn:items.size+1<scanBound)
  (q: ∀ (h':Heap) (tk:Nat),Heap.SetOf knd h' s.heap.objs.size (fun k'=>decide (k'∈ins [] val)) (ins [] val).length->(∀ b o,b<s.heap.objs.size->s.heap.get? b=some o->h'.get? b=some o)->
   Q (.ref s.heap.objs.size) {s with heap:=h',toks:=tk}):
  wpAny (model prog w) A (call (.type "set") [.ref l]) Q E s:=by
 refine wpAny_call (codeAny_of_tree ?_)
 refine wpAny_pure ⟨Code.quiet_builtin _ (by decide +kernel),codeAny_builtin F.entry_type_call ?_⟩
 rw [Around.under_plain (weight_type_call_type _ _ _) rfl]
 obtain ⟨c,tl,em⟩:=F.called_set.mro
 unfold Builtin.«type.__call__»
 simp only [F.called_set.notType,Bool.false_eq_true,if_false,F.called_set.canCreate,F.typeCall_set_1,F.called_set.made,pure_bind,em,List.isEmpty_cons]
 refine wpAny_bind (wpAny_holding (wpAny_call (code_set_new_1 _ fun led=>?_)))
 generalize ho0:({cls:=Value.type "set",data:=Data.set #[] 0 (SetTable.fresh 0 0 led)}:Obj)=o0
 have hset0:Heap.SetOf knd (s.heap.push o0) s.heap.objs.size (fun k'=>decide (k'∈([]:List K))) 0:=by
  subst ho0
  exact SetOf.cong ((setObjOf_fresh (knd:=knd) led).setOf (Heap.get?_push_size _ rfl) (by decide)) (fun k=>by simp) rfl
 have hty:Shared.TypeIs {s with heap:=s.heap.push o0} (.ref s.heap.objs.size) "set":=hset0.typeIs
 refine wpAny_bind (wpAny_isInstance hty F.called_set.sub ?_)
 simp only [Bool.not_true,Bool.false_eq_true,if_false]
 refine wpAny_bind (wpAny_holding (wpAny_callSpecial?_slot hty F.called_set.init (wpAny_call (codeAny_call_builtin (by decide +kernel) F.entry_set_init (check_set_init_1 hty ?_)))))
 unfold Builtin.«set.__init__»
 simp only [noKeywords,List.isEmpty_nil,if_true,pure_bind]
 refine wpAny_bind (show wpAny _ _ (typeNameOfCut 200 (.ref s.heap.objs.size)) _ _ _ from wpAny_bind (wpAny_bind (wpAny_typeOf hty (wpAny_pure (wpAny_pure ?_)))))
 refine wpAny_bind (wpAny_of_eq (show checkCount _ 0 1 1=pure ()from rfl) ?_)
 refine wpAny_bind (wpAny_pure ?_)
 have hload:(s.heap.push o0).get? s.heap.objs.size=some o0:=by subst ho0;exact Heap.get?_push_size _ rfl
 refine wpAny_bind (show wpAny _ _ (setUsed s.heap.objs.size) _ _ _ from wpAny_bind (wpAny_bind (wpAny_load' hload ?_)))
 subst ho0
 refine wpAny_pure (wpAny_pure ?_)
 refine wpAny_bind (?_:wpAny _ _ (Builtin.Frozenset.updateFrom "set.__init__" s.heap.objs.size (.ref l)) _ _ _)
 have hL':=hL.push {cls:=Value.type "set",data:=Data.set #[] 0 (SetTable.fresh 0 0 led)}
 have htyl:Shared.TypeIs {s with heap:=s.heap.push {cls:=Value.type "set",data:=Data.set #[] 0 (SetTable.fresh 0 0 led)}} (.ref l) "list":=Heap.IsList.typeIs hL'
 unfold Builtin.Frozenset.updateFrom
 refine wpAny_bind (show wpAny _ _ (Builtin.Frozenset.isAnySet (.ref l)) _ _ _ from wpAny_bind (wpAny_isInstance htyl F.sub_list_set (wpAny_isInstance htyl F.sub_list_frozenset ?_)))
 refine wpAny_bind (wpAny_typeOf htyl ?_)
 refine wpAny_bind (wpAny_pyIter_list hL' ?_)
 refine wpAny_bind (wpAny_runValue ?_)
 have hsz:(s.heap.push {cls:=Value.type "set",data:=Data.set #[] 0 (SetTable.fresh 0 0 led)}).objs.size=s.heap.objs.size+1:=Heap.size_push _ _
 have hlt:l<s.heap.objs.size:=by
  obtain ⟨o,ho,_⟩:=hL
  exact Heap.lt_size ho
 clear hload hty htyl
 dsimp only
 generalize hh1:s.heap.push {cls:=Value.type "set",data:=Data.set #[] 0 (SetTable.fresh 0 0 led)}=h1 at hset0 hL' hsz ⊢
 have hold: ∀ b o,s.heap.get? b=some o->h1.get? b=some o:=fun b o e=>by rw [<- hh1];exact Heap.get?_push_of_some _ e
 have hno:s.heap.objs.size∉[h1.objs.size,l]:=fun hm=>by
  rw [hsz]at hm
  rcases List.mem_cons.mp hm with z | z
  ·exact absurd z (Nat.ne_of_lt (Nat.lt_succ_self _))
  ·rcases List.mem_cons.mp z with z | z
   ·exact absurd z (Nat.ne_of_gt hlt)
   ·cases z
 refine qa (knd:=knd) (Walks.toS (Walks.list (show A.in1.in1.in1.handled=none from hh) h1.objs.size l (by rw [hsz];exact Nat.ne_of_lt (Nat.lt_succ_of_lt hlt)) items)) s.heap.objs.size hno val hl hP hn items.size 0 _ [] rfl (Nat.zero_le _)
  ⟨⟨_,Heap.get?_push_size _ rfl,rfl,rfl⟩,hL'.push _⟩ (SetOf.keep hset0 fun o ho=>Heap.get?_push_of_some _ ho) (Nat.zero_le _) fun s' mv hs=>?_
 obtain ⟨h',g',d',tk',os'⟩:=s'
 have e1:g'=s.gens:=mv.gens
 have e2:d'=s.drawn:=mv.drawn
 have e3:os'=s.os:=mv.os
 subst e1 e2 e3
 refine wpAny_pure (wpAny_pure (wpAny_pure (q h' tk' hs fun b o hb ho=>mv.heap b o (fun hm=>?_) (Heap.get?_push_of_some _ (hold b o ho)))))
 rw [hsz]at hm
 rcases List.mem_cons.mp hm with z | z
 ·exact absurd z (Nat.ne_of_lt hb)
 ·rcases List.mem_cons.mp z with z | z
  ·exact absurd z (Nat.ne_of_lt (Nat.lt_succ_of_lt hb))
  ·cases z
end HT
namespace L2
open PySem
section
variable {X:Cx}
theorem jG {xs:List Str} {its:List Value} (r:Vals (xs.map V.str) its): ∀ (i:Nat) (v:Value),its.toArray[i]? =some v-> ∃ k,xs[i]? =some k/\(∃ t,v=.str k t):=by
 induction xs generalizing its with
 | nil=>cases r;intro i v h;simp at h
 | cons x l ih=>
  cases r with
  | cons r1 r2=>
   intro i v h
   rw [List.getElem?_toArray]at h
   cases i with
   | zero=>
    cases h
    obtain ⟨t,e⟩:=r1
    exact ⟨x,rfl,t,e⟩
   | succ i=>exact ih r2 i v (by rw [List.getElem?_toArray];exact h)
theorem iR {K:Type} [DecidableEq K]: ∀ {l u:List K},(u++l).Nodup->HT.ins u l=u++l
 | [],u,_=>(List.append_nil u).symm
 | x::r,u,h=>by
  have hx:x∉u:=fun m=>(List.nodup_append.mp h).2.2 x m x List.mem_cons_self rfl
  show HT.ins (if x∈u then u else u++[x]) r=_
  rw [if_neg hx,iR (by rw [List.append_assoc];exact h),List.append_assoc]
  rfl
end
end L2
namespace L2
open PySem PyProof.Rows
structure nV (sc0:Scope) (N0:List Str) (scope:Scope) (x x2 x3:Str) (ys:List Str) (fr:List Nat):Prop where
 kind:scope.kind=.function
 nocell: ∀ y∈scope.names,y.2≠ .cell
 loc: ∀ y∈scope.names,y.2=.local->scope.names.lookup y.1=some .local
 xl:(aL sc0 scope).lookup x=some .local
 xl2:(aL sc0 scope).lookup x2=some .local
 xl3:(aL sc0 scope).lookup x3=some .local
 free: ∀ y∈scope.names,y.2=.free->sc0.names.lookup y.1=some .cell
 nd:(x::x2::x3::ys).Nodup
 len:ys.length=fr.length
 sl: ∀ q∈ys.zip fr,N0[q.2]? =some q.1/\sc0.names.lookup q.1=some .cell/\(aL sc0 scope).lookup q.1=some .cell
noncomputable def ca (X:Cx) (x x2 x3:Str) (ys:List Str) (scope:Scope) (C:Addr) (s:Shared) (H:Hp) (ex:List Addr):Cx:=
 {X with N:=x::x2::x3::ys,s₀:=s,H₀:=H,env:=compEnvC scope (cy X.env.cells scope.names) C X.env,outer:=X.stack,stack:=X.stack,ex:=ex,fn:=fun _=>false,pn:=[],xe:=fun _ _=>False}
noncomputable def mH (fr:List Nat) (te:TE) (σ:St) (J:It) (H1:Hp) (Q:VK):Prop:=
 ∀ p,H1 p=none-> ∃ W:Nat->Nat->List V->Hp->Prop,(∃ m,W 0 m [] (upd H1 p (.lst [])))/\ ∀ i m ys H,W i m ys H->H p=some (.lst ys)/\
  ((J.stop i H/\Q (.ref p) H)\/(J.go i H/\ys.length<sizeLine/\ ∀ x H',J.yld i H x H'-> ∃ T v1 v2 v3,x=.ref T/\H' T=some (.tup [v1,v2,v3])/\te (some v1::some v2::some v3::bp fr σ) H' fun v H2=>
   H2 p=some (.lst ys)/\ ∃ m',m'<m/\W (i+1) m' (ys++[v]) (upd H2 p (.lst (ys++[v])))))
noncomputable def pR (wi:TI) (fr:List Nat) (te:TE):TE:=fun σ H Q=>wi σ H fun J H1=>mH fr te σ J H1 Q
section
variable {X:Cx} {x x2 x3:Str} {px px2 px3 tpos pos fpos:Pos} {kk:Nat} {iter elt:Expr} {scope sc0:Scope} {N0 ys:List Str} {fr:List Nat} {wi:TI} {te:TE} {pins:List (Addr×Obj)} {σ:St} {H:Hp} {s:Shared}
theorem mh {use:Option (Value->Sem Unit)} {Qv:Value->Shared->Prop} {Q:VK} (hcalm:X.calm=true) (hi:PI X (.Tuple [.Name x px,.Name x2 px2,.Name x3 px3] kk tpos) iter wi) (hsc:X.env.scope=sc0) (hN:X.N=N0) (ok:nV sc0 N0 scope x x2 x3 ys fr)
  (hE: ∀ C s H ex,PE (ca X x x2 x3 ys scope C s H ex) elt te) (I:Inv X pins σ H s) (h:pR wi fr te σ H Q) (hs: ∀ v,foldedSetIterable iter X.env v=pure v)
  (fin: ∀ (p C:Addr) (H':Hp) (s':Shared) (m:Str->Option Value),Inv X pins σ H' s'->s'.heap.Ns C m->H' C=none->C≠X.env.locals->X.s₀.heap.objs.size<=C->(∀ y c,X.env.cells.lookup y=some c->c≠C)->(∀ q∈X.pn++pins,q.1≠C)->Q (.ref p) H'->
   compPost (model X.prog X.w) X.A X.xe use Qv (.ref p) C (.ok .next) s'):
  wpAny (model X.prog X.w) X.A (comprehension (.ListComp elt [⟨.Tuple [.Name x px,.Name x2 px2,.Name x3 px3] kk tpos,iter,[],0⟩] scope pos) scope X.env fpos (newList []) false (eval iter X.env) use) Qv X.xe s:=by
 subst hsc hN
 have hkof: ∀ y,X.env.kindOf y=X.env.scope.names.lookup y:=fun y=>rfl
 have hfree: ∀ y∈scope.names,y.2=.free-> ∃ c,X.env.cells.lookup y.1=some c:=fun y hy e=>I.ok.has y.1 (.inl (ok.free y hy e))
 refine wpAny_comprehension_free (gs:=[]) rfl hs (cE hfree) ok.kind ok.loc (thn (hi pins s σ H _ I h) fun v s1 h1=>thn h1 fun itv s2 h2=>?_)
 obtain ⟨it,fp,tn,J,H2,e,I2,T,st2,f2,hp⟩:=h2
 subst e
 refine wpAny_newObj_type (wpAny_newFunctionEnv ok.nocell (by intro y hy;simp at hy) (fun h₁ hns₁ hsb₁=>?_) ok.kind)
 dsimp only at hns₁ hsb₁ ⊢
 have I3:Inv X pins σ (upd H2 s2.heap.objs.size (.lst [])) {s2 with heap:=s2.heap.push {cls:=.type "list",data:=.seq ([]:List Value).toArray}}:=
  I2.lnew (its:=[]) (ys:=[]) (t':=s2.toks) .nil (Nat.zero_le _)
 have hf2: ∀ b∈fp,b<s2.heap.objs.size:=fun b hb=>by
  obtain ⟨o,e,_⟩:=T.obj _ _ st2 b hb
  exact Heap.lt_size e
 have hps:s2.heap.objs.size< (s2.heap.push {cls:=.type "list",data:=.seq ([]:List Value).toArray}).objs.size:=by rw [Heap.size_push];exact Nat.lt_succ_self _
 have W0:=hp s2.heap.objs.size I2.fresh
 have st3:tn 0 (s2.heap.push {cls:=.type "list",data:=.seq ([]:List Value).toArray}):=T.keep _ _ _ st2 fun b hb o e=>Heap.get?_push_of_some _ e
 generalize hpp:s2.heap.objs.size=p at I3 W0 hf2 hps ⊢
 generalize hh3:(s2.heap.push {cls:=.type "list",data:=.seq ([]:List Value).toArray})=h3 at I3 hns₁ hsb₁ hps st3 ⊢
 generalize hH3:upd H2 p (.lst [])=H3 at I3 W0
 have hold: ∀ b o,h3.get? b=some o->h₁.get? b=some o:=fun b o e=>hsb₁.extBut b o (Nat.ne_of_lt (Heap.lt_size e)) (Heap.get?_push_of_some _ e)
 have fH3: ∀ b∈fp,H3 b=none:=fun b hb=>by
  rw [<- hH3,ai (Nat.ne_of_lt (hf2 b hb))]
  exact (f2 b hb).1
 have hclos: ∀ y c,(cy X.env.cells scope.names).lookup y=some c->X.env.cells.lookup y=some c:=fun y c e=>cu e
 have hcell3: ∀ y c,X.env.cells.lookup y=some c->c<h3.objs.size:=fun y c e=>by
  obtain ⟨v,o,ho,_⟩:=I3.cell y c e
  exact Heap.lt_size ho
 have hlt3:X.env.locals<h3.objs.size:=I3.lt
 have Yok:(ca X x x2 x3 ys scope h3.objs.size {s2 with heap:=h3} H3 fp).Ok:={
  mod:=I.ok.mod
  kind:=ok.kind
  glob:=I.ok.glob
  blt:=I.ok.blt
  above:=Nat.le_refl _
  inj:=fun y z c e1 e2=>I.ok.inj y z c (hclos _ _ e1) (hclos _ _ e2)
  has:=fun y hk=>by
   have hfr:(y,NameKind.free)∈scope.names:=by
    have hm: ∃ k,(aL X.env.scope scope).lookup y=some k/\(k=.cell\/k=.free):=by
     rcases hk with hk | hk
     ·exact ⟨_,hk,.inl rfl⟩
     ·exact ⟨_,hk,.inr rfl⟩
    obtain ⟨k,hk,hkk⟩:=hm
    have hmem:=mem_of_lookup hk
    unfold aL at hmem
    obtain ⟨⟨n,k0⟩,hn,en⟩:=List.mem_map.mp hmem
    dsimp only at en
    split at en
    ·rename_i hc
     simp only [Bool.and_eq_true]at hc
     have hk0:k0=.free:=by simpa using hc.1.1
     cases en
     rw [<- hk0]
     exact hn
    ·cases en
     rcases hkk with e | e
     ·exact absurd e (ok.nocell _ hn)
     ·rw [<- e]
      exact hn
   obtain ⟨c,hc⟩:=hfree _ hfr rfl
   exact ⟨c,bE hc hfr⟩
  cab:=fun y c hf _=>by cases hf
  hd:=I.ok.hd
  frames:=I.ok.frames
  stk:=.inl rfl
  exf:=fun b hb=>⟨fun e=>absurd (hf2 b hb) (by rw [e];exact Nat.not_lt.mpr (Nat.le_of_lt hps)),fun y c e=>(f2 b hb).2.2.2.2.1 y c (hclos _ _ e)⟩
  bs:=fun b o e=>⟨(I3.bs b o e).1,(I3.bs b o e).2⟩
  bsz:=Nat.le_trans I.ok.bsz I3.sz
  noex:=fun b o e hb=>by
   rcases (f2 b hb).2.2.2.1 with q | q
   ·exact I.ok.noex b o e q
   ·have h1:b<X.base.objs.size:=Heap.lt_size e
    exact absurd h1 (Nat.not_lt.mpr (Nat.le_trans I.ok.bsz q))
  exfs:=fun b hb hm=>by
   rcases List.mem_cons.mp (I3.stkSub b hm)with q | q
   ·exact (f2 b hb).2.1 q
   ·exact (f2 b hb).2.2.1 q
  funs:=I3.stack
  frf:=I3.stkFree}
 have IY:Inv (ca X x x2 x3 ys scope h3.objs.size {s2 with heap:=h3} H3 fp) [] (none::none::none::bp fr σ) H3 {s2 with heap:=h₁,toks:=s2.toks+ ([]:List (Str×Value)).length}:={
  ok:=Yok
  os:=rfl
  bare:=I2.bare
  base:=Un.kept hold
  loc:=by
   refine ⟨_,hns₁,fun i y v hy hv hvis=>?_⟩
   match i,hy,hv with
   | 0,_,hv=>cases hv
   | 1,_,hv=>cases hv
   | 2,_,hv=>cases hv
   | j+3,hy,hv=>
    have hy':ys[j]? =some y:=hy
    have hv':(bp fr σ)[j]? =some (some v):=hv
    unfold bp at hv'
    rw [List.getElem?_map]at hv'
    obtain ⟨i0,hi0,hv0⟩:=Option.map_eq_some_iff.mp hv'
    have hz:(y,i0)∈ys.zip fr:=by
     refine List.mem_iff_getElem?.mpr ⟨j,?_⟩
     rw [List.getElem?_zip_eq_some]
     exact ⟨hy',hi0⟩
    obtain ⟨hn,hk,hk2⟩:=ok.sl _ hz
    have hσ:σ[i0]? =some (some v):=by
     cases e:σ[i0]? with
     | none=>rw [e]at hv0;cases hv0
     | some o=>
      rw [e]at hv0
      rw [show o=some v from hv0]
    obtain ⟨m,hm,hl⟩:=I3.loc
    obtain ⟨u,ru,lk⟩:=hl i0 y v hn hσ (.inr (.inl hk))
    refine ⟨u,ru,.inr ⟨.inl hk2,?_⟩⟩
    rcases lk with ⟨a,_⟩ | ⟨_,c,hc,hcell⟩
    ·have a':X.env.scope.names.lookup y=some .local:=a
     have hk':X.env.scope.names.lookup y=some .cell:=hk
     rw [hk']at a'
     cases a'
    ·have hfr:(y,NameKind.free)∈scope.names:=by
      have hmem:=mem_of_lookup hk2
      unfold aL at hmem
      obtain ⟨⟨n,k0⟩,hn0,en⟩:=List.mem_map.mp hmem
      dsimp only at en
      split at en
      ·rename_i hc0
       simp only [Bool.and_eq_true]at hc0
       have hk0:k0=.free:=by simpa using hc0.1.1
       cases en
       rw [<- hk0]
       exact hn0
      ·cases en
       exact absurd rfl (ok.nocell _ hn0)
     exact ⟨c,bE hc hfr,hcell.keeps hold⟩
  cell:=fun y c e=>by
   obtain ⟨v,hv⟩:=I3.cell y c (hclos _ _ e)
   exact ⟨v,hv.keeps hold⟩
  free:=I3.fresh
  freeC:=fun y c e=>I3.freeC y c (hclos _ _ e)
  pin:=fun q hq=>by cases hq
  hok:=I3.hok.kept hold
  len:=by
   show (none::none::none::bp fr σ).length=(x::x2::x3::ys).length
   rw [List.length_cons,List.length_cons,List.length_cons,List.length_cons,List.length_cons,List.length_cons,ok.len]
   unfold bp
   rw [List.length_map]}
 have hxl:(ca X x x2 x3 ys scope h3.objs.size {s2 with heap:=h3} H3 fp).env.scope.names.lookup x=some .local:=ok.xl
 have hxl2:(ca X x x2 x3 ys scope h3.objs.size {s2 with heap:=h3} H3 fp).env.scope.names.lookup x2=some .local:=ok.xl2
 have hxl3:(ca X x x2 x3 ys scope h3.objs.size {s2 with heap:=h3} H3 fp).env.scope.names.lookup x3=some .local:=ok.xl3
 have pgx:PG (ca X x x2 x3 ys scope h3.objs.size {s2 with heap:=h3} H3 fp) (.Tuple [.Name x px,.Name x2 px2,.Name x3 px3] kk tpos) (uV X.K 3 (iW (c3 0) (iW (c3 1) (iW (c3 2) uW)))):=
  cQ hcalm (aG (av (i:=0) ok.nd rfl (.inl hxl) (.inr hxl)) (aG (av (i:=1) ok.nd rfl (.inl hxl2) (.inr hxl2)) (aG (av (i:=2) ok.nd rfl (.inl hxl3) (.inr hxl3)) cn)))
 have pel:=hE h3.objs.size {s2 with heap:=h3} H3 fp
 obtain ⟨W,⟨m0,w0⟩,turn⟩:=W0
 have stat: ∀ {H':Hp},(∀ b∈fp,H' b=none)-> ∀ b∈fp,im (ca X x x2 x3 ys scope h3.objs.size {s2 with heap:=h3} H3 fp) [] H' b:=fun hn b hb=>
  ⟨hn b hb,(Yok.exf b hb).1,Yok.exfs b hb,.inl hb,(Yok.exf b hb).2,fun q hq=>by cases hq⟩
 have loop:codeAny (model X.prog X.w) X.A (.compLoop (.ListComp elt [⟨.Tuple [.Name x px,.Name x2 px2,.Name x3 px3] kk tpos,iter,[],0⟩] scope pos) 0 (.ref it) (.ref p) (compEnvC scope (cy X.env.cells scope.names) h3.objs.size X.env))
   (compPost (model X.prog X.w) X.A X.xe use Qv (.ref p) h3.objs.size) {s2 with heap:=h₁,toks:=s2.toks+ ([]:List (Str×Value)).length}:=by
  refine c5 (fun n s'=> ∃ i zs v0 w0 z0 H',Inv (ca X x x2 x3 ys scope h3.objs.size {s2 with heap:=h3} H3 fp) [] (v0::w0::z0::bp fr σ) H' s'/\tn i s'.heap/\(∀ b∈fp,H' b=none)/\W i n zs H') ?_ m0
   ⟨0,[],none,none,none,H3,IY,T.keep _ _ _ st3 fun b hb o e=>hold b o e,fH3,w0⟩
  rintro n s5 ⟨i,zs,v0,wv0,zv0,H5,I5,st5,fr5,w5⟩
  obtain ⟨hacc,turn5⟩:=turn i n zs H5 w5
  rcases turn5 with ⟨stop,qn⟩ | ⟨go,hlen,step⟩
  ·refine thn (T.done (ca X x x2 x3 ys scope h3.objs.size {s2 with heap:=h3} H3 fp) rfl rfl rfl hcalm i [] s5 _ H5 _ I5 (stat fr5) st5 stop) fun r s6 ⟨hr,I6⟩=>?_
   subst hr
   obtain ⟨m6,n6,_⟩:=I6.loc
   refine fin p h3.objs.size H5 s6 m6 (I3.call' I6.os I6.base I6.hok I6.bare fun b hb=>⟨(f2 b hb).2.2.2.1,(f2 b hb).2.1,(f2 b hb).2.2.2.2.1,(f2 b hb).2.2.2.2.2⟩) n6 I6.free (Nat.ne_of_gt hlt3) I3.sz (fun y c e=>Nat.ne_of_lt (hcell3 y c e)) (fun q hq=>?_) qn
   exact Nat.ne_of_lt (Heap.lt_size (I3.pin q hq).1)
  ·refine thn (T.item (ca X x x2 x3 ys scope h3.objs.size {s2 with heap:=h3} H3 fp) rfl rfl rfl hcalm i [] s5 _ H5 _ I5 (stat fr5) st5 go) fun r s6 ⟨u,hr,h6⟩=>?_
   subst hr
   refine thn h6 fun _ s7 ⟨xv,H7,I7,r7,y7,st7,fr7⟩=>?_
   have I7':=I7.pinned (stat fr7) (T.obj _ _ st7)
   obtain ⟨T7,v1,v2,v3,eT,hT7,step7⟩:=step xv H7 y7
   refine thn (pgx _ s7 _ H7 xv u (fun σ' H'=>σ'=some v1::some v2::some v3::bp fr σ/\H'=H7) I7' r7 ⟨T7,[v1,v2,v3],eT,SqT.of hT7,rfl,v1,[v2,v3],rfl,v2,[v3],rfl,v3,[],rfl,rfl,rfl,rfl⟩) fun _ s8 ⟨σ8,H8,I8,e8,e8'⟩=>?_
   subst e8 e8'
   refine thn (pel _ s8 _ H8 _ I8 step7) fun yv s9 ⟨v9,H9,I9,r9,hp9,m',hm',w9⟩=>?_
   refine thn (bo _ s9 _ H9 (.ref p) [v9] (.ref p) [yv] (fun _ H'=>H'=upd H9 p (.lst (zs++[v9]))) I9 rfl (.cons r9 .nil) ⟨p,zs,v9,rfl,rfl,hp9,hlen,rfl⟩) fun _ s10 ⟨_,H10,I10,_,e10⟩=>?_
   subst e10
   refine ⟨m',hm',i+1,zs++[v9],some v1,some v2,some v3,_,I10.unpinned,T.keep _ _ _ st7 fun b hb o e=>(I10.pin (b,o) (List.mem_append_right _ (List.mem_append_right _ (bc hb e)))).1,fun b hb=>?_,w9⟩
   obtain ⟨o,e,d⟩:=T.obj _ _ st7 b hb
   exact (I10.pin (b,o) (List.mem_append_right _ (List.mem_append_right _ (bc hb e)))).2.1
 exact codeAny_compStart_list loop (T.self X.A 0 _ _ _ (T.keep _ _ _ st3 fun b hb o e=>hold b o e) loop)
theorem qL (hcalm:X.calm=true) (hi:PI X (.Tuple [.Name x px,.Name x2 px2,.Name x3 px3] kk tpos) iter wi) (hsc:X.env.scope=sc0) (hN:X.N=N0) (ok:nV sc0 N0 scope x x2 x3 ys fr)
  (hE: ∀ C s H ex,PE (ca X x x2 x3 ys scope C s H ex) elt te) (hs: ∀ v,foldedSetIterable iter X.env v=pure v:=by intro _;rfl):
  PE X (.ListComp elt [⟨.Tuple [.Name x px,.Name x2 px2,.Name x3 px3] kk tpos,iter,[],0⟩] scope pos) (pR wi fr te):=by
 intro pins s σ H Q I h
 rw [eval_ListComp]
 refine mh (use:=none) (Qv:=EP X pins σ Q) (Q:=Q) hcalm hi hsc hN ok hE I h hs fun p C H' s' m I' hn h0 h1 h2 h3 h4 q=>?_
 refine ⟨m,hn,fun h' sb=>⟨.ref p,H',I'.turned (t':=s'.toks) (fun b o hb e=>sb.extBut b o hb e) h0 (Ne.symm (Ne.symm h1)) (.inr h2) h3 h4,rfl,q⟩⟩
end
end L2
namespace My
open PySem L2
inductive Ts (H:Hp):List V->List V->Prop where
 | nil:Ts H [] []
 | cons {a:Addr} {k:Str} {r vs out:List V}:H a=some (.tup (.str k::r))->k.length<=1000->r.length<=3->Ts H (a9 (.str k::r)++vs) out->Ts H (.ref a::vs) (.ref a::out)
theorem Ts.len {H:Hp} {ws out:List V} (h:Ts H ws out):ws.length<=out.length:=by
 induction h with
 | nil=>exact Nat.le_refl _
 | cons _ _ _ _ ih=>
  rw [List.length_append]at ih
  rw [List.length_cons,List.length_cons]
  lia
noncomputable def gn:Sp:=fun vs H Q _=> ∃ v out,vs=[v]/\Ts H [v] out/\out.length<=1000/\ ∀ p H',Same H H'->H' p=some (.lst out)->Q (.ref p) H'
theorem scTuples:aA ["formula","found","waiting","one"] ["formula"] (ag je):=fsc
theorem oB (F:Fun K "tuples_of" "tuples_of" je f fd)
  (GI:FnOk P w K mg base CX0 1 f2 fd2 ["formula"] nh) (bI:Binds K fd2 ["formula"] []) (kI:PySem.W.keepIn K (.ref f2)=true) (mI:mg "inner_of"=some (.ref f2)):
  FnOk P w K mg base CX0 2 f fd ["formula"] gn:=by
 refine F.ok scTuples (fun vs H Q E h=>?_) (fun cdv A outer s H vs Q E hr h=>?_)
 ·obtain ⟨v,b,rfl,_⟩:=h
  rfl
 obtain ⟨v,out,rfl,hT,hout,q⟩:=h
 refine ⟨_,ad (al (i:=1) scTuples.nd rfl (Or.inl rfl) (aY ac))
  (ad (al (i:=2) scTuples.nd rfl (Or.inl rfl) (aY (aa (pv 0) ac)))
  (ad (gO PassesOwn.never (qD (pv 2) (fun _=>rfl))
   (ad (al (i:=3) scTuples.nd rfl (Or.inl rfl) (qN PySem.F.plainAttrs_list PySem.F.slot_list_pop PySem.F.type_list_pop rf (pv 2)))
   (ad (bG (c9 PySem.F.plainAttrs_list PySem.F.slot_list_append PySem.F.type_list_append bo (pv 1) (aa (pv 3) ac)))
   (aj (bG (c9 PySem.F.plainAttrs_list PySem.F.slot_list_extend PySem.F.type_list_extend nH (pv 2) (aa (qO (ak GI hr rfl mI kI bI .nil am (aa (pv 3) ac)) (fG dB af)) ac)))))))
  (aj (ax (pv 1))))),?_⟩
 refine ⟨(by show 0<=sizeLine;decide),fun p1 h1=>?_⟩
 refine ⟨_,rfl,(by show 1<=sizeLine;decide),fun p2 h2=>?_⟩
 dsimp only [uj,lg,c3,tC]
 have n21:p1≠p2:=fun e=>by
  subst e
  rw [ab]at h2
  cases h2
 have h2':H p2=none:=by rw [ai (Ne.symm n21)]at h2;exact h2
 refine pJ (fun σ H'=> ∃ (ws done rest:List V) (o:Option V),σ=[some v,some (.ref p1),some (.ref p2),o]/\H' p1=some (.lst done)/\H' p2=some (.lst ws.reverse)/\Same H H'/\Ts H ws rest/\done++rest=out)
  (fun _ H'=>match H' p1 with | some (.lst d)=>out.length-d.length | _=>0) ⟨[v],[],out,none,rfl,by rw [ai n21,ab],ab,(ae h1 _).trans (ae h2 _),hT,rfl⟩ ?_ ?_
 ·rintro σ H' ⟨ws,done,rest,o,rfl,g1,g2,sm,hW,he⟩
  refine ⟨_,rfl,_,.inl ⟨ws.reverse,SqL.of g2,rfl⟩,?_⟩
  have hle:done.length+rest.length=out.length:=by rw [<- he,List.length_append]
  cases hW with
  | nil=>
   refine aU ?_
   refine ⟨_,rfl,?_⟩
   rw [List.append_nil]at he
   subst he
   exact q _ _ sm g1
  | @cons a k r vs rest' ha hk hr3 ht=>
   have ne:(!((V.ref a::vs).reverse).isEmpty)=true:=by simp
   refine dw (fun _=>?_) (fun c=>absurd ne c)
   rw [List.reverse_cons]at g2
   refine ⟨_,rfl,.inl ⟨rfl,_,SqL.of g2⟩,p2,_,.ref a,rfl,rfl,g2,by simp,?_⟩
   rw [List.dropLast_concat]
   have l1: ∀ {c:Addr} {oo:HO},H c=some oo->c≠p1:=fun h=>ah h h1
   have l2: ∀ {c:Addr} {oo:HO},H c=some oo->c≠p2:=fun h=>ah h h2'
   rw [List.length_cons]at hle
   refine ⟨_,rfl,.inl ⟨rfl,_,SqL.of (show upd H' p2 (.lst vs.reverse) p1=some (.lst done) by rw [ai n21];exact g1)⟩,_,rfl,p1,done,.ref a,rfl,rfl,by rw [ai n21];exact g1,ao (by lia),?_⟩
   have sm1:Same H (upd (upd H' p2 (.lst vs.reverse)) p1 (.lst (done++[.ref a]))):=fun c oo h=>by rw [ai (l1 h),ai (l2 h)];exact sm c oo h
   have k2:upd (upd H' p2 (.lst vs.reverse)) p1 (.lst (done++[.ref a])) p2=some (.lst vs.reverse):=by rw [ai (Ne.symm n21),ab]
   refine ⟨_,rfl,.inl ⟨rfl,_,SqL.of k2⟩,_,rfl,a,k,r,rfl,sm1 _ _ ha,by lia,fun p H3 sm4 hp=>?_⟩
   have k1':H3 p1=some (.lst (done++[.ref a])):=sm4 _ _ ab
   have k2':H3 p2=some (.lst vs.reverse):=sm4 _ _ k2
   have hil:(a9 (.str k::r)).length<=3:=by
    show (if (cS k).isSome=true then r else []).length<=3
    split
    ·exact hr3
    ·exact Nat.zero_le _
   refine ⟨_,rfl,p,_,rfl,rfl,SqT.of hp,fun p4 h4=>?_⟩
   have n41:p1≠p4:=ah k1' h4
   have n42:p2≠p4:=ah k2' h4
   have hlv:=ht.len
   rw [List.length_append]at hlv
   refine ⟨p2,p4,_,_,rfl,rfl,by rw [ai n42];exact k2',SqT.of ab,?_,?_⟩
   ·rw [List.length_reverse,List.length_reverse]
    exact Nat.le_of_lt (ao (by lia))
   ·refine ⟨⟨a9 (.str k::r)++vs,done++[.ref a],rest',_,rfl,by rw [ai n21,ai n41];exact k1',by rw [ab,List.reverse_append],fun c oo h=>?_,ht,by rw [List.append_assoc];exact he⟩,?_⟩
    ·have h3:=sm4 _ _ (sm1 c oo h)
     rw [ai (l2 h),ai (ah h3 h4)]
     exact h3
    ·rw [ai n21,ai n41,k1',g1]
     show out.length- (done++[V.ref a]).length<out.length-done.length
     rw [List.length_append,List.length_singleton]
     lia
 ·rintro σ H' Q1 Q2 hq ⟨y,e1,k,t,h⟩
  exact ⟨y,e1,k,t,hq _ _ h⟩
theorem cr {J:It} {α:Type} {as:List α} {A:α->V->Prop} {xs:List V} {fr:List Nat} {te:TE} {σ:St} {H1:Hp} {Q:VK} (hn:xs.length<=1000) (hP:Paired A as xs)
  (hgo: ∀ i H,Same H1 H->i<xs.length->J.go i H) (hst: ∀ H,Same H1 H->J.stop xs.length H) (hy: ∀ i H v H',Same H1 H->J.yld i H v H'->H'=H/\xs[i]? =some v)
  (R:Hp->α->V->Prop) (mono: ∀ {H H':Hp} {a:α} {v:V},TK H H'->R H a v->R H' a v)
  (hte: ∀ a v H (k:VK),a∈as->A a v->Same H1 H->(∀ u H',Same H H'->R H' a u->k u H')->te (some v::bp fr σ) H k)
  (hd: ∀ p zs H',H1 p=none->Same H1 H'->H' p=some (.lst zs)->Paired (R H') as zs->Q (.ref p) H'):fg fr te σ J H1 Q:=by
 intro p hp
 have hl:as.length=xs.length:=Paired.length hP
 refine ⟨fun i m zs H=>i<=xs.length/\m=xs.length-i/\Same H1 H/\H p=some (.lst zs)/\zs.length=i/\Paired (R H) (as.take i) zs,⟨_,Nat.zero_le _,rfl,ae hp _,ab,rfl,.nil⟩,?_⟩
 rintro i m zs H ⟨hi,hm,sm,gp,hz,hT⟩
 refine ⟨gp,?_⟩
 by_cases e:i=xs.length
 ·subst e
  rw [<- hl,List.take_length]at hT
  exact .inl ⟨hst H sm,hd p zs H hp sm gp hT⟩
 ·have hlt:i<xs.length:=by lia
  refine .inr ⟨hgo i H sm hlt,ao (by lia),fun v H' hv=>?_⟩
  obtain ⟨rfl,hv2⟩:=hy i H v H' sm hv
  obtain ⟨a,ha,hA⟩:=aM hP hv2
  refine hte a v _ _ (List.mem_of_getElem? ha) hA sm fun u H2 s2 r=>?_
  have gp2:=s2 _ _ gp
  have tk:TK H2 (upd H2 p (.lst (zs++[u]))):=TK.lst gp2
  refine ⟨gp2,xs.length- (i+1),by lia,by lia,rfl,?_,ab,by rw [List.length_append,hz];rfl,?_⟩
  ·intro b o hb
   rw [ai (ah hb hp)]
   exact s2 _ _ (sm _ _ hb)
  ·rw [List.take_add_one,ha]
   exact Paired.snoc (Paired.mapP hT fun _ _ r=>mono ((aF s2).trans tk) r) (mono tk r)
theorem nT {α:Type} {J:It} {as:List α} {xs:List V} {A:α->V->Prop} {fr:List Nat} {tc:TT} {te:TE} {σ:St} {H1:Hp} {Q:VK} (hn:xs.length<=1000) (hP:Paired A as xs)
  (hgo: ∀ i H,Same H1 H->i<xs.length->J.go i H) (hst: ∀ H,Same H1 H->J.stop xs.length H) (hy: ∀ i H v H',Same H1 H->J.yld i H v H'->H'=H/\xs[i]? =some v)
  (c:α->Bool) (R:Hp->α->V->Prop) (mono: ∀ {H H':Hp} {a:α} {v:V},TK H H'->R H a v->R H' a v)
  (htc: ∀ a v H (k:Bool->Hp->Prop),a∈as->A a v->Same H1 H->(∀ H',Same H H'->k (c a) H')->tc (some v::bp fr σ) H k)
  (hte: ∀ a v H (k:VK),a∈as->A a v->c a=true->Same H1 H->(∀ u H',Same H H'->R H' a u->k u H')->te (some v::bp fr σ) H k)
  (hd: ∀ p zs H',H1 p=none->Same H1 H'->H' p=some (.lst zs)->Paired (R H') (as.filter c) zs->Q (.ref p) H'):mG fr tc te σ J H1 Q:=by
 intro p hp
 refine ⟨fun i m zs H=>i<=xs.length/\m=xs.length-i/\Same H1 H/\H p=some (.lst zs)/\zs.length<=i/\Paired (R H) ((as.take i).filter c) zs,⟨_,Nat.zero_le _,rfl,ae hp _,ab,Nat.le_refl _,.nil⟩,?_⟩
 rintro i m zs H ⟨hi,hm,sm,gp,hz,hT⟩
 refine ⟨gp,?_⟩
 by_cases e:i=xs.length
 ·subst e
  rw [<- Paired.length hP,List.take_length]at hT
  exact .inl ⟨hst H sm,hd p zs H hp sm gp hT⟩
 ·have hlt:i<xs.length:=by lia
  refine .inr ⟨hgo i H sm hlt,ao (by lia),fun v H' hv=>?_⟩
  obtain ⟨rfl,hv2⟩:=hy i H v H' sm hv
  obtain ⟨a,ha,hA⟩:=aM hP hv2
  have etk:(as.take (i+1)).filter c=(as.take i).filter c++(if c a then [a]else []):=by
   rw [List.take_add_one,ha,List.filter_append]
   congr 1
   show List.filter c [a]=_
   by_cases hc:c a=true
   ·rw [if_pos hc,List.filter_cons_of_pos hc];rfl
   ·rw [if_neg hc,List.filter_cons_of_neg hc];rfl
  refine htc a v _ _ (List.mem_of_getElem? ha) hA sm fun H0 s0=>?_
  have sm0:=sm.trans s0
  have gp0:=s0 _ _ gp
  by_cases hc:c a=true
  ·rw [if_pos hc]at etk
   rw [if_pos hc]
   refine hte a v _ _ (List.mem_of_getElem? ha) hA hc sm0 fun u H2 s2 r=>?_
   have gp2:=s2 _ _ gp0
   have tk:TK H2 (upd H2 p (.lst (zs++[u]))):=TK.lst gp2
   refine ⟨gp2,xs.length- (i+1),by lia,by lia,rfl,?_,ab,by rw [List.length_append];show zs.length+1<=i+1;lia,?_⟩
   ·intro b o hb
    rw [ai (ah hb hp)]
    exact s2 _ _ (sm0 _ _ hb)
   ·rw [etk]
    exact Paired.snoc (Paired.mapP hT fun _ _ r=>mono ((aF (s0.trans s2)).trans tk) r) (mono tk r)
  ·rw [if_neg hc,List.append_nil]at etk
   rw [if_neg hc]
   exact ⟨xs.length- (i+1),by lia,by lia,rfl,sm0,gp0,by lia,by rw [etk];exact Paired.mapP hT fun _ _ r=>mono (aF s0) r⟩
theorem eV {K:PySem.W.Frag} {a:Addr} {xs:List V} {H1:Hp} (ha:H1 a=some (.lst xs)): ∀ i H,Same H1 H->i<xs.length->(Itl K a).go i H:=fun i H s h=>⟨xs,xs[i],SqL.of (s _ _ ha),List.getElem?_eq_getElem h⟩
theorem eU {K:PySem.W.Frag} {a:Addr} {xs:List V} {H1:Hp} (ha:H1 a=some (.lst xs)): ∀ H,Same H1 H->(Itl K a).stop xs.length H:=fun H s=>⟨xs,SqL.of (s _ _ ha),Nat.le_refl _⟩
theorem gY {K:PySem.W.Frag} {a:Addr} {xs:List V} {H1:Hp} (ha:H1 a=some (.lst xs)): ∀ i H v H',Same H1 H->(Itl K a).yld i H v H'->H'=H/\xs[i]? =some v:=fun i H v H' s hv=>⟨hv.1,by obtain ⟨rfl,hv⟩:=hv;exact hv xs (SqL.of (s _ _ ha))⟩
theorem dO {K:PySem.W.Frag} {a:Addr} {xs:List V} {H1:Hp} (ha:H1 a=some (.tup xs)): ∀ i H,Same H1 H->i<xs.length->(Itt K a).go i H:=fun i H s h=>⟨xs,xs[i],SqT.of (s _ _ ha),List.getElem?_eq_getElem h⟩
theorem dN {K:PySem.W.Frag} {a:Addr} {xs:List V} {H1:Hp} (ha:H1 a=some (.tup xs)): ∀ H,Same H1 H->(Itt K a).stop xs.length H:=fun H s=>⟨xs,SqT.of (s _ _ ha),Nat.le_refl _⟩
theorem fz {K:PySem.W.Frag} {a:Addr} {xs:List V} {H1:Hp} (ha:H1 a=some (.tup xs)): ∀ i H v H',Same H1 H->(Itt K a).yld i H v H'->H'=H/\xs[i]? =some v:=fun i H v H' s hv=>⟨hv.1,by obtain ⟨rfl,hv⟩:=hv;exact hv xs (SqT.of (s _ _ ha))⟩
theorem cf {α:Type} {g:α->V}: ∀ {l:List α} {zs:List V},Paired (fun a v=>v=g a) l zs->zs=l.map g
 | _,_,.nil=>rfl
 | _,_,.cons h t=>by rw [h,cf t];rfl
noncomputable def Fm.prt:Fm->List Int
 | .num _=>[]
 | .own _=>[]
 | .part k _=>[k]
 | .bin _ a b=>a.prt++b.prt
 | .whn a b c=>a.prt++(b.prt++c.prt)
noncomputable def Fm.lvl:Fm->Prop
 | .num _=>True
 | .own _=>False
 | .part _ _=>True
 | .bin op a b=>a.lvl/\b.lvl/\(op="times"-> ∀ k∈a.prt,k∉b.prt)
 | .whn _ _ _=>False
noncomputable def Fm.lfs:Fm->Nat
 | .num _=>1
 | .own _=>1
 | .part _ _=>1
 | .bin _ a b=>a.lfs+b.lfs
 | .whn a b c=>a.lfs+b.lfs+c.lfs
theorem dI: ∀ f:Fm,f.lfs<=f.size
 | .num _=>Nat.le_refl _
 | .own _=>Nat.le_refl _
 | .part _ _=>Nat.le_refl _
 | .bin _ a b=>by
  have:=dI a
  have:=dI b
  show a.lfs+b.lfs<=a.size+b.size+1
  lia
 | .whn a b c=>by
  have:=dI a
  have:=dI b
  have:=dI c
  show a.lfs+b.lfs+c.lfs<=a.size+b.size+c.size+1
  lia
noncomputable def LvP (ρ:Fm->Prop) (H:Hp) (rs:List V):Prop:= ∀ v∈rs,∃ k x,Rep H (.part k x) v/\(Fm.part k x).wfp ρ
theorem LvP.mono {ρ:Fm->Prop} {H H':Hp} (t:TK H H') {rs:List V} (h:LvP ρ H rs):LvP ρ H' rs:=fun v hv=>by
 obtain ⟨k,x,r,w⟩:=h v hv
 exact ⟨k,x,r.mono t,w⟩
theorem LvP.leafs {ρ:Fm->Prop} {H:Hp} {rs:List V} (h:LvP ρ H rs):we ρ H rs:=fun v hv=>by
 obtain ⟨k,x,r,w⟩:=h v hv
 exact ⟨_,r,w,rfl⟩
theorem cV {ρ:Fm->Prop} {S:Int->Prop} (hS: ∀ k x,ρ (.part k x)->S k): ∀ {f:Fm},f.wfp ρ-> ∀ k∈f.prt,S k
 | .num _,_,k,h=>by cases h
 | .own _,_,k,h=>by cases h
 | .part j x,w,k,h=>by rw [List.mem_singleton.mp h];exact hS j x w.2
 | .bin _ a b,w,k,h=>by
  rcases List.mem_append.mp h with h | h
  ·exact cV hS w.2.1 k h
  ·exact cV hS w.2.2 k h
 | .whn a b c,w,k,h=>by
  rcases List.mem_append.mp h with h | h
  ·exact cV hS w.1 k h
  ·rcases List.mem_append.mp h with h | h
   ·exact cV hS w.2.1 k h
   ·exact cV hS w.2.2 k h
theorem db {ρ τ:Fm->Prop} (hS: ∀ f,ρ f->τ f): ∀ {f:Fm},f.wfp ρ->f.wfp τ
 | .num _,h=>h
 | .own _,h=>⟨h.1,hS _ h.2⟩
 | .part _ _,h=>⟨h.1,hS _ h.2⟩
 | .bin _ _ _,h=>⟨h.1,db hS h.2.1,db hS h.2.2⟩
 | .whn _ _ _,h=>⟨db hS h.1,db hS h.2.1,db hS h.2.2⟩
theorem kn {ρ:Fm->Prop} (hno: ∀ x,¬ ρ (.own x)) {f:Fm} (w:f.wfp ρ) (h:f.size=1):f.lvl:=by
 cases f with
 | num _=>trivial
 | own x=>exact (hno x w.2).elim
 | part _ _=>trivial
 | bin _ a b=>have:=a.size_pos;have:a.size+b.size+1=1:=h;lia
 | whn a b c=>have:=a.size_pos;have:a.size+b.size+c.size+1=1:=h;lia
noncomputable def vp (n:Nat) (ρ:Fm->Prop):Sp:=fun vs H Q _=> ∃ (tp rl sg:Addr) (rs:List V) (room:Int) (ss:List Str),vs=[.ref tp,.ref rl,.int room,.ref sg]/\Tp H tp/\rl≠tp/\sg≠tp/\H rl=some (.lst rs)/\rs.length<=1000/\LvP ρ H rs/\
 H sg=some (.lst (ss.map V.str))/\1<=ss.length/\ss.length<=1000/\(∀ x∈ss,x∈ops)/\1<=room/\room<=(n:Int)/\room<=1000/\ ∀ v f H',Rep H' f v->f.wfp ρ->f.lvl->((f.size:Int)<=2*room-1/\(f.lfs:Int)<=room)->Kp tp H H'->Tp H' tp->Q v H'
theorem gW (tp:Addr) (H:Hp) (o:HO):Kp tp H (upd H tp o):=fun b u h hb=>by rw [ai hb];exact h
theorem nK {tp:Addr} {H H':Hp} (s:Same H H'):Kp tp H H':=fun b u h _=>s _ _ h
theorem ue {ρ:Fm->Prop} {H:Hp}: ∀ {rs:List V},LvP ρ H rs-> ∃ ks:List Int,Paired (fun (k:Int) v=> ∃ x,Rep H (.part k x) v/\(Fm.part k x).wfp ρ) ks rs
 | [],_=>⟨[],.nil⟩
 | v::r,h=>by
  obtain ⟨ks,hk⟩:=ue (rs:=r) fun u hu=>h u (List.mem_cons_of_mem _ hu)
  obtain ⟨k,x,hR,hw⟩:=h v List.mem_cons_self
  exact ⟨k::ks,.cons ⟨x,hR,hw⟩ hk⟩
theorem rm {ρ:Fm->Prop} {S:Int->Prop} {H:Hp}: ∀ {ks:List Int} {zs:List V},Paired (fun (k:Int) v=> ∃ x,Rep H (.part k x) v/\(Fm.part k x).wfp ρ) ks zs->(∀ k∈ks,S k)->LvP (fun g=>ρ g/\ ∀ k x,g=.part k x->S k) H zs
 | _,_,.nil,_,v,hv=>by cases hv
 | _,_,.cons ⟨x,hR,hw⟩ t,hS,v,hv=>by
  rcases List.mem_cons.mp hv with e | e
  ·subst e
   exact ⟨_,x,hR,hw.1,hw.2,fun k y z=>by cases z;exact hS _ List.mem_cons_self⟩
  ·exact rm t (fun k hk=>hS k (List.mem_cons_of_mem _ hk)) v e
theorem FnOk.exA {P:Program} {w:World} {K:PySem.W.Frag} {mg:Str->Option Value} {base:Heap} {CX:CXT} {k:Nat} {f:Addr} {fd:FuncData} {ps:List Str} {α:Type} {sp:α->Sp} (h: ∀ a,FnOk P w K mg base CX k f fd ps (sp a)):FnOk P w K mg base CX k f fd ps (fun vs H Q E=> ∃ a,sp a vs H Q E):=
 ⟨fun vs H Q E ⟨a,z⟩=>(h a).len vs H Q E z,fun A o s H args us vs Q E r e b v ⟨a,z⟩=>(h a).run A o s H args us vs Q E r e b v z⟩
noncomputable def gx (n:Nat):Sp:=fun vs H Q E=> ∃ ρ:Fm->Prop,(∀ x,¬ ρ (.own x))/\vp n ρ vs H Q E
noncomputable def nc:Sp:=fun vs H Q E=> ∃ ρ:Fm->Prop,mZ ρ vs H Q E
noncomputable abbrev vb:List Str:=["tape","readings","room","signs","left","sign","one","cut","some","others","other"]
theorem scLvF:aA vb ["tape","readings","room","signs"] (ag cB):=fsc
theorem sQ {n:Nat} (F:Fun K "_law_level_formula" "_law_level_formula" cB f fd) (G:Gb mg)
  (GD:FnOk P w K mg base CX0 1 f2 fd2 ["tape","many"] aT) (bD:Binds K fd2 ["tape","many"] []) (kD:PySem.W.keepIn K (.ref f2)=true) (mD:mg "_law_digit"=some (.ref f2))
  (GL:FnOk P w K mg base CX0 3 f3 fd3 ["tape","readings"] nc) (bL:Binds K fd3 ["tape","readings"] []) (kL:PySem.W.keepIn K (.ref f3)=true) (mL:mg "_law_leaf"=some (.ref f3))
  (GS:FnOk P w K mg base CX0 (n+3) f fd ["tape","readings","room","signs"] (gx n)) (bS:Binds K fd ["tape","readings","room","signs"] []) (mS:mg "_law_level_formula"=some (.ref f)):
  FnOk P w K mg base CX0 (n+4) f fd ["tape","readings","room","signs"] (gx (n+1)):=by
 refine F.ok scLvF (fun vs H Q E h=>?_) (fun cdv A outer s H vs Q E hr h=>?_)
 ·obtain ⟨ρ,_,tp,rl,sg,rs,room,ss,rfl,_⟩:=h
  rfl
 obtain ⟨ρ,hno,tp,rl,sg,rs,room,ss,rfl,ht,n1,n2,hrl,hrs,hlv,hsg,hs1,hs2,hso,h1,h2,h3,q⟩:=h
 have hr1:=hr.mono (show 1<=n+3 by lia)
 have hr3:=hr.mono (show 3<=n+3 by lia)
 refine ⟨_,ad (aV (PW.pt (iI (au iM (pv 2) af (aH _)) (fq (au cp (ak GD hr1 rfl mD kD bD .nil am (aa (pv 0) (aa af ac))) af (aH _)))))
   (aj (ax (ak GL hr3 rfl mL kL bL .nil am (aa (pv 0) (aa (pv 1) ac))))) aK)
  (ad (al (i:=4) scLvF.nd rfl (Or.inl rfl) (ay aZ af (ak GD hr1 rfl mD kD bD .nil am (aa (pv 0) (aa (ay dn (pv 2) af) ac)))))
  (ad (al (i:=5) scLvF.nd rfl (Or.inl rfl) (aq aO (pv 3) (ak GD hr1 rfl mD kD bD .nil am (aa (pv 0) (aa (aJ aC rfl G.len PySem.boot_len (aa (pv 3) ac)) ac))) (fun _ _=>rfl)))
  (ad (aV (au gT (pv 5) aE (aH _))
   (ad (al (i:=6) scLvF.nd rfl (Or.inl rfl) (ak GS hr rfl mS F.kp bS .nil am (aa (pv 0) (aa (pv 1) (aa (pv 4) (aa (pv 3) ac))))))
   (aj (ax (aB (aa (pv 5) (aa (pv 6) (aa (ak GS hr rfl mS F.kp bS .nil am (aa (pv 0) (aa (pv 1) (aa (ay dn (pv 2) (pv 4)) (aa (pv 3) ac))))) ac))))))) aK)
  (ad (al (i:=7) scLvF.nd rfl (Or.inr rfl) (ak GD hr1 rfl mD kD bD .nil am (aa (pv 0) (aa af ac))))
  (ad (j7 (i:=8) (sc0:=ag cB) (N0:=vb) (ys:=["cut"]) (fr:=[7]) rfl scLvF.nd rfl (Or.inl rfl) (cY (pv 1)) rfl rfl
    cok
    (fun C s H ex=>au cp (aq (r:=ot K) aw (pv 0) af (fun _ _=>rfl)) (pv 1) (aH _)) (fun C s H ex=>pv 0))
  (ad (j7 (i:=9) (sc0:=ag cB) (N0:=vb) (ys:=["cut"]) (fr:=[7]) rfl scLvF.nd rfl (Or.inl rfl) (cY (pv 1)) rfl rfl
    cok
    (fun C s H ex=>au gT (aq (r:=ot K) aw (pv 0) af (fun _ _=>rfl)) (pv 1) (aH _)) (fun C s H ex=>pv 0))
  (ad (al (i:=6) scLvF.nd rfl (Or.inl rfl) (ak GS hr rfl mS F.kp bS .nil am (aa (pv 0) (aa (pv 8) (aa (pv 4) (aa (pv 3) ac))))))
  (ad (al (i:=10) scLvF.nd rfl (Or.inl rfl) (ak GS hr rfl mS F.kp bS .nil am (aa (pv 0) (aa (pv 9) (aa (ay dn (pv 2) (pv 4)) (aa (pv 3) ac))))))
  (aj (ax (aq aO (aY (aa (aB (aa aE (aa (pv 6) (aa (pv 10) ac)))) (aa (aB (aa aE (aa (pv 10) (aa (pv 6) ac)))) ac))) (ak GD hr1 rfl mD kD bD .nil am (aa (pv 0) (aa af ac))) (fun _ _=>rfl)))))))))))),?_⟩
 have hsl:(ss.map V.str).length=ss.length:=List.length_map _
 refine ⟨_,rfl,room,2,rfl,rfl,_,rfl,?_⟩
 refine dw (fun c=>bg ?_) (fun c=>?_)
 ·exact ⟨_,rfl,_,rfl,ρ,tp,rl,rs,rfl,ht,n1,hrl,hrs,hlv.leafs,fun v g H2 hR hw hz k2 t2=>q v g H2 hR hw (kn hno hw hz) (by have:=dI g;lia) k2 t2⟩
 have hroom:2<=room:=by
  have: ¬ room<2:=fun z=>c (decide_eq_true z)
  lia
 refine ⟨_,rfl,tp,5,rfl,ht,by decide,by decide,fun d t d0 d1=>?_⟩
 have k1:Kp tp H (upd H tp (.lst [.int t])):=gW _ _ _
 have t1:Tp (upd H tp (.lst [.int t])) tp:=⟨t,ab⟩
 generalize upd H tp (.lst [.int t])=H1 at k1 t1 ⊢
 refine ⟨rfl,_,rfl,?_⟩
 refine dw (fun c1=>?_) (fun c1=>?_)
 ·exact ⟨_,rfl,_,rfl,ρ,tp,rl,rs,rfl,t1,n1,k1 _ _ hrl n1,hrs,(hlv.mono (k1.tk ht)).leafs,fun v g H2 hR hw hz k2 t2=>q v g H2 hR hw (kn hno hw hz) (by have:=dI g;lia) (k1.trans k2) t2⟩
 refine ⟨_,rfl,_,rfl,room,1,rfl,rfl,tp,room-1,rfl,t1,by lia,by lia,fun d2 u2 e0 e1=>?_⟩
 have k2:=k1.trans (gW tp H1 (.lst [.int u2]))
 have t2:Tp (upd H1 tp (.lst [.int u2])) tp:=⟨u2,ab⟩
 generalize upd H1 tp (.lst [.int u2])=H2 at k2 t2 ⊢
 refine ⟨1,d2,rfl,rfl,?_⟩
 refine ⟨_,rfl,_,rfl,_,rfl,sg,_,rfl,.inl (SqL.of (k2 _ _ hsg n2)),tp,_,rfl,t2,by lia,by lia,fun d3 u3 g0 g1=>?_⟩
 have k3:=k2.trans (gW tp H2 (.lst [.int u3]))
 have t3:Tp (upd H2 tp (.lst [.int u3])) tp:=⟨u3,ab⟩
 generalize upd H2 tp (.lst [.int u3])=H3 at k3 t3 ⊢
 obtain ⟨sv,eat,eix⟩:=cU g0 g1
 rw [List.getElem?_map]at eix
 obtain ⟨sn,hsn,rfl⟩:=Option.map_eq_some_iff.mp eix
 have hop:=hso sn (List.mem_of_getElem? hsn)
 refine ⟨sg,_,_,_,rfl,rfl,SqL.of (k3 _ _ hsg n2),eat,?_⟩
 refine ⟨_,rfl,rfl,_,rfl,?_⟩
 have tp3:=k3.tk ht
 by_cases hne:sn="times"
 ·subst hne
  rw [show (!decide (V.str "times"=V.str "times"))=false by rw [decide_eq_true rfl];rfl]
  refine aU ?_
  refine ⟨_,rfl,tp,3,rfl,t3,by decide,by decide,fun d4 u4 _ _=>?_⟩
  have k4:=k3.trans (gW tp H3 (.lst [.int u4]))
  have t4:Tp (upd H3 tp (.lst [.int u4])) tp:=⟨u4,ab⟩
  generalize upd H3 tp (.lst [.int u4])=H4 at k4 t4 ⊢
  have hrl4:=k4 _ _ hrl n1
  obtain ⟨ks,hks⟩:=ue (hlv.mono (k4.tk ht))
  refine ⟨_,rfl,rl,rfl,⟨_,SqL.of hrl4⟩,?_⟩
  refine nT hrs hks (eV hrl4) (eU hrl4) (gY hrl4) (fun k=>decide (V.int k=V.int d4)) (fun H k v=> ∃ x,Rep H (.part k x) v/\(Fm.part k x).wfp ρ) (fun t ⟨x,hR,hw⟩=>⟨x,hR.mono t,hw⟩) ?_ ?_ ?_
  ·rintro k v Ha kk _ ⟨x,⟨b,rfl,hb⟩,_⟩ sa hk
   exact ⟨_,rfl,b,_,1,.int k,rfl,rfl,SqT.of (sa _ _ hb),ar (j:=1) rfl,_,rfl,rfl,_,rfl,hk Ha (Same.refl Ha)⟩
  ·rintro k v Ha kk _ ⟨x,hR,hw⟩ _ sa hk
   exact ⟨_,rfl,hk _ Ha (Same.refl Ha) ⟨x,hR.mono (aF sa),hw⟩⟩
  intro p5 zs H5 hp5 s5 gz hz
  have k5:=k4.trans (nK (tp:=tp) s5)
  have hrl5:=s5 _ _ hrl4
  refine ⟨_,rfl,rl,rfl,⟨_,SqL.of hrl5⟩,?_⟩
  refine nT hrs (Paired.mapP hks fun k v ⟨x,hR,hw⟩=>(⟨x,hR.mono (aF s5),hw⟩: ∃ x,Rep H5 (.part k x) v/\(Fm.part k x).wfp ρ)) (eV hrl5) (eU hrl5) (gY hrl5) (fun k=> !decide (V.int k=V.int d4)) (fun H k v=> ∃ x,Rep H (.part k x) v/\(Fm.part k x).wfp ρ) (fun t ⟨x,hR,hw⟩=>⟨x,hR.mono t,hw⟩) ?_ ?_ ?_
  ·rintro k v Ha kk _ ⟨x,⟨b,rfl,hb⟩,_⟩ sa hk
   exact ⟨_,rfl,b,_,1,.int k,rfl,rfl,SqT.of (sa _ _ hb),ar (j:=1) rfl,_,rfl,rfl,_,rfl,hk Ha (Same.refl Ha)⟩
  ·rintro k v Ha kk _ ⟨x,hR,hw⟩ _ sa hk
   exact ⟨_,rfl,hk _ Ha (Same.refl Ha) ⟨x,hR.mono (aF sa),hw⟩⟩
  intro p6 ys H6 hp6 s6 gy hy
  have k6:=k5.trans (nK (tp:=tp) s6)
  have ntp: ∀ {H':Hp} {b:Addr},Tp H' tp->H' b=none->b≠tp:=fun ⟨u,hu⟩ hb z=>by rw [z,hu]at hb;cases hb
  have t5:Tp H5 tp:=by obtain ⟨u,hu⟩:=t4;exact ⟨u,s5 _ _ hu⟩
  have t6:Tp H6 tp:=by obtain ⟨u,hu⟩:=t5;exact ⟨u,s6 _ _ hu⟩
  have n5:=ntp t4 hp5
  have n6:=ntp t5 hp6
  have lk:=Paired.length hks
  have lz:=Paired.length hz
  have ly:=Paired.length hy
  have lf1:=List.length_filter_le (fun k=>decide (V.int k=V.int d4)) ks
  have lf2:=List.length_filter_le (fun k=> !decide (V.int k=V.int d4)) ks
  have L1:LvP (fun g=>ρ g/\ ∀ k x,g=.part k x->k=d4) H6 zs:=(rm (S:=fun k=>k=d4) hz fun k hk=>V.int.inj (of_decide_eq_true (List.mem_filter.mp hk).2)).mono (aF s6)
  have L2:LvP (fun g=>ρ g/\ ∀ k x,g=.part k x->k≠d4) H6 ys:=rm (S:=fun k=>k≠d4) hy fun k hk z=>by
   have:=(List.mem_filter.mp hk).2
   rw [z,decide_eq_true rfl]at this
   cases this
  refine ⟨_,rfl,_,rfl,_,rfl,_,rfl,_,fun x h=>hno x h.1,tp,p5,sg,zs,1+d2,ss,rfl,t6,n5,n2,s6 _ _ gz,by lia,L1,k6 _ _ hsg n2,hs1,hs2,hso,by lia,by lia,by lia,fun v1 f1 H7 hR1 hw1 hl1 hz1 k7 t7=>?_⟩
  have k07:=k6.trans k7
  refine ⟨_,rfl,_,rfl,_,rfl,_,rfl,room,1+d2,rfl,rfl,_,rfl,_,fun x h=>hno x h.1,tp,p6,sg,ys,room- (1+d2),ss,rfl,t7,n6,n2,k7 _ _ gy n6,by lia,L2.mono (k7.tk t6),k07 _ _ hsg n2,hs1,hs2,hso,by lia,by lia,by lia,fun v2 f2 H8 hR2 hw2 hl2 hz2 k8 t8=>?_⟩
  have hR1':=hR1.mono (k8.tk t7)
  refine ⟨_,rfl,_,rfl,(by show 3<=sizeLine;decide),fun pa hpa=>?_⟩
  have s9:=ae hpa (.tup [.str "times",v1,v2])
  have g9:(upd H8 pa (.tup [.str "times",v1,v2])) pa=some (.tup [.str "times",v1,v2]):=ab
  generalize upd H8 pa (.tup [.str "times",v1,v2])=H9 at s9 g9 ⊢
  refine ⟨_,rfl,_,rfl,(by show 3<=sizeLine;decide),fun pb hpb=>?_⟩
  have s10:=ae hpb (.tup [.str "times",v2,v1])
  have g10:(upd H9 pb (.tup [.str "times",v2,v1])) pb=some (.tup [.str "times",v2,v1]):=ab
  generalize upd H9 pb (.tup [.str "times",v2,v1])=H10 at s10 g10 ⊢
  refine ⟨(by show 2<=sizeLine;decide),fun pl hpl=>?_⟩
  have s11:=ae hpl (.lst [.ref pa,.ref pb])
  have g11:(upd H10 pl (.lst [.ref pa,.ref pb])) pl=some (.lst [.ref pa,.ref pb]):=ab
  generalize upd H10 pl (.lst [.ref pa,.ref pb])=H11 at s11 g11 ⊢
  have S11:=s9.trans (s10.trans s11)
  have t11:Tp H11 tp:=by obtain ⟨u,hu⟩:=t8;exact ⟨u,S11 _ _ hu⟩
  have t10:Tp H10 tp:=by obtain ⟨u,hu⟩:=t8;exact ⟨u,s10 _ _ (s9 _ _ hu)⟩
  refine ⟨_,rfl,tp,2,rfl,t11,by decide,by decide,fun d5 u5 h50 h51=>?_⟩
  have k12:=gW tp H11 (.lst [.int u5])
  have t12:Tp (upd H11 tp (.lst [.int u5])) tp:=⟨u5,ab⟩
  generalize upd H11 tp (.lst [.int u5])=H12 at k12 t12 ⊢
  have kall:=k07.trans (k8.trans ((nK (tp:=tp) S11).trans k12))
  have T12:TK H8 H12:=fun b xs h=>k12.tk t11 _ _ (S11 _ _ h)
  have gl:=k12 _ _ g11 (ntp t10 hpl)
  have ga:=k12.tk t11 _ _ (s11 _ _ (s10 _ _ g9))
  have gb:=k12.tk t11 _ _ (s11 _ _ g10)
  have pr1:=cV (S:=fun k=>k=d4) (fun k x h=>h.2 k x rfl) hw1
  have pr2:=cV (S:=fun k=>k≠d4) (fun k x h=>h.2 k x rfl) hw2
  have W1:=db (τ:=ρ) (fun f h=>h.1) hw1
  have W2:=db (τ:=ρ) (fun f h=>h.1) hw2
  have hd5:d5=0\/d5=1:=by lia
  rcases hd5 with rfl | rfl
  ·refine ⟨pl,_,0,.ref pa,rfl,rfl,SqL.of gl,bY,q _ (.bin "times" f1 f2) H12 ⟨pa,v1,v2,rfl,ga,hR1'.mono T12,hR2.mono T12⟩ ⟨hop,W1,W2⟩ ⟨hl1,hl2,fun _ k a b=>pr2 k b (pr1 k a)⟩ ?_ kall t12⟩
   show ((f1.size+f2.size+1:Nat):Int)<=_/\((f1.lfs+f2.lfs:Nat):Int)<=_
   lia
  ·refine ⟨pl,_,1,.ref pb,rfl,rfl,SqL.of gl,ar (j:=1) rfl,q _ (.bin "times" f2 f1) H12 ⟨pb,v2,v1,rfl,gb,hR2.mono T12,hR1'.mono T12⟩ ⟨hop,W2,W1⟩ ⟨hl2,hl1,fun _ k a b=>pr2 k a (pr1 k b)⟩ ?_ kall t12⟩
   show ((f2.size+f1.size+1:Nat):Int)<=_/\((f2.lfs+f1.lfs:Nat):Int)<=_
   lia
 ·rw [show (!decide (V.str sn=V.str "times"))=true by rw [decide_eq_false fun z=>hne (V.str.inj z)];rfl]
  refine bg ?_
  refine ⟨_,rfl,_,rfl,_,rfl,_,rfl,ρ,hno,tp,rl,sg,rs,1+d2,ss,rfl,t3,n1,n2,k3 _ _ hrl n1,hrs,hlv.mono tp3,k3 _ _ hsg n2,hs1,hs2,hso,by lia,by lia,by lia,fun v1 f1 H4 hR1 hw1 hl1 hz1 k4 t4=>?_⟩
  have k04:=k3.trans k4
  refine ⟨_,rfl,_,rfl,_,rfl,_,rfl,_,rfl,_,rfl,room,1+d2,rfl,rfl,_,rfl,ρ,hno,tp,rl,sg,rs,room- (1+d2),ss,rfl,t4,n1,n2,k04 _ _ hrl n1,hrs,hlv.mono (k04.tk ht),k04 _ _ hsg n2,hs1,hs2,hso,by lia,by lia,by lia,fun v2 f2 H5 hR2 hw2 hl2 hz2 k5 t5=>⟨(by show 3<=sizeLine;decide),fun p hp=>?_⟩⟩
  have s6:=ae hp (.tup [.str sn,v1,v2])
  have k56:Kp tp H5 (upd H5 p (.tup [.str sn,v1,v2])):=nK s6
  refine q _ (.bin sn f1 f2) _ ⟨p,v1,v2,rfl,ab,hR1.mono ((k5.trans k56).tk t4),hR2.mono (aF s6)⟩ ⟨hop,hw1,hw2⟩ ⟨hl1,hl2,fun z=>absurd z hne⟩ ?_ (k04.trans (k5.trans k56)) ?_
  ·show ((f1.size+f2.size+1:Nat):Int)<=_/\((f1.lfs+f2.lfs:Nat):Int)<=_
   lia
  ·obtain ⟨u,hu⟩:=t5
   exact ⟨u,s6 _ _ hu⟩
theorem sR:FnOk P w K mg base CX0 3 f fd ["tape","readings","room","signs"] (gx 0):=
 ⟨fun vs H Q E h=>by
  obtain ⟨ρ,_,tp,rl,sg,rs,room,ss,rfl,_⟩:=h
  rfl,fun A o s H args us vs Q E r e b v h=>by
  obtain ⟨ρ,hno,tp,rl,sg,rs,room,ss,_,_,_,_,_,_,_,_,_,_,_,h1,h2,_⟩:=h
  have h2:room<=0:=h2
  lia⟩
theorem qW (F:Fun K "_law_level_formula" "_law_level_formula" cB f fd) (G:Gb mg)
  (GD:FnOk P w K mg base CX0 1 f2 fd2 ["tape","many"] aT) (bD:Binds K fd2 ["tape","many"] []) (kD:PySem.W.keepIn K (.ref f2)=true) (mD:mg "_law_digit"=some (.ref f2))
  (GL:FnOk P w K mg base CX0 3 f3 fd3 ["tape","readings"] nc) (bL:Binds K fd3 ["tape","readings"] []) (kL:PySem.W.keepIn K (.ref f3)=true) (mL:mg "_law_leaf"=some (.ref f3))
  (bS:Binds K fd ["tape","readings","room","signs"] []) (mS:mg "_law_level_formula"=some (.ref f)): ∀ n:Nat,FnOk P w K mg base CX0 (n+3) f fd ["tape","readings","room","signs"] (gx n)
 | 0=>sR
 | n+1=>sQ F G GD bD kD mD GL bL kL mL (qW F G GD bD kD mD GL bL kL mL bS mS n) bS mS
noncomputable def RK (ks:List Key):Prop:=(∃ x:Str,ks=[.inr "own",.inr x]/\x.length<=1000)\/ ∃ (i:Int) (x:Str),ks=[.inr "part",.inl i,.inr x]/\x.length<=1000
inductive Tw (H:Hp):List V->List V->List (List Key)->Prop where
 | nil:Tw H [] [] []
 | rd {a:Addr} {ks:List Key} {vs out:List V} {rs:List (List Key)}:H a=some (.tup (ks.map kV))->RK ks->Tw H vs out rs->Tw H (.ref a::vs) (.ref a::out) (ks::rs)
 | num {a:Addr} {r vs out:List V} {rs:List (List Key)}:H a=some (.tup (.str "num"::r))->r.length<=3->Tw H vs out rs->Tw H (.ref a::vs) (.ref a::out) rs
 | inn {a:Addr} {k:Str} {r vs out:List V} {rs:List (List Key)}:H a=some (.tup (.str k::r))->(cS k).isSome=true->k.length<=1000->r.length<=3->Tw H (r++vs) out rs->Tw H (.ref a::vs) (.ref a::out) rs
theorem Tw.mono {H H':Hp} {ws out:List V} {rs:List (List Key)} (t:TK H H') (h:Tw H ws out rs):Tw H' ws out rs:=by
 induction h with
 | nil=>exact .nil
 | rd a b _ ih=>exact .rd (t _ _ a) b ih
 | num a b _ ih=>exact .num (t _ _ a) b ih
 | inn a b c d _ ih=>exact .inn (t _ _ a) b c d ih
theorem nr {ks:List Key} (h:RK ks): ∃ (k:Str) (r:List V),ks.map kV=.str k::r/\(k="own"\/k="part")/\r.length<=3/\cS k=none:=by
 rcases h with ⟨x,rfl,_⟩ | ⟨i,x,rfl,_⟩
 ·exact ⟨"own",_,rfl,.inl rfl,by simp,fB⟩
 ·exact ⟨"part",_,rfl,.inr rfl,by simp,et⟩
theorem Tw.ts {H:Hp} {ws out:List V} {rs:List (List Key)} (h:Tw H ws out rs):Ts H ws out:=by
 induction h with
 | nil=>exact .nil
 | @rd a ks vs out rs ha hk t ih=>
  obtain ⟨k,r,e,hk2,hl,hi⟩:=nr hk
  rw [e]at ha
  refine .cons ha ?_ hl ?_
  ·rcases hk2 with rfl | rfl <;> decide +kernel
  ·have:a9 (.str k::r)=[]:=by simp only [a9,hi];rfl
   rw [this]
   exact ih
 | @num a r vs out rs ha hl t ih=>
  refine .cons ha (by decide +kernel) hl ?_
  have:a9 (.str "num"::r)=[]:=by simp only [a9,iT];rfl
  rw [this]
  exact ih
 | @inn a k r vs out rs ha hi hk hl t ih=>
  refine .cons ha hk hl ?_
  have:a9 (.str k::r)=r:=by simp only [a9,hi];rfl
  rw [this]
  exact ih
inductive Tr (H:Hp):List V->List (List Key)->Prop where
 | nil:Tr H [] []
 | rd {a:Addr} {ks:List Key} {out:List V} {rs:List (List Key)}:H a=some (.tup (ks.map kV))->RK ks->Tr H out rs->Tr H (.ref a::out) (ks::rs)
 | no {a:Addr} {k:Str} {r out:List V} {rs:List (List Key)}:H a=some (.tup (.str k::r))-> ¬ k="own"-> ¬ k="part"->Tr H out rs->Tr H (.ref a::out) rs
theorem Tw.tr {H:Hp} {ws out:List V} {rs:List (List Key)} (h:Tw H ws out rs):Tr H out rs:=by
 induction h with
 | nil=>exact .nil
 | rd a b _ ih=>exact .rd a b ih
 | num a _ _ ih=>exact .no a (by decide +kernel) (by decide +kernel) ih
 | @inn a k r vs out rs ha hi _ _ _ ih=>
  refine .no ha (fun e=>?_) (fun e=>?_) ih
  ·rw [e,fB]at hi;cases hi
  ·rw [e,et]at hi;cases hi
noncomputable def dd (acc:List (List Key)):List (List Key)->List (List Key)
 | []=>acc
 | k::r=>dd (if k∈acc then acc else acc++[k]) r
theorem ko (kvs:List (List Key×V)) (k:List Key) (v:V):(bz kvs k v).map (·.1)=if k∈kvs.map (·.1)then kvs.map (·.1)else kvs.map (·.1)++[k]:=by
 unfold bz
 by_cases h:k∈kvs.map (·.1)
 ·rw [if_pos h,if_pos,List.map_map]
  ·refine List.map_congr_left fun x _=>?_
   show (if x.1=k then (x.1,v)else x).1=x.1
   split <;> rfl
  ·obtain ⟨x,hx,e⟩:=List.mem_map.mp h
   exact List.any_eq_true.mpr ⟨x,hx,decide_eq_true e⟩
 ·rw [if_neg h,if_neg,List.map_append]
  ·rfl
  ·intro z
   obtain ⟨x,hx,e⟩:=List.any_eq_true.mp z
   exact h (List.mem_map.mpr ⟨x,hx,of_decide_eq_true e⟩)
theorem fM (k:Str):inV (.str k) [.str "own",.str "part"]=(decide (k="own")||decide (k="part")):=by
 show (("own"==k)||(("part"==k)||false))=_
 rw [Bool.or_false]
 by_cases h1:k="own"
 ·subst h1;decide +kernel
 ·by_cases h2:k="part"
  ·subst h2;decide +kernel
  ·rw [decide_eq_false h1,decide_eq_false h2]
   have e1:(("own":Str)==k)=false:=beq_eq_false_iff_ne.mpr fun e=>h1 e.symm
   have e2:(("part":Str)==k)=false:=beq_eq_false_iff_ne.mpr fun e=>h2 e.symm
   rw [e1,e2]
noncomputable def mX:Sp:=fun vs H Q _=> ∃ v out rs,vs=[v]/\Tw H [v] out rs/\out.length<=1000/\ ∀ p ys H',H p=none->Same H H'->H' p=some (.lst ys)->KsOf H' ys (dd [] rs)->Q (.ref p) H'
theorem scReads:aA ["formula","found","one"] ["formula"] (ag lr):=fsc
theorem qS (F:Fun K "readings_of" "readings_of" lr f fd) (hlist:mg "list"=none) (mR:mg "READINGS"=some (.ref aR)) (hR: ∀ H,SqT K H aR [.str "own",.str "part"])
  (GT:FnOk P w K mg base CX0 2 f2 fd2 ["formula"] gn) (bT:Binds K fd2 ["formula"] []) (kT:PySem.W.keepIn K (.ref f2)=true) (mT:mg "tuples_of"=some (.ref f2)):
  FnOk P w K mg base CX0 3 f fd ["formula"] mX:=by
 refine F.ok scReads (fun vs H Q E h=>?_) (fun cdv A outer s H vs Q E hr h=>?_)
 ·obtain ⟨v,b,_,rfl,_⟩:=h
  rfl
 obtain ⟨v,out,rs,rfl,hT,hout,q⟩:=h
 have hu:=hr.units
 refine ⟨_,ad (al (i:=1) scReads.nd rfl (Or.inl rfl) kd)
  (ad (bA PassesOwn.never rfl (cY (ak GT hr rfl mT kT bT .nil am (aa (pv 0) ac))) (av (i:=2) scReads.nd rfl (Or.inl rfl))
   (aj (aV (au da (aq aw (pv 2) af (fun _ _=>rfl)) (jq (v:=.ref aR) rfl mR rfl) (by with_unfolding_all rfl))
    (aj (cX (cT hr) (pv 1) (pv 2) dr rfl)) aK)))
  (aj (ax (aS (mw rfl) rfl hlist (by decide +kernel) (aa (pv 1) ac))))),?_⟩
 refine fun pd hd=>?_
 have s0:=ae hd (.dT [])
 have g0:(upd H pd (.dT [])) pd=some (.dT []):=ab
 generalize upd H pd (.dT [])=H0 at s0 g0 ⊢
 refine ⟨_,rfl,v,out,rfl,(hT.mono (fun _ _ h=>s0 _ _ h)).ts,hout,fun p1 H1 s1 h1=>⟨p1,rfl,⟨out,SqL.of h1⟩,?_⟩⟩
 have S1:=s0.trans s1
 have n1:pd≠p1:=fun e=>by
  subst e
  have:=s1 _ _ g0
  rw [h1]at this
  cases this
 refine hJ (xs:=out) (fun i σ H'=>i<=out.length/\ ∃ o kvs rs',σ=[some v,some (.ref pd),o]/\H' pd=some (.dT kvs)/\H' p1=some (.lst out)/\Same H H'/\Tr H (out.drop i) rs'/\dd (kvs.map (·.1)) rs'=dd [] rs/\kvs.length<=i)
  ⟨Nat.zero_le _,none,[],rs,rfl,s1 _ _ g0,h1,S1,hT.tr,rfl,Nat.le_refl _⟩ (fun i σ H' _ h=>by obtain ⟨_,_,_,_,_,_,gp,_⟩:=h;exact SqL.of gp) ?_ ?_
 ·rintro i x σ H' hx ⟨hi,o,kvs,rs',rfl,gd,gp,sm,hTr,hdd,hl⟩
  have hlt:i<out.length:=(List.getElem?_eq_some_iff.mp hx).1
  have hdr:out.drop i=x::out.drop (i+1):=by
   rw [List.drop_eq_getElem_cons hlt]
   have:out[i]? =some out[i]:=List.getElem?_eq_getElem hlt
   rw [hx]at this
   rw [Option.some.inj this]
  rw [hdr]at hTr
  cases hTr with
  | @rd a ks _ rs'' ha hk t=>
   obtain ⟨k,r,e,hk2,_,_⟩:=nr hk
   have ha':=sm _ _ ha
   refine ⟨_,rfl,a,_,0,_,rfl,rfl,SqT.of (by rw [<- e];exact ha'),bY,aR,_,rfl,.inr (hR _),rfl,rfl,_,rfl,?_⟩
   refine dw (fun _=>?_) (fun c=>absurd ?_ c)
   ·refine ⟨_,rfl,_,rfl,pd,_,rfl,DPut.t gd ha' (ao (by lia)),?_⟩
    refine ⟨hlt,_,_,rs'',rfl,ab,by rw [ai (Ne.symm n1)];exact gp,fun c oo h=>by rw [ai (ah h hd)];exact sm c oo h,t,?_,?_⟩
    ·rw [ko];exact hdd
    ·have:=congrArg List.length (ko kvs ks (.bl true))
     rw [List.length_map]at this
     rw [this]
     split
     ·rw [List.length_map];lia
     ·rw [List.length_append,List.length_map,List.length_singleton];lia
   ·show inV (.str k) [.str "own",.str "part"]=true
    rw [fM]
    rcases hk2 with rfl | rfl <;> rfl
  | @no a k r _ _ ha h1' h2' t=>
   refine ⟨_,rfl,a,_,0,_,rfl,rfl,SqT.of (sm _ _ ha),bY,aR,_,rfl,.inr (hR _),rfl,rfl,_,rfl,?_⟩
   refine dw (fun c=>absurd c ?_) (fun _=>?_)
   ·show ¬ inV (.str k) [.str "own",.str "part"]=true
    rw [fM,decide_eq_false h1',decide_eq_false h2']
    decide
   ·exact ⟨hlt,_,_,rs',rfl,gd,gp,sm,t,hdd,by lia⟩
 ·rintro σ H' ⟨_,o,kvs,rs',rfl,gd,gp,sm,hTr,hdd,hl⟩
  rw [List.drop_length]at hTr
  cases hTr
  refine ⟨_,rfl,pd,kvs,rfl,gd,fun p ys hp hk=>?_⟩
  have e:kvs.map (·.1)=dd [] rs:=hdd
  rw [e]at hk
  exact q p ys _ (sm.free hp) (fun c oo h=>by rw [ai (ah (sm c oo h) hp)];exact sm c oo h) ab (hk.mono fun b xs h=>by rw [ai (ah h hp)];exact h)
noncomputable def eL (r:Rul):List Key:=[.inl r.pl,.inr r.word]
noncomputable abbrev vc:List Str:=["form","found","at","word","formula"]
noncomputable def Fm.rdk:Fm->List (List Key)
 | .num _=>[]
 | .own x=>[[.inr "own",.inr x]]
 | .part k x=>[[.inr "part",.inl k,.inr x]]
 | .bin _ a b=>a.rdk++b.rdk
 | .whn a b c=>a.rdk++(b.rdk++c.rdk)
noncomputable def fsz:List Fm->Nat
 | []=>0
 | f::r=>f.size+fsz r
noncomputable def jl:List Fm->List (List Key)
 | []=>[]
 | f::r=>f.rdk++jl r
theorem Tw.of {H:Hp}: ∀ (n:Nat) {fs:List Fm} {ws:List V},fsz fs=n->Paired (fun f v=>Rep H f v/\f.wf) fs ws-> ∃ out,Tw H ws out (jl fs)/\out.length=n:=by
 intro n
 induction n using Nat.strongRecOn with
 | _ n ih=>
  intro fs ws hn h
  cases h with
  | nil=>exact ⟨[],.nil,hn⟩
  | @cons f v fs ws hf t=>
   obtain ⟨rp,wf⟩:=hf
   have hn:f.size+fsz fs=n:=hn
   cases f with
   | num i=>
    obtain ⟨a,rfl,ha⟩:=rp
    have hn:1+fsz fs=n:=hn
    obtain ⟨out,h1,h2⟩:=ih (fsz fs) (by lia) rfl t
    exact ⟨_,.num ha (by simp) h1,by rw [List.length_cons,h2];lia⟩
   | own x=>
    obtain ⟨a,rfl,ha⟩:=rp
    have hn:1+fsz fs=n:=hn
    obtain ⟨out,h1,h2⟩:=ih (fsz fs) (by lia) rfl t
    exact ⟨_,.rd (ks:=[.inr "own",.inr x]) ha (.inl ⟨x,rfl,gh wf⟩) h1,by rw [List.length_cons,h2];lia⟩
   | part k x=>
    obtain ⟨a,rfl,ha⟩:=rp
    obtain ⟨w0,w1⟩:(0<=k/\k<=2)/\cA x=true:=wf
    have hn:1+fsz fs=n:=hn
    obtain ⟨out,h1,h2⟩:=ih (fsz fs) (by lia) rfl t
    exact ⟨_,.rd (ks:=[.inr "part",.inl k,.inr x]) ha (.inr ⟨k,x,rfl,gh w1⟩) h1,by rw [List.length_cons,h2];lia⟩
   | bin op A B=>
    obtain ⟨a,u,w,rfl,ha,r1,r2⟩:=rp
    obtain ⟨ho,w1,w2⟩:op∈ops/\A.wf/\B.wf:=wf
    have hn:A.size+B.size+1+fsz fs=n:=hn
    obtain ⟨out,h1,h2⟩:=ih (A.size+ (B.size+fsz fs)) (by lia) (fs:=A::B::fs) rfl (.cons ⟨r1,w1⟩ (.cons ⟨r2,w2⟩ t))
    refine ⟨.ref a::out,?_,by rw [List.length_cons,h2];lia⟩
    rw [show jl (Fm.bin op A B::fs)=jl (A::B::fs)from List.append_assoc _ _ _]
    exact .inn ha (by rw [iS ho];rfl) (iK ho) (by simp) h1
   | whn A B C=>
    obtain ⟨a,u,w,z,rfl,ha,r1,r2,r3⟩:=rp
    obtain ⟨w1,w2,w3⟩:A.wf/\B.wf/\C.wf:=wf
    have hn:A.size+B.size+C.size+1+fsz fs=n:=hn
    obtain ⟨out,h1,h2⟩:=ih (A.size+ (B.size+ (C.size+fsz fs))) (by lia) (fs:=A::B::C::fs) rfl (.cons ⟨r1,w1⟩ (.cons ⟨r2,w2⟩ (.cons ⟨r3,w3⟩ t)))
    refine ⟨.ref a::out,?_,by rw [List.length_cons,h2];lia⟩
    rw [show jl (Fm.whn A B C::fs)=jl (A::B::C::fs)from by show (A.rdk++(B.rdk++C.rdk))++jl fs=A.rdk++(B.rdk++(C.rdk++jl fs));rw [List.append_assoc,List.append_assoc]]
    exact .inn ha (by rw [hG];rfl) (by decide +kernel) (by simp) h1
theorem Tw.of1 {H:Hp} {f:Fm} {v:V} (r:Rep H f v) (wf:f.wf): ∃ out,Tw H [v] out f.rdk/\out.length=f.size:=by
 obtain ⟨out,h1,h2⟩:=Tw.of (H:=H) f.size (fs:=[f]) (ws:=[v]) rfl (.cons ⟨r,wf⟩ .nil)
 rw [show jl [f]=f.rdk from List.append_nil _]at h1
 exact ⟨out,h1,h2⟩
theorem md {ks:List Key}: ∀ {rs acc:List (List Key)},ks∈dd acc rs↔ks∈acc\/ks∈rs
 | [],acc=>by
  show ks∈acc↔_
  exact ⟨.inl,fun h=>h.elim id fun z=>by cases z⟩
 | x::r,acc=>by
  show ks∈dd (if x∈acc then acc else acc++[x]) r↔_
  rw [md (rs:=r),List.mem_cons]
  by_cases h:x∈acc
  ·rw [if_pos h]
   exact ⟨fun z=>z.elim .inl fun z=>.inr (.inr z),fun z=>z.elim .inl fun z=>z.elim (fun e=>.inl (by rw [e];exact h)) .inr⟩
  ·rw [if_neg h,List.mem_append,List.mem_singleton]
   exact ⟨fun z=>z.elim (fun z=>z.elim .inl fun z=>.inr (.inl z)) fun z=>.inr (.inr z),fun z=>z.elim (fun z=>.inl (.inl z)) fun z=>z.elim (fun z=>.inl (.inr z)) .inr⟩
theorem prt_rdk {k:Int}: ∀ {fm:Fm},k∈fm.prt↔ ∃ x:Str,([.inr "part",.inl k,.inr x]:List Key)∈fm.rdk
 | .num _=>⟨fun h=>(by cases h),fun ⟨x,h⟩=>(by cases h)⟩
 | .own y=>⟨fun h=>(by cases h),fun ⟨x,h⟩=>by
   have:=List.mem_singleton.mp h
   cases this⟩
 | .part i y=>⟨fun h=>⟨y,by rw [List.mem_singleton.mp h];exact List.mem_cons_self⟩,fun ⟨x,h⟩=>by
   have:=List.mem_singleton.mp h
   cases this
   exact List.mem_cons_self⟩
 | .bin _ a b=>by
  show k∈a.prt++b.prt↔ ∃ x:Str,([.inr "part",.inl k,.inr x]:List Key)∈a.rdk++b.rdk
  rw [List.mem_append,prt_rdk (fm:=a),prt_rdk (fm:=b)]
  exact ⟨fun h=>h.elim (fun ⟨x,z⟩=>⟨x,List.mem_append_left _ z⟩) fun ⟨x,z⟩=>⟨x,List.mem_append_right _ z⟩,fun ⟨x,h⟩=>(List.mem_append.mp h).elim (fun z=>.inl ⟨x,z⟩) fun z=>.inr ⟨x,z⟩⟩
 | .whn a b c=>by
  show k∈a.prt++(b.prt++c.prt)↔ ∃ x:Str,([.inr "part",.inl k,.inr x]:List Key)∈a.rdk++(b.rdk++c.rdk)
  rw [List.mem_append,List.mem_append,prt_rdk (fm:=a),prt_rdk (fm:=b),prt_rdk (fm:=c)]
  exact ⟨fun h=>h.elim (fun ⟨x,z⟩=>⟨x,List.mem_append_left _ z⟩) fun h=>h.elim (fun ⟨x,z⟩=>⟨x,List.mem_append_right _ (List.mem_append_left _ z)⟩) fun ⟨x,z⟩=>⟨x,List.mem_append_right _ (List.mem_append_right _ z)⟩,
   fun ⟨x,h⟩=>(List.mem_append.mp h).elim (fun z=>.inl ⟨x,z⟩) fun z=>(List.mem_append.mp z).elim (fun z=>.inr (.inl ⟨x,z⟩)) fun z=>.inr (.inr ⟨x,z⟩)⟩
structure FrP where
 name:Str
 own:Str
 parts:List Str
 rules:List Rul
structure BkP where
 wheel:Int
 sorts:List Srt
 forms:List FrP
noncomputable def RepFP (H:Hp) (fr:FrP) (v:V):Prop:= ∃ a pa ra rv,v=.ref a/\H a=some (.tup [.str fr.name,.str fr.own,.ref pa,.ref ra])/\H pa=some (.tup (fr.parts.map V.str))/\H ra=some (.tup rv)/\RepRs H fr.rules rv
theorem RepFP.mono {H H':Hp} (t:TK H H') {fr:FrP} {v:V}:RepFP H fr v->RepFP H' fr v:=fun ⟨a,pa,ra,rv,e,h1,h2,h3,h4⟩=>⟨a,pa,ra,rv,e,t _ _ h1,t _ _ h2,t _ _ h3,h4.mono t⟩
noncomputable def RepFPs (H:Hp) (fs:List FrP) (vs:List V):Prop:=Paired (RepFP H) fs vs
theorem RepFPs.mono {H H':Hp} (t:TK H H') {fs:List FrP} {vs:List V} (h:RepFPs H fs vs):RepFPs H' fs vs:=Paired.mapP h fun _ _ r=>r.mono t
theorem RepFPs.len {H:Hp} {fs:List FrP} {vs:List V} (h:RepFPs H fs vs):fs.length=vs.length:=Paired.length h
noncomputable def RepBP (H:Hp) (b:BkP) (v:V):Prop:= ∃ a sa fa fv,v=.ref a/\H a=some (.tup [.int b.wheel,.ref sa,.ref fa])/\SrtsAt H sa b.sorts/\H fa=some (.tup fv)/\RepFPs H b.forms fv
theorem RepBP.mono {H H':Hp} (t:TK H H') {b:BkP} {v:V}:RepBP H b v->RepBP H' b v:=fun ⟨a,sa,fa,fv,e,h1,h2,h3,h4⟩=>⟨a,sa,fa,fv,e,t _ _ h1,h2.mono t,t _ _ h3,h4.mono t⟩
noncomputable def FrP.ok (fr:FrP):Prop:=fr.rules.length<=12/\(fr.rules.map fun r=>(r.pl,r.word)).Nodup/\fr.parts.length<=10/\ ∀ r∈fr.rules,r.fm.wf/\r.fm.size<=40
noncomputable def bi:Fm->Str
 | .num _=>"num"
 | .own _=>"own"
 | .part _ _=>"part"
 | .bin op _ _=>op
 | .whn _ _ _=>"when"
noncomputable def Fm.allB (nd:Fm->Bool):Fm->Bool
 | .num n=>nd (.num n)
 | .own x=>nd (.own x)
 | .part k x=>nd (.part k x)
 | .bin op a b=>nd (.bin op a b)&&(a.allB nd&&b.allB nd)
 | .whn a b c=>nd (.whn a b c)&&(a.allB nd&&(b.allB nd&&c.allB nd))
theorem eM {H:Hp} {g:Fm} {u:V} (h:Rep H g u): ∃ a r,u=.ref a/\H a=some (.tup (.str (bi g)::r)):=by
 cases g with
 | num n=>obtain ⟨a,e,h⟩:=h;exact ⟨a,_,e,h⟩
 | own x=>obtain ⟨a,e,h⟩:=h;exact ⟨a,_,e,h⟩
 | part k x=>obtain ⟨a,e,h⟩:=h;exact ⟨a,_,e,h⟩
 | bin op x y=>obtain ⟨a,_,_,e,h,_⟩:=h;exact ⟨a,_,e,h⟩
 | whn x y z=>obtain ⟨a,_,_,_,e,h,_⟩:=h;exact ⟨a,_,e,h⟩
theorem dz {g:Fm} {gs:List Fm} (w:g.wf) (h: ∀ x∈gs,x.wf): ∀ x∈g::gs,x.wf:=fun x hx=>(List.mem_cons.mp hx).elim (fun e=>e▸w) (h x)
theorem Ts.nodes {H:Hp} {nd:Fm->Bool}: ∀ {fm:Fm} {v:V} {vs out:List V} {gs:List Fm},Rep H fm v->fm.wf->Ts H vs out->Paired (Rep H) gs out->(∀ g∈gs,g.wf)-> ∃ out' gs',Ts H (v::vs) out'/\out'.length=fm.size+out.length/\Paired (Rep H) gs' out'/\gs'.all nd=(fm.allB nd&&gs.all nd)/\ ∀ g∈gs',g.wf
 | .num n,_,vs,out,gs,R,w,t,h,hw=>by
  obtain ⟨a,rfl,ha⟩:=id R
  exact ⟨_,_,.cons ha (by decide +kernel) (by simp) (by rw [show a9 [.str "num",.int n]=[] by simp only [a9,iT];rfl];exact t),by show out.length+1=1+out.length;lia,.cons R h,rfl,dz w hw⟩
 | .own x,_,vs,out,gs,R,w,t,h,hw=>by
  obtain ⟨a,rfl,ha⟩:=id R
  exact ⟨_,_,.cons ha (by decide +kernel) (by simp) (by rw [show a9 [.str "own",.str x]=[] by simp only [a9,fB];rfl];exact t),by show out.length+1=1+out.length;lia,.cons R h,rfl,dz w hw⟩
 | .part k x,_,vs,out,gs,R,w,t,h,hw=>by
  obtain ⟨a,rfl,ha⟩:=id R
  exact ⟨_,_,.cons ha (by decide +kernel) (by simp) (by rw [show a9 [.str "part",.int k,.str x]=[] by simp only [a9,et];rfl];exact t),by show out.length+1=1+out.length;lia,.cons R h,rfl,dz w hw⟩
 | .bin op A B,_,vs,out,gs,R,w,t,h,hw=>by
  obtain ⟨a,u,v,rfl,ha,r1,r2⟩:=id R
  obtain ⟨o1,g1,t1,l1,h1,e1,w1⟩:=Ts.nodes r2 w.2.2 t h hw
  obtain ⟨o2,g2,t2,l2,h2,e2,w2⟩:=Ts.nodes r1 w.2.1 t1 h1 w1
  refine ⟨_,_,.cons ha (iK w.1) (by simp) (by rw [show a9 [.str op,u,v]=[u,v] by simp only [a9,iS w.1];rfl];exact t2),by rw [List.length_cons,l2,l1];show _=A.size+B.size+1+out.length;lia,.cons R h2,?_,dz w w2⟩
  rw [List.all_cons,e2,e1]
  show _=((nd (.bin op A B)&&(A.allB nd&&B.allB nd))&&gs.all nd)
  rw [Bool.and_assoc,Bool.and_assoc]
 | .whn A B C,_,vs,out,gs,R,w,t,h,hw=>by
  obtain ⟨a,u,v,x,rfl,ha,r1,r2,r3⟩:=id R
  obtain ⟨o0,g0,t0,l0,h0,e0,w0⟩:=Ts.nodes r3 w.2.2 t h hw
  obtain ⟨o1,g1,t1,l1,h1,e1,w1⟩:=Ts.nodes r2 w.2.1 t0 h0 w0
  obtain ⟨o2,g2,t2,l2,h2,e2,w2⟩:=Ts.nodes r1 w.1 t1 h1 w1
  refine ⟨_,_,.cons ha (by decide +kernel) (by simp) (by rw [show a9 [.str "when",u,v,x]=[u,v,x] by simp only [a9,hG];rfl];exact t2),by rw [List.length_cons,l2,l1,l0];show _=A.size+B.size+C.size+1+out.length;lia,.cons R h2,?_,dz w w2⟩
  rw [List.all_cons,e2,e1,e0]
  show _=((nd (.whn A B C)&&(A.allB nd&&(B.allB nd&&C.allB nd)))&&gs.all nd)
  rw [Bool.and_assoc,Bool.and_assoc,Bool.and_assoc]
theorem cD (x:Str): ∀ {xs:List Str},inV (.str x) (xs.map V.str)=decide (x∈xs)
 | []=>(decide_eq_false (by simp)).symm
 | b::r=>by
  have e:inV (.str x) ((b::r).map V.str)=(eqV (.str b) (.str x)||inV (.str x) (r.map V.str)):=rfl
  rw [e,cD x (xs:=r)]
  by_cases h:b=x
  ·rw [decide_eq_true (show x∈b::r by rw [h];exact List.mem_cons_self)]
   simp [eqV,h]
  ·have:(x∈b::r)↔x∈r:=by rw [List.mem_cons];exact ⟨fun z=>z.elim (fun e=>absurd e.symm h) id,.inr⟩
   rw [show decide (x∈b::r)=decide (x∈r)from decide_eq_decide.mpr this]
   have:(b==x)=false:=by
    cases hh:(b==x)with
    | false=>rfl
    | true=>exact absurd (eq_of_beq hh) h
   simp [eqV,this]
theorem cb: ∀ {xs:List Str},(xs.map V.str).all dW=true
 | []=>rfl
 | b::r=>by rw [List.map_cons,List.all_cons,cb (xs:=r)];rfl
theorem nq: ∀ {l:List Rul},(l.map fun r=>(r.pl,r.word)).Nodup-> ∀ {a b:Rul},a∈l->b∈l->eL a=eL b->a=b
 | [],_,_,_,ha,_,_=>by cases ha
 | r::l,nd,a,b,ha,hb,e=>by
  have e1:(a.pl,a.word)=(b.pl,b.word):=by
   unfold eL at e
   have h1:=(List.cons.inj e).1
   have h2:=(List.cons.inj (List.cons.inj e).2).1
   rw [Sum.inl.inj h1,Sum.inr.inj h2]
  have nd:((r.pl,r.word)::l.map fun r=>(r.pl,r.word)).Nodup:=nd
  obtain ⟨n1,n2⟩:=List.nodup_cons.mp nd
  rcases List.mem_cons.mp ha with ha | ha
  ·rcases List.mem_cons.mp hb with hb | hb
   ·rw [ha,hb]
   ·exact absurd (List.mem_map.mpr ⟨b,hb,by rw [<- e1,ha]⟩) n1
  ·rcases List.mem_cons.mp hb with hb | hb
   ·exact absurd (List.mem_map.mpr ⟨a,ha,by rw [e1,hb]⟩) n1
   ·exact nq n2 ha hb e
theorem qC {kvs:List (List Key×V)} {k:List Key} {v:V} (h:k∉kvs.map (·.1)):bz kvs k v=kvs++[(k,v)]:=by
 unfold bz
 rw [if_neg fun z=>by
  obtain ⟨kv,h1,h2⟩:=List.any_eq_true.mp z
  exact h (List.mem_map.mpr ⟨kv,h1,of_decide_eq_true h2⟩)]
noncomputable def jM:Sp:=fun vs H Q _=> ∃ bv bk,vs=[bv]/\RepBP H bk bv/\Q (.int (BkP.wheel bk)) H
noncomputable def jN:Sp:=fun vs H Q _=> ∃ bv bk,vs=[bv]/\RepBP H bk bv/\ ∀ a xs,H a=some (.tup xs)->RepSs H (BkP.sorts bk) xs->Q (.ref a) H
noncomputable def jW:Sp:=fun vs H Q _=> ∃ bv bk,vs=[bv]/\RepBP H bk bv/\ ∀ a xs,H a=some (.tup xs)->RepFPs H (BkP.forms bk) xs->Q (.ref a) H
noncomputable def jO:Sp:=fun vs H Q _=> ∃ v fr,vs=[v]/\RepFP H fr v/\ ∀ a rv,H a=some (.tup rv)->RepRs H (FrP.rules fr) rv->Q (.ref a) H
noncomputable def pV:Sp:=fun vs H Q _=> ∃ v fr,vs=[v]/\RepFP H fr v/\Q (.str (FrP.own fr)) H
noncomputable def jT:Sp:=fun vs H Q _=> ∃ v fr,vs=[v]/\RepFP H fr v/\ ∀ a,H a=some (.tup ((FrP.parts fr).map V.str))->Q (.ref a) H
noncomputable def jX:Sp:=fun vs H Q _=> ∃ v fr,vs=[v]/\RepFP H fr v/\FrP.ok fr/\ ∀ d kvs H',H d=none->Same H H'->H' d=some (.dT kvs)->kvs.map (·.1)=fr.rules.map eL->Paired (fun r (kv:List Key×V)=>Rep H' (Rul.fm r) kv.2) fr.rules kvs->Q (.ref d) H'
theorem qg:aA ["book"] ["book"] (ag gG):=fsc
theorem oP (F:Fun K "wheel_of" "wheel_of" gG f fd):FnOk P w K mg base CX0 1 f fd ["book"] jM:=by
 refine F.ok qg (fun vs H Q E h=>?_) (fun cdv A outer s H vs Q E hr h=>?_)
 ·obtain ⟨v,b,rfl,_⟩:=h
  rfl
 obtain ⟨v,bk,rfl,hB,q⟩:=h
 refine ⟨_,aj (ax (aq aw (pv 0) af (fun _ _=>rfl))),?_⟩
 obtain ⟨a,sa,fa,fv,rfl,h1,⟨sx,h2,h3⟩,h4,h5⟩:=id hB
 exact ⟨_,rfl,a,_,0,_,rfl,rfl,SqT.of h1,ar (j:=0) rfl,q⟩
theorem qh:aA ["book"] ["book"] (ag gH):=fsc
theorem oQ (F:Fun K "sorts_of" "sorts_of" gH f fd):FnOk P w K mg base CX0 1 f fd ["book"] jN:=by
 refine F.ok qh (fun vs H Q E h=>?_) (fun cdv A outer s H vs Q E hr h=>?_)
 ·obtain ⟨v,b,rfl,_⟩:=h
  rfl
 obtain ⟨v,bk,rfl,hB,q⟩:=h
 refine ⟨_,aj (ax (aq aw (pv 0) af (fun _ _=>rfl))),?_⟩
 obtain ⟨a,sa,fa,fv,rfl,h1,⟨sx,h2,h3⟩,h4,h5⟩:=id hB
 exact ⟨_,rfl,a,_,1,.ref sa,rfl,rfl,SqT.of h1,ar (j:=1) rfl,q sa sx h2 h3⟩
theorem qo:aA ["book"] ["book"] (ag gL):=fsc
theorem oT (F:Fun K "forms_of" "forms_of" gL f fd):FnOk P w K mg base CX0 1 f fd ["book"] jW:=by
 refine F.ok qo (fun vs H Q E h=>?_) (fun cdv A outer s H vs Q E hr h=>?_)
 ·obtain ⟨v,b,rfl,_⟩:=h
  rfl
 obtain ⟨v,bk,rfl,hB,q⟩:=h
 refine ⟨_,aj (ax (aq aw (pv 0) af (fun _ _=>rfl))),?_⟩
 obtain ⟨a,sa,fa,fv,rfl,h1,⟨sx,h2,h3⟩,h4,h5⟩:=id hB
 exact ⟨_,rfl,a,_,2,.ref fa,rfl,rfl,SqT.of h1,ar (j:=2) rfl,q fa fv h4 h5⟩
theorem qi:aA ["form"] ["form"] (ag gI):=fsc
theorem oR (F:Fun K "rules_of" "rules_of" gI f fd):FnOk P w K mg base CX0 1 f fd ["form"] jO:=by
 refine F.ok qi (fun vs H Q E h=>?_) (fun cdv A outer s H vs Q E hr h=>?_)
 ·obtain ⟨v,b,rfl,_⟩:=h
  rfl
 obtain ⟨v,bk,rfl,hB,q⟩:=h
 refine ⟨_,aj (ax (aq aw (pv 0) af (fun _ _=>rfl))),?_⟩
 obtain ⟨a,pa,ra,rv,rfl,h1,h2,h3,h4⟩:=id hB
 exact ⟨_,rfl,a,_,3,.ref ra,rfl,rfl,SqT.of h1,ar (j:=3) rfl,q ra rv h3 h4⟩
theorem uv:aA ["form"] ["form"] (ag dE):=fsc
theorem sV (F:Fun K "sort_of_form" "sort_of_form" dE f fd):FnOk P w K mg base CX0 1 f fd ["form"] pV:=by
 refine F.ok uv (fun vs H Q E h=>?_) (fun cdv A outer s H vs Q E hr h=>?_)
 ·obtain ⟨v,b,rfl,_⟩:=h
  rfl
 obtain ⟨v,bk,rfl,hB,q⟩:=h
 refine ⟨_,aj (ax (aq aw (pv 0) af (fun _ _=>rfl))),?_⟩
 obtain ⟨a,pa,ra,rv,rfl,h1,h2,h3,h4⟩:=id hB
 exact ⟨_,rfl,a,_,1,_,rfl,rfl,SqT.of h1,ar (j:=1) rfl,q⟩
theorem qm:aA ["form"] ["form"] (ag gJ):=fsc
theorem oS (F:Fun K "parts_of" "parts_of" gJ f fd):FnOk P w K mg base CX0 1 f fd ["form"] jT:=by
 refine F.ok qm (fun vs H Q E h=>?_) (fun cdv A outer s H vs Q E hr h=>?_)
 ·obtain ⟨v,b,rfl,_⟩:=h
  rfl
 obtain ⟨v,bk,rfl,hB,q⟩:=h
 refine ⟨_,aj (ax (aq aw (pv 0) af (fun _ _=>rfl))),?_⟩
 obtain ⟨a,pa,ra,rv,rfl,h1,h2,h3,h4⟩:=id hB
 exact ⟨_,rfl,a,_,2,.ref pa,rfl,rfl,SqT.of h1,ar (j:=2) rfl,q pa h2⟩
theorem scByKeyP:aA vc ["form"] (ag lB):=fsc
theorem oO (F:Fun K "formulas_by_key" "formulas_by_key" lB f fd)
  (GR:FnOk P w K mg base CX0 1 f2 fd2 ["form"] jO) (bR:Binds K fd2 ["form"] []) (kR:PySem.W.keepIn K (.ref f2)=true) (mR:mg "rules_of"=some (.ref f2)):FnOk P w K mg base CX0 2 f fd ["form"] jX:=by
 refine F.ok scByKeyP (fun vs H Q E h=>?_) (fun cdv A outer s H vs Q E hr h=>?_)
 ·obtain ⟨v,fr,rfl,_⟩:=h
  rfl
 obtain ⟨v,fr,rfl,hF,⟨h12,hnd,_,_⟩,q⟩:=h
 have hu:=cT hr
 refine ⟨_,ad (al (i:=1) scByKeyP.nd rfl (Or.inl rfl) kd)
  (ad (bA PassesOwn.never rfl (cG (ak GR hr rfl mR kR bR .nil am (aa (pv 0) ac)))
    (cQ rfl (aG (av (i:=2) scByKeyP.nd rfl (Or.inl rfl)) (aG (av (i:=3) scByKeyP.nd rfl (Or.inl rfl)) (aG (av (i:=4) scByKeyP.nd rfl (Or.inl rfl)) cn))))
   (aj (cX hu (pv 1) (aB (aa (pv 2) (aa (pv 3) ac))) (pv 4) rfl)))
  (aj (ax (pv 1)))),?_⟩
 refine fun d hd=>?_
 have s0:=ae hd (.dT [])
 have g0:(upd H d (.dT [])) d=some (.dT []):=ab
 generalize upd H d (.dT [])=H0 at s0 g0 ⊢
 refine ⟨_,rfl,v,fr,rfl,hF.mono (aF s0),fun ra rv hra hR=>?_⟩
 refine ⟨ra,rfl,⟨rv,SqT.of hra⟩,?_⟩
 have lR:=hR.len
 have hra':=hra
 refine dQ (xs:=rv) (fun i σ H'=>i<=rv.length/\ ∃ o2 o3 o4 kvs,σ=[some v,some (.ref d),o2,o3,o4]/\Same H H'/\H' ra=some (.tup rv)/\RepRs H' fr.rules rv/\H' d=some (.dT kvs)/\kvs.length=i/\kvs.map (·.1)=(fr.rules.take i).map eL/\Paired (fun r (kv:List Key×V)=>Rep H' (Rul.fm r) kv.2) (fr.rules.take i) kvs)
  ⟨Nat.zero_le _,none,none,none,[],rfl,s0,hra,hR,g0,rfl,rfl,.nil⟩ (fun i σ H' _ h=>by obtain ⟨_,_,_,_,_,_,_,g,_⟩:=h;exact SqT.of g) ?_ ?_
 ·rintro i x σ H1 hx ⟨_,o2,o3,o4,kvs,rfl,S1,gra,hR1,gd,hl,hk,hP⟩
  have hil:i<rv.length:=(List.getElem?_eq_some_iff.mp hx).1
  obtain ⟨r,hr',a,u,rfl,ha,hu'⟩:=aM hR1 hx
  refine ⟨a,_,rfl,SqT.of ha,rfl,_,_,rfl,_,_,rfl,_,_,rfl,rfl,?_⟩
  refine ⟨_,rfl,_,rfl,_,rfl,_,rfl,(by show 2<=sizeLine;decide),fun t ht=>?_⟩
  have s2:=ae ht (.tup [.int r.pl,.str r.word])
  have g2:(upd H1 t (.tup [.int r.pl,.str r.word])) t=some (.tup ((eL r).map kV)):=ab
  generalize upd H1 t (.tup [.int r.pl,.str r.word])=H2 at s2 g2 ⊢
  refine ⟨d,_,rfl,DPut.t (s2 _ _ gd) g2 (ao (by lia)),?_⟩
  have hn:eL r∉kvs.map (·.1):=fun hm=>by
   rw [hk]at hm
   obtain ⟨r',h1,h2⟩:=List.mem_map.mp hm
   have e:=nq hnd (List.mem_of_mem_take h1) (List.mem_of_getElem? hr') h2
   subst e
   obtain ⟨j,hj⟩:=List.getElem?_of_mem h1
   have hji:j<i:=by
    have:=(List.getElem?_eq_some_iff.mp hj).1
    rw [List.length_take]at this
    lia
   rw [List.getElem?_take,if_pos hji]at hj
   have q1:(fr.rules.map fun r=>(r.pl,r.word))[j]? =some (r'.pl,r'.word):=by rw [List.getElem?_map,hj];rfl
   have q2:(fr.rules.map fun r=>(r.pl,r.word))[i]? =some (r'.pl,r'.word):=by rw [List.getElem?_map,hr'];rfl
   have hlt:j< (fr.rules.map fun r=>(r.pl,r.word)).length:=(List.getElem?_eq_some_iff.mp q1).1
   have:=(List.getElem?_inj hlt hnd).mp (q1.trans q2.symm)
   lia
  rw [qC hn]
  have tk:TK H1 (upd H2 d (.dT (kvs++[(eL r,u)]))):=fun b xs e=>by
   rw [ai (fun z=>by rw [z,gd]at e;cases e)]
   exact s2 _ _ e
  refine ⟨hil,_,_,_,_,rfl,?_,tk _ _ gra,hR1.mono tk,ab,?_,?_,?_⟩
  ·intro y o h
   rw [ai (ah h hd)]
   exact s2 _ _ (S1 _ _ h)
  ·rw [List.length_append,hl];rfl
  ·rw [List.map_append,hk,List.take_add_one,hr',List.map_append];rfl
  ·rw [List.take_add_one,hr']
   exact Paired.snoc (Paired.mapP hP fun _ _ h=>h.mono tk) (hu'.mono tk)
 ·rintro σ H1 ⟨_,o2,o3,o4,kvs,rfl,S1,gra,hR1,gd,hl,hk,hP⟩
  rw [<- lR,List.take_length]at hP hk
  exact ⟨_,rfl,q d kvs H1 hd S1 gd hk hP⟩
noncomputable def aW (pr:List (Str×Str)) (x:Str):Option Str:=(pr.find? fun p=>decide (p.1=x)).map (·.2)
noncomputable def prK (pr:List (Str×Str)):List (Key×V):=pr.map fun p=>(.inr p.1,.str p.2)
theorem cm (pr:List (Str×Str)) (x:Str):bu (prK pr) (.inr x)=(aW pr x).map V.str:=by
 unfold bu prK aW
 induction pr with
 | nil=>rfl
 | cons p r ih=>
  rw [List.map_cons,List.find?_cons,List.find?_cons]
  by_cases c:p.1=x
  ·simp [c]
  ·have c1:decide ((Sum.inr p.1:Key)=.inr x)=false:=decide_eq_false fun z=>c (Sum.inr.inj z)
   have c2:decide (p.1=x)=false:=decide_eq_false c
   rw [c1,c2]
   exact ih
noncomputable def FrP.ru (fr:FrP) (x:Str):Option Fm:=(fr.rules.find? fun r=>decide (r.pl= -1/\r.word=x)).map (·.fm)
noncomputable def jS:Sp:=fun vs H Q _=> ∃ v fr d pr x g,vs=[v,.ref d]/\RepFP H fr v/\FrP.ok fr/\H d=some (.dK (prK pr))/\aW pr fr.own=some x/\fr.ru x=some g/\ ∀ u H',Same H H'->Rep H' g u->Q u H'
noncomputable abbrev NPF:List Str:=["form","pricing"]
theorem ql:aA NPF NPF (ag ji):=fsc
theorem iz {H:Hp} {x:Str} {g:Fm}: ∀ {rs:List Rul} {kvs:List (List Key×V)},kvs.map (·.1)=rs.map eL->Paired (fun r (kv:List Key×V)=>Rep H (Rul.fm r) kv.2) rs kvs->(rs.find? fun r=>decide (r.pl= -1/\r.word=x)).map (·.fm)=some g-> ∃ u,bu kvs [.inl (-1),.inr x]=some u/\Rep H g u
 | [],_,_,_,e=>by cases e
 | r::rs,(k,u)::kvs,hk,.cons h t,e=>by
  rw [List.map_cons,List.map_cons]at hk
  obtain ⟨hk1,hk2⟩:=List.cons.inj hk
  have hk1:k=eL r:=hk1
  subst hk1
  rw [List.find?_cons]at e
  unfold bu
  rw [List.find?_cons]
  by_cases c:r.pl= -1/\r.word=x
  ·rw [decide_eq_true c]at e
   cases e
   refine ⟨u,?_,h⟩
   have:decide (eL r=[.inl (-1),.inr x])=true:=decide_eq_true (by unfold eL;rw [c.1,c.2])
   simp only [this]
   rfl
  ·rw [decide_eq_false c]at e
   have:decide (eL r=[.inl (-1),.inr x])=false:=decide_eq_false fun z=>c (by
    unfold eL at z
    have h1:=(List.cons.inj z).1
    have h2:=(List.cons.inj (List.cons.inj z).2).1
    exact ⟨Sum.inl.inj h1,Sum.inr.inj h2⟩)
   simp only [this]
   exact iz hk2 t e
theorem oG (F:Fun K "price_formula" "price_formula" ji f fd)
  (GK:FnOk P w K mg base CX0 2 f2 fd2 ["form"] jX) (bK:Binds K fd2 ["form"] []) (kK:PySem.W.keepIn K (.ref f2)=true) (mK:mg "formulas_by_key"=some (.ref f2))
  (GO:FnOk P w K mg base CX0 1 f3 fd3 ["form"] pV) (bO:Binds K fd3 ["form"] []) (kO:PySem.W.keepIn K (.ref f3)=true) (mO:mg "sort_of_form"=some (.ref f3)):
  FnOk P w K mg base CX0 3 f fd NPF jS:=by
 refine F.ok ql (fun vs H Q E h=>?_) (fun cdv A outer s H vs Q E hr h=>?_)
 ·obtain ⟨v,fr,d,_,_,_,rfl,_⟩:=h
  rfl
 obtain ⟨v,fr,d,pr,x,g,rfl,hF,hok,hd,hx,hg,q⟩:=h
 have hu:=cT hr
 have hr1:=hr.mono (show 1<=2 by decide)
 refine ⟨_,aj (ax (bq hu (ak GK hr rfl mK kK bK .nil am (aa (pv 0) ac)) (aB (aa (fG dB af) (aa (bq hu (pv 1) (ak GO hr1 rfl mO kO bO .nil am (aa (pv 0) ac)) (fun _ _=>rfl)) ac))) (fun _ _=>rfl))),?_⟩
 refine ⟨_,rfl,v,fr,rfl,hF,hok,fun D kvs H1 hD s1 gD hk hP=>?_⟩
 refine ⟨1,rfl,_,rfl,_,rfl,v,fr,rfl,hF.mono (aF s1),?_⟩
 refine ⟨d,.str x,rfl,?_,(by show 2<=sizeLine;decide),fun t ht=>?_⟩
 ·have:=DGet.k (k:=.inr fr.own) (s1 _ _ hd)
  rw [cm,hx]at this
  exact this
 obtain ⟨u,eu,hRu⟩:=iz hk hP hg
 have s2:=ae ht (.tup [.int (-1),.str x])
 have g2:(upd H1 t (.tup [.int (-1),.str x])) t=some (.tup (([.inl (-1),.inr x]:List Key).map kV)):=ab
 generalize upd H1 t (.tup [.int (-1),.str x])=H2 at s2 g2 ⊢
 refine ⟨D,u,rfl,?_,q u H2 (s1.trans s2) (hRu.mono (aF s2))⟩
 have:=DGet.t (k:=[.inl (-1),.inr x]) (s2 _ _ gD) g2
 rw [eu]at this
 exact this
end My
namespace HT
open PySem
noncomputable def Ris (xs:Array Nat):Prop:= ∀ (i k a b:Nat),xs[i]? =some a->xs[k]? =some b->i<k->a<b
theorem ij {xs:Array Nat} {j:Nat} (hr:Ris xs): ∀ (fuel lo hi:Nat),hi-lo<=fuel->lo<=hi->hi<=xs.size->(∀ i a,i<lo->xs[i]? =some a->a<j)->(∀ i a,hi<=i->xs[i]? =some a->j<=a)->
  ∃ p,SetTable.below.go xs j fuel lo hi=p/\p<=xs.size/\(∀ i a,i<p->xs[i]? =some a->a<j)/\(∀ i a,p<=i->xs[i]? =some a->j<=a)
 | 0,lo,hi,h,h1,h2,h3,h4=>⟨lo,by unfold SetTable.below.go;rfl,by lia,h3,fun i a hi'=>h4 i a (by lia)⟩
 | fuel+1,lo,hi,h,h1,h2,h3,h4=>by
  unfold SetTable.below.go
  by_cases c:lo<hi
  ·rw [if_pos c]
   have hm:(lo+hi) /2<xs.size:=by lia
   have hg:xs[(lo+hi) /2]? =some (xs.getD ((lo+hi) /2) j):=by
    rw [Array.getElem?_eq_getElem hm,Array.getD,dif_pos hm];rfl
   by_cases c2:xs.getD ((lo+hi) /2) j<j
   ·simp only [if_pos c2]
    refine ij hr fuel _ hi (by lia) (by lia) h2 (fun i a hi' ha=>?_) h4
    rcases Nat.lt_or_ge i ((lo+hi) /2)with z | z
    ·exact Nat.lt_trans (hr i _ a _ ha hg z) c2
    ·have:i=(lo+hi) /2:=by lia
     subst this
     rw [hg]at ha
     cases ha
     exact c2
   ·simp only [if_neg c2]
    refine ij hr fuel lo _ (by lia) (by lia) (by lia) h3 (fun i a hi' ha=>?_)
    rcases Nat.lt_or_ge ((lo+hi) /2) i with z | z
    ·exact Nat.le_of_lt (Nat.lt_of_le_of_lt (Nat.not_lt.mp c2) (hr _ i _ a hg ha z))
    ·have:i=(lo+hi) /2:=by lia
     subst this
     rw [hg]at ha
     cases ha
     exact Nat.not_lt.mp c2
  ·rw [if_neg c]
   exact ⟨lo,rfl,by lia,h3,fun i a hi'=>h4 i a (by lia)⟩
theorem ii {xs:Array Nat} {j:Nat} (hr:Ris xs):SetTable.below xs j<=xs.size/\(∀ i a,i<SetTable.below xs j->xs[i]? =some a->a<j)/\(∀ i a,SetTable.below xs j<=i->xs[i]? =some a->j<=a):=by
 obtain ⟨p,e,h⟩:=ij (j:=j) hr xs.size 0 xs.size (by lia) (by lia) (Nat.le_refl _) (fun i a h=>by lia) (fun i a h ha=>by
  rw [Array.getElem?_eq_none h]at ha
  cases ha)
 unfold SetTable.below
 rw [e]
 exact h
theorem rW {xs:Array Nat} {i j:Nat} (hr:Ris xs) (h:xs[i]? =some j):SetTable.below xs j=i:=by
 obtain ⟨h1,h2,h3⟩:=ii (j:=j) hr
 rcases Nat.lt_trichotomy (SetTable.below xs j) i with z | z | z
 ·exfalso
  have hi:i<xs.size:=(Array.getElem?_eq_some_iff.mp h).1
  have hb:xs[SetTable.below xs j]? =some xs[SetTable.below xs j]:=Array.getElem?_eq_getElem (by lia)
  have q1:=h3 _ _ (Nat.le_refl _) hb
  have q2:=hr _ _ _ _ hb h z
  lia
 ·exact z
 ·exact absurd (h2 _ _ z h) (Nat.lt_irrefl _)
structure Tab (t:SetTable) (n:Nat):Prop where
 m:t.mask=7
 d:t.dummies= #[]
 r:Ris t.place
 n:t.place.size=n
 le: ∀ (i j:Nat),t.place[i]? =some j->j<8
theorem jx {j:Nat}:SetTable.has #[] j=false:=rfl
theorem c7 {t:SetTable} {n i j:Nat} (h:Tab t n):t.slot j=.live i↔t.place[i]? =some j:=by
 unfold SetTable.slot
 rw [h.d,jx]
 constructor
 ·intro e
  by_cases c:(t.place[SetTable.below t.place j]? ==some j)=true
  ·simp only [if_pos c]at e
   cases e
   exact eq_of_beq c
  ·simp [c]at e
 ·intro e
  rw [rW h.r e]
  simp [e]
theorem dg {t:SetTable} {n j:Nat} (h:Tab t n):t.slot j=.empty↔ ∀ i:Nat,t.place[i]? ≠some j:=by
 constructor
 ·intro e i hi
  rw [(c7 h).mpr hi]at e
  cases e
 ·intro e
  unfold SetTable.slot
  rw [h.d,jx]
  have c: ¬ (t.place[SetTable.below t.place j]? ==some j)=true:=fun c=>e _ (eq_of_beq c)
  simp [c]
theorem nj {t:SetTable} {n:Nat} (h:Tab t n) (j:Nat):t.slot j=.empty\/ ∃ i,t.slot j=.live i:=by
 by_cases c: ∃ i:Nat,t.place[i]? =some j
 ·obtain ⟨i,hi⟩:=c
  exact .inr ⟨i,(c7 h).mpr hi⟩
 ·exact .inl ((dg h).mpr fun i hi=>c ⟨i,hi⟩)
noncomputable def rd (b:Nat):Nat->Nat×Nat
 | 0=>(b%8,b)
 | k+1=>SetTable.leap 7 (rd b k).1 (rd b k).2
noncomputable def pr (b k:Nat):SetTable.Probe:=⟨(rd b k).1,0,(rd b k).1,(rd b k).2,none⟩
theorem ua (b:Nat): ∀ k,(rd b k).1<8
 | 0=>Nat.mod_lt _ (by decide)
 | k+1=>Nat.mod_lt _ (by decide)
theorem nn (i:Nat):SetTable.runEnd 7 i=i:=by
 unfold SetTable.runEnd
 rw [if_neg (by lia)]
theorem jL {t:SetTable} {n:Nat} (h:Tab t n) (x:Int):t.probeStart x=pr (SetTable.bits x) 0:=by
 unfold SetTable.probeStart pr
 simp only [h.m,nn,Nat.sub_self]
 rfl
theorem rX {t:SetTable} {n:Nat} (h:Tab t n) (b k:Nat):t.advance (pr b k)=pr b (k+1):=by
 unfold SetTable.advance pr
 simp only [h.m,nn,Nat.sub_self,Nat.lt_irrefl,if_false]
 rfl
theorem qz (b:Nat): ∀ k,(rd b k).2=b/32^k
 | 0=>by simp [rd]
 | k+1=>by
  show (rd b k).2/32=_
  rw [qz b k,Nat.div_div_eq_div_mul,Nat.pow_succ]
noncomputable def it8:Nat->Nat->Nat
 | 0,i=>i
 | k+1,i=>(it8 k i*5+1) %8
theorem nw {b:Nat} (hb:b<2^64): ∀ k,(rd b (13+k)).1=it8 k (rd b 13).1
 | 0=>rfl
 | k+1=>by
  show ((rd b (13+k)).1*5+1+ (rd b (13+k)).2/32) %8=(it8 k (rd b 13).1*5+1) %8
  have e:(rd b (13+k)).2=0:=by
   rw [qz]
   refine Nat.div_eq_of_lt (Nat.lt_of_lt_of_le hb ?_)
   exact Nat.le_trans (by decide:2^64<=32^13) (Nat.pow_le_pow_right (by decide) (by lia))
  rw [e,nw hb k]
theorem tw: ∀ i:Fin 8,∀ e:Fin 8,∃ k:Fin 8,it8 k.1 i.1=e.1:=by decide +kernel
theorem qB {b e:Nat} (hb:b<2^64) (he:e<8): ∃ k,k<=20/\(rd b k).1=e:=by
 obtain ⟨k,hk⟩:=tw ⟨(rd b 13).1,ua b 13⟩ ⟨e,he⟩
 exact ⟨13+k.1,by lia,(nw hb k.1).trans hk⟩
theorem tO (h:Int):SetTable.bits h<2^64:=by
 unfold SetTable.bits
 lia
theorem rc: ∀ {l m:List Nat},l.Nodup->(∀ x∈l,x∈m)->l.length<=m.length
 | [],_,_,_=>Nat.zero_le _
 | a::l,m,nd,h=>by
  have h0:=List.nodup_cons.mp nd
  have h1:=rc (l:=l) (m:=m.erase a) h0.2 fun x hx=>(List.mem_erase_of_ne fun z:x=a=>h0.1 (z▸hx)).mpr (h x (List.mem_cons_of_mem _ hx))
  have h2:=List.length_erase_of_mem (h a List.mem_cons_self)
  have h3:=List.length_pos_of_mem (h a List.mem_cons_self)
  rw [List.length_cons]
  lia
theorem tI {t:SetTable} {n:Nat} (h:Tab t n) (hn:n<8): ∃ e:Nat,e<8/\ ∀ i:Nat,t.place[i]? ≠some e:=by
 refine Classical.byContradiction fun c=>?_
 have all: ∀ e:Nat,e<8-> ∃ i:Nat,i<n/\t.place[i]? =some e:=fun e he=>by
  refine Classical.byContradiction fun c2=>c ⟨e,he,fun i hi=>c2 ⟨i,?_,hi⟩⟩
  rw [<- h.n]
  exact (Array.getElem?_eq_some_iff.mp hi).1
 have sub:List.range 8⊆t.place.toList:=fun e he=>by
  obtain ⟨i,_,hi⟩:=all e (List.mem_range.mp he)
  rw [<- Array.getElem?_toList]at hi
  exact List.mem_of_getElem? hi
 have l:=rc List.nodup_range sub
 rw [List.length_range,Array.length_toList,h.n]at l
 lia
theorem kx {p:Nat->Prop}: ∀ (k:Nat),p k-> ∃ n,n<=k/\p n/\ ∀ m,m<n-> ¬ p m
 | 0,h=>⟨0,Nat.le_refl _,h,fun m hm=>by lia⟩
 | k+1,h=>by
  by_cases c: ∃ n,n<=k/\p n
  ·obtain ⟨n,hn,hp⟩:=c
   obtain ⟨m,h1,h2,h3⟩:=kx n hp
   exact ⟨m,by lia,h2,h3⟩
  ·exact ⟨k+1,Nat.le_refl _,h,fun m hm hp=>c ⟨m,by lia,hp⟩⟩
theorem rF {t:SetTable} {n:Nat} (h:Tab t n) (hn:n<8) (x:Int): ∃ N,N<=20/\t.slot (rd (SetTable.bits x) N).1=.empty/\ ∀ m,m<N->t.slot (rd (SetTable.bits x) m).1≠ .empty:=by
 obtain ⟨e,he,hf⟩:=tI h hn
 obtain ⟨k,hk,ek⟩:=qB (tO x) he
 obtain ⟨N,h1,h2,h3⟩:=kx (p:=fun k=>t.slot (rd (SetTable.bits x) k).1=.empty) k (by rw [ek];exact (dg h).mpr hf)
 exact ⟨N,by lia,h2,h3⟩
theorem j8 {t:SetTable} {n N:Nat} (ht:Tab t n) {g:Nat->Int} {x:Int} {b:Nat} (h2:t.slot (rd b N).1=.empty) (h3: ∀ m,m<N->t.slot (rd b m).1≠ .empty): ∀ (fuel k:Nat),k<=N->N-k<fuel->
  (∃ m i,k<=m/\m<N/\t.slot (rd b m).1=.live i/\g i=x/\SetTable.probe.go t g x fuel (pr b k)=some (.candidate (rd b m).1 i (pr b (m+1)))/\ ∀ c i',k<=c->c<m->t.slot (rd b c).1=.live i'->g i'≠x)\/
  (SetTable.probe.go t g x fuel (pr b k)=some (.empty (rd b N).1 none)/\ ∀ c i',k<=c->c<N->t.slot (rd b c).1=.live i'->g i'≠x)
 | 0,k,hk,hf=>by lia
 | fuel+1,k,hk,hf=>by
  unfold SetTable.probe.go
  rcases Nat.lt_or_ge k N with z | z
  ·rcases nj ht (rd b k).1 with e | ⟨i,e⟩
   ·exact absurd e (h3 k z)
   ·have e':t.slot (pr b k).j=.live i:=e
    rw [e']
    by_cases c:g i=x
    ·refine .inl ⟨k,i,Nat.le_refl _,z,e,c,?_,fun c i' h1 h2=>by lia⟩
     simp only [c,beq_self_eq_true,if_true,rX ht]
     rfl
    ·have c':(g i==x)=false:=beq_eq_false_iff_ne.mpr c
     simp only [c',rX ht]
     have first: ∀ c i',k<=c->c<k+1->t.slot (rd b c).1=.live i'->g i'≠x:=fun q i' h1 h2 hq=>by
      have:q=k:=by lia
      subst this
      rw [e]at hq
      cases hq
      exact c
     rcases j8 ht h2 h3 fuel (k+1) z (by lia)with ⟨m,i',a1,a2,a3,a4,a5,a6⟩ | ⟨a1,a2⟩
     ·refine .inl ⟨m,i',by lia,a2,a3,a4,a5,fun q j q1 q2 q3=>?_⟩
      rcases Nat.lt_or_ge q (k+1)with y | y
      ·exact first q j q1 y q3
      ·exact a6 q j y q2 q3
     ·refine .inr ⟨a1,fun q j q1 q2 q3=>?_⟩
      rcases Nat.lt_or_ge q (k+1)with y | y
      ·exact first q j q1 y q3
      ·exact a2 q j y q2 q3
  ·have:k=N:=by lia
   subst this
   have e':t.slot (pr b k).j=.empty:=h2
   rw [e']
   exact .inr ⟨rfl,fun c i' h1 h2=>by lia⟩
theorem c4 {α:Type} {xs:Array α} {p:Nat} {x:α} (hp:p<=xs.size) (i:Nat):(SetTable.insertAt xs p x)[i]? =if i<p then xs[i]? else if i=p then some x else xs[i-1]? :=by
 have e:(SetTable.insertAt xs p x).toList=xs.toList.take p++x::xs.toList.drop p:=by
  unfold SetTable.insertAt
  simp
  exact List.take_of_length_le (by simp)
 rw [<- Array.getElem?_toList,e]
 have l:(xs.toList.take p).length=p:=by simp;lia
 rcases Nat.lt_trichotomy i p with z | z | z
 ·rw [if_pos z,List.getElem?_append_left (by lia),List.getElem?_take_of_lt z,Array.getElem?_toList]
 ·rw [if_neg (by lia),if_pos z,List.getElem?_append_right (by lia),l,z,Nat.sub_self]
  rfl
 ·rw [if_neg (by lia),if_neg (by lia),List.getElem?_append_right (by lia),l,show i-p=(i-1-p) +1 by lia,List.getElem?_cons_succ,List.getElem?_drop,show p+ (i-1-p)=i-1 by lia,Array.getElem?_toList]
theorem kr {α:Type} {xs:Array α} {p:Nat} {x:α} (hp:p<=xs.size):(SetTable.insertAt xs p x).size=xs.size+1:=by
 unfold SetTable.insertAt
 simp
 lia
noncomputable def Ent (t:SetTable) (es:Array (Int×Value)) (j:Nat) (e:Int×Value):Prop:= ∃ i:Nat,t.place[i]? =some j/\es[i]? =some e
theorem uE {t:SetTable} {n j:Nat} (h:Tab t n):t.put j=({t with place:=SetTable.insertAt t.place (SetTable.below t.place j) j},SetTable.below t.place j):=by
 unfold SetTable.put
 simp only [h.d,jx]
 congr
theorem sy {t t':SetTable} {n j p:Nat} (h:Tab t n) (hj:j<8) (he:t.slot j=.empty) (hp:t.put j=(t',p)):Tab t' (n+1)/\(∀ (es:Array (Int×Value)) (e:Int×Value),es.size=n->(SetTable.insertAt es p e).size=n+1/\ ∀ j' e',Ent t' (SetTable.insertAt es p e) j' e'↔Ent t es j' e'\/(j'=j/\e'=e))/\t'.led=t.led/\t'.moves=t.moves/\t'.plain=t.plain/\t'.finger=t.finger:=by
 rw [uE h]at hp
 cases hp
 obtain ⟨b1,b2,b3⟩:=ii (j:=j) h.r
 have he':=(dg h).mp he
 have b3': ∀ (i a:Nat),SetTable.below t.place j<=i->t.place[i]? =some a->j<a:=fun i a hi ha=>by
  have:=b3 i a hi ha
  rcases Nat.lt_or_ge j a with z | z
  ·exact z
  ·have:a=j:=by lia
   subst this
   exact absurd ha (he' i)
 generalize SetTable.below t.place j=p at b1 b2 b3'
 refine ⟨⟨h.m,h.d,?_,(kr b1).trans (by rw [h.n]),?_⟩,fun es e hn=>⟨(kr (by rw [hn,<- h.n];exact b1)).trans (by rw [hn]),fun j' e'=>?_⟩,rfl,rfl,rfl,rfl⟩
 ·intro i k a c ha hc hik
  simp only [c4 b1]at ha hc
  split at ha
  ·rename_i i1
   split at hc
   ·exact h.r i k a c ha hc hik
   ·split at hc
    ·cases hc
     exact b2 i a i1 ha
    ·rename_i k1 k2
     exact Nat.lt_trans (b2 i a i1 ha) (b3' _ c (by lia) hc)
  ·split at ha
   ·cases ha
    split at hc
    ·lia
    ·split at hc
     ·lia
     ·exact b3' _ c (by lia) hc
   ·split at hc
    ·lia
    ·split at hc
     ·lia
     ·exact h.r (i-1) (k-1) a c ha hc (by lia)
 ·intro i a ha
  simp only [c4 b1]at ha
  split at ha
  ·exact h.le i a ha
  ·split at ha
   ·cases ha
    exact hj
   ·exact h.le _ a ha
 ·have pe:p<=es.size:=by rw [hn,<- h.n];exact b1
  constructor
  ·rintro ⟨i,h1,h2⟩
   simp only [c4 b1]at h1
   rw [c4 pe]at h2
   by_cases c1:i<p
   ·rw [if_pos c1]at h1 h2
    exact .inl ⟨i,h1,h2⟩
   ·rw [if_neg c1]at h1 h2
    by_cases c2:i=p
    ·rw [if_pos c2]at h1 h2
     cases h1
     cases h2
     exact .inr ⟨rfl,rfl⟩
    ·rw [if_neg c2]at h1 h2
     exact .inl ⟨_,h1,h2⟩
  ·rintro (⟨i,h1,h2⟩ | ⟨rfl,rfl⟩)
   ·rcases Nat.lt_or_ge i p with z | z
    ·exact ⟨i,by simp only [c4 b1];rw [if_pos z];exact h1,by rw [c4 pe,if_pos z];exact h2⟩
    ·exact ⟨i+1,by simp only [c4 b1];rw [if_neg (by lia),if_neg (by lia)];exact h1,by rw [c4 pe,if_neg (by lia),if_neg (by lia)];exact h2⟩
   ·exact ⟨p,by simp only [c4 b1];rw [if_neg (by lia),if_pos trivial],by rw [c4 pe,if_neg (by lia),if_pos rfl]⟩
noncomputable def Rch (t:SetTable) (es:Array (Int×Value)):Prop:= ∀ j e,Ent t es j e-> ∃ n,(rd (SetTable.bits e.1) n).1=j/\ ∀ m,m<n->t.slot (rd (SetTable.bits e.1) m).1≠ .empty
theorem ky {t:SetTable} {n j:Nat} {es:Array (Int×Value)} {e:Int×Value} (h:Tab t n) (he:Ent t es j e):t.slot j≠ .empty:=fun z=>by
 obtain ⟨i,h1,_⟩:=he
 exact (dg h).mp z i h1
theorem sk {t t':SetTable} {n N:Nat} {es es':Array (Int×Value)} {e:Int×Value} (h:Tab t n) (h':Tab t' (n+1)) (hn:es.size=n) (hs:es'.size=n+1) (hR:Rch t es) (h3: ∀ m,m<N->t.slot (rd (SetTable.bits e.1) m).1≠ .empty)
  (hE: ∀ j' e',Ent t' es' j' e'↔Ent t es j' e'\/(j'=(rd (SetTable.bits e.1) N).1/\e'=e)):Rch t' es':=by
 have keep: ∀ {j},t.slot j≠ .empty->t'.slot j≠ .empty:=fun {j} hj=>by
  rcases nj h j with z | ⟨i,z⟩
  ·exact absurd z hj
  ·have hi:=(c7 h).mp z
   have il:i<es.size:=by rw [hn,<- h.n];exact (Array.getElem?_eq_some_iff.mp hi).1
   exact ky h' ((hE j es[i]).mpr (.inl ⟨i,hi,Array.getElem?_eq_getElem il⟩))
 intro j e' he
 rcases (hE j e').mp he with z | ⟨rfl,rfl⟩
 ·obtain ⟨n,h1,h2⟩:=hR j e' z
  exact ⟨n,h1,fun m hm=>keep (h2 m hm)⟩
 ·exact ⟨N,rfl,fun m hm=>keep (h3 m hm)⟩
section
variable {prog:Program} {w:World} {K:Type} [DecidableEq K] {knd:KeyKind prog w K} {φ:List K->Addr->Prop} {A:Around} {E:Value->Shared->Prop} {s:Shared}
theorem rS {ks:List K} {a:Addr} {Q:Bool->Shared->Prop} (hk:IsTupleKey knd s.heap ks a) (h:Q false s):wpAny (model prog w) A (ofAClassStatement 8 (.ref a)) Q E s:=by
 obtain ⟨o,items,n,ho,hc,hd,hi⟩:=hk
 unfold ofAClassStatement
 refine wpAny_bind (wpAny_typeOf_ref ho ?_)
 rw [hc]
 dsimp only
 rw [if_pos (by rfl)]
 refine wpAny_bind (wpAny_pure ?_)
 simp only [Bool.not_true,Bool.false_eq_true,if_false]
 refine wpAny_bind (wpAny_seqItems ho hd ?_)
 dsimp only
 refine wpAny_bind ?_
 show wpAny _ _ (forIn items _ _) _ _ s
 rw [<- Array.forIn_toList]
 refine wpAny_forIn_list _ (fun rest r s'=>r.1=none/\s'=s/\ ∀ v∈rest,carriedByValue v=true) _ ?_ ?_ _ _ ⟨rfl,rfl,hi.byValue⟩
 ·rintro v rest r s' ⟨hr,rfl,hall⟩
  have e:ofAClassStatement 7 v=pure false:=by
   have:=hall v List.mem_cons_self
   cases v <;> first | rfl | cases this
  rw [e]
  refine wpAny_bind (wpAny_pure ?_)
  simp only [Bool.false_eq_true,if_false]
  exact wpAny_pure ⟨rfl,rfl,fun u hu'=>hall u (List.mem_cons_of_mem _ hu')⟩
 ·rintro ⟨r1,r2⟩ s' ⟨hr,rfl,_⟩
  simp only at hr
  subst hr
  exact wpAny_pure h
theorem ug {ks:List K} {b:Addr} {l:List Value} {Q:Bool->Shared->Prop} (hk:IsTupleKey knd s.heap ks b) (hl: ∀ v∈l,∃ ks' b',v=.ref b'/\IsTupleKey knd s.heap ks' b') (h:Q false s):wpAny (model prog w) A (searchCouldBeSeen (.ref b) l) Q E s:=by
 unfold searchCouldBeSeen
 refine wpAny_bind ?_
 refine wpAny_forIn_list _ (fun rest r s'=>r.1=none/\s'=s/\ ∀ v∈rest,∃ ks' b',v=.ref b'/\IsTupleKey knd s.heap ks' b') _ ?_ ?_ _ _ ⟨rfl,rfl,hl⟩
 ·rintro v rest r s' ⟨hr,rfl,hall⟩
  obtain ⟨ks',b',rfl,hk'⟩:=hall v List.mem_cons_self
  have tl: ∀ v∈rest,∃ ks' b',v=.ref b'/\IsTupleKey knd s'.heap ks' b':=fun u hu=>hall u (List.mem_cons_of_mem _ hu)
  dsimp only
  split
  ·exact wpAny_pure ⟨rfl,rfl,tl⟩
  ·refine wpAny_bind (wpAny_eqIsQuiet_tuple hk ?_)
   simp only [Bool.not_true,Bool.false_eq_true,if_false]
   refine wpAny_bind (wpAny_eqIsQuiet_tuple hk' ?_)
   simp only [Bool.not_true,Bool.false_eq_true,if_false]
   refine wpAny_bind (rS hk ?_)
   simp only [Bool.false_eq_true,if_false]
   refine wpAny_bind (rS hk' ?_)
   simp only [Bool.false_eq_true,if_false]
   exact wpAny_pure ⟨rfl,rfl,tl⟩
 ·rintro ⟨r1,r2⟩ s' ⟨hr,rfl,_⟩
  simp only at hr
  subst hr
  exact wpAny_pure h
variable (knd φ)in
structure SetT (h:Heap) (a:Addr) (u:List (List K)) (o:Obj) (es:Array (Int×Value)) (ep:Nat) (t:SetTable):Prop where
 ho:h.get? a=some o
 hx:o.ExactSet
 hd:o.data=.set es ep t
 ht:Tab t u.length
 hn:es.size=u.length
 hl:u.length<5
 hr:Rch t es
 hg:t.led= !w.params.followText "set-order"
 el: ∀ e∈es.toList,∃ ks b,ks∈u/\e.2=.ref b/\IsTupleKey knd h ks b/\e.1=tupleKeyHash knd ks
 all: ∀ ks∈u,∃ e∈es.toList,∃ b,e.2=.ref b/\IsTupleKey knd h ks b
 ph: ∀ e∈es.toList,∀ ks b,e.2=.ref b->IsTupleKey knd h ks b->φ ks b
theorem SetT.fits {h:Heap} {a:Addr} {u:List (List K)} {o:Obj} {es:Array (Int×Value)} {ep:Nat} {t:SetTable} (S:SetT knd φ h a u o es ep t):t.fits es.size=true:=by
 unfold SetTable.fits SetTable.fill
 have:=S.hl
 rw [S.ht.d,S.ht.m,S.ht.n,S.hn]
 simp
 lia
theorem SetT.mem {h:Heap} {a:Addr} {u:List (List K)} {o:Obj} {es:Array (Int×Value)} {ep:Nat} {t:SetTable} (S:SetT knd φ h a u o es ep t) {i:Nat} {e:Int×Value} (he:es[i]? =some e):e∈es.toList:=by
 rw [<- Array.getElem?_toList]at he
 exact List.mem_of_getElem? he
theorem fF {a:Addr} {u:List (List K)} {o:Obj} {es:Array (Int×Value)} {ep:Nat} {t:SetTable} {ks:List K} {b:Addr} {adding:Bool} {N:Nat} {Q:SetFound->Shared->Prop} (hu:A.units<cLine) (S:SetT knd φ s.heap a u o es ep t) (hk:IsTupleKey knd s.heap ks b)
  (hN:N<=20) (h2:t.slot (rd (SetTable.bits (tupleKeyHash knd ks)) N).1=.empty) (h3: ∀ m,m<N->t.slot (rd (SetTable.bits (tupleKeyHash knd ks)) m).1≠ .empty)
  (hQ1:ks∈u-> ∀ i:Option Nat,(adding=false->i.isSome=true)->Q (.there i) s) (hQ2:ks∉u->Q (.free (rd (SetTable.bits (tupleKeyHash knd ks)) N).1 false) s):
  ∀ (fuel k:Nat) (st:Option SetTable.Probe),k<=N->N-k<fuel->st.getD (t.probeStart (tupleKeyHash knd ks))=pr (SetTable.bits (tupleKeyHash knd ks)) k->
   (∀ c i e,c<k->t.slot (rd (SetTable.bits (tupleKeyHash knd ks)) c).1=.live i->es[i]? =some e-> ∀ b',e.2=.ref b'-> ¬ IsTupleKey knd s.heap ks b')->
   wpAny (model prog w) A (setSearchFrom a (.ref b) (tupleKeyHash knd ks) adding fuel st) Q E s:=by
 intro fuel
 induction fuel with
 | zero=>intro k st hk' hf hst hno;lia
 | succ fuel ih=>
  intro k st hk' hf hst hno
  unfold setSearchFrom
  refine wpAny_bind (wpAny_setState_of S.ho S.hd S.fits ?_)
  dsimp only
  have hg:t.gaveWay=false:=by unfold SetTable.gaveWay;rw [S.ht.m];rfl
  rw [hg]
  simp only [Bool.false_eq_true,if_false]
  rw [hst]
  have hfu:N-k<10*SetTable.turns t.mask:=by rw [S.ht.m];show N-k<10* (7+15);lia
  have hP: ∀ g:Nat->Int,g=(fun i=>(es[i]?.map (·.1)).getD 0)->(∃ m i,k<=m/\m<N/\t.slot (rd (SetTable.bits (tupleKeyHash knd ks)) m).1=.live i/\t.probe g (tupleKeyHash knd ks) (pr (SetTable.bits (tupleKeyHash knd ks)) k)=some (.candidate (rd (SetTable.bits (tupleKeyHash knd ks)) m).1 i (pr (SetTable.bits (tupleKeyHash knd ks)) (m+1)))/\ ∀ c i',k<=c->c<m->t.slot (rd (SetTable.bits (tupleKeyHash knd ks)) c).1=.live i'->(es[i']?.map (·.1)).getD 0≠tupleKeyHash knd ks)\/
    (t.probe g (tupleKeyHash knd ks) (pr (SetTable.bits (tupleKeyHash knd ks)) k)=some (.empty (rd (SetTable.bits (tupleKeyHash knd ks)) N).1 none)/\ ∀ c i',k<=c->c<N->t.slot (rd (SetTable.bits (tupleKeyHash knd ks)) c).1=.live i'->(es[i']?.map (·.1)).getD 0≠tupleKeyHash knd ks):=fun g hg=>by
   rcases j8 S.ht (g:=fun i=>(es[i]?.map (·.1)).getD 0) (x:=tupleKeyHash knd ks) h2 h3 _ k hk' hfu with ⟨m,i,a1,a2,a3,a4,a5,a6⟩ | ⟨a1,a2⟩
   ·exact .inl ⟨m,i,a1,a2,a3,by rw [hg];exact a5,a6⟩
   ·exact .inr ⟨by rw [hg];exact a1,a2⟩
  have hno': ∀ m,(∀ c i',k<=c->c<m->t.slot (rd (SetTable.bits (tupleKeyHash knd ks)) c).1=.live i'->(es[i']?.map (·.1)).getD 0≠tupleKeyHash knd ks)-> ∀ c i e,c<m->t.slot (rd (SetTable.bits (tupleKeyHash knd ks)) c).1=.live i->es[i]? =some e-> ∀ b',e.2=.ref b'-> ¬ IsTupleKey knd s.heap ks b':=fun m ha c i e hc hl he b' eb hb'=>by
   rcases Nat.lt_or_ge c k with z | z
   ·exact hno c i e z hl he b' eb hb'
   ·refine ha c i z hc hl ?_
    obtain ⟨ks',b2,_,e2,h5,h6⟩:=S.el e (S.mem he)
    rw [e2]at eb
    cases eb
    rw [he,hb'.inj h5]
    exact h6
  rcases hP _ rfl with ⟨m,i,a1,a2,a3,a5,a6⟩ | ⟨a1,a2⟩
  ·have a5': ∀ g:Nat->Int,(∀ i,g i=(es[i]?.map (·.1)).getD 0)->t.probe g (tupleKeyHash knd ks) (pr (SetTable.bits (tupleKeyHash knd ks)) k)=_:=fun g hg=>(congrArg (fun g=>t.probe g _ _) (funext hg)).trans a5
   rw [a5']
   rotate_left
   ·exact fun i=>rfl
   dsimp only
   have hi:=(c7 S.ht).mp a3
   have il:i<es.size:=by rw [S.hn,<- S.ht.n];exact (Array.getElem?_eq_some_iff.mp hi).1
   have hei:es[i]? =some es[i]:=Array.getElem?_eq_getElem il
   obtain ⟨ks',b',hu',eb,hkb,hh⟩:=S.el es[i] (S.mem hei)
   have rest:wpAny (model prog w) A (do
     let some (_,y):=es[i]? | unsupported "internal:set-entry"
     let equal <- holding [y] (eqBool y (.ref b))
     let (es',_,t') <- setState a
     if adding&&equal then return SetFound.there none
     let some same:=t'.sameMemory t.moves t.mask | unsupported "set.changed-during-lookup:is-the-new-block-at-the-old-address"
     let still <- match (if same then t'.slot (rd (SetTable.bits (tupleKeyHash knd ks)) m).1 else .empty)with
      | .live i'=>match es'[i']? with
       | some (_,y')=>do pure (if <- isSame y' y then some i' else none)
       | none=>pure none
      | _=>pure none
     match still with
     | none=>rule "set.search.anew";setSearchFrom a (.ref b) (tupleKeyHash knd ks) adding fuel none
     | some i'=>if equal then return .there (some i')else setSearchFrom a (.ref b) (tupleKeyHash knd ks) adding fuel (some (pr (SetTable.bits (tupleKeyHash knd ks)) (m+1)))) Q E s:=by
    rw [hei]
    dsimp only
    rw [eb]
    refine wpAny_bind (wpAny_holding (wpAny_eqBool_tuple hu hkb hk ?_))
    refine wpAny_bind (wpAny_setState_of S.ho S.hd S.fits ?_)
    dsimp only
    have sm:t.sameMemory t.moves t.mask=some true:=by unfold SetTable.sameMemory;rw [if_pos (beq_self_eq_true _)]
    by_cases c:ks'=ks
    ·subst c
     rw [decide_eq_true rfl]
     cases adding with
     | true=>exact wpAny_pure (hQ1 hu' none fun z=>nomatch z)
     | false=>
      simp only [Bool.false_and,Bool.false_eq_true,if_false]
      rw [sm]
      dsimp only
      simp only [if_true]
      rw [a3]
      dsimp only
      rw [hei]
      dsimp only
      rw [eb]
      refine wpAny_bind (wpAny_isSame_ref_self (wpAny_bind (wpAny_pure ?_)))
      exact wpAny_pure (hQ1 hu' (some i) fun _=>rfl)
    ·rw [decide_eq_false c]
     simp only [Bool.and_false,Bool.false_eq_true,if_false]
     rw [sm]
     dsimp only
     simp only [if_true]
     rw [a3]
     dsimp only
     rw [hei]
     dsimp only
     rw [eb]
     refine wpAny_bind (wpAny_isSame_ref_self (wpAny_bind (wpAny_pure ?_)))
     refine ih (m+1) _ a2 (by lia) rfl fun c' i' e' hc hl he b2 eb2 hb2=>?_
     rcases Nat.lt_or_ge c' m with z | z
     ·exact hno' m a6 c' i' e' z hl he b2 eb2 hb2
     ·have:c'=m:=by lia
      subst this
      rw [a3]at hl
      cases hl
      rw [hei]at he
      cases he
      rw [eb]at eb2
      cases eb2
      exact c (hkb.inj hb2)
   cases t.led with
   | true=>exact rest
   | false=>
    refine wpAny_bind (ug hk (fun v hv=>?_) ?_)
    ·obtain ⟨e,he,rfl⟩:=List.mem_map.mp hv
     obtain ⟨ks2,b2,_,e2,h5,_⟩:=S.el e (by
      have:=Array.mem_toList_iff.mp he
      exact Array.mem_toList_iff.mpr (Array.mem_filter.mp this).1)
     exact ⟨ks2,b2,e2,h5⟩
    ·exact rest
  ·have a1': ∀ g:Nat->Int,(∀ i,g i=(es[i]?.map (·.1)).getD 0)->t.probe g (tupleKeyHash knd ks) (pr (SetTable.bits (tupleKeyHash knd ks)) k)=_:=fun g hg=>(congrArg (fun g=>t.probe g _ _) (funext hg)).trans a1
   rw [a1']
   rotate_left
   ·exact fun i=>rfl
   dsimp only
   refine wpAny_pure (hQ2 fun hm=>?_)
   obtain ⟨e,he,b',eb,hb'⟩:=S.all ks hm
   obtain ⟨i,hi⟩:=List.getElem?_of_mem he
   rw [Array.getElem?_toList]at hi
   obtain ⟨ks',b2,_,e2,h5,h6⟩:=S.el e he
   rw [e2]at eb
   cases eb
   have ek:=hb'.inj h5
   subst ek
   have il:i<t.place.size:=by rw [S.ht.n,<- S.hn];exact (Array.getElem?_eq_some_iff.mp hi).1
   have hp:t.place[i]? =some t.place[i]:=Array.getElem?_eq_getElem il
   obtain ⟨n,r1,r2⟩:=S.hr _ e ⟨i,hp,hi⟩
   rw [h6]at r1 r2
   have nN:n<N:=by
    rcases Nat.lt_trichotomy n N with z | z | z
    ·exact z
    ·subst z
     rw [r1]at h2
     exact absurd h2 (ky S.ht ⟨i,hp,hi⟩)
    ·exact absurd h2 (r2 N z)
   exact hno' N a2 n i e nN ((c7 S.ht).mpr (by rw [r1];exact hp)) hi b' e2 hb'
end
section
variable {prog:Program} {w:World} {K:Type} [DecidableEq K] {knd:KeyKind prog w K} {φ:List K->Addr->Prop} {A:Around} {E:Value->Shared->Prop} {s:Shared}
theorem tH {ks:List K} {a:Addr} {Q:Bool->Shared->Prop} (hk:IsTupleKey knd s.heap ks a) (h: ∀ r,Q r s):wpAny (model prog w) A (hashByValue 8 (.ref a)) Q E s:=by
 have hT:=hk.typeIs
 obtain ⟨o,items,n,ho,hc,hd,hi⟩:=hk
 unfold hashByValue
 refine wpAny_bind (wpAny_specialOf hT F.slot_tuple_hash.lookup ?_)
 dsimp only
 refine wpAny_bind (wpAny_seqItems ho hd ?_)
 dsimp only [Option.getD]
 refine wpAny_bind ?_
 show wpAny _ _ (forIn items _ _) _ _ s
 rw [<- Array.forIn_toList]
 refine wpAny_forIn_list _ (fun rest r s'=>s'=s/\ ∀ v∈rest,carriedByValue v=true) _ ?_ ?_ _ _ ⟨rfl,hi.byValue⟩
 ·rintro v rest r s' ⟨rfl,hall⟩
  obtain ⟨c,e⟩: ∃ c,hashByValue 7 v=pure c:=by
   have:=hall v List.mem_cons_self
   cases v <;> first | exact ⟨_,rfl⟩ | cases this
  rw [e]
  refine wpAny_bind (wpAny_pure ?_)
  split
  ·exact wpAny_pure (by cases c <;> first | exact wpAny_pure (h _) | exact h _)
  ·exact wpAny_pure ⟨rfl,fun u hu'=>hall u (List.mem_cons_of_mem _ hu')⟩
 ·rintro ⟨r1,r2⟩ s' ⟨rfl,_⟩
  cases r1 <;> exact wpAny_pure (h _)
theorem pO {h h':Heap} {ks:List K} {a b:Addr} {o:Obj} {es:Array (Int×Value)} {ep:Nat} {t:SetTable} (x:IsTupleKey knd h ks b) (ho:h.get? a=some o) (hd:o.data=.set es ep t) (hs:Heap.SameBut a h h'):IsTupleKey knd h' ks b:=by
 obtain ⟨o',items,n,ho',hc,hd',hi⟩:=x
 have hne:b≠a:=by
  rintro rfl
  obtain rfl:o'=o:=Option.some.inj (ho'.symm.trans ho)
  rw [hd]at hd';exact nomatch hd'
 exact ⟨o',items,n,(hs.2 b hne).trans ho',hc,hd',hi⟩
variable (knd φ)in
noncomputable def SetTs (h:Heap) (a:Addr) (u:List (List K)):Prop:= ∃ o es ep t,SetT knd φ h a u o es ep t
theorem tJ {a:Addr} {u:List (List K)} {ks:List K} {b:Addr} {Q:Option Nat->Shared->Prop} (hu:A.units<cLine) (S:SetTs knd φ s.heap a u) (hk:IsTupleKey knd s.heap ks b) (hQ: ∀ r:Option Nat,(ks∉u->r=none)->(ks∈u->r.isSome=true)->Q r s):
  wpAny (model prog w) A (setFind a (.ref b) (tupleKeyHash knd ks)) Q E s:=by
 obtain ⟨o,es,ep,t,S⟩:=S
 unfold setFind setFindIn
 refine wpAny_bind (wpAny_setState_of S.ho S.hd S.fits ?_)
 dsimp only
 have hb:byScan (.ref b) es=false:=rfl
 rw [hb]
 simp only [Bool.false_eq_true,if_false]
 unfold setSearch
 obtain ⟨N,n1,n2,n3⟩:=rF S.ht (Nat.lt_of_lt_of_le S.hl (by decide)) (tupleKeyHash knd ks)
 refine wpAny_bind (fF (adding:=false) hu S hk n1 n2 n3 (fun hm i hi=>?_) (fun hm=>?_) 100000 0 none (Nat.zero_le _) (by lia) (jL S.ht _) fun c i e hc=>by lia)
 ·exact wpAny_pure (hQ i (fun z=>absurd hm z) fun _=>hi rfl)
 ·exact wpAny_pure (hQ none (fun _=>rfl) fun z=>absurd z hm)
theorem u8 {a:Addr} {u:List (List K)} {ks:List K} {b:Addr} {Q:Bool->Shared->Prop} (hu:A.units<cLine) (S:SetTs knd φ s.heap a u) (hk:IsTupleKey knd s.heap ks b) (hl:ks∉u->u.length<4) (hφ:φ ks b)
  (h: ∀ h' r,Heap.SameBut a s.heap h'->SetTs knd φ h' a (if ks∈u then u else u++[ks])->Q r {s with heap:=h'}):wpAny (model prog w) A (setAddHashed a (.ref b) (tupleKeyHash knd ks)) Q E s:=by
 obtain ⟨o,es,ep,t,S⟩:=S
 unfold setAddHashed setAddHashedIn
 refine wpAny_holding (wpAny_bind (wpAny_setState_of S.ho S.hd S.fits ?_))
 dsimp only
 have hb:byScan (.ref b) es=false:=rfl
 rw [hb]
 simp only [Bool.false_eq_true,if_false]
 unfold setSearch
 obtain ⟨N,n1,n2,n3⟩:=rF S.ht (Nat.lt_of_lt_of_le S.hl (by decide)) (tupleKeyHash knd ks)
 refine wpAny_bind (fF (adding:=true) hu S hk n1 n2 n3 (fun hm i hi=>?_) (fun hm=>?_) 100000 0 none (Nat.zero_le _) (by lia) (jL S.ht _) fun c i e hc=>by lia)
 ·have e:s={s with heap:=s.heap}:=by cases s;rfl
  have:=h s.heap false (Heap.SameBut.refl a s.heap) (by rw [if_pos hm];exact ⟨o,es,ep,t,S⟩)
  rw [e]
  exact wpAny_pure this
 ·dsimp only
  refine wpAny_bind (wpAny_setState_of S.ho S.hd S.fits ?_)
  dsimp only
  have hl4:=hl hm
  obtain ⟨⟨t',p⟩,hp⟩: ∃ r,t.put (rd (SetTable.bits (tupleKeyHash knd ks)) N).1=r:=⟨_,rfl⟩
  obtain ⟨T',hE,eled,_⟩:=sy S.ht (ua _ N) n2 hp
  obtain ⟨hs',hE⟩:=hE es (tupleKeyHash knd ks,.ref b) S.hn
  rw [hp]
  dsimp only
  have fin: ∀ (t2:SetTable),t2.mask=t'.mask->t2.place=t'.place->t2.dummies=t'.dummies->t2.led=t'.led->wpAny (model prog w) A (do
    storeSet a (SetTable.insertAt es p (tupleKeyHash knd ks,.ref b)) t2
    if (!false&&t2.tooFull)=true then do
      setRelay a (SetTable.grown (es.size+1))
      pure true
     else pure true) Q E s:=fun t2 e1 e2 e3 e4=>by
   have T2:Tab t2 (u.length+1):=⟨e1.trans T'.m,e3.trans T'.d,by rw [e2];exact T'.r,by rw [e2];exact T'.n,by rw [e2];exact T'.le⟩
   have hE2: ∀ j' e',Ent t2 (SetTable.insertAt es p (tupleKeyHash knd ks,.ref b)) j' e'↔Ent t es j' e'\/(j'=(rd (SetTable.bits (tupleKeyHash knd ks)) N).1/\e'=(tupleKeyHash knd ks,.ref b)):=fun j' e'=>by
    rw [<- hE j' e']
    unfold Ent
    rw [e2]
   refine wpAny_bind (wpAny_storeSet_of S.ho S.hd ?_ (by rw [hs'];exact Nat.le_trans (by lia:u.length+1<=5) (by show 5<=sizeLine;decide)))
   have hf:t2.tooFull=false:=by
    unfold SetTable.tooFull SetTable.fill
    rw [T2.d,T2.m,T2.n]
    simp
    lia
   rw [hf]
   simp only [Bool.and_false,Bool.false_eq_true,if_false]
   refine wpAny_pure (h _ true (Heap.SameBut.update s.heap a _) ?_)
   rw [if_neg hm]
   have hg:(s.heap.update a (Obj.putSet (SetTable.insertAt es p (tupleKeyHash knd ks,.ref b)) t2)).get? a=some {o with data:=.set (SetTable.insertAt es p (tupleKeyHash knd ks,.ref b)) (ep+1) t2}:=by
    have:=Heap.get?_update_self (Obj.putSet (SetTable.insertAt es p (tupleKeyHash knd ks,.ref b)) t2) S.ho (by rw [putSet_of _ t2 S.hd];rfl)
    rw [putSet_of _ t2 S.hd]at this
    exact this
   have sb:=Heap.SameBut.update s.heap a (Obj.putSet (SetTable.insertAt es p (tupleKeyHash knd ks,.ref b)) t2)
   have kp: ∀ {ks' b'},IsTupleKey knd s.heap ks' b'->IsTupleKey knd (s.heap.update a (Obj.putSet (SetTable.insertAt es p (tupleKeyHash knd ks,.ref b)) t2)) ks' b':=fun x=>pO x S.ho S.hd sb
   have ll:(u++[ks]).length=u.length+1:=by simp
   have mem: ∀ e,e∈(SetTable.insertAt es p (tupleKeyHash knd ks,.ref b)).toList↔e∈es.toList\/e=(tupleKeyHash knd ks,.ref b):=fun e=>by
    constructor
    ·intro he
     obtain ⟨i,hi⟩:=List.getElem?_of_mem he
     rw [Array.getElem?_toList]at hi
     have il:i<t2.place.size:=by rw [T2.n,<- hs'];exact (Array.getElem?_eq_some_iff.mp hi).1
     rcases (hE2 _ e).mp ⟨i,Array.getElem?_eq_getElem il,hi⟩with ⟨i',_,h2⟩ | ⟨_,h2⟩
     ·exact .inl (S.mem h2)
     ·exact .inr h2
    ·intro he
     have: ∃ j,Ent t2 (SetTable.insertAt es p (tupleKeyHash knd ks,.ref b)) j e:=by
      rcases he with he | he
      ·obtain ⟨i,hi⟩:=List.getElem?_of_mem he
       rw [Array.getElem?_toList]at hi
       have il:i<t.place.size:=by rw [S.ht.n,<- S.hn];exact (Array.getElem?_eq_some_iff.mp hi).1
       exact ⟨_,(hE2 _ e).mpr (.inl ⟨i,Array.getElem?_eq_getElem il,hi⟩)⟩
      ·exact ⟨_,(hE2 _ e).mpr (.inr ⟨rfl,he⟩)⟩
     obtain ⟨j,i,_,hi⟩:=this
     rw [<- Array.getElem?_toList]at hi
     exact List.mem_of_getElem? hi
   have R2:=sk (N:=N) (e:=(tupleKeyHash knd ks,.ref b)) S.ht T2 S.hn hs' S.hr n3 hE2
   have hxx:({o with data:=.set (SetTable.insertAt es p (tupleKeyHash knd ks,.ref b)) (ep+1) t2}:Obj).ExactSet:=S.hx
   generalize s.heap.update a (Obj.putSet (SetTable.insertAt es p (tupleKeyHash knd ks,.ref b)) t2)=h2 at hg kp ⊢
   generalize SetTable.insertAt es p (tupleKeyHash knd ks,.ref b)=es2 at hg hs' mem R2 hxx
   refine ⟨_,es2,ep+1,t2,hg,hxx,rfl,by rw [ll];exact T2,by rw [ll];exact hs',by rw [ll];lia,R2,e4.trans (eled.trans S.hg),fun e he=>?_,fun ks' hk'=>?_,fun e he ks2 b2 q1 q2=>?_⟩
   ·rcases (mem e).mp he with he | rfl
    ·obtain ⟨ks',b',h1,h2,h3,h4⟩:=S.el e he
     exact ⟨ks',b',List.mem_append_left _ h1,h2,kp h3,h4⟩
    ·exact ⟨ks,b,List.mem_append_right _ List.mem_cons_self,rfl,kp hk,rfl⟩
   ·rcases List.mem_append.mp hk' with hk' | hk'
    ·obtain ⟨e,he,b',h1,h2⟩:=S.all ks' hk'
     exact ⟨e,(mem e).mpr (.inl he),b',h1,kp h2⟩
    ·rw [List.mem_singleton.mp hk']
     exact ⟨_,(mem _).mpr (.inr rfl),b,rfl,kp hk⟩
   ·rcases (mem e).mp he with he | rfl
    ·obtain ⟨ks',b',h1,h2,h3,h4⟩:=S.el e he
     rw [h2]at q1
     cases q1
     rw [q2.inj (kp h3)]
     exact S.ph e he _ _ h2 h3
    ·cases q1
     rw [q2.inj (kp hk)]
     exact hφ
  split
  ·refine wpAny_bind (tH hk fun r=>?_)
   cases r with
   | true=>exact fin t' rfl rfl rfl rfl
   | false=>exact fin _ rfl rfl rfl rfl
  ·refine wpAny_bind (wpAny_pure ?_)
   exact fin t' rfl rfl rfl rfl
theorem rC {h:Heap} {a:Addr} (ho:h.get? a=some {cls:=.type "set",dict:=none,data:=.set #[] 0 (.fresh 0 0 (!w.params.followText "set-order"))}):SetTs knd φ h a []:=
 ⟨_,#[],0,_,ho,⟨rfl,rfl,rfl⟩,rfl,⟨rfl,rfl,fun i k a b h=>by simp [SetTable.fresh]at h,rfl,fun i j h=>by simp [SetTable.fresh]at h⟩,rfl,(by show 0<5;decide),fun j e ⟨i,h,_⟩=>by simp [SetTable.fresh]at h,rfl,fun e he=>by simp at he,fun ks h=>(by cases h),fun e he=>by simp at he⟩
end
end HT
namespace HT
open PySem PyProof.Rows
section
variable {K:Type} [DecidableEq K]
theorem SetTs.keep {prog:Program} {w:World} {knd:KeyKind prog w K} {φ:List K->Addr->Prop} {h h':Heap} {a:Addr} {u:List (List K)} (S:SetTs knd φ h a u) (k: ∀ o,h.get? a=some o->h'.get? a=some o) (kt: ∀ b ks,IsTupleKey knd h ks b->IsTupleKey knd h' ks b):SetTs knd φ h' a u:=by
 obtain ⟨o,es,ep,t,S⟩:=S
 refine ⟨o,es,ep,t,k o S.ho,S.hx,S.hd,S.ht,S.hn,S.hl,S.hr,S.hg,fun e he=>?_,fun ks hk=>?_,fun e he ks b q1 q2=>?_⟩
 ·obtain ⟨ks,b,h1,h2,h3,h4⟩:=S.el e he
  exact ⟨ks,b,h1,h2,kt _ _ h3,h4⟩
 ·obtain ⟨e,he,b,h1,h2⟩:=S.all ks hk
  exact ⟨e,he,b,h1,kt _ _ h2⟩
 ·obtain ⟨ks',b',h1,h2,h3,h4⟩:=S.el e he
  rw [h2]at q1
  cases q1
  rw [q2.inj (kt _ _ h3)]
  exact S.ph e he _ _ h2 h3
theorem SetTs.notTup {prog:Program} {w:World} {knd:KeyKind prog w K} {φ:List K->Addr->Prop} {h:Heap} {a:Addr} {u:List (List K)} (S:SetTs knd φ h a u) {b:Addr} {ks:List K} (x:IsTupleKey knd h ks b):b≠a:=by
 obtain ⟨o,es,ep,t,S⟩:=S
 obtain ⟨o',items,n,ho',hc,hd',hi⟩:=x
 rintro rfl
 obtain rfl:o'=o:=Option.some.inj (ho'.symm.trans S.ho)
 rw [S.hd]at hd'
 exact nomatch hd'
theorem eG {prog:Program} {w:World} {knd:KeyKind prog w K} {h h':Heap} {b:Addr} {ks:List K} (x:IsTupleKey knd h ks b) (k: ∀ o,h.get? b=some o->h'.get? b=some o):IsTupleKey knd h' ks b:=by
 obtain ⟨o',items,n,ho',hc,hd',hi⟩:=x
 exact ⟨o',items,n,k o' ho',hc,hd',hi⟩
theorem nM: ∀ (l u:List (List K)),u.length<=(ins u l).length
 | [],u=>Nat.le_refl _
 | k::r,u=>by
  unfold ins
  refine Nat.le_trans ?_ (nM r _)
  split <;> simp
theorem oi {prog:Program} {w:World} {A:Around} {R:Result->Shared->Prop} {I:Addr} {fp wr:List Addr} {G:Array GenState->Array GenState->Prop} {P:Nat->Value->Prop} {St:Nat->Shared->Prop} {knd:KeyKind prog w K} {φ:List K->Addr->Prop} {n:Nat}
  (hu:A.in1.units<cLine) (W:WalksS prog w A.in1 I fp wr G n P St) (hI: ∀ i s,St i s-> ∀ b ks,IsTupleKey knd s.heap ks b->b∉wr) (S:Addr) (hS:S∉fp) (val:List (List K)) (hl:val.length=n) (hlen:(ins [] val).length<5):
  ∀ (k i:Nat) (s:Shared) (u:List (List K)),n-i=k->i<=n->St i s->SetTs knd φ s.heap S u->ins u (val.drop i)=ins [] val->(∀ i v,P i v-> ∃ k b,val[i]? =some k/\v=.ref b/\IsTupleKey knd s.heap k b/\φ k b)->
   (∀ s',Moved (S::wr) G s s'->(∀ b ks,IsTupleKey knd s.heap ks b->IsTupleKey knd s'.heap ks b)->SetTs knd φ s'.heap S (ins [] val)->R (.ok (.ret .none)) s')->
   codeAny (model prog w) A (.builtin "set.update.loop" {pos:=[.ref S,.ref I]}) R s:=by
 intro k
 induction k with
 | zero=>
  intro i s u hk hi hst hset hu' hP hR
  have e:i=n:=by lia
  subst e
  refine codeAny_builtin F.entry_set_update_loop ?_
  rw [Around.under_plainId F.plain_set_update_loop]
  refine wpAny_bind (W.done s _ _ hst fun s' mv=>?_)
  have hd:val.drop i=[]:=List.drop_eq_nil_of_le (by lia)
  rw [hd]at hu'
  have hu':u=ins [] val:=hu'
  have kt: ∀ b ks,IsTupleKey knd s.heap ks b->IsTupleKey knd s'.heap ks b:=fun b ks x=>eG x fun o ho=>mv.heap b o (hI _ s hst b ks x) ho
  refine wpAny_pure (hR s' (mv.mono fun b hb=>List.mem_cons_of_mem _ hb) kt ?_)
  rw [<- hu']
  exact hset.keep (fun o ho=>mv.heap S o (fun hb=>hS (W.sub S hb)) ho) kt
 | succ k ih=>
  intro i s u hk hi hst hset hu' hP hR
  refine codeAny_builtin F.entry_set_update_loop ?_
  rw [Around.under_plainId F.plain_set_update_loop]
  refine wpAny_bind (W.item i s _ _ (by lia) hst fun v s' hv st' mv=>?_)
  have kt: ∀ b ks,IsTupleKey knd s.heap ks b->IsTupleKey knd s'.heap ks b:=fun b ks x=>eG x fun o ho=>mv.heap b o (hI _ s hst b ks x) ho
  obtain ⟨x,b,hx,rfl,hkx,hφ⟩:=hP i v hv
  have hkx':=kt _ _ hkx
  have hset':=hset.keep (fun o ho=>mv.heap S o (fun hb=>hS (W.sub S hb)) ho) kt
  have hd:val.drop i=x::val.drop (i+1):=by
   obtain ⟨hlt,hx'⟩:=List.getElem?_eq_some_iff.mp hx
   rw [List.drop_eq_getElem_cons hlt,hx']
  have hstep:ins (if x∈u then u else u++[x]) (val.drop (i+1))=ins [] val:=by
   rw [<- hu',hd]
   by_cases c:x∈u <;> simp [ins,c]
  have hl4:x∉u->u.length<4:=fun hn=>by
   have h1:=nM (val.drop (i+1)) (if x∈u then u else u++[x])
   rw [hstep,if_neg hn,List.length_append]at h1
   simp at h1
   lia
  refine wpAny_bind (wpAny_holding (wpAny_holding (wpAny_bind (wpAny_pyHash_tuple hu hkx' (u8 hu hset' hkx' hl4 hφ fun h' r sb so=>?_)))))
  refine wpAny_pure ⟨plainId_quiet F.plain_set_update_loop _,?_⟩
  have kt2: ∀ b ks,IsTupleKey knd s'.heap ks b->IsTupleKey knd h' ks b:=fun b ks x=>eG x fun o ho=>(sb.2 b (hset'.notTup x)).trans ho
  refine ih (i+1) _ (if x∈u then u else u++[x]) (by lia) (by lia) ?_ so hstep (fun i v hv=>?_) ?_
  ·exact W.frame (i+1) s' h' _ st' (Nat.le_add_right _ _) fun b hb o ho=>(sb.2 b (fun z=>hS (z▸hb))).trans ho
  ·obtain ⟨k,b,h1,h2,h3,h4⟩:=hP i v hv
   exact ⟨k,b,h1,h2,kt2 _ _ (kt _ _ h3),h4⟩
  ·intro s2 mv2 kt3 hs2
   refine hR s2 ?_ (fun b ks x=>kt3 b ks (kt2 b ks (kt b ks x))) hs2
   refine Moved.trans W.gtrans (Moved.then_heap (mv.mono fun b hb=>List.mem_cons_of_mem _ hb) (Nat.le_add_right _ _) fun b o hb ho=>(sb.2 b (fun z=>hb (z▸List.mem_cons_self))).trans ho) mv2
end
theorem iw {prog:Program} {w:World} {A:Around} {E:Value->Shared->Prop} {s:Shared} (a:Value) {Q₁:Value->Shared->Prop}
  (h:Q₁ (.ref s.heap.objs.size) {s with heap:=s.heap.push {cls:=.type "set",dict:=none,data:=.set #[] 0 (.fresh 0 0 (!w.params.followText "set-order"))}}):
  codeAny (model prog w) A (.call (.builtin "set.__new__") ⟨[.type "set",a],[]⟩) (wants Q₁ E) s:=by
 refine codeAny_of_tree ?_
 show wpAny _ A.in1 (do checkBuiltinCall "set.__new__" ⟨[.type "set",a],[]⟩;again (.builtin "set.__new__" ⟨[.type "set",a],[]⟩)) _ _ s
 refine wpAny_bind (wpAny_of_eq (F.newCall_set_1 a) (wpAny_pure ⟨plainId_quiet F.plain_set_new _,codeAny_builtin F.entry_set_new ?_⟩))
 rw [Around.under_plainId F.plain_set_new _]
 unfold Builtin.«set.__new__» Builtin.Frozenset.newClass
 have hsub:=sub_set_self
 obtain ⟨hp,g,d,tk,os⟩:=s
 dsimp only
 wp_walk
 refine wpAny_askSetting (wpAny_pure ?_)
 dsimp only
 simp only [newObj]
 refine wpAny_bind (wpAny_alloc (wpAny_pure ?_))
 exact wpAny_pure h
theorem call_setTL {prog:Program} {w:World} {A:Around} {E:Value->Shared->Prop} {s:Shared} {l:Addr} {items:Array Value} {K:Type} [DecidableEq K] {knd:KeyKind prog w K} {φ:List K->Addr->Prop} {val:List (List K)} {Q:Value->Shared->Prop} (hh:A.handled=none)
  (hL:s.heap.IsList l items) (hl:val.length=items.size) (hP: ∀ (i:Nat) (v:Value),items[i]? =some v-> ∃ k b,val[i]? =some k/\v=.ref b/\IsTupleKey knd s.heap k b/\φ k b) (hn:(ins [] val).length<5) (hu:A.units+3<cLine)
  (q: ∀ (h':Heap) (tk:Nat),SetTs knd φ h' s.heap.objs.size (ins [] val)->(∀ b o,b<s.heap.objs.size->s.heap.get? b=some o->h'.get? b=some o)->
   Q (.ref s.heap.objs.size) {s with heap:=h',toks:=tk}):
  wpAny (model prog w) A (call (.type "set") [.ref l]) Q E s:=by
 refine wpAny_call (codeAny_of_tree ?_)
 refine wpAny_pure ⟨Code.quiet_builtin _ (by decide +kernel),codeAny_builtin F.entry_type_call ?_⟩
 rw [Around.under_plain (weight_type_call_type _ _ _) rfl]
 obtain ⟨c,tl,em⟩:=F.called_set.mro
 unfold Builtin.«type.__call__»
 simp only [F.called_set.notType,Bool.false_eq_true,if_false,F.called_set.canCreate,F.typeCall_set_1,F.called_set.made,pure_bind,em,List.isEmpty_cons]
 refine wpAny_bind (wpAny_holding (wpAny_call (iw _ ?_)))
 generalize hled:(!w.params.followText "set-order")=led
 generalize ho0:({cls:=Value.type "set",data:=Data.set #[] 0 (SetTable.fresh 0 0 led)}:Obj)=o0
 have hset0:SetTs knd φ (s.heap.push o0) s.heap.objs.size []:=by
  subst ho0
  subst hled
  exact rC (Heap.get?_push_size _ rfl)
 have hty:Shared.TypeIs {s with heap:=s.heap.push o0} (.ref s.heap.objs.size) "set":=by
  subst ho0
  exact ⟨_,Heap.get?_push_size _ rfl,rfl⟩
 refine wpAny_bind (wpAny_isInstance hty F.called_set.sub ?_)
 simp only [Bool.not_true,Bool.false_eq_true,if_false]
 refine wpAny_bind (wpAny_holding (wpAny_callSpecial?_slot hty F.called_set.init (wpAny_call (codeAny_call_builtin (by decide +kernel) F.entry_set_init (check_set_init_1 hty ?_)))))
 unfold Builtin.«set.__init__»
 simp only [noKeywords,List.isEmpty_nil,if_true,pure_bind]
 refine wpAny_bind (show wpAny _ _ (typeNameOfCut 200 (.ref s.heap.objs.size)) _ _ _ from wpAny_bind (wpAny_bind (wpAny_typeOf hty (wpAny_pure (wpAny_pure ?_)))))
 refine wpAny_bind (wpAny_of_eq (show checkCount _ 0 1 1=pure ()from rfl) ?_)
 refine wpAny_bind (wpAny_pure ?_)
 have hload:(s.heap.push o0).get? s.heap.objs.size=some o0:=by subst ho0;exact Heap.get?_push_size _ rfl
 refine wpAny_bind (show wpAny _ _ (setUsed s.heap.objs.size) _ _ _ from wpAny_bind (wpAny_bind (wpAny_load' hload ?_)))
 subst ho0
 refine wpAny_pure (wpAny_pure ?_)
 refine wpAny_bind (?_:wpAny _ _ (Builtin.Frozenset.updateFrom "set.__init__" s.heap.objs.size (.ref l)) _ _ _)
 have hL':=hL.push {cls:=Value.type "set",data:=Data.set #[] 0 (SetTable.fresh 0 0 led)}
 have htyl:Shared.TypeIs {s with heap:=s.heap.push {cls:=Value.type "set",data:=Data.set #[] 0 (SetTable.fresh 0 0 led)}} (.ref l) "list":=Heap.IsList.typeIs hL'
 unfold Builtin.Frozenset.updateFrom
 refine wpAny_bind (show wpAny _ _ (Builtin.Frozenset.isAnySet (.ref l)) _ _ _ from wpAny_bind (wpAny_isInstance htyl F.sub_list_set (wpAny_isInstance htyl F.sub_list_frozenset ?_)))
 refine wpAny_bind (wpAny_typeOf htyl ?_)
 refine wpAny_bind (wpAny_pyIter_list hL' ?_)
 refine wpAny_bind (wpAny_runValue ?_)
 have hsz:(s.heap.push {cls:=Value.type "set",data:=Data.set #[] 0 (SetTable.fresh 0 0 led)}).objs.size=s.heap.objs.size+1:=Heap.size_push _ _
 have hlt:l<s.heap.objs.size:=by
  obtain ⟨o,ho,_⟩:=hL
  exact Heap.lt_size ho
 clear hload hty htyl
 dsimp only
 generalize hh1:s.heap.push {cls:=Value.type "set",data:=Data.set #[] 0 (SetTable.fresh 0 0 led)}=h1 at hset0 hL' hsz ⊢
 have hold: ∀ b o,s.heap.get? b=some o->h1.get? b=some o:=fun b o e=>by rw [<- hh1];exact Heap.get?_push_of_some _ e
 have hno:s.heap.objs.size∉[h1.objs.size,l]:=fun hm=>by
  rw [hsz]at hm
  rcases List.mem_cons.mp hm with z | z
  ·exact absurd z (Nat.ne_of_lt (Nat.lt_succ_self _))
  ·rcases List.mem_cons.mp z with z | z
   ·exact absurd z (Nat.ne_of_gt hlt)
   ·cases z
 refine oi (knd:=knd) ?_ (Walks.toS (Walks.list (show A.in1.in1.in1.handled=none from hh) h1.objs.size l (by rw [hsz];exact Nat.ne_of_lt (Nat.lt_succ_of_lt hlt)) items)) ?_ s.heap.objs.size hno val hl hn items.size 0 _ [] rfl (Nat.zero_le _)
  ⟨⟨_,Heap.get?_push_size _ rfl,rfl,rfl⟩,hL'.push _⟩ (hset0.keep (fun o ho=>Heap.get?_push_of_some _ ho) fun b ks x=>eG x fun o ho=>Heap.get?_push_of_some _ ho) rfl (fun i v hv=>?_) fun s' mv kt hs=>?_
 ·show A.units+1+1+1<cLine
  lia
 ·rintro i s ⟨⟨o,ho,hc,_⟩,_⟩ b ks ⟨o',its,n,ho',hc',_⟩ hm
  have e:=List.mem_singleton.mp hm
  subst e
  rw [ho]at ho'
  cases ho'
  rw [hc]at hc'
  exact absurd hc' (by simp)
 ·obtain ⟨k,b,z1,z2,z3,z4⟩:=hP i v hv
  exact ⟨k,b,z1,z2,eG z3 fun o ho=>Heap.get?_push_of_some _ (hold b o ho),z4⟩
 obtain ⟨h',g',d',tk',os'⟩:=s'
 have e1:g'=s.gens:=mv.gens
 have e2:d'=s.drawn:=mv.drawn
 have e3:os'=s.os:=mv.os
 subst e1 e2 e3
 refine wpAny_pure (wpAny_pure (wpAny_pure (q h' tk' hs fun b o hb ho=>mv.heap b o (fun hm=>?_) (Heap.get?_push_of_some _ (hold b o ho)))))
 rw [hsz]at hm
 rcases List.mem_cons.mp hm with z | z
 ·exact absurd z (Nat.ne_of_lt hb)
 ·rcases List.mem_cons.mp z with z | z
  ·exact absurd z (Nat.ne_of_lt (Nat.lt_succ_of_lt hb))
  ·cases z
theorem eB {α:Type}: ∀ (l:List α) (i:Nat) (hi:i<l.length),(l[i]::l.eraseIdx i).Perm l
 | x::r,0,_=>.refl _
 | x::r,i+1,h=>by
  rw [List.eraseIdx_cons_succ,List.getElem_cons_succ]
  exact (List.Perm.swap _ _ _).trans (List.Perm.cons _ (eB r i (Nat.lt_of_succ_lt_succ h)))
section
variable {M:Model} {A:Around} {E:Value->Shared->Prop}
theorem mn {s:Shared} {src:Source} {n:Nat} {Q:Nat->Shared->Prop} (hn:n≠0) (h: ∀ i d,i<n->Q i {s with drawn:=d}):wpAny M A (choose src n) Q E s:=fun Γ p hΓ=>by
 unfold choose
 rw [Sem.wp_choose]
 exact ⟨hn,h _ _ (Nat.mod_lt _ (Nat.pos_of_ne_zero hn))⟩
theorem rN {α:Type} {Q:List α->Shared->Prop}: ∀ (n:Nat) (xs:List α) (s:Shared),n=xs.length->(∀ ys d,ys.Perm xs->Q ys {s with drawn:=d})->wpAny M A (drawOrder n xs) Q E s:=by
 intro n
 induction n generalizing Q with
 | zero=>
  intro xs s hn h
  have e:xs=[]:=List.length_eq_zero_iff.mp hn.symm
  subst e
  unfold drawOrder
  exact wpAny_pure (h [] s.drawn (.refl _))
 | succ n ih=>
  intro xs s hn h
  cases xs with
  | nil=>cases hn
  | cons x r=>
   unfold drawOrder
   refine wpAny_bind (mn (by simp) fun i d hi=>?_)
   rw [List.getElem?_eq_getElem hi]
   dsimp only
   refine wpAny_bind (ih _ _ ?_ fun ys d' hy=>?_)
   ·rw [List.length_eraseIdx_of_lt hi,<- hn]
    rfl
   ·refine wpAny_pure (h _ d' ?_)
    refine (List.Perm.cons _ hy).trans ?_
    exact eB _ _ hi
theorem nB {α:Type} (next:Nat->Nat): ∀ (fuel k:Nat) (left:List α) (out:Array α),fuel=left.length->(pickOrder.go next fuel k left out).toList.Perm (out.toList++left)
 | 0,k,left,out,h=>by
  have e:left=[]:=List.length_eq_zero_iff.mp h.symm
  subst e
  unfold pickOrder.go
  simp
 | fuel+1,k,left,out,h=>by
  unfold pickOrder.go
  have hi:next k%left.length<left.length:=Nat.mod_lt _ (by lia)
  rw [List.getElem?_eq_getElem hi]
  dsimp only
  refine (nB next fuel (k+1) _ _ (by rw [List.length_eraseIdx_of_lt hi];lia)).trans ?_
  rw [Array.toList_push,List.append_assoc]
  exact List.Perm.append_left _ (eB _ _ hi)
theorem oy {α:Type} (next:Nat->Nat) (xs:Array α):(pickOrder next xs).toList.Perm xs.toList:=by
 unfold pickOrder
 simpa using nB next xs.size 0 xs.toList #[] (by simp)
end
section
variable {prog:Program} {w:World} {K:Type} [DecidableEq K] {knd:KeyKind prog w K} {φ:List K->Addr->Prop} {A:Around} {E:Value->Shared->Prop} {s:Shared}
theorem pK {a:Addr} {u:List (List K)} {o:Obj} {es:Array (Int×Value)} {ep:Nat} {t:SetTable} {Q:Array (Int×Value)->Shared->Prop} (S:SetT knd φ s.heap a u o es ep t) (h: ∀ es' d,es'.toList.Perm es.toList->Q es' {s with drawn:=d}):wpAny (model prog w) A (setWalk a) Q E s:=by
 unfold setWalk
 refine wpAny_bind (wpAny_setState_of S.ho S.hd S.fits ?_)
 dsimp only
 refine wpAny_bind (show wpAny _ _ setsByText _ _ _ from wpAny_bind (wpAny_askSetting (wpAny_pure ?_)))
 have hg:=S.hg
 show wpAny _ _ (if w.params.followText "set-order"=true then _ else _) _ _ _
 by_cases c:w.params.followText "set-order"=true
 ·rw [if_pos c]
  refine wpAny_bind (wpAny_askSetting (wpAny_pure ?_))
  exact h _ s.drawn (oy _ _)
 ·rw [if_neg c]
  split
  ·refine wpAny_bind (rN _ _ _ (by simp) fun ys d hy=>wpAny_pure (h _ d (by simpa using hy)))
  ·have hl:t.led=true:=by rw [hg];cases hc:w.params.followText "set-order" <;> simp_all
   refine wpAny_bind (show wpAny _ _ (if (!t.led&&decide (es.size>1))=true then unsupported "set:maker-not-led" else pure PUnit.unit) _ _ _ from ?_)
   rw [hl]
   simp only [Bool.not_true,Bool.false_and,Bool.false_eq_true,if_false]
   exact wpAny_pure (wpAny_pure (h _ s.drawn (.refl _)))
theorem j5 {ks:List K} {b:Addr} {Q:Bool->Shared->Prop} (hk:IsTupleKey knd s.heap ks b) (h: ∀ r,Q r s):wpAny (model prog w) A (Builtin.Frozenset.quietEq (.ref b)) Q E s:=by
 unfold Builtin.Frozenset.quietEq
 exact wpAny_bind (wpAny_specialOf hk.typeIs F.slot_tuple_eq.lookup (wpAny_pure (h _)))
theorem dL {a:Addr} {u:List (List K)} {Q:Nat->Shared->Prop} (S:SetTs knd φ s.heap a u) (h:Q u.length s):wpAny (model prog w) A (Builtin.Frozenset.sizeOf a) Q E s:=by
 obtain ⟨o,es,ep,t,S⟩:=S
 unfold Builtin.Frozenset.sizeOf
 refine wpAny_bind (wpAny_setEntries_of S.ho S.hd S.fits (wpAny_pure ?_))
 rw [S.hn]
 exact h
theorem nY {ψ:List K->Addr->Prop} {a c:Addr} {u v:List (List K)} {o:Obj} {es:Array (Int×Value)} {ep:Nat} {t:SetTable} {Q:List (Int×Value)->Shared->Prop} (S:SetT knd φ s.heap a u o es ep t) (T:SetTs knd ψ s.heap c v) (h: ∀ l d,l.Perm es.toList->Q l {s with drawn:=d}):wpAny (model prog w) A (Builtin.Frozenset.walkUnseen a c) Q E s:=by
 obtain ⟨o',es',ep',t',T⟩:=T
 unfold Builtin.Frozenset.walkUnseen
 refine wpAny_bind (wpAny_setEntries_of S.ho S.hd S.fits ?_)
 refine wpAny_bind (wpAny_setEntries_of T.ho T.hd T.fits ?_)
 refine wpAny_bind ?_
 have fin:wpAny (model prog w) A (Builtin.Frozenset.walk a) Q E s:=wpAny_bind (pK S fun es' d hp=>wpAny_pure (h _ d hp))
 refine wpAny_forIn_list _ (fun rest r s'=>r.1=none/\s'=s/\ ∀ e∈rest,∃ ks b,e.2=.ref b/\IsTupleKey knd s.heap ks b) _ ?_ ?_ _ _ ⟨rfl,rfl,fun e he=>?_⟩
 ·rintro ⟨h',v⟩ rest r s' ⟨hr,rfl,hall⟩
  obtain ⟨ks,b,e,hk⟩:=hall _ List.mem_cons_self
  have e:v=.ref b:=e
  subst e
  refine wpAny_bind (j5 hk fun r=>?_)
  cases r with
  | true=>exact wpAny_pure ⟨rfl,rfl,fun u hu=>hall u (List.mem_cons_of_mem _ hu)⟩
  | false=>
   simp only [Bool.not_false,if_true]
   refine wpAny_bind (wpAny_mono fin (fun l s2 hq=>wpAny_pure (wpAny_pure hq)) fun _ _ h=>h)
 ·rintro ⟨r1,r2⟩ s' ⟨hr,rfl,_⟩
  simp only at hr
  subst hr
  exact wpAny_pure (h _ s'.drawn (.refl _))
 ·rcases List.mem_append.mp he with z | z
  ·obtain ⟨ks,b,_,e1,e2,_⟩:=S.el e z
   exact ⟨ks,b,e1,e2⟩
  ·obtain ⟨ks,b,_,e1,e2,_⟩:=T.el e z
   exact ⟨ks,b,e1,e2⟩
theorem og {ψ:List K->Addr->Prop} {a c:Addr} {u v:List (List K)} {id:String} {Q:Bool->Shared->Prop} (hu:A.units<cLine) (S:SetTs knd φ s.heap a u) (T:SetTs knd ψ s.heap c v) (hl:u.length=v.length) (h: ∀ d,Q (decide (∀ x∈u,x∈v)) {s with drawn:=d}):wpAny (model prog w) A (Builtin.Frozenset.subsetOf id a c) Q E s:=by
 unfold Builtin.Frozenset.subsetOf
 refine wpAny_bind (dL S (wpAny_bind (dL T ?_)))
 rw [if_neg (by lia)]
 obtain ⟨o,es,ep,t,S⟩:=S
 refine wpAny_bind (wpAny_setEpoch_of S.ho S.hd S.fits ?_)
 refine wpAny_bind (nY S T fun l d hp=>?_)
 refine wpAny_bind ?_
 refine wpAny_forIn_list _ (fun rest r s'=>r.1=none/\s'={s with drawn:=d}/\(∀ e∈rest,e∈es.toList)/\ ∀ x∈u,x∈v\/ ∃ e∈rest,∃ b,e.2=.ref b/\IsTupleKey knd s.heap x b) _ ?_ ?_ _ _ ⟨rfl,rfl,fun e he=>hp.mem_iff.mp he,fun x hx=>?_⟩
 ·rintro ⟨hh,y⟩ rest r s' ⟨hr,rfl,hall,hx⟩
  obtain ⟨ks,b,hku,e1,e2,e3⟩:=S.el _ (hall _ List.mem_cons_self)
  have e1:y=.ref b:=e1
  have e3:hh=tupleKeyHash knd ks:=e3
  subst e1
  subst e3
  refine wpAny_bind (wpAny_holding (tJ (s:={s with drawn:=d}) hu T e2 fun r h1 h2=>?_))
  by_cases c1:ks∈v
  ·have h3:=h2 c1
   cases r with
   | none=>cases h3
   | some i=>
    simp only [Option.isNone_some,Bool.false_eq_true,if_false]
    refine wpAny_bind (show wpAny _ _ (Builtin.Frozenset.unchanged id a ep) _ _ _ from wpAny_bind (wpAny_setEpoch_of (s:={s with drawn:=d}) S.ho S.hd S.fits ?_))
    simp only [bne_self_eq_false,Bool.false_eq_true,if_false]
    refine wpAny_pure (wpAny_pure ⟨rfl,rfl,fun e he=>hall e (List.mem_cons_of_mem _ he),fun x hx'=>?_⟩)
    rcases hx x hx' with z | ⟨e,he,b',z1,z2⟩
    ·exact .inl z
    ·rcases List.mem_cons.mp he with rfl | he
     ·cases z1
      rw [z2.inj e2]
      exact .inl c1
     ·exact .inr ⟨e,he,b',z1,z2⟩
  ·rw [h1 c1]
   simp only [Option.isNone_none,if_true]
   have hq:=h d
   rw [decide_eq_false fun z=>c1 (z ks hku)]at hq
   exact wpAny_pure (wpAny_pure hq)
 ·rintro ⟨r1,r2⟩ s' ⟨hr,rfl,_,hx⟩
  simp only at hr
  subst hr
  have hq:=h d
  have hall: ∀ x∈u,x∈v:=fun x hx'=>by
   rcases hx x hx' with z | ⟨e,he,_⟩
   ·exact z
   ·cases he
  rw [decide_eq_true hall]at hq
  exact wpAny_pure hq
 ·obtain ⟨e,he,b,e1,e2⟩:=S.all x hx
  exact .inr ⟨e,hp.mem_iff.mpr he,b,e1,e2⟩
end
theorem eX:entryFor table "set.__ne__"=some Builtin.«frozenset.__ne__» :=
 entryFor_alias (id':="frozenset.__ne__") (by kernel_rfl) rfl (by decide +kernel) (by kernel_rfl)
theorem jJ:isSubtype (.type "set") (.type "set")=pure true:=by rw [isSubtype_type];kernel_rfl
theorem dC:isSubtype (.type "set") (.type "frozenset")=pure false:=by rw [isSubtype_type];kernel_rfl
section
variable {prog:Program} {w:World} {K:Type} [DecidableEq K] {knd:KeyKind prog w K} {φ ψ:List K->Addr->Prop} {A:Around} {E:Value->Shared->Prop} {s:Shared}
theorem SetTs.typeIs {a:Addr} {u:List (List K)} (S:SetTs knd φ s.heap a u):s.TypeIs (.ref a) "set":=by
 obtain ⟨o,es,ep,t,S⟩:=S
 exact ⟨o,S.ho,S.hx.1⟩
theorem i5 {a:Addr} {Q:Bool->Shared->Prop} (hT:s.TypeIs (.ref a) "set") (h:Q true s):wpAny (model prog w) A (Builtin.Frozenset.isAnySet (.ref a)) Q E s:=
 wpAny_bind (wpAny_isInstance hT jJ (wpAny_pure h))
theorem set_ne {a b:Addr} {u v:List (List K)} {Q:Value->Shared->Prop} (hu:A.units+1<cLine) (S:SetTs knd φ s.heap a u) (T:SetTs knd ψ s.heap b v)
  (h: ∀ d,Q (.bool (!decide (u.length=v.length/\ ∀ x∈u,x∈v))) {s with drawn:=d}):wpAny (model prog w) A (richCompare .NotEq (.ref a) (.ref b)) Q E s:=by
 refine wpAny_richCompare_same_room S.typeIs T.typeIs F.slot_set_ne (wpAny_call_entry F.slot_set_ne S.typeIs eX ?_ (F.args_set_ne_2 _ _)) (by lia)
 have e:Builtin.Frozenset.slot1 "__ne__" ⟨[.ref a,.ref b],[]⟩=pure (.ref a,.ref b):=by rfl
 refine wpAny_bind (wpAny_of_eq e ?_)
 refine wpAny_bind (i5 T.typeIs ?_)
 simp only [Bool.not_true,Bool.false_eq_true,if_false]
 refine wpAny_bind (wpAny_pure ?_)
 refine wpAny_bind (wpAny_pure ?_)
 refine wpAny_bind (dL S ?_)
 refine wpAny_bind (dL T ?_)
 refine wpAny_bind ?_
 by_cases c:u.length=v.length
 ·have c1:(u.length !=v.length)=false:=by rw [c];simp
  rw [c1]
  simp only [Bool.false_eq_true,if_false]
  refine wpAny_bind (wpAny_bind (wpAny_isInstance S.typeIs dC (wpAny_pure ?_)))
  refine og (show A.in1.units<cLine from hu) S T c fun d=>?_
  have:=h d
  rw [show decide (u.length=v.length/\ ∀ x∈u,x∈v)=decide (∀ x∈u,x∈v)from decide_eq_decide.mpr ⟨fun z=>z.2,fun z=>⟨c,z⟩⟩]at this
  exact wpAny_pure ⟨_,rfl,(fun e=>nomatch e),this⟩
 ·have c1:(u.length !=v.length)=true:=bne_iff_ne.mpr c
  rw [c1]
  simp only [if_true]
  have:=h s.drawn
  rw [decide_eq_false fun z=>c z.1]at this
  exact wpAny_pure (wpAny_pure ⟨_,rfl,(fun e=>nomatch e),this⟩)
end
end HT
namespace L2
open PySem PySem.Spec PyProof.Rows
noncomputable def v6 (w:World) (p:Addr) (l:List (Int×Value)) (h:Heap):Prop:= ∃ o es ep t,h.get? p=some o/\o.ExactSet/\o.data=.set es ep t/\HT.Tab t l.length/\es.toList=l/\l.length<5/\HT.Rch t es/\t.led= !w.params.followText "set-order"
noncomputable def rZ (w:World) (p:Addr) (l:List (Int×Value)):HO:=.ext (v6 w p l)
noncomputable def SetR (P:Program) (w:World) (H:Hp) (p:Addr) (u:List (List Key)):Prop:= ∃ l,H p=some (rZ w p l)/\l.length=u.length/\(∀ e∈l,∃ ks b,ks∈u/\e=(tupleKeyHash (az P w) ks,Value.ref b)/\H b=some (.tup (ks.map kV)))/\ ∀ ks∈u,∃ b,(tupleKeyHash (az P w) ks,Value.ref b)∈l/\H b=some (.tup (ks.map kV))
theorem SetR.mono {P:Program} {w:World} {H H':Hp} {p:Addr} {u:List (List Key)} (s: ∀ b o,H b=some o->H' b=some o):SetR P w H p u->SetR P w H' p u:=fun ⟨l,h1,h2,h3,h4⟩=>⟨l,s _ _ h1,h2,fun e he=>let ⟨ks,b,a1,a2,a3⟩:=h3 e he;⟨ks,b,a1,a2,s _ _ a3⟩,fun ks hk=>let ⟨b,a1,a2⟩:=h4 ks hk;⟨b,a1,s _ _ a2⟩⟩
section
variable {X:Cx}
theorem jZ {pins:List (Addr×Obj)} {σ:St} {H:Hp} {s:Shared} (I:Inv X pins σ H s) {p:Addr} {u:List (List Key)} (h:SetR X.prog X.w H p u):HT.SetTs (az X.prog X.w) (fun _ _=>True) s.heap p u:=by
 obtain ⟨l,h1,h2,h3,h4⟩:=h
 obtain ⟨⟨o,es,ep,t,a1,a2,a3,a4,a5,a6,a7,a8⟩,_⟩:=I.hok p _ h1
 refine ⟨o,es,ep,t,a1,a2,a3,h2▸a4,?_,h2▸a6,a7,a8,fun e he=>?_,fun ks hk=>?_,fun _ _ _ _ _ _=>trivial⟩
 ·rw [<- h2,<- a5,Array.length_toList]
 ·rw [a5]at he
  obtain ⟨ks,b,b1,b2,b3⟩:=h3 e he
  subst b2
  exact ⟨ks,b,b1,rfl,ei I.hok b3,rfl⟩
 ·obtain ⟨b,b1,b2⟩:=h4 ks hk
  exact ⟨_,by rw [a5];exact b1,b,rfl,ei I.hok b2⟩
theorem ic (hcalm:X.calm=true) (hu:X.A.units+16<cLine):bV X (.type "set") (fun xs H Q=> ∃ (a:Addr) (us:List (List Key)) (bs:List Addr),xs=[.ref a]/\SqL X.K H a (bs.map V.ref)/\Paired (fun ks b=>H b=some (.tup (ks.map kV))) us bs/\(HT.ins [] us).length<5/\
  ∀ p H',H p=none->(∀ b o,H b=some o->H' b=some o)->SetR X.prog X.w H' p (HT.ins [] us)->Q (.ref p) H'):=by
 intro pins s σ H xs us' Q I r h
 obtain ⟨a,us,bs,rfl,hS,hp,h5,q⟩:=h
 obtain ⟨u,rfl,rx⟩:=cI r
 cases rx
 obtain ⟨its,r',pl,hz⟩:=I.list hS
 have hh:X.A.handled=none:=I.ok.hd hcalm
 have hat: ∀ (i:Nat) (v:Value),its.toArray[i]? =some v-> ∃ k b,us[i]? =some k/\v=.ref b/\H b=some (.tup (k.map kV)):=by
  clear hS pl hz q h5
  induction hp generalizing its with
  | nil=>cases r';intro i v h;simp at h
  | @cons k b l m h1 _ ih=>
   cases r' with
   | cons r1 r2=>
    intro i v h
    rw [List.getElem?_toArray]at h
    cases i with
    | zero=>
     cases h
     cases r1
     exact ⟨k,b,rfl,rfl,h1⟩
    | succ i=>exact ih _ r2 i v (by rw [List.getElem?_toArray];exact h)
 refine HT.call_setTL (knd:=az X.prog X.w) (φ:=fun ks b=>H b=some (.tup (ks.map kV))) (val:=us) hh pl.isList ?_ (fun i v hv=>?_) h5 (by lia) fun h' tk hs k=>?_
 ·rw [List.size_toArray,<- r'.length,List.length_map,Paired.length hp]
 ·obtain ⟨k,b,e1,e2,e3⟩:=hat i v hv
  exact ⟨k,b,e1,e2,ei I.hok e3,e3⟩
 ·obtain ⟨o,es,ep,t,S⟩:=hs
  have kept: ∀ b u,s.heap.get? b=some u->h'.get? b=some u:=fun b u e=>k b u (Heap.lt_size e) e
  have ln:es.toList.length=(HT.ins [] us).length:=by rw [Array.length_toList];exact S.hn
  have hsp:v6 X.w s.heap.objs.size es.toList h':=⟨o,es,ep,t,S.ho,S.hx,S.hd,ln▸S.ht,rfl,ln▸S.hl,S.hr,S.hg⟩
  have obj:ObjOk X.prog X.w (upd H s.heap.objs.size (rZ X.w s.heap.objs.size es.toList)) h' s.heap.objs.size (rZ X.w s.heap.objs.size es.toList):=⟨hsp,⟨o,S.ho⟩,fun h1 h2 ⟨o,es,ep,t,c1,c2⟩ hk=>⟨o,es,ep,t,hk o c1,c2⟩⟩
  have fr:=I.fresh
  have sm: ∀ b o,H b=some o->(upd H s.heap.objs.size (rZ X.w s.heap.objs.size es.toList)) b=some o:=fun b o e=>by rw [ai (ah e fr)];exact e
  refine ⟨.ref s.heap.objs.size,_,I.laid (t':=tk) kept (Nat.le_refl _) obj,rfl,q _ _ fr sm ⟨es.toList,ab,ln,fun e he=>?_,fun ks hk=>?_⟩⟩
  ·obtain ⟨ks,b,d1,d2,d3,d4⟩:=S.el e he
   obtain ⟨e1,e2⟩:=e
   have d2:e2=.ref b:=d2
   have d4:e1=tupleKeyHash (az X.prog X.w) ks:=d4
   subst d2
   subst d4
   exact ⟨ks,b,d1,rfl,sm _ _ (S.ph _ he ks b rfl d3)⟩
  ·obtain ⟨⟨e1,e2⟩,he,b,d2,d3⟩:=S.all ks hk
   have d2:e2=.ref b:=d2
   subst d2
   obtain ⟨ks',b',_,d5,d6,d7⟩:=S.el _ he
   cases d5
   have ek:=d3.inj d6
   subst ek
   have d7:e1=tupleKeyHash (az X.prog X.w) ks:=d7
   subst d7
   exact ⟨b,he,sm _ _ (S.ph _ he ks b rfl d3)⟩
noncomputable def wE (P:Program) (w:World):R2:=fun x y H Q=> ∃ (a b:Addr) (u v:List (List Key)),x=.ref a/\y=.ref b/\SetR P w H a u/\SetR P w H b v/\Q (.bl (!decide (u.length=v.length/\ ∀ x∈u,x∈v))) H
theorem Inv.drew {pins:List (Addr×Obj)} {σ:St} {H:Hp} {s:Shared} (I:Inv X pins σ H s) (d:Drawn):Inv X pins σ H {s with drawn:=d}:=⟨I.ok,I.os,I.bare,I.base,I.loc,I.cell,I.free,I.freeC,I.pin,I.hok,I.len⟩
theorem uI (hu:X.A.units+16<cLine):OpR X (compareOp .NotEq) (wE X.prog X.w):=by
 intro pins s σ H x y v u Q I rx ry h
 obtain ⟨a,b,u',v',rfl,rfl,ha,hb,q⟩:=h
 cases rx
 cases ry
 exact HT.set_ne (by lia) (jZ I ha) (jZ I hb) fun d=>⟨.bl _,H,I.drew d,rfl,(congrArg (fun b=>Q (.bl (!b)) H) (decide_eq_decide.mpr Iff.rfl)).mp q⟩
end
end L2
namespace HT
open PySem PyProof.Rows
theorem i7:isSubtype (.type "dict") (.type "set")=pure false:=by rw [isSubtype_type];kernel_rfl
theorem fP:isSubtype (.type "dict") (.type "frozenset")=pure false:=by rw [isSubtype_type];kernel_rfl
theorem qP {prog:Program} {w:World} {K:Type} [DecidableEq K] {knd:KeyKind prog w K} {es:List DictEntry} {kvs:List (K×Value)} (h:Pairs knd es kvs):es.length=kvs.length/\ ∀ (i:Nat) (e:DictEntry),es[i]? =some e-> ∃ kv:K×Value,kvs[i]? =some kv/\knd.is kv.1 e.key=true:=by
 induction h with
 | nil=>exact ⟨rfl,fun i e h=>by cases h⟩
 | @cons e kv es kvs h1 _ _ ih=>
  refine ⟨congrArg (· +1) ih.1,fun i e' h=>?_⟩
  cases i with
  | zero=>cases h;exact ⟨kv,rfl,h1⟩
  | succ i=>exact ih.2 i e' h
section
variable {prog:Program} {w:World} {K:Type} [DecidableEq K] {knd:KeyKind prog w K} {A:Around} {E:Value->Shared->Prop} {s:Shared}
theorem call_setD {d:Addr} {kvs:List (K×Value)} {Q:Value->Shared->Prop} (hd:s.heap.DictOf knd d kvs) (hs:(d==sysModules)=false) (hl:kvs.length<=4) (hsc: ∀ k v,knd.is k v=true->v.scannable=true)
  (q: ∀ (h':Heap) (tk:Nat),Heap.SetOf knd h' s.heap.objs.size (fun k'=>decide (k'∈kvs.map (·.1))) kvs.length->(∀ b o,b<s.heap.objs.size->s.heap.get? b=some o->h'.get? b=some o)->
   Q (.ref s.heap.objs.size) {s with heap:=h',toks:=tk}):
  wpAny (model prog w) A (call (.type "set") [.ref d]) Q E s:=by
 refine wpAny_call (codeAny_of_tree ?_)
 refine wpAny_pure ⟨Code.quiet_builtin _ (by decide +kernel),codeAny_builtin F.entry_type_call ?_⟩
 rw [Around.under_plain (weight_type_call_type _ _ _) rfl]
 obtain ⟨c,tl,em⟩:=F.called_set.mro
 unfold Builtin.«type.__call__»
 simp only [F.called_set.notType,Bool.false_eq_true,if_false,F.called_set.canCreate,F.typeCall_set_1,F.called_set.made,pure_bind,em,List.isEmpty_cons]
 refine wpAny_bind (wpAny_holding (wpAny_call (code_set_new_1 _ fun led=>?_)))
 generalize ho0:({cls:=Value.type "set",data:=Data.set #[] 0 (SetTable.fresh 0 0 led)}:Obj)=o0
 have hset0:Heap.SetOf knd (s.heap.push o0) s.heap.objs.size (fun k'=>decide (k'∈([]:List K))) 0:=by
  subst ho0
  exact SetOf.cong ((setObjOf_fresh (knd:=knd) led).setOf (Heap.get?_push_size _ rfl) (by decide)) (fun k=>by simp) rfl
 have hty:Shared.TypeIs {s with heap:=s.heap.push o0} (.ref s.heap.objs.size) "set":=hset0.typeIs
 refine wpAny_bind (wpAny_isInstance hty F.called_set.sub ?_)
 simp only [Bool.not_true,Bool.false_eq_true,if_false]
 refine wpAny_bind (wpAny_holding (wpAny_callSpecial?_slot hty F.called_set.init (wpAny_call (codeAny_call_builtin (by decide +kernel) F.entry_set_init (check_set_init_1 hty ?_)))))
 unfold Builtin.«set.__init__»
 simp only [noKeywords,List.isEmpty_nil,if_true,pure_bind]
 refine wpAny_bind (show wpAny _ _ (typeNameOfCut 200 (.ref s.heap.objs.size)) _ _ _ from wpAny_bind (wpAny_bind (wpAny_typeOf hty (wpAny_pure (wpAny_pure ?_)))))
 refine wpAny_bind (wpAny_of_eq (show checkCount _ 0 1 1=pure ()from rfl) ?_)
 refine wpAny_bind (wpAny_pure ?_)
 have hload:(s.heap.push o0).get? s.heap.objs.size=some o0:=by subst ho0;exact Heap.get?_push_size _ rfl
 refine wpAny_bind (show wpAny _ _ (setUsed s.heap.objs.size) _ _ _ from wpAny_bind (wpAny_bind (wpAny_load' hload ?_)))
 subst ho0
 refine wpAny_pure (wpAny_pure ?_)
 refine wpAny_bind (?_:wpAny _ _ (Builtin.Frozenset.updateFrom "set.__init__" s.heap.objs.size (.ref d)) _ _ _)
 obtain ⟨od,es,ep,h1,h2,h3,h4,h5,h6⟩:=hd
 have h1':(s.heap.push {cls:=Value.type "set",data:=Data.set #[] 0 (SetTable.fresh 0 0 led)}).get? d=some od:=Heap.get?_push_of_some _ h1
 have htyd:Shared.TypeIs {s with heap:=s.heap.push {cls:=Value.type "set",data:=Data.set #[] 0 (SetTable.fresh 0 0 led)}} (.ref d) "dict":=⟨od,h1',h2.1⟩
 unfold Builtin.Frozenset.updateFrom
 refine wpAny_bind (show wpAny _ _ (Builtin.Frozenset.isAnySet (.ref d)) _ _ _ from wpAny_bind (wpAny_isInstance htyd i7 (wpAny_isInstance htyd fP ?_)))
 refine wpAny_bind (wpAny_typeOf htyd ?_)
 have hsz:(s.heap.push {cls:=Value.type "set",data:=Data.set #[] 0 (SetTable.fresh 0 0 led)}).objs.size=s.heap.objs.size+1:=Heap.size_push _ _
 have hlt:d<s.heap.objs.size:=Heap.lt_size h1
 have hgs:(s.heap.push {cls:=Value.type "set",data:=Data.set #[] 0 (SetTable.fresh 0 0 led)}).get? s.heap.objs.size=some {cls:=Value.type "set",data:=Data.set #[] 0 (SetTable.fresh 0 0 led)}:=Heap.get?_push_size _ rfl
 clear hty htyd hload
 dsimp only
 generalize hh1:s.heap.push {cls:=Value.type "set",data:=Data.set #[] 0 (SetTable.fresh 0 0 led)}=hp at hset0 hsz h1' hgs ⊢
 have hold: ∀ b o,s.heap.get? b=some o->hp.get? b=some o:=fun b o e=>by rw [<- hh1];exact Heap.get?_push_of_some _ e
 obtain ⟨hlen,hat⟩:=qP h5
 have hsize:es.size=kvs.length:=by rw [<- Array.length_toList];exact hlen
 rw [if_pos (by rfl)]
 refine wpAny_bind (wpAny_rule ?_)
 refine wpAny_bind (wpAny_pure ?_)
 rw [hs]
 simp only [Bool.false_eq_true,if_false]
 refine wpAny_bind (wpAny_dictEpoch h1' h3 ?_)
 refine wpAny_bind (wpAny_dictEntries h1' h3 ?_)
 have hroom:(SetTable.fresh 0 0 led).roomFor es.size=none:=by
  unfold SetTable.roomFor SetTable.fill SetTable.fresh
  rw [if_neg]
  simp
  lia
 refine wpAny_bind (show wpAny _ _ (setRoomFor s.heap.objs.size es.size) _ _ _ from ?_)
 unfold setRoomFor
 refine wpAny_bind (wpAny_setState_of hgs rfl (by rfl) ?_)
 dsimp only
 rw [hroom]
 refine wpAny_pure ?_
 refine wpAny_bind (wpAny_dictEntries h1' h3 ?_)
 refine wpAny_bind ?_
 rw [Std.Legacy.Range.forIn_eq_forIn_range']
 simp only [Std.Legacy.Range.size,Nat.sub_zero,Nat.add_sub_cancel,Nat.div_one]
 refine wpAny_forIn_list _ (fun rest r s'=> ∃ i h',i<=es.size/\rest=List.range' i (es.size-i)/\s'={s with heap:=h'}/\Heap.SetOf knd h' s.heap.objs.size (fun k'=>decide (k'∈(kvs.map (·.1)).take i)) i/\ ∀ b,b≠s.heap.objs.size->h'.get? b=hp.get? b) _ ?_ ?_ _ _ ⟨0,hp,Nat.zero_le _,rfl,rfl,by simpa using hset0,fun b _=>rfl⟩
 ·rintro v rest r s' ⟨i,h',hi,hrest,rfl,hset,hk⟩
  have hil:i<es.size:=by
   rcases Nat.lt_or_ge i es.size with z | z
   ·exact z
   ·rw [show es.size-i=0 by lia]at hrest
    cases hrest
  rw [show es.size-i=(es.size- (i+1)) +1 by lia,List.range'_succ]at hrest
  injection hrest with e1 e2
  have e1':i=v:=e1.symm
  subst e1'
  subst e2
  have hd':h'.get? d=some od:=(hk d (Nat.ne_of_lt hlt)).trans h1'
  refine wpAny_bind (wpAny_dictEntries (s:={s with heap:=h'}) hd' h3 ?_)
  have hei:es[i]? =some es[i]:=Array.getElem?_eq_getElem hil
  rw [hei]
  dsimp only
  obtain ⟨kv,hkv,his⟩:=hat i es[i] (by rw [Array.getElem?_toList];exact hei)
  obtain ⟨k2,hk2,hh2⟩:=h4 es[i] (Array.getElem_mem hil)
  have ek:=knd.inj _ _ _ his hk2
  rw [hh2,<- ek]
  refine wpAny_bind (wpAny_holding (wpAny_setAddHashed_of (s:={s with heap:=h'}) his (hsc _ _ his) hset (Nat.lt_of_le_of_lt (by lia:i+1<=5) (by decide)) fun h2' sb so=>?_))
  refine wpAny_bind (wpAny_dictEpoch (s:={s with heap:=h2'}) ((sb.2 d (Nat.ne_of_lt hlt)).trans hd') h3 ?_)
  simp only [bne_self_eq_false,Bool.false_eq_true,if_false]
  have hkm:(kvs.map (·.1))[i]? =some kv.1:=by rw [List.getElem?_map,hkv];rfl
  have htk:(kvs.map (·.1)).take (i+1)=(kvs.map (·.1)).take i++[kv.1]:=by
   rw [List.take_succ,hkm]
   rfl
  have hnew:kv.1∉(kvs.map (·.1)).take i:=fun hm=>by
   have nd:=List.Nodup.sublist (List.take_sublist (i+1) (kvs.map (·.1))) h6
   rw [htk]at nd
   exact (List.nodup_append.mp nd).2.2 _ hm _ List.mem_cons_self rfl
  refine wpAny_pure ⟨i+1,h2',hil,by simp,rfl,SetOf.cong so (fun k'=>?_) ?_,fun b hb=>(sb.2 b hb).trans (hk b hb)⟩
  ·rw [htk]
   simp
  ·rw [if_neg (by simp [hnew])]
 ·rintro r s' ⟨i,h',hi,hrest,rfl,hset,hk⟩
  have hie:i=es.size:=by
   have:=congrArg List.length hrest
   simp at this
   lia
  subst hie
  rw [hsize,List.take_of_length_le (by simp)]at hset
  refine wpAny_pure (wpAny_pure (wpAny_pure (q h' s.toks hset fun b o hb ho=>?_)))
  rw [hk b (Nat.ne_of_lt hb)]
  exact hold b o ho
end
section
variable {prog:Program} {w:World} {K:Type} [DecidableEq K] {knd:KeyKind prog w K} {A:Around} {E:Value->Shared->Prop} {s:Shared}
theorem eP {a:Addr} {S:K->Bool} {n:Nat} {Q:Nat->Shared->Prop} (hS:Heap.SetOf knd s.heap a S n) (h:Q n s):wpAny (model prog w) A (Builtin.Frozenset.sizeOf a) Q E s:=by
 obtain ⟨o,es,ep,t,h1,h2,h3,h4,h5,h6,h7,h8⟩:=hS
 unfold Builtin.Frozenset.sizeOf
 refine wpAny_bind (wpAny_setEntries_of h1 h3 h7 (wpAny_pure ?_))
 rw [h8]
 exact h
theorem qf {v:Value} (h:v.scannable=true):Builtin.Frozenset.quietEq v=pure true:=by
 cases v <;> first | rfl | cases h
theorem lV {a c:Addr} {u v:List K} {id:String} {Q:Bool->Shared->Prop} (S:Heap.SetOf knd s.heap a (fun k=>decide (k∈u)) u.length) (T:Heap.SetOf knd s.heap c (fun k=>decide (k∈v)) v.length) (hl:u.length=v.length) (h:Q (decide (∀ x∈u,x∈v)) s):wpAny (model prog w) A (Builtin.Frozenset.subsetOf id a c) Q E s:=by
 unfold Builtin.Frozenset.subsetOf
 refine wpAny_bind (eP S (wpAny_bind (eP T ?_)))
 rw [if_neg (by lia)]
 have T0:=T
 obtain ⟨o,es,ep,t,h1,h2,h3,h4,h5,h6,h7,h8⟩:=S
 obtain ⟨o',es',ep',t',g1,g2,g3,g4,g5,g6,g7,g8⟩:=T
 refine wpAny_bind (wpAny_setEpoch_of h1 h3 h7 ?_)
 refine wpAny_bind (show wpAny _ _ (Builtin.Frozenset.walkUnseen a c) _ _ _ from ?_)
 unfold Builtin.Frozenset.walkUnseen
 refine wpAny_bind (wpAny_setEntries_of h1 h3 h7 ?_)
 refine wpAny_bind (wpAny_setEntries_of g1 g3 g7 ?_)
 refine wpAny_bind ?_
 refine wpAny_forIn_list _ (fun rest r s'=>r.1=none/\s'=s/\ ∀ e∈rest,e.2.scannable=true) _ ?_ ?_ _ _ ⟨rfl,rfl,fun e he=>?_⟩
 ·rintro ⟨hh,y⟩ rest r s' ⟨hr,rfl,hall⟩
  have hy:y.scannable=true:=hall _ List.mem_cons_self
  dsimp only
  rw [qf hy]
  refine wpAny_bind (wpAny_pure ?_)
  simp only [Bool.not_true,Bool.false_eq_true,if_false]
  exact wpAny_pure ⟨rfl,rfl,fun u hu=>hall u (List.mem_cons_of_mem _ hu)⟩
 ·rintro ⟨r1,r2⟩ s' ⟨hr,rfl,_⟩
  simp only at hr
  subst hr
  refine wpAny_pure ?_
  refine wpAny_bind ?_
  refine wpAny_forIn_list _ (fun rest r s2=>r.1=none/\s2=s'/\(∀ e∈rest,e∈es.toList)/\ ∀ x∈u,x∈v\/ ∃ e∈rest,knd.is x e.2=true) _ ?_ ?_ _ _ ⟨rfl,rfl,fun e he=>he,fun x hx=>?_⟩
  ·rintro ⟨hh,y⟩ rest r s' ⟨hr,rfl,hall,hx⟩
   obtain ⟨⟨k,e1,e2⟩,e3⟩:=h4 _ (hall _ List.mem_cons_self)
   have e1:knd.is k y=true:=e1
   have e2:hh=knd.hash k:=e2
   subst e2
   have hku:k∈u:=of_decide_eq_true ((h5 k).mpr ⟨_,hall _ List.mem_cons_self,e1⟩)
   refine wpAny_bind (wpAny_holding (wpAny_setFind_of e1 e3 T0 fun r hr'=>?_))
   by_cases c1:k∈v
   ·rw [decide_eq_true c1]at hr'
    cases r with
    | none=>cases hr'
    | some i=>
     simp only [Option.isNone_some,Bool.false_eq_true,if_false]
     refine wpAny_bind (show wpAny _ _ (Builtin.Frozenset.unchanged id a ep) _ _ _ from wpAny_bind (wpAny_setEpoch_of h1 h3 h7 ?_))
     simp only [bne_self_eq_false,Bool.false_eq_true,if_false]
     refine wpAny_pure (wpAny_pure ⟨rfl,rfl,fun e he=>hall e (List.mem_cons_of_mem _ he),fun x hx'=>?_⟩)
     rcases hx x hx' with z | ⟨e,he,z1⟩
     ·exact .inl z
     ·rcases List.mem_cons.mp he with rfl | he
      ·rw [knd.inj _ _ _ z1 e1]
       exact .inl c1
      ·exact .inr ⟨e,he,z1⟩
   ·rw [decide_eq_false c1]at hr'
    cases r with
    | some i=>cases hr'
    | none=>
     simp only [Option.isNone_none,if_true]
     rw [decide_eq_false fun z=>c1 (z k hku)]at h
     exact wpAny_pure (wpAny_pure h)
  ·rintro ⟨r1,r2⟩ s' ⟨hr,rfl,_,hx⟩
   simp only at hr
   subst hr
   have hall: ∀ x∈u,x∈v:=fun x hx'=>by
    rcases hx x hx' with z | ⟨e,he,_⟩
    ·exact z
    ·cases he
   rw [decide_eq_true hall]at h
   exact wpAny_pure h
  ·obtain ⟨e,he,e1⟩:=(h5 x).mp (decide_eq_true hx)
   exact .inr ⟨e,he,e1⟩
 ·rcases List.mem_append.mp he with z | z
  ·exact (h4 e z).2
  ·exact (g4 e z).2
theorem kset_ne {a b:Addr} {u v:List K} {Q:Value->Shared->Prop} (hu:A.units+1<cLine) (S:Heap.SetOf knd s.heap a (fun k=>decide (k∈u)) u.length) (T:Heap.SetOf knd s.heap b (fun k=>decide (k∈v)) v.length)
  (h:Q (.bool (!decide (u.length=v.length/\ ∀ x∈u,x∈v))) s):wpAny (model prog w) A (richCompare .NotEq (.ref a) (.ref b)) Q E s:=by
 refine wpAny_richCompare_same_room S.typeIs T.typeIs F.slot_set_ne (wpAny_call_entry F.slot_set_ne S.typeIs eX ?_ (F.args_set_ne_2 _ _)) (by lia)
 have e:Builtin.Frozenset.slot1 "__ne__" ⟨[.ref a,.ref b],[]⟩=pure (.ref a,.ref b):=by rfl
 refine wpAny_bind (wpAny_of_eq e ?_)
 refine wpAny_bind (i5 T.typeIs ?_)
 simp only [Bool.not_true,Bool.false_eq_true,if_false]
 refine wpAny_bind (wpAny_pure ?_)
 refine wpAny_bind (wpAny_pure ?_)
 refine wpAny_bind (eP S ?_)
 refine wpAny_bind (eP T ?_)
 refine wpAny_bind ?_
 by_cases c:u.length=v.length
 ·have c1:(u.length !=v.length)=false:=by rw [c];simp
  rw [c1]
  simp only [Bool.false_eq_true,if_false]
  refine wpAny_bind (wpAny_bind (wpAny_isInstance S.typeIs dC (wpAny_pure ?_)))
  refine lV S T c ?_
  rw [show decide (u.length=v.length/\ ∀ x∈u,x∈v)=decide (∀ x∈u,x∈v)from decide_eq_decide.mpr ⟨fun z=>z.2,fun z=>⟨c,z⟩⟩]at h
  exact wpAny_pure ⟨_,rfl,(fun e=>nomatch e),h⟩
 ·have c1:(u.length !=v.length)=true:=bne_iff_ne.mpr c
  rw [c1]
  simp only [if_true]
  rw [decide_eq_false fun z=>c z.1]at h
  exact wpAny_pure (wpAny_pure ⟨_,rfl,(fun e=>nomatch e),h⟩)
end
end HT
namespace L2
open PySem PySem.Spec PyProof.Rows
instance xa (k:Key) (u:List Key):Decidable (k∈u):= @List.instDecidableMemOfLawfulBEq Key instBEqOfDecidableEq inferInstance k u
noncomputable def sd (P:Program) (w:World) (p:Addr) (u:List Key):HO:=.ext fun h=>Heap.SetOf (az P w) h p (fun k=>decide (k∈u)) u.length
theorem nk {P:Program} {w:World} {H:Hp} {h:Heap} {p:Addr} {u:List Key} (hs:Heap.SetOf (az P w) h p (fun k=>decide (k∈u)) u.length):ObjOk P w H h p (sd P w p u):=by
 refine ⟨hs,?_,fun h1 h2 z k=>HT.SetOf.keep z k⟩
 obtain ⟨o,_,_,_,ho,_⟩:=hs
 exact ⟨o,ho⟩
theorem rh {P:Program} {w:World} (k:Key) (v:Value) (h:(az P w).is k v=true):v.scannable=true:=by
 rw [gV]at h
 cases k <;> cases v <;> first | rfl | cases h
section
variable {X:Cx}
theorem mo (hcalm:X.calm=true):bV X (.type "set") (fun xs H Q=> ∃ (a:Addr) (us:List Str),xs=[.ref a]/\SqL X.K H a (us.map V.str)/\us.length<=100/\
  ∀ p H',H p=none->(∀ b o,H b=some o->H' b=some o)->H' p=some (sd X.prog X.w p (HT.ins [] (us.map Sum.inr)))->Q (.ref p) H'):=by
 intro pins s σ H xs us' Q I r h
 obtain ⟨a,us,rfl,hS,h5,q⟩:=h
 obtain ⟨u,rfl,rx⟩:=cI r
 cases rx
 obtain ⟨its,r',pl,hz⟩:=I.list hS
 have hh:X.A.handled=none:=I.ok.hd hcalm
 have hsz:us.length=its.toArray.size:=by rw [List.size_toArray,<- r'.length,List.length_map]
 refine HT.call_setS (knd:=az X.prog X.w) (val:=us.map Sum.inr) hh pl.isList (by rw [List.length_map];exact hsz) (fun i v hv=>?_) (by rw [<- hsz];exact Nat.lt_of_le_of_lt (Nat.succ_le_succ h5) (by decide)) fun h' tk hs k=>?_
 ·obtain ⟨x,e1,t,rfl⟩:=jG r' i v hv
  exact ⟨.inr x,by rw [List.getElem?_map,e1];rfl,fK _ _ _ _,rfl⟩
 ·exact ⟨.ref s.heap.objs.size,_,I.laid (t':=tk) (fun b u e=>k b u (Heap.lt_size e) e) (Nat.le_refl _) (nk hs),rfl,q _ _ I.fresh (fun b o e=>by rw [ai (ah e I.fresh)];exact e) ab⟩
theorem mq:bV X (.type "set") (fun xs H Q=> ∃ (a:Addr) (kvs:List (Key×V)),xs=[.ref a]/\H a=some (.dK kvs)/\kvs.length<=4/\
  ∀ p H',H p=none->(∀ b o,H b=some o->H' b=some o)->H' p=some (sd X.prog X.w p (kvs.map (·.1)))->Q (.ref p) H'):=by
 intro pins s σ H xs us' Q I r h
 obtain ⟨a,kvs,rfl,ha,h5,q⟩:=h
 obtain ⟨u,rfl,rx⟩:=cI r
 cases rx
 obtain ⟨hz,lo,ws,rel,dd⟩:=fN I.hok ha
 have el:kvs.length=ws.length:=Paired.length rel
 have ek:ws.map (·.1)=kvs.map (·.1):=by
  clear dd el hz h5 q ha
  induction rel with
  | nil=>rfl
  | cons h _ ih=>simp only [List.map_cons,ih];rw [h.1]
 refine HT.call_setD dd lo (by lia) (fun k v h=>rh k v h) fun h' tk hs k=>?_
 rw [ek,<- el,show kvs.length=(kvs.map (·.1)).length by simp]at hs
 exact ⟨.ref s.heap.objs.size,_,I.laid (t':=tk) (fun b u e=>k b u (Heap.lt_size e) e) (Nat.le_refl _) (nk hs),rfl,q _ _ I.fresh (fun b o e=>by rw [ai (ah e I.fresh)];exact e) ab⟩
noncomputable def wF (P:Program) (w:World):R2:=fun x y H Q=> ∃ (a b:Addr) (u v:List Key),x=.ref a/\y=.ref b/\H a=some (sd P w a u)/\H b=some (sd P w b v)/\Q (.bl (!decide (u.length=v.length/\ ∀ x∈u,x∈v))) H
theorem sK (hu:X.A.units+16<cLine):OpR X (compareOp .NotEq) (wF X.prog X.w):=by
 intro pins s σ H x y v u Q I rx ry h
 obtain ⟨a,b,u',v',rfl,rfl,ha,hb,q⟩:=h
 cases rx
 cases ry
 exact HT.kset_ne (by lia) (I.hok a _ ha).1 (I.hok b _ hb).1 ⟨.bl _,H,I,rfl,(congrArg (fun b=>Q (.bl (!b)) H) (decide_eq_decide.mpr Iff.rfl)).mp q⟩
end
end L2
namespace HT
open PySem PyProof.Rows
section
variable {prog:Program} {w:World} {A:Around} {E:Value->Shared->Prop} {s:Shared} {T:String} {r d:Addr} {n:Nat} {P:Nat->Value->Prop} {OK:Heap->Prop}
theorem kJ {Q:List Value->Shared->Prop} (K:PySem.W.KdlSrc prog w T r d n P OK) (hh:A.handled=none) (hok:OK s.heap) (hn:n<=sizeLine)
  (h: ∀ h' tk (acc:Array Value),(∀ b o,s.heap.get? b=some o->h'.get? b=some o)->ItemsOf P acc n->Q acc.toList {s with heap:=h',toks:=tk}):wpAny (model prog w) A (collect (.ref r)) Q E s:=by
 unfold collect
 have hlt:=K.there _ hok
 refine wpAny_bind (wpAny_runValue (codeAny_builtin entry_proto_collect' ?_))
 show wpAny _ _ (do again (.builtin "list.__iadd__" ⟨[<- newList [],.ref r],[]⟩)) _ _ s
 refine wpAny_bind (wpAny_newList (wpAny_pure ⟨Code.quiet_builtin _ (by decide +kernel),codeAny_builtin entry_list_iadd' ?_⟩))
 show wpAny _ _ (Builtin.List.listExtendWith (.ref s.heap.objs.size) (.ref r) (.ref s.heap.objs.size)) _ _ {s with heap:=s.heap.push (seqObj "list" #[] 0)}
 rw [Around.under_plainId (show plainId "list.__iadd__"=true by decide +kernel) _]
 refine PySem.W.kdl_extend (R:=fun r s'=>match r with | .ok (.ret v)=>wpAny (model prog w) A (match v with | .ref a=>(do let o <- load a;match o.data with | .seq xs _=>pure xs.toList | _=>unsupported "internal:collect") | _=>unsupported "internal:collect") Q E s' | .ok _=>False | .error e=>E e s') (s:={s with heap:=s.heap.push (seqObj "list" #[] 0)}) K hh (K.keep _ _ hok fun b _ o e=>Heap.get?_push_of_some _ e) s.heap.objs.size (Nat.ne_of_gt hlt.1) (Nat.ne_of_gt hlt.2) (.ref s.heap.objs.size) 0 (Heap.get?_push_size _ rfl) (fun h' tk acc c' hk hS hi=>?_) hn
 show wpAny (model prog w) A (do
   let o <- load s.heap.objs.size
   match o.data with
   | .seq xs _=>pure xs.toList
   | _=>unsupported "internal:collect") Q E {s with heap:=h',toks:=tk}
 refine wpAny_bind (wpAny_load hS ?_)
 exact wpAny_pure (h h' tk acc (fun b o e=>hk b o (Nat.ne_of_lt (Heap.lt_size e)) (Heap.get?_push_of_some _ e)) hi)
theorem sorted_src {ss:Array Value->List Str->Prop} {Q:Value->Shared->Prop} (K:PySem.W.KdlSrc prog w T r d n P OK) (hh:A.in1.handled=none) (hok:OK s.heap) (hn:n<64) (hP: ∀ acc,ItemsOf P acc n-> ∃ us,StrsAre acc.toList us/\ss acc us)
  (h: ∀ (h1 h2:Heap) tk acc us us' (out:Array Value) e,(∀ b o,s.heap.get? b=some o->h1.get? b=some o)->(∀ b o,h1.get? b=some o->h2.get? b=some o)->h2.get? h1.objs.size=some (seqObj "list" out e)->ss acc us->us'.Perm us->sortedS us'=true->StrsAre out.toList us'->Q (.ref h1.objs.size) {s with heap:=h2,toks:=tk}):
  wpAny (model prog w) A (call (.builtin "sorted") [.ref r]) Q E s:=by
 refine Calls.call_function_entry kind_sorted plain_sorted entry_sorted (args_sorted1 _) ?_
 unfold Builtin.«sorted»
 refine wpAny_bind (m:=checkCount "sorted" 1 1 _) (wpAny_pure ?_)
 refine wpAny_bind (kJ K hh hok (Nat.le_trans (Nat.le_of_lt hn) (by show 64<=sizeLine;decide)) fun h' tk acc kp hi=>?_)
 obtain ⟨us,hS,hss⟩:=hP acc hi
 have hal:acc.toList.length=n:=by rw [Array.length_toList];exact hi.1
 refine wpAny_bind (wpAny_newList ?_ (by rw [hal];exact Nat.le_trans (Nat.le_of_lt hn) (by show 64<=sizeLine;decide)))
 have hoL:(h'.push (seqObj "list" acc.toList.toArray 0)).get? h'.objs.size=some (seqObj "list" acc.toList.toArray 0):=Heap.get?_push_size _ rfl
 refine wpAny_bind (wpAny_holding (wpAny_call_entry slot_list_sort ⟨_,hoL,rfl⟩ entry_list_sort (list_sort_treeK strKind_oneLt hoL hS.keysOf (fun v₁ v₂ rest e=>keyKind_strs (by rw [<- e];exact hS)) (by rw [hal];exact hn) fun st' hp hs=>⟨_,rfl,?_⟩) (args_list_sort _)))
 obtain ⟨us',h1,h2,h3⟩:=sorted_out_str hS hp hs
 obtain ⟨e,he⟩:=sortedHeap_at (out:=(arrOf st').map (·.2)) (vs:=acc.toList) (n:=0) hoL
 refine wpAny_pure ⟨_,rfl,h h' _ tk acc us us' _ e kp (fun b o hb=>?_) he hss h2 h3 h1⟩
 have hlt:b<h'.objs.size:=Heap.lt_size hb
 rw [sortedHeap_old (Nat.ne_of_lt hlt) (by rw [size_push'];exact Nat.lt_succ_of_lt hlt),Heap.get?_push_ne _ _ _ (Nat.ne_of_lt hlt)]
 exact hb
end
end HT
namespace L2
open PySem PySem.Spec PyProof.Rows
theorem vH {P:Program} {w:World} {k:Key} {u:Value} (h:(az P w).is k u=true):RelV (kV k) u:=by
 rw [gV]at h
 rcases be h with ⟨i,t,rfl,rfl⟩ | ⟨x,t,rfl,rfl⟩
 ·exact ⟨t,rfl⟩
 ·exact ⟨t,rfl⟩
theorem iO {P:Program} {w:World} {kvs:List (Key×V)} {ws:List (Key×Value)} {acc:List Value} (hkv:KV kvs ws) (hn:acc.length=ws.length) (h: ∀ (i:Nat) (v:Value),acc[i]? =some v-> ∃ k x,ws[i]? =some (k,x)/\(az P w).is k v=true):Vals (kvs.map fun q=>kV q.1) acc:=by
 induction hkv generalizing acc with
 | nil=>cases acc with
  | nil=>exact .nil
  | cons _ _=>cases hn
 | @cons p q l m hpq _ ih=>
  cases acc with
  | nil=>cases hn
  | cons v r=>
   obtain ⟨k,x,e,hk⟩:=h 0 v rfl
   cases (Option.some.inj e:q=(k,x))
   refine .cons ?_ (ih (by simpa using hn) fun i v hv=>h (i+1) v hv)
   show RelV (kV p.1) v
   rw [hpq.1]
   exact vH hk
theorem gi: ∀ {vs:List Value} {us:List Str},StrsAre vs us->Vals (us.map V.str) vs
 | _,_,.nil=>.nil
 | _,_,.cons y t h=>.cons ⟨t,rfl⟩ (gi h)
theorem gk: ∀ {us:List Str} {vs:List Value},Vals (us.map V.str) vs->StrsAre vs us
 | [],_,.nil=>.nil
 | _::_,_,.cons ⟨t,e⟩ h=>by subst e;exact .cons _ t (gk h)
section
variable {X:Cx}
noncomputable def lE (u:List Str) (H:Hp) (Q:VK):Prop:= ∀ (p:Addr) (us:List Str),H p=none->us.Perm u->sortedS us=true->Q (.ref p) (upd H p (.lst (us.map V.str)))
theorem pZ {pins:List (Addr×Obj)} {σ:St} {H:Hp} {s:Shared} {Q:VK} {u us':List Str} {h1 h2:Heap} {tk e:Nat} {out:Array Value} (I:Inv X pins σ H s) (hq:lE u H Q) (k1: ∀ b o,s.heap.get? b=some o->h1.get? b=some o) (k2: ∀ b o,h1.get? b=some o->h2.get? b=some o) (he:h2.get? h1.objs.size=some (seqObj "list" out e)) (hl:u.length<64)
  (hp:us'.Perm u) (hs:sortedS us'=true) (hS:StrsAre out.toList us'):EP X pins σ Q (.ref h1.objs.size) {s with heap:=h2,toks:=tk}:=by
 have I1:Inv X pins σ H {s with heap:=h1,toks:=tk}:=I.kept k1
 refine ⟨.ref h1.objs.size,_,I1.laid (h':=h2) (t':=tk) (a:=h1.objs.size) (o:=.lst (us'.map V.str)) k2 (Nat.le_refl _) ?_,rfl,hq _ _ I1.fresh hp hs⟩
 refine ⟨?_,out.toList,e,gi hS,by simpa [seqObj]using he⟩
 rw [List.length_map,hp.length_eq]
 exact Nat.le_trans (Nat.le_of_lt hl) (by show 64<=sizeLine;decide)
theorem jC (hcalm:X.calm=true):bV X (.builtin "sorted") (fun xs H Q=> ∃ (a:Addr) (kvs:List (Key×V)) (u:List Str),xs=[.ref a]/\H a=some (.dK kvs)/\kvs.map (·.1)=u.map Sum.inr/\u.length<64/\lE u H Q):=by
 intro pins s σ H xs us' Q I r h
 obtain ⟨a,kvs,u,rfl,ha,eu,hl,hq⟩:=h
 obtain ⟨v,rfl,rx⟩:=cI r
 cases rx
 obtain ⟨hz,lo,ws,rel,dd⟩:=fN I.hok ha
 obtain ⟨od,es,ep,ho,hed,hdat,hko,hpr,hnd⟩:=dd
 have hlw:kvs.length=ws.length:=rel.length
 have hlu:kvs.length=u.length:=by have:=congrArg List.length eu;simpa using this
 refine HT.sorted_src (ss:=fun _ us=>us=u) (PySem.W.kdl_dict (knd:=az X.prog X.w) (d:=a) (kvs:=ws) (ep:=ep) lo) (I.ok.hd hcalm) ⟨od,es,ho,hed,hdat,hko,hpr,hnd⟩ (by lia) (fun acc hi=>?_) fun h1 h2 tk acc us us' out e k1 k2 he hss hp hs hS=>?_
 ·obtain ⟨i1,i2⟩:=hi
  have hv:Vals (kvs.map fun q=>kV q.1) acc.toList:=iO rel (by rw [Array.length_toList];exact i1) fun i v hv=>i2 i v (by rw [<- Array.getElem?_toList];exact hv)
  refine ⟨u,gk ?_,rfl⟩
  have e:(kvs.map fun q=>kV q.1)=u.map V.str:=by
   have:=congrArg (List.map kV) eu
   rw [List.map_map,List.map_map]at this
   exact this
  rw [<- e]
  exact hv
 ·subst hss
  exact pZ I hq k1 k2 he hl hp hs hS
theorem jB:bV X (.builtin "sorted") (fun xs H Q=> ∃ (a:Addr) (u:List Str),xs=[.ref a]/\SqL X.K H a (u.map V.str)/\u.length<64/\lE u H Q):=by
 intro pins s σ H xs us' Q I r h
 obtain ⟨a,u,rfl,ha,hl,hq⟩:=h
 obtain ⟨v,rfl,rx⟩:=cI r
 cases rx
 obtain ⟨its,r',pl,hz⟩:=I.list ha
 have hS:=gk r'
 refine sorted_strs pl.isList hS (by rw [<- r'.length,List.length_map];exact hl) fun out ss' a1 a2 a3=>?_
 obtain ⟨e,he⟩:=sortedAll_at s.heap its out
 refine ⟨.ref (s.heap.objs.size+1),_,I.laid (h':=sortedAll s.heap its out) (t':=s.toks) (a:=s.heap.objs.size+1) (o:=.lst (ss'.map V.str)) (fun b o e=>sortedAll_old e) (Nat.le_succ _) ?_,rfl,hq _ _ (I.hok.fresh (Nat.le_succ _)) a2 a3⟩
 refine ⟨?_,out.toList,e,gi a1,by simpa [seqObj]using he⟩
 rw [List.length_map,a2.length_eq]
 exact Nat.le_trans (Nat.le_of_lt hl) (by show 64<=sizeLine;decide)
end
structure EqR {α:Type} [DecidableEq α] (A:Around) (s:Shared) (R:α->Value->Prop):Prop where
 eq: ∀ a b v u,R a v->R b u->SeqAt.EqAt A s v u (decide (a=b))
 inj: ∀ a b v,R a v->R b v->a=b
noncomputable def tT (x:Str) (v:Value):Prop:= ∃ t,v=Value.str x t
theorem nP {A:Around} {s:Shared}:EqR A s tT:=by
 refine ⟨?_,?_⟩
 ·rintro a b _ _ ⟨t,rfl⟩ ⟨u,rfl⟩
  have:=SeqAt.EqAt.str_str (A:=A) (s:=s) a t b u
  rw [show (a==b)=decide (a=b) by by_cases h:a=b <;> simp [h]]at this
  exact this
 ·rintro a b _ ⟨t,rfl⟩ ⟨u,e⟩
  cases e
  rfl
theorem dm {α β:Type} {R:α->β->Prop}: ∀ {xs:List α} {vs:List β},Paired R xs vs-> ∀ j (h:j<vs.length),∃ a,xs[j]? =some a/\R a vs[j]
 | _,_,.nil,j,h=>absurd h (Nat.not_lt_zero _)
 | _,_,.cons a t,0,h=>⟨_,rfl,a⟩
 | _,_,.cons a t,j+1,h=>dm t j (Nat.lt_of_succ_lt_succ h)
theorem tS {α:Type} [DecidableEq α] {xs ys:List α} (h:xs.length=ys.length):(List.range xs.length).all (fun j=>decide (xs[j]? =ys[j]?))=decide (xs=ys):=by
 by_cases e:xs=ys
 ·rw [decide_eq_true e]
  exact List.all_eq_true.mpr fun j _=>decide_eq_true (by rw [e])
 ·rw [decide_eq_false e]
  rw [Bool.eq_false_iff]
  intro hall
  refine e (List.ext_getElem? fun j=>?_)
  by_cases hj:j<xs.length
  ·exact of_decide_eq_true (List.all_eq_true.mp hall j (List.mem_range.mpr hj))
  ·rw [List.getElem?_eq_none (by lia),List.getElem?_eq_none (by lia)]
section
variable {X:Cx} {pins:List (Addr×Obj)} {σ:St} {H:Hp} {s:Shared}
theorem i8: ∀ {xs:List Str} {us:List Value},Vals (xs.map V.str) us->Paired tT xs us
 | [],_,h=>by cases h;exact .nil
 | x::r,_,h=>by
  cases h with
  | cons a t=>exact .cons a (i8 t)
end
section
variable {X:Cx}
noncomputable def vy:R2:=fun x y H Q=> ∃ (a b:Addr) (xs ys:List Str),x=.ref a/\y=.ref b/\H a=some (.lst (xs.map V.str))/\H b=some (.lst (ys.map V.str))/\Q (.bl (!decide (xs=ys))) H
theorem sL (hu:X.A.units+16<cLine):OpR X (compareOp .NotEq) vy:=by
 intro pins s σ H x y v u Q I rx ry h
 obtain ⟨a,b,xs,ys,rfl,rfl,ha,hb,q⟩:=h
 cases rx
 cases ry
 obtain ⟨its,r,p,_⟩:=I.seqS (c:=false) ha
 obtain ⟨its2,r2,p2,_⟩:=I.seqS (c:=false) hb
 have P1:Paired tT xs its:=i8 r
 have P2:Paired tT ys its2:=i8 r2
 have l1:xs.length=its.toArray.size:=by rw [List.size_toArray];exact Paired.length P1
 have l2:ys.length=its2.toArray.size:=by rw [List.size_toArray];exact Paired.length P2
 by_cases e:its.toArray.size=its2.toArray.size
 ·have:=SeqAt.RcNeAt.lists (A:=X.A) (e:=fun j=>decide (xs[j]? =ys[j]?)) p p2 e (by lia) (fun j h1 h2=>by
   obtain ⟨x,ex,rx⟩:=dm P1 j (by simpa using h1)
   obtain ⟨y,ey,ry⟩:=dm P2 j (by simpa using h2)
   have:=(nP (A:=X.A.in1) (s:=s)).eq x y _ _ rx ry
   rw [ex,ey,show decide (some x=some y)=decide (x=y) by by_cases e:x=y <;> simp [e]]
   simpa using this)
  rw [<- l1,tS (by lia)]at this
  exact this X.prog X.w X.xe _ ⟨.bl _,H,I,rfl,q⟩
 ·rw [decide_eq_false (fun z=>e (by rw [<- l1,<- l2,z]))]at q
  exact SeqAt.RcNeAt.lists_lengths p p2 (by simpa using e) (by lia) X.prog X.w X.xe _ ⟨.bl _,H,I,rfl,q⟩
noncomputable def sq:V->List V->Hp->VK->Prop:=fun x vs H Q=> ∃ (l:Addr) (xs:List V) (i:Int) (y:V),x=.ref l/\vs=[.int i,y]/\H l=some (.lst xs)/\0<=i/\i.toNat<=xs.length/\xs.length<1000/\Q .non (upd H l (.lst (xs.take i.toNat++y::xs.drop i.toNat)))
theorem oW:MtM X "list.insert" sq:=by
 intro pins s σ H x vs v us Q I rx rv h
 obtain ⟨l,xs,i,y,rfl,rfl,hH,h0,hi,hz,q⟩:=h
 cases rx
 cases rv with
 | cons r1 rv=>
 obtain ⟨t,rfl⟩:=r1
 obtain ⟨u,rfl,ru⟩:=Vals.one rv
 obtain ⟨z,its,n,r,hl,e⟩:=I.lstM hH
 have hfit: ¬ (!Builtin.List.listFitsIndex i)=true:=by
  have h1:decide (-(2^63:Int)<=i)=true:=decide_eq_true (Int.le_trans (by decide +kernel) h0)
  have h2:decide (i<2^63)=true:=decide_eq_true (Int.lt_of_le_of_lt (by lia:i<=1000) (by decide +kernel))
  show ¬ (!(decide (-(2^63:Int)<=i)&&decide (i<2^63)))=true
  rw [h1,h2]
  exact Bool.false_ne_true
 have hsz:its.toArray.size<=sizeLine:=by rw [List.size_toArray,<- hl];exact z
 refine call_meets F.slot_list_insert ⟨_,e,rfl⟩ F.entry_list_insert (F.args_list_insert_3 _ _ _) (AutoListH.list_insert_list_int_val_1 l its.toArray n i t u hfit hsz) ⟨e,?_⟩
 have hv:Vals (xs.take i.toNat++y::xs.drop i.toNat) (its.take i.toNat++u::its.drop i.toNat):=Vals.append (Vals.take _ r) (.cons ru (Vals.drop _ r))
 refine ⟨.non,_,I.lset (its':=its.take i.toNat++u::its.drop i.toNat) hH e ?_ hv ?_,rfl,q⟩
 ·have hk:(if i<0 then (i+ ((its.toArray.size:Nat):Int)).toNat else min i.toNat its.toArray.size)=i.toNat:=by
   rw [if_neg (by lia),List.size_toArray]
   lia
  show (its.toArray.extract 0 _).push u++its.toArray.extract _=_
  rw [hk]
  apply Array.toList_inj.mp
  simp
  exact List.take_of_length_le (by simp)
 ·have:(xs.take i.toNat++y::xs.drop i.toNat).length=xs.length+1:=by simp;lia
  rw [this]
  exact Nat.le_trans (by lia:xs.length+1<=1000) (by show 1000<=sizeLine;decide)
end
noncomputable def sLe (a b:Str):Prop:=a.cps.toList<=b.cps.toList
theorem ur {a b:Str} (h:ltCps b.cps.toList a.cps.toList=false):sLe a b:=by
 rw [ltCps_eq]at h
 exact List.not_lt.mp (of_decide_eq_false h)
theorem nu: ∀ (p:Str) (l:List Str),risingS p l=true->(p::l).Pairwise sLe
 | p,[],_=>by simp
 | p,x::r,h=>by
  have h:(!ltCps x.cps.toList p.cps.toList&&risingS x r)=true:=h
  rw [Bool.and_eq_true]at h
  have h1:sLe p x:=ur (by simpa using h.1)
  have h2:=nu x r h.2
  refine List.pairwise_cons.mpr ⟨fun y hy=>?_,h2⟩
  rcases List.mem_cons.mp hy with e | hy
  ·rw [e];exact h1
  ·exact List.le_trans h1 ((List.pairwise_cons.mp h2).1 y hy)
theorem ni: ∀ {l:List Str},sortedS l=true->l.Pairwise sLe
 | [],_=>.nil
 | p::l,h=>nu p l h
theorem jb {a b:Str} (h1:sLe a b) (h2:sLe b a):a=b:=by
 have:=List.le_antisymm h1 h2
 cases a
 cases b
 exact congrArg Str.mk (Array.toList_inj.mp this)
theorem gF: ∀ {l m:List Str},l.Perm m->l.Pairwise sLe->m.Pairwise sLe->l=m
 | [],m,h,_,_=>(List.nil_perm.mp h).symm
 | a::l,[],h,_,_=>by
  have:=h.length_eq
  cases this
 | a::l,b::m,h,h1,h2=>by
  have p1:=List.pairwise_cons.mp h1
  have p2:=List.pairwise_cons.mp h2
  have e:a=b:=by
   have ma:a∈b::m:=h.mem_iff.mp List.mem_cons_self
   have mb:b∈a::l:=h.mem_iff.mpr List.mem_cons_self
   rcases List.mem_cons.mp ma with z | z
   ·exact z
   ·rcases List.mem_cons.mp mb with y | y
    ·exact y.symm
    ·exact jb (p1.1 b y) (p2.1 a z)
  subst e
  rw [gF ((List.perm_cons a).mp h) p1.2 p2.2]
theorem lm {us vs u v:List Str} (h1:us.Perm u) (h2:vs.Perm v) (s1:sortedS us=true) (s2:sortedS vs=true):us=vs↔u.Perm v:=
 ⟨fun e=>h1.symm.trans (e▸h2),fun p=>gF (h1.trans (p.trans h2.symm)) (ni s1) (ni s2)⟩
section
variable {X:Cx}
noncomputable def vA:R2:=fun x y H Q=> ∃ (a b:Addr) (ka kb:List (Key×V)),x=.ref a/\y=.ref b/\H a=some (.dK ka)/\H b=some (.dK kb)/\ka.length=kb.length/\(∀ kv∈ka,(∃ z,kv.2=.str z)/\bu kb kv.1=some kv.2)/\Q (.bl true) H
theorem kq {A:Around} {s:Shared} {kb:List (Key×V)} {wb:List (Key×Value)} (rb:KV kb wb): ∀ {ka:List (Key×V)} {wa:List (Key×Value)},KV ka wa->(∀ kv∈ka,(∃ z,kv.2=.str z)/\bu kb kv.1=some kv.2)->PySem.W.KeqHits A s wb wa true
 | _,_,.nil,_=>.nil
 | (k,v)::ra,(k',u)::wr,.cons h t,ia=>by
  obtain ⟨e,rv⟩:=h
  cases (show k=k' from e)
  obtain ⟨⟨z,ez⟩,hk⟩:=ia (k,v) List.mem_cons_self
  have ez:v=.str z:=ez
  subst ez
  obtain ⟨tk,rfl⟩:=(show ∃ t,u=Value.str z t from rv)
  have ih:=kq (A:=A) (s:=s) rb t fun kv hkv=>ia kv (List.mem_cons_of_mem _ hkv)
  have hv:=rb.val k
  have hk:bu kb k=some (.str z):=hk
  rw [hk]at hv
  obtain ⟨y,hy,ry⟩: ∃ y,valueAt wb k=some y/\RelV (.str z) y:=by
   cases hw:valueAt wb k with
   | none=>rw [hw]at hv;exact hv.elim
   | some y=>rw [hw]at hv;exact ⟨y,rfl,hv⟩
  obtain ⟨t2,rfl⟩:=(show ∃ t,y=Value.str z t from ry)
  have q:=(nP (A:=A) (s:=s)).eq z z (.str z tk) (.str z t2) ⟨_,rfl⟩ ⟨_,rfl⟩
  rw [decide_eq_true rfl]at q
  exact .hit hy q ih
theorem sM (hu:X.A.units+16<cLine):OpR X (compareOp .Eq) vA:=by
 intro pins s σ H x y v u Q I rx ry h
 obtain ⟨a,b,ka,kb,rfl,rfl,ha,hb,hl,hall,q⟩:=h
 cases rx
 cases ry
 obtain ⟨hz,lo,ws,rel,dd⟩:=fN I.hok ha
 obtain ⟨hz2,lo2,ws2,rel2,dd2⟩:=fN I.hok hb
 have l1:ws.length=ws2.length:=by rw [<- rel.length,<- rel2.length,hl]
 refine PySem.W.keq_eq lo lo2 dd dd2 (by lia) (fun _=>kq rel2 rel hall) ⟨.bl true,H,I,?_,q⟩
 rw [l1]
 simp
 rfl
theorem my:bV X (.type "dict") (fun xs H Q=> ∃ (a:Addr) (kvs:List (Key×V)),xs=[.ref a]/\H a=some (.dK kvs)/\ ∀ p,H p=none->Q (.ref p) (upd H p (.dK kvs))):=by
 intro pins s σ H xs us' Q I r h
 obtain ⟨a,kvs,rfl,ha,q⟩:=h
 obtain ⟨v,rfl,rx⟩:=cI r
 cases rx
 obtain ⟨hz,lo,ws,rel,dd⟩:=fN I.hok ha
 refine kt_call_dict lo dd (by rw [<- rel.length];exact hz) fun h' dd' sb=>?_
 have kp: ∀ b u,s.heap.get? b=some u->h'.get? b=some u:=fun b u e=>(sb.2 b (Nat.ne_of_lt (Heap.lt_size e))).trans (Heap.get?_push_of_some _ e)
 refine ⟨.ref s.heap.objs.size,_,I.laid (t':=s.toks) kp (Nat.le_refl _) (l8 hz ?_ rel dd'),rfl,q _ I.fresh⟩
 have:=I.big
 exact beq_eq_false_iff_ne.mpr (Nat.ne_of_gt this)
noncomputable def vx:V->List V->Hp->VK->Prop:=fun x vs H Q=> ∃ (a:Addr) (kvs:List (Key×V)) (k:Key) (v:V),x=.ref a/\vs=[kV k]/\H a=some (.dK kvs)/\bu kvs k=some v/\Q v (upd H a (.dK (kvs.filter fun kv=>decide (kv.1≠k))))
theorem lU {kvs:List (Key×V)} {ws:List (Key×Value)} (k:Key) (h:KV kvs ws):KV (kvs.filter fun kv=>decide (kv.1≠k)) (without ws k):=by
 unfold without
 induction h with
 | nil=>exact .nil
 | @cons p q l m h1 _ ih=>
  rw [List.filter_cons,List.filter_cons,h1.1]
  by_cases c:q.1=k
  ·simp only [c,ne_eq,not_true_eq_false,decide_false,Bool.false_eq_true,if_false]
   exact ih
  ·simp only [ne_eq,c,not_false_eq_true,decide_true,if_true]
   exact .cons h1 ih
theorem tf:MtM X "dict.pop" vx:=by
 intro pins s σ H x vs v us Q I rx rv h
 obtain ⟨a,kvs,k,v',rfl,rfl,ha,hk,q⟩:=h
 cases rx
 obtain ⟨u,rfl,ru⟩:=rv.one
 obtain ⟨hz,lo,ws,rel,dd⟩:=fN I.hok ha
 have hv:=rel.val k
 rw [hk]at hv
 obtain ⟨y,hy,ry⟩: ∃ y,valueAt ws k=some y/\RelV v' y:=by
  cases hw:valueAt ws k with
  | none=>rw [hw]at hv;exact hv.elim
  | some y=>rw [hw]at hv;exact ⟨y,rfl,hv⟩
 have hpart:(keyPart u).isSome=true:=by
  cases k with
  | inl i=>obtain ⟨t,rfl⟩:=(show ∃ t,u=Value.int i t from ru);rfl
  | inr z=>obtain ⟨t,rfl⟩:=(show ∃ t,u=Value.str z t from ru);rfl
 refine call_meetsIn F.slot_dict_pop dd.typeIs F.entry_dict_pop (F.args_dict_pop_2 _ _) (meets_dict_pop_there (az X.prog X.w) (d:=a) (iP ru) [] (.inl rfl) hpart) ⟨ws,y,dd,by rw [<- rel.length];exact hz,hy,fun h' dd' sb=>?_⟩
 have he: ∃ q,h'.get? a=some q:=let ⟨q,_,_,hq,_⟩:=dd';⟨q,hq⟩
 refine ⟨v',_,gf I (by rw [ha];exact True.intro) sb he (l8 (Nat.le_trans (List.length_filter_le _ _) hz) lo (lU k rel) dd'),ry,q⟩
end
end L2
namespace My
open PySem L2
theorem mj {l:Addr} {α:Type} {as:List α} {A:α->V->Prop} {xs:List V} {fr:List Nat} {te:TE} {σ:St} {H1:Hp} {Q:VK} (hn:xs.length<=1000) (hP:Paired A as xs) (hx:H1 l=some (.tup xs))
  (R:Hp->Nat×α->V->Prop) (mono: ∀ {H H':Hp} {a:Nat×α} {v:V},TK H H'->R H a v->R H' a v)
  (hte: ∀ i a v H (k:VK),as[i]? =some a->A a v->Same H1 H->(∀ u H',Same H H'->R H' (i,a) u->k u H')->te (some (.int (i:Int))::some v::bp fr σ) H k)
  (hd: ∀ p zs H',H1 p=none->Same H1 H'->H' p=some (.lst zs)->Paired (R H') ((List.range as.length).zip as) zs->Q (.ref p) H'):mJ fr te σ (Ite l) H1 Q:=by
 intro p hp
 have hl:as.length=xs.length:=Paired.length hP
 have hzl:((List.range as.length).zip as).length=as.length:=by simp
 refine ⟨fun i m zs H=>i<=xs.length/\m=xs.length-i/\Same H1 H/\H p=some (.lst zs)/\zs.length=i/\Paired (R H) (((List.range as.length).zip as).take i) zs,⟨_,Nat.zero_le _,rfl,ae hp _,ab,rfl,.nil⟩,?_⟩
 rintro i m zs H ⟨hi,hm,sm,gp,hz,hT⟩
 refine ⟨gp,?_⟩
 by_cases e:i=xs.length
 ·subst e
  rw [List.take_of_length_le (by lia)]at hT
  exact .inl ⟨⟨xs,sm _ _ hx,rfl⟩,hd p zs H hp sm gp hT⟩
 ·have hlt:i<xs.length:=by lia
  refine .inr ⟨⟨xs,xs[i],sm _ _ hx,List.getElem?_eq_getElem hlt⟩,ao (by lia),fun v H' hv=>?_⟩
  obtain ⟨T,v',fT,rfl,rfl,hk⟩:=hv
  have hv2:=hk xs (sm _ _ hx)
  obtain ⟨a,ha,hA⟩:=aM hP hv2
  have sT:=ae fT (.tup [.int (i:Int),v'])
  refine ⟨T,_,_,rfl,ab,hte i a v' _ _ ha hA (sm.trans sT) fun u H2 s2 r=>?_⟩
  have s2:=sT.trans s2
  have gp2:=s2 _ _ gp
  have tk:TK H2 (upd H2 p (.lst (zs++[u]))):=TK.lst gp2
  have hz2:((List.range as.length).zip as)[i]? =some (i,a):=by
   rw [List.getElem?_zip_eq_some]
   exact ⟨List.getElem?_range (by lia),ha⟩
  refine ⟨gp2,xs.length- (i+1),by lia,by lia,rfl,?_,ab,by rw [List.length_append,hz];rfl,?_⟩
  ·intro b o hb
   rw [ai (ah hb hp)]
   exact s2 _ _ (sm _ _ hb)
  ·rw [List.take_add_one,hz2]
   exact Paired.snoc (Paired.mapP hT fun _ _ r=>mono ((aF s2).trans tk) r) (mono tk r)
noncomputable def lJ (k:Nat) (x:Str):List Key:=[.inr "part",.inl (k:Int),.inr x]
noncomputable def prR (pr:List (Str×Str)) (ps:List Str):List (List Key):=((List.range ps.length).zip ps).map fun q=>lJ q.1 ((aW pr q.2).getD "")
noncomputable def jR:Sp:=fun vs H Q _=> ∃ v fr d pr,vs=[v,.ref d]/\RepFP H fr v/\FrP.ok fr/\H d=some (.dK (prK pr))/\(∀ x∈fr.parts,(aW pr x).isSome=true)/\
 ∀ p bs H',H p=none->Same H H'->H' p=some (.lst (bs.map V.ref))->Paired (fun ks b=>H' b=some (.tup (ks.map kV))) (prR pr fr.parts) bs->Q (.ref p) H'
theorem fH: ∀ (xs:List Str),Paired (fun (x:Str) v=>v=V.str x) xs (xs.map V.str)
 | []=>.nil
 | _::r=>.cons rfl (fH r)
theorem nv {α:Type} {H:Hp} {g:α->List Key}: ∀ {l:List α} {zs:List V},Paired (fun a v=> ∃ b,v=.ref b/\H b=some (.tup ((g a).map kV))) l zs-> ∃ bs:List Addr,zs=bs.map V.ref/\Paired (fun ks b=>H b=some (.tup (ks.map kV))) (l.map g) bs
 | _,_,.nil=>⟨[],rfl,.nil⟩
 | _,_,.cons ⟨b,e,h⟩ t=>by
  obtain ⟨bs,e2,hp⟩:=nv t
  exact ⟨b::bs,by rw [e,e2];rfl,.cons h hp⟩
theorem qk:aA NPF NPF (ag fS):=fsc
theorem oF (F:Fun K "price_readings" "price_readings" fS f fd) (hen:mg "enumerate"=none)
  (GP:FnOk P w K mg base CX0 1 f2 fd2 ["form"] jT) (bP:Binds K fd2 ["form"] []) (kP:PySem.W.keepIn K (.ref f2)=true) (mP:mg "parts_of"=some (.ref f2)):
  FnOk P w K mg base CX0 2 f fd NPF jR:=by
 refine F.ok qk (fun vs H Q E h=>?_) (fun cdv A outer s H vs Q E hr h=>?_)
 ·obtain ⟨v,fr,d,_,rfl,_⟩:=h
  rfl
 obtain ⟨v,fr,d,pr,rfl,hF,hok,hd,hpr,q⟩:=h
 have hu:=cT hr
 refine ⟨_,aj (ax (qM (sc0:=ag fS) (N0:=NPF) (ys:=["pricing"]) (fr:=[1]) rfl (sH rfl hen (aa (ak GP hr rfl mP kP bP .nil am (aa (pv 0) ac)) ac)) rfl rfl
   ⟨rfl,by decide +kernel,by decide +kernel,by decide +kernel,by decide +kernel,by decide +kernel,by decide +kernel,rfl,by decide +kernel⟩ (fun C s H ex=>aB (aa aE (aa (pv 0) (aa (bq hu (pv 2) (pv 1) (fun _ _=>rfl)) ac)))))),?_⟩
 refine ⟨_,rfl,v,fr,rfl,hF,fun pa hpa=>⟨pa,_,rfl,hpa,?_⟩⟩
 refine mj (by rw [List.length_map];have:=hok.2.2.1;lia) (fH fr.parts) hpa (fun H a v=> ∃ b,v=.ref b/\H b=some (.tup ((lJ a.1 ((aW pr a.2).getD "")).map kV))) (fun t ⟨b,e,h⟩=>⟨b,e,t _ _ h⟩) ?_ ?_
 ·rintro i a u H2 k hi rfl s2 hk
  obtain ⟨x,ex⟩:=Option.isSome_iff_exists.mp (hpr a (List.mem_of_getElem? hi))
  refine ⟨_,rfl,_,rfl,_,rfl,d,.str x,rfl,?_,(by show 3<=sizeLine;decide),fun t ht=>?_⟩
  ·have:=DGet.k (k:=.inr a) (s2 _ _ hd)
   rw [cm,ex]at this
   exact this
  ·refine hk _ _ (ae ht _) ⟨t,rfl,?_⟩
   rw [ex]
   exact ab
 ·intro p zs H' hp s' gp hz
  obtain ⟨bs,e,hb⟩:=nv (g:=fun q:Nat×Str=>lJ q.1 ((aW pr q.2).getD "")) hz
  subst e
  exact q p bs H' hp s' gp hb
noncomputable def priceK:List Str:=["num","part","plus","most"]
noncomputable def sY:Fm->Bool
 | .num n=>decide (0<=n)
 | _=>true
noncomputable def prT (g:Fm):Bool:=decide (bi g∈priceK)&&sY g
noncomputable def jQ:Sp:=fun vs H Q _=> ∃ v g,vs=[v]/\Rep H g v/\Fm.wf g/\Q (.bl (prT g)) H
theorem q8 {g:Fm} (w:g.wf):bi g="num"↔ ∃ n,g=.num n:=by
 constructor
 ·intro e
  cases g with
  | num n=>exact ⟨n,rfl⟩
  | own x=>exact absurd (show ("own":Str)="num" from e) (by decide +kernel)
  | part k x=>exact absurd (show ("part":Str)="num" from e) (by decide +kernel)
  | bin op a b=>
   have e:op="num":=e
   subst e
   exact absurd w.1 (by decide +kernel)
  | whn a b c=>exact absurd (show ("when":Str)="num" from e) (by decide +kernel)
 ·rintro ⟨n,rfl⟩
  rfl
noncomputable def qd (u v:List (List Key)):Bool:=decide (u.length=v.length/\ ∀ x∈u,x∈v)
noncomputable def pfB (pr:List (Str×Str)) (fr:FrP) (g:Fm):Bool:=qd (HT.ins [] (dd [] g.rdk)) (HT.ins [] (prR pr fr.parts))&&g.allB prT
structure FmP (g:Fm):Prop where
 wf:g.wf
 sz:g.size<=40
 rd:(HT.ins [] (dd [] g.rdk)).length<5
noncomputable def iE:Sp:=fun vs H Q _=> ∃ v fr d pr x g,vs=[v,.ref d]/\RepFP H fr v/\FrP.ok fr/\H d=some (.dK (prK pr))/\aW pr fr.own=some x/\fr.ru x=some g/\FmP g/\fr.parts.length<=3/\(∀ y∈fr.parts,(aW pr y).isSome=true)/\ ∀ H',Same H H'->Q (.bl (pfB pr fr g)) H'
theorem rq {K:Type} [DecidableEq K]: ∀ (l u:List K),(HT.ins u l).length<=u.length+l.length
 | [],u=>Nat.le_refl _
 | k::r,u=>by
  unfold HT.ins
  refine Nat.le_trans (rq r _) ?_
  rw [List.length_cons]
  split
  ·lia
  ·rw [List.length_append]
   show u.length+1+r.length<=_
   lia
theorem ny (pr:List (Str×Str)) (ps:List Str):(prR pr ps).length=ps.length:=by
 unfold prR
 simp
theorem nJ {H:Hp}: ∀ {ys:List V} {kss:List (List Key)},KsOf H ys kss-> ∃ bs:List Addr,ys=bs.map V.ref/\Paired (fun ks b=>H b=some (.tup (ks.map kV))) kss bs
 | _,_,.nil=>⟨[],rfl,.nil⟩
 | _,_,.cons ⟨b,e,h⟩ t=>by
  obtain ⟨bs,e2,hp⟩:=nJ t
  exact ⟨b::bs,by rw [e,e2];rfl,.cons h hp⟩
theorem qj:aA ["one"] ["one"] (ag jh):=fsc
theorem oE (F:Fun K "is_price_tuple" "is_price_tuple" jh f fd) (mR:mg "PRICE_KINDS"=some (.ref aR)) (hR: ∀ H,SqT K H aR (priceK.map V.str)):FnOk P w K mg base CX0 1 f fd ["one"] jQ:=by
 refine F.ok qj (fun vs H Q E h=>?_) (fun cdv A outer s H vs Q E hr h=>?_)
 ·obtain ⟨v,g,rfl,_⟩:=h
  rfl
 obtain ⟨v,g,rfl,hRp,hwf,q⟩:=h
 refine ⟨_,aj (ax (lM (di da (aq aw (pv 0) af (fun _ _=>rfl)) (jq (v:=.ref aR) rfl mR rfl) (by with_unfolding_all rfl)) (jp (vF (di gT (aq aw (pv 0) af (fun _ _=>rfl)) aE (aH _)) (jp (di ub (aq aw (pv 0) af (fun _ _=>rfl)) af (aH _))))))),?_⟩
 obtain ⟨a,r,rfl,ha⟩:=eM hRp
 refine ⟨_,rfl,a,_,0,_,rfl,rfl,SqT.of ha,bY,aR,_,rfl,.inr (hR H),rfl,cb,?_⟩
 refine ⟨_,rfl,?_⟩
 show if (if false=true then _ else inV (.str (bi g)) (priceK.map V.str))=true then _ else _
 rw [if_neg Bool.false_ne_true,cD]
 unfold prT at q
 by_cases c:bi g∈priceK
 ·rw [decide_eq_true c]at q ⊢
  refine bg ⟨_,rfl,a,_,0,_,rfl,rfl,SqT.of ha,bY,rfl,_,rfl,?_⟩
  by_cases c2:bi g="num"
  ·obtain ⟨n,rfl⟩:=(q8 hwf).mp c2
   obtain ⟨a',e,ha'⟩:=hRp
   cases e
   rw [show (!decide (V.str (bi (.num n))=V.str "num"))=false by rw [show V.str (bi (.num n))=V.str "num" from rfl,decide_eq_true rfl];rfl]
   refine aU ⟨_,rfl,a,_,1,.int n,rfl,rfl,SqT.of ha',ar (j:=1) rfl,_,_,rfl,rfl,?_⟩
   exact q
  ·rw [show (!decide (V.str (bi g)=V.str "num"))=true by rw [decide_eq_false (fun z=>c2 (V.str.inj z))];rfl]
   refine bg ?_
   have e:sY g=true:=by
    clear q ha hRp hwf c
    cases g with
    | num n=>exact absurd rfl c2
    | own _=>rfl
    | part _ _=>rfl
    | bin _ _ _=>rfl
    | whn _ _ _=>rfl
   rw [e]at q
   exact q
 ·rw [decide_eq_false c]at q ⊢
  exact aU q
noncomputable abbrev NPd:List Str:=["form","pricing","formula"]
theorem scPricedF:aA NPd NPF (ag cW):=fsc
theorem lO (F:Fun K "is_priced_form" "is_priced_form" cW f fd) (G:Gb mg) (hset:mg "set"=none)
  (GF:FnOk P w K mg base CX0 3 f2 fd2 NPF jS) (bF:Binds K fd2 NPF []) (kF:PySem.W.keepIn K (.ref f2)=true) (mF:mg "price_formula"=some (.ref f2))
  (GR:FnOk P w K mg base CX0 3 f3 fd3 ["formula"] mX) (bR:Binds K fd3 ["formula"] []) (kR:PySem.W.keepIn K (.ref f3)=true) (mR:mg "readings_of"=some (.ref f3))
  (GP:FnOk P w K mg base CX0 2 f4 fd4 NPF jR) (bP:Binds K fd4 NPF []) (kP:PySem.W.keepIn K (.ref f4)=true) (mP:mg "price_readings"=some (.ref f4))
  (GT:FnOk P w K mg base CX0 2 f5 fd5 ["formula"] gn) (bT:Binds K fd5 ["formula"] []) (kT:PySem.W.keepIn K (.ref f5)=true) (mT:mg "tuples_of"=some (.ref f5))
  (GQ:FnOk P w K mg base CX0 1 f6 fd6 ["one"] jQ) (bQ:Binds K fd6 ["one"] []) (kQ:PySem.W.keepIn K (.ref f6)=true) (mQ:mg "is_price_tuple"=some (.ref f6)):
  FnOk P w K mg base CX0 4 f fd NPF iE:=by
 refine F.ok scPricedF (fun vs H Q E h=>?_) (fun cdv A outer s H vs Q E hr h=>?_)
 ·obtain ⟨v,fr,d,_,_,_,rfl,_⟩:=h
  rfl
 obtain ⟨v,fr,d,pr,x,g,rfl,hF,hok,hd,hx,hg,hm,h3,hpr,q⟩:=h
 have hu:=cT hr
 have hr1:=hr.mono (show 1<=3 by decide)
 have hr2:=hr.mono (show 2<=3 by decide)
 refine ⟨_,ad (al (i:=2) scPricedF.nd rfl (Or.inl rfl) (ak GF hr rfl mF kF bF .nil am (aa (pv 0) (aa (pv 1) ac))))
  (ad (aV (au (uI hu) (aS (ic rfl hu) rfl hset (by decide +kernel) (aa (ak GR hr rfl mR kR bR .nil am (aa (pv 2) ac)) ac)) (aS (ic rfl hu) rfl hset (by decide +kernel) (aa (ak GP hr2 rfl mP kP bP .nil am (aa (pv 0) (aa (pv 1) ac))) ac)) (aH _)) (aj (ax dr)) aK)
  (aj (ax (aJ (ie rfl) rfl G.all (by decide +kernel) (aa (cK (sc0:=ag cW) (N0:=NPd) (ys:=[]) (fr:=[]) rfl (cY (ak GT hr2 rfl mT kT bT .nil am (aa (pv 2) ac))) rfl rfl
   cok (fun C s H ex=>ak GQ hr1 rfl mQ kQ bQ .nil am (aa (pv 0) ac))) ac))))),?_⟩
 refine ⟨_,rfl,_,rfl,v,fr,d,pr,x,g,rfl,hF,hok,hd,hx,hg,fun u H1 s1 hu1=>?_⟩
 obtain ⟨out,hTw,hol⟩:=Tw.of1 hu1 hm.wf
 have h40:=hm.sz
 refine ⟨_,rfl,u,out,g.rdk,rfl,hTw,by lia,fun rl ys H2 hrl s2 grl hys=>?_⟩
 obtain ⟨bs,rfl,hbs⟩:=nJ hys
 refine ⟨rl,_,bs,rfl,SqL.of grl,hbs,hm.rd,fun sp1 H3 hp1 s3 hS1=>?_⟩
 have s3:Same H2 H3:=s3
 have S3:=(s1.trans s2).trans s3
 refine ⟨_,rfl,_,rfl,v,fr,d,pr,rfl,hF.mono (aF S3),hok,S3 _ _ hd,hpr,fun pl cs H4 hpl s4 gpl hcs=>?_⟩
 refine ⟨pl,_,cs,rfl,SqL.of gpl,hcs,Nat.lt_of_le_of_lt (rq _ _) (by rw [ny];show 0+fr.parts.length<5;lia),fun sp2 H5 hp2 s5 hS2=>?_⟩
 have s5:Same H4 H5:=s5
 have S35:=s4.trans s5
 have S5:=S3.trans S35
 refine ⟨sp1,sp2,_,_,rfl,rfl,hS1.mono S35,hS2,?_⟩
 refine ⟨_,rfl,?_⟩
 rw [show decide ((HT.ins [] (dd [] g.rdk)).length=(HT.ins [] (prR pr fr.parts)).length/\ ∀ x∈HT.ins [] (dd [] g.rdk),x∈HT.ins [] (prR pr fr.parts))=qd (HT.ins [] (dd [] g.rdk)) (HT.ins [] (prR pr fr.parts))from decide_eq_decide.mpr Iff.rfl]
 unfold pfB at q
 cases hb:qd (HT.ins [] (dd [] g.rdk)) (HT.ins [] (prR pr fr.parts))with
 | false=>
  rw [hb]at q
  exact bg (q H5 S5)
 | true=>
  rw [hb]at q
  refine aU ?_
  have hu5:=hu1.mono (aF (s2.trans (s3.trans S35)))
  obtain ⟨out2,gs,hTs,hol2,hP,hall,hwfs⟩:=Ts.nodes (nd:=prT) hu5 hm.wf Ts.nil .nil (fun _ h=>by cases h)
  have hol2:out2.length=g.size:=hol2
  have hall:gs.all prT=g.allB prT:=by rw [hall];exact Bool.and_true _
  refine ⟨_,rfl,u,out2,rfl,hTs,by lia,fun p H6 s6 g6=>?_⟩
  refine ⟨p,rfl,⟨_,SqL.of g6⟩,?_⟩
  refine cr (by lia) hP (eV g6) (eU g6) (gY g6) (fun _ g v=>v=.bl (prT g)) (fun _ h=>h) ?_ ?_
  ·rintro g' u' H7 k hg' hRg s7 hk
   exact ⟨_,rfl,u',g',rfl,hRg.mono (aF (s6.trans s7)),hwfs g' hg',hk _ H7 (Same.refl _) rfl⟩
  ·intro p3 zs H8 hp3 s8 g8 hz
   have e:=cf (g:=fun g=>V.bl (prT g)) hz
   have e2:zs=(gs.map prT).map V.bl:=by rw [e,List.map_map];rfl
   rw [e2]at g8
   refine ⟨p3,_,rfl,SqL.of g8,?_⟩
   exact qb (q H8 (S5.trans (s6.trans s8))) (by rw [List.all_map,<- hall,Bool.true_and];rfl)
noncomputable def te3 (te:TE):TE:=fun σ H k=>match σ with
 | some x::r=> ∃ T v1 v2 v3,x=.ref T/\H T=some (.tup [v1,v2,v3])/\te (some v1::some v2::some v3::r) H k
 | _=>False
theorem vT {fr:List Nat} {te:TE} {σ:St} {J:It} {H1:Hp} {Q:VK} (h:fg fr (te3 te) σ J H1 Q):mH fr te σ J H1 Q:=h
structure BkQ (bk:BkP):Prop where
 s1:1<=bk.sorts.length
 s3:bk.sorts.length<=3
 nd:(bk.sorts.map Srt.name).Nodup
 few:bk.forms.length<=20
 fo: ∀ fr∈bk.forms,fr.ok/\fr.parts.length<=3/\fr.own∈bk.sorts.map Srt.name/\(∀ p∈fr.parts,p∈bk.sorts.map Srt.name)/\ ∀ s∈bk.sorts,s.name=fr.own-> ∀ x∈s.ups,∃ g,fr.ru x=some g/\FmP g
noncomputable def nmB (bk:BkP) (pr:List (Str×Str)):Bool:=decide (pr.length=bk.sorts.length/\ ∀ x∈pr.map Prod.fst,x∈bk.sorts.map Srt.name)
noncomputable def upB (bk:BkP) (pr:List (Str×Str)):Bool:=bk.sorts.all fun s=>decide ((aW pr s.name).getD ""∈s.ups)
noncomputable def foB (pr:List (Str×Str)) (fr:FrP):Bool:=pfB pr fr ((fr.ru ((aW pr fr.own).getD "")).getD (.num 0))
noncomputable def ipB (bk:BkP) (pr:List (Str×Str)):Bool:=decide (bk.wheel=0)&&(nmB bk pr&&(upB bk pr&&bk.forms.all (foB pr)))
theorem fW {pr:List (Str×Str)} {x:Str} (h:x∈pr.map Prod.fst): ∃ y,aW pr x=some y:=by
 obtain ⟨p,hp,e⟩:=List.mem_map.mp h
 unfold aW
 cases hf:pr.find? (fun p=>decide (p.1=x))with
 | none=>exact absurd (decide_eq_true e) (by simpa using List.find?_eq_none.mp hf p hp)
 | some q=>exact ⟨_,rfl⟩
theorem eh {l m:List Str} (hl:l.Nodup) (hn:l.length=m.length) (h: ∀ x∈l,x∈m): ∀ x∈m,x∈l:=fun x hx=>by
 refine Classical.byContradiction fun c=>?_
 have h1: ∀ y∈x::l,y∈m:=fun y hy=>(List.mem_cons.mp hy).elim (fun e=>e▸hx) (h y)
 have nd:(x::l).Nodup:=List.nodup_cons.mpr ⟨c,hl⟩
 have: ∀ {l m:List Str},l.Nodup->(∀ x∈l,x∈m)->l.length<=m.length:=by
  intro l
  induction l with
  | nil=>intro m _ _;exact Nat.zero_le _
  | cons a l ih=>
   intro m nd h
   have h0:=List.nodup_cons.mp nd
   have h1:=ih (m:=m.erase a) h0.2 fun x hx=>(List.mem_erase_of_ne fun z:x=a=>h0.1 (z▸hx)).mpr (h x (List.mem_cons_of_mem _ hx))
   have h2:=List.length_erase_of_mem (h a List.mem_cons_self)
   have h3:=List.length_pos_of_mem (h a List.mem_cons_self)
   rw [List.length_cons]
   lia
 have:=this nd h1
 rw [List.length_cons]at this
 lia
noncomputable def dX:Sp:=fun vs H Q _=> ∃ bv bk d pr,vs=[bv,.ref d]/\RepBP H bk bv/\BkQ bk/\H d=some (.dK (prK pr))/\(pr.map Prod.fst).Nodup/\pr.length<=4/\ ∀ H',Same H H'->Q (.bl (ipB bk pr)) H'
noncomputable abbrev NIp:List Str:=["book","pricing"]
theorem lq:aA NIp NIp (ag cM):=fsc
theorem kf (F:Fun K "is_priced" "is_priced" cM f fd) (G:Gb mg) (hset:mg "set"=none)
  (GW:FnOk P w K mg base CX0 1 f2 fd2 ["book"] jM) (bW:Binds K fd2 ["book"] []) (kW:PySem.W.keepIn K (.ref f2)=true) (mW:mg "wheel_of"=some (.ref f2))
  (GS:FnOk P w K mg base CX0 1 f3 fd3 ["book"] jN) (bS:Binds K fd3 ["book"] []) (kS:PySem.W.keepIn K (.ref f3)=true) (mS:mg "sorts_of"=some (.ref f3))
  (GF:FnOk P w K mg base CX0 1 f4 fd4 ["book"] jW) (bF:Binds K fd4 ["book"] []) (kF:PySem.W.keepIn K (.ref f4)=true) (mF:mg "forms_of"=some (.ref f4))
  (GP:FnOk P w K mg base CX0 4 f5 fd5 NPF iE) (bP:Binds K fd5 NPF []) (kP:PySem.W.keepIn K (.ref f5)=true) (mP:mg "is_priced_form"=some (.ref f5)):
  FnOk P w K mg base CX0 5 f fd NIp dX:=by
 refine F.ok lq (fun vs H Q E h=>?_) (fun cdv A outer s H vs Q E hr h=>?_)
 ·obtain ⟨v,_,d,_,rfl,_⟩:=h
  rfl
 obtain ⟨bv,bk,d,pr,rfl,hB,hok,hd,hnd,h4,q⟩:=h
 have hu:=cT hr
 have hr1:=hr.mono (show 1<=4 by decide)
 refine ⟨_,ad (aV (PW.pt (iI (au gT (ak GW hr1 rfl mW kW bW .nil am (aa (pv 0) ac)) af (aH _)) (fq (au (sK hu) (aS mq rfl hset (by decide +kernel) (aa (pv 1) ac))
    (aS (mo rfl) rfl hset (by decide +kernel) (aa (cK (sc0:=ag cM) (N0:=NIp) (ys:=[]) (fr:=[]) rfl (cG (ak GS hr1 rfl mS kS bS .nil am (aa (pv 0) ac))) rfl rfl
     cok (fun C s H ex=>aq (r:=ot K) aw (pv 0) af (fun _ _=>rfl))) ac)) (aH _))))) (aj (ax dr)) aK)
  (ad (aV (lH (gN (aJ (ie rfl) rfl G.all (by decide +kernel) (aa (qL (sc0:=ag cM) (N0:=NIp) (ys:=["pricing"]) (fr:=[1]) rfl (cG (ak GS hr1 rfl mS kS bS .nil am (aa (pv 0) ac))) rfl rfl
     ⟨rfl,by decide +kernel,by decide +kernel,by decide +kernel,by decide +kernel,by decide +kernel,by decide +kernel,by decide +kernel,rfl,by decide +kernel⟩ (fun C s H ex=>di (r:=rIn K false) da (bq hu (pv 3) (pv 0) (fun _ _=>rfl)) (pv 2) (by with_unfolding_all rfl))) ac)))) (aj (ax dr)) aK)
  (aj (ax (aJ (ie rfl) rfl G.all (by decide +kernel) (aa (cK (sc0:=ag cM) (N0:=NIp) (ys:=["pricing"]) (fr:=[1]) rfl (cG (ak GF hr1 rfl mF kF bF .nil am (aa (pv 0) ac))) rfl rfl
     cok (fun C s H ex=>ak GP hr rfl mP kP bP .nil am (aa (pv 0) (aa (pv 1) ac)))) ac))))),?_⟩
 refine ⟨_,rfl,bv,bk,rfl,hB,rfl,_,rfl,?_⟩
 unfold ipB at q
 by_cases cw:bk.wheel=0
 rotate_left
 ·rw [show (!decide (V.int bk.wheel=V.int 0))=true by rw [decide_eq_false (fun z=>cw (V.int.inj z))];rfl]
  rw [decide_eq_false cw]at q
  exact bg (bg (q H (Same.refl H)))
 rw [show (!decide (V.int bk.wheel=V.int 0))=false by rw [cw,decide_eq_true rfl];rfl]
 rw [decide_eq_true cw]at q
 refine aU ⟨_,rfl,d,_,rfl,hd,by unfold prK;rw [List.length_map];exact h4,fun p1 H1 hp1 s1 g1=>?_⟩
 have s1:Same H H1:=s1
 have ek:(prK pr).map (·.1)=(pr.map Prod.fst).map Sum.inr:=by unfold prK;rw [List.map_map,List.map_map];rfl
 rw [ek]at g1
 have hs3:=hok.s3
 refine ⟨_,rfl,bv,bk,rfl,hB.mono (aF s1),fun sb sx hsb hS=>⟨sb,rfl,⟨_,SqT.of hsb⟩,?_⟩⟩
 have lS:=hS.len
 refine cr (by lia) hS (dO hsb) (dN hsb) (fz hsb) (fun _ s v=>v=.str (Srt.name s)) (fun _ h=>h) ?_ ?_
 ·rintro sr v Ha k hsr ⟨b,dc,uc,rfl,hb,_⟩ sa' hk
  exact ⟨_,rfl,b,_,0,.str sr.name,rfl,rfl,SqT.of (sa' _ _ hb),bY,hk _ Ha (Same.refl Ha) rfl⟩
 intro nl zs H2 hnl s2 g2 hz
 have ez:zs=(bk.sorts.map Srt.name).map V.str:=by rw [cf hz,List.map_map];rfl
 subst ez
 refine ⟨nl,bk.sorts.map Srt.name,rfl,SqL.of g2,by rw [List.length_map];lia,fun p2 H3 hp2 s3 g3=>?_⟩
 have s3:Same H2 H3:=s3
 have ndk:((bk.sorts.map Srt.name).map (Sum.inr:Str->Key)).Nodup:=List.pairwise_map.mpr (hok.nd.imp fun h e=>h (Sum.inr.inj e))
 rw [iR (u:=[]) (by simpa using ndk),List.nil_append]at g3
 have S13:=s2.trans s3
 have S3:=s1.trans S13
 refine ⟨p1,p2,_,_,rfl,rfl,S13 _ _ g1,g3,_,rfl,?_⟩
 have en:decide (((pr.map Prod.fst).map (Sum.inr:Str->Key)).length=((bk.sorts.map Srt.name).map (Sum.inr:Str->Key)).length/\ ∀ x∈(pr.map Prod.fst).map (Sum.inr:Str->Key),x∈(bk.sorts.map Srt.name).map (Sum.inr:Str->Key))=nmB bk pr:=by
  refine decide_eq_decide.mpr ?_
  simp only [List.length_map]
  refine and_congr_right fun _=>⟨fun h x hx=>?_,fun h x hx=>?_⟩
  ·obtain ⟨y,hy,e⟩:=List.mem_map.mp (h _ (List.mem_map.mpr ⟨x,hx,rfl⟩))
   rw [<- Sum.inr.inj e]
   exact hy
  ·obtain ⟨y,hy,rfl⟩:=List.mem_map.mp hx
   exact List.mem_map.mpr ⟨y,h y hy,rfl⟩
 rw [en]
 cases hn:nmB bk pr with
 | false=>
  rw [hn]at q
  exact bg (q H3 S3)
 | true=>
  rw [hn]at q
  obtain ⟨n1,n2⟩:=of_decide_eq_true hn
  have hback:=eh hnd (by rw [List.length_map,List.length_map];exact n1) n2
  have hso: ∀ x∈bk.sorts.map Srt.name,∃ y,aW pr x=some y:=fun x hx=>fW (hback x hx)
  refine aU ?_
  refine ⟨_,rfl,bv,bk,rfl,hB.mono (aF S3),fun sb4 sx4 hsb4 hS4=>⟨sb4,rfl,⟨_,SqT.of hsb4⟩,?_⟩⟩
  have lS4:=hS4.len
  refine vT (cr (by lia) hS4 (dO hsb4) (dN hsb4) (fz hsb4) (fun _ s v=>v=.bl (decide ((aW pr s.name).getD ""∈s.ups))) (fun _ h=>h) ?_ ?_)
  ·rintro sr v Ha k hsr ⟨a,b,c,rfl,ha,hb,hc⟩ sa' hk
   obtain ⟨y,ey⟩:=hso _ (List.mem_map.mpr ⟨sr,hsr,rfl⟩)
   refine ⟨a,_,_,_,rfl,sa' _ _ ha,?_⟩
   refine ⟨_,rfl,_,rfl,d,.str y,rfl,?_,_,rfl,c,_,rfl,.inr (SqT.of (sa' _ _ hc)),rfl,cb,?_⟩
   ·have:=DGet.k (k:=.inr sr.name) ((S3.trans sa') _ _ hd)
    rw [cm,ey]at this
    exact this
   ·refine (show k (.bl (inV (.str y) (sr.ups.map V.str))) Ha from ?_)
    rw [cD]
    exact hk _ Ha (Same.refl _) (by rw [ey];rfl)
  ·intro p5 zs5 H5 hp5 s5 g5 hz5
   have e:=cf (g:=fun s:Srt=>V.bl (decide ((aW pr s.name).getD ""∈s.ups))) hz5
   have e2:zs5=(bk.sorts.map fun s=>decide ((aW pr s.name).getD ""∈s.ups)).map V.bl:=by rw [e,List.map_map];rfl
   rw [e2]at g5
   have S5:=S3.trans s5
   refine ⟨p5,_,rfl,SqL.of g5,_,rfl,?_⟩
   have eu:(bk.sorts.map fun s=>decide ((aW pr s.name).getD ""∈s.ups)).all id=upB bk pr:=by rw [List.all_map];rfl
   show if (!((bk.sorts.map fun s=>decide ((aW pr s.name).getD ""∈s.ups)).all id))=true then _ else _
   rw [eu]
   cases hub:upB bk pr with
   | false=>
    rw [hub]at q
    exact bg (q H5 S5)
   | true=>
    rw [hub]at q
    refine aU ?_
    have hfew:=hok.few
    refine ⟨_,rfl,bv,bk,rfl,hB.mono (aF S5),fun fb fx hfb hF=>⟨fb,rfl,⟨_,SqT.of hfb⟩,?_⟩⟩
    have lF:=hF.len
    refine cr (by lia) hF (dO hfb) (dN hfb) (fz hfb) (fun _ fr v=>v=.bl (foB pr fr)) (fun _ h=>h) ?_ ?_
    ·rintro fr v Ha k hfr hRf sa' hk
     obtain ⟨f1,f2,f3,f4,f5⟩:=hok.fo fr hfr
     obtain ⟨y,ey⟩:=hso _ f3
     obtain ⟨sr,hsr,esr⟩:=List.mem_map.mp f3
     have hin:y∈sr.ups:=by
      have:=List.all_eq_true.mp hub sr hsr
      rw [esr,ey]at this
      exact of_decide_eq_true this
     obtain ⟨g,eg,hg⟩:=f5 sr hsr esr y hin
     have ef:foB pr fr=pfB pr fr g:=by unfold foB;rw [ey];show pfB pr fr ((fr.ru y).getD (.num 0))=_;rw [eg];rfl
     refine ⟨_,rfl,_,rfl,v,fr,d,pr,y,g,rfl,hRf.mono (aF sa'),f1,(S5.trans sa') _ _ hd,ey,eg,hg,f2,fun z hz=>?_,fun H6 s6=>hk _ H6 s6 (by rw [ef])⟩
     obtain ⟨y',ey'⟩:=hso _ (f4 z hz)
     rw [ey']
     rfl
    ·intro p6 zs6 H6 hp6 s6 g6 hz6
     have e:=cf (g:=fun fr:FrP=>V.bl (foB pr fr)) hz6
     have e2:zs6=(bk.forms.map (foB pr)).map V.bl:=by rw [e,List.map_map];rfl
     rw [e2]at g6
     refine ⟨p6,_,rfl,SqL.of g6,?_⟩
     exact qb (q H6 (S5.trans s6)) (by rw [List.all_map];simp)
noncomputable def lj:Sp:=fun vs H Q _=> ∃ tp,vs=[.ref tp]/\Tp H tp/\ ∀ (n:Int) v H',0<=n->n<=999999->Kp tp H H'->Tp H' tp->Rep H' (.num n) v->Q v H'
noncomputable def pX:Sp:=fun vs H Q _=> ∃ bv bk x s,vs=[bv,.str x]/\RepBP H bk bv/\(BkP.sorts bk).find? (fun s=>decide (s.name=x))=some s/\bk.sorts.length<=10/\ ∀ a,H a=some (.tup (s.ups.map V.str))->Q (.ref a) H
noncomputable def ruL (rs:List Rul) (x:Str):Option Fm:=rs.foldl (fun o r=>if r.word=x then some r.fm else o) none
noncomputable def eJ:Sp:=fun vs H Q _=> ∃ v fr x g,vs=[v,.str x]/\RepFP H fr v/\FrP.ok fr/\ruL fr.rules x=some g/\ ∀ u,Rep H g u->Q u H
noncomputable def ROp (H:Hp):Option Fm->V->Prop
 | none,v=>v=.non
 | some g,v=>Rep H g v
theorem qx (rs:List Rul) (r:Rul) (x:Str):ruL (rs++[r]) x=if r.word=x then some r.fm else ruL rs x:=by
 unfold ruL
 rw [List.foldl_append]
 rfl
theorem uu:aA ["tape"] ["tape"] (ag qr):=fsc
theorem sP (F:Fun K "_law_price_number" "_law_price_number" qr f fd) (GD:FnOk P w K mg base CX0 1 g gd ["tape","many"] aT) (bD:Binds K gd ["tape","many"] []) (kD:PySem.W.keepIn K (.ref g)=true) (mD:mg "_law_digit"=some (.ref g)):
  FnOk P w K mg base CX0 2 f fd ["tape"] lj:=by
 refine F.ok uu (fun vs H Q E h=>?_) (fun cdv A outer s H vs Q E hr h=>?_)
 ·obtain ⟨tp,rfl,_⟩:=h
  rfl
 obtain ⟨tp,rfl,hT,q⟩:=h
 refine ⟨_,aj (ax (aB (aa aE (aa (aq aO (aY (aa af (aa af (aa (ak GD hr rfl mD kD bD .nil am (aa (pv 0) (aa af ac))) ac)))) (ak GD hr rfl mD kD bD .nil am (aa (pv 0) (aa af ac))) (fun _ _=>rfl)) ac)))),?_⟩
 refine ⟨_,rfl,tp,1000000,rfl,hT,by decide,by decide,fun d t h0 h1=>?_⟩
 refine ⟨(by show 3<=sizeLine;decide),fun p hp=>?_⟩
 have k1:Kp tp H (upd (upd H tp (.lst [.int t])) p (.lst [.int 0,.int 1,.int d])):=Kp.tape.new hp
 have t1:Tp (upd (upd H tp (.lst [.int t])) p (.lst [.int 0,.int 1,.int d])) tp:=Tp.new ⟨t,ab⟩ hp
 have g1:(upd (upd H tp (.lst [.int t])) p (.lst [.int 0,.int 1,.int d])) p=some (.lst [.int 0,.int 1,.int d]):=ab
 have hpt:p≠tp:=fun e=>by rw [e,ab]at hp;cases hp
 generalize upd (upd H tp (.lst [.int t])) p (.lst [.int 0,.int 1,.int d])=H1 at k1 t1 g1 ⊢
 refine ⟨_,rfl,tp,3,rfl,t1,by decide,by decide,fun e t2 e0 e1=>?_⟩
 have k2:Kp tp H (upd H1 tp (.lst [.int t2])):=k1.trans Kp.tape
 have t2':Tp (upd H1 tp (.lst [.int t2])) tp:=⟨t2,ab⟩
 have g2:(upd H1 tp (.lst [.int t2])) p=some (.lst [.int 0,.int 1,.int d]):=by rw [ai hpt];exact g1
 generalize upd H1 tp (.lst [.int t2])=H2 at k2 t2' g2 ⊢
 have fin: ∀ n:Int,0<=n->n<=999999->2<=sizeLine/\ ∀ b,H2 b=none->Q (.ref b) (upd H2 b (.tup [.str "num",.int n])):=fun n a1 a2=>
  ⟨(by decide),fun b hb=>q n _ _ a1 a2 (k2.new hb) (t2'.new hb) ⟨b,rfl,ab⟩⟩
 have he:e=0\/e=1\/e=2:=by lia
 rcases he with rfl | rfl | rfl
 ·exact ⟨p,_,0,_,rfl,rfl,SqL.of g2,bY,fin 0 (by lia) (by lia)⟩
 ·exact ⟨p,_,1,_,rfl,rfl,SqL.of g2,tQ,fin 1 (by lia) (by lia)⟩
 ·exact ⟨p,_,2,_,rfl,rfl,SqL.of g2,u7,fin d (by lia) (by lia)⟩
noncomputable abbrev NRo:List Str:=["form","word","found","at","name","formula"]
theorem scRuleOf:aA NRo ["form","word"] (ag jf):=fsc
theorem oC (F:Fun K "_law_rule_of" "_law_rule_of" jf f fd):FnOk P w K mg base CX0 1 f fd ["form","word"] eJ:=by
 refine F.ok scRuleOf (fun vs H Q E h=>?_) (fun cdv A outer s H vs Q E hr h=>?_)
 ·obtain ⟨v,fr,x,g,rfl,_⟩:=h
  rfl
 obtain ⟨v,fr,x,g,rfl,hF,hok,hg,q⟩:=h
 refine ⟨_,ad (al (i:=2) scRuleOf.nd rfl (Or.inl rfl) lK)
  (ad (bA PassesOwn.never rfl (cG (aq aw (pv 0) af (fun _ _=>rfl)))
    (cQ rfl (aG (av (i:=3) scRuleOf.nd rfl (Or.inl rfl)) (aG (av (i:=4) scRuleOf.nd rfl (Or.inl rfl)) (aG (av (i:=5) scRuleOf.nd rfl (Or.inl rfl)) cn))))
   (aj (aV (au cp (pv 4) (pv 1) (aH _)) (aj (al (i:=2) scRuleOf.nd rfl (Or.inl rfl) (pv 5))) aK)))
  (aj (ax (pv 2)))),?_⟩
 obtain ⟨a,pa,ra,rv,rfl,h1,h2,h3,h4⟩:=id hF
 have lR:=h4.len
 refine ⟨_,rfl,a,_,3,.ref ra,rfl,rfl,SqT.of h1,ar (j:=3) rfl,ra,rfl,⟨rv,SqT.of h3⟩,?_⟩
 refine dQ (xs:=rv) (fun i σ H'=>i<=rv.length/\H'=H/\ ∃ o2 o3 o4 o5,σ=[some (.ref a),some (.str x),some o2,o3,o4,o5]/\ROp H (ruL (fr.rules.take i) x) o2)
  ⟨Nat.zero_le _,rfl,_,none,none,none,rfl,rfl⟩ (fun i σ H' _ h=>by obtain ⟨_,rfl,_⟩:=h;exact SqT.of h3) ?_ ?_
 ·rintro i y σ H1 hy ⟨_,rfl,o2,o3,o4,o5,rfl,ho⟩
  have hil:i<rv.length:=(List.getElem?_eq_some_iff.mp hy).1
  obtain ⟨r,hr',c,u,rfl,hc,hu'⟩:=aM h4 hy
  refine ⟨c,_,rfl,SqT.of hc,rfl,_,_,rfl,_,_,rfl,_,_,rfl,rfl,?_⟩
  refine ⟨_,rfl,_,rfl,rfl,_,rfl,?_⟩
  have es:ruL (fr.rules.take (i+1)) x=if r.word=x then some r.fm else ruL (fr.rules.take i) x:=by
   rw [List.take_add_one,hr']
   exact qx _ _ _
  by_cases cx:r.word=x
  ·rw [if_pos cx]at es
   rw [show decide (V.str r.word=V.str x)=true from decide_eq_true (by rw [cx])]
   exact bg ⟨_,rfl,hil,rfl,_,_,_,_,rfl,by rw [es];exact hu'⟩
  ·rw [if_neg cx]at es
   rw [show decide (V.str r.word=V.str x)=false from decide_eq_false fun z=>cx (V.str.inj z)]
   exact aU ⟨hil,rfl,_,_,_,_,rfl,by rw [es];exact ho⟩
 ·rintro σ H1 ⟨_,rfl,o2,o3,o4,o5,rfl,ho⟩
  rw [<- lR,List.take_length,hg]at ho
  exact ⟨_,rfl,q o2 ho⟩
noncomputable abbrev NLu:List Str:=["book","name","sort"]
theorem scLUps:aA NLu ["book","name"] (ag qu):=fsc
theorem sS (F:Fun K "_law_ups" "_law_ups" qu f fd):FnOk P w K mg base CX0 1 f fd ["book","name"] pX:=by
 refine F.ok scLUps (fun vs H Q E h=>?_) (fun cdv A outer s H vs Q E hr h=>?_)
 ·obtain ⟨bv,bk,x,s,rfl,_⟩:=h
  rfl
 obtain ⟨bv,bk,x,sr,rfl,hB,hf,h10,q⟩:=h
 refine ⟨_,ad (bA PassesOwn.never rfl (cG (aq aw (pv 0) af (fun _ _=>rfl))) (av (i:=2) scLUps.nd rfl (Or.inl rfl))
   (aj (aV (au cp (aq aw (pv 2) af (fun _ _=>rfl)) (pv 1) (aH _)) (aj (ax (aq aw (pv 2) af (fun _ _=>rfl)))) aK)))
  (aj (ax (aB ac))),?_⟩
 obtain ⟨a,sa,fa,fv,rfl,h1,⟨sx,h2,h3⟩,h4,h5⟩:=id hB
 have lS:=h3.len
 refine ⟨_,rfl,a,_,1,.ref sa,rfl,rfl,SqT.of h1,ar (j:=1) rfl,sa,rfl,⟨sx,SqT.of h2⟩,?_⟩
 refine dQ (xs:=sx) (fun i σ H'=>i<=sx.length/\H'=H/\(∃ o2,σ=[some (.ref a),some (.str x),o2])/\ ∀ s∈bk.sorts.take i,s.name≠x)
  ⟨Nat.zero_le _,rfl,⟨none,rfl⟩,fun s hs=>by cases hs⟩ (fun i σ H' _ h=>by obtain ⟨_,rfl,_⟩:=h;exact SqT.of h2) ?_ ?_
 ·rintro i y σ H1 hy ⟨_,rfl,⟨o2,rfl⟩,hno⟩
  have hil:i<sx.length:=(List.getElem?_eq_some_iff.mp hy).1
  obtain ⟨r,hr',c,b,e,rfl,hc,hb,he⟩:=aM h3 hy
  refine ⟨_,rfl,c,_,0,.str r.name,rfl,rfl,SqT.of hc,bY,_,rfl,rfl,_,rfl,?_⟩
  by_cases cx:r.name=x
  ·rw [show decide (V.str r.name=V.str x)=true from decide_eq_true (by rw [cx])]
   have er:r=sr:=by
    have hd:bk.sorts=bk.sorts.take i++r::bk.sorts.drop (i+1):=by
     obtain ⟨hlt,e⟩:=List.getElem?_eq_some_iff.mp hr'
     rw [<- e,<- List.drop_eq_getElem_cons hlt,List.take_append_drop]
    rw [hd,List.find?_append,List.find?_eq_none.mpr (fun s hs=>by simpa using hno s hs),Option.none_or,List.find?_cons,decide_eq_true cx]at hf
    exact Option.some.inj hf
   subst er
   exact bg ⟨_,rfl,c,_,2,.ref e,rfl,rfl,SqT.of hc,ar (j:=2) rfl,q e he⟩
  ·rw [show decide (V.str r.name=V.str x)=false from decide_eq_false fun z=>cx (V.str.inj z)]
   refine aU ⟨hil,rfl,⟨_,rfl⟩,fun s hs=>?_⟩
   rw [List.take_add_one,hr']at hs
   rcases List.mem_append.mp hs with z | z
   ·exact hno s z
   ·rw [List.mem_singleton.mp z]
    exact cx
 ·rintro σ H1 ⟨_,rfl,⟨o2,rfl⟩,hno⟩
  rw [<- lS,List.take_length]at hno
  have:=List.mem_of_find?_eq_some hf
  have h9:decide (sr.name=x)=true:=List.find?_some (p:=fun s:Srt=>decide (s.name=x)) hf
  exact absurd (of_decide_eq_true h9) (hno sr this)
theorem jv {κ:Type} [DecidableEq κ] {x:κ}: ∀ {l u:List κ},x∈HT.ins u l↔x∈u\/x∈l
 | [],u=>by unfold HT.ins;simp
 | k::r,u=>by
  unfold HT.ins
  rw [jv (l:=r)]
  by_cases c:k∈u
  ·rw [if_pos c,List.mem_cons]
   exact ⟨fun h=>h.elim .inl fun z=>.inr (.inr z),fun h=>h.elim .inl fun z=>z.elim (fun e=>.inl (e▸c)) .inr⟩
  ·rw [if_neg c,List.mem_append,List.mem_singleton,List.mem_cons]
   exact ⟨fun h=>h.elim (fun z=>z.elim .inl fun e=>.inr (.inl e)) fun z=>.inr (.inr z),fun h=>h.elim (fun z=>.inl (.inl z)) fun z=>z.elim (fun e=>.inl (.inr e)) .inr⟩
theorem fA {κ:Type} [DecidableEq κ]: ∀ {l u:List κ},u.Nodup->(HT.ins u l).Nodup
 | [],u,h=>h
 | k::r,u,h=>by
  unfold HT.ins
  by_cases c:k∈u
  ·rw [if_pos c]
   exact fA h
  ·rw [if_neg c]
   refine fA (List.nodup_append.mpr ⟨h,by simp,fun a ha b hb e=>?_⟩)
   rw [List.mem_singleton.mp hb]at e
   exact c (e▸ha)
theorem ki {κ:Type} [DecidableEq κ]: ∀ {l m:List κ},l.Nodup->(∀ x∈l,x∈m)->l.length<=m.length
 | [],_,_,_=>Nat.zero_le _
 | a::l,m,nd,h=>by
  have h0:=List.nodup_cons.mp nd
  have h1:=ki (l:=l) (m:=m.erase a) h0.2 fun x hx=>(List.mem_erase_of_ne fun z:x=a=>h0.1 (z▸hx)).mpr (h x (List.mem_cons_of_mem _ hx))
  have h2:=List.length_erase_of_mem (h a List.mem_cons_self)
  have h3:=List.length_pos_of_mem (h a List.mem_cons_self)
  rw [List.length_cons]
  lia
theorem sZ {κ:Type} [DecidableEq κ] {l m:List κ} (hl:l.Nodup) (hn:l.length=m.length) (h: ∀ x∈l,x∈m): ∀ x∈m,x∈l:=fun x hx=>by
 refine Classical.byContradiction fun c=>?_
 have:=ki (l:=x::l) (m:=m) (List.nodup_cons.mpr ⟨c,hl⟩) fun y hy=>(List.mem_cons.mp hy).elim (fun e=>e▸hx) (h y)
 rw [List.length_cons]at this
 lia
theorem qc {a b:List (List Key)}:qd (HT.ins [] a) (HT.ins [] b)=true↔ ∀ x,x∈a↔x∈b:=by
 have ma: ∀ {l:List (List Key)} {x},x∈HT.ins [] l↔x∈l:=fun {l x}=>by rw [jv];simp
 unfold qd
 rw [decide_eq_true_iff]
 constructor
 ·rintro ⟨h1,h2⟩ x
  have h3:=sZ (fA List.nodup_nil) h1 h2
  exact ⟨fun h=>ma.mp (h2 x (ma.mpr h)),fun h=>ma.mp (h3 x (ma.mpr h))⟩
 ·intro h
  have s1: ∀ x∈HT.ins [] a,x∈HT.ins [] b:=fun x hx=>ma.mpr ((h x).mp (ma.mp hx))
  have s2: ∀ x∈HT.ins [] b,x∈HT.ins [] a:=fun x hx=>ma.mpr ((h x).mpr (ma.mp hx))
  exact ⟨Nat.le_antisymm (ki (fA List.nodup_nil) s1) (ki (fA List.nodup_nil) s2),s1⟩
noncomputable def bM (pr:List (Str×Str)) (ps:List Str):Fm->Bool
 | .num n=>decide (0<=n)
 | .own _=>false
 | .part k x=>decide (((ps[k.toNat]?).bind (aW pr)).getD ""=x)
 | .bin op _ _=>decide (op="plus"\/op="most")
 | .whn _ _ _=>false
noncomputable def jz (pr:List (Str×Str)) (ps:List Str) (g:Fm):Bool:=g.allB (bM pr ps)&&(List.range ps.length).all fun k=>decide ((k:Int)∈g.prt)
theorem mem_prR {pr:List (Str×Str)} {ps:List Str} {x:List Key}:x∈prR pr ps↔ ∃ k p,ps[k]? =some p/\x=lJ k ((aW pr p).getD ""):=by
 unfold prR
 rw [List.mem_map]
 constructor
 ·rintro ⟨⟨k,p⟩,h,rfl⟩
  obtain ⟨i,hi⟩:=List.getElem?_of_mem h
  obtain ⟨h1,h2⟩:=List.getElem?_zip_eq_some.mp hi
  have:k=i:=by
   obtain ⟨hl,e⟩:=List.getElem?_eq_some_iff.mp h1
   rw [List.getElem_range]at e
   exact e.symm
  subst this
  exact ⟨k,p,h2,rfl⟩
 ·rintro ⟨k,p,h,rfl⟩
  have hk:k<ps.length:=(List.getElem?_eq_some_iff.mp h).1
  exact ⟨(k,p),List.mem_of_getElem? (i:=k) (List.getElem?_zip_eq_some.mpr ⟨List.getElem?_range hk,h⟩),rfl⟩
noncomputable def Fm.inP (n:Nat) (g:Fm):Prop:= ∀ k∈g.prt,0<=k/\k.toNat<n
theorem nA {k:Int} {j:Nat} {x y:Str} (h:([.inr "part",.inl k,.inr x]:List Key)=lJ j y):k=(j:Int)/\x=y:=by
 unfold lJ at h
 have h1:=(List.cons.inj (List.cons.inj h).2).1
 have h2:=(List.cons.inj (List.cons.inj (List.cons.inj h).2).2).1
 exact ⟨Sum.inl.inj h1,Sum.inr.inj h2⟩
theorem ik {pr:List (Str×Str)} {ps:List Str} (hps: ∀ p∈ps,∃ y,aW pr p=some y): ∀ {g:Fm},g.wf->g.inP ps.length->(g.allB (bM pr ps)=true↔g.allB prT=true/\ ∀ x∈g.rdk,x∈prR pr ps)
 | .num n,_,_=>by
  show decide (0<=n)=true↔prT (.num n)=true/\ ∀ x∈([]:List (List Key)),_
  have:prT (.num n)=decide (0<=n):=by unfold prT sY;rw [show decide (bi (.num n)∈priceK)=true from (by decide +kernel:decide (("num":Str)∈priceK)=true)];rfl
  rw [this]
  exact ⟨fun h=>⟨h,fun x hx=>by cases hx⟩,fun h=>h.1⟩
 | .own x,_,_=>by
  show false=true↔prT (.own x)=true/\_
  have:prT (.own x)=false:=by unfold prT;rw [show decide (bi (.own x)∈priceK)=false from (by decide +kernel:decide (("own":Str)∈priceK)=false)];rfl
  rw [this]
  simp
 | .part k x,_,hin=>by
  obtain ⟨h0,h1⟩:=hin k (by show k∈[k];simp)
  have ep:ps[k.toNat]? =some ps[k.toNat]:=List.getElem?_eq_getElem h1
  have:prT (.part k x)=true:=by unfold prT;rw [show decide (bi (.part k x)∈priceK)=true from (by decide +kernel:decide (("part":Str)∈priceK)=true)];rfl
  show decide (((ps[k.toNat]?).bind (aW pr)).getD ""=x)=true↔prT (.part k x)=true/\ ∀ y∈([[.inr "part",.inl k,.inr x]]:List (List Key)),y∈prR pr ps
  rw [this,ep,decide_eq_true_iff]
  constructor
  ·intro e
   refine ⟨rfl,fun y hy=>?_⟩
   rw [List.mem_singleton.mp hy]
   refine mem_prR.mpr ⟨k.toNat,_,ep,?_⟩
   unfold lJ
   rw [show ((k.toNat:Nat):Int)=k by lia,<- e]
   rfl
  ·rintro ⟨_,h⟩
   obtain ⟨j,p,hj,e⟩:=mem_prR.mp (h _ List.mem_cons_self)
   obtain ⟨e1,e2⟩:=nA e
   have ej:k.toNat=j:=by lia
   have ep2:ps[k.toNat]? =some p:=by rw [ej];exact hj
   rw [<- ep,ep2,e2]
   rfl
 | .bin op a b,w,hin=>by
  have ia:=ik hps (g:=a) w.2.1 fun k hk=>hin k (by show k∈a.prt++b.prt;exact List.mem_append_left _ hk)
  have ib:=ik hps (g:=b) w.2.2 fun k hk=>hin k (by show k∈a.prt++b.prt;exact List.mem_append_right _ hk)
  have eo:prT (.bin op a b)=decide (op="plus"\/op="most"):=by
   unfold prT sY
   rw [Bool.and_true]
   refine decide_eq_decide.mpr ⟨fun h=>?_,fun h=>?_⟩
   ·have h:op∈priceK:=h
    have w1:=w.1
    unfold priceK at h
    simp only [List.mem_cons,List.mem_nil_iff,or_false]at h
    rcases h with e | e | e | e
    ·rw [e]at w1;exact absurd w1 (by decide +kernel)
    ·rw [e]at w1;exact absurd w1 (by decide +kernel)
    ·exact .inl e
    ·exact .inr e
   ·show op∈priceK
    rcases h with e | e
    ·rw [e];decide +kernel
    ·rw [e];decide +kernel
  show (decide (op="plus"\/op="most")&&(a.allB (bM pr ps)&&b.allB (bM pr ps)))=true↔(prT (.bin op a b)&&(a.allB prT&&b.allB prT))=true/\ ∀ x∈a.rdk++b.rdk,x∈prR pr ps
  rw [eo,Bool.and_eq_true,Bool.and_eq_true,Bool.and_eq_true,Bool.and_eq_true,ia,ib]
  constructor
  ·rintro ⟨h1,⟨h2,h3⟩,h4,h5⟩
   exact ⟨⟨h1,h2,h4⟩,fun x hx=>(List.mem_append.mp hx).elim (h3 x) (h5 x)⟩
  ·rintro ⟨⟨h1,h2,h4⟩,h3⟩
   exact ⟨h1,⟨h2,fun x hx=>h3 x (List.mem_append_left _ hx)⟩,h4,fun x hx=>h3 x (List.mem_append_right _ hx)⟩
 | .whn a b c,_,_=>by
  show (false&&_)=true↔(prT (.whn a b c)&&_)=true/\_
  have:prT (.whn a b c)=false:=by unfold prT;rw [show decide (bi (.whn a b c)∈priceK)=false from (by decide +kernel:decide (("when":Str)∈priceK)=false)];rfl
  rw [this]
  simp
theorem rH {pr:List (Str×Str)} {fr:FrP} {g:Fm} (hps: ∀ p∈fr.parts,∃ y,aW pr p=some y) (w:g.wf) (hin:g.inP fr.parts.length):pfB pr fr g=jz pr fr.parts g:=by
 have hd: ∀ x,x∈dd [] g.rdk↔x∈g.rdk:=fun x=>by rw [md];simp
 rw [Bool.eq_iff_iff]
 unfold pfB jz
 rw [Bool.and_eq_true,Bool.and_eq_true,qc,ik hps w hin,List.all_eq_true]
 constructor
 ·rintro ⟨h1,h2⟩
  refine ⟨⟨h2,fun x hx=>(h1 x).mp ((hd x).mpr hx)⟩,fun k hk=>decide_eq_true ?_⟩
  have hk:=List.mem_range.mp hk
  refine prt_rdk.mpr ⟨_,(hd _).mp ((h1 _).mpr (mem_prR.mpr ⟨k,_,List.getElem?_eq_getElem hk,rfl⟩))⟩
 ·rintro ⟨⟨h2,h3⟩,h4⟩
  refine ⟨fun x=>⟨fun h=>h3 x ((hd x).mp h),fun h=>(hd x).mpr ?_⟩,h2⟩
  obtain ⟨k,p,hp,rfl⟩:=mem_prR.mp h
  have hk:k<fr.parts.length:=(List.getElem?_eq_some_iff.mp hp).1
  obtain ⟨y,hy⟩:=prt_rdk.mp (of_decide_eq_true (h4 k (List.mem_range.mpr hk)))
  obtain ⟨j,p',hp',e⟩:=mem_prR.mp (h3 _ hy)
  obtain ⟨e1,e2⟩:=nA e
  have:j=k:=by lia
  subst this
  rw [hp]at hp'
  cases hp'
  rw [e]at hy
  exact hy
noncomputable def dJ (n:Nat):Sp:=fun vs H Q _=> ∃ v fm,vs=[v]/\Rep H fm v/\Fm.wf fm/\fm.size<=n/\ ∀ H',Same H H'->Q (.int (fm.size:Int)) H'
theorem dj: ∀ ws:List Str,Paired (fun (x:Str) (v:V)=>v=.str x) ws (ws.map V.str)
 | []=>.nil
 | _::r=>.cons rfl (dj r)
theorem tN (x:V) (r:List V):dS (x::r) (some 1) none=r:=by
 have e1:HT.sIx (x::r).length 0 (some 1)=1:=by
  have:HT.sIx (x::r).length 0 (some 1)=min 1 (x::r).length:=HT.sIx_nat _ _ 1
  rw [this,List.length_cons]
  lia
 unfold dS
 rw [e1,HT.sIx_none,List.length_cons,List.drop_one,List.tail_cons,Nat.add_sub_cancel,List.take_length]
theorem dM (x:V) (r:List V): ¬ (HT.sIx (x::r).length 0 (some 1)=0/\HT.sIx (x::r).length (x::r).length none=(x::r).length):=by
 rintro ⟨h1,_⟩
 have:HT.sIx (x::r).length 0 (some 1)=min 1 (x::r).length:=HT.sIx_nat _ _ 1
 rw [this,List.length_cons]at h1
 lia
theorem si:aA ["formula"] ["formula"] (ag gK):=fsc
theorem oK {n:Nat} (F:Fun K "_law_size" "_law_size" gK f fd) (hsum:mg "sum"=none)
  (GS:FnOk P w K mg base CX0 (n+1) f fd ["formula"] (dJ n)) (bS:Binds K fd ["formula"] []) (mS:mg "_law_size"=some (.ref f)):
  FnOk P w K mg base CX0 (n+2) f fd ["formula"] (dJ (n+1)):=by
 refine F.ok si (fun vs H Q E h=>?_) (fun cdv A outer s H vs Q E hr h=>?_)
 ·obtain ⟨v,fm,rfl,_⟩:=h
  rfl
 obtain ⟨v,fm,rfl,hR,hwf,hsz,q⟩:=h
 refine ⟨_,ad (aV (au da (aq aw (pv 0) af (fun _ _=>rfl)) (aB (pac aE (pac aE (pac aE ac)))) (by with_unfolding_all rfl)) (aj (ax af)) aK)
  (aj (ax (ay aZ af (aJ (pD rfl) rfl hsum (by decide +kernel) (aa (cK (sc0:=ag gK) (N0:=["formula"]) (ys:=[]) (fr:=[]) rfl (cG (bn jc (pv 0) (bH af) bJ)) rfl rfl
    cok (fun C s H ex=>ak GS hr rfl mS F.kp bS .nil am (aa (pv 0) ac))) ac))))),?_⟩
 obtain ⟨a,r,rfl,ha⟩:=eM hR
 refine ⟨_,rfl,a,_,0,.str (bi fm),rfl,rfl,SqT.of ha,bY,(by show 3<=sizeLine;decide),fun p1 h1=>?_⟩
 have s1:=ae h1 (.tup [.str "num",.str "own",.str "part"])
 have g1:(upd H p1 (.tup [.str "num",.str "own",.str "part"])) p1=some (.tup (([("num":Str),"own","part"]:List Str).map V.str)):=ab
 generalize upd H p1 (.tup [.str "num",.str "own",.str "part"])=HX at s1 g1 ⊢
 have sX:Same H HX:=s1
 refine ⟨p1,_,rfl,.inr (SqT.of g1),rfl,cb,_,rfl,?_⟩
 refine (show if inV (.str (bi fm)) ((["num","own","part"]:List Str).map V.str)=true then _ else _ from ?_)
 rw [cD]
 cases fm with
 | num m=>
  rw [show decide (bi (.num m)∈(["num","own","part"]:List Str))=true from decide_eq_true (by show ("num":Str)∈_;decide +kernel)]
  exact bg (q HX sX)
 | own x=>
  rw [show decide (bi (.own x)∈(["num","own","part"]:List Str))=true from decide_eq_true (by show ("own":Str)∈_;decide +kernel)]
  exact bg (q HX sX)
 | part k x=>
  rw [show decide (bi (.part k x)∈(["num","own","part"]:List Str))=true from decide_eq_true (by show ("part":Str)∈_;decide +kernel)]
  exact bg (q HX sX)
 | bin op X Y=>
  obtain ⟨a1,u1,u2,e,ha1,r1,r2⟩:=hR
  cases e
  rw [ha]at ha1
  cases ha1
  obtain ⟨ho,w1,w2⟩:op∈ops/\X.wf/\Y.wf:=hwf
  have hz:X.size+Y.size+1<=n+1:=hsz
  have hno:op∉(["num","own","part"]:List Str):=fun z=>by
   simp only [List.mem_cons,List.not_mem_nil,or_false]at z
   rcases z with z | z | z <;> (rw [z]at ho;exact absurd ho (by decide +kernel))
  rw [show decide (bi (.bin op X Y)∈(["num","own","part"]:List Str))=false from decide_eq_false hno]
  refine aU ?_
  refine ⟨_,rfl,1,rfl,a,_,rfl,SqT.of (sX _ _ ha),dM _ _,fun p5 h5=>?_⟩
  rw [tN]
  have s5:=ae h5 (.tup [u1,u2])
  have g5:(upd HX p5 (.tup [u1,u2])) p5=some (.tup [u1,u2]):=ab
  generalize upd HX p5 (.tup [u1,u2])=H5 at s5 g5 ⊢
  have S5:=sX.trans s5
  refine ⟨p5,rfl,⟨_,SqT.of g5⟩,?_⟩
  refine cr (as:=[X,Y]) (A:=fun g v=>Rep H g v/\g.wf/\g.size<=n) (by show 2<=1000;decide) (.cons ⟨r1,w1,by lia⟩ (.cons ⟨r2,w2,by lia⟩ .nil)) (dO g5) (dN g5) (fz g5) (fun _ g v=>v=.int (g.size:Int)) (fun _ h=>h) ?_ ?_
  ·rintro g v' H6 k hg ⟨hRg,hwg,hsg⟩ s6 hk
   exact ⟨_,rfl,v',g,rfl,hRg.mono (aF (S5.trans s6)),hwg,hsg,fun H7 s7=>hk _ H7 s7 rfl⟩
  ·intro p7 zs H7 hp7 s7 g7 hz7
   have e7:=cf (g:=fun g:Fm=>V.int (g.size:Int)) hz7
   have e8:zs=([X,Y].map fun g=>(g.size:Int)).map V.int:=by rw [e7,List.map_map];rfl
   rw [e8]at g7
   refine ⟨p7,_,rfl,SqL.of g7,_,_,rfl,rfl,?_⟩
   have:=q H7 (S5.trans s7)
   rw [show (((Fm.bin op X Y).size:Nat):Int)=1+i6 ([X,Y].map fun g=>(g.size:Int)) by show ((X.size+Y.size+1:Nat):Int)=1+ ((X.size:Int) + ((Y.size:Int) +0));lia]at this
   exact this
 | whn X Y Z=>
  obtain ⟨a1,u1,u2,u3,e,ha1,r1,r2,r3⟩:=hR
  cases e
  rw [ha]at ha1
  cases ha1
  obtain ⟨w1,w2,w3⟩:X.wf/\Y.wf/\Z.wf:=hwf
  have hz:X.size+Y.size+Z.size+1<=n+1:=hsz
  rw [show decide (bi (.whn X Y Z)∈(["num","own","part"]:List Str))=false from decide_eq_false (by show ("when":Str)∉_;decide +kernel)]
  refine aU ?_
  refine ⟨_,rfl,1,rfl,a,_,rfl,SqT.of (sX _ _ ha),dM _ _,fun p5 h5=>?_⟩
  rw [tN]
  have s5:=ae h5 (.tup [u1,u2,u3])
  have g5:(upd HX p5 (.tup [u1,u2,u3])) p5=some (.tup [u1,u2,u3]):=ab
  generalize upd HX p5 (.tup [u1,u2,u3])=H5 at s5 g5 ⊢
  have S5:=sX.trans s5
  refine ⟨p5,rfl,⟨_,SqT.of g5⟩,?_⟩
  refine cr (as:=[X,Y,Z]) (A:=fun g v=>Rep H g v/\g.wf/\g.size<=n) (by show 3<=1000;decide) (.cons ⟨r1,w1,by lia⟩ (.cons ⟨r2,w2,by lia⟩ (.cons ⟨r3,w3,by lia⟩ .nil))) (dO g5) (dN g5) (fz g5) (fun _ g v=>v=.int (g.size:Int)) (fun _ h=>h) ?_ ?_
  ·rintro g v' H6 k hg ⟨hRg,hwg,hsg⟩ s6 hk
   exact ⟨_,rfl,v',g,rfl,hRg.mono (aF (S5.trans s6)),hwg,hsg,fun H7 s7=>hk _ H7 s7 rfl⟩
  ·intro p7 zs H7 hp7 s7 g7 hz7
   have e7:=cf (g:=fun g:Fm=>V.int (g.size:Int)) hz7
   have e8:zs=([X,Y,Z].map fun g=>(g.size:Int)).map V.int:=by rw [e7,List.map_map];rfl
   rw [e8]at g7
   refine ⟨p7,_,rfl,SqL.of g7,_,_,rfl,rfl,?_⟩
   have:=q H7 (S5.trans s7)
   rw [show (((Fm.whn X Y Z).size:Nat):Int)=1+i6 ([X,Y,Z].map fun g=>(g.size:Int)) by show ((X.size+Y.size+Z.size+1:Nat):Int)=1+ ((X.size:Int) + ((Y.size:Int) + ((Z.size:Int) +0)));lia]at this
   exact this
theorem oM:FnOk P w K mg base CX0 1 f fd ["formula"] (dJ 0):=by
 have no: ∀ vs H Q E,¬ dJ 0 vs H Q E:=fun vs H Q E h=>by
  obtain ⟨v,fm,_,_,_,h,_⟩:=h
  have:=fm.size_pos
  lia
 exact ⟨fun vs H Q E h=>absurd h (no vs H Q E),fun A outer s H args us vs Q E _ _ _ _ h=>absurd h (no vs H Q E)⟩
theorem ke (F:Fun K "_law_size" "_law_size" gK f fd) (hsum:mg "sum"=none) (bS:Binds K fd ["formula"] []) (mS:mg "_law_size"=some (.ref f)): ∀ n:Nat,FnOk P w K mg base CX0 (n+1) f fd ["formula"] (dJ n)
 | 0=>oM
 | n+1=>oK F hsum (ke F hsum bS mS n) bS mS
theorem j2 {x:Str}: ∀ {rs:List Rul} {o:Option Fm},(∀ r∈rs,r.word≠x)->rs.foldl (fun o r=>if r.word=x then some r.fm else o) o=o
 | [],_,_=>rfl
 | r::rs,o,h=>by
  rw [List.foldl_cons,if_neg (h r List.mem_cons_self)]
  exact j2 fun q hq=>h q (List.mem_cons_of_mem _ hq)
theorem ru_eq {x:Str}: ∀ {rs:List Rul} {o:Option Fm},(∀ r∈rs,r.pl= -1)->(rs.map fun r=>(r.pl,r.word)).Nodup->
  rs.foldl (fun o r=>if r.word=x then some r.fm else o) o=((rs.find? fun r=>decide (r.pl= -1/\r.word=x)).map (·.fm)).or o
 | [],_,_,_=>by simp
 | r::rs,o,hp,nd=>by
  have n0:((r.pl,r.word)::rs.map fun r=>(r.pl,r.word)).Nodup:=nd
  obtain ⟨n1,n2⟩:=List.nodup_cons.mp n0
  have hp': ∀ q∈rs,q.pl= -1:=fun q hq=>hp q (List.mem_cons_of_mem _ hq)
  rw [List.foldl_cons,List.find?_cons]
  by_cases c:r.word=x
  ·rw [if_pos c,decide_eq_true ⟨hp r List.mem_cons_self,c⟩,j2 fun q hq e=>n1 (List.mem_map.mpr ⟨q,hq,by rw [hp' q hq,hp r List.mem_cons_self,e,c]⟩)]
   rfl
  ·rw [if_neg c,decide_eq_false fun z=>c z.2]
   exact ru_eq hp' n2
theorem FrP.ru_eq {fr:FrP} {x:Str} (hp: ∀ r∈fr.rules,r.pl= -1) (nd:(fr.rules.map fun r=>(r.pl,r.word)).Nodup):ruL fr.rules x=fr.ru x:=by
 unfold ruL FrP.ru
 rw [My.ru_eq hp nd]
 cases (fr.rules.find? fun r=>decide (r.pl= -1/\r.word=x)).map (·.fm) <;> rfl
noncomputable def j6 (pr:List (Str×Str)) (x y:Str):List (Str×Str):=if (pr.any fun p=>decide (p.1=x))=true then pr.map (fun p=>if p.1=x then (p.1,y)else p)else pr++[(x,y)]
theorem tG (a b:Str):decide ((Sum.inr a:Key)=.inr b)=decide (a=b):=decide_eq_decide.mpr ⟨Sum.inr.inj,fun e=>by rw [e]⟩
theorem fU (pr:List (Str×Str)) (x y:Str):bz (prK pr) (.inr x) (.str y)=prK (j6 pr x y):=by
 unfold bz j6
 have e1:((prK pr).any fun kv=>decide (kv.1=(Sum.inr x:Key)))=pr.any fun p=>decide (p.1=x):=by
  unfold prK
  rw [List.any_map]
  congr 1
  funext p
  exact tG _ _
 rw [e1]
 split
 ·unfold prK
  rw [List.map_map,List.map_map]
  refine List.map_congr_left fun p _=>?_
  show (if (Sum.inr p.1:Key)=.inr x then ((Sum.inr p.1:Key),V.str y)else (Sum.inr p.1,V.str p.2))=_
  by_cases c:p.1=x
  ·rw [if_pos (by rw [c])]
   simp [c]
  ·rw [if_neg fun z=>c (Sum.inr.inj z)]
   simp [c]
 ·unfold prK
  rw [List.map_append]
  rfl
theorem ou (pr:List (Str×Str)) (x y:Str):(j6 pr x y).map Prod.fst=if (pr.any fun p=>decide (p.1=x))=true then pr.map Prod.fst else pr.map Prod.fst++[x]:=by
 unfold j6
 split
 ·rw [List.map_map]
  refine List.map_congr_left fun p _=>?_
  show (if p.1=x then (p.1,y)else p).1=p.1
  split <;> rfl
 ·rw [List.map_append]
  rfl
theorem jn {pr:List (Str×Str)} {x y:Str} (h:(pr.map Prod.fst).Nodup):((j6 pr x y).map Prod.fst).Nodup:=by
 rw [ou]
 split
 ·exact h
 ·rename_i c
  refine List.nodup_append.mpr ⟨h,by simp,fun a ha b hb e=>?_⟩
  rw [List.mem_singleton.mp hb]at e
  obtain ⟨p,hp,e2⟩:=List.mem_map.mp ha
  exact c (List.any_eq_true.mpr ⟨p,hp,decide_eq_true (e2.trans e)⟩)
theorem gM (pr:List (Str×Str)) (x y:Str):(j6 pr x y).length<=pr.length+1:=by
 unfold j6
 split
 ·rw [List.length_map]
  lia
 ·rw [List.length_append]
  exact Nat.le_refl _
theorem rL (pr:List (Str×Str)) (x:Str):((prK pr).filter fun kv=>decide (kv.1≠(Sum.inr x:Key)))=prK (pr.filter fun p=>decide (p.1≠x)):=by
 unfold prK
 rw [List.filter_map]
 congr 1
 refine List.filter_congr fun p _=>?_
 exact decide_eq_decide.mpr ⟨fun h e=>h (by show (Sum.inr p.1:Key)=.inr x;rw [e]),fun h e=>h (Sum.inr.inj e)⟩
theorem tM {pr:List (Str×Str)} {x:Str} (h:(pr.map Prod.fst).Nodup):((pr.filter fun p=>decide (p.1≠x)).map Prod.fst).Nodup:=List.Nodup.sublist (List.Sublist.map _ List.filter_sublist) h
noncomputable def jU:Sp:=fun vs H Q _=> ∃ (tp:Addr) (bv:V) (bk:BkP) (d:Addr) (pr:List (Str×Str)),vs=[.ref tp,bv,.ref d]/\Tp H tp/\RepBP H bk bv/\1<=bk.sorts.length/\bk.sorts.length<=3/\(∀ s∈bk.sorts,1<=s.ups.length/\s.name∈pr.map Prod.fst)/\H d=some (.dK (prK pr))/\(pr.map Prod.fst).Nodup/\pr.length<=3/\
 ∀ p pr' H',Kp tp H H'->Tp H' tp->H' p=some (.dK (prK pr'))->(pr'.map Prod.fst).Nodup->pr'.length<=4->Q (.ref p) H'
noncomputable abbrev NOp:List Str:=["tape","book","pricing","made","name","downs","ups","way"]
theorem scOtherP:aA NOp ["tape","book","pricing"] (ag jj):=fsc
theorem oH (F:Fun K "_law_other_pricing" "_law_other_pricing" jj f fd) (G:Gb mg) (hdict:mg "dict"=none) (GD:FnOk P w K mg base CX0 1 g gd ["tape","many"] aT) (bD:Binds K gd ["tape","many"] []) (kD:PySem.W.keepIn K (.ref g)=true) (mD:mg "_law_digit"=some (.ref g)):
  FnOk P w K mg base CX0 2 f fd ["tape","book","pricing"] jU:=by
 refine F.ok scOtherP (fun vs H Q E h=>?_) (fun cdv A outer s H vs Q E hr h=>?_)
 ·obtain ⟨tp,bv,bk,d,pr,rfl,_⟩:=h
  rfl
 obtain ⟨tp,bv,bk,d,pr,rfl,hT,hB,hs1,hs3,hso,hd,hnd,h3,q⟩:=h
 have hu:=cT hr
 refine ⟨_,ad (al (i:=3) scOtherP.nd rfl (Or.inl rfl) (aS my rfl hdict (by decide +kernel) (aa (pv 2) ac)))
  (ad (dZ (aq aw (aq aw (pv 1) af (fun _ _=>rfl)) (ak GD hr rfl mD kD bD .nil am (aa (pv 0) (aa (aJ aC rfl G.len PySem.boot_len (aa (aq aw (pv 1) af (fun _ _=>rfl)) ac)) ac))) (fun _ _=>rfl)) (cQ rfl (aG (av (i:=4) scOtherP.nd rfl (Or.inl rfl)) (aG (av (i:=5) scOtherP.nd rfl (Or.inl rfl)) (aG (av (i:=6) scOtherP.nd rfl (Or.inl rfl)) cn)))))
  (ad (al (i:=7) scOtherP.nd rfl (Or.inl rfl) (ak GD hr rfl mD kD bD .nil am (aa (pv 0) (aa af ac))))
  (ad (aV (au cp (pv 7) af (aH _)) (aj (bG (c9 PySem.F.plainAttrs_dict PySem.F.slot_dict_pop PySem.F.type_dict_pop tf (pv 3) (aa (pv 4) ac)))) aK)
  (ad (aV (au cp (pv 7) af (aH _)) (aj (cX hu (pv 3) aE (aq aw (pv 6) af (fun _ _=>rfl)) rfl)) aK)
  (ad (aV (au cp (pv 7) af (aH _)) (aj (cX hu (pv 3) (pv 4) aE rfl)) aK)
  (ad (aV (au cp (pv 7) af (aH _)) (aj (cX hu (pv 3) (pv 4) (aq aw (pv 6) (fG dB af) (fun _ _=>rfl)) rfl)) aK)
  (aj (ax (pv 3))))))))),?_⟩
 obtain ⟨a,sa,fa,fv,rfl,h1,⟨sx,h2,hS⟩,h4,h5⟩:=id hB
 have lS:=hS.len
 refine ⟨_,rfl,d,_,rfl,hd,fun p hp=>?_⟩
 have s1:=ae hp (.dK (prK pr))
 have g1:(upd H p (.dK (prK pr))) p=some (.dK (prK pr)):=ab
 have hpt:p≠tp:=ck hT hp
 have t1:Tp (upd H p (.dK (prK pr))) tp:=hT.new hp
 generalize upd H p (.dK (prK pr))=H1 at s1 g1 t1 ⊢
 refine ⟨_,rfl,a,_,1,.ref sa,rfl,rfl,SqT.of (s1 _ _ h1),ar (j:=1) rfl,_,rfl,_,rfl,a,_,1,.ref sa,rfl,rfl,SqT.of (s1 _ _ h1),ar (j:=1) rfl,sa,sx,rfl,.inr (SqT.of (s1 _ _ h2)),?_⟩
 refine ⟨tp,(sx.length:Int),rfl,t1,by lia,by lia,fun j t j0 j1=>?_⟩
 have k2:Kp tp H (upd H1 tp (.lst [.int t])):=fun b o h n=>by rw [ai n];exact s1 _ _ h
 have t2:Tp (upd H1 tp (.lst [.int t])) tp:=⟨t,ab⟩
 have g2:(upd H1 tp (.lst [.int t])) p=some (.dK (prK pr)):=by rw [ai hpt];exact g1
 generalize upd H1 tp (.lst [.int t])=H2 at k2 t2 g2 ⊢
 have tkk:TK H H2:=k2.tk hT
 have hjl:j.toNat<sx.length:=by lia
 have hx:sx[j.toNat]? =some sx[j.toNat]:=List.getElem?_eq_getElem hjl
 obtain ⟨sr,hsr,c,b,e,ex,hc,hb,he⟩:=aM hS hx
 rw [ex]at hx
 have hsm:=List.mem_of_getElem? hsr
 obtain ⟨u1,nm⟩:=hso sr hsm
 obtain ⟨y,ey⟩:=fW nm
 have c2:=tkk _ _ hc
 have e2:=tkk _ _ he
 refine ⟨sa,_,j,.ref c,rfl,rfl,SqT.of (tkk _ _ h2),?_,?_⟩
 ·rw [show j=(j.toNat:Int) by lia]
  exact ar hx
 refine ⟨c,_,rfl,SqT.of c2,rfl,_,_,rfl,_,_,rfl,_,_,rfl,rfl,?_⟩
 refine ⟨_,rfl,tp,4,rfl,t2,by decide,by decide,fun way t' w0 w1=>?_⟩
 have k3:Kp tp H (upd H2 tp (.lst [.int t'])):=k2.trans Kp.tape
 have t3:Tp (upd H2 tp (.lst [.int t'])) tp:=⟨t',ab⟩
 have g3:(upd H2 tp (.lst [.int t'])) p=some (.dK (prK pr)):=by rw [ai hpt];exact g2
 have e3:(upd H2 tp (.lst [.int t'])) e=some (.tup (sr.ups.map V.str)):=(Kp.tape.tk t2) _ _ e2
 generalize upd H2 tp (.lst [.int t'])=H3 at k3 t3 g3 e3 ⊢
 have hw:way=0\/way=1\/way=2\/way=3:=by lia
 have fin: ∀ pr',(pr'.map Prod.fst).Nodup->pr'.length<=4->Q (.ref p) (upd H3 p (.dK (prK pr'))):=fun pr' n1 n2=>
  q p pr' _ (fun b o h n=>by rw [ai (ah h hp)];exact k3 _ _ h n) (by obtain ⟨z,hz⟩:=t3;exact ⟨z,by rw [ai (Ne.symm hpt)];exact hz⟩) ab n1 n2
 obtain ⟨y0,ys0,eu⟩: ∃ y0 ys0,sr.ups=y0::ys0:=by
  cases hq:sr.ups with
  | nil=>rw [hq]at u1;cases u1
  | cons y0 ys0=>exact ⟨y0,ys0,rfl⟩
 rw [eu]at e3
 have hlast: ∃ z,atI ((y0::ys0).map V.str) (-1)=some (.str z):=by
  have hx:ixN ((y0::ys0).map V.str).length (-1)=some ys0.length:=by
   unfold ixN
   rw [if_neg (by decide),if_pos (by rw [List.length_map,List.length_cons];lia)]
   congr 1
   rw [List.length_map,List.length_cons]
   lia
  unfold atI
  rw [hx]
  refine ⟨(y0::ys0)[ys0.length],?_⟩
  show ((y0::ys0).map V.str)[ys0.length]? =_
  rw [List.getElem?_map,List.getElem?_eq_getElem (by simp)]
  rfl
 have F4: ∀ i j:Int,i≠j->decide (V.int i=V.int j)=false:=fun i j h=>decide_eq_false fun z=>h (V.int.inj z)
 rcases hw with rfl | rfl | rfl | rfl
 ·refine ⟨_,rfl,rfl,_,rfl,?_⟩
  rw [decide_eq_true rfl]
  refine bg ⟨_,rfl,.inr (.inr (.inl ⟨rfl,.inl ⟨_,g3⟩⟩)),_,rfl,p,prK pr,.inr sr.name,.str y,rfl,rfl,g3,by rw [cm,ey];rfl,?_⟩
  rw [rL]
  refine ⟨_,rfl,rfl,_,rfl,?_⟩
  rw [F4 0 1 (by decide)]
  refine aU ⟨_,rfl,rfl,_,rfl,?_⟩
  rw [F4 0 2 (by decide)]
  refine aU ⟨_,rfl,rfl,_,rfl,?_⟩
  rw [F4 0 3 (by decide)]
  exact aU ⟨_,rfl,fin _ (tM hnd) (Nat.le_trans (List.length_filter_le _ _) (by lia))⟩
 ·refine ⟨_,rfl,rfl,_,rfl,?_⟩
  rw [F4 1 0 (by decide)]
  refine aU ⟨_,rfl,rfl,_,rfl,?_⟩
  rw [decide_eq_true rfl]
  refine bg ⟨_,rfl,e,_,0,.str y0,rfl,rfl,SqT.of e3,bY,_,rfl,p,_,rfl,DPut.k (k:=.inr "nosuch") g3 (ao (by unfold prK;rw [List.length_map];lia)),?_⟩
  rw [fU]
  refine ⟨_,rfl,rfl,_,rfl,?_⟩
  rw [F4 1 2 (by decide)]
  refine aU ⟨_,rfl,rfl,_,rfl,?_⟩
  rw [F4 1 3 (by decide)]
  exact aU ⟨_,rfl,fin _ (jn hnd) (Nat.le_trans (gM _ _ _) (by lia))⟩
 ·refine ⟨_,rfl,rfl,_,rfl,?_⟩
  rw [F4 2 0 (by decide)]
  refine aU ⟨_,rfl,rfl,_,rfl,?_⟩
  rw [F4 2 1 (by decide)]
  refine aU ⟨_,rfl,rfl,_,rfl,?_⟩
  rw [decide_eq_true rfl]
  refine bg ⟨_,rfl,_,rfl,p,_,rfl,DPut.k (k:=.inr sr.name) g3 (ao (by unfold prK;rw [List.length_map];lia)),?_⟩
  rw [fU]
  refine ⟨_,rfl,rfl,_,rfl,?_⟩
  rw [F4 2 3 (by decide)]
  exact aU ⟨_,rfl,fin _ (jn hnd) (Nat.le_trans (gM _ _ _) (by lia))⟩
 ·obtain ⟨z,hz⟩:=hlast
  refine ⟨_,rfl,rfl,_,rfl,?_⟩
  rw [F4 3 0 (by decide)]
  refine aU ⟨_,rfl,rfl,_,rfl,?_⟩
  rw [F4 3 1 (by decide)]
  refine aU ⟨_,rfl,rfl,_,rfl,?_⟩
  rw [F4 3 2 (by decide)]
  refine aU ⟨_,rfl,rfl,_,rfl,?_⟩
  rw [decide_eq_true rfl]
  refine bg ⟨_,rfl,1,rfl,e,_,-1,.str z,rfl,rfl,SqT.of e3,hz,_,rfl,_,rfl,p,_,rfl,DPut.k (k:=.inr sr.name) g3 (ao (by unfold prK;rw [List.length_map];lia)),?_⟩
  rw [fU]
  exact ⟨_,rfl,fin _ (jn hnd) (Nat.le_trans (gM _ _ _) (by lia))⟩
theorem eN {α β γ:Type} {F:β->γ->Prop} {g:α->β}: ∀ {l:List α} {r:List γ},Paired (fun a c=>F (g a) c) l r->Paired F (l.map g) r
 | _,_,.nil=>.nil
 | _,_,.cons a t=>.cons a (eN t)
noncomputable abbrev F3:=Str×Str×List Str
noncomputable def F3At (H:Hp) (f:F3) (z:V):Prop:= ∃ c pa,z=.ref c/\H c=some (.tup [.str f.1,.str f.2.1,.ref pa])/\H pa=some (.tup (f.2.2.map V.str))
theorem F3At.mono {H H':Hp} (t:TK H H') {f:F3} {z:V}:F3At H f z->F3At H' f z:=fun ⟨c,pa,e,h1,h2⟩=>⟨c,pa,e,t _ _ h1,t _ _ h2⟩
structure BdP where
 names:List Str
 forms:List F3
noncomputable def v7 (H:Hp) (bd:BdP) (v:V):Prop:= ∃ a nl fl zs,v=.ref a/\H a=some (.tup [.ref nl,.ref fl])/\H nl=some (.lst (bd.names.map V.str))/\H fl=some (.lst zs)/\Paired (F3At H) bd.forms zs
noncomputable def vd (ns ws:List Str) (i:Nat) (fs:List F3):Prop:=(∀ f∈fs,f.2.1∈ns/\(∀ p∈f.2.2,p∈ns)/\f.2.2.length<=3)/\fs.map (·.1)=ws.take i/\ ∀ f,fs[0]? =some f->f.2.2=[]
structure wZ (bd:BdP):Prop where
 n1:1<=bd.names.length
 n3:bd.names.length<=3
 f1:1<=bd.forms.length
 f6:bd.forms.length<=6
 fo: ∀ f∈bd.forms,f.2.1∈bd.names/\(∀ p∈f.2.2,p∈bd.names)/\f.2.2.length<=3
 nd:bd.names.Nodup
 wd: ∀ x∈bd.names,cA x=true
 fn:(bd.forms.map (·.1)).Nodup
 fw: ∀ f∈bd.forms,cA f.1=true
 nil: ∀ f,bd.forms[0]? =some f->f.2.2=[]
noncomputable def jV:Sp:=fun vs H Q _=> ∃ (tp:Addr) (many most:Int),vs=[.ref tp,.int many,.int most]/\Tp H tp/\1<=many/\many<=3/\1<=most/\most<=3/\ ∀ v bd H',v7 H' bd v->wZ bd->Kp tp H H'->Tp H' tp->Q v H'
noncomputable abbrev NBd:List Str:=["tape","many","most","names","words","forms","k","own","size"]
theorem scLBuild:aA NBd ["tape","many","most"] (ag cJ):=fsc
noncomputable def bdFor:List Stmt:=fZ ((bx cJ).getD 3 (.Pass ⟨0,0,0,0⟩))
noncomputable def BDI (H:Hp) (tp nl wl fl:Addr) (many most:Int) (ns ws:List Str) (i:Nat) (σ:St) (H':Hp):Prop:= ∃ o6 o7 o8 zs fs,σ=[some (.ref tp),some (.int many),some (.int most),some (.ref nl),some (.ref wl),some (.ref fl),o6,o7,o8]/\Kp tp H H'/\Tp H' tp/\H' nl=some (.lst (ns.map V.str))/\H' wl=some (.lst (ws.map V.str))/\H' fl=some (.lst zs)/\Paired (F3At H') fs zs/\zs.length=i/\vd ns ws i fs
theorem vZ {cdv:Value} {A:Around} {outer:List Env} {s:Shared} {H H0:Hp} {E:XK} (G:Gb mg)
  (GD:FnOk P w K mg base CX0 1 f2 fd2 ["tape","many"] aT) (bD:Binds K fd2 ["tape","many"] []) (kD:PySem.W.keepIn K (.ref f2)=true) (mD:mg "_law_digit"=some (.ref f2))
  (hr1:Room 1 (bZ CX0 P w K mg base NBd "_law_build" (ag cJ) f cdv A outer s H0 E).nox.A):
  ∃ t,PSs (bZ CX0 P w K mg base NBd "_law_build" (ag cJ) f cdv A outer s H0 E).nox (bdFor.drop 4) t/\
   ∀ (D:cL) (tp nl wl fl:Addr) (many most:Int) (ns ws:List Str) (i:Nat) (on:Str) (m:Int) (zs:List V) (fs:List F3) (H6:Hp),1<=many->many<=3->ns.length=many.toNat->ws.length=10->i<6->on∈ns->0<=m->m<=3->(i=0->m=0)->nl≠tp->wl≠tp->fl≠tp->nl≠fl->wl≠fl->(∀ {c:Addr} {oo:HO},H c=some oo->c≠tp->c≠fl)->
    Kp tp H H6->Tp H6 tp->H6 nl=some (.lst (ns.map V.str))->H6 wl=some (.lst (ws.map V.str))->H6 fl=some (.lst zs)->Paired (F3At H6) fs zs->zs.length=i->vd ns ws i fs->
    (∀ σ' H',BDI H tp nl wl fl many most ns ws (i+1) σ' H'->D.nx σ' H')->
    t D [some (.ref tp),some (.int many),some (.int most),some (.ref nl),some (.ref wl),some (.ref fl),some (.int (0+ (i:Int))),some (.str on),some (.int m)] H6:=by
 refine ⟨_,aj (bG (c9 PySem.F.plainAttrs_list PySem.F.slot_list_append PySem.F.type_list_append bo (pv 5) (aa (aB (aa (aq aO (pv 4) (pv 6) (fun _ _=>rfl)) (aa (pv 7)
    (aa (aS bm rfl G.tuple (by decide +kernel) (aa (cK (sc0:=ag cJ) (N0:=NBd) (ys:=["many","names","tape"]) (fr:=[1,3,0]) rfl (bj rfl G.range (aa (pv 8) ac)) rfl rfl
     cok (fun C s H ex=>aq (r:=uC K) aO (pv 2) (ak GD hr1 rfl mD kD bD .nil am (aa (pv 3) (aa (pv 1) ac))) (fun _ _=>rfl))) ac)) ac)))) ac))),?_⟩
 intro D tp nl wl fl many most ns ws i on m zs fs H6 hm1 hm3 nLen wLen hi6 hon h0 h3 hm0 hnne hwne hflt nnl nwl hfl0 k6 tt6 hnl hwl gfl hP hzl hfo hD
 obtain ⟨nm,enm⟩: ∃ nm,ws[i]? =some nm:=⟨ws[i]'(by lia),List.getElem?_eq_getElem (by lia)⟩
 have eat:atI (ws.map V.str) (0+ (i:Int))=some (V.str nm):=by
  rw [Int.zero_add]
  exact ar (by rw [List.getElem?_map,enm];rfl)
 refine ⟨_,rfl,.inl ⟨rfl,_,SqL.of gfl⟩,_,rfl,_,rfl,wl,_,_,_,rfl,rfl,SqL.of hwl,eat,_,rfl,_,rfl,m,rfl,by lia,by lia,?_⟩
 refine dR (n:=m.toNat) (R:=fun i v=>v=.int (0+i)) (by lia) ju eS fY
  (fun p n ys H'=>Kp tp H6 H'/\Tp H' tp/\H' p=some (.lst ys)/\p≠tp/\ys.length=n/\ ∃ ps:List Str,ys=ps.map V.str/\ ∀ x∈ps,x∈ns) ?_ ?_ ?_ ?_
 ·intro p hp
  exact ⟨Kp.refl.new hp,tt6.new hp,ab,ck tt6 hp,rfl,[],rfl,fun q h=>by cases h⟩
 ·rintro p n ys H' ⟨_,_,gp,_,hl,_⟩
  exact ⟨gp,hl⟩
 ·rintro p n ys H' v k hp hn rfl ⟨k7,tt7,gp,hpn,hl,ps,rfl,hps⟩ hk
  refine ⟨_,rfl,_,rfl,_,rfl,tp,many,rfl,tt7,by lia,by lia,fun d t hd0 hd1=>?_⟩
  obtain ⟨x,ex,ex2⟩:=cU (xs:=ns.map V.str) hd0 (by rw [List.length_map,nLen];lia)
  obtain ⟨x',hx',rfl⟩:=List.mem_map.mp (List.mem_of_getElem? ex2)
  have k8:Kp tp H6 (upd H' tp (.lst [.int t])):=k7.trans Kp.tape
  refine ⟨nl,_,d,.str x',rfl,rfl,SqL.of (k8 _ _ hnl hnne),ex,?_⟩
  have gp7:(upd H' tp (.lst [.int t])) p=some (.lst (ps.map V.str)):=by rw [ai hpn];exact gp
  refine hk _ _ gp7 ⟨?_,⟨t,?_⟩,ab,hpn,by rw [List.length_append,hl];rfl,ps++[x'],by rw [List.map_append];rfl,?_⟩
  ·intro b' o' hb hbn
   rw [ai (ah hb hp)]
   exact k8 _ _ hb hbn
  ·rw [ai (Ne.symm hpn),ab]
  ·intro y hy
   rcases List.mem_append.mp hy with h | h
   ·exact hps y h
   ·rw [List.mem_singleton.mp h];exact hx'
 ·rintro p ys H7 hp ⟨k7,tt7,gp,hpn,hl,ps,rfl,hps⟩
  have lps:ps.length<=3:=by rw [List.length_map]at hl;lia
  refine ⟨p,_,rfl,.inl ⟨SqL.of gp,fun pt hpt=>?_⟩⟩
  have s8:=ae hpt (.tup (ps.map V.str))
  have g8:(upd H7 pt (.tup (ps.map V.str))) pt=some (.tup (ps.map V.str)):=ab
  have tt8:=tt7.same s8
  generalize upd H7 pt (.tup (ps.map V.str))=H8 at s8 g8 tt8 ⊢
  refine ⟨(by show 3<=sizeLine;decide),fun p9 hp9=>?_⟩
  have s9:=ae hp9 (.tup [.str nm,.str on,.ref pt])
  have g9:(upd H8 p9 (.tup [.str nm,.str on,.ref pt])) p9=some (.tup [.str nm,.str on,.ref pt]):=ab
  have tt9:=tt8.same s9
  generalize upd H8 p9 (.tup [.str nm,.str on,.ref pt])=H9 at s9 g9 tt9 ⊢
  have k69:Kp tp H6 H9:=(k7.same s8).same s9
  have gfl9:=k69 _ _ gfl hflt
  refine ⟨fl,zs,.ref p9,rfl,rfl,gfl9,ao (by lia),?_⟩
  have tk:TK H9 (upd H9 fl (.lst (zs++[.ref p9]))):=TK.lst gfl9
  have tk6:TK H6 (upd H9 fl (.lst (zs++[.ref p9]))):=(k69.tk tt6).trans tk
  refine hD _ _ ⟨_,_,_,zs++[.ref p9],fs++[(nm,on,ps)],rfl,?_,?_,?_,?_,ab,?_,?_,?_⟩
  ·intro c oo h hn
   rw [ai (hfl0 h hn)]
   exact k69 _ _ (k6 _ _ h hn) hn
  ·obtain ⟨t9,e9⟩:=tt9
   exact ⟨t9,by rw [ai (Ne.symm hflt)];exact e9⟩
  ·rw [ai nnl];exact k69 _ _ hnl hnne
  ·rw [ai nwl];exact k69 _ _ hwl hwne
  ·exact Paired.snoc (Paired.mapP hP fun _ _ h=>h.mono tk6) ⟨p9,pt,rfl,tk _ _ g9,tk _ _ (s9 _ _ g8)⟩
  ·rw [List.length_append,hzl];rfl
  ·have lfs:fs.length=zs.length:=Paired.length hP
   refine ⟨fun f hf=>?_,?_,fun f hf=>?_⟩
   ·rcases List.mem_append.mp hf with h | h
    ·exact hfo.1 f h
    ·rw [List.mem_singleton.mp h]
     exact ⟨hon,hps,lps⟩
   ·rw [List.map_append,hfo.2.1,List.take_add_one,enm]
    rfl
   ·cases hfs:fs with
    | nil=>
     rw [hfs]at hf lfs
     cases hf
     have hi0:i=0:=by rw [<- hzl,<- lfs];rfl
     have hm:=hm0 hi0
     rw [List.length_map,hm]at hl
     exact List.eq_nil_of_length_eq_zero hl
    | cons f0 r0=>
     rw [hfs]at hf
     exact hfo.2.2 f (by rw [hfs];exact hf)
theorem v4 {cdv:Value} {A:Around} {outer:List Env} {s:Shared} {H H0:Hp} {E:XK} (G:Gb mg)
  (GD:FnOk P w K mg base CX0 1 f2 fd2 ["tape","many"] aT) (bD:Binds K fd2 ["tape","many"] []) (kD:PySem.W.keepIn K (.ref f2)=true) (mD:mg "_law_digit"=some (.ref f2))
  (hr1:Room 1 (bZ CX0 P w K mg base NBd "_law_build" (ag cJ) f cdv A outer s H0 E).nox.A):
  ∃ t,PSs (bZ CX0 P w K mg base NBd "_law_build" (ag cJ) f cdv A outer s H0 E).nox (bdFor.drop 2) t/\
   ∀ (D:cL) (tp nl wl fl:Addr) (many most:Int) (ns ws:List Str) (i:Nat) (on:Str) (o8:Option V) (zs:List V) (fs:List F3) (H6:Hp),1<=many->many<=3->1<=most->most<=3->ns.length=many.toNat->ws.length=10->i<6->on∈ns->nl≠tp->wl≠tp->fl≠tp->nl≠fl->wl≠fl->(∀ {c:Addr} {oo:HO},H c=some oo->c≠tp->c≠fl)->
    Kp tp H H6->Tp H6 tp->H6 nl=some (.lst (ns.map V.str))->H6 wl=some (.lst (ws.map V.str))->H6 fl=some (.lst zs)->Paired (F3At H6) fs zs->zs.length=i->vd ns ws i fs->
    (∀ σ' H',BDI H tp nl wl fl many most ns ws (i+1) σ' H'->D.nx σ' H')->
    t D [some (.ref tp),some (.int many),some (.int most),some (.ref nl),some (.ref wl),some (.ref fl),some (.int (0+ (i:Int))),some (.str on),o8] H6:=by
 obtain ⟨t,ht,hnext⟩:=vZ (f:=f) (cdv:=cdv) (A:=A) (outer:=outer) (s:=s) (H:=H) (H0:=H0) (E:=E) G GD bD kD mD hr1
 refine ⟨_,ad (al (i:=8) scLBuild.nd rfl (Or.inl rfl) (ak GD hr1 rfl mD kD bD .nil am (aa (pv 0) (aa (ay aZ (pv 2) af) ac))))
   (ad (aV (au cp (pv 6) af (aH _)) (aj (al (i:=8) scLBuild.nd rfl (Or.inl rfl) af)) aK) ht),?_⟩
 intro D tp nl wl fl many most ns ws i on o8 zs fs H6 hm1 hm3 ho1 ho3 nLen wLen hi6 hon hnne hwne hflt nnl nwl hfl0 k6 tt6 hnl hwl gfl hP hzl hfo hD
 refine ⟨_,rfl,_,rfl,_,_,rfl,rfl,tp,_,rfl,tt6,by lia,by lia,fun d t hd0 hd1=>?_⟩
 have k7:Kp tp H6 (upd H6 tp (.lst [.int t])):=Kp.tape
 have tt7:Tp (upd H6 tp (.lst [.int t])) tp:=⟨t,ab⟩
 generalize upd H6 tp (.lst [.int t])=H7 at k7 tt7 ⊢
 have go:=fun (m:Int) (h0:0<=m) (h3:m<=3) (hz:i=0->m=0)=>hnext D tp nl wl fl many most ns ws i on m zs fs H7 hm1 hm3 nLen wLen hi6 hon h0 h3 hz hnne hwne hflt nnl nwl hfl0 (k6.trans k7) tt7 (k7 _ _ hnl hnne) (k7 _ _ hwl hwne) (k7 _ _ gfl hflt) (Paired.mapP hP fun _ _ h=>h.mono (k7.tk tt6)) hzl hfo hD
 refine ⟨_,rfl,rfl,_,rfl,?_⟩
 refine dw (fun _=>go 0 (by decide) (by decide) (fun _=>rfl)) (fun c=>go d hd0 (by lia) (fun e=>absurd (decide_eq_true (by rw [e];rfl)) c))
theorem oN (F:Fun K "_law_build" "_law_build" cJ f fd) (G:Gb mg)
  (GD:FnOk P w K mg base CX0 1 f2 fd2 ["tape","many"] aT) (bD:Binds K fd2 ["tape","many"] []) (kD:PySem.W.keepIn K (.ref f2)=true) (mD:mg "_law_digit"=some (.ref f2))
  (GN:FnOk P w K mg base CX0 2 f3 fd3 ["tape","many"] gu) (bN:Binds K fd3 ["tape","many"] []) (kN:PySem.W.keepIn K (.ref f3)=true) (mN:mg "_law_names"=some (.ref f3)):
  FnOk P w K mg base CX0 3 f fd ["tape","many","most"] jV:=by
 refine F.ok scLBuild (fun vs H Q E h=>?_) (fun cdv A outer s H vs Q E hr h=>?_)
 ·obtain ⟨tp,many,most,rfl,_⟩:=h
  rfl
 obtain ⟨tp,many,most,rfl,hT,hm1,hm3,ho1,ho3,q⟩:=h
 have hr1:=hr.mono (show 1<=2 by decide)
 obtain ⟨t,ht,hnext⟩:=v4 (f:=f) (cdv:=cdv) (A:=A) (outer:=outer) (s:=s) (H:=H) (H0:=H) (E:=E) G GD bD kD mD hr1
 refine ⟨_,ad (al (i:=3) scLBuild.nd rfl (Or.inr rfl) (ak GN hr rfl mN kN bN .nil am (aa (pv 0) (aa (pv 1) ac))))
  (ad (al (i:=4) scLBuild.nd rfl (Or.inl rfl) (ak GN hr rfl mN kN bN .nil am (aa (pv 0) (aa af ac))))
  (ad (al (i:=5) scLBuild.nd rfl (Or.inl rfl) (aY ac))
  (ad (bA PassesOwn.never rfl (bj rfl G.range (aa (ay aZ (ay aZ (pv 1) af) (ak GD hr1 rfl mD kD bD .nil am (aa (pv 0) (aa af ac)))) ac)) (av (i:=6) scLBuild.nd rfl (Or.inl rfl))
   (ad (al (i:=7) scLBuild.nd rfl (Or.inl rfl) (aq aO (pv 3) (ay cH (pv 6) (pv 1)) (fun _ _=>rfl)))
   (ad (aV (au ub (pv 6) (pv 1) (aH _)) (aj (al (i:=7) scLBuild.nd rfl (Or.inl rfl) (aq aO (pv 3) (ak GD hr1 rfl mD kD bD .nil am (aa (pv 0) (aa (pv 1) ac))) (fun _ _=>rfl)))) aK)
   ht)))
  (aj (ax (aB (aa (pv 3) (aa (pv 5) ac)))))))),?_⟩
 refine ⟨_,rfl,_,rfl,tp,many,rfl,hT,by lia,by lia,fun nl ns H1 hnl hnlen hN hnne k1 tt1=>?_⟩
 refine ⟨_,rfl,tp,10,rfl,tt1,by decide,by decide,fun wl ws H2 hwl hwlen hW hwne k2' tt2=>?_⟩
 have k2:=k1.trans k2'
 have hnl2:=k2' _ _ hnl hnne
 obtain ⟨nLen,nNd,nWd⟩:=hN.ok (by lia)
 obtain ⟨wLen,wNd,wWd⟩:=hW.ok (by decide)
 have nLen:ns.length=many.toNat:=nLen
 have wLen:ws.length=10:=wLen
 refine ⟨(by show 0<=sizeLine;decide),fun fl hfl=>?_⟩
 have hflt:=ck tt2 hfl
 have k3:Kp tp H (upd H2 fl (.lst [])):=k2.new hfl
 have tt3:=tt2.new (o:=.lst []) hfl
 have s3:=ae hfl (.lst [])
 have nnl:nl≠fl:=ah hnl2 hfl
 have nwl:wl≠fl:=ah hwl hfl
 have hfl0: ∀ {c:Addr} {oo:HO},H c=some oo->c≠tp->c≠fl:=fun h hn=>ah (k2 _ _ h hn) hfl
 have hnl3:=s3 _ _ hnl2
 have hwl3:=s3 _ _ hwl
 have g3:(upd H2 fl (.lst [])) fl=some (.lst []):=ab
 generalize upd H2 fl (.lst [])=H3 at k3 tt3 hnl3 hwl3 g3 ⊢
 refine ⟨_,rfl,_,_,rfl,rfl,_,rfl,tp,3,rfl,tt3,by decide,by decide,fun d1 t1 hd0 hd1=>?_⟩
 have k4:Kp tp H (upd H3 tp (.lst [.int t1])):=k3.trans Kp.tape
 have tt4:Tp (upd H3 tp (.lst [.int t1])) tp:=⟨t1,ab⟩
 have hnl4:(upd H3 tp (.lst [.int t1])) nl=some (.lst (ns.map V.str)):=by rw [ai hnne];exact hnl3
 have hwl4:(upd H3 tp (.lst [.int t1])) wl=some (.lst (ws.map V.str)):=by rw [ai hwne];exact hwl3
 have g4:(upd H3 tp (.lst [.int t1])) fl=some (.lst []):=by rw [ai hflt];exact g3
 generalize upd H3 tp (.lst [.int t1])=H4 at k4 tt4 hnl4 hwl4 g4 ⊢
 refine ⟨_,_,rfl,rfl,_,rfl,by lia,by lia,?_⟩
 refine cj (fun i σ H'=>BDI H tp nl wl fl many most ns ws i σ H')
  ⟨none,none,none,[],[],rfl,k4,tt4,hnl4,hwl4,g4,.nil,rfl,⟨fun f h=>(by cases h),rfl,fun f h=>(by cases h)⟩⟩ ?_ ?_
 ·rintro i σ H5 hi ⟨o6,o7,o8,zs,fs,rfl,k5,tt5,hnl5,hwl5,g5,hP,hzl,hfo⟩
  have hi6:i<6:=by lia
  have hm0:0<=(0+ (i:Int)) %many:=Int.emod_nonneg _ (by lia)
  have hmm:(0+ (i:Int)) %many<many:=Int.emod_lt_of_pos _ (by lia)
  obtain ⟨ov,eov,eov'⟩:=cU (xs:=ns.map V.str) hm0 (by rw [List.length_map,nLen];lia)
  obtain ⟨on,hon,rfl⟩: ∃ on,on∈ns/\V.str on=ov:=by
   obtain ⟨on,h1,h2⟩:=List.mem_map.mp (List.mem_of_getElem? eov')
   exact ⟨on,h1,h2⟩
  refine ⟨_,rfl,_,rfl,_,rfl,_,_,rfl,rfl,(by show (0:Int) <many;lia),nl,_,_,.str on,rfl,rfl,SqL.of hnl5,eov,?_⟩
  refine ⟨_,rfl,_,rfl,_,_,rfl,rfl,_,rfl,?_⟩
  refine dw (fun c=>?_) (fun c=>?_)
  ·refine ⟨_,rfl,_,rfl,_,rfl,tp,many,rfl,tt5,by lia,by lia,fun d2 t2 h20 h21=>?_⟩
   have k6:Kp tp H5 (upd H5 tp (.lst [.int t2])):=Kp.tape
   have tt6:Tp (upd H5 tp (.lst [.int t2])) tp:=⟨t2,ab⟩
   generalize upd H5 tp (.lst [.int t2])=H6 at k6 tt6 ⊢
   obtain ⟨ov2,eov2,eov2'⟩:=cU (xs:=ns.map V.str) h20 (by rw [List.length_map,nLen];lia)
   obtain ⟨on2,hon2,rfl⟩:=List.mem_map.mp (List.mem_of_getElem? eov2')
   refine ⟨nl,_,_,.str on2,rfl,rfl,SqL.of (k6 _ _ hnl5 hnne),eov2,?_⟩
   exact hnext _ tp nl wl fl many most ns ws i on2 _ zs fs H6 hm1 hm3 ho1 ho3 nLen wLen hi6 hon2 hnne hwne hflt nnl nwl hfl0 (k5.trans k6) tt6 (k6 _ _ hnl5 hnne) (k6 _ _ hwl5 hwne) (k6 _ _ g5 hflt) (Paired.mapP hP fun _ _ h=>h.mono (k6.tk tt5)) hzl hfo fun σ' H' h=>h
  ·exact hnext _ tp nl wl fl many most ns ws i on _ zs fs H5 hm1 hm3 ho1 ho3 nLen wLen hi6 hon hnne hwne hflt nnl nwl hfl0 k5 tt5 hnl5 hwl5 g5 hP hzl hfo fun σ' H' h=>h
 ·rintro σ H5 ⟨o6,o7,o8,zs,fs,rfl,k5,tt5,hnl5,hwl5,g5,hP,hzl,hfo⟩
  refine ⟨_,rfl,_,rfl,(by show 2<=sizeLine;decide),fun p9 hp9=>?_⟩
  have s9:=ae hp9 (.tup [.ref nl,.ref fl])
  have lfs:fs.length=zs.length:=Paired.length hP
  refine q (.ref p9) ⟨ns,fs⟩ _ ⟨p9,nl,fl,zs,rfl,ab,s9 _ _ hnl5,s9 _ _ g5,Paired.mapP hP fun _ _ h=>h.mono (aF s9)⟩ ⟨?_,?_,?_,?_,hfo.1,nNd,nWd,by show (fs.map _).Nodup;rw [hfo.2.1];exact wNd.sublist (List.take_sublist _ _),fun f hf=>wWd _ (List.mem_of_mem_take (by rw [<- hfo.2.1];exact List.mem_map.mpr ⟨f,hf,rfl⟩)),hfo.2.2⟩ (k5.same s9) (tt5.same s9)
  ·show 1<=ns.length
   lia
  ·show ns.length<=3
   lia
  ·show 1<=fs.length
   lia
  ·show fs.length<=6
   lia
theorem fI {α β:Type} {F:α->β->Prop}: ∀ {l:List α} {r:List β} {x:β},Paired F l (r++[x])-> ∃ l' g,l=l'++[g]/\Paired F l' r/\F g x
 | _,[],_,.cons h .nil=>⟨[],_,rfl,.nil,h⟩
 | _,_::r,x,.cons h t=>by
  obtain ⟨l',g,e,p,hg⟩:=fI (r:=r) t
  exact ⟨_::l',g,by rw [e];rfl,.cons h p,hg⟩
theorem br: ∀ (a b:List Fm),fsz (a++b)=fsz a+fsz b
 | [],b=>by show fsz b=0+fsz b;lia
 | x::r,b=>by
  show x.size+fsz (r++b)=x.size+fsz r+fsz b
  rw [br r b]
  lia
theorem jy: ∀ (a:List Fm),a.length<=fsz a
 | []=>Nat.le_refl _
 | x::r=>by
  have:=jy r
  have:=x.size_pos
  show r.length+1<=x.size+fsz r
  lia
theorem Paired.app {α β:Type} {F:α->β->Prop}: ∀ {a c:List α} {b d:List β},Paired F a b->Paired F c d->Paired F (a++c) (b++d)
 | _,_,_,_,.nil,h=>h
 | _,_,_,_,.cons x t,h=>.cons x (Paired.app t h)
theorem iU {n:Int}: ∀ {ns:List Int},inV (.int n) (ns.map V.int)=decide (n∈ns)
 | []=>(decide_eq_false (by simp)).symm
 | b::r=>by
  have e:inV (.int n) ((b::r).map V.int)=(eqV (.int b) (.int n)||inV (.int n) (r.map V.int)):=rfl
  rw [e,iU (ns:=r)]
  by_cases h:b=n
  ·rw [decide_eq_true (show n∈b::r by rw [h];exact List.mem_cons_self)]
   simp [eqV,h]
  ·have:(n∈b::r)↔n∈r:=by rw [List.mem_cons];exact ⟨fun z=>z.elim (fun e=>absurd e.symm h) id,.inr⟩
   rw [show decide (n∈b::r)=decide (n∈r)from decide_eq_decide.mpr this]
   simp [eqV,h]
theorem lZ (ns:List Int):(ns.map V.int).all dW=true:=by
 induction ns with
 | nil=>rfl
 | cons b r ih=>rw [List.map_cons,List.all_cons,ih];rfl
theorem qe (k x:Str):decide (V.str k=V.str x)=decide (k=x):=by
 by_cases h:k=x
 ·subst h;rw [decide_eq_true rfl,decide_eq_true rfl]
 ·rw [decide_eq_false h,decide_eq_false fun e=>h (V.str.inj e)]
noncomputable def Wk (H:Hp) (n:Nat) (g:Fm) (v:V):Prop:=Rep H g v/\g.wf/\g.inP n
noncomputable abbrev NDu:List Str:=["book","pricing","name","downs","ups","form","waiting","seen","one","k"]
noncomputable def DUI (H:Hp) (bv:V) (d:Addr) (o2 o3 o4:Option V) (fv:V) (pw sn:Addr) (nd:Fm->Bool) (n:Nat) (g:Fm) (m:Nat) (σ:St) (H':Hp):Prop:= ∃ (ws:List V) (fs:List Fm) (ks:List Int) (o8 o9:Option V),
 σ=[some bv,some (.ref d),o2,o3,o4,some fv,some (.ref pw),some (.ref sn),o8,o9]/\H' pw=some (.lst ws)/\H' sn=some (.lst (ks.map V.int))/\Same H H'/\Paired (Wk H n) fs ws/\fs.all (Fm.allB nd)=g.allB nd/\(∀ k,k∈ks\/(∃ f∈fs,k∈f.prt)↔k∈g.prt)/\fsz fs=m/\ks.length+m<=40
noncomputable def vQ:List Stmt:=fZ ((bx lx).getD 2 (.Pass ⟨0,0,0,0⟩))
theorem scDue:aA NDu ["book","pricing"] (ag lx):=fsc
theorem rG {cdv:Value} {A:Around} {outer:List Env} {s:Shared} {H0:Hp} {E:XK} (G:Gb mg)
  (GR:FnOk P w K mg base CX0 1 f2 fd2 ["form","word"] eJ) (bR:Binds K fd2 ["form","word"] []) (kR:PySem.W.keepIn K (.ref f2)=true) (mR:mg "_law_rule_of"=some (.ref f2))
  (hr:Room 1 (bZ CX0 P w K mg base NDu "_law_due" (ag lx) f cdv A outer s H0 E).nox.A):
  ∃ t,PSs (bZ CX0 P w K mg base NDu "_law_due" (ag lx) f cdv A outer s H0 E).nox vQ t/\
   ∀ (D:cL) (H:Hp) (bv:V) (d:Addr) (o2 o3 o4 o6 o7 o8 o9:Option V) (fv:V) (fr:FrP) (pr:List (Str×Str)) (x:Str) (gm:Fm),
    RepFP H fr fv->fr.ok->H d=some (.dK (prK pr))->aW pr fr.own=some x->ruL fr.rules x=some gm->gm.wf->gm.size<=40->gm.inP fr.parts.length->(∀ p∈fr.parts,∃ y,aW pr p=some y)->fr.parts.length<=3->
    (∀ H',Same H H'->jz pr fr.parts gm=false->D.rt (.bl false) H')->
    (∀ o6 o7 o8 o9 H',Same H H'->jz pr fr.parts gm=true->D.nx [some bv,some (.ref d),o2,o3,o4,some fv,o6,o7,o8,o9] H')->
    t D [some bv,some (.ref d),o2,o3,o4,some fv,o6,o7,o8,o9] H:=by
 have hu:=cT hr
 refine ⟨_,ad (al (i:=6) scDue.nd rfl (Or.inl rfl) (aY (aa (ak GR hr rfl mR kR bR .nil am (aa (pv 5) (aa (bq hu (pv 1) (aq aw (pv 5) af (fun _ _=>rfl)) (fun _ _=>rfl)) ac))) ac)))
  (ad (al (i:=7) scDue.nd rfl (Or.inl rfl) (aY ac))
  (ad (gO PassesOwn.never (au (iL hr.units0) (pv 6) (aY ac) (aH _))
   (ad (al (i:=8) scDue.nd rfl (Or.inl rfl) (qN PySem.F.plainAttrs_list PySem.F.slot_list_pop PySem.F.type_list_pop rf (pv 6)))
   (aj (aV (au da (aq aw (pv 8) af (fun _ _=>rfl)) (aB (pac aE (pac aE ac))) (by with_unfolding_all rfl))
    (aj (bG (c9 PySem.F.plainAttrs_list PySem.F.slot_list_extend PySem.F.type_list_extend nH (pv 6) (aa (bn jc (pv 8) (bH af) bJ) ac))))
    (aj (aV (PW.pt (lG (au cp (aq aw (pv 8) af (fun _ _=>rfl)) aE (aH _)) (jm (au cp (aq aw (pv 8) af (fun _ _=>rfl)) (bq hu (pv 1) (aq aw (aq aw (pv 5) af (fun _ _=>rfl)) (aq aw (pv 8) af (fun _ _=>rfl)) (fun _ _=>rfl)) (fun _ _=>rfl)) (aH _)))))
     (aj (bG (c9 PySem.F.plainAttrs_list PySem.F.slot_list_append PySem.F.type_list_append bo (pv 7) (aa (aq aw (pv 8) af (fun _ _=>rfl)) ac))))
     (aj (aV (PW.pt (iI (au gT (aq aw (pv 8) af (fun _ _=>rfl)) aE (aH _)) (fq (au iM (aq aw (pv 8) af (fun _ _=>rfl)) af (aH _)))))
      (aj (ax dr)) aK))))))))
  (aj (bA PassesOwn.never rfl (bj rfl G.range (aa (aJ aC rfl G.len PySem.boot_len (aa (aq aw (pv 5) af (fun _ _=>rfl)) ac)) ac)) (av (i:=9) scDue.nd rfl (Or.inl rfl))
   (aj (aV (au dq (pv 9) (pv 7) (by with_unfolding_all rfl)) (aj (ax dr)) aK)))))),?_⟩
 intro D H bv d o2 o3 o4 o6 o7 o8 o9 fv fr pr x gm hF hok hd hown hrule hwf h40 hin hps h3 qF qT
 obtain ⟨a,pa,ra,rv,rfl,h1,h2,h3',h4⟩:=id hF
 have lP:(fr.parts.map V.str).length=fr.parts.length:=List.length_map ..
 have gget: ∀ {H':Hp} {z y:Str},H' d=some (.dK (prK pr))->aW pr z=some y->DGet H' d (.str z) (some (.str y)):=fun {H' z y} hd e=>by
  have:=DGet.k (k:=.inr z) hd
  rw [cm,e]at this
  exact this
 refine ⟨_,rfl,_,rfl,_,rfl,a,_,1,.str fr.own,rfl,rfl,SqT.of h1,ar (j:=1) rfl,d,.str x,rfl,gget hd hown,.ref a,fr,x,gm,rfl,hF,hok,hrule,fun u hu'=>?_⟩
 refine ⟨(by show 1<=sizeLine;decide),fun pw hpw=>?_⟩
 refine ⟨(by show 0<=sizeLine;decide),fun sn hsn=>?_⟩
 dsimp only [uj,lg,c3,tC]
 have nws:pw≠sn:=fun e=>by
  subst e
  rw [ab]at hsn
  cases hsn
 have hsn0:H sn=none:=by rw [ai (Ne.symm nws)]at hsn;exact hsn
 refine ⟨DUI H bv d o2 o3 o4 (.ref a) pw sn (bM pr fr.parts) fr.parts.length gm,⟨_,[u],[gm],[],o8,o9,rfl,by rw [ai nws,ab],ab,(ae hpw _).trans (ae hsn _),.cons ⟨hu',hwf,hin⟩ .nil,Bool.and_true _,fun k=>⟨fun h=>h.elim (fun z=>by cases z) fun ⟨f,hf,hk⟩=>by rw [List.mem_singleton.mp hf]at hk;exact hk,fun h=>.inr ⟨gm,List.mem_cons_self,h⟩⟩,rfl,(by show 0+ (gm.size+0)<=40;lia)⟩,?_⟩
 rintro m σ H' ⟨ws,fs,ks,o8,o9,rfl,gw,gs,sm,hP,hall,hks,rfl,hm⟩
 refine ⟨_,rfl,(by show 0<=sizeLine;decide),fun p3 h3=>?_⟩
 have s3:=ae h3 (.lst [])
 have g3:(upd H' p3 (.lst [])) p3=some (.lst []):=ab
 have gw3:=s3 _ _ gw
 have gs3:=s3 _ _ gs
 have sm3:=sm.trans s3
 generalize upd H' p3 (.lst [])=H3 at s3 g3 gw3 gs3 sm3 ⊢
 refine ⟨pw,p3,ws,rfl,rfl,SqL.of gw3,SqL.of g3,_,rfl,?_⟩
 rcases List.eq_nil_or_concat ws with hz | ⟨ws',y,hz⟩
 ·subst hz
  refine aU ?_
  cases hP
  have hal:gm.allB (bM pr fr.parts)=true:=hall.symm
  have hk': ∀ k,k∈ks↔k∈gm.prt:=fun k=>⟨fun h=>(hks k).mp (.inl h),fun h=>((hks k).mpr h).elim id fun ⟨f,hf,_⟩=>by cases hf⟩
  have edu:jz pr fr.parts gm=(List.range fr.parts.length).all fun k=>decide ((k:Int)∈ks):=by
   unfold jz
   rw [hal,Bool.true_and]
   congr 1
   funext k
   exact decide_eq_decide.mpr (hk' k).symm
  refine ⟨_,rfl,a,_,2,.ref pa,rfl,rfl,SqT.of (sm3 _ _ h1),ar (j:=2) rfl,pa,_,rfl,.inr (SqT.of (sm3 _ _ h2)),((fr.parts.map V.str).length:Int),rfl,by lia,by lia,?_⟩
  refine cj (fun i σ H'=>i<=fr.parts.length/\H'=H3/\(∃ o9,σ=[some bv,some (.ref d),o2,o3,o4,some (.ref a),some (.ref pw),some (.ref sn),o8,o9])/\ ∀ k,k<i->(k:Int)∈ks) ⟨Nat.zero_le _,rfl,⟨_,rfl⟩,fun k hk=>by lia⟩ ?_ ?_
  ·rintro i σ H4 hi ⟨_,rfl,⟨o9,rfl⟩,hbe⟩
   have hi:i<fr.parts.length:=by lia
   refine ⟨_,rfl,_,rfl,sn,_,rfl,.inl (SqL.of gs3),rfl,lZ _,_,rfl,?_⟩
   refine (show if (!inV (.int (0+ (i:Int))) (ks.map V.int))=true then _ else _ from ?_)
   rw [iU,Int.zero_add]
   by_cases hk:(i:Int)∈ks
   ·rw [decide_eq_true hk]
    refine aU ⟨hi,rfl,⟨_,rfl⟩,fun k hk2=>?_⟩
    by_cases e:k=i
    ·rw [e];exact hk
    ·exact hbe k (by lia)
   ·rw [decide_eq_false hk]
    refine bg (qF H4 sm3 ?_)
    rw [edu]
    exact List.all_eq_false.mpr ⟨i,List.mem_range.mpr hi,by rw [decide_eq_false hk];exact Bool.false_ne_true⟩
  ·rintro σ H4 ⟨_,rfl,⟨o9,rfl⟩,hbe⟩
   refine qT _ _ _ _ H4 sm3 ?_
   rw [edu]
   exact List.all_eq_true.mpr fun k hk=>decide_eq_true (hbe k (by have:=List.mem_range.mp hk;lia))
 ·rw [List.concat_eq_append]at hz
  subst hz
  have ne:(!(ws'++[y]).isEmpty)=true:=by cases ws' <;> rfl
  refine dw (fun _=>?_) (fun c=>absurd ne c)
  refine ⟨fun σ' H''=> ∃ m',m'<fsz fs/\DUI H bv d o2 o3 o4 (.ref a) pw sn (bM pr fr.parts) fr.parts.length gm m' σ' H'',fun σ' H'' h=>h,?_⟩
  obtain ⟨fs',e,rfl,hP',hRe,hwe,hie⟩:=fI hP
  rw [br]at hm ⊢
  rw [List.all_append]at hall
  have hsz:fsz [e]=e.size:=by show e.size+0=e.size;lia
  rw [hsz]at hm ⊢
  have hall:(fs'.all (Fm.allB (bM pr fr.parts))&&e.allB (bM pr fr.parts))=gm.allB (bM pr fr.parts):=by rw [<- hall];show _=(_&&(e.allB (bM pr fr.parts)&&true));rw [Bool.and_true]
  refine ⟨_,rfl,.inl ⟨rfl,_,SqL.of gw3⟩,pw,_,y,rfl,rfl,gw3,by simp,?_⟩
  rw [List.dropLast_concat]
  have gw4:(upd H3 pw (.lst ws')) pw=some (.lst ws'):=ab
  have gs4:(upd H3 pw (.lst ws')) sn=some (.lst (ks.map V.int)):=by rw [ai (Ne.symm nws)];exact gs3
  have sm4:Same H (upd H3 pw (.lst ws')):=fun c oo h=>by rw [ai (ah h hpw)];exact sm3 c oo h
  generalize upd H3 pw (.lst ws')=H4 at gw4 gs4 sm4 ⊢
  have lws:ws'.length<=40:=by
   have h1:=jy fs'
   have h2:fs'.length=ws'.length:=Paired.length hP'
   have:=e.size_pos
   lia
  have bad: ∀ H5,Same H H5->e.allB (bM pr fr.parts)=false->D.rt (.bl false) H5:=fun H5 s5 hb=>by
   refine qF H5 s5 ?_
   unfold jz
   rw [<- hall,hb,Bool.and_false]
   rfl
  obtain ⟨a0,r0,rfl,ha0⟩:=eM hRe
  refine ⟨_,rfl,a0,_,0,.str (bi e),rfl,rfl,SqT.of (sm4 _ _ ha0),bY,(by show 2<=sizeLine;decide),fun p6 hp6=>?_⟩
  have s6:=ae hp6 (.tup [.str "plus",.str "most"])
  have g6:(upd H4 p6 (.tup [.str "plus",.str "most"])) p6=some (.tup ((["plus","most"]:List Str).map V.str)):=ab
  generalize upd H4 p6 (.tup [.str "plus",.str "most"])=H6 at s6 g6 ⊢
  have sm6:=sm4.trans s6
  have gw6:=s6 _ _ gw4
  have gs6:=s6 _ _ gs4
  refine ⟨p6,_,rfl,.inr (SqT.of g6),rfl,cb,_,rfl,?_⟩
  refine (show if inV (.str (bi e)) ((["plus","most"]:List Str).map V.str)=true then _ else _ from ?_)
  rw [cD]
  have hd6:=sm6 _ _ hd
  have kk: ∀ {ks':List Int} {fs'':List Fm},(∀ k,k∈ks'\/(∃ f∈fs'',k∈f.prt)↔k∈ks\/(∃ f∈fs'++[e],k∈f.prt))-> ∀ k,k∈ks'\/(∃ f∈fs'',k∈f.prt)↔k∈gm.prt:=fun h k=>(h k).trans (hks k)
  have nin:e.prt=[]-> ∀ k,(k∈ks\/ ∃ f∈fs',k∈f.prt)↔k∈ks\/(∃ f∈fs'++[e],k∈f.prt):=fun h0 k=>by
   refine or_congr_right ⟨fun ⟨f,hf,hk⟩=>⟨f,List.mem_append_left _ hf,hk⟩,fun ⟨f,hf,hk⟩=>?_⟩
   rcases List.mem_append.mp hf with z | z
   ·exact ⟨f,z,hk⟩
   ·rw [List.mem_singleton.mp z,h0]at hk;cases hk
  cases e with
  | num n=>
   obtain ⟨a1,ea,ha⟩:=id hRe
   cases ea
   rw [show decide (bi (.num n)∈(["plus","most"]:List Str))=false from (by decide +kernel:decide (("num":Str)∈(["plus","most"]:List Str))=false)]
   refine aU ⟨_,rfl,a0,_,0,.str "num",rfl,rfl,SqT.of (sm6 _ _ ha),bY,rfl,false,(by rw [decide_eq_false (by decide +kernel)]),aU (aU ?_)⟩
   refine ⟨_,rfl,a0,_,0,.str "num",rfl,rfl,SqT.of (sm6 _ _ ha),bY,rfl,false,(by rw [decide_eq_true rfl];rfl),aU ?_⟩
   refine ⟨_,rfl,a0,_,1,.int n,rfl,rfl,SqT.of (sm6 _ _ ha),ar (j:=1) rfl,n,0,rfl,rfl,_,rfl,?_⟩
   by_cases hn:n<0
   ·rw [show (decide (n<0))=true from decide_eq_true hn]
    refine bg (bad H6 sm6 ?_)
    show decide (0<=n)=false
    exact decide_eq_false (by lia)
   ·rw [show (decide (n<0))=false from decide_eq_false hn]
    refine aU ⟨fsz fs',(by show fsz fs'<fsz fs'+1;lia),ws',fs',ks,_,_,rfl,gw6,gs6,sm6,hP',?_,kk (nin rfl),rfl,by lia⟩
    rw [<- hall,show (Fm.num n).allB (bM pr fr.parts)=true from (decide_eq_true (by lia):decide (0<=n)=true),Bool.and_true]
  | own z=>
   obtain ⟨a1,ea,ha⟩:=id hRe
   cases ea
   rw [show decide (bi (.own z)∈(["plus","most"]:List Str))=false from (by decide +kernel:decide (("own":Str)∈(["plus","most"]:List Str))=false)]
   refine aU ⟨_,rfl,a0,_,0,.str "own",rfl,rfl,SqT.of (sm6 _ _ ha),bY,rfl,false,(by rw [decide_eq_false (by decide +kernel)]),aU (aU ?_)⟩
   refine ⟨_,rfl,a0,_,0,.str "own",rfl,rfl,SqT.of (sm6 _ _ ha),bY,rfl,true,(by rw [decide_eq_false (by decide +kernel)];rfl),bg (bg (bad H6 sm6 rfl))⟩
  | part k z=>
   obtain ⟨a1,ea,ha⟩:=id hRe
   cases ea
   obtain ⟨k0,k1⟩:=hie k (by show k∈[k];simp)
   have ep:fr.parts[k.toNat]? =some fr.parts[k.toNat]:=List.getElem?_eq_getElem k1
   obtain ⟨yy,ey⟩:=hps _ (List.mem_of_getElem? ep)
   have en:(Fm.part k z).allB (bM pr fr.parts)=decide (yy=z):=by
    show decide (((fr.parts[k.toNat]?).bind (aW pr)).getD ""=z)=_
    rw [ep]
    show decide ((aW pr fr.parts[k.toNat]).getD ""=z)=_
    rw [ey]
    rfl
   rw [show decide (bi (.part k z)∈(["plus","most"]:List Str))=false from (by decide +kernel:decide (("part":Str)∈(["plus","most"]:List Str))=false)]
   refine aU ⟨_,rfl,a0,_,0,.str "part",rfl,rfl,SqT.of (sm6 _ _ ha),bY,rfl,true,(by rw [decide_eq_true rfl]),bg ?_⟩
   have eat:atI (fr.parts.map V.str) k=some (.str fr.parts[k.toNat]):=by
    have:atI (fr.parts.map V.str) (k.toNat:Int)=some (.str fr.parts[k.toNat]):=ar (by rw [List.getElem?_map,ep];rfl)
    rw [show ((k.toNat:Nat):Int)=k by lia]at this
    exact this
   refine ⟨_,rfl,a0,_,2,.str z,rfl,rfl,SqT.of (sm6 _ _ ha),ar (j:=2) rfl,_,rfl,_,rfl,a,_,2,.ref pa,rfl,rfl,SqT.of (sm6 _ _ h1),ar (j:=2) rfl,_,rfl,a0,_,1,.int k,rfl,rfl,SqT.of (sm6 _ _ ha),ar (j:=1) rfl,pa,_,k,_,rfl,rfl,SqT.of (sm6 _ _ h2),eat,d,.str yy,rfl,gget hd6 ey,rfl,_,rfl,?_⟩
   rw [qe]
   by_cases hz:z=yy
   ·rw [decide_eq_true hz]
    have hl:ks.length<40:=by have:1<=(Fm.part k z).size:=Fm.size_pos _;lia
    refine bg ⟨_,rfl,.inl ⟨rfl,_,SqL.of gs6⟩,_,rfl,a0,_,1,.int k,rfl,rfl,SqT.of (sm6 _ _ ha),ar (j:=1) rfl,sn,_,.int k,rfl,rfl,gs6,ao (by rw [List.length_map];lia),?_⟩
    refine ⟨fsz fs',(by show fsz fs'<fsz fs'+1;lia),ws',fs',ks++[k],_,_,rfl,by rw [ai nws];exact gw6,by rw [ab,List.map_append];rfl,fun c oo h=>by rw [ai (ah h hsn0)];exact sm6 c oo h,hP',?_,kk fun j=>?_,rfl,?_⟩
    ·rw [<- hall,en,decide_eq_true hz.symm,Bool.and_true]
    ·constructor
     ·rintro (h | ⟨f,hf,hk⟩)
      ·rcases List.mem_append.mp h with h | h
       ·exact .inl h
       ·exact .inr ⟨_,List.mem_append_right _ List.mem_cons_self,by rw [List.mem_singleton.mp h];show k∈[k];simp⟩
      ·exact .inr ⟨f,List.mem_append_left _ hf,hk⟩
     ·rintro (h | ⟨f,hf,hk⟩)
      ·exact .inl (List.mem_append_left _ h)
      ·rcases List.mem_append.mp hf with z' | z'
       ·exact .inr ⟨f,z',hk⟩
       ·rw [List.mem_singleton.mp z']at hk
        exact .inl (List.mem_append_right _ hk)
    ·rw [List.length_append]
     show ks.length+1+fsz fs'<=40
     have:(Fm.part k z).size=1:=rfl
     lia
   ·rw [decide_eq_false hz]
    refine aU ⟨_,rfl,a0,_,0,.str "part",rfl,rfl,SqT.of (sm6 _ _ ha),bY,rfl,true,(by rw [decide_eq_false (by decide +kernel)];rfl),bg (bg (bad H6 sm6 ?_))⟩
    rw [en]
    exact decide_eq_false fun q=>hz q.symm
  | whn A B C=>
   rw [show decide (bi (.whn A B C)∈(["plus","most"]:List Str))=false from (by decide +kernel:decide (("when":Str)∈(["plus","most"]:List Str))=false)]
   refine aU ⟨_,rfl,a0,_,0,.str "when",rfl,rfl,SqT.of (sm6 _ _ ha0),bY,rfl,false,(by rw [decide_eq_false (by decide +kernel)]),aU (aU ?_)⟩
   refine ⟨_,rfl,a0,_,0,.str "when",rfl,rfl,SqT.of (sm6 _ _ ha0),bY,rfl,true,(by rw [decide_eq_false (by decide +kernel)];rfl),bg (bg (bad H6 sm6 rfl))⟩
  | bin op A B=>
   obtain ⟨a1,u1,u2,ea,ha,q1,q2⟩:=id hRe
   cases ea
   obtain ⟨ho,w1,w2⟩:op∈ops/\A.wf/\B.wf:=hwe
   have hm':ks.length+ (fsz fs'+ (A.size+B.size+1))<=40:=hm
   have hnn:op≠"num":=fun z=>by rw [z]at ho;exact absurd ho (by decide +kernel)
   have hnp:op≠"part":=fun z=>by rw [z]at ho;exact absurd ho (by decide +kernel)
   have eo:decide (bi (.bin op A B)∈(["plus","most"]:List Str))=decide (op="plus"\/op="most"):=decide_eq_decide.mpr (by show op∈_↔_;simp)
   rw [eo]
   by_cases hpm:op="plus"\/op="most"
   ·rw [decide_eq_true hpm]
    refine bg ⟨_,rfl,.inl ⟨rfl,_,SqL.of gw6⟩,_,rfl,1,rfl,a0,_,rfl,SqT.of (sm6 _ _ ha),dM _ _,fun p7 h7=>?_⟩
    rw [tN]
    have s7:=ae h7 (.tup [u1,u2])
    have g7:(upd H6 p7 (.tup [u1,u2])) p7=some (.tup [u1,u2]):=ab
    generalize upd H6 p7 (.tup [u1,u2])=H7 at s7 g7 ⊢
    have gw7:=s7 _ _ gw6
    have gs7:=s7 _ _ gs6
    refine ⟨pw,p7,ws',[u1,u2],rfl,rfl,gw7,SqT.of g7,Nat.le_of_lt (ao (by show ws'.length+2<=1000;lia)),?_⟩
    have sm7:Same H (upd H7 pw (.lst (ws'++[u1,u2]))):=fun c oo h=>by rw [ai (ah h hpw)];exact s7 _ _ (sm6 c oo h)
    have iA:A.inP fr.parts.length:=fun k hk=>hie k (List.mem_append_left _ hk)
    have iB:B.inP fr.parts.length:=fun k hk=>hie k (List.mem_append_right _ hk)
    refine ⟨fsz (fs'++[A,B]),?_,ws'++[u1,u2],fs'++[A,B],ks,_,_,rfl,ab,by rw [ai (Ne.symm nws)];exact gs7,sm7,Paired.app hP' (.cons ⟨q1,w1,iA⟩ (.cons ⟨q2,w2,iB⟩ .nil)),?_,kk fun j=>or_congr_right ?_,rfl,?_⟩
    ·rw [br]
     show fsz fs'+ (A.size+ (B.size+0)) <fsz fs'+ (A.size+B.size+1)
     lia
    ·rw [List.all_append,<- hall]
     show (_&&(A.allB (bM pr fr.parts)&&(B.allB (bM pr fr.parts)&&true)))=(_&&(decide (op="plus"\/op="most")&&(A.allB (bM pr fr.parts)&&B.allB (bM pr fr.parts))))
     rw [Bool.and_true,decide_eq_true hpm,Bool.true_and]
    ·constructor
     ·rintro ⟨f,hf,hk⟩
      rcases List.mem_append.mp hf with z | z
      ·exact ⟨f,List.mem_append_left _ z,hk⟩
      ·refine ⟨.bin op A B,List.mem_append_right _ List.mem_cons_self,?_⟩
       show j∈A.prt++B.prt
       rcases List.mem_cons.mp z with z | z
       ·rw [z]at hk;exact List.mem_append_left _ hk
       ·rw [List.mem_singleton.mp z]at hk;exact List.mem_append_right _ hk
     ·rintro ⟨f,hf,hk⟩
      rcases List.mem_append.mp hf with z | z
      ·exact ⟨f,List.mem_append_left _ z,hk⟩
      ·rw [List.mem_singleton.mp z]at hk
       have hk:j∈A.prt++B.prt:=hk
       rcases List.mem_append.mp hk with hk | hk
       ·exact ⟨A,List.mem_append_right _ List.mem_cons_self,hk⟩
       ·exact ⟨B,List.mem_append_right _ (List.mem_cons_of_mem _ List.mem_cons_self),hk⟩
    ·rw [br]
     show ks.length+ (fsz fs'+ (A.size+ (B.size+0)))<=40
     lia
   ·rw [decide_eq_false hpm]
    refine aU ⟨_,rfl,a0,_,0,.str op,rfl,rfl,SqT.of (sm6 _ _ ha),bY,rfl,false,(by rw [qe,decide_eq_false hnp]),aU (aU ?_)⟩
    refine ⟨_,rfl,a0,_,0,.str op,rfl,rfl,SqT.of (sm6 _ _ ha),bY,rfl,true,(by rw [qe,decide_eq_false hnn];rfl),bg (bg (bad H6 sm6 ?_))⟩
    show (decide (op="plus"\/op="most")&&_)=false
    rw [decide_eq_false hpm]
    rfl
noncomputable def BkI (bk:BkP):Prop:= ∀ fr∈bk.forms,∀ r∈fr.rules,r.pl= -1/\r.fm.inP fr.parts.length
theorem qw {fr:FrP} {x:Str} {g:Fm} (h:fr.ru x=some g): ∃ r∈fr.rules,r.fm=g:=by
 unfold FrP.ru at h
 cases hf:fr.rules.find? (fun r=>decide (r.pl= -1/\r.word=x))with
 | none=>rw [hf]at h;cases h
 | some r=>rw [hf]at h;exact ⟨r,List.mem_of_find?_eq_some hf,Option.some.inj h⟩
theorem sI {bk:BkP} {pr:List (Str×Str)} (h1:(pr.map Prod.fst).Nodup) (h2:(bk.sorts.map Srt.name).Nodup):(pr.map Prod.fst).Perm (bk.sorts.map Srt.name)↔nmB bk pr=true:=by
 unfold nmB
 rw [decide_eq_true_iff]
 constructor
 ·intro h
  exact ⟨by have:=h.length_eq;rw [List.length_map,List.length_map]at this;exact this,fun x hx=>h.mem_iff.mp hx⟩
 ·rintro ⟨hl,hm⟩
  have hb:=eh h1 (by rw [List.length_map,List.length_map];exact hl) hm
  exact (List.perm_ext_iff_of_nodup h1 h2).mpr fun x=>⟨hm x,hb x⟩
noncomputable def tZ:Sp:=fun vs H Q _=> ∃ bv bk d pr,vs=[bv,.ref d]/\RepBP H bk bv/\BkQ bk/\BkI bk/\H d=some (.dK (prK pr))/\(pr.map Prod.fst).Nodup/\pr.length<=4/\ ∀ H',Same H H'->Q (.bl (ipB bk pr)) H'
theorem uN (F:Fun K "_law_due" "_law_due" lx f fd) (G:Gb mg) (hsorted:mg "sorted"=none)
  (GR:FnOk P w K mg base CX0 1 f2 fd2 ["form","word"] eJ) (bR:Binds K fd2 ["form","word"] []) (kR:PySem.W.keepIn K (.ref f2)=true) (mR:mg "_law_rule_of"=some (.ref f2)):
  FnOk P w K mg base CX0 2 f fd ["book","pricing"] tZ:=by
 refine F.ok scDue (fun vs H Q E h=>?_) (fun cdv A outer s H vs Q E hr h=>?_)
 ·obtain ⟨v,_,d,_,rfl,_⟩:=h
  rfl
 obtain ⟨bv,bk,d,pr,rfl,hB,hok,hI,hd,hnd,h4,q⟩:=h
 have hu:=cT hr
 obtain ⟨tF,pF,hF⟩:=rG (f:=f) (cdv:=cdv) (A:=A) (outer:=outer) (s:=s) (H0:=H) (E:=E) G GR bR kR mR hr
 refine ⟨_,ad (aV (PW.pt (iI (au gT (aq aw (pv 0) af (fun _ _=>rfl)) af (aH _)) (fq (au (sL hu) (aJ (jC rfl) rfl hsorted (by decide +kernel) (aa (pv 1) ac))
    (aJ jB rfl hsorted (by decide +kernel) (aa (cK (sc0:=ag lx) (N0:=NDu) (ys:=[]) (fr:=[]) rfl (cG (aq aw (pv 0) af (fun _ _=>rfl))) rfl rfl
     cok (fun C s H ex=>aq (r:=ot K) aw (pv 0) af (fun _ _=>rfl))) ac)) (aH _))))) (aj (ax dr)) aK)
  (ad (bA PassesOwn.never rfl (cG (aq aw (pv 0) af (fun _ _=>rfl)))
    (cQ rfl (aG (av (i:=2) scDue.nd rfl (Or.inl rfl)) (aG (av (i:=3) scDue.nd rfl (Or.inl rfl)) (aG (av (i:=4) scDue.nd rfl (Or.inl rfl)) cn))))
   (aj (aV (au dq (bq hu (pv 1) (pv 2) (fun _ _=>rfl)) (pv 4) (by with_unfolding_all rfl)) (aj (ax dr)) aK)))
  (ad (bA PassesOwn.never rfl (cG (aq aw (pv 0) af (fun _ _=>rfl))) (av (i:=5) scDue.nd rfl (Or.inl rfl)) pF)
  (aj (ax dr)))),?_⟩
 obtain ⟨a,sa,fa,fv,rfl,h1,⟨sx,h2,hS⟩,h3,hFs⟩:=id hB
 have lS:=hS.len
 have lF:=hFs.len
 have hs3:=hok.s3
 have hfew:=hok.few
 refine ⟨_,rfl,a,_,0,.int bk.wheel,rfl,rfl,SqT.of h1,bY,rfl,_,rfl,?_⟩
 unfold ipB at q
 by_cases cw:bk.wheel=0
 rotate_left
 ·rw [show (!decide (V.int bk.wheel=V.int 0))=true by rw [decide_eq_false (fun z=>cw (V.int.inj z))];rfl]
  rw [decide_eq_false cw]at q
  exact bg (bg (q H (Same.refl H)))
 rw [show (!decide (V.int bk.wheel=V.int 0))=false by rw [cw,decide_eq_true rfl];rfl]
 rw [decide_eq_true cw]at q
 have ek:(prK pr).map (·.1)=(pr.map Prod.fst).map Sum.inr:=by unfold prK;rw [List.map_map,List.map_map];rfl
 refine aU ⟨_,rfl,d,_,pr.map Prod.fst,rfl,hd,ek,by rw [List.length_map];lia,fun p1 us hp1 hpm1 hso1=>?_⟩
 have s1:=ae hp1 (.lst (us.map V.str))
 have g1:(upd H p1 (.lst (us.map V.str))) p1=some (.lst (us.map V.str)):=ab
 generalize upd H p1 (.lst (us.map V.str))=H1 at s1 g1 ⊢
 refine ⟨_,rfl,a,_,1,.ref sa,rfl,rfl,SqT.of (s1 _ _ h1),ar (j:=1) rfl,sa,rfl,⟨_,SqT.of (s1 _ _ h2)⟩,?_⟩
 refine cr (by lia) hS (dO (s1 _ _ h2)) (dN (s1 _ _ h2)) (fz (s1 _ _ h2)) (fun _ s v=>v=.str (Srt.name s)) (fun _ h=>h) ?_ ?_
 ·rintro sr v Ha k hsr ⟨b,dc,uc,rfl,hb,_⟩ sa' hk
  exact ⟨_,rfl,b,_,0,.str sr.name,rfl,rfl,SqT.of (sa' _ _ (s1 _ _ hb)),bY,hk _ Ha (Same.refl Ha) rfl⟩
 intro nl zs H2 hnl s2 g2 hz
 have ez:zs=(bk.sorts.map Srt.name).map V.str:=by rw [cf hz,List.map_map];rfl
 subst ez
 refine ⟨nl,bk.sorts.map Srt.name,rfl,SqL.of g2,by rw [List.length_map];lia,fun p2 us2 hp2 hpm2 hso2=>?_⟩
 have s3:=ae hp2 (.lst (us2.map V.str))
 have g3:(upd H2 p2 (.lst (us2.map V.str))) p2=some (.lst (us2.map V.str)):=ab
 generalize upd H2 p2 (.lst (us2.map V.str))=H3 at s3 g3 ⊢
 have S3:Same H H3:=s1.trans (s2.trans s3)
 refine ⟨p1,p2,us,us2,rfl,rfl,s3 _ _ (s2 _ _ g1),g3,_,rfl,?_⟩
 have en:decide (us=us2)=nmB bk pr:=by
  rw [Bool.eq_iff_iff,decide_eq_true_iff,lm hpm1 hpm2 hso1 hso2]
  exact sI hnd hok.nd
 show if (!decide (us=us2))=true then _ else _
 rw [en]
 cases hn:nmB bk pr with
 | false=>
  rw [hn]at q
  exact bg (q H3 S3)
 | true=>
  rw [hn]at q
  obtain ⟨n1,n2⟩:=of_decide_eq_true hn
  have hback:=eh hnd (by rw [List.length_map,List.length_map];exact n1) n2
  have hso: ∀ x∈bk.sorts.map Srt.name,∃ y,aW pr x=some y:=fun x hx=>fW (hback x hx)
  have gget: ∀ {H':Hp} {z y:Str},H' d=some (.dK (prK pr))->aW pr z=some y->DGet H' d (.str z) (some (.str y)):=fun {H' z y} hd e=>by
   have:=DGet.k (k:=.inr z) hd
   rw [cm,e]at this
   exact this
  refine aU ?_
  refine ⟨_,rfl,a,_,1,.ref sa,rfl,rfl,SqT.of (S3 _ _ h1),ar (j:=1) rfl,sa,rfl,⟨_,SqT.of (S3 _ _ h2)⟩,?_⟩
  refine dQ (xs:=sx) (fun i σ H'=>i<=sx.length/\H'=H3/\(∃ o2 o3 o4,σ=[some (.ref a),some (.ref d),o2,o3,o4,none,none,none,none,none])/\(bk.sorts.take i).all (fun s=>decide ((aW pr s.name).getD ""∈s.ups))=true)
   ⟨Nat.zero_le _,rfl,⟨_,_,_,rfl⟩,rfl⟩ (fun i σ H' _ h=>by obtain ⟨_,rfl,_⟩:=h;exact SqT.of (S3 _ _ h2)) ?_ ?_
  ·rintro i y σ H4 hy ⟨_,rfl,⟨o2,o3,o4,rfl⟩,hall⟩
   have hil:i<sx.length:=(List.getElem?_eq_some_iff.mp hy).1
   obtain ⟨r,hr',c,b,e,rfl,hc,hb,he⟩:=aM hS hy
   have hrm:=List.mem_of_getElem? hr'
   obtain ⟨yy,ey⟩:=hso _ (List.mem_map.mpr ⟨r,hrm,rfl⟩)
   refine ⟨c,_,rfl,SqT.of (S3 _ _ hc),rfl,_,_,rfl,_,_,rfl,_,_,rfl,rfl,?_⟩
   refine ⟨_,rfl,_,rfl,d,.str yy,rfl,gget (S3 _ _ hd) ey,_,rfl,e,_,rfl,.inr (SqT.of (S3 _ _ he)),rfl,cb,_,rfl,?_⟩
   refine (show if (!inV (.str yy) (r.ups.map V.str))=true then _ else _ from ?_)
   rw [cD]
   by_cases hin:yy∈r.ups
   ·rw [decide_eq_true hin]
    refine aU ⟨hil,rfl,⟨_,_,_,rfl⟩,?_⟩
    rw [List.take_add_one,hr',List.all_append,hall,Bool.true_and]
    show (decide ((aW pr r.name).getD ""∈r.ups)&&true)=true
    rw [ey,Bool.and_true]
    exact decide_eq_true hin
   ·rw [decide_eq_false hin]
    have eu:upB bk pr=false:=List.all_eq_false.mpr ⟨r,hrm,by rw [ey];show ¬ decide (yy∈r.ups)=true;rw [decide_eq_false hin];exact Bool.false_ne_true⟩
    rw [eu]at q
    exact bg (q _ S3)
  ·rintro σ H4 ⟨_,rfl,⟨o2,o3,o4,rfl⟩,hall⟩
   rw [<- lS,List.take_length]at hall
   have hub:upB bk pr=true:=hall
   rw [hub]at q
   refine ⟨_,rfl,a,_,2,.ref fa,rfl,rfl,SqT.of (S3 _ _ h1),ar (j:=2) rfl,fa,rfl,⟨_,SqT.of (S3 _ _ h3)⟩,?_⟩
   refine dQ (xs:=fv) (fun i σ H'=>i<=fv.length/\(∃ o5 o6 o7 o8 o9,σ=[some (.ref a),some (.ref d),o2,o3,o4,o5,o6,o7,o8,o9])/\Same H H'/\(bk.forms.take i).all (foB pr)=true)
    ⟨Nat.zero_le _,⟨_,_,_,_,_,rfl⟩,S3,rfl⟩ (fun i σ H' _ h=>by obtain ⟨_,_,s',_⟩:=h;exact SqT.of (s' _ _ h3)) ?_ ?_
   ·rintro i y σ H5 hy ⟨_,⟨o5,o6,o7,o8,o9,rfl⟩,S5,hall5⟩
    have hil:i<fv.length:=(List.getElem?_eq_some_iff.mp hy).1
    obtain ⟨fr,hfr,hRf⟩:=aM hFs hy
    have hfm:=List.mem_of_getElem? hfr
    obtain ⟨f1,f2,f3,f4,f5⟩:=hok.fo fr hfm
    have hIf:=hI fr hfm
    obtain ⟨x,ex⟩:=hso _ f3
    obtain ⟨sr,hsr,esr⟩:=List.mem_map.mp f3
    have hin:x∈sr.ups:=by
     have:=List.all_eq_true.mp hub sr hsr
     rw [esr,ex]at this
     exact of_decide_eq_true this
    obtain ⟨gm,eg,hg⟩:=f5 sr hsr esr x hin
    obtain ⟨r,hrm,er⟩:=qw eg
    have hip:gm.inP fr.parts.length:=by rw [<- er];exact (hIf r hrm).2
    have hps: ∀ p∈fr.parts,∃ y,aW pr p=some y:=fun p hp=>hso _ (f4 p hp)
    have ef:foB pr fr=jz pr fr.parts gm:=by
     rw [<- rH hps hg.wf hip]
     unfold foB
     rw [ex]
     show pfB pr fr ((fr.ru x).getD (.num 0))=_
     rw [eg]
     rfl
    refine hF _ H5 (.ref a) d o2 o3 o4 o6 o7 o8 o9 y fr pr x gm (hRf.mono (aF S5)) f1 (S5 _ _ hd) ex ((FrP.ru_eq (fun r hr=>(hIf r hr).1) f1.2.1).trans eg) hg.wf hg.sz hip hps f2 (fun H' s' hb=>?_) (fun o6 o7 o8 o9 H' s' hb=>?_)
    ·have ea:bk.forms.all (foB pr)=false:=List.all_eq_false.mpr ⟨fr,hfm,by rw [ef,hb];exact Bool.false_ne_true⟩
     rw [ea]at q
     exact q H' (S5.trans s')
    ·refine ⟨hil,⟨_,_,_,_,_,rfl⟩,S5.trans s',?_⟩
     rw [List.take_add_one,hfr,List.all_append,hall5,Bool.true_and]
     show (foB pr fr&&true)=true
     rw [ef,hb]
     rfl
   ·rintro σ H5 ⟨_,⟨o5,o6,o7,o8,o9,rfl⟩,S5,hall5⟩
    rw [<- lF,List.take_length]at hall5
    rw [hall5]at q
    exact q H5 S5
end My
namespace L2
open PySem
section
variable {X:Cx}
theorem lN (hu:X.A.units<cLine):OpR X (compareOp .Eq) (fun x y H Q=> ∃ a b xs,x=.ref a/\y=.ref b/\SqL X.K H a xs/\SqL X.K H b []/\Q (.bl xs.isEmpty) H):=by
 intro pins s σ H x y v u Q I rx ry h
 obtain ⟨a,b,xs,rfl,rfl,ha,hb,q⟩:=h
 cases rx
 cases ry
 obtain ⟨its,r,pl,_⟩:=I.list ha
 obtain ⟨its2,r2,pl2,_⟩:=I.list hb
 cases r2
 cases r with
 | nil=>exact SeqAt.eq_listAt (e:=fun _=>true) pl.isList pl2.isList rfl hu (fun j h1 _=>absurd h1 (Nat.not_lt_zero _)) ⟨.bl _,H,I,rfl,q⟩
 | cons r1 t=>exact SeqAt.eq_list_lengthsAt pl.isList pl2.isList (by simp) hu ⟨.bl _,H,I,rfl,q⟩
end
end L2
namespace My
open PySem L2
inductive Prc (ds:List Fm):Fm->Prop where
 | num {n:Int}:0<=n->n<=999999->Prc ds (.num n)
 | leaf {d:Fm}:d∈ds->Prc ds d
 | bin {op:Str} {a b:Fm}:(op="plus"\/op="most")->Prc ds a->Prc ds b->Prc ds (.bin op a b)
theorem dl {α β:Type} {F:α->β->Prop}: ∀ {y z:List β} {l:List α},Paired F l (y++z)-> ∃ a b,l=a++b/\Paired F a y/\Paired F b z
 | [],_,l,h=>⟨[],l,rfl,.nil,h⟩
 | _::y,_,_,.cons h t=>by
  obtain ⟨a,b,e,h1,h2⟩:=dl (y:=y) t
  exact ⟨_::a,b,by rw [e];rfl,.cons h h1,h2⟩
theorem mM {α:Type}: ∀ {k:Nat} {l:List α},k+1<l.length-> ∃ a x y b,l=a++x::y::b/\a.length=k
 | 0,x::y::b,_=>⟨[],x,y,b,rfl,rfl⟩
 | 0,[x],h=>by simp at h
 | 0,[],h=>by simp at h
 | k+1,[],h=>by simp at h
 | k+1,x::l,h=>by
  obtain ⟨a,u,v,b,e,hl⟩:=mM (k:=k) (l:=l) (by rw [List.length_cons]at h;lia)
  exact ⟨x::a,u,v,b,by rw [e];rfl,by rw [List.length_cons,hl]⟩
noncomputable def PFS (H:Hp) (tp:Addr) (ds ls:List Fm) (lp:Addr) (ys:List V) (H':Hp):Prop:=Kp tp H H'/\Tp H' tp/\lp≠tp/\H lp=none/\H' lp=some (.lst ys)/\Paired (Rep H') ls ys/\(∀ g∈ls,Prc ds g)/\(∀ k,(∃ d∈ds,k∈d.prt)-> ∃ g∈ls,k∈g.prt)
theorem eQ {tp p:Addr} {H H':Hp} (k:Kp tp H H') (t:Tp H' tp) (h:H' p=none):H p=none:=by
 cases e:H p with
 | none=>rfl
 | some o=>
  have:=k p o e (ck t h)
  rw [h]at this
  cases this
noncomputable abbrev NPf:List Str:=["tape","due","leaves","j","k","sign"]
noncomputable def fR:Sp:=fun vs H Q _=> ∃ (tp dp:Addr) (ds:List Fm) (ys:List V),vs=[.ref tp,.ref dp]/\Tp H tp/\dp≠tp/\H dp=some (.lst ys)/\Paired (Rep H) ds ys/\ds.length<=3/\(∀ d∈ds,d.size=1)/\
 ∀ v g H',Rep H' g v->Prc ds g->g.size<=11->(∀ k,(∃ d∈ds,k∈d.prt)->k∈g.prt)->Kp tp H H'->Tp H' tp->Q v H'
theorem scPForm:aA NPf ["tape","due"] (ag dh):=fsc
theorem vD {cdv:Value} {A:Around} {outer:List Env} {s:Shared} {H0:Hp} {E:XK} (G:Gb mg)
  (GD:FnOk P w K mg base CX0 1 f2 fd2 ["tape","many"] aT) (bD:Binds K fd2 ["tape","many"] []) (kD:PySem.W.keepIn K (.ref f2)=true) (mD:mg "_law_digit"=some (.ref f2))
  (hr:Room 1 (bZ CX0 P w K mg base NPf "_law_price_formula" (ag dh) f cdv A outer s H0 E).nox.A):
  ∃ t,PSs (bZ CX0 P w K mg base NPf "_law_price_formula" (ag dh) f cdv A outer s H0 E).nox ((bx dh).drop 4) t/\
   ∀ (D:cL) (H:Hp) (tp:Addr) (dv:V) (ds ls:List Fm) (lp:Addr) (ys:List V) (o3 o4 o5:Option V) (H':Hp),PFS H tp ds ls lp ys H'->1<=ls.length->fsz ls+ls.length<=12->
    (∀ v g H'',Rep H'' g v->Prc ds g->g.size<=11->(∀ k,(∃ d∈ds,k∈d.prt)->k∈g.prt)->Kp tp H H''->Tp H'' tp->D.rt v H'')->
    t D [some (.ref tp),some dv,some (.ref lp),o3,o4,o5] H':=by
 refine ⟨_,ad (gO PassesOwn.never (au qQ (aJ aC rfl G.len PySem.boot_len (aa (pv 2) ac)) af (aH _))
   (ad (al (i:=4) scPForm.nd rfl (Or.inl rfl) (ak GD hr rfl mD kD bD .nil am (aa (pv 0) (aa (ay dn (aJ aC rfl G.len PySem.boot_len (aa (pv 2) ac)) af) ac))))
   (ad (al (i:=5) scPForm.nd rfl (Or.inl rfl) (aq aO (aY (aa aE (aa aE (aa aE ac)))) (ak GD hr rfl mD kD bD .nil am (aa (pv 0) (aa af ac))) (fun _ _=>rfl)))
   (aj (al (i:=2) scPForm.nd rfl (Or.inl rfl) (ay gU (ay gU (bn eK (pv 2) bJ (bH (pv 4)))
    (aY (aa (aB (aa (pv 5) (aa (aq aO (pv 2) (pv 4) (fun _ _=>rfl)) (aa (aq aO (pv 2) (ay aZ (pv 4) af) (fun _ _=>rfl)) ac)))) ac)))
    (bn eK (pv 2) (bH (ay aZ (pv 4) af)) bJ)))))))
  (aj (ax (aq aO (pv 2) af (fun _ _=>rfl)))),?_⟩
 intro D H tp dv ds ls lp ys o3 o4 o5 H' hS h1 h12 q
 refine ⟨fun m σ H''=> ∃ ls lp ys o3 o4 o5,σ=[some (.ref tp),some dv,some (.ref lp),o3,o4,o5]/\PFS H tp ds ls lp ys H''/\1<=ls.length/\fsz ls+ls.length<=12/\m=ls.length,⟨_,ls,lp,ys,o3,o4,o5,rfl,hS,h1,h12,rfl⟩,?_⟩
 clear hS h1 h12
 rintro m σ H1 ⟨ls,lp,ys,o3,o4,o5,rfl,⟨k1,t1,n1,f1,g1,hP,hpr,hcv⟩,hl1,h12,rfl⟩
 have lY:ls.length=ys.length:=Paired.length hP
 refine ⟨_,rfl,lp,ys,rfl,.inl (SqL.of g1),(ys.length:Int),1,rfl,rfl,_,rfl,?_⟩
 have hf:=jy ls
 by_cases hlt:1<ls.length
 case neg=>
  rw [show decide ((ys.length:Int) >1)=false from decide_eq_false (by lia)]
  refine aU ?_
  obtain ⟨y,rfl⟩: ∃ y,ys=[y]:=List.length_eq_one_iff.mp (by lia)
  cases hP with
  | @cons gm _ _ _ hR t=>
   cases t
   refine ⟨_,rfl,lp,_,0,y,rfl,rfl,SqL.of g1,bY,q y gm H1 hR (hpr gm List.mem_cons_self) ?_ (fun k hk=>?_) k1 t1⟩
   ·have:gm.size+0+1<=12:=h12
    lia
   ·obtain ⟨z,hz,h⟩:=hcv k hk
    rw [List.mem_singleton.mp hz]at h
    exact h
 rw [show decide ((ys.length:Int) >1)=true from decide_eq_true (by lia)]
 refine bg ⟨fun σ' H''=> ∃ m',m'<ls.length/\ ∃ ls lp ys o3 o4 o5,σ'=[some (.ref tp),some dv,some (.ref lp),o3,o4,o5]/\PFS H tp ds ls lp ys H''/\1<=ls.length/\fsz ls+ls.length<=12/\m'=ls.length,fun σ' H'' h=>h,?_⟩
 refine ⟨_,rfl,_,rfl,lp,ys,rfl,.inl (SqL.of g1),(ys.length:Int),1,rfl,rfl,tp,(ys.length:Int) -1,rfl,t1,by lia,by lia,fun d t d0 d1=>?_⟩
 have k2:Kp tp H (upd H1 tp (.lst [.int t])):=k1.trans Kp.tape
 have t2:Tp (upd H1 tp (.lst [.int t])) tp:=⟨t,ab⟩
 have g2:(upd H1 tp (.lst [.int t])) lp=some (.lst ys):=by rw [ai n1];exact g1
 have tk2:TK H1 (upd H1 tp (.lst [.int t])):=(Kp.tape (tp:=tp)).tk t1
 have hP2:Paired (Rep (upd H1 tp (.lst [.int t]))) ls ys:=Paired.mapP hP fun _ _ h=>h.mono tk2
 generalize upd H1 tp (.lst [.int t])=H2 at k2 t2 g2 hP2 ⊢
 refine ⟨(by show 3<=sizeLine;decide),fun p3 hp3=>?_⟩
 have s3:=ae hp3 (.lst [.str "plus",.str "most",.str "plus"])
 have g3:(upd H2 p3 (.lst [.str "plus",.str "most",.str "plus"])) p3=some (.lst [.str "plus",.str "most",.str "plus"]):=ab
 have t3:Tp (upd H2 p3 (.lst [.str "plus",.str "most",.str "plus"])) tp:=t2.new hp3
 have n3:=ck t2 hp3
 generalize upd H2 p3 (.lst [.str "plus",.str "most",.str "plus"])=H3 at s3 g3 t3 ⊢
 refine ⟨_,rfl,tp,3,rfl,t3,by decide,by decide,fun e t' e0 e1=>?_⟩
 have k4:Kp tp H (upd H3 tp (.lst [.int t'])):=(k2.same s3).trans Kp.tape
 have t4:Tp (upd H3 tp (.lst [.int t'])) tp:=⟨t',ab⟩
 have g4:(upd H3 tp (.lst [.int t'])) lp=some (.lst ys):=by rw [ai n1];exact s3 _ _ g2
 have g34:(upd H3 tp (.lst [.int t'])) p3=some (.lst [.str "plus",.str "most",.str "plus"]):=by rw [ai n3];exact g3
 have tk4:TK H2 (upd H3 tp (.lst [.int t'])):=fun b xs h=>(Kp.tape (tp:=tp)).tk t3 _ _ (s3 _ _ h)
 have hP4:Paired (Rep (upd H3 tp (.lst [.int t']))) ls ys:=Paired.mapP hP2 fun _ _ h=>h.mono tk4
 generalize upd H3 tp (.lst [.int t'])=H4 at k4 t4 g4 g34 hP4 ⊢
 obtain ⟨sg,hsg,hat⟩: ∃ sg:Str,(sg="plus"\/sg="most")/\atI [V.str "plus",V.str "most",V.str "plus"] e=some (.str sg):=by
  have he:e=0\/e=1\/e=2:=by lia
  rcases he with rfl | rfl | rfl
  ·exact ⟨"plus",.inl rfl,bY⟩
  ·exact ⟨"most",.inr rfl,tQ⟩
  ·exact ⟨"plus",.inl rfl,u7⟩
 refine ⟨p3,_,e,.str sg,rfl,rfl,SqL.of g34,hat,?_⟩
 have ed:d=(d.toNat:Int):=by lia
 obtain ⟨Y,y1,y2,Z,rfl,hYl⟩:=mM (k:=d.toNat) (l:=ys) (by lia)
 obtain ⟨la,lb,rfl,hA,hB⟩:=dl hP4
 cases hB with
 | @cons m1 _ _ _ hR1 hB=>
 cases hB with
 | @cons m2 _ lc _ hR2 hC=>
 have lYs:(Y++y1::y2::Z).length=Y.length+2+Z.length:=by rw [List.length_append,List.length_cons,List.length_cons];lia
 have lLs:(la++m1::m2::lc).length=la.length+2+lc.length:=by rw [List.length_append,List.length_cons,List.length_cons];lia
 have eA:la.length=Y.length:=Paired.length hA
 have eC:lc.length=Z.length:=Paired.length hC
 refine ⟨_,rfl,_,rfl,d,rfl,lp,_,rfl,SqL.of g4,fun p5 h5=>?_⟩
 rw [hU _ d0 (by lia),<- hYl,List.take_left']
 rotate_left
 ·rfl
 have s5:=ae h5 (.lst Y)
 have g5:(upd H4 p5 (.lst Y)) p5=some (.lst Y):=ab
 generalize upd H4 p5 (.lst Y)=H5 at s5 g5 ⊢
 have at1:atI (Y++y1::y2::Z) d=some y1:=by
  rw [ed]
  exact ar (by rw [List.getElem?_append_right (by lia),hYl,Nat.sub_self];rfl)
 have at2:atI (Y++y1::y2::Z) (d+1)=some y2:=by
  rw [show d+1=((d.toNat+1:Nat):Int) by lia]
  exact ar (by rw [List.getElem?_append_right (by lia),hYl,Nat.add_sub_cancel_left];rfl)
 refine ⟨_,rfl,_,rfl,_,rfl,lp,_,d,y1,rfl,rfl,SqL.of (s5 _ _ g4),at1,_,rfl,_,rfl,d,1,rfl,rfl,lp,_,d+1,y2,rfl,rfl,SqL.of (s5 _ _ g4),at2,(by show 3<=sizeLine;decide),fun p6 h6=>?_⟩
 have s6:=ae h6 (.tup [.str sg,y1,y2])
 have g6:(upd H5 p6 (.tup [.str sg,y1,y2])) p6=some (.tup [.str sg,y1,y2]):=ab
 generalize upd H5 p6 (.tup [.str sg,y1,y2])=H6 at s6 g6 ⊢
 refine ⟨(by show 1<=sizeLine;decide),fun p7 h7=>?_⟩
 have s7:=ae h7 (.lst [.ref p6])
 have g7:(upd H6 p7 (.lst [.ref p6])) p7=some (.lst [.ref p6]):=ab
 generalize upd H6 p7 (.lst [.ref p6])=H7 at s7 g7 ⊢
 refine ⟨p5,p7,Y,[.ref p6],rfl,rfl,s7 _ _ (s6 _ _ g5),g7,Nat.le_of_lt (ao (by rw [List.length_singleton];lia)),fun p8 h8=>?_⟩
 have s8:=ae h8 (.lst (Y++[.ref p6]))
 have g8:(upd H7 p8 (.lst (Y++[.ref p6]))) p8=some (.lst (Y++[.ref p6])):=ab
 generalize upd H7 p8 (.lst (Y++[.ref p6]))=H8 at s8 g8 ⊢
 have S8:Same H4 H8:=s5.trans (s6.trans (s7.trans s8))
 refine ⟨_,rfl,_,rfl,d,2,rfl,rfl,d+2,rfl,lp,_,rfl,SqL.of (S8 _ _ g4),fun p9 h9=>?_⟩
 rw [kH _ (by lia) (by lia),show (d+2).toNat=Y.length+2 by lia,show (Y++y1::y2::Z).drop (Y.length+2)=Z by rw [List.drop_append];simp]
 have s9:=ae h9 (.lst Z)
 have g9:(upd H8 p9 (.lst Z)) p9=some (.lst Z):=ab
 generalize upd H8 p9 (.lst Z)=H9 at s9 g9 ⊢
 refine ⟨p8,p9,_,Z,rfl,rfl,s9 _ _ g8,g9,Nat.le_of_lt (ao (by rw [List.length_append,List.length_singleton];lia)),fun pA hA'=>?_⟩
 have sA:=ae hA' (.lst (Y++[.ref p6]++Z))
 have gA:(upd H9 pA (.lst (Y++[.ref p6]++Z))) pA=some (.lst (Y++[.ref p6]++Z)):=ab
 generalize upd H9 pA (.lst (Y++[.ref p6]++Z))=HA at sA gA ⊢
 have S9:Same H4 H9:=S8.trans s9
 have SA:Same H4 HA:=S9.trans sA
 have tA:Tp HA tp:=by obtain ⟨z,hz⟩:=t4;exact ⟨z,SA _ _ hz⟩
 have t9:Tp H9 tp:=by obtain ⟨z,hz⟩:=t4;exact ⟨z,S9 _ _ hz⟩
 have k9:Kp tp H H9:=k4.same S9
 have tkA:TK H4 HA:=aF SA
 have g6A:HA p6=some (.tup [.str sg,y1,y2]):=sA _ _ (s9 _ _ (s8 _ _ (s7 _ _ g6)))
 have hB6:Rep HA (.bin sg m1 m2) (.ref p6):=⟨p6,y1,y2,rfl,g6A,hR1.mono tkA,hR2.mono tkA⟩
 refine ⟨la.length+1+lc.length,by lia,la++[.bin sg m1 m2]++lc,pA,_,o3,_,_,rfl,⟨k4.same SA,tA,ck t9 hA',eQ k9 t9 hA',gA,Paired.app (Paired.app (Paired.mapP hA fun _ _ h=>h.mono tkA) (.cons hB6 .nil)) (Paired.mapP hC fun _ _ h=>h.mono tkA),fun z hz=>?_,fun k hk=>?_⟩,?_,?_,?_⟩
 ·rcases List.mem_append.mp hz with hz | hz
  ·rcases List.mem_append.mp hz with hz | hz
   ·exact hpr z (List.mem_append_left _ hz)
   ·rw [List.mem_singleton.mp hz]
    exact .bin hsg (hpr m1 (List.mem_append_right _ List.mem_cons_self)) (hpr m2 (List.mem_append_right _ (List.mem_cons_of_mem _ List.mem_cons_self)))
  ·exact hpr z (List.mem_append_right _ (List.mem_cons_of_mem _ (List.mem_cons_of_mem _ hz)))
 ·obtain ⟨z,hz,h⟩:=hcv k hk
  have eb:(Fm.bin sg m1 m2).prt=m1.prt++m2.prt:=rfl
  rcases List.mem_append.mp hz with hz | hz
  ·exact ⟨z,List.mem_append_left _ (List.mem_append_left _ hz),h⟩
  ·rcases List.mem_cons.mp hz with hz | hz
   ·exact ⟨_,List.mem_append_left _ (List.mem_append_right _ List.mem_cons_self),by rw [eb];rw [hz]at h;exact List.mem_append_left _ h⟩
   ·rcases List.mem_cons.mp hz with hz | hz
    ·exact ⟨_,List.mem_append_left _ (List.mem_append_right _ List.mem_cons_self),by rw [eb];rw [hz]at h;exact List.mem_append_right _ h⟩
    ·exact ⟨z,List.mem_append_right _ hz,h⟩
 ·rw [List.length_append,List.length_append,List.length_singleton];lia
 ·rw [br,br,List.length_append,List.length_append,List.length_singleton]
  rw [br,lLs]at h12
  have e1:fsz [Fm.bin sg m1 m2]=m1.size+m2.size+1+0:=rfl
  have e2:fsz (m1::m2::lc)=m1.size+ (m2.size+fsz lc):=rfl
  lia
 ·rw [List.length_append,List.length_append,List.length_singleton]
theorem vE {cdv:Value} {A:Around} {outer:List Env} {s:Shared} {H0:Hp} {E:XK} (G:Gb mg)
  (GD:FnOk P w K mg base CX0 1 f2 fd2 ["tape","many"] aT) (bD:Binds K fd2 ["tape","many"] []) (kD:PySem.W.keepIn K (.ref f2)=true) (mD:mg "_law_digit"=some (.ref f2))
  (GN:FnOk P w K mg base CX0 2 f3 fd3 ["tape"] lj) (bN:Binds K fd3 ["tape"] []) (kN:PySem.W.keepIn K (.ref f3)=true) (mN:mg "_law_price_number"=some (.ref f3))
  (hr:Room 2 (bZ CX0 P w K mg base NPf "_law_price_formula" (ag dh) f cdv A outer s H0 E).nox.A):
  ∃ t,PSs (bZ CX0 P w K mg base NPf "_law_price_formula" (ag dh) f cdv A outer s H0 E).nox ((bx dh).drop 3) t/\
   ∀ (D:cL) (H:Hp) (tp:Addr) (dv:V) (ds ls:List Fm) (lp:Addr) (ys:List V) (o3 o4 o5:Option V) (H':Hp),PFS H tp ds ls lp ys H'->fsz ls+ls.length<=12->
    (∀ v g H'',Rep H'' g v->Prc ds g->g.size<=11->(∀ k,(∃ d∈ds,k∈d.prt)->k∈g.prt)->Kp tp H H''->Tp H'' tp->D.rt v H'')->
    t D [some (.ref tp),some dv,some (.ref lp),o3,o4,o5] H':=by
 obtain ⟨t4,p4,h4⟩:=vD (f:=f) (cdv:=cdv) (A:=A) (outer:=outer) (s:=s) (H0:=H0) (E:=E) G GD bD kD mD (hr.mono (show 1<=2 by decide))
 refine ⟨_,ad (aV (au (lN hr.units0) (pv 2) (aY ac) (aH _)) (aj (al (i:=2) scPForm.nd rfl (Or.inl rfl) (aY (aa (ak GN hr rfl mN kN bN .nil am (aa (pv 0) ac)) ac)))) aK) p4,?_⟩
 intro D H tp dv ds ls lp ys o3 o4 o5 H' hS h12 q
 obtain ⟨k1,t1,n1,f1,g1,hP,hpr,hcv⟩:=id hS
 refine ⟨_,rfl,(by show 0<=sizeLine;decide),fun p2 h2=>?_⟩
 have s2:=ae h2 (.lst [])
 have g2:(upd H' p2 (.lst [])) p2=some (.lst []):=ab
 have t2:Tp (upd H' p2 (.lst [])) tp:=t1.new h2
 generalize upd H' p2 (.lst [])=H2 at s2 g2 t2 ⊢
 refine ⟨lp,p2,ys,rfl,rfl,SqL.of (s2 _ _ g1),SqL.of g2,_,rfl,?_⟩
 cases hP with
 | cons hR t=>
  refine aU (h4 _ H tp dv ds _ lp _ o3 o4 o5 H2 ⟨k1.same s2,t2,n1,f1,s2 _ _ g1,Paired.mapP (.cons hR t) fun _ _ h=>h.mono (aF s2),hpr,hcv⟩ ?_ h12 q)
  rw [List.length_cons]
  lia
 | nil=>
  refine bg ⟨_,rfl,tp,rfl,t2,fun n v H3 n0 n1' k3 t3 hv=>⟨(by show 1<=sizeLine;decide),fun p4 hp4=>?_⟩⟩
  have s4:=ae hp4 (.lst [v])
  have g4:(upd H3 p4 (.lst [v])) p4=some (.lst [v]):=ab
  have t4':Tp (upd H3 p4 (.lst [v])) tp:=t3.new hp4
  have n4:=ck t3 hp4
  have k4:Kp tp H H3:=(k1.same s2).trans k3
  have f4:=eQ k4 t3 hp4
  generalize upd H3 p4 (.lst [v])=H4 at s4 g4 t4' ⊢
  refine h4 _ H tp dv ds [.num n] p4 [v] o3 o4 o5 H4 ⟨k4.same s4,t4',n4,f4,g4,.cons (hv.mono (aF s4)) .nil,fun z hz=>by rw [List.mem_singleton.mp hz];exact .num n0 n1',fun k hk=>?_⟩ (Nat.le_refl _) (by show 1+0+1<=12;decide) q
  obtain ⟨z,hz,_⟩:=hcv k hk
  cases hz
theorem qU (F:Fun K "_law_price_formula" "_law_price_formula" dh f fd) (G:Gb mg) (hlist:mg "list"=none)
  (GD:FnOk P w K mg base CX0 1 f2 fd2 ["tape","many"] aT) (bD:Binds K fd2 ["tape","many"] []) (kD:PySem.W.keepIn K (.ref f2)=true) (mD:mg "_law_digit"=some (.ref f2))
  (GN:FnOk P w K mg base CX0 2 f3 fd3 ["tape"] lj) (bN:Binds K fd3 ["tape"] []) (kN:PySem.W.keepIn K (.ref f3)=true) (mN:mg "_law_price_number"=some (.ref f3)):
  FnOk P w K mg base CX0 3 f fd ["tape","due"] fR:=by
 refine F.ok scPForm (fun vs H Q E h=>?_) (fun cdv A outer s H vs Q E hr h=>?_)
 ·obtain ⟨tp,dp,_,_,rfl,_⟩:=h
  rfl
 obtain ⟨tp,dp,ds,ys,rfl,hT,hdt,hdp,hP,h3,hsz,q⟩:=h
 have hr1:=hr.mono (show 1<=2 by decide)
 obtain ⟨t3,p3,h3'⟩:=vE (f:=f) (cdv:=cdv) (A:=A) (outer:=outer) (s:=s) (H0:=H) (E:=E) G GD bD kD mD GN bN kN mN hr
 refine ⟨_,ad (al (i:=2) scPForm.nd rfl (Or.inl rfl) (aS fc rfl hlist (by decide +kernel) (aa (pv 1) ac)))
  (ad (bA PassesOwn.never rfl (bj rfl G.range (aa (ak GD hr1 rfl mD kD bD .nil am (aa (pv 0) (aa af ac))) ac)) (av (i:=3) scPForm.nd rfl (Or.inl rfl))
   (aj (bG (c9 PySem.F.plainAttrs_list PySem.F.slot_list_insert PySem.F.type_list_insert oW (pv 2) (aa (ak GD hr1 rfl mD kD bD .nil am (aa (pv 0) (aa (ay aZ (aJ aC rfl G.len PySem.boot_len (aa (pv 2) ac)) af) ac))) (aa (ak GN hr rfl mN kN bN .nil am (aa (pv 0) ac)) ac))))))
  (ad (aV (PW.pt (lG (au (iL hr.units0) (pv 1) (aY ac) (aH _)) (jm (au cp (ak GD hr1 rfl mD kD bD .nil am (aa (pv 0) (aa af ac))) af (aH _)))))
   (aj (bG (c9 PySem.F.plainAttrs_list PySem.F.slot_list_append PySem.F.type_list_append bo (pv 2) (aa (aq aO (pv 1) (ak GD hr1 rfl mD kD bD .nil am (aa (pv 0) (aa (aJ aC rfl G.len PySem.boot_len (aa (pv 1) ac)) ac))) (fun _ _=>rfl)) ac)))) aK)
  p3)),?_⟩
 have lD:ds.length=ys.length:=Paired.length hP
 refine ⟨_,rfl,dp,ys,rfl,.inl (SqL.of hdp),fun lp hlp=>?_⟩
 have s1:=ae hlp (.lst ys)
 have g1:(upd H lp (.lst ys)) lp=some (.lst ys):=ab
 have t1:Tp (upd H lp (.lst ys)) tp:=hT.new hlp
 have n1:=ck hT hlp
 generalize upd H lp (.lst ys)=H1 at s1 g1 t1 ⊢
 refine ⟨_,rfl,tp,3,rfl,t1,by decide,by decide,fun d t d0 d1=>?_⟩
 have k2:Kp tp H (upd H1 tp (.lst [.int t])):=fun b o h n=>by rw [ai n];exact s1 _ _ h
 have t2:Tp (upd H1 tp (.lst [.int t])) tp:=⟨t,ab⟩
 have g2:(upd H1 tp (.lst [.int t])) lp=some (.lst ys):=by rw [ai n1];exact g1
 have hP2:Paired (Rep (upd H1 tp (.lst [.int t]))) ds ys:=Paired.mapP hP fun _ _ h=>h.mono (k2.tk hT)
 generalize upd H1 tp (.lst [.int t])=H2 at k2 t2 g2 hP2 ⊢
 have fds:fsz ds=ds.length:=by
  clear hP2 hP lD h3 q
  induction ds with
  | nil=>rfl
  | cons x r ih=>
   show x.size+fsz r=r.length+1
   rw [hsz x List.mem_cons_self,ih fun d hd=>hsz d (List.mem_cons_of_mem _ hd)]
   lia
 have hdl:dp≠lp:=ah hdp hlp
 refine ⟨d,rfl,by lia,by lia,?_⟩
 refine cj (fun i σ H'=>i<=d.toNat/\ ∃ ls ys' o3,σ=[some (.ref tp),some (.ref dp),some (.ref lp),o3,none,none]/\PFS H tp ds ls lp ys' H'/\ls.length=ds.length+i/\fsz ls=ls.length) ⟨Nat.zero_le _,ds,ys,_,rfl,⟨k2,t2,n1,hlp,g2,hP2,fun z hz=>.leaf hz,fun k hk=>hk⟩,rfl,fds⟩ ?_ ?_
 ·rintro i σ H3 hi ⟨_,ls,ys',o3,rfl,⟨k3,t3,_,_,g3,hP3,hpr,hcv⟩,hl,hf⟩
  have lL:ls.length=ys'.length:=Paired.length hP3
  refine ⟨_,rfl,.inl ⟨rfl,_,SqL.of g3⟩,_,rfl,_,rfl,lp,ys',rfl,.inl (SqL.of g3),(ys'.length:Int),1,rfl,rfl,tp,(ys'.length:Int) +1,rfl,t3,by lia,by lia,fun e t' e0 e1=>?_⟩
  have k4:Kp tp H (upd H3 tp (.lst [.int t'])):=k3.trans Kp.tape
  have t4:Tp (upd H3 tp (.lst [.int t'])) tp:=⟨t',ab⟩
  have g4:(upd H3 tp (.lst [.int t'])) lp=some (.lst ys'):=by rw [ai n1];exact g3
  have hP4:Paired (Rep (upd H3 tp (.lst [.int t']))) ls ys':=Paired.mapP hP3 fun _ _ h=>h.mono ((Kp.tape (tp:=tp)).tk t3)
  generalize upd H3 tp (.lst [.int t'])=H4 at k4 t4 g4 hP4 ⊢
  refine ⟨_,rfl,tp,rfl,t4,fun n v H5 n0 n9 k5 t5 hv=>?_⟩
  have g5:=k5 _ _ g4 n1
  refine ⟨lp,ys',e,v,rfl,rfl,g5,e0,by lia,by lia,?_⟩
  have tk6: ∀ zs,TK H5 (upd H5 lp (.lst zs)):=fun zs b xs h=>by
   rw [ai (fun z=>by rw [z,g5]at h;cases h)]
   exact h
  have hP5:Paired (Rep H5) ls (ys'.take e.toNat++ys'.drop e.toNat):=by
   rw [List.take_append_drop]
   exact Paired.mapP hP4 fun _ _ h=>h.mono (k5.tk t4)
  obtain ⟨la,lb,rfl,hA,hB⟩:=dl hP5
  refine ⟨hi,la++ .num n::lb,_,_,rfl,⟨fun b o h nb=>?_,?_,n1,hlp,ab,Paired.app (Paired.mapP hA fun _ _ h=>h.mono (tk6 _)) (.cons (hv.mono (tk6 _)) (Paired.mapP hB fun _ _ h=>h.mono (tk6 _))),fun z hz=>?_,fun k hk=>?_⟩,?_,?_⟩
  ·rw [ai (ah h hlp)]
   exact k5 _ _ (k4 _ _ h nb) nb
  ·obtain ⟨z,hz⟩:=t5
   exact ⟨z,by rw [ai (Ne.symm n1)];exact hz⟩
  ·rcases List.mem_append.mp hz with hz | hz
   ·exact hpr z (List.mem_append_left _ hz)
   ·rcases List.mem_cons.mp hz with hz | hz
    ·rw [hz];exact .num n0 n9
    ·exact hpr z (List.mem_append_right _ hz)
  ·obtain ⟨z,hz,h⟩:=hcv k hk
   rcases List.mem_append.mp hz with hz | hz
   ·exact ⟨z,List.mem_append_left _ hz,h⟩
   ·exact ⟨z,List.mem_append_right _ (List.mem_cons_of_mem _ hz),h⟩
  ·rw [List.length_append]at hl ⊢
   rw [List.length_cons]
   lia
  ·rw [br,List.length_append]at hf ⊢
   rw [List.length_cons]
   have:fsz (Fm.num n::lb)=1+fsz lb:=rfl
   lia
 ·rintro σ H3 ⟨_,ls,ys',o3,rfl,⟨k3,t3,_,_,g3,hP3,hpr,hcv⟩,hl,hf⟩
  have lL:ls.length=ys'.length:=Paired.length hP3
  have hdp3:=k3 _ _ hdp hdt
  refine ⟨_,rfl,(by show 0<=sizeLine;decide),fun p4 h4=>?_⟩
  have s4:=ae h4 (.lst [])
  have g4:(upd H3 p4 (.lst [])) p4=some (.lst []):=ab
  have t4:Tp (upd H3 p4 (.lst [])) tp:=t3.new h4
  generalize upd H3 p4 (.lst [])=H4 at s4 g4 t4 ⊢
  refine ⟨dp,p4,ys,rfl,rfl,SqL.of (s4 _ _ hdp3),SqL.of g4,_,rfl,?_⟩
  have st4:PFS H tp ds ls lp ys' H4:=⟨k3.same s4,t4,n1,hlp,s4 _ _ g3,Paired.mapP hP3 fun _ _ h=>h.mono (aF s4),hpr,hcv⟩
  cases hys:ys with
  | nil=>exact aU (aU (h3' _ H tp (.ref dp) ds ls lp ys' o3 none none H4 st4 (by lia) q))
  | cons y0 yr=>
   refine bg ⟨_,rfl,tp,3,rfl,t4,by decide,by decide,fun e t' e0 e1=>?_⟩
   obtain ⟨k4,_,_,_,g4',hP4,_,_⟩:=st4
   have k5:Kp tp H (upd H4 tp (.lst [.int t'])):=k4.trans Kp.tape
   have t5:Tp (upd H4 tp (.lst [.int t'])) tp:=⟨t',ab⟩
   have g5:(upd H4 tp (.lst [.int t'])) lp=some (.lst ys'):=by rw [ai n1];exact g4'
   have hP5:Paired (Rep (upd H4 tp (.lst [.int t']))) ls ys':=Paired.mapP hP4 fun _ _ h=>h.mono ((Kp.tape (tp:=tp)).tk t4)
   generalize upd H4 tp (.lst [.int t'])=H5 at k5 t5 g5 hP5 ⊢
   refine ⟨rfl,_,rfl,?_⟩
   by_cases ce:e=1
   ·rw [decide_eq_true (show V.int e=V.int 1 by rw [ce])]
    have hdp5:=k5 _ _ hdp hdt
    have lys:0<ys.length:=by rw [hys];exact Nat.succ_pos _
    refine bg ⟨_,rfl,.inl ⟨rfl,_,SqL.of g5⟩,_,rfl,_,rfl,_,rfl,dp,ys,rfl,.inl (SqL.of hdp5),tp,(ys.length:Int),rfl,t5,by lia,by lia,fun c t'' c0 c1=>?_⟩
    have k6:Kp tp H (upd H5 tp (.lst [.int t''])):=k5.trans Kp.tape
    have t6:Tp (upd H5 tp (.lst [.int t''])) tp:=⟨t'',ab⟩
    have g6:(upd H5 tp (.lst [.int t''])) lp=some (.lst ys'):=by rw [ai n1];exact g5
    have hP6:Paired (Rep (upd H5 tp (.lst [.int t'']))) ls ys':=Paired.mapP hP5 fun _ _ h=>h.mono ((Kp.tape (tp:=tp)).tk t5)
    generalize upd H5 tp (.lst [.int t''])=H6 at k6 t6 g6 hP6 ⊢
    have hcl:c.toNat<ys.length:=by lia
    have ec:ys[c.toNat]? =some ys[c.toNat]:=List.getElem?_eq_getElem hcl
    obtain ⟨dd',hdd,hRd⟩:=aM hP ec
    have hdm:=List.mem_of_getElem? hdd
    have eat:atI ys c=some ys[c.toNat]:=by
     have:atI ys (c.toNat:Int)=some ys[c.toNat]:=ar ec
     rw [show ((c.toNat:Nat):Int)=c by lia]at this
     exact this
    refine ⟨dp,ys,c,_,rfl,rfl,SqL.of (k6 _ _ hdp hdt),eat,lp,ys',_,rfl,rfl,g6,ao (by lia),?_⟩
    have tk7:TK H6 (upd H6 lp (.lst (ys'++[ys[c.toNat]]))):=fun b xs h=>by
     rw [ai (fun z=>by rw [z,g6]at h;cases h)]
     exact h
    refine h3' _ H tp (.ref dp) ds (ls++[dd']) lp (ys'++[ys[c.toNat]]) o3 none none _ ⟨fun b o h nb=>?_,?_,n1,hlp,ab,Paired.app (Paired.mapP hP6 fun _ _ h=>h.mono tk7) (.cons ((hRd.mono (k6.tk hT)).mono tk7) .nil),fun z hz=>?_,fun k hk=>?_⟩ ?_ q
    ·rw [ai (ah h hlp)]
     exact k6 _ _ h nb
    ·obtain ⟨z,hz⟩:=t6
     exact ⟨z,by rw [ai (Ne.symm n1)];exact hz⟩
    ·rcases List.mem_append.mp hz with hz | hz
     ·exact hpr z hz
     ·rw [List.mem_singleton.mp hz];exact .leaf hdm
    ·obtain ⟨z,hz,h⟩:=hcv k hk
     exact ⟨z,List.mem_append_left _ hz,h⟩
    ·rw [br,List.length_append,List.length_singleton]
     have:fsz [dd']=dd'.size+0:=rfl
     have:=hsz _ hdm
     lia
   ·rw [decide_eq_false (show ¬ V.int e=V.int 1 from fun z=>ce (V.int.inj z))]
    exact aU (h3' _ H tp (.ref dp) ds ls lp ys' o3 none none H5 ⟨k5,t5,n1,hlp,g5,hP5,hpr,hcv⟩ (by lia) q)
structure Win (f o g:Fm):Prop where
 wf:g.wf
 rd: ∀ x∈g.rdk,x∈f.rdk\/x∈o.rdk
 pt: ∀ k∈g.prt,k∈f.prt\/k∈o.prt
theorem Win.f {f o:Fm} (h:f.wf):Win f o f:=⟨h,fun _ h=>.inl h,fun _ h=>.inl h⟩
theorem Win.o {f o:Fm} (h:o.wf):Win f o o:=⟨h,fun _ h=>.inr h,fun _ h=>.inr h⟩
theorem Win.num {f o:Fm} {n:Int} (h: -999999<=n/\n<=999999):Win f o (.num n):=⟨h,fun _ h=>(by cases h),fun _ h=>(by cases h)⟩
theorem Win.bin {f o a b:Fm} {op:Str} (h:op∈ops) (ha:Win f o a) (hb:Win f o b):Win f o (.bin op a b):=
 ⟨⟨h,ha.wf,hb.wf⟩,fun x hx=>(List.mem_append.mp (show x∈a.rdk++b.rdk from hx)).elim (ha.rd x) (hb.rd x),fun x hx=>(List.mem_append.mp (show x∈a.prt++b.prt from hx)).elim (ha.pt x) (hb.pt x)⟩
theorem Win.whn {f o a b c:Fm} (ha:Win f o a) (hb:Win f o b) (hc:Win f o c):Win f o (.whn a b c):=
 ⟨⟨ha.wf,hb.wf,hc.wf⟩,fun x hx=>(List.mem_append.mp (show x∈a.rdk++(b.rdk++c.rdk)from hx)).elim (ha.rd x) fun z=>(List.mem_append.mp z).elim (hb.rd x) (hc.rd x),
  fun x hx=>(List.mem_append.mp (show x∈a.prt++(b.prt++c.prt)from hx)).elim (ha.pt x) fun z=>(List.mem_append.mp z).elim (hb.pt x) (hc.pt x)⟩
noncomputable def GmB (f o:Fm) (H:Hp) (g:Fm) (m:V):Prop:=Rep H g m/\Win f o g/\g.size<=2*f.size+2
theorem GmB.mono {f o:Fm} {H H':Hp} (t:TK H H') {g:Fm} {m:V} (h:GmB f o H g m):GmB f o H' g m:=⟨h.1.mono t,h.2⟩
noncomputable def uS (s:Stmt):List Stmt:=match s with
 | .If _ a _ _=>a
 | _=>[]
noncomputable def beBody:List Stmt:=uS ((bx cC).getD 0 (.Pass ⟨0,0,0,0⟩))
noncomputable abbrev NBe:List Str:=["tape","formula","one","some"]
theorem scBentP:aA NBe ["tape","formula","one"] (ag cC):=fsc
theorem vV {cdv:Value} {A:Around} {outer:List Env} {s:Shared} {H0:Hp} {E:XK}
  (GD:FnOk P w K mg base CX0 1 f2 fd2 ["tape","many"] aT) (bD:Binds K fd2 ["tape","many"] []) (kD:PySem.W.keepIn K (.ref f2)=true) (mD:mg "_law_digit"=some (.ref f2))
  (hr:Room 1 (bZ CX0 P w K mg base NBe "_law_bent" (ag cC) f cdv A outer s H0 E).nox.A):
  ∃ t,PSs (bZ CX0 P w K mg base NBe "_law_bent" (ag cC) f cdv A outer s H0 E).nox (beBody.drop 3) t/\
   ∀ (D:cL) (tp:Addr) (fv ov:V) (fm om:Fm) (p:Addr) (ms:List V) (gs:List Fm) (H H5:Hp),Kp tp H H5->Tp H5 tp->Rep H5 fm fv->fm.wf->Rep H5 om ov->om.wf->om.size=1->H5 p=some (.lst ms)->Paired (GmB fm om H5) gs ms->ms.length=12->
    (∀ v g H',Rep H' g v->Win fm om g->g.size<=2*fm.size+2->Kp tp H H'->Tp H' tp->D.rt v H')->
    t D [some (.ref tp),some fv,some ov,some (.ref p)] H5:=by
 refine ⟨_,aj (ax (aq aO (pv 3) (ak GD hr rfl mD kD bD .nil am (aa (pv 0) (aa af ac))) (fun _ _=>rfl))),?_⟩
 intro D tp fv ov fm om p ms gs H H5 k5 tt5 hR hwf hO how ho1 gp hP hl q
 refine ⟨_,rfl,_,rfl,tp,12,rfl,tt5,by decide,by decide,fun d t hd0 hd1=>?_⟩
 have np:p≠tp:=fun z=>by
  obtain ⟨t,ht⟩:=tt5
  rw [z,ht]at gp
  cases gp
  cases hl
 have k6:Kp tp H5 (upd H5 tp (.lst [.int t])):=Kp.tape
 have tt6:Tp (upd H5 tp (.lst [.int t])) tp:=⟨t,ab⟩
 generalize upd H5 tp (.lst [.int t])=H6 at k6 tt6 ⊢
 obtain ⟨m,em,em2⟩:=cU (xs:=ms) hd0 (by rw [hl];exact hd1)
 obtain ⟨g,hg,hRg,hwg,hsg⟩:=aM hP em2
 exact ⟨p,_,d,m,rfl,rfl,SqL.of (k6 _ _ gp np),em,q m g H6 (hRg.mono (k6.tk tt5)) hwg hsg (k5.trans k6) tt6⟩
theorem vW {cdv:Value} {A:Around} {outer:List Env} {s:Shared} {H0:Hp} {E:XK}
  (GD:FnOk P w K mg base CX0 1 f2 fd2 ["tape","many"] aT) (bD:Binds K fd2 ["tape","many"] []) (kD:PySem.W.keepIn K (.ref f2)=true) (mD:mg "_law_digit"=some (.ref f2))
  (hr:Room 1 (bZ CX0 P w K mg base NBe "_law_bent" (ag cC) f cdv A outer s H0 E).nox.A):
  ∃ t,PSs (bZ CX0 P w K mg base NBe "_law_bent" (ag cC) f cdv A outer s H0 E).nox (beBody.drop 2) t/\
   ∀ (D:cL) (tp:Addr) (fv ov:V) (fm om:Fm) (p:Addr) (ms:List V) (gs:List Fm) (H H5:Hp),Kp tp H H5->Tp H5 tp->Rep H5 fm fv->fm.wf->Rep H5 om ov->om.wf->om.size=1->H5 p=some (.lst ms)->Paired (GmB fm om H5) gs ms->ms.length=8->
    (∀ v g H',Rep H' g v->Win fm om g->g.size<=2*fm.size+2->Kp tp H H'->Tp H' tp->D.rt v H')->
    t D [some (.ref tp),some fv,some ov,some (.ref p)] H5:=by
 obtain ⟨t,ht,hnext⟩:=vV (f:=f) (cdv:=cdv) (A:=A) (outer:=outer) (s:=s) (H0:=H0) (E:=E) GD bD kD mD hr
 refine ⟨_,ad (al (i:=3) scBentP.nd rfl (Or.inl rfl) (ay gU (pv 3) (aY (pac (aB (pac aE (pac (fG dB af) ac))) (pac (aB (pac aE (pac (pv 1) (pac (pv 2) ac)))) (pac (aB (pac aE (pac (pv 1) (pac (aB (pac aE (pac af ac))) ac)))) (pac (aB (pac aE (pac (pv 2) (pac (pv 1) ac)))) ac))))))) ht,?_⟩
 intro D tp fv ov fm om p ms gs H H5 k5 tt5 hR hwf hO how ho1 gp hP hl q
 refine ⟨_,rfl,2,rfl,?_⟩
 refine ⟨(by show 2<=sizeLine;decide),fun a1 ha1=>?_⟩
 have sa1:=ae ha1 (.tup [.str "num",.int (-2)])
 have ga1:(upd H5 a1 (.tup [.str "num",.int (-2)])) a1=some (.tup [.str "num",.int (-2)]):=ab
 generalize upd H5 a1 (.tup [.str "num",.int (-2)])=I1 at sa1 ga1 ⊢
 refine ⟨_,rfl,_,rfl,?_⟩
 refine ⟨(by show 3<=sizeLine;decide),fun a2 ha2=>?_⟩
 have sa2:=ae ha2 (.tup [.str "plus",fv,ov])
 have ga2:(upd I1 a2 (.tup [.str "plus",fv,ov])) a2=some (.tup [.str "plus",fv,ov]):=ab
 generalize upd I1 a2 (.tup [.str "plus",fv,ov])=I2 at sa2 ga2 ⊢
 refine ⟨_,rfl,?_⟩
 refine ⟨(by show 2<=sizeLine;decide),fun a3 ha3=>?_⟩
 have sa3:=ae ha3 (.tup [.str "num",.int 0])
 have ga3:(upd I2 a3 (.tup [.str "num",.int 0])) a3=some (.tup [.str "num",.int 0]):=ab
 generalize upd I2 a3 (.tup [.str "num",.int 0])=I3 at sa3 ga3 ⊢
 refine ⟨(by show 3<=sizeLine;decide),fun a4 ha4=>?_⟩
 have sa4:=ae ha4 (.tup [.str "less",fv,.ref a3])
 have ga4:(upd I3 a4 (.tup [.str "less",fv,.ref a3])) a4=some (.tup [.str "less",fv,.ref a3]):=ab
 generalize upd I3 a4 (.tup [.str "less",fv,.ref a3])=I4 at sa4 ga4 ⊢
 refine ⟨_,rfl,_,rfl,?_⟩
 refine ⟨(by show 3<=sizeLine;decide),fun a5 ha5=>?_⟩
 have sa5:=ae ha5 (.tup [.str "least",ov,fv])
 have ga5:(upd I4 a5 (.tup [.str "least",ov,fv])) a5=some (.tup [.str "least",ov,fv]):=ab
 generalize upd I4 a5 (.tup [.str "least",ov,fv])=I5 at sa5 ga5 ⊢
 refine ⟨(by show 4<=sizeLine;decide),fun a6 ha6=>?_⟩
 have sa6:=ae ha6 (.lst [.ref a1,.ref a2,.ref a4,.ref a5])
 have ga6:(upd I5 a6 (.lst [.ref a1,.ref a2,.ref a4,.ref a5])) a6=some (.lst [.ref a1,.ref a2,.ref a4,.ref a5]):=ab
 generalize upd I5 a6 (.lst [.ref a1,.ref a2,.ref a4,.ref a5])=I6 at sa6 ga6 ⊢
 have SL:Same H5 I6:=(sa1.trans (sa2.trans (sa3.trans (sa4.trans (sa5.trans sa6)))))
 refine ⟨p,a6,ms,_,rfl,rfl,SL _ _ gp,ga6,Nat.le_of_lt (ao (by rw [hl];show 12<=1000;decide)),fun p9 hp9=>?_⟩
 have s9:=ae hp9 (.lst (ms++[.ref a1,.ref a2,.ref a4,.ref a5]))
 have g9:(upd I6 p9 (.lst (ms++[.ref a1,.ref a2,.ref a4,.ref a5]))) p9=some (.lst (ms++[.ref a1,.ref a2,.ref a4,.ref a5])):=ab
 generalize upd I6 p9 (.lst (ms++[.ref a1,.ref a2,.ref a4,.ref a5]))=H9 at s9 g9 ⊢
 have SN:Same H5 H9:=SL.trans s9
 have tkN:=aF SN
 have r0:Rep H9 (.num (-2)) (.ref a1):=⟨a1,rfl,(s9 _ _ (sa6 _ _ (sa5 _ _ (sa4 _ _ (sa3 _ _ (sa2 _ _ ga1))))))⟩
 have r1:Rep H9 (.bin "plus" fm om) (.ref a2):=⟨a2,fv,ov,rfl,(s9 _ _ (sa6 _ _ (sa5 _ _ (sa4 _ _ (sa3 _ _ ga2))))),(hR.mono tkN),(hO.mono tkN)⟩
 have r2:Rep H9 (.bin "less" fm (.num 0)) (.ref a4):=⟨a4,fv,.ref a3,rfl,(s9 _ _ (sa6 _ _ (sa5 _ _ ga4))),(hR.mono tkN),⟨a3,rfl,(s9 _ _ (sa6 _ _ (sa5 _ _ (sa4 _ _ ga3))))⟩⟩
 have r3:Rep H9 (.bin "least" om fm) (.ref a5):=⟨a5,ov,fv,rfl,(s9 _ _ (sa6 _ _ ga5)),(hO.mono tkN),(hR.mono tkN)⟩
 have pn:Paired (GmB fm om H9) [(.num (-2)),(.bin "plus" fm om),(.bin "less" fm (.num 0)),(.bin "least" om fm)] [.ref a1,.ref a2,.ref a4,.ref a5]:=(.cons ⟨r0,(Win.num (by decide)),(by show 1<=2*fm.size+2;have:=fm.size_pos;lia)⟩ (.cons ⟨r1,(Win.bin (by decide +kernel) (Win.f hwf) (Win.o how)),(by show (fm.size+om.size+1)<=2*fm.size+2;have:=fm.size_pos;lia)⟩ (.cons ⟨r2,(Win.bin (by decide +kernel) (Win.f hwf) (Win.num (by decide))),(by show (fm.size+1+1)<=2*fm.size+2;have:=fm.size_pos;lia)⟩ (.cons ⟨r3,(Win.bin (by decide +kernel) (Win.o how) (Win.f hwf)),(by show (om.size+fm.size+1)<=2*fm.size+2;have:=fm.size_pos;lia)⟩ .nil))))
 exact hnext D tp fv ov fm om p9 _ _ H H9 (k5.same SN) (tt5.same SN) (hR.mono tkN) hwf (hO.mono tkN) how ho1 g9 (Paired.app (Paired.mapP hP fun _ _ h=>h.mono tkN) pn) (by rw [List.length_append,hl];rfl) q
theorem vX {cdv:Value} {A:Around} {outer:List Env} {s:Shared} {H0:Hp} {E:XK}
  (GD:FnOk P w K mg base CX0 1 f2 fd2 ["tape","many"] aT) (bD:Binds K fd2 ["tape","many"] []) (kD:PySem.W.keepIn K (.ref f2)=true) (mD:mg "_law_digit"=some (.ref f2))
  (hr:Room 1 (bZ CX0 P w K mg base NBe "_law_bent" (ag cC) f cdv A outer s H0 E).nox.A):
  ∃ t,PSs (bZ CX0 P w K mg base NBe "_law_bent" (ag cC) f cdv A outer s H0 E).nox (beBody.drop 1) t/\
   ∀ (D:cL) (tp:Addr) (fv ov:V) (fm om:Fm) (p:Addr) (ms:List V) (gs:List Fm) (H H5:Hp),Kp tp H H5->Tp H5 tp->Rep H5 fm fv->fm.wf->Rep H5 om ov->om.wf->om.size=1->H5 p=some (.lst ms)->Paired (GmB fm om H5) gs ms->ms.length=4->
    (∀ v g H',Rep H' g v->Win fm om g->g.size<=2*fm.size+2->Kp tp H H'->Tp H' tp->D.rt v H')->
    t D [some (.ref tp),some fv,some ov,some (.ref p)] H5:=by
 obtain ⟨t,ht,hnext⟩:=vW (f:=f) (cdv:=cdv) (A:=A) (outer:=outer) (s:=s) (H0:=H0) (E:=E) GD bD kD mD hr
 refine ⟨_,ad (al (i:=3) scBentP.nd rfl (Or.inl rfl) (ay gU (pv 3) (aY (pac (aB (pac aE (pac (aB (pac aE (pac af ac))) (pac (pv 1) ac)))) (pac (aB (pac aE (pac (aB (pac aE (pac af ac))) (pac (pv 1) (pac (pv 1) ac))))) (pac (pv 2) (pac (aB (pac aE (pac af ac))) ac))))))) ht,?_⟩
 intro D tp fv ov fm om p ms gs H H5 k5 tt5 hR hwf hO how ho1 gp hP hl q
 refine ⟨_,rfl,?_⟩
 refine ⟨(by show 2<=sizeLine;decide),fun a1 ha1=>?_⟩
 have sa1:=ae ha1 (.tup [.str "num",.int 2])
 have ga1:(upd H5 a1 (.tup [.str "num",.int 2])) a1=some (.tup [.str "num",.int 2]):=ab
 generalize upd H5 a1 (.tup [.str "num",.int 2])=I1 at sa1 ga1 ⊢
 refine ⟨_,rfl,?_⟩
 refine ⟨(by show 3<=sizeLine;decide),fun a2 ha2=>?_⟩
 have sa2:=ae ha2 (.tup [.str "times",.ref a1,fv])
 have ga2:(upd I1 a2 (.tup [.str "times",.ref a1,fv])) a2=some (.tup [.str "times",.ref a1,fv]):=ab
 generalize upd I1 a2 (.tup [.str "times",.ref a1,fv])=I2 at sa2 ga2 ⊢
 refine ⟨(by show 2<=sizeLine;decide),fun a3 ha3=>?_⟩
 have sa3:=ae ha3 (.tup [.str "num",.int 0])
 have ga3:(upd I2 a3 (.tup [.str "num",.int 0])) a3=some (.tup [.str "num",.int 0]):=ab
 generalize upd I2 a3 (.tup [.str "num",.int 0])=I3 at sa3 ga3 ⊢
 refine ⟨_,rfl,_,rfl,?_⟩
 refine ⟨(by show 4<=sizeLine;decide),fun a4 ha4=>?_⟩
 have sa4:=ae ha4 (.tup [.str "when",.ref a3,fv,fv])
 have ga4:(upd I3 a4 (.tup [.str "when",.ref a3,fv,fv])) a4=some (.tup [.str "when",.ref a3,fv,fv]):=ab
 generalize upd I3 a4 (.tup [.str "when",.ref a3,fv,fv])=I4 at sa4 ga4 ⊢
 refine ⟨_,rfl,?_⟩
 refine ⟨(by show 2<=sizeLine;decide),fun a5 ha5=>?_⟩
 have sa5:=ae ha5 (.tup [.str "num",.int 3])
 have ga5:(upd I4 a5 (.tup [.str "num",.int 3])) a5=some (.tup [.str "num",.int 3]):=ab
 generalize upd I4 a5 (.tup [.str "num",.int 3])=I5 at sa5 ga5 ⊢
 refine ⟨(by show 4<=sizeLine;decide),fun a6 ha6=>?_⟩
 have sa6:=ae ha6 (.lst [.ref a2,.ref a4,ov,.ref a5])
 have ga6:(upd I5 a6 (.lst [.ref a2,.ref a4,ov,.ref a5])) a6=some (.lst [.ref a2,.ref a4,ov,.ref a5]):=ab
 generalize upd I5 a6 (.lst [.ref a2,.ref a4,ov,.ref a5])=I6 at sa6 ga6 ⊢
 have SL:Same H5 I6:=(sa1.trans (sa2.trans (sa3.trans (sa4.trans (sa5.trans sa6)))))
 refine ⟨p,a6,ms,_,rfl,rfl,SL _ _ gp,ga6,Nat.le_of_lt (ao (by rw [hl];show 8<=1000;decide)),fun p9 hp9=>?_⟩
 have s9:=ae hp9 (.lst (ms++[.ref a2,.ref a4,ov,.ref a5]))
 have g9:(upd I6 p9 (.lst (ms++[.ref a2,.ref a4,ov,.ref a5]))) p9=some (.lst (ms++[.ref a2,.ref a4,ov,.ref a5])):=ab
 generalize upd I6 p9 (.lst (ms++[.ref a2,.ref a4,ov,.ref a5]))=H9 at s9 g9 ⊢
 have SN:Same H5 H9:=SL.trans s9
 have tkN:=aF SN
 have r0:Rep H9 (.bin "times" (.num 2) fm) (.ref a2):=⟨a2,.ref a1,fv,rfl,(s9 _ _ (sa6 _ _ (sa5 _ _ (sa4 _ _ (sa3 _ _ ga2))))),⟨a1,rfl,(s9 _ _ (sa6 _ _ (sa5 _ _ (sa4 _ _ (sa3 _ _ (sa2 _ _ ga1))))))⟩,(hR.mono tkN)⟩
 have r1:Rep H9 (.whn (.num 0) fm fm) (.ref a4):=⟨a4,.ref a3,fv,fv,rfl,(s9 _ _ (sa6 _ _ (sa5 _ _ ga4))),⟨a3,rfl,(s9 _ _ (sa6 _ _ (sa5 _ _ (sa4 _ _ ga3))))⟩,(hR.mono tkN),(hR.mono tkN)⟩
 have r2:Rep H9 om (ov):=(hO.mono tkN)
 have r3:Rep H9 (.num 3) (.ref a5):=⟨a5,rfl,(s9 _ _ (sa6 _ _ ga5))⟩
 have pn:Paired (GmB fm om H9) [(.bin "times" (.num 2) fm),(.whn (.num 0) fm fm),om,(.num 3)] [.ref a2,.ref a4,ov,.ref a5]:=(.cons ⟨r0,(Win.bin (by decide +kernel) (Win.num (by decide)) (Win.f hwf)),(by show (1+fm.size+1)<=2*fm.size+2;have:=fm.size_pos;lia)⟩ (.cons ⟨r1,(Win.whn (Win.num (by decide)) (Win.f hwf) (Win.f hwf)),(by show (1+fm.size+fm.size+1)<=2*fm.size+2;have:=fm.size_pos;lia)⟩ (.cons ⟨r2,(Win.o how),(by show om.size<=2*fm.size+2;have:=fm.size_pos;lia)⟩ (.cons ⟨r3,(Win.num (by decide)),(by show 1<=2*fm.size+2;have:=fm.size_pos;lia)⟩ .nil))))
 exact hnext D tp fv ov fm om p9 _ _ H H9 (k5.same SN) (tt5.same SN) (hR.mono tkN) hwf (hO.mono tkN) how ho1 g9 (Paired.app (Paired.mapP hP fun _ _ h=>h.mono tkN) pn) (by rw [List.length_append,hl];rfl) q
theorem vY {cdv:Value} {A:Around} {outer:List Env} {s:Shared} {H0:Hp} {E:XK}
  (GD:FnOk P w K mg base CX0 1 f2 fd2 ["tape","many"] aT) (bD:Binds K fd2 ["tape","many"] []) (kD:PySem.W.keepIn K (.ref f2)=true) (mD:mg "_law_digit"=some (.ref f2))
  (hr:Room 1 (bZ CX0 P w K mg base NBe "_law_bent" (ag cC) f cdv A outer s H0 E).nox.A):
  ∃ t,PSs (bZ CX0 P w K mg base NBe "_law_bent" (ag cC) f cdv A outer s H0 E).nox (beBody.drop 0) t/\
   ∀ (D:cL) (tp:Addr) (fv ov:V) (fm om:Fm) (o3:Option V) (H H5:Hp),Kp tp H H5->Tp H5 tp->Rep H5 fm fv->fm.wf->Rep H5 om ov->om.wf->om.size=1->
    (∀ v g H',Rep H' g v->Win fm om g->g.size<=2*fm.size+2->Kp tp H H'->Tp H' tp->D.rt v H')->
    t D [some (.ref tp),some fv,some ov,o3] H5:=by
 obtain ⟨t,ht,hnext⟩:=vX (f:=f) (cdv:=cdv) (A:=A) (outer:=outer) (s:=s) (H0:=H0) (E:=E) GD bD kD mD hr
 refine ⟨_,ad (al (i:=3) scBentP.nd rfl (Or.inl rfl) (aY (pac (aB (pac aE (pac (pv 1) (pac (aB (pac aE (pac (fG dB af) ac))) ac)))) (pac (aB (pac aE (pac (pv 1) (pac (pv 2) ac)))) (pac (aB (pac aE (pac (pv 1) (pac (pv 2) ac)))) (pac (aB (pac aE (pac (pv 2) (pac (pv 1) ac)))) ac)))))) ht,?_⟩
 intro D tp fv ov fm om o3 H H5 k5 tt5 hR hwf hO how ho1  q
 refine ⟨_,rfl,1,rfl,?_⟩
 refine ⟨(by show 2<=sizeLine;decide),fun a1 ha1=>?_⟩
 have sa1:=ae ha1 (.tup [.str "num",.int (-1)])
 have ga1:(upd H5 a1 (.tup [.str "num",.int (-1)])) a1=some (.tup [.str "num",.int (-1)]):=ab
 generalize upd H5 a1 (.tup [.str "num",.int (-1)])=I1 at sa1 ga1 ⊢
 refine ⟨(by show 3<=sizeLine;decide),fun a2 ha2=>?_⟩
 have sa2:=ae ha2 (.tup [.str "plus",fv,.ref a1])
 have ga2:(upd I1 a2 (.tup [.str "plus",fv,.ref a1])) a2=some (.tup [.str "plus",fv,.ref a1]):=ab
 generalize upd I1 a2 (.tup [.str "plus",fv,.ref a1])=I2 at sa2 ga2 ⊢
 refine ⟨_,rfl,_,rfl,?_⟩
 refine ⟨(by show 3<=sizeLine;decide),fun a3 ha3=>?_⟩
 have sa3:=ae ha3 (.tup [.str "least",fv,ov])
 have ga3:(upd I2 a3 (.tup [.str "least",fv,ov])) a3=some (.tup [.str "least",fv,ov]):=ab
 generalize upd I2 a3 (.tup [.str "least",fv,ov])=I3 at sa3 ga3 ⊢
 refine ⟨_,rfl,_,rfl,?_⟩
 refine ⟨(by show 3<=sizeLine;decide),fun a4 ha4=>?_⟩
 have sa4:=ae ha4 (.tup [.str "less",fv,ov])
 have ga4:(upd I3 a4 (.tup [.str "less",fv,ov])) a4=some (.tup [.str "less",fv,ov]):=ab
 generalize upd I3 a4 (.tup [.str "less",fv,ov])=I4 at sa4 ga4 ⊢
 refine ⟨_,rfl,_,rfl,?_⟩
 refine ⟨(by show 3<=sizeLine;decide),fun a5 ha5=>?_⟩
 have sa5:=ae ha5 (.tup [.str "most",ov,fv])
 have ga5:(upd I4 a5 (.tup [.str "most",ov,fv])) a5=some (.tup [.str "most",ov,fv]):=ab
 generalize upd I4 a5 (.tup [.str "most",ov,fv])=I5 at sa5 ga5 ⊢
 refine ⟨(by show 4<=sizeLine;decide),fun a6 ha6=>?_⟩
 have sa6:=ae ha6 (.lst [.ref a2,.ref a3,.ref a4,.ref a5])
 have ga6:(upd I5 a6 (.lst [.ref a2,.ref a3,.ref a4,.ref a5])) a6=some (.lst [.ref a2,.ref a3,.ref a4,.ref a5]):=ab
 generalize upd I5 a6 (.lst [.ref a2,.ref a3,.ref a4,.ref a5])=I6 at sa6 ga6 ⊢
 have SN:Same H5 I6:=(sa1.trans (sa2.trans (sa3.trans (sa4.trans (sa5.trans sa6)))))
 have tkN:=aF SN
 have r0:Rep I6 (.bin "plus" fm (.num (-1))) (.ref a2):=⟨a2,fv,.ref a1,rfl,(id (sa6 _ _ (sa5 _ _ (sa4 _ _ (sa3 _ _ ga2))))),(hR.mono tkN),⟨a1,rfl,(id (sa6 _ _ (sa5 _ _ (sa4 _ _ (sa3 _ _ (sa2 _ _ ga1))))))⟩⟩
 have r1:Rep I6 (.bin "least" fm om) (.ref a3):=⟨a3,fv,ov,rfl,(id (sa6 _ _ (sa5 _ _ (sa4 _ _ ga3)))),(hR.mono tkN),(hO.mono tkN)⟩
 have r2:Rep I6 (.bin "less" fm om) (.ref a4):=⟨a4,fv,ov,rfl,(id (sa6 _ _ (sa5 _ _ ga4))),(hR.mono tkN),(hO.mono tkN)⟩
 have r3:Rep I6 (.bin "most" om fm) (.ref a5):=⟨a5,ov,fv,rfl,(id (sa6 _ _ ga5)),(hO.mono tkN),(hR.mono tkN)⟩
 have pn:Paired (GmB fm om I6) [(.bin "plus" fm (.num (-1))),(.bin "least" fm om),(.bin "less" fm om),(.bin "most" om fm)] [.ref a2,.ref a3,.ref a4,.ref a5]:=(.cons ⟨r0,(Win.bin (by decide +kernel) (Win.f hwf) (Win.num (by decide))),(by show (fm.size+1+1)<=2*fm.size+2;have:=fm.size_pos;lia)⟩ (.cons ⟨r1,(Win.bin (by decide +kernel) (Win.f hwf) (Win.o how)),(by show (fm.size+om.size+1)<=2*fm.size+2;have:=fm.size_pos;lia)⟩ (.cons ⟨r2,(Win.bin (by decide +kernel) (Win.f hwf) (Win.o how)),(by show (fm.size+om.size+1)<=2*fm.size+2;have:=fm.size_pos;lia)⟩ (.cons ⟨r3,(Win.bin (by decide +kernel) (Win.o how) (Win.f hwf)),(by show (om.size+fm.size+1)<=2*fm.size+2;have:=fm.size_pos;lia)⟩ .nil))))
 exact hnext D tp fv ov fm om a6 _ _ H I6 (k5.same SN) (tt5.same SN) (hR.mono tkN) hwf (hO.mono tkN) how ho1 ga6 pn rfl q
theorem Win.of {f f' o g:Fm} (h:Win f o g) (h1: ∀ x∈f.rdk,x∈f'.rdk) (h2: ∀ k∈f.prt,k∈f'.prt):Win f' o g:=⟨h.wf,fun x hx=>(h.rd x hx).imp (h1 x) id,fun x hx=>(h.pt x hx).imp (h2 x) id⟩
noncomputable def fi (n:Nat):Sp:=fun vs H Q _=> ∃ (tp:Addr) (fv ov:V) (fm om:Fm),vs=[.ref tp,fv,ov]/\Tp H tp/\Rep H fm fv/\fm.wf/\fm.size<=n/\Rep H om ov/\om.wf/\om.size=1/\ ∀ v g H',Rep H' g v->Win fm om g->g.size<=2*fm.size+2->Kp tp H H'->Tp H' tp->Q v H'
theorem q0 {n:Nat} (F:Fun K "_law_bent" "_law_bent" cC f fd)
  (GD:FnOk P w K mg base CX0 1 f2 fd2 ["tape","many"] aT) (bD:Binds K fd2 ["tape","many"] []) (kD:PySem.W.keepIn K (.ref f2)=true) (mD:mg "_law_digit"=some (.ref f2))
  (GB:FnOk P w K mg base CX0 (n+1) f fd ["tape","formula","one"] (fi n)) (bB:Binds K fd ["tape","formula","one"] []) (mB:mg "_law_bent"=some (.ref f)):
  FnOk P w K mg base CX0 (n+2) f fd ["tape","formula","one"] (fi (n+1)):=by
 refine F.ok scBentP (fun vs H Q E h=>?_) (fun cdv A outer s H vs Q E hr h=>?_)
 ·obtain ⟨tp,fv,ov,_,_,rfl,_⟩:=h
  rfl
 obtain ⟨tp,fv,ov,fm,om,rfl,hT,hR,hwf,hsz,hO,how,ho1,q⟩:=h
 have hr1:=hr.mono (show 1<=n+1 by lia)
 obtain ⟨t0,p0,h0⟩:=vY (f:=f) (cdv:=cdv) (A:=A) (outer:=outer) (s:=s) (H0:=H) (E:=E) GD bD kD mD hr1
 refine ⟨_,ad (aV (PW.pt (iI (au dq (aq aw (pv 1) af (fun _ _=>rfl)) (aB (pac aE (pac aE ac))) (by with_unfolding_all rfl)) (fq (au cp (ak GD hr1 rfl mD kD bD .nil am (aa (pv 0) (aa af ac))) af (aH _))))) p0 aK)
  (ad (aV (au cp (ak GD hr1 rfl mD kD bD .nil am (aa (pv 0) (aa af ac))) af (aH _))
   (aj (ax (aB (aa (aq aw (pv 1) af (fun _ _=>rfl)) (aa (ak GB hr rfl mB F.kp bB .nil am (aa (pv 0) (aa (aq aw (pv 1) af (fun _ _=>rfl)) (aa (pv 2) ac)))) (aa (aq aw (pv 1) af (fun _ _=>rfl)) ac)))))) aK)
  (aj (ax (aB (aa (aq aw (pv 1) af (fun _ _=>rfl)) (aa (aq aw (pv 1) af (fun _ _=>rfl)) (aa (ak GB hr rfl mB F.kp bB .nil am (aa (pv 0) (aa (aq aw (pv 1) af (fun _ _=>rfl)) (aa (pv 2) ac)))) ac))))))),?_⟩
 obtain ⟨a0,r0,rfl,ha0⟩:=eM hR
 refine ⟨_,rfl,a0,_,0,.str (bi fm),rfl,rfl,SqT.of ha0,bY,(by show 2<=sizeLine;decide),fun p1 hp1=>?_⟩
 have s1:=ae hp1 (.tup [.str "plus",.str "most"])
 have g1:(upd H p1 (.tup [.str "plus",.str "most"])) p1=some (.tup ((["plus","most"]:List Str).map V.str)):=ab
 generalize upd H p1 (.tup [.str "plus",.str "most"])=H1 at s1 g1 ⊢
 have t1:=hT.same s1
 have tk1:=aF s1
 have leaf: ∀ (D:cL) H',D.rt=Q->Kp tp H H'->Tp H' tp->Rep H' fm (.ref a0)->Rep H' om ov->t0 D [some (.ref tp),some (.ref a0),some ov,none] H':=fun D H' e k t r o=>h0 D tp (.ref a0) ov fm om none H H' k t r hwf o how ho1 (by rw [e];exact q)
 refine ⟨p1,_,rfl,.inr (SqT.of g1),rfl,cb,_,rfl,?_⟩
 refine (show if (!inV (.str (bi fm)) ((["plus","most"]:List Str).map V.str))=true then _ else _ from ?_)
 rw [cD]
 by_cases hh:bi fm∈(["plus","most"]:List Str)
 rotate_left
 ·rw [decide_eq_false hh]
  exact bg (bg (leaf _ H1 rfl (Kp.refl.same s1) t1 (hR.mono tk1) (hO.mono tk1)))
 rw [decide_eq_true hh]
 refine aU ⟨_,rfl,tp,3,rfl,t1,by decide,by decide,fun d t d0 d1=>?_⟩
 have k2:Kp tp H (upd H1 tp (.lst [.int t])):=(Kp.refl.same s1).trans Kp.tape
 have t2:Tp (upd H1 tp (.lst [.int t])) tp:=⟨t,ab⟩
 generalize upd H1 tp (.lst [.int t])=H2 at k2 t2 ⊢
 have tk2:=k2.tk hT
 refine ⟨rfl,_,rfl,?_⟩
 by_cases cd:d=0
 ·rw [decide_eq_true (show V.int d=V.int 0 by rw [cd])]
  exact bg (leaf _ H2 rfl k2 t2 (hR.mono tk2) (hO.mono tk2))
 rw [decide_eq_false (show ¬ V.int d=V.int 0 from fun z=>cd (V.int.inj z))]
 refine aU ?_
 obtain ⟨op,x,y,rfl⟩: ∃ op x y,fm=.bin op x y:=by
  cases fm with
  | num _=>exact absurd (show ("num":Str)∈_ from hh) (by decide +kernel)
  | own _=>exact absurd (show ("own":Str)∈_ from hh) (by decide +kernel)
  | part _ _=>exact absurd (show ("part":Str)∈_ from hh) (by decide +kernel)
  | bin op x y=>exact ⟨op,x,y,rfl⟩
  | whn _ _ _=>exact absurd (show ("when":Str)∈_ from hh) (by decide +kernel)
 obtain ⟨a1,u1,u2,ea,ha,q1,q2⟩:=id hR
 cases ea
 obtain ⟨wo,w1,w2⟩:op∈ops/\x.wf/\y.wf:=hwf
 have hz:x.size+y.size+1<=n+1:=hsz
 refine ⟨_,rfl,tp,2,rfl,t2,by decide,by decide,fun c t' c0 c1=>?_⟩
 have k3:Kp tp H (upd H2 tp (.lst [.int t'])):=k2.trans Kp.tape
 have t3:Tp (upd H2 tp (.lst [.int t'])) tp:=⟨t',ab⟩
 generalize upd H2 tp (.lst [.int t'])=H3 at k3 t3 ⊢
 have tk3:=k3.tk hT
 have ha3:=tk3 _ _ ha
 refine ⟨rfl,_,rfl,?_⟩
 have ix:=fun (x:Fm)=>x.size_pos
 by_cases cc:c=0
 ·rw [decide_eq_true (show V.int c=V.int 0 by rw [cc])]
  refine bg ⟨_,rfl,a0,_,0,.str op,rfl,rfl,SqT.of ha3,bY,_,rfl,_,rfl,a0,_,1,u1,rfl,rfl,SqT.of ha3,ar (j:=1) rfl,_,rfl,tp,u1,ov,x,om,rfl,t3,q1.mono tk3,w1,by lia,hO.mono tk3,how,ho1,fun v g H4 hv hw hs k4 t4=>?_⟩
  have k4':=k3.trans k4
  have tk4:=k4'.tk hT
  refine ⟨_,rfl,a0,_,2,u2,rfl,rfl,SqT.of (tk4 _ _ ha),ar (j:=2) rfl,(by show 3<=sizeLine;decide),fun p5 h5=>?_⟩
  have s5:=ae h5 (.tup [.str op,v,u2])
  have g5:(upd H4 p5 (.tup [.str op,v,u2])) p5=some (.tup [.str op,v,u2]):=ab
  generalize upd H4 p5 (.tup [.str op,v,u2])=H5 at s5 g5 ⊢
  refine q (.ref p5) (.bin op g y) H5 ⟨p5,v,u2,rfl,g5,hv.mono (aF s5),(q2.mono tk4).mono (aF s5)⟩ (Win.bin wo (hw.of (fun z hz=>List.mem_append_left _ hz) fun z hz=>List.mem_append_left _ hz) ⟨w2,fun z hz=>.inl (List.mem_append_right _ hz),fun z hz=>.inl (List.mem_append_right _ hz)⟩) ?_ (k4'.same s5) (t4.same s5)
  show g.size+y.size+1<=2* (x.size+y.size+1) +2
  lia
 ·rw [decide_eq_false (show ¬ V.int c=V.int 0 from fun z=>cc (V.int.inj z))]
  refine aU ⟨_,rfl,a0,_,0,.str op,rfl,rfl,SqT.of ha3,bY,_,rfl,a0,_,1,u1,rfl,rfl,SqT.of ha3,ar (j:=1) rfl,_,rfl,_,rfl,a0,_,2,u2,rfl,rfl,SqT.of ha3,ar (j:=2) rfl,_,rfl,tp,u2,ov,y,om,rfl,t3,q2.mono tk3,w2,by lia,hO.mono tk3,how,ho1,fun v g H4 hv hw hs k4 t4=>?_⟩
  have k4':=k3.trans k4
  have tk4:=k4'.tk hT
  refine ⟨(by show 3<=sizeLine;decide),fun p5 h5=>?_⟩
  have s5:=ae h5 (.tup [.str op,u1,v])
  have g5:(upd H4 p5 (.tup [.str op,u1,v])) p5=some (.tup [.str op,u1,v]):=ab
  generalize upd H4 p5 (.tup [.str op,u1,v])=H5 at s5 g5 ⊢
  refine q (.ref p5) (.bin op x g) H5 ⟨p5,u1,v,rfl,g5,(q1.mono tk4).mono (aF s5),hv.mono (aF s5)⟩ (Win.bin wo ⟨w1,fun z hz=>.inl (List.mem_append_left _ hz),fun z hz=>.inl (List.mem_append_left _ hz)⟩ (hw.of (fun z hz=>List.mem_append_right _ hz) fun z hz=>List.mem_append_right _ hz)) ?_ (k4'.same s5) (t4.same s5)
  show x.size+g.size+1<=2* (x.size+y.size+1) +2
  lia
theorem q5:FnOk P w K mg base CX0 1 f fd ["tape","formula","one"] (fi 0):=by
 have no: ∀ vs H Q E,¬ fi 0 vs H Q E:=fun vs H Q E h=>by
  obtain ⟨_,_,_,fm,_,_,_,_,_,h,_⟩:=h
  have:=fm.size_pos
  lia
 exact ⟨fun vs H Q E h=>absurd h (no vs H Q E),fun A outer s H args us vs Q E _ _ _ _ h=>absurd h (no vs H Q E)⟩
theorem nF (F:Fun K "_law_bent" "_law_bent" cC f fd)
  (GD:FnOk P w K mg base CX0 1 f2 fd2 ["tape","many"] aT) (bD:Binds K fd2 ["tape","many"] []) (kD:PySem.W.keepIn K (.ref f2)=true) (mD:mg "_law_digit"=some (.ref f2))
  (bB:Binds K fd ["tape","formula","one"] []) (mB:mg "_law_bent"=some (.ref f)): ∀ n:Nat,FnOk P w K mg base CX0 (n+1) f fd ["tape","formula","one"] (fi n)
 | 0=>q5
 | n+1=>q0 F GD bD kD mD (nF F GD bD kD mD bB mB n) bB mB
theorem tP {α:Type} {xs:List α} {d:Int} (h0:0<=d) (h1:d<xs.length):ixN xs.length d=some d.toNat:=by
 unfold ixN
 rw [if_pos h0,if_pos (by lia)]
theorem gQ {α β:Type} {F:α->β->Prop} {a:α} {b:β} (hab:F a b): ∀ {l:List α} {m:List β} (j:Nat),Paired F l m->Paired F (l.set j a) (m.set j b)
 | _,_,_,.nil=>.nil
 | _,_,0,.cons _ t=>.cons hab t
 | _,_,j+1,.cons h t=>.cons h (gQ hab j t)
noncomputable def Rul.chg (x:Str) (g:Fm) (r:Rul):Rul:=⟨r.pl,r.word,if r.word=x then g else r.fm⟩
noncomputable def FrP.chg (fr:FrP) (x:Str) (g:Fm):FrP:=⟨fr.name,fr.own,fr.parts,fr.rules.map (Rul.chg x g)⟩
noncomputable def BkP.chg (bk:BkP) (k:Nat) (fr:FrP):BkP:=⟨0,bk.sorts,bk.forms.set k fr⟩
structure BkO (bk:BkP) (pr:List (Str×Str)):Prop where
 w0:bk.wheel=0
 q:BkQ bk
 i:BkI bk
 f1:1<=bk.forms.length
 nd:(pr.map Prod.fst).Nodup
 p3:pr.length<=3
 pu: ∀ s∈bk.sorts,∃ y,aW pr s.name=some y/\y∈s.ups
 ws: ∀ s∈bk.sorts,s.ups.length<=2/\ ∀ x∈s.ups,cA x=true
 fo: ∀ fr∈bk.forms,∀ x g,aW pr fr.own=some x->fr.ru x=some g->g.size<=11/\ ∀ y∈g.rdk,y∈prR pr fr.parts
 ip:ipB bk pr=true
theorem l4 {g:Fm} {L:List (List Key)} (h: ∀ x∈g.rdk,x∈L) (hl:L.length<=4):(HT.ins [] (dd [] g.rdk)).length<5:=by
 have h1: ∀ x∈HT.ins [] (dd [] g.rdk),x∈L:=fun x hx=>by
  rw [jv]at hx
  rcases hx with z | z
  ·cases z
  ·rw [md]at z
   rcases z with z | z
   ·cases z
   ·exact h x z
 have:=ki (fA (l:=dd [] g.rdk) List.nodup_nil) h1
 lia
theorem rT (x:Str) (g:Fm) (rs:List Rul):(rs.map (Rul.chg x g)).map (fun r=>(r.pl,r.word))=rs.map fun r=>(r.pl,r.word):=by
 rw [List.map_map]
 rfl
theorem uY (fr:FrP) (x y:Str) (g:Fm):(fr.chg x g).ru y=(fr.ru y).map fun h=>if y=x then g else h:=by
 unfold FrP.ru FrP.chg
 rw [List.find?_map]
 have:(fun r:Rul=>decide (r.pl= -1/\r.word=y))∘Rul.chg x g=fun r=>decide (r.pl= -1/\r.word=y):=rfl
 rw [this]
 cases hf:fr.rules.find? (fun r=>decide (r.pl= -1/\r.word=y))with
 | none=>rfl
 | some r=>
  have h2:decide (r.pl= -1/\r.word=y)=true:=List.find?_some (p:=fun r:Rul=>decide (r.pl= -1/\r.word=y)) hf
  have h3:=(of_decide_eq_true h2).2
  show some (if r.word=x then g else r.fm)=some (if y=x then g else r.fm)
  rw [h3]
theorem BkO.chg {bk:BkP} {pr:List (Str×Str)} (h:BkO bk pr) {k:Nat} {fr:FrP} {x:Str} {g:Fm} (hk:bk.forms[k]? =some fr) (wg:g.wf) (sg:g.size<=40) (ig:g.inP fr.parts.length) (rg:(HT.ins [] (dd [] g.rdk)).length<5):BkQ (bk.chg k (fr.chg x g))/\BkI (bk.chg k (fr.chg x g)):=by
 have hfm:=List.mem_of_getElem? hk
 have mem: ∀ fr'∈(bk.chg k (fr.chg x g)).forms,fr'∈bk.forms\/fr'=fr.chg x g:=fun fr' hf=>List.mem_or_eq_of_mem_set hf
 refine ⟨⟨h.q.s1,h.q.s3,h.q.nd,?_,fun fr' hf=>?_⟩,fun fr' hf r hr=>?_⟩
 ·show (bk.forms.set k _).length<=20
  rw [List.length_set]
  exact h.q.few
 ·rcases mem fr' hf with z | z
  ·exact h.q.fo fr' z
  ·subst z
   obtain ⟨⟨a1,a2,a3,a4⟩,a5,a6,a7,a8⟩:=h.q.fo fr hfm
   refine ⟨⟨?_,?_,a3,fun r hr=>?_⟩,a5,a6,a7,fun s hs e y hy=>?_⟩
   ·show (fr.rules.map _).length<=12
    rw [List.length_map]
    exact a1
   ·show ((fr.rules.map (Rul.chg x g)).map fun r=>(r.pl,r.word)).Nodup
    rw [rT]
    exact a2
   ·obtain ⟨r0,hr0,rfl⟩:=List.mem_map.mp (show r∈fr.rules.map (Rul.chg x g)from hr)
    show Fm.wf (if r0.word=x then g else r0.fm)/\Fm.size (if r0.word=x then g else r0.fm)<=40
    split
    ·exact ⟨wg,sg⟩
    ·exact a4 r0 hr0
   ·obtain ⟨g0,e0,hg0⟩:=a8 s hs e y hy
    rw [uY,e0]
    by_cases c:y=x
    ·exact ⟨g,by simp [c],wg,sg,rg⟩
    ·exact ⟨g0,by simp [c],hg0⟩
 ·rcases mem fr' hf with z | z
  ·exact h.i fr' z r hr
  ·subst z
   obtain ⟨r0,hr0,rfl⟩:=List.mem_map.mp (show r∈fr.rules.map (Rul.chg x g)from hr)
   obtain ⟨b1,b2⟩:=h.i fr hfm r0 hr0
   refine ⟨b1,?_⟩
   show Fm.inP fr.parts.length (if r0.word=x then g else r0.fm)
   split
   ·exact ig
   ·exact b2
noncomputable abbrev NCh:List Str:=["tape","book","pricing","k","name","own","parts","rules","readings","j","word","one","made","forms","changed","at","formula"]
theorem scChanged:aA NCh ["tape","book","pricing"] (ag cP):=fsc
theorem vU {cdv:Value} {A:Around} {outer:List Env} {s:Shared} {H0:Hp} {E:XK} (G:Gb mg) (hlist:mg "list"=none) (hint:mg "int"=none)
  (hr:Room 1 (bZ CX0 P w K mg base NCh "_law_changed" (ag cP) f cdv A outer s H0 E).nox.A):
  ∃ t,PSs (bZ CX0 P w K mg base NCh "_law_changed" (ag cP) f cdv A outer s H0 E).nox ((bx cP).drop 7) t/\
   ∀ (D:cL) (H H7:Hp) (tp b sa fa a pa ra d:Addr) (fv rv:List V) (bk:BkP) (k:Nat) (fr:FrP) (pr:List (Str×Str)) (x:Str) (gm:Fm) (mv:V) (o8 o9 o10 o11 o13 o14 o15 o16:Option V),
    Tp H tp->Kp tp H H7->Tp H7 tp->H b=some (.tup [.int bk.wheel,.ref sa,.ref fa])->SrtsAt H sa bk.sorts->H fa=some (.tup fv)->RepFPs H bk.forms fv->bk.forms[k]? =some fr->bk.forms.length<=20->
    H a=some (.tup [.str fr.name,.str fr.own,.ref pa,.ref ra])->H pa=some (.tup (fr.parts.map V.str))->H ra=some (.tup rv)->RepRs H fr.rules rv->fr.rules.length<=12->
    H d=some (.dK (prK pr))->d≠tp->aW pr fr.own=some x->Rep H7 gm mv->
    (∀ v H',RepBP H' (bk.chg k (fr.chg x gm)) v->Kp tp H H'->Tp H' tp->D.rt v H')->
    t D [some (.ref tp),some (.ref b),some (.ref d),some (.int k),some (.str fr.name),some (.str fr.own),some (.ref pa),some (.ref ra),o8,o9,o10,o11,some mv,o13,o14,o15,o16] H7:=by
 have hu:=cT hr
 refine ⟨_,ad (al (i:=13) scChanged.nd rfl (Or.inl rfl) (aS fc rfl hlist (by decide +kernel) (aa (aq aw (pv 1) af (fun _ _=>rfl)) ac)))
  (ad (al (i:=14) scChanged.nd rfl (Or.inl rfl) (aY ac))
  (ad (bA PassesOwn.never rfl (cG (pv 7)) (cQ rfl (aG (av (i:=15) scChanged.nd rfl (Or.inl rfl)) (aG (av (i:=10) scChanged.nd rfl (Or.inl rfl)) (aG (av (i:=16) scChanged.nd rfl (Or.inl rfl)) cn))))
   (aj (bG (c9 PySem.F.plainAttrs_list PySem.F.slot_list_append PySem.F.type_list_append bo (pv 14) (aa (aB (aa (pv 15) (aa (pv 10) (aa (aq aO (aY (aa (pv 16) (aa (pv 12) ac))) (aS pI rfl hint (by decide +kernel) (aa (di cp (pv 10) (bq hu (pv 2) (pv 5) (fun _ _=>rfl)) (aH _)) ac)) (fun _ _=>rfl)) ac)))) ac)))))
  (ad (dZ (aB (aa (pv 4) (aa (pv 5) (aa (pv 6) (aa (aS bm rfl G.tuple (by decide +kernel) (aa (pv 14) ac)) ac))))) (qJ (pv 13) (pv 3) jY))
  (aj (ax (aB (aa af (aa (aq aw (pv 1) af (fun _ _=>rfl)) (aa (aS bm rfl G.tuple (by decide +kernel) (aa (pv 13) ac)) ac))))))))),?_⟩
 intro D H H7 tp b sa fa a pa ra d fv rv bk k fr pr x gm mv o8 o9 o10 o11 o13 o14 o15 o16 hT k7 t7 hb hS hfa hF hk h20 ha hpa hra hRr h12 hd ndt ex hmv q
 have lF:=hF.len
 have lR:=hRr.len
 have hkl:k<bk.forms.length:=(List.getElem?_eq_some_iff.mp hk).1
 have tk7:=k7.tk hT
 refine ⟨_,rfl,b,_,2,.ref fa,rfl,rfl,SqT.of (tk7 _ _ hb),ar (j:=2) rfl,fa,_,rfl,.inr (SqT.of (tk7 _ _ hfa)),fun fl hfl=>?_⟩
 have nft:=ck t7 hfl
 have hfl0:=eQ k7 t7 hfl
 have s8:=ae hfl (.lst fv)
 have g8:(upd H7 fl (.lst fv)) fl=some (.lst fv):=ab
 have t8:=t7.same s8
 generalize upd H7 fl (.lst fv)=H8 at s8 g8 t8 ⊢
 have k8:=k7.same s8
 refine ⟨(by show 0<=sizeLine;decide),fun cl hcl=>?_⟩
 have nct:=ck t8 hcl
 have hcl0:=eQ k8 t8 hcl
 have ncf:fl≠cl:=ah g8 hcl
 have s9:=ae hcl (.lst [])
 have g9:(upd H8 cl (.lst [])) cl=some (.lst []):=ab
 have t9:=t8.same s9
 generalize upd H8 cl (.lst [])=H9 at s9 g9 t9 ⊢
 have gf9:=s9 _ _ g8
 have k9:=k8.same s9
 have m9:Rep H9 gm mv:=(hmv.mono (aF s8)).mono (aF s9)
 refine ⟨_,rfl,ra,rfl,⟨rv,SqT.of (k9.tk hT _ _ hra)⟩,?_⟩
 refine dQ (xs:=rv) (fun i σ H'=>i<=rv.length/\ ∃ o10 o15 o16 zs,σ=[some (.ref tp),some (.ref b),some (.ref d),some (.int k),some (.str fr.name),some (.str fr.own),some (.ref pa),some (.ref ra),o8,o9,o10,o11,some mv,some (.ref fl),some (.ref cl),o15,o16]/\Kp tp H H'/\Tp H' tp/\H' fl=some (.lst fv)/\H' cl=some (.lst zs)/\Rep H' gm mv/\Paired (RepR H') ((fr.rules.take i).map (Rul.chg x gm)) zs)
  ⟨Nat.zero_le _,o10,o15,o16,[],rfl,k9,t9,gf9,g9,m9,.nil⟩ (fun i σ H' _ h=>by obtain ⟨_,_,_,_,_,_,k',_⟩:=h;exact SqT.of (k'.tk hT _ _ hra)) ?_ ?_
 ·rintro i y σ HA hy ⟨_,o10,o15,o16,zs,rfl,kA,tA,gfA,gcA,mA,hPA⟩
  have hil:i<rv.length:=(List.getElem?_eq_some_iff.mp hy).1
  obtain ⟨r,hr',c,u,rfl,hc,hu'⟩:=aM hRr hy
  have tkA:=kA.tk hT
  refine ⟨c,_,rfl,SqT.of (tkA _ _ hc),rfl,_,_,rfl,_,_,rfl,_,_,rfl,rfl,?_⟩
  refine ⟨_,rfl,.inl ⟨rfl,_,SqL.of gcA⟩,_,rfl,_,rfl,_,rfl,_,rfl,(by show 2<=sizeLine;decide),fun p1 h1=>?_⟩
  have s1:=ae h1 (.lst [u,mv])
  have g1:(upd HA p1 (.lst [u,mv])) p1=some (.lst [u,mv]):=ab
  generalize upd HA p1 (.lst [u,mv])=HB at s1 g1 ⊢
  have kB:=kA.same s1
  have gget:DGet HB d (.str fr.own) (some (.str x)):=by
   have:=DGet.k (k:=.inr fr.own) (kB _ _ hd ndt)
   rw [cm,ex]at this
   exact this
  have hlen:zs.length=i:=by
   have:=Paired.length hPA
   rw [List.length_map,List.length_take]at this
   lia
  have fin2: ∀ (z:V) (N:St->Hp->Prop),Rep HB (if r.word=x then gm else r.fm) z->(∀ o10 o15 o16 zs H',Kp tp H H'/\Tp H' tp/\H' fl=some (.lst fv)/\H' cl=some (.lst zs)/\Rep H' gm mv/\Paired (RepR H') ((fr.rules.take (i+1)).map (Rul.chg x gm)) zs->N [some (.ref tp),some (.ref b),some (.ref d),some (.int k),some (.str fr.name),some (.str fr.own),some (.ref pa),some (.ref ra),o8,o9,o10,o11,some mv,some (.ref fl),some (.ref cl),o15,o16] H')->
    ∀ p,HB p=none->N [some (.ref tp),some (.ref b),some (.ref d),some (.int k),some (.str fr.name),some (.str fr.own),some (.ref pa),some (.ref ra),o8,o9,some (.str r.word),o11,some mv,some (.ref fl),some (.ref cl),some (.int r.pl),some u] (upd (upd HB p (.tup [.int r.pl,.str r.word,z])) cl (.lst (zs++[.ref p]))):=fun z N hz hN p hp=>by
   have s2:=ae hp (.tup [.int r.pl,.str r.word,z])
   have g2:(upd HB p (.tup [.int r.pl,.str r.word,z])) p=some (.tup [.int r.pl,.str r.word,z]):=ab
   generalize upd HB p (.tup [.int r.pl,.str r.word,z])=HC at s2 g2 ⊢
   have gcC:=s2 _ _ (s1 _ _ gcA)
   have tkD:TK HC (upd HC cl (.lst (zs++[.ref p]))):=TK.lst gcC
   have tkAC:TK HA HC:=(aF s1).trans (aF s2)
   refine hN _ _ _ (zs++[.ref p]) _ ⟨fun c o h n=>?_,?_,?_,ab,(mA.mono tkAC).mono tkD,?_⟩
   ·rw [ai (ah h hcl0)]
    exact s2 _ _ (kB _ _ h n)
   ·obtain ⟨t,ht⟩:=(tA.same s1).same s2
    exact ⟨t,by rw [ai (Ne.symm nct)];exact ht⟩
   ·rw [ai ncf]
    exact s2 _ _ (s1 _ _ gfA)
   ·rw [List.take_add_one,hr',List.map_append]
    exact Paired.snoc (Paired.mapP hPA fun _ _ h=>(h.mono tkAC).mono tkD) ⟨p,z,rfl,tkD _ _ g2,(hz.mono (aF s2)).mono tkD⟩
  refine ⟨_,rfl,_,rfl,_,rfl,d,.str x,rfl,gget,rfl,.inr ⟨_,rfl,?_⟩⟩
  have mB:Rep HB gm mv:=mA.mono (aF s1)
  have uB:Rep HB r.fm u:=(hu'.mono tkA).mono (aF s1)
  rw [qe]
  by_cases cx:r.word=x
  ·rw [decide_eq_true cx]
   refine ⟨p1,_,1,mv,rfl,rfl,SqL.of g1,tQ,(by show 3<=sizeLine;decide),fun p hp=>?_⟩
   refine ⟨cl,zs,_,rfl,rfl,(ae hp _) _ _ (s1 _ _ gcA),ao (by lia),?_⟩
   exact fin2 mv _ (by rw [if_pos cx];exact mB) (fun _ _ _ zs H' h=>⟨hil,_,_,_,zs,rfl,h⟩) p hp
  ·rw [decide_eq_false cx]
   refine ⟨p1,_,0,u,rfl,rfl,SqL.of g1,bY,(by show 3<=sizeLine;decide),fun p hp=>?_⟩
   refine ⟨cl,zs,_,rfl,rfl,(ae hp _) _ _ (s1 _ _ gcA),ao (by lia),?_⟩
   exact fin2 u _ (by rw [if_neg cx];exact uB) (fun _ _ _ zs H' h=>⟨hil,_,_,_,zs,rfl,h⟩) p hp
 ·rintro σ HA ⟨_,o10,o15,o16,zs,rfl,kA,tA,gfA,gcA,mA,hPA⟩
  rw [<- lR,List.take_length]at hPA
  refine ⟨_,rfl,_,rfl,_,rfl,_,rfl,cl,zs,rfl,.inl ⟨SqL.of gcA,fun p1 h1=>?_⟩⟩
  have s1:=ae h1 (.tup zs)
  have g1:(upd HA p1 (.tup zs)) p1=some (.tup zs):=ab
  generalize upd HA p1 (.tup zs)=HB at s1 g1 ⊢
  refine ⟨(by show 4<=sizeLine;decide),fun p2 h2=>?_⟩
  have s2:=ae h2 (.tup [.str fr.name,.str fr.own,.ref pa,.ref p1])
  have g2:(upd HB p2 (.tup [.str fr.name,.str fr.own,.ref pa,.ref p1])) p2=some (.tup [.str fr.name,.str fr.own,.ref pa,.ref p1]):=ab
  generalize upd HB p2 (.tup [.str fr.name,.str fr.own,.ref pa,.ref p1])=HC at s2 g2 ⊢
  have sC:=s1.trans s2
  have kC:=kA.same sC
  have tC:=tA.same sC
  have gfC:=sC _ _ gfA
  refine ⟨_,rfl,_,rfl,fl,fv,k,k,rfl,rfl,gfC,by have:=tP (xs:=fv) (d:=(k:Int)) (by lia) (by lia);rwa [Int.toNat_natCast]at this,?_⟩
  have tkD:TK HC (upd HC fl (.lst (fv.set k (.ref p2)))):=TK.lst gfC
  have gD:(upd HC fl (.lst (fv.set k (.ref p2)))) fl=some (.lst (fv.set k (.ref p2))):=ab
  have kD:Kp tp H (upd HC fl (.lst (fv.set k (.ref p2)))):=fun c o h n=>by rw [ai (ah h hfl0)];exact kC _ _ h n
  have tD:Tp (upd HC fl (.lst (fv.set k (.ref p2)))) tp:=by
   obtain ⟨t,ht⟩:=tC
   exact ⟨t,by rw [ai (Ne.symm nft)];exact ht⟩
  have hFD:RepFPs (upd HC fl (.lst (fv.set k (.ref p2)))) (bk.chg k (fr.chg x gm)).forms (fv.set k (.ref p2)):=
   gQ (F:=RepFP _) (a:=fr.chg x gm) (b:=.ref p2) ⟨p2,pa,p1,zs,rfl,tkD _ _ g2,kD.tk hT _ _ hpa,tkD _ _ (s2 _ _ g1),Paired.mapP hPA fun _ _ h=>(h.mono (aF sC)).mono tkD⟩ _ (hF.mono (kD.tk hT))
  generalize upd HC fl (.lst (fv.set k (.ref p2)))=HD at gD kD tD hFD ⊢
  refine ⟨_,rfl,b,_,1,.ref sa,rfl,rfl,SqT.of (kD.tk hT _ _ hb),ar (j:=1) rfl,_,rfl,fl,_,rfl,.inl ⟨SqL.of gD,fun p3 h3=>?_⟩⟩
  have s3:=ae h3 (.tup (fv.set k (.ref p2)))
  have g3:(upd HD p3 (.tup (fv.set k (.ref p2)))) p3=some (.tup (fv.set k (.ref p2))):=ab
  generalize upd HD p3 (.tup (fv.set k (.ref p2)))=HE at s3 g3 ⊢
  refine ⟨(by show 3<=sizeLine;decide),fun p4 h4=>?_⟩
  have s4:=ae h4 (.tup [.int 0,.ref sa,.ref p3])
  have g4:(upd HE p4 (.tup [.int 0,.ref sa,.ref p3])) p4=some (.tup [.int 0,.ref sa,.ref p3]):=ab
  generalize upd HE p4 (.tup [.int 0,.ref sa,.ref p3])=HF at s4 g4 ⊢
  have sF:=s3.trans s4
  exact q (.ref p4) HF ⟨p4,sa,p3,_,rfl,g4,hS.mono ((kD.same sF).tk hT),s4 _ _ g3,hFD.mono (aF sF)⟩ (kD.same sF) (tD.same sF)
theorem dY: ∀ g:Fm,g.rdk.length<=g.lfs
 | .num _=>Nat.zero_le _
 | .own _=>Nat.le_refl _
 | .part _ _=>Nat.le_refl _
 | .bin _ a b=>by
  have:=dY a
  have:=dY b
  show (a.rdk++b.rdk).length<=a.lfs+b.lfs
  rw [List.length_append]
  lia
 | .whn a b c=>by
  have:=dY a
  have:=dY b
  have:=dY c
  show (a.rdk++(b.rdk++c.rdk)).length<=a.lfs+b.lfs+c.lfs
  rw [List.length_append,List.length_append]
  lia
theorem rD {ss:List Srt} {x:Str} (h:x∈ss.map Srt.name): ∃ s,ss.find? (fun s=>decide (s.name=x))=some s/\s∈ss/\s.name=x:=by
 obtain ⟨s0,h0,e0⟩:=List.mem_map.mp h
 cases hf:ss.find? (fun s=>decide (s.name=x))with
 | none=>exact absurd (decide_eq_true e0) (by simpa using List.find?_eq_none.mp hf s0 h0)
 | some s=>exact ⟨s,rfl,List.mem_of_find?_eq_some hf,of_decide_eq_true (List.find?_some (p:=fun s:Srt=>decide (s.name=x)) hf)⟩
noncomputable def LfO (n:Nat) (H:Hp) (g:Fm) (m:V):Prop:=Rep H g m/\g.wf/\g.size=1/\g.inP n
theorem LfO.mono {n:Nat} {H H':Hp} (t:TK H H') {g:Fm} {m:V} (h:LfO n H g m):LfO n H' g m:=⟨h.1.mono t,h.2⟩
noncomputable def iF:Sp:=fun vs H Q _=> ∃ (tp:Addr) (bv:V) (bk:BkP) (d:Addr) (pr:List (Str×Str)),vs=[.ref tp,bv,.ref d]/\Tp H tp/\RepBP H bk bv/\BkO bk pr/\H d=some (.dK (prK pr))/\
 ∀ v bk' H',RepBP H' bk' v->BkQ bk'->BkI bk'->Kp tp H H'->Tp H' tp->Q v H'
theorem lQ (F:Fun K "_law_changed" "_law_changed" cP f fd) (G:Gb mg) (hlist:mg "list"=none) (hint:mg "int"=none)
  (GD:FnOk P w K mg base CX0 1 f2 fd2 ["tape","many"] aT) (bD:Binds K fd2 ["tape","many"] []) (kD:PySem.W.keepIn K (.ref f2)=true) (mD:mg "_law_digit"=some (.ref f2))
  (GU:FnOk P w K mg base CX0 1 f3 fd3 ["book","name"] pX) (bU:Binds K fd3 ["book","name"] []) (kU:PySem.W.keepIn K (.ref f3)=true) (mU:mg "_law_ups"=some (.ref f3))
  (GB:FnOk P w K mg base CX0 12 f4 fd4 ["tape","formula","one"] (fi 11)) (bB:Binds K fd4 ["tape","formula","one"] []) (kB:PySem.W.keepIn K (.ref f4)=true) (mB:mg "_law_bent"=some (.ref f4))
  (GR:FnOk P w K mg base CX0 1 f5 fd5 ["form","word"] eJ) (bR:Binds K fd5 ["form","word"] []) (kR:PySem.W.keepIn K (.ref f5)=true) (mR:mg "_law_rule_of"=some (.ref f5))
  (GS:FnOk P w K mg base CX0 25 f6 fd6 ["formula"] (dJ 24)) (bS:Binds K fd6 ["formula"] []) (kS:PySem.W.keepIn K (.ref f6)=true) (mS:mg "_law_size"=some (.ref f6)):
  FnOk P w K mg base CX0 26 f fd ["tape","book","pricing"] iF:=by
 refine F.ok scChanged (fun vs H Q E h=>?_) (fun cdv A outer s H vs Q E hr h=>?_)
 ·obtain ⟨tp,bv,_,d,_,rfl,_⟩:=h
  rfl
 obtain ⟨tp,bv,bk,d,pr,rfl,hT,hB,hok,hd,q⟩:=h
 have hu:=cT hr
 have hr1:=hr.mono (show 1<=25 by decide)
 have hr12:=hr.mono (show 12<=25 by decide)
 obtain ⟨tt,p7,h7⟩:=vU (f:=f) (cdv:=cdv) (A:=A) (outer:=outer) (s:=s) (H0:=H) (E:=E) G hlist hint hr1
 refine ⟨_,ad (al (i:=3) scChanged.nd rfl (Or.inl rfl) (ak GD hr1 rfl mD kD bD .nil am (aa (pv 0) (aa (aJ aC rfl G.len PySem.boot_len (aa (aq aw (pv 1) af (fun _ _=>rfl)) ac)) ac))))
  (ad (dZ (aq aw (aq aw (pv 1) af (fun _ _=>rfl)) (pv 3) (fun _ _=>rfl)) (cQ rfl (aG (av (i:=4) scChanged.nd rfl (Or.inl rfl)) (aG (av (i:=5) scChanged.nd rfl (Or.inl rfl)) (aG (av (i:=6) scChanged.nd rfl (Or.inl rfl)) (aG (av (i:=7) scChanged.nd rfl (Or.inl rfl)) cn))))))
  (ad (al (i:=8) scChanged.nd rfl (Or.inl rfl) (aY (pac (aB (pac aE (pac af ac))) (pac (aB (pac aE (pac af ac))) ac))))
  (ad (bA PassesOwn.never rfl (bj rfl G.range (aa (aJ aC rfl G.len PySem.boot_len (aa (pv 6) ac)) ac)) (av (i:=9) scChanged.nd rfl (Or.inr rfl))
   (aj (bG (c9 PySem.F.plainAttrs_list PySem.F.slot_list_extend PySem.F.type_list_extend iN (pv 8) (aa
    (cK (sc0:=ag cP) (N0:=NCh) (ys:=["j"]) (fr:=[9]) rfl (cG (ak GU hr1 rfl mU kU bU .nil am (aa (pv 1) (aa (aq aw (pv 6) (pv 9) (fun _ _=>rfl)) ac)))) rfl rfl
     cok
     (fun C s H ex=>aB (aa aE (aa (pv 1) (aa (pv 0) ac))))) ac)))))
  (ad (al (i:=11) scChanged.nd rfl (Or.inl rfl) (aq aO (pv 8) (ak GD hr1 rfl mD kD bD .nil am (aa (pv 0) (aa (aJ aC rfl G.len PySem.boot_len (aa (pv 8) ac)) ac))) (fun _ _=>rfl)))
  (ad (al (i:=12) scChanged.nd rfl (Or.inl rfl) (ak GB hr12 rfl mB kB bB .nil am (aa (pv 0) (aa (ak GR hr1 rfl mR kR bR .nil am (aa (aq aw (aq aw (pv 1) af (fun _ _=>rfl)) (pv 3) (fun _ _=>rfl)) (aa (bq hu (pv 2) (pv 5) (fun _ _=>rfl)) ac))) (aa (pv 11) ac)))))
  (ad (aV (au qQ (ak GS hr rfl mS kS bS .nil am (aa (pv 12) ac)) af (aH _)) (aj (al (i:=12) scChanged.nd rfl (Or.inl rfl) (pv 11))) aK)
  p7)))))),?_⟩
 obtain ⟨b,sa,fa,fv,rfl,hb,hS,hfa,hF⟩:=id hB
 have lF:=hF.len
 have hf1:=hok.f1
 have hfew:=hok.q.few
 have ndt:d≠tp:=fun z=>by
  obtain ⟨t,ht⟩:=hT
  rw [z,ht]at hd
  cases hd
 refine ⟨_,rfl,_,rfl,b,_,2,.ref fa,rfl,rfl,SqT.of hb,ar (j:=2) rfl,fa,_,rfl,.inr (SqT.of hfa),tp,_,rfl,hT,by lia,by lia,fun dk t1 hk0 hk1=>?_⟩
 have k1:Kp tp H (upd H tp (.lst [.int t1])):=Kp.tape
 have t1':Tp (upd H tp (.lst [.int t1])) tp:=⟨t1,ab⟩
 generalize upd H tp (.lst [.int t1])=H1 at k1 t1' ⊢
 have tk1:=k1.tk hT
 obtain ⟨fv0,efv,efv'⟩:=cU (xs:=fv) hk0 hk1
 obtain ⟨fr,hfr,hRf⟩:=aM hF efv'
 have hfm:=List.mem_of_getElem? hfr
 obtain ⟨a,pa,ra,rv,rfl,ha,hpa,hra,hRr⟩:=id hRf
 obtain ⟨f1,f2',f3',f4',f5'⟩:=hok.q.fo fr hfm
 obtain ⟨sr,hsr,esr⟩:=List.mem_map.mp f3'
 obtain ⟨x,ex,hxin⟩:=hok.pu sr hsr
 rw [esr]at ex
 obtain ⟨gm,eg,hg⟩:=f5' sr hsr esr x hxin
 obtain ⟨g11,grd⟩:=hok.fo fr hfm x gm ex eg
 have hIf:=hok.i fr hfm
 obtain ⟨r,hrm,er⟩:=qw eg
 have hip:gm.inP fr.parts.length:=by rw [<- er];exact (hIf r hrm).2
 refine ⟨_,rfl,b,_,2,.ref fa,rfl,rfl,SqT.of (tk1 _ _ hb),ar (j:=2) rfl,_,rfl,fa,_,dk,.ref a,rfl,rfl,SqT.of (tk1 _ _ hfa),efv,a,_,rfl,SqT.of (tk1 _ _ ha),rfl,_,_,rfl,_,_,rfl,_,_,rfl,_,_,rfl,rfl,?_⟩
 refine ⟨(by show 2<=sizeLine;decide),fun p2 h2=>?_⟩
 have s2:=ae h2 (.tup [.str "num",.int 2])
 have g2:(upd H1 p2 (.tup [.str "num",.int 2])) p2=some (.tup [.str "num",.int 2]):=ab
 generalize upd H1 p2 (.tup [.str "num",.int 2])=H2 at s2 g2 ⊢
 refine ⟨(by show 2<=sizeLine;decide),fun p3 h3=>?_⟩
 have s3:=ae h3 (.tup [.str "num",.int 0])
 have g3:(upd H2 p3 (.tup [.str "num",.int 0])) p3=some (.tup [.str "num",.int 0]):=ab
 generalize upd H2 p3 (.tup [.str "num",.int 0])=H3 at s3 g3 ⊢
 refine ⟨(by show 2<=sizeLine;decide),fun rl hrl=>?_⟩
 have t3:=(t1'.same s2).same s3
 have nrt:=ck t3 hrl
 have k3:=(k1.same s2).same s3
 have hrl0:=eQ k3 t3 hrl
 have s4:=ae hrl (.lst [.ref p2,.ref p3])
 have g4:(upd H3 rl (.lst [.ref p2,.ref p3])) rl=some (.lst [.ref p2,.ref p3]):=ab
 generalize upd H3 rl (.lst [.ref p2,.ref p3])=H4 at s4 g4 ⊢
 have k4:=k3.same s4
 have t4:=t3.same s4
 have lp:(fr.parts.map V.str).length=fr.parts.length:=List.length_map _
 have l2:LfO fr.parts.length H4 (.num 2) (.ref p2):=⟨⟨p2,rfl,s4 _ _ (s3 _ _ g2)⟩,⟨by decide,by decide⟩,rfl,fun k hk=>by cases hk⟩
 have l3:LfO fr.parts.length H4 (.num 0) (.ref p3):=⟨⟨p3,rfl,s4 _ _ g3⟩,⟨by decide,by decide⟩,rfl,fun k hk=>by cases hk⟩
 refine ⟨_,rfl,pa,_,rfl,.inr (SqT.of (k4.tk hT _ _ hpa)),_,rfl,by lia,by lia,?_⟩
 refine cj (fun i σ H'=> ∃ o9 zs,σ=[some (.ref tp),some (.ref b),some (.ref d),some (.int dk),some (.str fr.name),some (.str fr.own),some (.ref pa),some (.ref ra),some (.ref rl),o9,none,none,none,none,none,none,none]/\Kp tp H H'/\Tp H' tp/\H' rl=some (.lst zs)/\2<=zs.length/\zs.length<=2+2*i/\ ∀ z∈zs,∃ g,LfO fr.parts.length H' g z)
  ⟨none,_,rfl,k4,t4,g4,Nat.le_refl _,Nat.le_refl _,fun z hz=>?_⟩ ?_ ?_
 ·rcases List.mem_cons.mp hz with e | e
  ·rw [e];exact ⟨_,l2⟩
  ·rw [List.mem_singleton.mp e];exact ⟨_,l3⟩
 ·rintro i σ H5 hi ⟨o9,zs,rfl,k5,t5,g5,l1,l9,hz⟩
  have hi':i<fr.parts.length:=by lia
  have ep:fr.parts[i]? =some fr.parts[i]:=List.getElem?_eq_getElem hi'
  obtain ⟨s0,hf0,hs0,e0⟩:=rD (f4' _ (List.mem_of_getElem? ep))
  have eat:atI (fr.parts.map V.str) (0+ (i:Int))=some (.str fr.parts[i]):=by
   rw [Int.zero_add]
   exact ar (by rw [List.getElem?_map,ep];rfl)
  have tk5:=k5.tk hT
  obtain ⟨u2,uw⟩:=hok.ws s0 hs0
  refine ⟨_,rfl,.inl ⟨rfl,_,SqL.of g5⟩,_,rfl,_,rfl,_,rfl,pa,_,_,.str fr.parts[i],rfl,rfl,SqT.of (tk5 _ _ hpa),eat,.ref b,bk,fr.parts[i],s0,rfl,hB.mono tk5,hf0,by have:=hok.q.s3;lia,fun c hc=>⟨c,rfl,⟨_,SqT.of hc⟩,?_⟩⟩
  refine pC (by rw [List.length_map];lia) hc (fun v=>[.str "part",.int (0+ (i:Int)),v]) (fun v H k _ hk=>⟨_,rfl,_,rfl,(by show 3<=sizeLine;decide),fun p hp=>hk p hp⟩) fun pl vs H6 hpl s6 gpl hTw=>?_
  have lw:=hTw.len
  rw [List.length_map,List.length_map]at lw
  have g6:=s6 _ _ g5
  refine ⟨rl,pl,zs,vs,rfl,rfl,g6,gpl,Nat.le_of_lt (ao (by lia)),?_⟩
  have tk:TK H6 (upd H6 rl (.lst (zs++vs))):=TK.lst g6
  have tk2:TK H5 (upd H6 rl (.lst (zs++vs))):=(aF s6).trans tk
  refine ⟨_,zs++vs,rfl,fun c o h n=>?_,?_,ab,by rw [List.length_append];lia,by rw [List.length_append];lia,fun z hzz=>?_⟩
  ·rw [ai (ah h hrl0)]
   exact s6 _ _ (k5 _ _ h n)
  ·obtain ⟨t,ht⟩:=t5.same s6
   exact ⟨t,by rw [ai (Ne.symm nrt)];exact ht⟩
  ·rcases List.mem_append.mp hzz with h | h
   ·obtain ⟨g,hg⟩:=hz z h
    exact ⟨g,hg.mono tk2⟩
   ·obtain ⟨ys,hy,a',rfl,ha'⟩:=gR hTw h
    obtain ⟨v,hv,rfl⟩:=List.mem_map.mp hy
    obtain ⟨y,hy',rfl⟩:=List.mem_map.mp hv
    refine ⟨.part (0+ (i:Int)) y,⟨a',rfl,tk _ _ ha'⟩,⟨⟨by lia,by lia⟩,uw y hy'⟩,rfl,fun k hk=>?_⟩
    rw [List.mem_singleton.mp (show k∈[0+ (i:Int)]from hk)]
    exact ⟨by lia,by lia⟩
 ·rintro σ H5 ⟨o9,zs,rfl,k5,t5,g5,l1,l9,hz⟩
  have l9:zs.length<=8:=by lia
  refine ⟨_,rfl,_,rfl,_,rfl,rl,_,rfl,.inl (SqL.of g5),tp,_,rfl,t5,by lia,by lia,fun c t6 c0 c1=>?_⟩
  have k6:Kp tp H5 (upd H5 tp (.lst [.int t6])):=Kp.tape
  have t6':Tp (upd H5 tp (.lst [.int t6])) tp:=⟨t6,ab⟩
  generalize upd H5 tp (.lst [.int t6])=H6 at k6 t6' ⊢
  obtain ⟨z,ez,ez'⟩:=cU (xs:=zs) c0 c1
  obtain ⟨om,hom0⟩:=hz z (List.mem_of_getElem? ez')
  have hom:=hom0.mono (k6.tk t5)
  obtain ⟨hoR,how,ho1,hoi⟩:=hom
  have k06:=k5.trans k6
  have tk6:=k06.tk hT
  refine ⟨rl,_,c,z,rfl,rfl,SqL.of (k6 _ _ g5 nrt),ez,?_⟩
  have gget:DGet H6 d (.str fr.own) (some (.str x)):=by
   have:=DGet.k (k:=.inr fr.own) (k06 _ _ hd ndt)
   rw [cm,ex]at this
   exact this
  refine ⟨_,rfl,_,rfl,b,_,2,.ref fa,rfl,rfl,SqT.of (tk6 _ _ hb),ar (j:=2) rfl,_,rfl,fa,_,dk,.ref a,rfl,rfl,SqT.of (tk6 _ _ hfa),efv,_,rfl,_,rfl,d,.str x,rfl,gget,.ref a,fr,x,gm,rfl,hRf.mono tk6,f1,(FrP.ru_eq (fun r hr=>(hIf r hr).1) f1.2.1).trans eg,fun u hu'=>?_⟩
  refine ⟨_,rfl,tp,u,z,gm,om,rfl,t6',hu',hg.wf,g11,hoR,how,ho1,fun v gv H7 hv hw hs k7 t7=>?_⟩
  have k07:=k06.trans k7
  refine ⟨_,rfl,v,gv,rfl,hv,hw.wf,by lia,fun H8 s8=>⟨_,_,rfl,rfl,_,rfl,?_⟩⟩
  have ork:om.rdk.length<=1:=by have:=dY om;have:=dI om;lia
  have fin: ∀ (D:cL) (vv:V) (gg:Fm) (o11:Option V),D.rt=Q->Rep H8 gg vv->gg.wf->gg.size<=15->gg.inP fr.parts.length->(∀ x∈gg.rdk,x∈prR pr fr.parts++om.rdk)->tt D [some (.ref tp),some (.ref b),some (.ref d),some (.int dk),some (.str fr.name),some (.str fr.own),some (.ref pa),some (.ref ra),some (.ref rl),o9,none,some z,some vv,none,none,none,none] H8:=fun D vv gg o11 eD hvv hwf hsz hin hrd=>by
   have hc:=hok.chg (x:=x) hfr hwf (by lia) hin (l4 hrd (by rw [List.length_append,ny];lia))
   have:=h7 D H H8 tp b sa fa a pa ra d fv rv bk dk.toNat fr pr x gg vv (some (.ref rl)) o9 none (some z) none none none none hT (k07.same s8) (t7.same s8) hb hS hfa hF hfr hfew ha hpa hra hRr f1.1 hd ndt ex hvv (fun v' H' h1 h2 h3=>by rw [eD];exact q v' _ H' h1 hc.1 hc.2 h2 h3)
   rw [show ((dk.toNat:Nat):Int)=dk by lia]at this
   exact this
  by_cases cg:(gv.size:Int) >15
  ·rw [show decide ((gv.size:Int) >15)=true from decide_eq_true cg]
   exact bg ⟨_,rfl,fin _ z om none rfl ((hoR.mono (k7.tk t6')).mono (aF s8)) how (by lia) hoi fun x hx=>List.mem_append_right _ hx⟩
  ·rw [show decide ((gv.size:Int) >15)=false from decide_eq_false cg]
   refine aU (fin _ v gv none rfl (hv.mono (aF s8)) hw.wf (by lia) (fun k hk=>?_) fun y hy=>?_)
   ·rcases hw.pt k hk with h | h
    ·exact hip k h
    ·exact hoi k h
   ·rcases hw.rd y hy with h | h
    ·exact List.mem_append_left _ (grd y h)
    ·exact List.mem_append_right _ h
end My
namespace L2
open PySem PySem.Spec PyProof.Rows
section
variable {X:Cx}
theorem mr (hc:X.calm=true):bV X (.type "list") (fun xs H Q=> ∃ a kvs,xs=[.ref a]/\H a=some (.dK kvs)/\ ∀ p,H p=none->Q (.ref p) (upd H p (.lst (kvs.map fun q=>kV q.1)))):=by
 intro pins s σ H xs us Q I r h
 obtain ⟨a,kvs,rfl,ha,q⟩:=h
 obtain ⟨u,rfl,ru⟩:=cI r
 cases ru
 obtain ⟨hz,lo,ws,rel,dd⟩:=fN I.hok ha
 obtain ⟨od,es,ep,ho,hed,hdat,hko,hpr,hnd⟩:=dd
 have hlw:kvs.length=ws.length:=rel.length
 refine PySem.W.kdl_call (PySem.W.kdl_dict (knd:=az X.prog X.w) (d:=a) (kvs:=ws) (ep:=ep) lo) (I.ok.hd hc) ⟨od,es,ho,hed,hdat,hko,hpr,hnd⟩ (by lia) fun h' tk acc c' kp e hi=>?_
 obtain ⟨i1,i2⟩:=hi
 have hv:Vals (kvs.map fun q=>kV q.1) acc.toList:=iO rel (by rw [Array.length_toList];exact i1) fun i v hv=>i2 i v (by rw [<- Array.getElem?_toList];exact hv)
 refine ⟨.ref s.heap.objs.size,_,I.laid (t':=tk) (o:=.lst (kvs.map fun q=>kV q.1)) kp (Nat.le_refl _) ?_,rfl,q _ (I.hok.fresh (Nat.le_refl _))⟩
 refine ⟨by rw [List.length_map];lia,_,c',hv,?_⟩
 simpa [seqObj]using e
end
noncomputable def wz:List V->Hp->VK->Prop:=fun xs H Q=> ∃ x p b,xs=[x,.ref p]/\H p=some (.tup [.ty "tuple",.ty "list"])/\(TL H x b\/((∃ c,x=.bl c)/\b=false))/\Q (.bl b) H
theorem mx {X:Cx}:bV X (.builtin "isinstance") wz:=by
 intro pins s σ H xs us Q I r h
 obtain ⟨x,p,b,e,hp,ty,q⟩:=h
 rcases ty with ty | ⟨⟨c0,rfl⟩,rfl⟩
 ·exact pH pins s σ H xs us Q I r ⟨x,p,b,e,hp,ty,q⟩
 subst e
 obtain ⟨u,w',rfl,rx,rp⟩:=gj r
 cases (show w'=Value.ref p from rp)
 obtain ⟨_,its,rv,o,h1,h2,n,h3⟩:=(show ObjOk X.prog X.w H s.heap p (.tup [.ty "tuple",.ty "list"])from I.hok p _ hp)
 obtain ⟨u1,u2,rfl,r1,r2⟩:=gj rv
 cases (show u1=Value.type "tuple" from r1)
 cases (show u2=Value.type "list" from r2)
 obtain ⟨c,d,dt,sl⟩:=o
 simp only at h2 h3
 subst h2 h3
 have k: ∀ tk,EP X pins σ Q (.bool false) {s with toks:=tk}:=fun tk=>⟨.bl false,H,I.tok tk,rfl,q⟩
 cases (show u=Value.bool c0 from rx)
 exact PySem.W.kia_tup PySem.W.kitx_bool I.kIn True.intro h1 (eR _ "bool" (by simp)) (fun z=>nomatch z) k
end L2
namespace My
open PySem L2
noncomputable def mV:Sp:=fun vs H Q _=> ∃ b:Bool,vs=[.bl b,.bl b]/\ ∀ H',Same H H'->Q (.bl true) H'
theorem ow (p:Str×Str) (r:List (Str×Str)) (x:Str):aW (p::r) x=if p.1=x then some p.2 else aW r x:=by
 unfold aW
 rw [List.find?_cons]
 by_cases c:p.1=x
 ·rw [decide_eq_true c,if_pos c]
  rfl
 ·rw [decide_eq_false c,if_neg c]
theorem c8: ∀ {pr:List (Str×Str)} {x y:Str},(pr.map Prod.fst).Nodup->(aW pr x=some y↔(x,y)∈pr)
 | [],x,y,_=>by
  constructor
  ·intro h;cases h
  ·intro h;cases h
 | p::r,x,y,nd=>by
  obtain ⟨n1,n2⟩:=List.nodup_cons.mp (show (p.1::r.map Prod.fst).Nodup from nd)
  rw [ow]
  by_cases c:p.1=x
  ·rw [if_pos c]
   constructor
   ·intro h
    rw [<- c,<- Option.some.inj h]
    exact List.mem_cons_self
   ·intro h
    rcases List.mem_cons.mp h with e | e
    ·rw [<- e]
    ·exact absurd (List.mem_map.mpr ⟨_,e,c.symm⟩) n1
  ·rw [if_neg c,c8 n2]
   constructor
   ·exact fun h=>List.mem_cons_of_mem _ h
   ·intro h
    rcases List.mem_cons.mp h with e | e
    ·exact absurd (by rw [<- e]) c
    ·exact e
theorem qG {pr:List (Str×Str)} (nd:(pr.map Prod.fst).Nodup) (x:Str):aW pr.reverse x=aW pr x:=by
 have nd2:(pr.reverse.map Prod.fst).Nodup:=by
  rw [List.map_reverse]
  exact List.pairwise_reverse.mpr (nd.imp fun h e=>h e.symm)
 refine Option.ext fun y=>?_
 rw [c8 nd,c8 nd2,List.mem_reverse]
theorem tx {pr:List (Str×Str)} (nd:(pr.map Prod.fst).Nodup) (bk:BkP):ipB bk pr.reverse=ipB bk pr:=by
 have e1: ∀ x,aW pr.reverse x=aW pr x:=qG nd
 have e2:nmB bk pr.reverse=nmB bk pr:=decide_eq_decide.mpr (by
  rw [List.length_reverse]
  exact and_congr_right fun _=>⟨fun h x hx=>h x (by rw [List.map_reverse,List.mem_reverse];exact hx),fun h x hx=>h x (by rw [List.map_reverse,List.mem_reverse]at hx;exact hx)⟩)
 have e3:upB bk pr.reverse=upB bk pr:=by
  unfold upB
  congr 1
  funext s
  rw [e1]
 have e5: ∀ ps,prR pr.reverse ps=prR pr ps:=fun ps=>by
  unfold prR
  refine List.map_congr_left fun a _=>?_
  rw [e1]
 have e4:foB pr.reverse=foB pr:=by
  funext fr
  unfold foB pfB
  rw [e1,e5]
 unfold ipB
 rw [e2,e3,e4]
theorem nz {pr:List (Str×Str)} {x y:Str} (h:x∉pr.map Prod.fst):bz (prK pr) (.inr x) (.str y)=prK (pr++[(x,y)]):=by
 rw [fU]
 unfold j6
 rw [if_neg fun z=>by
  obtain ⟨p,h1,h2⟩:=List.any_eq_true.mp z
  exact h (List.mem_map.mpr ⟨p,h1,of_decide_eq_true h2⟩)]
noncomputable def jP:Sp:=fun vs H Q _=> ∃ bv bk d pr,vs=[bv,.ref d]/\RepBP H bk bv/\BkQ bk/\BkI bk/\H d=some (.dK (prK pr))/\(pr.map Prod.fst).Nodup/\pr.length<=4/\ ∀ H',Same H H'->Q (.bl true) H'
theorem ut:aA ["found","due"] ["found","due"] (ag qq):=fsc
theorem qR (F:Fun K "_law_same" "_law_same" qq f fd) (G:Gb mg) (hlist:mg "list"=none):FnOk P w K mg base CX0 1 f fd ["found","due"] mV:=by
 refine F.ok ut (fun vs H Q E h=>?_) (fun cdv A outer s H vs Q E hr h=>?_)
 ·obtain ⟨v,rfl,_⟩:=h
  rfl
 obtain ⟨b,rfl,q⟩:=h
 refine ⟨_,ad (aV (gN (aJ mx rfl G.isi (by decide +kernel) (aa (pv 1) (aa (aB (aa (fX (v:=.ty "tuple") rfl G.tuple (by decide +kernel) rfl) (aa (fX (v:=.ty "list") rfl hlist (by decide +kernel) rfl) ac))) ac)))) cN aK)
  (ad (aV (au uJ (pv 1) lK (aH _)) cN aK)
  (ad (aV (gN (aJ kY rfl G.isi (by decide +kernel) (aa (pv 1) (aa (fX (v:=.ty "bool") rfl G.bool (by decide +kernel) rfl) ac))))
   (aj (ax (lM (aJ kY rfl G.isi (by decide +kernel) (aa (pv 0) (aa (fX (v:=.ty "bool") rfl G.bool (by decide +kernel) rfl) ac))) (jp (di cp (pv 0) (pv 1) (aH _)))))) aK)
  cN)),?_⟩
 refine ⟨_,rfl,(by show 2<=sizeLine;decide),fun p0 h0=>?_⟩
 have s0:=ae h0 (.tup [.ty "tuple",.ty "list"])
 have g0:(upd H p0 (.tup [.ty "tuple",.ty "list"])) p0=some (.tup [.ty "tuple",.ty "list"]):=ab
 generalize upd H p0 (.tup [.ty "tuple",.ty "list"])=H0 at s0 g0 ⊢
 refine ⟨_,p0,false,rfl,g0,.inr ⟨⟨b,rfl⟩,rfl⟩,_,rfl,?_⟩
 refine aU ⟨_,rfl,rfl,_,rfl,?_⟩
 rw [show decide (V.bl b=V.non)=false from decide_eq_false fun e=>nomatch e]
 refine aU ⟨_,rfl,_,"bool",rfl,True.intro,by simp,_,rfl,?_⟩
 rw [show isV "bool" H0 (V.bl b)=true from rfl]
 refine bg ⟨_,rfl,_,"bool",rfl,True.intro,by simp,_,rfl,?_⟩
 rw [show isV "bool" H0 (V.bl b)=true from rfl]
 refine bg ⟨_,rfl,_,rfl,rfl,?_⟩
 rw [decide_eq_true rfl]
 exact q H0 s0
noncomputable abbrev NRp:List Str:=["book","pricing","handed","name"]
theorem scRightP:aA NRp ["book","pricing"] (ag jg):=fsc
theorem oD (F:Fun K "_law_right" "_law_right" jg f fd) (G:Gb mg) (hlist:mg "list"=none)
  (GS:FnOk P w K mg base CX0 1 f2 fd2 ["found","due"] mV) (bS:Binds K fd2 ["found","due"] []) (kS:PySem.W.keepIn K (.ref f2)=true) (mS:mg "_law_same"=some (.ref f2))
  (GI:FnOk P w K mg base CX0 5 f3 fd3 NIp dX) (bI:Binds K fd3 NIp []) (kI:PySem.W.keepIn K (.ref f3)=true) (mI:mg "is_priced"=some (.ref f3))
  (GD:FnOk P w K mg base CX0 2 f4 fd4 ["book","pricing"] tZ) (bD:Binds K fd4 ["book","pricing"] []) (kD:PySem.W.keepIn K (.ref f4)=true) (mD:mg "_law_due"=some (.ref f4)):
  FnOk P w K mg base CX0 6 f fd ["book","pricing"] jP:=by
 refine F.ok scRightP (fun vs H Q E h=>?_) (fun cdv A outer s H vs Q E hr h=>?_)
 ·obtain ⟨bv,_,d,_,rfl,_⟩:=h
  rfl
 obtain ⟨bv,bk,d,pr,rfl,hB,hok,hI,hd,hnd,h4,q⟩:=h
 have hu:=cT hr
 have hr1:=hr.mono (show 1<=5 by decide)
 have hr2:=hr.mono (show 2<=5 by decide)
 refine ⟨_,ad (al (i:=2) scRightP.nd rfl (Or.inl rfl) gP)
  (ad (bA PassesOwn.never rfl (cY (nC (aS (mr rfl) rfl hlist (by decide +kernel) (aa (pv 1) ac)) (fG dB af))) (av (i:=3) scRightP.nd rfl (Or.inl rfl))
   (aj (cX hu (pv 2) (pv 3) (bq hu (pv 1) (pv 3) (fun _ _=>rfl)) rfl)))
  (aj (ax (lM (ak GS hr1 rfl mS kS bS .nil am (aa (ak GI hr rfl mI kI bI .nil am (aa (pv 0) (aa (pv 2) ac))) (aa (ak GD hr2 rfl mD kD bD .nil am (aa (pv 0) (aa (pv 1) ac))) ac))) (jp (di (sM hu) (pv 2) (pv 1) (aH _))))))),?_⟩
 refine fun hp hhp=>?_
 have s1:=ae hhp (.dK [])
 have g1:(upd H hp (.dK [])) hp=some (.dK (prK [])):=ab
 generalize upd H hp (.dK [])=H1 at s1 g1 ⊢
 refine ⟨_,rfl,d,_,rfl,s1 _ _ hd,fun p2 h2=>?_⟩
 have s2:=ae h2 (.lst ((prK pr).map fun q=>kV q.1))
 have g2:(upd H1 p2 (.lst ((prK pr).map fun q=>kV q.1))) p2=some (.lst ((prK pr).map fun q=>kV q.1)):=ab
 generalize upd H1 p2 (.lst ((prK pr).map fun q=>kV q.1))=H2 at s2 g2 ⊢
 refine ⟨1,rfl,p2,_,-1,rfl,rfl,SqL.of g2,by decide,fun p3 h3=>?_⟩
 have ek:eI ((prK pr).map fun q=>kV q.1) (-1)=(pr.reverse.map Prod.fst).map V.str:=by
  rw [iD,List.map_reverse,List.map_reverse]
  congr 1
  unfold prK
  rw [List.map_map,List.map_map]
  rfl
 rw [ek]
 have s3:=ae h3 (.lst ((pr.reverse.map Prod.fst).map V.str))
 have g3:(upd H2 p3 (.lst ((pr.reverse.map Prod.fst).map V.str))) p3=some (.lst ((pr.reverse.map Prod.fst).map V.str)):=ab
 generalize upd H2 p3 (.lst ((pr.reverse.map Prod.fst).map V.str))=H3 at s3 g3 ⊢
 have nhp:hp≠p3:=ah (s2 _ _ g1) h3
 have S3:Same H H3:=s1.trans (s2.trans s3)
 have gh3:=s3 _ _ (s2 _ _ g1)
 have nd2:(pr.reverse.map Prod.fst).Nodup:=by
  rw [List.map_reverse]
  exact List.pairwise_reverse.mpr (hnd.imp fun h e=>h e.symm)
 have hl:(pr.reverse.map Prod.fst).length=pr.length:=by rw [List.length_map,List.length_reverse]
 refine ⟨p3,rfl,⟨_,SqL.of g3⟩,?_⟩
 refine hJ (xs:=(pr.reverse.map Prod.fst).map V.str) (fun i σ H'=>i<=pr.length/\(∃ o3,σ=[some bv,some (.ref d),some (.ref hp),o3])/\Same H H'/\H' p3=some (.lst ((pr.reverse.map Prod.fst).map V.str))/\H' hp=some (.dK (prK (pr.reverse.take i))))
  ⟨Nat.zero_le _,⟨_,rfl⟩,S3,g3,gh3⟩ (fun i σ H' _ h=>by obtain ⟨_,_,_,g,_⟩:=h;exact SqL.of g) ?_ ?_
 ·rintro i y σ H4 hy ⟨_,⟨o3,rfl⟩,S4,g4,gh4⟩
  have hil:i<pr.length:=by
   have:=(List.getElem?_eq_some_iff.mp hy).1
   rw [List.length_map,hl]at this
   exact this
  rw [List.map_map,List.getElem?_map]at hy
  obtain ⟨pq,hpq,rfl⟩:=Option.map_eq_some_iff.mp hy
  have hmem:(pq.1,pq.2)∈pr:=List.mem_reverse.mp (List.mem_of_getElem? hpq)
  have hat:=(c8 hnd).mpr hmem
  have gget:DGet H4 d (.str pq.1) (some (.str pq.2)):=by
   have:=DGet.k (k:=.inr pq.1) (S4 _ _ hd)
   rw [cm,hat]at this
   exact this
  have ndd:hp≠d:=Ne.symm (ah hd hhp)
  have hlt:(prK (pr.reverse.take i)).length<=4:=by unfold prK;rw [List.length_map,List.length_take];lia
  refine ⟨_,rfl,_,rfl,d,.str pq.2,rfl,gget,_,rfl,_,rfl,hp,_,rfl,DPut.k (k:=.inr pq.1) gh4 (ao (by lia)),?_⟩
  have hn:pq.1∉(pr.reverse.take i).map Prod.fst:=fun hm=>by
   rw [List.map_take]at hm
   have e1:(pr.reverse.map Prod.fst)[i]? =some pq.1:=by rw [List.getElem?_map,hpq];rfl
   obtain ⟨j,hj⟩:=List.getElem?_of_mem hm
   have hji:j<i:=by
    have:=(List.getElem?_eq_some_iff.mp hj).1
    rw [List.length_take]at this
    lia
   rw [List.getElem?_take,if_pos hji]at hj
   have hlt:j< (pr.reverse.map Prod.fst).length:=(List.getElem?_eq_some_iff.mp hj).1
   have:=(List.getElem?_inj hlt nd2).mp (hj.trans e1.symm)
   lia
  rw [nz hn]
  refine ⟨hil,⟨_,rfl⟩,fun c o h=>by rw [ai (ah h hhp)];exact S4 c o h,by rw [ai (Ne.symm nhp)];exact g4,?_⟩
  rw [ab,List.take_add_one,hpq]
  rfl
 ·rintro σ H4 ⟨_,⟨o3,rfl⟩,S4,g4,gh4⟩
  rw [List.length_map,hl,List.take_of_length_le (by rw [List.length_reverse];exact Nat.le_refl _)]at gh4
  refine ⟨_,rfl,_,rfl,bv,bk,hp,pr.reverse,rfl,hB.mono (aF S4),hok,gh4,nd2,by rw [List.length_reverse];exact h4,fun H5 s5=>?_⟩
  have S5:=S4.trans s5
  refine ⟨_,rfl,_,rfl,bv,bk,d,pr,rfl,hB.mono (aF S5),hok,hI,S5 _ _ hd,hnd,h4,fun H6 s6=>?_⟩
  have S6:=S5.trans s6
  refine ⟨ipB bk pr,by rw [tx hnd];rfl,fun H7 s7=>⟨true,rfl,bg ?_⟩⟩
  have S7:=S6.trans s7
  refine ⟨_,rfl,_,rfl,hp,d,prK pr.reverse,prK pr,rfl,rfl,s7 _ _ (s6 _ _ (s5 _ _ gh4)),S7 _ _ hd,by unfold prK;rw [List.length_map,List.length_map,List.length_reverse],fun kv hkv=>?_,q H7 S7⟩
  unfold prK at hkv
  obtain ⟨pq,hpq,rfl⟩:=List.mem_map.mp hkv
  refine ⟨⟨pq.2,rfl⟩,?_⟩
  show bu (prK pr) (.inr pq.1)=some (.str pq.2)
  rw [cm,(c8 hnd).mpr (List.mem_reverse.mp hpq)]
  rfl
noncomputable def rdP (tb:Str->List Str) (parts:List Str) (g:Fm):Prop:= ∃ (j:Nat) (x p:Str),g=.part (j:Int) x/\parts[j]? =some p/\x∈tb p
noncomputable def UpO (ups:List Str):Prop:=1<=ups.length/\ups.length<=2/\ups.Nodup/\ ∀ x∈ups,cA x=true
noncomputable def TabW (hd:Addr) (H:Hp) (kvs:List (Key×V)) (tb:Str->List Str) (xs:List Str):Prop:= ∀ x∈xs,∃ a,a≠hd/\bu kvs (.inr x)=some (.ref a)/\H a=some (.lst ((tb x).map V.str))/\UpO (tb x)
theorem TabW.same {hd:Addr} {H H':Hp} (s:Same H H') {kvs:List (Key×V)} {tb:Str->List Str} {xs:List Str} (h:TabW hd H kvs tb xs):TabW hd H' kvs tb xs:=fun x hx=>by
 obtain ⟨a,n,e,h1,h2⟩:=h x hx
 exact ⟨a,n,e,s _ _ h1,h2⟩
noncomputable def PrO (ns:List Str) (tb:Str->List Str) (pr:List (Str×Str)):Prop:=pr.map Prod.fst=ns/\ ∀ p∈pr,p.2∈tb p.1
theorem PrO.at {ns:List Str} {tb:Str->List Str} {pr:List (Str×Str)} (h:PrO ns tb pr) {x:Str} (hx:x∈ns): ∃ y,aW pr x=some y/\y∈tb x:=by
 rw [<- h.1]at hx
 obtain ⟨y,hy⟩:=fW hx
 refine ⟨y,hy,?_⟩
 unfold aW at hy
 obtain ⟨p,hp,rfl⟩:=Option.map_eq_some_iff.mp hy
 have e:p.1=x:=of_decide_eq_true (List.find?_some (p:=fun p:Str×Str=>decide (p.1=x)) hp)
 rw [<- e]
 exact h.2 p (List.mem_of_find?_eq_some hp)
noncomputable def l7 (pr:List (Str×Str)) (ps:List Str) (k:Nat):Fm:=.part (k:Int) ((ps[k]?.bind (aW pr)).getD "")
noncomputable def iu (pr:List (Str×Str)) (ps:List Str):List Fm:=(List.range ps.length).map (l7 pr ps)
theorem uF {ds:List Fm} (h: ∀ d∈ds,d.wf) {g:Fm} (p:Prc ds g):g.wf:=by
 induction p with
 | num a b=>exact ⟨by lia,b⟩
 | leaf m=>exact h _ m
 | bin o _ _ ia ib=>exact ⟨by rcases o with e | e <;> rw [e] <;> decide +kernel,ia,ib⟩
theorem qE {ds:List Fm} {g:Fm} (p:Prc ds g): ∀ y∈g.rdk,∃ d∈ds,y∈d.rdk:=by
 induction p with
 | num a b=>intro y hy;cases hy
 | leaf m=>exact fun y hy=>⟨_,m,hy⟩
 | @bin op a b o _ _ ia ib=>exact fun y hy=>(List.mem_append.mp (show y∈a.rdk++b.rdk from hy)).elim (ia y) (ib y)
theorem uG {ds:List Fm} {g:Fm} (p:Prc ds g): ∀ y∈g.prt,∃ d∈ds,y∈d.prt:=by
 induction p with
 | num a b=>intro y hy;cases hy
 | leaf m=>exact fun y hy=>⟨_,m,hy⟩
 | @bin op a b o _ _ ia ib=>exact fun y hy=>(List.mem_append.mp (show y∈a.prt++b.prt from hy)).elim (ia y) (ib y)
theorem sG {ds:List Fm} {pr:List (Str×Str)} {ps:List Str} (h: ∀ d∈ds,d.allB (bM pr ps)=true) {g:Fm} (p:Prc ds g):g.allB (bM pr ps)=true:=by
 induction p with
 | num a b=>exact decide_eq_true a
 | leaf m=>exact h _ m
 | @bin op a b o _ _ ia ib=>
  show (decide (op="plus"\/op="most")&&(a.allB (bM pr ps)&&b.allB (bM pr ps)))=true
  rw [decide_eq_true o,ia,ib]
  rfl
theorem jA {pr:List (Str×Str)} {ps:List Str} {d:Fm} (h:d∈iu pr ps): ∃ k,k<ps.length/\d=l7 pr ps k:=by
 obtain ⟨k,hk,rfl⟩:=List.mem_map.mp h
 exact ⟨k,List.mem_range.mp hk,rfl⟩
theorem gc {pr:List (Str×Str)} {ps:List Str} {k:Nat} {p y:Str} (h:ps[k]? =some p) (e:aW pr p=some y):l7 pr ps k=.part (k:Int) y:=by
 unfold l7
 rw [h]
 show Fm.part _ ((aW pr p).getD "")=_
 rw [e]
 rfl
structure RlO (pr:List (Str×Str)) (ps:List Str) (x:Str) (r:Rul):Prop where
 pl:r.pl= -1
 wf:r.fm.wf
 sz:r.fm.size<=11
 ip:r.fm.inP ps.length
 few:(HT.ins [] (dd [] r.fm.rdk)).length<5
 pc:r.word=x->Prc (iu pr ps) r.fm/\ ∀ k,(∃ d∈iu pr ps,k∈d.prt)->k∈r.fm.prt
theorem RlO.price {pr:List (Str×Str)} {ps:List Str} {x wd:Str} {g:Fm} {ns:List Str} {tb:Str->List Str} (hP:PrO ns tb pr) (ht: ∀ p∈ns,UpO (tb p)) (hps: ∀ p∈ps,p∈ns) (h3:ps.length<=3) (p:Prc (iu pr ps) g) (s:g.size<=11) (c: ∀ k,(∃ d∈iu pr ps,k∈d.prt)->k∈g.prt):RlO pr ps x ⟨-1,wd,g⟩:=by
 have hd: ∀ d∈iu pr ps,∃ (k:Nat) (y:Str),k<ps.length/\d=.part (k:Int) y/\cA y=true:=fun d hd=>by
  obtain ⟨k,hk,e⟩:=jA hd
  have ep:=List.getElem?_eq_getElem hk
  have hm:=hps _ (List.mem_of_getElem? ep)
  obtain ⟨y,ey,hy⟩:=hP.at hm
  exact ⟨k,y,hk,by rw [e];exact gc ep ey,(ht _ hm).2.2.2 y hy⟩
 refine ⟨rfl,uF (fun d h=>?_) p,s,fun k hk=>?_,l4 (L:=(iu pr ps).map fun d=>(d.rdk.head?).getD []) (fun y hy=>?_) ?_,fun _=>⟨p,c⟩⟩
 ·obtain ⟨k,y,hk,rfl,hy⟩:=hd d h
  exact ⟨⟨by lia,by lia⟩,hy⟩
 ·obtain ⟨d,h,hk⟩:=uG p k hk
  obtain ⟨j,y,hj,rfl,hy⟩:=hd d h
  rw [List.mem_singleton.mp (show k∈[(j:Int)]from hk)]
  exact ⟨by lia,by lia⟩
 ·obtain ⟨d,h,hk⟩:=qE p y hy
  refine List.mem_map.mpr ⟨d,h,?_⟩
  obtain ⟨j,z,hj,rfl,hz⟩:=hd d h
  exact (List.mem_singleton.mp (show y∈[[.inr "part",.inl (j:Int),.inr z]]from hk)).symm
 ·unfold iu
  rw [List.length_map,List.length_map,List.length_range]
  lia
theorem RlO.level {pr:List (Str×Str)} {ps:List Str} {x wd:Str} {g:Fm} {tb:Str->List Str} (h3:ps.length<=3) (w:g.wfp (rdP tb ps)) (s:g.size<=11) (l:g.lfs<=4) (hne:wd≠x):RlO pr ps x ⟨-1,wd,g⟩:=by
 refine ⟨rfl,w.wf,s,fun k hk=>?_,l4 (fun y hy=>hy) (Nat.le_trans (dY g) l),fun e=>absurd e hne⟩
 refine cV (S:=fun k=>0<=k/\k.toNat<ps.length) (fun k x h=>?_) w k hk
 obtain ⟨j,y,p,e,hj,_⟩:=h
 cases e
 have:=(List.getElem?_eq_some_iff.mp hj).1
 exact ⟨by lia,by lia⟩
structure FrO (ns:List Str) (tb:Str->List Str) (pr:List (Str×Str)) (fr:FrP):Prop where
 own:fr.own∈ns
 ps: ∀ p∈fr.parts,p∈ns
 l3:fr.parts.length<=3
 ks:fr.rules.map (fun r=>(r.pl,r.word))=(tb fr.own).map (fun x=>((-1:Int),x))
 rl: ∀ r∈fr.rules,RlO pr fr.parts ((aW pr fr.own).getD "") r
theorem FrO.at {ns:List Str} {tb:Str->List Str} {pr:List (Str×Str)} {fr:FrP} (h:FrO ns tb pr fr) {x:Str} (hx:x∈tb fr.own): ∃ r∈fr.rules,fr.ru x=some r.fm/\r.word=x:=by
 have hm:((-1:Int),x)∈fr.rules.map (fun r=>(r.pl,r.word)):=by rw [h.ks];exact List.mem_map.mpr ⟨x,hx,rfl⟩
 obtain ⟨r,hr,e⟩:=List.mem_map.mp hm
 unfold FrP.ru
 cases hf:fr.rules.find? (fun r=>decide (r.pl= -1/\r.word=x))with
 | none=>
  have:=List.find?_eq_none.mp hf r hr
  rw [decide_eq_true ⟨(Prod.mk.inj e).1,(Prod.mk.inj e).2⟩]at this
  exact absurd rfl this
 | some q=>exact ⟨q,List.mem_of_find?_eq_some hf,rfl,(of_decide_eq_true (List.find?_some (p:=fun r:Rul=>decide (r.pl= -1/\r.word=x)) hf)).2⟩
theorem bkO {ns:List Str} {tb:Str->List Str} {pr:List (Str×Str)} {frs:List FrP} (n1:1<=ns.length) (n3:ns.length<=3) (nd:ns.Nodup) (ht: ∀ p∈ns,UpO (tb p)) (hP:PrO ns tb pr) (f1:1<=frs.length) (f6:frs.length<=6) (hfo: ∀ fr∈frs,FrO ns tb pr fr):BkO ⟨0,ns.map fun x=>⟨x,[],tb x⟩,frs⟩ pr:=by
 have en:(ns.map fun x=>(⟨x,[],tb x⟩:Srt)).map Srt.name=ns:=by rw [List.map_map];exact List.map_id' ns
 have hprl:pr.length=ns.length:=by rw [<- hP.1,List.length_map]
 have okF: ∀ fr∈frs,FrP.ok fr:=fun fr hf=>by
  have h:=hfo fr hf
  have l2:fr.rules.length=(tb fr.own).length:=by have:=congrArg List.length h.ks;rwa [List.length_map,List.length_map]at this
  have u:=ht _ h.own
  refine ⟨by have:=u.2.1;lia,?_,by have:=h.l3;lia,fun r hr=>⟨(h.rl r hr).wf,by have:=(h.rl r hr).sz;lia⟩⟩
  rw [h.ks]
  exact List.pairwise_map.mpr (u.2.2.1.imp fun hne e=>hne (Prod.mk.inj e).2)
 have inF:BkI ⟨0,ns.map fun x=>⟨x,[],tb x⟩,frs⟩:=fun fr hf r hr=>⟨((hfo fr hf).rl r hr).pl,((hfo fr hf).rl r hr).ip⟩
 refine ⟨rfl,⟨by rw [List.length_map];exact n1,by rw [List.length_map];exact n3,by rw [en];exact nd,(by show frs.length<=20;lia),fun fr hf=>?_⟩,inF,f1,by rw [hP.1];exact nd,by lia,fun s hs=>?_,fun s hs=>?_,fun fr hf x g ex eg=>?_,?_⟩
 ·have h:=hfo fr hf
  refine ⟨okF fr hf,h.l3,by rw [en];exact h.own,fun p hp=>by rw [en];exact h.ps p hp,fun s hs e x hx=>?_⟩
  obtain ⟨y,hy,rfl⟩:=List.mem_map.mp hs
  have e:y=fr.own:=e
  subst e
  obtain ⟨r,hr,er,_⟩:=h.at hx
  have R:=h.rl r hr
  exact ⟨r.fm,er,R.wf,by have:=R.sz;lia,R.few⟩
 ·obtain ⟨y,hy,rfl⟩:=List.mem_map.mp hs
  exact hP.at hy
 ·obtain ⟨y,hy,rfl⟩:=List.mem_map.mp hs
  exact ⟨(ht y hy).2.1,(ht y hy).2.2.2⟩
 ·have h:=hfo fr hf
  obtain ⟨y,ey,hy⟩:=hP.at h.own
  rw [ey]at ex
  cases ex
  obtain ⟨r,hr,er,hw⟩:=h.at hy
  rw [er]at eg
  cases eg
  have R:=h.rl r hr
  rw [ey]at R
  obtain ⟨p,c⟩:=R.pc hw
  refine ⟨R.sz,fun z hz=>?_⟩
  obtain ⟨d,hd,hzd⟩:=qE p z hz
  obtain ⟨k,hk,rfl⟩:=jA hd
  have ep:=List.getElem?_eq_getElem hk
  obtain ⟨v,ev,_⟩:=hP.at (h.ps _ (List.mem_of_getElem? ep))
  rw [gc ep ev]at hzd
  rw [List.mem_singleton.mp (show z∈[[.inr "part",.inl (k:Int),.inr v]]from hzd)]
  exact mem_prR.mpr ⟨k,_,ep,by rw [ev];rfl⟩
 ·unfold ipB
  have e1:nmB ⟨0,ns.map fun x=>⟨x,[],tb x⟩,frs⟩ pr=true:=decide_eq_true ⟨by rw [List.length_map];exact hprl,fun x hx=>by rw [en,<- hP.1];exact hx⟩
  have e2:upB ⟨0,ns.map fun x=>⟨x,[],tb x⟩,frs⟩ pr=true:=List.all_eq_true.mpr fun s hs=>by
   obtain ⟨y,hy,rfl⟩:=List.mem_map.mp hs
   obtain ⟨v,ev,hv⟩:=hP.at hy
   show decide ((aW pr y).getD ""∈tb y)=true
   rw [ev]
   exact decide_eq_true hv
  have e3:frs.all (foB pr)=true:=List.all_eq_true.mpr fun fr hf=>by
   have h:=hfo fr hf
   obtain ⟨y,ey,hy⟩:=hP.at h.own
   obtain ⟨r,hr,er,hw⟩:=h.at hy
   have R:=h.rl r hr
   rw [ey]at R
   obtain ⟨p,c⟩:=R.pc hw
   have hps: ∀ p∈fr.parts,∃ y,aW pr p=some y:=fun q hq=>by
    obtain ⟨v,ev,_⟩:=hP.at (h.ps q hq)
    exact ⟨v,ev⟩
   unfold foB
   rw [ey]
   show pfB pr fr ((fr.ru y).getD (.num 0))=true
   rw [er]
   show pfB pr fr r.fm=true
   rw [rH hps R.wf R.ip]
   unfold jz
   have dd': ∀ k,k<fr.parts.length-> ∃ v,(fr.parts[k]?.bind (aW pr))=some v/\l7 pr fr.parts k=.part (k:Int) v:=fun k hk=>by
    have ep:=List.getElem?_eq_getElem hk
    obtain ⟨v,ev⟩:=hps _ (List.mem_of_getElem? ep)
    exact ⟨v,by rw [ep];exact ev,gc ep ev⟩
   rw [sG (fun d hd=>?_) p,Bool.true_and]
   ·refine List.all_eq_true.mpr fun k hk=>decide_eq_true (c _ ?_)
    have hk:=List.mem_range.mp hk
    obtain ⟨v,_,e⟩:=dd' k hk
    exact ⟨l7 pr fr.parts k,List.mem_map.mpr ⟨k,List.mem_range.mpr hk,rfl⟩,by rw [e];show (k:Int)∈[(k:Int)];simp⟩
   ·obtain ⟨k,hk,rfl⟩:=jA hd
    obtain ⟨v,ev,e⟩:=dd' k hk
    rw [e]
    show decide (((fr.parts[((k:Nat):Int).toNat]?).bind (aW pr)).getD ""=v)=true
    rw [Int.toNat_natCast,ev]
    exact decide_eq_true rfl
  show (decide ((0:Int)=0)&&(nmB _ pr&&(upB _ pr&&frs.all (foB pr))))=true
  rw [e1,e2,e3]
  rfl
noncomputable abbrev NPb:List Str:=["script","start","head","names","forms","words","pricing","ups","k","some","made","tape","name","own","parts","readings","j","word","rules","due","formula"]
noncomputable def pbFor:List Stmt:=fZ ((bx cF).getD 7 (.Pass ⟨0,0,0,0⟩))
noncomputable def pwFor:List Stmt:=fZ (pbFor.getD 5 (.Pass ⟨0,0,0,0⟩))
theorem scPBook:aA NPb ["script","start"] (ag cF):=fsc
theorem vC {cdv:Value} {A:Around} {outer:List Env} {s:Shared} {H0:Hp} {E:XK}:
  ∃ t,PSs (bZ CX0 P w K mg base NPb "_law_priced_book" (ag cF) f cdv A outer s H0 E).nox (pwFor.drop 3) t/\
   ∀ (D:cL) (H9 HA:Hp) (o0 o1 o2 o3 o4 o5 o6 o7 o8 o9 o10 o11 o12 o13 o14 o15 o16 o19:Option V) (tp ra:Addr) (wd:Str) (v:V) (gm:Fm) (rvs:List V) (rules:List Rul),
    Kp tp H9 HA->Tp HA tp->H9 ra=none->ra≠tp->HA ra=some (.lst rvs)->RepRs HA rules rvs->rules.length<=2->Rep HA gm v->
    (∀ rvs' H',Kp tp H9 H'->Tp H' tp->H' ra=some (.lst rvs')->RepRs H' (rules++[⟨-1,wd,gm⟩]) rvs'->D.nx [o0,o1,o2,o3,o4,o5,o6,o7,o8,o9,o10,o11,o12,o13,o14,o15,o16,some (.str wd),some (.ref ra),o19,some v] H')->
    t D [o0,o1,o2,o3,o4,o5,o6,o7,o8,o9,o10,o11,o12,o13,o14,o15,o16,some (.str wd),some (.ref ra),o19,some v] HA:=by
 refine ⟨_,aj (bG (c9 PySem.F.plainAttrs_list PySem.F.slot_list_append PySem.F.type_list_append bo (pv 18) (aa (aB (aa (fG dB af) (aa (pv 17) (aa (pv 20) ac)))) ac))),?_⟩
 intro D H9 HA o0 o1 o2 o3 o4 o5 o6 o7 o8 o9 o10 o11 o12 o13 o14 o15 o16 o19 tp ra wd v gm rvs rules kA tA hra nra gra hRr h2 hv q
 have lR:=hRr.len
 refine ⟨_,rfl,.inl ⟨rfl,_,SqL.of gra⟩,1,rfl,_,rfl,_,rfl,(by show 3<=sizeLine;decide),fun p hp=>?_⟩
 have s1:=ae hp (.tup [.int (-1),.str wd,v])
 have g1:(upd HA p (.tup [.int (-1),.str wd,v])) p=some (.tup [.int (-1),.str wd,v]):=ab
 generalize upd HA p (.tup [.int (-1),.str wd,v])=HB at s1 g1 ⊢
 have graB:=s1 _ _ gra
 refine ⟨ra,rvs,.ref p,rfl,rfl,graB,ao (by lia),?_⟩
 have tk:TK HB (upd HB ra (.lst (rvs++[.ref p]))):=TK.lst graB
 have tkA:TK HA (upd HB ra (.lst (rvs++[.ref p]))):=(aF s1).trans tk
 refine q (rvs++[.ref p]) _ (fun c o h n=>?_) ?_ ab (Paired.snoc (hRr.mono tkA) ⟨p,v,rfl,tk _ _ g1,hv.mono tkA⟩)
 ·rw [ai (ah h hra)]
  exact s1 _ _ (kA _ _ h n)
 ·obtain ⟨t,ht⟩:=tA.same s1
  exact ⟨t,by rw [ai (Ne.symm nra)];exact ht⟩
theorem uD {cdv:Value} {A:Around} {outer:List Env} {s:Shared} {H0:Hp} {E:XK} (G:Gb mg)
  (GD:FnOk P w K mg base CX0 1 f2 fd2 ["tape","many"] aT) (bD:Binds K fd2 ["tape","many"] []) (kD:PySem.W.keepIn K (.ref f2)=true) (mD:mg "_law_digit"=some (.ref f2))
  (GF:FnOk P w K mg base CX0 3 f3 fd3 ["tape","due"] fR) (bF:Binds K fd3 ["tape","due"] []) (kF:PySem.W.keepIn K (.ref f3)=true) (mF:mg "_law_price_formula"=some (.ref f3))
  (GL:FnOk P w K mg base CX0 7 f5 fd5 ["tape","readings","room","signs"] (gx 4)) (bL:Binds K fd5 ["tape","readings","room","signs"] []) (kL:PySem.W.keepIn K (.ref f5)=true) (mL:mg "_law_level_formula"=some (.ref f5))
  (hr:Room 7 (bZ CX0 P w K mg base NPb "_law_priced_book" (ag cF) f cdv A outer s H0 E).nox.A):
  ∃ t,PSs (bZ CX0 P w K mg base NPb "_law_priced_book" (ag cF) f cdv A outer s H0 E).nox pwFor t/\
   ∀ (D:cL) (H9 HA:Hp) (o0 o1 o2 o3 o4 o5 o7 o8 o9 o10 o12 o16 o19 o20:Option V) (tp pd pa rl ra:Addr) (on wd x:Str) (ps:List Str) (rv rvs:List V) (rules:List Rul) (pr:List (Str×Str)) (ns:List Str) (tb:Str->List Str),
    Tp H9 tp->Kp tp H9 HA->Tp HA tp->H9 pa=some (.tup (ps.map V.str))->H9 pd=some (.dK (prK pr))->H9 rl=some (.lst rv)->rl≠tp->rv.length<=6->LvP (rdP tb ps) H9 rv->
    H9 ra=none->ra≠tp->HA ra=some (.lst rvs)->RepRs HA rules rvs->rules.length<=2->PrO ns tb pr->(∀ p∈ns,UpO (tb p))->(∀ p∈ps,p∈ns)->ps.length<=3->aW pr on=some x->
    (∀ o19 o20 gm rvs' H',Kp tp H9 H'->Tp H' tp->H' ra=some (.lst rvs')->RepRs H' (rules++[⟨-1,wd,gm⟩]) rvs'->RlO pr ps x ⟨-1,wd,gm⟩->
     D.nx [o0,o1,o2,o3,o4,o5,some (.ref pd),o7,o8,o9,o10,some (.ref tp),o12,some (.str on),some (.ref pa),some (.ref rl),o16,some (.str wd),some (.ref ra),o19,o20] H')->
    t D [o0,o1,o2,o3,o4,o5,some (.ref pd),o7,o8,o9,o10,some (.ref tp),o12,some (.str on),some (.ref pa),some (.ref rl),o16,some (.str wd),some (.ref ra),o19,o20] HA:=by
 have hu:=cT hr
 have hr1:=hr.mono (show 1<=7 by decide)
 have hr3:=hr.mono (show 3<=7 by decide)
 obtain ⟨t3,p3,h3⟩:=vC (P:=P) (w:=w) (K:=K) (mg:=mg) (base:=base) (f:=f) (cdv:=cdv) (A:=A) (outer:=outer) (s:=s) (H0:=H0) (E:=E)
 refine ⟨_,ad (fV (i:=19) (sc0:=ag cF) (N0:=NPb) (ys:=["parts","pricing"]) (fr:=[14,6]) rfl scPBook.nd rfl (Or.inl rfl) (bj rfl G.range (aa (aJ aC rfl G.len PySem.boot_len (aa (pv 14) ac)) ac)) rfl rfl
     cok (fun C s H ex=>aB (aa aE (aa (pv 0) (aa (bq hu (pv 2) (aq (r:=ot K) aw (pv 1) (pv 0) (fun _ _=>rfl)) (fun _ _=>rfl)) ac)))))
  (ad (al (i:=20) scPBook.nd rfl (Or.inl rfl) (ak GF hr3 rfl mF kF bF .nil am (aa (pv 11) (aa (pv 19) ac))))
  (ad (aV (au gT (pv 17) (bq hu (pv 6) (pv 13) (fun _ _=>rfl)) (aH _))
   (aj (al (i:=20) scPBook.nd rfl (Or.inl rfl) (ak GL hr rfl mL kL bL .nil am (aa (pv 11) (aa (pv 15) (aa (ay aZ af (ak GD hr1 rfl mD kD bD .nil am (aa (pv 11) (aa af ac)))) (aa (aY (pac aE (pac aE (pac aE ac)))) ac))))))) aK)
  p3)),?_⟩
 intro D H9 HA o0 o1 o2 o3 o4 o5 o7 o8 o9 o10 o12 o16 o19 o20 tp pd pa rl ra on wd x ps rv rvs rules pr ns tb t9 kA tA hpa hpd hrl nrl lrv hLv hra nra gra hRr h2 hP ht hps l3 ex q
 have ndt:pd≠tp:=fun z=>by
  obtain ⟨t,ht⟩:=t9
  rw [z,ht]at hpd
  cases hpd
 have lpv:(ps.map V.str).length=ps.length:=List.length_map _
 have hpaA:=kA.tk t9 _ _ hpa
 have gget: ∀ {H':Hp} {z y:Str},Kp tp H9 H'->aW pr z=some y->DGet H' pd (.str z) (some (.str y)):=fun {H' z y} k e=>by
  have:=DGet.k (k:=.inr z) (k _ _ hpd ndt)
  rw [cm,e]at this
  exact this
 refine ⟨_,rfl,pa,_,rfl,.inr (SqT.of hpaA),_,rfl,by lia,by lia,?_⟩
 refine dR (n:=(((ps.map V.str).length:Nat):Int).toNat) (R:=fun i v=>v=.int (0+i)) (by lia) ju eS fY
  (fun p n ys H'=>Same HA H'/\H' p=some (.lst ys)/\ys.length=n/\Paired (Rep H') ((List.range n).map (l7 pr ps)) ys) ?_ ?_ ?_ ?_
 ·intro p hp
  exact ⟨ae hp _,ab,rfl,.nil⟩
 ·rintro p n ys H' ⟨_,gp,hl,_⟩
  exact ⟨gp,hl⟩
 ·rintro p n ys H' v k hp hn rfl ⟨s',gp,hl,hPd⟩ hk
  have hn':n<ps.length:=by lia
  have ep:=List.getElem?_eq_getElem hn'
  obtain ⟨y,ey,_⟩:=hP.at (hps _ (List.mem_of_getElem? ep))
  have eat:atI (ps.map V.str) (0+ (n:Int))=some (.str ps[n]):=by
   rw [Int.zero_add]
   exact ar (by rw [List.getElem?_map,ep];rfl)
  refine ⟨_,rfl,_,rfl,_,rfl,_,rfl,pa,_,_,.str ps[n],rfl,rfl,SqT.of (s' _ _ hpaA),eat,pd,.str y,rfl,gget (kA.same s') ey,(by show 3<=sizeLine;decide),fun b hb=>?_⟩
  have s2:=ae hb (.tup [.str "part",.int (0+ (n:Int)),.str y])
  have g2:(upd H' b (.tup [.str "part",.int (0+ (n:Int)),.str y])) b=some (.tup [.str "part",.int (0+ (n:Int)),.str y]):=ab
  generalize upd H' b (.tup [.str "part",.int (0+ (n:Int)),.str y])=H2 at s2 g2 ⊢
  have gp2:=s2 _ _ gp
  have tk2:TK H2 (upd H2 p (.lst (ys++[.ref b]))):=TK.lst gp2
  refine hk _ _ gp2 ⟨fun c o h=>by rw [ai (ah h hp)];exact s2 _ _ (s' _ _ h),ab,by rw [List.length_append,hl];rfl,?_⟩
  rw [List.range_succ,List.map_append]
  refine Paired.app (Paired.mapP hPd fun _ _ h=>(h.mono (aF s2)).mono tk2) (.cons ?_ .nil)
  rw [gc ep ey]
  exact ⟨b,rfl,by rw [Int.zero_add]at g2;exact tk2 _ _ g2⟩
 ·rintro p ys HB hp ⟨sB,gp,hl,hPd⟩
  rw [show (((ps.map V.str).length:Nat):Int).toNat=ps.length by rw [lpv];exact Int.toNat_natCast _]at hPd
  have kB:=kA.same sB
  have tB:=tA.same sB
  have npt:=ck tA hp
  refine ⟨_,rfl,_,rfl,tp,p,iu pr ps,ys,rfl,tB,npt,gp,hPd,by unfold iu;rw [List.length_map,List.length_range];exact l3,fun d hd=>by obtain ⟨k,_,rfl⟩:=jA hd;rfl,fun v gm HC hv pc sz cv kC tC=>?_⟩
  have kAC:=kB.trans kC
  have tkC:TK HA HC:=fun b xs h=>kC.tk tB _ _ (sB _ _ h)
  have graC:=kC _ _ (sB _ _ gra) nra
  refine ⟨_,rfl,_,rfl,_,rfl,pd,.str x,rfl,gget kAC ex,rfl,_,rfl,?_⟩
  rw [qe]
  by_cases cx:wd=x
  ·rw [decide_eq_true cx]
   exact aU (h3 _ H9 HC o0 o1 o2 o3 o4 o5 (some (.ref pd)) o7 o8 o9 o10 (some (.ref tp)) o12 (some (.str on)) (some (.ref pa)) (some (.ref rl)) o16 (some (.ref p)) tp ra wd v gm rvs rules kAC tC hra nra graC (hRr.mono tkC) h2 hv fun rvs' H' k' t' g' r'=>q _ _ gm rvs' H' k' t' g' r' (RlO.price hP ht hps l3 pc sz cv))
  ·rw [decide_eq_false cx]
   refine bg ⟨_,rfl,_,rfl,_,rfl,tp,4,rfl,tC,by decide,by decide,fun d t d0 d1=>⟨1,d,rfl,rfl,?_⟩⟩
   have kD':Kp tp HC (upd HC tp (.lst [.int t])):=Kp.tape
   have tD:Tp (upd HC tp (.lst [.int t])) tp:=⟨t,ab⟩
   generalize upd HC tp (.lst [.int t])=HD at kD' tD ⊢
   refine ⟨(by show 3<=sizeLine;decide),fun sg hsg=>?_⟩
   have nst:=ck tD hsg
   have sE:=ae hsg (.lst [.str "less",.str "times",.str "least"])
   have gE:(upd HD sg (.lst [.str "less",.str "times",.str "least"])) sg=some (.lst (([("less":Str),"times","least"]:List Str).map V.str)):=ab
   have tE:=tD.same sE
   generalize upd HD sg (.lst [.str "less",.str "times",.str "least"])=HE at sE gE tE ⊢
   have kE:Kp tp H9 HE:=(kAC.trans kD').same sE
   refine ⟨rdP tb ps,(fun y ⟨_,_,_,e,_⟩=>by cases e),tp,rl,sg,rv,1+d,_,rfl,tE,nrl,nst,kE _ _ hrl nrl,by lia,hLv.mono (kE.tk t9),gE,by decide,by decide,fun y hy=>by revert y;decide +kernel,by lia,by lia,by lia,fun v2 gm2 HF rp wf lv sz2 kF' tF=>?_⟩
   have kF2:Kp tp H9 HF:=kE.trans kF'
   have kCF:Kp tp HC HF:=(kD'.same sE).trans kF'
   have graF:=kCF _ _ graC nra
   have tkF:TK HA HF:=tkC.trans (kCF.tk tC)
   exact h3 _ H9 HF o0 o1 o2 o3 o4 o5 (some (.ref pd)) o7 o8 o9 o10 (some (.ref tp)) o12 (some (.str on)) (some (.ref pa)) (some (.ref rl)) o16 (some (.ref p)) tp ra wd v2 gm2 rvs rules kF2 tF hra nra graF (hRr.mono tkF) h2 rp fun rvs' H' k' t' g' r'=>q _ _ gm2 rvs' H' k' t' g' r' (RlO.level l3 wf (by lia) (by lia) cx)
theorem sJ {cdv:Value} {A:Around} {outer:List Env} {s:Shared} {H0:Hp} {E:XK} (G:Gb mg)
  (GD:FnOk P w K mg base CX0 1 f2 fd2 ["tape","many"] aT) (bD:Binds K fd2 ["tape","many"] []) (kD:PySem.W.keepIn K (.ref f2)=true) (mD:mg "_law_digit"=some (.ref f2))
  (GF:FnOk P w K mg base CX0 3 f3 fd3 ["tape","due"] fR) (bF:Binds K fd3 ["tape","due"] []) (kF:PySem.W.keepIn K (.ref f3)=true) (mF:mg "_law_price_formula"=some (.ref f3))
  (GT:FnOk P w K mg base CX0 2 f4 fd4 ["script","k"] (i9 K)) (bT:Binds K fd4 ["script","k"] []) (kT:PySem.W.keepIn K (.ref f4)=true) (mT:mg "_law_tape"=some (.ref f4))
  (GL:FnOk P w K mg base CX0 7 f5 fd5 ["tape","readings","room","signs"] (gx 4)) (bL:Binds K fd5 ["tape","readings","room","signs"] []) (kL:PySem.W.keepIn K (.ref f5)=true) (mL:mg "_law_level_formula"=some (.ref f5))
  (hr:Room 7 (bZ CX0 P w K mg base NPb "_law_priced_book" (ag cF) f cdv A outer s H0 E).nox.A):
  ∃ t,PSs (bZ CX0 P w K mg base NPb "_law_priced_book" (ag cF) f cdv A outer s H0 E).nox pbFor t/\
   ∀ (D:cL) (HB H6:Hp) (sc hd fl c pa pd td ml:Addr) (is:List Int) (st:Int) (i:Nat) (zs:List V) (nm on:Str) (ps ns:List Str) (tb:Str->List Str) (kvs:List (Key×V)) (pr:List (Str×Str)) (mv:List V) (frs:List FrP) (o2 o3 o5 o9 o11 o12 o13 o14 o15 o16 o17 o18 o19 o20:Option V),
    SqL K HB sc (is.map V.int)->is.length<=63->0<=st->st<900->i<6->HB fl=some (.lst zs)->zs[i]? =some (.ref c)->HB c=some (.tup [.str nm,.str on,.ref pa])->HB pa=some (.tup (ps.map V.str))->
    HB td=some (.dK kvs)->TabW hd HB kvs tb ns->HB pd=some (.dK (prK pr))->PrO ns tb pr->on∈ns->(∀ p∈ps,p∈ns)->ps.length<=3->(∀ p∈ns,UpO (tb p))->
    HB ml=none->Same HB H6->H6 ml=some (.lst mv)->RepFPs H6 frs mv->frs.length<=10->
    (∀ o11 o12 o13 o14 o15 o16 o17 o18 o19 o20 mv' rules H',Same HB H'->H' ml=some (.lst mv')->RepFPs H' (frs++[⟨nm,on,ps,rules⟩]) mv'->FrO ns tb pr ⟨nm,on,ps,rules⟩->
     D.nx [some (.ref sc),some (.int st),o2,o3,some (.ref fl),o5,some (.ref pd),some (.ref td),some (.int (0+ (i:Int))),o9,some (.ref ml),o11,o12,o13,o14,o15,o16,o17,o18,o19,o20] H')->
    t D [some (.ref sc),some (.int st),o2,o3,some (.ref fl),o5,some (.ref pd),some (.ref td),some (.int (0+ (i:Int))),o9,some (.ref ml),o11,o12,o13,o14,o15,o16,o17,o18,o19,o20] H6:=by
 have hu:=cT hr
 have hr2:=hr.mono (show 2<=7 by decide)
 obtain ⟨tW,pW,hW⟩:=uD (f:=f) (cdv:=cdv) (A:=A) (outer:=outer) (s:=s) (H0:=H0) (E:=E) G GD bD kD mD GF bF kF mF GL bL kL mL hr
 refine ⟨_,ad (al (i:=11) scPBook.nd rfl (Or.inl rfl) (ak GT hr2 rfl mT kT bT .nil am (aa (pv 0) (aa (ay aZ (ay aZ (pv 1) af) (pv 8)) ac))))
  (ad (dZ (aq aO (pv 4) (pv 8) (fun _ _=>rfl)) (cQ rfl (aG (av (i:=12) scPBook.nd rfl (Or.inl rfl)) (aG (av (i:=13) scPBook.nd rfl (Or.inl rfl)) (aG (av (i:=14) scPBook.nd rfl (Or.inr rfl)) cn)))))
  (ad (al (i:=15) scPBook.nd rfl (Or.inl rfl) (aY ac))
  (ad (bA PassesOwn.never rfl (bj rfl G.range (aa (aJ aC rfl G.len PySem.boot_len (aa (pv 14) ac)) ac)) (av (i:=16) scPBook.nd rfl (Or.inr rfl))
   (aj (bG (c9 PySem.F.plainAttrs_list PySem.F.slot_list_extend PySem.F.type_list_extend iN (pv 15) (aa
    (cK (sc0:=ag cF) (N0:=NPb) (ys:=["j"]) (fr:=[16]) rfl (cY (bq hu (pv 7) (aq aw (pv 14) (pv 16) (fun _ _=>rfl)) (fun _ _=>rfl))) rfl rfl
     cok (fun C s H ex=>aB (aa aE (aa (pv 1) (aa (pv 0) ac))))) ac)))))
  (ad (al (i:=18) scPBook.nd rfl (Or.inl rfl) (aY ac))
  (ad (bA PassesOwn.never rfl (cY (bq hu (pv 7) (pv 13) (fun _ _=>rfl))) (av (i:=17) scPBook.nd rfl (Or.inl rfl)) pW)
  (aj (bG (c9 PySem.F.plainAttrs_list PySem.F.slot_list_append PySem.F.type_list_append bo (pv 10) (aa
   (aB (aa (pv 12) (aa (pv 13) (aa (pv 14) (aa (aS bm rfl G.tuple (by decide +kernel) (aa (pv 18) ac)) ac))))) ac))))))))),?_⟩
 intro D HB H6 sc hd fl c pa pd td ml is st i zs nm on ps ns tb kvs pr mv frs o2 o3 o5 o9 o11 o12 o13 o14 o15 o16 o17 o18 o19 o20 hS his hst0 hst1 hi6 hfl hz hc hpa gtd0 hT4 gpd0 hP hon hps lps ht hml S6 gml hFs hfl10 q
 refine ⟨_,rfl,_,rfl,_,_,rfl,rfl,_,rfl,_,_,rfl,rfl,sc,is,_,rfl,S6.seq hS,his,by lia,by lia,fun tp t1 htp=>?_⟩
 have s7:=ae htp (.lst [.int t1])
 have tt7:Tp (upd H6 tp (.lst [.int t1])) tp:=⟨t1,ab⟩
 generalize upd H6 tp (.lst [.int t1])=H7 at s7 tt7 ⊢
 have SH7:=S6.trans s7
 have eat:atI zs (0+ (i:Int))=some (.ref c):=by
  rw [Int.zero_add]
  exact ar hz
 refine ⟨_,rfl,_,rfl,fl,_,_,.ref c,rfl,rfl,SqL.of (SH7 _ _ hfl),eat,c,_,rfl,SqT.of (SH7 _ _ hc),rfl,_,_,rfl,_,_,rfl,_,_,rfl,rfl,?_⟩
 refine ⟨(by show 0<=sizeLine;decide),fun rl hrl=>?_⟩
 have nrt:=ck tt7 hrl
 have s8:=ae hrl (.lst [])
 have g8:(upd H7 rl (.lst [])) rl=some (.lst []):=ab
 generalize upd H7 rl (.lst [])=H8 at s8 g8 ⊢
 have SH8:=SH7.trans s8
 have lpv:(ps.map V.str).length=ps.length:=List.length_map _
 have T8: ∀ H',Same H7 H'->TabW hd H' kvs tb ns:=fun H' s'=>hT4.same (SH7.trans s')
 have gtd: ∀ H',Same H7 H'->H' td=some (.dK kvs):=fun H' s'=>s' _ _ (SH7 _ _ gtd0)
 refine ⟨_,rfl,pa,_,rfl,.inr (SqT.of (SH8 _ _ hpa)),_,rfl,by lia,by lia,?_⟩
 refine cj (fun n σ H'=> ∃ o16 rv,σ=[some (.ref sc),some (.int st),o2,o3,some (.ref fl),o5,some (.ref pd),some (.ref td),some (.int (0+ (i:Int))),o9,some (.ref ml),some (.ref tp),some (.str nm),some (.str on),some (.ref pa),some (.ref rl),o16,o17,o18,o19,o20]/\Same H7 H'/\H' rl=some (.lst rv)/\rv.length<=2*n/\LvP (rdP tb ps) H' rv)
  ⟨_,[],rfl,s8,g8,Nat.le_refl _,fun v h=>(by cases h)⟩ ?_ ?_
 ·rintro n σ H9 hn ⟨o16,rv,rfl,S9,grl,lrv,hLv⟩
  rw [lpv]at hn
  obtain ⟨p,hp⟩: ∃ p,ps[n]? =some p:=⟨ps[n]'(by lia),List.getElem?_eq_getElem (by lia)⟩
  have eatp:atI (ps.map V.str) (0+ (n:Int))=some (V.str p):=by
   rw [Int.zero_add]
   exact ar (by rw [List.getElem?_map,hp];rfl)
  obtain ⟨a',_,ea,ha',hup⟩:=T8 H9 S9 p (hps p (List.mem_of_getElem? hp))
  refine ⟨_,rfl,.inl ⟨rfl,_,SqL.of grl⟩,?_⟩
  refine ⟨_,rfl,_,rfl,_,rfl,pa,_,_,.str p,rfl,rfl,SqT.of (S9 _ _ (SH7 _ _ hpa)),eatp,td,.ref a',rfl,(by rw [<- ea];exact DGet.k (k:=.inr p) (gtd H9 S9)),a',rfl,⟨_,SqL.of ha'⟩,?_⟩
  have lup:=hup.2.1
  refine cr (as:=tb p) (A:=fun x v=>v=.str x) (by rw [List.length_map];lia) (dj (tb p)) (eV ha') (eU ha') (gY ha') (fun H x v=>uf H [.str "part",.int (0+ (n:Int)),.str x] v) (fun t ⟨a,e,h⟩=>⟨a,e,t _ _ h⟩) ?_ ?_
  ·rintro x v H10 k hx rfl s10 hk
   refine ⟨_,rfl,_,rfl,(by show 3<=sizeLine;decide),fun p1 hp1=>?_⟩
   exact hk _ _ (ae hp1 _) ⟨p1,rfl,ab⟩
  ·intro pl vs H10 hpl s10 gpl hTw
   have lw:(tb p).length=vs.length:=Paired.length hTw
   have grl10:=s10 _ _ grl
   refine ⟨rl,pl,rv,vs,rfl,rfl,grl10,gpl,Nat.le_of_lt (ao (by lia)),?_⟩
   have tk:TK H10 (upd H10 rl (.lst (rv++vs))):=TK.lst grl10
   refine ⟨_,rv++vs,rfl,?_,ab,by rw [List.length_append];lia,?_⟩
   ·intro y oo h
    rw [ai (ah h hrl)]
    exact s10 _ _ (S9 _ _ h)
   ·intro v hv
    rcases List.mem_append.mp hv with h | h
    ·obtain ⟨k',x',r',w'⟩:=hLv v h
     exact ⟨k',x',r'.mono ((aF s10).trans tk),w'⟩
    ·obtain ⟨x,hx,a1,rfl,ha1⟩:=gR hTw h
     exact ⟨0+ (n:Int),x,⟨a1,rfl,tk _ _ ha1⟩,⟨⟨by lia,by lia⟩,hup.2.2.2 x hx⟩,n,x,p,by rw [Int.zero_add],hp,hx⟩
 ·rintro σ H9 ⟨o16,rv,rfl,S9,grl,lrv,hLv⟩
  have lrv9:rv.length<=6:=by
   have h4:(((ps.map V.str).length:Int)).toNat=ps.length:=by rw [lpv];exact Int.toNat_natCast _
   have lrv':rv.length<=2* (((ps.map V.str).length:Int)).toNat:=lrv
   rw [h4]at lrv'
   lia
  have tt9:Tp H9 tp:=tt7.same S9
  have SH9:=SH7.trans S9
  refine ⟨(by show 0<=sizeLine;decide),fun ra hra=>?_⟩
  have nra:=ck tt9 hra
  have s10:=ae hra (.lst [])
  have g10:(upd H9 ra (.lst [])) ra=some (.lst []):=ab
  have tt10:=tt9.same s10
  generalize upd H9 ra (.lst [])=H10 at s10 g10 tt10 ⊢
  have S710:=S9.trans s10
  obtain ⟨a',_,ea,ha9,hup⟩:=T8 H9 S9 on hon
  have ha':=s10 _ _ ha9
  obtain ⟨x,ex,hx⟩:=hP.at hon
  have na':a'≠tp:=fun z=>by
   obtain ⟨t,ht'⟩:=tt9
   rw [z,ht']at ha9
   cases hh:tb on with
   | nil=>rw [hh]at ha9;cases ha9
   | cons y ys=>rw [hh]at ha9;cases ha9
  have lup:=hup.2.1
  refine ⟨_,rfl,_,rfl,td,.ref a',rfl,(by rw [<- ea];exact DGet.k (k:=.inr on) (gtd H10 S710)),a',rfl,⟨_,SqL.of ha'⟩,?_⟩
  refine hJ (xs:=(tb on).map V.str) (fun n σ H'=>n<=(tb on).length/\ ∃ o17 o19 o20 rvs rules,σ=[some (.ref sc),some (.int st),o2,o3,some (.ref fl),o5,some (.ref pd),some (.ref td),some (.int (0+ (i:Int))),o9,some (.ref ml),some (.ref tp),some (.str nm),some (.str on),some (.ref pa),some (.ref rl),o16,o17,some (.ref ra),o19,o20]/\Kp tp H9 H'/\Tp H' tp/\H' ra=some (.lst rvs)/\RepRs H' rules rvs/\rules.map (fun r=>(r.pl,r.word))=((tb on).take n).map (fun x=>((-1:Int),x))/\ ∀ r∈rules,RlO pr ps x r)
   ⟨Nat.zero_le _,_,_,_,[],[],rfl,Kp.refl.same s10,tt10,g10,.nil,rfl,fun r h=>(by cases h)⟩ (fun n σ H' _ h=>by obtain ⟨_,_,_,_,_,_,_,k',_⟩:=h;exact SqL.of (k' _ _ ha9 na')) ?_ ?_
  ·rintro n y σ H11 hy ⟨hn,o17,o19,o20,rvs,rules,rfl,k11,tt11,gra,hRr,hmap,hfm⟩
   have hlt:n< (tb on).length:=by
    have:=(List.getElem?_eq_some_iff.mp hy).1
    rw [List.length_map]at this
    exact this
   rw [List.getElem?_map]at hy
   obtain ⟨wd,hwd,rfl⟩:=Option.map_eq_some_iff.mp hy
   have lrules:rules.length=n:=by
    have:=congrArg List.length hmap
    rw [List.length_map,List.length_map,List.length_take]at this
    lia
   refine hW _ H9 H11 _ _ _ _ _ _ _ _ _ _ _ _ _ _ tp pd pa rl ra on wd x ps rv rvs rules pr ns tb tt9 k11 tt11 (SH9 _ _ hpa) (SH9 _ _ gpd0) grl nrt lrv9 hLv hra nra gra hRr (by lia) hP ht hps lps ex fun o19 o20 gm rvs' H' k' t' g' r' R=>?_
   refine ⟨hlt,_,_,_,rvs',_,rfl,k',t',g',r',?_,fun r hrr=>?_⟩
   ·rw [List.map_append,hmap,List.take_add_one,hwd,List.map_append]
    rfl
   ·rcases List.mem_append.mp hrr with h | h
    ·exact hfm r h
    ·rw [List.mem_singleton.mp h];exact R
  ·rintro σ H11 ⟨_,o17,o19,o20,rvs,rules,rfl,k11,tt11,gra,hRr,hmap,hfm⟩
   rw [List.length_map,List.take_length]at hmap
   have S611:Same H6 H11:=fun b oo h=>k11 b oo (S9 b oo (s7 b oo h)) (ah h htp)
   have gml11:=S611 _ _ gml
   refine ⟨_,rfl,.inl ⟨rfl,_,SqL.of gml11⟩,_,rfl,_,rfl,_,rfl,_,rfl,ra,_,rfl,.inl ⟨SqL.of gra,fun rt hrt=>?_⟩⟩
   have s12:=ae hrt (.tup rvs)
   have g12:(upd H11 rt (.tup rvs)) rt=some (.tup rvs):=ab
   generalize upd H11 rt (.tup rvs)=H12 at s12 g12 ⊢
   refine ⟨(by show 4<=sizeLine;decide),fun p13 hp13=>?_⟩
   have s13:=ae hp13 (.tup [.str nm,.str on,.ref pa,.ref rt])
   have g13:(upd H12 p13 (.tup [.str nm,.str on,.ref pa,.ref rt])) p13=some (.tup [.str nm,.str on,.ref pa,.ref rt]):=ab
   generalize upd H12 p13 (.tup [.str nm,.str on,.ref pa,.ref rt])=H13 at s13 g13 ⊢
   have S613:Same H6 H13:=S611.trans (s12.trans s13)
   have gml13:=S613 _ _ gml
   have lmv:=hFs.len
   refine ⟨ml,mv,.ref p13,rfl,rfl,gml13,ao (by lia),?_⟩
   have tk:TK H13 (upd H13 ml (.lst (mv++[.ref p13]))):=TK.lst gml13
   have tk6:TK H6 (upd H13 ml (.lst (mv++[.ref p13]))):=(aF S613).trans tk
   refine q _ _ _ _ _ _ _ _ _ _ (mv++[.ref p13]) rules _ (fun b oo h=>?_) ab (Paired.snoc (RepFPs.mono tk6 hFs) ⟨p13,pa,rt,rvs,rfl,tk _ _ g13,tk _ _ (S613 _ _ (S6 _ _ hpa)),tk _ _ (s13 _ _ g12),hRr.mono ((aF (s12.trans s13)).trans tk)⟩) ⟨hon,hps,lps,hmap,fun r hrr=>?_⟩
   ·rw [ai (ah h hml)]
    exact S613 _ _ (S6 _ _ h)
   ·show RlO pr ps ((aW pr on).getD "") r
    rw [ex]
    exact hfm r hrr
noncomputable def uA (K:PySem.W.Frag):List V->Hp->VK->Prop:=fun xs H Q=> ∃ p ys,xs=[.ref p]/\((SqL K H p ys/\ ∀ l,H l=none->Q (.ref l) (upd H l (.tup ys)))\/(SqT K H p ys/\Q (.ref p) H))
noncomputable def mY (K:PySem.W.Frag):Sp:=fun vs H Q _=> ∃ (sc:Addr) (is:List Int) (st:Int),vs=[.ref sc,.int st]/\SqL K H sc (is.map V.int)/\is.length<=63/\0<=st/\st<900/\
 ∀ a b bk d pr H',H' a=some (.tup [.ref b,.ref d])->RepBP H' bk (.ref b)->BkO bk pr->H' d=some (.dK (prK pr))->Same H H'->Q (.ref a) H'
theorem qV (F:Fun K "_law_priced_book" "_law_priced_book" cF f fd) (G:Gb mg)
  (GD:FnOk P w K mg base CX0 1 f2 fd2 ["tape","many"] aT) (bD:Binds K fd2 ["tape","many"] []) (kD:PySem.W.keepIn K (.ref f2)=true) (mD:mg "_law_digit"=some (.ref f2))
  (GF:FnOk P w K mg base CX0 3 f3 fd3 ["tape","due"] fR) (bF:Binds K fd3 ["tape","due"] []) (kF:PySem.W.keepIn K (.ref f3)=true) (mF:mg "_law_price_formula"=some (.ref f3))
  (GT:FnOk P w K mg base CX0 2 f4 fd4 ["script","k"] (i9 K)) (bT:Binds K fd4 ["script","k"] []) (kT:PySem.W.keepIn K (.ref f4)=true) (mT:mg "_law_tape"=some (.ref f4))
  (GL:FnOk P w K mg base CX0 7 f5 fd5 ["tape","readings","room","signs"] (gx 4)) (bL:Binds K fd5 ["tape","readings","room","signs"] []) (kL:PySem.W.keepIn K (.ref f5)=true) (mL:mg "_law_level_formula"=some (.ref f5))
  (GB:FnOk P w K mg base CX0 3 f6 fd6 ["tape","many","most"] jV) (bB:Binds K fd6 ["tape","many","most"] []) (kB:PySem.W.keepIn K (.ref f6)=true) (mB:mg "_law_build"=some (.ref f6))
  (GN:FnOk P w K mg base CX0 2 f7 fd7 ["tape","many"] gu) (bN:Binds K fd7 ["tape","many"] []) (kN:PySem.W.keepIn K (.ref f7)=true) (mN:mg "_law_names"=some (.ref f7)):
  FnOk P w K mg base CX0 8 f fd ["script","start"] (mY K):=by
 refine F.ok scPBook (fun vs H Q E h=>?_) (fun cdv A outer s H vs Q E hr h=>?_)
 ·obtain ⟨sc,is,st,rfl,_⟩:=h
  rfl
 obtain ⟨sc,is,st,rfl,hS,his,hst0,hst1,q⟩:=h
 have hu:=cT hr
 have hr1:=hr.mono (show 1<=7 by decide)
 have hr2:=hr.mono (show 2<=7 by decide)
 have hr3:=hr.mono (show 3<=7 by decide)
 obtain ⟨tF,pF,hF⟩:=sJ (f:=f) (cdv:=cdv) (A:=A) (outer:=outer) (s:=s) (H0:=H) (E:=E) G GD bD kD mD GF bF kF mF GT bT kT mT GL bL kL mL hr
 refine ⟨_,ad (al (i:=2) scPBook.nd rfl (Or.inl rfl) (ak GT hr2 rfl mT kT bT .nil am (aa (pv 0) (aa (pv 1) ac))))
  (ad (dZ (ak GB hr3 rfl mB kB bB .nil am (aa (pv 2) (aa (ay aZ af (ak GD hr1 rfl mD kD bD .nil am (aa (pv 2) (aa af ac)))) (aa af ac)))) (cQ rfl (aG (av (i:=3) scPBook.nd rfl (Or.inl rfl)) (aG (av (i:=4) scPBook.nd rfl (Or.inl rfl)) cn))))
  (ad (al (i:=5) scPBook.nd rfl (Or.inl rfl) (ak GN hr2 rfl mN kN bN .nil am (aa (pv 2) (aa af ac))))
  (ad (al (i:=6) scPBook.nd rfl (Or.inr rfl) gP)
  (ad (al (i:=7) scPBook.nd rfl (Or.inr rfl) gP)
  (ad (bA PassesOwn.never rfl (bj rfl G.range (aa (aJ aC rfl G.len PySem.boot_len (aa (pv 3) ac)) ac)) (av (i:=8) scPBook.nd rfl (Or.inl rfl))
   (ad (al (i:=9) scPBook.nd rfl (Or.inl rfl) (bn eK (ay gU (bn eK (pv 5) (bH (pv 8)) bJ) (bn eK (pv 5) bJ (bH (pv 8)))) bJ (bH (ay aZ af (ak GD hr1 rfl mD kD bD .nil am (aa (pv 2) (aa af ac)))))))
   (ad (cX hu (pv 7) (aq aO (pv 3) (pv 8) (fun _ _=>rfl)) (pv 9) rfl)
   (aj (cX hu (pv 6) (aq aO (pv 3) (pv 8) (fun _ _=>rfl)) (aq aO (pv 9) (ak GD hr1 rfl mD kD bD .nil am (aa (pv 2) (aa (aJ aC rfl G.len PySem.boot_len (aa (pv 9) ac)) ac))) (fun _ _=>rfl)) rfl)))))
  (ad (al (i:=10) scPBook.nd rfl (Or.inl rfl) (aY ac))
  (ad (bA PassesOwn.never rfl (bj rfl G.range (aa (aJ aC rfl G.len PySem.boot_len (aa (pv 4) ac)) ac)) (av (i:=8) scPBook.nd rfl (Or.inl rfl)) pF)
  (aj (ax (aB (aa (aB (aa af (aa (aS bm rfl G.tuple (by decide +kernel) (aa (cK (sc0:=ag cF) (N0:=NPb) (ys:=["ups"]) (fr:=[7]) rfl (cY (pv 3)) rfl rfl
    cok (fun C s H ex=>aB (aa (pv 0) (aa (aB ac) (aa (aS (r:=uA K) bm rfl G.tuple (by decide +kernel) (aa (bq hu (pv 1) (pv 0) (fun _ _=>rfl)) ac)) ac))))) ac))
   (aa (aS bm rfl G.tuple (by decide +kernel) (aa (pv 10) ac)) ac)))) (aa (pv 6) ac)))))))))))),?_⟩
 refine ⟨_,rfl,_,rfl,sc,is,st,rfl,hS,his,hst0,by omega,fun hd t0 hhd=>?_⟩
 have s1:=ae hhd (.lst [.int t0])
 have tt1:Tp (upd H hd (.lst [.int t0])) hd:=⟨t0,ab⟩
 generalize upd H hd (.lst [.int t0])=H1 at s1 tt1 ⊢
 refine ⟨_,rfl,_,rfl,hd,3,rfl,tt1,by decide,by decide,fun d2 t2 e0 e1=>⟨1,d2,rfl,rfl,?_⟩⟩
 have k2:Kp hd H1 (upd H1 hd (.lst [.int t2])):=Kp.tape
 have tt2:Tp (upd H1 hd (.lst [.int t2])) hd:=⟨t2,ab⟩
 generalize upd H1 hd (.lst [.int t2])=H2 at k2 tt2 ⊢
 refine ⟨hd,1+d2,3,rfl,tt2,by omega,by omega,by decide,by decide,fun bv bd H3 hBd hbo k3 tt3=>?_⟩
 obtain ⟨ba,nl,fl,zs,rfl,hba,hnl,hfl,hPz⟩:=id hBd
 have lP:bd.forms.length=zs.length:=Paired.length hPz
 have n1:=hbo.n1
 have n3:=hbo.n3
 have f1:=hbo.f1
 have f6:=hbo.f6
 have lnl:(bd.names.map V.str).length=bd.names.length:=List.length_map _
 have nnl:nl≠hd:=fun z=>by
  obtain ⟨t,ht⟩:=tt3
  rw [z,ht]at hnl
  cases hh:bd.names with
  | nil=>rw [hh]at hnl;cases hnl
  | cons y ys=>rw [hh]at hnl;cases hnl
 have nfl:fl≠hd:=fun z=>by
  obtain ⟨t,ht⟩:=tt3
  rw [z,ht]at hfl
  cases hfl
  obtain ⟨_,_,_,_,e,_⟩:=aM hPz (show [V.int t][0]? =some (.int t)from rfl)
  cases e
 refine ⟨ba,_,rfl,SqT.of hba,rfl,_,_,rfl,_,_,rfl,rfl,?_⟩
 refine ⟨_,rfl,hd,6,rfl,tt3,by decide,by decide,fun wl ws HX hwl hwlen hW nwl k4 ttX=>?_⟩
 obtain ⟨wLen,wNd,wWd⟩:=hW.ok (by decide)
 have wLen6:ws.length=6:=wLen
 have SX:Same H HX:=fun c oo h=>k4 _ _ (k3 _ _ (k2 _ _ (s1 _ _ h) (ah h hhd)) (ah h hhd)) (ah h hhd)
 have hnlX:=k4 _ _ hnl nnl
 have hflX:=k4 _ _ hfl nfl
 have tkX:=k4.tk tt3
 refine fun pd hpd=>?_
 have npd:=ck ttX hpd
 have s5:=ae hpd (.dK [])
 have g5:(upd HX pd (.dK [])) pd=some (.dK (prK [])):=ab
 generalize upd HX pd (.dK [])=H5 at s5 g5 ⊢
 refine fun td htd=>?_
 have ntd:=ck (ttX.same s5) htd
 have nptd:pd≠td:=ah g5 htd
 have htdX:=s5.free htd
 have s6:=ae htd (.dK [])
 have g6:(upd H5 td (.dK [])) td=some (.dK []):=ab
 generalize upd H5 td (.dK [])=H6 at s6 g6 ⊢
 have SX6:=s5.trans s6
 refine ⟨_,rfl,nl,_,rfl,.inl (SqL.of (SX6 _ _ hnlX)),_,rfl,by omega,by omega,?_⟩
 refine cj (fun i σ H'=>i<=bd.names.length/\ ∃ o8 o9 kvs tb pr,σ=[some (.ref sc),some (.int st),some (.ref hd),some (.ref nl),some (.ref fl),some (.ref wl),some (.ref pd),some (.ref td),o8,o9,none,none,none,none,none,none,none,none,none,none,none]/\Kp hd HX H'/\Tp H' hd/\H' td=some (.dK kvs)/\kvs.length<=i/\TabW hd H' kvs tb (bd.names.take i)/\H' pd=some (.dK (prK pr))/\PrO (bd.names.take i) tb pr)
  ⟨Nat.zero_le _,none,none,[],fun _=>[],[],rfl,Kp.refl.same SX6,ttX.same SX6,g6,Nat.le_refl _,fun x h=>(by cases h),s6 _ _ g5,rfl,fun p h=>(by cases h)⟩ ?_ ?_
 ·rintro i σ HA hi ⟨_,o8,o9,kvs,tb,pr,rfl,kA,tA,gtA,hl4,hT4,gpA,hPr⟩
  rw [lnl]at hi
  have hi3:i<3:=by omega
  obtain ⟨x,hx⟩: ∃ x,bd.names[i]? =some x:=⟨bd.names[i]'(by omega),List.getElem?_eq_getElem (by omega)⟩
  have eat:atI (bd.names.map V.str) (0+ (i:Int))=some (V.str x):=by
   rw [Int.zero_add]
   exact ar (by rw [List.getElem?_map,hx];rfl)
  have xnew:x∉bd.names.take i:=fun hm=>by
   obtain ⟨j,hj⟩:=List.getElem?_of_mem hm
   have hji:j<i:=by
    have:=(List.getElem?_eq_some_iff.mp hj).1
    rw [List.length_take]at this
    omega
   rw [List.getElem?_take,if_pos hji]at hj
   have hlt:j<bd.names.length:=(List.getElem?_eq_some_iff.mp hj).1
   have:=(List.getElem?_inj hlt hbo.nd).mp (hj.trans hx.symm)
   omega
  have hwlA:=kA _ _ hwl nwl
  refine ⟨_,rfl,_,rfl,0+ (i:Int),rfl,wl,_,rfl,SqL.of hwlA,fun p1 hp1=>?_⟩
  rw [kH (ws.map V.str) (by omega) (by rw [List.length_map];omega)]
  have hct:dS (ws.map V.str) none (some (0+ (i:Int)))=(ws.map V.str).take (0+ (i:Int)).toNat:=hU (ws.map V.str) (by omega) (by rw [List.length_map];omega)
  have hn6:(0+ (i:Int)).toNat<=6:=by omega
  generalize hn:(0+ (i:Int)).toNat=n at hct hn6 ⊢
  have s7:=ae hp1 (.lst ((ws.map V.str).drop n))
  have g7:(upd HA p1 (.lst ((ws.map V.str).drop n))) p1=some (.lst ((ws.map V.str).drop n)):=ab
  generalize upd HA p1 (.lst ((ws.map V.str).drop n))=H7 at s7 g7 ⊢
  refine ⟨_,rfl,_,rfl,0+ (i:Int),rfl,wl,_,rfl,SqL.of (s7 _ _ hwlA),fun p2 hp2=>?_⟩
  rw [hct]
  have s8:=ae hp2 (.lst ((ws.map V.str).take n))
  have g8:(upd H7 p2 (.lst ((ws.map V.str).take n))) p2=some (.lst ((ws.map V.str).take n)):=ab
  generalize upd H7 p2 (.lst ((ws.map V.str).take n))=H8 at s8 g8 ⊢
  have lcat:((ws.map V.str).drop n).length+ ((ws.map V.str).take n).length<=12:=by rw [List.length_drop,List.length_take,List.length_map];omega
  refine ⟨p1,p2,_,_,rfl,rfl,s8 _ _ g7,g8,Nat.le_of_lt (ao (by omega)),fun p3 hp3=>?_⟩
  have e3:(ws.map V.str).drop n++(ws.map V.str).take n=(ws.drop n++ws.take n).map V.str:=by rw [List.map_append,List.map_drop,List.map_take]
  rw [e3]
  have lts:(ws.drop n++ws.take n).length=6:=by rw [List.length_append,List.length_drop,List.length_take];omega
  have hsok:=fun (v:Nat) (hv:v<=3) (hv1:1<=v) (nm:Str)=>nZ wNd wWd wLen6 n 0 v (by omega) hv (by omega) nm
  generalize ws.drop n++ws.take n=ts at lts hsok ⊢
  have s9:=ae hp3 (.lst (ts.map V.str))
  have g9:(upd H8 p3 (.lst (ts.map V.str))) p3=some (.lst (ts.map V.str)):=ab
  generalize upd H8 p3 (.lst (ts.map V.str))=H9 at s9 g9 ⊢
  have SA8:=s7.trans s8
  have SA9:Same HA H9:=SA8.trans s9
  have np3:=ck (tA.same SA8) hp3
  have t9:=tA.same SA9
  refine ⟨_,rfl,hd,2,rfl,t9,by decide,by decide,fun du t5 hdu0 hdu1=>⟨1,du,rfl,rfl,?_⟩⟩
  have kB':Kp hd H9 (upd H9 hd (.lst [.int t5])):=Kp.tape
  have tB:Tp (upd H9 hd (.lst [.int t5])) hd:=⟨t5,ab⟩
  generalize upd H9 hd (.lst [.int t5])=HB at kB' tB ⊢
  refine ⟨1+du,rfl,p3,_,rfl,SqL.of (kB' _ _ g9 np3),fun p9 hp9=>?_⟩
  rw [hU (ts.map V.str) (by omega) (by rw [List.length_map];omega),<- List.map_take]
  have hv1:1<=(1+du).toNat:=by omega
  have hv2:(1+du).toNat<=2:=by omega
  generalize (1+du).toNat=v at hv1 hv2 ⊢
  have np9:=ck tB hp9
  have sC:=ae hp9 (.lst ((ts.take v).map V.str))
  have gC:(upd HB p9 (.lst ((ts.take v).map V.str))) p9=some (.lst ((ts.take v).map V.str)):=ab
  have tC:=tB.same sC
  generalize upd HB p9 (.lst ((ts.take v).map V.str))=HC at sC gC tC ⊢
  have kAC:Kp hd HA HC:=fun c oo h hn=>sC _ _ (kB' _ _ (SA9 _ _ h) hn)
  have kXC:=kA.trans kAC
  have gtC:=kAC _ _ gtA ntd
  have gpC:=kAC _ _ gpA npd
  have eok:=hsok v (by omega) hv1 x
  rw [List.take_zero,List.drop_zero]at eok
  have lv:(ts.take v).length=v:=by rw [List.length_take];omega
  have uok:UpO (ts.take v):=⟨by omega,by omega,eok.1,eok.2.1⟩
  refine ⟨_,rfl,_,rfl,_,rfl,_,rfl,nl,_,_,.str x,rfl,rfl,SqL.of (kXC _ _ hnlX nnl),eat,td,_,rfl,DPut.k (k:=.inr x) gtC (ao (by omega)),?_⟩
  have ptd: ∀ {a:Addr} {xs:List V},HC a=some (.lst xs)->a≠td:=fun h z=>by rw [z,gtC]at h;cases h
  have gD:(upd HC td (.dK (bz kvs (.inr x) (.ref p9)))) td=some (.dK (bz kvs (.inr x) (.ref p9))):=ab
  have lD: ∀ {a:Addr} {xs:List V},HC a=some (.lst xs)->(upd HC td (.dK (bz kvs (.inr x) (.ref p9)))) a=some (.lst xs):=fun h=>by rw [ai (ptd h)];exact h
  have gpD:(upd HC td (.dK (bz kvs (.inr x) (.ref p9)))) pd=some (.dK (prK pr)):=by rw [ai nptd];exact gpC
  have tD:Tp (upd HC td (.dK (bz kvs (.inr x) (.ref p9)))) hd:=by
   obtain ⟨t,ht⟩:=tC
   exact ⟨t,by rw [ai (Ne.symm ntd)];exact ht⟩
  have kD':Kp hd HX (upd HC td (.dK (bz kvs (.inr x) (.ref p9)))):=fun c o h n=>by rw [ai (ah h htdX)];exact kXC _ _ h n
  have gCD:=lD gC
  have hTD:TabW hd (upd HC td (.dK (bz kvs (.inr x) (.ref p9)))) (bz kvs (.inr x) (.ref p9)) (fun y=>if y=x then ts.take v else tb y) (bd.names.take (i+1)):=fun y hy=>by
   by_cases c:y=x
   ·refine ⟨p9,np9,by rw [jH,if_pos (by rw [c])],?_,?_⟩
    ·show _=some (HO.lst ((if y=x then ts.take v else tb y).map V.str))
     rw [if_pos c]
     exact gCD
    ·show UpO (if y=x then ts.take v else tb y)
     rw [if_pos c]
     exact uok
   ·rw [List.take_add_one,hx]at hy
    have hy:y∈bd.names.take i:=by
     rcases List.mem_append.mp hy with h | h
     ·exact h
     ·exact absurd (by simpa using h) c
    obtain ⟨a',n',e',h1,h2⟩:=hT4 y hy
    refine ⟨a',n',by rw [jH,if_neg (fun z=>c (Sum.inr.inj z))];exact e',?_,?_⟩
    ·show _=some (HO.lst ((if y=x then ts.take v else tb y).map V.str))
     rw [if_neg c]
     exact lD (kAC _ _ h1 n')
    ·show UpO (if y=x then ts.take v else tb y)
     rw [if_neg c]
     exact h2
  have lk:=cZ kvs (.inr x) (.ref p9)
  generalize upd HC td (.dK (bz kvs (.inr x) (.ref p9)))=HD at gD gpD tD kD' gCD hTD ⊢
  clear lD
  refine ⟨_,rfl,_,rfl,_,rfl,p9,_,rfl,.inl (SqL.of gCD),hd,_,rfl,tD,by rw [List.length_map];omega,by rw [List.length_map];omega,fun e t6 e0 e1=>?_⟩
  have kE:Kp hd HD (upd HD hd (.lst [.int t6])):=Kp.tape
  have tE:Tp (upd HD hd (.lst [.int t6])) hd:=⟨t6,ab⟩
  generalize upd HD hd (.lst [.int t6])=HE at kE tE ⊢
  obtain ⟨wv,ew,ew'⟩:=cU (xs:=(ts.take v).map V.str) e0 e1
  rw [List.getElem?_map]at ew'
  obtain ⟨wd,hwd,rfl⟩:=Option.map_eq_some_iff.mp ew'
  have hwm:=List.mem_of_getElem? hwd
  have kXE:=kD'.trans kE
  refine ⟨p9,_,e,.str wd,rfl,rfl,SqL.of (kE _ _ gCD np9),ew,?_⟩
  have gpE:=kE _ _ gpD npd
  have lpr:pr.length=i:=by
   have:=congrArg List.length hPr.1
   rw [List.length_map,List.length_take]at this
   omega
  refine ⟨_,rfl,_,rfl,_,rfl,nl,_,_,.str x,rfl,rfl,SqL.of (kXE _ _ hnlX nnl),eat,pd,_,rfl,DPut.k (k:=.inr x) gpE (ao (by unfold prK;rw [List.length_map];omega)),?_⟩
  rw [nz (by rw [hPr.1];exact xnew)]
  refine ⟨hi,_,_,bz kvs (.inr x) (.ref p9),fun y=>if y=x then ts.take v else tb y,pr++[(x,wd)],rfl,fun c o h n=>?_,?_,?_,by omega,fun y hy=>?_,ab,?_,fun p hp=>?_⟩
  ·rw [ai (ah h hpd)]
   exact kXE _ _ h n
  ·obtain ⟨t,ht⟩:=tE
   exact ⟨t,by rw [ai (Ne.symm npd)];exact ht⟩
  ·rw [ai (Ne.symm nptd)]
   exact kE _ _ gD ntd
  ·obtain ⟨a',n',e',h1,h2⟩:=hTD y hy
   have h1':=kE _ _ h1 n'
   exact ⟨a',n',e',by rw [ai (fun z=>by rw [z,gpE]at h1';cases h1')];exact h1',h2⟩
  ·rw [List.map_append,hPr.1,List.take_add_one,hx]
   rfl
  ·rcases List.mem_append.mp hp with h | h
   ·have hne:p.1≠x:=fun z=>xnew (by rw [<- hPr.1,<- z];exact List.mem_map.mpr ⟨p,h,rfl⟩)
    show p.2∈if p.1=x then ts.take v else tb p.1
    rw [if_neg hne]
    exact hPr.2 p h
   ·rw [List.mem_singleton.mp h]
    show wd∈if x=x then ts.take v else tb x
    rw [if_pos rfl]
    exact hwm
 ·rintro σ HA ⟨_,o8,o9,kvs,tb,pr,rfl,kA,tA,gtA,hl4,hT4,gpA,hPr⟩
  rw [List.take_of_length_le (by rw [lnl];omega)]at hT4 hPr
  have SA:Same H HA:=fun c oo h=>kA _ _ (SX _ _ h) (ah h hhd)
  have tkA:TK H3 HA:=fun b xs h=>kA.tk ttX _ _ (tkX _ _ h)
  have ht: ∀ p∈bd.names,UpO (tb p):=fun p hp=>by obtain ⟨_,_,_,_,h⟩:=hT4 p hp;exact h
  refine ⟨(by show 0<=sizeLine;decide),fun ml hml=>?_⟩
  have sB:=ae hml (.lst [])
  have gB:(upd HA ml (.lst [])) ml=some (.lst []):=ab
  generalize upd HA ml (.lst [])=HB at sB gB ⊢
  have hflA:=kA _ _ hflX nfl
  have hnlA:=kA _ _ hnlX nnl
  refine ⟨_,rfl,fl,_,rfl,.inl (SqL.of (sB _ _ hflA)),_,rfl,by omega,by omega,?_⟩
  refine cj (fun i σ H'=>i<=zs.length/\ ∃ o8 o11 o12 o13 o14 o15 o16 o17 o18 o19 o20 mv frs,σ=[some (.ref sc),some (.int st),some (.ref hd),some (.ref nl),some (.ref fl),some (.ref wl),some (.ref pd),some (.ref td),o8,o9,some (.ref ml),o11,o12,o13,o14,o15,o16,o17,o18,o19,o20]/\Same HA H'/\H' ml=some (.lst mv)/\RepFPs H' frs mv/\frs.length=i/\ ∀ fr∈frs,FrO bd.names tb pr fr)
   ⟨Nat.zero_le _,_,none,none,none,none,none,none,none,none,none,none,[],[],rfl,sB,gB,.nil,rfl,fun fr h=>(by cases h)⟩ ?_ ?_
  ·rintro i σ HC hi ⟨_,o8,o11,o12,o13,o14,o15,o16,o17,o18,o19,o20,mv,frs,rfl,SC,gml,hFs,hfl6,hfo⟩
   have hi6:i<6:=by omega
   obtain ⟨z,hz⟩: ∃ z,zs[i]? =some z:=⟨zs[i]'(by omega),List.getElem?_eq_getElem (by omega)⟩
   obtain ⟨f3',hf3,c,pa,rfl,hc,hpa⟩:=aM hPz hz
   obtain ⟨nm,on,ps⟩:=f3'
   obtain ⟨hon,hps,lps⟩:=hbo.fo _ (List.mem_of_getElem? hf3)
   refine hF _ HA HC sc hd fl c pa pd td ml is st i zs nm on ps bd.names tb kvs pr mv frs _ _ _ _ _ _ _ _ _ _ _ _ _ _ (SA.seq hS) his hst0 hst1 hi6 hflA hz (tkA _ _ hc) (tkA _ _ hpa) gtA hT4 gpA hPr hon hps lps ht hml SC gml hFs (by omega) fun o11 o12 o13 o14 o15 o16 o17 o18 o19 o20 mv' rules H' S' g' r' fo'=>?_
   refine ⟨by omega,_,_,_,_,_,_,_,_,_,_,_,mv',_,rfl,S',g',r',by rw [List.length_append,hfl6];rfl,fun fr hfr=>?_⟩
   rcases List.mem_append.mp hfr with h | h
   ·exact hfo fr h
   ·rw [List.mem_singleton.mp h];exact fo'
  ·rintro σ HC ⟨_,o8,o11,o12,o13,o14,o15,o16,o17,o18,o19,o20,mv,frs,rfl,SC,gml,hFs,hfl6,hfo⟩
   have hTC:TabW hd HC kvs tb bd.names:=hT4.same SC
   have gtC:=SC _ _ gtA
   have hnlC:=SC _ _ hnlA
   refine ⟨_,rfl,nl,rfl,⟨_,SqL.of hnlC⟩,?_⟩
   refine cr (as:=bd.names) (A:=fun x v=>v=.str x) (by rw [lnl];omega) (dj bd.names) (eV hnlC) (eU hnlC) (gY hnlC) (fun H x v=>RepS H ⟨x,[],tb x⟩ v) (fun t h=>RepS.mono t h) ?_ ?_
   ·rintro x v H7 k hx rfl s7 hk
    obtain ⟨a',_,ea,ha',hup⟩:=hTC x hx
    refine ⟨_,rfl,(by show 0<=sizeLine;decide),fun p1 hp1=>?_⟩
    have s8:=ae hp1 (.tup [])
    have g8:(upd H7 p1 (.tup [])) p1=some (.tup []):=ab
    generalize upd H7 p1 (.tup [])=H8 at s8 g8 ⊢
    refine ⟨_,rfl,_,rfl,td,.ref a',rfl,(by rw [<- ea];exact DGet.k (k:=.inr x) (s8 _ _ (s7 _ _ gtC))),a',_,rfl,.inl ⟨SqL.of (s8 _ _ (s7 _ _ ha')),fun p2 hp2=>?_⟩⟩
    have s9:=ae hp2 (.tup ((tb x).map V.str))
    have g9:(upd H8 p2 (.tup ((tb x).map V.str))) p2=some (.tup ((tb x).map V.str)):=ab
    generalize upd H8 p2 (.tup ((tb x).map V.str))=H9 at s9 g9 ⊢
    refine ⟨(by show 3<=sizeLine;decide),fun p3 hp3=>?_⟩
    have s10:=ae hp3 (.tup [.str x,.ref p1,.ref p2])
    exact hk _ _ (s8.trans (s9.trans s10)) ⟨p3,p1,p2,rfl,ab,s10 _ _ (s9 _ _ g8),s10 _ _ g9⟩
   ·intro pl vs H7 hpl s7 gpl hSs
    refine ⟨pl,_,rfl,.inl ⟨SqL.of gpl,fun pt hpt=>?_⟩⟩
    have s8:=ae hpt (.tup vs)
    have g8:(upd H7 pt (.tup vs)) pt=some (.tup vs):=ab
    generalize upd H7 pt (.tup vs)=H8 at s8 g8 ⊢
    refine ⟨_,rfl,ml,mv,rfl,.inl ⟨SqL.of (s8 _ _ (s7 _ _ gml)),fun fa hfa=>?_⟩⟩
    have s9:=ae hfa (.tup mv)
    have g9:(upd H8 fa (.tup mv)) fa=some (.tup mv):=ab
    generalize upd H8 fa (.tup mv)=H9 at s9 g9 ⊢
    refine ⟨(by show 3<=sizeLine;decide),fun pb hpb=>?_⟩
    have s10:=ae hpb (.tup [.int 0,.ref pt,.ref fa])
    have g10:(upd H9 pb (.tup [.int 0,.ref pt,.ref fa])) pb=some (.tup [.int 0,.ref pt,.ref fa]):=ab
    generalize upd H9 pb (.tup [.int 0,.ref pt,.ref fa])=H10 at s10 g10 ⊢
    refine ⟨_,rfl,(by show 2<=sizeLine;decide),fun pz hpz=>?_⟩
    have s11:=ae hpz (.tup [.ref pb,.ref pd])
    have g11:(upd H10 pz (.tup [.ref pb,.ref pd])) pz=some (.tup [.ref pb,.ref pd]):=ab
    generalize upd H10 pz (.tup [.ref pb,.ref pd])=H11 at s11 g11 ⊢
    have S9:Same H8 H11:=s9.trans (s10.trans s11)
    have SC11:Same HC H11:=s7.trans (s8.trans S9)
    have hsort:RepSs H11 (bd.names.map fun x=>⟨x,[],tb x⟩) vs:=eN (F:=RepS _) (g:=fun x:Str=>(⟨x,[],tb x⟩:Srt)) (Paired.mapP hSs fun _ _ h=>RepS.mono (aF (s8.trans S9)) h)
    exact q pz pb ⟨0,bd.names.map fun x=>⟨x,[],tb x⟩,frs⟩ pd pr H11 g11 ⟨pb,pt,fa,mv,rfl,s11 _ _ g10,⟨vs,S9 _ _ g8,hsort⟩,s11 _ _ (s10 _ _ g9),RepFPs.mono (aF SC11) hFs⟩ (bkO n1 n3 hbo.nd ht hPr (by omega) (by omega) hfo) (SC11 _ _ (SC _ _ gpA)) (SA.trans (SC.trans SC11))
noncomputable def ng (K:PySem.W.Frag):Sp:=fun vs H Q _=> ∃ (a:Addr) (ns:List Int),vs=[.ref a]/\SqL K H a (ns.map V.int)/\ns.length<=63/\ ∀ H',Q (.bl true) H'
noncomputable abbrev wV:List Str:=["script","book","pricing","start","tape"]
theorem scLaw:aA wV ["script"] (ag iH):=fsc
theorem uM (F:Fun K "law" "law" iH f fd) (G:Gb mg)
  (GB:FnOk P w K mg base CX0 8 f2 fd2 ["script","start"] (mY K)) (bB:Binds K fd2 ["script","start"] []) (kB:PySem.W.keepIn K (.ref f2)=true) (mB:mg "_law_priced_book"=some (.ref f2))
  (GI:FnOk P w K mg base CX0 5 f3 fd3 NIp dX) (bI:Binds K fd3 NIp []) (kI:PySem.W.keepIn K (.ref f3)=true) (mI:mg "is_priced"=some (.ref f3))
  (GT:FnOk P w K mg base CX0 2 f4 fd4 ["script","k"] (i9 K)) (bT:Binds K fd4 ["script","k"] []) (kT:PySem.W.keepIn K (.ref f4)=true) (mT:mg "_law_tape"=some (.ref f4))
  (GR:FnOk P w K mg base CX0 6 f5 fd5 ["book","pricing"] jP) (bR:Binds K fd5 ["book","pricing"] []) (kR:PySem.W.keepIn K (.ref f5)=true) (mR:mg "_law_right"=some (.ref f5))
  (GC:FnOk P w K mg base CX0 26 f6 fd6 ["tape","book","pricing"] iF) (bC:Binds K fd6 ["tape","book","pricing"] []) (kC:PySem.W.keepIn K (.ref f6)=true) (mC:mg "_law_changed"=some (.ref f6))
  (GO:FnOk P w K mg base CX0 2 f7 fd7 ["tape","book","pricing"] jU) (bO:Binds K fd7 ["tape","book","pricing"] []) (kO:PySem.W.keepIn K (.ref f7)=true) (mO:mg "_law_other_pricing"=some (.ref f7)):
  FnOk P w K mg base CX0 27 f fd ["script"] (ng K):=by
 refine F.ok scLaw (fun vs H Q E h=>?_) (fun cdv A outer s H vs Q E hr h=>?_)
 ·obtain ⟨a,ns,rfl,_⟩:=h
  rfl
 obtain ⟨a,ns,rfl,hS,hlen,q⟩:=h
 have hr2:=hr.mono (show 2<=26 by decide)
 have hr5:=hr.mono (show 5<=26 by decide)
 have hr6:=hr.mono (show 6<=26 by decide)
 have hr8:=hr.mono (show 8<=26 by decide)
 refine ⟨_,ad (dZ (ak GB hr8 rfl mB kB bB .nil am (aa (pv 0) (aa af ac))) (cQ rfl (aG (av (i:=1) scLaw.nd rfl (Or.inl rfl)) (aG (av (i:=2) scLaw.nd rfl (Or.inl rfl)) cn))))
  (ad (aV (PW.pt (iI (au fJ (ak GI hr5 rfl mI kI bI .nil am (aa (pv 1) (aa (pv 2) ac))) dr (aH _)) (fq (au fJ (ak GI hr5 rfl mI kI bI .nil am (aa (ay sN (aB (aa af ac)) (bn jc (pv 1) (bH af) bJ)) (aa (pv 2) ac))) dr (aH _))))) cN aK)
  (ad (bA PassesOwn.never rfl (oA rfl G.range (aa af (aa (aJ (pG rfl) rfl G.max (by decide +kernel) (aa af (aa (aJ (pE rfl) rfl G.min (by decide +kernel) (aa af (aa (aJ aC rfl G.len PySem.boot_len (aa (pv 0) ac)) ac))) ac))) ac))) (av (i:=3) scLaw.nd rfl (Or.inl rfl))
   (ad (al (i:=4) scLaw.nd rfl (Or.inl rfl) (ak GT hr2 rfl mT kT bT .nil am (aa (pv 0) (aa (pv 3) ac))))
   (ad (aV (lH (gN (ak GR hr6 rfl mR kR bR .nil am (aa (ak GC hr rfl mC kC bC .nil am (aa (pv 4) (aa (pv 1) (aa (pv 2) ac)))) (aa (pv 2) ac))))) cN aK)
   (aj (aV (lH (gN (ak GR hr6 rfl mR kR bR .nil am (aa (pv 1) (aa (ak GO hr2 rfl mO kO bO .nil am (aa (pv 4) (aa (pv 1) (aa (pv 2) ac)))) ac))))) cN aK)))))
  (aj (ax (ak GR hr6 rfl mR kR bR .nil am (aa (pv 1) (aa (pv 2) ac))))))),?_⟩
 refine ⟨_,rfl,a,ns,0,rfl,hS,hlen,by decide,by decide,fun p b bk d pr H1 g1 hB hok hd s1=>?_⟩
 refine ⟨p,_,rfl,SqT.of g1,rfl,_,_,rfl,_,_,rfl,rfl,?_⟩
 have hp4:pr.length<=4:=Nat.le_trans hok.p3 (by decide)
 refine ⟨_,rfl,_,rfl,.ref b,bk,d,pr,rfl,hB,hok.q,hd,hok.nd,hp4,fun H2 s2=>?_⟩
 rw [hok.ip]
 refine ⟨true,true,rfl,rfl,_,rfl,aU ?_⟩
 have hB2:=hB.mono (aF s2)
 obtain ⟨b',sa,fa,fv,eb,hb,hSA,hfa,hF⟩:=id hB2
 cases eb
 refine ⟨(by show 1<=sizeLine;decide),fun p3 h3=>?_⟩
 have s3:=ae h3 (.tup [.int 9])
 have g3:(upd H2 p3 (.tup [.int 9])) p3=some (.tup [.int 9]):=ab
 generalize upd H2 p3 (.tup [.int 9])=H3 at s3 g3 ⊢
 refine ⟨_,rfl,1,rfl,b,_,rfl,SqT.of (s3 _ _ hb),dM _ _,fun p4 h4=>?_⟩
 rw [tN]
 have s4:=ae h4 (.tup [.ref sa,.ref fa])
 have g4:(upd H3 p4 (.tup [.ref sa,.ref fa])) p4=some (.tup [.ref sa,.ref fa]):=ab
 generalize upd H3 p4 (.tup [.ref sa,.ref fa])=H4 at s4 g4 ⊢
 refine ⟨p3,p4,_,_,rfl,rfl,SqT.of (s4 _ _ g3),SqT.of g4,by simp,(by show 3<=sizeLine;decide),fun z=>(by cases z),fun _ p5 h5=>?_⟩
 have s5:=ae h5 (.tup [.int 9,.ref sa,.ref fa])
 have g5:(upd H4 p5 (.tup [.int 9,.ref sa,.ref fa])) p5=some (.tup [.int 9,.ref sa,.ref fa]):=ab
 refine (show ui 2 _ (upd H4 p5 (.tup [.int 9,.ref sa,.ref fa])) _ from ?_)
 generalize upd H4 p5 (.tup [.int 9,.ref sa,.ref fa])=H5 at s5 g5 ⊢
 have S25:Same H2 H5:=s3.trans (s4.trans s5)
 have S15:Same H1 H5:=s2.trans S25
 have hq9:BkQ ⟨9,bk.sorts,bk.forms⟩:=⟨hok.q.s1,hok.q.s3,hok.q.nd,hok.q.few,hok.q.fo⟩
 refine ⟨_,rfl,.ref p5,⟨9,bk.sorts,bk.forms⟩,d,pr,rfl,⟨p5,sa,fa,fv,rfl,g5,hSA.mono (aF S25),S25 _ _ hfa,hF.mono (aF S25)⟩,hq9,S15 _ _ hd,hok.nd,hp4,fun H6 s6=>?_⟩
 have S16:=S15.trans s6
 refine ⟨false,false,rfl,rfl,_,rfl,aU ?_⟩
 have hll:(ns.map V.int).length=ns.length:=List.length_map _
 refine ⟨_,rfl,a,_,rfl,.inl ((s1.trans S16).seq hS),18,_,rfl,9,_,rfl,8,_,rfl,?_,?_⟩
 ·rw [hll]
  refine ⟨by decide,by decide,?_,?_⟩ <;> split <;> split <;> lia
 rw [hll]
 refine cj (fun i σ H'=> ∃ o3 o4,σ=[some (.ref a),some (.ref b),some (.ref d),o3,o4]/\Same H1 H') ⟨none,none,rfl,S16⟩ ?_ ?_
 ·rintro i σ H7 hi ⟨o3,o4,rfl,S7⟩
  have hi8:i<10:=by
   have:((if (if (ns.length:Int) <18 then (ns.length:Int)else 18) >9 then (if (ns.length:Int) <18 then (ns.length:Int)else 18)else 9) -8).toNat<=10:=by split <;> split <;> lia
   lia
  refine ⟨_,rfl,_,rfl,a,ns,_,rfl,(s1.trans S7).seq hS,hlen,by lia,by lia,fun tp t0 htp=>?_⟩
  have s8:=ae htp (.lst [.int t0])
  have t8:Tp (upd H7 tp (.lst [.int t0])) tp:=⟨t0,ab⟩
  generalize upd H7 tp (.lst [.int t0])=H8 at s8 t8 ⊢
  have S8:=S7.trans s8
  refine ⟨_,rfl,_,rfl,_,rfl,tp,.ref b,bk,d,pr,rfl,t8,hB.mono (aF S8),hok,S8 _ _ hd,fun v bk' H9 hB9 hq' hi' k9 t9=>?_⟩
  have S79:Same H7 H9:=fun c o h=>k9 _ _ (s8 _ _ h) (ah h htp)
  have S9:=S7.trans S79
  refine ⟨_,rfl,v,bk',d,pr,rfl,hB9,hq',hi',S9 _ _ hd,hok.nd,hp4,fun HA sA=>⟨true,rfl,aU ?_⟩⟩
  have SA:=S9.trans sA
  have tA:=t9.same sA
  refine ⟨_,rfl,_,rfl,_,rfl,_,rfl,tp,.ref b,bk,d,pr,rfl,tA,hB.mono (aF SA),hok.q.s1,hok.q.s3,fun s hs=>?_,SA _ _ hd,hok.nd,hok.p3,fun po pr' HB kB tB gB hnd' h4'=>?_⟩
  ·obtain ⟨y,ey,hy⟩:=hok.pu s hs
   refine ⟨List.length_pos_of_mem hy,?_⟩
   exact List.mem_map.mpr ⟨(s.name,y),(c8 hok.nd).mp ey,rfl⟩
  ·have S7B:Same H7 HB:=fun c o h=>kB _ _ (sA _ _ (S79 _ _ h)) (ah h htp)
   have SB:=S7.trans S7B
   exact ⟨.ref b,bk,po,pr',rfl,hB.mono (aF SB),hok.q,hok.i,gB,hnd',h4',fun HC sC=>⟨true,rfl,aU ⟨_,_,rfl,SB.trans sC⟩⟩⟩
 ·rintro σ H7 ⟨o3,o4,rfl,S7⟩
  exact ⟨_,rfl,_,rfl,.ref b,bk,d,pr,rfl,hB.mono (aF S7),hok.q,hok.i,S7 _ _ hd,hok.nd,hp4,fun H8 s8=>q H8⟩
theorem tL {P:Program} {w:World} {K:PySem.W.Frag} {aD:Addr} {h1 h2 h3 h4 h5 h6:Int} {t1 t2 t3 t4 t5 t6 u1 u2 u3 u4 u5 u6:Tok} {ep:Nat}
  (lD:K.lookup aD=some ⟨.type "dict",none,.dict #[⟨h1,.str "plus" t1,.int 2 u1⟩,⟨h2,.str "less" t2,.int 2 u2⟩,⟨h3,.str "times" t3,.int 2 u3⟩,⟨h4,.str "least" t4,.int 2 u4⟩,⟨h5,.str "most" t5,.int 2 u5⟩,⟨h6,.str "when" t6,.int 3 u6⟩] ep,#[]⟩)
  (e1:h1=hashStr w "plus") (e2:h2=hashStr w "less") (e3:h3=hashStr w "times") (e4:h4=hashStr w "least") (e5:h5=hashStr w "most") (e6:h6=hashStr w "when") (nD:(aD==sysModules)=false):tX P w K aD iV:=by
 refine ⟨nD,fun h X=>⟨[(.inr "plus",.int 2 u1),(.inr "less",.int 2 u2),(.inr "times",.int 2 u3),(.inr "least",.int 2 u4),(.inr "most",.int 2 u5),(.inr "when",.int 3 u6)],?_,?_⟩⟩
 ·exact .cons ⟨rfl,_,rfl⟩ (.cons ⟨rfl,_,rfl⟩ (.cons ⟨rfl,_,rfl⟩ (.cons ⟨rfl,_,rfl⟩ (.cons ⟨rfl,_,rfl⟩ (.cons ⟨rfl,_,rfl⟩ .nil)))))
 ·refine ⟨_,_,_,X _ _ lD,⟨rfl,rfl,rfl⟩,rfl,?_,?_,by dsimp only [List.map];decide +kernel⟩
  ·intro e he
   simp only [List.mem_toArray,List.mem_cons,List.not_mem_nil,or_false]at he
   rcases he with rfl | rfl | rfl | rfl | rfl | rfl
   ·exact ⟨.inr "plus",bf "plus" t1,e1⟩
   ·exact ⟨.inr "less",bf "less" t2,e2⟩
   ·exact ⟨.inr "times",bf "times" t3,e3⟩
   ·exact ⟨.inr "least",bf "least" t4,e4⟩
   ·exact ⟨.inr "most",bf "most" t5,e5⟩
   ·exact ⟨.inr "when",bf "when" t6,e6⟩
  ·exact .cons (bf "plus" t1) rfl (.cons (bf "less" t2) rfl (.cons (bf "times" t3) rfl (.cons (bf "least" t4) rfl (.cons (bf "most" t5) rfl (.cons (bf "when" t6) rfl .nil)))))
theorem cz {α:Type} {l:List α} (h:l.length=1): ∃ a,l=[a]:=by
 match l,h with
 | [a],_=>exact ⟨a,rfl⟩
theorem bX {α:Type} {l:List α} (h:l.length=2): ∃ a b,l=[a,b]:=by
 match l,h with
 | [a,b],_=>exact ⟨a,b,rfl⟩
theorem jD {α:Type} {l:List α} (h:l.length=3): ∃ a b c,l=[a,b,c]:=by
 match l,h with
 | [a,b,c],_=>exact ⟨a,b,c,rfl⟩
theorem uZ {α:Type} {l:List α} (h:l.length=4): ∃ a b c d,l=[a,b,c,d]:=by
 match l,h with
 | [a,b,c,d],_=>exact ⟨a,b,c,d,rfl⟩
theorem wS {α:Type} {l:List α} (h:l.length=5): ∃ a b c d e,l=[a,b,c,d,e]:=by
 match l,h with
 | [a,b,c,d,e],_=>exact ⟨a,b,c,d,e,rfl⟩
theorem wR {α:Type} {l:List α} (h:l.length=6): ∃ a b c d e f,l=[a,b,c,d,e,f]:=by
 match l,h with
 | [a,b,c,d,e,f],_=>exact ⟨a,b,c,d,e,f,rfl⟩
theorem qH {K:PySem.W.Frag} {aR:Addr} {od:Option Addr} {sl:Array (Option Value)} {t1 t2 t3 t4:Tok} {m:Nat} (l:K.lookup aR=some ⟨.type "tuple",od,.seq #[.str "num" t1,.str "part" t2,.str "plus" t3,.str "most" t4] m,sl⟩): ∀ H,SqT K H aR (priceK.map V.str):=
 fun H=>.inr ⟨_,_,_,l,rfl,rfl,(show 4<=sizeLine by decide),.cons ⟨_,rfl⟩ (.cons ⟨_,rfl⟩ (.cons ⟨_,rfl⟩ (.cons ⟨_,rfl⟩ .nil)))⟩
theorem qy {K:PySem.W.Frag} {aR:Addr} {od:Option Addr} {sl:Array (Option Value)} {t1 t2:Tok} {m:Nat} (l:K.lookup aR=some ⟨.type "tuple",od,.seq #[.str "own" t1,.str "part" t2] m,sl⟩): ∀ H,SqT K H aR [.str "own",.str "part"]:=
 fun H=>.inr ⟨_,_,_,l,rfl,rfl,(show 2<=sizeLine by decide),.cons ⟨_,rfl⟩ (.cons ⟨_,rfl⟩ .nil)⟩
/-- what is told of a def -/
structure Df (K:PySem.W.Frag) (nm:Str) (st:Stmt) (f:Addr) (fd:FuncData):Prop where
 a:PySem.W.nsIn K mainGlobals nm=some (some (.ref f))
 k:PySem.W.keepIn K (.ref f)=true
 F:Fun K nm nm st f fd
theorem Df.m {K:PySem.W.Frag} {nm:Str} {st:Stmt} {f:Addr} {fd:FuncData} {h:Heap} {mg:Str->Option Value} (d:Df K nm st f fd) (X:K.In h) (G:h.Ns mainGlobals mg):mg nm=some (.ref f):=PySem.W.mg_of X G d.a
theorem Df.of {K:PySem.W.Frag} {nm:Str} {st:Stmt} {f:Addr} {oc:Value} {od an:Option Addr} {osl:Array (Option Value)} {kV doc pm cdv ct:Value} (a:PySem.W.nsIn K mainGlobals nm=some (some (.ref f))) (k:PySem.W.keepIn K (.ref f)=true)
  (l:K.lookup f=some ⟨oc,od,.func (PySem.W.fnOf nm nm (eY st) (bx st) (ag st) .none kV doc pm an cdv ct),osl⟩) (c:PySem.W.codeIn K cdv nm=true):Df K nm st f (PySem.W.fnOf nm nm (eY st) (bx st) (ag st) .none kV doc pm an cdv ct):=
 ⟨a,k,⟨⟨oc,od,kV,doc,pm,an,cdv,ct,osl,rfl,l,c⟩,k⟩⟩
theorem all_mk {l:PySem.W.OpenLaw} {w:World} {K:PySem.W.Frag} {h:Heap} {mg:Str->Option Value} {fa aD aR aR2 f1 f2 f3 f4 f5 f6 f7 f8 f9 f10 f11 f12 f13 f14 f15 f16 f17 f18 f19 f20 f21 f22 f23 f24 f25 f26 f27 f28 f29 f30 f31 f32 f33 f34 f35 f36:Addr} {r1 r2 r3 r4 r5 r6 r7 r8 r9 r10 r11 r12 r13 r14 r15 r16 r17 r18 r19 r20 r21 r22 r23 r24 r25 r26 r27 r28 r29 r30 r31 r32 r33 r34 r35 r36:FuncData} (X:K.In h) (G:h.Ns mainGlobals mg) (hfa:mg "law"=some (.ref fa))
  {odR odR2:Option Addr} {slR slR2:Array (Option Value)} {w1 w2 w3 w4 w5 w6 t1 t2 t3 t4 t5 t6 u1 u2 u3 u4 u5 u6  :Tok} {h1 h2 h3 h4 h5 h6:Int} {ep mR mR2:Nat}
  (d1:Df K "inner_of" lu f1 r1)
  (d2:Df K "tuples_of" je f2 r2)
  (d3:Df K "readings_of" lr f3 r3)
  (d4:Df K "wheel_of" gG f4 r4)
  (d5:Df K "sorts_of" gH f5 r5)
  (d6:Df K "forms_of" gL f6 r6)
  (d7:Df K "sort_of_form" dE f7 r7)
  (d8:Df K "parts_of" gJ f8 r8)
  (d9:Df K "rules_of" gI f9 r9)
  (d10:Df K "formulas_by_key" lB f10 r10)
  (d11:Df K "is_priced" cM f11 r11)
  (d12:Df K "is_priced_form" cW f12 r12)
  (d13:Df K "price_formula" ji f13 r13)
  (d14:Df K "price_readings" fS f14 r14)
  (d15:Df K "is_price_tuple" jh f15 r15)
  (d16:Df K "_law_cell_at" qv f16 r16)
  (d17:Df K "_law_tape" qp f17 r17)
  (d18:Df K "_law_digit" lA f18 r18)
  (d19:Df K "_law_names" dF f19 r19)
  (d20:Df K "_law_number" jk f20 r20)
  (d21:Df K "_law_leaf" qt f21 r21)
  (d22:Df K "_law_same" qq f22 r22)
  (d23:Df K "_law_size" gK f23 r23)
  (d24:Df K "_law_level_formula" cB f24 r24)
  (d25:Df K "_law_build" cJ f25 r25)
  (d26:Df K "_law_ups" qu f26 r26)
  (d27:Df K "_law_price_number" qr f27 r27)
  (d28:Df K "_law_price_formula" dh f28 r28)
  (d29:Df K "_law_priced_book" cF f29 r29)
  (d30:Df K "_law_rule_of" jf f30 r30)
  (d31:Df K "_law_due" lx f31 r31)
  (d32:Df K "_law_bent" cC f32 r32)
  (d33:Df K "_law_changed" cP f33 r33)
  (d34:Df K "_law_other_pricing" jj f34 r34)
  (d35:Df K "_law_right" jg f35 r35)
  (d36:Df K "law" iH f36 r36)
  (z1:PySem.W.nsIn K mainGlobals "isinstance"=some none)
  (z2:PySem.W.nsIn K mainGlobals "int"=some none)
  (z3:PySem.W.nsIn K mainGlobals "bool"=some none)
  (z4:PySem.W.nsIn K mainGlobals "str"=some none)
  (z5:PySem.W.nsIn K mainGlobals "tuple"=some none)
  (z6:PySem.W.nsIn K mainGlobals "len"=some none)
  (z7:PySem.W.nsIn K mainGlobals "all"=some none)
  (z8:PySem.W.nsIn K mainGlobals "range"=some none)
  (z9:PySem.W.nsIn K mainGlobals "max"=some none)
  (z10:PySem.W.nsIn K mainGlobals "min"=some none)
  (z11:PySem.W.nsIn K mainGlobals "list"=some none)
  (z12:PySem.W.nsIn K mainGlobals "sum"=some none)
  (z13:PySem.W.nsIn K mainGlobals "set"=some none)
  (z14:PySem.W.nsIn K mainGlobals "sorted"=some none)
  (z15:PySem.W.nsIn K mainGlobals "enumerate"=some none)
  (z16:PySem.W.nsIn K mainGlobals "dict"=some none)
  (aI:PySem.W.nsIn K mainGlobals "INNER_COUNTS"=some (some (.ref aD)))
  (lD:K.lookup aD=some ⟨.type "dict",none,.dict #[⟨h1,.str "plus" t1,.int 2 u1⟩,⟨h2,.str "less" t2,.int 2 u2⟩,⟨h3,.str "times" t3,.int 2 u3⟩,⟨h4,.str "least" t4,.int 2 u4⟩,⟨h5,.str "most" t5,.int 2 u5⟩,⟨h6,.str "when" t6,.int 3 u6⟩] ep,#[]⟩)
  (e1:h1=hashStr w "plus")    (e2:h2=hashStr w "less")    (e3:h3=hashStr w "times")    (e4:h4=hashStr w "least")    (e5:h5=hashStr w "most")    (e6:h6=hashStr w "when")
  (nD:(aD==sysModules)=false)
  (aP:PySem.W.nsIn K mainGlobals "READINGS"=some (some (.ref aR2))) (lP:K.lookup aR2=some ⟨.type "tuple",odR2,.seq #[.str "own" w5,.str "part" w6] mR2,slR2⟩)
  (aQ:PySem.W.nsIn K mainGlobals "PRICE_KINDS"=some (some (.ref aR))) (lR:K.lookup aR=some ⟨.type "tuple",odR,.seq #[.str "num" w1,.str "part" w2,.str "plus" w3,.str "most" w4] mR,slR⟩):
  ∃ fd:FuncData,(∀ (s:Shared) (v:Value),BindsTo s fd ⟨[v],[]⟩ [("script",v)])/\ ∀ base:Heap,K.In base->base.Ns mainGlobals mg->FnOk l.prog w K mg base CX0 27 fa fd ["script"] (ng K):=by
 have e:=hfa.symm.trans (d36.m X G)
 cases e
 have b1:=d1.F.binds (ps:=["formula"]) fun _ _ _ _ _ _ us hl=>by obtain ⟨x,rfl⟩:=cz hl;rfl
 have m1:=d1.m X G
 have b2:=d2.F.binds (ps:=["formula"]) fun _ _ _ _ _ _ us hl=>by obtain ⟨x,rfl⟩:=cz hl;rfl
 have m2:=d2.m X G
 have b3:=d3.F.binds (ps:=["formula"]) fun _ _ _ _ _ _ us hl=>by obtain ⟨x,rfl⟩:=cz hl;rfl
 have m3:=d3.m X G
 have b4:=d4.F.binds (ps:=["book"]) fun _ _ _ _ _ _ us hl=>by obtain ⟨x,rfl⟩:=cz hl;rfl
 have m4:=d4.m X G
 have b5:=d5.F.binds (ps:=["book"]) fun _ _ _ _ _ _ us hl=>by obtain ⟨x,rfl⟩:=cz hl;rfl
 have m5:=d5.m X G
 have b6:=d6.F.binds (ps:=["book"]) fun _ _ _ _ _ _ us hl=>by obtain ⟨x,rfl⟩:=cz hl;rfl
 have m6:=d6.m X G
 have b7:=d7.F.binds (ps:=["form"]) fun _ _ _ _ _ _ us hl=>by obtain ⟨x,rfl⟩:=cz hl;rfl
 have m7:=d7.m X G
 have b8:=d8.F.binds (ps:=["form"]) fun _ _ _ _ _ _ us hl=>by obtain ⟨x,rfl⟩:=cz hl;rfl
 have m8:=d8.m X G
 have b9:=d9.F.binds (ps:=["form"]) fun _ _ _ _ _ _ us hl=>by obtain ⟨x,rfl⟩:=cz hl;rfl
 have m9:=d9.m X G
 have b10:=d10.F.binds (ps:=["form"]) fun _ _ _ _ _ _ us hl=>by obtain ⟨x,rfl⟩:=cz hl;rfl
 have m10:=d10.m X G
 have b11:=d11.F.binds (ps:=["book","pricing"]) fun _ _ _ _ _ _ us hl=>by obtain ⟨x,y,rfl⟩:=bX hl;rfl
 have m11:=d11.m X G
 have b12:=d12.F.binds (ps:=["form","pricing"]) fun _ _ _ _ _ _ us hl=>by obtain ⟨x,y,rfl⟩:=bX hl;rfl
 have m12:=d12.m X G
 have b13:=d13.F.binds (ps:=["form","pricing"]) fun _ _ _ _ _ _ us hl=>by obtain ⟨x,y,rfl⟩:=bX hl;rfl
 have m13:=d13.m X G
 have b14:=d14.F.binds (ps:=["form","pricing"]) fun _ _ _ _ _ _ us hl=>by obtain ⟨x,y,rfl⟩:=bX hl;rfl
 have m14:=d14.m X G
 have b15:=d15.F.binds (ps:=["one"]) fun _ _ _ _ _ _ us hl=>by obtain ⟨x,rfl⟩:=cz hl;rfl
 have m15:=d15.m X G
 have b16:=d16.F.binds (ps:=["script","k"]) fun _ _ _ _ _ _ us hl=>by obtain ⟨x,y,rfl⟩:=bX hl;rfl
 have m16:=d16.m X G
 have b17:=d17.F.binds (ps:=["script","k"]) fun _ _ _ _ _ _ us hl=>by obtain ⟨x,y,rfl⟩:=bX hl;rfl
 have m17:=d17.m X G
 have b18:=d18.F.binds (ps:=["tape","many"]) fun _ _ _ _ _ _ us hl=>by obtain ⟨x,y,rfl⟩:=bX hl;rfl
 have m18:=d18.m X G
 have b19:=d19.F.binds (ps:=["tape","many"]) fun _ _ _ _ _ _ us hl=>by obtain ⟨x,y,rfl⟩:=bX hl;rfl
 have m19:=d19.m X G
 have b20:=d20.F.binds (ps:=["tape"]) fun _ _ _ _ _ _ us hl=>by obtain ⟨x,rfl⟩:=cz hl;rfl
 have m20:=d20.m X G
 have b21:=d21.F.binds (ps:=["tape","readings"]) fun _ _ _ _ _ _ us hl=>by obtain ⟨x,y,rfl⟩:=bX hl;rfl
 have m21:=d21.m X G
 have b22:=d22.F.binds (ps:=["found","due"]) fun _ _ _ _ _ _ us hl=>by obtain ⟨x,y,rfl⟩:=bX hl;rfl
 have m22:=d22.m X G
 have b23:=d23.F.binds (ps:=["formula"]) fun _ _ _ _ _ _ us hl=>by obtain ⟨x,rfl⟩:=cz hl;rfl
 have m23:=d23.m X G
 have b24:=d24.F.binds (ps:=["tape","readings","room","signs"]) fun _ _ _ _ _ _ us hl=>by obtain ⟨x,y,z,u,rfl⟩:=uZ hl;rfl
 have m24:=d24.m X G
 have b25:=d25.F.binds (ps:=["tape","many","most"]) fun _ _ _ _ _ _ us hl=>by obtain ⟨x,y,z,rfl⟩:=jD hl;rfl
 have m25:=d25.m X G
 have b26:=d26.F.binds (ps:=["book","name"]) fun _ _ _ _ _ _ us hl=>by obtain ⟨x,y,rfl⟩:=bX hl;rfl
 have m26:=d26.m X G
 have b27:=d27.F.binds (ps:=["tape"]) fun _ _ _ _ _ _ us hl=>by obtain ⟨x,rfl⟩:=cz hl;rfl
 have m27:=d27.m X G
 have b28:=d28.F.binds (ps:=["tape","due"]) fun _ _ _ _ _ _ us hl=>by obtain ⟨x,y,rfl⟩:=bX hl;rfl
 have m28:=d28.m X G
 have b29:=d29.F.binds (ps:=["script","start"]) fun _ _ _ _ _ _ us hl=>by obtain ⟨x,y,rfl⟩:=bX hl;rfl
 have m29:=d29.m X G
 have b30:=d30.F.binds (ps:=["form","word"]) fun _ _ _ _ _ _ us hl=>by obtain ⟨x,y,rfl⟩:=bX hl;rfl
 have m30:=d30.m X G
 have b31:=d31.F.binds (ps:=["book","pricing"]) fun _ _ _ _ _ _ us hl=>by obtain ⟨x,y,rfl⟩:=bX hl;rfl
 have m31:=d31.m X G
 have b32:=d32.F.binds (ps:=["tape","formula","one"]) fun _ _ _ _ _ _ us hl=>by obtain ⟨x,y,z,rfl⟩:=jD hl;rfl
 have m32:=d32.m X G
 have b33:=d33.F.binds (ps:=["tape","book","pricing"]) fun _ _ _ _ _ _ us hl=>by obtain ⟨x,y,z,rfl⟩:=jD hl;rfl
 have m33:=d33.m X G
 have b34:=d34.F.binds (ps:=["tape","book","pricing"]) fun _ _ _ _ _ _ us hl=>by obtain ⟨x,y,z,rfl⟩:=jD hl;rfl
 have m34:=d34.m X G
 have b35:=d35.F.binds (ps:=["book","pricing"]) fun _ _ _ _ _ _ us hl=>by obtain ⟨x,y,rfl⟩:=bX hl;rfl
 have m35:=d35.m X G
 have Gb0:Gb mg:=⟨PySem.W.mg_none_of X G z1,PySem.W.mg_none_of X G z2,PySem.W.mg_none_of X G z3,PySem.W.mg_none_of X G z4,PySem.W.mg_none_of X G z5,PySem.W.mg_none_of X G z6,PySem.W.mg_none_of X G z7,PySem.W.mg_none_of X G z8,PySem.W.mg_none_of X G z9,PySem.W.mg_none_of X G z10⟩
 have D:tX l.prog w K aD iV:=tL lD e1 e2 e3 e4 e5 e6 nD
 have mI:=PySem.W.mg_of X G aI
 have mQ:=PySem.W.mg_of X G aQ
 have hR:=qH lR
 have mP:=PySem.W.mg_of X G aP
 have hP:=qy lP
 have v11:=PySem.W.mg_none_of X G z11
 have v12:=PySem.W.mg_none_of X G z12
 have v13:=PySem.W.mg_none_of X G z13
 have v14:=PySem.W.mg_none_of X G z14
 have v15:=PySem.W.mg_none_of X G z15
 have v16:=PySem.W.mg_none_of X G z16
 have F36:=d36.F
 obtain ⟨_,_,kV,dc,pm,an,cd,ct,_,rfl,_,_⟩:=d36.F.ex
 refine ⟨PySem.W.fnOf "law" "law" (eY iH) (bx iH) (ag iH) .none kV dc pm an cd ct,fun s v=>.of_eq rfl,fun base _ _=>?_⟩
 have g_inner:=qY (base:=base) d1.F mI D
 have g_tuples:=oB d2.F g_inner b1 d1.k m1
 have g_reads:=qS d3.F v11 mP hP g_tuples b2 d2.k m2
 have g_wheelP:=oP (P:=l.prog) (w:=w) (mg:=mg) (base:=base) d4.F
 have g_sortsP:=oQ (P:=l.prog) (w:=w) (mg:=mg) (base:=base) d5.F
 have g_formsP:=oT (P:=l.prog) (w:=w) (mg:=mg) (base:=base) d6.F
 have g_ownP:=sV (P:=l.prog) (w:=w) (mg:=mg) (base:=base) d7.F
 have g_partsP:=oS (P:=l.prog) (w:=w) (mg:=mg) (base:=base) d8.F
 have g_rulesP:=oR (P:=l.prog) (w:=w) (mg:=mg) (base:=base) d9.F
 have g_byKeyP:=oO d10.F g_rulesP b9 d9.k m9
 have g_priceF:=oG d13.F g_byKeyP b10 d10.k m10 g_ownP b7 d7.k m7
 have g_priceR:=oF d14.F v15 g_partsP b8 d8.k m8
 have g_priceT:=oE (P:=l.prog) (w:=w) (mg:=mg) (base:=base) d15.F mQ hR
 have g_pricedF:=lO d12.F Gb0 v13 g_priceF b13 d13.k m13 g_reads b3 d3.k m3 g_priceR b14 d14.k m14 g_tuples b2 d2.k m2 g_priceT b15 d15.k m15
 have g_isPriced:=kf d11.F Gb0 v13 g_wheelP b4 d4.k m4 g_sortsP b5 d5.k m5 g_formsP b6 d6.k m6 g_pricedF b12 d12.k m12
 have g_same:=qR (P:=l.prog) (w:=w) (mg:=mg) (base:=base) d22.F Gb0 v11
 have g_lsize:=ke (P:=l.prog) (w:=w) (mg:=mg) (base:=base) d23.F v12 b23 m23 24
 have g_cell:=sU (P:=l.prog) (w:=w) (base:=base) d16.F Gb0
 have g_tape:=sO d17.F g_cell b16 d16.k m16
 have g_digit:=qZ (P:=l.prog) (w:=w) (mg:=mg) (base:=base) d18.F
 have g_names:=oJ d19.F Gb0 g_digit b18 d18.k m18
 have g_number:=oI d20.F g_digit b18 d18.k m18
 have g_leaf:=fun ρ=>qX (ρ:=ρ) d21.F Gb0 g_digit b18 d18.k m18 g_number b20 d20.k m20
 have g_leafA:=FnOk.exA g_leaf
 have g_lvF:=qW d24.F Gb0 g_digit b18 d18.k m18 g_leafA b21 d21.k m21 b24 m24 4
 have g_build:=oN d25.F Gb0 g_digit b18 d18.k m18 g_names b19 d19.k m19
 have g_ups:=sS (P:=l.prog) (w:=w) (mg:=mg) (base:=base) d26.F
 have g_pnum:=sP d27.F g_digit b18 d18.k m18
 have g_pform:=qU d28.F Gb0 v11 g_digit b18 d18.k m18 g_pnum b27 d27.k m27
 have g_pbook:=qV d29.F Gb0 g_digit b18 d18.k m18 g_pform b28 d28.k m28 g_tape b17 d17.k m17 g_lvF b24 d24.k m24 g_build b25 d25.k m25 g_names b19 d19.k m19
 have g_ruleOf:=oC (P:=l.prog) (w:=w) (mg:=mg) (base:=base) d30.F
 have g_due:=uN d31.F Gb0 v14 g_ruleOf b30 d30.k m30
 have g_bent:=nF d32.F g_digit b18 d18.k m18 b32 m32 11
 have g_changed:=lQ d33.F Gb0 v11 (PySem.W.mg_none_of X G z2) g_digit b18 d18.k m18 g_ups b26 d26.k m26 g_bent b32 d32.k m32 g_ruleOf b30 d30.k m30 g_lsize b23 d23.k m23
 have g_otherP:=oH d34.F Gb0 v16 g_digit b18 d18.k m18
 have g_right:=oD d35.F Gb0 v11 g_same b22 d22.k m22 g_isPriced b11 d11.k m11 g_due b31 d31.k m31
 exact uM F36 Gb0 g_pbook b29 d29.k m29 g_isPriced b11 d11.k m11 g_tape b17 d17.k m17 g_right b35 d35.k m35 g_changed b33 d33.k m33 g_otherP b34 d34.k m34
theorem walk {l:PySem.W.OpenLaw} {q:Program} {loose:List Str} {XP:(Str->Option Value)->Heap->Prop} {YP:World->Heap->Prop} {d:DefRec} {K:Params->PySem.W.Frag} (hn:l.most=some 63) (hdf:d.params.defaults=[])
  (hY: ∀ (w:World) (h:Heap),YP w h->(K w.params).In h)
  (F: ∀ (w:World) (mg:Str->Option Value) (fa:Addr) (h:Heap),(K w.params).In h->h.Ns mainGlobals mg->mg d.name=some (.ref fa)->
   ∃ fd:FuncData,(∀ (s:Shared) (u:Value),BindsTo s fd ⟨[u],[]⟩ [("script",u)])/\ ∀ base:Heap,(K w.params).In base->base.Ns mainGlobals mg->FnOk l.prog w (K w.params) mg base CX0 27 fa fd ["script"] (ng (K w.params))):
  PySem.W.WalkO q loose XP YP l.row.toRowW d [] (fun f vs=>PySem.call f vs):=
 L2.walk_of (n:=63) (k:=27) (x:="script") (CX:=fun _=>CX0) (sp:=fun w=>ng (K w.params)) hn (by decide) hdf ⟨rfl,by decide,by decide⟩ hY F (fun _ _ a ns hl _ hS=>⟨a,ns,rfl,hS,hl,fun _=>rfl⟩) fun _ _ _ _ _ z=>z
end My
open PySem PySem.W PyProof.Rows
set_option maxRecDepth 100000 in
set_option maxHeartbeats 0 in
theorem PySem.Challenge.cw_boughworth_k70_priced_or_not_holds : PySem.Challenge.rw_boughworth_k70_priced_or_not.Holds := by
 refine My.parts.c My.parts.a0 My.parts.a1 My.parts.e0 My.parts.e1 My.parts.b0 My.parts.b1 ?_
 delta My.parts
 dsimp only
 k_fill
 refine My.walk (l:=PySem.Challenge.rw_boughworth_k70_priced_or_not) rfl rfl (fun w h Y=>PySem.W.kIn_of Y) ?F
 case F=>
  intro w mg fa h KX G hmg
  refine' My.all_mk KX G hmg ?d1 ?d2 ?d3 ?d4 ?d5 ?d6 ?d7 ?d8 ?d9 ?d10 ?d11 ?d12 ?d13 ?d14 ?d15 ?d16 ?d17 ?d18 ?d19 ?d20 ?d21 ?d22 ?d23 ?d24 ?d25 ?d26 ?d27 ?d28 ?d29 ?d30 ?d31 ?d32 ?d33 ?d34 ?d35 ?d36 ?z1 ?z2 ?z3 ?z4 ?z5 ?z6 ?z7 ?z8 ?z9 ?z10 ?z11 ?z12 ?z13 ?z14 ?z15 ?z16 ?aI ?lD ?e1 ?e2 ?e3 ?e4 ?e5 ?e6 ?nD ?aP ?lP ?aQ ?lR
  (case d1=>exact My.Df.of (by k_is) (by k_is) (by k_is) (by k_is))
  (case d2=>exact My.Df.of (by k_is) (by k_is) (by k_is) (by k_is))
  (case d3=>exact My.Df.of (by k_is) (by k_is) (by k_is) (by k_is))
  (case d4=>exact My.Df.of (by k_is) (by k_is) (by k_is) (by k_is))
  (case d5=>exact My.Df.of (by k_is) (by k_is) (by k_is) (by k_is))
  (case d6=>exact My.Df.of (by k_is) (by k_is) (by k_is) (by k_is))
  (case d7=>exact My.Df.of (by k_is) (by k_is) (by k_is) (by k_is))
  (case d8=>exact My.Df.of (by k_is) (by k_is) (by k_is) (by k_is))
  (case d9=>exact My.Df.of (by k_is) (by k_is) (by k_is) (by k_is))
  (case d10=>exact My.Df.of (by k_is) (by k_is) (by k_is) (by k_is))
  (case d11=>exact My.Df.of (by k_is) (by k_is) (by k_is) (by k_is))
  (case d12=>exact My.Df.of (by k_is) (by k_is) (by k_is) (by k_is))
  (case d13=>exact My.Df.of (by k_is) (by k_is) (by k_is) (by k_is))
  (case d14=>exact My.Df.of (by k_is) (by k_is) (by k_is) (by k_is))
  (case d15=>exact My.Df.of (by k_is) (by k_is) (by k_is) (by k_is))
  (case d16=>exact My.Df.of (by k_is) (by k_is) (by k_is) (by k_is))
  (case d17=>exact My.Df.of (by k_is) (by k_is) (by k_is) (by k_is))
  (case d18=>exact My.Df.of (by k_is) (by k_is) (by k_is) (by k_is))
  (case d19=>exact My.Df.of (by k_is) (by k_is) (by k_is) (by k_is))
  (case d20=>exact My.Df.of (by k_is) (by k_is) (by k_is) (by k_is))
  (case d21=>exact My.Df.of (by k_is) (by k_is) (by k_is) (by k_is))
  (case d22=>exact My.Df.of (by k_is) (by k_is) (by k_is) (by k_is))
  (case d23=>exact My.Df.of (by k_is) (by k_is) (by k_is) (by k_is))
  (case d24=>exact My.Df.of (by k_is) (by k_is) (by k_is) (by k_is))
  (case d25=>exact My.Df.of (by k_is) (by k_is) (by k_is) (by k_is))
  (case d26=>exact My.Df.of (by k_is) (by k_is) (by k_is) (by k_is))
  (case d27=>exact My.Df.of (by k_is) (by k_is) (by k_is) (by k_is))
  (case d28=>exact My.Df.of (by k_is) (by k_is) (by k_is) (by k_is))
  (case d29=>exact My.Df.of (by k_is) (by k_is) (by k_is) (by k_is))
  (case d30=>exact My.Df.of (by k_is) (by k_is) (by k_is) (by k_is))
  (case d31=>exact My.Df.of (by k_is) (by k_is) (by k_is) (by k_is))
  (case d32=>exact My.Df.of (by k_is) (by k_is) (by k_is) (by k_is))
  (case d33=>exact My.Df.of (by k_is) (by k_is) (by k_is) (by k_is))
  (case d34=>exact My.Df.of (by k_is) (by k_is) (by k_is) (by k_is))
  (case d35=>exact My.Df.of (by k_is) (by k_is) (by k_is) (by k_is))
  (case d36=>exact My.Df.of (by k_is) (by k_is) (by k_is) (by k_is))
  (case z1=>k_is)
  (case z2=>k_is)
  (case z3=>k_is)
  (case z4=>k_is)
  (case z5=>k_is)
  (case z6=>k_is)
  (case z7=>k_is)
  (case z8=>k_is)
  (case z9=>k_is)
  (case z10=>k_is)
  (case z11=>k_is)
  (case z12=>k_is)
  (case z13=>k_is)
  (case z14=>k_is)
  (case z15=>k_is)
  (case z16=>k_is)
  (case aI=>k_is)
  (case lD=>k_is)
  (case e1=>first | rfl | k_is)
  (case e2=>first | rfl | k_is)
  (case e3=>first | rfl | k_is)
  (case e4=>first | rfl | k_is)
  (case e5=>first | rfl | k_is)
  (case e6=>first | rfl | k_is)
  (case nD=>first | rfl | decide | k_is)
  (case aP=>k_is)
  (case lP=>k_is)
  (case aQ=>k_is)
  (case lR=>k_is)
