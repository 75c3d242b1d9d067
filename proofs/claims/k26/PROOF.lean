import PyProof.Rows.All
import Wide.All
import OpenK.AllK
import Wide.FinOn
import Lean
import PyProof.EqAt
import PyProof.EqKinds
import PyProof.TupleCall
import PyProof.TupleKey
import PyProof.DictKeyH
import PyProof.SumWalk
import KE.KDictList
import PyProof.NeKinds
import PyProof.Draws
import PyProof.ZipIter
import PyProof.ListMulRoad
import KE.RegKIsAll
import OpenK.KOwn
import PyProof.EnumMake
import PyProof.Rows.StrNews
import PyProof.StrCalls6
import PyProof.ToksMono
import PyProof.StrLawsReplace
import PyProof.StrLawsJoin
import PyProof.Rows.StrSplitJoin
import PyProof.DictValues
import PyProof.DictWalks
import KE.KRevIter
import Flt.Sum
import PyProof.FitsBits
import PyProof.DictTable
import KE.KItemsList
import PyProof.DictItems
import KE.KPairComp
import PyProof.Rows.StrLen
import PyProof.CollectWalk
import PySem.Challenge.RW_boughworth_k26_what_spots_read
set_option Elab.async false
set_option linter.all false
set_option bootstrap.genMatcherCode false
set_option compiler.extract_closed false
set_option genSizeOfSpec false
set_option maxRecDepth 100000
set_option maxHeartbeats 4000000
namespace My
open PySem PySem.W PySem.Calls PyProof.Rows
theorem with_hl {P R Q:Prop} (hl:P) (hc:R) (main:Q):Q:=main
structure Parts (Q:Prop):Type where
 {P1:Prop}
 {P2:Prop}
 {P3:Prop}
 {P4:Prop}
 {P5:Prop}
 {P6:Prop}
 {W:Prop}
 a0:P1
 a1:P2
 e0:P3
 e1:P4
 b0:P5
 b1:P6
 c:P1->P2->P3->P4->P5->P6->W->Q
noncomputable def zC (_:Params):Obj:={cls:=Value.type "tuple",data:=Data.seq #[]}
noncomputable def zB (_:Params):Obj:={cls:=Value.none,data:=Data.fields #[]}
noncomputable def zA (_:Params):Obj:={cls:=Value.type "code",data:=Data.fields #[Value.str (Str.ofString "<module>") 182,Value.str (Str.ofString "<module>") 183,Value.str (Str.ofString "/claim/cut.py") 184,Value.int 1 0,Value.int 0 0,Value.int 0 0,Value.int 0 0,Value.int 0 0,Value.ref 11,Value.bool false,Value.int 181 0,Value.ref 12,Value.none,Value.none,Value.none,Value.none,Value.int 185 0,Value.int 1 0,Value.str (Str.ofString "/claim/cut.py") 186]}
noncomputable def zz (_:Params):Obj:={cls:=Value.type "frame",slots:= #[some (Value.ref 13),some (Value.ref 3),some (Value.ref 3),none,some (Value.str (Str.ofString "__main__") 164),none,some (Value.ref 0)]}
noncomputable def yQ (P:Params):BT:=(BT.node (boot_o_0 P) (BT.node (boot_o_1 P) (BT.node (boot_o_3 P) (BT.node (boot_o_7 P) BT.nil BT.nil) (BT.node (zC P) BT.nil BT.nil)) (BT.node (boot_o_5 P) (BT.node (boot_o_9 P) BT.nil BT.nil) (BT.node (zA P) BT.nil BT.nil))) (BT.node (boot_o_2 P) (BT.node (boot_o_4 P) (BT.node (boot_o_8 P) BT.nil BT.nil) (BT.node (zB P) BT.nil BT.nil)) (BT.node (boot_o_6 P) (BT.node (boot_o_10 P) BT.nil BT.nil) (BT.node (zz P) BT.nil BT.nil))))
noncomputable def xI (p:Program):Env:={scope:=p.main.scope,locals:=mainNs,globals:=mainNs,cells:=[],code:=.ref 13,frame:=some 14}
noncomputable abbrev hC (p:Program):Code:=.body (behindTheImports p) (xI p)
noncomputable def hSt (w:World) (os:OsState):SharedT:=⟨yQ w.params,15,{},#[],{},187,os⟩
abbrev oE:Pos:=⟨0,0,0,0⟩
noncomputable abbrev yR (p:Program):Thread:=piecesOf (behindTheImports p) (xI p) (hC p) oE [topFrame oE]
noncomputable abbrev uU (p:Program) (n:Nat) (w:World) (os:OsState):Option (Flow×SharedT×Code×Pos):=PySem.W.Fast.tw10110043849684766642 PySem.W.Fast.tw14364793385576792824 p w 11 (some (.ref 6)) 1 n (hSt w os) (yR p)
theorem zD {p:Program} {w:World} {n₀:Nat} {ann:Option Value} (s:Shared) (c:Code) (pos:Pos):topRun treeTable p w n₀ ann 2 s ⟨doneF .next,c,pos,[topFrame oE]⟩=some s:=by
 obtain ⟨h,g,d,t,o⟩:=s
 kernel_rfl
theorem yS (P:Params):((boot_heap P).isNs mainGlobals&&(#[]:Array GenState).size==0,(boot_heap P).objs.size,(boot_heap P).nsMap mainGlobals "__annotations__")=(true,11,some (.ref 6)):=by kernel_rfl
theorem left_of {p q:Program} {loose:List Str} {Xt:Shared->Bool} {α:Type} {Yf:Shared->α} {Ya:World->α} {N n:Nat} {g0:Bool} {posE:Pos}
  (e:opening p=plainProg p.main.scope.names) (hN:Nat.ble 600 N=true) (f: ∀ s,fenceModules? p s=some s) (le:Nat.ble (12+ (1+ (n+2))) N=true)
  (pre: ∀ (w:World) (os:OsState),topGo treeTable p w 11 (some (.ref 6)) 12 ⟨boot_heap w.params,#[],boot_drawn,boot_toks,os⟩ (topStub p)=some ((hSt w os).abs,⟨denote treeTable (hC p),hC p,oE,[topFrame oE]⟩))
  (block: ∀ (w:World) (os:OsState),segRun treeTable p w 11 (some (.ref 6)) 1 1 (hSt w os).abs (blockOf (behindTheImports p) (xI p) (hC p) oE [topFrame oE])=some (.next,(hSt w os).abs,hC p,oE))
  (runA: ∀ (w:World) (os:OsState),(uU p n w os).map (fun r=>(r.1,r.2.2,(staticsOk (importedModules p.main.body) (boot_heap w.params) r.2.1.abs.heap&&namesBound p r.2.1.abs.heap&&gensDone r.2.1.abs&&laidKept (boot_heap w.params) r.2.1.abs.heap),(openSeen q loose (importedModules p.main.body) Xt g0 r.2.1.abs).1,Yf r.2.1.abs))=some (.next,(hC p,posE),true,(openGood q loose).1,Ya w))
  (runE: ∀ (w:World) (os:OsState),(uU p n w os).map (fun r=>((openSeen q loose (importedModules p.main.body) Xt g0 r.2.1.abs).2.1,(openSeen q loose (importedModules p.main.body) Xt g0 r.2.1.abs).2.2.1))=some ((openGood q loose).2.1,(openGood q loose).2.2.1))
  (runB: ∀ (w:World) (os:OsState),(uU p n w os).map (fun r=>(openSeen q loose (importedModules p.main.body) Xt g0 r.2.1.abs).2.2.2)=some (openGood q loose).2.2.2):LeftO p q loose Xt Yf Ya N g0:=by
 intro w
 obtain ⟨⟨h,gs,d,k,os⟩,e1,e'⟩:=Option.map_eq_some_iff.mp (boot_open e hN f w)
 obtain ⟨rfl,rfl,rfl,rfl⟩:h=boot_heap w.params/\gs= #[]/\d=boot_drawn/\k=boot_toks:=by simpa using e'
 obtain ⟨z1,z2,z3⟩:_/\_/\_:=by simpa only [Prod.mk.injEq]using yS w.params
 have E:segRunT treeTable p w 11 (some (.ref 6)) 1 n (hSt w os) (yR p)=uU p n w os:=by
  unfold uU
  rw [<- PySem.W.Fast.te10110043849684766642,<- PySem.W.Fast.te14364793385576792824]
 have A:=runA w os
 have B:=runB w os
 have E2:=runE w os
 obtain ⟨⟨fl,x,c,pos⟩,r1,r2⟩:=Option.map_eq_some_iff.mp A
 simp only [Prod.mk.injEq]at r2
 obtain ⟨rfl,⟨rfl,rfl⟩,l1,l2a,yb⟩:=r2
 have l2e:((openSeen q loose (importedModules p.main.body) Xt g0 x.abs).2.1,(openSeen q loose (importedModules p.main.body) Xt g0 x.abs).2.2.1)=((openGood q loose).2.1,(openGood q loose).2.2.1):=by rw [r1]at E2;exact Option.some.inj E2
 have l2d:(openSeen q loose (importedModules p.main.body) Xt g0 x.abs).2.2.2=(openGood q loose).2.2.2:=by rw [r1]at B;exact Option.some.inj B
 have l2:openSeen q loose (importedModules p.main.body) Xt g0 x.abs=openGood q loose:=Prod.ext l2a (Prod.ext (Prod.mk.inj l2e).1 (Prod.ext (Prod.mk.inj l2e).2 l2d))
 have s1:=segRun_of (E.trans r1)
 have t1:=piece_app (rest:=[]) s1 (piece_nil (zD x.abs _ _))
 rw [List.append_nil]at t1
 have t3:=go_top (pre w os) (piece_block (block w os) t1)
 have r:=topRun_mono (N- (12+ (1+ (n+2)))) _ _ _ _ t3
 rw [show 12+ (1+ (n+2)) + (N- (12+ (1+ (n+2))))=N by have:=Nat.le_of_ble_eq_true le;omega]at r
 have t:topFrom treeTable p w N ⟨boot_heap w.params,#[],boot_drawn,boot_toks,os⟩=some x.abs:=by
  unfold topFrom
  dsimp only
  rw [z1,z2,z3,r]
  show (match staticsOk _ _ _&&namesBound _ _&&gensDone _&&laidKept _ _ with | true=>_ | false=>_)=_
  rw [l1]
 unfold openEnds
 rw [e1]
 change Option.map _ (topFrom treeTable p w N _)=_
 rw [t]
 exact congrArg some (Prod.ext l2 yb)
end My
open PySem PySem.W PyProof.Rows in
set_option maxHeartbeats 0 in
noncomputable def My.parts:My.Parts PySem.Challenge.rw_boughworth_k26_what_spots_read.Holds:=by
 apply My.Parts.mk
 case c=>
  intro ha0 ha1 he0 he1 hb0 hb1 hW
  w_on;o_law
  apply My.with_hl
  case main=>
   k_head;(case hw=>w_witness2)
  case hc=>exact hW
  case hl=>
   refine My.left_of (n:=5800) (posE:=⟨396,0,413,15⟩) ?e ?hN ?f ?le ?pre ?block (byRow2 "special-get-raises" ha0 ha1) (byRow2 "special-get-raises" he0 he1) (byRow2 "special-get-raises" hb0 hb1)
   case e=>kernel_rfl
   case hN=>decide
   case f=>intro s;kernel_rfl
   case le=>decide
   case pre=>(intro w os;kernel_rfl)
   case block=>(intro w os;kernel_rfl)
 case a0=>(intro w os;kernel_rfl)
 case a1=>(intro w os;kernel_rfl)
 case e0=>(intro w os;kernel_rfl)
 case e1=>(intro w os;kernel_rfl)
 case b0=>(intro w os;kernel_rfl)
 case b1=>(intro w os;kernel_rfl)
namespace PySem
section
variable {prog:Program} {w:World} {K K2:Type} [DecidableEq K] [DecidableEq K2] {knd:KeyKind prog w K} {kn2:KeyKind prog w K2}
noncomputable def IsPairKey (knd:KeyKind prog w K) (kn2:KeyKind prog w K2) (h:Heap) (p:List K×K2) (a:Addr):Prop:=
 ∃ o items n b v,h.get? a=some o/\o.cls=.type "tuple"/\o.data=.seq items n/\items.toList=[.ref b,v]/\IsTupleKey knd h p.1 b/\kn2.is p.2 v=true
noncomputable def jO (knd:KeyKind prog w K) (kn2:KeyKind prog w K2) (p:List K×K2):Int:=reduceHash (Builtin.Tuple.tupleHashOf [tupleKeyHash knd p.1,kn2.hash p.2])
variable {A:Around} {E:Value->Shared->Prop} {s:Shared}
theorem IsPairKey.typeIs {p:List K×K2} {a:Addr} (x:IsPairKey knd kn2 s.heap p a):s.TypeIs (.ref a) "tuple":=by
 obtain ⟨o,_,_,_,_,e,c,_⟩:=x
 exact ⟨o,e,c⟩
theorem IsPairKey.inj {h:Heap} {p q:List K×K2} {a:Addr} (x:IsPairKey knd kn2 h p a) (y:IsPairKey knd kn2 h q a):p=q:=by
 obtain ⟨o,i,n,b,v,e,_,d,t,k,m⟩:=x
 obtain ⟨o',i',n',b',v',e',_,d',t',k',m'⟩:=y
 rw [e]at e';cases e'
 rw [d]at d';cases d'
 rw [t]at t'
 have h1:b=b'/\v=v':=by simpa using t'
 obtain ⟨rfl,rfl⟩:=h1
 exact Prod.ext (k.inj k') (kn2.inj _ _ _ m m')
theorem IsPairKey.keeps {h h':Heap} {p:List K×K2} {a d:Addr} {o:Obj} {es ep} (x:IsPairKey knd kn2 h p a) (ho:h.get? d=some o) (hd:o.data=.dict es ep) (hs:Heap.SameBut d h h'):IsPairKey knd kn2 h' p a:=by
 obtain ⟨o',i,n,b,v,e,c,dt,t,k,m⟩:=x
 refine ⟨o',i,n,b,v,?_,c,dt,t,k.keeps ho hd hs,m⟩
 have ne:a≠d:=fun z=>by
  subst z
  rw [ho]at e;cases e
  rw [hd]at dt;cases dt
 rw [<- e]
 exact hs.2 a ne
theorem gX {p:List K×K2} {a:Addr} {Q:Int->Shared->Prop} (hu:A.units+8<cLine) (hk:IsPairKey knd kn2 s.heap p a) (h:Q (jO knd kn2 p) {s with toks:=s.toks+ (p.1.length+1+1+1)}):
  wpAny (model prog w) A (pyHash (.ref a)) Q E s:=by
 have hT:=hk.typeIs
 obtain ⟨o,items,n,b,v,ho,_,hd,hi,hb,hv⟩:=hk
 unfold pyHash
 first | unfold pyHashByItsType | skip
 first | refine wpAny_bind (wpAny_cRoomFor_or (.inr (by lia)) ?_) | skip
 refine wpAny_bind (wpAny_specialOf hT F.slot_tuple_hash.lookup ?_)
 show wpAny _ _ (if (some (Value.builtin "tuple.__hash__")==some Value.none)=true then _ else _) Q E s
 rw [if_neg (by rw [beq_builtin_none];exact Bool.false_ne_true)]
 refine wpAny_bind (wpAny_specialOf hT F.slot_tuple_hash.lookup ?_)
 show wpAny _ _ (callSpecialIfBoundUnlessNone? (.ref a) "__hash__" _ >>= _) Q E s
 refine wpAny_bind (wpAny_callSpecialIfBoundUnlessNone?_slot hT F.slot_tuple_hash (wpAny_call_entry F.slot_tuple_hash hT F.entry_tuple_hash ?_ (F.args_tuple_hash_1 _)))
 show wpAny _ _ (Builtin.Tuple.tupleItemsOf (.ref a) >>= _) _ _ s
 refine wpAny_bind (wpAny_tupleItemsOf ho hd ?_)
 refine wpAny_bind ?_
 rw [<- Array.forIn_toList,hi,List.forIn_cons]
 refine wpAny_bind (wpAny_bind (wpAny_pyHash_tuple (by show _<cLine;simp;lia) hb ?_))
 refine wpAny_pure ?_
 show wpAny _ _ (forIn [v] #[tupleKeyHash knd p.1] _) _ _ _
 rw [List.forIn_cons]
 refine wpAny_bind (wpAny_bind (kn2.pyHash hv ?_))
 refine wpAny_pure ?_
 show wpAny _ _ (forIn [] _ _) _ _ _
 rw [List.forIn_nil]
 refine wpAny_pure ?_
 show wpAny _ _ (retInt (Builtin.Tuple.tupleHashOf [tupleKeyHash knd p.1,kn2.hash p.2])) _ _ _
 refine wpAny_ret_mkInt ?_
 generalize hz:Builtin.Tuple.tupleHashOf [tupleKeyHash knd p.1,kn2.hash p.2]=z
 show wpAny _ _ (if (decide (-(2:Int) ^63<=z)&&decide (z<2^63))=true then _ else _) Q E _
 unfold jO reduceHash at h
 rw [hz]at h
 by_cases hr:(decide (-(2:Int) ^63<=z)&&decide (z<2^63))=true
 ·rw [if_pos hr]
  rw [if_pos hr]at h
  exact wpAny_pure (by simpa [Nat.add_assoc]using h)
 ·rw [if_neg hr]
  rw [if_neg hr]at h
  exact wpAny_bind (wpAny_rule (wpAny_pure (by simpa [Nat.add_assoc]using h)))
theorem nV (m:Nat) {ks:List K} {a:Addr} {Q:Bool->Shared->Prop} (hk:IsTupleKey knd s.heap ks a) (h:Q true s):wpAny (model prog w) A (eqIsQuiet (m+1) (.ref a)) Q E s:=by
 have hT:=hk.typeIs
 obtain ⟨o,items,n,ho,_,hd,hi⟩:=hk
 unfold eqIsQuiet
 refine wpAny_bind (wpAny_specialOf hT F.slot_tuple_eq.lookup ?_)
 show wpAny _ _ (isInstance (.ref a) (.type "tuple") >>= _) _ _ s
 refine wpAny_bind (wpAny_isInstance hT isSubtype_tuple_tuple ?_)
 simp only [Bool.not_true,Bool.false_eq_true,if_false]
 refine wpAny_bind (wpAny_seqItems ho hd (wpAny_bind ?_))
 show wpAny _ _ (forIn items _ _) _ _ s
 rw [<- Array.forIn_toList]
 refine wpAny_forIn_list _ (fun rest r s'=>r.1=none/\s'=s/\ ∀ v∈rest,carriedByValue v=true) _ ?_ ?_ _ _ ⟨rfl,rfl,hi.byValue⟩
 ·rintro v rest r s' ⟨hr,rfl,hall⟩
  rw [eqIsQuiet_byValue _ (hall v List.mem_cons_self)]
  refine wpAny_bind (wpAny_pure ?_)
  simp only [Bool.not_true,Bool.false_eq_true,if_false]
  exact wpAny_pure ⟨rfl,rfl,fun u hu'=>hall u (List.mem_cons_of_mem _ hu')⟩
 ·rintro ⟨r1,r2⟩ s' ⟨hr,rfl,_⟩
  simp only at hr
  subst hr
  exact wpAny_pure h
theorem fI {p:List K×K2} {a:Addr} {Q:Bool->Shared->Prop} (hk:IsPairKey knd kn2 s.heap p a) (h:Q true s):wpAny (model prog w) A (eqIsQuiet 8 (.ref a)) Q E s:=by
 have hT:=hk.typeIs
 obtain ⟨o,items,n,b,v,ho,_,hd,hi,hb,hv⟩:=hk
 unfold eqIsQuiet
 refine wpAny_bind (wpAny_specialOf hT F.slot_tuple_eq.lookup ?_)
 show wpAny _ _ (isInstance (.ref a) (.type "tuple") >>= _) _ _ s
 refine wpAny_bind (wpAny_isInstance hT isSubtype_tuple_tuple ?_)
 simp only [Bool.not_true,Bool.false_eq_true,if_false]
 refine wpAny_bind (wpAny_seqItems ho hd ?_)
 refine wpAny_bind ?_
 show wpAny _ _ (forIn items _ _) _ _ s
 rw [<- Array.forIn_toList,hi,List.forIn_cons]
 refine wpAny_bind (wpAny_bind (nV 6 hb ?_))
 simp only [Bool.not_true,Bool.false_eq_true,if_false]
 refine wpAny_pure ?_
 show wpAny _ _ (forIn [v] (none,()) _) _ _ _
 rw [List.forIn_cons,eqIsQuiet_byValue _ (kn2.byValue _ _ hv)]
 refine wpAny_bind (wpAny_bind (wpAny_pure ?_))
 simp only [Bool.not_true,Bool.false_eq_true,if_false]
 refine wpAny_pure ?_
 show wpAny _ _ (forIn [] _ _) _ _ _
 rw [List.forIn_nil]
 exact wpAny_pure (wpAny_pure h)
theorem mV {p q:List K×K2} {a b:Addr} {R:Fin->Shared->Prop} (hu:A.units+4<cLine) (hx:IsPairKey knd kn2 s.heap p a) (hy:IsPairKey knd kn2 s.heap q b) (h:R (.done (.ret (.bool (decide (p=q))))) s):
  wpAny (model prog w) A (Builtin.«tuple.__eq__» ⟨[.ref a,.ref b],[]⟩) R E s:=by
 have hTb:=hy.typeIs
 obtain ⟨oa,xs,na,a1,v1,hoa,_,hda,hia,hka,hva⟩:=hx
 obtain ⟨ob,ys,nb,b1,v2,hob,_,hdb,hib,hkb,hvb⟩:=hy
 show wpAny _ _ (isInstance (.ref b) (.type "tuple") >>= _) _ _ s
 refine wpAny_bind (wpAny_isInstance hTb isSubtype_tuple_tuple ?_)
 simp only [Bool.not_true,Bool.false_eq_true,if_false]
 refine wpAny_bind (wpAny_tupleItemsOf hoa hda (wpAny_bind (wpAny_tupleItemsOf hob hdb (wpAny_bind ?_))))
 have hs:xs.size=ys.size:=by rw [<- Array.length_toList,<- Array.length_toList,hia,hib];rfl
 rw [hia,hib]
 show wpAny _ _ (forIn [(Value.ref a1,Value.ref b1),(v1,v2)] (none,()) _) _ _ _
 rw [List.forIn_cons]
 refine wpAny_bind (wpAny_bind (wpAny_eqBool_tuple (by lia) hka hkb ?_))
 by_cases h1:p.1=q.1
 ·rw [decide_eq_true h1]
  simp only [Bool.not_true,Bool.false_eq_true,if_false]
  refine wpAny_pure ?_
  show wpAny _ _ (forIn [(v1,v2)] (none,()) _) _ _ _
  rw [List.forIn_cons]
  refine wpAny_bind (wpAny_bind (kn2.eqBool (a:=p.2) (b:=q.2) hva hvb ?_))
  by_cases h2:p.2=q.2
  ·rw [decide_eq_true h2]
   simp only [Bool.not_true,Bool.false_eq_true,if_false]
   refine wpAny_pure ?_
   show wpAny _ _ (forIn [] _ _) _ _ _
   rw [List.forIn_nil]
   rw [decide_eq_true (Prod.ext h1 h2)]at h
   refine wpAny_pure (wpAny_pure ?_)
   show R (.done (.ret (.bool (xs.size==ys.size)))) s
   rw [hs,beq_self_eq_true]
   exact h
  ·rw [decide_eq_false h2]
   simp only [Bool.not_false,if_true]
   rw [decide_eq_false fun e=>h2 (congrArg Prod.snd e)]at h
   exact wpAny_bind (wpAny_pure (wpAny_pure (wpAny_pure (wpAny_pure h))))
 ·rw [decide_eq_false h1]
  simp only [Bool.not_false,if_true]
  rw [decide_eq_false fun e=>h1 (congrArg Prod.fst e)]at h
  exact wpAny_bind (wpAny_pure (wpAny_pure (wpAny_pure (wpAny_pure h))))
theorem et {p q:List K×K2} {a b:Addr} {Q:Bool->Shared->Prop} (hu:A.units+8<cLine) (hx:IsPairKey knd kn2 s.heap p a) (hy:IsPairKey knd kn2 s.heap q b) (h:Q (decide (p=q)) s):
  wpAny (model prog w) A (eqBool (.ref a) (.ref b)) Q E s:=by
 unfold eqBool
 try with_reducible refine wpAny_holding ?_
 show wpAny _ _ (if (Value.ref a==Value.ref b)=true then _ else _) Q E s
 by_cases hab:(Value.ref a==Value.ref b)=true
 ·rw [if_pos hab]
  have e:a=b:=by have:=eq_of_beq hab;injection this
  subst e
  obtain rfl:=hx.inj hy
  exact wpAny_bind (wpAny_rule (wpAny_pure (by simpa using h)))
 ·rw [if_neg hab]
  exact wpAny_bind (wpAny_richCompare_same_room (op:=.Eq) hx.typeIs hy.typeIs F.slot_tuple_eq
   (wpAny_call_entry F.slot_tuple_eq hx.typeIs F.entry_tuple_eq (mV (by simp;lia) hx hy ⟨_,rfl,(fun e=>nomatch e),wpAny_truthy_bool h⟩) (F.args_tuple_eq_2 _ _)) (by lia))
end
noncomputable def eV {prog:Program} {w:World} {K K2:Type} [DecidableEq K] [DecidableEq K2] (knd:KeyKind prog w K) (kn2:KeyKind prog w K2):HeapKind prog w (List K×K2) where
 is:=IsPairKey knd kn2
 hash:=jO knd kn2
 draws:=fun p=>p.1.length+1+1+1
 room:=fun A=>A.units+8<cLine
 inj:=fun hx hy=>hx.inj hy
 keeps:=fun x ho hd hs=>x.keeps ho hd hs
 pyHash:=fun hu hk h=>gX hu hk h
 eqBool:=fun hu hx hy h=>et hu hx hy h
 quiet:=fun hk h=>fI hk h
end PySem
namespace L2
open PySem PySem.Spec PyProof.Rows
noncomputable abbrev Key:=Sum Int Str
noncomputable def kZ:Key->Value->Bool
 | .inl k,v=>Value.isInt k v
 | .inr x,v=>Value.isStrOf x v
noncomputable def zq (w:World):Key->Int
 | .inl k=>hashInt k
 | .inr x=>hashStr w x
theorem bX: ∀ {k:Key} {v:Value},kZ k v=true->(∃ i t,k=Sum.inl i/\v=Value.int i t)\/(∃ x t,k=Sum.inr x/\v=Value.str x t)
 | .inl i,v,h=>by
  obtain ⟨t,e⟩:=Value.isInt_shape (k:=i) (v:=v) h
  exact .inl ⟨i,t,rfl,e⟩
 | .inr x,v,h=>by
  obtain ⟨t,e⟩:=Value.isStrOf_shape (x:=x) (v:=v) h
  exact .inr ⟨x,t,rfl,e⟩
theorem sh (i:Int) (t:Tok):kZ (.inl i) (.int i t)=true:=by simp [kZ,Value.isInt]
theorem bE (x:Str) (t:Tok):kZ (.inr x) (.str x t)=true:=by simp [kZ,Value.isStrOf]
theorem xC (a b:Int):decide ((Sum.inl a:Key)=Sum.inl b)=(a==b):=by
 by_cases e:a=b
 ·subst e;simp
 ·have h: ¬ (Sum.inl a:Key)=Sum.inl b:=fun q=>e (Sum.inl.inj q)
  rw [decide_eq_false h]
  exact (beq_eq_false_iff_ne.mpr e).symm
theorem xz (a b:Str):decide ((Sum.inr a:Key)=Sum.inr b)=decide (a=b):=by
 by_cases e:a=b
 ·subst e;simp
 ·have h: ¬ (Sum.inr a:Key)=Sum.inr b:=fun q=>e (Sum.inr.inj q)
  rw [decide_eq_false h,decide_eq_false e]
theorem xB (a:Int) (b:Str):decide ((Sum.inl a:Key)=Sum.inr b)=false:=decide_eq_false (fun q=>nomatch q)
theorem xA (a:Str) (b:Int):decide ((Sum.inr a:Key)=Sum.inl b)=false:=decide_eq_false (fun q=>nomatch q)
noncomputable def aU (prog:Program) (w:World):PySem.KeyKind prog w Key where
 is:=kZ
 hash:=zq w
 inj:=fun v a b ha hb=>by
  rcases bX ha with ⟨i,t,rfl,rfl⟩ | ⟨x,t,rfl,rfl⟩
  ·rcases bX hb with ⟨j,u,rfl,e⟩ | ⟨y,u,rfl,e⟩
   ·injection e with e1 _;rw [e1]
   ·exact nomatch e
  ·rcases bX hb with ⟨j,u,rfl,e⟩ | ⟨y,u,rfl,e⟩
   ·exact nomatch e
   ·injection e with e1 _;rw [e1]
 byValue:=fun k v h=>by
  rcases bX h with ⟨i,t,rfl,rfl⟩ | ⟨x,t,rfl,rfl⟩ <;> rfl
 pyHash:=fun hv h=>by
  rcases bX hv with ⟨i,t,rfl,rfl⟩ | ⟨x,t,rfl,rfl⟩
  ·exact wpAny_pyHash_int h
  ·exact wpAny_pyHash_str h
 eqBool:=fun hu hv h=>by
  rcases bX hu with ⟨i,t,rfl,rfl⟩ | ⟨x,t,rfl,rfl⟩
  ·rcases bX hv with ⟨j,u,rfl,rfl⟩ | ⟨y,u,rfl,rfl⟩
   ·rw [xC]at h;exact wpAny_eqBool_int h
   ·rw [xB]at h;exact SeqAt.EqAt.int_str i t y u _ _ _ _ h
  ·rcases bX hv with ⟨j,u,rfl,rfl⟩ | ⟨y,u,rfl,rfl⟩
   ·rw [xA]at h;exact SeqAt.EqAt.str_int x t j u _ _ _ _ h
   ·rw [xz]at h;exact wpAny_eqBool_str h
 «strs» :=fun k x t v h=>by
  rcases bX h with ⟨i,u,rfl,e⟩ | ⟨y,u,rfl,e⟩
  ·exact nomatch e
  ·injection e with e1 _
   subst e1
   cases v <;> rfl
theorem ow (prog:Program) (w:World) (i:Int) (t:Tok):(aU prog w).is (.inl i) (.int i t)=true:=sh i t
theorem ou (prog:Program) (w:World) (x:Str) (t:Tok):(aU prog w).is (.inr x) (.str x t)=true:=bE x t
inductive V where
 | non | bl (b:Bool) | int (i:Int) | str (x:Str) | byt (b:Array UInt8) | flt (b:UInt64) | ref (a:Addr) | ty (n:String)
 deriving DecidableEq
noncomputable def RelV:V->Value->Prop
 | .non,u=>u=Value.none
 | .bl b,u=>u=Value.bool b
 | .int i,u=> ∃ t,u=Value.int i t
 | .str x,u=> ∃ t,u=Value.str x t
 | .byt b,u=> ∃ t,u=Value.bytes b t
 | .flt b,u=> ∃ t,u=Value.float b t
 | .ref a,u=>u=Value.ref a
 | .ty n,u=>u=Value.type n
noncomputable abbrev Vals:List V->List Value->Prop:=Paired RelV
theorem Vals.length {xs:List V} {us:List Value} (r:Vals xs us):xs.length=us.length:=Paired.length r
theorem Vals.get: ∀ {xs:List V} {us:List Value} {i:Nat} {x:V},Vals xs us->xs[i]? =some x-> ∃ u,us[i]? =some u/\RelV x u
 | _,_,_,_,.nil,e=>by simp at e
 | _,_,0,_,.cons r _,e=>by simp at e;subst e;exact ⟨_,rfl,r⟩
 | _,_,i+1,x,.cons _ t,e=>by
  obtain ⟨u,h1,h2⟩:=Vals.get (i:=i) (x:=x) t (by simpa using e)
  exact ⟨u,by simpa using h1,h2⟩
theorem Vals.set {x:V} {u:Value} (r:RelV x u): ∀ {xs:List V} {us:List Value} (i:Nat),Vals xs us->Vals (xs.set i x) (us.set i u)
 | _,_,_,.nil=>.nil
 | _,_,0,.cons _ t=>.cons r t
 | _,_,i+1,.cons q t=>.cons q (Vals.set r i t)
theorem Vals.append: ∀ {xs ys:List V} {us ws:List Value},Vals xs us->Vals ys ws->Vals (xs++ys) (us++ws)
 | _,_,_,_,.nil,s=>s
 | _,_,_,_,.cons r t,s=>.cons r (Vals.append t s)
theorem Vals.take: ∀ {xs:List V} {us:List Value} (n:Nat),Vals xs us->Vals (xs.take n) (us.take n)
 | _,_,0,_=>.nil
 | _,_,_+1,.nil=>.nil
 | _,_,n+1,.cons r t=>.cons r (Vals.take n t)
theorem Vals.drop: ∀ {xs:List V} {us:List Value} (n:Nat),Vals xs us->Vals (xs.drop n) (us.drop n)
 | _,_,0,r=>r
 | _,_,_+1,.nil=>.nil
 | _,_,n+1,.cons _ t=>Vals.drop n t
theorem Vals.none_of: ∀ {xs:List V} {us:List Value} {i:Nat},Vals xs us->xs[i]? =none->us[i]? =none:=fun {xs us i} r e=>by
 have h1:=r.length
 have h2:xs.length<=i:=List.getElem?_eq_none_iff.mp e
 exact List.getElem?_eq_none_iff.mpr (by lia)
noncomputable def RelO:Option V->Option Value->Prop
 | some v,some u=>RelV v u
 | none,none=>True
 | _,_=>False
noncomputable def KV {κ:Type}:List (κ×V)->List (κ×Value)->Prop:=Paired fun (p:κ×V) (q:κ×Value)=>p.1=q.1/\RelV p.2 q.2
noncomputable def kV:Key->V
 | .inl i=>.int i
 | .inr x=>.str x
inductive HO where
 /-- a list -/
 | lst (xs:List V)
 /-- a tuple (never changes) -/
 | tup (xs:List V)
 /-- a dict whose keys are ints and texts; one whose keys are tuples of ints and texts (the empty one is both) -/
 | dK (kvs:List (Key×V)) | dT (kvs:List (List Key×V)) | dP (kvs:List ((List Key×Key)×V))
 /-- a set of ints: its members, its size -/
 | set (S:Int->Bool) (n:Nat)
 /-- an instance of the class at C, its dict at dx, its attributes -/
 | ins (C dx:Addr) (fs:List (Str×V))
 /-- the dict of the instance at x -/
 | own (x:Addr)
 /-- the dict of an exception -/
 | xd (fs:List (Str×V))
 /-- a bound method, f of x -/
 | met (f x:Addr)
 /-- a range object lo, lo + 1, .. below hi -/
 | rng (lo hi:Int)
 /-- a thing that is known to the object (the script; a dict while a loop walks it): read, never written while it is so -/
 | frz (o:Obj) (u:HO)
 /-- a code object's table -/
 | tbl (ps:Array Value)
 /-- any other thing, by what is true of its one object (a def of one's own: SetO a S n := HO.ext fun h => ..) -/
 | ext (φ:Heap->Prop)
noncomputable abbrev Hp:=Addr->Option HO
noncomputable def upd (H:Hp) (a:Addr) (o:HO):Hp:=fun b=>if b=a then some o else H b
theorem ac {H:Hp} {a:Addr} {o:HO}:upd H a o a=some o:=by unfold upd;rw [if_pos rfl]
theorem ah {H:Hp} {a b:Addr} {o:HO} (h:b≠a):upd H a o b=H b:=by unfold upd;rw [if_neg h]
theorem eA {H:Hp} {a:Addr} {o u:HO}:upd (upd H a o) a u=upd H a u:=by
 funext b;unfold upd;split <;> rfl
theorem wK {H:Hp} {a b:Addr} {o u:HO} (h:H a=some o) (h':H b=some u) (d:o≠u):a≠b:=by
 intro e;subst e;rw [h]at h';exact d (Option.some.inj h')
theorem ai {H:Hp} {a b:Addr} {o:HO} (h:H a=some o) (h':H b=none):a≠b:=by
 intro e;subst e;rw [h]at h';cases h'
section
variable (P:Program) (w:World)
noncomputable def ObjOk (H:Hp) (h:Heap) (a:Addr):HO->Prop
 | .lst xs=>xs.length<=sizeLine/\ ∃ (its:List Value) (n:Nat),Vals xs its/\h.get? a=some {cls:=.type "list",data:=.seq its.toArray n}
 | .tup xs=>xs.length<=sizeLine/\ ∃ its:List Value,Vals xs its/\IsTup h a its.toArray
 | .dK kvs=>kvs.length<=sizeLine/\(a==sysModules)=false/\ ∃ vs,KV kvs vs/\h.DictOf (aU P w) a vs
 | .dT kvs=>kvs.length<=sizeLine/\(a==sysModules)=false/\ ∃ xs:List (List Key×Addr×Value),
   Paired (fun (p:List Key×V) (q:List Key×Addr×Value)=>p.1=q.1/\H q.2.1=some (.tup (p.1.map kV))/\RelV p.2 q.2.2) kvs xs/\
   ∃ o es ep,h.get? a=some o/\o.ExactDict/\o.data=.dict es ep/\es.toList=xs.map (entryOfKey (tupleKind (aU P w)))/\(xs.map (·.1)).Nodup
 | .dP kvs=>kvs.length<=sizeLine/\(a==sysModules)=false/\ ∃ xs:List ((List Key×Key)×Addr×Value),
   Paired (fun (p:(List Key×Key)×V) (q:(List Key×Key)×Addr×Value)=>p.1=q.1/\(∃ b,H q.2.1=some (.tup [.ref b,kV p.1.2])/\H b=some (.tup (p.1.1.map kV)))/\RelV p.2 q.2.2) kvs xs/\
   ∃ o es ep,h.get? a=some o/\o.ExactDict/\o.data=.dict es ep/\es.toList=xs.map (entryOfKey (eV (aU P w) (aU P w)))/\(xs.map (·.1)).Nodup
 | .set S n=>h.SetOf (intKind P w) a S n
 | .ins C dx fs=>H dx=some (.own a)/\fs.length<=1000/\dx≠a/\h.get? a=some (PySem.W.instObj C dx)/\
   ∃ mA,h.Ns1 dx mA/\(∀ f,RelO (fs.lookup f) (mA f))/\PySem.Within mA (fs.map (·.1))
 | .own _=> ∃ o,h.get? a=some o
 | .xd fs=> ∃ mA,h.Ns1 a mA/\ ∀ f,RelO (fs.lookup f) (mA f)
 | .rng lo hi=> ∃ t u v,h.get? a=some {cls:=.type "range",data:=.fields #[.int lo t,.int hi u,.int 1 v]}
 | .frz o u=>h.get? a=some o/\ObjOk H h a u
 | .tbl ps=>h.get? a=some {cls:=.none,data:=.fields ps}
 | .met f x=>h.get? a=some (PySem.W.methodObj (.ref f) (.ref x))
 | .ext φ=>φ h/\(∃ o,h.get? a=some o)/\ ∀ h1 h2:Heap,φ h1->(∀ o,h1.get? a=some o->h2.get? a=some o)->φ h2
noncomputable def HOk (H:Hp) (h:Heap):Prop:= ∀ a o,H a=some o->ObjOk P w H h a o
end
section
variable {P:Program} {w:World} {H H':Hp} {h h':Heap} {a:Addr} {o:HO}
theorem ObjOk.lt (x:ObjOk P w H h a o):a<h.objs.size:=by
 cases o with
 | lst xs=>obtain ⟨_,_,_,_,e⟩:=x;exact Heap.lt_size e
 | tup xs=>obtain ⟨_,_,_,p⟩:=x;exact p.lt
 | dK kvs=>obtain ⟨_,_,_,_,o,_,_,e,_⟩:=x;exact Heap.lt_size e
 | dT kvs=>obtain ⟨_,_,_,_,o,_,_,e,_⟩:=x;exact Heap.lt_size e
 | dP kvs=>obtain ⟨_,_,_,_,o,_,_,e,_⟩:=x;exact Heap.lt_size e
 | set S n=>obtain ⟨o,_,_,_,e,_⟩:=x;exact Heap.lt_size e
 | ins C dx fs=>obtain ⟨_,_,_,e,_⟩:=x;exact Heap.lt_size e
 | own y=>obtain ⟨_,e⟩:=x;exact Heap.lt_size e
 | xd fs=>obtain ⟨_,⟨_,_,_,e,_⟩,_⟩:=x;exact Heap.lt_size e
 | rng lo hi=>obtain ⟨_,_,_,e⟩:=x;exact Heap.lt_size e
 | frz ob u=>obtain ⟨e,_⟩:=x;exact Heap.lt_size e
 | tbl ps=>exact Heap.lt_size (show h.get? a=some _ from x)
 | met f y=>exact Heap.lt_size (show h.get? a=some _ from x)
 | ext φ=>obtain ⟨_,⟨_,e⟩,_⟩:=x;exact Heap.lt_size e
theorem Paired.mapP {α β:Type} {F G:α->β->Prop}: ∀ {l₁:List α} {l₂:List β},Paired F l₁ l₂->(∀ a b,F a b->G a b)->Paired G l₁ l₂
 | _,_,.nil,_=>.nil
 | _,_,.cons r t,f=>.cons (f _ _ r) (Paired.mapP t f)
theorem ObjOk.stay (x:ObjOk P w H h a o) (k: ∀ b u,(b=a\/H b=some (.own a))->h.get? b=some u->h'.get? b=some u)
  (ho: ∀ b,H b=some (.own a)->H' b=some (.own a)) (ht: ∀ b xs,H b=some (.tup xs)->H' b=some (.tup xs)):ObjOk P w H' h' a o:=by
 induction o with
 | lst xs=>obtain ⟨z,its,n,r,e⟩:=x;exact ⟨z,its,n,r,k _ _ (.inl rfl) e⟩
 | tup xs=>obtain ⟨z,its,r,ob,e,c⟩:=x;exact ⟨z,its,r,ob,k _ _ (.inl rfl) e,c⟩
 | dK kvs=>obtain ⟨z,y,vs,r,ob,es,ep,e,c⟩:=x;exact ⟨z,y,vs,r,ob,es,ep,k _ _ (.inl rfl) e,c⟩
 | dT kvs=>
  obtain ⟨z,y,xs,r,ob,es,ep,e,c⟩:=x
  exact ⟨z,y,xs,Paired.mapP r fun p q z=>⟨z.1,ht _ _ z.2.1,z.2.2⟩,ob,es,ep,k _ _ (.inl rfl) e,c⟩
 | dP kvs=>
  obtain ⟨z,y,xs,r,ob,es,ep,e,c⟩:=x
  exact ⟨z,y,xs,Paired.mapP r fun p q z=>⟨z.1,let ⟨b,e1,e2⟩:=z.2.1;⟨b,ht _ _ e1,ht _ _ e2⟩,z.2.2⟩,ob,es,ep,k _ _ (.inl rfl) e,c⟩
 | set S n=>obtain ⟨ob,es,ep,t,e,c⟩:=x;exact ⟨ob,es,ep,t,k _ _ (.inl rfl) e,c⟩
 | ins C dx fs=>
  obtain ⟨d,z,ne,e,mA,⟨od,es,ep,e2,c⟩,r⟩:=x
  exact ⟨ho _ d,z,ne,k _ _ (.inl rfl) e,mA,⟨od,es,ep,k _ _ (.inr d) e2,c⟩,r⟩
 | own y=>obtain ⟨ob,e⟩:=x;exact ⟨ob,k _ _ (.inl rfl) e⟩
 | xd fs=>obtain ⟨mA,⟨od,es,ep,e,c⟩,r⟩:=x;exact ⟨mA,⟨od,es,ep,k _ _ (.inl rfl) e,c⟩,r⟩
 | rng lo hi=>obtain ⟨t,u,v,e⟩:=x;exact ⟨t,u,v,k _ _ (.inl rfl) e⟩
 | frz ob u ih=>obtain ⟨e,q⟩:=x;exact ⟨k _ _ (.inl rfl) e,ih q⟩
 | tbl ps=>
  have e:h.get? a=some {cls:=.none,data:=.fields ps}:=x
  show h'.get? a=some {cls:=.none,data:=.fields ps}
  exact k a _ (.inl rfl) e
 | met f y=>
  have e:h.get? a=some (PySem.W.methodObj (.ref f) (.ref y)):=x
  show h'.get? a=some (PySem.W.methodObj (.ref f) (.ref y))
  exact k a _ (.inl rfl) e
 | ext φ=>obtain ⟨p,⟨o,e⟩,st⟩:=x;exact ⟨st _ _ p fun o q=>k _ _ (.inl rfl) q,⟨o,k _ _ (.inl rfl) e⟩,st⟩
theorem HOk.lt (x:HOk P w H h) (e:H a=some o):a<h.objs.size:=(x a o e).lt
theorem HOk.fresh (x:HOk P w H h) (e:h.objs.size<=a):H a=none:=by
 cases q:H a with
 | none=>rfl
 | some u=>exact absurd (Nat.lt_of_lt_of_le (x.lt q) e) (Nat.lt_irrefl _)
theorem HOk.kept (x:HOk P w H h) (k: ∀ b u,h.get? b=some u->h'.get? b=some u):HOk P w H h':=fun a o e=>
 (x a o e).stay (fun b u _ q=>k b u q) (fun _ q=>q) fun _ _ q=>q
theorem HOk.laid (x:HOk P w H h) (k: ∀ b u,h.get? b=some u->h'.get? b=some u) (hp:h.objs.size<=a) (new:ObjOk P w (upd H a o) h' a o):HOk P w (upd H a o) h':=fun b u e=>by
 have hn:=x.fresh hp
 by_cases hb:b=a
 ·subst hb;rw [ac]at e;cases e;exact new
 ·rw [ah hb]at e
  exact (x b u e).stay (fun c v _ q=>k c v q) (fun c q=>by rw [ah (ai q hn)];exact q) fun c xs q=>by rw [ah (ai q hn)];exact q
end
noncomputable def Rd (H:Hp) (a:Addr) (u:HO):Prop:=H a=some u\/ ∃ o,H a=some (.frz o u)
theorem Rd.ok {P:Program} {w:World} {H:Hp} {h:Heap} {a:Addr} {u:HO} (r:Rd H a u) (x:HOk P w H h):ObjOk P w H h a u:=by
 rcases r with r | ⟨o,r⟩
 ·exact x a u r
 ·obtain ⟨_,q⟩:=x a _ r
  exact q
noncomputable def Mut:Option HO->Prop
 | some (.lst _)=>True
 | some (.dK _)=>True
 | some (.dT _)=>True
 | some (.dP _)=>True
 | some (.set _ _)=>True
 | some (.ins _ _ _)=>True
 | some (.ext _)=>True
 | _=>False
section
variable {P:Program} {w:World} {H:Hp} {h h':Heap} {x e:Addr} {o':HO}
theorem HOk.write (ok:HOk P w H h) (mu:Mut (H x)) (he:e=x\/H e=some (.own x)) (k: ∀ b u,b≠e->h.get? b=some u->h'.get? b=some u) (heo: ∃ u,h'.get? e=some u)
  (new:ObjOk P w (upd H x o') h' x o'):HOk P w (upd H x o') h':=fun b u q=>by
 have nown: ∀ c y,H c=some (.own y)->c≠x:=fun c y r z=>by subst z;rw [r]at mu;exact mu
 have ntup: ∀ c xs,H c=some (.tup xs)->c≠x:=fun c xs r z=>by subst z;rw [r]at mu;exact mu
 by_cases hb:b=x
 ·subst hb;rw [ac]at q;cases q;exact new
 ·rw [ah hb]at q
  by_cases hbe:b=e
  ·have q':H b=some (.own x):=by
    rcases he with z | z
    ·exact absurd (hbe.trans z) hb
    ·rw [hbe];exact z
   rw [q]at q';cases q'
   obtain ⟨v,hv⟩:=heo
   exact ⟨v,by rw [hbe];exact hv⟩
  ·refine (ok b u q).stay (fun c v hc r=>k c v ?_ r) (fun c r=>by rw [ah (nown c b r)];exact r) fun c xs r=>by rw [ah (ntup c xs r)];exact r
   rcases hc with rfl | hc
   ·exact hbe
   ·rintro rfl
    rcases he with z | z
    ·exact nown c b hc z
    ·rw [hc]at z;cases z;exact hb rfl
end
structure Un (fs ex:List Addr) (H H':Hp) (h h':Heap):Prop where
 keep: ∀ b o,h.get? b=some o->H b=none->b∉fs->b∉ex->h'.get? b=some o
 slot: ∀ b o,h.get? b=some o->H b=none->b∈fs->b∉ex-> ∃ sl,h'.get? b=some {o with slots:=sl}
 free: ∀ b o,h.get? b=some o->H b=none->b∉ex->H' b=none
 there: ∀ b o,h.get? b=some o->b∉ex-> ∃ o',h'.get? b=some o'
 tups: ∀ b xs,H b=some (.tup xs)->H' b=some (.tup xs)
 frzs: ∀ b o u,H b=some (.frz o u)->H' b=some (.frz o u)
 tbls: ∀ b ps,H b=some (.tbl ps)-> ∃ more,H' b=some (.tbl (ps++more))
section
variable {fs fs' ex ex':List Addr} {H H1 H2:Hp} {h h1 h2 h':Heap} {a x e:Addr} {o:HO}
theorem Un.any (u:Un fs ex H H1 h h1) {b:Addr} {ob:Obj} (q:h.get? b=some ob) (n:H b=none) (hx:b∉ex): ∃ sl,h1.get? b=some {ob with slots:=sl}:=by
 by_cases hb:b∈fs
 ·exact u.slot b ob q n hb hx
 ·exact ⟨ob.slots,u.keep b ob q n hb hx⟩
theorem Un.kept (k: ∀ b u,h.get? b=some u->h'.get? b=some u):Un fs ex H H h h':=
 ⟨fun b ob q _ _ _=>k b ob q,fun b ob q _ _ _=>⟨ob.slots,k b ob q⟩,fun _ _ _ n _=>n,fun b ob q _=>⟨ob,k b ob q⟩,fun _ _ q=>q,fun _ _ _ q=>q,fun _ ps q=>⟨#[],by rw [q];simp⟩⟩
theorem Un.refl:Un fs ex H H h h:=Un.kept fun _ _ q=>q
theorem Un.laid (k: ∀ b u,h.get? b=some u->h'.get? b=some u) (hp:h.objs.size<=a) (hn:H a=none):Un fs ex H (upd H a o) h h' where
 keep:=fun b u q _ _ _=>k b u q
 slot:=fun b u q _ _ _=>⟨u.slots,k b u q⟩
 free:=fun b u q n _=>by rw [ah (Nat.ne_of_lt (Nat.lt_of_lt_of_le (Heap.lt_size q) hp))];exact n
 there:=fun b u q _=>⟨u,k b u q⟩
 tups:=fun b xs q=>by rw [ah (ai q hn)];exact q
 frzs:=fun b u xs q=>by rw [ah (ai q hn)];exact q
 tbls:=fun b ps q=>⟨#[],by rw [ah (ai q hn),q];simp⟩
theorem Un.write (mu:Mut (H x)) (he:e=x\/H e=some (.own x)) (k: ∀ b u,b≠e->h.get? b=some u->h'.get? b=some u) (heo: ∃ u,h'.get? e=some u):Un fs ex H (upd H x o) h h':=by
 have hx: ∀ b,H b=none->b≠x:=fun b n z=>by subst z;rw [n]at mu;exact mu
 have hb: ∀ b,H b=none->b≠e:=fun b n z=>by
  subst z
  rcases he with r | r
  ·exact hx b n r
  ·rw [n]at r;cases r
 have hm: ∀ b u,H b=some u-> ¬ Mut (some u)->b≠x:=fun b u q nm z=>by subst z;rw [q]at mu;exact nm mu
 refine ⟨fun b u q n _ _=>k b u (hb b n) q,fun b u q n _ _=>⟨u.slots,k b u (hb b n) q⟩,fun b u q n _=>by rw [ah (hx b n)];exact n,fun b u q _=>?_,
  fun b xs q=>by rw [ah (hm b _ q fun z=>z)];exact q,fun b u xs q=>by rw [ah (hm b _ q fun z=>z)];exact q,fun b ps q=>⟨#[],by rw [ah (hm b _ q fun z=>z),q];simp⟩⟩
 by_cases hbe:b=e
 ·subst hbe;exact heo
 ·exact ⟨u,k b u hbe q⟩
end
noncomputable def trk (h:Heap) (H:Hp):List Addr:=(List.range h.objs.size).filter fun a=>(H a).isSome
noncomputable def nr (h:Heap) (H:Hp):Heap:=PySem.W.hideAll h (trk h H)
theorem sw (h:Heap) (H:Hp):(nr h H).objs.size=h.objs.size:=PySem.W.hideAll_size _ _
theorem uT {h:Heap} {H:Hp} {b:Addr} {o:Obj} (e:h.get? b=some o) (n:H b=none):(nr h H).get? b=some o:=
 PySem.W.hideAll_get _ e fun hm=>by
  have q:(H b).isSome=true:=(List.mem_filter.mp hm).2
  rw [n]at q;simp at q
theorem vO {h:Heap} {H:Hp} {b:Addr} {o:Obj} (e:(nr h H).get? b=some o):h.get? b=some o/\H b=none:=by
 have e':h.get? b=some o:=PySem.W.of_hideAll (trk h H) e
 refine ⟨e',?_⟩
 cases q:H b with
 | none=>rfl
 | some x=>
  have hm:b∈trk h H:=List.mem_filter.mpr ⟨List.mem_range.mpr (Heap.lt_size e'),by simp [q]⟩
  have z:(nr h H).get? b=none:=PySem.W.hideAll_none (trk h H) hm
  rw [z]at e;cases e
structure Mod (K:PySem.W.Frag) (mg:Str->Option Value) (base:Heap):Prop where
 kin:K.In base
 glob:base.Ns mainGlobals mg
 blt: ∃ mb,base.Ns builtinsNs mb/\ ∀ x:Str,x≠"__name__"->mb x=bootBuiltins x
 nolimit:base.NoLimit
structure Cx where
 prog:Program
 w:World
 K:PySem.W.Frag
 mg:Str->Option Value
 base:Heap
 A:Around
 N:List Str
 s₀:Shared
 H₀:Hp
 env:Env
 outer:List Env
 stack:List Env
 ex:List Addr
 fn:Str->Bool
 calm:Bool
 pn:List (Addr×Obj)
 xe:Value->Shared->Prop
noncomputable def frs (l:List Env):List Addr:=l.filterMap (·.frame)
noncomputable abbrev Cx.fs (X:Cx):List Addr:=frs X.outer
noncomputable def Vis (sc:Scope) (x:Str):Prop:=sc.names.lookup x=some .local\/sc.names.lookup x=some .cell\/sc.names.lookup x=some .free
noncomputable def Loc (sc:Scope) (x:Str):Prop:=sc.names.lookup x=some .local\/sc.names.lookup x=some .cell
noncomputable def zM (env:Env) (h:Heap) (m:Str->Option Value) (x:Str) (u:Value):Prop:=
 (env.kindOf x=some .local/\m x=some u)\/((env.kindOf x=some .cell\/env.kindOf x=some .free)/\ ∃ c,env.cells.lookup x=some c/\h.IsCell c (some u))
structure Cx.Ok (X:Cx):Prop where
 mod:Mod X.K X.mg X.base
 kind:X.env.scope.kind=.function
 glob:X.env.globals=mainGlobals
 blt:X.env.builtins=builtinsNs
 above:X.s₀.heap.objs.size<=X.env.locals
 inj: ∀ x y c,X.env.cells.lookup x=some c->X.env.cells.lookup y=some c->x=y
 has: ∀ x,(X.env.kindOf x=some .cell\/X.env.kindOf x=some .free)-> ∃ c,X.env.cells.lookup x=some c
 cab: ∀ x c,X.fn x=true->X.env.cells.lookup x=some c->X.s₀.heap.objs.size<=c
 hd:X.calm=true->X.A.handled=none
 frames:X.A.frames=some X.stack
 stk:X.stack=X.outer\/(X.stack=X.env::X.outer/\X.env.frame=some X.env.locals)
 exf: ∀ b∈X.ex,b≠X.env.locals/\ ∀ x c,X.env.cells.lookup x=some c->c≠b
 bs: ∀ b o,X.base.get? b=some o->X.s₀.heap.get? b=some o/\X.H₀ b=none
 bsz:X.base.objs.size<=X.s₀.heap.objs.size
 noex: ∀ b o,X.base.get? b=some o->b∉X.ex
 exfs: ∀ b∈X.ex,b∉X.fs
 funs:X.s₀.heap.FunFrames X.base X.outer
 frf: ∀ b∈X.fs,X.H₀ b=none
structure Inv (X:Cx) (pins:List (Addr×Obj)) (σ:List (Option V)) (H:Hp) (s:Shared):Prop where
 ok:X.Ok
 os:s.os=X.s₀.os
 bare:AllBare s.gens
 base:Un X.fs X.ex X.H₀ H X.s₀.heap s.heap
 loc: ∃ m,s.heap.Ns X.env.locals m/\ ∀ (i:Nat) (x:Str) (v:V),X.N[i]? =some x->σ[i]? =some (some v)->Vis X.env.scope x-> ∃ u,RelV v u/\zM X.env s.heap m x u
 cell: ∀ x c,X.env.cells.lookup x=some c-> ∃ v,s.heap.IsCell c v
 free:H X.env.locals=none
 freeC: ∀ x c,X.env.cells.lookup x=some c->H c=none
 pin: ∀ p∈X.pn++pins,s.heap.get? p.1=some p.2/\H p.1=none/\p.1≠X.env.locals/\p.1∉X.fs/\ ∀ v,p.2.data≠ .cell v
 hok:HOk X.prog X.w H s.heap
 len:σ.length=X.N.length
section
variable {X:Cx} {pins:List (Addr×Obj)} {σ:List (Option V)} {H H':Hp} {s:Shared} {h':Heap}
theorem Cx.Ok.nofr (ok:X.Ok) {b:Addr} {o:Obj} (e:X.base.get? b=some o):b∉X.fs:=fun hb=>by
 have:=(ok.funs.mem hb).1
 rw [e]at this;cases this
theorem Inv.bs (I:Inv X pins σ H s): ∀ b o,X.base.get? b=some o->s.heap.get? b=some o/\H b=none:=fun b o e=>
 ⟨I.base.keep b o (I.ok.bs b o e).1 (I.ok.bs b o e).2 (I.ok.nofr e) (I.ok.noex b o e),I.base.free b o (I.ok.bs b o e).1 (I.ok.bs b o e).2 (I.ok.noex b o e)⟩
theorem Inv.bk (I:Inv X pins σ H s): ∀ b o,X.base.get? b=some o->s.heap.get? b=some o:=fun b o e=>(I.bs b o e).1
theorem Inv.mod (I:Inv X pins σ H s):Mod X.K X.mg X.base:=I.ok.mod
theorem Inv.kIn (I:Inv X pins σ H s):X.K.In s.heap:=I.ok.mod.kin.keeps I.bk
theorem Inv.lt (I:Inv X pins σ H s):X.env.locals<s.heap.objs.size:=let ⟨_,hn,_⟩:=I.loc;hn.lt
theorem Inv.sz (I:Inv X pins σ H s):X.s₀.heap.objs.size<=s.heap.objs.size:=Nat.le_trans I.ok.above (Nat.le_of_lt I.lt)
theorem Inv.nofs (I:Inv X pins σ H s) {a:Addr} (h:s.heap.objs.size<=a):a∉X.fs:=fun hb=>by
 obtain ⟨_,o,ho,_⟩:=I.ok.funs.mem hb
 exact absurd (Nat.lt_of_lt_of_le (Heap.lt_size ho) (Nat.le_trans I.sz h)) (Nat.lt_irrefl _)
theorem Inv.cne (I:Inv X pins σ H s): ∀ x c,X.env.cells.lookup x=some c->c≠X.env.locals:=fun x c e z=>by
 obtain ⟨v,o,ho,hd⟩:=I.cell x c e
 obtain ⟨m,⟨o',es,ep,ho',hd',_⟩,_⟩:=I.loc
 rw [z,ho']at ho;cases ho;rw [hd']at hd;cases hd
theorem Inv.funs (I:Inv X pins σ H s):s.heap.FunFrames X.base X.outer:=by
 have all: ∀ (l:List Env),(∀ b∈frs l,b∈X.fs)->X.s₀.heap.FunFrames X.base l->s.heap.FunFrames X.base l:=by
  intro l
  induction l with
  | nil=>intro _ _;trivial
  | cons env r ih=>
   intro hs hl
   obtain ⟨hk,⟨L,o,hf,hn,ho,hd⟩,hr⟩:=hl
   have hL:L∈X.fs:=hs L (by unfold frs;rw [List.filterMap_cons,hf];exact List.mem_cons_self)
   obtain ⟨sl,e⟩:=I.base.slot L o ho (I.ok.frf L hL) hL fun z=>I.ok.exfs L z hL
   exact ⟨hk,⟨L,_,hf,hn,e,hd⟩,ih (fun b hb=>hs b (by unfold frs;rw [List.filterMap_cons,hf];exact List.mem_cons_of_mem _ hb)) hr⟩
 exact all X.outer (fun _ hb=>hb) I.ok.funs
theorem Inv.stack (I:Inv X pins σ H s):s.heap.FunFrames X.base X.stack:=by
 rcases I.ok.stk with e | ⟨e,hf⟩
 ·rw [e];exact I.funs
 ·rw [e]
  obtain ⟨m,hn,_⟩:=I.loc
  refine .cons (by rw [I.ok.kind];decide) hf hn ?_ I.funs
  exact Heap.get?_none_of_le (Nat.le_trans I.ok.bsz I.ok.above)
theorem Inv.stkSub (I:Inv X pins σ H s): ∀ b∈frs X.stack,b∈X.env.locals::X.fs:=fun b hb=>by
 rcases I.ok.stk with e | ⟨e,hf⟩
 ·rw [e]at hb;exact List.mem_cons_of_mem _ hb
 ·rw [e]at hb
  unfold frs at hb
  rw [List.filterMap_cons,hf]at hb
  exact hb
theorem Inv.stkFree (I:Inv X pins σ H s): ∀ b∈frs X.stack,H b=none:=fun b hb=>by
 rcases List.mem_cons.mp (I.stkSub b hb)with e | hb
 ·rw [e];exact I.free
 ·obtain ⟨_,o,ho,_⟩:=I.ok.funs.mem hb
  exact I.base.free b o ho (I.ok.frf b hb) fun z=>I.ok.exfs b z hb
theorem Inv.step {g':Array GenState} {t':Nat} {d':Drawn} {ch:List Addr} (I:Inv X pins σ H s)
  (hch: ∀ b∈ch,(b∈X.ex\/X.s₀.heap.objs.size<=b)/\b≠X.env.locals/\(∀ x c,X.env.cells.lookup x=some c->c≠b)/\ ∀ p∈X.pn++pins,p.1≠b)
  (keep: ∀ b o,b≠X.env.locals->b∉X.fs->b∉ch->s.heap.get? b=some o->H b=none->h'.get? b=some o)
  (slot: ∀ b o,b≠X.env.locals->b∈X.fs->b∉ch->s.heap.get? b=some o->H b=none-> ∃ sl,h'.get? b=some {o with slots:=sl}) (free: ∀ b o,b∉ch->s.heap.get? b=some o->H b=none->H' b=none)
  (there: ∀ b o,b∉ch->s.heap.get? b=some o-> ∃ o',h'.get? b=some o')
  (tups: ∀ b xs,H b=some (.tup xs)->H' b=some (.tup xs)) (frzs: ∀ b o u,H b=some (.frz o u)->H' b=some (.frz o u)) (tbls: ∀ b ps,H b=some (.tbl ps)-> ∃ more,H' b=some (.tbl (ps++more)))
  (ns: ∀ m,s.heap.Ns X.env.locals m->h'.Ns X.env.locals m) (hok:HOk X.prog X.w H' h') (hg:AllBare g'):
  Inv X pins σ H' {s with heap:=h',gens:=g',drawn:=d',toks:=t'}:=by
 have neL: ∀ b o,X.s₀.heap.get? b=some o->b≠X.env.locals:=fun b o e=>Nat.ne_of_lt (Nat.lt_of_lt_of_le (Heap.lt_size e) I.ok.above)
 have neC: ∀ b o,X.s₀.heap.get? b=some o->b∉X.ex->b∉ch:=fun b o e hx hb=>by
  rcases (hch b hb).1 with z | z
  ·exact hx z
  ·exact absurd (Nat.lt_of_lt_of_le (Heap.lt_size e) z) (Nat.lt_irrefl _)
 have cellK: ∀ x c,X.env.cells.lookup x=some c-> ∀ v,s.heap.IsCell c v->h'.IsCell c v:=fun x c e v ⟨o,ho,hd⟩=>by
  have nch:c∉ch:=fun z=>(hch c z).2.2.1 x c e rfl
  by_cases hc:c∈X.fs
  ·obtain ⟨sl,q⟩:=slot c o (I.cne x c e) hc nch ho (I.freeC x c e)
   exact ⟨_,q,hd⟩
  ·exact ⟨o,keep c o (I.cne x c e) hc nch ho (I.freeC x c e),hd⟩
 refine ⟨I.ok,I.os,hg,⟨fun b o e n hb hx=>?_,fun b o e n hb hx=>?_,fun b o e n hx=>?_,fun b o e hx=>?_,fun b xs e=>tups b xs (I.base.tups b xs e),fun b o xs e=>frzs b o xs (I.base.frzs b o xs e),fun b ps e=>?_⟩,?_,fun x c e=>?_,?_,fun x c e=>?_,fun p hp=>?_,hok,I.len⟩
 ·exact keep b o (neL b o e) hb (neC b o e hx) (I.base.keep b o e n hb hx) (I.base.free b o e n hx)
 ·obtain ⟨sl,e1⟩:=I.base.slot b o e n hb hx
  obtain ⟨sl',e2⟩:=slot b _ (neL b o e) hb (neC b o e hx) e1 (I.base.free b o e n hx)
  exact ⟨sl',e2⟩
 ·obtain ⟨o',e1⟩:=I.base.there b o e hx
  exact free b o' (neC b o e hx) e1 (I.base.free b o e n hx)
 ·obtain ⟨o',e1⟩:=I.base.there b o e hx
  exact there b o' (neC b o e hx) e1
 ·obtain ⟨m1,e1⟩:=I.base.tbls b ps e
  obtain ⟨m2,e2⟩:=tbls b _ e1
  exact ⟨m1++m2,by rw [e2,Array.append_assoc]⟩
 ·obtain ⟨m,hn,hl⟩:=I.loc
  refine ⟨m,ns m hn,fun i x v e1 e2 e3=>?_⟩
  obtain ⟨u,r,l⟩:=hl i x v e1 e2 e3
  refine ⟨u,r,?_⟩
  rcases l with l | ⟨k,c,e,z⟩
  ·exact .inl l
  ·exact .inr ⟨k,c,e,cellK x c e _ z⟩
 ·obtain ⟨v,z⟩:=I.cell x c e
  exact ⟨v,cellK x c e v z⟩
 ·obtain ⟨m,⟨o,_,_,ho,_⟩,_⟩:=I.loc
  exact free _ o (fun z=>(hch _ z).2.1 rfl) ho I.free
 ·obtain ⟨v,o,ho,hd⟩:=I.cell x c e
  exact free c o (fun z=>(hch c z).2.2.1 x c e rfl) ho (I.freeC x c e)
 ·obtain ⟨e,n,ne,nf,d⟩:=I.pin p hp
  have nch:p.1∉ch:=fun z=>(hch p.1 z).2.2.2 p hp rfl
  exact ⟨keep p.1 p.2 ne nf nch e n,free p.1 p.2 nch e n,ne,nf,d⟩
theorem Inv.un {t':Nat} (I:Inv X pins σ H s) (u:Un X.fs [] H H' s.heap h') (hok:HOk X.prog X.w H' h'):Inv X pins σ H' {s with heap:=h',toks:=t'}:=by
 obtain ⟨m,⟨o,es,ep,ho,r⟩,_⟩:=id I.loc
 obtain ⟨sl,hL⟩:=u.any ho I.free (by simp)
 exact I.step (g':=s.gens) (d':=s.drawn) (ch:=[]) (fun _ z=>nomatch z) (fun b o _ hb _ e n=>u.keep b o e n hb (by simp)) (fun b o _ hb _ e n=>u.slot b o e n hb (by simp)) (fun b o _ e n=>u.free b o e n (by simp)) (fun b o _ e=>u.there b o e (by simp)) u.tups u.frzs u.tbls (fun m' hm=>by
  obtain ⟨o',es',ep',ho',r'⟩:=hm
  rw [ho]at ho';cases ho'
  exact ⟨_,es',ep',hL,r'⟩) hok I.bare
theorem Inv.call {g':Array GenState} {t':Nat} {d':Drawn} {ch:List Addr} (I:Inv X pins σ H s) (u:Un (frs X.stack) ch H H' s.heap h') (hok:HOk X.prog X.w H' h') (hg:AllBare g')
  (hch: ∀ b∈ch,(b∈X.ex\/X.s₀.heap.objs.size<=b)/\b≠X.env.locals/\(∀ x c,X.env.cells.lookup x=some c->c≠b)/\ ∀ p∈X.pn++pins,p.1≠b):
  Inv X pins σ H' {s with heap:=h',gens:=g',drawn:=d',toks:=t'}:=by
 obtain ⟨m,⟨o,es,ep,ho,r⟩,_⟩:=id I.loc
 obtain ⟨sl,hL⟩:=u.any ho I.free fun z=>(hch _ z).2.1 rfl
 exact I.step (ch:=ch) hch (fun b o hL hb hc e n=>u.keep b o e n (fun z=>(List.mem_cons.mp (I.stkSub b z)).elim hL hb) hc) (fun b o _ _ hc e n=>u.any e n hc) (fun b o hc e n=>u.free b o e n hc) (fun b o hc e=>u.there b o e hc) u.tups u.frzs u.tbls (fun m' hm=>by
  obtain ⟨o',es',ep',ho',r'⟩:=hm
  rw [ho]at ho';cases ho'
  exact ⟨_,es',ep',hL,r'⟩) hok hg
theorem Inv.turned {t':Nat} {it:Addr} (I:Inv X pins σ H s) (k: ∀ b o,b≠it->s.heap.get? b=some o->h'.get? b=some o) (hn:H it=none) (hL:it≠X.env.locals)
  (h1:it∈X.ex\/X.s₀.heap.objs.size<=it) (h2: ∀ x c,X.env.cells.lookup x=some c->c≠it) (h3: ∀ p∈X.pn++pins,p.1≠it):Inv X pins σ H {s with heap:=h',toks:=t'}:=by
 have nit: ∀ b u,H b=some u->b≠it:=fun b u e z=>by rw [z,hn]at e;cases e
 refine I.step (g':=s.gens) (d':=s.drawn) (ch:=[it]) (fun b hb=>?_) (fun b o _ _ hc e _=>k b o (fun z=>hc (by simp [z])) e) (fun b o _ _ hc e _=>⟨o.slots,k b o (fun z=>hc (by simp [z])) e⟩) (fun _ _ _ _ n=>n)
  (fun b o hc e=>⟨o,k b o (fun z=>hc (by simp [z])) e⟩) (fun _ _ e=>e) (fun _ _ _ e=>e) (fun b ps e=>⟨#[],by rw [e];simp⟩) (fun m hm=>?_) (fun b u e=>?_) I.bare
 ·have e:b=it:=by simpa using hb
  subst e
  exact ⟨h1,hL,h2,h3⟩
 ·obtain ⟨o,es,ep,ho,r⟩:=hm
  exact ⟨o,es,ep,k _ o (Ne.symm hL) ho,r⟩
 ·refine (I.hok b u e).stay (fun c v hc q=>k c v ?_ q) (fun _ q=>q) fun _ _ q=>q
  rcases hc with z | z
  ·rw [z];exact nit b u e
  ·exact nit c _ z
theorem Inv.tok (I:Inv X pins σ H s) (t:Nat):Inv X pins σ H {s with toks:=t}:=I.un (h':=s.heap) (t':=t) Un.refl I.hok
theorem Inv.kept {t':Nat} (I:Inv X pins σ H s) (k: ∀ b u,s.heap.get? b=some u->h'.get? b=some u):Inv X pins σ H {s with heap:=h',toks:=t'}:=I.un (Un.kept k) (I.hok.kept k)
theorem Inv.laid {a:Addr} {o:HO} {t':Nat} (I:Inv X pins σ H s) (k: ∀ b u,s.heap.get? b=some u->h'.get? b=some u) (hp:s.heap.objs.size<=a) (new:ObjOk X.prog X.w (upd H a o) h' a o):
  Inv X pins σ (upd H a o) {s with heap:=h',toks:=t'}:=I.un (Un.laid k hp (I.hok.fresh hp)) (I.hok.laid k hp new)
theorem Inv.write {x e:Addr} {o:HO} {t':Nat} (I:Inv X pins σ H s) (mu:Mut (H x)) (he:e=x\/H e=some (.own x)) (k: ∀ b u,b≠e->s.heap.get? b=some u->h'.get? b=some u) (heo: ∃ u,h'.get? e=some u)
  (new:ObjOk X.prog X.w (upd H x o) h' x o):Inv X pins σ (upd H x o) {s with heap:=h',toks:=t'}:=I.un (Un.write mu he k heo) (I.hok.write mu he k heo new)
theorem Inv.pins_of {pins':List (Addr×Obj)} (I:Inv X pins σ H s) (h: ∀ p∈pins',s.heap.get? p.1=some p.2/\H p.1=none/\p.1≠X.env.locals/\p.1∉X.fs/\ ∀ v,p.2.data≠ .cell v):Inv X pins' σ H s:=
 ⟨I.ok,I.os,I.bare,I.base,I.loc,I.cell,I.free,I.freeC,fun p hp=>(List.mem_append.mp hp).elim (fun z=>I.pin p (List.mem_append_left _ z)) (h p),I.hok,I.len⟩
theorem eW {N:List Str} (hN:N.Nodup) {i j:Nat} {x:Str} (a:N[i]? =some x) (b:N[j]? =some x):i=j:=by
 obtain ⟨h1,e1⟩:=List.getElem?_eq_some_iff.mp a
 obtain ⟨h2,e2⟩:=List.getElem?_eq_some_iff.mp b
 exact (List.getElem_inj hN).mp (e1.trans e2.symm)
theorem ge {M:Model} {A:Around} {E:Value->Shared->Prop} {i:Nat} {x:Str} {v:V} {u:Value} {Q:Unit->Shared->Prop} (I:Inv X pins σ H s) (hN:X.N.Nodup) (hi:X.N[i]? =some x) (hx:Loc X.env.scope x) (r:RelV v u)
  (h: ∀ s',Inv X pins (σ.set i (some v)) H s'->(∃ a,Heap.SameBut a s.heap s'.heap/\(a=X.env.locals\/X.env.cells.lookup x=some a))->Q () s') (hf:X.fn x=true\/X.env.scope.names.lookup x=some .local:=by first | exact .inl rfl | exact .inr rfl | assumption):wpAny M A (storeName X.env x u) Q E s:=by
 obtain ⟨m,hn,hl⟩:=id I.loc
 have hcls:(X.env.scope.kind== .class||(X.env.scope.kind== .module&&X.env.locals !=X.env.globals))=false:=by rw [I.ok.kind];rfl
 have hiσ:i<σ.length:=by rw [I.len];exact (List.getElem?_eq_some_iff.mp hi).1
 have cne:=I.cne
 have tracked: ∀ {a:Addr} {h':Heap},(∃ o,s.heap.get? a=some o/\H a=none)->Heap.SameBut a s.heap h'->HOk X.prog X.w H h':=fun {a h'} ha hs b ob e=>by
  obtain ⟨_,_,hfree⟩:=ha
  refine (I.hok b ob e).stay (fun c w' hc q=>(hs.2 c ?_).trans q) (fun _ q=>q) fun _ _ q=>q
  rintro rfl
  rcases hc with rfl | hc
  ·rw [hfree]at e;cases e
  ·rw [hfree]at hc;cases hc
 rcases hx with hk | hk
 ·refine wpAny_storeName_local hk hn (fun h' hn' hs=>?_) hcls
  obtain ⟨oL,_,_,hoL,_⟩:=id hn
  refine h _ ⟨I.ok,I.os,I.bare,⟨fun b o e n hb hx=>?_,fun b o e n hb hx=>?_,I.base.free,fun b o e hx=>?_,I.base.tups,I.base.frzs,I.base.tbls⟩,⟨_,hn',fun j y v' e1 e2 e3=>?_⟩,fun y c e=>?_,I.free,I.freeC,fun p hp=>?_,tracked ⟨oL,hoL,I.free⟩ hs,by simpa using I.len⟩ ⟨_,hs,.inl rfl⟩
  ·exact (hs.2 b (Nat.ne_of_lt (Nat.lt_of_lt_of_le (Heap.lt_size e) I.ok.above))).trans (I.base.keep b o e n hb hx)
  ·obtain ⟨sl,e1⟩:=I.base.slot b o e n hb hx
   exact ⟨sl,(hs.2 b (Nat.ne_of_lt (Nat.lt_of_lt_of_le (Heap.lt_size e) I.ok.above))).trans e1⟩
  ·obtain ⟨o',e1⟩:=I.base.there b o e hx
   exact ⟨o',(hs.2 b (Nat.ne_of_lt (Nat.lt_of_lt_of_le (Heap.lt_size e) I.ok.above))).trans e1⟩
  ·by_cases hj:j=i
   ·subst hj
    rw [hi]at e1;cases e1
    rw [List.getElem?_set_self hiσ]at e2
    cases e2
    exact ⟨u,r,.inl ⟨hk,by simp⟩⟩
   ·rw [List.getElem?_set_ne (Ne.symm hj)]at e2
    obtain ⟨u',r',q⟩:=hl j y v' e1 e2 e3
    refine ⟨u',r',?_⟩
    rcases q with ⟨k,e⟩ | ⟨k,c,e,z⟩
    ·refine .inl ⟨k,?_⟩
     have:y≠x:=fun e=>hj (eW hN e1 (e▸hi))
     simp [this,e]
    ·exact .inr ⟨k,c,e,z.sameBut hs (cne y c e)⟩
  ·obtain ⟨w',z⟩:=I.cell y c e
   exact ⟨w',z.sameBut hs (cne y c e)⟩
  ·obtain ⟨e,n,ne,nf,d⟩:=I.pin p hp
   exact ⟨(hs.2 p.1 ne).trans e,n,ne,nf,d⟩
 ·have hfn:X.fn x=true:=by
   rcases hf with z | z
   ·exact z
   ·rw [z]at hk;cases hk
  obtain ⟨c,hc⟩:=I.ok.has x (.inl hk)
  obtain ⟨w',z⟩:=I.cell x c hc
  refine wpAny_storeName_cell I.ok.kind hk hc z (fun h' hc' hs=>?_)
  obtain ⟨oc,hoc,hocd⟩:=id z
  refine h {s with heap:=h'} ⟨I.ok,I.os,I.bare,⟨fun b o e n hb hx=>?_,fun b o e n hb hx=>?_,I.base.free,fun b o e hx=>?_,I.base.tups,I.base.frzs,I.base.tbls⟩,⟨m,hn.sameBut hs (Ne.symm (cne x c hc)),fun j y v' e1 e2 e3=>?_⟩,fun y c' e=>?_,I.free,I.freeC,fun p hp=>?_,tracked ⟨oc,hoc,I.freeC x c hc⟩ hs,by simpa using I.len⟩ ⟨c,hs,.inr hc⟩
  ·exact (hs.2 b (Nat.ne_of_lt (Nat.lt_of_lt_of_le (Heap.lt_size e) (I.ok.cab x c hfn hc)))).trans (I.base.keep b o e n hb hx)
  ·obtain ⟨sl,e1⟩:=I.base.slot b o e n hb hx
   exact ⟨sl,(hs.2 b (Nat.ne_of_lt (Nat.lt_of_lt_of_le (Heap.lt_size e) (I.ok.cab x c hfn hc)))).trans e1⟩
  ·obtain ⟨o',e1⟩:=I.base.there b o e hx
   exact ⟨o',(hs.2 b (Nat.ne_of_lt (Nat.lt_of_lt_of_le (Heap.lt_size e) (I.ok.cab x c hfn hc)))).trans e1⟩
  ·by_cases hj:j=i
   ·subst hj
    rw [hi]at e1;cases e1
    rw [List.getElem?_set_self hiσ]at e2
    cases e2
    exact ⟨u,r,.inr ⟨.inl hk,c,hc,hc'⟩⟩
   ·rw [List.getElem?_set_ne (Ne.symm hj)]at e2
    obtain ⟨u',r',q⟩:=hl j y v' e1 e2 e3
    refine ⟨u',r',?_⟩
    rcases q with q | ⟨k,c',e,z'⟩
    ·exact .inl q
    ·refine .inr ⟨k,c',e,z'.sameBut hs ?_⟩
     rintro rfl
     exact hj (eW hN e1 (I.ok.inj _ _ _ e hc▸hi))
  ·by_cases hcc:c'=c
   ·subst hcc;exact ⟨_,hc'⟩
   ·obtain ⟨w2,z2⟩:=I.cell y c' e
    exact ⟨w2,z2.sameBut hs hcc⟩
  ·obtain ⟨e,n,ne,nf,d⟩:=I.pin p hp
   refine ⟨(hs.2 p.1 ?_).trans e,n,ne,nf,d⟩
   intro q
   rw [q,hoc]at e
   have q':oc=p.2:=Option.some.inj e
   exact d w' (by rw [<- q'];exact hocd)
theorem hJ {M:Model} {A:Around} {E:Value->Shared->Prop} {i:Nat} {x:Str} {v:V} {u:Value} {Q:Unit->Shared->Prop} (I:Inv X pins σ H s) (hN:X.N.Nodup) (hi:X.N[i]? =some x) (hx:Loc X.env.scope x) (r:RelV v u)
  (h: ∀ s',Inv X pins (σ.set i (some v)) H s'->Q () s') (hf:X.fn x=true\/X.env.scope.names.lookup x=some .local:=by first | exact .inl rfl | exact .inr rfl | assumption):wpAny M A (storeName X.env x u) Q E s:=
 ge I hN hi hx r (fun s' I' _=>h s' I') hf
theorem Inv.call' {s':Shared} {ch:List Addr} (I:Inv X pins σ H s) (ho:s'.os=s.os) (u:Un (frs X.stack) ch H H' s.heap s'.heap) (hok:HOk X.prog X.w H' s'.heap) (hg:AllBare s'.gens)
  (hch: ∀ b∈ch,(b∈X.ex\/X.s₀.heap.objs.size<=b)/\b≠X.env.locals/\(∀ x c,X.env.cells.lookup x=some c->c≠b)/\ ∀ p∈X.pn++pins,p.1≠b):Inv X pins σ H' s':=by
 obtain ⟨h',g',d',t',o'⟩:=s'
 have e:o'=s.os:=ho
 subst e
 exact I.call (g':=g') (t':=t') (d':=d') u hok hg hch
end
noncomputable abbrev XK:=Value->Option Addr->Hp->Prop
noncomputable abbrev St:=List (Option V)
noncomputable abbrev VK:=V->Hp->Prop
noncomputable abbrev TE:=St->Hp->VK->Prop
noncomputable abbrev TT:=St->Hp->(Bool->Hp->Prop)->Prop
noncomputable abbrev TA:=St->Hp->(List V->Hp->Prop)->Prop
structure iB where
 nx:St->Hp->Prop
 rt:VK
 bk:St->Hp->Prop:=fun _ _=>False
 ct:St->Hp->Prop:=fun _ _=>False
noncomputable abbrev TS:=iB->St->Hp->Prop
inductive EP (X:Cx) (pins:List (Addr×Obj)) (σ:St) (Q:VK) (u:Value) (s':Shared):Prop
 | mk: ∀ v H',(Inv X pins σ H' s')->(RelV v u)->(Q v H')->EP X pins σ Q u s'
noncomputable def TP (X:Cx) (pins:List (Addr×Obj)) (σ:St) (Q:Bool->Hp->Prop) (b:Bool) (s':Shared):Prop:= ∃ H',Inv X pins σ H' s'/\Q b H'
inductive AP (X:Cx) (pins:List (Addr×Obj)) (σ:St) (Q:List V->Hp->Prop) (us:List Value) (s':Shared):Prop
 | mk: ∀ vs H',(Inv X pins σ H' s')->(Vals vs us)->(Q vs H')->AP X pins σ Q us s'
noncomputable def SP (X:Cx) (pins:List (Addr×Obj)) (D:iB) (f:Flow) (s':Shared):Prop:=
 match f with
 | .next=> ∃ σ' H',Inv X pins σ' H' s'/\D.nx σ' H'
 | .brk=> ∃ σ' H',Inv X pins σ' H' s'/\D.bk σ' H'
 | .cont=> ∃ σ' H',Inv X pins σ' H' s'/\D.ct σ' H'
 | .ret u=> ∃ v σ' H',Inv X pins σ' H' s'/\RelV v u/\D.rt v H'
noncomputable def PE (X:Cx) (e:Expr) (t:TE):Prop:=
 ∀ (pins:List (Addr×Obj)) (s:Shared) (σ:St) (H:Hp) (Q:VK),Inv X pins σ H s->t σ H Q->wpAny (model X.prog X.w) X.A (eval e X.env) (EP X pins σ Q) X.xe s
noncomputable def PT (X:Cx) (e:Expr) (t:TT):Prop:=
 ∀ (pins:List (Addr×Obj)) (s:Shared) (σ:St) (H:Hp) (Q:Bool->Hp->Prop),Inv X pins σ H s->t σ H Q->wpAny (model X.prog X.w) X.A (isTrue e X.env (eval e X.env)) (TP X pins σ Q) X.xe s
noncomputable def PW (X:Cx) (e:Expr) (t:TT):Prop:=
 ∀ (whole:Sem Value) (pins:List (Addr×Obj)) (s:Shared) (σ:St) (H:Hp) (Q:Bool->Hp->Prop),Inv X pins σ H s->t σ H Q->wpAny (model X.prog X.w) X.A (isTrue e X.env whole) (TP X pins σ Q) X.xe s
theorem PW.pt {X:Cx} {e:Expr} {t:TT} (h:PW X e t):PT X e t:=h _
noncomputable def PA (X:Cx) (es:List Expr) (t:TA):Prop:=
 ∀ (pos:Pos) (pins:List (Addr×Obj)) (s:Shared) (σ:St) (H:Hp) (Q:List V->Hp->Prop),Inv X pins σ H s->t σ H Q->wpAny (model X.prog X.w) X.A (spliced (backTo pos (starEach es X.env))) (AP X pins σ Q) X.xe s
noncomputable def PS (X:Cx) (st:Stmt) (t:TS):Prop:=
 ∀ (pins:List (Addr×Obj)) (s:Shared) (σ:St) (H:Hp) (D:iB),Inv X pins σ H s->t D σ H->wpAny (model X.prog X.w) X.A (exec st X.env) (SP X pins D) X.xe s
noncomputable def PSs (X:Cx) (st:List Stmt) (t:TS):Prop:=
 ∀ (pins:List (Addr×Obj)) (s:Shared) (σ:St) (H:Hp) (D:iB),Inv X pins σ H s->t D σ H->wpAny (model X.prog X.w) X.A (execs st X.env) (SP X pins D) X.xe s
theorem thn {α:Type} {t:Sem α} {Q Q':α->Shared->Prop} {M:Model} {A:Around} {E:Value->Shared->Prop} {s:Shared} (h:wpAny M A t Q E s) (hQ: ∀ a s,Q a s->Q' a s):wpAny M A t Q' E s:=wpAny_mono h hQ fun _ _ x=>x
section
variable {X:Cx}
theorem bin {a b:Expr} {ta tb:TE} (ha:PE X a ta) (hb:PE X b tb) {pins:List (Addr×Obj)} {s:Shared} {σ:St} {H:Hp} {R:V->V->Hp->Prop} (I:Inv X pins σ H s) (h:ta σ H fun x H1=>tb σ H1 fun y H2=>R x y H2)
  {α:Type} {Q:α->Shared->Prop} {f:Value->Value->Sem α}
  (hf: ∀ v u s2 x y H2,Inv X pins σ H2 s2->RelV x v->RelV y u->R x y H2->wpAny (model X.prog X.w) X.A (f v u) Q X.xe s2):
  wpAny (model X.prog X.w) X.A (eval a X.env) (fun v s₁=>wpAny (model X.prog X.w) X.A (eval b X.env) (fun u s₂=>wpAny (model X.prog X.w) X.A (f v u) Q X.xe s₂) X.xe s₁) X.xe s:=by
 refine thn (ha pins s σ H _ I h) fun v s1 ⟨x,H1,I1,r1,q1⟩=>?_
 refine thn (hb pins s1 σ H1 _ I1 q1) fun u s2 ⟨y,H2,I2,r2,q2⟩=>?_
 exact hf v u s2 x y H2 I2 r1 r2 q2
inductive vn (i:Nat) (σ:St) (H:Hp) (Q:VK):Prop
 | mk: ∀ v,(σ[i]? =some (some v))->(Q v H)->vn i σ H Q
noncomputable def tC (v:V):TE:=fun _ H Q=>Q v H
theorem xi {i:Nat} {x:Str} {pos:Pos} (hN:X.N[i]? =some x) (hv:Vis X.env.scope x) (hd:(x==("__debug__":Str))=false:=by decide) (hcd:(x==("__classdict__":Str))=false:=by decide):PE X (.Name x pos) (vn i):=by
 intro pins s σ H Q I h
 obtain ⟨v,e,h⟩:=h
 obtain ⟨m,hn,hl⟩:=I.loc
 obtain ⟨u,r,l⟩:=hl i x v hN e hv
 have fin:EP X pins σ Q u s:=⟨v,H,I,r,h⟩
 rcases l with ⟨hk,hm⟩ | ⟨hk,c,hc,hcell⟩
 ·exact wpAny_Name (wpAny_loadName_local I.ok.kind hk hn hm fin) hd
 ·rcases hk with hk | hk
  ·exact wpAny_Name (wpAny_loadName_cell I.ok.kind hk hc hcell fin) hd
  ·exact wpAny_Name (wpAny_loadName_free I.ok.kind hk hc hcell fin hcd) hd
theorem ag {i j pos}:PE X (.Constant (.int i) j pos) (tC (.int i)):=fun _ _ _ H _ I h=>wpAny_Constant_int ⟨.int i,H,I.tok _,⟨_,rfl⟩,h⟩
theorem n9 {b j pos}:PE X (.Constant (.bool b) j pos) (tC (.bl b)):=fun _ _ _ H _ I h=>Constant_bool ⟨.bl b,H,I,rfl,h⟩
theorem mM {j pos}:PE X (.Constant .none j pos) (tC .non):=fun _ _ _ H _ I h=>Constant_none ⟨.non,H,I,rfl,h⟩
theorem aT {x j pos}:PE X (.Constant (.str x) j pos) (tC (.str x)):=fun _ _ _ H _ I h=>Calls.Constant_str ⟨.str x,H,I.tok _,⟨_,rfl⟩,h⟩
noncomputable def Gl (X:Cx) (x:Str):Prop:=X.env.kindOf x=some .globalImplicit
theorem im {E:Value->Shared->Prop} {pins:List (Addr×Obj)} {s:Shared} {σ:St} {H:Hp} {x:Str} {u:Value} {pos:Pos} {Q:Value->Shared->Prop} (I:Inv X pins σ H s) (hg:Gl X x) (hm:X.mg x=some u) (h:Q u s)
  (hd:(x==("__debug__":Str))=false:=by decide):wpAny (model X.prog X.w) X.A (eval (.Name x pos) X.env) Q E s:=
 Calls.Name_function_global I.ok.kind hg (Calls.loadGlobal_global (by rw [I.ok.glob];exact I.mod.glob.keeps I.bk) hm h) hd
theorem jR {E:Value->Shared->Prop} {pins:List (Addr×Obj)} {s:Shared} {σ:St} {H:Hp} {x:Str} {u:Value} {pos:Pos} {Q:Value->Shared->Prop} (I:Inv X pins σ H s) (hg:Gl X x) (hm:X.mg x=none) (hv:bootBuiltins x=some u) (h:Q u s)
  (hn:x≠"__name__":=by decide) (hd:(x==("__debug__":Str))=false:=by decide):wpAny (model X.prog X.w) X.A (eval (.Name x pos) X.env) Q E s:=by
 obtain ⟨mb,h1,h2⟩:=I.mod.blt
 exact Calls.Name_function_global I.ok.kind hg (Calls.loadGlobal_builtin (by rw [I.ok.glob];exact I.mod.glob.keeps I.bk) hm (by rw [I.ok.blt];exact h1.keeps I.bk) ((h2 x hn).trans hv) h) hd
theorem bt {x:Str} {v:V} {u:Value} {pos:Pos} (hg:Gl X x) (hm:X.mg x=some u) (r:RelV v u) (hd:(x==("__debug__":Str))=false:=by decide):PE X (.Name x pos) (tC v):=
 fun _ _ _ H _ I h=>im I hg hm ⟨v,H,I,r,h⟩ hd
theorem fw {x:Str} {v:V} {u:Value} {pos:Pos} (hg:Gl X x) (hm:X.mg x=none) (hv:bootBuiltins x=some u) (r:RelV v u) (hn:x≠"__name__":=by decide) (hd:(x==("__debug__":Str))=false:=by decide):PE X (.Name x pos) (tC v):=
 fun _ _ _ H _ I h=>jR I hg hm hv ⟨v,H,I,r,h⟩ hn hd
variable {a b:Expr} {ta tb:TE} {pos:Pos}
noncomputable def PC (X:Cx) (op:CmpOp) (a b:Expr) (t:TE):Prop:=
 ∀ (pins:List (Addr×Obj)) (s:Shared) (σ:St) (H:Hp) (Q:VK),Inv X pins σ H s->t σ H Q->
  wpAny (model X.prog X.w) X.A (eval a X.env) (fun v s₁=>wpAny (model X.prog X.w) X.A (eval b X.env) (fun u s₂=>wpAny (model X.prog X.w) X.A (compareOp op v u) (EP X pins σ Q) X.xe s₂) X.xe s₁) X.xe s
inductive rBl  (x:V) (H1:Hp) (Q:(Bool->Hp->Prop)):Prop
 | mk: ∀ c,(x=.bl c)->(Q c H1)->rBl x H1 Q
noncomputable def tB (t:TE):TT:=fun σ H Q=>t σ H fun x H1=>rBl x H1 Q
theorem t7 {op:CmpOp} {t:TE} (h:PC X op a b t) (h1:behindInMarks op b=false:=by first | exact nobehind _ (by decide) (by decide) | rfl):PE X (.Compare a [op] [b] pos) t:=fun pins s σ H Q I hw=>wpAny_Compare1 (h pins s σ H Q I hw) h1
theorem mz {op:CmpOp} {t:TE} (h:PC X op a b t) (h1:behindInMarks op b=false:=by first | exact nobehind _ (by decide) (by decide) | rfl):PT X (.Compare a [op] [b] pos) (tB t):=by
 intro pins s σ H Q I hw
 refine wpAny_isTrue_Compare1 (thn (h pins s σ H _ I hw) fun v s1 h1=>thn h1 fun u s2 h2=>thn h2 fun c s3 ⟨x,H1,I1,r1,q1⟩=>?_) h1
 obtain ⟨d,rfl,q⟩:=q1
 cases r1
 exact wpAny_truthy_bool ⟨H1,I1,q⟩
theorem dZ {e:Expr} {t:TE} (h:PE X e t) (he: ∀ whole,isTrue e X.env whole=(do let v <- whole;standAt e.pos;holding [v] (truthy v)):=by intro _;rfl):PT X e (tB t):=by
 intro pins s σ H Q I hw
 refine isTrue_plain (thn (h pins s σ H _ I hw) fun v s1 ⟨x,H1,I1,r1,q1⟩=>?_) (he _)
 obtain ⟨d,rfl,q⟩:=q1
 cases r1
 exact wpAny_truthy_bool ⟨H1,I1,q⟩
variable {tA tB':TT} {rest:List Expr}
noncomputable def zk (t u:TT):TT:=fun σ H Q=>t σ H fun c H1=>if c=true then u σ H1 Q else Q false H1
noncomputable def tOr (t u:TT):TT:=fun σ H Q=>t σ H fun c H1=>if c=true then Q true H1 else u σ H1 Q
noncomputable def ze (t:TT):TT:=fun σ H Q=>t σ H fun c H1=>Q (!c) H1
theorem gm (ha:PT X a tA):PW X (.BoolOp .And [a] pos) tA:=by
 intro wh pins s σ H Q I h
 refine isTrue_and (thn (ha pins s σ H Q I h) fun c s1 e=>?_)
 cases c with
 | true=>exact isTrue_and_nil e
 | false=>exact e
theorem my (ha:PT X a tA):PW X (.BoolOp .Or [a] pos) tA:=by
 intro wh pins s σ H Q I h
 refine isTrue_or (thn (ha pins s σ H Q I h) fun c s1 e=>?_)
 cases c with
 | false=>exact isTrue_or_nil e
 | true=>exact e
theorem iP (ha:PT X a tA) (hb:PW X (.BoolOp .And (b::rest) pos) tB'):PW X (.BoolOp .And (a::b::rest) pos) (zk tA tB'):=by
 intro wh pins s σ H Q I h
 refine isTrue_and (thn (ha pins s σ H _ I h) fun c s1 ⟨H1,I1,q1⟩=>?_)
 cases c with
 | true=>exact hb wh pins s1 σ H1 Q I1 q1
 | false=>exact ⟨H1,I1,q1⟩
theorem nW (ha:PT X a tA) (hb:PW X (.BoolOp .Or (b::rest) pos) tB'):PW X (.BoolOp .Or (a::b::rest) pos) (tOr tA tB'):=by
 intro wh pins s σ H Q I h
 refine isTrue_or (thn (ha pins s σ H _ I h) fun c s1 ⟨H1,I1,q1⟩=>?_)
 cases c with
 | true=>exact ⟨H1,I1,q1⟩
 | false=>exact hb wh pins s1 σ H1 Q I1 q1
theorem gP (ha:PT X a tA):PT X (.UnaryOp .Not a pos) (ze tA):=by
 intro pins s σ H Q I h
 exact isTrue_not (ha pins s σ H (fun c H1=>Q (!c) H1) I h)
noncomputable def yo (ta tb:TE):TE:=fun σ H Q=>ta σ H fun x H1=> ∃ c,x=.bl c/\if c=true then tb σ H1 Q else Q (.bl false) H1
noncomputable def yi (ta:TE):TE:=fun σ H Q=>ta σ H fun x H1=> ∃ c,x=.bl c/\Q (.bl (!c)) H1
theorem tX {op} {t:TE} (h:PE X a t):PE X (.BoolOp op [a] pos) t:=fun pins s σ H Q I hw=>BoolOp_one (h pins s σ H Q I hw)
theorem ud (ha:PE X a ta) (hb:PE X (.BoolOp .And (b::rest) pos) tb):PE X (.BoolOp .And (a::b::rest) pos) (yo ta tb):=by
 intro pins s σ H Q I h
 refine BoolOp_and (thn (ha pins s σ H _ I h) fun v s1 ⟨x,H1,I1,r1,q1⟩=>?_)
 obtain ⟨c,rfl,q1⟩:=q1
 cases r1
 refine wpAny_truthy_bool ?_
 cases c with
 | true=>exact hb pins s1 σ H1 Q I1 q1
 | false=>exact ⟨.bl false,H1,I1,rfl,q1⟩
theorem xj (ha:PE X a ta):PE X (.UnaryOp .Not a pos) (yi ta):=by
 intro pins s σ H Q I h
 refine UnaryOp_ (thn (ha pins s σ H _ I h) fun v s1 ⟨x,H1,I1,r1,q1⟩=>?_)
 obtain ⟨c,rfl,q1⟩:=q1
 cases r1
 exact not_of (wpAny_truthy_bool ⟨.bl (!c),H1,I1,rfl,q1⟩)
noncomputable def tIf (t:TT) (ta tb:TE):TE:=fun σ H Q=>t σ H fun c H1=>if c=true then ta σ H1 Q else tb σ H1 Q
theorem n5 {c:Expr} (hc:PT X c tA) (ha:PE X a ta) (hb:PE X b tb):PE X (.IfExp c a b pos) (tIf tA ta tb):=by
 intro pins s σ H Q I h
 refine wpAny_IfExp (thn (hc pins s σ H _ I h) fun d s1 ⟨H1,I1,q1⟩=>?_)
 cases d with
 | true=>exact ha pins s1 σ H1 Q I1 q1
 | false=>exact hb pins s1 σ H1 Q I1 q1
end
noncomputable def SqL (K:PySem.W.Frag) (H:Hp) (a:Addr) (xs:List V):Prop:=
 Rd H a (.lst xs)\/
  ∃ (o:Obj) (its:Array Value) (n:Nat),K.lookup a=some o/\o.cls=.type "list"/\o.dict=none/\o.data=.seq its n/\its.size<=sizeLine/\Vals xs its.toList
noncomputable def SqT (K:PySem.W.Frag) (H:Hp) (a:Addr) (xs:List V):Prop:=
 Rd H a (.tup xs)\/
  ∃ (o:Obj) (its:Array Value) (n:Nat),K.lookup a=some o/\o.cls=.type "tuple"/\o.data=.seq its n/\its.size<=sizeLine/\Vals xs its.toList
noncomputable def zJ:Value->Option V
 | .none=>some .non
 | .bool b=>some (.bl b)
 | .int i _=>some (.int i)
 | .str x _=>some (.str x)
 | .bytes b _=>some (.byt b)
 | .float b _=>some (.flt b)
 | .ref a=>some (.ref a)
 | .type n=>some (.ty n)
 | _=>none
theorem RelV.abs {x:V} {u:Value} (r:RelV x u):zJ u=some x:=by
 cases x with
 | non=>cases r;rfl
 | bl _=>cases r;rfl
 | int _=>obtain ⟨t,rfl⟩:=r;rfl
 | str _=>obtain ⟨t,rfl⟩:=r;rfl
 | byt _=>obtain ⟨t,rfl⟩:=r;rfl
 | flt _=>obtain ⟨t,rfl⟩:=r;rfl
 | ref _=>cases r;rfl
 | ty _=>cases r;rfl
theorem RelV.inj {x y:V} {u:Value} (r:RelV x u) (q:RelV y u):x=y:=Option.some.inj (r.abs.symm.trans q.abs)
theorem Vals.inj: ∀ {xs ys:List V} {us:List Value},Vals xs us->Vals ys us->xs=ys
 | _,_,_,.nil,.nil=>rfl
 | _,_,_,.cons r t,.cons r' t'=>by rw [r.inj r',Vals.inj t t']
section
variable {X:Cx} {pins:List (Addr×Obj)} {σ:St} {H:Hp} {s:Shared} {a:Addr} {xs ys:List V}
theorem SqL.of {K:PySem.W.Frag} (h:H a=some (.lst xs)):SqL K H a xs:=.inl (.inl h)
theorem SqT.of {K:PySem.W.Frag} (h:H a=some (.tup xs)):SqT K H a xs:=.inl (.inl h)
theorem Inv.list (I:Inv X pins σ H s) (h:SqL X.K H a xs): ∃ its:List Value,Vals xs its/\PlainL s.heap a its.toArray/\xs.length<=sizeLine:=by
 rcases h with h | ⟨o,its,n,hk,hc,hd,hs,hz,r⟩
 ·obtain ⟨z,its,n,r,e⟩:=h.ok I.hok
  exact ⟨its,r,⟨_,n,e,rfl,rfl,rfl⟩,z⟩
 ·refine ⟨its.toList,r,⟨o,n,I.kIn a o hk,hc,hd,by simpa using hs⟩,?_⟩
  have e:=r.length
  simp only [Array.length_toList]at e
  lia
theorem Inv.tuple (I:Inv X pins σ H s) (h:SqT X.K H a xs): ∃ its:List Value,Vals xs its/\IsTup s.heap a its.toArray/\xs.length<=sizeLine:=by
 rcases h with h | ⟨o,its,n,hk,hc,hs,hz,r⟩
 ·obtain ⟨z,its,r,p⟩:=h.ok I.hok
  exact ⟨its,r,p,z⟩
 ·refine ⟨its.toList,r,⟨o,I.kIn a o hk,hc,n,by simpa using hs⟩,?_⟩
  have e:=r.length
  simp only [Array.length_toList]at e
  lia
theorem Inv.list_inj (I:Inv X pins σ H s) (h:SqL X.K H a xs) (h':SqL X.K H a ys):xs=ys:=by
 obtain ⟨its,r,⟨o,n,e,_,_,d⟩,_⟩:=I.list h
 obtain ⟨its',r',⟨o',n',e',_,_,d'⟩,_⟩:=I.list h'
 rw [e]at e';cases e'
 rw [d]at d'
 injection d' with d1 _
 have:its=its':=by simpa using congrArg Array.toList d1
 subst this
 exact r.inj r'
theorem Inv.tuple_inj (I:Inv X pins σ H s) (h:SqT X.K H a xs) (h':SqT X.K H a ys):xs=ys:=by
 obtain ⟨its,r,⟨o,e,_,n,d⟩,_⟩:=I.tuple h
 obtain ⟨its',r',⟨o',e',_,n',d'⟩,_⟩:=I.tuple h'
 rw [e]at e';cases e'
 rw [d]at d'
 injection d' with d1 _
 have:its=its':=by simpa using congrArg Array.toList d1
 subst this
 exact r.inj r'
end
noncomputable abbrev Cx.wish (X:Cx) (E:Value->Shared->Prop):Cx:={X with xe:=E}
noncomputable abbrev Cx.nox (X:Cx):Cx:=X.wish fun _ _=>False
theorem Cx.Ok.wish {X:Cx} (ok:X.Ok) (E:Value->Shared->Prop):(X.wish E).Ok:=
 ⟨ok.mod,ok.kind,ok.glob,ok.blt,ok.above,ok.inj,ok.has,ok.cab,ok.hd,ok.frames,ok.stk,ok.exf,ok.bs,ok.bsz,ok.noex,ok.exfs,ok.funs,ok.frf⟩
theorem Cx.Ok.unwish {X:Cx} {E:Value->Shared->Prop} (ok:(X.wish E).Ok):X.Ok:=
 ⟨ok.mod,ok.kind,ok.glob,ok.blt,ok.above,ok.inj,ok.has,ok.cab,ok.hd,ok.frames,ok.stk,ok.exf,ok.bs,ok.bsz,ok.noex,ok.exfs,ok.funs,ok.frf⟩
section
variable {X:Cx} {pins:List (Addr×Obj)} {σ:St} {H:Hp} {s:Shared} {E:Value->Shared->Prop}
theorem Inv.wish (I:Inv X pins σ H s) (E:Value->Shared->Prop):Inv (X.wish E) pins σ H s:=⟨I.ok.wish E,I.os,I.bare,I.base,I.loc,I.cell,I.free,I.freeC,I.pin,I.hok,I.len⟩
theorem Inv.unwish (I:Inv (X.wish E) pins σ H s):Inv X pins σ H s:=⟨I.ok.unwish,I.os,I.bare,I.base,I.loc,I.cell,I.free,I.freeC,I.pin,I.hok,I.len⟩
theorem SP.unwish {D:iB} {f:Flow} {s':Shared} (h:SP (X.wish E) pins D f s'):SP X pins D f s':=by
 cases f with
 | next=>obtain ⟨σ',H',I,q⟩:=h;exact ⟨σ',H',I.unwish,q⟩
 | brk=>obtain ⟨σ',H',I,q⟩:=h;exact ⟨σ',H',I.unwish,q⟩
 | cont=>obtain ⟨σ',H',I,q⟩:=h;exact ⟨σ',H',I.unwish,q⟩
 | ret u=>obtain ⟨v,σ',H',I,r,q⟩:=h;exact ⟨v,σ',H',I.unwish,r,q⟩
theorem PSs.nox {st:List Stmt} {t:TS} (h:PSs X.nox st t):PSs X st t:=fun pins s σ H D I hw=>
 wpAny_mono (h pins s σ H D (I.wish _) hw) (fun _ _ q=>q.unwish) fun _ _ z=>False.elim z
end
section
variable {X:Cx} {st:Stmt} {rest:List Stmt} {t u:TS} {e:Expr} {te:TE} {pos:Pos}
noncomputable def yj:TS:=fun D σ H=>D.nx σ H
noncomputable def yg (t u:TS):TS:=fun D σ H=>t {D with nx:=u D} σ H
theorem aP:PSs X [] yj:=fun _ _ σ H _ I h=>wpAny_execs_nil ⟨σ,H,I,h⟩
theorem ae (h1:PS X st t) (h2:PSs X rest u):PSs X (st::rest) (yg t u):=by
 intro pins s σ H D I h
 refine wpAny_execs_cons (thn (h1 pins s σ H {D with nx:=u D} I h) fun f s1 q=>?_)
 cases f with
 | next=>
  obtain ⟨σ',H',I',q⟩:=q
  exact h2 pins s1 σ' H' D I' q
 | ret v=>exact q
 | brk=>exact q
 | cont=>exact q
theorem aj (h1:PS X st t):PSs X [st] t:=by
 intro pins s σ H D I h
 refine wpAny_execs_cons (thn (h1 pins s σ H D I h) fun f s1 q=>?_)
 cases f with
 | next=>exact wpAny_execs_nil q
 | ret v=>exact q
 | brk=>exact q
 | cont=>exact q
theorem Inv.quiet {pins:List (Addr×Obj)} {σ:St} {H:Hp} {s:Shared} (I:Inv X pins σ H s):interactive X.env=false:=by simp [interactive,I.ok.kind]
noncomputable def yl (te:TE):TS:=fun D σ H=>te σ H fun _ H1=>D.nx σ H1
theorem bx (he:PE X e te) (hs:swapsWith e none pos.line X.env=pure false:=by rfl):PS X (.Expr e pos) (yl te):=by
 intro pins s σ H D I h
 exact wpAny_Expr_any (thn (he pins s σ H _ I h) fun v s1 ⟨x,H1,I1,r1,q1⟩=>⟨σ,H1,I1,q1⟩) I.quiet hs
noncomputable def zd (te:TE):TS:=fun D σ H=>te σ H D.rt
theorem aL (he:PE X e te):PS X (.Return (some e) pos) (zd te):=by
 intro pins s σ H D I h
 exact wpAny_Return_some (thn (he pins s σ H _ I h) fun v s1 ⟨x,H1,I1,r1,q1⟩=>⟨x,σ,H1,I1,r1,q1⟩)
noncomputable def zg (c:TT) (t u:TS):TS:=fun D σ H=>c σ H fun b H1=>if b=true then t D σ H1 else u D σ H1
theorem bi {c:Expr} {a b:List Stmt} {tc:TT} (hc:PT X c tc) (ha:PSs X a t) (hb:PSs X b u):PS X (.If c a b pos) (zg tc t u):=by
 intro pins s σ H D I h
 refine wpAny_If (thn (hc pins s σ H _ I h) fun d s1 ⟨H1,I1,q1⟩=>?_)
 cases d with
 | true=>exact ha pins s1 σ H1 D I1 q1
 | false=>exact hb pins s1 σ H1 D I1 q1
noncomputable def sP:TS:=fun _ _ _=>False
theorem tV:PS X st sP:=fun _ _ _ _ _ _ h=>h.elim
theorem dU {sts:List Stmt}:PSs X sts sP:=fun _ _ _ _ _ _ h=>h.elim
end
noncomputable abbrev TG:=V->St->Hp->(St->Hp->Prop)->Prop
noncomputable abbrev TGs:=List V->St->Hp->(St->Hp->Prop)->Prop
noncomputable def PG (X:Cx) (target:Expr) (t:TG):Prop:=
 ∀ (pins:List (Addr×Obj)) (s:Shared) (σ:St) (H:Hp) (v:V) (u:Value) (Q:St->Hp->Prop),Inv X pins σ H s->RelV v u->t v σ H Q->
  wpAny (model X.prog X.w) X.A (assign target X.env u) (fun _ s'=> ∃ σ' H',Inv X pins σ' H' s'/\Q σ' H') X.xe s
noncomputable def PGs (X:Cx) (ts:List Expr) (t:TGs):Prop:=
 ∀ (pins:List (Addr×Obj)) (s:Shared) (σ:St) (H:Hp) (vs:List V) (us:List Value) (Q:St->Hp->Prop),Inv X pins σ H s->Vals vs us->t vs σ H Q->
  wpAny (model X.prog X.w) X.A (assignInOrder ((assignEach ts X.env).map (·.2)) us) (fun _ s'=> ∃ σ' H',Inv X pins σ' H' s'/\Q σ' H') X.xe s
noncomputable abbrev xT:=V->V->V->Hp->(Hp->Prop)->Prop
noncomputable def yZ (X:Cx) (t:xT):Prop:=
 ∀ (pins:List (Addr×Obj)) (s:Shared) (σ:St) (H:Hp) (o i v:V) (ov iv u:Value) (Q:Hp->Prop),Inv X pins σ H s->RelV o ov->RelV i iv->RelV v u->t o i v H Q->
  wpAny (model X.prog X.w) X.A (setItem ov iv u) (fun _ s'=> ∃ H',Inv X pins σ H' s'/\Q H') X.xe s
section
variable {X:Cx} {pos:Pos}
noncomputable def fY (i:Nat):TG:=fun v σ H Q=>Q (σ.set i (some v)) H
theorem au {i:Nat} {x:Str} (hN:X.N.Nodup) (hi:X.N[i]? =some x) (hx:Loc X.env.scope x) (hf:X.fn x=true\/X.env.scope.names.lookup x=some .local:=by first | exact .inl rfl | exact .inr rfl | assumption):PG X (.Name x pos) (fY i):=by
 intro pins s σ H v u Q I r h
 exact wpAny_assign_Name (hJ I hN hi hx r (fun s' I'=>⟨_,H,I',h⟩) hf)
noncomputable def yT:TGs:=fun vs σ H Q=>vs=[]/\Q σ H
inductive qD (t:TG) (u:TGs) (vs:List V) (σ:St) (H:Hp) (Q:(St->Hp->Prop)):Prop
 | mk: ∀ v r,(vs=v::r)->(t v σ H fun σ' H'=>u r σ' H' Q)->qD t u vs σ H Q
theorem bV:PGs X [] yT:=by
 intro pins s σ H vs us Q I r h
 obtain ⟨e,h⟩:=h
 subst e
 cases r
 exact assignInOrder_nil ⟨σ,H,I,h⟩
theorem aJ {e:Expr} {es:List Expr} {t:TG} {u:TGs} (h1:PG X e t) (h2:PGs X es u)
  (hs:(assignEach (e::es) X.env).map (·.2)=assign e X.env::(assignEach es X.env).map (·.2):=by rfl):PGs X (e::es) (qD t u):=by
 intro pins s σ H vs us Q I r h
 obtain ⟨v,vr,e1,h⟩:=h
 subst e1
 cases r with
 | cons r rr=>
  rw [hs]
  refine assignInOrder_cons (thn (h1 pins s σ H _ _ _ I r h) fun _ s1 ⟨σ1,H1,I1,q1⟩=>?_)
  exact h2 pins s1 σ1 H1 _ _ Q I1 rr q1
inductive xJ (K:PySem.W.Frag) (n:Nat) (t:TGs) (v:V) (σ:St) (H:Hp) (Q:(St->Hp->Prop)):Prop
 | mk: ∀ a xs,(v=.ref a)->(SqT K H a xs)->(xs.length=n)->(t xs σ H Q)->xJ K n t v σ H Q
theorem cC {es:List Expr} {k:Nat} {t:TGs} {n:Nat} (hc:X.calm=true) (h:PGs X es t)
  (hn:(assignEach es X.env).length=n:=by rfl) (hst:(assignEach es X.env).findIdx? (·.1)=none:=by rfl):PG X (.Tuple es k pos) (xJ X.K n t):=by
 intro pins s σ H v u Q I r hw
 obtain ⟨a,xs,e1,hq,hl,hw⟩:=hw
 subst e1
 cases r
 obtain ⟨its,rv,ht,hz⟩:=I.tuple hq
 refine assign_Tuple_tuple (I.ok.hd hc) ht (by simp [hn,<- hl,rv.length]) hst fun h' hx=>?_
 have I1:Inv X pins σ H {s with heap:=h'}:=I.kept (t':=s.toks) fun b o e=>hx b o (Nat.ne_of_lt (Heap.lt_size e)) e
 exact h pins _ σ H xs _ Q I1 (by simpa using rv) hw
noncomputable def zE (to ti:TE) (t:xT):TG:=fun v σ H Q=>to σ H fun o H1=>ti σ H1 fun i H2=>t o i v H2 fun H3=>Q σ H3
theorem xh {o i:Expr} {to ti:TE} {t:xT} (ho:PE X o to) (hi:PE X i ti) (hs:yZ X t)
  (ha: ∀ v,assign (.Subscript o i pos) X.env v=(do
   let ov <- holding [v] (eval o X.env)
   let iv <- holding [v,ov] (eval i X.env)
   standAt pos
   holding [v,ov,iv] (setItem ov iv v)
   release [v,ov,iv] []):=by intro _;rfl):PG X (.Subscript o i pos) (zE to ti t):=by
 intro pins s σ H v u Q I r h
 rw [ha]
 refine wpAny_bind (wpAny_holding (thn (ho pins s σ H _ I h) fun ov s1 ⟨x,H1,I1,r1,q1⟩=>?_))
 refine wpAny_bind (wpAny_holding (thn (hi pins s1 σ H1 _ I1 q1) fun iv s2 ⟨y,H2,I2,r2,q2⟩=>?_))
 refine wpAny_bind (wpAny_standAt (wpAny_bind (wpAny_holding (thn (hs pins s2 σ H2 x y v ov iv u _ I2 r1 r2 r q2) fun _ s3 ⟨H3,I3,q3⟩=>?_))))
 exact wpAny_release ⟨σ,H3,I3,q3⟩
noncomputable def oX (te:TE) (g:TG):TS:=fun D σ H=>te σ H fun x H1=>g x σ H1 D.nx
theorem iQ {tg e:Expr} {te:TE} {g:TG} (he:PE X e te) (hg:PG X tg g) (hs:swapsWithSole [tg] e pos.line X.env=pure false:=by rfl) (hw:swappedStores [tg] e X.env=pure none:=by rfl)
  (h1:(assignEach [tg] X.env).map (·.2)=[assign tg X.env]:=by rfl):PS X (.Assign [tg] e pos) (oX te g):=by
 intro pins s σ H D I h
 refine wpAny_Assign_stores (thn (he pins s σ H _ I h) fun v s1 ⟨x,H1,I1,r1,q1⟩=>?_) hs hw
 rw [h1]
 exact thn (hg pins s1 σ H1 x v _ I1 r1 q1) fun _ s2 q=>q
theorem am {i:Nat} {x:Str} {e:Expr} {te:TE} {pos':Pos} (hN:X.N.Nodup) (hi:X.N[i]? =some x) (hx:Loc X.env.scope x) (he:PE X e te) (hs:swapsWith e (some (.Name x pos')) pos.line X.env=pure false:=by rfl) (hf:X.fn x=true\/X.env.scope.names.lookup x=some .local:=by first | exact .inl rfl | exact .inr rfl | assumption):
  PS X (.Assign [.Name x pos'] e pos) (oX te (fY i)):=by
 intro pins s σ H D I h
 refine wpAny_Assign_Name (thn (he pins s σ H _ I h) fun v s1 ⟨y,H1,I1,r1,q1⟩=>?_) hs
 exact hJ I1 hN hi hx r1 (fun s2 I2=>⟨_,H1,I2,q1⟩) hf
end
section
variable {X:Cx} {pos:Pos}
inductive oV (c:TT) (tb:TS) (D:iB) (σ:St) (H:Hp):Prop
 | mk: ∀ (W:Nat->St->Hp->Prop),((∃ m,W m σ H))->(∀ m σ H,W m σ H->c σ H fun b H1=>if b=true then ∃ N:St->Hp->Prop,(∀ σ' H',N σ' H'-> ∃ m',m'<m/\W m' σ' H')/\tb {D with nx:=N,ct:=N,bk:=D.nx} σ H1 else D.nx σ H1)->oV c tb D σ H
theorem ic {c:Expr} {body:List Stmt} {tc:TT} {tb:TS} (hp:PassesOwn (model X.prog X.w) X.A X.env X.xe) (hc:PT X c tc) (hb:PSs X body tb):PS X (.While c body [] pos) (oV tc tb):=by
 intro pins s σ H D I h
 obtain ⟨W,⟨m0,w0⟩,turn⟩:=h
 refine wpAny_While (codeAny_whileLoop (fun n s'=> ∃ σ' H',Inv X pins σ' H' s'/\W n σ' H') ?_ m0 ⟨σ,H,I,w0⟩)
 rintro n s1 ⟨σ1,H1,I1,w1⟩
 refine wpAny_passesOwn hp (thn (hc pins s1 σ1 H1 _ I1 (turn n σ1 H1 w1)) fun b s2 ⟨H2,I2,q2⟩=>?_)
 cases b with
 | true=>
  obtain ⟨N,hN,q2⟩:=q2
  rw [if_pos rfl]
  refine wpAny_passesOwn hp (thn (hb pins s2 σ1 H2 _ I2 q2) fun f s3 q3=>?_)
  cases f with
  | next=>
   obtain ⟨σ3,H3,I3,n3⟩:=q3
   obtain ⟨m',hm,w3⟩:=hN σ3 H3 n3
   exact ⟨m',hm,σ3,H3,I3,w3⟩
  | cont=>
   obtain ⟨σ3,H3,I3,n3⟩:=q3
   obtain ⟨m',hm,w3⟩:=hN σ3 H3 n3
   exact ⟨m',hm,σ3,H3,I3,w3⟩
  | brk=>exact q3
  | ret v=>exact q3
 | false=>
  rw [if_neg Bool.false_ne_true]
  exact wpAny_execs_nil ⟨σ1,H2,I2,q2⟩
end
structure It where
 go:Nat->Hp->Prop
 yld:Nat->Hp->V->Hp->Prop
 stop:Nat->Hp->Prop
noncomputable def ko (X:Cx) (pins:List (Addr×Obj)) (H:Hp) (b:Addr):Prop:=
 H b=none/\b≠X.env.locals/\b∉X.fs/\(b∈X.ex\/X.s₀.heap.objs.size<=b)/\(∀ x c,X.env.cells.lookup x=some c->c≠b)/\ ∀ p∈X.pn++pins,p.1≠b
theorem Inv.fpOk {X:Cx} {pins:List (Addr×Obj)} {σ:St} {H H':Hp} {s:Shared} {b:Addr} (I:Inv X pins σ H s) (hb:s.heap.objs.size<=b) (hn:H' b=none):ko X pins H' b:=by
 refine ⟨hn,Nat.ne_of_gt (Nat.lt_of_lt_of_le I.lt hb),I.nofs hb,.inr (Nat.le_trans I.sz hb),fun x c e z=>?_,fun p hp z=>?_⟩
 ·obtain ⟨v,q⟩:=I.cell x c e
  exact absurd (Nat.lt_of_lt_of_le q.lt (by rw [z];exact hb)) (Nat.lt_irrefl _)
 ·exact absurd (Nat.lt_of_lt_of_le (Heap.lt_size (I.pin p hp).1) (by rw [z];exact hb)) (Nat.lt_irrefl _)
structure qd (P:Program) (w:World) (K:PySem.W.Frag) (tg:Expr) (J:It) (fp:List Addr) (it:Addr) (tn:Nat->Heap->Prop):Prop where
 mem:it∈fp
 obj: ∀ i h,tn i h-> ∀ b∈fp,∃ o,h.get? b=some o/\ ∀ v,o.data≠ .cell v
 keep: ∀ i h h',tn i h->(∀ b∈fp,∀ o,h.get? b=some o->h'.get? b=some o)->tn i h'
 item: ∀ (X:Cx),X.prog=P->X.w=w->X.K=K->X.calm=true-> ∀ (i:Nat) (pins:List (Addr×Obj)) (s:Shared) (σ:St) (H:Hp) (E:Value->Shared->Prop),Inv X pins σ H s->(∀ b∈fp,ko X pins H b)->tn i s.heap->J.go i H->
  wpAny (model P w) X.A (pyNext (.ref it)) (fun r s1=> ∃ u,r=some u/\
   wpAny (model P w) X.A (letOwnedTupleGo tg (.ref it) u) (fun _ s2=> ∃ x H',Inv X pins σ H' s2/\RelV x u/\J.yld i H x H'/\tn (i+1) s2.heap/\ ∀ b∈fp,H' b=none) E s1) E s
 done: ∀ (X:Cx),X.prog=P->X.w=w->X.K=K->X.calm=true-> ∀ (i:Nat) (pins:List (Addr×Obj)) (s:Shared) (σ:St) (H:Hp) (E:Value->Shared->Prop),Inv X pins σ H s->(∀ b∈fp,ko X pins H b)->tn i s.heap->J.stop i H->
  wpAny (model P w) X.A (pyNext (.ref it)) (fun r s1=>r=none/\Inv X pins σ H s1) E s
 self: ∀ (A:Around) (i:Nat) (s:Shared) (Q:Value->Shared->Prop) (E:Value->Shared->Prop),tn i s.heap->Q (.ref it) s->wpAny (model P w) A (pyIter (.ref it)) Q E s
noncomputable abbrev TI:=St->Hp->(It->Hp->Prop)->Prop
inductive PIE (X:Cx) (pins:List (Addr×Obj)) (σ:St) (tg:Expr) (R:It->Hp->Prop) (itv:Value) (s2:Shared):Prop
 | mk: ∀ (it:Addr) (fp:List Addr) (tn:Nat->Heap->Prop) (J:It) (H':Hp),(itv=.ref it)->(Inv X pins σ H' s2)->(qd X.prog X.w X.K tg J fp it tn)->(tn 0 s2.heap)->((∀ b∈fp,ko X pins H' b))->(R J H')->PIE X pins σ tg R itv s2
noncomputable def PI (X:Cx) (tg iter:Expr) (wi:TI):Prop:=
 ∀ (pins:List (Addr×Obj)) (s:Shared) (σ:St) (H:Hp) (R:It->Hp->Prop),Inv X pins σ H s->wi σ H R->
  wpAny (model X.prog X.w) X.A (eval iter X.env) (fun v s1=>wpAny (model X.prog X.w) X.A (pyIter v) (PIE X pins σ tg R) X.xe s1) X.xe s
theorem qC {M:Model} {A:Around} {E:Value->Shared->Prop} {s:Shared} {tg:Expr} {it:Addr} {u:Value} {o:Obj} {n:String} {vs:Array Value} {Q:Unit->Shared->Prop} (ho:s.heap.get? it=some o) (hc:o.cls=.type n) (hd:o.data=.fields vs)
  (hn:["enumerate","zip","dict_itemiterator","dict_reverseitemiterator","odict_iterator","itertools.zip_longest","itertools.pairwise"].contains n=false) (hQ:Q () s):wpAny M A (letOwnedTupleGo tg (.ref it) u) Q E s:=by
 unfold letOwnedTupleGo
 cases tg <;> first
  | exact wpAny_pure hQ
  | (cases u <;> first
    | exact wpAny_pure hQ
    | (refine wpAny_bind (wpAny_load ho ?_)
       rw [hc,hd]
       show wpAny M A (if (["enumerate","zip","dict_itemiterator","dict_reverseitemiterator","odict_iterator","itertools.zip_longest","itertools.pairwise"].contains n&&vs[0]? ==some (rawInt _))=true then _ else _) Q E s
       rw [if_neg (by intro h;rw [hn,Bool.false_and]at h;cases h)]
       exact wpAny_pure hQ))
noncomputable def Itl (K:PySem.W.Frag) (a:Addr):It:=
 ⟨fun i H=> ∃ xs x,SqL K H a xs/\xs[i]? =some x,fun i H x H'=>H'=H/\ ∀ xs,SqL K H a xs->xs[i]? =some x,fun i H=> ∃ xs,SqL K H a xs/\xs.length<=i⟩
noncomputable def Itt (K:PySem.W.Frag) (a:Addr):It:=
 ⟨fun i H=> ∃ xs x,SqT K H a xs/\xs[i]? =some x,fun i H x H'=>H'=H/\ ∀ xs,SqT K H a xs->xs[i]? =some x,fun i H=> ∃ xs,SqT K H a xs/\xs.length<=i⟩
noncomputable def Itr (lo:Int) (n:Nat):It:=⟨fun i _=>i<n,fun i H x H'=>H'=H/\x=.int (lo+i),fun i _=>n<=i⟩
theorem qW {P:Program} {w:World} {K:PySem.W.Frag} {tg:Expr} (a it:Addr):qd P w K tg (Itl K a) [it] it (fun i h=>h.IsListIter it a i) where
 mem:=by simp
 obj:=fun i h st b hb=>by
  have e:b=it:=by simpa using hb
  subst e
  obtain ⟨o,e,c,d⟩:=st
  exact ⟨o,e,fun v z=>by rw [d]at z;cases z⟩
 keep:=fun i h h' st k=>st.at fun o e=>k it (by simp) o e
 item:=by
  intro X hP hw hK hc i pins s σ H E I hf st hg
  subst hP hw hK
  obtain ⟨xs,x,hq,hx⟩:=hg
  obtain ⟨its,rv,p,hz⟩:=I.list hq
  obtain ⟨u,hu,ru⟩:=rv.get hx
  obtain ⟨f0,f1,f2,f3,f4,f5⟩:=hf it (by simp)
  refine wpAny_pyNext_list_item st p.isList (x:=u) (by simpa using hu) fun h' st' sb=>?_
  have I1:Inv X pins σ H {s with heap:=h'}:=I.turned (t':=s.toks) (fun b o hb e=>(sb.2 b hb).trans e) f0 f1 f3 f4 f5
  obtain ⟨o,e,c,d⟩:=id st'
  exact ⟨u,rfl,qC (s:={s with heap:=h'}) e c d (by decide) ⟨x,H,I1,ru,⟨rfl,fun ys hy=>by rw [I.list_inj hy hq];exact hx⟩,st',fun b hb=>(hf b hb).1⟩⟩
 done:=by
  intro X hP hw hK hc i pins s σ H E I hf st hg
  subst hP hw hK
  obtain ⟨xs,hq,hx⟩:=hg
  obtain ⟨its,rv,p,hz⟩:=I.list hq
  obtain ⟨f0,f1,f2,f3,f4,f5⟩:=hf it (by simp)
  have hl:=rv.length
  exact wpAny_pyNext_list_end (I.ok.hd hc) st p.isList (by simp;lia) fun h' eb=>⟨rfl,I.turned (t':=s.toks) (fun b o hb e=>eb b o hb e) f0 f1 f3 f4 f5⟩
 self:=fun _ _ _ _ _ st h=>wpAny_pyIter_listiter st h
theorem oQ {P:Program} {w:World} {K:PySem.W.Frag} {tg:Expr} (a it:Addr):qd P w K tg (Itt K a) [it] it (fun i h=>h.IsTupleIter it a i) where
 mem:=by simp
 obj:=fun i h st b hb=>by
  have e:b=it:=by simpa using hb
  subst e
  obtain ⟨o,e,c,d⟩:=st
  exact ⟨o,e,fun v z=>by rw [d]at z;cases z⟩
 keep:=fun i h h' st k=>st.at fun o e=>k it (by simp) o e
 item:=by
  intro X hP hw hK hc i pins s σ H E I hf st hg
  subst hP hw hK
  obtain ⟨xs,x,hq,hx⟩:=hg
  obtain ⟨its,rv,p,hz⟩:=I.tuple hq
  obtain ⟨u,hu,ru⟩:=rv.get hx
  obtain ⟨f0,f1,f2,f3,f4,f5⟩:=hf it (by simp)
  refine wpAny_pyNext_tuple_item st (show s.heap.IsTuple a its.toArray from p) (x:=u) (by simpa using hu) fun h' st' sb=>?_
  have I1:Inv X pins σ H {s with heap:=h'}:=I.turned (t':=s.toks) (fun b o hb e=>(sb.2 b hb).trans e) f0 f1 f3 f4 f5
  obtain ⟨o,e,c,d⟩:=id st'
  exact ⟨u,rfl,qC (s:={s with heap:=h'}) e c d (by decide) ⟨x,H,I1,ru,⟨rfl,fun ys hy=>by rw [I.tuple_inj hy hq];exact hx⟩,st',fun b hb=>(hf b hb).1⟩⟩
 done:=by
  intro X hP hw hK hc i pins s σ H E I hf st hg
  subst hP hw hK
  obtain ⟨xs,hq,hx⟩:=hg
  obtain ⟨its,rv,p,hz⟩:=I.tuple hq
  obtain ⟨f0,f1,f2,f3,f4,f5⟩:=hf it (by simp)
  have hl:=rv.length
  exact wpAny_pyNext_tuple_end (I.ok.hd hc) st (show s.heap.IsTuple a its.toArray from p) (by simp;lia) fun h' eb=>⟨rfl,I.turned (t':=s.toks) (fun b o hb e=>eb b o hb e) f0 f1 f3 f4 f5⟩
 self:=fun _ _ _ _ _ st h=>wpAny_pyIter_tupleiter st h
theorem oR {P:Program} {w:World} {K:PySem.W.Frag} {tg:Expr} (it:Addr) (lo:Int) (n:Nat):qd P w K tg (Itr lo n) [it] it (fun i h=>IsRangeIter h it (lo+ (i:Nat) *1) ((n:Int) - (i:Nat)) 1) where
 mem:=by simp
 obj:=fun i h st b hb=>by
  have e:b=it:=by simpa using hb
  subst e
  exact ⟨_,st,fun v z=>by
   have z':Data.fields _=Data.cell v:=z
   cases z'⟩
 keep:=fun i h h' st k=>k it (by simp) _ st
 item:=by
  intro X hP hw hK hc i pins s σ H E I hf st hg
  subst hP hw hK
  obtain ⟨f0,f1,f2,f3,f4,f5⟩:=hf it (by simp)
  have W:=Walks.range (prog:=X.prog) (w:=X.w) (I.ok.hd hc) it lo 1 n
  refine W.item i s _ _ hg st fun v h' tk hv st' kk=>?_
  obtain ⟨t,rfl⟩:=hv
  have I1:Inv X pins σ H {s with heap:=h',toks:=tk}:=I.turned (fun b o hb e=>kk b o (by simpa using hb) e) f0 f1 f3 f4 f5
  refine ⟨_,rfl,qC (s:={s with heap:=h',toks:=tk}) (n:="range_iterator") st' rfl rfl (by decide) ⟨.int (lo+i),H,I1,⟨t,?_⟩,⟨rfl,rfl⟩,st',fun b hb=>(hf b hb).1⟩⟩
  rw [Int.mul_one]
 done:=by
  intro X hP hw hK hc i pins s σ H E I hf st hg
  subst hP hw hK
  obtain ⟨f0,f1,f2,f3,f4,f5⟩:=hf it (by simp)
  exact wpAny_pyNext_range_end (I.ok.hd hc) st (by have:n<=i:=hg;lia) fun h' eb=>⟨rfl,I.turned (t':=s.toks) (fun b o hb e=>eb b o hb e) f0 f1 f3 f4 f5⟩
 self:=fun _ _ _ _ _ st h=>wpAny_pyIter_rangeiter st h
section
variable {X:Cx} {tg:Expr}
noncomputable def yN (K:PySem.W.Frag) (tl:TE):TI:=fun σ H R=>tl σ H fun x H1=> ∃ a,x=.ref a/\(∃ xs,SqL K H1 a xs)/\R (Itl K a) H1
noncomputable def zx (K:PySem.W.Frag) (tl:TE):TI:=fun σ H R=>tl σ H fun x H1=> ∃ a,x=.ref a/\(∃ xs,SqT K H1 a xs)/\R (Itt K a) H1
theorem cL {l:Expr} {tl:TE} (hl:PE X l tl):PI X tg l (yN X.K tl):=by
 intro pins s σ H R I h
 refine thn (hl pins s σ H _ I h) fun v s1 ⟨x,H1,I1,r1,q1⟩=>?_
 obtain ⟨a,e,⟨xs,hq⟩,q⟩:=q1
 subst e
 cases r1
 obtain ⟨its,rv,p,hz⟩:=I1.list hq
 refine wpAny_pyIter_list p.isList ?_
 refine ⟨s1.heap.objs.size,[s1.heap.objs.size],_,_,H1,rfl,I1.kept (t':=s1.toks) fun b o e=>Heap.get?_push_of_some _ e,qW a _,⟨_,Heap.get?_push_size _ rfl,rfl,rfl⟩,fun b hb=>?_,q⟩
 have e:b=s1.heap.objs.size:=by simpa using hb
 subst e
 exact I1.fpOk (Nat.le_refl _) (I1.hok.fresh (Nat.le_refl _))
theorem bf {l:Expr} {tl:TE} (hl:PE X l tl):PI X tg l (zx X.K tl):=by
 intro pins s σ H R I h
 refine thn (hl pins s σ H _ I h) fun v s1 ⟨x,H1,I1,r1,q1⟩=>?_
 obtain ⟨a,e,⟨xs,hq⟩,q⟩:=q1
 subst e
 cases r1
 obtain ⟨its,rv,p,hz⟩:=I1.tuple hq
 refine wpAny_pyIter_tuple (show s1.heap.IsTuple a its.toArray from p) ?_
 refine ⟨s1.heap.objs.size,[s1.heap.objs.size],_,_,H1,rfl,I1.kept (t':=s1.toks) fun b o e=>Heap.get?_push_of_some _ e,oQ a _,⟨_,Heap.get?_push_size _ rfl,rfl,rfl⟩,fun b hb=>?_,q⟩
 have e:b=s1.heap.objs.size:=by simpa using hb
 subst e
 exact I1.fpOk (Nat.le_refl _) (I1.hok.fresh (Nat.le_refl _))
theorem tR {pins:List (Addr×Obj)} {σ:St} {H:Hp} {s:Shared} {R:It->Hp->Prop} {E:Value->Shared->Prop} {lo hi:Int} {t u v:Tok} {tk:Nat} (I:Inv X pins σ H s) (h1: -(2^62)<=lo) (h2:lo<2^62) (h3: -(2^62)<=hi) (h4:hi<2^62)
  (q:R (Itr lo (hi-lo).toNat) H):wpAny (model X.prog X.w) X.A (pyIter (.ref s.heap.objs.size)) (PIE X pins σ tg R) E {s with heap:=s.heap.push {cls:=.type "range",data:=.fields #[.int lo t,.int hi u,.int 1 v]},toks:=tk}:=by
 refine wpAny_pyIter_range (IsRange.new ..) (small_one h1 h2 h3 h4) ?_
 have I1:Inv X pins σ H {s with heap:=s.heap.push {cls:=.type "range",data:=.fields #[.int lo t,.int hi u,.int 1 v]},toks:=tk}:=I.kept fun b o e=>Heap.get?_push_of_some _ e
 refine ⟨(s.heap.push {cls:=.type "range",data:=.fields #[.int lo t,.int hi u,.int 1 v]}).objs.size,[(s.heap.push {cls:=.type "range",data:=.fields #[.int lo t,.int hi u,.int 1 v]}).objs.size],_,_,H,rfl,
  I1.kept (t':=tk) fun b o e=>Heap.get?_push_of_some _ e,oR _ lo (hi-lo).toNat,?_,fun b hb=>?_,q⟩
 ·have e1:lo+ ((0:Nat):Int) *1=lo:=by simp
  have e2:(((hi-lo).toNat:Nat):Int) - ((0:Nat):Int)=Builtin.Range.rangeSize lo hi 1:=by rw [rangeSize_one];split <;> lia
  show IsRangeIter _ _ (lo+ ((0:Nat):Int) *1) ((((hi-lo).toNat:Nat):Int) - ((0:Nat):Int)) 1
  rw [e1,e2]
  exact Heap.get?_push_size _ rfl
 ·have e:b=(s.heap.push {cls:=.type "range",data:=.fields #[.int lo t,.int hi u,.int 1 v]}).objs.size:=by simpa using hb
  subst e
  exact I1.fpOk (Nat.le_refl _) (I1.hok.fresh (Nat.le_refl _))
noncomputable def yM (ta:TA):TI:=fun σ H R=>ta σ H fun vs H1=> ∃ j:Int,vs=[.int j]/\ -(2^62)<=j/\j<2^62/\R (Itr 0 j.toNat) H1
theorem br {a:Expr} {ta:TA} {p pos:Pos} (hg:Gl X "range") (hm:X.mg "range"=none) (ha:PA X [a] ta) (hs:starEach [a] X.env=[(false,eval a X.env)]:=by rfl):PI X tg (.Call (.Name "range" p) [a] [] pos) (yM ta):=by
 intro pins s σ H R I h
 refine Call_ (jR I hg hm boot_range (PyProof.Rows.callWith_type1 (thn (ha pos pins s σ H _ I h) fun us s1 ⟨vs,H1,I1,r1,q1⟩=>?_) hs rfl))
 obtain ⟨j,e,q1,q2,q⟩:=q1
 subst e
 cases r1 with
 | cons r rr=>
  cases rr
  obtain ⟨t,rfl⟩:=r
  exact call_range_1 (tR I1 (by lia) (by lia) q1 q2 (by simpa using q))
noncomputable def zh (wi:TI) (g:TG) (tb:TS):TS:=fun D σ H=>wi σ H fun J H1=> ∃ W:Nat->Nat->St->Hp->Prop,(∃ m,W 0 m σ H1)/\ ∀ i m σ H,W i m σ H->
 (J.stop i H/\D.nx σ H)\/(J.go i H/\ ∃ N:St->Hp->Prop,(∀ σ' H',N σ' H'-> ∃ m',m'<m/\W (i+1) m' σ' H')/\ ∀ x H',J.yld i H x H'->g x σ H' fun σ2 H2=>tb {D with nx:=N,ct:=N,bk:=D.nx} σ2 H2)
noncomputable def mJ (fp:List Addr) (h:Heap):List (Addr×Obj):=fp.filterMap fun b=>(h.get? b).map fun o=>(b,o)
theorem bY {fp:List Addr} {h:Heap} {b:Addr} {o:Obj} (hb:b∈fp) (e:h.get? b=some o):(b,o)∈mJ fp h:=List.mem_filterMap.mpr ⟨b,hb,by rw [e];rfl⟩
theorem rW {fp:List Addr} {h:Heap} {p:Addr×Obj} (hp:p∈mJ fp h):p.1∈fp/\h.get? p.1=some p.2:=by
 obtain ⟨b,hb,e⟩:=List.mem_filterMap.mp hp
 cases q:h.get? b with
 | none=>rw [q]at e;cases e
 | some o=>
  rw [q]at e
  have e':(b,o)=p:=Option.some.inj e
  subst e'
  exact ⟨hb,q⟩
theorem Inv.pinned {pins:List (Addr×Obj)} {σ:St} {H:Hp} {s:Shared} {fp:List Addr} (I:Inv X pins σ H s) (hf: ∀ b∈fp,ko X pins H b) (ho: ∀ b∈fp,∃ o,s.heap.get? b=some o/\ ∀ v,o.data≠ .cell v):Inv X (pins++mJ fp s.heap) σ H s:=
 I.pins_of fun p hp=>(List.mem_append.mp hp).elim (fun z=>I.pin p (List.mem_append_right _ z)) fun z=>by
  obtain ⟨hb,e⟩:=rW z
  obtain ⟨f0,f1,f2,_⟩:=hf p.1 hb
  obtain ⟨o,e',d⟩:=ho p.1 hb
  rw [e]at e';cases e'
  exact ⟨e,f0,f1,f2,d⟩
theorem Inv.unpinned {pins pl:List (Addr×Obj)} {σ:St} {H:Hp} {s:Shared} (I:Inv X (pins++pl) σ H s):Inv X pins σ H s:=I.pins_of fun p hp=>I.pin p (List.mem_append_right _ (List.mem_append_left _ hp))
theorem a6 {iter:Expr} {body:List Stmt} {wi:TI} {g:TG} {tb:TS} {pos:Pos} (hp:PassesOwn (model X.prog X.w) X.A X.env X.xe) (hc:X.calm=true) (hi:PI X tg iter wi) (hg:PG X tg g) (hb:PSs X body tb)
  (hs: ∀ x,foldedSetIterable iter X.env x=pure x:=by intro _;rfl):PS X (.For tg iter body [] pos) (zh wi g tb):=by
 intro pins s σ H D I h
 refine wpAny_For (thn (hi pins s σ H _ I h) fun v s1 h1=>thn h1 fun itv s2 h2=>?_) hs
 obtain ⟨it,fp,tn,J,H2,e,I2,T,st2,f2,W,⟨m0,w0⟩,turn⟩:=h2
 subst e
 have stat: ∀ {H':Hp},(∀ b∈fp,H' b=none)-> ∀ b∈fp,ko X pins H' b:=fun hn b hb=>⟨hn b hb,(f2 b hb).2⟩
 refine codeAny_forLoop_any (fun n s'=> ∃ i σ' H',Inv X pins σ' H' s'/\tn i s'.heap/\(∀ b∈fp,H' b=none)/\W i n σ' H') ?_ m0 ⟨0,σ,H2,I2,st2,fun b hb=>(f2 b hb).1,w0⟩
 rintro n s3 ⟨i,σ3,H3,I3,st3,fr3,w3⟩
 rcases turn i n σ3 H3 w3 with ⟨stop,qn⟩ | ⟨go,N,hN,step⟩
 ·refine wpAny_passesOwn hp (thn (T.done X rfl rfl rfl hc i pins s3 σ3 H3 X.xe I3 (stat fr3) st3 stop) fun r s4 ⟨hr,I4⟩=>?_)
  subst hr
  exact wpAny_execs_nil ⟨σ3,H3,I4,qn⟩
 ·refine wpAny_passesOwn hp (thn (T.item X rfl rfl rfl hc i pins s3 σ3 H3 X.xe I3 (stat fr3) st3 go) fun r s4 ⟨u,hr,h4⟩=>?_)
  subst hr
  refine wpAny_passesOwn hp (thn h4 fun _ s5 ⟨x,H5,I5,r5,y5,st5,fr5⟩=>?_)
  have I5':=I5.pinned (stat fr5) (T.obj _ _ st5)
  refine wpAny_passesOwn hp (thn (hg _ s5 σ3 H5 x u _ I5' r5 (step x H5 y5)) fun _ s6 ⟨σ6,H6,I6,q6⟩=>?_)
  refine wpAny_passesOwn hp (thn (hb _ s6 σ6 H6 _ I6 q6) fun f s7 q7=>?_)
  have again: ∀ {σ7:St} {H7:Hp},Inv X (pins++mJ fp s5.heap) σ7 H7 s7->N σ7 H7-> ∃ m,m<n/\ ∃ i σ' H',Inv X pins σ' H' s7/\tn i s7.heap/\(∀ b∈fp,H' b=none)/\W i m σ' H':=fun {σ7 H7} I7 n7=>by
   obtain ⟨m',hm,w7⟩:=hN σ7 H7 n7
   refine ⟨m',hm,i+1,σ7,H7,I7.unpinned,T.keep _ _ _ st5 fun b hb o e=>(I7.pin (b,o) (List.mem_append_right _ (List.mem_append_right _ (bY hb e)))).1,fun b hb=>?_,w7⟩
   obtain ⟨o,e,d⟩:=T.obj _ _ st5 b hb
   exact (I7.pin (b,o) (List.mem_append_right _ (List.mem_append_right _ (bY hb e)))).2.1
  cases f with
  | next=>obtain ⟨σ7,H7,I7,n7⟩:=q7;exact again I7 n7
  | cont=>obtain ⟨σ7,H7,I7,n7⟩:=q7;exact again I7 n7
  | brk=>obtain ⟨σ7,H7,I7,q7⟩:=q7;exact ⟨σ7,H7,I7.unpinned,q7⟩
  | ret v=>obtain ⟨x7,σ7,H7,I7,r7,q7⟩:=q7;exact ⟨x7,σ7,H7,I7.unpinned,r7,q7⟩
end
theorem cD {K:PySem.W.Frag} {a:Addr} {xs:List V} {g:TG} {tb:TS} {D:iB} {σ:St} {H:Hp} (Pv:Nat->St->Hp->Prop) (h0:Pv 0 σ H) (hl: ∀ i σ H,i<=xs.length->Pv i σ H->SqL K H a xs)
  (hs: ∀ i x σ H,xs[i]? =some x->Pv i σ H->g x σ H fun σ2 H2=>tb {D with nx:=Pv (i+1),ct:=Pv (i+1),bk:=D.nx} σ2 H2) (hd: ∀ σ H,Pv xs.length σ H->D.nx σ H):
  ∃ W:Nat->Nat->St->Hp->Prop,(∃ m,W 0 m σ H)/\ ∀ i m σ H,W i m σ H->
   ((Itl K a).stop i H/\D.nx σ H)\/((Itl K a).go i H/\ ∃ N:St->Hp->Prop,(∀ σ' H',N σ' H'-> ∃ m',m'<m/\W (i+1) m' σ' H')/\ ∀ x H',(Itl K a).yld i H x H'->g x σ H' fun σ2 H2=>tb {D with nx:=N,ct:=N,bk:=D.nx} σ2 H2):=by
 refine ⟨fun i m σ H=>m=xs.length-i/\i<=xs.length/\Pv i σ H,⟨xs.length,by simp,Nat.zero_le _,h0⟩,?_⟩
 rintro i m σ H ⟨rfl,hi,p⟩
 have q:=hl i σ H hi p
 by_cases hlt:i<xs.length
 ·refine .inr ⟨⟨xs,xs[i],q,by simp [hlt]⟩,Pv (i+1),fun σ' H' p'=>⟨xs.length- (i+1),by lia,rfl,hlt,p'⟩,fun x H' y=>?_⟩
  obtain ⟨e,y⟩:=y
  subst e
  exact hs i x σ _ (y xs q) p
 ·have e:i=xs.length:=by lia
  subst e
  exact .inl ⟨⟨xs,q,Nat.le_refl _⟩,hd σ H p⟩
theorem cu {K:PySem.W.Frag} {a:Addr} {xs:List V} {g:TG} {tb:TS} {D:iB} {σ:St} {H:Hp} (Pv:Nat->St->Hp->Prop) (h0:Pv 0 σ H) (hl: ∀ i σ H,i<=xs.length->Pv i σ H->SqT K H a xs)
  (hs: ∀ i x σ H,xs[i]? =some x->Pv i σ H->g x σ H fun σ2 H2=>tb {D with nx:=Pv (i+1),ct:=Pv (i+1),bk:=D.nx} σ2 H2) (hd: ∀ σ H,Pv xs.length σ H->D.nx σ H):
  ∃ W:Nat->Nat->St->Hp->Prop,(∃ m,W 0 m σ H)/\ ∀ i m σ H,W i m σ H->
   ((Itt K a).stop i H/\D.nx σ H)\/((Itt K a).go i H/\ ∃ N:St->Hp->Prop,(∀ σ' H',N σ' H'-> ∃ m',m'<m/\W (i+1) m' σ' H')/\ ∀ x H',(Itt K a).yld i H x H'->g x σ H' fun σ2 H2=>tb {D with nx:=N,ct:=N,bk:=D.nx} σ2 H2):=by
 refine ⟨fun i m σ H=>m=xs.length-i/\i<=xs.length/\Pv i σ H,⟨xs.length,by simp,Nat.zero_le _,h0⟩,?_⟩
 rintro i m σ H ⟨rfl,hi,p⟩
 have q:=hl i σ H hi p
 by_cases hlt:i<xs.length
 ·refine .inr ⟨⟨xs,xs[i],q,by simp [hlt]⟩,Pv (i+1),fun σ' H' p'=>⟨xs.length- (i+1),by lia,rfl,hlt,p'⟩,fun x H' y=>?_⟩
  obtain ⟨e,y⟩:=y
  subst e
  exact hs i x σ _ (y xs q) p
 ·have e:i=xs.length:=by lia
  subst e
  exact .inl ⟨⟨xs,q,Nat.le_refl _⟩,hd σ H p⟩
theorem dq {lo:Int} {n:Nat} {g:TG} {tb:TS} {D:iB} {σ:St} {H:Hp} (Pv:Nat->St->Hp->Prop) (h0:Pv 0 σ H)
  (hs: ∀ i σ H,i<n->Pv i σ H->g (.int (lo+i)) σ H fun σ2 H2=>tb {D with nx:=Pv (i+1),ct:=Pv (i+1),bk:=D.nx} σ2 H2) (hd: ∀ σ H,Pv n σ H->D.nx σ H):
  ∃ W:Nat->Nat->St->Hp->Prop,(∃ m,W 0 m σ H)/\ ∀ i m σ H,W i m σ H->
   ((Itr lo n).stop i H/\D.nx σ H)\/((Itr lo n).go i H/\ ∃ N:St->Hp->Prop,(∀ σ' H',N σ' H'-> ∃ m',m'<m/\W (i+1) m' σ' H')/\ ∀ x H',(Itr lo n).yld i H x H'->g x σ H' fun σ2 H2=>tb {D with nx:=N,ct:=N,bk:=D.nx} σ2 H2):=by
 refine ⟨fun i m σ H=>m=n-i/\i<=n/\Pv i σ H,⟨n,by simp,Nat.zero_le _,h0⟩,?_⟩
 rintro i m σ H ⟨rfl,hi,p⟩
 by_cases hlt:i<n
 ·refine .inr ⟨hlt,Pv (i+1),fun σ' H' p'=>⟨n- (i+1),by lia,rfl,hlt,p'⟩,fun x H' y=>?_⟩
  obtain ⟨e,y⟩:=y
  subst e y
  exact hs i σ _ hlt p
 ·have e:i=n:=by lia
  subst e
  exact .inl ⟨Nat.le_refl _,hd σ H p⟩
theorem nF {c:TT} {tb:TS} {D:iB} {σ:St} {H:Hp} (Pv:St->Hp->Prop) (μ:St->Hp->Nat) (h0:Pv σ H)
  (hs: ∀ σ H,Pv σ H->c σ H fun b H1=>if b=true then tb {D with nx:=fun σ' H'=>Pv σ' H'/\μ σ' H'<μ σ H,ct:=fun σ' H'=>Pv σ' H'/\μ σ' H'<μ σ H,bk:=D.nx} σ H1 else D.nx σ H1)
  (mono: ∀ σ H Q Q',(∀ b H1,Q b H1->Q' b H1)->c σ H Q->c σ H Q'):oV c tb D σ H:=by
 refine ⟨fun m σ H=>m=μ σ H/\Pv σ H,⟨_,rfl,h0⟩,?_⟩
 rintro m σ H ⟨rfl,p⟩
 refine mono σ H _ _ (fun b H1 q=>?_) (hs σ H p)
 cases b with
 | true=>exact ⟨_,fun σ' H' ⟨p',l⟩=>⟨_,l,rfl,p'⟩,q⟩
 | false=>exact q
noncomputable abbrev R2:=V->V->Hp->VK->Prop
noncomputable def OpR (X:Cx) (f:Value->Value->Sem Value) (r:R2):Prop:=
 ∀ (pins:List (Addr×Obj)) (s:Shared) (σ:St) (H:Hp) (x y:V) (v u:Value) (Q:VK),Inv X pins σ H s->RelV x v->RelV y u->r x y H Q->
  wpAny (model X.prog X.w) X.A (f v u) (EP X pins σ Q) X.xe s
noncomputable def UnR (X:Cx) (f:Value->Sem Value) (r:V->Hp->VK->Prop):Prop:=
 ∀ (pins:List (Addr×Obj)) (s:Shared) (σ:St) (H:Hp) (x:V) (v:Value) (Q:VK),Inv X pins σ H s->RelV x v->r x H Q->
  wpAny (model X.prog X.w) X.A (f v) (EP X pins σ Q) X.xe s
noncomputable def fb (X:Cx) (f:Value) (r:List V->Hp->VK->Prop):Prop:=
 ∀ (pins:List (Addr×Obj)) (s:Shared) (σ:St) (H:Hp) (xs:List V) (us:List Value) (Q:VK),Inv X pins σ H s->Vals xs us->r xs H Q->
  wpAny (model X.prog X.w) X.A (call f us) (EP X pins σ Q) X.xe s
noncomputable def zK (X:Cx) (r:V->Hp->(Bool->Hp->Prop)->Prop):Prop:=
 ∀ (pins:List (Addr×Obj)) (s:Shared) (σ:St) (H:Hp) (x:V) (v:Value) (Q:Bool->Hp->Prop),Inv X pins σ H s->RelV x v->r x H Q->
  wpAny (model X.prog X.w) X.A (truthy v) (TP X pins σ Q) X.xe s
noncomputable def tOp (r:R2) (ta tb:TE):TE:=fun σ H Q=>ta σ H fun x H1=>tb σ H1 fun y H2=>r x y H2 Q
noncomputable def tUn (r:V->Hp->VK->Prop) (ta:TE):TE:=fun σ H Q=>ta σ H fun x H1=>r x H1 Q
inductive rI (C:Int->Int->Prop) (g:Int->Int->V) (x:V) (y:V) (H:Hp) (Q:VK):Prop
 | mk: ∀ i j,(x=.int i)->(y=.int j)->(C i j)->(Q (g i j) H)->rI C g x y H Q
inductive rI0 (g:Int->Int->V) (x:V) (y:V) (H:Hp) (Q:VK):Prop
 | mk: ∀ i j,(x=.int i)->(y=.int j)->(Q (g i j) H)->rI0 g x y H Q
inductive rU (g:Int->V) (x:V) (H:Hp) (Q:VK):Prop
 | mk: ∀ i,(x=.int i)->(Q (g i) H)->rU g x H Q
section
variable {X:Cx} {a b c:Expr} {ta tb tc:TE} {pos:Pos}
theorem xQ (ha:PE X a ta) (hb:PE X b tb) {pins:List (Addr×Obj)} {s:Shared} {σ:St} {H:Hp} {R:V->V->Hp->Prop} (I:Inv X pins σ H s)
  (h:ta σ H fun x H1=>tb σ H1 fun y H2=>R x y H2) {Q:Value->Shared->Prop} {f:Value->Value->Sem Value}
  (hf: ∀ v u s2 x y H2,Inv X pins σ H2 s2->RelV x v->RelV y u->R x y H2->wpAny (model X.prog X.w) X.A (f v u) Q X.xe s2):
  wpAny (model X.prog X.w) X.A (eval a X.env) (fun v s₁=>wpAny (model X.prog X.w) X.A (eval b X.env) (fun u s₂=>wpAny (model X.prog X.w) X.A (f v u) Q X.xe s₂) X.xe s₁) X.xe s:=by
 refine thn (ha pins s σ H _ I h) fun v s1 ⟨x,H1,I1,r1,q1⟩=>?_
 refine thn (hb pins s1 σ H1 _ I1 q1) fun u s2 ⟨y,H2,I2,r2,q2⟩=>?_
 exact hf v u s2 x y H2 I2 r1 r2 q2
theorem aw {op:Operator} {r:R2} (ho:OpR X (binaryOp op) r) (ha:PE X a ta) (hb:PE X b tb):PE X (.BinOp a op b pos) (tOp r ta tb):=by
 intro pins s σ H Q I h
 exact wpAny_BinOp (xQ ha hb I h fun v u s2 x y H2 I2 rx ry q=>ho pins s2 σ H2 x y v u Q I2 rx ry q)
theorem gH {op:UnaryOp} {r:V->Hp->VK->Prop} (ho:UnR X (unaryOp op) r) (ha:PE X a ta):PE X (.UnaryOp op a pos) (tUn r ta):=by
 intro pins s σ H Q I h
 exact UnaryOp_ (thn (ha pins s σ H _ I h) fun v s1 ⟨x,H1,I1,r1,q1⟩=>ho pins s1 σ H1 x v Q I1 r1 q1)
theorem opI {f:Value->Value->Sem Value} {C:Int->Int->Prop} {g:Int->Int->Int}
  (rule: ∀ (i j:Int) (t u:Tok) (s:Shared) (Q:Value->Shared->Prop) (E:Value->Shared->Prop),C i j->Q (.int (g i j) s.toks) {s with toks:=s.toks+1}->wpAny (model X.prog X.w) X.A (f (.int i t) (.int j u)) Q E s):
  OpR X f (rI C fun i j=>.int (g i j)):=by
 intro pins s σ H x y v u Q I rx ry h
 obtain ⟨i,j,rfl,rfl,hc,q⟩:=h
 obtain ⟨t,rfl⟩:=rx
 obtain ⟨t',rfl⟩:=ry
 exact rule i j t t' s _ _ hc ⟨.int (g i j),H,I.tok _,⟨_,rfl⟩,q⟩
theorem yI {f:Value->Value->Sem Value} {g:Int->Int->Int}
  (rule: ∀ (i j:Int) (t u:Tok) (s:Shared) (Q:Value->Shared->Prop) (E:Value->Shared->Prop),Q (.int (g i j) s.toks) {s with toks:=s.toks+1}->wpAny (model X.prog X.w) X.A (f (.int i t) (.int j u)) Q E s):
  OpR X f (rI0 fun i j=>.int (g i j)):=by
 intro pins s σ H x y v u Q I rx ry h
 obtain ⟨i,j,rfl,rfl,q⟩:=h
 obtain ⟨t,rfl⟩:=rx
 obtain ⟨t',rfl⟩:=ry
 exact rule i j t t' s _ _ ⟨.int (g i j),H,I.tok _,⟨_,rfl⟩,q⟩
theorem vH {f:Value->Value->Sem Value} {g:Int->Int->Bool}
  (rule: ∀ (i j:Int) (t u:Tok) (s:Shared) (Q:Value->Shared->Prop) (E:Value->Shared->Prop),Q (.bool (g i j)) s->wpAny (model X.prog X.w) X.A (f (.int i t) (.int j u)) Q E s):
  OpR X f (rI0 fun i j=>.bl (g i j)):=by
 intro pins s σ H x y v u Q I rx ry h
 obtain ⟨i,j,rfl,rfl,q⟩:=h
 obtain ⟨t,rfl⟩:=rx
 obtain ⟨t',rfl⟩:=ry
 exact rule i j t t' s _ _ ⟨.bl (g i j),H,I,rfl,q⟩
noncomputable def zQ (i j:Int):Prop:=0<j/\j<1073741824
noncomputable def zP (i j:Int):Prop:=0<=j/\j<=1000000/\i.natAbs<2^64
noncomputable def CMul (i j:Int):Prop:=(-(2^64) <i/\i<2^64)\/(-(2^64) <j/\j<2^64)
theorem CMul.ok {i j:Int} (h:CMul i j):IntMulOk i j:=by
 rcases h with ⟨h1,h2⟩ | ⟨h1,h2⟩
 ·exact .of_left (intBits_le_64 h1 h2)
 ·exact .of_right (intBits_le_64 h1 h2)
theorem a8:OpR X (binaryOp .Add) (rI0 fun i j=>.int (i+j)):=yI fun _ _ _ _ _ _ _ q=>add_int q
theorem ee:OpR X (binaryOp .Sub) (rI0 fun i j=>.int (i-j)):=yI fun _ _ _ _ _ _ _ q=>sub_int q
theorem dH:OpR X (binaryOp .Mult) (rI CMul fun i j=>.int (i*j)):=opI fun _ _ _ _ _ _ _ hc q=>mul_int q hc.ok
theorem mX:OpR X (binaryOp .FloorDiv) (rI zQ fun i j=>.int (i/j)):=opI fun i j _ _ _ _ _ hc q=>by
 have h1:(0:Int) <j:=hc.1
 have h2:j<1073741824:=hc.2
 exact floordiv_int (by lia) (by rw [Int.fdiv_eq_ediv_of_nonneg i (by lia)];exact q) (.inl (PyProof.noPylong_small (by lia)))
theorem cR:OpR X (binaryOp .Mod) (rI (fun _ j=>0<j) fun i j=>.int (i%j)):=opI fun i j _ _ _ _ _ hc q=>by
 have h1:(0:Int) <j:=hc
 exact mod_int' (by lia) (by rw [Int.fmod_eq_emod_of_nonneg i (by lia)];exact q)
theorem xk:OpR X (binaryOp .Pow) (rI zP fun i j=>.int (i^j.toNat)):=opI fun _ _ _ _ _ _ _ hc q=>pow_int_small hc.1 hc.2.1 hc.2.2 q
theorem unI {f:Value->Sem Value} {g:Int->Int}
  (rule: ∀ (i:Int) (t:Tok) (s:Shared) (Q:Value->Shared->Prop) (E:Value->Shared->Prop),Q (.int (g i) s.toks) {s with toks:=s.toks+1}->wpAny (model X.prog X.w) X.A (f (.int i t)) Q E s):
  UnR X f (rU fun i=>.int (g i)):=by
 intro pins s σ H x v Q I rx h
 obtain ⟨i,rfl,q⟩:=h
 obtain ⟨t,rfl⟩:=rx
 exact rule i t s _ _ ⟨.int (g i),H,I.tok _,⟨_,rfl⟩,q⟩
theorem eK:UnR X (unaryOp .USub) (rU fun i=>.int (-i)):=unI fun _ _ _ _ _ q=>neg_int q
end
noncomputable def yp:V->V->Bool
 | .non,.non=>true | .non,.int _=>true | .int _,.non=>true | .non,.bl _=>true | .bl _,.non=>true | .non,.str _=>true | .str _,.non=>true
 | .int _,.int _=>true | .bl _,.bl _=>true | .str _,.str _=>true | .byt _,.byt _=>true
 | .int _,.str _=>true | .str _,.int _=>true | .bl _,.str _=>true | .str _,.bl _=>true
 | _,_=>false
noncomputable def rEq:R2:=fun x y H Q=>yp x y=true/\Q (.bl (decide (x=y))) H
noncomputable def rNe:R2:=fun x y H Q=>yp x y=true/\Q (.bl (!decide (x=y))) H
theorem qH {i j:Int}:decide (V.int i=V.int j)=(i==j):=by
 rw [Bool.eq_iff_iff]
 simp
theorem u9 {i j:Bool}:decide (V.bl i=V.bl j)=(i==j):=by
 rw [Bool.eq_iff_iff]
 simp
theorem qG {i j:Str}:decide (V.str i=V.str j)=(i==j):=by
 rw [Bool.eq_iff_iff]
 simp
theorem qI {i j:Array UInt8}:decide (V.byt i=V.byt j)=(i.toList==j.toList):=by
 rw [Bool.eq_iff_iff]
 cases i
 cases j
 simp
section
variable {X:Cx} {a b c:Expr} {ta tb tc:TE} {pos:Pos}
theorem a9 {pins:List (Addr×Obj)} {σ:St} {H:Hp} {s:Shared} {Q:VK} {k k':Bool} (I:Inv X pins σ H s) (q:Q (.bl k) H) (e:k=k'):EP X pins σ Q (.bool k') s:=by
 subst e
 exact ⟨.bl k,H,I,rfl,q⟩
theorem dh:OpR X (compareOp .Eq) rEq:=by
 intro pins s σ H x y v u Q I rx ry h
 obtain ⟨hs,q⟩:=h
 cases x with
 | non=>
  cases rx
  cases y with
  | non=>cases ry;exact PySem.EqNone.eq_none_none (a9 I q (by simp))
  | bl j=>cases ry;exact PySem.EqNone.eq_none_bool (a9 I q (by simp))
  | int j=>obtain ⟨t',rfl⟩:=ry;exact PySem.EqNone.eq_none_int (a9 I q (by simp))
  | str j=>obtain ⟨t',rfl⟩:=ry;exact PySem.EqNone.eq_none_str (a9 I q (by simp))
  | _=>exact absurd (show false=true from hs) Bool.false_ne_true
 | bl i=>
  cases rx
  cases y with
  | non=>cases ry;exact PySem.EqNone.eq_bool_none (a9 I q (by simp))
  | bl j=>cases ry;exact eq_bool (a9 I q u9)
  | str j=>obtain ⟨t',rfl⟩:=ry;exact PySem.EqMixed.eq_bool_str (a9 I q (by simp))
  | _=>exact absurd (show false=true from hs) Bool.false_ne_true
 | int i=>
  obtain ⟨t,rfl⟩:=rx
  cases y with
  | non=>cases ry;exact PySem.EqNone.eq_int_none (a9 I q (by simp))
  | int j=>obtain ⟨t',rfl⟩:=ry;exact eq_int (a9 I q qH)
  | str j=>obtain ⟨t',rfl⟩:=ry;exact PySem.EqMixed.eq_int_str (a9 I q (by simp))
  | _=>exact absurd (show false=true from hs) Bool.false_ne_true
 | str i=>
  obtain ⟨t,rfl⟩:=rx
  cases y with
  | non=>cases ry;exact PySem.EqNone.eq_str_none (a9 I q (by simp))
  | bl j=>cases ry;exact PySem.EqMixed.eq_str_bool (a9 I q (by simp))
  | int j=>obtain ⟨t',rfl⟩:=ry;exact PySem.EqMixed.eq_str_int (a9 I q (by simp))
  | str j=>obtain ⟨t',rfl⟩:=ry;exact eq_str (a9 I q qG)
  | _=>exact absurd (show false=true from hs) Bool.false_ne_true
 | byt i=>
  obtain ⟨t,rfl⟩:=rx
  cases y with
  | byt j=>obtain ⟨t',rfl⟩:=ry;exact PySem.W.eq_bytes (a9 I q qI)
  | _=>exact absurd (show false=true from hs) Bool.false_ne_true
 | _=>cases y <;> exact absurd (show false=true from hs) Bool.false_ne_true
theorem wI:OpR X (compareOp .NotEq) rNe:=by
 intro pins s σ H x y v u Q I rx ry h
 obtain ⟨hs,q⟩:=h
 cases x with
 | non=>
  cases rx
  cases y with
  | non=>cases ry;exact PySem.EqNone.ne_none_none (a9 I q (by simp))
  | bl j=>cases ry;exact PySem.EqNone.ne_none_bool (a9 I q (by simp))
  | int j=>obtain ⟨t',rfl⟩:=ry;exact PySem.EqNone.ne_none_int (a9 I q (by simp))
  | str j=>obtain ⟨t',rfl⟩:=ry;exact PySem.EqNone.ne_none_str (a9 I q (by simp))
  | _=>exact absurd (show false=true from hs) Bool.false_ne_true
 | bl i=>
  cases rx
  cases y with
  | non=>cases ry;exact PySem.EqNone.ne_bool_none (a9 I q (by simp))
  | bl j=>cases ry;exact ne_bool (a9 I q (congrArg not u9))
  | str j=>obtain ⟨t',rfl⟩:=ry;exact PySem.EqMixed.ne_bool_str (a9 I q (by simp))
  | _=>exact absurd (show false=true from hs) Bool.false_ne_true
 | int i=>
  obtain ⟨t,rfl⟩:=rx
  cases y with
  | non=>cases ry;exact PySem.EqNone.ne_int_none (a9 I q (by simp))
  | int j=>obtain ⟨t',rfl⟩:=ry;exact ne_int (a9 I q (congrArg not qH))
  | str j=>obtain ⟨t',rfl⟩:=ry;exact PySem.EqMixed.ne_int_str (a9 I q (by simp))
  | _=>exact absurd (show false=true from hs) Bool.false_ne_true
 | str i=>
  obtain ⟨t,rfl⟩:=rx
  cases y with
  | non=>cases ry;exact PySem.EqNone.ne_str_none (a9 I q (by simp))
  | bl j=>cases ry;exact PySem.EqMixed.ne_str_bool (a9 I q (by simp))
  | int j=>obtain ⟨t',rfl⟩:=ry;exact PySem.EqMixed.ne_str_int (a9 I q (by simp))
  | str j=>obtain ⟨t',rfl⟩:=ry;exact ne_str (a9 I q (congrArg not qG))
  | _=>exact absurd (show false=true from hs) Bool.false_ne_true
 | byt i=>
  obtain ⟨t,rfl⟩:=rx
  cases y with
  | byt j=>obtain ⟨t',rfl⟩:=ry;exact PySem.W.ne_bytes (a9 I q (congrArg not qI))
  | _=>exact absurd (show false=true from hs) Bool.false_ne_true
 | _=>cases y <;> exact absurd (show false=true from hs) Bool.false_ne_true
theorem kQ:OpR X (compareOp .Lt) (rI0 fun i j=>.bl (decide (i<j))):=vH fun _ _ _ _ _ _ _ q=>lt_int q
theorem yH:OpR X (compareOp .LtE) (rI0 fun i j=>.bl (decide (i<=j))):=vH fun _ _ _ _ _ _ _ q=>le_int q
theorem oj:OpR X (compareOp .Gt) (rI0 fun i j=>.bl (decide (j<i))):=vH fun _ _ _ _ _ _ _ q=>gt_int q
theorem wJ:OpR X (compareOp .GtE) (rI0 fun i j=>.bl (decide (j<=i))):=vH fun _ _ _ _ _ _ _ q=>ge_int q
theorem xm:OpR X (compareOp .Is) (fun x y H Q=>y=.non/\Q (.bl (decide (x=.non))) H):=by
 intro pins s σ H x y v u Q I rx ry h
 obtain ⟨rfl,q⟩:=h
 cases ry
 refine is_none_gen (a9 I q ?_)
 cases x <;> first
  | (cases rx;rfl)
  | (obtain ⟨t,rfl⟩:=rx;rfl)
theorem aV (b:Expr) {op:CmpOp} (h:op≠ .In:=by decide) (h2:op≠ .NotIn:=by decide):behindInMarks op b=false:=by
 have e1:(op==CmpOp.In)=false:=by cases op <;> first | rfl | exact absurd rfl h
 have e2:(op==CmpOp.NotIn)=false:=by cases op <;> first | rfl | exact absurd rfl h2
 cases b <;> simp [behindInMarks,e1,e2]
theorem ii {op:CmpOp} {r:R2} (ho:OpR X (compareOp op) r) (ha:PE X a ta) (hb:PE X b tb) (hm:behindInMarks op b=false):PE X (.Compare a [op] [b] pos) (tOp r ta tb):=by
 intro pins s σ H Q I h
 exact wpAny_Compare1 (xQ ha hb I h fun v u s2 x y H2 I2 rx ry q=>ho pins s2 σ H2 x y v u Q I2 rx ry q) hm
noncomputable def ye (t:TE):TT:=fun σ H Q=>t σ H fun x H'=>rBl x H' Q
theorem aM {op:CmpOp} {r:R2} (ho:OpR X (compareOp op) r) (ha:PE X a ta) (hb:PE X b tb) (hm:behindInMarks op b=false):PT X (.Compare a [op] [b] pos) (ye (tOp r ta tb)):=by
 intro pins s σ H Q I h
 refine wpAny_isTrue_Compare1 (thn (ha pins s σ H _ I h) fun v s1 ⟨x,H1,I1,r1,q1⟩=>thn (hb pins s1 σ H1 _ I1 q1) fun u s2 ⟨y,H2,I2,r2,q2⟩=>
  thn (ho pins s2 σ H2 x y v u _ I2 r1 r2 q2) fun c s3 ⟨z,H3,I3,r3,k,e,q3⟩=>?_) hm
 subst e
 cases r3
 exact wpAny_truthy_bool ⟨H3,I3,q3⟩
noncomputable def yY (K:PySem.W.Frag) (x:V) (H:Hp) (k:Bool):Prop:=
 match x with
 | .non=>k=false
 | .bl b=>k=b
 | .int i=>k=(i !=0)
 | .str y=>y.length<=sizeLine/\k=((y.length:Int)!=0)
 | .byt y=>y.size<=sizeLine/\k=((y.size:Int)!=0)
 | .ref p=>(∃ xs,SqL K H p xs/\k= !xs.isEmpty)\/(∃ xs,SqT K H p xs/\k= !xs.isEmpty)\/ ∃ kvs,H p=some (.dK kvs)/\k= !kvs.isEmpty
 | _=>False
theorem pU {κ:Type} {kvs:List (κ×V)} {vs:List (κ×Value)} (r:KV kvs vs):(!vs.isEmpty)= !kvs.isEmpty:=by
 cases r <;> rfl
theorem jW {xs:List V} {its:List Value} (r:Vals xs its):(!its.toArray.isEmpty)= !xs.isEmpty:=by
 cases r <;> simp
theorem iU:(sizeLine:Nat) <2^63:=by rw [sizeLine_eq];decide
theorem wP:zK X (fun x H Q=> ∃ k,yY X.K x H k/\Q k H):=by
 intro pins s σ H x v Q I rx h
 obtain ⟨k,e,q⟩:=h
 have hl:=iU
 have hs:sizeLine=16777216:=sizeLine_eq
 cases x with
 | non=>
  cases rx
  have e':k=false:=e
  subst e'
  exact truthy_none ⟨H,I,q⟩
 | bl b=>
  cases rx
  have e':k=b:=e
  subst e'
  exact wpAny_truthy_bool ⟨H,I,q⟩
 | int i=>
  obtain ⟨t,rfl⟩:=rx
  have e':k=(i !=0):=e
  subst e'
  exact PySem.P.truthy_int ⟨H,I,q⟩
 | str y=>
  obtain ⟨t,rfl⟩:=rx
  obtain ⟨hy,e'⟩:y.length<=sizeLine/\k=((y.length:Int)!=0):=e
  subst e'
  exact PySem.P.truthy_str (by lia) ⟨H,I.tok _,q⟩
 | byt y=>
  obtain ⟨t,rfl⟩:=rx
  obtain ⟨hy,e'⟩:y.size<=sizeLine/\k=((y.size:Int)!=0):=e
  subst e'
  exact PySem.W.truthy_bytes (by lia) ⟨H,I.tok _,q⟩
 | ref p=>
  cases rx
  have e':(∃ xs,SqL X.K H p xs/\k= !xs.isEmpty)\/(∃ xs,SqT X.K H p xs/\k= !xs.isEmpty)\/ ∃ kvs,H p=some (.dK kvs)/\k= !kvs.isEmpty:=e
  rcases e' with ⟨xs,hx,e'⟩ | ⟨xs,hx,e'⟩ | ⟨kvs,hx,e'⟩
  ·subst e'
   obtain ⟨its,r,pl,hz⟩:=I.list hx
   have hlen:=r.length
   exact wpAny_truthy_list pl.isList (by simp only [List.size_toArray];lia) ⟨H,I.tok _,by rw [jW r];exact q⟩
  ·subst e'
   obtain ⟨its,r,pl,hz⟩:=I.tuple hx
   have hlen:=r.length
   exact truthy_tuple pl (by simp only [List.size_toArray];lia) ⟨H,I.tok _,by rw [jW r];exact q⟩
  ·subst e'
   obtain ⟨hz,hS,vs,r,m⟩:kvs.length<=sizeLine/\(p==sysModules)=false/\ ∃ vs,KV kvs vs/\s.heap.DictOf (aU X.prog X.w) p vs:=I.hok p _ hx
   have hlen:kvs.length=vs.length:=Paired.length r
   exact wpAny_truthy_dict hS m (by lia) ⟨H,I.tok _,by rw [pU r];exact q⟩
 | _=>exact (show False from e).elim
theorem nX (ha:PE X a ta) (he: ∀ whole,isTrue a X.env whole=(do let v <- whole;standAt a.pos;holding [v] (truthy v))):
  PT X a (fun σ H Q=>ta σ H fun x H'=> ∃ k,yY X.K x H' k/\Q k H'):=by
 intro pins s σ H Q I h
 exact isTrue_plain (thn (ha pins s σ H _ I h) fun v s1 ⟨x,H1,I1,r1,q1⟩=>wP pins s1 σ H1 x v Q I1 r1 q1) (he _)
theorem gQ:OpR X (binaryOp .Add) (fun x y H Q=> ∃ i j,x=.str i/\y=.str j/\i.length+j.length<=sizeLine/\Q (.str (i++j)) H):=by
 intro pins s σ H x y v u Q I rx ry h
 obtain ⟨i,j,rfl,rfl,hz,q⟩:=h
 obtain ⟨t,rfl⟩:=rx
 obtain ⟨t',rfl⟩:=ry
 exact add_str (fun t' tk=>⟨.str (i++j),H,I.tok _,⟨_,rfl⟩,q⟩) hz
theorem iZ {x:V} {us:List Value} (r:Vals [x] us): ∃ u,us=[u]/\RelV x u:=by
 cases r with
 | cons r1 r2=>cases r2;exact ⟨_,rfl,r1⟩
theorem qg {x y:V} {us:List Value} (r:Vals [x,y] us): ∃ u w',us=[u,w']/\RelV x u/\RelV y w':=by
 cases r with
 | cons r1 r2=>
  cases r2 with
  | cons r3 r4=>cases r4;exact ⟨_,_,rfl,r1,r3⟩
theorem sI (hc:X.calm=true):fb X (.builtin "max") (fun xs H Q=> ∃ i j,xs=[.int i,.int j]/\Q (.int (if j>i then j else i)) H):=by
 intro pins s σ H xs us Q I r h
 obtain ⟨i,j,rfl,q⟩:=h
 obtain ⟨u,w',rfl,⟨t,rfl⟩,⟨t',rfl⟩⟩:=qg r
 refine max_two_ints (I.ok.hd hc) fun h' tk k=>⟨_,H,I.kept k,?_,q⟩
 by_cases hj:j>i
 ·rw [if_pos hj,if_pos hj];exact ⟨_,rfl⟩
 ·rw [if_neg hj,if_neg hj];exact ⟨_,rfl⟩
theorem iY (hc:X.calm=true):fb X (.builtin "min") (fun xs H Q=> ∃ i j,xs=[.int i,.int j]/\Q (.int (if j<i then j else i)) H):=by
 intro pins s σ H xs us Q I r h
 obtain ⟨i,j,rfl,q⟩:=h
 obtain ⟨u,w',rfl,⟨t,rfl⟩,⟨t',rfl⟩⟩:=qg r
 refine min_two_ints (I.ok.hd hc) fun h' tk k=>⟨_,H,I.kept k,?_,q⟩
 by_cases hj:j<i
 ·rw [if_pos hj,if_pos hj];exact ⟨_,rfl⟩
 ·rw [if_neg hj,if_neg hj];exact ⟨_,rfl⟩
theorem gD:fb X (.type "int") (fun xs H Q=>(∃ i,xs=[.int i]/\Q (.int i) H)\/ ∃ k,xs=[.bl k]/\Q (.int (if k then 1 else 0)) H):=by
 intro pins s σ H xs us Q I r h
 rcases h with ⟨i,rfl,q⟩ | ⟨k,rfl,q⟩
 ·obtain ⟨u,rfl,t,rfl⟩:=iZ r
  exact call_int_int ⟨.int i,H,I,⟨_,rfl⟩,q⟩
 ·obtain ⟨u,rfl,r1⟩:=iZ r
  cases r1
  exact call_int_bool ⟨.int (if k then 1 else 0),H,I.tok _,⟨_,rfl⟩,q⟩
end
structure ObjM (h:Heap) (x dx C:Addr) (mA:Str->Option Value):Prop where
 obj:h.get? x=some (PySem.W.instObj C dx)
 ns:h.Ns1 dx mA
 ne:dx≠x
theorem rZ {h:Heap} {dx:Addr} {mA:Str->Option Value} (n:h.Ns1 dx mA): ∃ od,h.get? dx=some od/\ ∀ name,PySem.W.lookIn name od=some (mA name):=by
 obtain ⟨o,es,ep,ho,hd,hk,_,hm⟩:=n
 refine ⟨o,ho,fun name=>?_⟩
 have e:=hm name
 unfold nsFind findBy at e
 rw [<- Array.find?_toList]at e
 unfold PySem.W.lookIn
 rw [hd]
 dsimp only
 split
 ·rename_i y q
  rw [q]at e
  exact congrArg some e
 ·rename_i q
  rw [q]at e
  have a:es.toList.any (·.refKey)=false:=by
   rw [List.any_eq_false]
   intro y hy
   obtain ⟨z,t,hkey⟩:=hk y (Array.mem_toList_iff.mp hy)
   simp [DictEntry.refKey,hkey]
  have a': ¬ es.toList.any (·.refKey)=true:=by rw [a];exact Bool.false_ne_true
  rw [if_neg a']
  exact congrArg some e
theorem ObjM.look {h:Heap} {x dx C:Addr} {mA:Str->Option Value} (I:ObjM h x dx C mA): ∃ od,PySem.W.InstAt h x (PySem.W.instObj C dx) C (some od)/\ ∀ name,PySem.W.lookIn name od=some (mA name):=
 let ⟨od,ho,hl⟩:=rZ I.ns
 ⟨od,⟨I.obj,rfl,rfl,ho⟩,hl⟩
theorem RelO.some_of {v:V} {o:Option Value} (r:RelO (some v) o): ∃ u,o=some u/\RelV v u:=by
 cases o with
 | none=>exact (show False from r).elim
 | some u=>exact ⟨u,rfl,r⟩
section
variable {P:Program} {w:World} {H H':Hp} {h h':Heap} {a C dx:Addr} {fs fs':List (Str×V)}
theorem vX (hok:HOk P w H h) (e:H a=some (.ins C dx fs)): ∃ mA,ObjM h a dx C mA/\(∀ f,RelO (fs.lookup f) (mA f))/\PySem.Within mA (fs.map (·.1))/\fs.length<=1000/\H dx=some (.own a):=by
 obtain ⟨d,z,ne,ob,mA,n,r,q⟩:=(show ObjOk P w H h a (.ins C dx fs)from hok a _ e)
 exact ⟨mA,⟨ob,n,ne⟩,r,q,z,d⟩
end
structure Cls (K:PySem.W.Frag) (C:Addr):Prop where
 pg:PySem.W.plainGet K C Str.empty=true
 hd:PySem.W.hasDictIn K C=true
 po:PySem.W.plainOver K C=true
 sa:PySem.W.findIn K (.ref C) "__setattr__"=some (some (.builtin "object.__setattr__"))
theorem Cls.get {K:PySem.W.Frag} {C:Addr} (c:Cls K C) (f:Str):PySem.W.plainGet K C f=true:=c.pg
section
variable {X:Cx} {pins:List (Addr×Obj)} {σ:St} {H:Hp} {s:Shared} {A:Around} {E:Value->Shared->Prop} {Q:Value->Shared->Prop} {c:Value} {b:Bool}
inductive iA (K:PySem.W.Frag) (H:Hp):V->Value->Prop where
 | non:iA K H .non (.type "NoneType")
 | bl (x:Bool):iA K H (.bl x) (.type "bool")
 | int (i:Int):iA K H (.int i) (.type "int")
 | str (x:Str):iA K H (.str x) (.type "str")
 | flt (x:UInt64):iA K H (.flt x) (.type "float")
 | lst {a:Addr} {xs:List V} (e:H a=some (.lst xs)):iA K H (.ref a) (.type "list")
 | frz {a:Addr} {o:Obj} {xs:List V} (e:H a=some (.frz o (.lst xs))):iA K H (.ref a) (.type "list")
 | tup {a:Addr} {xs:List V} (e:H a=some (.tup xs)):iA K H (.ref a) (.type "tuple")
 | dK {a:Addr} {kvs:List (Key×V)} (e:H a=some (.dK kvs)):iA K H (.ref a) (.type "dict")
 | dT {a:Addr} {kvs:List (List Key×V)} (e:H a=some (.dT kvs)):iA K H (.ref a) (.type "dict")
 | ins {a C dx:Addr} {fs:List (Str×V)} (e:H a=some (.ins C dx fs)) (cl:Cls K C) (ha:PySem.W.findIn K (.ref C) "__class__"=some (some (.builtin "object.__class__")))
   (hn:PySem.W.specialIn K (.builtin "object.__class__") "__get__"=some (some (.builtin "getset_descriptor.__get__"))) (htk:PySem.W.takesIn K (.builtin "object.__class__")=some true)
   (hm:PySem.W.mroIn K C (.type "object")=some true):iA K H (.ref a) (.ref C)
theorem si {x:V} {u t:Value} (I:Inv X pins σ H s) (rx:RelV x u) (ty:iA X.K H x t) (e:PySem.W.kitOne X.K t c=some b) (h: ∀ tk,Q (.bool b) {s with toks:=tk}):
  wpAny (model X.prog X.w) A (call (.builtin "isinstance") [u,c]) Q E s:=by
 cases ty with
 | non=>cases (show u=Value.none from rx);exact PySem.W.kia_one PySem.W.kitx_none I.kIn True.intro e (fun z=>nomatch z) h
 | bl y=>cases (show u=Value.bool y from rx);exact PySem.W.kia_one PySem.W.kitx_bool I.kIn True.intro e (fun z=>nomatch z) h
 | int i=>obtain ⟨t,q⟩:=(show ∃ t,u=Value.int i t from rx);cases q;exact PySem.W.kia_one PySem.W.kitx_int I.kIn True.intro e (fun z=>nomatch z) h
 | str y=>obtain ⟨t,q⟩:=(show ∃ t,u=Value.str y t from rx);cases q;exact PySem.W.kia_one PySem.W.kitx_str I.kIn True.intro e (fun z=>nomatch z) h
 | flt y=>obtain ⟨t,q⟩:=(show ∃ t,u=Value.float y t from rx);cases q;exact PySem.W.kia_one PySem.W.kitx_float I.kIn True.intro e (fun z=>nomatch z) h
 | @lst a xs ea=>
  cases (show u=Value.ref a from rx)
  obtain ⟨_,_,n,_,h1⟩:=(show ObjOk X.prog X.w H s.heap a (.lst xs)from I.hok a _ ea)
  exact PySem.W.kia_one PySem.W.kitx_list I.kIn ⟨_,h1,rfl⟩ e (fun z=>nomatch z) h
 | @frz a ob xs ea=>
  cases (show u=Value.ref a from rx)
  obtain ⟨_,_,_,n,_,h1⟩:=(show ObjOk X.prog X.w H s.heap a (.frz ob (.lst xs))from I.hok a _ ea)
  exact PySem.W.kia_one PySem.W.kitx_list I.kIn ⟨_,h1,rfl⟩ e (fun z=>nomatch z) h
 | @tup a xs ea=>
  cases (show u=Value.ref a from rx)
  obtain ⟨_,_,_,p⟩:=(show ObjOk X.prog X.w H s.heap a (.tup xs)from I.hok a _ ea)
  obtain ⟨o,h1,h2,_⟩:=p
  exact PySem.W.kia_one PySem.W.kitx_tuple I.kIn ⟨o,h1,h2⟩ e (fun z=>nomatch z) h
 | @dK a kvs ea=>
  cases (show u=Value.ref a from rx)
  obtain ⟨_,_,vs,_,p⟩:=(show ObjOk X.prog X.w H s.heap a (.dK kvs)from I.hok a _ ea)
  obtain ⟨o,es,ep,h1,h2,_⟩:=p
  exact PySem.W.kia_one PySem.W.kitx_dict I.kIn ⟨o,h1,h2.1⟩ e (fun z=>nomatch z) h
 | @dT a kvs ea=>
  cases (show u=Value.ref a from rx)
  obtain ⟨_,_,xs,_,o,es,ep,h1,h2,_⟩:=(show ObjOk X.prog X.w H s.heap a (.dT kvs)from I.hok a _ ea)
  exact PySem.W.kia_one PySem.W.kitx_dict I.kIn ⟨o,h1,h2.1⟩ e (fun z=>nomatch z) h
 | @ins a C dx fs ea cl ha hn htk hm=>
  cases (show u=Value.ref a from rx)
  obtain ⟨mA,O,_⟩:=vX I.hok ea
  obtain ⟨od,J,_⟩:=O.look
  exact PySem.W.kia_one (PySem.W.kitx_own (cl.get _) cl.hd ha hn htk hm) I.kIn J e (fun z=>nomatch z) h
end
structure Room (k:Nat) (A:Around):Prop where
 hd:A.handled=none
 dp:A.depth+3*k+5<recursionLimit
 un:A.units+16*k+200<cLine
theorem Room.mono {j k:Nat} {A:Around} (r:Room k A) (h:j<=k):Room j A:=⟨r.hd,by have:=r.dp;lia,by have:=r.un;lia⟩
theorem Room.deeper {k:Nat} {A:Around} (r:Room (k+1) A) (env:Env):Room k (A.deeper env):=
 ⟨r.hd,by have:=r.dp;show A.depth+1+3*k+5<_;lia,by have:=r.un;show A.units+3+16*k+200<_;lia⟩
theorem Room.depth {k:Nat} {A:Around} (r:Room k A):A.depth<recursionLimit:=by have:=r.dp;lia
theorem Room.units {k:Nat} {A:Around} (r:Room k A):A.units+64<cLine:=by have:=r.un;lia
theorem Room.units0 {k:Nat} {A:Around} (r:Room k A):A.units<cLine:=by have:=r.un;lia
noncomputable def zf:TA:=fun _ H Q=>Q [] H
noncomputable def wD (ta:TE) (tr:TA):TA:=fun σ H Q=>ta σ H fun x H1=>tr σ H1 fun xs H2=>Q (x::xs) H2
section
variable {X:Cx} {e:Expr} {es:List Expr} {te:TE} {t:TA} {pos:Pos}
theorem ad:PA X [] zf:=fun _ _ _ _ H Q I h=>Calls.spliced_nil ⟨[],H,I,.nil,h⟩
theorem aa (ha:PE X e te) (hr:PA X es t) (hs:starEach (e::es) X.env=(false,eval e X.env)::starEach es X.env:=by rfl):PA X (e::es) (wD te t):=by
 intro pos pins s σ H Q I h
 rw [hs]
 show wpAny _ _ (spliced ((false,eval e X.env)::backTo pos (starEach es X.env))) _ _ s
 refine Calls.spliced_cons (thn (ha pins s σ H _ I h) fun u s1 ⟨x,H1,I1,r1,q1⟩=>?_)
 exact thn (hr pos pins s1 σ H1 _ I1 q1) fun us s2 ⟨xs,H2,I2,r2,q2⟩=>⟨x::xs,H2,I2,.cons r1 r2,q2⟩
noncomputable def zc (t:TA):TE:=fun σ H Q=>t σ H fun xs H1=>xs.length<=sizeLine/\ ∀ p,H1 p=none->Q (.ref p) (upd H1 p (.tup xs))
noncomputable def yk (t:TA):TE:=fun σ H Q=>t σ H fun xs H1=>xs.length<=sizeLine/\ ∀ p,H1 p=none->Q (.ref p) (upd H1 p (.lst xs))
theorem aK {x1} (h:PA X es t):PE X (.Tuple es x1 pos) (zc t):=by
 intro pins s σ H Q I hq
 refine wpAny_Tuple_spliced (thn (h pos pins s σ H _ I hq) fun us s1 ⟨xs,H1,I1,r,z,q⟩=>⟨by rw [<- r.length];exact z,?_⟩)
 have hf:H1 s1.heap.objs.size=none:=I1.hok.fresh (Nat.le_refl _)
 refine ⟨.ref s1.heap.objs.size,upd H1 s1.heap.objs.size (.tup xs),I1.laid (t':=s1.toks) (fun b u e=>Heap.get?_push_of_some _ e) (Nat.le_refl _) ?_,rfl,q _ hf⟩
 exact ⟨z,us,r,⟨_,Heap.get?_push_size _ rfl,rfl,_,rfl⟩⟩
theorem aN (h:PA X es t):PE X (.List es pos) (yk t):=by
 intro pins s σ H Q I hq
 refine wpAny_List_spliced (thn (h pos pins s σ H _ I hq) fun us s1 ⟨xs,H1,I1,r,z,q⟩=>⟨by rw [<- r.length];exact z,?_⟩)
 have hf:H1 s1.heap.objs.size=none:=I1.hok.fresh (Nat.le_refl _)
 refine ⟨.ref s1.heap.objs.size,upd H1 s1.heap.objs.size (.lst xs),I1.laid (t':=s1.toks) (fun b u e=>Heap.get?_push_of_some _ e) (Nat.le_refl _) ?_,rfl,q _ hf⟩
 exact ⟨z,us,0,r,Heap.get?_push_size _ rfl⟩
end
noncomputable abbrev Sp:=List V->Hp->VK->XK->Prop
noncomputable abbrev CXT:=List Env->Hp->Shared->XK->Value->Shared->Prop
structure wA (P:Program) (w:World) (K:PySem.W.Frag) (mg:Str->Option Value) (base:Heap) (A:Around) (outer:List Env) (s:Shared) (H:Hp):Prop where
 frames:A.frames=some outer
 mod:Mod K mg base
 bs: ∀ b o,base.get? b=some o->s.heap.get? b=some o/\H b=none
 bsz:base.objs.size<=s.heap.objs.size
 funs:s.heap.FunFrames base outer
 frf: ∀ b∈frs outer,H b=none
 hok:HOk P w H s.heap
 bare:AllBare s.gens
inductive CE (outer:List Env) (P:Program) (w:World) (H:Hp) (s:Shared) (Q:VK) (u:Value) (s':Shared):Prop
 | mk: ∀ v H',(s'.os=s.os)->(AllBare s'.gens)->(Un (frs outer) [] H H' s.heap s'.heap)->(HOk P w H' s'.heap)->(RelV v u)->(Q v H')->CE outer P w H s Q u s'
noncomputable def CR (CX:CXT) (outer:List Env) (P:Program) (w:World) (H:Hp) (s:Shared) (Q:VK) (E:XK) (r:Result) (s':Shared):Prop:=
 match r with
 | .ok (.ret u)=>CE outer P w H s Q u s'
 | .ok _=>False
 | .error e=>CX outer H s E e s'
structure aE (P:Program) (w:World) (K:PySem.W.Frag) (mg:Str->Option Value) (base:Heap) (CX:CXT) (k:Nat) (f:Addr) (fd:FuncData) (ps:List Str) (sp:Sp):Prop where
 len: ∀ vs H Q E,sp vs H Q E->vs.length=ps.length
 run: ∀ (A:Around) (outer:List Env) (s:Shared) (H:Hp) (args:Args) (us:List Value) (vs:List V) (Q:VK) (E:XK),Room k A->wA P w K mg base A outer s H->BindsTo s fd args (ps.zip us)->Vals vs us->sp vs H Q E->
  codeAny (model P w) A (.call (.ref f) args) (CR CX outer P w H s Q E) s
section
variable {X:Cx} {pins:List (Addr×Obj)} {σ:St} {H:Hp} {s s':Shared}
theorem Inv.env0 (I:Inv X pins σ H s):wA X.prog X.w X.K X.mg X.base X.A X.stack s H:=
 ⟨I.ok.frames,I.ok.mod,I.bs,Nat.le_trans I.ok.bsz I.sz,I.stack,I.stkFree,I.hok,I.bare⟩
theorem Inv.after {Q:VK} {u:Value} (I:Inv X pins σ H s) (h:CE X.stack X.prog X.w H s Q u s'):EP X pins σ Q u s':=by
 obtain ⟨v,H',os,bare,un,hok,r,q⟩:=h
 obtain ⟨hh,g,d,t,os'⟩:=s'
 obtain rfl:os'=s.os:=os
 exact ⟨v,H',I.call (h':=hh) (g':=g) (d':=d) (t':=t) (ch:=[]) un hok bare (fun b z=>absurd z (by simp)),r,q⟩
end
noncomputable def yn (sp:Sp) (dvs:List V) (E:XK) (t:TA):TE:=fun σ H Q=>t σ H fun vs H1=>sp (vs++dvs) H1 Q E
noncomputable def Binds (K:PySem.W.Frag) (fd:FuncData) (ps:List Str) (ds:List Value):Prop:=
 ∀ (s:Shared) (us:List Value),K.In s.heap->(us++ds).length=ps.length->BindsTo s fd ⟨us,[]⟩ (ps.zip (us++ds))
theorem Binds.all {K:PySem.W.Frag} {fd:FuncData} {ps:List Str} (h: ∀ us:List Value,us.length=ps.length->bindArgs fd ⟨us,[]⟩=pure (ps.zip us)):Binds K fd ps []:=fun s us _ hl=>by
 rw [List.append_nil]at hl ⊢
 exact .of_eq (h us hl)
noncomputable def kg (CX:CXT) (X:Cx) (E:XK):Prop:= ∀ (pins:List (Addr×Obj)) (σ:St) (H:Hp) (s:Shared) (e:Value) (s':Shared),Inv X pins σ H s->CX X.stack H s E e s'->X.xe e s'
section
variable {X:Cx} {CX:CXT} {k:Nat} {f C:Addr} {fd:FuncData} {ps:List Str} {sp:Sp} {dvs:List V} {ds:List Value} {E:XK} {x m:Str} {p pos apos:Pos} {e o:Expr} {es:List Expr} {ta:TE} {t:TA}
theorem xa {pins:List (Addr×Obj)} {σ:St} {H:Hp} {s:Shared} {Q:VK} {us:List Value} {vs:List V} (F:aE X.prog X.w X.K X.mg X.base CX k f fd ps sp) (hr:Room k X.A) (hb:Binds X.K fd ps ds) (hd:Vals dvs ds) (hx:kg CX X E)
  (I:Inv X pins σ H s) (r:Vals vs us) (h:sp (vs++dvs) H Q E):wpAny (model X.prog X.w) X.A (call (.ref f) us) (EP X pins σ Q) X.xe s:=by
 have r2:Vals (vs++dvs) (us++ds):=r.append hd
 have hl:(us++ds).length=ps.length:=by rw [<- r2.length];exact F.len _ _ _ _ h
 refine wpAny_call (codeAny_mono (F.run X.A X.stack s H ⟨us,[]⟩ (us++ds) (vs++dvs) Q E hr I.env0 (hb s us I.kIn hl) r2 h) fun r s' hq=>?_)
 cases r with
 | error e=>exact hx pins σ H s e s' I hq
 | ok fl=>
  cases fl with
  | ret u=>exact I.after hq
  | next=>exact False.elim hq
  | brk=>exact False.elim hq
  | cont=>exact False.elim hq
theorem al (F:aE X.prog X.w X.K X.mg X.base CX k f fd ps sp) (hr:Room k X.A) (hg:Gl X x) (hm:X.mg x=some (.ref f)) (hk:PySem.W.keepIn X.K (.ref f)=true) (hb:Binds X.K fd ps ds) (hd:Vals dvs ds) (hx:kg CX X E)
  (ha:PA X (e::es) t) (hdb:(x==("__debug__":Str))=false:=by decide) (he:starEach (e::es) X.env=(false,eval e X.env)::starEach es X.env:=by rfl) (hpl:(backTo pos (starEach es X.env)).any (·.1)=false:=by rfl):
  PE X (.Call (.Name x p) (e::es) [] pos) (yn sp dvs E t):=by
 intro pins s σ H Q I h
 refine wpAny_Call_Name_kw (im I hg hm ?_ hdb)
 refine PySem.W.callWith_K (h₀:=X.base) I.ok.mod.kin hk (thn (ha pos pins s σ H _ I h) fun us s1 ⟨vs,H1,I1,r,q⟩=>⟨I1.kIn,?_⟩) he hpl
 exact xa F hr hb hd hx I1 r q
end
structure aG (N P:List Str) (sc:Scope):Prop where
 kind:sc.kind=.function
 co:sc.isCoroutine=false
 gen:sc.isGenerator=false
 nd:N.Nodup
 pre:N.take P.length=P
 par: ∀ x∈P,sc.names.lookup x=some .local\/sc.names.lookup x=some .cell
 nofree: ∀ y∈sc.names,y.2≠ .free
theorem fsc {N P:List Str} {sc:Scope} (kind_:sc.kind=.function:=by rfl) (co_:sc.isCoroutine=false:=by rfl) (gen_:sc.isGenerator=false:=by rfl) (nd_:N.Nodup:=by decide +kernel) (pre_:N.take P.length=P:=by rfl) (par_: ∀ x∈P,sc.names.lookup x=some .local\/sc.names.lookup x=some .cell:=by decide +kernel) (nofree_: ∀ y∈sc.names,y.2≠ .free:=by decide +kernel):aG N P sc:=⟨kind_,co_,gen_,nd_,pre_,par_,nofree_⟩
theorem lu {kindOf:Str->Option NameKind} {x:Str}: ∀ {binds:List (Str×Value)} {m:Str->Option Value},(∀ v,(x,v)∉binds)->bindL kindOf binds m x=m x
 | [],_,_=>rfl
 | (n,v)::r,m,h=>by
  unfold bindL
  rw [lu fun w hw=>h w (List.mem_cons_of_mem _ hw)]
  split
  ·have:x≠n:=by rintro rfl;exact h v List.mem_cons_self
   simp [this]
  ·rfl
theorem lx {kindOf:Str->Option NameKind} {x:Str}: ∀ {binds:List (Str×Value)} {m:Str->Option Value},(∀ v,(x,v)∉binds)->bindC kindOf binds m x=m x
 | [],_,_=>rfl
 | (n,v)::r,m,h=>by
  unfold bindC
  rw [lx fun w hw=>h w (List.mem_cons_of_mem _ hw)]
  split
  ·rfl
  ·have:x≠n:=by rintro rfl;exact h v List.mem_cons_self
   simp [this]
theorem lv {kindOf:Str->Option NameKind} {x:Str} {v:Value}: ∀ {P:List Str} {vs:List Value} {i:Nat} {m:Str->Option Value},P.Nodup->P[i]? =some x->vs[i]? =some v->kindOf x=some .local->
  bindL kindOf (P.zip vs) m x=some v
 | [],_,_,_,_,h,_,_=>by simp at h
 | _::_,[],_,_,_,_,h,_=>by simp at h
 | p::P,w::vs,0,m,nd,h1,h2,hk=>by
  simp at h1 h2;subst h1;subst h2
  show bindL kindOf ((p,w)::P.zip vs) m p=_
  unfold bindL
  rw [lu fun v hv=>(List.nodup_cons.mp nd).1 (List.of_mem_zip hv).1,if_pos hk]
  simp
 | p::P,w::vs,i+1,m,nd,h1,h2,hk=>by
  show bindL kindOf ((p,w)::P.zip vs) m x=_
  unfold bindL
  exact lv (i:=i) (List.nodup_cons.mp nd).2 (by simpa using h1) (by simpa using h2) hk
theorem ly {kindOf:Str->Option NameKind} {x:Str} {v:Value}: ∀ {P:List Str} {vs:List Value} {i:Nat} {m:Str->Option Value},P.Nodup->P[i]? =some x->vs[i]? =some v->kindOf x≠some .local->
  bindC kindOf (P.zip vs) m x=some v
 | [],_,_,_,_,h,_,_=>by simp at h
 | _::_,[],_,_,_,_,h,_=>by simp at h
 | p::P,w::vs,0,m,nd,h1,h2,hk=>by
  simp at h1 h2;subst h1;subst h2
  show bindC kindOf ((p,w)::P.zip vs) m p=_
  unfold bindC
  rw [lx fun v hv=>(List.nodup_cons.mp nd).1 (List.of_mem_zip hv).1,if_neg hk]
  simp
 | p::P,w::vs,i+1,m,nd,h1,h2,hk=>by
  show bindC kindOf ((p,w)::P.zip vs) m x=_
  unfold bindC
  exact ly (i:=i) (List.nodup_cons.mp nd).2 (by simpa using h1) (by simpa using h2) hk
noncomputable def gE (N:List Str) (vs:List V):St:=vs.map some++List.replicate (N.length-vs.length) none
noncomputable def er (CX:CXT) (P:Program) (w:World) (K:PySem.W.Frag) (mg:Str->Option Value) (base:Heap) (N:List Str) (qual:Str) (scope:Scope) (f:Addr) (cd:Value) (A:Around) (outer:List Env) (s:Shared) (H:Hp) (E:XK):Cx where
 prog:=P
 w:=w
 K:=K
 mg:=mg
 base:=base
 A:=A.deeper (envOfC qual scope s.heap.objs.size f cd)
 N:=N
 s₀:=s
 H₀:=H
 env:=envOfC qual scope s.heap.objs.size f cd
 outer:=outer
 stack:=envOfC qual scope s.heap.objs.size f cd::outer
 ex:=[]
 calm:=true
 fn:=fun _=>true
 pn:=[]
 xe:=fun e s'=>wpAny (model P w) (A.deeper (envOfC qual scope s.heap.objs.size f cd)) (leaving (envOfC qual scope s.heap.objs.size f cd) e) (fun _ s''=>CX outer H s E e s'') (fun e' s''=>CX outer H s E e' s'') s'
theorem oK {sc:Scope} {n:Nat} {x:Str} (h:sc.names.lookup x=some .cell): ∃ c,(cellsFrom n sc.names []).lookup x=some c:=by
 have q:=PySem.W.cellsFrom_some sc.names n [] (.inl h)
 exact Option.isSome_iff_exists.mp q
theorem sj {CX:CXT} {P:Program} {w:World} {K:PySem.W.Frag} {mg:Str->Option Value} {base:Heap} {N ps:List Str} {qual:Str} {scope:Scope} {f:Addr} {cd:Value} {A:Around} {outer:List Env} {s s1:Shared} {H:Hp} {E:XK} {us:List Value} {vs:List V}
  (S:aG N ps scope) (hd:A.handled=none) (e0:wA P w K mg base A outer s H) (hl:vs.length=ps.length) (r:Vals vs us)
  (x:InCallC s s.heap.objs.size (bindL (envOfC qual scope s.heap.objs.size f cd).kindOf (ps.zip us) fun _=>none) (cellsFrom (s.heap.objs.size+1) scope.names []) (bindC (envOfC qual scope s.heap.objs.size f cd).kindOf (ps.zip us) fun _=>none) s1):
  Inv (er CX P w K mg base N qual scope f cd A outer s H E) [] (gE N vs) H s1:=by
 have hpl:ps.length<=N.length:=by have:=congrArg List.length S.pre;rw [List.length_take]at this;lia
 obtain ⟨h1,tk,rfl,hk⟩:=x.done
 have noA: ∀ b:Addr,b∉(er CX P w K mg base N qual scope f cd A outer s H E).ex:=fun b z=>absurd (show b∈([]:List Addr)from z) (by simp)
 refine ⟨⟨e0.mod,S.kind,rfl,rfl,Nat.le_refl _,fun y z c h1 h2=>?_,fun y hy=>?_,fun y c _ h=>?_,fun _=>hd,Around.frames_deeper e0.frames,.inr ⟨rfl,rfl⟩,fun b z=>absurd z (noA b),e0.bs,e0.bsz,fun b _ _=>noA b,fun b z=>absurd z (noA b),e0.funs,e0.frf⟩,
  rfl,e0.bare,Un.kept hk,⟨_,x.toInCall.ns,fun i y v h1 h2 h3=>?_⟩,fun y c h=>⟨_,x.cell y c h⟩,e0.hok.fresh (Nat.le_refl _),fun y c h=>?_,fun p hp=>absurd (show p∈([]:List (Addr×Obj))from hp) (by simp),e0.hok.kept hk,?_⟩
 ·exact name_of_addr x.apart (PySem.mem_of_lookup h1) (PySem.mem_of_lookup h2)
 ·have hy:scope.names.lookup y=some .cell\/scope.names.lookup y=some .free:=hy
  rcases hy with hy | hy
  ·exact oK hy
  ·exact absurd rfl (S.nofree _ (PySem.mem_of_lookup hy))
 ·exact Nat.le_of_lt (x.above y c (PySem.mem_of_lookup h))
 ·have hi:i<vs.length:=by
   unfold gE at h2
   by_cases hi:i<vs.length
   ·exact hi
   ·rw [List.getElem?_append_right (by simpa using hi)]at h2
    rw [List.getElem?_replicate]at h2
    split at h2 <;> cases h2
  have ha:vs[i]? =some v:=by
   unfold gE at h2
   rw [List.getElem?_append_left (by simpa using hi),List.getElem?_map]at h2
   cases e:vs[i]? with
   | none=>rw [e]at h2;cases h2
   | some a=>rw [e]at h2;cases h2;rfl
  obtain ⟨u,hu,rv⟩:=r.get ha
  have hp:ps[i]? =some y:=by
   rw [<- S.pre,List.getElem?_take_of_lt (by lia)];exact h1
  have ndP:ps.Nodup:=by rw [<- S.pre];exact S.nd.sublist (List.take_sublist _ _)
  refine ⟨u,rv,?_⟩
  rcases S.par y (List.mem_of_getElem? hp)with k | k
  ·exact .inl ⟨k,lv ndP hp hu k⟩
  ·obtain ⟨c,e⟩:=oK (n:=s.heap.objs.size+1) k
   refine .inr ⟨.inl k,c,e,?_⟩
   have q:=x.cell y c e
   rw [ly ndP hp hu (by show scope.names.lookup y≠_;rw [k];decide)]at q
   exact q
 ·exact e0.hok.fresh (Nat.le_of_lt (x.above y c (PySem.mem_of_lookup h)))
 ·unfold gE
  show _=N.length
  rw [List.length_append,List.length_map,List.length_replicate]
  lia
theorem wL {CX:CXT} {P:Program} {w:World} {K:PySem.W.Frag} {mg:Str->Option Value} {base:Heap} {k:Nat} {f:Addr} {name qual:Str} {params:Arguments} {body:List Stmt} {scope:Scope} {dV kV doc pm cdv ct oc:Value} {an od:Option Addr}
  {osl:Array (Option Value)} {N ps:List Str} {sp:Sp} (lk:K.lookup f=some ⟨oc,od,.func (PySem.W.fnOf name qual params body scope dV kV doc pm an cdv ct),osl⟩) (hcd:PySem.W.codeIn K cdv qual=true) (S:aG N ps scope)
  (len: ∀ vs H Q E,sp vs H Q E->vs.length=ps.length)
  (hbody: ∀ (A:Around) (outer:List Env) (s:Shared) (H:Hp) (vs:List V) (Q:VK) (E:XK),Room k (A.deeper (envOfC qual scope s.heap.objs.size f cdv))->sp vs H Q E->
   ∃ t,PSs (er CX P w K mg base N qual scope f cdv A outer s H E) body t/\t {nx:=fun _ H'=>Q .non H',rt:=Q} (gE N vs) H):
  aE P w K mg base CX (k+1) f (PySem.W.fnOf name qual params body scope dV kV doc pm an cdv ct) ps sp:=by
 refine ⟨len,fun A outer s H args us vs Q E hr e0 hb r hsp=>?_⟩
 have hl:=len _ _ _ _ hsp
 have KX:K.In s.heap:=e0.mod.kin.keeps fun b o e=>(e0.bs b o e).1
 have lim:s.heap.NoLimit:=e0.mod.nolimit.keeps fun b o e=>(e0.bs b o e).1
 have hkind: ∀ y∈ps.zip us,scope.names.lookup y.1=some .local\/(scope.names.lookup y.1=some .cell/\((cellsFrom (s.heap.objs.size+1) scope.names []).lookup y.1).isSome=true):=fun ⟨n,v⟩ hy=>by
  rcases S.par n (List.of_mem_zip hy).1 with q | q
  ·exact .inl q
  ·exact .inr ⟨q,PySem.W.cellsFrom_some _ _ _ (.inl q)⟩
 refine codeAny_call_function hr.depth (KX _ _ lk) rfl S.co S.gen rfl (PySem.W.codeRec_of KX hcd) (hb _ _ _ _ ?_)
 refine wpAny_newFunctionEnv_cells S.kind hkind fun env he s1 x=>?_
 subst he
 refine ⟨lim.keeps x.toInCall.keep,codeAny_func ?_⟩
 obtain ⟨t,ht,hq⟩:=hbody A outer s H vs Q E (hr.deeper _) hsp
 have I:Inv (er CX P w K mg base N qual scope f cdv A outer s H E) [] (gE N vs) H s1:=sj S hr.hd e0 hl r x
 refine wpAny_mono (ht [] s1 (gE N vs) H _ I hq) (fun fl s' hs=>?_) fun e s' hs=>hs
 have fin: ∀ {σ':St} {H':Hp} {v:V} {u:Value},Inv (er CX P w K mg base N qual scope f cdv A outer s H E) [] σ' H' s'->RelV v u->Q v H'->CE outer P w H s Q u s':=
  fun {σ' H' v u} J rv q=>⟨v,H',J.os,J.bare,J.base,J.hok,rv,q⟩
 cases fl with
 | ret u=>
  obtain ⟨v,σ',H',J,rv,q⟩:=hs
  exact fin J rv q
 | next=>
  obtain ⟨σ',H',J,q⟩:=hs
  exact fin (v:=V.non) (u:=Value.none) J rfl q
 | brk=>
  obtain ⟨_,_,_,q⟩:=hs
  exact False.elim q
 | cont=>
  obtain ⟨_,_,_,q⟩:=hs
  exact False.elim q
section
variable {X:Cx} {x:Str} {p pos:Pos} {e:Expr} {es:List Expr} {t:TA} {id T:String} {r:List V->Hp->VK->Prop}
noncomputable def tCB (r:List V->Hp->VK->Prop) (t:TA):TE:=fun σ H Q=>t σ H fun vs H1=>r vs H1 Q
theorem aq (hc:fb X (.builtin id) r) (hg:Gl X x) (hm:X.mg x=none) (hv:bootBuiltins x=some (.builtin id)) (ha:PA X (e::es) t) (hn:x≠"__name__":=by decide) (hdb:(x==("__debug__":Str))=false:=by decide)
  (he:starEach (e::es) X.env=(false,eval e X.env)::starEach es X.env:=by rfl) (hpl:(backTo pos (starEach es X.env)).any (·.1)=false:=by rfl):PE X (.Call (.Name x p) (e::es) [] pos) (tCB r t):=by
 intro pins s σ H Q I h
 refine wpAny_Call_Name_kw (jR I hg hm hv ?_ hn hdb)
 exact PyProof.Rows.callWith_builtin1 (thn (ha pos pins s σ H _ I h) fun us s1 ⟨vs,H1,I1,r1,q1⟩=>hc pins s1 σ H1 vs us Q I1 r1 q1) he hpl
theorem bO (hc:fb X (.type T) r) (hg:Gl X x) (hm:X.mg x=none) (hv:bootBuiltins x=some (.type T)) (ha:PA X (e::es) t) (hn:x≠"__name__":=by decide) (hdb:(x==("__debug__":Str))=false:=by decide)
  (he:starEach (e::es) X.env=(false,eval e X.env)::starEach es X.env:=by rfl) (hpl:(backTo pos (starEach es X.env)).any (·.1)=false:=by rfl):PE X (.Call (.Name x p) (e::es) [] pos) (tCB r t):=by
 intro pins s σ H Q I h
 refine wpAny_Call_Name_kw (jR I hg hm hv ?_ hn hdb)
 exact PyProof.Rows.callWith_type1 (thn (ha pos pins s σ H _ I h) fun us s1 ⟨vs,H1,I1,r1,q1⟩=>hc pins s1 σ H1 vs us Q I1 r1 q1) he hpl
end
end L2
namespace HT
open PySem PyProof.Rows
section
variable {prog:Program} {w:World} {A:Around} {E:Value->Shared->Prop} {s:Shared}
theorem cat_tup {t b:Addr} {vs ws:List Value} {Q:Value->Shared->Prop} (ht:IsTup s.heap t vs.toArray) (hb:IsTup s.heap b ws.toArray) (hv:vs≠[])
  (h1:ws=[]->Q (.ref t) s) (h2:ws≠[]->Q (.ref s.heap.objs.size) {s with heap:=s.heap.push {cls:=.type "tuple",data:=.seq (vs++ws).toArray}})
  (hsz:vs.length+ws.length<=sizeLine):wpAny (model prog w) A (binaryOp .Add (.ref t) (.ref b)) Q E s:=by
 obtain ⟨⟨cls,dd,data,sl⟩,ho,hc,n,hd⟩:=id ht
 obtain ⟨⟨cls2,dd2,data2,sl2⟩,ho2,hc2,n2,hd2⟩:=id hb
 simp only at hc hd hc2 hd2
 subst hc hd hc2 hd2
 have e:vs.toArray++ws.toArray=(vs++ws).toArray:=by simp
 by_cases hw:ws=[]
 ·exact concat_meets ⟨_,ho,rfl⟩ ⟨_,ho2,rfl⟩ noFill_tuple_add seq_tuple_add PySem.F.slot_tuple_add PySem.F.entry_tuple_add (PySem.F.args_tuple_add_2 _ _)
   (tuple_addW1 t b vs.toArray ws.toArray n n2 dd dd2 sl sl2 (by simpa using hv) (by simp [hw])) ⟨ho,ho2,h1 hw⟩
 ·refine concat_meets ⟨_,ho,rfl⟩ ⟨_,ho2,rfl⟩ noFill_tuple_add seq_tuple_add PySem.F.slot_tuple_add PySem.F.entry_tuple_add (PySem.F.args_tuple_add_2 _ _)
   (tuple_addW2 t b vs.toArray ws.toArray n n2 dd dd2 sl sl2 (by simpa using hv) (by simpa using hw) (by rw [List.size_toArray,List.size_toArray];exact hsz)) ⟨ho,ho2,?_⟩
  rw [e]
  exact h2 hw
noncomputable def sIx (n d:Nat):Option Int->Nat
 | none=>d
 | some v=>if v<0 then (v+ (n:Int)).toNat else min v.toNat n
theorem sIx_none (n d:Nat):sIx n d none=d:=rfl
theorem sIx_nat (n d k:Nat):sIx n d (some (k:Int))=min k n:=by
 show (if (k:Int) <0 then ((k:Int) + (n:Int)).toNat else min (k:Int).toNat n)=min k n
 rw [if_neg (by lia),Int.toNat_natCast]
theorem w8 (n d:Nat) (hd:d<=n) (o:Option Int):sIx n d o<=n:=by
 cases o with
 | none=>exact hd
 | some v=>
  show (if v<0 then (v+ (n:Int)).toNat else min v.toNat n)<=n
  by_cases hv:v<0
  ·rw [if_pos hv];lia
  ·rw [if_neg hv];exact Nat.min_le_right _ _
theorem qJ (v:Int) (n d:Nat):(if v<0 then max (v+ (n:Int)) 0 else min v (n:Int))=((sIx n d (some v):Nat):Int):=by
 show (if v<0 then max (v+ (n:Int)) 0 else min v (n:Int))=(((if v<0 then (v+ (n:Int)).toNat else min v.toNat n):Nat):Int)
 by_cases hv:v<0
 ·simp only [if_pos hv];lia
 ·simp only [if_neg hv];lia
theorem qc (lo hi:Option Int) (n:Nat):Builtin.Slice.sliceAdjust lo hi 1 (n:Int)=(((sIx n 0 lo:Nat):Int),((sIx n n hi:Nat):Int)):=by
 have h1: ¬ ((1:Int) <0):=by lia
 unfold Builtin.Slice.sliceAdjust
 simp only [h1,if_false]
 refine Prod.ext ?_ ?_
 ·cases lo with
  | none=>rfl
  | some v=>exact qJ v n 0
 ·cases hi with
  | none=>rfl
  | some v=>exact qJ v n n
theorem pF (i j:Nat):Builtin.Slice.slicePlaces (i:Int) (j:Int) 1=j-i:=by
 unfold Builtin.Slice.slicePlaces
 have h1:(1:Int) >0:=by lia
 simp only [h1,if_true,Int.ediv_one]
 split <;> lia
theorem dX {v:Value} {o:Option Int} {Q:Option Int->Shared->Prop} (p:IsPart v o) (h:Q o s):wpAny (model prog w) A (Builtin.Slice.slicePartIndex v) Q E s:=by
 cases p with
 | none=>exact slicePart_none h
 | int i t=>exact slicePart_int h
theorem eR {sl:Addr} {vl vu:Value} {lo hi:Option Int} {n:Nat} {Q:Int×Int×Nat->Shared->Prop} (hs:s.heap.IsSliceOf sl vl vu .none) (pl:IsPart vl lo) (pu:IsPart vu hi)
  (h:Q (((sIx n 0 lo:Nat):Int),1,sIx n n hi-sIx n 0 lo) s):wpAny (model prog w) A (Builtin.Slice.sliceApplied (.ref sl) (pure (n:Int))) Q E s:=by
 obtain ⟨os,hos,hcs,hds⟩:=id hs
 unfold Builtin.Slice.sliceApplied Builtin.Slice.sliceFields
 refine wpAny_bind (wpAny_bind (wpAny_field hos hds (x:=vl) rfl (wpAny_bind (wpAny_field hos hds (x:=vu) rfl (wpAny_bind (wpAny_field hos hds (x:=.none) rfl (wpAny_pure ?_)))))))
 refine wpAny_bind (slicePart_none ?_)
 show wpAny _ _ (if ((1:Int)==0)=true then _ else _) _ _ s
 rw [if_neg (by decide)]
 refine wpAny_bind (dX pl (wpAny_bind (dX pu (wpAny_bind (wpAny_pure ?_)))))
 show wpAny _ _ (match Builtin.Slice.sliceAdjust lo hi 1 (n:Int)with | (lo,hi)=>pure (lo,(1:Int),Builtin.Slice.slicePlaces lo hi 1)) _ _ s
 rw [qc lo hi n]
 show wpAny _ _ (pure (((sIx n 0 lo:Nat):Int),(1:Int),Builtin.Slice.slicePlaces ((sIx n 0 lo:Nat):Int) ((sIx n n hi:Nat):Int) 1)) _ _ s
 rw [pF]
 exact wpAny_pure h
theorem tW (xs:Array Value) (i k:Nat):((List.range k).filterMap fun (m:Nat)=>xs[((i:Int) + (m:Int) *1).toNat]?).toArray=((xs.toList.drop i).take k).toArray:=by
 have e:(fun (m:Nat)=>xs[((i:Int) + (m:Int) *1).toNat]?)=fun m=>xs[i+m]? :=by
  funext m
  have:((i:Int) + (m:Int) *1).toNat=i+m:=by lia
  rw [this]
 rw [e]
 have:=pick_run xs i k
 rw [List.filterMap_map]at this
 have e2:((fun x=>xs[x]?)∘fun x=>i+x)=fun m=>xs[i+m]? :=rfl
 rw [e2]at this
 rw [this]
theorem getItem_tuple_cut {t sl:Addr} {items:Array Value} {vl vu:Value} {lo hi:Option Int} {Q:Value->Shared->Prop} (ht:IsTup s.heap t items) (hs:s.heap.IsSliceOf sl vl vu .none) (pl:IsPart vl lo) (pu:IsPart vu hi)
  (hw: ¬ (sIx items.size 0 lo=0/\sIx items.size items.size hi=items.size))
  (h:Q (.ref s.heap.objs.size) {s with heap:=s.heap.push {cls:=.type "tuple",data:=.seq ((items.toList.drop (sIx items.size 0 lo)).take (sIx items.size items.size hi-sIx items.size 0 lo)).toArray}})
  (hsz:items.size<=sizeLine):wpAny (model prog w) A (getItem (.ref t) (.ref sl)) Q E s:=by
 have htake:sizeOk (.seq ((items.toList.drop (sIx items.size 0 lo)).take (sIx items.size items.size hi-sIx items.size 0 lo)).toArray):=by
  show ((items.toList.drop (sIx items.size 0 lo)).take (sIx items.size items.size hi-sIx items.size 0 lo)).toArray.size<=sizeLine
  rw [List.size_toArray,List.length_take,List.length_drop,Array.length_toList]
  lia
 have hj:sIx items.size items.size hi<=items.size:=w8 _ _ (Nat.le_refl _) hi
 obtain ⟨os,hos,hcs,hds⟩:=id hs
 have hTs:s.TypeIs (.ref sl) "slice":=⟨os,hos,hcs⟩
 unfold getItem
 try with_reducible refine wpAny_holding ?_
 first | refine wpAny_bind (wpAny_pure ?_) | skip
 refine wpAny_bind (wpAny_sequenceKey ht.typeIs (by decide) ?_)
 refine wpAny_bind (wpAny_callSpecial?_slot (name:=Str.ofString "__getitem__") ht.typeIs PyProof.Rows.slot_tuple_getitem
  (wpAny_call_entry PyProof.Rows.slot_tuple_getitem ht.typeIs entry_tuple_getitem ?_ (args_tuple_getitem _ _)))
 show wpAny _ _ (Builtin.Tuple.tupleItemsOf (.ref t) >>= _) _ _ s
 refine wpAny_bind (tupleItemsOf_ ht ?_)
 refine wpAny_bind (wpAny_typeOf hTs ?_)
 rw [if_pos (by decide)]
 refine wpAny_bind (eR hs pl pu ?_)
 have hno: ¬ ((((sIx items.size 0 lo:Nat):Int)==0&&(1:Int)==1&&(sIx items.size items.size hi-sIx items.size 0 lo)==items.size)=true):=by
  intro q
  rw [Bool.and_eq_true,Bool.and_eq_true]at q
  have q1:((sIx items.size 0 lo:Nat):Int)=0:=eq_of_beq q.1.1
  have q2:sIx items.size items.size hi-sIx items.size 0 lo=items.size:=eq_of_beq q.2
  exact hw ⟨by lia,by lia⟩
 show wpAny _ _ (if (((sIx items.size 0 lo:Nat):Int)==0&&(1:Int)==1&&(sIx items.size items.size hi-sIx items.size 0 lo)==items.size)=true then _ else _) _ _ s
 rw [if_neg hno,tW]
 first
  | exact wpAny_bind (m:=Builtin.Tuple.tupleExact _) (wpAny_newObj_type (wpAny_pure ⟨_,rfl,wpAny_pure h⟩) htake)
  | exact wpAny_bind (m:=Builtin.Tuple.tupleExact _) (wpAny_newObj_type (wpAny_bind (wpAny_pure (wpAny_pure ⟨_,rfl,wpAny_pure h⟩))) htake)
  | exact wpAny_bind (wpAny_bind (m:=Builtin.Tuple.tupleExact _) (wpAny_newObj_type (wpAny_pure (wpAny_pure ⟨_,rfl,wpAny_pure h⟩)) htake))
  | exact wpAny_bind (wpAny_bind (m:=Builtin.Tuple.tupleExact _) (wpAny_newObj_type (wpAny_pure ⟨_,rfl,wpAny_pure h⟩) htake))
end
end HT
namespace L2
open PySem PySem.Spec PyProof.Rows
noncomputable abbrev TO:=St->Hp->(Option Int->Hp->Prop)->Prop
noncomputable def PO (X:Cx) (e:Option Expr) (t:TO):Prop:=
 ∀ (pins:List (Addr×Obj)) (s:Shared) (σ:St) (H:Hp) (Q:Option Int->Hp->Prop),Inv X pins σ H s->t σ H Q->
  wpAny (model X.prog X.w) X.A (evalPart e X.env) (fun u s'=> ∃ o H',Inv X pins σ H' s'/\IsPart u o/\Q o H') X.xe s
noncomputable def vo:TO:=fun _ H Q=>Q none H
inductive wF  (x:V) (H1:Hp) (Q:(Option Int->Hp->Prop)):Prop
 | mk: ∀ i,(x=.int i)->(Q (some i) H1)->wF x H1 Q
noncomputable def yh (t:TE):TO:=fun σ H Q=>t σ H fun x H1=>wF x H1 Q
section
variable {X:Cx} {e:Expr} {te:TE} {lo hi:Option Expr} {tl th:TO} {pos p2:Pos}
theorem cg:PO X none vo:=by
 intro pins s σ H Q I h
 rw [evalPart_none]
 exact wpAny_pure ⟨none,H,I,.none,h⟩
theorem bq (h:PE X e te):PO X (some e) (yh te):=by
 intro pins s σ H Q I hw
 rw [evalPart_some]
 refine thn (h pins s σ H _ I hw) fun u s1 ⟨x,H1,I1,r1,q1⟩=>?_
 obtain ⟨i,rfl,q⟩:=q1
 obtain ⟨t,rfl⟩:=r1
 exact ⟨some i,H1,I1,.int i t,q⟩
noncomputable def SlR (X:Cx) (r:V->Option Int->Option Int->Hp->VK->Prop):Prop:=
 ∀ (pins:List (Addr×Obj)) (s:Shared) (σ:St) (H:Hp) (x:V) (v vl vu:Value) (lo hi:Option Int) (sl:Addr) (Q:VK),Inv X pins σ H s->RelV x v->s.heap.IsSliceOf sl vl vu .none->IsPart vl lo->IsPart vu hi->r x lo hi H Q->
  ∃ T id,typeLookup (.type T) "__getitem__"=pure (some (.builtin id))/\s.TypeIs v T/\wpAny (model X.prog X.w) X.A (getItem v (.ref sl)) (EP X pins σ Q) X.xe s
noncomputable def tSl (r:V->Option Int->Option Int->Hp->VK->Prop) (te:TE) (tl th:TO):TE:=fun σ H Q=>te σ H fun x H1=>tl σ H1 fun l H2=>th σ H2 fun u H3=>r x l u H3 Q
theorem bj {r:V->Option Int->Option Int->Hp->VK->Prop} (hr:SlR X r) (he:PE X e te) (hl:PO X lo tl) (hu:PO X hi th):PE X (.Subscript e (.Slice lo hi none p2) pos) (tSl r te tl th):=by
 intro pins s σ H Q I h
 refine Subscript_ (thn (he pins s σ H _ I h) fun v s1 ⟨x,H1,I1,r1,q1⟩=>?_)
 refine wpAny_Slice (thn (hl pins s1 σ H1 _ I1 q1) fun vl s2 ⟨l,H2,I2,pl,q2⟩=>thn (hu pins s2 σ H2 _ I2 q2) fun vu s3 ⟨u,H3,I3,pu,q3⟩=>?_)
 rw [evalPart_none]
 refine wpAny_pure ?_
 have I4:Inv X pins σ H3 {s3 with heap:=s3.heap.push {cls:=.type "slice",data:=.fields #[vl,vu,.none]}}:=I3.kept (t':=s3.toks) fun b ob q=>Heap.get?_push_of_some _ q
 obtain ⟨T,id,hT,ht,hg⟩:=hr pins {s3 with heap:=s3.heap.push {cls:=.type "slice",data:=.fields #[vl,vu,.none]}} σ H3 x v vl vu l u s3.heap.objs.size Q I4 r1 (Heap.IsSliceOf.new ..) pl pu q3
 show wpAny (model X.prog X.w) X.A (subscriptTail e (.Slice lo hi none p2) v (.ref s3.heap.objs.size)) (EP X pins σ Q) X.xe {s3 with heap:=s3.heap.push {cls:=.type "slice",data:=.fields #[vl,vu,.none]}}
 exact tail_any (ops:=[.ref s3.heap.objs.size,v]) ht hT hg (by with_unfolding_all rfl)
noncomputable def cV (xs:List V) (lo hi:Option Int):List V:=(xs.drop (HT.sIx xs.length 0 lo)).take (HT.sIx xs.length xs.length hi-HT.sIx xs.length 0 lo)
theorem i8 (xs:List V) (lo hi:Option Int):(cV xs lo hi).length<=xs.length:=by
 unfold cV
 rw [List.length_take,List.length_drop]
 lia
inductive yt (K:PySem.W.Frag) (x:V) (lo:Option Int) (hi:Option Int) (H:Hp) (Q:VK):Prop
 | mk: ∀ a xs,(x=.ref a)->(SqT K H a xs)->(¬ (HT.sIx xs.length 0 lo=0/\HT.sIx xs.length xs.length hi=xs.length))->(∀ p,H p=none->Q (.ref p) (upd H p (.tup (cV xs lo hi))))->yt K x lo hi H Q
theorem tm:SlR X (yt X.K):=by
 intro pins s σ H x v vl vu lo hi sl Q I rx hs pl pu h
 obtain ⟨a,xs,rfl,hx,hw,q⟩:=h
 cases rx
 obtain ⟨its,r,ht,hz⟩:=I.tuple hx
 have hlen:its.toArray.size=xs.length:=by rw [List.size_toArray];exact r.length.symm
 refine ⟨"tuple",_,PyProof.Rows.slot_tuple_getitem.lookup,ht.typeIs,?_⟩
 refine HT.getItem_tuple_cut ht hs pl pu (by rw [hlen];exact hw) ?_ (by rw [hlen];exact hz)
 rw [hlen]
 refine ⟨.ref s.heap.objs.size,_,I.laid (t':=s.toks) (o:=.tup (cV xs lo hi)) (fun b ob q=>Heap.get?_push_of_some _ q) (Nat.le_refl _) ?_,rfl,q _ (I.hok.fresh (Nat.le_refl _))⟩
 exact ⟨Nat.le_trans (i8 xs lo hi) hz,_,(r.drop (HT.sIx xs.length 0 lo)).take (HT.sIx xs.length xs.length hi-HT.sIx xs.length 0 lo),IsTup.new _ _⟩
inductive wG (K:PySem.W.Frag) (x:V) (y:V) (H:Hp) (Q:VK):Prop
 | mk: ∀ a b xs ys,(x=.ref a)->(y=.ref b)->(SqT K H a xs)->(SqT K H b ys)->(xs≠[])->(xs.length+ys.length<=sizeLine)->((ys=[]->Q (.ref a) H))->((ys≠[]-> ∀ p,H p=none->Q (.ref p) (upd H p (.tup (xs++ys)))))->wG K x y H Q
theorem Vals.nil_iff {xs:List V} {us:List Value} (r:Vals xs us):us=[]↔xs=[]:=by
 cases r with
 | nil=>simp
 | cons _ _=>simp
theorem vG:OpR X (binaryOp .Add) (wG X.K):=by
 intro pins s σ H x y v u Q I rx ry h
 obtain ⟨a,b,xs,ys,rfl,rfl,ha,hb,hx,hz,q1,q2⟩:=h
 cases rx
 cases ry
 obtain ⟨its,r1,p1,_⟩:=I.tuple ha
 obtain ⟨its2,r2,p2,_⟩:=I.tuple hb
 refine HT.cat_tup p1 p2 (fun z=>hx (r1.nil_iff.mp z)) (fun z=>⟨.ref a,H,I,rfl,q1 (r2.nil_iff.mp z)⟩) (fun z=>?_) (by rw [<- r1.length,<- r2.length];exact hz)
 refine ⟨.ref s.heap.objs.size,_,I.laid (t':=s.toks) (o:=.tup (xs++ys)) (fun b ob q=>Heap.get?_push_of_some _ q) (Nat.le_refl _) ?_,rfl,q2 (fun w=>z (r2.nil_iff.mpr w)) _ (I.hok.fresh (Nat.le_refl _))⟩
 exact ⟨by rw [List.length_append];exact hz,_,r1.append r2,IsTup.new _ _⟩
end
noncomputable def ixN (n:Nat) (i:Int):Option Nat:=if 0<=i then (if i<n then some i.toNat else none)else if -(n:Int)<=i then some (i+n).toNat else none
noncomputable def atI {α:Type} (xs:List α) (i:Int):Option α:=(ixN xs.length i).bind fun j=>xs[j]?
theorem qA {n:Nat} {i:Int} {j:Nat} (h:ixN n i=some j):seqIndex? i n=some j/\j<n/\ -(n:Int)<=i/\i<n:=by
 unfold ixN at h
 by_cases h0:0<=i
 ·rw [if_pos h0]at h
  by_cases h1:i<n
  ·rw [if_pos h1]at h
   have e:i.toNat=j:=Option.some.inj h
   exact ⟨by rw [seqIndex_of h0 h1,e],by lia,by lia,h1⟩
  ·rw [if_neg h1]at h;cases h
 ·rw [if_neg h0]at h
  by_cases h1: -(n:Int)<=i
  ·rw [if_pos h1]at h
   have e:(i+n).toNat=j:=Option.some.inj h
   exact ⟨by rw [seqIndex_neg (by lia) h1,e],by lia,h1,by lia⟩
  ·rw [if_neg h1]at h;cases h
theorem nB {α:Type} {xs:List α} {i:Int} {v:α} (h:atI xs i=some v): ∃ j,seqIndex? i xs.length=some j/\xs[j]? =some v/\j<xs.length/\ -(xs.length:Int)<=i/\i<xs.length:=by
 unfold atI at h
 cases e:ixN xs.length i with
 | none=>rw [e]at h;cases h
 | some j=>
  rw [e]at h
  obtain ⟨h1,h2,h3,h4⟩:=qA e
  exact ⟨j,h1,h,h2,h3,h4⟩
theorem aF {α:Type} {xs:List α} {j:Nat} {v:α} (h:xs[j]? =some v):atI xs (j:Int)=some v:=by
 have hj:j<xs.length:=(List.getElem?_eq_some_iff.mp h).1
 have e:ixN xs.length (j:Int)=some j:=by
  unfold ixN
  rw [if_pos (by lia),if_pos (by lia)];simp
 unfold atI;rw [e];exact h
theorem kf {α:Type} (xs:List α) (v:α):atI (xs++[v]) (-1)=some v:=by
 have hl:(xs++[v]).length=xs.length+1:=by simp
 have e:ixN (xs++[v]).length (-1)=some xs.length:=by
  unfold ixN
  rw [hl,if_neg (by decide),if_pos (by lia)]
  congr 1
  lia
 unfold atI
 rw [e]
 show (xs++[v])[xs.length]? =some v
 simp
noncomputable def wu (b:Expr):Prop:= ∀ o i,subscripted b false o i=operate [o,i] (getItem o i)
noncomputable def IxR (X:Cx) (r:R2):Prop:=
 ∀ (value slice:Expr) (pins:List (Addr×Obj)) (s:Shared) (σ:St) (H:Hp) (x y:V) (v u:Value) (Q:VK),Inv X pins σ H s->RelV x v->RelV y u->r x y H Q->
  subscripted slice false v u=operate [v,u] (getItem v u)->wpAny (model X.prog X.w) X.A (subscriptTail value slice v u) (EP X pins σ Q) X.xe s
noncomputable def MtR (X:Cx) (id:String) (r:V->List V->Hp->VK->Prop):Prop:=
 ∀ (pins:List (Addr×Obj)) (s:Shared) (σ:St) (H:Hp) (x:V) (xs:List V) (v:Value) (us:List Value) (Q:VK),Inv X pins σ H s->RelV x v->Vals xs us->r x xs H Q->
  wpAny (model X.prog X.w) X.A (call (.builtin id) (v::us)) (EP X pins σ Q) X.xe s
section
variable {X:Cx} {a b:Expr} {ta tb:TE} {pos:Pos}
theorem ar {r:R2} (hr:IxR X r) (ha:PE X a ta) (hb:PE X b tb) (hs:wu b):PE X (.Subscript a b pos) (tOp r ta tb):=by
 intro pins s σ H Q I h
 exact Subscript_ (xQ ha hb I h fun v u s2 x y H2 I2 rx ry q=>hr a b pins s2 σ H2 x y v u Q I2 rx ry q (hs _ _))
inductive cB (K:PySem.W.Frag) (x:V) (y:V) (H:Hp) (Q:VK):Prop
 | mk: ∀ p xs i v,(x=.ref p)->(y=.int i)->(SqL K H p xs)->(atI xs i=some v)->(Q v H)->cB K x y H Q
inductive aW (K:PySem.W.Frag) (x:V) (y:V) (H:Hp) (Q:VK):Prop
 | mk: ∀ p xs i v,(x=.ref p)->(y=.int i)->(SqT K H p xs)->(atI xs i=some v)->(Q v H)->aW K x y H Q
inductive yz  (x:V) (y:V) (H:Hp) (Q:VK):Prop
 | mk: ∀ z i c,(x=.str z)->(y=.int i)->(z.length<=sizeLine)->(atI z.cps.toList i=some c)->(Q (.str ⟨#[c]⟩) H)->yz x y H Q
theorem aS:IxR X (cB X.K):=by
 intro value slice pins s σ H x y v u Q I rx ry h hs
 obtain ⟨p,xs,i,z,rfl,rfl,hq,he,q⟩:=h
 cases rx
 obtain ⟨t,rfl⟩:=ry
 obtain ⟨its,r,pl,hz⟩:=I.list hq
 obtain ⟨j,h1,h2,h3,h4,h5⟩:=nB he
 obtain ⟨w,ew,rw'⟩:=r.get h2
 have hl:=r.length
 have hn:=iU
 have fin:EP X pins σ Q w s:=⟨z,H,I,rw',q⟩
 by_cases h0:0<=i
 ·have hj:i.toNat=j:=by
   rw [seqIndex_of h0 h5]at h1
   exact Option.some.inj h1
  exact item_listR pl.isList h0 (by lia) (by rw [hj];simpa using ew) fin hs
 ·have hj:(i+ (its.toArray.size:Int)).toNat=j:=by
   rw [seqIndex_neg (by lia) h4]at h1
   rw [List.size_toArray,<- hl]
   exact Option.some.inj h1
  exact subscriptTail_builtinR (x:=w) pl.isList.typeIs slot_list_getitem.lookup
   (wpAny_getItem_list_neg (Q:=fun r s'=>r=w/\EP X pins σ Q r s') pl.isList (by lia) (by rw [List.size_toArray] <;> lia) (by lia) (by rw [hj];simpa using ew) ⟨rfl,fin⟩) hs
theorem ax:IxR X (aW X.K):=by
 intro value slice pins s σ H x y v u Q I rx ry h hs
 obtain ⟨p,xs,i,z,rfl,rfl,hq,he,q⟩:=h
 cases rx
 obtain ⟨t,rfl⟩:=ry
 obtain ⟨its,r,pl,hz⟩:=I.tuple hq
 obtain ⟨j,h1,h2,h3,h4,h5⟩:=nB he
 obtain ⟨w,ew,rw'⟩:=r.get h2
 have hl:=r.length
 have hn:=iU
 have fin:EP X pins σ Q w s:=⟨z,H,I,rw',q⟩
 exact subscriptTail_builtinR (x:=w) pl.typeIs slot_tuple_getitem.lookup
  (getItem_tuple (j:=j) (Q:=fun r s'=>r=w/\EP X pins σ Q r s') pl (by lia) (by lia) (by rw [List.size_toArray,<- hl];exact h1) (by simpa using ew) ⟨rfl,fin⟩) hs
theorem pT:IxR X yz:=by
 intro value slice pins s σ H x y v u Q I rx ry h hs
 obtain ⟨z,i,c,rfl,rfl,hz,he,q⟩:=h
 obtain ⟨t,rfl⟩:=rx
 obtain ⟨t',rfl⟩:=ry
 obtain ⟨j,h1,h2,h3,h4,h5⟩:=nB he
 have hl:z.cps.toList.length=z.length:=by simp [Str.length]
 rw [hl]at h1 h4 h5
 have hn:=iU
 exact tail_any (typeIs_str s z t) slot_str_getitem.lookup (getItem_str (c:=c) (by
  have e1:decide (i< -(2^63:Int))=false:=decide_eq_false (by lia)
  have e2:decide (i≥2^63)=false:=decide_eq_false (by lia)
  rw [e1,e2,Bool.or_false]) (by rw [h1];simpa using h2) ⟨.str ⟨#[c]⟩,H,I.tok _,⟨_,rfl⟩,q⟩) hs
theorem pQ (its:List Value) (n j:Nat) (u:Value):Obj.mapSeq (·.setIfInBounds j u) {cls:=.type "list",data:=.seq its.toArray n}={cls:=.type "list",data:=.seq (its.set j u).toArray n}:=by
 simp [Obj.mapSeq]
theorem Inv.lst {pins:List (Addr×Obj)} {σ:St} {H:Hp} {s:Shared} {p:Addr} {xs:List V} (I:Inv X pins σ H s) (h:H p=some (.lst xs)):
  ∃ (its:List Value) (n:Nat),Vals xs its/\s.heap.get? p=some {cls:=.type "list",data:=.seq its.toArray n}/\xs.length<=sizeLine:=by
 obtain ⟨z,its,n,r,e⟩:=I.hok p _ h
 exact ⟨its,n,r,e,z⟩
theorem Inv.lstUpd {pins:List (Addr×Obj)} {σ:St} {H:Hp} {s:Shared} {p:Addr} {xs ys:List V} {its its':List Value} {n n':Nat} {f:Obj->Obj} (I:Inv X pins σ H s) (h:H p=some (.lst xs))
  (ho:s.heap.get? p=some {cls:=.type "list",data:=.seq its.toArray n}) (hf:f {cls:=.type "list",data:=.seq its.toArray n}={cls:=.type "list",data:=.seq its'.toArray n'}) (r:Vals ys its') (hz:ys.length<=sizeLine) (t:Nat):
  Inv X pins σ (upd H p (.lst ys)) {s with heap:=s.heap.update p f,toks:=t}:=by
 have e:(s.heap.update p f).get? p=some {cls:=.type "list",data:=.seq its'.toArray n'}:=by
  rw [Heap.get?_update_self f ho (by rw [hf] <;> rfl),hf]
 refine I.write (x:=p) (e:=p) (by rw [h];trivial) (.inl rfl) (fun b u hb q=>(Heap.get?_update_other _ _ (Ne.symm hb)).trans q) ⟨_,e⟩ ?_
 exact ⟨hz,its',n',r,e⟩
inductive wE  (o:V) (i:V) (v:V) (H:Hp) (Q:(Hp->Prop)):Prop
 | mk: ∀ p xs k j,(o=.ref p)->(i=.int k)->(H p=some (.lst xs))->(ixN xs.length k=some j)->(Q (upd H p (.lst (xs.set j v))))->wE o i v H Q
theorem tw:yZ X wE:=by
 intro pins s σ H o i v ov iv u Q I ro ri rv h
 obtain ⟨p,xs,k,j,rfl,rfl,hp,hj,q⟩:=h
 cases ro
 obtain ⟨t,rfl⟩:=ri
 obtain ⟨its,n,r,ho,hz⟩:=I.lst hp
 obtain ⟨h1,h2,h3,h4⟩:=qA hj
 have hl:=r.length
 have hn:=iU
 have I':Inv X pins σ (upd H p (.lst (xs.set j v))) {s with heap:=s.heap.update p (Obj.mapSeq (·.setIfInBounds j u))}:=
  I.lstUpd hp ho (pQ its n j u) (r.set rv j) (by rw [List.length_set];exact hz) s.toks
 by_cases h0:0<=k
 ·have hk:k.toNat=j:=by
   rw [seqIndex_of h0 h4]at h1
   exact Option.some.inj h1
  exact PySem.W.ki_setAt ho h0 (by lia) (by rw [List.size_toArray,<- hl];exact h4) (by rw [hk];exact ⟨_,I',q⟩)
 ·have hk:(k+ (its.toArray.size:Int)).toNat=j:=by
   rw [seqIndex_neg (by lia) h3]at h1
   rw [List.size_toArray,<- hl]
   exact Option.some.inj h1
  exact PySem.W.ki_setBack ho (by lia) (by rw [List.size_toArray,<- hl];exact h3) (by lia) (by rw [hk];exact ⟨_,I',q⟩)
theorem l7 (lo hi:Option Int) (n:Nat):(sliceBounds lo hi none n).1=((HT.sIx n 0 lo:Nat):Int)/\(sliceBounds lo hi none n).2.1=((HT.sIx n n hi:Nat):Int)/\(sliceBounds lo hi none n).2.2=1:=by
 refine ⟨?_,?_,rfl⟩
 ·cases lo with
  | none=>simp [sliceBounds,HT.sIx]
  | some i=>
   simp only [sliceBounds,HT.sIx,Option.getD_none,show (1:Int) >0 by decide,if_true]
   by_cases h:i<0
   ·simp only [h,if_true] <;> lia
   ·simp only [h,if_false] <;> lia
 ·cases hi with
  | none=>simp [sliceBounds,HT.sIx]
  | some i=>
   simp only [sliceBounds,HT.sIx,Option.getD_none,show (1:Int) >0 by decide,if_true]
   by_cases h:i<0
   ·simp only [h,if_true] <;> lia
   ·simp only [h,if_false] <;> lia
theorem kj (its:List Value) (lo hi:Option Int):slicePick its.toArray lo hi none=((its.drop (HT.sIx its.length 0 lo)).take (HT.sIx its.length its.length hi-HT.sIx its.length 0 lo)).toArray:=by
 obtain ⟨h1,h2,h3⟩:=l7 lo hi its.toArray.size
 unfold slicePick
 rw [h1,h2,h3]
 simp only [sliceRange_one,pick_run,List.size_toArray] <;> rfl
inductive yw (K:PySem.W.Frag) (x:V) (lo:Option Int) (hi:Option Int) (H:Hp) (Q:VK):Prop
 | mk: ∀ a xs,(x=.ref a)->(SqL K H a xs)->(∀ p,H p=none->Q (.ref p) (upd H p (.lst (cV xs lo hi))))->yw K x lo hi H Q
theorem dv:SlR X (yw X.K):=by
 intro pins s σ H x v vl vu lo hi sl Q I rx hs pl pu h
 obtain ⟨a,xs,rfl,hx,q⟩:=h
 cases rx
 obtain ⟨its,r,ht,hz⟩:=I.list hx
 have hlen:=r.length
 refine ⟨"list",_,slot_list_getitem.lookup,ht.isList.typeIs,?_⟩
 refine wpAny_getItem_list_slice ht.isList hs pl pu .none (by simp) ?_ (by rw [List.size_toArray] <;> lia)
 rw [kj,<- hlen]
 refine ⟨.ref s.heap.objs.size,_,I.laid (t':=s.toks) (o:=.lst (cV xs lo hi)) (fun b ob q=>Heap.get?_push_of_some _ q) (Nat.le_refl _) ?_,rfl,q _ (I.hok.fresh (Nat.le_refl _))⟩
 exact ⟨Nat.le_trans (i8 xs lo hi) hz,_,0,(r.drop (HT.sIx xs.length 0 lo)).take (HT.sIx xs.length xs.length hi-HT.sIx xs.length 0 lo),Heap.get?_push_size _ rfl⟩
noncomputable def i7:V->Bool
 | .non=>true
 | .bl _=>true
 | .int _=>true
 | .str _=>true
 | _=>false
noncomputable def eqV:V->V->Bool
 | .non,.non=>true
 | .bl a,.bl b=>a==b
 | .bl a,.int b=>(if a then 1 else 0)==b
 | .int a,.bl b=>a==(if b then 1 else 0)
 | .int a,.int b=>a==b
 | .str a,.str b=>a==b
 | _,_=>false
theorem xK {A:Around} {s:Shared} {y x:V} {u v:Value} (ry:RelV y u) (rx:RelV x v) (fy:i7 y=true) (fx:i7 x=true):SeqAt.EqAt A s u v (eqV y x):=by
 cases y with
 | non=>
  cases ry
  cases x with
  | non=>cases rx;exact SeqAt.EqAt.same _
  | bl b=>cases rx;exact SeqAt.EqAt.none_bool b
  | int b=>obtain ⟨t,rfl⟩:=rx;exact SeqAt.EqAt.none_int b t
  | str b=>obtain ⟨t,rfl⟩:=rx;exact SeqAt.EqAt.none_str b t
  | _=>exact absurd (show false=true from fx) Bool.false_ne_true
 | bl a=>
  cases ry
  cases x with
  | non=>cases rx;exact SeqAt.EqAt.bool_none a
  | bl b=>cases rx;exact SeqAt.EqAt.bool_bool a b
  | int b=>obtain ⟨t,rfl⟩:=rx;exact SeqAt.EqAt.bool_int a b t
  | str b=>obtain ⟨t,rfl⟩:=rx;exact SeqAt.EqAt.bool_str a b t
  | _=>exact absurd (show false=true from fx) Bool.false_ne_true
 | int a=>
  obtain ⟨t',rfl⟩:=ry
  cases x with
  | non=>cases rx;exact SeqAt.EqAt.int_none a t'
  | bl b=>cases rx;exact SeqAt.EqAt.int_bool a t' b
  | int b=>obtain ⟨t,rfl⟩:=rx;exact SeqAt.EqAt.int_int a t' b t
  | str b=>obtain ⟨t,rfl⟩:=rx;exact SeqAt.EqAt.int_str a t' b t
  | _=>exact absurd (show false=true from fx) Bool.false_ne_true
 | str a=>
  obtain ⟨t',rfl⟩:=ry
  cases x with
  | non=>cases rx;exact SeqAt.EqAt.str_none a t'
  | bl b=>cases rx;exact SeqAt.EqAt.str_bool a t' b
  | int b=>obtain ⟨t,rfl⟩:=rx;exact SeqAt.EqAt.str_int a t' b t
  | str b=>obtain ⟨t,rfl⟩:=rx;exact SeqAt.EqAt.str_str a t' b t
  | _=>exact absurd (show false=true from fx) Bool.false_ne_true
 | _=>exact absurd (show false=true from fy) Bool.false_ne_true
noncomputable def eqU (x:V) (u:Value):Bool:=match u with
 | .none=>eqV .non x
 | .bool b=>eqV (.bl b) x
 | .int i _=>eqV (.int i) x
 | .str z _=>eqV (.str z) x
 | _=>false
theorem uX {x y:V} {u:Value} (r:RelV y u) (f:i7 y=true):eqU x u=eqV y x:=by
 cases y with
 | non=>cases r;rfl
 | bl b=>cases r;rfl
 | int i=>obtain ⟨t,rfl⟩:=r;rfl
 | str z=>obtain ⟨t,rfl⟩:=r;rfl
 | _=>exact absurd (show false=true from f) Bool.false_ne_true
theorem nE {x:V}: ∀ {xs:List V} {us:List Value},Vals xs us->xs.all i7=true->us.any (eqU x)=xs.any fun y=>eqV y x
 | _,_,.nil,_=>rfl
 | y::xs,u::us,.cons r t,f=>by
  rw [List.all_cons,Bool.and_eq_true]at f
  rw [List.any_cons,List.any_cons,uX r f.1,nE t f.2]
theorem jQ {A:Around} {s:Shared} {x:V} {v:Value} (rx:RelV x v) (fx:i7 x=true): ∀ {xs:List V} {us:List Value},Vals xs us->xs.all i7=true-> ∀ u∈us,SeqAt.EqAt A s u v (eqU x u)
 | _,_,.nil,_=>fun u hu=>by cases hu
 | y::xs,u::us,.cons r t,f=>fun u' hu=>by
  rw [List.all_cons,Bool.and_eq_true]at f
  rcases List.mem_cons.mp hu with rfl | hu
  ·rw [uX r f.1];exact xK r rx f.1 fx
  ·exact jQ rx fx t f.2 u' hu
noncomputable def inV (x:V) (xs:List V):Bool:=xs.any fun y=>eqV y x
inductive rIn (K:PySem.W.Frag) (neg:Bool) (x:V) (y:V) (H:Hp) (Q:VK):Prop
 | mk: ∀ p xs,(y=.ref p)->((SqL K H p xs\/SqT K H p xs))->(i7 x=true)->(xs.all i7=true)->(Q (.bl (if neg then !inV x xs else inV x xs)) H)->rIn K neg x y H Q
theorem kX:OpR X (compareOp .In) (rIn X.K false):=by
 intro pins s σ H x y v u Q I rx ry h
 obtain ⟨p,xs,rfl,hq,fx,fs,q⟩:=h
 cases ry
 rcases hq with hq | hq
 ·obtain ⟨its,r,pl,hz⟩:=I.list hq
  refine SeqAt.in_listAt (eqU x) pl.isList (fun w hw=>jQ rx fx r fs w (by simpa using hw)) ⟨.bl _,H,I,rfl,?_⟩
  rw [show its.toArray.any (eqU x)=its.any (eqU x) by simp,nE r fs]
  exact q
 ·obtain ⟨its,r,pl,hz⟩:=I.tuple hq
  refine SeqAt.in_tupleAt (eqU x) pl (fun w hw=>jQ rx fx r fs w (by simpa using hw)) ⟨.bl _,H,I,rfl,?_⟩
  rw [show its.toArray.any (eqU x)=its.any (eqU x) by simp,nE r fs]
  exact q
inductive dl (K:PySem.W.Frag) (xs:List V) (H:Hp) (Q:VK):Prop
 | mk: ∀ p ys,(xs=[.ref p])->((SqL K H p ys\/SqT K H p ys))->(Q (.int ys.length) H)->dl K xs H Q
theorem aH:fb X (.builtin "len") (dl X.K):=by
 intro pins s σ H xs us Q I r h
 obtain ⟨p,ys,rfl,hq,q⟩:=h
 obtain ⟨u,rfl,rx⟩:=iZ r
 cases rx
 have hn:=iU
 rcases hq with hq | hq
 ·obtain ⟨its,r',pl,hz⟩:=I.list hq
  have hlen:=r'.length
  exact Calls.call_len_list pl.isList (by simp only [List.size_toArray] <;> lia) ⟨.int ys.length,H,I.tok _,⟨s.toks+1,by rw [List.size_toArray,hlen]⟩,q⟩
 ·obtain ⟨its,r',pl,hz⟩:=I.tuple hq
  have hlen:=r'.length
  exact len_tuple pl (by simp only [List.size_toArray] <;> lia) ⟨.int ys.length,H,I.tok _,⟨s.toks+1,by rw [List.size_toArray,hlen]⟩,q⟩
inductive fu (K:PySem.W.Frag) (xs:List V) (H:Hp) (Q:VK):Prop
 | mk: ∀ p ys,(xs=[.ref p])->(((SqL K H p ys/\ ∀ l,H l=none->Q (.ref l) (upd H l (.tup ys)))\/(SqT K H p ys/\Q (.ref p) H)))->fu K xs H Q
theorem bZ:fb X (.type "tuple") (fu X.K):=by
 intro pins s σ H xs us Q I r h
 obtain ⟨p,ys,rfl,h⟩:=h
 obtain ⟨u,rfl,rx⟩:=iZ r
 cases rx
 rcases h with ⟨hq,q⟩ | ⟨hq,q⟩
 ·obtain ⟨its,r',pl,hz⟩:=I.list hq
  have hlen:=r'.length
  refine call_tuple_list pl.isList (fun h' kp=>?_) (by simp only [List.size_toArray] <;> lia)
  have I1:Inv X pins σ H {s with heap:=h'}:=I.kept (t':=s.toks) kp
  have I2:Inv X pins σ (upd H h'.objs.size (.tup ys)) {s with heap:=h'.push {cls:=.type "tuple",data:=.seq its.toArray}}:=
   I1.laid (t':=s.toks) (fun b o e=>Heap.get?_push_of_some _ e) (Nat.le_refl _) (show ObjOk X.prog X.w _ _ _ (.tup ys)from ⟨hz,its,r',IsTup.new _ _⟩)
  exact ⟨.ref h'.objs.size,_,I2,rfl,q _ (I1.hok.fresh (Nat.le_refl _))⟩
 ·obtain ⟨its,r',pl,hz⟩:=I.tuple hq
  exact call_tuple_same pl ⟨.ref p,H,I,rfl,q⟩
noncomputable def tyV (K:PySem.W.Frag) (T:String) (x:V) (H:Hp):Prop:=match x with
 | .str _=>T="str"
 | .int _=>T="int"
 | .ref p=>(T="list"/\ ∃ xs,SqL K H p xs)\/(T="tuple"/\ ∃ o,K.lookup p=some o/\o.cls=.type "tuple"/\o.dict=none)\/
   (T="dict"/\((∃ kvs,H p=some (.dK kvs))\/ ∃ kvs,H p=some (.dT kvs)))\/(T="set"/\ ∃ S n,H p=some (.set S n))
 | _=>False
theorem sN {pins:List (Addr×Obj)} {σ:St} {H:Hp} {s:Shared} {T:String} {x:V} {v:Value} (I:Inv X pins σ H s) (r:RelV x v) (ty:tyV X.K T x H):
  s.TypeIs v T/\ ∀ a,v=.ref a-> ∃ ob,s.heap.get? a=some ob/\ob.dict=none:=by
 cases x with
 | str z=>
  obtain ⟨t,rfl⟩:=r
  cases (show T="str" from ty)
  exact ⟨typeIs_str s z t,fun _ e=>nomatch e⟩
 | int i=>
  obtain ⟨t,rfl⟩:=r
  cases (show T="int" from ty)
  exact ⟨typeIs_int s i t,fun _ e=>nomatch e⟩
 | ref p=>
  cases r
  rcases ty with ⟨rfl,xs,hq⟩ | ⟨rfl,o,hk,hc,hd⟩ | ⟨rfl,hk⟩ | ⟨rfl,S,n,hk⟩
  ·obtain ⟨its,_,pl,_⟩:=I.list hq
   refine ⟨pl.isList.typeIs,fun a e=>?_⟩
   cases e
   obtain ⟨o,n,e,c,hd,_⟩:=pl
   exact ⟨o,e,hd⟩
  ·refine ⟨⟨o,I.kIn p o hk,hc⟩,fun a e=>?_⟩
   cases e
   exact ⟨o,I.kIn _ o hk,hd⟩
  ·have z: ∃ o,s.heap.get? p=some o/\o.ExactDict:=by
    rcases hk with ⟨kvs,hk⟩ | ⟨kvs,hk⟩
    ·obtain ⟨_,_,_,_,o,_,_,e,ex,_⟩:=I.hok p _ hk
     exact ⟨o,e,ex⟩
    ·obtain ⟨_,_,_,_,o,_,_,e,ex,_⟩:=I.hok p _ hk
     exact ⟨o,e,ex⟩
   obtain ⟨o,e,ex⟩:=z
   refine ⟨⟨o,e,ex.1⟩,fun a e2=>?_⟩
   cases e2
   exact ⟨o,e,ex.2.1⟩
  ·obtain ⟨o,_,_,_,e,ex,_⟩:=I.hok p _ hk
   refine ⟨⟨o,e,ex.1⟩,fun a e2=>?_⟩
   cases e2
   exact ⟨o,e,ex.2.1⟩
 | _=>exact False.elim ty
noncomputable def zj (K:PySem.W.Frag) (T:String) (r:V->List V->Hp->VK->Prop) (to:TE):TE:=fun σ H Q=>to σ H fun x H1=>tyV K T x H1/\r x [] H1 Q
noncomputable def tBM (K:PySem.W.Frag) (T:String) (r:V->List V->Hp->VK->Prop) (to:TE) (t:TA):TE:=fun σ H Q=>to σ H fun x H1=>tyV K T x H1/\t σ H1 fun xs H2=>r x xs H2 Q
variable {o e:Expr} {es:List Expr} {to:TE} {t:TA} {name:Str} {apos cpos:Pos} {T id:String} {r:V->List V->Hp->VK->Prop}
theorem mO (pa:PlainAttrs T) (slot:Slot T name id) (hty:typeOf (.builtin id)=pure (.type "method_descriptor")) (hm:MtR X id r) (ho:PE X o to)
  (hbase:attributeBase o name X.env (eval o X.env)=eval o X.env:=by rfl) (hline:(apos.endLine==cpos.line)=true:=by rfl):PE X (.Call (.Attribute o name apos) [] [] cpos) (zj X.K T r to):=by
 intro pins s σ H Q I h
 refine wpAny_Call_method0_late hbase hline (thn (ho pins s σ H _ I h) fun v s1 ⟨x,H1,I1,r1,ty,q1⟩=>?_)
 obtain ⟨h1,h2⟩:=sN I1 r1 ty
 exact ⟨T,id,pa,slot,hty,h1,h2,Calls.callWith_builtin rfl (PySem.evalArgs_none (hm pins s1 σ H1 x [] v [] Q I1 r1 .nil q1))⟩
theorem dg (pa:PlainAttrs T) (slot:Slot T name id) (hty:typeOf (.builtin id)=pure (.type "method_descriptor")) (hm:MtR X id r) (ho:PE X o to) (ha:PA X (e::es) t)
  (hbase:attributeBase o name X.env (eval o X.env)=eval o X.env:=by rfl)
  (hfew:((backTo cpos (starEach (e::es) X.env)).all (fun x=> !x.1)&&(backToKw cpos (keywordEach [] X.env)).all (fun x=>x.1.isSome)
   &&decide ((e::es).length+ ([]:List Keyword).length+ (if ([]:List Keyword).isEmpty then 0 else 1) <30))=true:=by rfl)
  (hline:(apos.endLine==cpos.line)=true:=by rfl) (hs:starEach (e::es) X.env=(false,eval e X.env)::starEach es X.env:=by rfl) (hplain:(backTo cpos (starEach es X.env)).any (·.1)=false:=by rfl):
  PE X (.Call (.Attribute o name apos) (e::es) [] cpos) (tBM X.K T r to t):=by
 intro pins s σ H Q I h
 refine wpAny_Call_method_late hbase hfew hline rfl (thn (ho pins s σ H _ I h) fun v s1 ⟨x,H1,I1,r1,ty,q1⟩=>?_)
 obtain ⟨h1,h2⟩:=sN I1 r1 ty
 refine ⟨T,id,pa,slot,hty,h1,h2,?_⟩
 have hA:=ha cpos pins s1 σ H1 _ I1 q1
 rw [hs]at hA ⊢
 refine Calls.callWith_builtin (by show (false||(backTo cpos (starEach es X.env)).any (·.1))=false;rw [hplain] <;> rfl) (Calls.evalArgs_plain ?_)
 exact thn hA fun us s2 ⟨vs,H2,I2,r2,q2⟩=>hm pins s2 σ H2 x vs v us Q I2 r1 r2 q2
end
noncomputable def MtM (X:Cx) (id:String) (r:V->List V->Hp->VK->Prop):Prop:=
 ∀ (pins:List (Addr×Obj)) (s:Shared) (σ:St) (H:Hp) (x:V) (xs:List V) (v:Value) (us:List Value) (Q:VK),Inv X pins σ H s->RelV x v->Vals xs us->r x xs H Q->
  wpAny (model X.prog X.w) X.A (call (.builtin id) (v::us)) (EP X pins σ Q) X.xe s
theorem Vals.one: ∀ {x:V} {us:List Value},Vals [x] us-> ∃ u,us=[u]/\RelV x u
 | _,_,.cons r .nil=>⟨_,rfl,r⟩
theorem Vals.two: ∀ {x y:V} {us:List Value},Vals [x,y] us-> ∃ u v,us=[u,v]/\RelV x u/\RelV y v
 | _,_,_,.cons r (.cons q .nil)=>⟨_,_,rfl,r,q⟩
theorem Vals.zero: ∀ {us:List Value},Vals [] us->us=[]
 | _,.nil=>rfl
theorem Vals.dropLast {xs:List V} {us:List Value} (h:Vals xs us):Vals xs.dropLast us.dropLast:=by
 induction h with
 | nil=>exact .nil
 | cons r t ih=>
  cases t with
  | nil=>exact .nil
  | cons q t'=>exact .cons r ih
theorem Vals.eraseIdx: ∀ {xs:List V} {us:List Value} (i:Nat),Vals xs us->Vals (xs.eraseIdx i) (us.eraseIdx i)
 | _,_,_,.nil=>.nil
 | _,_,0,.cons _ t=>t
 | _,_,i+1,.cons r t=>.cons r (Vals.eraseIdx i t)
theorem pY {α:Type} (l:List α):l.eraseIdx (l.length-1)=l.dropLast:=by
 induction l with
 | nil=>rfl
 | cons a r ih=>
  cases r with
  | nil=>rfl
  | cons b r=>
   have e:(a::b::r).length-1=((b::r).length-1) +1:=by
    have h1:(a::b::r).length=r.length+2:=rfl
    have h2:(b::r).length=r.length+1:=rfl
    lia
   rw [e,List.eraseIdx_cons_succ,ih]
   all_goals rfl
theorem kY {α:Type}: ∀ (l:List α) (i:Nat),(l.eraseIdx i).length<=l.length
 | [],_=>Nat.le_refl _
 | _::_,0=>Nat.le_succ _
 | _::r,i+1=>Nat.succ_le_succ (kY r i)
section
variable {X:Cx} {pins:List (Addr×Obj)} {σ:St} {H:Hp} {s:Shared} {l b:Addr} {xs ys zs:List V}
theorem Inv.lset {its its':List Value} {n:Nat} {f:Array Value->Array Value} {t':Nat} (I:Inv X pins σ H s) (hH:H l=some (.lst xs))
  (e:s.heap.get? l=some {cls:=.type "list",data:=.seq its.toArray n}) (hf:f its.toArray=its'.toArray) (hv:Vals ys its') (hz:ys.length<=sizeLine):
  Inv X pins σ (upd H l (.lst ys)) {s with heap:=s.heap.update l (Obj.mapSeq f),toks:=t'}:=by
 have q:=PySem.IsL.update e f
 rw [hf]at q
 refine I.write (x:=l) (e:=l) (by rw [hH];exact trivial) (.inl rfl) (fun b' u hb hu=>(Heap.get?_update_other s.heap (Obj.mapSeq f) (Ne.symm hb)).trans hu) ⟨_,q⟩ ?_
 exact ⟨hz,its',_,hv,q⟩
theorem Inv.lnew {its:List Value} {t':Nat} (I:Inv X pins σ H s) (hv:Vals ys its) (hz:ys.length<=sizeLine):
  Inv X pins σ (upd H s.heap.objs.size (.lst ys)) {s with heap:=s.heap.push {cls:=.type "list",data:=.seq its.toArray},toks:=t'}:=
 I.laid (fun _ _ q=>Heap.get?_push_of_some _ q) (Nat.le_refl _) ⟨hz,its,0,hv,Heap.get?_push_size _ rfl⟩
theorem Inv.fresh (I:Inv X pins σ H s):H s.heap.objs.size=none:=I.hok.fresh (Nat.le_refl _)
theorem Inv.lstM (I:Inv X pins σ H s) (hH:H l=some (.lst xs)):xs.length<=sizeLine/\ ∃ (its:List Value) (n:Nat),Vals xs its/\xs.length=its.length/\s.heap.get? l=some {cls:=.type "list",data:=.seq its.toArray n}:=by
 obtain ⟨z,its,n,r,e⟩:=I.hok l _ hH
 exact ⟨z,its,n,r,r.length,e⟩
theorem oq {n:Nat} (h:n<=sizeLine):Builtin.List.listTooLong n=false:=by
 unfold Builtin.List.listTooLong
 exact decide_eq_false (by lia)
end
section
variable {X:Cx}
inductive qt  (x:V) (vs:List V) (H:Hp) (Q:VK):Prop
 | mk: ∀ l xs y,(x=.ref l)->(vs=[y])->(H l=some (.lst xs))->(xs.length<sizeLine)->(Q .non (upd H l (.lst (xs++[y]))))->qt x vs H Q
theorem bn:MtM X "list.append" qt:=by
 intro pins s σ H x vs v us Q I rx rv h
 obtain ⟨l,xs,y,rfl,rfl,hH,hz,q⟩:=h
 cases rx
 obtain ⟨u,rfl,ru⟩:=rv.one
 obtain ⟨z,its,n,r,hl,e⟩:=I.lstM hH
 refine call_meets F.slot_list_append ⟨_,e,rfl⟩ F.entry_list_append (F.args_list_append_2 _ _) (PySem.list_append l its.toArray n u (by rw [List.size_toArray];lia)) ⟨e,?_⟩
 refine ⟨.non,_,I.lset (its':=its++[u]) hH e (by simp) (r.append (.cons ru .nil)) ?_,rfl,q⟩
 rw [List.length_append,List.length_singleton]
 lia
inductive qr  (x:V) (vs:List V) (H:Hp) (Q:VK):Prop
 | mk: ∀ l b xs zs,(x=.ref l)->(vs=[.ref b])->(H l=some (.lst xs))->(H b=some (.lst zs))->(xs.length+zs.length<=sizeLine)->(Q .non (upd H l (.lst (xs++zs))))->qr x vs H Q
theorem gu:MtM X "list.extend" qr:=by
 intro pins s σ H x vs v us Q I rx rv h
 obtain ⟨l,b,xs,zs,rfl,rfl,hH,hB,hz,q⟩:=h
 cases rx
 obtain ⟨u,rfl,ru⟩:=rv.one
 cases ru
 obtain ⟨z,its,n,r,hl,e⟩:=I.lstM hH
 obtain ⟨z2,its2,n2,r2,hl2,e2⟩:=I.lstM hB
 have hsz:its.toArray.size+its2.toArray.size<=sizeLine:=by rw [List.size_toArray,List.size_toArray];lia
 have hlong: ¬ (!its.toArray.isEmpty&&Builtin.List.listTooLong (its.toArray.size+its2.toArray.size))=true:=by
  rw [oq hsz,Bool.and_false]
  exact Bool.false_ne_true
 refine call_meets F.slot_list_extend ⟨_,e,rfl⟩ F.entry_list_extend (F.args_list_extend_2 _ _)
  (AutoSeq1.list_extend_list_list_0 l its.toArray n b its2.toArray n2 hlong (by rw [List.size_toArray];lia) (by lia)) ⟨e,e2,?_⟩
 refine ⟨.non,_,I.lset (its':=its++its2) hH e (by simp) (r.append r2) ?_,rfl,q⟩
 rw [List.length_append]
 lia
inductive yy  (x:V) (vs:List V) (H:Hp) (Q:VK):Prop
 | mk: ∀ l xs y,(x=.ref l)->(vs=[])->(H l=some (.lst xs))->(xs[xs.length-1]? =some y)->(Q y (upd H l (.lst xs.dropLast)))->yy x vs H Q
theorem uE:MtM X "list.pop" yy:=by
 intro pins s σ H x vs v us Q I rx rv h
 obtain ⟨l,xs,y,rfl,rfl,hH,hy,q⟩:=h
 cases rx
 have hus:=rv.zero
 subst hus
 obtain ⟨z,its,n,r,hl,e⟩:=I.lstM hH
 obtain ⟨u,hu,ru⟩:=r.get hy
 have hy':its.toArray[its.toArray.size-1]? =some u:=by
  show its.toArray[its.length-1]? =some u
  rw [<- Array.getElem?_toList,<- hl]
  exact hu
 refine call_meets F.slot_list_pop ⟨_,e,rfl⟩ F.entry_list_pop (F.args_list_pop_1 _) (MeetsSeq.list_pop_last l its.toArray n u hy' (by rw [List.size_toArray];lia)) ⟨e,?_⟩
 refine ⟨y,_,I.lset (its':=its.dropLast) hH e ?_ r.dropLast ?_,ru,q⟩
 ·show its.toArray.eraseIdxIfInBounds (its.toArray.size-1)=its.dropLast.toArray
  rw [List.size_toArray,List.eraseIdxIfInBounds_toArray,pY]
 ·rw [List.length_dropLast]
  lia
noncomputable def xb:V->List V->Hp->VK->Prop:=fun x vs H Q=> ∃ l xs i k y,x=.ref l/\vs=[.int i]/\H l=some (.lst xs)/\ -(2^63)<=i/\i<2^63/\seqIndex? i xs.length=some k/\xs[k]? =some y/\Q y (upd H l (.lst (xs.eraseIdx k)))
theorem uD:MtM X "list.pop" xb:=by
 intro pins s σ H x vs v us Q I rx rv h
 obtain ⟨l,xs,i,k,y,rfl,rfl,hH,h1,h2,hk,hy,q⟩:=h
 cases rx
 obtain ⟨u,rfl,ru⟩:=rv.one
 obtain ⟨t,rfl⟩:=ru
 obtain ⟨z,its,n,r,hl,e⟩:=I.lstM hH
 obtain ⟨w,hw,rw'⟩:=r.get hy
 refine call_meets F.slot_list_pop ⟨_,e,rfl⟩ F.entry_list_pop (F.args_list_pop_2 _ _)
  (MeetsSeq.list_pop_at l its.toArray n i t k w (fitsIndex_both h1 h2) (by rw [List.size_toArray,<- hl];exact hk) (by rw [<- Array.getElem?_toList];exact hw) (by rw [List.size_toArray];lia)) ⟨e,?_⟩
 refine ⟨y,_,I.lset (its':=its.eraseIdx k) hH e ?_ (r.eraseIdx k) ?_,rw',q⟩
 ·show its.toArray.eraseIdxIfInBounds k=(its.eraseIdx k).toArray
  rw [List.eraseIdxIfInBounds_toArray]
 ·have:=kY xs k
  lia
noncomputable def xc:V->List V->Hp->VK->Prop:=fun x vs H Q=> ∃ l xs,x=.ref l/\vs=[]/\H l=some (.lst xs)/\Q .non (upd H l (.lst []))
theorem uF:MtM X "list.clear" xc:=by
 intro pins s σ H x vs v us Q I rx rv h
 obtain ⟨l,xs,rfl,rfl,hH,q⟩:=h
 cases rx
 have hus:=rv.zero
 subst hus
 obtain ⟨z,its,n,r,hl,e⟩:=I.lstM hH
 refine call_meets F.slot_list_clear ⟨_,e,rfl⟩ F.entry_list_clear (F.args_list_clear_1 _) (AutoSeq1.list_clear_list_0 l its.toArray n (by rw [List.size_toArray];lia)) ⟨e,?_⟩
 exact ⟨.non,_,I.lset (its':=[]) (ys:=[]) hH e rfl .nil (Nat.zero_le _),rfl,q⟩
inductive yE  (x:V) (y:V) (H:Hp) (Q:VK):Prop
 | mk: ∀ l b xs zs,(x=.ref l)->(y=.ref b)->(H l=some (.lst xs))->(H b=some (.lst zs))->(xs.length+zs.length<=sizeLine)->(∀ p,H p=none->Q (.ref p) (upd H p (.lst (xs++zs))))->yE x y H Q
theorem cY:OpR X (binaryOp .Add) yE:=by
 intro pins s σ H x y v u Q I rx ry h
 obtain ⟨l,b,xs,zs,rfl,rfl,hH,hB,hz,q⟩:=h
 cases rx
 cases ry
 obtain ⟨z,its,n,r,hl,e⟩:=I.lstM hH
 obtain ⟨z2,its2,n2,r2,hl2,e2⟩:=I.lstM hB
 refine PySem.P.add_list e e2 ?_ (by rw [List.size_toArray,List.size_toArray];lia)
 have ea:its.toArray++its2.toArray=(its++its2).toArray:=by simp
 rw [ea]
 exact ⟨.ref _,_,I.lnew (t':=s.toks) (r.append r2) (by rw [List.length_append];lia),rfl,q _ I.fresh⟩
end
section
variable {κ:Type} [DecidableEq κ]
noncomputable def aO (kvs:List (κ×V)) (k:κ):Option V:=(kvs.find? fun kv=>decide (kv.1=k)).map (·.2)
noncomputable def aX (kvs:List (κ×V)) (k:κ) (v:V):List (κ×V):=
 if (kvs.any fun kv=>decide (kv.1=k))=true then kvs.map (fun kv=>if kv.1=k then (kv.1,v)else kv)else kvs++[(k,v)]
theorem sM {k:κ}:aO ([]:List (κ×V)) k=none:=rfl
theorem bQ {p:κ×V} {r:List (κ×V)} {k:κ} (e:p.1=k):aO (p::r) k=some p.2:=by simp [aO,List.find?_cons,e]
theorem bc {p:κ×V} {r:List (κ×V)} {k:κ} (e: ¬ p.1=k):aO (p::r) k=aO r k:=by simp [aO,List.find?_cons,e]
theorem dB (k:κ): ∀ kvs:List (κ×V),(kvs.any fun kv=>decide (kv.1=k))=(aO kvs k).isSome
 | []=>rfl
 | p::r=>by
  rw [List.any_cons]
  by_cases e:p.1=k
  ·simp only [bQ e,decide_eq_true e,Bool.true_or,Option.isSome_some]
  ·rw [bc e,decide_eq_false e,Bool.false_or];exact dB k r
theorem nH (k j:κ) (y:V): ∀ kvs:List (κ×V),aO (kvs.map fun kv=>if kv.1=k then (kv.1,y)else kv) j=(aO kvs j).map fun x=>if j=k then y else x
 | []=>rfl
 | p::r=>by
  have ih:=nH k j y r
  rw [List.map_cons]
  by_cases h:p.1=k
  ·rw [if_pos h]
   by_cases e:p.1=j
   ·rw [bQ (p:=(p.1,y)) e,bQ e,Option.map_some,if_pos (e.symm.trans h)]
   ·rw [bc (p:=(p.1,y)) e,bc e,ih]
  ·rw [if_neg h]
   by_cases e:p.1=j
   ·rw [bQ (p:=p) e,bQ e,Option.map_some,if_neg (fun z=>h (e.trans z))]
   ·rw [bc (p:=p) e,bc e,ih]
theorem ku (k j:κ) (y:V): ∀ kvs:List (κ×V),aO kvs k=none->aO (kvs++[(k,y)]) j=if j=k then some y else aO kvs j
 | [],_=>by
  by_cases e:k=j
  ·rw [if_pos e.symm];exact bQ (p:=(k,y)) e
  ·rw [if_neg (fun z=>e z.symm)];exact bc (p:=(k,y)) e
 | p::r,hn=>by
  rw [List.cons_append]
  have hk: ¬ p.1=k:=fun z=>by rw [bQ z]at hn;cases hn
  rw [bc hk]at hn
  have ih:=ku k j y r hn
  by_cases e:p.1=j
  ·rw [bQ e,bQ e,if_neg (fun z=>hk (e.trans z))]
  ·rw [bc e,bc e,ih]
theorem bP (kvs:List (κ×V)) (k j:κ) (y:V):aO (aX kvs k y) j=if j=k then some y else aO kvs j:=by
 unfold aX
 by_cases a:(kvs.any fun kv=>decide (kv.1=k))=true
 ·rw [if_pos a,nH]
  rw [dB]at a
  by_cases e:j=k
  ·obtain ⟨x,hx⟩:=Option.isSome_iff_exists.mp a
   rw [if_pos e,e,hx,Option.map_some,if_pos rfl]
  ·rw [if_neg e]
   cases aO kvs j with
   | none=>rfl
   | some x=>rw [Option.map_some,if_neg e]
 ·rw [if_neg a]
  refine ku k j y kvs ?_
  rw [dB]at a
  cases q:aO kvs k with
  | none=>rfl
  | some x=>rw [q]at a;exact (a rfl).elim
theorem bh (kvs:List (κ×V)) (k:κ) (v:V):(aX kvs k v).length<=kvs.length+1:=by
 unfold aX
 split
 ·rw [List.length_map];lia
 ·rw [List.length_append,List.length_cons,List.length_nil];lia
theorem tT {kvs:List (κ×V)} {k:κ} (v:V) (h:aO kvs k=none):aX kvs k v=kvs++[(k,v)]:=by
 unfold aX
 rw [dB,h]
 exact if_neg (by decide)
theorem RelO.isSome_eq {o:Option V} {u:Option Value} (r:RelO o u):o.isSome=u.isSome:=by
 cases o with
 | none=>cases u with
  | none=>rfl
  | some _=>exact (show False from r).elim
 | some _=>cases u with
  | none=>exact (show False from r).elim
  | some _=>rfl
theorem RelO.getD {o:Option V} {u:Option Value} {d:V} {d':Value} (r:RelO o u) (rd:RelV d d'):RelV (o.getD d) (u.getD d'):=by
 cases o with
 | none=>cases u with
  | none=>exact rd
  | some _=>exact (show False from r).elim
 | some _=>cases u with
  | none=>exact (show False from r).elim
  | some _=>exact r
theorem KV.val {kvs:List (κ×V)} {vs:List (κ×Value)} (r:KV kvs vs) (k:κ):RelO (aO kvs k) (valueAt vs k):=by
 unfold KV at r
 induction r with
 | nil=>exact True.intro
 | @cons p q ps qs h t ih=>
  obtain ⟨h1,h2⟩:=h
  by_cases e:p.1=k
  ·have e':q.1=k:=h1.symm.trans e
   have b:valueAt (q::qs) k=some q.2:=by simp [valueAt,List.find?_cons,e']
   rw [bQ e,b];exact h2
  ·have e': ¬ q.1=k:=fun z=>e (h1.trans z)
   have b:valueAt (q::qs) k=valueAt qs k:=by simp [valueAt,List.find?_cons,e']
   rw [bc e,b];exact ih
theorem KV.any {kvs:List (κ×V)} {vs:List (κ×Value)} (r:KV kvs vs) (k:κ):(kvs.any fun kv=>decide (kv.1=k))=vs.any fun kv=>decide (kv.1=k):=by
 unfold KV at r
 induction r with
 | nil=>rfl
 | cons h t ih=>rw [List.any_cons,List.any_cons,ih,h.1]
theorem KV.repl {kvs:List (κ×V)} {vs:List (κ×Value)} (r:KV kvs vs) (k:κ) {y:V} {u:Value} (ry:RelV y u):
  KV (kvs.map fun kv=>if kv.1=k then (kv.1,y)else kv) (vs.map fun kv=>if kv.1=k then (kv.1,u)else kv):=by
 unfold KV at r ⊢
 induction r with
 | nil=>exact .nil
 | @cons p q ps qs h t ih=>
  rw [List.map_cons,List.map_cons]
  refine .cons ?_ ih
  obtain ⟨h1,h2⟩:=h
  by_cases e:p.1=k
  ·rw [if_pos e,if_pos (h1.symm.trans e)];exact ⟨h1,ry⟩
  ·rw [if_neg e,if_neg (fun z=>e (h1.trans z))];exact ⟨h1,h2⟩
theorem KV.put {kvs:List (κ×V)} {vs:List (κ×Value)} (r:KV kvs vs) (k:κ) {y:V} {u:Value} (ry:RelV y u):KV (aX kvs k y) (stored vs k u):=by
 unfold aX stored
 rw [r.any k]
 by_cases e:(vs.any fun kv=>decide (kv.1=k))=true
 ·rw [if_pos e,if_pos e];exact r.repl k ry
 ·rw [if_neg e,if_neg e];exact Paired.snoc r ⟨rfl,ry⟩
theorem KV.length {kvs:List (κ×V)} {vs:List (κ×Value)} (r:KV kvs vs):kvs.length=vs.length:=Paired.length r
end
theorem io {P:Program} {w:World} {k:Key} {u:Value} (r:RelV (kV k) u):(aU P w).is k u=true:=by
 cases k with
 | inl i=>obtain ⟨t,e⟩:=(show ∃ t,u=Value.int i t from r);subst e;exact ow P w i t
 | inr x=>obtain ⟨t,e⟩:=(show ∃ t,u=Value.str x t from r);subst e;exact ou P w x t
theorem uP {a b:Key} (e:kV a=kV b):a=b:=by
 cases a with
 | inl i=>cases b with
  | inl j=>have e':V.int i=V.int j:=e;injection e' with e';rw [e']
  | inr y=>exact nomatch (show V.int i=V.str y from e)
 | inr x=>cases b with
  | inl j=>exact nomatch (show V.str x=V.int j from e)
  | inr y=>have e':V.str x=V.str y:=e;injection e' with e';rw [e']
theorem nn: ∀ {a b:List Key},a.map kV=b.map kV->a=b
 | [],[],_=>rfl
 | [],_::_,e=>by simp at e
 | _::_,[],e=>by simp at e
 | x::xs,y::ys,e=>by
  rw [List.map_cons,List.map_cons]at e
  injection e with e1 e2
  rw [uP e1,nn e2]
theorem iX {P:Program} {w:World}: ∀ {ks:List Key} {us:List Value},Vals (ks.map kV) us->ItemsAre (aU P w) ks us
 | [],_,r=>by rw [List.map_nil]at r;cases r;exact .nil
 | k::ks,_,r=>by
  rw [List.map_cons]at r
  cases r with
  | cons h t=>exact .cons (io h) (iX t)
noncomputable abbrev KT (H:Hp):List (List Key×V)->List (List Key×Addr×Value)->Prop:=Paired fun p q=>p.1=q.1/\H q.2.1=some (.tup (p.1.map kV))/\RelV p.2 q.2.2
theorem KT.val {H:Hp} {kvs:List (List Key×V)} {xs:List (List Key×Addr×Value)} (r:KT H kvs xs) (k:List Key):RelO (aO kvs k) ((atKey xs k).map (·.2)):=by
 induction r with
 | nil=>exact True.intro
 | @cons p q ps qs h t ih=>
  obtain ⟨h1,_,h2⟩:=h
  by_cases e:p.1=k
  ·have e':q.1=k:=h1.symm.trans e
   have b:atKey (q::qs) k=some q.2:=by simp [atKey,List.find?_cons,e']
   rw [bQ e,b];exact h2
  ·have e': ¬ q.1=k:=fun z=>e (h1.trans z)
   have b:atKey (q::qs) k=atKey qs k:=by simp [atKey,List.find?_cons,e']
   rw [bc e,b];exact ih
theorem KT.repl {H:Hp} {kvs:List (List Key×V)} {xs:List (List Key×Addr×Value)} (r:KT H kvs xs) (k:List Key) {y:V} {u:Value} (ry:RelV y u):
  KT H (kvs.map fun kv=>if kv.1=k then (kv.1,y)else kv) (xs.map (putAt k u)):=by
 induction r with
 | nil=>exact .nil
 | @cons p q ps qs h t ih=>
  rw [List.map_cons,List.map_cons]
  refine .cons ?_ ih
  obtain ⟨h1,h2,h3⟩:=h
  unfold putAt
  by_cases e:p.1=k
  ·rw [if_pos e,if_pos (h1.symm.trans e)];exact ⟨h1,h2,ry⟩
  ·rw [if_neg e,if_neg (fun z=>e (h1.trans z))];exact ⟨h1,h2,h3⟩
theorem KT.put {H:Hp} {kvs:List (List Key×V)} {xs:List (List Key×Addr×Value)} (r:KT H kvs xs) (k:List Key) {b:Addr} {y:V} {u:Value} (hb:H b=some (.tup (k.map kV))) (ry:RelV y u):
  KT H (aX kvs k y) (storedH xs k b u):=by
 have e:(kvs.any fun kv=>decide (kv.1=k))=(atKey xs k).isSome:=by
  rw [dB,(r.val k).isSome_eq,Option.isSome_map]
 unfold aX storedH
 rw [e]
 by_cases q:(atKey xs k).isSome=true
 ·rw [if_pos q,if_pos q];exact r.repl k ry
 ·rw [if_neg q,if_neg q];exact Paired.snoc r ⟨rfl,hb,ry⟩
theorem KT.keeps {H H':Hp} {kvs:List (List Key×V)} {xs:List (List Key×Addr×Value)} (r:KT H kvs xs) (ht: ∀ b ys,H b=some (.tup ys)->H' b=some (.tup ys)):KT H' kvs xs:=
 Paired.mapP r fun _ _ z=>⟨z.1,ht _ _ z.2.1,z.2.2⟩
noncomputable abbrev KP (H:Hp):List ((List Key×Key)×V)->List ((List Key×Key)×Addr×Value)->Prop:=Paired fun p q=>p.1=q.1/\(∃ c,H q.2.1=some (.tup [.ref c,kV p.1.2])/\H c=some (.tup (p.1.1.map kV)))/\RelV p.2 q.2.2
theorem KP.val {H:Hp} {kvs:List ((List Key×Key)×V)} {xs:List ((List Key×Key)×Addr×Value)} (r:KP H kvs xs) (k:List Key×Key):RelO (aO kvs k) ((atKey xs k).map (·.2)):=by
 induction r with
 | nil=>exact True.intro
 | @cons p q ps qs h t ih=>
  obtain ⟨h1,_,h2⟩:=h
  by_cases e:p.1=k
  ·have e':q.1=k:=h1.symm.trans e
   have b:atKey (q::qs) k=some q.2:=by simp [atKey,List.find?_cons,e']
   rw [bQ e,b];exact h2
  ·have e': ¬ q.1=k:=fun z=>e (h1.trans z)
   have b:atKey (q::qs) k=atKey qs k:=by simp [atKey,List.find?_cons,e']
   rw [bc e,b];exact ih
theorem KP.repl {H:Hp} {kvs:List ((List Key×Key)×V)} {xs:List ((List Key×Key)×Addr×Value)} (r:KP H kvs xs) (k:List Key×Key) {y:V} {u:Value} (ry:RelV y u):
  KP H (kvs.map fun kv=>if kv.1=k then (kv.1,y)else kv) (xs.map (putAt k u)):=by
 induction r with
 | nil=>exact .nil
 | @cons p q ps qs h t ih=>
  rw [List.map_cons,List.map_cons]
  refine .cons ?_ ih
  obtain ⟨h1,h2,h3⟩:=h
  unfold putAt
  by_cases e:p.1=k
  ·rw [if_pos e,if_pos (h1.symm.trans e)];exact ⟨h1,h2,ry⟩
  ·rw [if_neg e,if_neg (fun z=>e (h1.trans z))];exact ⟨h1,h2,h3⟩
theorem KP.put {H:Hp} {kvs:List ((List Key×Key)×V)} {xs:List ((List Key×Key)×Addr×Value)} (r:KP H kvs xs) (k:List Key×Key) {b:Addr} {y:V} {u:Value} (hb: ∃ c,H b=some (.tup [.ref c,kV k.2])/\H c=some (.tup (k.1.map kV))) (ry:RelV y u):
  KP H (aX kvs k y) (storedH xs k b u):=by
 have e:(kvs.any fun kv=>decide (kv.1=k))=(atKey xs k).isSome:=by
  rw [dB,(r.val k).isSome_eq,Option.isSome_map]
 unfold aX storedH
 rw [e]
 by_cases q:(atKey xs k).isSome=true
 ·rw [if_pos q,if_pos q];exact r.repl k ry
 ·rw [if_neg q,if_neg q];exact Paired.snoc r ⟨rfl,hb,ry⟩
theorem KP.keeps {H H':Hp} {kvs:List ((List Key×Key)×V)} {xs:List ((List Key×Key)×Addr×Value)} (r:KP H kvs xs) (ht: ∀ b ys,H b=some (.tup ys)->H' b=some (.tup ys)):KP H' kvs xs:=
 Paired.mapP r fun _ _ z=>⟨z.1,let ⟨c,e1,e2⟩:=z.2.1;⟨c,ht _ _ e1,ht _ _ e2⟩,z.2.2⟩
section
variable {P:Program} {w:World} {H:Hp} {h:Heap} {a:Addr}
theorem tQ {u:HO} (ok:HOk P w H h) (e:Rd H a u):ObjOk P w H h a u:=e.ok ok
theorem j1 {kvs:List (Key×V)} (ok:HOk P w H h) (e:Rd H a (.dK kvs)):kvs.length<=sizeLine/\(a==sysModules)=false/\ ∃ vs,KV kvs vs/\h.DictOf (aU P w) a vs:=
 show ObjOk P w H h a (.dK kvs)from tQ ok e
theorem yX {kvs:List (Key×V)} (ok:HOk P w H h) (e:H a=some (.dK kvs)):kvs.length<=sizeLine/\(a==sysModules)=false/\ ∃ vs,KV kvs vs/\h.DictOf (aU P w) a vs:=j1 ok (.inl e)
theorem gS {ks:List Key} (ok:HOk P w H h) (e:H a=some (.tup (ks.map kV))):(tupleKind (aU P w)).is h ks a:=by
 obtain ⟨_,its,r,o,h1,h2,n,h3⟩:=(show ObjOk P w H h a (.tup (ks.map kV))from ok a _ e)
 exact ⟨o,its.toArray,n,h1,h2,h3,by simpa using iX r⟩
theorem jZ {kvs:List (List Key×V)} (ok:HOk P w H h) (e:Rd H a (.dT kvs)):kvs.length<=sizeLine/\(a==sysModules)=false/\
  ∃ xs,KT H kvs xs/\h.DictOfH (tupleKind (aU P w)) a xs:=by
 obtain ⟨z,y,xs,r,o,es,ep,h1,h2,h3,h4,h5⟩:=(show ObjOk P w H h a (.dT kvs)from tQ ok e)
 refine ⟨z,y,xs,r,o,es,ep,h1,h2,h3,h4,fun x hx=>?_,h5⟩
 have all: ∀ {l:List (List Key×V)} {m:List (List Key×Addr×Value)},KT H l m-> ∀ x∈m,(tupleKind (aU P w)).is h x.1 x.2.1:=by
  intro l m q
  induction q with
  | nil=>intro x hx;exact nomatch hx
  | @cons p q ps qs hq t ih=>
   intro x hx
   rcases List.mem_cons.mp hx with e | hx
   ·subst e
    exact gS ok (by rw [<- hq.1];exact hq.2.1)
   ·exact ih x hx
 exact all r x hx
theorem yV {kvs:List (List Key×V)} (ok:HOk P w H h) (e:H a=some (.dT kvs)):kvs.length<=sizeLine/\(a==sysModules)=false/\
  ∃ xs,KT H kvs xs/\h.DictOfH (tupleKind (aU P w)) a xs:=jZ ok (.inl e)
theorem gv {k:List Key×Key} (ok:HOk P w H h) (e: ∃ c,H a=some (.tup [.ref c,kV k.2])/\H c=some (.tup (k.1.map kV))):(eV (aU P w) (aU P w)).is h k a:=by
 obtain ⟨c,e1,e2⟩:=e
 obtain ⟨_,its,r,o,h1,h2,n,h3⟩:=(show ObjOk P w H h a (.tup [.ref c,kV k.2])from ok a _ e1)
 obtain ⟨u,v,rfl,ru,rv⟩:=r.two
 cases (show u=Value.ref c from ru)
 exact ⟨o,_,n,c,v,h1,h2,h3,by simp,gS ok e2,io rv⟩
theorem lj {kvs:List ((List Key×Key)×V)} (ok:HOk P w H h) (e:Rd H a (.dP kvs)):kvs.length<=sizeLine/\(a==sysModules)=false/\
  ∃ xs,KP H kvs xs/\h.DictOfH (eV (aU P w) (aU P w)) a xs:=by
 obtain ⟨z,y,xs,r,o,es,ep,h1,h2,h3,h4,h5⟩:=(show ObjOk P w H h a (.dP kvs)from tQ ok e)
 refine ⟨z,y,xs,r,o,es,ep,h1,h2,h3,h4,fun x hx=>?_,h5⟩
 have all: ∀ {l:List ((List Key×Key)×V)} {m:List ((List Key×Key)×Addr×Value)},KP H l m-> ∀ x∈m,(eV (aU P w) (aU P w)).is h x.1 x.2.1:=by
  intro l m q
  induction q with
  | nil=>intro x hx;exact nomatch hx
  | @cons p q ps qs hq t ih=>
   intro x hx
   rcases List.mem_cons.mp hx with e | hx
   ·subst e
    rw [<- hq.1];exact gv ok hq.2.1
   ·exact ih x hx
 exact all r x hx
theorem yW {kvs:List ((List Key×Key)×V)} (ok:HOk P w H h) (e:H a=some (.dP kvs)):kvs.length<=sizeLine/\(a==sysModules)=false/\
  ∃ xs,KP H kvs xs/\h.DictOfH (eV (aU P w) (aU P w)) a xs:=lj ok (.inl e)
end
noncomputable def DGet (H:Hp) (a:Addr) (y:V) (r:Option V):Prop:=
 (∃ kvs k,Rd H a (.dK kvs)/\y=kV k/\r=aO kvs k)\/(∃ kvs k b,Rd H a (.dT kvs)/\y=.ref b/\H b=some (.tup (k.map kV))/\r=aO kvs k)\/
 ∃ kvs k b,Rd H a (.dP kvs)/\y=.ref b/\(∃ c,H b=some (.tup [.ref c,kV k.2])/\H c=some (.tup (k.1.map kV)))/\r=aO kvs k
noncomputable def DPut (H:Hp) (a:Addr) (y v:V) (H':Hp):Prop:=
 (∃ kvs k,H a=some (.dK kvs)/\y=kV k/\kvs.length<sizeLine/\H'=upd H a (.dK (aX kvs k v)))\/
 (∃ kvs k b,H a=some (.dT kvs)/\y=.ref b/\H b=some (.tup (k.map kV))/\kvs.length<sizeLine/\H'=upd H a (.dT (aX kvs k v)))\/
 ∃ kvs k b,H a=some (.dP kvs)/\y=.ref b/\(∃ c,H b=some (.tup [.ref c,kV k.2])/\H c=some (.tup (k.1.map kV)))/\kvs.length<sizeLine/\H'=upd H a (.dP (aX kvs k v))
theorem DGet.k {H:Hp} {a:Addr} {kvs:List (Key×V)} {k:Key} (e:H a=some (.dK kvs)):DGet H a (kV k) (aO kvs k):=.inl ⟨kvs,k,.inl e,rfl,rfl⟩
theorem DGet.t {H:Hp} {a b:Addr} {kvs:List (List Key×V)} {k:List Key} (e:H a=some (.dT kvs)) (eb:H b=some (.tup (k.map kV))):DGet H a (.ref b) (aO kvs k):=.inr (.inl ⟨kvs,k,b,.inl e,rfl,eb,rfl⟩)
theorem DGet.p {H:Hp} {a b c:Addr} {kvs:List ((List Key×Key)×V)} {t:List Key} {k:Key} (e:H a=some (.dP kvs)) (eb:H b=some (.tup [.ref c,kV k])) (ec:H c=some (.tup (t.map kV))):DGet H a (.ref b) (aO kvs (t,k)):=.inr (.inr ⟨kvs,(t,k),b,.inl e,rfl,⟨c,eb,ec⟩,rfl⟩)
theorem DPut.k {H:Hp} {a:Addr} {kvs:List (Key×V)} {k:Key} {v:V} (e:H a=some (.dK kvs)) (hl:kvs.length<sizeLine):DPut H a (kV k) v (upd H a (.dK (aX kvs k v))):=.inl ⟨kvs,k,e,rfl,hl,rfl⟩
theorem DPut.t {H:Hp} {a b:Addr} {kvs:List (List Key×V)} {k:List Key} {v:V} (e:H a=some (.dT kvs)) (eb:H b=some (.tup (k.map kV))) (hl:kvs.length<sizeLine):
  DPut H a (.ref b) v (upd H a (.dT (aX kvs k v))):=.inr (.inl ⟨kvs,k,b,e,rfl,eb,hl,rfl⟩)
theorem DPut.p {H:Hp} {a b c:Addr} {kvs:List ((List Key×Key)×V)} {t:List Key} {k:Key} {v:V} (e:H a=some (.dP kvs)) (eb:H b=some (.tup [.ref c,kV k])) (ec:H c=some (.tup (t.map kV))) (hl:kvs.length<sizeLine):
  DPut H a (.ref b) v (upd H a (.dP (aX kvs (t,k) v))):=.inr (.inr ⟨kvs,(t,k),b,e,rfl,⟨c,eb,ec⟩,hl,rfl⟩)
section
variable {X:Cx} {pins:List (Addr×Obj)} {σ:St} {H:Hp} {s:Shared} {a:Addr} {y v:V} {u r:Value} {o:Option V} {A:Around} {E:Value->Shared->Prop}
theorem Inv.big (I:Inv X pins σ H s):sysModules<s.heap.objs.size:=by
 have h:mainGlobals<s.heap.objs.size:=(I.mod.glob.keeps I.bk).lt
 exact Nat.lt_trans (by decide) h
theorem sG {Q:Value->Shared->Prop} (hu:A.units+16<cLine) (I:Inv X pins σ H s) (g:DGet H a y (some v)) (ry:RelV y u) (h: ∀ w' s',Inv X pins σ H s'->RelV v w'->Q w' s'):
  wpAny (model X.prog X.w) A (getItem (.ref a) u) Q E s:=by
 rcases g with ⟨kvs,k,e,ey,l⟩ | ⟨kvs,k,b,e,ey,eb,l⟩ | ⟨kvs,k,b,e,ey,eb,l⟩
 ·subst ey
  obtain ⟨z,hd,vs,rel,dd⟩:=j1 I.hok e
  obtain ⟨w',hw,rw'⟩:=RelO.some_of (v:=v) (o:=valueAt vs k) (by rw [l];exact rel.val k)
  exact wpAny_getItem_of (io ry) dd.mapOf hw (h w' _ (I.tok _) rw')
 ·subst ey
  cases (show u=Value.ref b from ry)
  obtain ⟨z,hd,xs,rel,dd⟩:=jZ I.hok e
  obtain ⟨w',hw,rw'⟩:=RelO.some_of (v:=v) (o:=(atKey xs k).map (·.2)) (by rw [l];exact rel.val k)
  obtain ⟨p,hp,hp2⟩:=Option.map_eq_some_iff.mp hw
  refine wpAny_getItem_heap (tupleKind_room_in1 (by lia)) (gS I.hok eb) dd hp ?_
  rw [hp2]
  exact h w' _ (I.tok _) rw'
 ·subst ey
  cases (show u=Value.ref b from ry)
  obtain ⟨z,hd,xs,rel,dd⟩:=lj I.hok e
  obtain ⟨w',hw,rw'⟩:=RelO.some_of (v:=v) (o:=(atKey xs k).map (·.2)) (by rw [l];exact rel.val k)
  obtain ⟨p,hp,hp2⟩:=Option.map_eq_some_iff.mp hw
  refine wpAny_getItem_heap (show _+8<cLine by show A.units+1+8<cLine;lia) (gv I.hok eb) dd hp ?_
  rw [hp2]
  exact h w' _ (I.tok _) rw'
theorem zF {Q:Value->Shared->Prop} (hu:A.units+16<cLine) (I:Inv X pins σ H s) (g:DGet H a y o) (ry:RelV y u) (h: ∀ s',Inv X pins σ H s'->Q (.bool o.isSome) s'):
  wpAny (model X.prog X.w) A (compareOp .In u (.ref a)) Q E s:=by
 rcases g with ⟨kvs,k,e,ey,l⟩ | ⟨kvs,k,b,e,ey,eb,l⟩ | ⟨kvs,k,b,e,ey,eb,l⟩
 ·subst ey
  obtain ⟨z,hd,vs,rel,dd⟩:=j1 I.hok e
  refine wpAny_in_of (io ry) hd dd.mapOf ?_
  rw [<- (rel.val k).isSome_eq,<- l]
  exact h _ (I.tok _)
 ·subst ey
  cases (show u=Value.ref b from ry)
  obtain ⟨z,hd,xs,rel,dd⟩:=jZ I.hok e
  refine wpAny_in_heap (tupleKind_room_in1 (by lia)) (gS I.hok eb) hd dd ?_
  have q:=(rel.val k).isSome_eq
  rw [Option.isSome_map]at q
  rw [<- q,<- l]
  exact h _ (I.tok _)
 ·subst ey
  cases (show u=Value.ref b from ry)
  obtain ⟨z,hd,xs,rel,dd⟩:=lj I.hok e
  refine wpAny_in_heap (show _+8<cLine by show A.units+1+8<cLine;lia) (gv I.hok eb) hd dd ?_
  have q:=(rel.val k).isSome_eq
  rw [Option.isSome_map]at q
  rw [<- q,<- l]
  exact h _ (I.tok _)
theorem wm {Q:Value->Shared->Prop} (hu:A.units+16<cLine) (I:Inv X pins σ H s) (g:DGet H a y o) (ry:RelV y u) (h: ∀ s',Inv X pins σ H s'->Q (.bool (!o.isSome)) s'):
  wpAny (model X.prog X.w) A (compareOp .NotIn u (.ref a)) Q E s:=by
 rcases g with ⟨kvs,k,e,ey,l⟩ | ⟨kvs,k,b,e,ey,eb,l⟩ | ⟨kvs,k,b,e,ey,eb,l⟩
 ·subst ey
  obtain ⟨z,hd,vs,rel,dd⟩:=j1 I.hok e
  refine wpAny_notIn_of (io ry) hd dd.mapOf ?_
  rw [<- (rel.val k).isSome_eq,<- l]
  exact h _ (I.tok _)
 ·subst ey
  cases (show u=Value.ref b from ry)
  obtain ⟨z,hd,xs,rel,dd⟩:=jZ I.hok e
  refine wpAny_notIn_heap (tupleKind_room_in1 (by lia)) (gS I.hok eb) hd dd ?_
  have q:=(rel.val k).isSome_eq
  rw [Option.isSome_map]at q
  rw [<- q,<- l]
  exact h _ (I.tok _)
 ·subst ey
  cases (show u=Value.ref b from ry)
  obtain ⟨z,hd,xs,rel,dd⟩:=lj I.hok e
  refine wpAny_notIn_heap (show _+8<cLine by show A.units+1+8<cLine;lia) (gv I.hok eb) hd dd ?_
  have q:=(rel.val k).isSome_eq
  rw [Option.isSome_map]at q
  rw [<- q,<- l]
  exact h _ (I.tok _)
theorem jm {h':Heap} {t':Nat} {ob:HO} (I:Inv X pins σ H s) (mu:Mut (H a)) (hs:Heap.SameBut a s.heap h') (he: ∃ q,h'.get? a=some q) (new:ObjOk X.prog X.w (upd H a ob) h' a ob):
  Inv X pins σ (upd H a ob) {s with heap:=h',toks:=t'}:=
 I.write (x:=a) (e:=a) mu (.inl rfl) (fun b q hb z=>(hs.2 b hb).trans z) he new
theorem xL {P:Program} {w:World} {H':Hp} {h':Heap} {kvs:List (Key×V)} {vs:List (Key×Value)} (z:kvs.length<=sizeLine) (hd:(a==sysModules)=false) (rel:KV kvs vs) (dd:h'.DictOf (aU P w) a vs):
  ObjOk P w H' h' a (.dK kvs):=⟨z,hd,vs,rel,dd⟩
theorem sF {H':Hp} {Q:Unit->Shared->Prop} (hu:A.units+16<cLine) (I:Inv X pins σ H s) (g:DPut H a y v H') (ry:RelV y u) (rv:RelV v r) (h: ∀ s',Inv X pins σ H' s'->Q () s'):
  wpAny (model X.prog X.w) A (setItem (.ref a) u r) Q E s:=by
 rcases g with ⟨kvs,k,e,ey,l,eH⟩ | ⟨kvs,k,b,e,ey,eb,l,eH⟩ | ⟨kvs,k,b,e,ey,eb,l,eH⟩
 ·subst ey eH
  obtain ⟨z,hd,vs,rel,dd⟩:=yX I.hok e
  have hz:vs.length<=sizeLine:=by rw [<- rel.length];exact z
  have hl:(aX kvs k v).length<=sizeLine:=by have:=bh kvs k v;lia
  refine wpAny_setItem_pairs (hsz:=hz) (io ry) dd fun h' dd' hs=>h _ ?_
  have he: ∃ q,h'.get? a=some q:=let ⟨q,_,_,hq,_⟩:=dd';⟨q,hq⟩
  exact jm I (by rw [e];exact True.intro) hs he (xL hl hd (rel.put k rv) dd')
 ·subst ey eH
  cases (show u=Value.ref b from ry)
  obtain ⟨z,hd,xs,rel,dd⟩:=yV I.hok e
  have hz:xs.length<=sizeLine:=by rw [<- Paired.length rel];exact z
  have hl:(aX kvs k v).length<=sizeLine:=by have:=bh kvs k v;lia
  refine wpAny_setItem_heap (hsz:=hz) (tupleKind_room_in1 (by lia)) (gS I.hok eb) dd fun h' dd' hs=>h _ ?_
  obtain ⟨q,es,ep,hq,h2,h3,h4,_,h5⟩:=dd'
  refine jm I (by rw [e];exact True.intro) hs ⟨q,hq⟩ ⟨hl,hd,_,(rel.put k eb rv).keeps fun c ys ec=>?_,q,es,ep,hq,h2,h3,h4,h5⟩
  rw [ah (wK ec e (fun z=>nomatch z))]
  exact ec
 ·subst ey eH
  cases (show u=Value.ref b from ry)
  obtain ⟨z,hd,xs,rel,dd⟩:=yW I.hok e
  have hz:xs.length<=sizeLine:=by rw [<- Paired.length rel];exact z
  have hl:(aX kvs k v).length<=sizeLine:=by have:=bh kvs k v;lia
  refine wpAny_setItem_heap (hsz:=hz) (show _+8<cLine by show A.units+1+8<cLine;lia) (gv I.hok eb) dd fun h' dd' hs=>h _ ?_
  obtain ⟨q,es,ep,hq,h2,h3,h4,_,h5⟩:=dd'
  refine jm I (by rw [e];exact True.intro) hs ⟨q,hq⟩ ⟨hl,hd,_,(rel.put k eb rv).keeps fun c ys ec=>?_,q,es,ep,hq,h2,h3,h4,h5⟩
  rw [ah (wK ec e (fun z=>nomatch z))]
  exact ec
end
noncomputable def y6 (i:Expr):Prop:= ∀ ov iv,subscripted i false ov iv=operate [ov,iv] (getItem ov iv)
theorem vq {prog:Program} {w:World} {A:Around} {E:Value->Shared->Prop} {s:Shared} {env:Env} {value slice:Expr} {pos:Pos} {T id:String} {Q:Value->Shared->Prop}
  (hl:typeLookup (.type T) "__getitem__"=pure (some (.builtin id))) (hs:y6 slice)
  (h:wpAny (model prog w) A (eval value env) (fun o s₁=>wpAny (model prog w) A (eval slice env) (fun i s₂=>s₂.TypeIs o T/\wpAny (model prog w) A (getItem o i) Q E s₂) E s₁) E s):
  wpAny (model prog w) A (eval (.Subscript value slice pos) env) Q E s:=by
 refine Subscript_ (wpAny_mono h (fun o s₁ h₁=>wpAny_mono h₁ (fun i s₂ h₂=>?_) fun _ _ x=>x) fun _ _ x=>x)
 obtain ⟨hT,h₂⟩:=h₂
 unfold subscriptTail
 refine wpAny_bind ?_
 rw [getitemInPython_of_ne hT.not_modules]
 refine wpAny_bind (wpAny_specialOf hT hl ?_)
 have fin:wpAny (model prog w) A (subscripted slice false o i) (fun r s₃=>wpAny (model prog w) A (letTemporaryGo value o r >>= fun _=>pure r) Q E s₃) E s₂:=by
  rw [hs o i]
  exact wpAny_operating (wpAny_mono h₂ (fun r s₃ h₃=>wpAny_bind (wpAny_letTemporaryGo (wpAny_pure h₃))) fun _ _ x=>x)
 first
  | exact wpAny_pure (wpAny_bind fin)
  | exact wpAny_bind (wpAny_pure (wpAny_bind fin))
  | exact wpAny_bind fin
theorem oH {X:Cx} {pins:List (Addr×Obj)} {σ:St} {H:Hp} {s:Shared} {a:Addr} {y:V} {o:Option V} (I:Inv X pins σ H s) (g:DGet H a y o):s.TypeIs (.ref a) "dict":=by
 rcases g with ⟨kvs,k,e,_,_⟩ | ⟨kvs,k,b,e,_,_,_⟩ | ⟨kvs,k,b,e,_,_,_⟩
 ·obtain ⟨_,_,vs,_,dd⟩:=j1 I.hok e
  exact dd.typeIs
 ·obtain ⟨_,_,xs,_,dd⟩:=jZ I.hok e
  exact dd.typeIs
 ·obtain ⟨_,_,xs,_,dd⟩:=lj I.hok e
  exact dd.typeIs
noncomputable def ym (td ty:TE):TE:=fun σ H Q=>td σ H fun x H1=>ty σ H1 fun y H2=> ∃ a v,x=.ref a/\DGet H2 a y (some v)/\Q v H2
noncomputable def zi (ty td:TE):TE:=fun σ H Q=>ty σ H fun y H1=>td σ H1 fun x H2=> ∃ a o,x=.ref a/\DGet H2 a y o/\Q (.bl o.isSome) H2
noncomputable def vp (ty td:TE):TE:=fun σ H Q=>ty σ H fun y H1=>td σ H1 fun x H2=> ∃ a o,x=.ref a/\DGet H2 a y o/\Q (.bl (!o.isSome)) H2
noncomputable def yr (td ty tv:TE):TS:=fun D σ H=>tv σ H fun v H1=>td σ H1 fun x H2=>ty σ H2 fun y H3=> ∃ a H4,x=.ref a/\DPut H3 a y v H4/\D.nx σ H4
section
variable {X:Cx} {o i e value:Expr} {pos pos' tpos:Pos} {td ty tv:TE}
theorem bp (hu:X.A.units+16<cLine) (ho:PE X o td) (hi:PE X i ty) (hs:y6 i):PE X (.Subscript o i pos) (ym td ty):=by
 intro pins s σ H Q I h
 refine vq PySem.F.slot_dict_getitem.lookup hs (thn (ho pins s σ H _ I h) fun u s1 ⟨x,H1,I1,rx,q1⟩=>thn (hi pins s1 σ H1 _ I1 q1) fun iv s2 ⟨y,H2,I2,ry,a,v,ex,g,q2⟩=>?_)
 subst ex
 obtain rfl:u=Value.ref a:=rx
 exact ⟨oH I2 g,sG hu I2 g ry fun w' s3 I3 rw'=>⟨v,H2,I3,rw',q2⟩⟩
theorem mP (hu:X.A.units+16<cLine) (hi:PE X i ty) (ho:PE X o td):PC X .In i o (zi ty td):=by
 intro pins s σ H Q I h
 refine thn (hi pins s σ H _ I h) fun iv s1 ⟨y,H1,I1,ry,q1⟩=>thn (ho pins s1 σ H1 _ I1 q1) fun u s2 ⟨x,H2,I2,rx,a,ov,ex,g,q2⟩=>?_
 subst ex
 obtain rfl:u=Value.ref a:=rx
 exact zF hu I2 g ry fun s3 I3=>⟨.bl ov.isSome,H2,I3,rfl,q2⟩
theorem kO (hu:X.A.units+16<cLine) (hi:PE X i ty) (ho:PE X o td):PC X .NotIn i o (vp ty td):=by
 intro pins s σ H Q I h
 refine thn (hi pins s σ H _ I h) fun iv s1 ⟨y,H1,I1,ry,q1⟩=>thn (ho pins s1 σ H1 _ I1 q1) fun u s2 ⟨x,H2,I2,rx,a,ov,ex,g,q2⟩=>?_
 subst ex
 obtain rfl:u=Value.ref a:=rx
 exact wm hu I2 g ry fun s3 I3=>⟨.bl (!ov.isSome),H2,I3,rfl,q2⟩
theorem cA (hu:X.A.units+16<cLine) (ho:PE X o td) (hi:PE X i ty) (hv:PE X value tv) (hs:swapsWith value (some (.Subscript o i pos')) pos.line X.env=pure false):
  PS X (.Assign [.Subscript o i pos'] value pos) (yr td ty tv):=by
 intro pins s σ H D I h
 refine wpAny_Assign_Subscript (thn (hv pins s σ H _ I h) fun r s1 ⟨v,H1,I1,rv,q1⟩=>thn (ho pins s1 σ H1 _ I1 q1) fun u s2 ⟨x,H2,I2,rx,q2⟩=>thn (hi pins s2 σ H2 _ I2 q2) fun iv s3 ⟨y,H3,I3,ry,a,H4,ex,g,q3⟩=>?_) hs
 subst ex
 obtain rfl:u=Value.ref a:=rx
 exact sF hu I3 g ry rv fun s4 I4=>⟨σ,H4,I4,q3⟩
end
theorem u8 {P:Program} {w:World} {H:Hp} (h:Heap) (hb:sysModules<h.objs.size):ObjOk P w H (h.push {cls:=.type "dict",data:=.dict #[]}) h.objs.size (.dK []):=
 ⟨Nat.zero_le _,beq_eq_false_iff_ne.mpr (Ne.symm (Nat.ne_of_lt hb)),[],.nil,Heap.DictOf.new h⟩
theorem uY {P:Program} {w:World} {H:Hp} (h:Heap) (hb:sysModules<h.objs.size):ObjOk P w H (h.push {cls:=.type "dict",data:=.dict #[]}) h.objs.size (.dT []):=
 ⟨Nat.zero_le _,beq_eq_false_iff_ne.mpr (Ne.symm (Nat.ne_of_lt hb)),[],.nil,_,#[],0,Heap.get?_push_size _ rfl,⟨rfl,rfl,rfl⟩,rfl,rfl,List.nodup_nil⟩
noncomputable def wT:TE:=fun _ H Q=> ∀ p,H p=none->Q (.ref p) (upd H p (.dK []))
noncomputable def wR:TE:=fun _ H Q=> ∀ p,H p=none->Q (.ref p) (upd H p (.dT []))
section
variable {X:Cx} {pos:Pos}
theorem fU:PE X (.Dict [] [] pos) wT:=fun pins s σ H Q I h=>
 wpAny_Dict_empty ⟨.ref s.heap.objs.size,_,I.laid (a:=s.heap.objs.size) (o:=.dK []) (t':=s.toks) (fun _ _ q=>Heap.get?_push_of_some _ q) (Nat.le_refl _) (u8 s.heap I.big),rfl,h _ (I.hok.fresh (Nat.le_refl _))⟩
theorem ig:PE X (.Dict [] [] pos) wR:=fun pins s σ H Q I h=>
 wpAny_Dict_empty ⟨.ref s.heap.objs.size,_,I.laid (a:=s.heap.objs.size) (o:=.dT []) (t':=s.toks) (fun _ _ q=>Heap.get?_push_of_some _ q) (Nat.le_refl _) (uY s.heap I.big),rfl,h _ (I.hok.fresh (Nat.le_refl _))⟩
end
structure M2 (X:Cx) (o:Expr) (m:Str) (apos:Pos) (e f:Expr) (cpos:Pos):Prop where
 base:attributeBase o m X.env (eval o X.env)=eval o X.env
 few:((backTo cpos (starEach [e,f] X.env)).all (fun x=> !x.1)&&(backToKw cpos (keywordEach [] X.env)).all (fun x=>x.1.isSome)
  &&decide (([e,f]:List Expr).length+ ([]:List Keyword).length+ (if ([]:List Keyword).isEmpty then 0 else 1) <30))=true
 line:(apos.endLine==cpos.line)=true
 trees:backTo cpos (starEach [e,f] X.env)=[(false,eval e X.env),(false,eval f X.env)]
noncomputable def IsD (H:Hp) (a:Addr):Prop:=(∃ kvs,Rd H a (.dK kvs))\/ ∃ kvs,Rd H a (.dT kvs)
theorem xG {X:Cx} {pins:List (Addr×Obj)} {σ:St} {H:Hp} {s:Shared} {a:Addr} (I:Inv X pins σ H s) (d:IsD H a):
  s.TypeIs (.ref a) "dict"/\(∀ b,Value.ref a=.ref b-> ∃ ob,s.heap.get? b=some ob/\ob.dict=none)/\(a==sysModules)=false:=by
 rcases d with ⟨kvs,e⟩ | ⟨kvs,e⟩
 ·obtain ⟨_,hd,vs,_,dd⟩:=j1 I.hok e
  refine ⟨dd.typeIs,fun b q=>?_,hd⟩
  cases q
  obtain ⟨ob,_,_,h1,h2,_⟩:=dd
  exact ⟨ob,h1,h2.2.1⟩
 ·obtain ⟨_,hd,xs,_,dd⟩:=jZ I.hok e
  refine ⟨dd.typeIs,fun b q=>?_,hd⟩
  cases q
  obtain ⟨ob,_,_,h1,h2,_⟩:=dd
  exact ⟨ob,h1,h2.2.1⟩
section
variable {X:Cx} {pins:List (Addr×Obj)} {σ:St} {H:Hp} {s:Shared} {a:Addr} {y d:V} {u r:Value} {o:Option V} {A:Around} {E:Value->Shared->Prop}
theorem xM {Q:Value->Shared->Prop} (hu:A.units+16<cLine) (I:Inv X pins σ H s) (g:DGet H a y o) (ry:RelV y u) (rd:RelV d r) (h: ∀ w' s',Inv X pins σ H s'->RelV (o.getD d) w'->Q w' s'):
  wpAny (model X.prog X.w) A (call (.builtin "dict.get") [.ref a,u,r]) Q E s:=by
 rcases g with ⟨kvs,k,e,ey,l⟩ | ⟨kvs,k,b,e,ey,eb,l⟩ | ⟨kvs,k,b,e,ey,eb,l⟩
 ·subst ey
  obtain ⟨z,hd,vs,rel,dd⟩:=j1 I.hok e
  refine call_meetsIn PySem.F.slot_dict_get dd.typeIs PySem.F.entry_dict_get (PySem.F.args_dict_get_3 _ _ _) (meets_dict_get_default (aU X.prog X.w) a (io ry) hd r) ⟨_,dd.mapOf,h _ _ (I.tok _) ?_⟩
  rw [l]
  exact (rel.val k).getD rd
 ·subst ey
  cases (show u=Value.ref b from ry)
  obtain ⟨z,hd,xs,rel,dd⟩:=jZ I.hok e
  refine call_meetsIn PySem.F.slot_dict_get dd.typeIs PySem.F.entry_dict_get (PySem.F.args_dict_get_3 _ _ _) (meetsH_dict_get_default (tupleKind (aU X.prog X.w)) a b hd r) ⟨tupleKind_room_in1 (by lia),k,xs,gS I.hok eb,dd,h _ _ (I.tok _) ?_⟩
  rw [l]
  exact (rel.val k).getD rd
 ·subst ey
  cases (show u=Value.ref b from ry)
  obtain ⟨z,hd,xs,rel,dd⟩:=lj I.hok e
  refine call_meetsIn PySem.F.slot_dict_get dd.typeIs PySem.F.entry_dict_get (PySem.F.args_dict_get_3 _ _ _) (meetsH_dict_get_default (eV (aU X.prog X.w) (aU X.prog X.w)) a b hd r) ⟨(show _+8<cLine by show A.units+1+8<cLine;lia),k,xs,gv I.hok eb,dd,h _ _ (I.tok _) ?_⟩
  rw [l]
  exact (rel.val k).getD rd
end
noncomputable def wU (td ty tx:TE):TE:=fun σ H Q=>td σ H fun x H1=> ∃ a,x=.ref a/\IsD H1 a/\ty σ H1 fun y H2=>tx σ H2 fun z H3=> ∃ o,DGet H3 a y o/\Q (o.getD z) H3
section
variable {X:Cx} {o e f:Expr} {apos cpos:Pos} {td ty tx:TE}
theorem tY (hu:X.A.units+16<cLine) (ho:PE X o td) (he:PE X e ty) (hf:PE X f tx) (m:M2 X o "get" apos e f cpos):PE X (.Call (.Attribute o "get" apos) [e,f] [] cpos) (wU td ty tx):=by
 intro pins s σ H Q I h
 refine wpAny_Call_method m.base m.few m.line PySem.F.plainAttrs_dict PySem.F.slot_dict_get PySem.F.type_dict_get (thn (ho pins s σ H _ I h) fun u s1 ⟨x,H1,I1,rx,a,ex,d,q1⟩=>?_)
 subst ex
 obtain rfl:u=Value.ref a:=rx
 obtain ⟨t1,t2,_⟩:=xG I1 d
 refine ⟨t1,t2,?_⟩
 rw [m.trees]
 refine Calls.callWith_builtin rfl (Calls.evalArgs_plain (Calls.spliced_cons (thn (he pins s1 σ H1 _ I1 q1) fun iv s2 ⟨y,H2,I2,ry,q2⟩=>
  Calls.spliced_cons (thn (hf pins s2 σ H2 _ I2 q2) fun fv s3 ⟨z,H3,I3,rz,ov,g,q3⟩=>Calls.spliced_nil ?_))))
 exact xM hu I3 g ry rz fun w' s4 I4 rw'=>⟨_,H3,I4,rw',q3⟩
end
end L2
namespace Att
open PySem PySem.W PySem.Calls PyProof.Rows
theorem jc {P:Params} {h:Heap}: ∀ (ns:List Int) (vs:List Value),WellAll P h vs (ns.map WData.int)->IntsAre vs ns:=by
 intro ns
 induction ns with
 | nil=>
  intro vs w
  rw [List.map_nil]at w
  cases w
  exact .nil
 | cons n ns ih=>
  intro vs w
  rw [List.map_cons]at w
  cases w with
  | cons a b=>
   cases a
   exact .cons _ _ (ih _ b)
theorem q8 {l:OpenLaw} {n:Nat} (hn:l.most=some n) {P:Params} {h:Heap} {args:List WData} {vals:List Value}
  (hpre:l.row.toRowW.claim.pre args=true) (hwl:WellAll P h vals args):
  ∃ a vs ns,vals=[Value.ref a]/\args=[WData.list (ns.map WData.int)]/\h.get? a=some {cls:=.type "list",data:=.seq vs.toArray}/\IntsAre vs ns/\ns.length<=n:=by
 have hsh:WShape.hasAll [] args [.list .int]=true:=(pre_splitW hpre).1
 have hc:l.pre.holds [] {args:=args}=true:=(pre_splitW hpre).2
 obtain ⟨d,r,rfl,h1,h2⟩:=hasAllW_cons hsh
 obtain rfl:=hasAllW_nil h2
 obtain ⟨xs,rfl,h3⟩:=hasW_list h1
 obtain ⟨ns,rfl⟩:=items_int h3
 have hlen:ns.length<=n:=by
  unfold OpenLaw.pre at hc
  have h4:(WTm.not (.lt (.lit (.int (n:Int))) (.len (.arg 0)))).holds [] {args:=[.list (ns.map .int)]}=true:=by
   have h4:=(holds_andW hc).1
   rw [hn]at h4
   exact h4
  have h5:=condW_of h4 (w_not (w_lt w_lit (w_len_list (w_arg rfl))))
  rw [List.length_map]at h5
  refine Nat.le_of_not_lt fun q=>?_
  have q':(n:Int) < ((ns.length:Nat):Int):=by lia
  first
   | (rw [decide_eq_true q']at h5;exact absurd h5 (by decide))
   | (simp at h5;lia)
 cases hwl with
 | cons w1 w2=>
  cases w2
  cases w1 with
  | list ho hall=>exact ⟨_,_,ns,rfl,rfl,ho,jc ns _ hall,hlen⟩
theorem rB (l:OpenLaw) (args:List WData):l.row.toRowW.claim.post args (.bool true) args=true:=
 postW_of (r:=l.row.toRowW) (X:=(true==true))
  (show WShape.has [] (.bool true) .bool=true by first | rfl | decide | simp [WShape.has,WShape.arms,WShape.armsAll])
  (show (WTm.eq .res (.lit (.bool true))).value [] {args:=args,res:=some (.bool true),after:=args}=some (.bool (true==true))from w_eq_bool (w_res rfl) w_lit) rfl
theorem attach_call {l:OpenLaw} {n:Nat} {q:Program} {loose:List Str} {XP:(Str->Option Value)->Heap->Prop} {YP:World->Heap->Prop} {d:DefRec}
  (hn:l.most=some n) (hdf:d.params.defaults=[])
  (call: ∀ (w:World) (s₀ s₁:Shared) (mg mb:Str->Option Value) (fa:Addr) (o:Obj) (pm cd doc:Value) (a:Addr) (vs:List Value) (ns:List Int),
   Ground q loose [] XP w s₀ mg mb s₁.heap->YP w s₁.heap->
   s₁.heap.get? fa=some o->o.data=.func (docDef d.name d.params d.body d.scope pm cd doc)->s₁.heap.CodeRec cd d.name->mg d.name=some (.ref fa)->
   s₁.heap.get? a=some {cls:=.type "list",data:=.seq vs.toArray}->IntsAre vs ns->ns.length<=n->s₁.gens= #[]->
   codeAny (model l.prog w) callerA (.call (.ref fa) ⟨[.ref a],[]⟩) (fun r s'=>r=.ok (.ret (.bool true))/\OldK s₁.heap s'.heap/\s'.os=s₁.os/\AllBare s'.gens) s₁):
  WalkO q loose XP YP l.row.toRowW d [] (fun f vs=>PySem.call f vs):=by
 intro w s₀ s₁ mg mb G Y fa o pm cd doc dV kV ho hd hcd hD hmg hg args vals as hpre hlay hrd hwl hlo
 obtain rfl:dV=.none:=Dflts.none hD hdf
 obtain rfl:kV=.none:=Dflts.noKw hD
 obtain ⟨a,vs,ns,rfl,rfl,hobj,hints,hlen⟩:=q8 hn hpre hwl
 refine enter_call (codeAny_mono (call w s₀ s₁ mg mb fa o pm cd doc a vs ns G Y ho (fd_plain hd) hcd hmg hobj hints hlen hg) fun r s' hq=>?_)
 obtain ⟨rfl,h2,h3,h4⟩:=hq
 exact ⟨.inl ⟨.bool true,.bool true,[],rfl,fun _=>rfl,.bool true,rB l _,fun _=>⟨List.Pairwise.nil,fun _ hm=>(nomatch hm)⟩⟩,h2,h3,h4⟩
end Att
namespace L2
open PySem PySem.Spec PyProof.Rows
theorem kq: ∀ {vs:List Value} {ns:List Int},IntsAre vs ns->Vals (ns.map V.int) vs
 | _,_,.nil=>.nil
 | _,_,.cons n t h=>.cons ⟨t,rfl⟩ (kq h)
noncomputable def xW (H:Hp):Prop:= ∀ b,H b=none\/ ∃ o xs,H b=some (.frz o (.lst xs))
theorem uL {P:Program} {w:World} {K:PySem.W.Frag} {mg mb:Str->Option Value} {CX:CXT} {k:Nat} {fa a:Addr} {fd:FuncData} {x:Str} {sp:Sp} {s₁:Shared} {vs:List Value} {ns:List Int}
  (KX:K.In s₁.heap) (hns:s₁.heap.Ns mainGlobals mg) (hb:s₁.heap.Ns builtinsNs mb) (hbb: ∀ x:Str,x≠"__name__"->mb x=bootBuiltins x) (hlim:s₁.heap.NoLimit) (hg:s₁.gens= #[])
  (ha:s₁.heap.get? a=some {cls:=.type "list",data:=.seq vs.toArray}) (hi:IntsAre vs ns) (hl:ns.length<=sizeLine) (hr:Room k callerA)
  (F: ∀ base:Heap,K.In base->base.Ns mainGlobals mg->aE P w K mg base CX k fa fd [x] sp) (hbind: ∀ (s:Shared) (u:Value),BindsTo s fd ⟨[u],[]⟩ [(x,u)])
  (hsp: ∀ H:Hp,xW H->SqL K H a (ns.map V.int)->sp [.ref a] H (fun v _=>v=.bl true) fun _ _ _=>False)
  (hCX: ∀ H e s',CX [] H s₁ (fun _ _ _=>False) e s'->False):
  codeAny (model P w) callerA (.call (.ref fa) ⟨[.ref a],[]⟩) (fun r s'=>r=.ok (.ret (.bool true))/\OldK s₁.heap s'.heap/\s'.os=s₁.os/\AllBare s'.gens) s₁:=by
 have rv:=kq hi
 have lenV:=hi.length
 have core: ∀ H:Hp,xW H->SqL K H a (ns.map V.int)->HOk P w H s₁.heap->(∀ b,H b≠none->b=a)->(H a≠none->K.lookup a=none)->
   codeAny (model P w) callerA (.call (.ref fa) ⟨[.ref a],[]⟩) (fun r s'=>r=.ok (.ret (.bool true))/\OldK s₁.heap s'.heap/\s'.os=s₁.os/\AllBare s'.gens) s₁:=by
  intro H hO hS hok hA hK
  have base_of: ∀ {b:Addr} {o:Obj},s₁.heap.get? b=some o->H b=none->(nr s₁.heap H).get? b=some o:=fun e n=>uT e n
  have noA: ∀ {b:Addr} {o:Obj} {es:Array DictEntry} {ep:Nat},s₁.heap.get? b=some o->o.data=.dict es ep->H b=none:=fun {b o es ep} e d=>by
   cases q:H b with
   | none=>rfl
   | some u=>
    have e':b=a:=hA b (by rw [q];simp)
    subst e'
    rw [ha]at e;cases e
    have d':Data.seq vs.toArray _=Data.dict es ep:=d
    cases d'
  have nsK: ∀ {b:Addr} {m:Str->Option Value},s₁.heap.Ns b m->(nr s₁.heap H).Ns b m:=fun {b m} ⟨o,es,ep,e,d,r⟩=>⟨o,es,ep,base_of e (noA e d),d,r⟩
  have hKb:K.In (nr s₁.heap H):=fun b o e=>base_of (KX b o e) (by
   cases q:H b with
   | none=>rfl
   | some u=>
    have e':b=a:=hA b (by rw [q];simp)
    subst e'
    rw [hK (by rw [q];simp)]at e;cases e)
  have hM:Mod K mg (nr s₁.heap H):=⟨hKb,nsK hns,⟨mb,nsK hb,hbb⟩,let ⟨mc,h1,h2⟩:=hlim;⟨mc,nsK h1,h2⟩⟩
  have e0:wA P w K mg (nr s₁.heap H) callerA [] s₁ H:=⟨rfl,hM,fun b o e=>vO e,Nat.le_of_eq (sw _ _),trivial,fun b hb=>absurd (show b∈([]:List Addr)from hb) (by simp),hok,.of_eq hg⟩
  refine codeAny_mono ((F _ hKb (nsK hns)).run callerA [] s₁ H ⟨[.ref a],[]⟩ [.ref a] [.ref a] _ _ hr e0 (hbind s₁ (.ref a)) (.cons rfl .nil) (hsp H hO hS)) fun r s' h=>?_
  cases r with
  | error e=>exact (hCX H e s' h).elim
  | ok fl=>
   cases fl with
   | next=>exact False.elim h
   | brk=>exact False.elim h
   | cont=>exact False.elim h
   | ret u=>
    obtain ⟨v,H',os,bare,un,hok',r',q⟩:=h
    have q':v=.bl true:=q
    subst q'
    obtain rfl:u=Value.bool true:=r'
    refine ⟨rfl,OldK.of_keep fun b o e=>?_,os,bare⟩
    cases q:H b with
    | none=>exact un.keep b o e q (by intro z;exact absurd (show b∈([]:List Addr)from z) (by simp)) (by simp)
    | some u=>
     rcases hO b with z | ⟨ob,xs,z⟩
     ·rw [q]at z;cases z
     ·have z2:=un.frzs b ob _ z
      obtain ⟨e1,_⟩:=hok b _ z
      obtain ⟨e2,_⟩:=hok' b _ z2
      rw [e]at e1;cases e1
      exact e2
 cases hk:K.lookup a with
 | some o=>
  have e:=KX a o hk
  rw [ha]at e
  cases e
  refine core (fun _=>none) (fun _=>.inl rfl) (.inr ⟨_,vs.toArray,_,hk,rfl,rfl,rfl,by rw [List.size_toArray,lenV];exact hl,by simpa using rv⟩) (fun b u z=>by have z':(none:Option HO)=some u:=z;cases z') (fun b z=>absurd rfl z) fun z=>absurd rfl z
 | none=>
  refine core (fun b=>if b=a then some (.frz {cls:=.type "list",data:=.seq vs.toArray} (.lst (ns.map V.int)))else none) (fun b=>?_) (.inl (.inr ⟨{cls:=.type "list",data:=.seq vs.toArray},if_pos rfl⟩)) (fun b u z=>?_) (fun b z=>?_) fun _=>hk
  ·by_cases hb:b=a
   ·exact .inr ⟨_,_,if_pos hb⟩
   ·exact .inl (if_neg hb)
  ·by_cases hb:b=a
   ·have z':=(if_pos hb).symm.trans z
    cases z'
    subst hb
    exact ⟨ha,by rw [List.length_map];exact hl,vs,_,rv,ha⟩
   ·have z':=(if_neg hb).symm.trans z
    cases z'
  ·by_cases hb:b=a
   ·exact hb
   ·exact absurd (if_neg hb) z
theorem walk_of {l:PySem.W.OpenLaw} {n k:Nat} {q:Program} {loose:List Str} {XP:(Str->Option Value)->Heap->Prop} {YP:World->Heap->Prop} {d:DefRec} {K:Params->PySem.W.Frag} {CX:World->CXT} {sp:World->Sp} {x:Str}
  (hn:l.most=some n) (hn2:n<=sizeLine) (hdf:d.params.defaults=[]) (hr:Room k callerA)
  (hY: ∀ (w:World) (h:Heap),YP w h->(K w.params).In h)
  (F: ∀ (w:World) (mg:Str->Option Value) (fa:Addr) (h:Heap),(K w.params).In h->h.Ns mainGlobals mg->mg d.name=some (.ref fa)->
   ∃ fd:FuncData,(∀ (s:Shared) (u:Value),BindsTo s fd ⟨[u],[]⟩ [(x,u)])/\
    ∀ base:Heap,(K w.params).In base->base.Ns mainGlobals mg->aE l.prog w (K w.params) mg base (CX w) k fa fd [x] (sp w))
  (hsp: ∀ (w:World) (H:Hp) (a:Addr) (ns:List Int),ns.length<=n->xW H->SqL (K w.params) H a (ns.map V.int)->sp w [.ref a] H (fun v _=>v=.bl true) fun _ _ _=>False)
  (hCX: ∀ (w:World) (H:Hp) (s:Shared) (e:Value) (s':Shared),CX w [] H s (fun _ _ _=>False) e s'->False):
  PySem.W.WalkO q loose XP YP l.row.toRowW d [] (fun f vs=>PySem.call f vs):=by
 refine Att.attach_call hn hdf fun w s₀ s₁ mg mb fa o pm cd doc a vs ns G Y ho hd hcd hmg hobj hints hlen hg=>?_
 have KX:=hY w _ Y
 obtain ⟨fd,hb,hF⟩:=F w mg fa _ KX G.T.g hmg
 exact uL KX G.T.g G.T.b G.T.builtins G.T.nolimit hg hobj hints (Nat.le_trans hlen hn2) hr hF hb (fun H hO hS=>hsp w H a ns hlen hO hS) fun H e s'=>hCX w H s₁ e s'
noncomputable def iw (s:Stmt):Arguments:=match s with
 | .FunctionDef _ a _ _ _ _ _ _ _ _=>a
 | _=>{posonlyargs:=[],args:=[],vararg:=none,kwonlyargs:=[],kw_defaults:=[],kwarg:=none,defaults:=[]}
noncomputable def cM (s:Stmt):List Stmt:=match s with
 | .FunctionDef _ _ b _ _ _ _ _ _ _=>b
 | _=>[]
noncomputable def ak (s:Stmt):Scope:=match s with
 | .FunctionDef _ _ _ _ _ _ sc _ _ _=>sc
 | _=>{kind:=.function,names:=[],isGenerator:=false,isCoroutine:=false}
noncomputable abbrev CX0:CXT:=fun _ _ _ _ _ _=>False
noncomputable abbrev E0:XK:=fun _ _ _=>False
theorem aA {X:Cx}:kg CX0 X E0:=fun _ _ _ _ _ _ _ h=>h.elim
structure Fun (K:PySem.W.Frag) (x qual:Str) (st:Stmt) (f:Addr) (fd:FuncData):Prop where
 ex: ∃ (oc:Value) (od:Option Addr) (kV doc pm:Value) (an:Option Addr) (cdv ct:Value) (osl:Array (Option Value)),
  fd=PySem.W.fnOf x qual (iw st) (cM st) (ak st) .none kV doc pm an cdv ct/\K.lookup f=some ⟨oc,od,.func fd,osl⟩/\PySem.W.codeIn K cdv qual=true
 kp:PySem.W.keepIn K (.ref f)=true
section
variable {P:Program} {w:World} {K:PySem.W.Frag} {mg:Str->Option Value} {base:Heap}
theorem Fun.ok {x qual:Str} {st:Stmt} {f:Addr} {fd:FuncData} {N ps:List Str} {k:Nat} {sp:Sp} (F:Fun K x qual st f fd) (S:aG N ps (ak st)) (len: ∀ vs H Q E,sp vs H Q E->vs.length=ps.length)
  (hbody: ∀ (cdv:Value) (A:Around) (outer:List Env) (s:Shared) (H:Hp) (vs:List V) (Q:VK) (E:XK),Room k (A.deeper (envOfC qual (ak st) s.heap.objs.size f cdv))->sp vs H Q E->
   ∃ t,PSs (er CX0 P w K mg base N qual (ak st) f cdv A outer s H E).nox (cM st) t/\t {nx:=fun _ H'=>Q .non H',rt:=Q} (gE N vs) H):aE P w K mg base CX0 (k+1) f fd ps sp:=by
 obtain ⟨oc,od,kV,doc,pm,an,cdv,ct,osl,rfl,lk,hcd⟩:=F.ex
 refine wL lk hcd S len fun A outer s H vs Q E hr hsp=>?_
 obtain ⟨t,h,q⟩:=hbody cdv A outer s H vs Q E hr hsp
 exact ⟨t,h.nox,q⟩
theorem Fun.binds {x qual:Str} {st:Stmt} {f:Addr} {fd:FuncData} {ps:List Str} (F:Fun K x qual st f fd)
  (h: ∀ (kV doc pm:Value) (an:Option Addr) (cdv ct:Value) (us:List Value),us.length=ps.length->bindArgs (PySem.W.fnOf x qual (iw st) (cM st) (ak st) .none kV doc pm an cdv ct) ⟨us,[]⟩=pure (ps.zip us)):Binds K fd ps []:=by
 obtain ⟨oc,od,kV,doc,pm,an,cdv,ct,osl,rfl,lk,hcd⟩:=F.ex
 exact .all (h kV doc pm an cdv ct)
end
theorem cZ {A:Around} {k:Nat} (hr:Room k A):A.units+16<cLine:=Nat.lt_of_le_of_lt (Nat.add_le_add_left (by decide:16<=64) _) hr.units
theorem ao {n:Nat} (h:n<=1000):n<sizeLine:=Nat.lt_of_le_of_lt h (by decide)
section
variable {X:Cx}
theorem pv (i:Nat) {x:Str} {pos:Pos} (hN:X.N[i]? =some x:=by rfl) (hv:Vis X.env.scope x:=by first | exact Or.inl rfl | exact Or.inr (Or.inl rfl) | exact Or.inr (Or.inr rfl)) (hd:(x==("__debug__":Str))=false:=by decide)
  (hcd:(x==("__classdict__":Str))=false:=by decide):PE X (.Name x pos) (vn i):=xi hN hv hd hcd
end
theorem dI {A B:Prop} (h:B):if false=true then A else B:=by
 rw [if_neg Bool.false_ne_true]
 exact h
theorem kn {A B:Prop} (h:A):if true=true then A else B:=by
 rw [if_pos rfl]
 exact h
theorem cs {c A B:Prop} [Decidable c] (h1:c->A) (h2: ¬ c->B):if c then A else B:=by
 by_cases h:c
 ·rw [if_pos h]
  exact h1 h
 ·rw [if_neg h]
  exact h2 h
noncomputable def Same (H H':Hp):Prop:= ∀ b o,H b=some o->H' b=some o
theorem Same.refl (H:Hp):Same H H:=fun _ _ h=>h
theorem Same.trans {H H1 H2:Hp} (a:Same H H1) (b:Same H1 H2):Same H H2:=fun c o h=>b c o (a c o h)
theorem Same.free {H H':Hp} (e:Same H H') {l:Addr} (h:H' l=Option.none):H l=Option.none:=by
 cases q:H l with
 | none=>rfl
 | some o=>
  rw [e l o q]at h
  cases h
section
variable {κ:Type} [DecidableEq κ]
theorem nG {kvs:List (κ×V)} {k:κ} (h:aO kvs k=none): ¬ k∈kvs.map (·.1):=by
 intro m
 obtain ⟨p,hp,e⟩:=List.mem_map.mp m
 have q:(kvs.any fun kv=>decide (kv.1=k))=true:=List.any_eq_true.mpr ⟨p,hp,decide_eq_true e⟩
 rw [dB,h]at q
 exact absurd q (by simp)
theorem vm {kvs:List (κ×V)} {k:κ} {v:V} (h:aO kvs k=some v):k∈kvs.map (·.1):=by
 have q:(kvs.any fun kv=>decide (kv.1=k))=true:=by
  rw [dB,h]
  all_goals rfl
 obtain ⟨p,hp,e⟩:=List.any_eq_true.mp q
 exact List.mem_map.mpr ⟨p,hp,of_decide_eq_true e⟩
end
section
variable {X:Cx}
theorem vb:fb X (.builtin "isinstance") (fun xs H Q=> ∃ x T t b,xs=[x,.ty T]/\iA X.K H x t/\PySem.W.kitOne X.K t (.type T)=some b/\Q (.bl b) H):=by
 intro pins s σ H xs us Q I r h
 obtain ⟨x,T,t,b,rfl,ty,e,q⟩:=h
 obtain ⟨u,w',rfl,ru,rw'⟩:=qg r
 cases (show w'=Value.type T from rw')
 exact si I ru ty e fun tk=>⟨.bl b,H,I.tok tk,rfl,q⟩
end
section
variable {X:Cx} {e k:Expr} {te tk:TE} {pos p2:Pos}
theorem eN: ∀ (ix:List Nat) {xs:List V} {us:List Value},Vals xs us->Vals (ix.filterMap (xs[·]?)) (ix.filterMap (us[·]?))
 | [],_,_,_=>.nil
 | i::r,xs,us,h=>by
  rw [List.filterMap_cons,List.filterMap_cons]
  cases ex:xs[i]? with
  | none=>
   rw [h.none_of ex]
   exact eN r h
  | some x=>
   obtain ⟨u,eu,ru⟩:=h.get ex
   rw [eu]
   exact .cons ru (eN r h)
noncomputable def fK (n:Nat) (c:Int):List Nat:=sliceRange (sliceBounds none none (some c) n).1 (sliceBounds none none (some c) n).2.1 (sliceBounds none none (some c) n).2.2
noncomputable def i3 (xs:List V) (c:Int):List V:=(fK xs.length c).filterMap (xs[·]?)
theorem pE {α:Type} (xs:List α):(List.range xs.length).filterMap (xs[·]?)=xs:=by
 induction xs with
 | nil=>rfl
 | cons x r ih=>
  rw [List.length_cons,List.range_succ_eq_map,List.filterMap_cons,List.filterMap_map]
  show x::List.filterMap ((fun j=>(x::r)[j]?)∘Nat.succ) (List.range r.length)=x::r
  congr 1
theorem oY (n:Nat):fK n 1=List.range n:=by
 unfold fK sliceBounds sliceRange
 simp only [Option.getD_some,show (1:Int) >0 by decide,if_true]
 by_cases h:n=0
 ·subst h
  rfl
 ·rw [if_pos (by lia)]
  have e:(((n:Int) -0+1-1) /1).toNat=n:=by rw [Int.ediv_one];lia
  rw [e]
  conv=>rhs;rw [<- List.map_id (List.range n)]
  apply List.map_congr_left
  intro k hk
  show (0+1* (k:Int)).toNat=k
  lia
theorem qZ (xs:List V):i3 xs 1=xs:=by
 unfold i3
 rw [oY]
 exact pE xs
theorem oZ (n:Nat):fK n (-1)=(List.range n).map fun k=>n-1-k:=by
 unfold fK sliceBounds sliceRange
 simp only [Option.getD_some,show ¬ ((-1:Int) >0) by decide,if_false]
 by_cases h:n=0
 ·subst h
  rfl
 ·rw [if_pos (by lia)]
  have e:(((n:Int) -1- -1- -1-1) / (- -1)).toNat=n:=by
   rw [show (- -1:Int)=1 by decide,Int.ediv_one];lia
  rw [e]
  apply List.map_congr_left
  intro k hk
  have:=List.mem_range.mp hk
  show ((n:Int) -1+ -1* (k:Int)).toNat=n-1-k
  lia
theorem rev_pick {α:Type} (xs:List α):((List.range xs.length).map fun k=>xs.length-1-k).filterMap (xs[·]?)=xs.reverse:=by
 apply List.ext_getElem?
 intro i
 have hall:((List.range xs.length).map fun k=>xs.length-1-k).filterMap (xs[·]?)=(List.range xs.length).filterMap fun k=>xs[xs.length-1-k]? :=by
  rw [List.filterMap_map]
  rfl
 rw [hall]
 have hsome: ∀ (l:List Nat),(∀ k∈l,k<xs.length)-> ∀ j:Nat,(l.filterMap fun k=>xs[xs.length-1-k]?)[j]? =l[j]?.bind fun k=>xs[xs.length-1-k]? :=by
  intro l
  induction l with
  | nil=>intro _ j;rfl
  | cons a r ih=>
   intro hl j
   have ha:=hl a List.mem_cons_self
   have hx:xs[xs.length-1-a]? =some xs[xs.length-1-a]:=List.getElem?_eq_getElem (by lia)
   rw [List.filterMap_cons,hx]
   cases j with
   | zero=>simp [hx]
   | succ j=>
    rw [List.getElem?_cons_succ,List.getElem?_cons_succ]
    exact ih (fun k hk=>hl k (List.mem_cons_of_mem _ hk)) j
 rw [hsome _ (fun k hk=>List.mem_range.mp hk) i]
 by_cases hi:i<xs.length
 ·rw [List.getElem?_range hi,List.getElem?_reverse hi]
  rfl
 ·rw [List.getElem?_eq_none (by simpa using hi),List.getElem?_eq_none (by simpa using hi)]
  rfl
theorem kJ (xs:List V):i3 xs (-1)=xs.reverse:=by
 unfold i3
 rw [oZ]
 exact rev_pick xs
noncomputable def yf (K:PySem.W.Frag) (te tk:TE):TE:=fun σ H Q=>te σ H fun x H1=>tk σ H1 fun y H2=> ∃ a xs c,x=.ref a/\y=.int c/\SqL K H2 a xs/\c≠0/\ ∀ p,H2 p=none->Q (.ref p) (upd H2 p (.lst (i3 xs c)))
theorem qv (he:PE X e te) (hk:PE X k tk):PE X (.Subscript e (.Slice none none (some k) p2) pos) (yf X.K te tk):=by
 intro pins s σ H Q I h
 refine Subscript_ (thn (he pins s σ H _ I h) fun v s1 ⟨x,H1,I1,r1,q1⟩=>?_)
 refine wpAny_Slice ?_
 rw [evalPart_none,evalPart_some]
 refine wpAny_pure (wpAny_pure ?_)
 refine thn (hk pins s1 σ H1 _ I1 q1) fun vk s3 ⟨y,H3,I3,ry,a,xs,c,ex,ey,hq,hc,q⟩=>?_
 subst ex ey
 obtain ⟨t,rfl⟩:=ry
 cases r1
 have I4:Inv X pins σ H3 {s3 with heap:=s3.heap.push {cls:=.type "slice",data:=.fields #[.none,.none,.int c t]}}:=I3.kept (t':=s3.toks) fun b ob q=>Heap.get?_push_of_some _ q
 obtain ⟨its,r,ht,hz⟩:=I4.list hq
 have hlen:=r.length
 have hpick:slicePick its.toArray none none (some c)=((fK xs.length c).filterMap (its[·]?)).toArray:=by
  unfold slicePick fK
  rw [List.size_toArray,hlen]
  simp
 have hle:(i3 xs c).length<=sizeLine:=by
  have h1:=slicePick_size_le its.toArray none none (some c)
  rw [hpick,List.size_toArray,List.size_toArray]at h1
  have h2:=(eN (fK xs.length c) r).length
  unfold i3
  lia
 show wpAny (model X.prog X.w) X.A (subscriptTail e (.Slice none none (some k) p2) (.ref a) (.ref s3.heap.objs.size)) (EP X pins σ Q) X.xe {s3 with heap:=s3.heap.push {cls:=.type "slice",data:=.fields #[.none,.none,.int c t]}}
 refine tail_any (ops:=[.ref a,.ref s3.heap.objs.size]) ht.isList.typeIs slot_list_getitem.lookup (wpAny_getItem_list_slice ht.isList (Heap.IsSliceOf.new ..) .none .none (.int c t) (by simpa using hc) ?_ (by rw [List.size_toArray];lia)) (by with_unfolding_all rfl)
 rw [hpick]
 refine ⟨.ref (s3.heap.push {cls:=.type "slice",data:=.fields #[.none,.none,.int c t]}).objs.size,_,I4.laid (t':=s3.toks) (o:=.lst (i3 xs c)) (fun b ob q=>Heap.get?_push_of_some _ q) (Nat.le_refl _) ?_,rfl,q _ I4.fresh⟩
 exact ⟨hle,_,0,eN _ r,Heap.get?_push_size _ rfl⟩
inductive yu  (x:V) (lo:Option Int) (hi:Option Int) (H:Hp) (Q:VK):Prop
 | mk: ∀ z,(x=.str z)->(z.length<=sizeLine)->(Q (.str (Txt.slice z lo hi)) H)->yu x lo hi H Q
theorem l9:SlR X yu:=by
 intro pins s σ H x v vl vu lo hi sl Q I rx hs pl pu h
 obtain ⟨z,rfl,hz,q⟩:=h
 obtain ⟨t,rfl⟩:=rx
 refine ⟨"str",_,F.slot_str_getitem.lookup,typeIs_str _ _ _,?_⟩
 have go: ∀ (l u:Option (Int×Tok)),vl=partValue l->vu=partValue u->lo=l.map (·.1)->hi=u.map (·.1)->wpAny (model X.prog X.w) X.A (getItem (.str z t) (.ref sl)) (EP X pins σ Q) X.xe s:=by
  intro l u e1 e2 e3 e4
  subst e1 e2 e3 e4
  refine wpAny_getItem_str_slice (l:=l) (u:=u) (st:=none) hs rfl ?_
  exact post_val_or_str ⟨Nat.le_trans (Txt.slice_le z _ _) hz,fun t' k=>⟨.str (Txt.slice z (l.map (·.1)) (u.map (·.1))),H,I.tok k,⟨t',rfl⟩,q⟩⟩
 cases pl with
 | none=>
  cases pu with
  | none=>exact go none none rfl rfl rfl rfl
  | int j tj=>exact go none (some (j,tj)) rfl rfl rfl rfl
 | int i ti=>
  cases pu with
  | none=>exact go (some (i,ti)) none rfl rfl rfl rfl
  | int j tj=>exact go (some (i,ti)) (some (j,tj)) rfl rfl rfl rfl
open PySem.AutoSeq1 (wpAny_loadPart')in
theorem pW (l:Addr) (items:Array Value) (n:Nat) (b:Addr) (items2:Array Value) (n2:Nat) (dd:Option Addr) (sl:Array (Option Value)) (hs0: ¬(!items.isEmpty&&Builtin.List.listTooLong (items.size+items2.size))=true) (hs1:items.size<=sizeLine) (hs2:items.size+items2.size<=sizeLine+1):
  Meets (Builtin.«list.extend» ⟨[.ref l,.ref b],[]⟩) (fun _ R s=>s.heap.get? l=some {cls:=.type "list",dict:=none,data:=.seq items n,slots:= #[]}/\s.heap.get? b=some {cls:=.type "tuple",dict:=dd,data:=.seq items2 n2,slots:=sl}/\R (.ok (.ret Value.none)) {s with heap:=s.heap.update l (Obj.mapSeq fun x=>x++items2),toks:=s.toks}):=
 .of_wp fun prog w A R s h=>by
  obtain ⟨hp,g,d,tk,os⟩:=s;obtain ⟨hl,hb,h⟩:=h;have f1:=AutoSeq1.idx_int;have f2:=AutoSeq1.sub_tuple_tuple;have f3:=AutoSeq1.sub_list_list;have f4:=AutoSeq1.sub_tuple_list;have f5:=AutoSeq1.sub_list_tuple;
  have hz':(items++items2).size<=sizeLine+1:=by rw [Array.size_append];exact hs2
  wp_walk using (wpAny_updateSeq hl rfl (hz:=hs1) (_hz':=hz')),wpAny_loadPart' hl,wpAny_loadPart' hb;exact ⟨_,rfl,h⟩
noncomputable def yB (K:PySem.W.Frag):V->List V->Hp->VK->Prop:=fun x vs H Q=> ∃ l b xs zs,x=.ref l/\vs=[.ref b]/\H l=some (.lst xs)/\SqT K H b zs/\xs.length+zs.length<=sizeLine/\Q .non (upd H l (.lst (xs++zs)))
theorem vQ:MtM X "list.extend" (yB X.K):=by
 intro pins s σ H x vs v us Q I rx rv h
 obtain ⟨l,b,xs,zs,rfl,rfl,hH,hB,hz,q⟩:=h
 cases rx
 obtain ⟨u,rfl,ru⟩:=rv.one
 cases ru
 obtain ⟨z,its,n,r,hl,e⟩:=I.lstM hH
 obtain ⟨its2,r2,ht2,hz2⟩:=I.tuple hB
 obtain ⟨⟨c2,d2,dat2,sl2⟩,e2,hc2,n2,hd2⟩:=ht2
 dsimp only at hc2 hd2
 subst hc2 hd2
 have hl2:=r2.length
 have hsz:its.toArray.size+its2.toArray.size<=sizeLine:=by rw [List.size_toArray,List.size_toArray];lia
 have hlong: ¬ (!its.toArray.isEmpty&&Builtin.List.listTooLong (its.toArray.size+its2.toArray.size))=true:=by
  rw [oq hsz,Bool.and_false]
  exact Bool.false_ne_true
 refine call_meets F.slot_list_extend ⟨_,e,rfl⟩ F.entry_list_extend (F.args_list_extend_2 _ _)
  (pW l its.toArray n b its2.toArray n2 d2 sl2 hlong (by rw [List.size_toArray];lia) (by lia)) ⟨e,e2,?_⟩
 refine ⟨.non,_,I.lset (its':=its++its2) hH e (by simp) (r.append r2) ?_,rfl,q⟩
 rw [List.length_append]
 lia
theorem rm (bs:List Bool):((List.range bs.length).all fun i=>(bs[i]?).getD true)=bs.all id:=by
 induction bs with
 | nil=>rfl
 | cons b r ih=>
  rw [List.length_cons,List.range_succ_eq_map,List.all_cons,List.all_map]
  show (b&&(List.range r.length).all (fun i=>((b::r)[i+1]?).getD true))=(b&&r.all id)
  rw [<- ih]
  rfl
theorem ka (hc:X.calm=true):fb X (.builtin "all") (fun xs H Q=> ∃ (p:Addr) (bs:List Bool),xs=[.ref p]/\SqL X.K H p (bs.map V.bl)/\Q (.bl (bs.all id)) H):=by
 intro pins s σ H xs us Q I r h
 obtain ⟨p,bs,rfl,hq,q⟩:=h
 obtain ⟨u,rfl,ru⟩:=iZ r
 cases ru
 obtain ⟨its,rv,pl,hz⟩:=I.list hq
 have hl:=pl.isList
 have hlt:p<s.heap.objs.size:=by obtain ⟨_,e,_⟩:=hl;exact Heap.lt_size e
 have hn:its.toArray.size=bs.length:=by have:=rv.length;rw [List.length_map]at this;rw [List.size_toArray];lia
 refine call_all_walk (wpAny_pyIter_list hl ?_)
 refine ⟨s.heap.objs.size,[s.heap.objs.size,p],[s.heap.objs.size],its.toArray.size,_,_,fun i=>(bs[i]?).getD true,rfl,Walks.list (A:=X.A.in1) (I.ok.hd hc) _ p (Nat.ne_of_lt hlt) its.toArray,
  ⟨⟨_,Heap.get?_push_size _ rfl,rfl,rfl⟩,hl.push _⟩,fun i v s' Q' E' hP hQ=>?_,fun h' tk hk=>?_⟩
 ·have hv:its[i]? =some v:=by simpa using hP
  have hi:i<bs.length:=by
   have:=(List.getElem?_eq_some_iff.mp hv).1
   have:=rv.length
   rw [List.length_map]at this
   lia
  have hb:(bs.map V.bl)[i]? =some (V.bl bs[i]):=by rw [List.getElem?_map,List.getElem?_eq_getElem hi] <;> rfl
  obtain ⟨u,eu,ru⟩:=rv.get hb
  rw [hv]at eu
  cases eu
  cases (show v=Value.bool bs[i]from ru)
  have hQ':=hQ
  simp only [List.getElem?_eq_getElem hi,Option.getD_some]at hQ'
  exact wpAny_truthy_bool hQ'
 ·rw [hn,rm]
  refine ⟨.bl (bs.all id),H,I.kept (t':=tk) fun b x e=>?_,rfl,q⟩
  exact hk b x (fun hm=>by rw [List.mem_singleton.mp hm]at e;exact Nat.lt_irrefl _ (Heap.lt_size e)) (Heap.get?_push_of_some _ e)
noncomputable def wB (P:Program) (w:World) (K:PySem.W.Frag) (a:Addr) (kvs:List (Key×V)):Prop:=
 (a==sysModules)=false/\ ∀ h:Heap,K.In h-> ∃ vs,KV kvs vs/\h.DictOf (aU P w) a vs
noncomputable def zp (P:Program) (w:World) (K:PySem.W.Frag) (neg:Bool):R2:=fun x y H Q=> ∃ k a kvs,x=kV k/\y=.ref a/\wB P w K a kvs/\Q (.bl (if neg then !(aO kvs k).isSome else (aO kvs k).isSome)) H
theorem xn:OpR X (compareOp .In) (zp X.prog X.w X.K false):=by
 intro pins s σ H x y v u Q I rx ry h
 obtain ⟨k,a,kvs,rfl,rfl,⟨hd,T⟩,q⟩:=h
 cases (show u=Value.ref a from ry)
 obtain ⟨vs,rel,dd⟩:=T _ I.kIn
 refine wpAny_in_of (io rx) hd dd.mapOf ?_
 rw [<- (rel.val k).isSome_eq]
 exact ⟨.bl (aO kvs k).isSome,H,I.tok _,rfl,q⟩
end
theorem ir {α β:Type} {f:α->β->Sem (ForInStep β)} (g:β->α->β): ∀ {l:List α} (c:β),(∀ x∈l,∀ c,f x c=pure (.yield (g c x)))->forIn l c f=pure (l.foldl g c)
 | [],c,_=>rfl
 | x::l,c,h=>by
  have hx:=h x List.mem_cons_self c
  rw [List.forIn_cons,hx,pure_bind]
  exact ir g (g c x) fun y hy=>h y (List.mem_cons_of_mem _ hy)
noncomputable def cx (cells:List (Str×Addr)) (c:List (Str×Addr)) (x:Str×NameKind):List (Str×Addr):=
 if x.2=.free then (match cells.lookup x.1 with | some a=>(x.1,a)::c | none=>c)else c
noncomputable def eh (cells:List (Str×Addr)) (names:List (Str×NameKind)):List (Str×Addr):=names.foldl (cx cells) []
theorem eM {scope:Scope} {env:Env} (h: ∀ x∈scope.names,x.2=.free-> ∃ c,env.cells.lookup x.1=some c):closureFor scope env=pure (eh env.cells scope.names):=by
 simp only [closureFor]
 rw [ir (cx env.cells) [] (fun x hx c=>by
  obtain ⟨n,kind⟩:=x
  by_cases hk:kind=.free
  ·subst hk
   obtain ⟨a,ha⟩:=h _ hx rfl
   simp only [cx,if_true,beq_self_eq_true,cellOf,ha,pure_bind]
  ·have hb:(kind==NameKind.free)=false:=by simpa using hk
   simp only [cx,hb,hk,Bool.false_eq_true,if_false])]
 rfl
theorem j7 {cells:List (Str×Addr)}: ∀ {names:List (Str×NameKind)} {acc:List (Str×Addr)},(∀ p∈acc,cells.lookup p.1=some p.2)-> ∀ p∈names.foldl (cx cells) acc,cells.lookup p.1=some p.2
 | [],_,h=>h
 | x::r,acc,h=>by
  refine j7 (names:=r) (acc:=cx cells acc x) ?_
  intro p hp
  unfold cx at hp
  split at hp
  ·split at hp
   ·rename_i a ha
    rcases List.mem_cons.mp hp with e | e
    ·subst e
     exact ha
    ·exact h p e
   ·exact h p hp
  ·exact h p hp
theorem j8 {cells:List (Str×Addr)}: ∀ {names:List (Str×NameKind)} {acc:List (Str×Addr)} {p:Str×Addr},p∈acc->p∈names.foldl (cx cells) acc
 | [],_,_,h=>h
 | x::r,acc,p,h=>by
  refine j8 (names:=r) (acc:=cx cells acc x) ?_
  unfold cx
  split
  ·split
   ·exact List.mem_cons_of_mem _ h
   ·exact h
  ·exact h
theorem oJ {cells:List (Str×Addr)} {n:Str} {c:Addr} (hc:cells.lookup n=some c): ∀ {names:List (Str×NameKind)} {acc:List (Str×Addr)},(n,NameKind.free)∈names->(n,c)∈names.foldl (cx cells) acc
 | [],_,h=>by simp at h
 | x::r,acc,h=>by
  rcases List.mem_cons.mp h with e | e
  ·subst e
   refine j8 (names:=r) ?_
   simp [cx,hc]
  ·exact oJ hc (names:=r) e
theorem mem_of_lookup {α β:Type} [BEq α] [LawfulBEq α] {k:α} {v:β}: ∀ {l:List (α×β)},l.lookup k=some v->(k,v)∈l
 | [],h=>by simp at h
 | (a,b)::r,h=>by
  rw [List.lookup_cons]at h
  split at h
  ·rename_i e
   have:=eq_of_beq e
   subst this
   cases h
   exact List.mem_cons_self
  ·exact List.mem_cons_of_mem _ (mem_of_lookup h)
theorem gI {α β:Type} [BEq α] [LawfulBEq α] {k:α} {v:β}: ∀ {l:List (α×β)},(k,v)∈l-> ∃ v',l.lookup k=some v'
 | [],h=>by simp at h
 | (a,b)::r,h=>by
  rw [List.lookup_cons]
  split
  ·exact ⟨b,rfl⟩
  ·rename_i e
   rcases List.mem_cons.mp h with q | q
   ·cases q
    simp at e
   ·exact gI q
theorem dR {cells:List (Str×Addr)} {names:List (Str×NameKind)} {n:Str} {c:Addr} (h:(eh cells names).lookup n=some c):cells.lookup n=some c:=
 j7 (names:=names) (acc:=[]) (by simp) (n,c) (mem_of_lookup h)
theorem du {cells:List (Str×Addr)} {names:List (Str×NameKind)} {n:Str} {c:Addr} (hc:cells.lookup n=some c) (h:(n,NameKind.free)∈names):(eh cells names).lookup n=some c:=by
 obtain ⟨c',e⟩:=gI (oJ hc (acc:=[]) h)
 have:=dR e
 rw [hc]at this
 cases this
 exact e
noncomputable def bw (sc0 scope:Scope):List (Str×NameKind):=
 scope.names.map fun (n,k)=>if (k== .free&&sc0.kind== .function&&sc0.names.lookup n==some .cell)then (n,.cell)else (n,k)
structure gW (sc0:Scope) (N0:List Str) (scope:Scope) (x:Str) (ys:List Str) (fr:List Nat):Prop where
 kind:scope.kind=.function
 nocell: ∀ y∈scope.names,y.2≠ .cell
 loc: ∀ y∈scope.names,y.2=.local->scope.names.lookup y.1=some .local
 xl:(bw sc0 scope).lookup x=some .local
 free: ∀ y∈scope.names,y.2=.free->sc0.names.lookup y.1=some .cell
 nd:(x::ys).Nodup
 len:ys.length=fr.length
 sl: ∀ q∈ys.zip fr,N0[q.2]? =some q.1/\sc0.names.lookup q.1=some .cell/\(bw sc0 scope).lookup q.1=some .cell
theorem cok {sc0:Scope} {N0:List Str} {scope:Scope} {x:Str} {ys:List Str} {fr:List Nat} (kind_:scope.kind=.function:=by rfl) (nocell_: ∀ y∈scope.names,y.2≠ .cell:=by decide +kernel) (loc_: ∀ y∈scope.names,y.2=.local->scope.names.lookup y.1=some .local:=by decide +kernel) (xl_:(bw sc0 scope).lookup x=some .local:=by decide +kernel) (free_: ∀ y∈scope.names,y.2=.free->sc0.names.lookup y.1=some .cell:=by decide +kernel) (nd_:(x::ys).Nodup:=by decide +kernel) (len_:ys.length=fr.length:=by rfl) (sl_: ∀ q∈ys.zip fr,N0[q.2]? =some q.1/\sc0.names.lookup q.1=some .cell/\(bw sc0 scope).lookup q.1=some .cell:=by decide +kernel):gW sc0 N0 scope x ys fr:=⟨kind_,nocell_,loc_,xl_,free_,nd_,len_,sl_⟩
noncomputable def bu (X:Cx) (x:Str) (ys:List Str) (scope:Scope) (C:Addr) (s:Shared) (H:Hp) (ex:List Addr):Cx:=
 {X with N:=x::ys,s₀:=s,H₀:=H,env:=compEnvC scope (eh X.env.cells scope.names) C X.env,outer:=X.stack,stack:=X.stack,ex:=ex,fn:=fun _=>false,pn:=[],xe:=fun _ _=>False}
section
variable {prog:Program} {w:World} {A:Around} {R:Result->Shared->Prop} {s:Shared}
theorem gJ {elt target iter:Expr} {scope:Scope} {pos:Pos} {it acc:Value} {env:Env} (I:Nat->Shared->Prop)
  (turn: ∀ n s,I n s->wpAny (model prog w) A (pyNext it) (fun r s₁=>match r with
   | none=>R (.ok .next) s₁
   | some v=>wpAny (model prog w) A (letOwnedTupleGo target it v) (fun _ s₁'=>wpAny (model prog w) A (assign target env v) (fun _ s₂=>wpAny (model prog w) A (eval elt env) (fun x s₃=>
     wpAny (model prog w) A (call (.builtin "list.append") [acc,x]) (fun _ s₄=> ∃ m,m<n/\I m s₄) (fun _ _=>False) s₃) (fun _ _=>False) s₂) (fun _ _=>False) s₁') (fun _ _=>False) s₁) (fun _ _=>False) s)
  (n:Nat) (h:I n s):codeAny (model prog w) A (.compLoop (.ListComp elt [⟨target,iter,[],0⟩] scope pos) 0 it acc env) R s:=by
 refine codeAny_loop rfl I (fun n s hI=>?_) n h
 show wpAny _ _ ((compTurn (.ListComp elt [⟨target,iter,[],0⟩] scope pos) 0 it acc env).onRaise (fun x=>do noteFrame x env;theTreesLotGoes x)) _ _ s
 refine wpAny_noted ?_
 rw [compTurn_list1]
 refine wpAny_noRaise ?_
 refine wpAny_bind (wpAny_standAt (wpAny_bind (wpAny_mono (turn n s hI) (fun r s₁ h₁=>?_) fun _ _ h'=>h')))
 cases r with
 | none=>exact wpAny_pure h₁
 | some v=>
  refine wpAny_bind (wpAny_mono h₁ (fun _ s₁' h₁'=>?_) fun _ _ h'=>h')
  exact wpAny_bind (wpAny_mono h₁' (fun _ s₂ h₂=>wpAny_bind (wpAny_bind (wpAny_mono h₂ (fun x s₃ h₃=>wpAny_bind (wpAny_mono h₃
   (fun _ s₄ h₄=>wpAny_pure (wpAny_pure ⟨rfl,h₄⟩)) fun _ _ h'=>h')) fun _ _ h'=>h'))) fun _ _ h'=>h')
end
noncomputable def cy (fr:List Nat) (σ:St):St:=fr.map fun j=>(σ[j]?).join
noncomputable def fc (fr:List Nat) (te:TE) (σ:St) (J:It) (H1:Hp) (Q:VK):Prop:=
 ∀ p,H1 p=none-> ∃ W:Nat->Nat->List V->Hp->Prop,(∃ m,W 0 m [] (upd H1 p (.lst [])))/\ ∀ i m ys H,W i m ys H->H p=some (.lst ys)/\
  ((J.stop i H/\Q (.ref p) H)\/(J.go i H/\ys.length<sizeLine/\ ∀ x H',J.yld i H x H'->te (some x::cy fr σ) H' fun v H2=>
   H2 p=some (.lst ys)/\ ∃ m',m'<m/\W (i+1) m' (ys++[v]) (upd H2 p (.lst (ys++[v])))))
noncomputable def sR (wi:TI) (fr:List Nat) (te:TE):TE:=fun σ H Q=>wi σ H fun J H1=>fc fr te σ J H1 Q
section
variable {X:Cx} {x:Str} {px pos fpos:Pos} {iter elt:Expr} {scope sc0:Scope} {N0 ys:List Str} {fr:List Nat} {wi:TI} {te:TE} {pins:List (Addr×Obj)} {σ:St} {H:Hp} {s:Shared}
theorem lr {use:Option (Value->Sem Unit)} {Qv:Value->Shared->Prop} {Q:VK} (hcalm:X.calm=true) (hi:PI X (.Name x px) iter wi) (hsc:X.env.scope=sc0) (hN:X.N=N0) (ok:gW sc0 N0 scope x ys fr)
  (hE: ∀ C s H ex,PE (bu X x ys scope C s H ex) elt te) (I:Inv X pins σ H s) (h:sR wi fr te σ H Q) (hs: ∀ v,foldedSetIterable iter X.env v=pure v)
  (fin: ∀ (p C:Addr) (H':Hp) (s':Shared) (m:Str->Option Value),Inv X pins σ H' s'->s'.heap.Ns C m->H' C=none->C≠X.env.locals->X.s₀.heap.objs.size<=C->(∀ y c,X.env.cells.lookup y=some c->c≠C)->(∀ q∈X.pn++pins,q.1≠C)->Q (.ref p) H'->
   compPost (model X.prog X.w) X.A X.xe use Qv (.ref p) C (.ok .next) s'):
  wpAny (model X.prog X.w) X.A (comprehension (.ListComp elt [⟨.Name x px,iter,[],0⟩] scope pos) scope X.env fpos (newList []) false (eval iter X.env) use) Qv X.xe s:=by
 subst hsc hN
 have hkof: ∀ y,X.env.kindOf y=X.env.scope.names.lookup y:=fun y=>rfl
 have hfree: ∀ y∈scope.names,y.2=.free-> ∃ c,X.env.cells.lookup y.1=some c:=fun y hy e=>I.ok.has y.1 (.inl (ok.free y hy e))
 refine wpAny_comprehension_free (gs:=[]) rfl hs (eM hfree) ok.kind ok.loc (thn (hi pins s σ H _ I h) fun v s1 h1=>thn h1 fun itv s2 h2=>?_)
 obtain ⟨it,fp,tn,J,H2,e,I2,T,st2,f2,hp⟩:=h2
 subst e
 refine wpAny_newObj_type (wpAny_newFunctionEnv ok.nocell (by intro y hy;simp at hy) (fun h₁ hns₁ hsb₁=>?_) ok.kind)
 dsimp only at hns₁ hsb₁ ⊢
 have I3:Inv X pins σ (upd H2 s2.heap.objs.size (.lst [])) {s2 with heap:=s2.heap.push {cls:=.type "list",data:=.seq ([]:List Value).toArray}}:=
  I2.lnew (its:=[]) (ys:=[]) (t':=s2.toks) .nil (Nat.zero_le _)
 have hf2: ∀ b∈fp,b<s2.heap.objs.size:=fun b hb=>by
  obtain ⟨o,e,_⟩:=T.obj _ _ st2 b hb
  exact Heap.lt_size e
 have hps:s2.heap.objs.size< (s2.heap.push {cls:=.type "list",data:=.seq ([]:List Value).toArray}).objs.size:=by rw [Heap.size_push];exact Nat.lt_succ_self _
 have W0:=hp s2.heap.objs.size I2.fresh
 have st3:tn 0 (s2.heap.push {cls:=.type "list",data:=.seq ([]:List Value).toArray}):=T.keep _ _ _ st2 fun b hb o e=>Heap.get?_push_of_some _ e
 generalize hpp:s2.heap.objs.size=p at I3 W0 hf2 hps ⊢
 generalize hh3:(s2.heap.push {cls:=.type "list",data:=.seq ([]:List Value).toArray})=h3 at I3 hns₁ hsb₁ hps st3 ⊢
 generalize hH3:upd H2 p (.lst [])=H3 at I3 W0
 have hold: ∀ b o,h3.get? b=some o->h₁.get? b=some o:=fun b o e=>hsb₁.extBut b o (Nat.ne_of_lt (Heap.lt_size e)) (Heap.get?_push_of_some _ e)
 have fH3: ∀ b∈fp,H3 b=none:=fun b hb=>by
  rw [<- hH3,ah (Nat.ne_of_lt (hf2 b hb))]
  exact (f2 b hb).1
 have hclos: ∀ y c,(eh X.env.cells scope.names).lookup y=some c->X.env.cells.lookup y=some c:=fun y c e=>dR e
 have hcell3: ∀ y c,X.env.cells.lookup y=some c->c<h3.objs.size:=fun y c e=>by
  obtain ⟨v,o,ho,_⟩:=I3.cell y c e
  exact Heap.lt_size ho
 have hlt3:X.env.locals<h3.objs.size:=I3.lt
 have Yok:(bu X x ys scope h3.objs.size {s2 with heap:=h3} H3 fp).Ok:={
  mod:=I.ok.mod
  kind:=ok.kind
  glob:=I.ok.glob
  blt:=I.ok.blt
  above:=Nat.le_refl _
  inj:=fun y z c e1 e2=>I.ok.inj y z c (hclos _ _ e1) (hclos _ _ e2)
  has:=fun y hk=>by
   have hfr:(y,NameKind.free)∈scope.names:=by
    have hm: ∃ k,(bw X.env.scope scope).lookup y=some k/\(k=.cell\/k=.free):=by
     rcases hk with hk | hk
     ·exact ⟨_,hk,.inl rfl⟩
     ·exact ⟨_,hk,.inr rfl⟩
    obtain ⟨k,hk,hkk⟩:=hm
    have hmem:=mem_of_lookup hk
    unfold bw at hmem
    obtain ⟨⟨n,k0⟩,hn,en⟩:=List.mem_map.mp hmem
    dsimp only at en
    split at en
    ·rename_i hc
     simp only [Bool.and_eq_true]at hc
     have hk0:k0=.free:=by simpa using hc.1.1
     cases en
     rw [<- hk0]
     exact hn
    ·cases en
     rcases hkk with e | e
     ·exact absurd e (ok.nocell _ hn)
     ·rw [<- e]
      exact hn
   obtain ⟨c,hc⟩:=hfree _ hfr rfl
   exact ⟨c,du hc hfr⟩
  cab:=fun y c hf _=>by cases hf
  hd:=I.ok.hd
  frames:=I.ok.frames
  stk:=.inl rfl
  exf:=fun b hb=>⟨fun e=>absurd (hf2 b hb) (by rw [e];exact Nat.not_lt.mpr (Nat.le_of_lt hps)),fun y c e=>(f2 b hb).2.2.2.2.1 y c (hclos _ _ e)⟩
  bs:=fun b o e=>⟨(I3.bs b o e).1,(I3.bs b o e).2⟩
  bsz:=Nat.le_trans I.ok.bsz I3.sz
  noex:=fun b o e hb=>by
   rcases (f2 b hb).2.2.2.1 with q | q
   ·exact I.ok.noex b o e q
   ·have h1:b<X.base.objs.size:=Heap.lt_size e
    exact absurd h1 (Nat.not_lt.mpr (Nat.le_trans I.ok.bsz q))
  exfs:=fun b hb hm=>by
   rcases List.mem_cons.mp (I3.stkSub b hm)with q | q
   ·exact (f2 b hb).2.1 q
   ·exact (f2 b hb).2.2.1 q
  funs:=I3.stack
  frf:=I3.stkFree}
 have IY:Inv (bu X x ys scope h3.objs.size {s2 with heap:=h3} H3 fp) [] (none::cy fr σ) H3 {s2 with heap:=h₁,toks:=s2.toks+ ([]:List (Str×Value)).length}:={
  ok:=Yok
  os:=rfl
  bare:=I2.bare
  base:=Un.kept hold
  loc:=by
   refine ⟨_,hns₁,fun i y v hy hv hvis=>?_⟩
   cases i with
   | zero=>cases hv
   | succ j=>
    have hy':ys[j]? =some y:=hy
    have hv':(cy fr σ)[j]? =some (some v):=hv
    unfold cy at hv'
    rw [List.getElem?_map]at hv'
    obtain ⟨i0,hi0,hv0⟩:=Option.map_eq_some_iff.mp hv'
    have hz:(y,i0)∈ys.zip fr:=by
     refine List.mem_iff_getElem?.mpr ⟨j,?_⟩
     rw [List.getElem?_zip_eq_some]
     exact ⟨hy',hi0⟩
    obtain ⟨hn,hk,hk2⟩:=ok.sl _ hz
    have hσ:σ[i0]? =some (some v):=by
     cases e:σ[i0]? with
     | none=>rw [e]at hv0;cases hv0
     | some o=>
      rw [e]at hv0
      rw [show o=some v from hv0]
    obtain ⟨m,hm,hl⟩:=I3.loc
    obtain ⟨u,ru,lk⟩:=hl i0 y v hn hσ (.inr (.inl hk))
    refine ⟨u,ru,.inr ⟨.inl hk2,?_⟩⟩
    rcases lk with ⟨a,_⟩ | ⟨_,c,hc,hcell⟩
    ·have a':X.env.scope.names.lookup y=some .local:=a
     have hk':X.env.scope.names.lookup y=some .cell:=hk
     rw [hk']at a'
     cases a'
    ·have hfr:(y,NameKind.free)∈scope.names:=by
      have hmem:=mem_of_lookup hk2
      unfold bw at hmem
      obtain ⟨⟨n,k0⟩,hn0,en⟩:=List.mem_map.mp hmem
      dsimp only at en
      split at en
      ·rename_i hc0
       simp only [Bool.and_eq_true]at hc0
       have hk0:k0=.free:=by simpa using hc0.1.1
       cases en
       rw [<- hk0]
       exact hn0
      ·cases en
       exact absurd rfl (ok.nocell _ hn0)
     exact ⟨c,du hc hfr,hcell.keeps hold⟩
  cell:=fun y c e=>by
   obtain ⟨v,hv⟩:=I3.cell y c (hclos _ _ e)
   exact ⟨v,hv.keeps hold⟩
  free:=I3.fresh
  freeC:=fun y c e=>I3.freeC y c (hclos _ _ e)
  pin:=fun q hq=>by cases hq
  hok:=I3.hok.kept hold
  len:=by
   show (none::cy fr σ).length=(x::ys).length
   rw [List.length_cons,List.length_cons,ok.len]
   unfold cy
   rw [List.length_map]}
 have hxl:(bu X x ys scope h3.objs.size {s2 with heap:=h3} H3 fp).env.scope.names.lookup x=some .local:=ok.xl
 have pgx:PG (bu X x ys scope h3.objs.size {s2 with heap:=h3} H3 fp) (.Name x px) (fY 0):=au (i:=0) ok.nd rfl (.inl hxl) (.inr hxl)
 have pel:=hE h3.objs.size {s2 with heap:=h3} H3 fp
 obtain ⟨W,⟨m0,w0⟩,turn⟩:=W0
 have stat: ∀ {H':Hp},(∀ b∈fp,H' b=none)-> ∀ b∈fp,ko (bu X x ys scope h3.objs.size {s2 with heap:=h3} H3 fp) [] H' b:=fun hn b hb=>
  ⟨hn b hb,(Yok.exf b hb).1,Yok.exfs b hb,.inl hb,(Yok.exf b hb).2,fun q hq=>by cases hq⟩
 have loop:codeAny (model X.prog X.w) X.A (.compLoop (.ListComp elt [⟨.Name x px,iter,[],0⟩] scope pos) 0 (.ref it) (.ref p) (compEnvC scope (eh X.env.cells scope.names) h3.objs.size X.env))
   (compPost (model X.prog X.w) X.A X.xe use Qv (.ref p) h3.objs.size) {s2 with heap:=h₁,toks:=s2.toks+ ([]:List (Str×Value)).length}:=by
  refine gJ (fun n s'=> ∃ i zs v0 H',Inv (bu X x ys scope h3.objs.size {s2 with heap:=h3} H3 fp) [] (v0::cy fr σ) H' s'/\tn i s'.heap/\(∀ b∈fp,H' b=none)/\W i n zs H') ?_ m0
   ⟨0,[],none,H3,IY,T.keep _ _ _ st3 fun b hb o e=>hold b o e,fH3,w0⟩
  rintro n s5 ⟨i,zs,v0,H5,I5,st5,fr5,w5⟩
  obtain ⟨hacc,turn5⟩:=turn i n zs H5 w5
  rcases turn5 with ⟨stop,qn⟩ | ⟨go,hlen,step⟩
  ·refine thn (T.done (bu X x ys scope h3.objs.size {s2 with heap:=h3} H3 fp) rfl rfl rfl hcalm i [] s5 _ H5 _ I5 (stat fr5) st5 stop) fun r s6 ⟨hr,I6⟩=>?_
   subst hr
   obtain ⟨m6,n6,_⟩:=I6.loc
   refine fin p h3.objs.size H5 s6 m6 (I3.call' I6.os I6.base I6.hok I6.bare fun b hb=>⟨(f2 b hb).2.2.2.1,(f2 b hb).2.1,(f2 b hb).2.2.2.2.1,(f2 b hb).2.2.2.2.2⟩) n6 I6.free (Nat.ne_of_gt hlt3) I3.sz (fun y c e=>Nat.ne_of_lt (hcell3 y c e)) (fun q hq=>?_) qn
   exact Nat.ne_of_lt (Heap.lt_size (I3.pin q hq).1)
  ·refine thn (T.item (bu X x ys scope h3.objs.size {s2 with heap:=h3} H3 fp) rfl rfl rfl hcalm i [] s5 _ H5 _ I5 (stat fr5) st5 go) fun r s6 ⟨u,hr,h6⟩=>?_
   subst hr
   refine thn h6 fun _ s7 ⟨xv,H7,I7,r7,y7,st7,fr7⟩=>?_
   have I7':=I7.pinned (stat fr7) (T.obj _ _ st7)
   refine thn (pgx _ s7 _ H7 xv u (fun σ' H'=>σ'=some xv::cy fr σ/\H'=H7) I7' r7 ⟨rfl,rfl⟩) fun _ s8 ⟨σ8,H8,I8,e8,e8'⟩=>?_
   subst e8 e8'
   refine thn (pel _ s8 _ H8 _ I8 (step xv H8 y7)) fun yv s9 ⟨v9,H9,I9,r9,hp9,m',hm',w9⟩=>?_
   refine thn (bn _ s9 _ H9 (.ref p) [v9] (.ref p) [yv] (fun _ H'=>H'=upd H9 p (.lst (zs++[v9]))) I9 rfl (.cons r9 .nil) ⟨p,zs,v9,rfl,rfl,hp9,hlen,rfl⟩) fun _ s10 ⟨_,H10,I10,_,e10⟩=>?_
   subst e10
   refine ⟨m',hm',i+1,zs++[v9],some xv,_,I10.unpinned,T.keep _ _ _ st7 fun b hb o e=>(I10.pin (b,o) (List.mem_append_right _ (List.mem_append_right _ (bY hb e)))).1,fun b hb=>?_,w9⟩
   obtain ⟨o,e,d⟩:=T.obj _ _ st7 b hb
   exact (I10.pin (b,o) (List.mem_append_right _ (List.mem_append_right _ (bY hb e)))).2.1
 exact codeAny_compStart_list loop (T.self X.A 0 _ _ _ (T.keep _ _ _ st3 fun b hb o e=>hold b o e) loop)
theorem cH (hcalm:X.calm=true) (hi:PI X (.Name x px) iter wi) (hsc:X.env.scope=sc0) (hN:X.N=N0) (ok:gW sc0 N0 scope x ys fr)
  (hE: ∀ C s H ex,PE (bu X x ys scope C s H ex) elt te) (hs: ∀ v,foldedSetIterable iter X.env v=pure v:=by intro _;rfl):
  PE X (.ListComp elt [⟨.Name x px,iter,[],0⟩] scope pos) (sR wi fr te):=by
 intro pins s σ H Q I h
 rw [eval_ListComp]
 refine lr (use:=none) (Qv:=EP X pins σ Q) (Q:=Q) hcalm hi hsc hN ok hE I h hs fun p C H' s' m I' hn h0 h1 h2 h3 h4 q=>?_
 refine ⟨m,hn,fun h' sb=>⟨.ref p,H',I'.turned (t':=s'.toks) (fun b o hb e=>sb.extBut b o hb e) h0 (Ne.symm (Ne.symm h1)) (.inr h2) h3 h4,rfl,q⟩⟩
theorem gn {i:Nat} {y:Str} {py spos:Pos} (hcalm:X.calm=true) (hnd:X.N.Nodup) (hiN:X.N[i]? =some y) (hy:Loc X.env.scope y) (hi:PI X (.Name x px) iter wi) (hsc:X.env.scope=sc0) (hN:X.N=N0) (ok:gW sc0 N0 scope x ys fr)
  (hE: ∀ C s H ex,PE (bu X x ys scope C s H ex) elt te) (hsw:swapsWith (.ListComp elt [⟨.Name x px,iter,[],0⟩] scope pos) (some (.Name y py)) spos.line X.env=pure true:=by rfl)
  (hs: ∀ v,foldedSetIterable iter X.env v=pure v:=by intro _;rfl) (hf:X.fn y=true\/X.env.scope.names.lookup y=some .local:=by first | exact .inl rfl | exact .inr rfl | assumption):
  PS X (.Assign [.Name y py] (.ListComp elt [⟨.Name x px,iter,[],0⟩] scope pos) spos) (oX (sR wi fr te) (fY i)):=by
 intro pins s σ H D I h
 rw [exec_Assign_Name_used _ _ _ _ hsw]
 refine wpAny_bind (wpAny_standAt (wpAny_bind ?_))
 show wpAny _ X.A (do let _ <- comprehension (.ListComp elt [⟨.Name x px,iter,[],0⟩] scope pos) scope X.env _ (newList []) false (eval iter X.env) (some (assign (.Name y py) X.env))) _ _ s
 refine wpAny_bind (thn (lr (use:=some (assign (.Name y py) X.env)) (Qv:=fun _ s'=>SP X pins D .next s') (Q:=fun v H'=>D.nx (σ.set i (some v)) H') hcalm hi hsc hN ok hE I h hs fun p C H' s' m I' hn h0 h1 h2 h3 h4 q=>?_) fun _ s' hq=>wpAny_pure (wpAny_pure hq))
 show wpAny _ X.A (assign (.Name y py) X.env (.ref p)) _ _ s'
 refine wpAny_assign_Name (ge (v:=.ref p) I' hnd hiN hy rfl (fun s'' I'' ⟨a,sb,ha⟩=>?_) hf)
 have hCa:C≠a:=by
  rcases ha with e | e
  ·rw [e];exact h1
  ·exact (h3 y a e).symm
 refine ⟨m,hn.sameBut sb hCa,fun h' sb'=>⟨_,H',I''.turned (t':=s''.toks) (fun b o hb e=>sb'.extBut b o hb e) h0 h1 (.inr h2) h3 h4,q⟩⟩
theorem gy {n:Nat} {J:It} {H1:Hp} {Q:VK} {R:Nat->V->Prop} (hn:n<=1000) (hgo: ∀ i H,i<n->J.go i H) (hstop: ∀ H,J.stop n H) (hy: ∀ i H v H',J.yld i H v H'->H'=H/\R i v)
  (Pv:Addr->Nat->List V->Hp->Prop) (h0: ∀ p,H1 p=none->Pv p 0 [] (upd H1 p (.lst []))) (hl: ∀ p i zs H,Pv p i zs H->H p=some (.lst zs)/\zs.length=i)
  (hs: ∀ p i zs H v (k:VK),H1 p=none->i<n->R i v->Pv p i zs H->(∀ u H2,H2 p=some (.lst zs)->Pv p (i+1) (zs++[u]) (upd H2 p (.lst (zs++[u])))->k u H2)->te (some v::cy fr σ) H k)
  (hd: ∀ p zs H,H1 p=none->Pv p n zs H->Q (.ref p) H):fc fr te σ J H1 Q:=by
 intro p hp
 refine ⟨fun i m zs H=>i<=n/\m=n-i/\Pv p i zs H,⟨n,Nat.zero_le _,by simp,h0 p hp⟩,?_⟩
 rintro i m zs H ⟨hi,hm,q⟩
 obtain ⟨hp',hz⟩:=hl p i zs H q
 refine ⟨hp',?_⟩
 by_cases e:i=n
 ·subst e
  exact .inl ⟨hstop H,hd p zs H hp q⟩
 ·have hlt:i<n:=by lia
  refine .inr ⟨hgo i H hlt,ao (by lia),fun v H' hv=>?_⟩
  obtain ⟨rfl,r⟩:=hy i H v H' hv
  refine hs p i zs H' v _ hp hlt r q fun u H2 a b=>?_
  exact ⟨a,n- (i+1),by lia,by lia,rfl,b⟩
theorem iW {lo:Int} {n:Nat}: ∀ i H,i<n->(Itr lo n).go i H:=fun _ _ h=>h
theorem eY {lo:Int} {n:Nat}: ∀ H,(Itr lo n).stop n H:=fun _=>Nat.le_refl n
theorem iq {lo:Int} {n:Nat}: ∀ i H v H',(Itr lo n).yld i H v H'->H'=H/\v=.int (lo+i):=fun _ _ _ _ h=>h
end
noncomputable def qx:Expr->Bool
 | .Starred _ _=>false
 | _=>true
theorem ki {e:Expr} {es:List Expr} {env:Env} (h:qx e=true):starEach (e::es) env=(false,eval e env)::starEach es env:=by
 cases e <;> first | rfl | cases h
theorem pac {X:Cx} {e:Expr} {es:List Expr} {te:TE} {t:TA} (ha:PE X e te) (hr:PA X es t) (h:qx e=true:=by rfl):PA X (e::es) (wD te t):=aa ha hr (ki h)
noncomputable def pZ:Const->Option V
 | .str x=>some (.str x)
 | .int i=>some (.int i)
 | .bool b=>some (.bl b)
 | .none=>some .non
 | _=>none
noncomputable def iy:List Expr->Option (List V)
 | []=>some []
 | .Constant c _ _::r=>(match pZ c,iy r with | some v,some vs=>some (v::vs) | _,_=>none)
 | _::_=>none
theorem tZ {X:Cx} {c:Const} {j:Nat} {pos:Pos} {v:V} (h:pZ c=some v):PE X (.Constant c j pos) (tC v):=by
 cases c with
 | str x=>cases h;exact aT
 | int i=>cases h;exact ag
 | bool b=>cases h;exact n9
 | none=>cases h;exact mM
 | _=>cases h
theorem kP {X:Cx}: ∀ {es:List Expr} {vs:List V},iy es=some vs->PA X es (fun _ H Q=>Q vs H)
 | [],vs,h=>by
  cases h
  exact ad
 | e::r,vs,h=>by
  cases e with
  | Constant c j pos=>
   simp only [iy]at h
   cases hc:pZ c with
   | none=>rw [hc]at h;cases h
   | some v=>
    cases hr:iy r with
    | none=>rw [hc,hr]at h;cases h
    | some ws=>
     rw [hc,hr]at h
     cases h
     exact pac (tZ hc) (kP hr)
  | _=>cases h
theorem vC {X:Cx} {i:Nat} {x:Str} {es:List Expr} {vs:List V} {pos p pos':Pos} (hN:X.N.Nodup) (hi:X.N[i]? =some x) (hx:Loc X.env.scope x) (hf:X.fn x=true\/X.env.scope.names.lookup x=some .local) (h:iy es=some vs):
  PS X (.Assign [.Name x pos'] (.List es p) pos) (oX (yk (fun _ H Q=>Q vs H)) (fY i)):=
 am hN hi hx (aN (kP h)) rfl hf
end L2
namespace HT
open PySem PyProof.Rows
section
variable {prog:Program} {w:World} {A:Around} {s:Shared} {E:Value->Shared->Prop}
theorem oM (n:Nat):Builtin.Slice.sliceAdjust none none (-1) (n:Int)=((n:Int) -1,-1):=by
 unfold Builtin.Slice.sliceAdjust
 simp
theorem nZ (n:Nat):Builtin.Slice.slicePlaces ((n:Int) -1) (-1) (-1)=n:=by
 unfold Builtin.Slice.slicePlaces
 have h1: ¬ ((-1:Int) >0):=by lia
 simp only [h1,if_false]
 rw [show (- -1:Int)=1 by decide,Int.ediv_one]
 split <;> lia
theorem nC {sl:Addr} {t:Tok} {n:Nat} {Q:Int×Int×Nat->Shared->Prop} (hs:s.heap.IsSliceOf sl .none .none (.int (-1) t)) (h:Q ((n:Int) -1,-1,n) s):
  wpAny (model prog w) A (Builtin.Slice.sliceApplied (.ref sl) (pure (n:Int))) Q E s:=by
 obtain ⟨os,hos,hcs,hds⟩:=id hs
 unfold Builtin.Slice.sliceApplied Builtin.Slice.sliceFields
 refine wpAny_bind (wpAny_bind (wpAny_field hos hds (x:=.none) rfl (wpAny_bind (wpAny_field hos hds (x:=.none) rfl (wpAny_bind (wpAny_field hos hds (x:=.int (-1) t) rfl (wpAny_pure ?_)))))))
 refine wpAny_bind (dX (.int (-1) t) ?_)
 show wpAny _ _ (if ((-1:Int)==0)=true then _ else _) _ _ s
 rw [if_neg (by decide)]
 refine wpAny_bind (dX .none (wpAny_bind (dX .none (wpAny_bind (wpAny_pure ?_)))))
 show wpAny _ _ (match Builtin.Slice.sliceAdjust none none (-1) (n:Int)with | (lo,hi)=>pure (lo,(-1:Int),Builtin.Slice.slicePlaces lo hi (-1))) _ _ s
 rw [oM n]
 show wpAny _ _ (pure ((n:Int) -1,(-1:Int),Builtin.Slice.slicePlaces ((n:Int) -1) (-1) (-1))) _ _ s
 rw [nZ]
 exact wpAny_pure h
theorem oF {α β:Type} {f g:α->Option β}: ∀ {l:List α},(∀ x∈l,f x=g x)->l.filterMap f=l.filterMap g
 | [],_=>rfl
 | x::r,h=>by rw [List.filterMap_cons,List.filterMap_cons,h x List.mem_cons_self,oF fun y hy=>h y (List.mem_cons_of_mem _ hy)]
theorem rC (xs:Array Value):((List.range xs.size).filterMap fun (m:Nat)=>xs[((xs.size:Int) -1+ (m:Int) * -1).toNat]?).toArray=xs.toList.reverse.toArray:=by
 congr 1
 rw [<- L2.rev_pick xs.toList,List.filterMap_map,Array.length_toList]
 refine oF fun m hm=>?_
 have:=List.mem_range.mp hm
 have e:((xs.size:Int) -1+ (m:Int) * -1).toNat=xs.size-1-m:=by lia
 rw [e]
 simp
theorem getItem_tuple_back {a sl:Addr} {items:Array Value} {t:Tok} {Q:Value->Shared->Prop} (ht:IsTup s.heap a items) (hs:s.heap.IsSliceOf sl .none .none (.int (-1) t))
  (h:Q (.ref s.heap.objs.size) {s with heap:=s.heap.push {cls:=.type "tuple",data:=.seq items.toList.reverse.toArray}})
  (hsz:items.size<=sizeLine):wpAny (model prog w) A (getItem (.ref a) (.ref sl)) Q E s:=by
 have hok:sizeOk (.seq items.toList.reverse.toArray):=by
  show items.toList.reverse.toArray.size<=sizeLine
  rw [List.size_toArray,List.length_reverse,Array.length_toList]
  exact hsz
 obtain ⟨os,hos,hcs,hds⟩:=id hs
 have hTs:s.TypeIs (.ref sl) "slice":=⟨os,hos,hcs⟩
 unfold getItem
 try with_reducible refine wpAny_holding ?_
 first | refine wpAny_bind (wpAny_pure ?_) | skip
 refine wpAny_bind (wpAny_sequenceKey ht.typeIs (by decide) ?_)
 refine wpAny_bind (wpAny_callSpecial?_slot (name:=Str.ofString "__getitem__") ht.typeIs PyProof.Rows.slot_tuple_getitem
  (wpAny_call_entry PyProof.Rows.slot_tuple_getitem ht.typeIs entry_tuple_getitem ?_ (args_tuple_getitem _ _)))
 show wpAny _ _ (Builtin.Tuple.tupleItemsOf (.ref a) >>= _) _ _ s
 refine wpAny_bind (tupleItemsOf_ ht ?_)
 refine wpAny_bind (wpAny_typeOf hTs ?_)
 rw [if_pos (by decide)]
 refine wpAny_bind (nC hs ?_)
 show wpAny _ _ (if (((items.size:Int) -1)==0&&(-1:Int)==1&&items.size==items.size)=true then _ else _) _ _ s
 rw [if_neg (by simp),rC]
 first
  | exact wpAny_bind (m:=Builtin.Tuple.tupleExact _) (wpAny_newObj_type (wpAny_pure ⟨_,rfl,wpAny_pure h⟩) hok)
  | exact wpAny_bind (m:=Builtin.Tuple.tupleExact _) (wpAny_newObj_type (wpAny_bind (wpAny_pure (wpAny_pure ⟨_,rfl,wpAny_pure h⟩))) hok)
  | exact wpAny_bind (wpAny_bind (m:=Builtin.Tuple.tupleExact _) (wpAny_newObj_type (wpAny_pure (wpAny_pure ⟨_,rfl,wpAny_pure h⟩)) hok))
  | exact wpAny_bind (wpAny_bind (m:=Builtin.Tuple.tupleExact _) (wpAny_newObj_type (wpAny_pure ⟨_,rfl,wpAny_pure h⟩) hok))
end
end HT
namespace L2
open PySem PySem.Spec PyProof.Rows
section
variable {X:Cx} {e k:Expr} {te tk:TE} {pos p2:Pos}
noncomputable def wV (K:PySem.W.Frag) (te tk:TE):TE:=fun σ H Q=>te σ H fun x H1=>tk σ H1 fun y H2=> ∃ a xs,x=.ref a/\y=.int (-1)/\SqT K H2 a xs/\ ∀ p,H2 p=none->Q (.ref p) (upd H2 p (.tup xs.reverse))
theorem sL {xs:List V} {us:List Value} (h:Vals xs us):Vals xs.reverse us.reverse:=by
 rw [<- rev_pick xs,<- rev_pick us,h.length]
 exact eN _ h
theorem t8 (he:PE X e te) (hk:PE X k tk):PE X (.Subscript e (.Slice none none (some k) p2) pos) (wV X.K te tk):=by
 intro pins s σ H Q I h
 refine Subscript_ (thn (he pins s σ H _ I h) fun v s1 ⟨x,H1,I1,r1,q1⟩=>?_)
 refine wpAny_Slice ?_
 rw [evalPart_none,evalPart_some]
 refine wpAny_pure (wpAny_pure ?_)
 refine thn (hk pins s1 σ H1 _ I1 q1) fun vk s3 ⟨y,H3,I3,ry,a,xs,ex,ey,hq,q⟩=>?_
 subst ex ey
 obtain ⟨t,rfl⟩:=ry
 cases r1
 have I4:Inv X pins σ H3 {s3 with heap:=s3.heap.push {cls:=.type "slice",data:=.fields #[.none,.none,.int (-1) t]}}:=I3.kept (t':=s3.toks) fun b ob q=>Heap.get?_push_of_some _ q
 obtain ⟨its,r,ht,hz⟩:=I4.tuple hq
 show wpAny (model X.prog X.w) X.A (subscriptTail e (.Slice none none (some k) p2) (.ref a) (.ref s3.heap.objs.size)) (EP X pins σ Q) X.xe {s3 with heap:=s3.heap.push {cls:=.type "slice",data:=.fields #[.none,.none,.int (-1) t]}}
 refine tail_any (ops:=[.ref a,.ref s3.heap.objs.size]) ht.typeIs PyProof.Rows.slot_tuple_getitem.lookup (HT.getItem_tuple_back ht (Heap.IsSliceOf.new ..) ?_ (by rw [List.size_toArray,<- r.length];exact hz)) (by with_unfolding_all rfl)
 refine ⟨.ref (s3.heap.push {cls:=.type "slice",data:=.fields #[.none,.none,.int (-1) t]}).objs.size,_,I4.laid (t':=s3.toks) (o:=.tup xs.reverse) (fun b ob q=>Heap.get?_push_of_some _ q) (Nat.le_refl _) ?_,rfl,q _ I4.fresh⟩
 exact ⟨by rw [List.length_reverse];exact hz,_,sL r,IsTup.new _ _⟩
end
section
variable {X:Cx}
noncomputable def ja:List Int->Int
 | []=>0
 | n::r=>n+ja r
theorem rA (ns:List Int): ∀ k,k<=ns.length->preSum (fun i=>(ns[i]?).getD 0) k=ja (ns.take k):=by
 intro k
 induction k with
 | zero=>intro _;rfl
 | succ k ih=>
  intro h
  have hk:k<ns.length:=h
  show preSum (fun i=>(ns[i]?).getD 0) k+ (ns[k]?).getD 0=ja (ns.take (k+1))
  rw [ih (Nat.le_of_lt hk)]
  have: ∀ (l:List Int) (j:Nat) (hj:j<l.length),ja (l.take (j+1))=ja (l.take j) + (l[j]?).getD 0:=by
   intro l
   induction l with
   | nil=>intro j hj;cases hj
   | cons x r ih=>
    intro j hj
    cases j with
    | zero=>simp [ja]
    | succ j=>
     rw [List.take_succ_cons,List.take_succ_cons,List.getElem?_cons_succ]
     show x+ja (r.take (j+1))=x+ja (r.take j) + (r[j]?).getD 0
     rw [ih j (by simpa using hj)]
     lia
  exact (this ns k hk).symm
theorem mH (ns:List Int) (h: ∀ n∈ns,0<=n/\n<=1000000): ∀ k,k<=ns.length->0<=preSum (fun i=>(ns[i]?).getD 0) k/\preSum (fun i=>(ns[i]?).getD 0) k<=1000000*k:=by
 intro k
 induction k with
 | zero=>intro _;exact ⟨Int.le_refl _,by show (0:Int)<=1000000* ((0:Nat):Int);lia⟩
 | succ k ih=>
  intro hk
  obtain ⟨a,b⟩:=ih (Nat.le_of_succ_le hk)
  have e:ns[k]? =some ns[k]:=List.getElem?_eq_getElem hk
  obtain ⟨c,d⟩:=h ns[k] (List.getElem_mem hk)
  show 0<=preSum (fun i=>(ns[i]?).getD 0) k+ (ns[k]?).getD 0/\preSum (fun i=>(ns[i]?).getD 0) k+ (ns[k]?).getD 0<=1000000* ((k+1:Nat):Int)
  rw [e,Option.getD_some]
  constructor <;> lia
theorem j9 (hc:X.calm=true):fb X (.builtin "sum") (fun xs H Q=> ∃ (p:Addr) (ns:List Int),xs=[.ref p]/\SqL X.K H p (ns.map V.int)/\ns.length<=1000/\(∀ n∈ns,0<=n/\n<=1000000)/\Q (.int (ja ns)) H):=by
 intro pins s σ H xs us Q I r h
 obtain ⟨p,ns,rfl,hq,hle,hb,q⟩:=h
 obtain ⟨u,rfl,ru⟩:=iZ r
 cases ru
 obtain ⟨its,rv,pl,hz⟩:=I.list hq
 have hl:=pl.isList
 have hlt:p<s.heap.objs.size:=by obtain ⟨_,e,_⟩:=hl;exact Heap.lt_size e
 have hlen:its.length=ns.length:=by have:=rv.length;rw [List.length_map]at this;lia
 have hn:its.toArray.size=ns.length:=by rw [List.size_toArray];exact hlen
 refine call_sum_walk (wpAny_pyIter_list hl ?_)
 refine ⟨s.heap.objs.size,[s.heap.objs.size,p],[s.heap.objs.size],its.toArray.size,_,_,fun i=>(ns[i]?).getD 0,rfl,Walks.list (A:=X.A.in1) (I.ok.hd hc) _ p (Nat.ne_of_lt hlt) its.toArray,
  ⟨⟨_,Heap.get?_push_size _ rfl,rfl,rfl⟩,hl.push _⟩,fun b hb=>?_,fun i v hP=>?_,fun j hj=>?_,fun h' tk t' hk=>?_⟩
 ·rw [Heap.size_push]
  rcases List.mem_cons.mp hb with e | e
  ·rw [e];exact Nat.lt_succ_self _
  ·rw [List.mem_singleton.mp e];exact Nat.lt_succ_of_lt hlt
 ·have hv:its[i]? =some v:=by simpa using hP
  have hi:i<ns.length:=by
   have:=(List.getElem?_eq_some_iff.mp hv).1
   lia
  have hx:(ns.map V.int)[i]? =some (V.int ns[i]):=by rw [List.getElem?_map,List.getElem?_eq_getElem hi] <;> rfl
  obtain ⟨u,eu,ru⟩:=rv.get hx
  rw [hv]at eu
  cases eu
  obtain ⟨t,rfl⟩:=ru
  refine ⟨t,?_⟩
  show Value.int ns[i] t=Value.int ((ns[i]?).getD 0) t
  rw [List.getElem?_eq_getElem hi]
  rfl
 ·rw [hn]at hj
  obtain ⟨a,b⟩:=mH ns hb (j+1) hj
  have e:ns[j]? =some ns[j]:=List.getElem?_eq_getElem hj
  obtain ⟨c,d⟩:=hb ns[j] (List.getElem_mem hj)
  refine ⟨⟨?_,?_⟩,?_,?_⟩
  ·show -(2^63)<=(ns[j]?).getD 0
   rw [e,Option.getD_some];lia
  ·show (ns[j]?).getD 0<2^63
   rw [e,Option.getD_some];lia
  ·lia
  ·lia
 ·rw [hn,rA ns _ (Nat.le_refl _),List.take_length]
  refine ⟨.int (ja ns),H,I.kept (t':=tk) fun b x e=>?_,⟨_,rfl⟩,q⟩
  exact hk b x (fun hm=>by rw [List.mem_singleton.mp hm]at e;exact Nat.lt_irrefl _ (Heap.lt_size e)) (Heap.get?_push_of_some _ e)
end
end L2
namespace HT
open PySem PyProof.Rows
section
variable {prog:Program} {w:World} {A:Around} {s:Shared} {E:Value->Shared->Prop} {d j:Addr} {ks:List Value} {i ep:Nat}
noncomputable def DEs (h:Heap) (d:Addr) (ks:List Value) (ep:Nat):Prop:= ∃ o es,h.get? d=some o/\o.ExactDict/\o.data=.dict es ep/\es.toList.map (·.key)=ks
theorem DEs.type (m:DEs s.heap d ks ep):s.TypeIs (.ref d) "dict":=by
 obtain ⟨o,_,ho,hc,_⟩:=m
 exact ⟨o,ho,hc.1⟩
theorem DEs.keeps {h h':Heap} (m:DEs h d ks ep) (k: ∀ o,h.get? d=some o->h'.get? d=some o):DEs h' d ks ep:=by
 obtain ⟨o,es,ho,r⟩:=m
 exact ⟨o,es,k o ho,r⟩
theorem DEs.lt {h:Heap} (m:DEs h d ks ep):d<h.objs.size:=by
 obtain ⟨o,es,ho,_⟩:=m
 exact Heap.lt_size ho
theorem iN {es:Array DictEntry} (e:es.toList.map (·.key)=ks):es.size=ks.length:=by
 rw [<- e,List.length_map,Array.length_toList]
theorem uQ {Q:Value->Shared->Prop} (lo:(d==sysModules)=false) (m:DEs s.heap d ks ep)
  (q:Q (.ref s.heap.objs.size) {s with heap:=s.heap.push {cls:=.type "dict_keyiterator",data:=.fields #[.ref d,.int 0 0,.int ks.length 0,.int ep 0]}}):wpAny (model prog w) A (pyIter (.ref d)) Q E s:=by
 have ty:=m.type
 obtain ⟨o,es,ho,hc,hdat,hk⟩:=m
 refine wpAny_pyIter_slot ty PySem.F.slot_dict_iter (wpAny_call_entry PySem.F.slot_dict_iter ty PySem.F.entry_dict_iter ?_ (PySem.F.args_dict_iter_1 _))
 unfold Builtin.«dict.__iter__» Builtin.Dict.dictSlotNone
 refine wpAny_bind (wpAny_bind (wpAny_notOrdered_dict ty ?_))
 refine wpAny_pure (show wpAny _ _ (Builtin.Dict.showsAll d >>= _) _ _ s from ?_)
 unfold Builtin.Dict.showsAll
 rw [if_neg (by rw [lo];exact Bool.false_ne_true)]
 refine wpAny_bind (wpAny_pure (wpAny_bind (wpAny_dictEntries ho hdat (wpAny_bind (wpAny_dictEpoch ho hdat ?_)))))
 refine wpAny_bind (wpAny_newObj_type (wpAny_pure ⟨_,rfl,"dict_keyiterator",_,⟨_,Heap.get?_push_size _ rfl,rfl⟩,PySem.F.slot_dict_keyiterator_next.lookup,?_⟩))
 simpa [rawInt,iN hk]using q
theorem uA {x:Value} {Q:Option Value->Shared->Prop} (st:s.heap.IsKeyIter j d i ks.length ep) (m:DEs s.heap d ks ep) (hx:ks[i]? =some x)
  (q: ∀ h',h'.IsKeyIter j d (i+1) ks.length ep->Heap.SameBut j s.heap h'->Q (some x) {s with heap:=h'}):wpAny (model prog w) A (pyNext (.ref j)) Q E s:=by
 have ty:=st.typeIs
 obtain ⟨o,ho,hc,hd⟩:=id st
 obtain ⟨od,es,hod,hcd,hdd,hk⟩:=m
 have hz:=iN hk
 have hlt:i<ks.length:=(List.getElem?_eq_some_iff.mp hx).1
 have hes:i<es.size:=by lia
 have hkey:es[i].key=x:=by
  have e1:(es.toList.map (·.key))[i]? =some x:=by rw [hk];exact hx
  rw [List.getElem?_map,Array.getElem?_toList,Array.getElem?_eq_getElem hes]at e1
  exact Option.some.inj e1
 unfold pyNext
 refine wpAny_bind (wpAny_attempt (wpAny_callSpecial?_slot (name:=Str.ofString "__next__") ty PySem.F.slot_dict_keyiterator_next (wpAny_call_entry PySem.F.slot_dict_keyiterator_next ty PySem.F.entry_dict_keyiterator_next ?_ (PySem.F.args_dict_keyiterator_next_1 _))))
 refine wpAny_bind (wpAny_pure (wpAny_bind (wpAny_bind ?_)))
 first | refine wpAny_bind (wpAny_typeNameOfWhole_keyiter ty (wpAny_pure (wpAny_bind (wpAny_fieldsOf ho hd ?_)))) | refine wpAny_bind (wpAny_typeNameOf_keyiter ty (wpAny_pure (wpAny_bind (wpAny_fieldsOf ho hd ?_))))
 have own:Builtin.Dict_items.ownsTuple "dict_keyiterator"=false:=by decide
 simp only [own,Bool.false_eq_true,if_false]
 refine (show wpAny _ _ (if (Value.ref d==Value.none)=true then _ else _) _ _ s from ?_)
 rw [if_neg fun b0:(Value.ref d==Value.none)=true=>Bool.false_ne_true b0]
 refine wpAny_bind (wpAny_pure (wpAny_bind (wpAny_dictEntries hod hdd ?_)))
 rw [if_neg (by rw [hz];simp)]
 refine wpAny_bind (wpAny_pure (wpAny_bind (wpAny_dictEpoch hod hdd ?_)))
 rw [if_neg (by simp)]
 refine wpAny_pure ?_
 simp only [show ¬ ((i:Int) <0)from by lia,if_false,Int.toNat_natCast,Array.getElem?_eq_getElem hes]
 refine wpAny_bind ?_
 first | refine wpAny_bind (wpAny_typeNameOfWhole_keyiter ty (wpAny_pure (wpAny_bind (wpAny_isOneOf_keyiter ty ?_)))) | refine wpAny_bind (wpAny_typeNameOf_keyiter ty (wpAny_pure (wpAny_bind (wpAny_isOneOf_keyiter ty ?_))))
 refine (show wpAny _ _ (setField (.ref j) 1 (rawInt ((i:Int) +1)) >>= _) _ _ s from ?_)
 refine wpAny_bind (wpAny_setField ho hd (by simp) ?_)
 have st':(s.heap.update j (Obj.mapFields (·.setIfInBounds 1 (rawInt ((i:Int) +1))))).IsKeyIter j d (i+1) ks.length ep:=by
  refine ⟨_,Heap.get?_update_self _ ho (Obj.isFreed_of_fields (Obj.data_mapFields hd _)),(Obj.cls_mapFields ..).trans hc,?_⟩
  rw [Obj.data_mapFields hd];simp [rawInt]
 refine wpAny_bind (wpAny_holding (wpAny_bind (wpAny_isOneOf_keyiter (s:={s with heap:=s.heap.update j (Obj.mapFields (·.setIfInBounds 1 (rawInt ((i:Int) +1))))}) st'.typeIs ?_)))
 refine (show wpAny _ _ (pure es[i].key) _ _ _ from ?_)
 rw [hkey]
 exact wpAny_pure (wpAny_pure ⟨_,rfl,wpAny_pure (q _ st' (Heap.SameBut.update ..))⟩)
theorem wj {Q:Option Value->Shared->Prop} (hh:A.handled=none) (st:s.heap.IsKeyIter j d i ks.length ep) (m:DEs s.heap d ks ep) (hx:ks.length<=i)
  (q: ∀ h',Heap.ExtBut j s.heap h'->Q none {s with heap:=h'}):wpAny (model prog w) A (pyNext (.ref j)) Q E s:=by
 have ty:=st.typeIs
 obtain ⟨o,ho,hc,hd⟩:=id st
 obtain ⟨od,es,hod,hcd,hdd,hk⟩:=m
 have hz:=iN hk
 unfold pyNext
 refine wpAny_bind (wpAny_attempt (wpAny_callSpecial?_slot (name:=Str.ofString "__next__") ty PySem.F.slot_dict_keyiterator_next (wpAny_call_entry PySem.F.slot_dict_keyiterator_next ty PySem.F.entry_dict_keyiterator_next ?_ (PySem.F.args_dict_keyiterator_next_1 _))))
 refine wpAny_bind (wpAny_pure (wpAny_bind (wpAny_bind ?_)))
 first | refine wpAny_bind (wpAny_typeNameOfWhole_keyiter ty (wpAny_pure (wpAny_bind (wpAny_fieldsOf ho hd ?_)))) | refine wpAny_bind (wpAny_typeNameOf_keyiter ty (wpAny_pure (wpAny_bind (wpAny_fieldsOf ho hd ?_))))
 have own:Builtin.Dict_items.ownsTuple "dict_keyiterator"=false:=by decide
 simp only [own,Bool.false_eq_true,if_false]
 refine (show wpAny _ _ (if (Value.ref d==Value.none)=true then _ else _) _ _ s from ?_)
 rw [if_neg fun b0:(Value.ref d==Value.none)=true=>Bool.false_ne_true b0]
 refine wpAny_bind (wpAny_pure (wpAny_bind (wpAny_dictEntries hod hdd ?_)))
 rw [if_neg (by rw [hz];simp)]
 refine wpAny_bind (wpAny_pure (wpAny_bind (wpAny_dictEpoch hod hdd ?_)))
 rw [if_neg (by simp)]
 refine wpAny_pure ?_
 have hge:es.size<=i:=by lia
 simp only [show ¬ ((i:Int) <0)from by lia,if_false,Int.toNat_natCast,Array.getElem?_eq_none hge]
 refine wpAny_bind ?_
 first | refine wpAny_bind (wpAny_typeNameOfWhole_keyiter ty (wpAny_pure ?_)) | refine wpAny_bind (wpAny_typeNameOf_keyiter ty (wpAny_pure ?_))
 refine (show wpAny _ _ (setField (.ref j) 0 .none >>= _) _ _ s from wpAny_bind (wpAny_setField ho hd (by simp) ?_))
 refine (show wpAny _ _ (newExc (.type "StopIteration") [] >>= _) _ _ _ from wpAny_bind ?_)
 simp only [newExc,newTuple]
 refine wpAny_bind (wpAny_newObj_type (wpAny_bind (m:=firstArgMember _ _) (wpAny_of_eq (a:=Value.none) (by first | rfl | (simp only [firstArgMember];rfl)) (wpAny_newObj_type ?_ (by size_fits)))) (by size_fits))
 simp only [raiseNew]
 refine wpAny_bind (wpAny_handled ?_)
 rw [show A.in1.handled=none from hh]
 refine (wpAny_bind (wpAny_pure (wpAny_throw (?_))))
 refine wpAny_bind (wpAny_isInstance (T:="StopIteration") (b:=true) ⟨_,Heap.get?_push_size _ rfl,rfl⟩ isSubtype_stop (wpAny_pure (q _ ?_)))
 exact ((Heap.SameBut.update ..).extBut.push _).push _
theorem qR (hh:A.handled=none) (hne:d≠j):Walks prog w A j [j,d] [j] ks.length (fun i v=>ks[i]? =some v) (fun i h=>h.IsKeyIter j d i ks.length ep/\DEs h d ks ep) where
 sub:=fun b hb=>by rw [List.mem_singleton.mp hb];exact List.mem_cons_self
 frame:=fun _ _ _ st k=>⟨st.1.at fun o e=>k j (by simp) o e,st.2.keeps fun o e=>k d (by simp) o e⟩
 item:=fun i s Q E hi st hQ=>by
  have hx:ks[i]? =some ks[i]:=List.getElem?_eq_getElem hi
  refine uA st.1 st.2 hx fun h' st' sb=>?_
  exact hQ _ h' s.toks hx ⟨st',st.2.keeps fun o e=>sb.extBut d o hne e⟩ fun b o hb e=>sb.extBut b o (fun z=>hb (by rw [z];exact List.mem_cons_self)) e
 done:=fun s Q E st hQ=>wj hh st.1 st.2 (Nat.le_refl _) fun h' eb=>hQ h' s.toks fun b o hb e=>eb b o (fun z=>hb (by rw [z];exact List.mem_cons_self)) e
 self:=fun _ _ _ _ st hQ=>wpAny_pyIter_keyiter st.1 hQ
theorem src_des (lo:(d==sysModules)=false):PySem.W.KdlSrc prog w "dict" d d ks.length (fun i v=>ks[i]? =some v) (fun h=>DEs h d ks ep) where
 type:=fun _ m=>m.type
 there:=fun _ m=>⟨m.lt,m.lt⟩
 keep:=fun _ _ m k=>m.keeps fun o e=>k d (.inl rfl) o e
 notList:=by decide
 notTuple:=by decide
 hint:=fun _ _ _ _ m q=>PySem.W.kdl_hint_dict m.type q
 iter:=fun _ _ hh m=>⟨_,_,fun _ _ q=>uQ lo m q,qR hh (Nat.ne_of_lt m.lt),⟨⟨_,Heap.get?_push_size _ rfl,rfl,rfl⟩,m.keeps fun o e=>Heap.get?_push_of_some _ e⟩⟩
end
end HT
namespace L2
open PySem PySem.Spec PyProof.Rows
section
variable {X:Cx}
noncomputable def KsOf (H:Hp):List V->List (List Key)->Prop:=Paired fun y ks=> ∃ b,y=.ref b/\H b=some (.tup (ks.map kV))
theorem KsOf.mono {H H':Hp} {ys:List V} {kss:List (List Key)} (h:KsOf H ys kss) (t: ∀ b xs,H b=some (.tup xs)->H' b=some (.tup xs)):KsOf H' ys kss:=
 Paired.mapP h fun _ _ ⟨b,e,hb⟩=>⟨b,e,t _ _ hb⟩
theorem uN {H:Hp} {kvs:List (List Key×V)} {xs:List (List Key×Addr×Value)} (r:KT H kvs xs):KsOf H (xs.map fun q=>V.ref q.2.1) (kvs.map (·.1)):=by
 induction r with
 | nil=>exact .nil
 | cons h _ ih=>exact .cons ⟨_,rfl,h.2.1⟩ ih
theorem qa (hc:X.calm=true):fb X (.type "list") (fun xs H Q=> ∃ a kvs,xs=[.ref a]/\H a=some (.dT kvs)/\ ∀ p ys,H p=none->KsOf H ys (kvs.map (·.1))->Q (.ref p) (upd H p (.lst ys))):=by
 intro pins s σ H xs us Q I r h
 obtain ⟨a,kvs,rfl,ha,q⟩:=h
 obtain ⟨u,rfl,ru⟩:=iZ r
 cases ru
 obtain ⟨hz,lo,ys,kt,o,es,ep,h1,h2,h3,h4,h5⟩:=(show ObjOk X.prog X.w H s.heap a (.dT kvs)from I.hok a _ ha)
 have hm:HT.DEs s.heap a (ys.map fun q=>Value.ref q.2.1) ep:=by
  refine ⟨o,es,h1,h2,h3,?_⟩
  rw [h4,List.map_map]
  rfl
 have hl:ys.length=kvs.length:=(Paired.length kt).symm
 refine PySem.W.kdl_call (HT.src_des lo) (I.ok.hd hc) hm (by rw [List.length_map];lia) fun h' tk acc c' kp e hi=>?_
 obtain ⟨i1,i2⟩:=hi
 have hacc:acc.toList=ys.map fun q=>Value.ref q.2.1:=by
  refine List.ext_getElem? fun i=>?_
  rw [Array.getElem?_toList]
  cases hv:acc[i]? with
  | some v=>exact (i2 i v hv).symm
  | none=>
   have:acc.size<=i:=Array.getElem?_eq_none_iff.mp hv
   exact (List.getElem?_eq_none (by rw [<- i1];exact this)).symm
 have rv:Vals (ys.map fun q=>V.ref q.2.1) (ys.map fun q=>Value.ref q.2.1):=by
  clear kt h4 h5 hl i1 i2 hacc hm
  induction ys with
  | nil=>exact .nil
  | cons y r ih=>exact .cons rfl ih
 refine ⟨.ref s.heap.objs.size,_,I.laid (t':=tk) (o:=.lst (ys.map fun q=>V.ref q.2.1)) kp (Nat.le_refl _) ?_,rfl,q _ _ (I.hok.fresh (Nat.le_refl _)) (uN kt)⟩
 refine ⟨by rw [List.length_map];lia,_,c',rv,?_⟩
 rw [<- hacc,Array.toArray_toList]
 exact e
end
section
variable {X:Cx}
theorem rE (hu:X.A.units<cLine):OpR X (compareOp .NotEq) (fun x y H Q=> ∃ a b xs,x=.ref a/\y=.ref b/\SqL X.K H a xs/\SqL X.K H b []/\Q (.bl (!xs.isEmpty)) H):=by
 intro pins s σ H x y v u Q I rx ry h
 obtain ⟨a,b,xs,rfl,rfl,ha,hb,q⟩:=h
 cases rx
 cases ry
 obtain ⟨its,r,pl,_⟩:=I.list ha
 obtain ⟨its2,r2,pl2,_⟩:=I.list hb
 cases r2
 cases r with
 | nil=>exact SeqAt.RcNeAt.lists (e:=fun _=>true) pl.isList pl2.isList rfl hu (fun j h1 _=>absurd h1 (Nat.not_lt_zero _)) X.prog X.w X.xe _ ⟨.bl _,H,I,rfl,q⟩
 | cons r1 t=>exact SeqAt.RcNeAt.lists_lengths pl.isList pl2.isList (by simp) hu X.prog X.w X.xe _ ⟨.bl _,H,I,rfl,q⟩
instance zS (ks:List Key) (kss:List (List Key)):Decidable (ks∈kss):=decidable_of_iff (kss.any (fun l=>decide (l=ks))=true) ⟨fun h=>by
  obtain ⟨x,hx,e⟩:=List.any_eq_true.mp h
  rw [<- of_decide_eq_true e]
  exact hx,fun h=>List.any_eq_true.mpr ⟨ks,h,decide_eq_true rfl⟩⟩
theorem nk {P P':Program} {w w':World} {H:Hp} {h:Heap} {a:Addr} {ks:List Key} (ok:HOk P w H h) (e:H a=some (.tup (ks.map kV))):IsTupleKey (aU P' w') h ks a:=by
 obtain ⟨_,its,r,o,h1,h2,n,h3⟩:=(show ObjOk P w H h a (.tup (ks.map kV))from ok a _ e)
 exact ⟨o,its.toArray,n,h1,h2,h3,by simpa using iX r⟩
noncomputable def uR (H:Hp) (ks:List Key):Value->Bool
 | .ref b=>(match H b with | some (.tup xs)=>decide (xs=ks.map kV) | _=>false)
 | _=>false
theorem qB {H:Hp} {b:Addr} {ks ls:List Key} (h:H b=some (.tup (ls.map kV))):uR H ks (.ref b)=decide (ls=ks):=by
 show (match H b with | some (.tup xs)=>decide (xs=ks.map kV) | _=>false)=_
 rw [h]
 show decide (ls.map kV=ks.map kV)=decide (ls=ks)
 by_cases e:ls=ks
 ·rw [decide_eq_true e,decide_eq_true (by rw [e])]
 ·rw [decide_eq_false e,decide_eq_false fun z=>e (nn z)]
theorem xR {H:Hp} {ks:List Key} {ys:List V} {us:List Value} {kss:List (List Key)} (r:Vals ys us) (h:KsOf H ys kss):us.any (uR H ks)=decide (ks∈kss):=by
 induction r generalizing kss with
 | nil=>cases h;exact (decide_eq_false (by simp)).symm
 | @cons y u ys us r1 t ih=>
  cases h with
  | @cons _ ls _ kss h1 t2=>
   obtain ⟨b,rfl,hb⟩:=h1
   cases (show u=Value.ref b from r1)
   rw [List.any_cons,qB hb,ih t2]
   by_cases e:ls=ks
   ·have m:ks∈ls::kss:=by rw [e];exact List.mem_cons_self
    rw [decide_eq_true e,decide_eq_true m,Bool.true_or]
   ·rw [decide_eq_false e,Bool.false_or]
    refine decide_eq_decide.mpr ⟨fun h=>List.mem_cons_of_mem _ h,fun h=>?_⟩
    rcases List.mem_cons.mp h with z | z
    ·exact absurd z.symm e
    ·exact z
theorem xy {H:Hp} {ys:List V} {us:List Value} {kss:List (List Key)} (r:Vals ys us) (h:KsOf H ys kss): ∀ u∈us,∃ (b:Addr) (ls:List Key),u=.ref b/\H b=some (.tup (ls.map kV)):=by
 induction r generalizing kss with
 | nil=>intro u hu;cases hu
 | @cons y u ys us r1 t ih=>
  cases h with
  | cons h1 t2=>
   intro v hv
   rcases List.mem_cons.mp hv with e | e
   ·obtain ⟨b,rfl,hb⟩:=h1
    exact ⟨b,_,e.trans (show u=Value.ref b from r1),hb⟩
   ·exact ih t2 v e
noncomputable def yA (K:PySem.W.Frag) (neg:Bool):R2:=fun x y H Q=> ∃ a p ks ys kss,x=.ref a/\y=.ref p/\H a=some (.tup (ks.map kV))/\SqL K H p ys/\KsOf H ys kss/\Q (.bl (if neg then !decide (ks∈kss)else decide (ks∈kss))) H
theorem oi (hu:X.A.units+1<cLine):OpR X (compareOp .NotIn) (yA X.K true):=by
 intro pins s σ H x y v u Q I rx ry h
 obtain ⟨a,p,ks,ys,kss,rfl,rfl,ha,hp,hk,q⟩:=h
 cases rx
 cases ry
 obtain ⟨its,r,pl,hz⟩:=I.list hp
 refine SeqAt.notIn_listAt (uR H ks) pl.isList (fun w hw=>?_) ⟨.bl _,H,I,rfl,?_⟩
 ·obtain ⟨b,ls,rfl,hb⟩:=xy r hk w (by simpa using hw)
  rw [qB hb]
  exact fun prog w' E Q hq=>wpAny_eqBool_tuple (show X.A.units+1<cLine from hu) (nk I.hok hb) (nk I.hok ha) hq
 ·rw [show its.toArray.any (uR H ks)=its.any (uR H ks) by simp,xR r hk]
  exact q
end
end L2
namespace HT
open PySem PyProof.Rows
section
variable {prog:Program} {w:World} {A:Around} {s:Shared} {E:Value->Shared->Prop} {j t:Addr} {i:Nat} {items:Array Value}
theorem uZ {x:Value} {Q:Value->Shared->Prop} (st:s.heap.IsTupleIter j t i) (ht:s.heap.IsTuple t items) (hx:items[i]? =some x)
  (q: ∀ h',h'.IsTupleIter j t (i+1)->Heap.SameBut j s.heap h'->Q x {s with heap:=h'}):wpAny (model prog w) A (Builtin.SmallTypes.nextOf (.ref j)) Q E s:=by
 have ty:=st.typeIs
 obtain ⟨o,ho,hc,hd⟩:=id st
 obtain ⟨ol,hol,_,nl,hdl⟩:=ht
 unfold Builtin.SmallTypes.nextOf
 refine wpAny_bind (wpAny_callSpecial?_slot (name:=Str.ofString "__next__") ty PySem.F.slot_tuple_iterator_next (wpAny_call_entry PySem.F.slot_tuple_iterator_next ty PySem.F.entry_tuple_iterator_next ?_ (PySem.F.args_tuple_iterator_next_1 _)))
 refine (show wpAny _ _ (field (.ref j) 0 >>= _) _ _ s from wpAny_bind (wpAny_field ho hd (x:=.ref t) rfl ?_))
 refine (show wpAny _ _ (if (Value.ref t==Value.none)=true then _ else _) _ _ s from ?_)
 rw [if_neg fun b0:(Value.ref t==Value.none)=true=>Bool.false_ne_true b0]
 refine (show wpAny _ _ (field (.ref j) 1 >>= _) _ _ s from wpAny_bind (wpAny_field ho hd (x:=.int i 0) rfl ?_))
 refine (show wpAny _ _ (seqItems? (.ref t) >>= _) _ _ s from wpAny_bind (wpAny_seqItems hol hdl ?_))
 simp only [Int.toNat_natCast,hx]
 refine wpAny_bind (wpAny_setField ho hd (by simp) (wpAny_pure ⟨x,rfl,wpAny_pure (q _ ⟨_,Heap.get?_update_self _ ho (Obj.isFreed_of_fields (Obj.data_mapFields hd _)),(Obj.cls_mapFields ..).trans hc,?_⟩ (Heap.SameBut.update ..))⟩))
 rw [Obj.data_mapFields hd];simp [rawInt]
theorem oG {Q:Value->Shared->Prop} (hh:A.handled=none) (st:s.heap.IsTupleIter j t i) (ht:s.heap.IsTuple t items) (hx:items[i]? =none)
  (q: ∀ h' e,Heap.ExtBut j s.heap h'->(∃ o,h'.get? e=some o/\o.cls=.type "StopIteration")->E (.ref e) {s with heap:=h'}):wpAny (model prog w) A (Builtin.SmallTypes.nextOf (.ref j)) Q E s:=by
 have ty:=st.typeIs
 obtain ⟨o,ho,hc,hd⟩:=id st
 obtain ⟨ol,hol,_,nl,hdl⟩:=ht
 unfold Builtin.SmallTypes.nextOf
 refine wpAny_bind (wpAny_callSpecial?_slot (name:=Str.ofString "__next__") ty PySem.F.slot_tuple_iterator_next (wpAny_call_entry PySem.F.slot_tuple_iterator_next ty PySem.F.entry_tuple_iterator_next ?_ (PySem.F.args_tuple_iterator_next_1 _)))
 refine (show wpAny _ _ (field (.ref j) 0 >>= _) _ _ s from wpAny_bind (wpAny_field ho hd (x:=.ref t) rfl ?_))
 refine (show wpAny _ _ (if (Value.ref t==Value.none)=true then _ else _) _ _ s from ?_)
 rw [if_neg fun b0:(Value.ref t==Value.none)=true=>Bool.false_ne_true b0]
 refine (show wpAny _ _ (field (.ref j) 1 >>= _) _ _ s from wpAny_bind (wpAny_field ho hd (x:=.int i 0) rfl ?_))
 refine (show wpAny _ _ (seqItems? (.ref t) >>= _) _ _ s from wpAny_bind (wpAny_seqItems hol hdl ?_))
 simp only [Int.toNat_natCast,hx]
 refine wpAny_bind (wpAny_rule (wpAny_bind (wpAny_setField ho hd (by simp) (show wpAny _ _ (newExc (.type "StopIteration") [] >>= _) _ _ _ from wpAny_bind ?_))))
 simp only [newExc,newTuple]
 refine wpAny_bind (wpAny_newObj_type (wpAny_bind (m:=firstArgMember _ _) (wpAny_of_eq (a:=Value.none) (by first | rfl | (simp only [firstArgMember];rfl)) (wpAny_newObj_type ?_ (by size_fits)))) (by size_fits))
 simp only [raiseNew]
 refine wpAny_bind (wpAny_handled ?_)
 rw [show A.in1.handled=none from hh]
 exact wpAny_bind (wpAny_pure (wpAny_throw (q _ _ (((Heap.SameBut.update ..).extBut.push _).push _) ⟨_,Heap.get?_push_size _ rfl,rfl⟩)))
noncomputable def SIter (c:Bool) (h:Heap) (j l:Addr) (i:Nat):Prop:=if c=true then h.IsTupleIter j l i else h.IsListIter j l i
noncomputable def SSeq (c:Bool) (h:Heap) (l:Addr) (items:Array Value):Prop:=if c=true then h.IsTuple l items else h.IsList l items
theorem SIter.obj {c:Bool} {h:Heap} {l:Addr} (x:SIter c h j l i): ∃ o,h.get? j=some o/\ ∀ v,o.data≠ .cell v:=by
 cases c with
 | true=>obtain ⟨o,e,_,d⟩:=(show h.IsTupleIter j l i from x);exact ⟨o,e,fun v z=>by rw [d]at z;cases z⟩
 | false=>obtain ⟨o,e,_,d⟩:=(show h.IsListIter j l i from x);exact ⟨o,e,fun v z=>by rw [d]at z;cases z⟩
theorem SIter.at {c:Bool} {h h':Heap} {l:Addr} (x:SIter c h j l i) (k: ∀ o,h.get? j=some o->h'.get? j=some o):SIter c h' j l i:=by
 cases c with
 | true=>obtain ⟨o,e,r⟩:=(show h.IsTupleIter j l i from x);exact (show h'.IsTupleIter j l i from ⟨o,k o e,r⟩)
 | false=>obtain ⟨o,e,r⟩:=(show h.IsListIter j l i from x);exact (show h'.IsListIter j l i from ⟨o,k o e,r⟩)
theorem SSeq.at {c:Bool} {h h':Heap} {l:Addr} (x:SSeq c h l items) (k: ∀ o,h.get? l=some o->h'.get? l=some o):SSeq c h' l items:=by
 cases c with
 | true=>obtain ⟨o,e,r⟩:=(show h.IsTuple l items from x);exact (show h'.IsTuple l items from ⟨o,k o e,r⟩)
 | false=>obtain ⟨o,e,r⟩:=(show h.IsList l items from x);exact (show h'.IsList l items from ⟨o,k o e,r⟩)
theorem draws_seq (c:Bool) (hh:A.handled=none) (j l:Addr) (hne:l≠j) (items:Array Value):
  Draws prog w A j [j,l] items.size (fun i v=>items[i]? =some v) (fun i h=>SIter c h j l i/\SSeq c h l items) where
 live:=fun _ _ st=>let ⟨o,e,_⟩:=st.1.obj;⟨o,e⟩
 frame:=fun _ _ _ st k=>⟨st.1.at fun o e=>k j (by simp) o e,st.2.at fun o e=>k l (by simp) o e⟩
 item:=fun i s Q E hi st hQ=>by
  have hx:items[i]? =some items[i]:=Array.getElem?_eq_getElem hi
  cases c with
  | true=>exact uZ st.1 st.2 hx fun h' st' sb=>hQ _ h' s.toks hx ⟨st',st.2.at fun o e=>sb.extBut l o hne e⟩ sb
  | false=>exact wpAny_nextOf_list_item st.1 st.2 hx fun h' st' sb=>hQ _ h' s.toks hx ⟨st',st.2.at fun o e=>sb.extBut l o hne e⟩ sb
 done:=fun s Q E st hE=>by
  cases c with
  | true=>exact oG hh st.1 st.2 (by simp) hE
  | false=>exact wpAny_nextOf_list_end hh st.1 st.2 (by simp) hE
end
section
variable {prog:Program} {w:World} {A:Around} {s:Shared} {E:Value->Shared->Prop}
noncomputable def tIt (l:Addr):Obj:={cls:=.type "tuple_iterator",data:=.fields #[.ref l,.int 0 0]}
end
end HT
namespace L2
open PySem PySem.Spec PyProof.Rows
noncomputable def zm (c:Bool) (xs:List V):HO:=if c=true then .tup xs else .lst xs
theorem Inv.seqS {X:Cx} {pins:List (Addr×Obj)} {σ:St} {H:Hp} {s:Shared} {c:Bool} {a:Addr} {xs:List V} (I:Inv X pins σ H s) (h:H a=some (zm c xs)): ∃ its:List Value,Vals xs its/\HT.SSeq c s.heap a its.toArray/\xs.length<=sizeLine:=by
 cases c with
 | true=>obtain ⟨its,r,p,z⟩:=I.tuple (SqT.of (K:=X.K) h);exact ⟨its,r,p,z⟩
 | false=>obtain ⟨its,r,p,z⟩:=I.list (SqL.of (K:=X.K) h);exact ⟨its,r,p.isList,z⟩
structure qQ (sc0:Scope) (N0:List Str) (scope:Scope) (x x2:Str) (ys:List Str) (fr:List Nat):Prop where
 kind:scope.kind=.function
 nocell: ∀ y∈scope.names,y.2≠ .cell
 loc: ∀ y∈scope.names,y.2=.local->scope.names.lookup y.1=some .local
 xl:(bw sc0 scope).lookup x=some .local
 xl2:(bw sc0 scope).lookup x2=some .local
 free: ∀ y∈scope.names,y.2=.free->sc0.names.lookup y.1=some .cell
 nd:(x::x2::ys).Nodup
 len:ys.length=fr.length
 sl: ∀ q∈ys.zip fr,N0[q.2]? =some q.1/\sc0.names.lookup q.1=some .cell/\(bw sc0 scope).lookup q.1=some .cell
noncomputable def df (X:Cx) (x x2:Str) (ys:List Str) (scope:Scope) (C:Addr) (s:Shared) (H:Hp) (ex:List Addr):Cx:=
 {X with N:=x::x2::ys,s₀:=s,H₀:=H,env:=compEnvC scope (eh X.env.cells scope.names) C X.env,outer:=X.stack,stack:=X.stack,ex:=ex,fn:=fun _=>false,pn:=[],xe:=fun _ _=>False}
noncomputable def qj (fr:List Nat) (te:TE) (σ:St) (J:It) (H1:Hp) (Q:VK):Prop:=
 ∀ p,H1 p=none-> ∃ W:Nat->Nat->List V->Hp->Prop,(∃ m,W 0 m [] (upd H1 p (.lst [])))/\ ∀ i m ys H,W i m ys H->H p=some (.lst ys)/\
  ((J.stop i H/\Q (.ref p) H)\/(J.go i H/\ys.length<sizeLine/\ ∀ x H',J.yld i H x H'-> ∃ T v1 v2,x=.ref T/\H' T=some (.tup [v1,v2])/\te (some v1::some v2::cy fr σ) H' fun v H2=>
   H2 p=some (.lst ys)/\ ∃ m',m'<m/\W (i+1) m' (ys++[v]) (upd H2 p (.lst (ys++[v])))))
noncomputable def sQ (wi:TI) (fr:List Nat) (te:TE):TE:=fun σ H Q=>wi σ H fun J H1=>qj fr te σ J H1 Q
section
variable {X:Cx} {x x2:Str} {px px2 tpos pos fpos:Pos} {kk:Nat} {iter elt:Expr} {scope sc0:Scope} {N0 ys:List Str} {fr:List Nat} {wi:TI} {te:TE} {pins:List (Addr×Obj)} {σ:St} {H:Hp} {s:Shared}
theorem p9 {use:Option (Value->Sem Unit)} {Qv:Value->Shared->Prop} {Q:VK} (hcalm:X.calm=true) (hi:PI X (.Tuple [.Name x px,.Name x2 px2] kk tpos) iter wi) (hsc:X.env.scope=sc0) (hN:X.N=N0) (ok:qQ sc0 N0 scope x x2 ys fr)
  (hE: ∀ C s H ex,PE (df X x x2 ys scope C s H ex) elt te) (I:Inv X pins σ H s) (h:sQ wi fr te σ H Q) (hs: ∀ v,foldedSetIterable iter X.env v=pure v)
  (fin: ∀ (p C:Addr) (H':Hp) (s':Shared) (m:Str->Option Value),Inv X pins σ H' s'->s'.heap.Ns C m->H' C=none->C≠X.env.locals->X.s₀.heap.objs.size<=C->(∀ y c,X.env.cells.lookup y=some c->c≠C)->(∀ q∈X.pn++pins,q.1≠C)->Q (.ref p) H'->
   compPost (model X.prog X.w) X.A X.xe use Qv (.ref p) C (.ok .next) s'):
  wpAny (model X.prog X.w) X.A (comprehension (.ListComp elt [⟨.Tuple [.Name x px,.Name x2 px2] kk tpos,iter,[],0⟩] scope pos) scope X.env fpos (newList []) false (eval iter X.env) use) Qv X.xe s:=by
 subst hsc hN
 have hkof: ∀ y,X.env.kindOf y=X.env.scope.names.lookup y:=fun y=>rfl
 have hfree: ∀ y∈scope.names,y.2=.free-> ∃ c,X.env.cells.lookup y.1=some c:=fun y hy e=>I.ok.has y.1 (.inl (ok.free y hy e))
 refine wpAny_comprehension_free (gs:=[]) rfl hs (eM hfree) ok.kind ok.loc (thn (hi pins s σ H _ I h) fun v s1 h1=>thn h1 fun itv s2 h2=>?_)
 obtain ⟨it,fp,tn,J,H2,e,I2,T,st2,f2,hp⟩:=h2
 subst e
 refine wpAny_newObj_type (wpAny_newFunctionEnv ok.nocell (by intro y hy;simp at hy) (fun h₁ hns₁ hsb₁=>?_) ok.kind)
 dsimp only at hns₁ hsb₁ ⊢
 have I3:Inv X pins σ (upd H2 s2.heap.objs.size (.lst [])) {s2 with heap:=s2.heap.push {cls:=.type "list",data:=.seq ([]:List Value).toArray}}:=
  I2.lnew (its:=[]) (ys:=[]) (t':=s2.toks) .nil (Nat.zero_le _)
 have hf2: ∀ b∈fp,b<s2.heap.objs.size:=fun b hb=>by
  obtain ⟨o,e,_⟩:=T.obj _ _ st2 b hb
  exact Heap.lt_size e
 have hps:s2.heap.objs.size< (s2.heap.push {cls:=.type "list",data:=.seq ([]:List Value).toArray}).objs.size:=by rw [Heap.size_push];exact Nat.lt_succ_self _
 have W0:=hp s2.heap.objs.size I2.fresh
 have st3:tn 0 (s2.heap.push {cls:=.type "list",data:=.seq ([]:List Value).toArray}):=T.keep _ _ _ st2 fun b hb o e=>Heap.get?_push_of_some _ e
 generalize hpp:s2.heap.objs.size=p at I3 W0 hf2 hps ⊢
 generalize hh3:(s2.heap.push {cls:=.type "list",data:=.seq ([]:List Value).toArray})=h3 at I3 hns₁ hsb₁ hps st3 ⊢
 generalize hH3:upd H2 p (.lst [])=H3 at I3 W0
 have hold: ∀ b o,h3.get? b=some o->h₁.get? b=some o:=fun b o e=>hsb₁.extBut b o (Nat.ne_of_lt (Heap.lt_size e)) (Heap.get?_push_of_some _ e)
 have fH3: ∀ b∈fp,H3 b=none:=fun b hb=>by
  rw [<- hH3,ah (Nat.ne_of_lt (hf2 b hb))]
  exact (f2 b hb).1
 have hclos: ∀ y c,(eh X.env.cells scope.names).lookup y=some c->X.env.cells.lookup y=some c:=fun y c e=>dR e
 have hcell3: ∀ y c,X.env.cells.lookup y=some c->c<h3.objs.size:=fun y c e=>by
  obtain ⟨v,o,ho,_⟩:=I3.cell y c e
  exact Heap.lt_size ho
 have hlt3:X.env.locals<h3.objs.size:=I3.lt
 have Yok:(df X x x2 ys scope h3.objs.size {s2 with heap:=h3} H3 fp).Ok:={
  mod:=I.ok.mod
  kind:=ok.kind
  glob:=I.ok.glob
  blt:=I.ok.blt
  above:=Nat.le_refl _
  inj:=fun y z c e1 e2=>I.ok.inj y z c (hclos _ _ e1) (hclos _ _ e2)
  has:=fun y hk=>by
   have hfr:(y,NameKind.free)∈scope.names:=by
    have hm: ∃ k,(bw X.env.scope scope).lookup y=some k/\(k=.cell\/k=.free):=by
     rcases hk with hk | hk
     ·exact ⟨_,hk,.inl rfl⟩
     ·exact ⟨_,hk,.inr rfl⟩
    obtain ⟨k,hk,hkk⟩:=hm
    have hmem:=mem_of_lookup hk
    unfold bw at hmem
    obtain ⟨⟨n,k0⟩,hn,en⟩:=List.mem_map.mp hmem
    dsimp only at en
    split at en
    ·rename_i hc
     simp only [Bool.and_eq_true]at hc
     have hk0:k0=.free:=by simpa using hc.1.1
     cases en
     rw [<- hk0]
     exact hn
    ·cases en
     rcases hkk with e | e
     ·exact absurd e (ok.nocell _ hn)
     ·rw [<- e]
      exact hn
   obtain ⟨c,hc⟩:=hfree _ hfr rfl
   exact ⟨c,du hc hfr⟩
  cab:=fun y c hf _=>by cases hf
  hd:=I.ok.hd
  frames:=I.ok.frames
  stk:=.inl rfl
  exf:=fun b hb=>⟨fun e=>absurd (hf2 b hb) (by rw [e];exact Nat.not_lt.mpr (Nat.le_of_lt hps)),fun y c e=>(f2 b hb).2.2.2.2.1 y c (hclos _ _ e)⟩
  bs:=fun b o e=>⟨(I3.bs b o e).1,(I3.bs b o e).2⟩
  bsz:=Nat.le_trans I.ok.bsz I3.sz
  noex:=fun b o e hb=>by
   rcases (f2 b hb).2.2.2.1 with q | q
   ·exact I.ok.noex b o e q
   ·have h1:b<X.base.objs.size:=Heap.lt_size e
    exact absurd h1 (Nat.not_lt.mpr (Nat.le_trans I.ok.bsz q))
  exfs:=fun b hb hm=>by
   rcases List.mem_cons.mp (I3.stkSub b hm)with q | q
   ·exact (f2 b hb).2.1 q
   ·exact (f2 b hb).2.2.1 q
  funs:=I3.stack
  frf:=I3.stkFree}
 have IY:Inv (df X x x2 ys scope h3.objs.size {s2 with heap:=h3} H3 fp) [] (none::none::cy fr σ) H3 {s2 with heap:=h₁,toks:=s2.toks+ ([]:List (Str×Value)).length}:={
  ok:=Yok
  os:=rfl
  bare:=I2.bare
  base:=Un.kept hold
  loc:=by
   refine ⟨_,hns₁,fun i y v hy hv hvis=>?_⟩
   match i,hy,hv with
   | 0,_,hv=>cases hv
   | 1,_,hv=>cases hv
   | j+2,hy,hv=>
    have hy':ys[j]? =some y:=hy
    have hv':(cy fr σ)[j]? =some (some v):=hv
    unfold cy at hv'
    rw [List.getElem?_map]at hv'
    obtain ⟨i0,hi0,hv0⟩:=Option.map_eq_some_iff.mp hv'
    have hz:(y,i0)∈ys.zip fr:=by
     refine List.mem_iff_getElem?.mpr ⟨j,?_⟩
     rw [List.getElem?_zip_eq_some]
     exact ⟨hy',hi0⟩
    obtain ⟨hn,hk,hk2⟩:=ok.sl _ hz
    have hσ:σ[i0]? =some (some v):=by
     cases e:σ[i0]? with
     | none=>rw [e]at hv0;cases hv0
     | some o=>
      rw [e]at hv0
      rw [show o=some v from hv0]
    obtain ⟨m,hm,hl⟩:=I3.loc
    obtain ⟨u,ru,lk⟩:=hl i0 y v hn hσ (.inr (.inl hk))
    refine ⟨u,ru,.inr ⟨.inl hk2,?_⟩⟩
    rcases lk with ⟨a,_⟩ | ⟨_,c,hc,hcell⟩
    ·have a':X.env.scope.names.lookup y=some .local:=a
     have hk':X.env.scope.names.lookup y=some .cell:=hk
     rw [hk']at a'
     cases a'
    ·have hfr:(y,NameKind.free)∈scope.names:=by
      have hmem:=mem_of_lookup hk2
      unfold bw at hmem
      obtain ⟨⟨n,k0⟩,hn0,en⟩:=List.mem_map.mp hmem
      dsimp only at en
      split at en
      ·rename_i hc0
       simp only [Bool.and_eq_true]at hc0
       have hk0:k0=.free:=by simpa using hc0.1.1
       cases en
       rw [<- hk0]
       exact hn0
      ·cases en
       exact absurd rfl (ok.nocell _ hn0)
     exact ⟨c,du hc hfr,hcell.keeps hold⟩
  cell:=fun y c e=>by
   obtain ⟨v,hv⟩:=I3.cell y c (hclos _ _ e)
   exact ⟨v,hv.keeps hold⟩
  free:=I3.fresh
  freeC:=fun y c e=>I3.freeC y c (hclos _ _ e)
  pin:=fun q hq=>by cases hq
  hok:=I3.hok.kept hold
  len:=by
   show (none::none::cy fr σ).length=(x::x2::ys).length
   rw [List.length_cons,List.length_cons,List.length_cons,List.length_cons,ok.len]
   unfold cy
   rw [List.length_map]}
 have hxl:(df X x x2 ys scope h3.objs.size {s2 with heap:=h3} H3 fp).env.scope.names.lookup x=some .local:=ok.xl
 have hxl2:(df X x x2 ys scope h3.objs.size {s2 with heap:=h3} H3 fp).env.scope.names.lookup x2=some .local:=ok.xl2
 have pgx:PG (df X x x2 ys scope h3.objs.size {s2 with heap:=h3} H3 fp) (.Tuple [.Name x px,.Name x2 px2] kk tpos) (xJ X.K 2 (qD (fY 0) (qD (fY 1) yT))):=
  cC hcalm (aJ (au (i:=0) ok.nd rfl (.inl hxl) (.inr hxl)) (aJ (au (i:=1) ok.nd rfl (.inl hxl2) (.inr hxl2)) bV))
 have pel:=hE h3.objs.size {s2 with heap:=h3} H3 fp
 obtain ⟨W,⟨m0,w0⟩,turn⟩:=W0
 have stat: ∀ {H':Hp},(∀ b∈fp,H' b=none)-> ∀ b∈fp,ko (df X x x2 ys scope h3.objs.size {s2 with heap:=h3} H3 fp) [] H' b:=fun hn b hb=>
  ⟨hn b hb,(Yok.exf b hb).1,Yok.exfs b hb,.inl hb,(Yok.exf b hb).2,fun q hq=>by cases hq⟩
 have loop:codeAny (model X.prog X.w) X.A (.compLoop (.ListComp elt [⟨.Tuple [.Name x px,.Name x2 px2] kk tpos,iter,[],0⟩] scope pos) 0 (.ref it) (.ref p) (compEnvC scope (eh X.env.cells scope.names) h3.objs.size X.env))
   (compPost (model X.prog X.w) X.A X.xe use Qv (.ref p) h3.objs.size) {s2 with heap:=h₁,toks:=s2.toks+ ([]:List (Str×Value)).length}:=by
  refine gJ (fun n s'=> ∃ i zs v0 w0 H',Inv (df X x x2 ys scope h3.objs.size {s2 with heap:=h3} H3 fp) [] (v0::w0::cy fr σ) H' s'/\tn i s'.heap/\(∀ b∈fp,H' b=none)/\W i n zs H') ?_ m0
   ⟨0,[],none,none,H3,IY,T.keep _ _ _ st3 fun b hb o e=>hold b o e,fH3,w0⟩
  rintro n s5 ⟨i,zs,v0,wv0,H5,I5,st5,fr5,w5⟩
  obtain ⟨hacc,turn5⟩:=turn i n zs H5 w5
  rcases turn5 with ⟨stop,qn⟩ | ⟨go,hlen,step⟩
  ·refine thn (T.done (df X x x2 ys scope h3.objs.size {s2 with heap:=h3} H3 fp) rfl rfl rfl hcalm i [] s5 _ H5 _ I5 (stat fr5) st5 stop) fun r s6 ⟨hr,I6⟩=>?_
   subst hr
   obtain ⟨m6,n6,_⟩:=I6.loc
   refine fin p h3.objs.size H5 s6 m6 (I3.call' I6.os I6.base I6.hok I6.bare fun b hb=>⟨(f2 b hb).2.2.2.1,(f2 b hb).2.1,(f2 b hb).2.2.2.2.1,(f2 b hb).2.2.2.2.2⟩) n6 I6.free (Nat.ne_of_gt hlt3) I3.sz (fun y c e=>Nat.ne_of_lt (hcell3 y c e)) (fun q hq=>?_) qn
   exact Nat.ne_of_lt (Heap.lt_size (I3.pin q hq).1)
  ·refine thn (T.item (df X x x2 ys scope h3.objs.size {s2 with heap:=h3} H3 fp) rfl rfl rfl hcalm i [] s5 _ H5 _ I5 (stat fr5) st5 go) fun r s6 ⟨u,hr,h6⟩=>?_
   subst hr
   refine thn h6 fun _ s7 ⟨xv,H7,I7,r7,y7,st7,fr7⟩=>?_
   have I7':=I7.pinned (stat fr7) (T.obj _ _ st7)
   obtain ⟨T7,v1,v2,eT,hT7,step7⟩:=step xv H7 y7
   refine thn (pgx _ s7 _ H7 xv u (fun σ' H'=>σ'=some v1::some v2::cy fr σ/\H'=H7) I7' r7 ⟨T7,[v1,v2],eT,SqT.of hT7,rfl,v1,[v2],rfl,v2,[],rfl,rfl,rfl,rfl⟩) fun _ s8 ⟨σ8,H8,I8,e8,e8'⟩=>?_
   subst e8 e8'
   refine thn (pel _ s8 _ H8 _ I8 step7) fun yv s9 ⟨v9,H9,I9,r9,hp9,m',hm',w9⟩=>?_
   refine thn (bn _ s9 _ H9 (.ref p) [v9] (.ref p) [yv] (fun _ H'=>H'=upd H9 p (.lst (zs++[v9]))) I9 rfl (.cons r9 .nil) ⟨p,zs,v9,rfl,rfl,hp9,hlen,rfl⟩) fun _ s10 ⟨_,H10,I10,_,e10⟩=>?_
   subst e10
   refine ⟨m',hm',i+1,zs++[v9],some v1,some v2,_,I10.unpinned,T.keep _ _ _ st7 fun b hb o e=>(I10.pin (b,o) (List.mem_append_right _ (List.mem_append_right _ (bY hb e)))).1,fun b hb=>?_,w9⟩
   obtain ⟨o,e,d⟩:=T.obj _ _ st7 b hb
   exact (I10.pin (b,o) (List.mem_append_right _ (List.mem_append_right _ (bY hb e)))).2.1
 exact codeAny_compStart_list loop (T.self X.A 0 _ _ _ (T.keep _ _ _ st3 fun b hb o e=>hold b o e) loop)
end
section
variable {prog:Program} {w:World} {A:Around} {R:Result->Shared->Prop} {s:Shared}
theorem j5 {elt target iter cnd:Expr} {scope:Scope} {pos:Pos} {it acc:Value} {env:Env} (I:Nat->Shared->Prop)
  (turn: ∀ n s,I n s->wpAny (model prog w) A (pyNext it) (fun r s₁=>match r with
   | none=>R (.ok .next) s₁
   | some v=>wpAny (model prog w) A (letOwnedTupleGo target it v) (fun _ s₁'=>wpAny (model prog w) A (assign target env v) (fun _ s₂=>wpAny (model prog w) A (isTrue cnd env (eval cnd env)) (fun ok s₃=>
     if ok=true then wpAny (model prog w) A (eval elt env) (fun x s₄=>
      wpAny (model prog w) A (call (.builtin "list.append") [acc,x]) (fun _ s₅=> ∃ m,m<n/\I m s₅) (fun _ _=>False) s₄) (fun _ _=>False) s₃
     else ∃ m,m<n/\I m s₃) (fun _ _=>False) s₂) (fun _ _=>False) s₁') (fun _ _=>False) s₁) (fun _ _=>False) s)
  (n:Nat) (h:I n s):codeAny (model prog w) A (.compLoop (.ListComp elt [⟨target,iter,[cnd],0⟩] scope pos) 0 it acc env) R s:=by
 refine codeAny_loop rfl I (fun n s hI=>?_) n h
 show wpAny _ _ ((compTurn (.ListComp elt [⟨target,iter,[cnd],0⟩] scope pos) 0 it acc env).onRaise (fun x=>do noteFrame x env;theTreesLotGoes x)) _ _ s
 refine wpAny_noted ?_
 rw [compTurn_list]
 refine wpAny_noRaise ?_
 refine wpAny_bind (wpAny_standAt (wpAny_bind (wpAny_mono (turn n s hI) (fun r s₁ h₁=>?_) fun _ _ h'=>h')))
 cases r with
 | none=>exact wpAny_pure h₁
 | some v=>
  refine wpAny_bind (wpAny_mono h₁ (fun _ s₁' h₁'=>?_) fun _ _ h'=>h')
  refine wpAny_bind (wpAny_mono h₁' (fun _ s₂ h₂=>wpAny_bind (wpAny_mono (wpAny_tests_one h₂) (fun ok s₃ h₃=>?_) fun _ _ h'=>h')) fun _ _ h'=>h')
  cases ok with
  | false=>exact wpAny_pure ⟨rfl,h₃⟩
  | true=>
   exact wpAny_bind (wpAny_bind (wpAny_mono h₃ (fun x s₄ h₄=>wpAny_bind (wpAny_mono h₄ (fun _ s₅ h₅=>wpAny_pure (wpAny_pure ⟨rfl,h₅⟩)) fun _ _ h'=>h')) fun _ _ h'=>h'))
end
noncomputable def lG (fr:List Nat) (tc:TT) (te:TE) (σ:St) (J:It) (H1:Hp) (Q:VK):Prop:=
 ∀ p,H1 p=none-> ∃ W:Nat->Nat->List V->Hp->Prop,(∃ m,W 0 m [] (upd H1 p (.lst [])))/\ ∀ i m ys H,W i m ys H->H p=some (.lst ys)/\
  ((J.stop i H/\Q (.ref p) H)\/(J.go i H/\ys.length<sizeLine/\ ∀ x H',J.yld i H x H'->tc (some x::cy fr σ) H' fun b H2=>if b=true then te (some x::cy fr σ) H2 fun v H3=>
   H3 p=some (.lst ys)/\ ∃ m',m'<m/\W (i+1) m' (ys++[v]) (upd H3 p (.lst (ys++[v])))else ∃ m',m'<m/\W (i+1) m' ys H2))
noncomputable def oW (wi:TI) (fr:List Nat) (tc:TT) (te:TE):TE:=fun σ H Q=>wi σ H fun J H1=>lG fr tc te σ J H1 Q
section
variable {X:Cx} {x:Str} {px pos fpos:Pos} {iter elt cnd:Expr} {scope sc0:Scope} {N0 ys:List Str} {fr:List Nat} {wi:TI} {tc:TT} {te:TE} {pins:List (Addr×Obj)} {σ:St} {H:Hp} {s:Shared}
theorem j3 {use:Option (Value->Sem Unit)} {Qv:Value->Shared->Prop} {Q:VK} (hcalm:X.calm=true) (hi:PI X (.Name x px) iter wi) (hsc:X.env.scope=sc0) (hN:X.N=N0) (ok:gW sc0 N0 scope x ys fr)
  (hT: ∀ C s H ex,PT (bu X x ys scope C s H ex) cnd tc) (hE: ∀ C s H ex,PE (bu X x ys scope C s H ex) elt te) (I:Inv X pins σ H s) (h:oW wi fr tc te σ H Q) (hs: ∀ v,foldedSetIterable iter X.env v=pure v)
  (fin: ∀ (p C:Addr) (H':Hp) (s':Shared) (m:Str->Option Value),Inv X pins σ H' s'->s'.heap.Ns C m->H' C=none->C≠X.env.locals->X.s₀.heap.objs.size<=C->(∀ y c,X.env.cells.lookup y=some c->c≠C)->(∀ q∈X.pn++pins,q.1≠C)->Q (.ref p) H'->
   compPost (model X.prog X.w) X.A X.xe use Qv (.ref p) C (.ok .next) s'):
  wpAny (model X.prog X.w) X.A (comprehension (.ListComp elt [⟨.Name x px,iter,[cnd],0⟩] scope pos) scope X.env fpos (newList []) false (eval iter X.env) use) Qv X.xe s:=by
 subst hsc hN
 have hkof: ∀ y,X.env.kindOf y=X.env.scope.names.lookup y:=fun y=>rfl
 have hfree: ∀ y∈scope.names,y.2=.free-> ∃ c,X.env.cells.lookup y.1=some c:=fun y hy e=>I.ok.has y.1 (.inl (ok.free y hy e))
 refine wpAny_comprehension_free (gs:=[]) rfl hs (eM hfree) ok.kind ok.loc (thn (hi pins s σ H _ I h) fun v s1 h1=>thn h1 fun itv s2 h2=>?_)
 obtain ⟨it,fp,tn,J,H2,e,I2,T,st2,f2,hp⟩:=h2
 subst e
 refine wpAny_newObj_type (wpAny_newFunctionEnv ok.nocell (by intro y hy;simp at hy) (fun h₁ hns₁ hsb₁=>?_) ok.kind)
 dsimp only at hns₁ hsb₁ ⊢
 have I3:Inv X pins σ (upd H2 s2.heap.objs.size (.lst [])) {s2 with heap:=s2.heap.push {cls:=.type "list",data:=.seq ([]:List Value).toArray}}:=
  I2.lnew (its:=[]) (ys:=[]) (t':=s2.toks) .nil (Nat.zero_le _)
 have hf2: ∀ b∈fp,b<s2.heap.objs.size:=fun b hb=>by
  obtain ⟨o,e,_⟩:=T.obj _ _ st2 b hb
  exact Heap.lt_size e
 have hps:s2.heap.objs.size< (s2.heap.push {cls:=.type "list",data:=.seq ([]:List Value).toArray}).objs.size:=by rw [Heap.size_push];exact Nat.lt_succ_self _
 have W0:=hp s2.heap.objs.size I2.fresh
 have st3:tn 0 (s2.heap.push {cls:=.type "list",data:=.seq ([]:List Value).toArray}):=T.keep _ _ _ st2 fun b hb o e=>Heap.get?_push_of_some _ e
 generalize hpp:s2.heap.objs.size=p at I3 W0 hf2 hps ⊢
 generalize hh3:(s2.heap.push {cls:=.type "list",data:=.seq ([]:List Value).toArray})=h3 at I3 hns₁ hsb₁ hps st3 ⊢
 generalize hH3:upd H2 p (.lst [])=H3 at I3 W0
 have hold: ∀ b o,h3.get? b=some o->h₁.get? b=some o:=fun b o e=>hsb₁.extBut b o (Nat.ne_of_lt (Heap.lt_size e)) (Heap.get?_push_of_some _ e)
 have fH3: ∀ b∈fp,H3 b=none:=fun b hb=>by
  rw [<- hH3,ah (Nat.ne_of_lt (hf2 b hb))]
  exact (f2 b hb).1
 have hclos: ∀ y c,(eh X.env.cells scope.names).lookup y=some c->X.env.cells.lookup y=some c:=fun y c e=>dR e
 have hcell3: ∀ y c,X.env.cells.lookup y=some c->c<h3.objs.size:=fun y c e=>by
  obtain ⟨v,o,ho,_⟩:=I3.cell y c e
  exact Heap.lt_size ho
 have hlt3:X.env.locals<h3.objs.size:=I3.lt
 have Yok:(bu X x ys scope h3.objs.size {s2 with heap:=h3} H3 fp).Ok:={
  mod:=I.ok.mod
  kind:=ok.kind
  glob:=I.ok.glob
  blt:=I.ok.blt
  above:=Nat.le_refl _
  inj:=fun y z c e1 e2=>I.ok.inj y z c (hclos _ _ e1) (hclos _ _ e2)
  has:=fun y hk=>by
   have hfr:(y,NameKind.free)∈scope.names:=by
    have hm: ∃ k,(bw X.env.scope scope).lookup y=some k/\(k=.cell\/k=.free):=by
     rcases hk with hk | hk
     ·exact ⟨_,hk,.inl rfl⟩
     ·exact ⟨_,hk,.inr rfl⟩
    obtain ⟨k,hk,hkk⟩:=hm
    have hmem:=mem_of_lookup hk
    unfold bw at hmem
    obtain ⟨⟨n,k0⟩,hn,en⟩:=List.mem_map.mp hmem
    dsimp only at en
    split at en
    ·rename_i hc
     simp only [Bool.and_eq_true]at hc
     have hk0:k0=.free:=by simpa using hc.1.1
     cases en
     rw [<- hk0]
     exact hn
    ·cases en
     rcases hkk with e | e
     ·exact absurd e (ok.nocell _ hn)
     ·rw [<- e]
      exact hn
   obtain ⟨c,hc⟩:=hfree _ hfr rfl
   exact ⟨c,du hc hfr⟩
  cab:=fun y c hf _=>by cases hf
  hd:=I.ok.hd
  frames:=I.ok.frames
  stk:=.inl rfl
  exf:=fun b hb=>⟨fun e=>absurd (hf2 b hb) (by rw [e];exact Nat.not_lt.mpr (Nat.le_of_lt hps)),fun y c e=>(f2 b hb).2.2.2.2.1 y c (hclos _ _ e)⟩
  bs:=fun b o e=>⟨(I3.bs b o e).1,(I3.bs b o e).2⟩
  bsz:=Nat.le_trans I.ok.bsz I3.sz
  noex:=fun b o e hb=>by
   rcases (f2 b hb).2.2.2.1 with q | q
   ·exact I.ok.noex b o e q
   ·have h1:b<X.base.objs.size:=Heap.lt_size e
    exact absurd h1 (Nat.not_lt.mpr (Nat.le_trans I.ok.bsz q))
  exfs:=fun b hb hm=>by
   rcases List.mem_cons.mp (I3.stkSub b hm)with q | q
   ·exact (f2 b hb).2.1 q
   ·exact (f2 b hb).2.2.1 q
  funs:=I3.stack
  frf:=I3.stkFree}
 have IY:Inv (bu X x ys scope h3.objs.size {s2 with heap:=h3} H3 fp) [] (none::cy fr σ) H3 {s2 with heap:=h₁,toks:=s2.toks+ ([]:List (Str×Value)).length}:={
  ok:=Yok
  os:=rfl
  bare:=I2.bare
  base:=Un.kept hold
  loc:=by
   refine ⟨_,hns₁,fun i y v hy hv hvis=>?_⟩
   cases i with
   | zero=>cases hv
   | succ j=>
    have hy':ys[j]? =some y:=hy
    have hv':(cy fr σ)[j]? =some (some v):=hv
    unfold cy at hv'
    rw [List.getElem?_map]at hv'
    obtain ⟨i0,hi0,hv0⟩:=Option.map_eq_some_iff.mp hv'
    have hz:(y,i0)∈ys.zip fr:=by
     refine List.mem_iff_getElem?.mpr ⟨j,?_⟩
     rw [List.getElem?_zip_eq_some]
     exact ⟨hy',hi0⟩
    obtain ⟨hn,hk,hk2⟩:=ok.sl _ hz
    have hσ:σ[i0]? =some (some v):=by
     cases e:σ[i0]? with
     | none=>rw [e]at hv0;cases hv0
     | some o=>
      rw [e]at hv0
      rw [show o=some v from hv0]
    obtain ⟨m,hm,hl⟩:=I3.loc
    obtain ⟨u,ru,lk⟩:=hl i0 y v hn hσ (.inr (.inl hk))
    refine ⟨u,ru,.inr ⟨.inl hk2,?_⟩⟩
    rcases lk with ⟨a,_⟩ | ⟨_,c,hc,hcell⟩
    ·have a':X.env.scope.names.lookup y=some .local:=a
     have hk':X.env.scope.names.lookup y=some .cell:=hk
     rw [hk']at a'
     cases a'
    ·have hfr:(y,NameKind.free)∈scope.names:=by
      have hmem:=mem_of_lookup hk2
      unfold bw at hmem
      obtain ⟨⟨n,k0⟩,hn0,en⟩:=List.mem_map.mp hmem
      dsimp only at en
      split at en
      ·rename_i hc0
       simp only [Bool.and_eq_true]at hc0
       have hk0:k0=.free:=by simpa using hc0.1.1
       cases en
       rw [<- hk0]
       exact hn0
      ·cases en
       exact absurd rfl (ok.nocell _ hn0)
     exact ⟨c,du hc hfr,hcell.keeps hold⟩
  cell:=fun y c e=>by
   obtain ⟨v,hv⟩:=I3.cell y c (hclos _ _ e)
   exact ⟨v,hv.keeps hold⟩
  free:=I3.fresh
  freeC:=fun y c e=>I3.freeC y c (hclos _ _ e)
  pin:=fun q hq=>by cases hq
  hok:=I3.hok.kept hold
  len:=by
   show (none::cy fr σ).length=(x::ys).length
   rw [List.length_cons,List.length_cons,ok.len]
   unfold cy
   rw [List.length_map]}
 have hxl:(bu X x ys scope h3.objs.size {s2 with heap:=h3} H3 fp).env.scope.names.lookup x=some .local:=ok.xl
 have pgx:PG (bu X x ys scope h3.objs.size {s2 with heap:=h3} H3 fp) (.Name x px) (fY 0):=au (i:=0) ok.nd rfl (.inl hxl) (.inr hxl)
 have pel:=hE h3.objs.size {s2 with heap:=h3} H3 fp
 have ptl:=hT h3.objs.size {s2 with heap:=h3} H3 fp
 obtain ⟨W,⟨m0,w0⟩,turn⟩:=W0
 have stat: ∀ {H':Hp},(∀ b∈fp,H' b=none)-> ∀ b∈fp,ko (bu X x ys scope h3.objs.size {s2 with heap:=h3} H3 fp) [] H' b:=fun hn b hb=>
  ⟨hn b hb,(Yok.exf b hb).1,Yok.exfs b hb,.inl hb,(Yok.exf b hb).2,fun q hq=>by cases hq⟩
 have loop:codeAny (model X.prog X.w) X.A (.compLoop (.ListComp elt [⟨.Name x px,iter,[cnd],0⟩] scope pos) 0 (.ref it) (.ref p) (compEnvC scope (eh X.env.cells scope.names) h3.objs.size X.env))
   (compPost (model X.prog X.w) X.A X.xe use Qv (.ref p) h3.objs.size) {s2 with heap:=h₁,toks:=s2.toks+ ([]:List (Str×Value)).length}:=by
  refine j5 (fun n s'=> ∃ i zs v0 H',Inv (bu X x ys scope h3.objs.size {s2 with heap:=h3} H3 fp) [] (v0::cy fr σ) H' s'/\tn i s'.heap/\(∀ b∈fp,H' b=none)/\W i n zs H') ?_ m0
   ⟨0,[],none,H3,IY,T.keep _ _ _ st3 fun b hb o e=>hold b o e,fH3,w0⟩
  rintro n s5 ⟨i,zs,v0,H5,I5,st5,fr5,w5⟩
  obtain ⟨hacc,turn5⟩:=turn i n zs H5 w5
  rcases turn5 with ⟨stop,qn⟩ | ⟨go,hlen,step⟩
  ·refine thn (T.done (bu X x ys scope h3.objs.size {s2 with heap:=h3} H3 fp) rfl rfl rfl hcalm i [] s5 _ H5 _ I5 (stat fr5) st5 stop) fun r s6 ⟨hr,I6⟩=>?_
   subst hr
   obtain ⟨m6,n6,_⟩:=I6.loc
   refine fin p h3.objs.size H5 s6 m6 (I3.call' I6.os I6.base I6.hok I6.bare fun b hb=>⟨(f2 b hb).2.2.2.1,(f2 b hb).2.1,(f2 b hb).2.2.2.2.1,(f2 b hb).2.2.2.2.2⟩) n6 I6.free (Nat.ne_of_gt hlt3) I3.sz (fun y c e=>Nat.ne_of_lt (hcell3 y c e)) (fun q hq=>?_) qn
   exact Nat.ne_of_lt (Heap.lt_size (I3.pin q hq).1)
  ·refine thn (T.item (bu X x ys scope h3.objs.size {s2 with heap:=h3} H3 fp) rfl rfl rfl hcalm i [] s5 _ H5 _ I5 (stat fr5) st5 go) fun r s6 ⟨u,hr,h6⟩=>?_
   subst hr
   refine thn h6 fun _ s7 ⟨xv,H7,I7,r7,y7,st7,fr7⟩=>?_
   have I7':=I7.pinned (stat fr7) (T.obj _ _ st7)
   refine thn (pgx _ s7 _ H7 xv u (fun σ' H'=>σ'=some xv::cy fr σ/\H'=H7) I7' r7 ⟨rfl,rfl⟩) fun _ s8 ⟨σ8,H8,I8,e8,e8'⟩=>?_
   subst e8 e8'
   refine thn (ptl _ s8 _ H8 _ I8 (step xv H8 y7)) fun bb s8' ⟨H8',I8',hb⟩=>?_
   cases bb with
   | false=>
    obtain ⟨m',hm',w9⟩:=hb
    refine ⟨m',hm',i+1,zs,some xv,_,I8'.unpinned,T.keep _ _ _ st7 fun b hb o e=>(I8'.pin (b,o) (List.mem_append_right _ (List.mem_append_right _ (bY hb e)))).1,fun b hb=>?_,w9⟩
    obtain ⟨o,e,d⟩:=T.obj _ _ st7 b hb
    exact (I8'.pin (b,o) (List.mem_append_right _ (List.mem_append_right _ (bY hb e)))).2.1
   | true=>
   refine thn (pel _ s8' _ H8' _ I8' hb) fun yv s9 ⟨v9,H9,I9,r9,hp9,m',hm',w9⟩=>?_
   refine thn (bn _ s9 _ H9 (.ref p) [v9] (.ref p) [yv] (fun _ H'=>H'=upd H9 p (.lst (zs++[v9]))) I9 rfl (.cons r9 .nil) ⟨p,zs,v9,rfl,rfl,hp9,hlen,rfl⟩) fun _ s10 ⟨_,H10,I10,_,e10⟩=>?_
   subst e10
   refine ⟨m',hm',i+1,zs++[v9],some xv,_,I10.unpinned,T.keep _ _ _ st7 fun b hb o e=>(I10.pin (b,o) (List.mem_append_right _ (List.mem_append_right _ (bY hb e)))).1,fun b hb=>?_,w9⟩
   obtain ⟨o,e,d⟩:=T.obj _ _ st7 b hb
   exact (I10.pin (b,o) (List.mem_append_right _ (List.mem_append_right _ (bY hb e)))).2.1
 exact codeAny_compStart_list loop (T.self X.A 0 _ _ _ (T.keep _ _ _ st3 fun b hb o e=>hold b o e) loop)
theorem n8 (hcalm:X.calm=true) (hi:PI X (.Name x px) iter wi) (hsc:X.env.scope=sc0) (hN:X.N=N0) (ok:gW sc0 N0 scope x ys fr)
  (hT: ∀ C s H ex,PT (bu X x ys scope C s H ex) cnd tc) (hE: ∀ C s H ex,PE (bu X x ys scope C s H ex) elt te) (hs: ∀ v,foldedSetIterable iter X.env v=pure v:=by intro _;rfl):
  PE X (.ListComp elt [⟨.Name x px,iter,[cnd],0⟩] scope pos) (oW wi fr tc te):=by
 intro pins s σ H Q I h
 rw [eval_ListComp]
 refine j3 (use:=none) (Qv:=EP X pins σ Q) (Q:=Q) hcalm hi hsc hN ok hT hE I h hs fun p C H' s' m I' hn h0 h1 h2 h3 h4 q=>?_
 refine ⟨m,hn,fun h' sb=>⟨.ref p,H',I'.turned (t':=s'.toks) (fun b o hb e=>sb.extBut b o hb e) h0 (Ne.symm (Ne.symm h1)) (.inr h2) h3 h4,rfl,q⟩⟩
theorem nY {i:Nat} {y:Str} {py spos:Pos} (hcalm:X.calm=true) (hnd:X.N.Nodup) (hiN:X.N[i]? =some y) (hy:Loc X.env.scope y) (hi:PI X (.Name x px) iter wi) (hsc:X.env.scope=sc0) (hN:X.N=N0) (ok:gW sc0 N0 scope x ys fr)
  (hT: ∀ C s H ex,PT (bu X x ys scope C s H ex) cnd tc) (hE: ∀ C s H ex,PE (bu X x ys scope C s H ex) elt te) (hsw:swapsWith (.ListComp elt [⟨.Name x px,iter,[cnd],0⟩] scope pos) (some (.Name y py)) spos.line X.env=pure true:=by rfl)
  (hs: ∀ v,foldedSetIterable iter X.env v=pure v:=by intro _;rfl) (hf:X.fn y=true\/X.env.scope.names.lookup y=some .local:=by first | exact .inl rfl | exact .inr rfl | assumption):
  PS X (.Assign [.Name y py] (.ListComp elt [⟨.Name x px,iter,[cnd],0⟩] scope pos) spos) (oX (oW wi fr tc te) (fY i)):=by
 intro pins s σ H D I h
 rw [exec_Assign_Name_used _ _ _ _ hsw]
 refine wpAny_bind (wpAny_standAt (wpAny_bind ?_))
 show wpAny _ X.A (do let _ <- comprehension (.ListComp elt [⟨.Name x px,iter,[cnd],0⟩] scope pos) scope X.env _ (newList []) false (eval iter X.env) (some (assign (.Name y py) X.env))) _ _ s
 refine wpAny_bind (thn (j3 (use:=some (assign (.Name y py) X.env)) (Qv:=fun _ s'=>SP X pins D .next s') (Q:=fun v H'=>D.nx (σ.set i (some v)) H') hcalm hi hsc hN ok hT hE I h hs fun p C H' s' m I' hn h0 h1 h2 h3 h4 q=>?_) fun _ s' hq=>wpAny_pure (wpAny_pure hq))
 show wpAny _ X.A (assign (.Name y py) X.env (.ref p)) _ _ s'
 refine wpAny_assign_Name (ge (v:=.ref p) I' hnd hiN hy rfl (fun s'' I'' ⟨a,sb,ha⟩=>?_) hf)
 have hCa:C≠a:=by
  rcases ha with e | e
  ·rw [e];exact h1
  ·exact (h3 y a e).symm
 refine ⟨m,hn.sameBut sb hCa,fun h' sb'=>⟨_,H',I''.turned (t':=s''.toks) (fun b o hb e=>sb'.extBut b o hb e) h0 h1 (.inr h2) h3 h4,q⟩⟩
end
section
variable {X:Cx}
theorem uf:OpR X (binaryOp .Add) (fun x y H Q=> ∃ a b xs ys,x=.ref a/\y=.ref b/\SqT X.K H a xs/\SqT X.K H b ys/\xs.length+ys.length<=sizeLine/\(xs=[]->Q (.ref b) H)/\(xs≠[]->ys=[]->Q (.ref a) H)/\
  (xs≠[]->ys≠[]-> ∀ p,H p=none->Q (.ref p) (upd H p (.tup (xs++ys))))):=by
 intro pins s σ H x y v u Q I rx ry h
 obtain ⟨a,b,xs,ys,rfl,rfl,ha,hb,hz,q0,q1,q2⟩:=h
 by_cases hx:xs=[]
 ·subst hx
  cases rx
  cases ry
  obtain ⟨its,r1,p1,_⟩:=I.tuple ha
  obtain ⟨its2,r2,p2,_⟩:=I.tuple hb
  cases r1
  obtain ⟨⟨cls,dd,data,sl⟩,ho,hc,n,hd⟩:=id p1
  obtain ⟨⟨cls2,dd2,data2,sl2⟩,ho2,hc2,n2,hd2⟩:=id p2
  simp only at hc hd hc2 hd2
  subst hc hd hc2 hd2
  exact concat_meets ⟨_,ho,rfl⟩ ⟨_,ho2,rfl⟩ noFill_tuple_add seq_tuple_add PySem.F.slot_tuple_add PySem.F.entry_tuple_add (PySem.F.args_tuple_add_2 _ _)
   (tuple_addW0 a b #[] its2.toArray n n2 dd dd2 sl sl2 rfl) ⟨ho,ho2,⟨.ref b,H,I,rfl,q0 rfl⟩⟩
 ·exact vG pins s σ H _ _ v u Q I rx ry ⟨a,b,xs,ys,rfl,rfl,ha,hb,hx,hz,q1 hx,q2 hx⟩
end
section
variable {base G h h':Heap}
theorem nh {env:Env} {r:List Env} {L:Addr} (hf:env.frame=some L):L∈frs (env::r):=by
 unfold frs;rw [List.filterMap_cons,hf];exact List.mem_cons_self
theorem ik {env:Env} {r:List Env} {b:Addr} (hb:b∈frs r):b∈frs (env::r):=by
 unfold frs;rw [List.filterMap_cons]
 cases env.frame with
 | none=>exact hb
 | some L=>exact List.mem_cons_of_mem _ hb
theorem da: ∀ {l:List Env},h.FunFrames base l->(∀ b∈frs l,G.get? b=none)->h.FunFrames G l
 | [],_,_=>trivial
 | _::_,⟨hk,⟨L,o,hf,_,ho,hd⟩,hr⟩,hg=>⟨hk,⟨L,o,hf,hg L (nh hf),ho,hd⟩,da hr fun b hb=>hg b (ik hb)⟩
end
inductive Rec (h:Heap) (x C T:Addr):Prop
 | mk (oe:Obj) (vs:Array Value) (oT:Obj) (ts:Array Value) (he:h.get? x=some oe) (hc:oe.cls=.ref C) (hd:oe.data=.fields vs) (h1:vs[1]? =some (.ref T)) (ne:T≠x)
   (hT:h.get? T=some oT) (hdT:oT.data=.fields ts) (h3:ts[3]? =some .none):Rec h x C T
structure LeftF (l:List Env) (x C:Addr) (hs:List Addr) (h h':Heap):Prop where
 keep: ∀ b o,b≠x->b∉hs->b∉frs l->h.get? b=some o->h'.get? b=some o
 slot: ∀ b o,b∈frs l->h.get? b=some o-> ∃ sl,h'.get? b=some {o with slots:=sl}
 rc: ∃ T,Rec h' x C T/\(T∈hs\/h.get? T=none)
section
variable {base h h':Heap} {l:List Env} {x C:Addr} {hs:List Addr}
theorem LeftF.of (hl:h.FunFrames base l) (hL:(PySem.W.hideAll h (x::(hs++frs l))).Left l x (.ref C) h h'):LeftF l x C hs h h':=by
 obtain ⟨a1,_,⟨oe,vs,T,oT,ts,he,hc,hd,h1,hn,hTe,hT,hdT,h3⟩,a4⟩:=hL
 have slot: ∀ b o,b∈frs l->h.get? b=some o-> ∃ sl,h'.get? b=some {o with slots:=sl}:=fun b o hb e=>by
  obtain ⟨_,o',ho',hnf⟩:=hl.mem hb
  rw [e]at ho';cases ho'
  exact a4 b o e hnf
 refine ⟨fun b o n1 n2 n3 e=>a1 b o (PySem.W.hideAll_get _ e fun z=>?_),slot,T,.mk oe vs oT ts he hc hd h1 hTe hT hdT h3,?_⟩
 ·rcases List.mem_cons.mp z with z | z
  ·exact n1 z
  ·rcases List.mem_append.mp z with z | z
   ·exact n2 z
   ·exact n3 z
 ·cases q:h.get? T with
  | none=>exact .inr rfl
  | some o=>
   refine .inl ?_
   by_cases z:T∈x::(hs++frs l)
   ·rcases List.mem_cons.mp z with z | z
    ·exact absurd z hTe
    ·rcases List.mem_append.mp z with z | z
     ·exact z
     ·obtain ⟨_,o',ho',hnf⟩:=hl.mem z
      obtain ⟨sl,e2⟩:=slot T o' z ho'
      rw [hT]at e2
      cases e2
      exact absurd hdT (hnf ts)
   ·rw [PySem.W.hideAll_get _ q z]at hn;cases hn
end
section
variable {M:Model} {A:Around} {E:Value->Shared->Prop} {s:Shared} {base:Heap} {env:Env} {outer:List Env} {L x C T:Addr} {Q:Unit->Shared->Prop}
theorem oA {oe:Obj} {vs:Array Value} (hfr:A.frames=some (env::outer)) (hl:s.heap.FunFrames base (env::outer)) (hf:env.frame=some L) (he:s.heap.get? x=some oe) (hc:oe.cls=.ref C)
  (hd:oe.data=.fields vs) (h1:vs[1]? =some .none) (k: ∀ h',LeftF (env::outer) x C [] s.heap h'->Q () {s with heap:=h'}):wpAny M A (leaving env (.ref x)) Q E s:=
 wpAny_leaving_first (base:=PySem.W.hideAll s.heap (x::([]++frs (env::outer)))) hfr (da hl fun b hb=>PySem.W.hideAll_none _ (List.mem_cons_of_mem _ hb)) hf he (fun _ _ e=>PySem.W.of_hideAll _ e)
  (PySem.W.hideAll_none _ List.mem_cons_self) hd h1 fun h' z=>k h' (.of hl (hc▸z))
theorem pS (hfr:A.frames=some (env::outer)) (hl:s.heap.FunFrames base (env::outer)) (hf:env.frame=some L) (r:Rec s.heap x C T)
  (k: ∀ h',LeftF (env::outer) x C [T] s.heap h'->Q () {s with heap:=h'}):wpAny M A (leaving env (.ref x)) Q E s:=by
 obtain ⟨oe,vs,oT,ts,he,hc,hd,h1,ne,hT,hdT,h3⟩:=r
 have gone: ∀ b,b∈x::([T]++frs (env::outer))->(PySem.W.hideAll s.heap (x::([T]++frs (env::outer)))).get? b=none:=fun b hb=>PySem.W.hideAll_none _ hb
 exact wpAny_leaving_next (base:=PySem.W.hideAll s.heap (x::([T]++frs (env::outer)))) (cls:=.ref C) hfr (da hl fun b hb=>gone b (List.mem_cons_of_mem _ (List.mem_append_right _ hb))) hf
  ⟨oe,vs,T,oT,ts,he,hc,hd,h1,gone T (List.mem_cons_of_mem _ (by simp)),ne,hT,hdT,h3⟩ (fun _ _ e=>PySem.W.of_hideAll _ e) (gone x List.mem_cons_self) fun h' z=>k h' (.of hl z)
end
theorem ObjOk.there {P:Program} {w:World} {H:Hp} {h:Heap} {a:Addr} {o:HO} (x:ObjOk P w H h a o): ∃ ob,h.get? a=some ob:=by
 cases o with
 | lst xs=>obtain ⟨_,_,_,_,e⟩:=x;exact ⟨_,e⟩
 | tup xs=>obtain ⟨_,_,_,ob,e,_⟩:=x;exact ⟨_,e⟩
 | dK kvs=>obtain ⟨_,_,_,_,o,_,_,e,_⟩:=x;exact ⟨_,e⟩
 | set S n=>obtain ⟨o,_,_,_,e,_⟩:=x;exact ⟨_,e⟩
 | ins C dx fs=>obtain ⟨_,_,_,e,_⟩:=x;exact ⟨_,e⟩
 | own y=>exact x
 | xd fs=>obtain ⟨_,⟨_,_,_,e,_⟩,_⟩:=x;exact ⟨_,e⟩
 | rng lo hi=>obtain ⟨_,_,_,e⟩:=x;exact ⟨_,e⟩
 | frz ob u=>obtain ⟨e,_⟩:=x;exact ⟨_,e⟩
 | tbl ps=>exact ⟨_,show h.get? a=some _ from x⟩
 | met f y=>exact ⟨_,show h.get? a=some _ from x⟩
 | ext φ=>obtain ⟨_,e,_⟩:=x;exact e
 | _=>obtain ⟨_,_,_,_,o,_,_,e,_⟩:=x;exact ⟨_,e⟩
theorem HOk.none_of {P:Program} {w:World} {H:Hp} {h:Heap} {a:Addr} (x:HOk P w H h) (e:h.get? a=none):H a=none:=by
 cases q:H a with
 | none=>rfl
 | some u=>obtain ⟨ob,z⟩:=(x a u q).there;rw [e]at z;cases z
inductive CX1 (P:Program) (w:World) (C:Addr) (outer:List Env) (H:Hp) (s:Shared) (E:XK) (e:Value) (s':Shared):Prop
 | mk (x T:Addr) (H':Hp) (he:e=.ref x) (os:s'.os=s.os) (bare:AllBare s'.gens) (un:Un (frs outer) [] H H' s.heap s'.heap) (hok:HOk P w H' s'.heap)
   (rc:Rec s'.heap x C T) (nx:s.heap.get? x=none) (nT:s.heap.get? T=none) (fx:H' x=none) (fT:H' T=none) (q:E (.ref C) none H'):CX1 P w C outer H s E e s'
section
variable {P:Program} {w:World} {K:PySem.W.Frag} {mg:Str->Option Value} {base:Heap} {N:List Str} {qual:Str} {scope:Scope} {f:Addr} {cd:Value} {A:Around} {outer:List Env} {s:Shared} {H:Hp} {E:XK} {C:Addr}
theorem qE {CX:CXT} {pins:List (Addr×Obj)} {σ:St} {H1:Hp} {s1:Shared} {x:Addr} {hs:List Addr} {h':Heap} (J:Inv (er CX P w K mg base N qual scope f cd A outer s H E) pins σ H1 s1)
  (fx:H1 x=none) (nx:s.heap.get? x=none) (hh: ∀ T∈hs,H1 T=none/\s.heap.get? T=none) (L:LeftF (envOfC qual scope s.heap.objs.size f cd::outer) x C hs s1.heap h') (q:E (.ref C) none H1):
  CX1 P w C outer H s E (.ref x) {s1 with heap:=h'}:=by
 obtain ⟨T,rc,hT⟩:=L.rc
 have B:Un (frs outer) [] H H1 s.heap s1.heap:=J.base
 have nx': ∀ b o,s.heap.get? b=some o->b≠x:=fun b o e z=>by rw [z,nx]at e;cases e
 have nh': ∀ b o,s.heap.get? b=some o->b∉hs:=fun b o e z=>by rw [(hh b z).2]at e;cases e
 have nfr: ∀ b o,s.heap.get? b=some o->b∉frs outer->b∉frs (envOfC qual scope s.heap.objs.size f cd::outer):=fun b o e nb z=>by
  rcases List.mem_cons.mp (J.stkSub b z)with z | z
  ·have:b<s.heap.objs.size:=Heap.lt_size e
   rw [show b=s.heap.objs.size from z]at this
   exact Nat.lt_irrefl _ this
  ·exact nb z
 refine .mk x T H1 rfl J.os J.bare ⟨fun b o e n hb hx=>?_,fun b o e n hb hx=>?_,B.free,fun b o e hx=>?_,B.tups,B.frzs,B.tbls⟩ (fun a o e=>?_) rc nx ?_ fx ?_ q
 ·exact L.keep b o (nx' b o e) (nh' b o e) (nfr b o e hb) (B.keep b o e n hb hx)
 ·obtain ⟨sl,e1⟩:=B.slot b o e n hb hx
  obtain ⟨sl',e2⟩:=L.slot b _ (ik hb) e1
  exact ⟨sl',e2⟩
 ·obtain ⟨o1,e1⟩:=B.there b o e hx
  by_cases hb:b∈frs (envOfC qual scope s.heap.objs.size f cd::outer)
  ·obtain ⟨sl',e2⟩:=L.slot b _ hb e1
   exact ⟨_,e2⟩
  ·exact ⟨o1,L.keep b o1 (nx' b o e) (nh' b o e) hb e1⟩
 ·have tr: ∀ b u,H1 b=some u-> ∀ v,s1.heap.get? b=some v->h'.get? b=some v:=fun b u e1 v e2=>
   L.keep b v (fun z=>by rw [z,fx]at e1;cases e1) (fun z=>by rw [(hh b z).1]at e1;cases e1) (fun z=>by rw [J.stkFree b z]at e1;cases e1) e2
  refine (J.hok a o e).stay (fun b u hb e2=>?_) (fun _ z=>z) fun _ _ z=>z
  rcases hb with z | z
  ·rw [z]at e2 ⊢;exact tr a o e u e2
  ·exact tr b _ z u e2
 ·rcases hT with z | z
  ·exact (hh T z).2
  ·cases r:s.heap.get? T with
   | none=>rfl
   | some o=>obtain ⟨o1,e1⟩:=B.there T o r (by simp);rw [z]at e1;cases e1
 ·rcases hT with z | z
  ·exact (hh T z).1
  ·exact J.hok.none_of z
theorem sC {CX:CXT} {pins:List (Addr×Obj)} {σ:St} {H1:Hp} {s1:Shared} {x:Addr} {vs:List Value} {h':Heap} (I:Inv (er CX P w K mg base N qual scope f cd A outer s H E) pins σ H1 s1)
  (m:s1.heap.MadeExcOf h' x (.ref C) vs) (q:E (.ref C) none H1) (hi: ∀ e s',CX1 P w C outer H s E e s'->CX outer H s E e s':=by exact fun _ _ z=>z):(er CX P w K mg base N qual scope f cd A outer s H E).xe (.ref x) {s1 with heap:=h'}:=by
 have J:Inv (er CX P w K mg base N qual scope f cd A outer s H E) pins σ H1 {s1 with heap:=h'}:=I.kept (t':=s1.toks) m.keeps
 obtain ⟨t,e,_,_⟩:=m.there
 have nx:s.heap.get? x=none:=by
  cases r:s.heap.get? x with
  | none=>rfl
  | some o=>obtain ⟨o1,e1⟩:=I.base.there x o r (by intro z;cases z);rw [m.new]at e1;cases e1
 exact oA (base:=base) J.ok.frames J.stack rfl e rfl rfl rfl fun h2 L=>hi _ _ (qE J (I.hok.none_of m.new) nx (fun _ z=>absurd z (by simp)) L q)
theorem yF {CX:CXT} (hi: ∀ e s',CX1 P w C outer H s E e s'->CX outer H s E e s'):kg (CX1 P w C) (er CX P w K mg base N qual scope f cd A outer s H E) E:=by
 intro pins σ H1 s1 e s2 I c
 obtain ⟨x,T,H2,rfl,os,bare,un,hok,rc,nx,nT,fx,fT,q⟩:=c
 have J:=I.call' (ch:=[]) os un hok bare (fun b z=>absurd z (by simp))
 have ol: ∀ b,s1.heap.get? b=none->s.heap.get? b=none:=fun b z=>by
  cases r:s.heap.get? b with
  | none=>rfl
  | some o=>obtain ⟨o1,e1⟩:=I.base.there b o r (by intro z;cases z);rw [z]at e1;cases e1
 exact pS (base:=base) J.ok.frames J.stack rfl rc fun h3 L=>hi _ _ (qE J fx (ol x nx) (fun b (z:b∈[T])=>by rw [List.mem_singleton.mp z];exact ⟨fT,ol _ nT⟩) L q)
theorem yG:kg (CX1 P w C) (er (CX1 P w C) P w K mg base N qual scope f cd A outer s H E) E:=yF fun _ _ z=>z
end
section
open PySem.W (excIn tailIn nsOkIn nsIn)
theorem we {K:PySem.W.Frag} {h:Heap} {C:Addr} {bmB:List Value} {newId:String} (X:K.In h) (q:excIn K C bmB newId=true): ∃ bm N nm qn bs hd sn sub ab col dd k0 k1 k2 k3 k5 mN,
  h.get? C=some (excClassObj nm qn C N bs bm hd sn sub ab col dd k0 k1 k2 k3 k5 newId)/\(h.Ns N mN/\mN "__init__"=none)/\OwnTail h bmB bm:=by
 unfold excIn at q
 split at q
 case h_2=>cases q
 case h_1 dd c sl ho=>
  split at q
  case h_2=>cases q
  case h_1 C' bm k0 k1 k2 k3 n k5 hm hs=>
   rw [Bool.and_eq_true,Bool.and_eq_true,Bool.and_eq_true,Bool.and_eq_true,Bool.and_eq_true]at q
   obtain ⟨⟨⟨⟨⟨q1,q2⟩,q3⟩,q4⟩,q5⟩,q6⟩:=q
   have e1:C'=C:=beq_iff_eq.mp q1
   have e2:n=newId:=beq_iff_eq.mp q2
   have e3:c.hasDel=false:=by rw [Bool.not_eq_true']at q3;exact q3
   have hob:=X _ _ ho
   have hsl:sl= #[k0,k1,k2,k3,some (.builtin n),k5]:=Array.toList_inj.mp hs
   have hcd:c={name:=c.name,bases:=c.bases,mro:=.ref C::bm,ns:=c.ns,qualname:=c.qualname,hasDict:=c.hasDict,slotNames:=c.slotNames,subclasses:=c.subclasses,abstract:=c.abstract,collection:=c.collection,hasDel:=false}:=by
    rw [<- e3,<- e1,<- hm]
   rw [hsl,hcd,e2]at hob
   exact ⟨bm,_,_,_,_,_,_,_,_,_,_,_,_,_,_,_,_,hob,⟨Heap.Ns.of_isNs (PySem.W.isNs_of_in X q5),PySem.W.nsMap_none_of_in X q5 (beq_iff_eq.mp q6)⟩,PySem.W.tail_of_in X q4⟩
variable {X:Cx} {C:Addr} {x:Str} {np cpos pos:Pos} {e:Expr} {es:List Expr} {t:TA} {E:XK} {bmB:List Value} {newId initId:String}
noncomputable def wQ (C:Addr) (E:XK) (t:TA):TS:=fun _ σ H=>t σ H fun vs H1=>vs.length<=sizeLine/\E (.ref C) none H1
theorem rn {B:String} (hc:X.calm=true) (hg:Gl X x) (hm:X.mg x=some (.ref C)) (q:excIn X.K C bmB newId=true) (FB:ExcBaseFacts B newId initId bmB)
  (hx: ∀ (pins:List (Addr×Obj)) (σ:St) (H:Hp) (s:Shared) (h':Heap) (y:Addr) (vs:List Value),Inv X pins σ H s->s.heap.MadeExcOf h' y (.ref C) vs->E (.ref C) none H->X.xe (.ref y) {s with heap:=h'})
  (ha:PA X (e::es) t) (hdb:(x==("__debug__":Str))=false:=by decide) (he:starEach (e::es) X.env=(false,eval e X.env)::starEach es X.env:=by rfl) (hpl:(backTo cpos (starEach es X.env)).any (·.1)=false:=by rfl):
  PS X (.Raise (some (.Call (.Name x np) (e::es) [] cpos)) none pos) (wQ C E t):=by
 intro pins s σ H D I h
 obtain ⟨bm,N,nm,qn,bs,hd,sn,sub,ab,col,dd,k0,k1,k2,k3,k5,mN,hC,⟨hN,hni⟩,T⟩:=we I.ok.mod.kin q
 refine wpAny_Raise_call_subT (nm:=nm) (q:=qn) (N:=N) (bs:=bs) (bm:=bm) (hdct:=hd) (sn:=sn) (sub:=sub) (ab:=ab) (col:=col) (dd:=dd) (k0:=k0) (k1:=k1) (k2:=k2) (k3:=k3) (k5:=k5) FB (mN:=mN)
  (T.hasType FB.hasBase) (I.ok.hd hc) ?_ hni (im I hg hm ⟨rfl,?_⟩ hdb)
 ·rw [he];exact hpl
 have hp:=ha cpos pins s σ H _ I h
 rw [he]at hp ⊢
 refine Calls.evalArgs_plain (thn hp fun us s1 ⟨vs,H1,I1,r,z,w⟩=>?_)
 exact ⟨rfl,by rw [<- r.length];exact z,I1.bk _ _ hC,hN.keeps I1.bk,T.keeps I1.bk,fun h' y m=>hx pins σ H1 s1 h' y us I1 m w⟩
end
theorem Fun.okG {CX:CXT} {P:Program} {w:World} {K:PySem.W.Frag} {mg:Str->Option Value} {base:Heap} {x qual:Str} {st:Stmt} {f:Addr} {fd:FuncData} {N ps:List Str} {k:Nat} {sp:Sp} (F:Fun K x qual st f fd) (S:aG N ps (ak st))
  (len: ∀ vs H Q E,sp vs H Q E->vs.length=ps.length)
  (hbody: ∀ (cdv:Value) (A:Around) (outer:List Env) (s:Shared) (H:Hp) (vs:List V) (Q:VK) (E:XK),Room k (A.deeper (envOfC qual (ak st) s.heap.objs.size f cdv))->sp vs H Q E->
   ∃ t,PSs (er CX P w K mg base N qual (ak st) f cdv A outer s H E) (cM st) t/\t {nx:=fun _ H'=>Q .non H',rt:=Q} (gE N vs) H):aE P w K mg base CX (k+1) f fd ps sp:=by
 obtain ⟨oc,od,kV,doc,pm,an,cdv,ct,osl,rfl,lk,hcd⟩:=F.ex
 exact wL lk hcd S len fun A outer s H vs Q E hr hsp=>hbody cdv A outer s H vs Q E hr hsp
theorem Fun.ok1 {P:Program} {w:World} {K:PySem.W.Frag} {mg:Str->Option Value} {base:Heap} {C:Addr} {x qual:Str} {st:Stmt} {f:Addr} {fd:FuncData} {N ps:List Str} {k:Nat} {sp:Sp} (F:Fun K x qual st f fd) (S:aG N ps (ak st))
  (len: ∀ vs H Q E,sp vs H Q E->vs.length=ps.length)
  (hbody: ∀ (cdv:Value) (A:Around) (outer:List Env) (s:Shared) (H:Hp) (vs:List V) (Q:VK) (E:XK),Room k (A.deeper (envOfC qual (ak st) s.heap.objs.size f cdv))->sp vs H Q E->
   ∃ t,PSs (er (CX1 P w C) P w K mg base N qual (ak st) f cdv A outer s H E) (cM st) t/\t {nx:=fun _ H'=>Q .non H',rt:=Q} (gE N vs) H):aE P w K mg base (CX1 P w C) (k+1) f fd ps sp:=F.okG S len hbody
open PySem.W (findIn specialIn takesIn mroIn clsIn Looks)
noncomputable def ExAt (x C:Addr) (h:Heap):Prop:= ∃ oe vs,h.get? x=some oe/\oe.cls=.ref C/\oe.data=.fields vs
noncomputable def ExO (x C:Addr):HO:=.ext (ExAt x C)
theorem ExAt.type {M:Model} {h:Heap} {x C:Addr} (p:ExAt x C h):Looks M h (typeOf (.ref x)) (.ref C):=by
 obtain ⟨oe,_,e,c,_⟩:=p
 exact c▸(Looks.ld e).andThen .now
structure ExC (K:PySem.W.Frag) (C:Addr):Prop where
 ga:findIn K (.ref C) "__getattribute__"=some (some (.builtin "BaseException.__getattribute__"))
 gno:findIn K (.ref C) "__getattr__"=some none
 cls:findIn K (.ref C) "__class__"=some (some (.builtin "object.__class__"))
 get:specialIn K (.builtin "object.__class__") "__get__"=some (some (.builtin "getset_descriptor.__get__"))
 tk:takesIn K (.builtin "object.__class__")=some true
 ob:mroIn K C (.type "object")=some true
 ba:mroIn K C (.type "BaseException")=some true
 is:(clsIn K C).isSome=true
section
variable {prog:Program} {w:World} {A:Around} {E:Value->Shared->Prop} {K:PySem.W.Frag} {x C:Addr}
open PySem.Builtin PySem.Builtin.ObjectAttr PySem.Builtin.Getset_descriptor PySem.W
theorem wg {M:Model} {h:Heap} (X:K.In h) (Z:ExC K C):Looks M h (find (.ref x) (.ref C) "__class__") (.bind (.builtin "getset_descriptor.__get__") (.builtin "object.__class__")):=
 (looks_findIn X Z.cls).andThen ((show Looks M h (getOf (some (.builtin "object.__class__"))) (some (.builtin "getset_descriptor.__get__"))from looks_specialIn X Z.get).andThen
  ((show Looks M h (dataDescriptor? (some (.builtin "object.__class__")) (some (.builtin "getset_descriptor.__get__"))) (some (.builtin "getset_descriptor.__get__",.builtin "object.__class__"))from (looks_takesIn X Z.tk).andThen .now).andThen (Looks.tag .now)))
theorem nu {s:Shared} {tp:Value} {R:Result->Shared->Prop} (X:K.In s.heap) (Z:ExC K C) (p:ExAt x C s.heap) (h:R (.ok (.ret (.ref C))) s):
  codeAny (model prog w) A (.call (.builtin "getset_descriptor.__get__") ⟨[.builtin "object.__class__",.ref x,tp],[]⟩) R s:=by
 obtain ⟨hh,g,dr,t,os⟩:=s
 have L0:=p.type (M:=model prog w)
 have L1:=looks_mroIn (M:=model prog w) X Z.ob
 refine codeAny_call_builtin KF.slot_gs.plain KF.entry_gs (KF.slot_gs.check _ _ _ _ _ _ _ _ KF.type_class (KF.args_gs _ _ _) ?_)
 unfold Builtin.«getset_descriptor.__get__» descrGet
 rw [dga_obj]
 refine wpAny_bind (wpAny_pure ?_)
 unfold descrGetter descrCheckInstance descrNameAndClass isInstance
 simp only [KF.owner_class]
 repeat lk
 refine ⟨Code.quiet_builtin _ (by decide +kernel),codeAny_builtin KF.entry_class ?_⟩
 unfold Builtin.«object.__class__» shownTypeOf
 repeat lk
 exact h
theorem uW {s:Shared} {tk:Tok} {Q:Fin->Shared->Prop} (X:K.In s.heap) (Z:ExC K C) (p:ExAt x C s.heap) (h:Q (.done (.ret (.ref C))) s):
  wpAny (model prog w) A (Builtin.«object.__getattribute__» ⟨[.ref x,.str "__class__" tk],[]⟩) Q E s:=by
 obtain ⟨hh,g,dr,t,os⟩:=s
 have L0:=p.type (M:=model prog w)
 have L1:=wg (M:=model prog w) (x:=x) X Z
 unfold Builtin.«object.__getattribute__»
 refine wpAny_bind (wpAny_pure ?_)
 refine wpAny_bind (wpAny_pure ?_)
 refine wpAny_bind (L0.at ?_)
 refine wpAny_bind (L1.at ?_)
 show wpAny _ _ (bindTo _ _ _ _) _ _ _
 unfold bindTo
 refine wpAny_bind (wpAny_holding (wpAny_call (nu X Z p (wpAny_pure h))))
theorem yU {s:Shared} {tk:Tok} {R:Result->Shared->Prop} (X:K.In s.heap) (Z:ExC K C) (p:ExAt x C s.heap) (h:R (.ok (.ret (.ref C))) s):
  codeAny (model prog w) A (.call (.builtin "BaseException.__getattribute__") ⟨[.ref x,.str "__class__" tk],[]⟩) R s:=by
 refine codeAny_call_builtin PySem.F.attr_ValueError.ga.plain PySem.F.entry_bexc_ga ?_
 have L0:=p.type (M:=model prog w)
 have L2:Looks (model prog w) s.heap (isInstance (.ref x) (.type "BaseException")) true:=L0.andThen (looks_mroIn X Z.ba)
 have hk:builtinKind "BaseException.__getattribute__"=some .slot:=by decide +kernel
 have hsp:splitId "BaseException.__getattribute__"=some ("BaseException","__getattribute__"):=by decide +kernel
 have ha:=PySem.F.args_bexc_ga (.ref x) (.str "__class__" tk)
 simp only [checkBuiltinCall,hk,hsp]
 refine wpAny_bind (L2.at ?_)
 rw [if_neg (by decide)]
 repeat (first | exact uW X Z p h | wp_step)
theorem pX {s:Shared} {Q:Option Value->Shared->Prop} (X:K.In s.heap) (Z:ExC K C) (p:ExAt x C s.heap) (h:Q (some (.ref C)) {s with toks:=s.toks+1}):wpAny (model prog w) A (getAttr? (.ref x) "__class__") Q E s:=by
 obtain ⟨hh,g,d,t,os⟩:=s
 have L0:=p.type (M:=model prog w)
 have L1:=looks_findIn (M:=model prog w) X Z.ga
 have L2:Looks (model prog w) hh (typeLookup (.ref C) "__getattr__") none:=looks_findIn X Z.gno
 unfold getAttr? getAttrBy? getAttrBy
 refine wpAny_bind (wpAny_mkText (wpAny_bind (wpAny_attempt (wpAny_holding (wpAny_bind (L0.at (wpAny_bind (L1.at ?_))))))))
 have hn0:(Value.builtin "BaseException.__getattribute__"==Value.builtin "object.__getattribute__")=false:=by decide +kernel
 have hne:(onTheHeap (Value.ref C)&&Value.builtin "BaseException.__getattribute__"==Value.builtin "object.__getattribute__")=false:=by rw [hn0];rfl
 simp only [hne]
 rw [if_neg (by decide)]
 unfold getAttrByItsOwn hookBefore callGetattribute boundAndCalled
 rw [if_pos (show onTheHeap (Value.ref C)=true from rfl)]
 refine wpAny_bind (Looks.at (h:=hh) L2 (wpAny_bind (wpAny_attempt (wpAny_holding ?_))))
 rw [if_neg (by decide),PySem.F.attr_ValueError.ga.bind (.ref x)]
 exact wpAny_bind (wpAny_pure (wpAny_call (yU (s:=⟨hh,g,d,t+1,os⟩) X Z p (wpAny_pure (wpAny_pure h)))))
theorem j6 {M:Model} {h:Heap} (X:K.In h) (e:(clsIn K C).isSome=true):Looks M h (isType (.ref C)) true:=by
 unfold clsIn at e
 split at e
 case h_1 c' d' cd' sl' ho=>
  intro A' Q' E' s' k q
  unfold isType loadHead
  exact wpAny_bind (wpAny_loadPart (k _ _ (X _ _ ho)) (wpAny_pure q))
 case h_2=>cases e
theorem uO (Z:ExC K C):KitX K (.ref x) (.ref C) (ExAt x C) where
 ty:=fun _ _ _ p=>p.type
 it:=fun _ _ X _=>j6 X Z.is
 ne:=fun h tp dd its n sl X htp=>by
  have e:=Z.is
  refine Bool.eq_false_iff.mpr fun q=>?_
  have e2:C=tp:=Value.ref.inj (beq_iff_eq.mp q)
  subst e2
  unfold clsIn at e
  split at e
  case h_1 ho=>cases (X _ _ ho).symm.trans htp
  case h_2=>cases e
 ca:=fun X p k=>pX X Z p k
theorem sD {M:Model} {s:Shared} {CB:Addr} {Q:Bool->Shared->Prop} (X:K.In s.heap) (p:ExAt x C s.heap) (m1:mroIn K C (.ref CB)=some true) (m2:mroIn K CB (.type "BaseException")=some true)
  (ty:typeIn K (.ref CB)=some (.type "type")) (is:(clsIn K CB).isSome=true) (hq:Q true s):wpAny M A (excMatches (.ref x) (.ref CB)) Q E s:=by
 obtain ⟨h,g,d,t,os⟩:=s
 have L0:=p.type (M:=M)
 have L1:Looks M h (isInstance (.ref CB) (.type "tuple")) false:=(looks_typeIn X ty).andThen (Looks.of_pure tc_notTuple)
 have L2:Looks M h (isExcClass (.ref CB)) true:=(j6 X is).andThen (looks_mroIn X m2)
 have L3:=looks_mroIn (M:=M) X m1
 unfold excMatches
 refine wpAny_bind (L1.at ?_)
 simp only [Bool.false_eq_true,if_false]
 refine wpAny_bind (wpAny_pure ?_)
 rw [List.forIn_cons]
 refine wpAny_bind (wpAny_bind (wpAny_bind (L2.at ?_)))
 simp only [Bool.not_true,Bool.false_eq_true,if_false]
 refine wpAny_pure ?_
 show wpAny _ _ (forIn [] _ _) _ _ _
 rw [List.forIn_nil]
 refine wpAny_pure (wpAny_bind (L0.at ?_))
 rw [List.forIn_cons]
 refine wpAny_bind (wpAny_bind (wpAny_bind (L3.at ?_)))
 simp only [if_true]
 exact wpAny_pure (wpAny_pure (wpAny_pure hq))
end
section
variable {X:Cx}
theorem bg:fb X (.builtin "isinstance") (fun xs H Q=> ∃ x C y c b,xs=[.ref x,y]/\H x=some (ExO x C)/\ExC X.K C/\(∀ u,RelV y u->u=c)/\PySem.W.kitOne X.K (.ref C) c=some b/\Q (.bl b) H):=by
 intro pins s σ H xs us Q I r h
 obtain ⟨x,C,y,c,b,rfl,hx,Z,rc,e,q⟩:=h
 obtain ⟨u,w',rfl,ru,rw'⟩:=qg r
 cases (show u=Value.ref x from ru)
 cases rc w' rw'
 have p:ExAt x C s.heap:=(show ObjOk X.prog X.w H s.heap x (ExO x C)from I.hok x _ hx).1
 exact PySem.W.kia_one (uO Z) I.kIn p e (fun z=>nomatch z) fun tk=>⟨.bl b,H,I.tok tk,rfl,q⟩
end
open PySem.W (findIn specialIn takesIn mroIn clsIn typeIn Looks)
structure Fl (P:Program) (w:World) (C:Addr) (stack:List Env) (H:Hp) (h₀:Heap) (x T:Addr) (H':Hp) (h:Heap):Prop where
 un:Un (frs stack) [] H H' h₀ h
 hok:HOk P w H' h
 rc:Rec h x C T
 nx:h₀.get? x=none
 nT:h₀.get? T=none
 fx:H' x=none
 fT:H' T=none
section
variable {P:Program} {w:World} {C:Addr} {stack:List Env} {H H':Hp} {h₀ h h' base:Heap} {x T:Addr}
theorem Fl.left (F:Fl P w C stack H h₀ x T H' h) (fr: ∀ b∈frs stack,H' b=none) (L:LeftF stack x C [T] h h'): ∃ T',Fl P w C stack H h₀ x T' H' h':=by
 obtain ⟨T',rc,hT⟩:=L.rc
 have nx': ∀ b o,h₀.get? b=some o->b≠x:=fun b o e z=>by rw [z,F.nx]at e;cases e
 have nT': ∀ b o,h₀.get? b=some o->b∉[T]:=fun b o e z=>by rw [List.mem_singleton.mp z,F.nT]at e;cases e
 refine ⟨T',⟨fun b o e n hb hx=>?_,fun b o e n hb hx=>?_,F.un.free,fun b o e hx=>?_,F.un.tups,F.un.frzs,F.un.tbls⟩,fun a o e=>?_,rc,F.nx,?_,F.fx,?_⟩
 ·exact L.keep b o (nx' b o e) (nT' b o e) hb (F.un.keep b o e n hb hx)
 ·obtain ⟨sl,e1⟩:=F.un.slot b o e n hb hx
  obtain ⟨sl',e2⟩:=L.slot b _ hb e1
  exact ⟨sl',e2⟩
 ·obtain ⟨o1,e1⟩:=F.un.there b o e hx
  by_cases hb:b∈frs stack
  ·obtain ⟨sl',e2⟩:=L.slot b _ hb e1
   exact ⟨_,e2⟩
  ·exact ⟨o1,L.keep b o1 (nx' b o e) (nT' b o e) hb e1⟩
 ·have tr: ∀ b u,H' b=some u-> ∀ v,h.get? b=some v->h'.get? b=some v:=fun b u e1 v e2=>
   L.keep b v (fun z=>by rw [z,F.fx]at e1;cases e1) (fun z=>by rw [List.mem_singleton.mp z,F.fT]at e1;cases e1) (fun z=>by rw [fr b z]at e1;cases e1) e2
  refine (F.hok a o e).stay (fun b u hb e2=>?_) (fun _ z=>z) fun _ _ z=>z
  rcases hb with z | z
  ·rw [z]at e2 ⊢;exact tr a o e u e2
  ·exact tr b _ z u e2
 ·rcases hT with z | z
  ·rw [List.mem_singleton.mp z];exact F.nT
  ·cases r:h₀.get? T' with
   | none=>rfl
   | some o=>obtain ⟨o1,e1⟩:=F.un.there T' o r (by simp);rw [z]at e1;cases e1
 ·rcases hT with z | z
  ·rw [List.mem_singleton.mp z];exact F.fT
  ·exact F.hok.none_of z
theorem Fl.track (F:Fl P w C stack H h₀ x T H' h):Un (frs stack) [] H (upd H' x (ExO x C)) h₀ h/\HOk P w (upd H' x (ExO x C)) h:=by
 have ne: ∀ b o,h₀.get? b=some o->b≠x:=fun b o e z=>by rw [z,F.nx]at e;cases e
 have nt: ∀ b u,H' b=some u->b≠x:=fun b u e z=>by rw [z,F.fx]at e;cases e
 refine ⟨⟨F.un.keep,F.un.slot,fun b o e n hx=>?_,F.un.there,fun b xs e=>?_,fun b o u e=>?_,fun b ps e=>?_⟩,fun a o e=>?_⟩
 ·rw [ah (ne b o e)];exact F.un.free b o e n hx
 ·rw [ah (nt _ _ (F.un.tups b xs e))];exact F.un.tups b xs e
 ·rw [ah (nt _ _ (F.un.frzs b o u e))];exact F.un.frzs b o u e
 ·obtain ⟨m,e1⟩:=F.un.tbls b ps e
  exact ⟨m,by rw [ah (nt _ _ e1)];exact e1⟩
 ·by_cases z:a=x
  ·subst z
   rw [ac]at e
   cases e
   obtain ⟨oe,vs,oT,ts,he,hc,hd,_,_,_,_,_⟩:=F.rc
   exact ⟨⟨oe,vs,he,hc,hd⟩,⟨oe,he⟩,fun h1 h2 ⟨o1,v1,a1,a2,a3⟩ k=>⟨o1,v1,k o1 a1,a2,a3⟩⟩
  ·rw [ah z]at e
   exact (F.hok a o e).stay (fun b u _ q=>q) (fun b q=>by rw [ah (nt _ _ q)];exact q) fun b xs q=>by rw [ah (nt _ _ q)];exact q
end
theorem Rec.traced {h G:Heap} {x C T:Addr} (r:Rec h x C T) (hG:G.get? T=none): ∃ a0,h.TracedW G x (.ref C) a0:=by
 obtain ⟨oe,vs,oT,ts,he,hc,hd,h1,ne,hT,hdT,h3⟩:=r
 have hsz:1<vs.size:=(Array.getElem?_eq_some_iff.mp h1).1
 exact ⟨vs[0],oe,vs,T,oT,ts,he,⟨hc,by simp [Nat.lt_trans Nat.zero_lt_one hsz]⟩,hd,h1,hG,ne,hT,hdT,h3⟩
section
variable {M:Model} {A:Around} {E:Value->Shared->Prop} {s:Shared} {base:Heap} {env:Env} {outer:List Env} {L x C T:Addr}
theorem rX {Q:Unit->Shared->Prop} (hfr:A.frames=some (env::outer)) (hl:s.heap.FunFrames base (env::outer)) (hf:env.frame=some L) (r:Rec s.heap x C T)
  (k: ∀ h',LeftF (env::outer) x C [T] s.heap h'->Q () {s with heap:=h'}):
  wpAny M A (noteFrame (.ref x) env) (fun _ s₂=>wpAny M A (setFlight (.ref x) none) Q E s₂) E s:=by
 have gone: ∀ b,b∈x::([T]++frs (env::outer))->(PySem.W.hideAll s.heap (x::([T]++frs (env::outer)))).get? b=none:=fun b hb=>PySem.W.hideAll_none _ hb
 obtain ⟨a0,tr⟩:=r.traced (G:=PySem.W.hideAll s.heap (x::([T]++frs (env::outer)))) (gone T (List.mem_cons_of_mem _ (by simp)))
 refine wpAny_noteFrame_onW hfr (da hl fun b hb=>gone b (List.mem_cons_of_mem _ (List.mem_append_right _ hb))) hf tr (fun _ _ e=>PySem.W.of_hideAll _ e) (gone x List.mem_cons_self) fun h2 N2=>?_
 obtain ⟨n1,n2,n3,n4⟩:=N2
 refine wpAny_setFlight_noneW (s:={s with heap:=h2}) n1 n2 n3 fun h3 m1 m2 m3 m4=>k h3 (.of hl ⟨m1,m2,?_,fun b o e nf=>?_⟩)
 ·obtain ⟨oe,vs,T2,oT,ts,he,⟨hc,_⟩,hd,h1,hn,hTe,hT,hdT,h3⟩:=m3
  exact ⟨oe,vs,T2,oT,ts,he,hc,hd,h1,hn,hTe,hT,hdT,h3⟩
 ·obtain ⟨sl,e2⟩:=n4 b o e nf
  exact ⟨sl,m4 b _ e2 nf⟩
theorem tz {Q:Unit->Shared->Prop} (hl:s.heap.FunFrames base (env::outer)) (r:Rec s.heap x C T) (k: ∀ h',LeftF (env::outer) x C [T] s.heap h'->Q () {s with heap:=h'}):
  wpAny M A (setFlight (.ref x) none) Q E s:=by
 have gone: ∀ b,b∈x::([T]++frs (env::outer))->(PySem.W.hideAll s.heap (x::([T]++frs (env::outer)))).get? b=none:=fun b hb=>PySem.W.hideAll_none _ hb
 obtain ⟨a0,tr⟩:=r.traced (G:=PySem.W.hideAll s.heap (x::([T]++frs (env::outer)))) (gone T (List.mem_cons_of_mem _ (by simp)))
 refine wpAny_setFlight_noneW (fun _ _ e=>PySem.W.of_hideAll _ e) (da hl fun b hb=>gone b (List.mem_cons_of_mem _ (List.mem_append_right _ hb))) tr fun h3 m1 m2 m3 m4=>k h3 (.of hl ⟨m1,m2,?_,fun b o e nf=>⟨o.slots,m4 b _ e nf⟩⟩)
 obtain ⟨oe,vs,T2,oT,ts,he,⟨hc,_⟩,hd,h1,hn,hTe,hT,hdT,h3⟩:=m3
 exact ⟨oe,vs,T2,oT,ts,he,hc,hd,h1,hn,hTe,hT,hdT,h3⟩
end
open PySem.W (findIn specialIn takesIn mroIn clsIn typeIn Looks)
noncomputable def Cx.marked (X:Cx) (e:Value):Cx:={X with A:=X.A.mark (some e),calm:=false,xe:=fun _ _=>False}
section
variable {X:Cx} {pins:List (Addr×Obj)} {σ:St} {H:Hp} {s:Shared} {e:Value}
theorem Inv.mark (I:Inv X pins σ H s) (e:Value):Inv (X.marked e) pins σ H s:=
 ⟨⟨I.ok.mod,I.ok.kind,I.ok.glob,I.ok.blt,I.ok.above,I.ok.inj,I.ok.has,I.ok.cab,fun h=>Bool.noConfusion (show false=true from h),I.ok.frames,I.ok.stk,I.ok.exf,I.ok.bs,I.ok.bsz,I.ok.noex,I.ok.exfs,I.ok.funs,I.ok.frf⟩,
  I.os,I.bare,I.base,I.loc,I.cell,I.free,I.freeC,I.pin,I.hok,I.len⟩
theorem Inv.unmark (ok:X.Ok) (I:Inv (X.marked e) pins σ H s):Inv X pins σ H s:=⟨ok,I.os,I.bare,I.base,I.loc,I.cell,I.free,I.freeC,I.pin,I.hok,I.len⟩
theorem qT {M:Model} {A:Around} {E:Value->Shared->Prop} {i:Nat} {n:Str} {pos:Pos} {Q:Unit->Shared->Prop} (I:Inv X pins σ H s) (hN:X.N.Nodup) (hi:X.N[i]? =some n) (hk:X.env.scope.names.lookup n=some .local)
  (h: ∀ s',Inv X pins (σ.set i none) H s'->Q () s'):wpAny M A (do bindName X.env n .none;unbindBehindTheSuite X.env n pos) Q E s:=by
 have hcls:(X.env.scope.kind== .class||(X.env.scope.kind== .module&&X.env.locals !=X.env.globals))=false:=by rw [I.ok.kind];rfl
 have hiσ:i<σ.length:=by rw [I.len];exact (List.getElem?_eq_some_iff.mp hi).1
 refine wpAny_bind (wpAny_bindName (hJ I hN hi (.inl hk) (v:=.non) rfl (fun s1 I1=>?_) (.inr hk)))
 unfold unbindBehindTheSuite
 refine wpAny_onRaise ?_
 obtain ⟨m,hn,hl⟩:=id I1.loc
 obtain ⟨u,_,lk⟩:=hl i n .non hi (by rw [List.getElem?_set_self hiσ]) (.inl hk)
 have hv:m n=some u:=by
  rcases lk with ⟨_,z⟩ | ⟨z,_⟩
  ·exact z
  ·have z:X.env.scope.names.lookup n=some .cell\/X.env.scope.names.lookup n=some .free:=z
   rw [hk]at z
   rcases z with z | z <;> cases z
 refine wpAny_unbindName_local hk hn hv hcls fun h' u' hn' hs=>?_
 have ne: ∀ b o,X.s₀.heap.get? b=some o->b≠X.env.locals:=fun b o e=>Nat.ne_of_lt (Nat.lt_of_lt_of_le (Heap.lt_size e) I.ok.above)
 have cne:=I1.cne
 refine h _ ⟨I.ok,I1.os,I1.bare,⟨fun b o e n hb hx=>(hs.2 b (ne b o e)).trans (I1.base.keep b o e n hb hx),fun b o e n hb hx=>?_,I1.base.free,fun b o e hx=>?_,I1.base.tups,I1.base.frzs,I1.base.tbls⟩,
  ⟨_,hn',fun j y v' e1 e2 e3=>?_⟩,fun y c e=>?_,I1.free,I1.freeC,fun p hp=>?_,fun b o e=>?_,by simpa using I.len⟩
 ·obtain ⟨sl,e1⟩:=I1.base.slot b o e n hb hx
  exact ⟨sl,(hs.2 b (ne b o e)).trans e1⟩
 ·obtain ⟨o',e1⟩:=I1.base.there b o e hx
  exact ⟨o',(hs.2 b (ne b o e)).trans e1⟩
 ·by_cases hj:j=i
  ·subst hj
   rw [List.getElem?_set_self hiσ]at e2
   cases e2
  ·have e4:(σ.set i (some V.non))[j]? =some (some v'):=by
    rw [List.getElem?_set_ne (Ne.symm hj)]at e2 ⊢;exact e2
   obtain ⟨u',r',q⟩:=hl j y v' e1 e4 e3
   refine ⟨u',r',?_⟩
   rcases q with ⟨k,e⟩ | ⟨k,c,e,z⟩
   ·refine .inl ⟨k,?_⟩
    have:y≠n:=fun e=>hj (eW hN e1 (e▸hi))
    simp [this,e]
   ·exact .inr ⟨k,c,e,z.sameBut hs (cne y c e)⟩
 ·obtain ⟨w',z⟩:=I1.cell y c e
  exact ⟨w',z.sameBut hs (cne y c e)⟩
 ·obtain ⟨e,n,ne,nf,d⟩:=I1.pin p hp
  exact ⟨(hs.2 p.1 ne).trans e,n,ne,nf,d⟩
 ·refine (I1.hok b o e).stay (fun c w' hc q=>(hs.2 c ?_).trans q) (fun _ q=>q) fun _ _ q=>q
  rintro rfl
  have fr:=I1.free
  rcases hc with rfl | hc
  ·rw [fr]at e;cases e
  ·rw [fr]at hc;cases hc
end
structure CaC (K:PySem.W.Frag) (C CB:Addr):Prop where
 m1:mroIn K C (.ref CB)=some true
 m2:mroIn K CB (.type "BaseException")=some true
 ty:typeIn K (.ref CB)=some (.type "type")
 is:(clsIn K CB).isSome=true
section
variable {X:Cx}
theorem vY {pins:List (Addr×Obj)} {σ:St} {H H':Hp} {s s1:Shared} {C CB x T:Addr} {D:iB} {cb n:Str} {np hp:Pos} {b₀:Stmt} {suite:List Stmt} {rest:List ExceptHandler} {i:Nat} {ts:TS}
  (I:Inv X pins σ H s) (F:Fl X.prog X.w C X.stack H s.heap x T H' s1.heap) (os:s1.os=s.os) (bare:AllBare s1.gens) (hst:X.stack=X.env::X.outer) (hfr:X.env.frame=some X.env.locals)
  (hN:X.N.Nodup) (hi:X.N[i]? =some n) (hk:X.env.scope.names.lookup n=some .local) (hg:Gl X cb) (hm:X.mg cb=some (.ref CB)) (Z:CaC X.K C CB)
  (hs:PSs (X.marked (.ref x)) (b₀::suite) ts) (q:ts {nx:=fun σ' H3=>D.nx (σ'.set i none) H3,rt:=fun _ _=>False} (σ.set i (some (.ref x))) (upd H' x (ExO x C))) (hd:(cb==("__debug__":Str))=false:=by decide):
  wpAny (model X.prog X.w) X.A (noteFrame (.ref x) X.env) (fun _ s₂=>wpAny (model X.prog X.w) X.A (setFlight (.ref x) none) (fun _ s₃=>
   wpAny (model X.prog X.w) X.A (handleBy (.ref x) X.env (.ExceptHandler (some (.Name cb np)) (some n) (b₀::suite) hp::rest)) (SP X pins D) X.xe s₃) X.xe s₂) X.xe s1:=by
 have fr: ∀ b∈frs X.stack,H' b=none:=fun b hb=>by
  obtain ⟨_,o,e,_⟩:=I.stack.mem hb
  exact F.un.free b o e (I.stkFree b hb) (by simp)
 have nil: ∀ b∈([]:List Addr),(b∈X.ex\/X.s₀.heap.objs.size<=b)/\b≠X.env.locals/\(∀ x c,X.env.cells.lookup x=some c->c≠b)/\ ∀ p∈X.pn++pins,p.1≠b:=fun b z=>absurd z (by simp)
 have J1:Inv X pins σ H' s1:=I.call' (ch:=[]) os F.un F.hok bare nil
 have hff:=J1.ok.frames
 have hfs:=J1.stack
 rw [hst]at hff hfs
 refine rX (base:=X.base) hff hfs hfr F.rc fun h3 L3=>?_
 rw [<- hst]at L3
 obtain ⟨T3,F3⟩:=F.left fr L3
 have J3:Inv X pins σ H' {s1 with heap:=h3}:=I.call' (ch:=[]) os F3.un F3.hok bare nil
 have p3:ExAt x C h3:=by obtain ⟨oe,vs,oT,ts,he,hc,hd,_,_,_,_,_⟩:=F3.rc;exact ⟨oe,vs,he,hc,hd⟩
 refine wpAny_handleBy_cons (codeAny_handlers_test (im (X:=X.marked (.ref x)) (J3.mark (.ref x)) hg hm ?_ hd)) (by intro q;cases q)
 refine sD J3.kIn p3 Z.m1 Z.m2 Z.ty Z.is (codeAny_handlers_suite_as ?_)
 have hfs3:=J3.stack
 rw [hst]at hfs3
 refine tz (base:=X.base) hfs3 F3.rc fun h4 L4=>?_
 rw [<- hst]at L4
 obtain ⟨T4,F4⟩:=F3.left fr L4
 obtain ⟨un4,hok4⟩:=F4.track
 have J4:Inv X pins σ (upd H' x (ExO x C)) {s1 with heap:=h4}:=I.call' (ch:=[]) os un4 hok4 bare nil
 refine hJ (v:=.ref x) J4 hN hi (.inl hk) rfl (fun s5 J5=>?_) (.inr hk)
 refine wpAny_mono (hs pins s5 _ _ _ (J5.mark (.ref x)) q) (fun f s6 z=>?_) fun _ _ z=>False.elim z
 cases f with
 | next=>
  obtain ⟨σ6,H6,I6,q6⟩:=z
  exact qT (I6.unmark J5.ok) hN hi hk fun s7 I7=>⟨_,_,I7,q6⟩
 | ret v=>obtain ⟨_,_,_,_,_,z⟩:=z;exact False.elim z
 | brk=>obtain ⟨_,_,_,z⟩:=z;exact False.elim z
 | cont=>obtain ⟨_,_,_,z⟩:=z;exact False.elim z
end
end L2
namespace HT
open PySem PyProof.Rows
open PySem.AutoSeq1 (wpAny_loadPart')
section
variable {prog:Program} {w:World} {A:Around} {s:Shared} {E:Value->Shared->Prop}
noncomputable def eO (it:Addr):Obj:={cls:=.type "enumerate",data:=.fields #[.none,.bool false,.ref it,rawInt 0,.none,.none]}
theorem sE (l:Addr) (o:Obj) (items:Array Value):Meets (Builtin.«enumerate.__new__» ⟨[.type "enumerate",.ref l],[]⟩)
  (fun _ R s=>s.heap.get? l=some o/\s.heap.IsTuple l items/\R (.ok (.ret (.ref (s.heap.push (tIt l)).objs.size))) {s with heap:=(s.heap.push (tIt l)).push (eO s.heap.objs.size)}):=
 .of_wp fun prog w A R s h=>by
  obtain ⟨hp,g,d,tk,os⟩:=s
  obtain ⟨hl,a1,h⟩:=h
  have hsub:=sub_enumerate
  have b1:Heap.IsTuple (Shared.heap ⟨hp,g,d,tk,os⟩) l items:=a1
  wp_walk using wpAny_loadPart' hl
  refine wpAny_stack_any fun st=>wpAny_pure ?_
  split
  ·rename_i c _ _ _ _ _
   cases (c==Value.type "enumerate") <;> (wp_walk using wpAny_loadPart' hl,wpAny_pyIter_tuple b1;exact ⟨_,rfl,h⟩)
  ·wp_walk using wpAny_loadPart' hl,wpAny_pyIter_tuple b1
   exact ⟨_,rfl,h⟩
theorem call_enumT {l:Addr} {items:Array Value} {Q:Value->Shared->Prop} (a1:s.heap.IsTuple l items)
  (q: ∀ h',IsEnum h' (s.heap.objs.size+1) s.heap.objs.size 0 .none->h'.IsTupleIter s.heap.objs.size l 0->(∀ b o,s.heap.get? b=some o->h'.get? b=some o)->Q (.ref (s.heap.objs.size+1)) {s with heap:=h'}):
  wpAny (model prog w) A (call (.type "enumerate") [.ref l]) Q E s:=by
 obtain ⟨o,ho,_⟩:=id a1
 refine callType_new PySem.F.called_enumerate (by decide) (PySem.F.typeCall_enumerate_1 _) (PySem.F.newCall_enumerate_1 _) (fun obj=>PySem.F.args_object_init_2 obj _) PySem.F.entry_enumerate_new (sE l o items) ⟨ho,a1,?_⟩
 have z1:(s.heap.push (tIt l)).objs.size=s.heap.objs.size+1:=Heap.size_push ..
 have g2:((s.heap.push (tIt l)).push (eO s.heap.objs.size)).get? (s.heap.push (tIt l)).objs.size=some (eO s.heap.objs.size):=Heap.get?_push_size _ rfl
 have g1:((s.heap.push (tIt l)).push (eO s.heap.objs.size)).get? s.heap.objs.size=some (tIt l):=Heap.get?_push_of_some _ (Heap.get?_push_size _ rfl)
 show _/\_
 rw [z1]at g2 ⊢
 exact ⟨⟨_,g2,rfl⟩,q _ g2 ⟨_,g1,rfl,rfl⟩ fun b o x=>Heap.get?_push_of_some _ (Heap.get?_push_of_some _ x)⟩
end
end HT
namespace L2
open PySem PySem.Spec PyProof.Rows
noncomputable def Ite (l:Addr):It:=
 ⟨fun i H=> ∃ xs x,H l=some (.tup xs)/\xs[i]? =some x,
  fun i H v H'=> ∃ T x,H T=none/\v=.ref T/\H'=upd H T (.tup [.int (i:Int),x])/\ ∀ xs,H l=some (.tup xs)->xs[i]? =some x,
  fun i H=> ∃ xs,H l=some (.tup xs)/\xs.length=i⟩
noncomputable def zO (e it l:Addr) (i:Nat) (h:Heap):Prop:=(∃ old,IsEnum h e it (i:Int) old)/\HT.SIter true h it l i
theorem fp2 {e it b:Addr} (h:b∈[e,it]):b=e\/b=it:=by simpa using h
theorem qX {P:Program} {w:World} {K:PySem.W.Frag} {es:List Expr} {kk:Nat} {tpos:Pos} (e it l:Addr) (nd:e≠it):qd P w K (.Tuple es kk tpos) (Ite l) [e,it] e (zO e it l):=by
 have ap: ∀ {X:Cx} {pins:List (Addr×Obj)} {H:Hp} {xs:List V},(∀ b∈[e,it],ko X pins H b)->H l=some (.tup xs)->e≠l/\l≠it:=by
  intro X pins H xs hf h1
  have a: ∀ b∈[e,it],b≠l:=fun b hb=>(ai h1 (hf b hb).1).symm
  exact ⟨a e (by simp),Ne.symm (a it (by simp))⟩
 refine ⟨by simp,fun i h st b hb=>?_,fun i h h' st k=>?_,?_,?_,fun _ _ _ _ _ st h=>wpAny_pyIter_enum st.1.choose_spec h⟩
 ·obtain ⟨⟨old,h1⟩,h2⟩:=st
  rcases fp2 hb with rfl | rfl
  ·exact ⟨_,h1,fun v e=>nomatch e⟩
  ·exact h2.obj
 ·obtain ⟨⟨old,h1⟩,h2⟩:=st
  exact ⟨⟨old,k e (by simp) _ h1⟩,h2.at fun o z=>k it (by simp) o z⟩
 ·intro X hP hw hK hc i pins s σ H E I hf st hg
  subst hP hw hK
  obtain ⟨xs,x,hx,ex⟩:=hg
  obtain ⟨its,r1,q1,_⟩:=I.seqS (c:=true) hx
  obtain ⟨u,hu,ru⟩:=r1.get ex
  obtain ⟨⟨old,z0⟩,s1⟩:=st
  obtain ⟨a1,a2⟩:=ap hf hx
  refine wpAny_pyNext_enum_itemD (HT.draws_seq (A:=X.A.in1) true (I.ok.hd hc) it l a2 its.toArray) z0 ⟨s1,q1⟩ (by rw [List.size_toArray];exact (List.getElem?_eq_some_iff.mp hu).1) nd
   (by simp only [List.mem_cons,List.not_mem_nil,or_false,not_or];exact ⟨nd,a1⟩) fun x' h' tk px z1 t1 pr _ kk=>?_
  have ex':x'=u:=by
   have p1:its[i]? =some x':=by simpa using px
   rw [hu]at p1;exact (Option.some.inj p1).symm
  subst ex'
  refine ⟨_,rfl,wpAny_letOwnedTupleGo_enum z1 fun h'' z2 sb=>?_⟩
  have lt: ∀ {b:Addr} {ob:Obj},s.heap.get? b=some ob->b≠s.heap.objs.size:=fun e=>Nat.ne_of_lt (Heap.lt_size e)
  have fT:H s.heap.objs.size=none:=I.hok.fresh (Nat.le_refl _)
  have keep: ∀ b ob,b∉[e,it]->s.heap.get? b=some ob->h''.get? b=some ob:=fun b ob hb z=>by
   simp only [List.mem_cons,List.not_mem_nil,or_false,not_or]at hb
   exact sb.extBut b ob hb.1 (kk b ob hb.1 hb.2 z)
  have trk: ∀ b uo,H b=some uo->b∉[e,it]:=fun b uo z hb=>by rw [(hf b hb).1]at z;cases z
  have ptT:=sb.extBut _ _ (Ne.symm (lt z0)) pr
  have I2:Inv X pins σ (upd H s.heap.objs.size (.tup [.int (i:Int),x])) {s with heap:=h'',toks:=tk+1}:=by
   refine I.step (g':=s.gens) (d':=s.drawn) (ch:=[e,it]) (fun b hb=>?_) (fun b ob _ _ hb z _=>keep b ob hb z) (fun b ob _ _ hb z _=>⟨ob.slots,keep b ob hb z⟩) (fun b ob hb z n=>by rw [ah (lt z)];exact n)
    (fun b ob hb z=>⟨ob,keep b ob hb z⟩) (fun b zs z=>by rw [ah (ai z fT)];exact z) (fun b ob uo z=>by rw [ah (ai z fT)];exact z) (fun b ps z=>⟨#[],by rw [ah (ai z fT),z];simp⟩) (fun m hm=>?_) (fun b uo z=>?_) I.bare
   ·obtain ⟨_,f1,_,f3,f4,f5⟩:=hf b hb
    exact ⟨f3,f1,f4,f5⟩
   ·obtain ⟨ob,es',ep,ho,r⟩:=hm
    exact ⟨ob,es',ep,keep _ ob (fun hb=>(hf _ hb).2.1 rfl) ho,r⟩
   ·by_cases hb:b=s.heap.objs.size
    ·subst hb
     rw [ac]at z
     cases z
     exact ⟨by show 2<=sizeLine;decide,[.int (i:Int) tk,x'],.cons ⟨tk,rfl⟩ (.cons ru .nil),_,ptT,rfl,_,rfl⟩
    ·rw [ah hb]at z
     refine (I.hok b uo z).stay (fun c' v' hc' q=>keep c' v' ?_ q) (fun c' q=>by rw [ah (ai q fT)];exact q) fun c' zs q=>by rw [ah (ai q fT)];exact q
     rcases hc' with h | h
     ·rw [h];exact trk b uo z
     ·exact trk c' _ h
  refine ⟨.ref s.heap.objs.size,_,I2,rfl,⟨_,x,fT,rfl,rfl,fun xs' h1=>?_⟩,⟨⟨_,by rw [Int.natCast_add];exact z2⟩,t1.1.at fun o z=>sb.extBut _ o (Ne.symm nd) z⟩,fun b hb=>?_⟩
  ·rw [hx]at h1
   cases h1
   exact ex
  ·have hb': ∃ ob,s.heap.get? b=some ob:=by
    rcases fp2 hb with rfl | rfl
    ·exact ⟨_,z0⟩
    ·obtain ⟨ob,z,_⟩:=s1.obj;exact ⟨ob,z⟩
   obtain ⟨ob,z⟩:=hb'
   rw [ah (lt z)]
   exact (hf b hb).1
 ·intro X hP hw hK hc i pins s σ H E I hf st hg
  subst hP hw hK
  obtain ⟨xs,hx,l'⟩:=hg
  obtain ⟨its,r1,q1,_⟩:=I.seqS (c:=true) hx
  obtain ⟨⟨old,z0⟩,s1⟩:=st
  obtain ⟨a1,a2⟩:=ap hf hx
  have hi:i=its.toArray.size:=by rw [List.size_toArray,<- l'];exact r1.length
  rw [hi]at s1
  refine wpAny_pyNext_enum_endD (HT.draws_seq (A:=X.A.in1) true (I.ok.hd hc) it l a2 its.toArray) z0 ⟨s1,q1⟩ fun h' eb=>⟨rfl,?_⟩
  exact I.turned (t':=s.toks) (it:=it) (fun b ob hb z=>eb b ob hb z) (hf it (by simp)).1 (hf it (by simp)).2.1 (hf it (by simp)).2.2.2.1 (hf it (by simp)).2.2.2.2.1 (hf it (by simp)).2.2.2.2.2
noncomputable def yP (ta:TA):TI:=fun σ H R=>ta σ H fun vs H1=> ∃ l xs,vs=[.ref l]/\H1 l=some (.tup xs)/\R (Ite l) H1
theorem vF {X:Cx} {es:List Expr} {kk:Nat} {tpos:Pos} {a:Expr} {ta:TA} {p pos:Pos} (hg:Gl X "enumerate") (hm:X.mg "enumerate"=none) (ha:PA X [a] ta) (hs:starEach [a] X.env=[(false,eval a X.env)]:=by rfl):
  PI X (.Tuple es kk tpos) (.Call (.Name "enumerate" p) [a] [] pos) (yP ta):=by
 intro pins s σ H R I h
 refine Call_ (jR I hg hm (show bootBuiltins "enumerate"=some (.type "enumerate") by decide +kernel) (PyProof.Rows.callWith_type1 (thn (ha pos pins s σ H _ I h) fun us s1 ⟨vs,H1,I1,r1,q1⟩=>?_) (by rw [hs];rfl) rfl))
 obtain ⟨l,xs,rfl,hx,q⟩:=q1
 obtain ⟨u,rfl,ru⟩:=iZ r1
 cases (show u=Value.ref l from ru)
 obtain ⟨its,_,e1,_⟩:=I1.seqS (c:=true) hx
 refine HT.call_enumT e1 fun h' a1 a2 kp=>?_
 have I2:Inv X pins σ H1 {s1 with heap:=h'}:=I1.kept (t':=s1.toks) kp
 refine wpAny_pyIter_enum a1 ?_
 refine ⟨s1.heap.objs.size+1,[s1.heap.objs.size+1,s1.heap.objs.size],_,_,H1,rfl,I2,qX _ _ l (Nat.succ_ne_self _),⟨⟨_,a1⟩,a2⟩,fun b hb=>?_,q⟩
 have hb':s1.heap.objs.size<=b:=by rcases fp2 hb with rfl | rfl <;> lia
 exact I1.fpOk hb' (I1.hok.fresh hb')
section
variable {X:Cx} {x x2:Str} {px px2 tpos pos fpos:Pos} {kk:Nat} {iter elt:Expr} {scope sc0:Scope} {N0 ys:List Str} {fr:List Nat} {wi:TI} {te:TE}
theorem tU {i:Nat} {y:Str} {py spos:Pos} (hcalm:X.calm=true) (hnd:X.N.Nodup) (hiN:X.N[i]? =some y) (hy:Loc X.env.scope y) (hi:PI X (.Tuple [.Name x px,.Name x2 px2] kk tpos) iter wi) (hsc:X.env.scope=sc0) (hN:X.N=N0) (ok:qQ sc0 N0 scope x x2 ys fr)
  (hE: ∀ C s H ex,PE (df X x x2 ys scope C s H ex) elt te) (hsw:swapsWith (.ListComp elt [⟨.Tuple [.Name x px,.Name x2 px2] kk tpos,iter,[],0⟩] scope pos) (some (.Name y py)) spos.line X.env=pure true:=by rfl)
  (hs: ∀ v,foldedSetIterable iter X.env v=pure v:=by intro _;rfl) (hf:X.fn y=true\/X.env.scope.names.lookup y=some .local:=by first | exact .inl rfl | exact .inr rfl | assumption):
  PS X (.Assign [.Name y py] (.ListComp elt [⟨.Tuple [.Name x px,.Name x2 px2] kk tpos,iter,[],0⟩] scope pos) spos) (oX (sQ wi fr te) (fY i)):=by
 intro pins s σ H D I h
 rw [exec_Assign_Name_used _ _ _ _ hsw]
 refine wpAny_bind (wpAny_standAt (wpAny_bind ?_))
 show wpAny _ X.A (do let _ <- comprehension (.ListComp elt [⟨.Tuple [.Name x px,.Name x2 px2] kk tpos,iter,[],0⟩] scope pos) scope X.env _ (newList []) false (eval iter X.env) (some (assign (.Name y py) X.env))) _ _ s
 refine wpAny_bind (thn (p9 (use:=some (assign (.Name y py) X.env)) (Qv:=fun _ s'=>SP X pins D .next s') (Q:=fun v H'=>D.nx (σ.set i (some v)) H') hcalm hi hsc hN ok hE I h hs fun p C H' s' m I' hn h0 h1 h2 h3 h4 q=>?_) fun _ s' hq=>wpAny_pure (wpAny_pure hq))
 show wpAny _ X.A (assign (.Name y py) X.env (.ref p)) _ _ s'
 refine wpAny_assign_Name (ge (v:=.ref p) I' hnd hiN hy rfl (fun s'' I'' ⟨a,sb,ha⟩=>?_) hf)
 have hCa:C≠a:=by
  rcases ha with e | e
  ·rw [e];exact h1
  ·exact (h3 y a e).symm
 refine ⟨m,hn.sameBut sb hCa,fun h' sb'=>⟨_,H',I''.turned (t':=s''.toks) (fun b o hb e=>sb'.extBut b o hb e) h0 h1 (.inr h2) h3 h4,q⟩⟩
inductive jJ (K:PySem.W.Frag) (x:V) (y:V) (H:Hp) (Q:VK):Prop
 | mk: ∀ a b xs ys,(x=.ref a)->(y=.ref b)->(SqT K H a xs)->(SqT K H b ys)->(xs.length+ys.length<=sizeLine)->((xs=[]->Q (.ref b) H))->((xs≠[]->ys=[]->Q (.ref a) H))->((xs≠[]->ys≠[]-> ∀ p,H p=none->Q (.ref p) (upd H p (.tup (xs++ys)))))->jJ K x y H Q
theorem cv:OpR X (binaryOp .Add) (jJ X.K):=by
 intro pins s σ H x y v u Q I rx ry h
 obtain ⟨a,b,xs,ys,e1,e2,h1,h2,h3,q1,q2,q3⟩:=h
 exact uf pins s σ H x y v u Q I rx ry ⟨a,b,xs,ys,e1,e2,h1,h2,h3,q1,q2,q3⟩
end
theorem eE {G:V->V->Prop} {R:Value->Value->Prop} (hG: ∀ v u x y,G v u->RelV v x->RelV u y->R x y): ∀ {xs ys:List V} {us ws:List Value},Paired G xs ys->Vals xs us->Vals ys ws->
  us.length=ws.length/\ ∀ j (h1:j<us.length) (h2:j<ws.length),R us[j] ws[j]
 | _,_,_,_,.nil,.nil,.nil=>⟨rfl,fun j h _=>absurd h (Nat.not_lt_zero _)⟩
 | _,_,_,_,.cons g p,.cons r1 r,.cons s1 s=>by
  obtain ⟨l,h⟩:=eE hG p r s
  refine ⟨by simp [l],fun j h1 h2=>?_⟩
  cases j with
  | zero=>exact hG _ _ _ _ g r1 s1
  | succ j=>exact h j (Nat.lt_of_succ_lt_succ h1) (Nat.lt_of_succ_lt_succ h2)
end L2
namespace HT
open PySem PyProof.Rows
section
variable {prog:Program} {w:World} {A:Around} {s:Shared} {E:Value->Shared->Prop} {d j:Addr} {ks:List Value} {i ep:Nat}
noncomputable def VEs (h:Heap) (d:Addr) (ks:List Value) (ep:Nat):Prop:= ∃ o es,h.get? d=some o/\o.ExactDict/\o.data=.dict es ep/\es.toList.map (·.val)=ks
theorem VEs.type (m:VEs s.heap d ks ep):s.TypeIs (.ref d) "dict":=by
 obtain ⟨o,_,ho,hc,_⟩:=m
 exact ⟨o,ho,hc.1⟩
theorem VEs.keeps {h h':Heap} (m:VEs h d ks ep) (k: ∀ o,h.get? d=some o->h'.get? d=some o):VEs h' d ks ep:=by
 obtain ⟨o,es,ho,r⟩:=m
 exact ⟨o,es,k o ho,r⟩
theorem iM {es:Array DictEntry} (e:es.toList.map (·.val)=ks):es.size=ks.length:=by
 rw [<- e,List.length_map,Array.length_toList]
theorem iter_ves {r:Addr} {Q:Value->Shared->Prop} (hv:s.heap.IsValuesView r d) (m:VEs s.heap d ks ep)
  (q:Q (.ref s.heap.objs.size) {s with heap:=s.heap.push {cls:=.type "dict_valueiterator",data:=.fields #[.ref d,.int 0 0,.int ks.length 0,.int ep 0]}}):wpAny (model prog w) A (pyIter (.ref r)) Q E s:=by
 obtain ⟨ov,hov,hcv,hdv⟩:=(show ∃ o,s.heap.get? r=some o/\o.cls=.type "dict_values"/\o.data=.fields #[.ref d]from hv)
 obtain ⟨o,es,ho,hc,hdat,hk⟩:=m
 refine wpAny_pyIter_slot hv.typeIs PySem.F.slot_dict_values_iter (wpAny_call_entry PySem.F.slot_dict_values_iter hv.typeIs PySem.F.entry_dict_values_iter ?_ (PySem.F.args_dict_values_iter_1 _))
 unfold Builtin.«dict_values.__iter__» Builtin.Dict_items.dictOf Builtin.Dict_items.newIterator
 refine wpAny_bind (wpAny_pure (wpAny_bind (wpAny_bind (wpAny_field hov hdv (x:=.ref d) rfl (wpAny_pure (wpAny_bind (wpAny_bind (wpAny_dictEntries ho hdat (wpAny_bind (wpAny_dictEpoch ho hdat ?_))))))))))
 have own:Builtin.Dict_items.ownsTuple "dict_valueiterator"=false:=by decide
 simp only [own,Bool.false_eq_true,if_false]
 refine wpAny_newObj_type (wpAny_pure ⟨_,rfl,"dict_valueiterator",_,⟨_,Heap.get?_push_size _ rfl,rfl⟩,PySem.F.slot_dict_valueiterator_next.lookup,?_⟩)
 simpa [rawInt,iM hk]using q
theorem call_ves {Q:Value->Shared->Prop} (lo:(d==sysModules)=false) (m:VEs s.heap d ks ep)
  (q:Q (.ref s.heap.objs.size) {s with heap:=s.heap.push {cls:=.type "dict_values",data:=.fields #[.ref d]}}):wpAny (model prog w) A (call (.builtin "dict.values") [.ref d]) Q E s:=by
 have ty:=m.type
 refine wpAny_call_entry PySem.F.slot_dict_values ty PySem.F.entry_dict_values ?_ (PySem.F.args_dict_values_1 _)
 refine wpAny_bind ?_
 unfold Builtin.Dict.noArgs
 refine wpAny_bind (wpAny_notOrdered_dict ty ?_)
 refine (show wpAny _ _ (pure d) _ _ s from wpAny_pure (show wpAny _ _ (Builtin.Dict.showsAll d >>= _) _ _ s from ?_))
 unfold Builtin.Dict.showsAll
 rw [if_neg (by rw [lo];exact Bool.false_ne_true)]
 exact wpAny_bind (wpAny_pure (wpAny_bind (wpAny_newObj_type (wpAny_pure ⟨_,rfl,q⟩))))
theorem next_ves {x:Value} {Q:Option Value->Shared->Prop} (st:s.heap.IsValIter j d i ks.length ep) (m:VEs s.heap d ks ep) (hx:ks[i]? =some x)
  (q: ∀ h',h'.IsValIter j d (i+1) ks.length ep->Heap.SameBut j s.heap h'->Q (some x) {s with heap:=h'}):wpAny (model prog w) A (pyNext (.ref j)) Q E s:=by
 have ty:=st.typeIs
 obtain ⟨o,ho,hc,hd⟩:=id st
 obtain ⟨od,es,hod,hcd,hdd,hk⟩:=m
 have hz:=iM hk
 have hlt:i<ks.length:=(List.getElem?_eq_some_iff.mp hx).1
 have hes:i<es.size:=by lia
 have hkey:es[i].val=x:=by
  have e1:(es.toList.map (·.val))[i]? =some x:=by rw [hk];exact hx
  rw [List.getElem?_map,Array.getElem?_toList,Array.getElem?_eq_getElem hes]at e1
  exact Option.some.inj e1
 unfold pyNext
 refine wpAny_bind (wpAny_attempt (wpAny_callSpecial?_slot (name:=Str.ofString "__next__") ty PySem.F.slot_dict_valueiterator_next (wpAny_call_entry PySem.F.slot_dict_valueiterator_next ty PySem.F.entry_dict_valueiterator_next ?_ (PySem.F.args_dict_valueiterator_next_1 _))))
 refine wpAny_bind (wpAny_pure (wpAny_bind (wpAny_bind ?_)))
 first | refine wpAny_bind (wpAny_typeNameOfWhole_valiter ty (wpAny_pure (wpAny_bind (wpAny_fieldsOf ho hd ?_)))) | refine wpAny_bind (wpAny_typeNameOf_valiter ty (wpAny_pure (wpAny_bind (wpAny_fieldsOf ho hd ?_))))
 have own:Builtin.Dict_items.ownsTuple "dict_valueiterator"=false:=by decide
 simp only [own,Bool.false_eq_true,if_false]
 refine (show wpAny _ _ (if (Value.ref d==Value.none)=true then _ else _) _ _ s from ?_)
 rw [if_neg fun b0:(Value.ref d==Value.none)=true=>Bool.false_ne_true b0]
 refine wpAny_bind (wpAny_pure (wpAny_bind (wpAny_dictEntries hod hdd ?_)))
 rw [if_neg (by rw [hz];simp)]
 refine wpAny_bind (wpAny_pure (wpAny_bind (wpAny_dictEpoch hod hdd ?_)))
 rw [if_neg (by simp)]
 refine wpAny_pure ?_
 simp only [show ¬ ((i:Int) <0)from by lia,if_false,Int.toNat_natCast,Array.getElem?_eq_getElem hes]
 refine wpAny_bind ?_
 first | refine wpAny_bind (wpAny_typeNameOfWhole_valiter ty (wpAny_pure (wpAny_bind (wpAny_isOneOf_valiter ty ?_)))) | refine wpAny_bind (wpAny_typeNameOf_valiter ty (wpAny_pure (wpAny_bind (wpAny_isOneOf_valiter ty ?_))))
 refine (show wpAny _ _ (setField (.ref j) 1 (rawInt ((i:Int) +1)) >>= _) _ _ s from ?_)
 refine wpAny_bind (wpAny_setField ho hd (by simp) ?_)
 have st':(s.heap.update j (Obj.mapFields (·.setIfInBounds 1 (rawInt ((i:Int) +1))))).IsValIter j d (i+1) ks.length ep:=by
  refine ⟨_,Heap.get?_update_self _ ho (Obj.isFreed_of_fields (Obj.data_mapFields hd _)),(Obj.cls_mapFields ..).trans hc,?_⟩
  rw [Obj.data_mapFields hd];simp [rawInt]
 refine wpAny_bind (wpAny_holding (wpAny_bind (wpAny_isOneOf_valiter (s:={s with heap:=s.heap.update j (Obj.mapFields (·.setIfInBounds 1 (rawInt ((i:Int) +1))))}) st'.typeIs (wpAny_bind (wpAny_isOneOf_valiter (s:={s with heap:=s.heap.update j (Obj.mapFields (·.setIfInBounds 1 (rawInt ((i:Int) +1))))}) st'.typeIs ?_)))))
 refine (show wpAny _ _ (pure es[i].val) _ _ _ from ?_)
 rw [hkey]
 exact wpAny_pure (wpAny_pure ⟨_,rfl,wpAny_pure (q _ st' (Heap.SameBut.update ..))⟩)
theorem end_ves {Q:Option Value->Shared->Prop} (hh:A.handled=none) (st:s.heap.IsValIter j d i ks.length ep) (m:VEs s.heap d ks ep) (hx:ks.length<=i)
  (q: ∀ h',Heap.ExtBut j s.heap h'->Q none {s with heap:=h'}):wpAny (model prog w) A (pyNext (.ref j)) Q E s:=by
 have ty:=st.typeIs
 obtain ⟨o,ho,hc,hd⟩:=id st
 obtain ⟨od,es,hod,hcd,hdd,hk⟩:=m
 have hz:=iM hk
 unfold pyNext
 refine wpAny_bind (wpAny_attempt (wpAny_callSpecial?_slot (name:=Str.ofString "__next__") ty PySem.F.slot_dict_valueiterator_next (wpAny_call_entry PySem.F.slot_dict_valueiterator_next ty PySem.F.entry_dict_valueiterator_next ?_ (PySem.F.args_dict_valueiterator_next_1 _))))
 refine wpAny_bind (wpAny_pure (wpAny_bind (wpAny_bind ?_)))
 first | refine wpAny_bind (wpAny_typeNameOfWhole_valiter ty (wpAny_pure (wpAny_bind (wpAny_fieldsOf ho hd ?_)))) | refine wpAny_bind (wpAny_typeNameOf_valiter ty (wpAny_pure (wpAny_bind (wpAny_fieldsOf ho hd ?_))))
 have own:Builtin.Dict_items.ownsTuple "dict_valueiterator"=false:=by decide
 simp only [own,Bool.false_eq_true,if_false]
 refine (show wpAny _ _ (if (Value.ref d==Value.none)=true then _ else _) _ _ s from ?_)
 rw [if_neg fun b0:(Value.ref d==Value.none)=true=>Bool.false_ne_true b0]
 refine wpAny_bind (wpAny_pure (wpAny_bind (wpAny_dictEntries hod hdd ?_)))
 rw [if_neg (by rw [hz];simp)]
 refine wpAny_bind (wpAny_pure (wpAny_bind (wpAny_dictEpoch hod hdd ?_)))
 rw [if_neg (by simp)]
 refine wpAny_pure ?_
 have hge:es.size<=i:=by lia
 simp only [show ¬ ((i:Int) <0)from by lia,if_false,Int.toNat_natCast,Array.getElem?_eq_none hge]
 refine wpAny_bind ?_
 first | refine wpAny_bind (wpAny_typeNameOfWhole_valiter ty (wpAny_pure ?_)) | refine wpAny_bind (wpAny_typeNameOf_valiter ty (wpAny_pure ?_))
 refine (show wpAny _ _ (setField (.ref j) 0 .none >>= _) _ _ s from wpAny_bind (wpAny_setField ho hd (by simp) ?_))
 refine (show wpAny _ _ (newExc (.type "StopIteration") [] >>= _) _ _ _ from wpAny_bind ?_)
 simp only [newExc,newTuple]
 refine wpAny_bind (wpAny_newObj_type (wpAny_bind (m:=firstArgMember _ _) (wpAny_of_eq (a:=Value.none) (by first | rfl | (simp only [firstArgMember];rfl)) (wpAny_newObj_type ?_ (by size_fits)))) (by size_fits))
 simp only [raiseNew]
 refine wpAny_bind (wpAny_handled ?_)
 rw [show A.in1.handled=none from hh]
 refine (wpAny_bind (wpAny_pure (wpAny_throw (?_))))
 refine wpAny_bind (wpAny_isInstance (T:="StopIteration") (b:=true) ⟨_,Heap.get?_push_size _ rfl,rfl⟩ isSubtype_stop (wpAny_pure (q _ ?_)))
 exact ((Heap.SameBut.update ..).extBut.push _).push _
end
section
variable {prog:Program} {w:World} {A:Around} {s:Shared} {E:Value->Shared->Prop}
theorem getItem_tuple_all {t sl:Addr} {items:Array Value} {vl vu:Value} {lo hi:Option Int} {Q:Value->Shared->Prop} (ht:IsTup s.heap t items) (hs:s.heap.IsSliceOf sl vl vu .none) (pl:IsPart vl lo) (pu:IsPart vu hi)
  (i1:sIx items.size 0 lo=0) (i2:sIx items.size items.size hi=items.size) (h:Q (.ref t) s):wpAny (model prog w) A (getItem (.ref t) (.ref sl)) Q E s:=by
 obtain ⟨os,hos,hcs,hds⟩:=id hs
 have hTs:s.TypeIs (.ref sl) "slice":=⟨os,hos,hcs⟩
 unfold getItem
 try with_reducible refine wpAny_holding ?_
 first | refine wpAny_bind (wpAny_pure ?_) | skip
 refine wpAny_bind (wpAny_sequenceKey ht.typeIs (by decide) (wpAny_bind (wpAny_callSpecial?_slot (name:=Str.ofString "__getitem__") ht.typeIs PyProof.Rows.slot_tuple_getitem
  (wpAny_call_entry PyProof.Rows.slot_tuple_getitem ht.typeIs entry_tuple_getitem ?_ (args_tuple_getitem _ _)))))
 refine (show wpAny _ _ (Builtin.Tuple.tupleItemsOf (.ref t) >>= _) _ _ s from wpAny_bind (tupleItemsOf_ ht (wpAny_bind (wpAny_typeOf hTs ?_))))
 rw [if_pos (by decide)]
 refine wpAny_bind (eR hs pl pu ?_)
 rw [i1,i2]
 refine (show wpAny _ _ (if (((0:Nat):Int)==0&&(1:Int)==1&&(items.size-0)==items.size)=true then _ else _) _ _ s from ?_)
 rw [if_pos (by simp)]
 refine wpAny_bind (m:=Builtin.Tuple.tupleIsExact _) ?_
 unfold Builtin.Tuple.tupleIsExact
 refine wpAny_bind (wpAny_typeOf ht.typeIs (wpAny_pure ?_))
 rw [if_pos (by decide)]
 exact wpAny_bind (wpAny_rule (wpAny_pure ⟨_,rfl,wpAny_pure h⟩))
end
end HT
namespace L2
open PySem PySem.Spec PyProof.Rows
section
variable {X:Cx}
inductive yx  (x:V) (lo:Option Int) (hi:Option Int) (H:Hp) (Q:VK):Prop
 | mk: ∀ a xs,(x=.ref a)->(H a=some (.tup xs))->(∀ p H',(∀ b o,H b=some o->H' b=some o)->H' p=some (.tup (cV xs lo hi))->Q (.ref p) H')->yx x lo hi H Q
theorem l8:SlR X yx:=by
 intro pins s σ H x v vl vu lo hi sl Q I rx hs pl pu h
 obtain ⟨a,xs,ex,hx,q⟩:=h
 by_cases hw:HT.sIx xs.length 0 lo=0/\HT.sIx xs.length xs.length hi=xs.length
 ·subst ex
  cases rx
  obtain ⟨its,r,ht,hz⟩:=I.tuple (SqT.of (K:=X.K) hx)
  have hl:=r.length
  refine ⟨"tuple",_,PyProof.Rows.slot_tuple_getitem.lookup,ht.typeIs,HT.getItem_tuple_all ht hs pl pu (by rw [List.size_toArray,<- hl];exact hw.1) (by rw [List.size_toArray,<- hl];exact hw.2) ⟨.ref a,H,I,rfl,q a H (fun _ _ h=>h) ?_⟩⟩
  rw [hx]
  unfold cV
  rw [hw.1,hw.2,List.drop_zero,Nat.sub_zero,List.take_length]
 ·exact tm pins s σ H x v vl vu lo hi sl Q I rx hs pl pu ⟨a,xs,ex,SqT.of hx,hw,fun p hp=>q p _ (fun b o e=>by rw [ah (ai e hp)];exact e) ac⟩
theorem u7 {P:Program} {w:World} {H:Hp} (h:Heap) (hb:sysModules<h.objs.size):ObjOk P w H (h.push {cls:=.type "dict",data:=.dict #[]}) h.objs.size (.dP []):=
 ⟨Nat.zero_le _,beq_eq_false_iff_ne.mpr (Ne.symm (Nat.ne_of_lt hb)),[],.nil,_,#[],0,Heap.get?_push_size _ rfl,⟨rfl,rfl,rfl⟩,rfl,rfl,List.nodup_nil⟩
noncomputable def wS:TE:=fun _ H Q=> ∀ p,H p=none->Q (.ref p) (upd H p (.dP []))
theorem jM {pos:Pos}:PE X (.Dict [] [] pos) wS:=fun pins s σ H Q I h=>
 wpAny_Dict_empty ⟨.ref s.heap.objs.size,_,I.laid (a:=s.heap.objs.size) (o:=.dP []) (t':=s.toks) (fun _ _ q=>Heap.get?_push_of_some _ q) (Nat.le_refl _) (u7 s.heap I.big),rfl,h _ (I.hok.fresh (Nat.le_refl _))⟩
end
end L2
namespace HT
open PySem PyProof.Rows
section
variable {prog:Program} {w:World} {A:Around} {s:Shared} {E:Value->Shared->Prop} {d it:Addr} {ks:List (Value×Value)} {i ep:Nat}
noncomputable def IEs (h:Heap) (d:Addr) (ks:List (Value×Value)) (ep:Nat):Prop:= ∃ o es,h.get? d=some o/\o.ExactDict/\o.data=.dict es ep/\es.toList.map (fun e=>(e.key,e.val))=ks
theorem IEs.type (m:IEs s.heap d ks ep):s.TypeIs (.ref d) "dict":=by
 obtain ⟨o,_,ho,hc,_⟩:=m
 exact ⟨o,ho,hc.1⟩
theorem IEs.keeps {h h':Heap} (m:IEs h d ks ep) (k: ∀ o,h.get? d=some o->h'.get? d=some o):IEs h' d ks ep:=by
 obtain ⟨o,es,ho,r⟩:=m
 exact ⟨o,es,k o ho,r⟩
theorem gL {es:Array DictEntry} (e:es.toList.map (fun e=>(e.key,e.val))=ks):es.size=ks.length:=by
 rw [<- e,List.length_map,Array.length_toList]
theorem call_ies {Q:Value->Shared->Prop} (lo:(d==sysModules)=false) (m:IEs s.heap d ks ep)
  (q:Q (.ref s.heap.objs.size) {s with heap:=s.heap.push {cls:=.type "dict_items",data:=.fields #[.ref d]}}):wpAny (model prog w) A (call (.builtin "dict.items") [.ref d]) Q E s:=by
 have ty:=m.type
 refine wpAny_call_entry PySem.F.slot_dict_items ty PySem.F.entry_dict_items ?_ (PySem.F.args_dict_items_1 _)
 refine wpAny_bind ?_
 unfold Builtin.Dict.noArgs
 refine wpAny_bind (wpAny_notOrdered_dict ty ?_)
 refine (show wpAny _ _ (pure d) _ _ s from wpAny_pure (show wpAny _ _ (Builtin.Dict.showsAll d >>= _) _ _ s from ?_))
 unfold Builtin.Dict.showsAll
 rw [if_neg (by rw [lo];exact Bool.false_ne_true)]
 exact wpAny_bind (wpAny_pure (wpAny_bind (wpAny_newObj_type (wpAny_pure ⟨_,rfl,q⟩))))
theorem iter_ies {r:Addr} {Q:Value->Shared->Prop} (hv:s.heap.IsItemsView r d) (m:IEs s.heap d ks ep)
  (q:Q (.ref s.heap.objs.size) {s with heap:=s.heap.push {cls:=.type "dict_itemiterator",data:=.fields #[.none,.bool false,.ref d,.int 0 0,.int ks.length 0,.int ep 0,.none,.none]}}):wpAny (model prog w) A (pyIter (.ref r)) Q E s:=by
 obtain ⟨ov,hov,hcv,hdv⟩:=(show ∃ o,s.heap.get? r=some o/\o.cls=.type "dict_items"/\o.data=.fields #[.ref d]from hv)
 obtain ⟨o,es,ho,hc,hdat,hk⟩:=m
 refine wpAny_pyIter_slot hv.typeIs PySem.F.slot_dict_items_iter (wpAny_call_entry PySem.F.slot_dict_items_iter hv.typeIs PySem.F.entry_dict_items_iter ?_ (PySem.F.args_dict_items_iter_1 _))
 unfold Builtin.«dict_items.__iter__» Builtin.Dict_items.dictOf Builtin.Dict_items.newIterator
 refine wpAny_bind (wpAny_pure (wpAny_bind (wpAny_bind (wpAny_field hov hdv (x:=.ref d) rfl (wpAny_pure (wpAny_bind (wpAny_bind (wpAny_dictEntries ho hdat (wpAny_bind (wpAny_dictEpoch ho hdat ?_))))))))))
 have own:Builtin.Dict_items.ownsTuple "dict_itemiterator"=true:=by decide
 simp only [own,if_true]
 refine wpAny_newObj_type (wpAny_pure ⟨_,rfl,"dict_itemiterator",_,⟨_,Heap.get?_push_size _ rfl,rfl⟩,PySem.F.slot_dict_itemiterator_next.lookup,?_⟩)
  (by simp only [sizeOk,Builtin.Dict_items.ownedTupleFields,List.size_toArray,List.length_append,List.length_cons,List.length_nil,sizeLine_eq];lia)
 simpa [rawInt,gL hk,Builtin.Dict_items.ownedTupleFields]using q
theorem next_ies {x y ok ov:Value} {Q:Option Value->Shared->Prop} (st:IsItemIter s.heap it d i ks.length ep ok ov) (m:IEs s.heap d ks ep) (hx:ks[i]? =some (x,y))
  (q: ∀ h',IsItemIterOut h' it d (i+1) ks.length ep x y s.heap.objs.size->h'.get? s.heap.objs.size=some {cls:=.type "tuple",data:=.seq #[x,y]}->
   (∀ b o,b≠it->s.heap.get? b=some o->h'.get? b=some o)->Q (some (.ref s.heap.objs.size)) {s with heap:=h'}):wpAny (model prog w) A (pyNext (.ref it)) Q E s:=by
 obtain ⟨hp,g,dr,tk,os⟩:=s
 obtain ⟨od,es,hod,hcd,hdd,hk⟩:=m
 have ty:Shared.TypeIs ⟨hp,g,dr,tk,os⟩ (.ref it) "dict_itemiterator":=⟨_,st,rfl⟩
 have hz:=gL hk
 have hlt:i<ks.length:=(List.getElem?_eq_some_iff.mp hx).1
 have hes:i<es.size:=by lia
 have hkv:(es[i].key,es[i].val)=(x,y):=by
  have e1:(es.toList.map (fun e=>(e.key,e.val)))[i]? =some (x,y):=by rw [hk];exact hx
  rw [List.getElem?_map,Array.getElem?_toList,Array.getElem?_eq_getElem hes]at e1
  exact Option.some.inj e1
 have hkx:es[i].key=x:=(Prod.mk.inj hkv).1
 have hvy:es[i].val=y:=(Prod.mk.inj hkv).2
 unfold pyNext
 refine wpAny_bind (wpAny_attempt (wpAny_callSpecial?_slot (name:=Str.ofString "__next__") ty PySem.F.slot_dict_itemiterator_next (wpAny_call_entry PySem.F.slot_dict_itemiterator_next ty PySem.F.entry_dict_itemiterator_next ?_ (PySem.F.args_dict_itemiterator_next_1 _))))
 refine wpAny_bind (wpAny_pure (wpAny_bind (wpAny_bind ?_)))
 first | refine wpAny_bind (wpAny_typeNameOfWhole_itemiter ty (wpAny_pure (wpAny_bind (wpAny_fieldsOf st rfl ?_)))) | refine wpAny_bind (wpAny_typeNameOf_itemiter ty (wpAny_pure (wpAny_bind (wpAny_fieldsOf st rfl ?_))))
 have own:Builtin.Dict_items.ownsTuple "dict_itemiterator"=true:=by decide
 simp only [own,if_true]
 refine (show wpAny _ _ (if (Value.ref d==Value.none)=true then _ else _) _ _ _ from ?_)
 rw [if_neg fun b0:(Value.ref d==Value.none)=true=>Bool.false_ne_true b0]
 refine wpAny_bind (wpAny_pure (wpAny_bind (wpAny_dictEntries hod hdd ?_)))
 rw [if_neg (by rw [hz];simp)]
 refine wpAny_bind (wpAny_pure (wpAny_bind (wpAny_dictEpoch hod hdd ?_)))
 rw [if_neg (by simp)]
 refine wpAny_pure ?_
 simp only [show ¬ ((i:Int) <0)from by lia,if_false,Int.toNat_natCast,Array.getElem?_eq_getElem hes]
 refine wpAny_bind ?_
 first | refine wpAny_bind (wpAny_typeNameOfWhole_itemiter ty (wpAny_pure (wpAny_bind (wpAny_isOneOf_itemiter ty ?_)))) | refine wpAny_bind (wpAny_typeNameOf_itemiter ty (wpAny_pure (wpAny_bind (wpAny_isOneOf_itemiter ty ?_))))
 refine (show wpAny _ _ (setField (.ref it) 3 (rawInt ((i:Int) +1)) >>= _) _ _ ⟨hp,g,dr,tk,os⟩from ?_)
 refine wpAny_bind (wpAny_setField_rec st (by simp) fun h1 e1 b1=>?_)
 replace b1:Heap.SameBut it hp h1:=b1
 replace e1:IsItemIter h1 it d (i+1) ks.length ep ok ov:=by
  have e:((i+1:Nat):Int)=(i:Int) +1:=by lia
  unfold IsItemIter
  rw [e]
  simpa [rawInt]using e1
 have ty1:Shared.TypeIs ⟨h1,g,dr,tk,os⟩ (.ref it) "dict_itemiterator":=⟨_,e1,rfl⟩
 refine wpAny_bind (wpAny_holding (wpAny_bind (wpAny_isOneOf_itemiter ty1 (wpAny_bind (wpAny_isOneOf_itemiter ty1 ?_)))))
 rw [hkx,hvy]
 refine (show wpAny _ _ (Builtin.Dict_items.pairFromOwner (.ref it) 6 x y) _ _ ⟨h1,g,dr,tk,os⟩from ?_)
 unfold Builtin.Dict_items.pairFromOwner
 refine wpAny_bind (wpAny_newTuple ?_)
 have e2:IsItemIter (h1.push {cls:=.type "tuple",data:=.seq #[x,y]}) it d (i+1) ks.length ep ok ov:=Heap.get?_push_of_some _ e1
 have z1:h1.objs.size=hp.objs.size:=b1.1
 have il:hp.objs.size≠it:=Nat.ne_of_gt (Heap.lt_size st)
 have t2:(h1.push {cls:=.type "tuple",data:=.seq #[x,y]}).get? hp.objs.size=some {cls:=.type "tuple",data:=.seq #[x,y]}:=by rw [<- z1];exact Heap.get?_push_size _ rfl
 have k2: ∀ b o,b≠it->hp.get? b=some o->(h1.push {cls:=.type "tuple",data:=.seq #[x,y]}).get? b=some o:=fun b o hb e=>Heap.get?_push_of_some _ (b1.extBut b o hb e)
 generalize h1.push {cls:=.type "tuple",data:=.seq #[x,y]}=h2 at e2 t2 k2
 refine (show wpAny _ _ (Builtin.Dict_items.ownedTupleIsFree (.ref it) >>= _) _ _ ⟨h2,g,dr,tk,os⟩from ?_)
 rw [z1]
 refine wpAny_bind ?_
 unfold Builtin.Dict_items.ownedTupleIsFree
 refine wpAny_bind (wpAny_field e2 rfl (x:=.none) rfl (wpAny_pure ?_))
 simp only [if_true]
 refine wpAny_bind (wpAny_field e2 rfl (x:=ok) rfl (wpAny_bind (wpAny_field e2 rfl (x:=ov) rfl ?_)))
 refine wpAny_bind (wpAny_setField_rec e2 (by simp) fun h3 e3 b3=>?_)
 replace b3:Heap.SameBut it h2 h3:=b3
 replace e3:IsItemIter h3 it d (i+1) ks.length ep x ov:=e3
 refine wpAny_bind (wpAny_setField_rec e3 (by simp) fun h4 e4 b4=>?_)
 replace b4:Heap.SameBut it h3 h4:=b4
 replace e4:IsItemIter h4 it d (i+1) ks.length ep x y:=e4
 refine wpAny_bind (wpAny_setField_rec e4 (by simp) fun h5 e5 b5=>?_)
 replace b5:Heap.SameBut it h4 h5:=b5
 replace e5:IsItemIterOut h5 it d (i+1) ks.length ep x y hp.objs.size:=e5
 refine wpAny_bind (wpAny_setField_rec e5 (by simp) fun h6 e6 b6=>?_)
 replace b6:Heap.SameBut it h5 h6:=b6
 replace e6:IsItemIterOut h6 it d (i+1) ks.length ep x y hp.objs.size:=e6
 have up: ∀ b o,b≠it->h2.get? b=some o->h6.get? b=some o:=fun b o hb e=>b6.extBut b o hb (b5.extBut b o hb (b4.extBut b o hb (b3.extBut b o hb e)))
 exact wpAny_bind (wpAny_letGo (wpAny_pure (wpAny_pure ⟨_,rfl,wpAny_pure (q h6 e6 (up _ _ il t2) fun b o hb e=>up b o hb (k2 b o hb e))⟩)))
theorem end_ies {ok ov:Value} {Q:Option Value->Shared->Prop} (hh:A.handled=none) (st:IsItemIter s.heap it d i ks.length ep ok ov) (m:IEs s.heap d ks ep) (hx:ks.length<=i)
  (q: ∀ h',Heap.ExtBut it s.heap h'->Q none {s with heap:=h'}):wpAny (model prog w) A (pyNext (.ref it)) Q E s:=by
 have ty:s.TypeIs (.ref it) "dict_itemiterator":=⟨_,st,rfl⟩
 obtain ⟨od,es,hod,hcd,hdd,hk⟩:=m
 have hz:=gL hk
 unfold pyNext
 refine wpAny_bind (wpAny_attempt (wpAny_callSpecial?_slot (name:=Str.ofString "__next__") ty PySem.F.slot_dict_itemiterator_next (wpAny_call_entry PySem.F.slot_dict_itemiterator_next ty PySem.F.entry_dict_itemiterator_next ?_ (PySem.F.args_dict_itemiterator_next_1 _))))
 refine wpAny_bind (wpAny_pure (wpAny_bind (wpAny_bind ?_)))
 first | refine wpAny_bind (wpAny_typeNameOfWhole_itemiter ty (wpAny_pure (wpAny_bind (wpAny_fieldsOf st rfl ?_)))) | refine wpAny_bind (wpAny_typeNameOf_itemiter ty (wpAny_pure (wpAny_bind (wpAny_fieldsOf st rfl ?_))))
 have own:Builtin.Dict_items.ownsTuple "dict_itemiterator"=true:=by decide
 simp only [own,if_true]
 refine (show wpAny _ _ (if (Value.ref d==Value.none)=true then _ else _) _ _ s from ?_)
 rw [if_neg fun b0:(Value.ref d==Value.none)=true=>Bool.false_ne_true b0]
 refine wpAny_bind (wpAny_pure (wpAny_bind (wpAny_dictEntries hod hdd ?_)))
 rw [if_neg (by rw [hz];simp)]
 refine wpAny_bind (wpAny_pure (wpAny_bind (wpAny_dictEpoch hod hdd ?_)))
 rw [if_neg (by simp)]
 refine wpAny_pure ?_
 have hge:es.size<=i:=by lia
 simp only [show ¬ ((i:Int) <0)from by lia,if_false,Int.toNat_natCast,Array.getElem?_eq_none hge]
 refine wpAny_bind ?_
 first | refine wpAny_bind (wpAny_typeNameOfWhole_itemiter ty (wpAny_pure ?_)) | refine wpAny_bind (wpAny_typeNameOf_itemiter ty (wpAny_pure ?_))
 refine (show wpAny _ _ (setField (.ref it) 2 .none >>= _) _ _ s from wpAny_bind (wpAny_setField st rfl (by simp) ?_))
 refine (show wpAny _ _ (newExc (.type "StopIteration") [] >>= _) _ _ _ from wpAny_bind ?_)
 simp only [newExc,newTuple]
 refine wpAny_bind (wpAny_newObj_type (wpAny_bind (m:=firstArgMember _ _) (wpAny_of_eq (a:=Value.none) (by first | rfl | (simp only [firstArgMember];rfl)) (wpAny_newObj_type ?_ (by size_fits)))) (by size_fits))
 simp only [raiseNew]
 refine wpAny_bind (wpAny_handled ?_)
 rw [show A.in1.handled=none from hh]
 refine (wpAny_bind (wpAny_pure (wpAny_throw (?_))))
 refine wpAny_bind (wpAny_isInstance (T:="StopIteration") (b:=true) ⟨_,Heap.get?_push_size _ rfl,rfl⟩ isSubtype_stop (wpAny_pure (q _ ?_)))
 exact ((Heap.SameBut.update ..).extBut.push _).push _
end
end HT
namespace L2
open PySem PySem.Spec PyProof.Rows
theorem Inv.freeze {X:Cx} {pins:List (Addr×Obj)} {σ:St} {H:Hp} {s:Shared} {d:Addr} {o:Obj} {kvs:List (List Key×V)} (I:Inv X pins σ H s) (hd:H d=some (.dT kvs)) (ho:s.heap.get? d=some o):Inv X pins σ (upd H d (.frz o (.dT kvs))) s:=by
 refine jm (t':=s.toks) (h':=s.heap) I (by rw [hd];exact True.intro) ⟨rfl,fun _ _=>rfl⟩ ⟨o,ho⟩ ⟨ho,?_⟩
 obtain ⟨z,lo,xs,kt,r⟩:=(show ObjOk X.prog X.w H s.heap d (.dT kvs)from I.hok d _ hd)
 refine ⟨z,lo,xs,Paired.mapP kt fun p q h=>⟨h.1,?_,h.2.2⟩,r⟩
 rw [ah (fun z=>by rw [z,hd]at h;cases h.2.1)]
 exact h.2.1
noncomputable def nO (o:Obj):Nat:=match o.data with
 | .dict es _=>es.size
 | _=>0
noncomputable def epO (o:Obj):Nat:=match o.data with
 | .dict _ ep=>ep
 | _=>0
theorem eZ {X:Cx} {pins:List (Addr×Obj)} {σ:St} {H:Hp} {s:Shared} {d:Addr} {o:Obj} {kvs:List (List Key×V)} (I:Inv X pins σ H s) (hd:H d=some (.frz o (.dT kvs))):
  ∃ xs:List (List Key×Addr×Value),KT H kvs xs/\(d==sysModules)=false/\nO o=xs.length/\HT.IEs s.heap d (xs.map fun q=>(Value.ref q.2.1,q.2.2)) (epO o)/\HT.VEs s.heap d (xs.map fun q=>q.2.2) (epO o)/\s.heap.get? d=some o:=by
 obtain ⟨ho,z,lo,xs,kt,o',es,ep,h1,h2,h3,h4,h5⟩:=(show ObjOk X.prog X.w H s.heap d (.frz o (.dT kvs))from I.hok d _ hd)
 rw [ho]at h1
 cases h1
 have e1:nO o=es.size:=by unfold nO;rw [h3]
 have e2:epO o=ep:=by unfold epO;rw [h3]
 refine ⟨xs,kt,lo,?_,⟨o,es,ho,h2,by rw [e2];exact h3,?_⟩,⟨o,es,ho,h2,by rw [e2];exact h3,?_⟩,ho⟩
 ·rw [e1,<- Array.length_toList,h4,List.length_map]
 ·rw [h4,List.map_map];rfl
 ·rw [h4,List.map_map];rfl
theorem uM {H:Hp}: ∀ {kvs:List (List Key×V)} {xs:List (List Key×Addr×Value)} {i:Nat} {kv:List Key×V},KT H kvs xs->kvs[i]? =some kv-> ∃ q:List Key×Addr×Value,xs[i]? =some q/\H q.2.1=some (.tup (kv.1.map kV))/\RelV kv.2 q.2.2
 | _,_,i,_,.nil,e=>by cases i <;> cases e
 | _,_,0,_,.cons h _,e=>by cases e;exact ⟨_,rfl,h.2.1,h.2.2⟩
 | _,_,i+1,_,.cons _ t,e=>uM (i:=i) t e
noncomputable def Ity (d:Addr) (o:Obj):It:=
 ⟨fun i H=> ∃ kvs kv,H d=some (.frz o (.dT kvs))/\kvs[i]? =some kv,
  fun i H x H'=> ∃ T c ks v,H T=none/\x=.ref T/\H'=upd H T (.tup [.ref c,v])/\H c=some (.tup (List.map kV ks))/\ ∀ kvs,H d=some (.frz o (.dT kvs))->kvs[i]? =some (ks,v),
  fun i H=> ∃ kvs,H d=some (.frz o (.dT kvs))/\kvs.length=i⟩
noncomputable def zN (it d:Addr) (o:Obj) (i:Nat) (h:Heap):Prop:= ∃ ok ov,IsItemIter h it d i (nO o) (epO o) ok ov
theorem oS {P:Program} {w:World} {K:PySem.W.Frag} {es:List Expr} {kk:Nat} {tpos:Pos} (it d:Addr) (o:Obj):qd P w K (.Tuple es kk tpos) (Ity d o) [it] it (zN it d o):=by
 refine ⟨by simp,fun i h st b hb=>?_,fun i h h' st k=>?_,?_,?_,fun _ _ _ _ _ st h=>?_⟩
 ·obtain ⟨ok,ov,st⟩:=st
  have e:b=it:=by simpa using hb
  subst e
  exact ⟨_,st,fun v e=>nomatch e⟩
 ·obtain ⟨ok,ov,st⟩:=st
  exact ⟨ok,ov,k it (by simp) _ st⟩
 ·intro X hP hw hK hc i pins s σ H E I hf st hg
  subst hP hw hK
  obtain ⟨kvs,kv,hd,hx⟩:=hg
  obtain ⟨xs,kt,lo,hn,m,_,_⟩:=eZ I hd
  obtain ⟨q,hq,hc',rv⟩:=uM kt hx
  obtain ⟨ok,ov,st⟩:=st
  have st0:=st
  rw [hn,<- List.length_map (f:=fun q:List Key×Addr×Value=>(Value.ref q.2.1,q.2.2))]at st
  have nd:d≠it:=fun z=>by have:=(hf it (by simp)).1;rw [<- z,hd]at this;cases this
  refine HT.next_ies st m (by rw [List.getElem?_map,hq];rfl) fun h' z1 pr kk=>?_
  refine ⟨_,rfl,wpAny_letOwnedTupleGo_items z1 fun h'' z2 sb=>?_⟩
  have lt: ∀ {b:Addr} {ob:Obj},s.heap.get? b=some ob->b≠s.heap.objs.size:=fun e=>Nat.ne_of_lt (Heap.lt_size e)
  have fT:H s.heap.objs.size=none:=I.hok.fresh (Nat.le_refl _)
  have keep: ∀ b ob,b∉[it]->s.heap.get? b=some ob->h''.get? b=some ob:=fun b ob hb z=>by
   simp only [List.mem_cons,List.not_mem_nil,or_false]at hb
   exact sb.extBut b ob hb (kk b ob hb z)
  have trk: ∀ b uo,H b=some uo->b∉[it]:=fun b uo z hb=>by rw [(hf b hb).1]at z;cases z
  have ptT:=sb.extBut _ _ (Ne.symm (lt st0)) pr
  have I2:Inv X pins σ (upd H s.heap.objs.size (.tup [.ref q.2.1,kv.2])) {s with heap:=h''}:=by
   refine I.step (g':=s.gens) (d':=s.drawn) (t':=s.toks) (ch:=[it]) (fun b hb=>?_) (fun b ob _ _ hb z _=>keep b ob hb z) (fun b ob _ _ hb z _=>⟨ob.slots,keep b ob hb z⟩) (fun b ob hb z n=>by rw [ah (lt z)];exact n)
    (fun b ob hb z=>⟨ob,keep b ob hb z⟩) (fun b zs z=>by rw [ah (ai z fT)];exact z) (fun b ob uo z=>by rw [ah (ai z fT)];exact z) (fun b ps z=>⟨#[],by rw [ah (ai z fT),z];simp⟩) (fun m hm=>?_) (fun b uo z=>?_) I.bare
   ·obtain ⟨_,f1,_,f3,f4,f5⟩:=hf b hb
    exact ⟨f3,f1,f4,f5⟩
   ·obtain ⟨ob,es',ep,ho,r⟩:=hm
    exact ⟨ob,es',ep,keep _ ob (fun hb=>(hf _ hb).2.1 rfl) ho,r⟩
   ·by_cases hb:b=s.heap.objs.size
    ·subst hb
     rw [ac]at z
     cases z
     exact ⟨by show 2<=sizeLine;decide,[.ref q.2.1,q.2.2],.cons rfl (.cons rv .nil),_,ptT,rfl,_,rfl⟩
    ·rw [ah hb]at z
     refine (I.hok b uo z).stay (fun c' v' hc' q=>keep c' v' ?_ q) (fun c' q=>by rw [ah (ai q fT)];exact q) fun c' zs q=>by rw [ah (ai q fT)];exact q
     rcases hc' with h | h
     ·rw [h];exact trk b uo z
     ·exact trk c' _ h
  refine ⟨.ref s.heap.objs.size,_,I2,rfl,⟨_,q.2.1,kv.1,kv.2,fT,rfl,rfl,hc',fun kvs' h1=>?_⟩,⟨_,_,by rw [hn,<- List.length_map (f:=fun q:List Key×Addr×Value=>(Value.ref q.2.1,q.2.2))];exact z2⟩,fun b hb=>?_⟩
  ·rw [hd]at h1
   cases h1
   exact hx
  ·have e:b=it:=by simpa using hb
   subst e
   rw [ah (lt st0)]
   exact (hf _ (by simp)).1
 ·intro X hP hw hK hc i pins s σ H E I hf st hg
  subst hP hw hK
  obtain ⟨kvs,hd,hl⟩:=hg
  obtain ⟨xs,kt,lo,hn,m,_,_⟩:=eZ I hd
  obtain ⟨ok,ov,st⟩:=st
  rw [hn,<- List.length_map (f:=fun q:List Key×Addr×Value=>(Value.ref q.2.1,q.2.2))]at st
  have hle:xs.length=kvs.length:=(Paired.length kt).symm
  obtain ⟨f0,f1,f2,f3,f4,f5⟩:=hf it (by simp)
  exact HT.end_ies (I.ok.hd hc) st m (by rw [List.length_map];lia) fun h' eb=>⟨rfl,I.turned (t':=s.toks) (fun b o hb e=>eb b o hb e) f0 f1 f3 f4 f5⟩
 ·obtain ⟨ok,ov,st⟩:=st
  exact PySem.W.kcp_self st h
noncomputable def yO (J:Addr->Obj->It) (to:TE):TI:=fun σ H R=>to σ H fun x H1=> ∃ d kvs,x=.ref d/\((H1 d=some (.dT kvs)/\ ∀ o,R (J d o) (upd H1 d (.frz o (.dT kvs))))\/ ∃ o,H1 d=some (.frz o (.dT kvs))/\R (J d o) H1)
theorem uV {X:Cx} {pins:List (Addr×Obj)} {σ:St} {H:Hp} {s:Shared} {d:Addr} {kvs:List (List Key×V)} {J:Addr->Obj->It} {R:It->Hp->Prop} (I:Inv X pins σ H s)
  (h:(H d=some (.dT kvs)/\ ∀ o,R (J d o) (upd H d (.frz o (.dT kvs))))\/ ∃ o,H d=some (.frz o (.dT kvs))/\R (J d o) H): ∃ o H',Inv X pins σ H' s/\H' d=some (.frz o (.dT kvs))/\R (J d o) H':=by
 rcases h with ⟨hd,q⟩ | ⟨o,hd,q⟩
 ·obtain ⟨_,_,xs,kt,o,es,ep,h1,_⟩:=(show ObjOk X.prog X.w H s.heap d (.dT kvs)from I.hok d _ hd)
  exact ⟨o,_,I.freeze hd h1,ac,q o⟩
 ·exact ⟨o,H,I,hd,q⟩
theorem n0 {X:Cx} {es:List Expr} {kk:Nat} {tpos:Pos} {o:Expr} {to:TE} {apos cpos:Pos} (ho:PE X o to)
  (hbase:attributeBase o "items" X.env (eval o X.env)=eval o X.env:=by rfl) (hline:(apos.endLine==cpos.line)=true:=by rfl):
  PI X (.Tuple es kk tpos) (.Call (.Attribute o "items" apos) [] [] cpos) (yO Ity to):=by
 intro pins s σ H R I h
 refine wpAny_Call_method0_late hbase hline (thn (ho pins s σ H _ I h) fun v s1 ⟨x,H1,I1,r1,d,kvs,ex,q1⟩=>?_)
 subst ex
 cases r1
 obtain ⟨ob,H2,I2,hd,q⟩:=uV I1 q1
 obtain ⟨xs,kt,lo,hn,m,_,hob⟩:=eZ I2 hd
 refine ⟨"dict","dict.items",PySem.F.plainAttrs_dict,PySem.F.slot_dict_items,PySem.F.type_dict_items,m.type,(fun b e=>?_),Calls.callWith_builtin rfl (PySem.evalArgs_none (HT.call_ies lo m ?_))⟩
 ·cases e
  obtain ⟨o',es',e1,e2,_⟩:=m
  exact ⟨o',e1,e2.2.1⟩
 have kp0: ∀ b o,s1.heap.get? b=some o->(s1.heap.push {cls:=.type "dict_items",data:=.fields #[.ref d]}).get? b=some o:=fun b o e=>Heap.get?_push_of_some _ e
 refine HT.iter_ies ⟨_,Heap.get?_push_size _ rfl,rfl,rfl⟩ (m.keeps fun o e=>kp0 _ o e) ?_
 have hsz:(s1.heap.push {cls:=.type "dict_items",data:=.fields #[.ref d]}).objs.size=s1.heap.objs.size+1:=Heap.size_push ..
 refine ⟨_,[_],_,_,H2,rfl,I2.kept (t':=s1.toks) fun b o e=>Heap.get?_push_of_some _ (kp0 b o e),oS _ d ob,⟨.none,.none,?_⟩,fun b hb=>?_,q⟩
 ·rw [List.length_map,<- hn]
  exact Heap.get?_push_size _ rfl
 ·have e:b=(s1.heap.push {cls:=.type "dict_items",data:=.fields #[.ref d]}).objs.size:=by simpa using hb
  have hb':s1.heap.objs.size<=b:=by rw [e,hsz];lia
  exact I2.fpOk hb' (I2.hok.fresh hb')
theorem li {d:Addr} {o:Obj} {kvs:List (List Key×V)} {g:TG} {tb:TS} {D:iB} {σ:St} {H:Hp} (Pv:Nat->St->Hp->Prop) (h0:Pv 0 σ H) (hl: ∀ i σ H,i<=kvs.length->Pv i σ H->H d=some (.frz o (.dT kvs)))
  (step: ∀ i ks v T c σ H,kvs[i]? =some (ks,v)->H T=none->H c=some (.tup (List.map kV ks))->Pv i σ H->g (.ref T) σ (upd H T (.tup [.ref c,v])) fun σ2 H2=>tb {D with nx:=Pv (i+1),ct:=Pv (i+1),bk:=D.nx} σ2 H2) (fin: ∀ σ H,Pv kvs.length σ H->D.nx σ H):
  ∃ W:Nat->Nat->St->Hp->Prop,(∃ m,W 0 m σ H)/\ ∀ i m σ H,W i m σ H->
   ((Ity d o).stop i H/\D.nx σ H)\/((Ity d o).go i H/\ ∃ N:St->Hp->Prop,(∀ σ' H',N σ' H'-> ∃ m',m'<m/\W (i+1) m' σ' H')/\ ∀ x H',(Ity d o).yld i H x H'->g x σ H' fun σ2 H2=>tb {D with nx:=N,ct:=N,bk:=D.nx} σ2 H2):=by
 refine ⟨fun i m σ H=>m=kvs.length-i/\i<=kvs.length/\Pv i σ H,⟨kvs.length,by simp,Nat.zero_le _,h0⟩,?_⟩
 rintro i m σ H ⟨rfl,hi,p⟩
 have q:=hl i σ H hi p
 by_cases hlt:i<kvs.length
 ·refine .inr ⟨⟨kvs,kvs[i],q,List.getElem?_eq_getElem hlt⟩,Pv (i+1),fun σ' H' p'=>⟨kvs.length- (i+1),by lia,rfl,hlt,p'⟩,fun x H' y=>?_⟩
  obtain ⟨T,c,ks,v,fT,rfl,rfl,hc,hk⟩:=y
  exact step i ks v T c σ H (hk kvs q) fT hc p
 ·have e:i=kvs.length:=by lia
  subst e
  exact .inl ⟨⟨kvs,q,rfl⟩,fin σ H p⟩
noncomputable def Itj (d:Addr) (o:Obj):It:=
 ⟨fun i H=> ∃ kvs kv,H d=some (.frz o (.dT kvs))/\kvs[i]? =some kv,
  fun i H x H'=>H'=H/\ ∀ kvs,H d=some (.frz o (.dT kvs))->(kvs.map (·.2))[i]? =some x,
  fun i H=> ∃ kvs,H d=some (.frz o (.dT kvs))/\kvs.length=i⟩
theorem qV {P:Program} {w:World} {K:PySem.W.Frag} {tg:Expr} (it d:Addr) (o:Obj):qd P w K tg (Itj d o) [it] it (fun i h=>h.IsValIter it d i (nO o) (epO o)) where
 mem:=by simp
 obj:=fun i h st b hb=>by
  have e:b=it:=by simpa using hb
  subst e
  obtain ⟨o,e,c,d⟩:=st
  exact ⟨o,e,fun v z=>by rw [d]at z;cases z⟩
 keep:=fun i h h' st k=>st.at fun o e=>k it (by simp) o e
 item:=by
  intro X hP hw hK hc i pins s σ H E I hf st hg
  subst hP hw hK
  obtain ⟨kvs,kv,hd,hx⟩:=hg
  obtain ⟨xs,kt,lo,hn,_,m,_⟩:=eZ I hd
  obtain ⟨q,hq,hc',rv⟩:=uM kt hx
  obtain ⟨f0,f1,f2,f3,f4,f5⟩:=hf it (by simp)
  rw [hn,<- List.length_map (f:=fun q:List Key×Addr×Value=>q.2.2)]at st
  refine HT.next_ves st m (by rw [List.getElem?_map,hq];rfl) fun h' st' sb=>?_
  have I1:Inv X pins σ H {s with heap:=h'}:=I.turned (t':=s.toks) (fun b o hb e=>sb.extBut b o hb e) f0 f1 f3 f4 f5
  obtain ⟨o',e,c,d'⟩:=id st'
  rw [List.length_map,<- hn]at st'
  exact ⟨q.2.2,rfl,qC (s:={s with heap:=h'}) e c d' (by decide) ⟨_,H,I1,rv,⟨rfl,fun ys hy=>by rw [hd]at hy;cases hy;rw [List.getElem?_map,hx];rfl⟩,st',fun b hb=>(hf b hb).1⟩⟩
 done:=by
  intro X hP hw hK hc i pins s σ H E I hf st hg
  subst hP hw hK
  obtain ⟨kvs,hd,hl⟩:=hg
  obtain ⟨xs,kt,lo,hn,_,m,_⟩:=eZ I hd
  have hle:xs.length=kvs.length:=(Paired.length kt).symm
  obtain ⟨f0,f1,f2,f3,f4,f5⟩:=hf it (by simp)
  rw [hn,<- List.length_map (f:=fun q:List Key×Addr×Value=>q.2.2)]at st
  exact HT.end_ves (I.ok.hd hc) st m (by rw [List.length_map];lia) fun h' eb=>⟨rfl,I.turned (t':=s.toks) (fun b o hb e=>eb b o hb e) f0 f1 f3 f4 f5⟩
 self:=fun _ _ _ _ _ st h=>wpAny_pyIter_valiter st h
theorem vE {X:Cx} {tg:Expr} {o:Expr} {to:TE} {apos cpos:Pos} (ho:PE X o to)
  (hbase:attributeBase o "values" X.env (eval o X.env)=eval o X.env:=by rfl) (hline:(apos.endLine==cpos.line)=true:=by rfl):
  PI X tg (.Call (.Attribute o "values" apos) [] [] cpos) (yO Itj to):=by
 intro pins s σ H R I h
 refine wpAny_Call_method0_late hbase hline (thn (ho pins s σ H _ I h) fun v s1 ⟨x,H1,I1,r1,d,kvs,ex,q1⟩=>?_)
 subst ex
 cases r1
 obtain ⟨ob,H2,I2,hd,q⟩:=uV I1 q1
 obtain ⟨xs,kt,lo,hn,_,m,hob⟩:=eZ I2 hd
 refine ⟨"dict","dict.values",PySem.F.plainAttrs_dict,PySem.F.slot_dict_values,PySem.F.type_dict_values,m.type,(fun b e=>?_),Calls.callWith_builtin rfl (PySem.evalArgs_none (HT.call_ves lo m ?_))⟩
 ·cases e
  obtain ⟨o',es',e1,e2,_⟩:=m
  exact ⟨o',e1,e2.2.1⟩
 have kp0: ∀ b o,s1.heap.get? b=some o->(s1.heap.push {cls:=.type "dict_values",data:=.fields #[.ref d]}).get? b=some o:=fun b o e=>Heap.get?_push_of_some _ e
 refine HT.iter_ves ⟨_,Heap.get?_push_size _ rfl,rfl,rfl⟩ (m.keeps fun o e=>kp0 _ o e) ?_
 have hsz:(s1.heap.push {cls:=.type "dict_values",data:=.fields #[.ref d]}).objs.size=s1.heap.objs.size+1:=Heap.size_push ..
 refine ⟨_,[_],_,_,H2,rfl,I2.kept (t':=s1.toks) fun b o e=>Heap.get?_push_of_some _ (kp0 b o e),qV _ d ob,?_,fun b hb=>?_,q⟩
 ·rw [List.length_map,<- hn]
  exact ⟨_,Heap.get?_push_size _ rfl,rfl,rfl⟩
 ·have e:b=(s1.heap.push {cls:=.type "dict_values",data:=.fields #[.ref d]}).objs.size:=by simpa using hb
  have hb':s1.heap.objs.size<=b:=by rw [e,hsz];lia
  exact I2.fpOk hb' (I2.hok.fresh hb')
section
variable {X:Cx}
noncomputable def xV (H:Hp):List V->List (List Key×Key)->Prop:=Paired fun y k=> ∃ b c,y=.ref b/\H b=some (.tup [.ref c,kV k.2])/\H c=some (.tup (k.1.map kV))
end
noncomputable def AlkT (H:Hp):Nat->V->V->Prop
 | 0,v,u=>(∃ z,v=.str z/\u=.str z)\/ ∃ i,v=.int i/\u=.int i
 | n+1,v,u=>((∃ z,v=.str z/\u=.str z)\/ ∃ i,v=.int i/\u=.int i)\/ ∃ a b xs ys,v=.ref a/\u=.ref b/\H a=some (.tup xs)/\H b=some (.tup ys)/\Paired (AlkT H n) xs ys
theorem AlkT.eqAt {X:Cx} {pins:List (Addr×Obj)} {σ:St} {H:Hp} {s:Shared} (I:Inv X pins σ H s): ∀ (n:Nat) {A:Around} {v u:V} {x y:Value},A.units+n<cLine->AlkT H n v u->RelV v x->RelV u y->SeqAt.EqAt A s x y true:=by
 have leaf: ∀ {A:Around} {v u:V} {x y:Value},((∃ z,v=.str z/\u=.str z)\/ ∃ i,v=.int i/\u=.int i)->RelV v x->RelV u y->SeqAt.EqAt A s x y true:=by
  rintro A v u x y (⟨z,rfl,rfl⟩ | ⟨i,rfl,rfl⟩) r1 r2
  ·obtain ⟨t1,rfl⟩:=(show ∃ t,x=Value.str z t from r1)
   obtain ⟨t2,rfl⟩:=(show ∃ t,y=Value.str z t from r2)
   simpa using SeqAt.EqAt.str_str (A:=A) (s:=s) z t1 z t2
  ·obtain ⟨t1,rfl⟩:=(show ∃ t,x=Value.int i t from r1)
   obtain ⟨t2,rfl⟩:=(show ∃ t,y=Value.int i t from r2)
   simpa using SeqAt.EqAt.int_int (A:=A) (s:=s) i t1 i t2
 intro n
 induction n with
 | zero=>intro A v u x y _ h r1 r2;exact leaf h r1 r2
 | succ n ih=>
  intro A v u x y hu h r1 r2
  rcases h with h | ⟨a,b,xs,ys,rfl,rfl,ha,hb,hp⟩
  ·exact leaf h r1 r2
  ·cases (show x=Value.ref a from r1)
   cases (show y=Value.ref b from r2)
   by_cases hab:a=b
   ·subst hab;exact SeqAt.EqAt.same _
   obtain ⟨its,r,p,_⟩:=I.seqS (c:=true) ha
   obtain ⟨its2,r2,p2,_⟩:=I.seqS (c:=true) hb
   have hu1:A.in1.units+n<cLine:=by show A.units+1+n<cLine;lia
   obtain ⟨hl,hj⟩:=eE (R:=fun x y=>SeqAt.EqAt A.in1 s x y true) (fun v u x y g q1 q2=>ih hu1 g q1 q2) hp r r2
   have:=SeqAt.RcAt.tuples (e:=fun _=>true) p p2 (by lia:A.units<cLine) (fun j h1 h2=>by simpa using hj j (by simpa using h1) (by simpa using h2))
   rw [show ((List.range (min its.toArray.size its2.toArray.size)).all (fun _=>true)&&its.toArray.size==its2.toArray.size)=true by simp [hl]]at this
   exact SeqAt.EqAt.of_refs hab this
noncomputable def zn (n:Nat):R2:=fun x y H Q=> ∃ a b xs ys,x=.ref a/\y=.ref b/\H a=some (.lst xs)/\H b=some (.lst ys)/\Paired (AlkT H n) xs ys/\Q (.bl false) H
theorem ue {X:Cx} {n:Nat} (hu:X.A.units+ (n+1) <cLine):OpR X (compareOp .NotEq) (zn n):=by
 intro pins s σ H x y v u Q I rx ry h
 obtain ⟨a,b,xs,ys,rfl,rfl,ha,hb,hp,q⟩:=h
 cases rx
 cases ry
 obtain ⟨its,r,p,_⟩:=I.seqS (c:=false) ha
 obtain ⟨its2,r2,p2,_⟩:=I.seqS (c:=false) hb
 have hu1:X.A.in1.units+n<cLine:=by show X.A.units+1+n<cLine;lia
 obtain ⟨hl,hj⟩:=eE (R:=fun x y=>SeqAt.EqAt X.A.in1 s x y true) (fun v u x y g q1 q2=>AlkT.eqAt I n hu1 g q1 q2) hp r r2
 refine SeqAt.RcNeAt.lists (e:=fun _=>true) p p2 (by simpa using hl) (by lia) (fun j h1 h2=>by simpa using hj j (by simpa using h1) (by simpa using h2)) X.prog X.w X.xe _ ⟨.bl false,H,I,?_,q⟩
 show Value.bool _=Value.bool false
 simp
section
variable {X:Cx}
inductive tS  (x:V) (vs:List V) (H:Hp) (Q:VK):Prop
 | mk: ∀ z,(x=.str z)->(vs=[])->(z.length<=1000)->(Q (.str (Txt.upper z)) H)->tS x vs H Q
theorem uC:MtR X "str.upper" tS:=by
 intro pins s σ H x vs v us Q I rx rv h
 obtain ⟨z,rfl,rfl,hz,q⟩:=h
 cases rv
 obtain ⟨t,rfl⟩:=(show ∃ t,v=Value.str z t from rx)
 exact SC.upper (PyProof.Rows.fit_upper (by lia)) ⟨.str _,H,I.tok _,⟨_,rfl⟩,q⟩
inductive yD (K:PySem.W.Frag) (x:V) (y:V) (H:Hp) (Q:VK):Prop
 | mk: ∀ a b p q,(x=.ref a)->(y=.ref b)->(H a=some (.tup (List.map V.int p)))->(H b=some (.tup (List.map V.int q)))->(Q (.bl (decide (p=q))) H)->yD K x y H Q
theorem nq: ∀ {p:List Int} {us:List Value},Vals (p.map V.int) us->us.length=p.length/\ ∀ (j:Nat) (h:j<us.length) (h2:j<p.length),∃ t,us[j]=Value.int p[j] t
 | [],_,.nil=>⟨rfl,fun j h _=>absurd h (Nat.not_lt_zero _)⟩
 | i::p,_,.cons r t=>by
  obtain ⟨l,h⟩:=nq t
  refine ⟨by simp [l],fun j h1 h2=>?_⟩
  cases j with
  | zero=>exact (show ∃ t,_=Value.int i t from r)
  | succ j=>exact h j (Nat.lt_of_succ_lt_succ h1) (Nat.lt_of_succ_lt_succ h2)
theorem xS {p q:List Int}:((List.range (min p.length q.length)).all (fun j=>decide (p[j]? =q[j]?))&&p.length==q.length)=decide (p=q):=by
 by_cases e:p=q
 ·subst e
  rw [decide_eq_true rfl]
  simp
 ·rw [decide_eq_false e]
  cases hc:((List.range (min p.length q.length)).all (fun j=>decide (p[j]? =q[j]?))&&p.length==q.length)with
  | false=>rfl
  | true=>
   rw [Bool.and_eq_true]at hc
   have hl:p.length=q.length:=by simpa using hc.2
   refine absurd (List.ext_getElem? fun j=>?_) e
   by_cases hj:j<p.length
   ·have:=List.all_eq_true.mp hc.1 j (List.mem_range.mpr (by lia))
    simpa using this
   ·rw [List.getElem?_eq_none (by lia),List.getElem?_eq_none (by lia)]
theorem xp (hu:X.A.units<cLine):OpR X (compareOp .Eq) (yD X.K):=by
 intro pins s σ H x y v u Q I rx ry h
 obtain ⟨a,b,p,q,rfl,rfl,ha,hb,hq⟩:=h
 cases rx
 cases ry
 obtain ⟨its,r,pl,_⟩:=I.seqS (c:=true) ha
 obtain ⟨its2,r2,pl2,_⟩:=I.seqS (c:=true) hb
 obtain ⟨l1,e1⟩:=nq r
 obtain ⟨l2,e2⟩:=nq r2
 refine SeqAt.RcAt.tuples (e:=fun j=>decide (p[j]? =q[j]?)) pl pl2 hu (fun j h1 h2=>?_) X.prog X.w X.xe _ ⟨.bl (decide (p=q)),H,I,?_,hq⟩
 ·have h1':j<its.length:=by simpa using h1
  have h2':j<its2.length:=by simpa using h2
  obtain ⟨t1,z1⟩:=e1 j h1' (by lia)
  obtain ⟨t2,z2⟩:=e2 j h2' (by lia)
  have:=SeqAt.EqAt.int_int (A:=X.A.in1) (s:=s) p[j] t1 q[j] t2
  simp only [List.getElem_toArray,z1,z2]
  rw [List.getElem?_eq_getElem (by lia),List.getElem?_eq_getElem (by lia)]
  rw [show decide (some p[j]=some q[j])=(p[j]==q[j])from by by_cases z:p[j]=q[j] <;> simp [z]]
  exact this
 ·show Value.bool _=Value.bool _
  rw [<- xS,<- l1,<- l2]
  simp
theorem oC {P P':Program} {w w':World} {H:Hp} {h:Heap} {a:Addr} {k:List Key×Key} (ok:HOk P w H h) (e: ∃ c,H a=some (.tup [.ref c,kV k.2])/\H c=some (.tup (k.1.map kV))):IsPairKey (aU P' w') (aU P' w') h k a:=by
 obtain ⟨c,e1,e2⟩:=e
 obtain ⟨_,its,r,o,h1,h2,n,h3⟩:=(show ObjOk P w H h a (.tup [.ref c,kV k.2])from ok a _ e1)
 obtain ⟨u,v,rfl,ru,rv⟩:=r.two
 cases (show u=Value.ref c from ru)
 exact ⟨o,_,n,c,v,h1,h2,h3,by simp,nk ok e2,io rv⟩
instance zR (k:List Key×Key) (kss:List (List Key×Key)):Decidable (k∈kss):=decidable_of_iff (kss.any (fun l=>decide (l=k))=true) ⟨fun h=>by
  obtain ⟨x,hx,e⟩:=List.any_eq_true.mp h
  rw [<- of_decide_eq_true e]
  exact hx,fun h=>List.any_eq_true.mpr ⟨k,h,decide_eq_true rfl⟩⟩
theorem vD {pins:List (Addr×Obj)} {σ:St} {H:Hp} {s:Shared} (I:Inv X pins σ H s) (hu:X.A.units+16<cLine) {a b:Addr} {k l:List Key×Key} (ha: ∃ c,H a=some (.tup [.ref c,kV k.2])/\H c=some (.tup (k.1.map kV))) (hb: ∃ c,H b=some (.tup [.ref c,kV l.2])/\H c=some (.tup (l.1.map kV))):
  SeqAt.EqAt X.A.in1 s (.ref a) (.ref b) (decide (k=l)):=fun prog w' E Q hq=>et (show X.A.units+1+8<cLine by lia) (oC I.hok ha) (oC I.hok hb) hq
theorem xg {pins:List (Addr×Obj)} {σ:St} {H:Hp} {s:Shared} (I:Inv X pins σ H s) (hu:X.A.units+16<cLine) {a:Addr} {k:List Key×Key} (ha: ∃ c,H a=some (.tup [.ref c,kV k.2])/\H c=some (.tup (k.1.map kV))):
  ∀ {ys:List V} {us:List Value} {kss:List (List Key×Key)},Vals ys us->xV H ys kss-> ∃ e:Value->Bool,(∀ u∈us,SeqAt.EqAt X.A.in1 s u (.ref a) (e u))/\us.any e=decide (k∈kss):=by
 let e:Value->Bool:=fun u=>match u with
  | .ref b=>(match H b with
   | some (.tup [.ref c,z])=>(match H c with
    | some (.tup xs)=>decide (xs=k.1.map kV/\z=kV k.2)
    | _=>false)
   | _=>false)
  | _=>false
 have he: ∀ {b c:Addr} {l:List Key×Key},H b=some (.tup [.ref c,kV l.2])->H c=some (.tup (l.1.map kV))->e (.ref b)=decide (l=k):=fun {b c l} h1 h2=>by
  show (match H b with
   | some (.tup [.ref c,z])=>(match H c with
    | some (.tup xs)=>decide (xs=k.1.map kV/\z=kV k.2)
    | _=>false)
   | _=>false)=_
  rw [h1]
  show (match H c with
    | some (.tup xs)=>decide (xs=k.1.map kV/\kV l.2=kV k.2)
    | _=>false)=_
  rw [h2]
  show decide (l.1.map kV=k.1.map kV/\kV l.2=kV k.2)=decide (l=k)
  refine decide_eq_decide.mpr ⟨fun ⟨x,y⟩=>Prod.ext (nn x) (uP y),fun x=>by rw [x];exact ⟨rfl,rfl⟩⟩
 intro ys us kss r h
 refine ⟨e,?_⟩
 induction r generalizing kss with
 | nil=>cases h;exact ⟨fun u hu=>(by cases hu),(decide_eq_false (by simp)).symm⟩
 | @cons y u ys us r1 t ih=>
  cases h with
  | @cons _ l _ kss h1 t2=>
   obtain ⟨b,c,rfl,hb,hc⟩:=h1
   cases (show u=Value.ref b from r1)
   obtain ⟨i1,i2⟩:=ih t2
   refine ⟨fun v hv=>?_,?_⟩
   ·rcases List.mem_cons.mp hv with z | z
    ·rw [z,he hb hc]
     exact vD I hu ⟨c,hb,hc⟩ ha
    ·exact i1 v z
   ·rw [List.any_cons,he hb hc,i2]
    by_cases z:l=k
    ·have m:k∈l::kss:=by rw [z];exact List.mem_cons_self
     rw [decide_eq_true z,decide_eq_true m,Bool.true_or]
    ·rw [decide_eq_false z,Bool.false_or]
     refine decide_eq_decide.mpr ⟨fun h=>List.mem_cons_of_mem _ h,fun h=>?_⟩
     rcases List.mem_cons.mp h with y | y
     ·exact absurd y.symm z
     ·exact y
inductive nU (K:PySem.W.Frag) (x:V) (y:V) (H:Hp) (Q:VK):Prop
 | mk: ∀ a p k ys kss,(x=.ref a)->(y=.ref p)->((∃ c,H a=some (.tup [.ref c,kV (Prod.snd k)])/\H c=some (.tup (List.map kV (Prod.fst k)))))->(SqL K H p ys)->(xV H ys kss)->(Q (.bl (!decide (k∈kss))) H)->nU K x y H Q
theorem oh (hu:X.A.units+16<cLine):OpR X (compareOp .NotIn) (nU X.K):=by
 intro pins s σ H x y v u Q I rx ry h
 obtain ⟨a,p,k,ys,kss,rfl,rfl,ha,hp,hk,q⟩:=h
 cases rx
 cases ry
 obtain ⟨its,r,pl,hz⟩:=I.list hp
 obtain ⟨e,h1,h2⟩:=xg I hu ha r hk
 refine SeqAt.notIn_listAt e pl.isList (fun w hw=>h1 w (by simpa using hw)) ⟨.bl _,H,I,rfl,?_⟩
 rw [show its.toArray.any e=its.any e by simp,h2]
 exact q
inductive yC (n:Nat) (x:V) (y:V) (H:Hp) (Q:VK):Prop
 | mk: ∀ a b xs ys,(x=.ref a)->(y=.ref b)->(H a=some (.lst xs))->(H b=some (.lst ys))->(Paired (AlkT H n) xs ys)->(Q (.bl true) H)->yC n x y H Q
theorem xo {n:Nat} (hu:X.A.units+ (n+1) <cLine):OpR X (compareOp .Eq) (yC n):=by
 intro pins s σ H x y v u Q I rx ry h
 obtain ⟨a,b,xs,ys,rfl,rfl,ha,hb,hp,q⟩:=h
 cases rx
 cases ry
 obtain ⟨its,r,p,_⟩:=I.seqS (c:=false) ha
 obtain ⟨its2,r2,p2,_⟩:=I.seqS (c:=false) hb
 have hu1:X.A.in1.units+n<cLine:=by show X.A.units+1+n<cLine;lia
 obtain ⟨hl,hj⟩:=eE (R:=fun x y=>SeqAt.EqAt X.A.in1 s x y true) (fun v u x y g q1 q2=>AlkT.eqAt I n hu1 g q1 q2) hp r r2
 refine SeqAt.RcAt.lists (e:=fun _=>true) p p2 (by simpa using hl) (by lia) (fun j h1 h2=>by simpa using hj j (by simpa using h1) (by simpa using h2)) X.prog X.w X.xe _ ⟨.bl true,H,I,?_,q⟩
 show Value.bool _=Value.bool true
 simp
noncomputable def yd (sp:Sp) (C:Addr) (t:TA) (i:Nat) (ts:TS):TS:=fun D σ H=>t σ H fun vs H1=>sp vs H1 (fun _ H2=>D.nx σ H2) fun _ _ H2=> ∀ x,H2 x=none->
 ts {nx:=fun σ' H3=>D.nx (σ'.set i none) H3,rt:=fun _ _=>False} (σ.set i (some (.ref x))) (upd H2 x (ExO x C))
theorem vB {C CB f:Addr} {fd:FuncData} {ps:List Str} {sp:Sp} {k i:Nat} {fn cb n:Str} {e:Expr} {es:List Expr} {t:TA} {ts:TS} {p cp ap np hp tp:Pos} {b₀:Stmt} {suite:List Stmt} {rest:List ExceptHandler}
  (hxe: ∀ e s,X.xe e s->False) (hst:X.stack=X.env::X.outer) (hfr:X.env.frame=some X.env.locals) (hN:X.N.Nodup)
  (F:aE X.prog X.w X.K X.mg X.base (CX1 X.prog X.w C) k f fd ps sp) (hr:Room k X.A) (hgf:Gl X fn) (hmf:X.mg fn=some (.ref f)) (hkf:PySem.W.keepIn X.K (.ref f)=true) (hb:Binds X.K fd ps []) (ha:PA X (e::es) t)
  (hi:X.N[i]? =some n) (hk:X.env.scope.names.lookup n=some .local) (hg:Gl X cb) (hm:X.mg cb=some (.ref CB)) (Z:CaC X.K C CB)
  (hs: ∀ x,PSs (X.marked (.ref x)) (b₀::suite) ts) (hd:(cb==("__debug__":Str))=false:=by decide) (hdb:(fn==("__debug__":Str))=false:=by decide)
  (hsw:swapsWith (.Call (.Name fn p) (e::es) [] cp) none ap.line X.env=pure false:=by rfl)
  (he:starEach (e::es) X.env=(false,eval e X.env)::starEach es X.env:=by rfl) (hpl:(backTo cp (starEach es X.env)).any (·.1)=false:=by rfl):
  PS X (.Try [.Expr (.Call (.Name fn p) (e::es) [] cp) ap] (.ExceptHandler (some (.Name cb np)) (some n) (b₀::suite) hp::rest) [] [] tp) (yd sp C t i ts):=by
 intro pins s σ H D I h
 refine wpAny_Try_except (wpAny_execs_cons (wpAny_Expr_any ?_ I.quiet hsw))
 refine wpAny_Call_Name_kw (im I hgf hmf ?_ hdb)
 refine PySem.W.callWith_K (h₀:=X.base) I.ok.mod.kin hkf (wpAny_mono (ha cp pins s σ H _ I h) (fun us s1 ⟨vs,H1,I1,r,q⟩=>⟨I1.kIn,?_⟩) fun e s z=>(hxe e s z).elim) he hpl
 have hl:(us++[]).length=ps.length:=by rw [List.append_nil,<- r.length];exact F.len _ _ _ _ q
 have hb':=hb s1 us I1.kIn hl
 rw [List.append_nil]at hb'
 refine wpAny_call (codeAny_mono (F.run X.A X.stack s1 H1 ⟨us,[]⟩ us vs _ _ hr I1.env0 hb' r q) fun r2 s2 hq=>?_)
 cases r2 with
 | error e2=>
  obtain ⟨x,T,H2,rfl,os,bare,un,hok,rc,nx,nT,fx,fT,q2⟩:=hq
  exact vY I1 ⟨un,hok,rc,nx,nT,fx,fT⟩ os bare hst hfr hN hi hk hg hm Z (hs x) (q2 x fx) hd
 | ok fl=>
  cases fl with
  | ret u=>
   obtain ⟨v,H2,I2,r2,q2⟩:=I1.after hq
   exact wpAny_execs_nil (wpAny_execs_nil ⟨_,_,I2,q2⟩)
  | next=>exact False.elim hq
  | brk=>exact False.elim hq
  | cont=>exact False.elim hq
end
end L2
namespace My
open PySem L2
variable {P:Program} {w:World} {K:PySem.W.Frag} {mg:Str->Option Value} {base:Heap} {C CB D0 D1 D10 D11 D12 D13 D14 D15 D16 D17 D2 D3 D4 D5 D6 D7 D9 aD aR f f10 f2 f3 f4 f5 f6 f7 f8 f9 g:Addr} {fd fd10 fd2 fd3 fd4 fd5 fd6 fd7 fd8 fd9 gd:FuncData}
noncomputable def uI (c:Nat):Bool:=decide (97<=c/\c<=122)
noncomputable def cj (x:Str):Bool:=decide (1<=x.length)&&decide (x.length<=8)&&x.cps.toList.all uI
noncomputable def ops:List Str:=["plus","less","times","least","most"]
inductive Fm where
 | num (n:Int)
 | own (x:Str)
 | part (k:Int) (x:Str)
 | bin (op:Str) (a b:Fm)
 | whn (a b c:Fm)
noncomputable def Fm.size:Fm->Nat
 | .num _=>1
 | .own _=>1
 | .part _ _=>1
 | .bin _ a b=>a.size+b.size+1
 | .whn a b c=>a.size+b.size+c.size+1
noncomputable def Fm.wf:Fm->Prop
 | .num n=> -999999<=n/\n<=999999
 | .own x=>cj x=true
 | .part k x=>(0<=k/\k<=2)/\cj x=true
 | .bin op a b=>op∈ops/\a.wf/\b.wf
 | .whn a b c=>a.wf/\b.wf/\c.wf
theorem Fm.size_pos: ∀ f:Fm,1<=f.size
 | .num _=>Nat.le_refl 1
 | .own _=>Nat.le_refl 1
 | .part _ _=>Nat.le_refl 1
 | .bin _ a b=>by show 1<=a.size+b.size+1;lia
 | .whn a b c=>by show 1<=a.size+b.size+c.size+1;lia
noncomputable def Rep (H:Hp):Fm->V->Prop
 | .num n,v=> ∃ a,v=.ref a/\H a=some (.tup [.str "num",.int n])
 | .own x,v=> ∃ a,v=.ref a/\H a=some (.tup [.str "own",.str x])
 | .part k x,v=> ∃ a,v=.ref a/\H a=some (.tup [.str "part",.int k,.str x])
 | .bin op A B,v=> ∃ a u w,v=.ref a/\H a=some (.tup [.str op,u,w])/\Rep H A u/\Rep H B w
 | .whn A B C,v=> ∃ a u w z,v=.ref a/\H a=some (.tup [.str "when",u,w,z])/\Rep H A u/\Rep H B w/\Rep H C z
noncomputable def TK (H H':Hp):Prop:= ∀ a xs,H a=some (.tup xs)->H' a=some (.tup xs)
theorem TK.refl (H:Hp):TK H H:=fun _ _ h=>h
theorem TK.trans {H H1 H2:Hp} (a:TK H H1) (b:TK H1 H2):TK H H2:=fun c o h=>b c o (a c o h)
theorem TK.upd {H:Hp} {p:Addr} {o:HO} (h: ∀ xs,H p≠some (.tup xs)):TK H (upd H p o):=fun a xs e=>by
 by_cases q:a=p
 ·subst q
  exact absurd e (h xs)
 ·rw [ah q]
  exact e
theorem TK.lst {H:Hp} {p:Addr} {o:HO} {ys:List V} (h:H p=some (.lst ys)):TK H (L2.upd H p o):=TK.upd fun xs e=>by rw [h]at e;cases e
theorem TK.new {H:Hp} {p:Addr} {o:HO} (h:H p=none):TK H (L2.upd H p o):=TK.upd fun xs e=>by rw [h]at e;cases e
theorem Rep.mono {H H':Hp} (t:TK H H'): ∀ {f:Fm} {v:V},Rep H f v->Rep H' f v
 | .num _,_,⟨a,e,h⟩=>⟨a,e,t _ _ h⟩
 | .own _,_,⟨a,e,h⟩=>⟨a,e,t _ _ h⟩
 | .part _ _,_,⟨a,e,h⟩=>⟨a,e,t _ _ h⟩
 | .bin _ _ _,_,⟨a,u,w,e,h,r1,r2⟩=>⟨a,u,w,e,t _ _ h,Rep.mono t r1,Rep.mono t r2⟩
 | .whn _ _ _,_,⟨a,u,w,z,e,h,r1,r2,r3⟩=>⟨a,u,w,z,e,t _ _ h,Rep.mono t r1,Rep.mono t r2,Rep.mono t r3⟩
noncomputable def isV (T:String) (H:Hp) (v:V):Bool:=match v with
 | .bl _=>T=="bool"||T=="int"
 | .int _=>T=="int"
 | .str _=>T=="str"
 | .ref a=>(match H a with | some (.lst _)=>T=="list" | some (.tup _)=>T=="tuple" | some (.dK _)=>T=="dict" | _=>false)
 | _=>false
noncomputable def Sh (H:Hp):V->Prop
 | .non=>True
 | .bl _=>True
 | .int _=>True
 | .str x=>x.length<=1000
 | .ref a=>(∃ xs,H a=some (.lst xs))\/(∃ xs,H a=some (.tup xs))\/ ∃ kvs,H a=some (.dK kvs)
 | _=>False
section
variable {X:Cx}
theorem vU (K:PySem.W.Frag) (t T:String) (ht:t∈["NoneType","bool","int","str","list","tuple","dict"]) (hT:T∈["bool","int","str","list","tuple","dict"]):
  PySem.W.kitOne K (.type t) (.type T)=some (t==T||(t=="bool"&&T=="int")):=by
 simp only [List.mem_cons,List.not_mem_nil,or_false]at ht hT
 rcases ht with rfl | rfl | rfl | rfl | rfl | rfl | rfl <;> rcases hT with rfl | rfl | rfl | rfl | rfl | rfl <;> first | rfl | (with_unfolding_all rfl) | (with_unfolding_all decide)
theorem e7:fb X (.builtin "isinstance") (fun xs H Q=> ∃ x T,xs=[x,.ty T]/\Sh H x/\T∈["bool","int","str","list","tuple","dict"]/\Q (.bl (isV T H x)) H):=by
 intro pins s σ H xs us Q I r h
 obtain ⟨x,T,rfl,hs,hT,q⟩:=h
 have go: ∀ t,iA X.K H x (.type t)->t∈["NoneType","bool","int","str","list","tuple","dict"]->isV T H x=(t==T||(t=="bool"&&T=="int"))->wpAny (model X.prog X.w) X.A (call (.builtin "isinstance") us) (EP X pins σ Q) X.xe s:=by
  intro t ty ht e
  refine vb pins s σ H _ us Q I r ⟨x,T,.type t,_,rfl,ty,vU X.K t T ht hT,?_⟩
  rw [<- e]
  exact q
 have hTT:=hT
 simp only [List.mem_cons,List.not_mem_nil,or_false]at hTT
 cases x with
 | non=>exact go _ .non (by simp) (by rcases hTT with rfl | rfl | rfl | rfl | rfl | rfl <;> rfl)
 | bl b=>exact go _ (.bl b) (by simp) (by rcases hTT with rfl | rfl | rfl | rfl | rfl | rfl <;> rfl)
 | int i=>exact go _ (.int i) (by simp) (by rcases hTT with rfl | rfl | rfl | rfl | rfl | rfl <;> rfl)
 | str z=>exact go _ (.str z) (by simp) (by rcases hTT with rfl | rfl | rfl | rfl | rfl | rfl <;> rfl)
 | ref a=>
  rcases hs with ⟨ys,e⟩ | ⟨ys,e⟩ | ⟨ys,e⟩
  ·exact go _ (.lst e) (by simp) (by simp only [isV,e];rcases hTT with rfl | rfl | rfl | rfl | rfl | rfl <;> rfl)
  ·exact go _ (.tup e) (by simp) (by simp only [isV,e];rcases hTT with rfl | rfl | rfl | rfl | rfl | rfl <;> rfl)
  ·exact go _ (.dK e) (by simp) (by simp only [isV,e];rcases hTT with rfl | rfl | rfl | rfl | rfl | rfl <;> rfl)
 | byt _=>exact hs.elim
 | flt _=>exact hs.elim
 | ty _=>exact hs.elim
end
noncomputable def top (i:Nat):Stmt:=PySem.Challenge.pw_boughworth_k26_what_spots_read.main.body.getD i (.Pass ⟨0,0,0,0⟩)
noncomputable abbrev pz:Stmt:=top 23
noncomputable abbrev md:Stmt:=top 24
noncomputable abbrev pk:Stmt:=top 25
noncomputable abbrev jA:Stmt:=top 27
noncomputable abbrev jF:Stmt:=top 28
noncomputable abbrev fj:Stmt:=top 29
noncomputable abbrev fk:Stmt:=top 30
noncomputable abbrev pA:Stmt:=top 31
noncomputable abbrev w6:Stmt:=top 32
noncomputable abbrev fP:Stmt:=top 33
noncomputable abbrev jB:Stmt:=top 34
noncomputable abbrev pC:Stmt:=top 35
noncomputable abbrev mf:Stmt:=top 37
noncomputable abbrev ib:Stmt:=top 38
noncomputable abbrev jD:Stmt:=top 40
noncomputable abbrev tI:Stmt:=top 41
noncomputable abbrev jh:Stmt:=top 42
noncomputable abbrev pi:Stmt:=top 43
noncomputable abbrev tG:Stmt:=top 44
noncomputable abbrev fi:Stmt:=top 45
noncomputable abbrev me:Stmt:=top 46
noncomputable abbrev tL:Stmt:=top 48
noncomputable abbrev tH:Stmt:=top 49
noncomputable abbrev pB:Stmt:=top 50
noncomputable abbrev fQ:Stmt:=top 51
noncomputable abbrev mh:Stmt:=top 52
noncomputable abbrev tJ:Stmt:=top 53
noncomputable abbrev eU:Stmt:=top 54
noncomputable abbrev pj:Stmt:=top 55
noncomputable abbrev fO:Stmt:=top 56
noncomputable abbrev dY:Stmt:=top 57
noncomputable abbrev pp:Stmt:=top 58
noncomputable abbrev fH:Stmt:=top 59
noncomputable abbrev jE:Stmt:=top 60
noncomputable abbrev jz:Stmt:=top 61
noncomputable abbrev mq:Stmt:=top 62
noncomputable abbrev jg:Stmt:=top 63
noncomputable abbrev mn:Stmt:=top 64
noncomputable abbrev ia:Stmt:=top 65
noncomputable abbrev jf:Stmt:=top 66
noncomputable abbrev mr:Stmt:=top 67
noncomputable abbrev mw:Stmt:=top 68
noncomputable abbrev tK:Stmt:=top 69
noncomputable abbrev gk:Stmt:=top 70
noncomputable abbrev mx:Stmt:=top 71
noncomputable abbrev mj:Stmt:=top 72
noncomputable abbrev jC:Stmt:=top 73
noncomputable abbrev rj:Stmt:=top 74
structure Gb (mg:Str->Option Value):Prop where
 isi:mg "isinstance"=none
 int:mg "int"=none
 bool:mg "bool"=none
 str:mg "str"=none
 tuple:mg "tuple"=none
 len:mg "len"=none
 all:mg "all"=none
 range:mg "range"=none
 max:mg "max"=none
 min:mg "min"=none
noncomputable def sJ:V->Bool
 | .int _=>true
 | _=>false
noncomputable def qf (lo hi:Int):V->Bool
 | .int i=>decide (lo<=i)&&decide (i<=hi)
 | _=>false
noncomputable def wC:V->Bool
 | .str x=>cj x
 | _=>false
theorem vW {H:Hp} {v:V} (h:Sh H v):(if isV "int" H v=true then !isV "bool" H v else false)=sJ v:=by
 cases v with
 | ref a=>rcases h with ⟨ys,e⟩ | ⟨ys,e⟩ | ⟨ys,e⟩ <;> (simp only [isV,e];rfl)
 | _=>rfl
theorem qb {Q:VK} {b b':Bool} {H:Hp} (q:Q (.bl b) H) (e:b=b'):Q (.bl b') H:=e▸q
theorem af {H:Hp} {p:Addr} (h:H p=none) (o:HO):Same H (upd H p o):=fun b u q=>by rw [ah (ai q h)];exact q
noncomputable def ql:Sp:=fun vs H Q _=> ∃ v,vs=[v]/\Sh H v/\Q (.bl (sJ v)) H
noncomputable def dJ (k:Str):Option Nat:=if k∈ops then some 2 else if k="when" then some 3 else none
noncomputable def yJ (p:V->Bool):List V->Bool
 | [x]=>p x
 | _=>false
noncomputable def za (p:V->V->Bool):List V->Bool
 | [x,y]=>p x y
 | _=>false
noncomputable def zy:List V->Bool
 | .str k::r=>(match dJ k with
  | some n=>decide (r.length=n)
  | none=>if k="num" then yJ (qf (-999999) 999999) r
   else if k="own" then yJ wC r
   else if k="part" then za (fun x y=>qf 0 2 x&&wC y) r else false)
 | _=>false
noncomputable def dA:List V->List V
 | .str k::r=>if (dJ k).isSome then r else []
 | _=>[]
noncomputable def lc:List (Key×V):=[(.inr "plus",.int 2),(.inr "less",.int 2),(.inr "times",.int 2),(.inr "least",.int 2),(.inr "most",.int 2),(.inr "when",.int 3)]
theorem xH (k:Str):aO lc (.inr k)=(dJ k).map fun (n:Nat)=>V.int n:=by
 unfold dJ ops lc
 by_cases h1:k="plus"
 ·subst h1;decide +kernel
 by_cases h2:k="less"
 ·subst h2;decide +kernel
 by_cases h3:k="times"
 ·subst h3;decide +kernel
 by_cases h4:k="least"
 ·subst h4;decide +kernel
 by_cases h5:k="most"
 ·subst h5;decide +kernel
 by_cases h6:k="when"
 ·subst h6;decide +kernel
 have ne: ∀ {y:Str},¬ k=y-> ¬ (Sum.inr y:Key)=Sum.inr k:=fun h e=>h (Sum.inr.inj e).symm
 rw [bc (ne h1),bc (ne h2),bc (ne h3),bc (ne h4),bc (ne h5),bc (ne h6),sM,if_neg,if_neg h6]
 ·rfl
 ·simp only [List.mem_cons,List.not_mem_nil,or_false,not_or]
  exact ⟨h1,h2,h3,h4,h5⟩
theorem cq {α:Type} {x:α} {r:List α}:atI (x::r) 0=some x:=aF (j:=0) rfl
theorem zI {α:Type} {x y:α} {r:List α}:atI (x::y::r) 1=some y:=aF (j:=1) rfl
theorem zH {α:Type} {x y z:α} {r:List α}:atI (x::y::z::r) 2=some z:=aF (j:=2) rfl
noncomputable def qo:Sp:=fun vs H Q _=> ∃ a k r,vs=[.ref a]/\H a=some (.tup (.str k::r))/\r.length<=1000/\ ∀ p H',Same H H'->H' p=some (.tup (dA (.str k::r)))->Q (.ref p) H'
theorem vw:aG ["formula"] ["formula"] (ak pz):=fsc
theorem ur (F:Fun K "inner_of" "inner_of" pz f fd) (mD:mg "INNER_COUNTS"=some (.ref aD)) (D:wB P w K aD lc):aE P w K mg base CX0 1 f fd ["formula"] qo:=by
 refine F.ok vw (fun vs H Q E h=>?_) (fun cdv A outer s H vs Q E hr h=>?_)
 ·obtain ⟨a,k,r,rfl,_⟩:=h
  rfl
 obtain ⟨a,k,r,rfl,ha,hl,q⟩:=h
 refine ⟨_,aj (aL (n5 (aM xn (ar (r:=aW K) ax (pv 0) ag (fun _ _=>rfl)) (bt (v:=.ref aD) rfl mD rfl) (by with_unfolding_all rfl)) (bj tm (pv 0) (bq ag) cg) (aK ad))),?_⟩
 refine ⟨_,rfl,a,_,0,_,rfl,rfl,SqT.of ha,cq,.inr k,aD,lc,rfl,rfl,D,_,rfl,?_⟩
 have hv:=xH k
 cases hk:dJ k with
 | none=>
  rw [hk]at hv
  refine cs (fun c=>?_) (fun c=>?_)
  ·rw [hv]at c
   exact absurd c (by decide)
  ·refine ⟨(by show 0<=sizeLine;decide),fun p hp=>?_⟩
   refine q p _ (af hp _) ?_
   rw [ac]
   show some (HO.tup [])=some (HO.tup (if (dJ k).isSome=true then r else []))
   rw [hk]
   rfl
 | some n=>
  rw [hk]at hv
  refine cs (fun c=>?_) (fun c=>?_)
  ·refine ⟨_,rfl,1,rfl,a,_,rfl,SqT.of ha,?_,fun p hp=>?_⟩
   ·rintro ⟨h1,_⟩
    have:HT.sIx (V.str k::r).length 0 (some 1)=min 1 (V.str k::r).length:=HT.sIx_nat _ _ 1
    rw [this,List.length_cons]at h1
    lia
   ·refine q p _ (af hp _) ?_
    rw [ac]
    have e1:HT.sIx (V.str k::r).length 0 (some 1)=1:=by
     have:HT.sIx (V.str k::r).length 0 (some 1)=min 1 (V.str k::r).length:=HT.sIx_nat _ _ 1
     rw [this,List.length_cons]
     lia
    have e2:cV (V.str k::r) (some 1) none=r:=by
     unfold cV
     rw [e1,HT.sIx_none,List.length_cons,List.drop_one,List.tail_cons,Nat.add_sub_cancel,List.take_length]
    show some (HO.tup (cV (V.str k::r) (some 1) none))=some (HO.tup (if (dJ k).isSome=true then r else []))
    rw [hk,e2]
    rfl
  ·rw [hv]at c
   exact absurd rfl c
theorem rD {k:Str} (h:k∈ops):k.length<=1000:=by
 unfold ops at h
 simp only [List.mem_cons,List.not_mem_nil,or_false]at h
 rcases h with rfl | rfl | rfl | rfl | rfl <;> decide +kernel
theorem di {x:Str} (h:cj x=true):x.length<=1000:=by
 unfold cj at h
 simp only [Bool.and_eq_true,decide_eq_true_eq]at h
 lia
theorem sk {op:Str} (h:op∈ops):dJ op=some 2:=by unfold dJ;rw [if_pos h]
theorem pV:dJ "when"=some 3:=by decide +kernel
theorem su:dJ "num"=none:=by decide +kernel
theorem la:dJ "own"=none:=by decide +kernel
theorem jX:dJ "part"=none:=by decide +kernel
inductive Ts (H:Hp):List V->List V->Prop where
 | nil:Ts H [] []
 | cons {a:Addr} {k:Str} {r vs out:List V}:H a=some (.tup (.str k::r))->k.length<=1000->r.length<=3->Ts H (dA (.str k::r)++vs) out->Ts H (.ref a::vs) (.ref a::out)
theorem Ts.len {H:Hp} {ws out:List V} (h:Ts H ws out):ws.length<=out.length:=by
 induction h with
 | nil=>exact Nat.le_refl _
 | cons _ _ _ _ ih=>
  rw [List.length_append]at ih
  rw [List.length_cons,List.length_cons]
  lia
noncomputable def nK:Sp:=fun vs H Q _=> ∃ v out,vs=[v]/\Ts H [v] out/\out.length<=1000/\ ∀ p H',Same H H'->H' p=some (.lst out)->Q (.ref p) H'
theorem scTuples:aG ["formula","found","waiting","one"] ["formula"] (ak md):=fsc
theorem rF (F:Fun K "tuples_of" "tuples_of" md f fd)
  (GI:aE P w K mg base CX0 1 f2 fd2 ["formula"] qo) (bI:Binds K fd2 ["formula"] []) (kI:PySem.W.keepIn K (.ref f2)=true) (mI:mg "inner_of"=some (.ref f2)):
  aE P w K mg base CX0 2 f fd ["formula"] nK:=by
 refine F.ok scTuples (fun vs H Q E h=>?_) (fun cdv A outer s H vs Q E hr h=>?_)
 ·obtain ⟨v,b,rfl,_⟩:=h
  rfl
 obtain ⟨v,out,rfl,hT,hout,q⟩:=h
 refine ⟨_,ae (am (i:=1) scTuples.nd rfl (Or.inl rfl) (aN ad))
  (ae (am (i:=2) scTuples.nd rfl (Or.inl rfl) (aN (aa (pv 0) ad)))
  (ae (ic PassesOwn.never (nX (pv 2) (fun _=>rfl))
   (ae (am (i:=3) scTuples.nd rfl (Or.inl rfl) (mO PySem.F.plainAttrs_list PySem.F.slot_list_pop PySem.F.type_list_pop uE (pv 2)))
   (ae (bx (dg PySem.F.plainAttrs_list PySem.F.slot_list_append PySem.F.type_list_append bn (pv 1) (aa (pv 3) ad)))
   (aj (bx (dg PySem.F.plainAttrs_list PySem.F.slot_list_extend PySem.F.type_list_extend vQ (pv 2) (aa (t8 (al GI hr rfl mI kI bI .nil aA (aa (pv 3) ad)) (gH eK ag)) ad)))))))
  (aj (aL (pv 1))))),?_⟩
 refine ⟨(by show 0<=sizeLine;decide),fun p1 h1=>?_⟩
 refine ⟨_,rfl,(by show 1<=sizeLine;decide),fun p2 h2=>?_⟩
 dsimp only [yg,oX,fY,tC]
 have n21:p1≠p2:=fun e=>by
  subst e
  rw [ac]at h2
  cases h2
 have h2':H p2=none:=by rw [ah (Ne.symm n21)]at h2;exact h2
 refine nF (fun σ H'=> ∃ (ws done rest:List V) (o:Option V),σ=[some v,some (.ref p1),some (.ref p2),o]/\H' p1=some (.lst done)/\H' p2=some (.lst ws.reverse)/\Same H H'/\Ts H ws rest/\done++rest=out)
  (fun _ H'=>match H' p1 with | some (.lst d)=>out.length-d.length | _=>0) ⟨[v],[],out,none,rfl,by rw [ah n21,ac],ac,(af h1 _).trans (af h2 _),hT,rfl⟩ ?_ ?_
 ·rintro σ H' ⟨ws,done,rest,o,rfl,g1,g2,sm,hW,he⟩
  refine ⟨_,rfl,_,.inl ⟨ws.reverse,SqL.of g2,rfl⟩,?_⟩
  have hle:done.length+rest.length=out.length:=by rw [<- he,List.length_append]
  cases hW with
  | nil=>
   refine dI ?_
   refine ⟨_,rfl,?_⟩
   rw [List.append_nil]at he
   subst he
   exact q _ _ sm g1
  | @cons a k r vs rest' ha hk hr3 ht=>
   have ne:(!((V.ref a::vs).reverse).isEmpty)=true:=by simp
   refine cs (fun _=>?_) (fun c=>absurd ne c)
   rw [List.reverse_cons]at g2
   refine ⟨_,rfl,.inl ⟨rfl,_,SqL.of g2⟩,p2,_,.ref a,rfl,rfl,g2,by simp,?_⟩
   rw [List.dropLast_concat]
   have l1: ∀ {c:Addr} {oo:HO},H c=some oo->c≠p1:=fun h=>ai h h1
   have l2: ∀ {c:Addr} {oo:HO},H c=some oo->c≠p2:=fun h=>ai h h2'
   rw [List.length_cons]at hle
   refine ⟨_,rfl,.inl ⟨rfl,_,SqL.of (show upd H' p2 (.lst vs.reverse) p1=some (.lst done) by rw [ah n21];exact g1)⟩,_,rfl,p1,done,.ref a,rfl,rfl,by rw [ah n21];exact g1,ao (by lia),?_⟩
   have sm1:Same H (upd (upd H' p2 (.lst vs.reverse)) p1 (.lst (done++[.ref a]))):=fun c oo h=>by rw [ah (l1 h),ah (l2 h)];exact sm c oo h
   have k2:upd (upd H' p2 (.lst vs.reverse)) p1 (.lst (done++[.ref a])) p2=some (.lst vs.reverse):=by rw [ah (Ne.symm n21),ac]
   refine ⟨_,rfl,.inl ⟨rfl,_,SqL.of k2⟩,_,rfl,a,k,r,rfl,sm1 _ _ ha,by lia,fun p H3 sm4 hp=>?_⟩
   have k1':H3 p1=some (.lst (done++[.ref a])):=sm4 _ _ ac
   have k2':H3 p2=some (.lst vs.reverse):=sm4 _ _ k2
   have hil:(dA (.str k::r)).length<=3:=by
    show (if (dJ k).isSome=true then r else []).length<=3
    split
    ·exact hr3
    ·exact Nat.zero_le _
   refine ⟨_,rfl,p,_,rfl,rfl,SqT.of hp,fun p4 h4=>?_⟩
   have n41:p1≠p4:=ai k1' h4
   have n42:p2≠p4:=ai k2' h4
   have hlv:=ht.len
   rw [List.length_append]at hlv
   refine ⟨p2,p4,_,_,rfl,rfl,by rw [ah n42];exact k2',SqT.of ac,?_,?_⟩
   ·rw [List.length_reverse,List.length_reverse]
    exact Nat.le_of_lt (ao (by lia))
   ·refine ⟨⟨dA (.str k::r)++vs,done++[.ref a],rest',_,rfl,by rw [ah n21,ah n41];exact k1',by rw [ac,List.reverse_append],fun c oo h=>?_,ht,by rw [List.append_assoc];exact he⟩,?_⟩
    ·have h3:=sm4 _ _ (sm1 c oo h)
     rw [ah (l2 h),ah (ai h3 h4)]
     exact h3
    ·rw [ah n21,ah n41,k1',g1]
     show out.length- (done++[V.ref a]).length<out.length-done.length
     rw [List.length_append,List.length_singleton]
     lia
 ·rintro σ H' Q1 Q2 hq ⟨y,e1,k,t,h⟩
  exact ⟨y,e1,k,t,hq _ _ h⟩
theorem tF:aG ["found"] ["found"] (ak mq):=fsc
theorem rN (F:Fun K "_law_whole" "_law_whole" mq f fd) (G:Gb mg):aE P w K mg base CX0 1 f fd ["found"] ql:=by
 refine F.ok tF (fun vs H Q E h=>?_) (fun cdv A outer s H vs Q E hr h=>?_)
 ·obtain ⟨v,rfl,_⟩:=h
  rfl
 obtain ⟨v,rfl,hS,q⟩:=h
 refine ⟨_,aj (aL (ud (aq e7 rfl G.isi (by decide +kernel) (aa (pv 0) (aa (fw (v:=.ty "int") rfl G.int (by decide +kernel) rfl) ad)))
  (tX (xj (aq e7 rfl G.isi (by decide +kernel) (aa (pv 0) (aa (fw (v:=.ty "bool") rfl G.bool (by decide +kernel) rfl) ad))))))),?_⟩
 have e:=vW hS
 refine ⟨_,rfl,v,"int",rfl,hS,by simp,_,rfl,?_⟩
 refine cs (fun c=>?_) (fun c=>?_)
 ·rw [if_pos c]at e
  refine ⟨_,rfl,v,"bool",rfl,hS,by simp,_,rfl,?_⟩
  exact qb q e.symm
 ·rw [if_neg c]at e
  exact qb q e.symm
noncomputable def RK (ks:List Key):Prop:=(∃ x:Str,ks=[.inr "own",.inr x]/\x.length<=1000)\/ ∃ (i:Int) (x:Str),ks=[.inr "part",.inl i,.inr x]/\x.length<=1000
inductive Tw (H:Hp):List V->List V->List (List Key)->Prop where
 | nil:Tw H [] [] []
 | rd {a:Addr} {ks:List Key} {vs out:List V} {rs:List (List Key)}:H a=some (.tup (ks.map kV))->RK ks->Tw H vs out rs->Tw H (.ref a::vs) (.ref a::out) (ks::rs)
 | num {a:Addr} {r vs out:List V} {rs:List (List Key)}:H a=some (.tup (.str "num"::r))->r.length<=3->Tw H vs out rs->Tw H (.ref a::vs) (.ref a::out) rs
 | inn {a:Addr} {k:Str} {r vs out:List V} {rs:List (List Key)}:H a=some (.tup (.str k::r))->(dJ k).isSome=true->k.length<=1000->r.length<=3->Tw H (r++vs) out rs->Tw H (.ref a::vs) (.ref a::out) rs
theorem Tw.mono {H H':Hp} {ws out:List V} {rs:List (List Key)} (t:TK H H') (h:Tw H ws out rs):Tw H' ws out rs:=by
 induction h with
 | nil=>exact .nil
 | rd a b _ ih=>exact .rd (t _ _ a) b ih
 | num a b _ ih=>exact .num (t _ _ a) b ih
 | inn a b c d _ ih=>exact .inn (t _ _ a) b c d ih
theorem qp {ks:List Key} (h:RK ks): ∃ (k:Str) (r:List V),ks.map kV=.str k::r/\(k="own"\/k="part")/\r.length<=3/\dJ k=none:=by
 rcases h with ⟨x,rfl,_⟩ | ⟨i,x,rfl,_⟩
 ·exact ⟨"own",_,rfl,.inl rfl,by simp,la⟩
 ·exact ⟨"part",_,rfl,.inr rfl,by simp,jX⟩
theorem Tw.ts {H:Hp} {ws out:List V} {rs:List (List Key)} (h:Tw H ws out rs):Ts H ws out:=by
 induction h with
 | nil=>exact .nil
 | @rd a ks vs out rs ha hk t ih=>
  obtain ⟨k,r,e,hk2,hl,hi⟩:=qp hk
  rw [e]at ha
  refine .cons ha ?_ hl ?_
  ·rcases hk2 with rfl | rfl <;> decide +kernel
  ·have:dA (.str k::r)=[]:=by simp only [dA,hi];rfl
   rw [this]
   exact ih
 | @num a r vs out rs ha hl t ih=>
  refine .cons ha (by decide +kernel) hl ?_
  have:dA (.str "num"::r)=[]:=by simp only [dA,su];rfl
  rw [this]
  exact ih
 | @inn a k r vs out rs ha hi hk hl t ih=>
  refine .cons ha hk hl ?_
  have:dA (.str k::r)=r:=by simp only [dA,hi];rfl
  rw [this]
  exact ih
inductive Tr (H:Hp):List V->List (List Key)->Prop where
 | nil:Tr H [] []
 | rd {a:Addr} {ks:List Key} {out:List V} {rs:List (List Key)}:H a=some (.tup (ks.map kV))->RK ks->Tr H out rs->Tr H (.ref a::out) (ks::rs)
 | no {a:Addr} {k:Str} {r out:List V} {rs:List (List Key)}:H a=some (.tup (.str k::r))-> ¬ k="own"-> ¬ k="part"->Tr H out rs->Tr H (.ref a::out) rs
theorem Tw.tr {H:Hp} {ws out:List V} {rs:List (List Key)} (h:Tw H ws out rs):Tr H out rs:=by
 induction h with
 | nil=>exact .nil
 | rd a b _ ih=>exact .rd a b ih
 | num a _ _ ih=>exact .no a (by decide +kernel) (by decide +kernel) ih
 | @inn a k r vs out rs ha hi _ _ _ ih=>
  refine .no ha (fun e=>?_) (fun e=>?_) ih
  ·rw [e,la]at hi;cases hi
  ·rw [e,jX]at hi;cases hi
noncomputable def dd (acc:List (List Key)):List (List Key)->List (List Key)
 | []=>acc
 | k::r=>dd (if k∈acc then acc else acc++[k]) r
theorem ny {P:List Key->Prop}: ∀ {rs acc:List (List Key)},(∀ k∈acc,P k)->(∀ k∈rs,P k)-> ∀ k∈dd acc rs,P k
 | [],_,h,_=>h
 | x::r,acc,h,h2=>by
  refine ny (rs:=r) (fun k hk=>?_) fun k hk=>h2 k (List.mem_cons_of_mem _ hk)
  by_cases e:x∈acc
  ·rw [if_pos e]at hk;exact h k hk
  ·rw [if_neg e]at hk
   rcases List.mem_append.mp hk with z | z
   ·exact h k z
   ·rw [List.mem_singleton.mp z];exact h2 x List.mem_cons_self
theorem gV: ∀ {rs acc:List (List Key)},(dd acc rs).length<=acc.length+rs.length
 | [],acc=>Nat.le_refl _
 | x::r,acc=>by
  have:=gV (rs:=r) (acc:=if x∈acc then acc else acc++[x])
  show (dd (if x∈acc then acc else acc++[x]) r).length<=acc.length+ (r.length+1)
  refine Nat.le_trans this ?_
  split
  ·lia
  ·rw [List.length_append,List.length_singleton];lia
theorem oB (kvs:List (List Key×V)) (k:List Key) (v:V):(aX kvs k v).map (·.1)=if k∈kvs.map (·.1)then kvs.map (·.1)else kvs.map (·.1)++[k]:=by
 unfold aX
 by_cases h:k∈kvs.map (·.1)
 ·rw [if_pos h,if_pos,List.map_map]
  ·refine List.map_congr_left fun x _=>?_
   show (if x.1=k then (x.1,v)else x).1=x.1
   split <;> rfl
  ·obtain ⟨x,hx,e⟩:=List.mem_map.mp h
   exact List.any_eq_true.mpr ⟨x,hx,decide_eq_true e⟩
 ·rw [if_neg h,if_neg,List.map_append]
  ·rfl
  ·intro z
   obtain ⟨x,hx,e⟩:=List.any_eq_true.mp z
   exact h (List.mem_map.mpr ⟨x,hx,of_decide_eq_true e⟩)
theorem dF (k:Str):inV (.str k) [.str "own",.str "part"]=(decide (k="own")||decide (k="part")):=by
 show (("own"==k)||(("part"==k)||false))=_
 rw [Bool.or_false]
 by_cases h1:k="own"
 ·subst h1;decide +kernel
 ·by_cases h2:k="part"
  ·subst h2;decide +kernel
  ·rw [decide_eq_false h1,decide_eq_false h2]
   have e1:(("own":Str)==k)=false:=beq_eq_false_iff_ne.mpr fun e=>h1 e.symm
   have e2:(("part":Str)==k)=false:=beq_eq_false_iff_ne.mpr fun e=>h2 e.symm
   rw [e1,e2]
noncomputable def qm:Sp:=fun vs H Q _=> ∃ v out rs,vs=[v]/\Tw H [v] out rs/\out.length<=1000/\ ∀ p ys H',H p=none->Same H H'->H' p=some (.lst ys)->KsOf H' ys (dd [] rs)->Q (.ref p) H'
theorem scReads:aG ["formula","found","one"] ["formula"] (ak pk):=fsc
theorem uk (F:Fun K "readings_of" "readings_of" pk f fd) (hlist:mg "list"=none) (mR:mg "READINGS"=some (.ref aR)) (hR: ∀ H,SqT K H aR [.str "own",.str "part"])
  (GT:aE P w K mg base CX0 2 f2 fd2 ["formula"] nK) (bT:Binds K fd2 ["formula"] []) (kT:PySem.W.keepIn K (.ref f2)=true) (mT:mg "tuples_of"=some (.ref f2)):
  aE P w K mg base CX0 3 f fd ["formula"] qm:=by
 refine F.ok scReads (fun vs H Q E h=>?_) (fun cdv A outer s H vs Q E hr h=>?_)
 ·obtain ⟨v,b,_,rfl,_⟩:=h
  rfl
 obtain ⟨v,out,rs,rfl,hT,hout,q⟩:=h
 have hu:=hr.units
 refine ⟨_,ae (am (i:=1) scReads.nd rfl (Or.inl rfl) ig)
  (ae (a6 PassesOwn.never rfl (cL (al GT hr rfl mT kT bT .nil aA (aa (pv 0) ad))) (au (i:=2) scReads.nd rfl (Or.inl rfl))
   (aj (bi (aM kX (ar (r:=aW K) ax (pv 2) ag (fun _ _=>rfl)) (bt (v:=.ref aR) rfl mR rfl) (by with_unfolding_all rfl))
    (aj (cA (cZ hr) (pv 1) (pv 2) n9 rfl)) aP)))
  (aj (aL (bO (qa rfl) rfl hlist (by decide +kernel) (aa (pv 1) ad))))),?_⟩
 refine fun pd hd=>?_
 have s0:=af hd (.dT [])
 have g0:(upd H pd (.dT [])) pd=some (.dT []):=ac
 generalize upd H pd (.dT [])=H0 at s0 g0 ⊢
 refine ⟨_,rfl,v,out,rfl,(hT.mono (fun _ _ h=>s0 _ _ h)).ts,hout,fun p1 H1 s1 h1=>⟨p1,rfl,⟨out,SqL.of h1⟩,?_⟩⟩
 have S1:=s0.trans s1
 have n1:pd≠p1:=fun e=>by
  subst e
  have:=s1 _ _ g0
  rw [h1]at this
  cases this
 refine cD (xs:=out) (fun i σ H'=>i<=out.length/\ ∃ o kvs rs',σ=[some v,some (.ref pd),o]/\H' pd=some (.dT kvs)/\H' p1=some (.lst out)/\Same H H'/\Tr H (out.drop i) rs'/\dd (kvs.map (·.1)) rs'=dd [] rs/\kvs.length<=i)
  ⟨Nat.zero_le _,none,[],rs,rfl,s1 _ _ g0,h1,S1,hT.tr,rfl,Nat.le_refl _⟩ (fun i σ H' _ h=>by obtain ⟨_,_,_,_,_,_,gp,_⟩:=h;exact SqL.of gp) ?_ ?_
 ·rintro i x σ H' hx ⟨hi,o,kvs,rs',rfl,gd,gp,sm,hTr,hdd,hl⟩
  have hlt:i<out.length:=(List.getElem?_eq_some_iff.mp hx).1
  have hdr:out.drop i=x::out.drop (i+1):=by
   rw [List.drop_eq_getElem_cons hlt]
   have:out[i]? =some out[i]:=List.getElem?_eq_getElem hlt
   rw [hx]at this
   rw [Option.some.inj this]
  rw [hdr]at hTr
  cases hTr with
  | @rd a ks _ rs'' ha hk t=>
   obtain ⟨k,r,e,hk2,_,_⟩:=qp hk
   have ha':=sm _ _ ha
   refine ⟨_,rfl,a,_,0,_,rfl,rfl,SqT.of (by rw [<- e];exact ha'),cq,aR,_,rfl,.inr (hR _),rfl,rfl,_,rfl,?_⟩
   refine cs (fun _=>?_) (fun c=>absurd ?_ c)
   ·refine ⟨_,rfl,_,rfl,pd,_,rfl,DPut.t gd ha' (ao (by lia)),?_⟩
    refine ⟨hlt,_,_,rs'',rfl,ac,by rw [ah (Ne.symm n1)];exact gp,fun c oo h=>by rw [ah (ai h hd)];exact sm c oo h,t,?_,?_⟩
    ·rw [oB];exact hdd
    ·have:=congrArg List.length (oB kvs ks (.bl true))
     rw [List.length_map]at this
     rw [this]
     split
     ·rw [List.length_map];lia
     ·rw [List.length_append,List.length_map,List.length_singleton];lia
   ·show inV (.str k) [.str "own",.str "part"]=true
    rw [dF]
    rcases hk2 with rfl | rfl <;> rfl
  | @no a k r _ _ ha h1' h2' t=>
   refine ⟨_,rfl,a,_,0,_,rfl,rfl,SqT.of (sm _ _ ha),cq,aR,_,rfl,.inr (hR _),rfl,rfl,_,rfl,?_⟩
   refine cs (fun c=>absurd c ?_) (fun _=>?_)
   ·show ¬ inV (.str k) [.str "own",.str "part"]=true
    rw [dF,decide_eq_false h1',decide_eq_false h2']
    decide
   ·exact ⟨hlt,_,_,rs',rfl,gd,gp,sm,t,hdd,by lia⟩
 ·rintro σ H' ⟨_,o,kvs,rs',rfl,gd,gp,sm,hTr,hdd,hl⟩
  rw [List.drop_length]at hTr
  cases hTr
  refine ⟨_,rfl,pd,kvs,rfl,gd,fun p ys hp hk=>?_⟩
  have e:kvs.map (·.1)=dd [] rs:=hdd
  rw [e]at hk
  exact q p ys _ (sm.free hp) (fun c oo h=>by rw [ah (ai (sm c oo h) hp)];exact sm c oo h) ac (hk.mono fun b xs h=>by rw [ah (ai h hp)];exact h)
noncomputable def Kp (tp:Addr) (H H':Hp):Prop:= ∀ b o,H b=some o->b≠tp->H' b=some o
theorem Kp.refl {tp:Addr} {H:Hp}:Kp tp H H:=fun _ _ h _=>h
theorem Kp.trans {tp:Addr} {H H1 H2:Hp} (a:Kp tp H H1) (b:Kp tp H1 H2):Kp tp H H2:=fun c o h n=>b c o (a c o h n) n
theorem Kp.same {tp:Addr} {H H1 H2:Hp} (a:Kp tp H H1) (b:Same H1 H2):Kp tp H H2:=fun c o h n=>b c o (a c o h n)
theorem Kp.tape {tp:Addr} {H:Hp} {o:HO}:Kp tp H (upd H tp o):=fun b u h n=>by rw [ah n];exact h
theorem Kp.new {tp p:Addr} {H H1:Hp} {o:HO} (a:Kp tp H H1) (h:H1 p=none):Kp tp H (upd H1 p o):=a.same (af h _)
noncomputable def Tp (H:Hp) (tp:Addr):Prop:= ∃ t:Int,H tp=some (.lst [.int t])
theorem Kp.tk {tp:Addr} {H H':Hp} (a:Kp tp H H') (t:Tp H tp):TK H H':=fun b xs h=>a b _ h fun e=>by
 obtain ⟨t,ht⟩:=t
 subst e
 rw [ht]at h
 cases h
theorem Tp.new {H:Hp} {tp p:Addr} {o:HO} (t:Tp H tp) (h:H p=none):Tp (upd H p o) tp:=by
 obtain ⟨t,ht⟩:=t
 exact ⟨t,by rw [ah (ai ht h)];exact ht⟩
inductive pf (K:PySem.W.Frag) (vs:List V) (H:Hp) (Q:VK) (E_:XK):Prop
 | mk: ∀ (a:Addr) (ns:List Int) (k:Int),(vs=[.ref a,.int k])->(SqL K H a (ns.map V.int))->(ns.length<=63)->(0<=k)->(∀ c:Int,Q (.int c) H)->pf K vs H Q E_
inductive iF (K:PySem.W.Frag) (vs:List V) (H:Hp) (Q:VK) (E_:XK):Prop
 | mk: ∀ (a:Addr) (ns:List Int) (k:Int),(vs=[.ref a,.int k])->(SqL K H a (ns.map V.int))->(ns.length<=63)->(0<=k)->(k<1000)->(∀ p t,H p=none->Q (.ref p) (upd H p (.lst [.int t])))->iF K vs H Q E_
inductive cf  (vs:List V) (H:Hp) (Q:VK) (E_:XK):Prop
 | mk: ∀ (tp:Addr) (m:Int),(vs=[.ref tp,.int m])->(Tp H tp)->(0<m)->(m<1073741824)->(∀ d t:Int,0<=d->d<m->Q (.int d) (upd H tp (.lst [.int t])))->cf vs H Q E_
inductive hV  (vs:List V) (H:Hp) (Q:VK) (E_:XK):Prop
 | mk: ∀ tp,(vs=[.ref tp])->(Tp H tp)->(∀ (n:Int) H',-999999<=n->n<=999999->Kp tp H H'->Tp H' tp->Q (.int n) H')->hV vs H Q E_
theorem w4:aG ["script","k"] ["script","k"] (ak tL):=fsc
theorem vM (F:Fun K "_law_cell_at" "_law_cell_at" tL f fd) (G:Gb mg):aE P w K mg base CX0 1 f fd ["script","k"] (pf K):=by
 refine F.ok w4 (fun vs H Q E h=>?_) (fun cdv A outer s H vs Q E hr h=>?_)
 ·obtain ⟨a,ns,k,rfl,_⟩:=h
  rfl
 obtain ⟨a,ns,k,rfl,hS,hl,hk,q⟩:=h
 refine ⟨_,ae (bi (aM kQ (pv 1) (aq (r:=dl K) aH rfl G.len PySem.boot_len (aa (pv 0) ad)) (aV _)) (aj (aL (ar (r:=cB K) aS (pv 0) (pv 1) (fun _ _=>rfl)))) aP) (aj (aL ag)),?_⟩
 refine ⟨_,rfl,_,rfl,a,_,rfl,.inl hS,_,_,rfl,rfl,_,rfl,?_⟩
 refine cs (fun c=>?_) (fun c=>?_)
 ·have c':k< (((ns.map V.int).length:Nat):Int):=of_decide_eq_true c
  rw [List.length_map]at c'
  have hk':k.toNat<ns.length:=by lia
  have e:atI (ns.map V.int) k=some (V.int ns[k.toNat]):=by
   have ek:k=((k.toNat:Nat):Int):=by lia
   have q:atI (ns.map V.int) ((k.toNat:Nat):Int)=some (V.int ns[k.toNat]):=aF (by rw [List.getElem?_map,List.getElem?_eq_getElem hk'] <;> rfl)
   rw [<- ek]at q
   exact q
  exact ⟨_,rfl,_,rfl,a,_,k,_,rfl,rfl,hS,e,q _⟩
 ·exact q 0
theorem scTape:aG ["script","k","cell","p","one","two","three","four"] ["script","k"] (ak tH):=fsc
theorem vJ (F:Fun K "_law_tape" "_law_tape" tH f fd) (GC:aE P w K mg base CX0 1 g gd ["script","k"] (pf K)) (bC:Binds K gd ["script","k"] []) (kC:PySem.W.keepIn K (.ref g)=true) (mC:mg "_law_cell_at"=some (.ref g)):
  aE P w K mg base CX0 2 f fd ["script","k"] (iF K):=by
 refine F.ok scTape (fun vs H Q E h=>?_) (fun cdv A outer s H vs Q E hr h=>?_)
 ·obtain ⟨a,ns,k,rfl,_⟩:=h
  rfl
 obtain ⟨a,ns,k,rfl,hS,hl,hk,hk2,q⟩:=h
 refine ⟨_,ae (am (i:=2) scTape.nd rfl (Or.inl rfl) (al GC hr rfl mC kC bC .nil aA (aa (pv 0) (aa (pv 1) ad))))
  (ae (bi (aM dh (aw cR (pv 2) ag) ag (aV _)) (aj (aL (aN (aa (aw mX (pv 2) ag) ad)))) aP)
  (ae (am (i:=3) scTape.nd rfl (Or.inl rfl) ag)
  (ae (am (i:=4) scTape.nd rfl (Or.inl rfl) (aw cR (aw a8 (aw a8 (aw dH (aw cR (pv 2) (pv 3)) ag) (aw dH ag (pv 1))) ag) (pv 3)))
  (ae (am (i:=5) scTape.nd rfl (Or.inl rfl) (aw cR (aw a8 (aw a8 (aw dH (pv 4) (pv 4)) (aw dH ag (pv 1))) (pv 4)) (pv 3)))
  (ae (am (i:=6) scTape.nd rfl (Or.inl rfl) (aw cR (aw a8 (aw dH (pv 5) (pv 5)) (pv 4)) (pv 3)))
  (ae (am (i:=7) scTape.nd rfl (Or.inl rfl) (aw cR (aw a8 (aw dH (pv 6) (pv 6)) (pv 5)) (pv 3)))
  (aj (aL (aN (aa (aw a8 (aw dH (aw a8 (aw dH (aw a8 (aw dH (pv 4) (pv 3)) (pv 5)) (pv 3)) (pv 6)) (pv 3)) (pv 7)) ad)))))))))),?_⟩
 refine ⟨_,rfl,_,rfl,a,ns,k,rfl,hS,hl,hk,fun c=>?_⟩
 refine ⟨_,rfl,_,_,rfl,rfl,(by show (0:Int) <2;decide),rfl,_,rfl,?_⟩
 refine cs (fun _=>?_) (fun _=>?_)
 ·exact ⟨_,rfl,_,_,rfl,rfl,⟨by decide,by decide⟩,(by show 1<=sizeLine;decide),fun p hp=>q p _ hp⟩
 have hp0:(0:Int) <2305843009213693951:=by decide
 have mm: ∀ x:Int,-(2^64) <x%2305843009213693951/\x%2305843009213693951<2^64:=fun x=>by
  have h1:=Int.emod_nonneg x (show (2305843009213693951:Int)≠0 by decide)
  have h2:=Int.emod_lt_of_pos x hp0
  lia
 have hkk: -(2^64) <k/\k<2^64:=by lia
 have hpp:(-(2^64):Int) <2305843009213693951/\(2305843009213693951:Int) <2^64:=by decide
 refine ⟨_,rfl,_,rfl,_,_,rfl,rfl,hp0,_,_,rfl,rfl,.inl (mm _),_,rfl,_,_,rfl,rfl,.inr hkk,_,_,rfl,rfl,_,_,rfl,rfl,_,rfl,_,_,rfl,rfl,hp0,?_⟩
 refine ⟨_,rfl,_,rfl,_,_,rfl,rfl,.inl (mm _),_,rfl,_,_,rfl,rfl,.inr hkk,_,_,rfl,rfl,_,rfl,_,_,rfl,rfl,_,rfl,_,_,rfl,rfl,hp0,?_⟩
 refine ⟨_,rfl,_,rfl,_,_,rfl,rfl,.inl (mm _),_,rfl,_,_,rfl,rfl,_,rfl,_,_,rfl,rfl,hp0,?_⟩
 refine ⟨_,rfl,_,rfl,_,_,rfl,rfl,.inl (mm _),_,rfl,_,_,rfl,rfl,_,rfl,_,_,rfl,rfl,hp0,?_⟩
 refine ⟨_,rfl,_,rfl,_,_,rfl,rfl,.inr hpp,_,rfl,_,_,rfl,rfl,_,rfl,_,_,rfl,rfl,.inr hpp,_,rfl,_,_,rfl,rfl,_,rfl,_,_,rfl,rfl,.inr hpp,_,rfl,_,_,rfl,rfl,(by show 1<=sizeLine;decide),fun p hp=>q p _ hp⟩
theorem scDigit:aG ["tape","many","found"] ["tape","many"] (ak pB):=fsc
theorem uu (F:Fun K "_law_digit" "_law_digit" pB f fd):aE P w K mg base CX0 1 f fd ["tape","many"] cf:=by
 refine F.ok scDigit (fun vs H Q E h=>?_) (fun cdv A outer s H vs Q E hr h=>?_)
 ·obtain ⟨tp,m,rfl,_⟩:=h
  rfl
 obtain ⟨tp,m,rfl,⟨t,ht⟩,hm,hm2,q⟩:=h
 refine ⟨_,ae (am (i:=2) scDigit.nd rfl (Or.inl rfl) (aw cR (ar (r:=cB K) aS (pv 0) ag (fun _ _=>rfl)) (pv 1)))
  (ae (iQ (aw mX (ar (r:=cB K) aS (pv 0) ag (fun _ _=>rfl)) (pv 1)) (xh (pv 0) ag tw))
  (aj (aL (pv 2)))),?_⟩
 refine ⟨_,rfl,tp,_,0,_,rfl,rfl,SqL.of ht,cq,_,rfl,_,_,rfl,rfl,hm,?_⟩
 refine ⟨_,rfl,tp,_,0,_,rfl,rfl,SqL.of ht,cq,_,rfl,_,_,rfl,rfl,⟨hm,hm2⟩,?_⟩
 refine ⟨_,rfl,tp,_,0,0,rfl,rfl,ht,rfl,?_⟩
 exact ⟨_,rfl,q (t%m) (t/m) (Int.emod_nonneg _ (by lia)) (Int.emod_lt_of_pos _ hm)⟩
theorem scNumber:aG ["tape","way"] ["tape"] (ak mh):=fsc
theorem rJ (F:Fun K "_law_number" "_law_number" mh f fd) (GD:aE P w K mg base CX0 1 g gd ["tape","many"] cf) (bD:Binds K gd ["tape","many"] []) (kD:PySem.W.keepIn K (.ref g)=true) (mD:mg "_law_digit"=some (.ref g)):
  aE P w K mg base CX0 2 f fd ["tape"] hV:=by
 refine F.ok scNumber (fun vs H Q E h=>?_) (fun cdv A outer s H vs Q E hr h=>?_)
 ·obtain ⟨tp,rfl,_⟩:=h
  rfl
 obtain ⟨tp,rfl,hT,q⟩:=h
 refine ⟨_,ae (am (i:=1) scNumber.nd rfl (Or.inl rfl) (al GD hr rfl mD kD bD .nil aA (aa (pv 0) (aa ag ad))))
  (ae (bi (aM kQ (pv 1) ag (aV _)) (aj (aL (pv 1))) aP)
  (aj (aL (ar (r:=cB K) aS (aN (aa (gH eK ag) (aa (aw ee (al GD hr rfl mD kD bD .nil aA (aa (pv 0) (aa ag ad))) ag)
   (aa (aw ee (al GD hr rfl mD kD bD .nil aA (aa (pv 0) (aa ag ad))) ag) ad)))) (aw ee (pv 1) ag) (fun _ _=>rfl))))),?_⟩
 refine ⟨_,rfl,tp,6,rfl,hT,by decide,by decide,fun d t h0 h1=>?_⟩
 refine ⟨_,rfl,_,_,rfl,rfl,_,rfl,?_⟩
 refine cs (fun c=>?_) (fun c=>?_)
 ·exact ⟨_,rfl,q d _ (by lia) (by lia) Kp.tape ⟨t,ac⟩⟩
 have c':3<=d:=by
  rcases Int.lt_or_le d 3 with z | z
  ·exact absurd (decide_eq_true z) c
  ·exact z
 refine ⟨_,rfl,_,rfl,tp,1001,rfl,⟨t,ac⟩,by decide,by decide,fun d2 t2 h20 h21=>?_⟩
 refine ⟨_,_,rfl,rfl,_,rfl,tp,1999999,rfl,⟨t2,ac⟩,by decide,by decide,fun d3 t3 h30 h31=>?_⟩
 refine ⟨_,_,rfl,rfl,(by show 3<=sizeLine;decide),fun p hp=>?_⟩
 rw [eA,eA]at hp ⊢
 have hd:d=3\/d=4\/d=5:=by lia
 have fin: ∀ n:Int,-999999<=n->n<=999999->Q (.int n) (upd (upd H tp (.lst [.int t3])) p (.lst [.int (-1),.int (d2-500),.int (d3-999999)])):=fun n h1 h2=>
  q n _ h1 h2 (Kp.tape.new hp) (Tp.new ⟨t3,ac⟩ hp)
 rcases hd with rfl | rfl | rfl
 ·exact ⟨_,rfl,_,_,rfl,rfl,p,_,0,_,rfl,rfl,SqL.of ac,cq,fin _ (by lia) (by lia)⟩
 ·exact ⟨_,rfl,_,_,rfl,rfl,p,_,1,_,rfl,rfl,SqL.of ac,zI,fin _ (by lia) (by lia)⟩
 ·exact ⟨_,rfl,_,_,rfl,rfl,p,_,2,_,rfl,rfl,SqL.of ac,zH,fin _ (by lia) (by lia)⟩
theorem fF {α:Type} {xs:List α} {d:Int} (h0:0<=d) (h1:d<xs.length): ∃ x,atI xs d=some x/\xs[d.toNat]? =some x:=by
 have hk:d.toNat<xs.length:=by lia
 have ek:d=((d.toNat:Nat):Int):=by lia
 have q:atI xs ((d.toNat:Nat):Int)=some xs[d.toNat]:=aF (List.getElem?_eq_getElem hk)
 rw [<- ek]at q
 exact ⟨_,q,List.getElem?_eq_getElem hk⟩
theorem fZ (xs:List V) {j:Int} (h0:0<=j) (h1:j<=xs.length):cV xs none (some j)=xs.take j.toNat:=by
 have ej:j=((j.toNat:Nat):Int):=by lia
 have e:HT.sIx xs.length xs.length (some j)=j.toNat:=by
  rw [ej,HT.sIx_nat]
  lia
 unfold cV
 rw [e,HT.sIx_none,List.drop_zero,Nat.sub_zero]
theorem j2 (xs:List V) {j:Int} (h0:0<=j) (h1:j<=xs.length):cV xs (some j) none=xs.drop j.toNat:=by
 have ej:j=((j.toNat:Nat):Int):=by lia
 have e:HT.sIx xs.length 0 (some j)=j.toNat:=by
  rw [ej,HT.sIx_nat]
  lia
 unfold cV
 rw [e,HT.sIx_none]
 apply List.take_of_length_le
 rw [List.length_drop]
 lia
theorem wX {xs:List V} {j:Nat} (h:j+2<=xs.length): ∃ a x y b,xs=a++x::y::b/\a.length=j/\xs.take j=a/\xs.drop (j+2)=b:=by
 refine ⟨xs.take j,xs[j],xs[j+1],xs.drop (j+2),?_,by rw [List.length_take];lia,rfl,rfl⟩
 rw [<- List.drop_eq_getElem_cons (by lia),<- List.drop_eq_getElem_cons (by lia),List.take_append_drop]
theorem wW {xs:List V} {j:Nat} (h:j+3<=xs.length): ∃ a x y z b,xs=a++x::y::z::b/\a.length=j/\xs.take j=a/\xs.drop (j+3)=b:=by
 refine ⟨xs.take j,xs[j],xs[j+1],xs[j+2],xs.drop (j+3),?_,by rw [List.length_take];lia,rfl,rfl⟩
 rw [<- List.drop_eq_getElem_cons (by lia),<- List.drop_eq_getElem_cons (by lia),<- List.drop_eq_getElem_cons (by lia),List.take_append_drop]
theorem ke {a b:List V} {x:V} {d:Int} (h:d=(a.length:Int)):atI (a++x::b) d=some x:=by
 subst h
 exact aF (by rw [List.getElem?_append_right (Nat.le_refl _),Nat.sub_self];rfl)
theorem yc {A B R:Prop} {c1 c2:Bool} (hr:(if c2=true then A else B)->R) (h1:c1=true->c2=true->A) (h2: ¬ (c1=true/\c2=true)->B):if c1=true then R else (if false=true then A else B):=by
 cases c1 with
 | true=>
  rw [if_pos rfl]
  apply hr
  cases c2 with
  | true=>rw [if_pos rfl];exact h1 rfl rfl
  | false=>exact dI (h2 fun z=>Bool.false_ne_true z.2)
 | false=>exact dI (dI (h2 fun z=>Bool.false_ne_true z.1))
theorem kM (z:Str) {j:Int} (h0:0<=j) (h1:j<=z.length):((Txt.slice z none (some j)).length:Int)=j:=by
 rcases PyProof.Rows.slice_ns_cases z j h0 with ⟨_,h⟩ | ⟨h,_⟩
 ·exact h
 ·lia
noncomputable def letters:Str:="abcdefghijklmnopqrstuvwxyz"
theorem oy:letters.cps.toList.all uI=true:=by decide +kernel
theorem i6:letters.length=26:=by decide +kernel
theorem se {d:Int} (h0:0<=d) (h1:d<26): ∃ c,atI letters.cps.toList d=some c/\uI c=true:=by
 have hl:letters.cps.toList.length=26:=by decide +kernel
 obtain ⟨c,e,e2⟩:=fF (xs:=letters.cps.toList) h0 (by rw [hl];lia)
 exact ⟨c,e,List.all_eq_true.mp oy c (List.mem_of_getElem? e2)⟩
theorem wt (x y:Str):(x++y).length=x.length+y.length:=by
 show (x.cps++y.cps).size=_
 rw [Array.size_append]
 rfl
noncomputable def names13:List Str:=["own","up","down","min","max","of","top","form","sort","wheel","book","tree","ok"]
theorem aneq:(Txt.slice "aneqoubi" none (some 7)).length=7/\(Txt.slice "aneqoubi" none (some 7)).cps.toList.all uI=true:=by decide +kernel
theorem qF:("eyzmopq":Str).length=7:=by decide +kernel
theorem Tp.same {H H':Hp} {tp:Addr} (t:Tp H tp) (s:Same H H'):Tp H' tp:=by
 obtain ⟨t0,e⟩:=t
 exact ⟨t0,s _ _ e⟩
noncomputable def Fm.wfp (ρ:Fm->Prop):Fm->Prop
 | .num n=> -999999<=n/\n<=999999
 | .own x=>cj x=true/\ρ (.own x)
 | .part k x=>((0<=k/\k<=2)/\cj x=true)/\ρ (.part k x)
 | .bin op a b=>op∈ops/\a.wfp ρ/\b.wfp ρ
 | .whn a b c=>a.wfp ρ/\b.wfp ρ/\c.wfp ρ
theorem Fm.wfp.wf {ρ:Fm->Prop}: ∀ {f:Fm},f.wfp ρ->f.wf
 | .num _,h=>h
 | .own _,h=>h.1
 | .part _ _,h=>h.1
 | .bin _ _ _,h=>⟨h.1,Fm.wfp.wf h.2.1,Fm.wfp.wf h.2.2⟩
 | .whn _ _ _,h=>⟨Fm.wfp.wf h.1,Fm.wfp.wf h.2.1,Fm.wfp.wf h.2.2⟩
inductive FsP (ρ:Fm->Prop) (H:Hp):List V->Nat->Prop where
 | nil:FsP ρ H [] 0
 | cons {v:V} {f:Fm} {vs:List V} {n:Nat}:Rep H f v->f.wfp ρ->FsP ρ H vs n->FsP ρ H (v::vs) (f.size+n)
theorem FsP.append {ρ:Fm->Prop} {H:Hp} {xs ys:List V} {m n:Nat} (a:FsP ρ H xs m) (b:FsP ρ H ys n):FsP ρ H (xs++ys) (m+n):=by
 induction a with
 | nil=>rw [Nat.zero_add];exact b
 | cons r w _ ih=>rw [Nat.add_assoc];exact .cons r w ih
theorem FsP.split {ρ:Fm->Prop} {H:Hp}: ∀ {xs ys:List V} {n:Nat},FsP ρ H (xs++ys) n-> ∃ a b,FsP ρ H xs a/\FsP ρ H ys b/\n=a+b
 | [],ys,n,h=>⟨0,n,.nil,h,by lia⟩
 | x::r,ys,n,h=>by
  cases h with
  | cons rp wf t=>
   obtain ⟨a,b,h1,h2,e⟩:=FsP.split t
   exact ⟨_,b,.cons rp wf h1,h2,by lia⟩
theorem FsP.mono {ρ:Fm->Prop} {H H':Hp} (t:TK H H') {xs:List V} {n:Nat} (h:FsP ρ H xs n):FsP ρ H' xs n:=by
 induction h with
 | nil=>exact .nil
 | cons r w _ ih=>exact .cons (r.mono t) w ih
noncomputable def LvsP (ρ:Fm->Prop) (H:Hp) (rs:List V):Prop:= ∀ v∈rs,∃ f,Rep H f v/\f.wfp ρ/\f.size=1
theorem LvsP.mono {ρ:Fm->Prop} {H H':Hp} (t:TK H H') {rs:List V} (h:LvsP ρ H rs):LvsP ρ H' rs:=fun v hv=>by
 obtain ⟨f,r,w,s⟩:=h v hv
 exact ⟨f,r.mono t,w,s⟩
inductive lP (ρ:Fm->Prop) (vs:List V) (H:Hp) (Q:VK) (E_:XK):Prop
 | mk: ∀ tp rl rs,(vs=[.ref tp,.ref rl])->(Tp H tp)->(rl≠tp)->(H rl=some (.lst rs))->(rs.length<=1000)->(LvsP ρ H rs)->(∀ v f H',Rep H' f v->f.wfp ρ->f.size=1->Kp tp H H'->Tp H' tp->Q v H')->lP ρ vs H Q E_
inductive fh (ρ:Fm->Prop) (vs:List V) (H:Hp) (Q:VK) (E_:XK):Prop
 | mk: ∀ tp rl rs,(vs=[.ref tp,.ref rl])->(Tp H tp)->(rl≠tp)->(H rl=some (.lst rs))->(rs.length<=1000)->(LvsP ρ H rs)->(∀ v f H',Rep H' f v->f.wfp ρ->f.size<=15->Kp tp H H'->Tp H' tp->Q v H')->fh ρ vs H Q E_
theorem vv:aG ["tape","readings"] ["tape","readings"] (ak tJ):=fsc
theorem uq {ρ:Fm->Prop} (F:Fun K "_law_leaf" "_law_leaf" tJ f fd) (G:Gb mg) (GD:aE P w K mg base CX0 1 g gd ["tape","many"] cf) (bD:Binds K gd ["tape","many"] []) (kD:PySem.W.keepIn K (.ref g)=true) (mD:mg "_law_digit"=some (.ref g))
  (GN:aE P w K mg base CX0 2 f2 fd2 ["tape"] hV) (bN:Binds K fd2 ["tape"] []) (kN:PySem.W.keepIn K (.ref f2)=true) (mN:mg "_law_number"=some (.ref f2)):
  aE P w K mg base CX0 3 f fd ["tape","readings"] (lP ρ):=by
 refine F.ok vv (fun vs H Q E h=>?_) (fun cdv A outer s H vs Q E hr h=>?_)
 ·obtain ⟨tp,rl,rs,rfl,_⟩:=h
  rfl
 obtain ⟨tp,rl,rs,rfl,hT,hne,hrl,hlen,hL,q⟩:=h
 have hr1:=hr.mono (show 1<=2 by decide)
 refine ⟨_,ae (bi (PW.pt (iP (aM oj (aq (r:=dl K) aH rfl G.len PySem.boot_len (aa (pv 1) ad)) ag (aV _))
   (gm (aM kQ (al GD hr1 rfl mD kD bD .nil aA (aa (pv 0) (aa ag ad))) ag (aV _)))))
   (aj (aL (ar (r:=cB K) aS (pv 1) (al GD hr1 rfl mD kD bD .nil aA (aa (pv 0) (aa (aq (r:=dl K) aH rfl G.len PySem.boot_len (aa (pv 1) ad)) ad))) (fun _ _=>rfl)))) aP)
  (aj (aL (aK (aa aT (aa (al GN hr rfl mN kN bN .nil aA (aa (pv 0) ad)) ad))))),?_⟩
 have num: ∀ H1,Kp tp H H1->Tp H1 tp->(vn 0 ([some (V.ref tp),some (.ref rl)]:St) H1 fun v H1=>hV [v] H1 (fun x H2=>[V.str "num",x].length<=sizeLine/\ ∀ p,H2 p=none->Q (.ref p) (upd H2 p (.tup [V.str "num",x]))) E0):=fun H1 k1 t1=>by
  refine ⟨_,rfl,tp,rfl,t1,fun n H2 h1 h2 k2 t2=>⟨(by show 2<=sizeLine;decide),fun p hp=>?_⟩⟩
  exact q _ (.num n) _ ⟨p,rfl,ac⟩ ⟨h1,h2⟩ rfl ((k1.trans k2).new hp) (t2.new hp)
 refine ⟨_,rfl,rl,rs,rfl,.inl (SqL.of hrl),_,_,rfl,rfl,_,rfl,?_⟩
 refine cs (fun c=>?_) (fun c=>?_)
 ·have c':0<rs.length:=by have:=of_decide_eq_true c;lia
  refine ⟨_,rfl,tp,4,rfl,hT,by decide,by decide,fun d t h0 h1=>?_⟩
  refine ⟨_,_,rfl,rfl,_,rfl,?_⟩
  refine cs (fun c2=>?_) (fun c2=>?_)
  ·have h2:(upd H tp (.lst [.int t])) rl=some (.lst rs):=by rw [ah hne];exact hrl
   refine ⟨_,rfl,_,rfl,_,rfl,rl,rs,rfl,.inl (SqL.of h2),tp,_,rfl,⟨t,ac⟩,by lia,by lia,fun d2 t2 h20 h21=>?_⟩
   rw [eA]
   have h3:(upd H tp (.lst [.int t2])) rl=some (.lst rs):=by rw [ah hne];exact hrl
   obtain ⟨x,ex,ex2⟩:=fF (xs:=rs) h20 h21
   obtain ⟨fm,r,wf,sz⟩:=hL x (List.mem_of_getElem? ex2)
   have k2:Kp tp H (upd H tp (.lst [.int t2])):=Kp.tape
   exact ⟨rl,rs,d2,x,rfl,rfl,SqL.of h3,ex,q x fm _ (r.mono (k2.tk hT)) wf sz k2 ⟨t2,ac⟩⟩
  ·exact num _ Kp.tape ⟨t,ac⟩
 ·exact num _ Kp.refl hT
theorem v7 {H:Hp} {a b:List V} {x y:V} {n:Nat} (h:FsP ρ H (a++x::y::b) n): ∃ A B,Rep H A x/\Rep H B y/\A.wfp ρ/\B.wfp ρ/\ ∃ m1 m2,FsP ρ H a m1/\FsP ρ H b m2/\n=m1+ (A.size+ (B.size+m2)):=by
 obtain ⟨m1,r,h1,h2,e⟩:=h.split
 cases h2 with
 | cons ra wa h3=>
  cases h3 with
  | cons rb wb h4=>exact ⟨_,_,ra,rb,wa,wb,m1,_,h1,h4,e⟩
theorem vZ {H:Hp} {a b:List V} {x y z:V} {n:Nat} (h:FsP ρ H (a++x::y::z::b) n): ∃ A B C,Rep H A x/\Rep H B y/\Rep H C z/\A.wfp ρ/\B.wfp ρ/\C.wfp ρ/\ ∃ m1 m2,FsP ρ H a m1/\FsP ρ H b m2/\n=m1+ (A.size+ (B.size+ (C.size+m2))):=by
 obtain ⟨m1,r,h1,h2,e⟩:=h.split
 cases h2 with
 | cons ra wa h3=>
  cases h3 with
  | cons rb wb h4=>
   cases h4 with
   | cons rc wc h5=>exact ⟨_,_,_,ra,rb,rc,wa,wb,wc,m1,_,h1,h5,e⟩
theorem scFormulaP:aG ["tape","readings","many","j","stack","way","sign"] ["tape","readings"] (ak eU):=fsc
theorem on (F:Fun K "_law_formula" "_law_formula" eU f fd) (G:Gb mg) (GD:aE P w K mg base CX0 1 g gd ["tape","many"] cf) (bD:Binds K gd ["tape","many"] []) (kD:PySem.W.keepIn K (.ref g)=true) (mD:mg "_law_digit"=some (.ref g))
  (GL:aE P w K mg base CX0 3 f2 fd2 ["tape","readings"] (lP ρ)) (bL:Binds K fd2 ["tape","readings"] []) (kL:PySem.W.keepIn K (.ref f2)=true) (mL:mg "_law_leaf"=some (.ref f2)):
  aE P w K mg base CX0 4 f fd ["tape","readings"] (fh ρ):=by
 refine F.ok scFormulaP (fun vs H Q E h=>?_) (fun cdv A outer s H vs Q E hr h=>?_)
 ·obtain ⟨tp,rl,rs,rfl,_⟩:=h
  rfl
 obtain ⟨tp,rl,rs,rfl,hT,hne,hrl,hlen,hL,q⟩:=h
 have hr1:=hr.mono (show 1<=3 by decide)
 obtain ⟨t,ht,hread⟩: ∃ t,PSs (er CX0 P w K mg base ["tape","readings","many","j","stack","way","sign"] "_law_formula" (ak eU) f cdv A outer s H E).nox ((cM eU).drop 2) t/\
   ∀ (m:Int) (H2:Hp),1<=m->m<=8->Kp tp H H2->Tp H2 tp->t {nx:=fun _ H'=>Q .non H',rt:=Q} [some (.ref tp),some (.ref rl),some (.int m),none,none,none,none] H2:=by
  refine ⟨_,ae (gn (i:=4) (sc0:=ak eU) (N0:=["tape","readings","many","j","stack","way","sign"]) (ys:=["tape","readings"]) (fr:=[0,1]) rfl scFormulaP.nd rfl (Or.inl rfl) (br rfl G.range (aa (pv 2) ad)) rfl rfl
    cok
    (fun C s H ex=>al GL hr rfl mL kL bL .nil aA (aa (pv 1) (aa (pv 2) ad))))
   (ae (ic PassesOwn.never (aM oj (aq (r:=dl K) aH rfl G.len PySem.boot_len (aa (pv 4) ad)) ag (aV _))
    (ae (am (i:=5) scFormulaP.nd rfl (Or.inl rfl) (al GD hr1 rfl mD kD bD .nil aA (aa (pv 0) (aa ag ad))))
    (aj (bi (PW.pt (iP (aM dh (pv 5) ag (aV _)) (gm (aM oj (aq (r:=dl K) aH rfl G.len PySem.boot_len (aa (pv 4) ad)) ag (aV _)))))
     (ae (am (i:=3) scFormulaP.nd rfl (Or.inl rfl) (al GD hr1 rfl mD kD bD .nil aA (aa (pv 0) (aa (aw ee (aq (r:=dl K) aH rfl G.len PySem.boot_len (aa (pv 4) ad)) ag) ad))))
     (aj (am (i:=4) scFormulaP.nd rfl (Or.inl rfl) (aw cY (aw cY (bj dv (pv 4) cg (bq (pv 3)))
      (aN (aa (aK (aa aT (aa (ar (r:=cB K) aS (pv 4) (pv 3) (fun _ _=>rfl)) (aa (ar (r:=cB K) aS (pv 4) (aw a8 (pv 3) ag) (fun _ _=>rfl)) (aa (ar (r:=cB K) aS (pv 4) (aw a8 (pv 3) ag) (fun _ _=>rfl)) ad))))) ad)))
      (bj dv (pv 4) (bq (aw a8 (pv 3) ag)) cg)))))
     (ae (am (i:=3) scFormulaP.nd rfl (Or.inl rfl) (al GD hr1 rfl mD kD bD .nil aA (aa (pv 0) (aa (aw ee (aq (r:=dl K) aH rfl G.len PySem.boot_len (aa (pv 4) ad)) ag) ad))))
     (ae (am (i:=6) scFormulaP.nd rfl (Or.inl rfl) (ar (r:=cB K) aS (aN (aa aT (aa aT (aa aT (aa aT (aa aT ad)))))) (aw cR (pv 5) ag) (fun _ _=>rfl)))
     (aj (am (i:=4) scFormulaP.nd rfl (Or.inl rfl) (aw cY (aw cY (bj dv (pv 4) cg (bq (pv 3)))
      (aN (aa (aK (aa (pv 6) (aa (ar (r:=cB K) aS (pv 4) (pv 3) (fun _ _=>rfl)) (aa (ar (r:=cB K) aS (pv 4) (aw a8 (pv 3) ag) (fun _ _=>rfl)) ad)))) ad)))
      (bj dv (pv 4) (bq (aw a8 (pv 3) ag)) cg))))))))))
   (aj (aL (ar (r:=cB K) aS (pv 4) ag (fun _ _=>rfl))))),fun m H2 hm1 hm8 k2 tt2=>?_⟩
  have tpn: ∀ {p:Addr} {Hx:Hp},Tp Hx tp->Hx p=none->p≠tp:=fun t hp e=>by
   obtain ⟨t0,e0⟩:=t
   subst e
   rw [e0]at hp
   cases hp
  refine ⟨_,rfl,m,rfl,by lia,by lia,?_⟩
  refine gy (n:=m.toNat) (R:=fun i v=>v=.int (0+i)) (by lia) iW eY iq
   (fun p i zs H'=>Kp tp H H'/\Tp H' tp/\H' p=some (.lst zs)/\p≠tp/\zs.length=i/\FsP ρ H' zs i) ?_ ?_ ?_ ?_
  ·intro p hp
   exact ⟨k2.new hp,tt2.new hp,ac,tpn tt2 hp,rfl,.nil⟩
  ·rintro p i zs H' ⟨_,_,h,_,e,_⟩
   exact ⟨h,e⟩
  ·rintro p i zs H' v k hp hi rfl ⟨k3,t3,hz,hpn,hzl,hf⟩ hk
   have hrl':H' rl=some (.lst rs):=k3 _ _ hrl hne
   refine ⟨_,rfl,_,rfl,tp,rl,rs,rfl,t3,hne,hrl',hlen,hL.mono (k3.tk hT),fun v f H3 rp wf sz k4 t4=>?_⟩
   refine hk v H3 (k4 _ _ hz hpn) ⟨?_,?_,ac,hpn,by rw [List.length_append,hzl];rfl,?_⟩
   ·intro b o hb hne'
    have hbp:b≠p:=fun e=>by
     subst e
     have:=k2 b o hb hne'
     rw [hp]at this
     cases this
    rw [ah hbp]
    exact k4 _ _ (k3 _ _ hb hne') hne'
   ·obtain ⟨t0,e0⟩:=t4
    exact ⟨t0,by rw [ah (Ne.symm hpn)];exact e0⟩
   ·have tk:TK H3 (upd H3 p (.lst (zs++[v]))):=TK.lst (k4 _ _ hz hpn)
    have e1:FsP ρ H3 zs i:=hf.mono (k4.tk t3)
    have e2:=e1.append (FsP.cons rp wf .nil)
    rw [sz]at e2
    exact e2.mono tk
  ·rintro p zs H' hp ⟨k3,t3,hz,hpn,hzl,hf⟩
   refine nF (fun σ H'=> ∃ (sl:Addr) (ws:List V) (n:Nat) (j wy sg:Option V),σ=[some (.ref tp),some (.ref rl),some (.int m),j,some (.ref sl),wy,sg]/\H' sl=some (.lst ws)/\sl≠tp/\1<=ws.length/\ws.length<=8/\
     FsP ρ H' ws n/\n+ws.length<=16/\Kp tp H H'/\Tp H' tp)
    (fun σ H'=>match σ with | [_,_,_,_,some (.ref sl),_,_]=>(match H' sl with | some (.lst ws)=>ws.length | _=>0) | _=>0)
    ⟨p,zs,m.toNat,none,none,none,rfl,hz,hpn,by lia,by lia,hf,by lia,k3,t3⟩ ?_ ?_
   ·rintro σ H3 ⟨sl,ws,n,j,wy,sg,rfl,hsl,hsn,hw1,hw8,hfs,hsz,k4,t4⟩
    refine ⟨_,rfl,sl,ws,rfl,.inl (SqL.of hsl),_,_,rfl,rfl,_,rfl,?_⟩
    refine cs (fun c=>?_) (fun c=>?_)
    ·have c':1<ws.length:=by have:=of_decide_eq_true c;lia
     refine ⟨_,rfl,tp,6,rfl,t4,by decide,by decide,fun wy t5 hw0 hw6=>?_⟩
     have k5:Kp tp H3 (upd H3 tp (.lst [.int t5])):=Kp.tape
     have tt5:Tp (upd H3 tp (.lst [.int t5])) tp:=⟨t5,ac⟩
     have hsl5:=k5 _ _ hsl hsn
     have hfs5:=hfs.mono (k5.tk t4)
     have k5':=k4.trans k5
     generalize upd H3 tp (.lst [.int t5])=H5 at k5 tt5 hsl5 hfs5 k5' ⊢
     refine ⟨_,rfl,rfl,_,rfl,?_⟩
     refine yc (c2:=decide (2< (ws.length:Int))) (fun h=>⟨_,rfl,sl,ws,rfl,.inl (SqL.of hsl5),_,_,rfl,rfl,_,rfl,h⟩) (fun _ cw=>?_) (fun _=>?_)
     ·-- when
      have cw':2<ws.length:=by have:=of_decide_eq_true cw;lia
      refine ⟨_,rfl,_,rfl,sl,ws,rfl,.inl (SqL.of hsl5),_,_,rfl,rfl,tp,_,rfl,tt5,by lia,by lia,fun jj t6 hj0 hj1=>?_⟩
      have k6:Kp tp H5 (upd H5 tp (.lst [.int t6])):=Kp.tape
      have tt6:Tp (upd H5 tp (.lst [.int t6])) tp:=⟨t6,ac⟩
      have hsl6:=k6 _ _ hsl5 hsn
      have hfs6:=hfs5.mono (k6.tk tt5)
      have k6':=k5'.trans k6
      generalize upd H5 tp (.lst [.int t6])=H6 at k6 tt6 hsl6 hfs6 k6' ⊢
      obtain ⟨a,x,y,z,b,ew,ea,etk,edr⟩:=wW (xs:=ws) (j:=jj.toNat) (by lia)
      have ej:jj=(a.length:Int):=by lia
      obtain ⟨A,B,C,ra,rb,rc,wa,wb,wc,m1,m2,f1,f2,en⟩:=vZ (ew▸hfs6)
      have hlw:ws.length=a.length+3+b.length:=by rw [ew];simp;lia
      refine ⟨_,rfl,_,rfl,jj,rfl,sl,ws,rfl,SqL.of hsl6,fun p1 hp1=>?_⟩
      rw [fZ ws hj0 (by lia),etk]
      have s1:Same H6 (upd H6 p1 (.lst a)):=af hp1 _
      have g1:(upd H6 p1 (.lst a)) p1=some (.lst a):=ac
      generalize upd H6 p1 (.lst a)=H7 at s1 g1 ⊢
      have hsl7:=s1 _ _ hsl6
      refine ⟨_,rfl,_,rfl,sl,ws,jj,x,rfl,rfl,SqL.of hsl7,ew▸ke ej,_,rfl,_,rfl,_,_,rfl,rfl,sl,ws,jj+1,y,rfl,rfl,SqL.of hsl7,?_,_,rfl,_,rfl,_,_,rfl,rfl,sl,ws,jj+2,z,rfl,rfl,SqL.of hsl7,?_,(by show 4<=sizeLine;decide),fun p2 hp2=>?_⟩
      ·rw [ew,show a++x::y::z::b=(a++[x])++y::z::b by simp]
       exact ke (by simp;lia)
      ·rw [ew,show a++x::y::z::b=(a++[x,y])++z::b by simp]
       exact ke (by simp;lia)
      have s2:Same H7 (upd H7 p2 (.tup [.str "when",x,y,z])):=af hp2 _
      have g2:(upd H7 p2 (.tup [.str "when",x,y,z])) p2=some (.tup [.str "when",x,y,z]):=ac
      generalize upd H7 p2 (.tup [.str "when",x,y,z])=H8 at s2 g2 ⊢
      refine ⟨(by show 1<=sizeLine;decide),fun p3 hp3=>?_⟩
      have s3:Same H8 (upd H8 p3 (.lst [.ref p2])):=af hp3 _
      have g3:(upd H8 p3 (.lst [.ref p2])) p3=some (.lst [.ref p2]):=ac
      generalize upd H8 p3 (.lst [.ref p2])=H9 at s3 g3 ⊢
      refine ⟨p1,p3,a,_,rfl,rfl,s3 _ _ (s2 _ _ g1),g3,Nat.le_of_lt (ao (by simp;lia)),fun p4 hp4=>?_⟩
      have s4:Same H9 (upd H9 p4 (.lst (a++[.ref p2]))):=af hp4 _
      have g4:(upd H9 p4 (.lst (a++[.ref p2]))) p4=some (.lst (a++[.ref p2])):=ac
      generalize upd H9 p4 (.lst (a++[.ref p2]))=H10 at s4 g4 ⊢
      have s7:Same H7 H10:=s2.trans (s3.trans s4)
      refine ⟨_,rfl,_,rfl,_,_,rfl,rfl,jj+3,rfl,sl,ws,rfl,SqL.of (s7 _ _ hsl7),fun p5 hp5=>?_⟩
      rw [j2 ws (by lia) (by lia),show (jj+3).toNat=jj.toNat+3 by lia,edr]
      have s5:Same H10 (upd H10 p5 (.lst b)):=af hp5 _
      have g5:(upd H10 p5 (.lst b)) p5=some (.lst b):=ac
      generalize upd H10 p5 (.lst b)=H11 at s5 g5 ⊢
      refine ⟨p4,p5,_,b,rfl,rfl,s5 _ _ g4,g5,Nat.le_of_lt (ao (by simp;lia)),fun p6 hp6=>?_⟩
      have s6:Same H6 H11:=s1.trans (s7.trans s5)
      have st:Same H6 (upd H11 p6 (.lst (a++[.ref p2]++b))):=s6.trans (af hp6 _)
      have tk:TK H6 (upd H11 p6 (.lst (a++[.ref p2]++b))):=fun c xs h=>st _ _ h
      have g2':(upd H11 p6 (.lst (a++[.ref p2]++b))) p2=some (.tup [.str "when",x,y,z]):=(af hp6 _) _ _ (s5 _ _ (s4 _ _ (s3 _ _ g2)))
      have tt7:Tp (upd H11 p6 (.lst (a++[.ref p2]++b))) tp:=by obtain ⟨t0,e0⟩:=tt6;exact ⟨t0,st _ _ e0⟩
      refine ⟨⟨p6,_,m1+ ((Fm.whn A B C).size+0) +m2,_,_,_,rfl,ac,?_,by simp;lia,by simp;lia,?_,?_,k6'.same st,tt7⟩,?_⟩
      ·intro e
       obtain ⟨t0,e0⟩:=tt6
       have:=s6 _ _ e0
       rw [<- e,hp6]at this
       cases this
      ·exact ((f1.mono tk).append (FsP.cons (f:=.whn A B C) ⟨p2,x,y,z,rfl,g2',ra.mono tk,rb.mono tk,rc.mono tk⟩ ⟨wa,wb,wc⟩ .nil)).append (f2.mono tk)
      ·show m1+ ((A.size+B.size+C.size+1) +0) +m2+ (a++[V.ref p2]++b).length<=16
       simp
       lia
      ·show (match (upd H11 p6 (.lst (a++[.ref p2]++b))) p6 with | some (.lst ws)=>ws.length | _=>0) < (match H3 sl with | some (.lst ws)=>ws.length | _=>0)
       rw [ac,hsl]
       simp
       lia
     ·-- one of the five signs
      refine ⟨_,rfl,_,rfl,sl,ws,rfl,.inl (SqL.of hsl5),_,_,rfl,rfl,tp,_,rfl,tt5,by lia,by lia,fun jj t6 hj0 hj1=>?_⟩
      have k6:Kp tp H5 (upd H5 tp (.lst [.int t6])):=Kp.tape
      have tt6:Tp (upd H5 tp (.lst [.int t6])) tp:=⟨t6,ac⟩
      have hsl6:=k6 _ _ hsl5 hsn
      have hfs6:=hfs5.mono (k6.tk tt5)
      have k6':=k5'.trans k6
      generalize upd H5 tp (.lst [.int t6])=H6 at k6 tt6 hsl6 hfs6 k6' ⊢
      refine ⟨(by show 5<=sizeLine;decide),fun p0 hp0=>?_⟩
      have s0:Same H6 (upd H6 p0 (.lst [.str "plus",.str "less",.str "times",.str "least",.str "most"])):=af hp0 _
      have g0:(upd H6 p0 (.lst [.str "plus",.str "less",.str "times",.str "least",.str "most"])) p0=some (.lst [.str "plus",.str "less",.str "times",.str "least",.str "most"]):=ac
      generalize upd H6 p0 (.lst [.str "plus",.str "less",.str "times",.str "least",.str "most"])=H6b at s0 g0 ⊢
      obtain ⟨op,hop,hopm⟩: ∃ op,atI [V.str "plus",.str "less",.str "times",.str "least",.str "most"] (wy%5)=some (.str op)/\op∈ops:=by
       have h1:=Int.emod_nonneg wy (show (5:Int)≠0 by decide)
       have h2:=Int.emod_lt_of_pos wy (show (0:Int) <5 by decide)
       have h5:wy%5=0\/wy%5=1\/wy%5=2\/wy%5=3\/wy%5=4:=by lia
       rcases h5 with h | h | h | h | h <;> rw [h]
       ·exact ⟨"plus",rfl,by simp [ops]⟩
       ·exact ⟨"less",rfl,by simp [ops]⟩
       ·exact ⟨"times",rfl,by simp [ops]⟩
       ·exact ⟨"least",rfl,by simp [ops]⟩
       ·exact ⟨"most",rfl,by simp [ops]⟩
      refine ⟨_,rfl,_,_,rfl,rfl,(by show (0:Int) <5;decide),p0,_,_,_,rfl,rfl,SqL.of g0,hop,?_⟩
      obtain ⟨a,x,y,b,ew,ea,etk,edr⟩:=wX (xs:=ws) (j:=jj.toNat) (by lia)
      have ej:jj=(a.length:Int):=by lia
      obtain ⟨A,B,ra,rb,wa,wb,m1,m2,f1,f2,en⟩:=v7 (ew▸hfs6)
      have hlw:ws.length=a.length+2+b.length:=by rw [ew];simp;lia
      have hsl6b:=s0 _ _ hsl6
      refine ⟨_,rfl,_,rfl,jj,rfl,sl,ws,rfl,SqL.of hsl6b,fun p1 hp1=>?_⟩
      rw [fZ ws hj0 (by lia),etk]
      have s1:Same H6b (upd H6b p1 (.lst a)):=af hp1 _
      have g1:(upd H6b p1 (.lst a)) p1=some (.lst a):=ac
      generalize upd H6b p1 (.lst a)=H7 at s1 g1 ⊢
      have hsl7:=s1 _ _ hsl6b
      refine ⟨_,rfl,_,rfl,_,rfl,sl,ws,jj,x,rfl,rfl,SqL.of hsl7,ew▸ke ej,_,rfl,_,rfl,_,_,rfl,rfl,sl,ws,jj+1,y,rfl,rfl,SqL.of hsl7,?_,(by show 3<=sizeLine;decide),fun p2 hp2=>?_⟩
      ·rw [ew,show a++x::y::b=(a++[x])++y::b by simp]
       exact ke (by simp;lia)
      have s2:Same H7 (upd H7 p2 (.tup [.str op,x,y])):=af hp2 _
      have g2:(upd H7 p2 (.tup [.str op,x,y])) p2=some (.tup [.str op,x,y]):=ac
      generalize upd H7 p2 (.tup [.str op,x,y])=H8 at s2 g2 ⊢
      refine ⟨(by show 1<=sizeLine;decide),fun p3 hp3=>?_⟩
      have s3:Same H8 (upd H8 p3 (.lst [.ref p2])):=af hp3 _
      have g3:(upd H8 p3 (.lst [.ref p2])) p3=some (.lst [.ref p2]):=ac
      generalize upd H8 p3 (.lst [.ref p2])=H9 at s3 g3 ⊢
      refine ⟨p1,p3,a,_,rfl,rfl,s3 _ _ (s2 _ _ g1),g3,Nat.le_of_lt (ao (by simp;lia)),fun p4 hp4=>?_⟩
      have s4:Same H9 (upd H9 p4 (.lst (a++[.ref p2]))):=af hp4 _
      have g4:(upd H9 p4 (.lst (a++[.ref p2]))) p4=some (.lst (a++[.ref p2])):=ac
      generalize upd H9 p4 (.lst (a++[.ref p2]))=H10 at s4 g4 ⊢
      have s7:Same H7 H10:=s2.trans (s3.trans s4)
      refine ⟨_,rfl,_,rfl,_,_,rfl,rfl,jj+2,rfl,sl,ws,rfl,SqL.of (s7 _ _ hsl7),fun p5 hp5=>?_⟩
      rw [j2 ws (by lia) (by lia),show (jj+2).toNat=jj.toNat+2 by lia,edr]
      have s5:Same H10 (upd H10 p5 (.lst b)):=af hp5 _
      have g5:(upd H10 p5 (.lst b)) p5=some (.lst b):=ac
      generalize upd H10 p5 (.lst b)=H11 at s5 g5 ⊢
      refine ⟨p4,p5,_,b,rfl,rfl,s5 _ _ g4,g5,Nat.le_of_lt (ao (by simp;lia)),fun p6 hp6=>?_⟩
      have s6:Same H6 H11:=s0.trans (s1.trans (s7.trans s5))
      have st:Same H6 (upd H11 p6 (.lst (a++[.ref p2]++b))):=s6.trans (af hp6 _)
      have tk:TK H6 (upd H11 p6 (.lst (a++[.ref p2]++b))):=fun c xs h=>st _ _ h
      have g2':(upd H11 p6 (.lst (a++[.ref p2]++b))) p2=some (.tup [.str op,x,y]):=(af hp6 _) _ _ (s5 _ _ (s4 _ _ (s3 _ _ g2)))
      have tt7:Tp (upd H11 p6 (.lst (a++[.ref p2]++b))) tp:=by obtain ⟨t0,e0⟩:=tt6;exact ⟨t0,st _ _ e0⟩
      refine ⟨⟨p6,_,m1+ ((Fm.bin op A B).size+0) +m2,_,_,_,rfl,ac,?_,by simp;lia,by simp;lia,?_,?_,k6'.same st,tt7⟩,?_⟩
      ·intro e
       obtain ⟨t0,e0⟩:=tt6
       have:=s6 _ _ e0
       rw [<- e,hp6]at this
       cases this
      ·exact ((f1.mono tk).append (FsP.cons (f:=.bin op A B) ⟨p2,x,y,rfl,g2',ra.mono tk,rb.mono tk⟩ ⟨hopm,wa,wb⟩ .nil)).append (f2.mono tk)
      ·show m1+ ((A.size+B.size+1) +0) +m2+ (a++[V.ref p2]++b).length<=16
       simp
       lia
      ·show (match (upd H11 p6 (.lst (a++[.ref p2]++b))) p6 with | some (.lst ws)=>ws.length | _=>0) < (match H3 sl with | some (.lst ws)=>ws.length | _=>0)
       rw [ac,hsl]
       simp
       lia
    ·have c':ws.length=1:=by
      have: ¬ (1:Int) < (ws.length:Int):=fun z=>c (decide_eq_true z)
      lia
     obtain ⟨x,ex⟩:=List.length_eq_one_iff.mp c'
     subst ex
     cases hfs with
     | cons rp wf f2=>
      cases f2
      refine ⟨_,rfl,sl,_,0,x,rfl,rfl,SqL.of hsl,cq,q x _ H3 rp wf (by simp at hsz;lia) k4 t4⟩
   ·rintro σ H3 Q1 Q2 hq ⟨y,e1,p,ys,e2,h2,i,j,e3,e4,k,e5,h⟩
    exact ⟨y,e1,p,ys,e2,h2,i,j,e3,e4,k,e5,hq _ _ h⟩
 refine ⟨_,ae (am (i:=2) scFormulaP.nd rfl (Or.inl rfl) (aw a8 ag (al GD hr1 rfl mD kD bD .nil aA (aa (pv 0) (aa ag ad)))))
  (ae (bi (aM dh (al GD hr1 rfl mD kD bD .nil aA (aa (pv 0) (aa ag ad))) ag (aV _)) (aj (am (i:=2) scFormulaP.nd rfl (Or.inl rfl) ag)) aP) ht),?_⟩
 refine ⟨_,rfl,tp,4,rfl,hT,by decide,by decide,fun d1 t1 h10 h11=>?_⟩
 refine ⟨1,_,rfl,rfl,?_⟩
 refine ⟨_,rfl,tp,16,rfl,⟨t1,ac⟩,by decide,by decide,fun d2 t2 h20 h21=>?_⟩
 rw [eA]
 refine ⟨rfl,_,rfl,?_⟩
 refine cs (fun c9=>?_) (fun c9=>?_)
 ·exact hread 8 _ (by decide) (by decide) Kp.tape ⟨t2,ac⟩
 ·exact hread (1+d1) _ (by lia) (by lia) Kp.tape ⟨t2,ac⟩
noncomputable def oz (d:Int):Nat:=(atI letters.cps.toList d).getD 0
noncomputable def fe (tu:Int):Str:=(⟨#[oz tu]⟩:Str)++Txt.slice "aneqoubi" none (some 7)
noncomputable def nm0 (tu:Int) (i:Nat):Str:=if (0+ (i:Int)) <8 then Txt.slice (fe tu) none (some (0+ (i:Int) +1))else (⟨#[oz ((tu+1) %26)]⟩:Str)++Txt.slice (fe tu) none (some (0+ (i:Int) -8))
noncomputable def nm1 (tu:Int) (i:Nat):Str:=((names13)[((tu+ (0+ (i:Int))) %13).toNat]?).getD ""
noncomputable def nm2 (tu:Int) (i:Nat):Str:=(⟨#[oz ((tu+ (0+ (i:Int))) %26)]⟩:Str)++Txt.slice "eyzmopq" none (some ((tu+3* (0+ (i:Int))) %8))
noncomputable def ij (way:Nat) (tu:Int) (i:Nat):Str:=if way=0 then nm0 tu i else if way=1 then nm1 tu i else nm2 tu i
noncomputable def NamesAre (m:Nat) (ws:List Str):Prop:= ∃ (way tu:Nat) (back:Bool),way<3/\tu<26/\ws=(if back=true then ((List.range m).map (ij way tu)).reverse else (List.range m).map (ij way tu))
inductive hX  (vs:List V) (H:Hp) (Q:VK) (E_:XK):Prop
 | mk: ∀ tp m,(vs=[.ref tp,.int m])->(Tp H tp)->(0<=m)->(m<=13)->(∀ l (ws:List Str) H',H' l=some (.lst (ws.map V.str))->(ws.length:Int)=m->NamesAre m.toNat ws->l≠tp->Kp tp H H'->Tp H' tp->Q (.ref l) H')->hX vs H Q E_
theorem ni {d:Int} (h0:0<=d) (h1:d<26):atI letters.cps.toList d=some (oz d):=by
 obtain ⟨c,e,_⟩:=se h0 h1
 unfold oz
 rw [e]
 rfl
theorem sS (tu:Int):(fe tu).length=8:=by unfold fe;rw [wt,aneq.1];rfl
theorem scNamesX:aG ["tape","many","letters","way","turn","back","stem","names","words"] ["tape","many"] (ak fQ):=fsc
theorem rL (F:Fun K "_law_names" "_law_names" fQ f fd) (G:Gb mg) (GD:aE P w K mg base CX0 1 g gd ["tape","many"] cf) (bD:Binds K gd ["tape","many"] []) (kD:PySem.W.keepIn K (.ref g)=true) (mD:mg "_law_digit"=some (.ref g)):
  aE P w K mg base CX0 2 f fd ["tape","many"] hX:=by
 refine F.ok scNamesX (fun vs H Q E h=>?_) (fun cdv A outer s H vs Q E hr h=>?_)
 ·obtain ⟨tp,m,rfl,_⟩:=h
  rfl
 obtain ⟨tp,m,rfl,hT,hm0,hm1,q⟩:=h
 obtain ⟨t,ht,hread⟩: ∃ t,PSs (er CX0 P w K mg base ["tape","many","letters","way","turn","back","stem","names","words"] "_law_names" (ak fQ) f cdv A outer s H E).nox ((cM fQ).drop 5) t/\
   ∀ (b:Int) (l:Addr) (way tu:Nat) (H2:Hp) (o2 o3 o4 o6 o8:Option V),(b=1\/b= -1)->way<3->tu<26->H2 l=some (.lst (((List.range m.toNat).map (ij way tu)).map V.str))->Kp tp H H2->Tp H2 tp->
    t {nx:=fun _ H'=>Q .non H',rt:=Q} [some (.ref tp),some (.int m),o2,o3,o4,some (.int b),o6,some (.ref l),o8] H2:=by
  refine ⟨_,aj (aL (qv (pv 7) (pv 5))),fun b l way tu H2 o2 o3 o4 o6 o8 hb hw1 hw2 hl k2 t2=>?_⟩
  have hlen:(((List.range m.toNat).map (ij way tu)).length:Int)=m:=by rw [List.length_map,List.length_range];lia
  refine ⟨_,rfl,_,rfl,l,_,b,rfl,rfl,SqL.of hl,by lia,fun p hp=>?_⟩
  have hpt:p≠tp:=fun e=>by
   obtain ⟨t0,e0⟩:=t2
   subst e
   rw [e0]at hp
   cases hp
  rcases hb with rfl | rfl
  ·rw [qZ]
   exact q p _ _ ac hlen ⟨way,tu,false,hw1,hw2,rfl⟩ hpt (k2.new hp) (t2.new hp)
  ·rw [kJ,<- List.map_reverse]
   exact q p _ _ ac (by rw [List.length_reverse];exact hlen) ⟨way,tu,true,hw1,hw2,rfl⟩ hpt (k2.new hp) (t2.new hp)
 have cw: ∀ {te:TE} {fr:List Nat} {σ:St} {H2:Hp} {Q2:VK} (g:Nat->Str),(∀ (i:Nat) (H3:Hp) (k:VK),(i:Int) <m->k (.str (g i)) H3->te (some (.int (0+i))::cy fr σ) H3 k)->
   (∀ p,H2 p=none->Q2 (.ref p) (upd H2 p (.lst (((List.range m.toNat).map g).map V.str))))->fc fr te σ (Itr 0 m.toNat) H2 Q2:=by
  intro te fr σ H2 Q2 g hs hd
  refine gy (n:=m.toNat) (R:=fun i v=>v=.int (0+i)) (by lia) iW eY iq
   (fun p i zs H'=>H'=upd H2 p (.lst zs)/\zs=((List.range i).map g).map V.str) (fun p hp=>⟨rfl,rfl⟩) ?_ ?_ ?_
  ·rintro p i zs H' ⟨rfl,rfl⟩
   exact ⟨ac,by rw [List.length_map,List.length_map,List.length_range]⟩
  ·rintro p i zs H' v k hp hi rfl ⟨rfl,rfl⟩ hk
   exact hs i _ k (by lia) (hk (.str (g i)) _ ac ⟨eA,by rw [List.range_succ];simp⟩)
  ·rintro p zs H' hp ⟨rfl,rfl⟩
   exact hd p hp
 refine ⟨_,ae (am (i:=2) scNamesX.nd rfl (Or.inr rfl) aT)
  (ae (am (i:=3) scNamesX.nd rfl (Or.inl rfl) (al GD hr rfl mD kD bD .nil aA (aa (pv 0) (aa ag ad))))
  (ae (am (i:=4) scNamesX.nd rfl (Or.inr rfl) (al GD hr rfl mD kD bD .nil aA (aa (pv 0) (aa ag ad))))
  (ae (am (i:=5) scNamesX.nd rfl (Or.inl rfl) (aw ee ag (aw dH ag (al GD hr rfl mD kD bD .nil aA (aa (pv 0) (aa ag ad))))))
  (ae (bi (aM dh (pv 3) ag (aV _))
   (ae (am (i:=6) scNamesX.nd rfl (Or.inr rfl) (aw gQ (ar pT (pv 2) (pv 4) (fun _ _=>rfl)) (bj l9 aT cg (bq ag))))
   (aj (gn (i:=7) (sc0:=ak fQ) (N0:=["tape","many","letters","way","turn","back","stem","names","words"]) (ys:=["letters","stem","turn"]) (fr:=[2,6,4]) rfl scNamesX.nd rfl (Or.inl rfl) (br rfl G.range (aa (pv 1) ad)) rfl rfl
    cok
    (fun C s H ex=>n5 (aM kQ (pv 0) ag (aV _)) (bj l9 (pv 2) cg (bq (aw a8 (pv 0) ag)))
     (aw gQ (ar pT (pv 1) (aw cR (aw a8 (pv 3) ag) ag) (fun _ _=>rfl)) (bj l9 (pv 2) cg (bq (aw ee (pv 0) ag))))))))
   (aj (bi (aM dh (pv 3) ag (aV _))
    (@ae _ _ _ _ _ (@vC _ 8 _ _ (names13.map V.str) _ _ _ scNamesX.nd rfl (Or.inr rfl) (Or.inl rfl) rfl)
    (aj (gn (i:=7) (sc0:=ak fQ) (N0:=["tape","many","letters","way","turn","back","stem","names","words"]) (ys:=["turn","words"]) (fr:=[4,8]) rfl scNamesX.nd rfl (Or.inl rfl) (br rfl G.range (aa (pv 1) ad)) rfl rfl
     cok
     (fun C s H ex=>ar (r:=cB K) aS (pv 2) (aw cR (aw a8 (pv 1) (pv 0)) ag) (fun _ _=>rfl)))))
    (aj (gn (i:=7) (sc0:=ak fQ) (N0:=["tape","many","letters","way","turn","back","stem","names","words"]) (ys:=["letters","turn"]) (fr:=[2,4]) rfl scNamesX.nd rfl (Or.inl rfl) (br rfl G.range (aa (pv 1) ad)) rfl rfl
     cok
     (fun C s H ex=>aw gQ (ar pT (pv 1) (aw cR (aw a8 (pv 2) (pv 0)) ag) (fun _ _=>rfl)) (bj l9 aT cg (bq (aw cR (aw a8 (pv 2) (aw dH ag (pv 0))) ag)))))))))
  ht)))),?_⟩
 refine ⟨_,rfl,tp,3,rfl,hT,by decide,by decide,fun wy t1 hw0 hw1=>?_⟩
 refine ⟨_,rfl,tp,26,rfl,⟨t1,ac⟩,by decide,by decide,fun tu t2 htu0 htu1=>?_⟩
 rw [eA]
 refine ⟨_,rfl,tp,2,rfl,⟨t2,ac⟩,by decide,by decide,fun bk t3 hb0 hb1=>?_⟩
 rw [eA]
 refine ⟨2,_,rfl,rfl,.inl ⟨by decide,by decide⟩,1,_,rfl,rfl,?_⟩
 have hb:(1-2*bk=1\/1-2*bk= -1):=by lia
 have k3:Kp tp H (upd H tp (.lst [.int t3])):=Kp.tape
 have tt3:Tp (upd H tp (.lst [.int t3])) tp:=⟨t3,ac⟩
 generalize upd H tp (.lst [.int t3])=H3 at k3 tt3 ⊢
 have l26:(letters.length:Int)=26:=by rw [i6];rfl
 have lsz:letters.length<=sizeLine:=by rw [i6];exact Nat.le_of_lt (ao (by decide))
 refine ⟨_,rfl,rfl,_,rfl,?_⟩
 refine cs (fun c=>?_) (fun c=>?_)
 ·-- stems
  have hwy:wy=0:=V.int.inj (of_decide_eq_true c)
  have ec0:=ni htu0 htu1
  refine ⟨_,rfl,_,rfl,letters,tu,oz tu,rfl,rfl,lsz,ec0,7,rfl,"aneqoubi",rfl,(by decide +kernel),_,_,rfl,rfl,?_,?_⟩
  ·rw [aneq.1]
   show 1+7<=sizeLine
   exact Nat.le_of_lt (ao (by decide))
  have zl:=sS tu
  have zsz:(fe tu).length<=sizeLine:=by rw [zl];exact Nat.le_of_lt (ao (by decide))
  refine ⟨_,rfl,m,rfl,by lia,by lia,?_⟩
  refine cw (nm0 tu) ?_ ?_
  ·intro i H4 k hi hk
   refine ⟨_,rfl,_,_,rfl,rfl,_,rfl,?_⟩
   refine cs (fun ci=>?_) (fun ci=>?_)
   ·have ci':(0+ (i:Int)) <8:=of_decide_eq_true ci
    refine ⟨_,rfl,_,rfl,_,_,rfl,rfl,_,rfl,fe tu,rfl,zsz,?_⟩
    unfold nm0 at hk
    rw [if_pos ci']at hk
    exact hk
   ·have ci': ¬ (0+ (i:Int)) <8:=fun y=>ci (decide_eq_true y)
    have ec1:=ni (d:=(tu+1) %26) (Int.emod_nonneg _ (by decide)) (Int.emod_lt_of_pos _ (by decide))
    have e:=kM (fe tu) (j:=0+ (i:Int) -8) (by lia) (by rw [zl];lia)
    unfold nm0 at hk
    rw [if_neg ci']at hk
    refine ⟨_,rfl,_,rfl,_,_,rfl,rfl,_,_,rfl,rfl,(by show (0:Int) <26;decide),letters,_,oz ((tu+1) %26),rfl,rfl,lsz,ec1,_,rfl,_,rfl,_,_,rfl,rfl,_,rfl,fe tu,rfl,zsz,_,_,rfl,rfl,?_,hk⟩
    show 1+ (Txt.slice (fe tu) none (some (0+ (i:Int) -8))).length<=sizeLine
    exact Nat.le_of_lt (ao (by lia))
  ·intro p hp
   have etu:((tu.toNat:Nat):Int)=tu:=by lia
   refine hread (1-2*bk) p 0 tu.toNat _ _ _ _ _ _ hb (by decide) (by lia) ?_ (k3.new hp) (tt3.new hp)
   rw [etu]
   exact ac
 ·refine ⟨_,rfl,rfl,_,rfl,?_⟩
  refine cs (fun c2=>?_) (fun c2=>?_)
  ·-- written words
   refine ⟨(by show 13<=sizeLine;decide),fun pw hpw=>?_⟩
   refine ⟨_,rfl,m,rfl,by lia,by lia,?_⟩
   have s4:Same H3 (upd H3 pw (.lst (names13.map V.str))):=af hpw _
   have g4:(upd H3 pw (.lst (names13.map V.str))) pw=some (.lst (names13.map V.str)):=ac
   have k4:Kp tp H (upd H3 pw (.lst (names13.map V.str))):=k3.same s4
   have tt4:Tp (upd H3 pw (.lst (names13.map V.str))) tp:=tt3.new hpw
   generalize upd H3 pw (.lst (names13.map V.str))=H4 at s4 g4 k4 tt4 ⊢
   refine gy (n:=m.toNat) (R:=fun i v=>v=.int (0+i)) (by lia) iW eY iq
    (fun p i zs H'=>H'=upd H4 p (.lst zs)/\H4 p=none/\zs=((List.range i).map (nm1 tu)).map V.str) (fun p hp=>⟨rfl,hp,rfl⟩) ?_ ?_ ?_
   ·rintro p i zs H' ⟨rfl,_,rfl⟩
    exact ⟨ac,by rw [List.length_map,List.length_map,List.length_range]⟩
   ·rintro p i zs H' v k hp hi rfl ⟨rfl,hp4,rfl⟩ hk
    have h1:=Int.emod_nonneg (tu+ (0+ (i:Int))) (show (13:Int)≠0 by decide)
    have h2:=Int.emod_lt_of_pos (tu+ (0+ (i:Int))) (show (0:Int) <13 by decide)
    obtain ⟨xv,ex,ex2⟩:=fF (xs:=names13.map V.str) h1 (by rw [List.length_map];exact h2)
    have exv:xv=.str (nm1 tu i):=by
     rw [List.getElem?_map]at ex2
     unfold nm1
     cases hx:names13[((tu+ (0+ (i:Int))) %13).toNat]? with
     | none=>rw [hx]at ex2;cases ex2
     | some y=>rw [hx]at ex2;exact (Option.some.inj ex2).symm
    subst exv
    have g5:(upd H4 p (.lst (((List.range i).map (nm1 tu)).map V.str))) pw=some (.lst (names13.map V.str)):=by rw [ah (ai g4 hp4)];exact g4
    refine ⟨_,rfl,_,rfl,_,rfl,_,_,rfl,rfl,_,_,rfl,rfl,(by show (0:Int) <13;decide),pw,_,_,_,rfl,rfl,SqL.of g5,ex,?_⟩
    exact hk _ _ ac ⟨eA,hp4,by rw [List.range_succ];simp⟩
   ·rintro p zs H' hp ⟨rfl,hp4,rfl⟩
    have etu:((tu.toNat:Nat):Int)=tu:=by lia
    refine hread (1-2*bk) p 1 tu.toNat _ _ _ _ _ _ hb (by decide) (by lia) ?_ (k4.new hp4) (tt4.new hp4)
    rw [etu]
    exact ac
  ·-- a letter and a tail
   refine ⟨_,rfl,m,rfl,by lia,by lia,?_⟩
   refine cw (nm2 tu) ?_ ?_
   ·intro i H4 k hi hk
    have ec1:=ni (d:=(tu+ (0+ (i:Int))) %26) (Int.emod_nonneg _ (by decide)) (Int.emod_lt_of_pos _ (by decide))
    have h1:=Int.emod_nonneg (tu+3* (0+ (i:Int))) (show (8:Int)≠0 by decide)
    have h2:=Int.emod_lt_of_pos (tu+3* (0+ (i:Int))) (show (0:Int) <8 by decide)
    have e:=kM "eyzmopq" (j:=(tu+3* (0+ (i:Int))) %8) h1 (by rw [qF];lia)
    refine ⟨_,rfl,_,rfl,_,rfl,_,_,rfl,rfl,_,_,rfl,rfl,(by show (0:Int) <26;decide),letters,_,oz ((tu+ (0+ (i:Int))) %26),rfl,rfl,lsz,ec1,_,rfl,_,rfl,3,_,rfl,rfl,.inl ⟨by decide,by decide⟩,_,_,rfl,rfl,_,_,rfl,rfl,(by show (0:Int) <8;decide),_,rfl,"eyzmopq",rfl,(by rw [qF];exact Nat.le_of_lt (ao (by decide))),_,_,rfl,rfl,?_,hk⟩
    ·show 1+ (Txt.slice "eyzmopq" none (some ((tu+3* (0+ (i:Int))) %8))).length<=sizeLine
     exact Nat.le_of_lt (ao (by lia))
   ·intro p hp
    have etu:((tu.toNat:Nat):Int)=tu:=by lia
    refine hread (1-2*bk) p 2 tu.toNat _ _ _ _ _ _ hb (by decide) (by lia) ?_ (k3.new hp) (tt3.new hp)
    rw [etu]
    exact ac
noncomputable def ndB:List Str->Bool
 | []=>true
 | x::r=> !(r.any fun y=>x.cps.toList==y.cps.toList)&&ndB r
theorem uB: ∀ {l:List Str},ndB l=true->l.Nodup
 | [],_=>List.nodup_nil
 | x::r,h=>by
  unfold ndB at h
  rw [Bool.and_eq_true]at h
  refine List.nodup_cons.mpr ⟨fun m=>?_,uB h.2⟩
  have h1:=h.1
  rw [Bool.not_eq_true',List.any_eq_false]at h1
  exact h1 x m (by simp)
theorem rY:((List.range 3).all fun way=>(List.range 26).all fun tu=>ndB ((List.range 13).map (ij way tu))&&((List.range 13).map (ij way tu)).all cj)=true:=by
 decide +kernel
theorem NamesAre.ok {m:Nat} {ws:List Str} (h:NamesAre m ws) (hm:m<=13):ws.length=m/\ws.Nodup/\ ∀ x∈ws,cj x=true:=by
 obtain ⟨way,tu,back,h1,h2,e⟩:=h
 have a:=rY
 rw [List.all_eq_true]at a
 have a:=a way (List.mem_range.mpr h1)
 rw [List.all_eq_true]at a
 have a:=a tu (List.mem_range.mpr h2)
 rw [Bool.and_eq_true]at a
 have n13:=uB a.1
 have w13:=List.all_eq_true.mp a.2
 have sub:((List.range m).map (ij way tu)).Sublist ((List.range 13).map (ij way tu)):=List.Sublist.map _ (List.range_sublist.mpr hm)
 have nd:=n13.sublist sub
 have wd: ∀ x∈(List.range m).map (ij way tu),cj x=true:=fun x hx=>w13 x (sub.subset hx)
 have ln:((List.range m).map (ij way tu)).length=m:=by rw [List.length_map,List.length_range]
 cases back with
 | false=>
  rw [if_neg (by decide)]at e
  subst e
  exact ⟨ln,nd,wd⟩
 | true=>
  rw [if_pos rfl]at e
  subst e
  exact ⟨by rw [List.length_reverse];exact ln,(List.reverse_perm _).nodup_iff.mpr nd,fun x hx=>wd x (List.mem_reverse.mp hx)⟩
theorem xu:((List.range 3).all fun way=>(List.range 26).all fun tu=>((List.range 13).map (ij way tu)).all fun x=> !(x.cps.toList==("zzz":Str).cps.toList))=true:=by
 decide +kernel
theorem NamesAre.no {m:Nat} {ws:List Str} (h:NamesAre m ws) (hm:m<=13): ∀ x∈ws,x≠"zzz":=by
 obtain ⟨way,tu,back,h1,h2,e⟩:=h
 have a:=xu
 rw [List.all_eq_true]at a
 have a:=a way (List.mem_range.mpr h1)
 rw [List.all_eq_true]at a
 have a:=List.all_eq_true.mp (a tu (List.mem_range.mpr h2))
 have sub:((List.range m).map (ij way tu)).Sublist ((List.range 13).map (ij way tu)):=List.Sublist.map _ (List.range_sublist.mpr hm)
 have wd: ∀ x∈(List.range m).map (ij way tu),x≠"zzz":=fun x hx z=>by
  have:=a x (sub.subset hx)
  rw [z]at this
  revert this
  decide +kernel
 cases back with
 | false=>
  rw [if_neg (by decide)]at e
  subst e
  exact wd
 | true=>
  rw [if_pos rfl]at e
  subst e
  exact fun x hx=>wd x (List.mem_reverse.mp hx)
structure Srt where
 name:Str
 downs:List Str
 ups:List Str
inductive RepS (H:Hp) (s:Srt) (v:V):Prop
 | mk: ∀ a b c,(v=.ref a)->(H a=some (.tup [.str s.name,.ref b,.ref c]))->(H b=some (.tup (s.downs.map V.str)))->(H c=some (.tup (s.ups.map V.str)))->RepS H s v
theorem RepS.mono {H H':Hp} (t:TK H H') {s:Srt} {v:V}:RepS H s v->RepS H' s v:=fun ⟨a,b,c,e,h1,h2,h3⟩=>⟨a,b,c,e,t _ _ h1,t _ _ h2,t _ _ h3⟩
noncomputable def Srt.ok (s:Srt):Prop:=(s.downs++s.ups).Nodup/\(∀ x∈s.downs++s.ups,cj x=true)/\s.downs.length<=3/\s.ups.length<=3/\1<=s.downs.length+s.ups.length/\ ∀ x∈s.downs++s.ups,x≠"zzz"
noncomputable def RepSs (H:Hp) (ss:List Srt) (vs:List V):Prop:=Paired (RepS H) ss vs
theorem RepSs.mono {H H':Hp} (t:TK H H') {ss:List Srt} {vs:List V} (h:RepSs H ss vs):RepSs H' ss vs:=Paired.mapP h fun _ _ r=>r.mono t
theorem RepSs.len {H:Hp} {ss:List Srt} {vs:List V} (h:RepSs H ss vs):ss.length=vs.length:=Paired.length h
theorem aC {α β:Type} {F:α->β->Prop}: ∀ {l:List α} {r:List β} {i:Nat} {b:β},Paired F l r->r[i]? =some b-> ∃ a,l[i]? =some a/\F a b
 | _,_,i,b,.nil,e=>by cases i <;> cases e
 | _,_,0,b,.cons h _,e=>⟨_,rfl,by cases e;exact h⟩
 | _,_,i+1,b,.cons _ t,e=>aC (i:=i) t e
noncomputable def eJ (ss:List Srt):Prop:=1<=ss.length/\ss.length<=4/\(ss.map Srt.name).Nodup/\(∀ s∈ss,cj s.name=true)/\ ∀ s∈ss,s.ok
theorem qU {ws:List Str} (n:ws.Nodup) (w: ∀ x∈ws,cj x=true) (nz: ∀ x∈ws,x≠"zzz") (hl:ws.length=6) (k d u:Nat) (hd:d<=3) (hu:u<=3) (h1:1<=d+u) (nm:Str):
  (Srt.mk nm ((ws.drop k++ws.take k).take d) (((ws.drop k++ws.take k).drop d).take u)).ok:=by
 have nt:(ws.drop k++ws.take k).Nodup:=by
  have:(ws.drop k++ws.take k).Perm (ws.take k++ws.drop k):=List.perm_append_comm
  rw [List.take_append_drop]at this
  exact this.nodup_iff.mpr n
 have mt: ∀ x∈ws.drop k++ws.take k,cj x=true/\x≠"zzz":=fun x hx=>by
  rw [List.mem_append]at hx
  rcases hx with h | h
  ·exact ⟨w x (List.mem_of_mem_drop h),nz x (List.mem_of_mem_drop h)⟩
  ·exact ⟨w x (List.mem_of_mem_take h),nz x (List.mem_of_mem_take h)⟩
 have lt:(ws.drop k++ws.take k).length=6:=by rw [List.length_append,List.length_drop,List.length_take];lia
 generalize ws.drop k++ws.take k=ts at nt mt lt
 have sub:(ts.take d++(ts.drop d).take u).Sublist ts:=by
  have:=List.take_append_drop d ts
  conv=>rhs;rw [<- this]
  exact List.Sublist.append (List.Sublist.refl _) (List.take_sublist _ _)
 refine ⟨nt.sublist sub,fun x hx=>(mt x (sub.subset hx)).1,?_,?_,?_,fun x hx=>(mt x (sub.subset hx)).2⟩
 ·show (ts.take d).length<=3
  rw [List.length_take];lia
 ·show ((ts.drop d).take u).length<=3
  rw [List.length_take];lia
 ·show 1<=(ts.take d).length+ ((ts.drop d).take u).length
  rw [List.length_take,List.length_take,List.length_drop];lia
inductive lN  (vs:List V) (H:Hp) (Q:VK) (E_:XK):Prop
 | mk: ∀ tp c,(vs=[.ref tp,.bl c])->(Tp H tp)->(∀ a ss xs H',H' a=some (.tup xs)->RepSs H' ss xs->eJ ss->Kp tp H H'->Tp H' tp->Q (.ref a) H')->lN vs H Q E_
theorem yK (k:Bool): ∃ m:Int,atI [V.int 3,V.int 4] (if k then 1 else 0)=some (.int m)/\3<=m/\m<=4:=by
 cases k
 ·exact ⟨3,rfl,by decide,by decide⟩
 ·exact ⟨4,rfl,by decide,by decide⟩
theorem uH {d u:Int} (hd:0<=d) (hu:0<=u) (hu3:u<=3): ∃ u1:Int,(if (if decide (V.int d=V.int 0)=true then (1:Int)else 0) >u then (if decide (V.int d=V.int 0)=true then (1:Int)else 0)else u)=u1/\0<=u1/\u1<=3/\1<=d+u1:=by
 refine ⟨_,rfl,?_⟩
 by_cases c:d=0
 ·subst c
  rw [if_pos (decide_eq_true rfl)]
  split <;> lia
 ·rw [if_neg (fun e=>c (V.int.inj (of_decide_eq_true e)))]
  split <;> lia
theorem dC {H:Hp} {tp p:Addr} (t:Tp H tp) (hp:H p=none):p≠tp:=fun e=>by
 obtain ⟨t0,e0⟩:=t
 subst e
 rw [e0]at hp
 cases hp
theorem wn (xs:List V) {a b:Nat} (h:a+b<=xs.length):cV xs (some (a:Int)) (some ((a:Int) + (b:Int)))=(xs.drop a).take b:=by
 unfold cV
 rw [show ((a:Int) + (b:Int))=((a+b:Nat):Int) by lia,HT.sIx_nat,HT.sIx_nat,Nat.min_eq_left h,Nat.min_eq_left (by lia),Nat.add_sub_cancel_left]
theorem scSorts:aG ["tape","few","many","names","words","sorts","k","most","downs","ups","turned"] ["tape","few"] (ak pj):=fsc
theorem uj (F:Fun K "_law_sorts" "_law_sorts" pj f fd) (G:Gb mg) (GD:aE P w K mg base CX0 1 g gd ["tape","many"] cf) (bD:Binds K gd ["tape","many"] []) (kD:PySem.W.keepIn K (.ref g)=true) (mD:mg "_law_digit"=some (.ref g))
  (GN:aE P w K mg base CX0 2 f2 fd2 ["tape","many"] hX) (bN:Binds K fd2 ["tape","many"] []) (kN:PySem.W.keepIn K (.ref f2)=true) (mN:mg "_law_names"=some (.ref f2)):
  aE P w K mg base CX0 3 f fd ["tape","few"] lN:=by
 refine F.ok scSorts (fun vs H Q E h=>?_) (fun cdv A outer s H vs Q E hr h=>?_)
 ·obtain ⟨tp,c,rfl,_⟩:=h
  rfl
 obtain ⟨tp,few,rfl,hT,q⟩:=h
 have hr1:=hr.mono (show 1<=2 by decide)
 refine ⟨_,ae (am (i:=2) scSorts.nd rfl (Or.inl rfl) (aw a8 ag (al GD hr1 rfl mD kD bD .nil aA (aa (pv 0) (aa
    (ar (r:=cB K) aS (aN (aa ag (aa ag ad))) (bO gD rfl G.int (by decide +kernel) (aa (ii dh (al GD hr1 rfl mD kD bD .nil aA (aa (pv 0) (aa ag ad))) ag (aV _)) ad)) (fun _ _=>rfl)) ad)))))
  (ae (am (i:=3) scSorts.nd rfl (Or.inl rfl) (al GN hr rfl mN kN bN .nil aA (aa (pv 0) (aa (pv 2) ad))))
  (ae (am (i:=4) scSorts.nd rfl (Or.inl rfl) (al GN hr rfl mN kN bN .nil aA (aa (pv 0) (aa ag ad))))
  (ae (am (i:=5) scSorts.nd rfl (Or.inl rfl) (aN ad))
  (ae (a6 PassesOwn.never rfl (br rfl G.range (aa (pv 2) ad)) (au (i:=6) scSorts.nd rfl (Or.inl rfl))
   (ae (am (i:=7) scSorts.nd rfl (Or.inl rfl) (ar (r:=cB K) aS (aN (aa ag (aa ag ad))) (bO gD rfl G.int (by decide +kernel) (aa (ii dh (al GD hr1 rfl mD kD bD .nil aA (aa (pv 0) (aa ag ad))) ag (aV _)) ad)) (fun _ _=>rfl)))
   (ae (am (i:=8) scSorts.nd rfl (Or.inl rfl) (al GD hr1 rfl mD kD bD .nil aA (aa (pv 0) (aa (pv 7) ad))))
   (ae (am (i:=9) scSorts.nd rfl (Or.inl rfl) (aq (sI rfl) rfl G.max (by decide +kernel) (aa (al GD hr1 rfl mD kD bD .nil aA (aa (pv 0) (aa (pv 7) ad)))
    (aa (bO gD rfl G.int (by decide +kernel) (aa (ii dh (pv 8) ag (aV _)) ad)) ad))))
   (ae (bi (PW.pt (iP (dZ (pv 1)) (gm (aM oj (aw dH (pv 8) (pv 9)) ag (aV _))))) (aj (am (i:=9) scSorts.nd rfl (Or.inl rfl) (aw mX ag (pv 8)))) aP)
   (ae (am (i:=10) scSorts.nd rfl (Or.inl rfl) (aw cY (bj dv (pv 4) (bq (aw cR (pv 6) ag)) cg) (bj dv (pv 4) cg (bq (aw cR (pv 6) ag)))))
   (aj (bx (dg PySem.F.plainAttrs_list PySem.F.slot_list_append PySem.F.type_list_append bn (pv 5) (aa (aK (aa (ar (r:=cB K) aS (pv 3) (pv 6) (fun _ _=>rfl))
    (aa (bO (r:=fu K) bZ rfl G.tuple (by decide +kernel) (aa (bj dv (pv 10) cg (bq (pv 8))) ad))
    (aa (bO (r:=fu K) bZ rfl G.tuple (by decide +kernel) (aa (bj dv (pv 10) (bq (pv 8)) (bq (aw a8 (pv 8) (pv 9)))) ad)) ad)))) ad))))))))))
  (aj (aL (bO (r:=fu K) bZ rfl G.tuple (by decide +kernel) (aa (pv 5) ad)))))))),?_⟩
 refine ⟨_,rfl,(by show 2<=sizeLine;decide),fun p0 hp0=>?_⟩
 refine ⟨_,rfl,tp,8,rfl,hT.new hp0,by decide,by decide,fun d0 t0 _ _=>⟨rfl,?_⟩⟩
 obtain ⟨m0,em0,hm3,hm4⟩:=yK (decide (V.int d0=V.int 5))
 refine .inr ⟨_,rfl,p0,_,_,_,rfl,rfl,SqL.of (by rw [ah (dC hT hp0)];exact ac),em0,?_⟩
 have k0:Kp tp H (upd (upd H p0 (.lst [.int 3,.int 4])) tp (.lst [.int t0])):=(Kp.refl.new hp0).trans Kp.tape
 have tt0:Tp (upd (upd H p0 (.lst [.int 3,.int 4])) tp (.lst [.int t0])) tp:=⟨t0,ac⟩
 generalize upd (upd H p0 (.lst [.int 3,.int 4])) tp (.lst [.int t0])=H1 at k0 tt0 ⊢
 refine ⟨tp,_,rfl,tt0,by lia,by lia,fun dm t1 hdm0 hdm1=>?_⟩
 have k1:Kp tp H (upd H1 tp (.lst [.int t1])):=k0.trans Kp.tape
 have tt1:Tp (upd H1 tp (.lst [.int t1])) tp:=⟨t1,ac⟩
 generalize upd H1 tp (.lst [.int t1])=H2 at k1 tt1 ⊢
 refine ⟨1,_,rfl,rfl,?_⟩
 refine ⟨_,rfl,_,rfl,tp,_,rfl,tt1,by lia,by lia,fun nl ns H3 hnl hnlen hN hnne k2' tt2=>?_⟩
 have k2:=k1.trans k2'
 refine ⟨_,rfl,tp,6,rfl,tt2,by decide,by decide,fun wl ws H4 hwl hwlen hW hwne k3' tt3=>?_⟩
 have k3:=k2.trans k3'
 have hnl4:=k3' _ _ hnl hnne
 refine ⟨(by show 0<=sizeLine;decide),fun sl hsl=>?_⟩
 have hslt:=dC tt3 hsl
 have k4:Kp tp H (upd H4 sl (.lst [])):=k3.new hsl
 have tt4:=tt3.new (o:=.lst []) hsl
 have s4:=af hsl (.lst [])
 have nsl:nl≠sl:=ai hnl4 hsl
 have wsl:wl≠sl:=ai hwl hsl
 have hnl5:=s4 _ _ hnl4
 have hwl5:=s4 _ _ hwl
 have hsl5:(upd H4 sl (.lst [])) sl=some (.lst []):=ac
 generalize upd H4 sl (.lst [])=H5 at k4 tt4 hnl5 hwl5 hsl5 ⊢
 obtain ⟨nLen,nNd,nWd⟩:=hN.ok (by lia)
 obtain ⟨wLen,wNd,wWd⟩:=hW.ok (by decide)
 have wLen6:ws.length=6:=wLen
 refine ⟨_,rfl,1+dm,rfl,by lia,by lia,?_⟩
 refine dq (fun i σ H'=> ∃ o6 o7 o8 o9 o10 zs ss,σ=[some (.ref tp),some (.bl few),some (.int (1+dm)),some (.ref nl),some (.ref wl),some (.ref sl),o6,o7,o8,o9,o10]/\Kp tp H H'/\Tp H' tp/\H' nl=some (.lst (ns.map V.str))/\H' wl=some (.lst (ws.map V.str))/\H' sl=some (.lst zs)/\RepSs H' ss zs/\ss.length=i/\(∀ s∈ss,s.ok)/\ss.map Srt.name=ns.take i)
  ⟨none,none,none,none,none,[],[],rfl,k4,tt4,hnl5,hwl5,hsl5,.nil,rfl,fun s h=>(by cases h),rfl⟩ ?_ ?_
 ·rintro i σ H6 hi ⟨o6,o7,o8,o9,o10,zs,ss,rfl,k6,tt6,hnl6,hwl6,hsl6,hR,hssl,hok,hnm⟩
  refine ⟨(by show 2<=sizeLine;decide),fun p0 hp0=>?_⟩
  refine ⟨_,rfl,tp,8,rfl,tt6.new hp0,by decide,by decide,fun d0 t0 _ _=>⟨rfl,?_⟩⟩
  obtain ⟨m1,em1,hm3,hm4⟩:=yK (decide (V.int d0=V.int 5))
  refine .inr ⟨_,rfl,p0,_,_,_,rfl,rfl,SqL.of (by rw [ah (dC tt6 hp0)];exact ac),em1,?_⟩
  have k7:Kp tp H6 (upd (upd H6 p0 (.lst [.int 3,.int 4])) tp (.lst [.int t0])):=(Kp.refl.new hp0).trans Kp.tape
  have tt7:Tp (upd (upd H6 p0 (.lst [.int 3,.int 4])) tp (.lst [.int t0])) tp:=⟨t0,ac⟩
  generalize upd (upd H6 p0 (.lst [.int 3,.int 4])) tp (.lst [.int t0])=H7 at k7 tt7 ⊢
  refine ⟨_,rfl,_,rfl,tp,_,rfl,tt7,by lia,by lia,fun d t2 hd0 hd1=>?_⟩
  have k8:Kp tp H6 (upd H7 tp (.lst [.int t2])):=k7.trans Kp.tape
  have tt8:Tp (upd H7 tp (.lst [.int t2])) tp:=⟨t2,ac⟩
  generalize upd H7 tp (.lst [.int t2])=H8 at k8 tt8 ⊢
  refine ⟨_,rfl,_,rfl,tp,_,rfl,tt8,by lia,by lia,fun u t3 hu0 hu1=>?_⟩
  have k9:Kp tp H6 (upd H8 tp (.lst [.int t3])):=k8.trans Kp.tape
  have tt9:Tp (upd H8 tp (.lst [.int t3])) tp:=⟨t3,ac⟩
  generalize upd H8 tp (.lst [.int t3])=H9 at k9 tt9 ⊢
  obtain ⟨u1,eu1,hu10,hu13,hdu⟩:=uH (d:=d) (u:=u) hd0 hu0 (by lia)
  refine ⟨_,rfl,rfl,.inr ⟨_,rfl,_,_,rfl,?_⟩⟩
  rw [eu1]
  refine ⟨_,rfl,few,rfl,?_⟩
  refine yc (c2:=decide (3<d*u1)) (fun h=>⟨_,rfl,_,rfl,_,_,rfl,rfl,.inl ⟨by lia,by lia⟩,_,_,rfl,rfl,_,rfl,h⟩) (fun _ c=>?A) (fun _=>?B)
  case' A=>
   have c':3<d*u1:=of_decide_eq_true c
   have hdp:0<d:=by
    rcases (show d=0\/0<d by lia)with h | h
    ·subst h;lia
    ·exact h
   refine ⟨_,rfl,3,d,rfl,rfl,⟨hdp,by lia⟩,?_⟩
   obtain ⟨v,hv,ev⟩: ∃ v:Int,(0<=v/\v<=3/\1<=d+v)/\V.int (3/d)=V.int v:=by
    refine ⟨3/d,?_,rfl⟩
    rcases (show d=1\/d=2\/d=3 by lia)with h | h | h <;> subst h <;> decide
   rw [ev]
  case' B=>
   have hv:0<=u1/\u1<=3/\1<=d+u1:=⟨hu10,hu13,hdu⟩
   generalize u1=v at hv ⊢
  all_goals
   have hwl9:=k9 _ _ hwl6 hwne
   have hnl9:=k9 _ _ hnl6 hnne
   have hsl9:=k9 _ _ hsl6 hslt
   have hkk0:0<=(0+ (i:Int)) %6:=Int.emod_nonneg _ (by decide)
   have hkk1:(0+ (i:Int)) %6<6:=Int.emod_lt_of_pos _ (by decide)
   refine ⟨_,rfl,_,rfl,_,_,rfl,rfl,(by show (0:Int) <6;decide),_,rfl,wl,_,rfl,SqL.of hwl9,fun p1 hp1=>?_⟩
   rw [j2 (ws.map V.str) hkk0 (by rw [List.length_map];lia)]
   have hn6:((0+ (i:Int)) %6).toNat<=6:=by lia
   have hct:cV (ws.map V.str) none (some ((0+ (i:Int)) %6))=(ws.map V.str).take ((0+ (i:Int)) %6).toNat:=fZ (ws.map V.str) hkk0 (by rw [List.length_map];lia)
   generalize hn:((0+ (i:Int)) %6).toNat=n at hct hn6 ⊢
   have s1:=af hp1 (.lst ((ws.map V.str).drop n))
   have g1:(upd H9 p1 (.lst ((ws.map V.str).drop n))) p1=some (.lst ((ws.map V.str).drop n)):=ac
   generalize upd H9 p1 (.lst ((ws.map V.str).drop n))=Ha at s1 g1 ⊢
   refine ⟨_,rfl,_,rfl,_,_,rfl,rfl,(by show (0:Int) <6;decide),_,rfl,wl,_,rfl,SqL.of (s1 _ _ hwl9),fun p2 hp2=>?_⟩
   rw [hct]
   have s2:=af hp2 (.lst ((ws.map V.str).take n))
   have g2:(upd Ha p2 (.lst ((ws.map V.str).take n))) p2=some (.lst ((ws.map V.str).take n)):=ac
   generalize upd Ha p2 (.lst ((ws.map V.str).take n))=Hb at s2 g2 ⊢
   have lcat:((ws.map V.str).drop n).length+ ((ws.map V.str).take n).length<=12:=by rw [List.length_drop,List.length_take,List.length_map];lia
   refine ⟨p1,p2,_,_,rfl,rfl,s2 _ _ g1,g2,Nat.le_of_lt (ao (by lia)),fun p3 hp3=>?_⟩
   have e3:(ws.map V.str).drop n++(ws.map V.str).take n=(ws.drop n++ws.take n).map V.str:=by rw [List.map_append,List.map_drop,List.map_take]
   rw [e3]
   have lts:(ws.drop n++ws.take n).length=6:=by rw [List.length_append,List.length_drop,List.length_take];lia
   have hsok:=fun nm=>qU wNd wWd (hW.no (by decide)) wLen6 n d.toNat v.toNat (by lia) (by lia) (by lia) nm
   generalize ws.drop n++ws.take n=ts at lts hsok ⊢
   have s3:=af hp3 (.lst (ts.map V.str))
   have g3:(upd Hb p3 (.lst (ts.map V.str))) p3=some (.lst (ts.map V.str)):=ac
   generalize upd Hb p3 (.lst (ts.map V.str))=Hc at s3 g3 ⊢
   have S9:Same H9 Hc:=s1.trans (s2.trans s3)
   have hslc:=S9 _ _ hsl9
   have hnlc:=S9 _ _ hnl9
   have hwlc:=S9 _ _ hwl9
   have kc:Kp tp H6 Hc:=k9.same S9
   have ttc:Tp Hc tp:=tt9.same S9
   refine ⟨_,rfl,.inl ⟨rfl,_,SqL.of hslc⟩,?_⟩
   obtain ⟨nm,enm⟩: ∃ nm,ns[i]? =some nm:=⟨ns[i]'(by lia),List.getElem?_eq_getElem (by lia)⟩
   have eat:atI (ns.map V.str) (0+ (i:Int))=some (V.str nm):=by
    rw [Int.zero_add]
    exact aF (by rw [List.getElem?_map,enm];rfl)
   refine ⟨_,rfl,_,rfl,nl,_,_,_,rfl,rfl,SqL.of hnlc,eat,?_⟩
   refine ⟨_,rfl,_,rfl,d,rfl,p3,_,rfl,SqL.of g3,fun p4 hp4=>?_⟩
   rw [fZ (ts.map V.str) hd0 (by rw [List.length_map];lia),<- List.map_take]
   have s4:=af hp4 (.lst ((ts.take d.toNat).map V.str))
   have g4:(upd Hc p4 (.lst ((ts.take d.toNat).map V.str))) p4=some (.lst ((ts.take d.toNat).map V.str)):=ac
   generalize upd Hc p4 (.lst ((ts.take d.toNat).map V.str))=Hd at s4 g4 ⊢
   refine ⟨p4,_,rfl,.inl ⟨SqL.of g4,fun p5 hp5=>?_⟩⟩
   have s5:=af hp5 (.tup ((ts.take d.toNat).map V.str))
   have g5:(upd Hd p5 (.tup ((ts.take d.toNat).map V.str))) p5=some (.tup ((ts.take d.toNat).map V.str)):=ac
   generalize upd Hd p5 (.tup ((ts.take d.toNat).map V.str))=He at s5 g5 ⊢
   refine ⟨_,rfl,_,rfl,d,rfl,_,rfl,_,rfl,_,_,rfl,rfl,_,rfl,p3,_,rfl,SqL.of (s5 _ _ (s4 _ _ g3)),fun p6 hp6=>?_⟩
   have ecm:cV (ts.map V.str) (some d) (some (d+v))=((ts.drop d.toNat).take v.toNat).map V.str:=by
    have:=wn (ts.map V.str) (a:=d.toNat) (b:=v.toNat) (by rw [List.length_map];lia)
    rw [show ((d.toNat:Nat):Int)=d by lia,show ((v.toNat:Nat):Int)=v by lia]at this
    rw [this,List.map_take,List.map_drop]
   rw [ecm]
   have s6:=af hp6 (.lst (((ts.drop d.toNat).take v.toNat).map V.str))
   have g6:(upd He p6 (.lst (((ts.drop d.toNat).take v.toNat).map V.str))) p6=some (.lst (((ts.drop d.toNat).take v.toNat).map V.str)):=ac
   generalize upd He p6 (.lst (((ts.drop d.toNat).take v.toNat).map V.str))=Hf at s6 g6 ⊢
   refine ⟨p6,_,rfl,.inl ⟨SqL.of g6,fun p7 hp7=>?_⟩⟩
   have s7:=af hp7 (.tup (((ts.drop d.toNat).take v.toNat).map V.str))
   have g7:(upd Hf p7 (.tup (((ts.drop d.toNat).take v.toNat).map V.str))) p7=some (.tup (((ts.drop d.toNat).take v.toNat).map V.str)):=ac
   generalize upd Hf p7 (.tup (((ts.drop d.toNat).take v.toNat).map V.str))=Hg at s7 g7 ⊢
   refine ⟨(by show 3<=sizeLine;decide),fun p8 hp8=>?_⟩
   have s8:=af hp8 (.tup [.str nm,.ref p5,.ref p7])
   have g8:(upd Hg p8 (.tup [.str nm,.ref p5,.ref p7])) p8=some (.tup [.str nm,.ref p5,.ref p7]):=ac
   generalize upd Hg p8 (.tup [.str nm,.ref p5,.ref p7])=Hh at s8 g8 ⊢
   have Sc:Same Hc Hh:=s4.trans (s5.trans (s6.trans (s7.trans s8)))
   have hslh:=Sc _ _ hslc
   have hzl:zs.length=i:=by rw [<- hR.len];exact hssl
   refine ⟨sl,zs,.ref p8,rfl,rfl,hslh,ao (by lia),?_⟩
   have tk:TK Hh (upd Hh sl (.lst (zs++[.ref p8]))):=TK.lst hslh
   have kh:Kp tp H6 Hh:=kc.same Sc
   refine ⟨_,_,_,_,_,zs++[.ref p8],ss++[⟨nm,ts.take d.toNat,(ts.drop d.toNat).take v.toNat⟩],rfl,?_,?_,?_,?_,ac,?_,?_,?_,?_⟩
   ·intro b o hb hbn
    rw [ah (ai (k3 _ _ hb hbn) hsl)]
    exact kh _ _ (k6 _ _ hb hbn) hbn
   ·obtain ⟨t9,e9⟩:=ttc.same Sc
    exact ⟨t9,by rw [ah (Ne.symm hslt)];exact e9⟩
   ·rw [ah nsl];exact Sc _ _ hnlc
   ·rw [ah wsl];exact Sc _ _ hwlc
   ·exact Paired.snoc (hR.mono ((kh.tk tt6).trans tk)) ⟨p8,p5,p7,rfl,tk _ _ g8,tk _ _ (s8 _ _ (s7 _ _ (s6 _ _ g5))),tk _ _ (s8 _ _ g7)⟩
   ·rw [List.length_append,hssl];rfl
   ·intro s hs
    rw [List.mem_append,List.mem_singleton]at hs
    rcases hs with h | h
    ·exact hok s h
    ·subst h;exact hsok nm
   ·rw [List.map_append,hnm,List.map_singleton,List.take_add_one,enm]
    rfl
 ·rintro σ H6 ⟨o6,o7,o8,o9,o10,zs,ss,rfl,k6,tt6,hnl6,hwl6,hsl6,hR,hssl,hok,hnm⟩
  refine ⟨_,rfl,sl,zs,rfl,.inl ⟨SqL.of hsl6,fun pt hpt=>?_⟩⟩
  refine q pt ss zs _ ac (hR.mono (TK.new hpt)) ⟨by lia,by lia,?_,?_,hok⟩ (k6.new hpt) (tt6.new hpt)
  ·rw [hnm]
   exact nNd.sublist (List.take_sublist _ _)
  ·intro s hs
   refine nWd _ (List.mem_of_mem_take (i:=(1+dm).toNat) ?_)
   rw [<- hnm]
   exact List.mem_map_of_mem hs
noncomputable def vh (H:Hp) (ys:List V) (z:V):Prop:= ∃ a,z=.ref a/\H a=some (.tup ys)
noncomputable def Tups (H:Hp) (yss:List (List V)) (zs:List V):Prop:=Paired (vh H) yss zs
theorem Tups.mono {H H':Hp} (t:TK H H') {yss:List (List V)} {zs:List V} (h:Tups H yss zs):Tups H' yss zs:=Paired.mapP h fun _ _ ⟨a,e,g⟩=>⟨a,e,t _ _ g⟩
theorem Tups.len {H:Hp} {yss:List (List V)} {zs:List V} (h:Tups H yss zs):yss.length=zs.length:=Paired.length h
theorem Tups.append {H:Hp}: ∀ {a c:List (List V)} {b d:List V},Tups H a b->Tups H c d->Tups H (a++c) (b++d)
 | _,_,_,_,.nil,h=>h
 | _,_,_,_,.cons x t,h=>.cons x (Tups.append t h)
theorem ay {H H':Hp} (s:Same H H'):TK H H':=fun a xs h=>s _ _ h
theorem gA {K:PySem.W.Frag} {a:Addr} {xs:List V} {fr:List Nat} {te:TE} {σ:St} {H1:Hp} {Q:VK} (hn:xs.length<=1000) (ha:H1 a=some (.tup xs)) (g:V->List V)
  (hte: ∀ v H k,v∈xs->(∀ p,H p=none->k (.ref p) (upd H p (.tup (g v))))->te (some v::cy fr σ) H k)
  (hd: ∀ p zs H',H1 p=none->Same H1 H'->H' p=some (.lst zs)->Tups H' (xs.map g) zs->Q (.ref p) H'):fc fr te σ (Itt K a) H1 Q:=by
 intro p hp
 refine ⟨fun i m zs H=>i<=xs.length/\m=xs.length-i/\Same H1 H/\H p=some (.lst zs)/\zs.length=i/\Tups H ((xs.take i).map g) zs,⟨_,Nat.zero_le _,rfl,af hp _,ac,rfl,.nil⟩,?_⟩
 rintro i m zs H ⟨hi,hm,sm,gp,hz,hT⟩
 refine ⟨gp,?_⟩
 by_cases e:i=xs.length
 ·subst e
  rw [List.take_length]at hT
  exact .inl ⟨⟨xs,SqT.of (sm _ _ ha),Nat.le_refl _⟩,hd p zs H hp sm gp hT⟩
 ·have hlt:i<xs.length:=by lia
  refine .inr ⟨⟨xs,xs[i],SqT.of (sm _ _ ha),List.getElem?_eq_getElem hlt⟩,ao (by lia),fun v H' hv=>?_⟩
  obtain ⟨rfl,hv⟩:=hv
  have hv:=hv xs (SqT.of (sm _ _ ha))
  refine hte v _ _ (List.mem_of_getElem? hv) fun q hq=>?_
  have s2:=af hq (.tup (g v))
  have gq:(upd H' q (.tup (g v))) q=some (.tup (g v)):=ac
  generalize upd H' q (.tup (g v))=H2 at s2 gq ⊢
  have gp2:=s2 _ _ gp
  have tk:TK H2 (upd H2 p (.lst (zs++[.ref q]))):=TK.lst gp2
  refine ⟨gp2,xs.length- (i+1),by lia,by lia,rfl,?_,ac,by rw [List.length_append,hz];rfl,?_⟩
  ·intro b o hb
   rw [ah (ai hb hp)]
   exact s2 _ _ (sm _ _ hb)
  ·rw [List.take_add_one,hv,List.map_append]
   exact Paired.snoc (hT.mono ((ay s2).trans tk)) ⟨q,rfl,tk _ _ gq⟩
theorem i5 {α β:Type} {F:α->β->Prop}: ∀ {l:List α} {r:List β},Paired F l r-> ∀ n,Paired F (l.take n) (r.take n)
 | _,_,.nil,n=>by rw [List.take_nil,List.take_nil];exact .nil
 | _,_,.cons h t,0=>.nil
 | _,_,.cons h t,n+1=>.cons h (i5 t n)
noncomputable def bM (k:Int):List Srt->List (Int×Str)
 | []=>[]
 | q::r=>q.downs.map (fun x=>(k,x))++bM (k+1) r
noncomputable def dj (o:Srt) (qs:List Srt):List (Int×Str):=o.ups.map (fun x=>(-1,x))++bM 0 qs
noncomputable def tgV (t:Int×Str):List V:=[.int t.1,.str t.2]
theorem jp (k:Int): ∀ (qs:List Srt),(∀ s∈qs,s.ok)->(bM k qs).length<=3*qs.length:=by
 intro qs
 induction qs generalizing k with
 | nil=>intro _;exact Nat.le_refl _
 | cons q r ih=>
  intro h
  have h1:=ih (k+1) fun s hs=>h s (List.mem_cons_of_mem _ hs)
  have h2:=(h q List.mem_cons_self).2.2.1
  unfold bM
  rw [List.length_append,List.length_map,List.length_cons]
  lia
theorem nI (k:Int): ∀ (qs:List Srt) (q:Srt),bM k (qs++[q])=bM k qs++q.downs.map (fun x=>(k+qs.length,x)):=by
 intro qs
 induction qs generalizing k with
 | nil=>intro q;show q.downs.map (fun x=>(k,x))++[]=_;rw [List.append_nil];show _=q.downs.map (fun x=>(k+ ((0:Nat):Int),x));rw [show k+ ((0:Nat):Int)=k by lia]
 | cons r rs ih=>
  intro q
  show r.downs.map _++bM (k+1) (rs++[q])=(r.downs.map _++bM (k+1) rs)++_
  rw [ih,List.append_assoc]
  have:k+1+ (rs.length:Int)=k+ ((r::rs).length:Int):=by rw [List.length_cons];lia
  rw [this]
noncomputable def TabOk (H:Hp) (kvs:List (Key×V)) (ss:List Srt):Prop:= ∀ s∈ss,∃ a b c,aO kvs (.inr s.name)=some (.ref a)/\H a=some (.tup [.ref b,.ref c])/\H b=some (.tup (s.downs.map V.str))/\H c=some (.tup (s.ups.map V.str))
theorem TabOk.mono {H H':Hp} (t:TK H H') {kvs:List (Key×V)} {ss:List Srt} (h:TabOk H kvs ss):TabOk H' kvs ss:=fun s hs=>by
 obtain ⟨a,b,c,e,h1,h2,h3⟩:=h s hs
 exact ⟨a,b,c,e,t _ _ h1,t _ _ h2,t _ _ h3⟩
theorem TabOk.put {H:Hp} {kvs:List (Key×V)} {ss:List Srt} {i:Nat} {s:Srt} {a b c:Addr} (nd:(ss.map Srt.name).Nodup) (hs:ss[i]? =some s) (h:TabOk H kvs (ss.take i))
  (h1:H a=some (.tup [.ref b,.ref c])) (h2:H b=some (.tup (s.downs.map V.str))) (h3:H c=some (.tup (s.ups.map V.str))):TabOk H (aX kvs (.inr s.name) (.ref a)) (ss.take (i+1)):=by
 intro x hx
 rw [List.take_add_one,hs,List.mem_append]at hx
 rcases hx with hx | hx
 ·obtain ⟨a',b',c',e,r⟩:=h x hx
  refine ⟨a',b',c',?_,r⟩
  rw [bP,if_neg]
  ·exact e
  ·intro z
   have z:x.name=s.name:=Sum.inr.inj z
   obtain ⟨j,hj⟩:=List.getElem?_of_mem hx
   have hji:j<i:=by
    have:=(List.getElem?_eq_some_iff.mp hj).1
    rw [List.length_take]at this
    lia
   rw [List.getElem?_take,if_pos hji]at hj
   have q1:(ss.map Srt.name)[j]? =some s.name:=by rw [List.getElem?_map,hj,<- z];rfl
   have q2:(ss.map Srt.name)[i]? =some s.name:=by rw [List.getElem?_map,hs];rfl
   have:=eW nd q1 q2
   lia
 ·have hx:x=s:=by simpa using hx
  subst hx
  exact ⟨a,b,c,by rw [bP,if_pos rfl],h1,h2,h3⟩
noncomputable def SrtsAt (H:Hp) (a:Addr) (ss:List Srt):Prop:= ∃ xs,H a=some (.tup xs)/\RepSs H ss xs
theorem SrtsAt.mono {H H':Hp} (t:TK H H') {a:Addr} {ss:List Srt}:SrtsAt H a ss->SrtsAt H' a ss:=fun ⟨xs,h,r⟩=>⟨xs,t _ _ h,r.mono t⟩
inductive gh  (vs:List V) (H:Hp) (Q:VK) (E_:XK):Prop
 | mk: ∀ sa pa ss o qs,(vs=[.ref sa,.str (Srt.name o),.ref pa])->(SrtsAt H sa ss)->(eJ ss)->(o∈ss)->(H pa=some (.tup (qs.map fun q=>V.str (Srt.name q))))->((∀ q∈qs,q∈ss))->(qs.length<=3)->(∀ p zs H',H p=none->Same H H'->H' p=some (.lst zs)->Tups H' ((dj o qs).map tgV) zs->Q (.ref p) H')->gh vs H Q E_
theorem scTargets:aG ["sorts","own","parts","table","name","downs","ups","found","k"] ["sorts","own","parts"] (ak fO):=fsc
theorem pI (F:Fun K "_law_targets" "_law_targets" fO f fd) (G:Gb mg):
  aE P w K mg base CX0 1 f fd ["sorts","own","parts"] gh:=by
 refine F.ok scTargets (fun vs H Q E h=>?_) (fun cdv A outer s H vs Q E hr h=>?_)
 ·obtain ⟨sa,pa,ss,o,qs,rfl,_⟩:=h
  rfl
 obtain ⟨sa,pa,ss,o,qs,rfl,⟨xs,hsa,hR⟩,hok,ho,hpa,hqs,hql,q⟩:=h
 have hu:=cZ hr
 refine ⟨_,ae (am (i:=3) scTargets.nd rfl (Or.inl rfl) fU)
  (ae (a6 PassesOwn.never rfl (bf (pv 0)) (cC rfl (aJ (au (i:=4) scTargets.nd rfl (Or.inl rfl)) (aJ (au (i:=5) scTargets.nd rfl (Or.inl rfl)) (aJ (au (i:=6) scTargets.nd rfl (Or.inl rfl)) bV))))
   (aj (cA hu (pv 3) (pv 4) (aK (aa (pv 5) (aa (pv 6) ad))) rfl)))
  (ae (gn (i:=7) (sc0:=ak fO) (N0:=["sorts","own","parts","table","name","downs","ups","found","k"]) (ys:=[]) (fr:=[]) rfl scTargets.nd rfl (Or.inl rfl)
    (bf (ar (r:=aW K) ax (bp hu (pv 3) (pv 1) (fun _ _=>rfl)) ag (fun _ _=>rfl))) rfl rfl
    cok
    (fun C s H ex=>aK (aa (gH eK ag) (aa (pv 0) ad))))
  (ae (a6 PassesOwn.never rfl (br rfl G.range (aa (aq (r:=dl K) aH rfl G.len PySem.boot_len (aa (pv 2) ad)) ad)) (au (i:=8) scTargets.nd rfl (Or.inr rfl))
   (aj (bx (dg PySem.F.plainAttrs_list PySem.F.slot_list_extend PySem.F.type_list_extend gu (pv 7) (aa
    (cH (sc0:=ak fO) (N0:=["sorts","own","parts","table","name","downs","ups","found","k"]) (ys:=["k"]) (fr:=[8]) rfl
     (bf (ar (r:=aW K) ax (bp hu (pv 3) (ar (r:=aW K) ax (pv 2) (pv 8) (fun _ _=>rfl)) (fun _ _=>rfl)) ag (fun _ _=>rfl))) rfl rfl
     cok
     (fun C s H ex=>aK (aa (pv 1) (aa (pv 0) ad)))) ad)))))
  (aj (aL (pv 7)))))),?_⟩
 refine fun td htd=>?_
 have s0:=af htd (.dK [])
 have g0:(upd H td (.dK [])) td=some (.dK []):=ac
 generalize upd H td (.dK [])=H0 at s0 g0 ⊢
 have hlen:=hR.len
 refine ⟨_,rfl,sa,rfl,⟨xs,SqT.of (s0 _ _ hsa)⟩,?_⟩
 refine cu (xs:=xs) (fun i σ H'=>i<=xs.length/\ ∃ o4 o5 o6 kvs,σ=[some (.ref sa),some (.str o.name),some (.ref pa),some (.ref td),o4,o5,o6,none,none]/\Same H H'/\H' td=some (.dK kvs)/\kvs.length<=i/\TabOk H' kvs (ss.take i))
  ⟨Nat.zero_le _,none,none,none,[],rfl,s0,g0,Nat.le_refl _,fun s hs=>(by cases hs)⟩ (fun i σ H' _ h=>by obtain ⟨_,_,_,_,_,_,sm,_⟩:=h;exact SqT.of (sm _ _ hsa)) ?_ ?_
 ·rintro i x σ H1 hx ⟨hi,o4,o5,o6,kvs,rfl,sm,gd,hl,hT⟩
  have hlt:i<xs.length:=(List.getElem?_eq_some_iff.mp hx).1
  obtain ⟨sr,hsr,a,b,c,rfl,ha,hb,hc⟩:=aC hR hx
  refine ⟨a,_,rfl,SqT.of (sm _ _ ha),rfl,_,_,rfl,_,_,rfl,_,_,rfl,rfl,?_⟩
  refine ⟨_,rfl,_,rfl,(by show 2<=sizeLine;decide),fun pt hpt=>?_⟩
  have s1:=af hpt (.tup [.ref b,.ref c])
  have g1:(upd H1 pt (.tup [.ref b,.ref c])) pt=some (.tup [.ref b,.ref c]):=ac
  generalize upd H1 pt (.tup [.ref b,.ref c])=H2 at s1 g1 ⊢
  have gd2:=s1 _ _ gd
  have S2:Same H H2:=sm.trans s1
  refine ⟨_,rfl,_,rfl,td,_,rfl,DPut.k (k:=.inr sr.name) gd2 (ao (by have:=hok.2.1;lia)),?_⟩
  have tk:TK H2 (upd H2 td (.dK (aX kvs (.inr sr.name) (.ref pt)))):=TK.upd fun ys e=>by rw [gd2]at e;cases e
  refine ⟨hlt,_,_,_,_,rfl,?_,ac,?_,?_⟩
  ·intro y oo h
   rw [ah (ai h htd)]
   exact S2 _ _ h
  ·have:=bh kvs (.inr sr.name) (.ref pt)
   lia
  ·exact TabOk.put hok.2.2.1 hsr (hT.mono ((ay s1).trans tk)) (tk _ _ g1) (tk _ _ (S2 _ _ hb)) (tk _ _ (S2 _ _ hc))
 ·rintro σ H1 ⟨_,o4,o5,o6,kvs,rfl,sm,gd,hl,hT⟩
  rw [<- hlen,List.take_length]at hT
  obtain ⟨a,b,c,eo,ha,hb,hc⟩:=hT o ho
  refine ⟨_,rfl,_,rfl,td,.ref a,rfl,(by rw [<- eo];exact DGet.k (k:=.inr o.name) gd),a,_,1,.ref c,rfl,rfl,SqT.of ha,aF (j:=1) rfl,c,rfl,⟨_,SqT.of hc⟩,?_⟩
  have lo:o.ups.length<=3:=(hok.2.2.2.2 o ho).2.2.2.1
  refine gA (by rw [List.length_map];lia) hc (fun v=>[.int (-1),v]) (fun v H k _ hk=>⟨1,rfl,_,rfl,(by show 2<=sizeLine;decide),fun p hp=>hk p hp⟩) fun fl zs H2 hfl s2 gfl hTz=>?_
  have ez:(o.ups.map V.str).map (fun v=>[V.int (-1),v])=(o.ups.map fun x=>((-1:Int),x)).map tgV:=by rw [List.map_map,List.map_map];rfl
  rw [ez]at hTz
  have S2:Same H H2:=sm.trans s2
  have hfl0:H fl=none:=sm.free hfl
  have gd2:=s2 _ _ gd
  have hT2:=hT.mono (ay s2)
  have dfl:fl≠td:=Ne.symm (ai gd hfl)
  have hlp:(qs.map fun q=>V.str (Srt.name q)).length=qs.length:=List.length_map _
  refine ⟨_,rfl,pa,_,rfl,.inr (SqT.of (S2 _ _ hpa)),_,rfl,by lia,by lia,?_⟩
  refine dq (fun i σ H'=> ∃ o8 zs,σ=[some (.ref sa),some (.str o.name),some (.ref pa),some (.ref td),o4,o5,o6,some (.ref fl),o8]/\Same H H'/\H' td=some (.dK kvs)/\TabOk H' kvs ss/\H' fl=some (.lst zs)/\
    Tups H' ((o.ups.map (fun x=>((-1:Int),x))++bM 0 (qs.take i)).map tgV) zs)
   ⟨none,zs,rfl,S2,gd2,hT2,gfl,by rw [List.take_zero];show Tups H2 ((_++[]).map tgV) zs;rw [List.append_nil];exact hTz⟩ ?_ ?_
  ·rintro i σ H3 hi ⟨o8,zs3,rfl,S3,gd3,hT3,gfl3,hTz3⟩
   have hi':i<qs.length:=by lia
   obtain ⟨sq,hsq⟩: ∃ sq,qs[i]? =some sq:=⟨qs[i],List.getElem?_eq_getElem hi'⟩
   obtain ⟨a,b,c,eq,ha,hb,hc⟩:=hT3 sq (hqs sq (List.mem_of_getElem? hsq))
   have eat:atI (qs.map fun q=>V.str (Srt.name q)) (0+ (i:Int))=some (V.str sq.name):=by
    rw [Int.zero_add]
    exact aF (by rw [List.getElem?_map,hsq];rfl)
   refine ⟨_,rfl,.inl ⟨rfl,_,SqL.of gfl3⟩,?_⟩
   refine ⟨_,rfl,_,rfl,_,rfl,pa,_,_,_,rfl,rfl,SqT.of (S3 _ _ hpa),eat,td,.ref a,rfl,(by rw [<- eq];exact DGet.k (k:=.inr sq.name) gd3),a,_,0,.ref b,rfl,rfl,SqT.of ha,cq,b,rfl,⟨_,SqT.of hb⟩,?_⟩
   have ld:sq.downs.length<=3:=(hok.2.2.2.2 sq (hqs sq (List.mem_of_getElem? hsq))).2.2.1
   refine gA (by rw [List.length_map];lia) hb (fun v=>[.int (0+ (i:Int)),v]) (fun v H k _ hk=>⟨_,rfl,_,rfl,(by show 2<=sizeLine;decide),fun p hp=>hk p hp⟩) fun pl ws H4 hpl s4 gpl hTw=>?_
   have ew:(sq.downs.map V.str).map (fun v=>[V.int (0+ (i:Int)),v])=(sq.downs.map fun x=>(0+ (i:Int),x)).map tgV:=by rw [List.map_map,List.map_map];rfl
   rw [ew]at hTw
   have gfl4:=s4 _ _ gfl3
   have lz:=hTz3.len
   have lw:=hTw.len
   have lt:=jp 0 (qs.take i) fun s hs=>hok.2.2.2.2 s (hqs s (List.mem_of_mem_take hs))
   rw [List.length_map,List.length_append,List.length_map]at lz
   rw [List.length_map,List.length_map]at lw
   rw [List.length_take]at lt
   refine ⟨fl,pl,zs3,ws,rfl,rfl,gfl4,gpl,Nat.le_of_lt (ao (by lia)),?_⟩
   have tk:TK H4 (upd H4 fl (.lst (zs3++ws))):=TK.lst gfl4
   have tk3:TK H3 (upd H4 fl (.lst (zs3++ws))):=(ay s4).trans tk
   refine ⟨_,zs3++ws,rfl,?_,?_,hT3.mono tk3,ac,?_⟩
   ·intro y oo h
    rw [ah (ai h hfl0)]
    exact s4 _ _ (S3 _ _ h)
   ·rw [ah (Ne.symm dfl)]
    exact s4 _ _ gd3
   ·rw [List.take_add_one,hsq]
    show Tups _ ((_++bM 0 (qs.take i++[sq])).map tgV) _
    rw [nI,<- List.append_assoc,List.map_append]
    have e9:(0:Int) + ((qs.take i).length:Int)=0+ (i:Int):=by rw [List.length_take];lia
    rw [e9]
    exact (hTz3.mono tk3).append (hTw.mono tk)
  ·rintro σ H3 ⟨o8,zs3,rfl,S3,gd3,hT3,gfl3,hTz3⟩
   have e9:qs.take (((qs.map fun q=>V.str (Srt.name q)).length:Int)).toNat=qs:=by rw [hlp];exact List.take_of_length_le (by lia)
   rw [e9]at hTz3
   exact ⟨_,rfl,q fl zs3 H3 hfl0 S3 gfl3 hTz3⟩
noncomputable def cW (k:Int):List Srt->List Fm
 | []=>[]
 | q::r=>q.ups.map (fun x=>Fm.part k x)++cW (k+1) r
noncomputable def tgF (t:Int×Str):Fm:=if t.1<0 then .own t.2 else .part t.1 t.2
noncomputable def fG (o:Srt) (qs:List Srt) (mode j:Int):List (Int×Str):=if mode=2 then (dj o qs).take j.toNat else dj o qs
noncomputable def rds (o:Srt) (qs:List Srt) (mode j:Int):List Fm:=(o.downs.map Fm.own++cW 0 qs)++(if mode>0 then (fG o qs mode j).map tgF else [])
noncomputable def fmV:Fm->List V
 | .own x=>[.str "own",.str x]
 | .part k x=>[.str "part",.int k,.str x]
 | _=>[]
theorem gN (k:Int): ∀ (qs:List Srt),(∀ s∈qs,s.ok)->(cW k qs).length<=3*qs.length:=by
 intro qs
 induction qs generalizing k with
 | nil=>intro _;exact Nat.le_refl _
 | cons q r ih=>
  intro h
  have h1:=ih (k+1) fun s hs=>h s (List.mem_cons_of_mem _ hs)
  have h2:=(h q List.mem_cons_self).2.2.2.1
  unfold cW
  rw [List.length_append,List.length_map,List.length_cons]
  lia
theorem nS (k:Int): ∀ (qs:List Srt) (q:Srt),cW k (qs++[q])=cW k qs++q.ups.map (fun x=>Fm.part (k+qs.length) x):=by
 intro qs
 induction qs generalizing k with
 | nil=>intro q;show q.ups.map (fun x=>Fm.part k x)++[]=_;rw [List.append_nil];show _=q.ups.map (fun x=>Fm.part (k+ ((0:Nat):Int)) x);rw [show k+ ((0:Nat):Int)=k by lia]
 | cons r rs ih=>
  intro q
  show r.ups.map _++cW (k+1) (rs++[q])=(r.ups.map _++cW (k+1) rs)++_
  rw [ih,List.append_assoc]
  have:k+1+ (rs.length:Int)=k+ ((r::rs).length:Int):=by rw [List.length_cons];lia
  rw [this]
theorem jo {ss:List Srt} {o:Srt} {qs:List Srt} (hok: ∀ s∈ss,s.ok) (ho:o∈ss) (hq: ∀ q∈qs,q∈ss) (hl:qs.length<=3):(dj o qs).length<=12:=by
 have h1:=jp 0 qs fun s hs=>hok s (hq s hs)
 have h2:=(hok o ho).2.2.2.1
 unfold dj
 rw [List.length_append,List.length_map]
 lia
theorem kw (o:Srt) (qs:List Srt) (mode j:Int):(fG o qs mode j).length<=(dj o qs).length:=by
 unfold fG
 by_cases c:mode=2
 ·rw [if_pos c,List.length_take];exact Nat.min_le_right _ _
 ·rw [if_neg c];exact Nat.le_refl _
inductive fN  (vs:List V) (H:Hp) (Q:VK) (E_:XK):Prop
 | mk: ∀ sa pa ss o qs mode j,(vs=[.ref sa,.str (Srt.name o),.ref pa,.int mode,.int j])->(SrtsAt H sa ss)->(eJ ss)->(o∈ss)->(H pa=some (.tup (qs.map fun q=>V.str (Srt.name q))))->((∀ q∈qs,q∈ss))->(qs.length<=3)->(0<=j)->(j<=(dj o qs).length)->(∀ p zs H',H p=none->Same H H'->H' p=some (.lst zs)->Tups H' ((rds o qs mode j).map fmV) zs->Q (.ref p) H')->fN vs H Q E_
theorem xD {z u:V} (k:Bool):atI [z,u] (if k then 1 else 0)=some (if k then u else z):=by cases k <;> rfl
theorem scLReadings:aG ["sorts","own","parts","mode","j","table","name","downs","ups","word","found","k","targets","at"] ["sorts","own","parts","mode","j"] (ak dY):=fsc
theorem nc (F:Fun K "_law_readings" "_law_readings" dY f fd) (G:Gb mg) (GT:aE P w K mg base CX0 1 g gd ["sorts","own","parts"] gh) (bT:Binds K gd ["sorts","own","parts"] []) (kT:PySem.W.keepIn K (.ref g)=true) (mT:mg "_law_targets"=some (.ref g)):
  aE P w K mg base CX0 2 f fd ["sorts","own","parts","mode","j"] fN:=by
 refine F.ok scLReadings (fun vs H Q E h=>?_) (fun cdv A outer s H vs Q E hr h=>?_)
 ·obtain ⟨sa,pa,ss,o,qs,mode,j,rfl,_⟩:=h
  rfl
 obtain ⟨sa,pa,ss,o,qs,mode,j,rfl,⟨xs,hsa,hR⟩,hok,ho,hpa,hqs,hql,hj0,hj1,q⟩:=h
 have hu:=cZ hr
 refine ⟨_,ae (am (i:=5) scLReadings.nd rfl (Or.inl rfl) fU)
  (ae (a6 PassesOwn.never rfl (bf (pv 0)) (cC rfl (aJ (au (i:=6) scLReadings.nd rfl (Or.inl rfl)) (aJ (au (i:=7) scLReadings.nd rfl (Or.inl rfl)) (aJ (au (i:=8) scLReadings.nd rfl (Or.inl rfl)) bV))))
   (aj (cA hu (pv 5) (pv 6) (aK (aa (pv 7) (aa (pv 8) ad))) rfl)))
  (ae (gn (i:=10) (sc0:=ak dY) (N0:=["sorts","own","parts","mode","j","table","name","downs","ups","word","found","k","targets","at"]) (ys:=[]) (fr:=[]) rfl scLReadings.nd rfl (Or.inl rfl)
    (bf (ar (r:=aW K) ax (bp hu (pv 5) (pv 1) (fun _ _=>rfl)) ag (fun _ _=>rfl))) rfl rfl
    cok
    (fun C s H ex=>aK (aa aT (aa (pv 0) ad))))
  (ae (a6 PassesOwn.never rfl (br rfl G.range (aa (aq (r:=dl K) aH rfl G.len PySem.boot_len (aa (pv 2) ad)) ad)) (au (i:=11) scLReadings.nd rfl (Or.inr rfl))
   (aj (bx (dg PySem.F.plainAttrs_list PySem.F.slot_list_extend PySem.F.type_list_extend gu (pv 10) (aa
    (cH (sc0:=ak dY) (N0:=["sorts","own","parts","mode","j","table","name","downs","ups","word","found","k","targets","at"]) (ys:=["k"]) (fr:=[11]) rfl
     (bf (ar (r:=aW K) ax (bp hu (pv 5) (ar (r:=aW K) ax (pv 2) (pv 11) (fun _ _=>rfl)) (fun _ _=>rfl)) ag (fun _ _=>rfl))) rfl rfl
     cok
     (fun C s H ex=>aK (aa aT (aa (pv 1) (aa (pv 0) ad))))) ad)))))
  (ae (am (i:=12) scLReadings.nd rfl (Or.inl rfl) (al GT hr rfl mT kT bT .nil aA (aa (pv 0) (aa (pv 1) (aa (pv 2) ad)))))
  (ae (bi (aM dh (pv 3) ag (aV _)) (aj (am (i:=12) scLReadings.nd rfl (Or.inl rfl) (bj dv (pv 12) cg (bq (pv 4))))) aP)
  (ae (a6 PassesOwn.never rfl (cL (pv 12)) (cC rfl (aJ (au (i:=13) scLReadings.nd rfl (Or.inl rfl)) (aJ (au (i:=9) scLReadings.nd rfl (Or.inl rfl)) bV)))
   (aj (bi (aM oj (pv 3) ag (aV _))
    (aj (bx (dg PySem.F.plainAttrs_list PySem.F.slot_list_append PySem.F.type_list_append bn (pv 10) (aa
     (ar (r:=cB K) aS (aN (aa (aK (aa aT (aa (pv 13) (aa (pv 9) ad)))) (aa (aK (aa aT (aa (pv 9) ad))) ad)))
      (bO gD rfl G.int (by decide +kernel) (aa (ii kQ (pv 13) ag (aV _)) ad)) (fun _ _=>rfl)) ad)))) aP)))
  (aj (aL (pv 10))))))))),?_⟩
 refine fun td htd=>?_
 have s0:=af htd (.dK [])
 have g0:(upd H td (.dK [])) td=some (.dK []):=ac
 generalize upd H td (.dK [])=H0 at s0 g0 ⊢
 have hlen:=hR.len
 refine ⟨_,rfl,sa,rfl,⟨xs,SqT.of (s0 _ _ hsa)⟩,?_⟩
 refine cu (xs:=xs) (fun i σ H'=>i<=xs.length/\ ∃ o4 o5 o6 kvs,σ=[some (.ref sa),some (.str o.name),some (.ref pa),some (.int mode),some (.int j),some (.ref td),o4,o5,o6,none,none,none,none,none]/\Same H H'/\H' td=some (.dK kvs)/\kvs.length<=i/\TabOk H' kvs (ss.take i))
  ⟨Nat.zero_le _,none,none,none,[],rfl,s0,g0,Nat.le_refl _,fun s hs=>(by cases hs)⟩ (fun i σ H' _ h=>by obtain ⟨_,_,_,_,_,_,sm,_⟩:=h;exact SqT.of (sm _ _ hsa)) ?_ ?_
 ·rintro i x σ H1 hx ⟨hi,o4,o5,o6,kvs,rfl,sm,gd,hl,hT⟩
  have hlt:i<xs.length:=(List.getElem?_eq_some_iff.mp hx).1
  obtain ⟨sr,hsr,a,b,c,rfl,ha,hb,hc⟩:=aC hR hx
  refine ⟨a,_,rfl,SqT.of (sm _ _ ha),rfl,_,_,rfl,_,_,rfl,_,_,rfl,rfl,?_⟩
  refine ⟨_,rfl,_,rfl,(by show 2<=sizeLine;decide),fun pt hpt=>?_⟩
  have s1:=af hpt (.tup [.ref b,.ref c])
  have g1:(upd H1 pt (.tup [.ref b,.ref c])) pt=some (.tup [.ref b,.ref c]):=ac
  generalize upd H1 pt (.tup [.ref b,.ref c])=H2 at s1 g1 ⊢
  have gd2:=s1 _ _ gd
  have S2:Same H H2:=sm.trans s1
  refine ⟨_,rfl,_,rfl,td,_,rfl,DPut.k (k:=.inr sr.name) gd2 (ao (by have:=hok.2.1;lia)),?_⟩
  have tk:TK H2 (upd H2 td (.dK (aX kvs (.inr sr.name) (.ref pt)))):=TK.upd fun ys e=>by rw [gd2]at e;cases e
  refine ⟨hlt,_,_,_,_,rfl,?_,ac,?_,?_⟩
  ·intro y oo h
   rw [ah (ai h htd)]
   exact S2 _ _ h
  ·have:=bh kvs (.inr sr.name) (.ref pt)
   lia
  ·exact TabOk.put hok.2.2.1 hsr (hT.mono ((ay s1).trans tk)) (tk _ _ g1) (tk _ _ (S2 _ _ hb)) (tk _ _ (S2 _ _ hc))
 ·rintro σ H1 ⟨_,o4,o5,o6,kvs,rfl,sm,gd,hl,hT⟩
  rw [<- hlen,List.take_length]at hT
  obtain ⟨a,b,c,eo,ha,hb,hc⟩:=hT o ho
  refine ⟨_,rfl,_,rfl,td,.ref a,rfl,(by rw [<- eo];exact DGet.k (k:=.inr o.name) gd),a,_,0,.ref b,rfl,rfl,SqT.of ha,cq,b,rfl,⟨_,SqT.of hb⟩,?_⟩
  have lo:o.downs.length<=3:=(hok.2.2.2.2 o ho).2.2.1
  refine gA (by rw [List.length_map];lia) hb (fun v=>[.str "own",v]) (fun v H k _ hk=>⟨_,rfl,(by show 2<=sizeLine;decide),fun p hp=>hk p hp⟩) fun fl zs H2 hfl s2 gfl hTz=>?_
  have ez:(o.downs.map V.str).map (fun v=>[V.str "own",v])=(o.downs.map Fm.own).map fmV:=by rw [List.map_map,List.map_map];rfl
  rw [ez]at hTz
  have S2:Same H H2:=sm.trans s2
  have hfl0:H fl=none:=sm.free hfl
  have gd2:=s2 _ _ gd
  have hT2:=hT.mono (ay s2)
  have dfl:fl≠td:=Ne.symm (ai gd hfl)
  have hlp:(qs.map fun q=>V.str (Srt.name q)).length=qs.length:=List.length_map _
  refine ⟨_,rfl,pa,_,rfl,.inr (SqT.of (S2 _ _ hpa)),_,rfl,by lia,by lia,?_⟩
  refine dq (fun i σ H'=> ∃ o8 zs,σ=[some (.ref sa),some (.str o.name),some (.ref pa),some (.int mode),some (.int j),some (.ref td),o4,o5,o6,none,some (.ref fl),o8,none,none]/\Same H H'/\H' td=some (.dK kvs)/\TabOk H' kvs ss/\H' fl=some (.lst zs)/\
    Tups H' ((o.downs.map Fm.own++cW 0 (qs.take i)).map fmV) zs)
   ⟨none,zs,rfl,S2,gd2,hT2,gfl,by rw [List.take_zero];show Tups H2 ((_++[]).map fmV) zs;rw [List.append_nil];exact hTz⟩ ?_ ?_
  ·rintro i σ H3 hi ⟨o8,zs3,rfl,S3,gd3,hT3,gfl3,hTz3⟩
   have hi':i<qs.length:=by lia
   obtain ⟨sq,hsq⟩: ∃ sq,qs[i]? =some sq:=⟨qs[i],List.getElem?_eq_getElem hi'⟩
   obtain ⟨a,b,c,eq,ha,hb,hc⟩:=hT3 sq (hqs sq (List.mem_of_getElem? hsq))
   have eat:atI (qs.map fun q=>V.str (Srt.name q)) (0+ (i:Int))=some (V.str sq.name):=by
    rw [Int.zero_add]
    exact aF (by rw [List.getElem?_map,hsq];rfl)
   refine ⟨_,rfl,.inl ⟨rfl,_,SqL.of gfl3⟩,?_⟩
   refine ⟨_,rfl,_,rfl,_,rfl,pa,_,_,_,rfl,rfl,SqT.of (S3 _ _ hpa),eat,td,.ref a,rfl,(by rw [<- eq];exact DGet.k (k:=.inr sq.name) gd3),a,_,1,.ref c,rfl,rfl,SqT.of ha,aF (j:=1) rfl,c,rfl,⟨_,SqT.of hc⟩,?_⟩
   have ld:sq.ups.length<=3:=(hok.2.2.2.2 sq (hqs sq (List.mem_of_getElem? hsq))).2.2.2.1
   refine gA (by rw [List.length_map];lia) hc (fun v=>[.str "part",.int (0+ (i:Int)),v]) (fun v H k _ hk=>⟨_,rfl,_,rfl,(by show 3<=sizeLine;decide),fun p hp=>hk p hp⟩) fun pl ws H4 hpl s4 gpl hTw=>?_
   have ew:(sq.ups.map V.str).map (fun v=>[V.str "part",V.int (0+ (i:Int)),v])=(sq.ups.map fun x=>Fm.part (0+ (i:Int)) x).map fmV:=by rw [List.map_map,List.map_map];rfl
   rw [ew]at hTw
   have gfl4:=s4 _ _ gfl3
   have lz:=hTz3.len
   have lw:=hTw.len
   have lt:=gN 0 (qs.take i) fun s hs=>hok.2.2.2.2 s (hqs s (List.mem_of_mem_take hs))
   rw [List.length_map,List.length_append,List.length_map]at lz
   rw [List.length_map,List.length_map]at lw
   rw [List.length_take]at lt
   refine ⟨fl,pl,zs3,ws,rfl,rfl,gfl4,gpl,Nat.le_of_lt (ao (by lia)),?_⟩
   have tk:TK H4 (upd H4 fl (.lst (zs3++ws))):=TK.lst gfl4
   have tk3:TK H3 (upd H4 fl (.lst (zs3++ws))):=(ay s4).trans tk
   refine ⟨_,zs3++ws,rfl,?_,?_,hT3.mono tk3,ac,?_⟩
   ·intro y oo h
    rw [ah (ai h hfl0)]
    exact s4 _ _ (S3 _ _ h)
   ·rw [ah (Ne.symm dfl)]
    exact s4 _ _ gd3
   ·rw [List.take_add_one,hsq]
    show Tups _ ((_++cW 0 (qs.take i++[sq])).map fmV) _
    rw [nS,<- List.append_assoc,List.map_append]
    have e9:(0:Int) + ((qs.take i).length:Int)=0+ (i:Int):=by rw [List.length_take];lia
    rw [e9]
    exact (hTz3.mono tk3).append (hTw.mono tk)
  ·rintro σ H3 ⟨o8,zs3,rfl,S3,gd3,hT3,gfl3,hTz3⟩
   have e9:qs.take (((qs.map fun q=>V.str (Srt.name q)).length:Int)).toNat=qs:=by rw [hlp];exact List.take_of_length_le (by lia)
   rw [e9]at hTz3
   have lt12:=jo hok.2.2.2.2 ho hqs hql
   have l12:zs3.length<=12:=by
    have lt:=gN 0 qs fun s hs=>hok.2.2.2.2 s (hqs s hs)
    have lz:=hTz3.len
    rw [List.length_map,List.length_append,List.length_map]at lz
    lia
   refine ⟨_,rfl,_,rfl,_,rfl,sa,pa,ss,o,qs,rfl,⟨xs,S3 _ _ hsa,hR.mono (ay S3)⟩,hok,ho,S3 _ _ hpa,hqs,hql,fun tl zt H4 htl s4 gtl hTt=>?_⟩
   have S4:Same H H4:=S3.trans s4
   have gfl4:=s4 _ _ gfl3
   have hTz4:=hTz3.mono (ay s4)
   have nft:fl≠tl:=ai gfl3 htl
   refine ⟨_,rfl,rfl,_,rfl,?_⟩
   refine cs (fun c=>?A) (fun c=>?B)
   case' A=>
    have cm:mode=2:=V.int.inj (of_decide_eq_true c)
    have lzt:zt.length=(dj o qs).length:=by rw [<- hTt.len,List.length_map]
    refine ⟨_,rfl,_,rfl,j,rfl,tl,zt,rfl,SqL.of gtl,fun tl2 htl2=>?_⟩
    rw [fZ zt hj0 (by lia)]
    have hsel:Tups H4 ((fG o qs mode j).map tgV) (zt.take j.toNat):=by
     unfold fG
     rw [if_pos cm,List.map_take]
     exact i5 hTt _
    have s5:=af htl2 (.lst (zt.take j.toNat))
    have gt:(upd H4 tl2 (.lst (zt.take j.toNat))) tl2=some (.lst (zt.take j.toNat)):=ac
    have nft2:fl≠tl2:=ai gfl4 htl2
    have gfl5:=s5 _ _ gfl4
    have hTz5:=hTz4.mono (ay s5)
    have hsel5:=hsel.mono (ay s5)
    have S5:Same H (upd H4 tl2 (.lst (zt.take j.toNat))):=S4.trans s5
    generalize upd H4 tl2 (.lst (zt.take j.toNat))=H5 at gt gfl5 hTz5 hsel5 S5 ⊢
    generalize zt.take j.toNat=zu at gt hsel5
    generalize tl2=tx at gt nft2 ⊢
   case' B=>
    have cm: ¬ mode=2:=fun e=>c (decide_eq_true (by rw [e]))
    have hsel5:Tups H4 ((fG o qs mode j).map tgV) zt:=by
     unfold fG
     rw [if_neg cm]
     exact hTt
    have gt:=gtl
    have nft2:=nft
    have gfl5:=gfl4
    have hTz5:=hTz4
    have S5:=S4
    generalize H4=H5 at gt gfl5 hTz5 hsel5 S5 ⊢
    generalize zt=zu at gt hsel5
    generalize tl=tx at gt nft2 ⊢
   all_goals
    have ltg:(fG o qs mode j).length<=12:=Nat.le_trans (kw o qs mode j) lt12
    have lzu:zu.length=(fG o qs mode j).length:=by rw [<- hsel5.len,List.length_map]
    have hrd:rds o qs mode j=(o.downs.map Fm.own++cW 0 qs)++(if mode>0 then (fG o qs mode j).map tgF else []):=rfl
    generalize fG o qs mode j=tg at ltg lzu hrd hsel5
    have e0:(if mode>0 then (tg.take 0).map tgF else [])=[]:=by split <;> rfl
    refine ⟨_,rfl,tx,rfl,⟨zu,SqL.of gt⟩,?_⟩
    refine cD (xs:=zu) (fun i σ H'=>i<=zu.length/\ ∃ o9 zs o13,σ=[some (.ref sa),some (.str o.name),some (.ref pa),some (.int mode),some (.int j),some (.ref td),o4,o5,o6,o9,some (.ref fl),o8,some (.ref tx),o13]/\Same H H'/\H' tx=some (.lst zu)/\Tups H' (tg.map tgV) zu/\H' fl=some (.lst zs)/\zs.length<=12+i/\
      Tups H' (((o.downs.map Fm.own++cW 0 qs)++(if mode>0 then (tg.take i).map tgF else [])).map fmV) zs)
     ⟨Nat.zero_le _,none,zs3,none,rfl,S5,gt,hsel5,gfl5,l12,by rw [e0,List.append_nil];exact hTz5⟩ (fun i σ H' _ h=>by obtain ⟨_,_,_,_,_,_,gg,_⟩:=h;exact SqL.of gg) ?_ ?_
    ·rintro i x σ H6 hx ⟨hi,o9,zs6,o13,rfl,S6,gt6,hsel6,gfl6,l6,hT6⟩
     have hlt:i<zu.length:=(List.getElem?_eq_some_iff.mp hx).1
     obtain ⟨ys,hys,a,rfl,ha⟩:=aC hsel6 hx
     obtain ⟨t,ht,rfl⟩: ∃ t,tg[i]? =some t/\tgV t=ys:=by
      rw [List.getElem?_map]at hys
      cases he:tg[i]? with
      | none=>rw [he]at hys;cases hys
      | some t=>rw [he]at hys;exact ⟨t,rfl,Option.some.inj hys⟩
     refine ⟨a,_,rfl,SqT.of ha,rfl,_,_,rfl,_,_,rfl,rfl,?_⟩
     refine ⟨_,rfl,_,_,rfl,rfl,_,rfl,?_⟩
     refine cs (fun cm=>?_) (fun cm=>?_)
     ·have cm':mode>0:=of_decide_eq_true cm
      refine ⟨_,rfl,.inl ⟨rfl,_,SqL.of gfl6⟩,?_⟩
      refine ⟨_,rfl,_,rfl,(by show 3<=sizeLine;decide),fun p1 hp1=>?_⟩
      have s1:=af hp1 (.tup [.str "part",.int t.1,.str t.2])
      have g1:(upd H6 p1 (.tup [.str "part",.int t.1,.str t.2])) p1=some (.tup [.str "part",.int t.1,.str t.2]):=ac
      generalize upd H6 p1 (.tup [.str "part",.int t.1,.str t.2])=H7 at s1 g1 ⊢
      refine ⟨_,rfl,(by show 2<=sizeLine;decide),fun p2 hp2=>?_⟩
      have s2:=af hp2 (.tup [.str "own",.str t.2])
      have g2:(upd H7 p2 (.tup [.str "own",.str t.2])) p2=some (.tup [.str "own",.str t.2]):=ac
      generalize upd H7 p2 (.tup [.str "own",.str t.2])=H8 at s2 g2 ⊢
      refine ⟨(by show 2<=sizeLine;decide),fun p3 hp3=>?_⟩
      have s3:=af hp3 (.lst [.ref p1,.ref p2])
      have g3:(upd H8 p3 (.lst [.ref p1,.ref p2])) p3=some (.lst [.ref p1,.ref p2]):=ac
      generalize upd H8 p3 (.lst [.ref p1,.ref p2])=H9 at s3 g3 ⊢
      have S69:Same H6 H9:=s1.trans (s2.trans s3)
      refine ⟨_,rfl,_,_,rfl,rfl,.inr ⟨_,rfl,p3,_,_,_,rfl,rfl,SqL.of g3,xD _,?_⟩⟩
      have gfl9:=S69 _ _ gfl6
      refine ⟨fl,zs6,_,rfl,rfl,gfl9,ao (by lia),?_⟩
      have hz:vh H9 (fmV (tgF t)) (if decide (t.1<0)=true then .ref p2 else .ref p1):=by
       by_cases cn:t.1<0
       ·rw [if_pos (decide_eq_true cn)]
        unfold tgF
        rw [if_pos cn]
        exact ⟨p2,rfl,s3 _ _ g2⟩
       ·rw [if_neg (fun e=>cn (of_decide_eq_true e))]
        unfold tgF
        rw [if_neg cn]
        exact ⟨p1,rfl,s3 _ _ (s2 _ _ g1)⟩
      generalize (if decide (t.1<0)=true then V.ref p2 else .ref p1)=zv at hz ⊢
      have tk:TK H9 (upd H9 fl (.lst (zs6++[zv]))):=TK.lst gfl9
      have tk6:TK H6 (upd H9 fl (.lst (zs6++[zv]))):=(ay S69).trans tk
      refine ⟨hlt,_,zs6++[zv],_,rfl,?_,?_,hsel6.mono tk6,ac,by rw [List.length_append];show zs6.length+1<=_;lia,?_⟩
      ·intro y oo h
       rw [ah (ai h hfl0)]
       exact S69 _ _ (S6 _ _ h)
      ·rw [ah (Ne.symm nft2)]
       exact S69 _ _ gt6
      ·rw [if_pos cm']at hT6 ⊢
       rw [List.take_add_one,ht]
       show Tups _ ((_++(tg.take i++[t]).map tgF).map fmV) _
       rw [List.map_append (f:=tgF),<- List.append_assoc,List.map_append (f:=fmV)]
       obtain ⟨az,ez,gz⟩:=hz
       exact Paired.snoc (hT6.mono tk6) ⟨az,ez,tk _ _ gz⟩
     ·have cm': ¬ mode>0:=fun e=>cm (decide_eq_true e)
      refine ⟨hlt,_,zs6,_,rfl,S6,gt6,hsel6,gfl6,by lia,?_⟩
      rw [if_neg cm']at hT6 ⊢
      exact hT6
    ·rintro σ H6 ⟨_,o9,zs6,o13,rfl,S6,gt6,hsel6,gfl6,l6,hT6⟩
     rw [List.take_of_length_le (by lia),<- hrd]at hT6
     exact ⟨_,rfl,q fl zs6 H6 hfl0 S6 gfl6 hT6⟩
structure Rul where
 pl:Int
 word:Str
 fm:Fm
structure Frm where
 name:Str
 own:Srt
 parts:List Srt
 rules:List Rul
inductive RepR (H:Hp) (r:Rul) (v:V):Prop
 | mk: ∀ a u,(v=.ref a)->(H a=some (.tup [.int r.pl,.str r.word,u]))->(Rep H r.fm u)->RepR H r v
theorem RepR.mono {H H':Hp} (t:TK H H') {r:Rul} {v:V}:RepR H r v->RepR H' r v:=fun ⟨a,u,e,h,p⟩=>⟨a,u,e,t _ _ h,p.mono t⟩
noncomputable def RepRs (H:Hp) (rs:List Rul) (vs:List V):Prop:=Paired (RepR H) rs vs
theorem RepRs.mono {H H':Hp} (t:TK H H') {rs:List Rul} {vs:List V} (h:RepRs H rs vs):RepRs H' rs vs:=Paired.mapP h fun _ _ r=>r.mono t
theorem RepRs.len {H:Hp} {rs:List Rul} {vs:List V} (h:RepRs H rs vs):rs.length=vs.length:=Paired.length h
noncomputable def bH (qs:List Srt):List V:=qs.map fun q=>V.str (Srt.name q)
inductive RepF (H:Hp) (fr:Frm) (v:V):Prop
 | mk: ∀ a pa ra rv,(v=.ref a)->(H a=some (.tup [.str fr.name,.str fr.own.name,.ref pa,.ref ra]))->(H pa=some (.tup (bH fr.parts)))->(H ra=some (.tup rv))->(RepRs H fr.rules rv)->RepF H fr v
theorem RepF.mono {H H':Hp} (t:TK H H') {fr:Frm} {v:V}:RepF H fr v->RepF H' fr v:=fun ⟨a,pa,ra,rv,e,h1,h2,h3,h4⟩=>⟨a,pa,ra,rv,e,t _ _ h1,t _ _ h2,t _ _ h3,h4.mono t⟩
noncomputable def qL (o:Srt) (qs:List Srt) (mode:Int) (rules:List Rul):Prop:=rules.map (fun r=>(r.pl,r.word))=dj o qs/\ ∀ (j:Nat) r,rules[j]? =some r->r.fm.wfp (fun f=>f∈rds o qs mode j)/\r.fm.size<=15
noncomputable def nj:Fm->Prop
 | .own x=>cj x=true
 | .part k x=>(0<=k/\k<=2)/\cj x=true
 | _=>False
theorem oU {k:Int}: ∀ {qs:List Srt} {t:Int×Str},t∈bM k qs->k<=t.1/\t.1<k+qs.length/\ ∃ q∈qs,t.2∈q.downs:=by
 intro qs
 induction qs generalizing k with
 | nil=>intro t h;cases h
 | cons q r ih=>
  intro t h
  unfold bM at h
  rw [List.mem_append]at h
  rcases h with h | h
  ·obtain ⟨x,hx,rfl⟩:=List.mem_map.mp h
   exact ⟨Int.le_refl _,by rw [List.length_cons];show k<_;lia,q,List.mem_cons_self,hx⟩
  ·obtain ⟨h1,h2,q',h3,h4⟩:=ih h
   exact ⟨by lia,by rw [List.length_cons];lia,q',List.mem_cons_of_mem _ h3,h4⟩
theorem pD {k:Int}: ∀ {qs:List Srt} {f:Fm},f∈cW k qs-> ∃ j x,f=.part j x/\k<=j/\j<k+qs.length/\ ∃ q∈qs,x∈q.ups:=by
 intro qs
 induction qs generalizing k with
 | nil=>intro t h;cases h
 | cons q r ih=>
  intro t h
  unfold cW at h
  rw [List.mem_append]at h
  rcases h with h | h
  ·obtain ⟨x,hx,rfl⟩:=List.mem_map.mp h
   exact ⟨k,x,rfl,Int.le_refl _,by rw [List.length_cons];lia,q,List.mem_cons_self,hx⟩
  ·obtain ⟨j,x,e,h1,h2,q',h3,h4⟩:=ih h
   exact ⟨j,x,e,by lia,by rw [List.length_cons];lia,q',List.mem_cons_of_mem _ h3,h4⟩
theorem sO {ss:List Srt} {o:Srt} {qs:List Srt} (hok: ∀ s∈ss,s.ok) (ho:o∈ss) (hq: ∀ q∈qs,q∈ss) (hl:qs.length<=3) {t:Int×Str} (ht:t∈dj o qs):nj (tgF t):=by
 unfold dj at ht
 rw [List.mem_append]at ht
 unfold tgF
 rcases ht with h | h
 ·obtain ⟨x,hx,rfl⟩:=List.mem_map.mp h
  rw [if_pos (show ((-1:Int),x).1<0 from (by decide:(-1:Int) <0))]
  exact (hok o ho).2.1 x (List.mem_append_right _ hx)
 ·obtain ⟨h1,h2,q,h3,h4⟩:=oU h
  rw [if_neg (by lia)]
  exact ⟨⟨h1,by lia⟩,(hok q (hq q h3)).2.1 _ (List.mem_append_left _ h4)⟩
theorem tP {ss:List Srt} {o:Srt} {qs:List Srt} {mode j:Int} (hok: ∀ s∈ss,s.ok) (ho:o∈ss) (hq: ∀ q∈qs,q∈ss) (hl:qs.length<=3) {f:Fm} (hf:f∈rds o qs mode j):nj f:=by
 unfold rds at hf
 rw [List.mem_append,List.mem_append]at hf
 rcases hf with (h | h) | h
 ·obtain ⟨x,hx,rfl⟩:=List.mem_map.mp h
  exact (hok o ho).2.1 x (List.mem_append_left _ hx)
 ·obtain ⟨k,x,rfl,h1,h2,q,h3,h4⟩:=pD h
  exact ⟨⟨h1,by lia⟩,(hok q (hq q h3)).2.1 _ (List.mem_append_right _ h4)⟩
 ·by_cases c:mode>0
  ·rw [if_pos c]at h
   obtain ⟨t,ht,rfl⟩:=List.mem_map.mp h
   refine sO hok ho hq hl ?_
   unfold fG at ht
   by_cases c2:mode=2
   ·rw [if_pos c2]at ht;exact List.mem_of_mem_take ht
   ·rw [if_neg c2]at ht;exact ht
  ·rw [if_neg c]at h;cases h
theorem pG {α β:Type} {F:α->β->Prop}: ∀ {l:List α} {r:List β} {b:β},Paired F l r->b∈r-> ∃ a∈l,F a b:=fun {l r b} h m=>by
 obtain ⟨i,hi⟩:=List.getElem?_of_mem m
 obtain ⟨a,ha,f⟩:=aC h hi
 exact ⟨a,List.mem_of_getElem? ha,f⟩
theorem uK {H:Hp} {f:Fm} {v:V} (hl:nj f) (h:vh H (fmV f) v):Rep H f v/\f.size=1:=by
 obtain ⟨a,rfl,ha⟩:=h
 cases f with
 | own x=>exact ⟨⟨a,rfl,ha⟩,rfl⟩
 | part k x=>exact ⟨⟨a,rfl,ha⟩,rfl⟩
 | num n=>exact hl.elim
 | bin op x y=>exact hl.elim
 | whn x y z=>exact hl.elim
theorem uJ {ρ:Fm->Prop} {f:Fm} (hl:nj f) (h:ρ f):f.wfp ρ:=by
 cases f with
 | own x=>exact ⟨hl,h⟩
 | part k x=>exact ⟨hl,h⟩
 | num n=>exact hl.elim
 | bin op x y=>exact hl.elim
 | whn x y z=>exact hl.elim
theorem vz {H:Hp} {ss:List Srt} {o:Srt} {qs:List Srt} {mode j:Int} {zs:List V} (hok: ∀ s∈ss,s.ok) (ho:o∈ss) (hq: ∀ q∈qs,q∈ss) (hl:qs.length<=3) (h:Tups H ((rds o qs mode j).map fmV) zs):LvsP (fun f=>f∈rds o qs mode j) H zs:=fun v hv=>by
 obtain ⟨ys,hy,hz⟩:=pG h hv
 obtain ⟨f,hf,rfl⟩:=List.mem_map.mp hy
 have lf:=tP hok ho hq hl hf
 obtain ⟨r,s⟩:=uK lf hz
 exact ⟨f,r,uJ lf hf,s⟩
theorem vA {ss:List Srt} {o:Srt} {qs:List Srt} {mode j:Int} (hok: ∀ s∈ss,s.ok) (ho:o∈ss) (hq: ∀ q∈qs,q∈ss) (hl:qs.length<=3):(rds o qs mode j).length<=24:=by
 have h1:=gN 0 qs fun s hs=>hok s (hq s hs)
 have h2:=(hok o ho).2.2.1
 have h3:=jo hok ho hq hl
 have h4:=kw o qs mode j
 unfold rds
 rw [List.length_append,List.length_append,List.length_map]
 by_cases c:mode>0
 ·rw [if_pos c,List.length_map];lia
 ·rw [if_neg c];show _+0<=24;lia
inductive gj  (vs:List V) (H:Hp) (Q:VK) (E_:XK):Prop
 | mk: ∀ tp sa pa ss nm o qs mode,(vs=[.ref tp,.ref sa,.str nm,.str (Srt.name o),.ref pa,.int mode])->(Tp H tp)->(SrtsAt H sa ss)->(eJ ss)->(o∈ss)->(H pa=some (.tup (bH qs)))->((∀ q∈qs,q∈ss))->(qs.length<=3)->(∀ v rules H',RepF H' ⟨nm,o,qs,rules⟩ v->qL o qs mode rules->Kp tp H H'->Tp H' tp->Q v H')->gj vs H Q E_
theorem scLForm:aG ["tape","sorts","name","own","parts","mode","rules","targets","j","readings"] ["tape","sorts","name","own","parts","mode"] (ak pp):=fsc
theorem ul (F:Fun K "_law_form" "_law_form" pp f fd) (G:Gb mg) (GT:aE P w K mg base CX0 1 g gd ["sorts","own","parts"] gh) (bT:Binds K gd ["sorts","own","parts"] []) (kT:PySem.W.keepIn K (.ref g)=true) (mT:mg "_law_targets"=some (.ref g))
  (GR:aE P w K mg base CX0 2 f2 fd2 ["sorts","own","parts","mode","j"] fN) (bR:Binds K fd2 ["sorts","own","parts","mode","j"] []) (kR:PySem.W.keepIn K (.ref f2)=true) (mR:mg "_law_readings"=some (.ref f2))
  (GF: ∀ ρ,aE P w K mg base CX0 4 f3 fd3 ["tape","readings"] (fh ρ)) (bF:Binds K fd3 ["tape","readings"] []) (kF:PySem.W.keepIn K (.ref f3)=true) (mF:mg "_law_formula"=some (.ref f3)):
  aE P w K mg base CX0 5 f fd ["tape","sorts","name","own","parts","mode"] gj:=by
 have GF':aE P w K mg base CX0 4 f3 fd3 ["tape","readings"] (fun vs H Q E=> ∃ ρ,fh ρ vs H Q E):=⟨fun vs H Q E ⟨ρ,h⟩=>(GF ρ).len vs H Q E h,fun A outer s H args us vs Q E hr he hb hv ⟨ρ,h⟩=>(GF ρ).run A outer s H args us vs Q E hr he hb hv h⟩
 refine F.ok scLForm (fun vs H Q E h=>?_) (fun cdv A outer s H vs Q E hr h=>?_)
 ·obtain ⟨tp,sa,pa,ss,nm,o,qs,mode,rfl,_⟩:=h
  rfl
 obtain ⟨tp,sa,pa,ss,nm,o,qs,mode,rfl,hT,hsa,hok,ho,hpa,hqs,hql,q⟩:=h
 refine ⟨_,ae (am (i:=6) scLForm.nd rfl (Or.inl rfl) (aN ad))
  (ae (am (i:=7) scLForm.nd rfl (Or.inl rfl) (al GT (hr.mono (show 1<=4 by decide)) rfl mT kT bT .nil aA (aa (pv 1) (aa (pv 3) (aa (pv 4) ad)))))
  (ae (a6 PassesOwn.never rfl (br rfl G.range (aa (aq (r:=dl K) aH rfl G.len PySem.boot_len (aa (pv 7) ad)) ad)) (au (i:=8) scLForm.nd rfl (Or.inl rfl))
   (ae (am (i:=9) scLForm.nd rfl (Or.inl rfl) (al GR (hr.mono (show 2<=4 by decide)) rfl mR kR bR .nil aA (aa (pv 1) (aa (pv 3) (aa (pv 4) (aa (pv 5) (aa (pv 8) ad)))))))
   (aj (bx (dg PySem.F.plainAttrs_list PySem.F.slot_list_append PySem.F.type_list_append bn (pv 6) (aa
    (aK (aa (ar (r:=aW K) ax (ar (r:=cB K) aS (pv 7) (pv 8) (fun _ _=>rfl)) ag (fun _ _=>rfl)) (aa (ar (r:=aW K) ax (ar (r:=cB K) aS (pv 7) (pv 8) (fun _ _=>rfl)) ag (fun _ _=>rfl))
     (aa (al GF' hr rfl mF kF bF .nil aA (aa (pv 0) (aa (pv 9) ad))) ad)))) ad))))))
  (aj (aL (aK (aa (pv 2) (aa (pv 3) (aa (pv 4) (aa (bO (r:=fu K) bZ rfl G.tuple (by decide +kernel) (aa (pv 6) ad)) ad))))))))),?_⟩
 refine ⟨(by show 0<=sizeLine;decide),fun rl hrl=>?_⟩
 have s0:=af hrl (.lst [])
 have g0:(upd H rl (.lst [])) rl=some (.lst []):=ac
 have nrt:=dC hT hrl
 have t0:=hT.new (o:=.lst []) hrl
 generalize upd H rl (.lst [])=H0 at s0 g0 t0 ⊢
 refine ⟨_,rfl,_,rfl,_,rfl,sa,pa,ss,o,qs,rfl,hsa.mono (ay s0),hok,ho,s0 _ _ hpa,hqs,hql,fun tl zt H1 htl s1 gtl hTt=>?_⟩
 have S1:Same H H1:=s0.trans s1
 have grl1:=s1 _ _ g0
 have tt1:=t0.same s1
 have ntt:tl≠tp:=dC t0 htl
 have nrl:rl≠tl:=ai g0 htl
 have lt12:=jo hok.2.2.2.2 ho hqs hql
 have lzt:zt.length=(dj o qs).length:=by rw [<- hTt.len,List.length_map]
 refine ⟨_,rfl,tl,zt,rfl,.inl (SqL.of gtl),_,rfl,by lia,by lia,?_⟩
 refine dq (fun i σ H'=> ∃ o8 o9 rv rules,σ=[some (.ref tp),some (.ref sa),some (.str nm),some (.str o.name),some (.ref pa),some (.int mode),some (.ref rl),some (.ref tl),o8,o9]/\Kp tp H H'/\Tp H' tp/\H' tl=some (.lst zt)/\Tups H' ((dj o qs).map tgV) zt/\
   H' rl=some (.lst rv)/\RepRs H' rules rv/\rules.map (fun r=>(r.pl,r.word))=(dj o qs).take i/\ ∀ (j:Nat) r,rules[j]? =some r->r.fm.wfp (fun f=>f∈rds o qs mode j)/\r.fm.size<=15)
  ⟨none,none,[],[],rfl,Kp.refl.same S1,tt1,gtl,hTt,grl1,.nil,rfl,fun j r h=>by cases h⟩ ?_ ?_
 ·rintro i σ H2 hi ⟨o8,o9,rv,rules,rfl,k2,tt2,gtl2,hTt2,grl2,hRr,hmap,hfm⟩
  have hi':i< (dj o qs).length:=by lia
  have tk2:=k2.tk hT
  have lrules:rules.length=i:=by
   have:=congrArg List.length hmap
   rw [List.length_map,List.length_take]at this
   lia
  have lrv:rv.length=i:=by rw [<- hRr.len];exact lrules
  refine ⟨_,rfl,_,rfl,_,rfl,_,rfl,_,rfl,sa,pa,ss,o,qs,mode,0+ (i:Int),rfl,hsa.mono tk2,hok,ho,tk2 _ _ hpa,hqs,hql,by lia,by lia,fun rdl zr H3 hrdl s3 grdl hTr=>?_⟩
  have tt3:=tt2.same s3
  have grl3:=s3 _ _ grl2
  have gtl3:=s3 _ _ gtl2
  have hTt3:=hTt2.mono (ay s3)
  have nrdt:rdl≠tp:=dC tt2 hrdl
  obtain ⟨t,ht⟩: ∃ t,(dj o qs)[i]? =some t:=⟨(dj o qs)[i],List.getElem?_eq_getElem hi'⟩
  obtain ⟨x,hx⟩: ∃ x,zt[i]? =some x:=⟨zt[i]'(by lia),List.getElem?_eq_getElem (by lia)⟩
  obtain ⟨ys,hys,a,rfl,ha⟩:=aC hTt3 hx
  have eys:ys=tgV t:=by
   rw [List.getElem?_map,ht]at hys
   exact (Option.some.inj hys).symm
  subst eys
  have eat:atI zt (0+ (i:Int))=some (.ref a):=by
   rw [Int.zero_add]
   exact aF hx
  refine ⟨_,rfl,.inl ⟨rfl,_,SqL.of grl3⟩,?_⟩
  refine ⟨_,rfl,_,rfl,tl,_,_,_,rfl,rfl,SqL.of gtl3,eat,a,_,0,.int t.1,rfl,rfl,SqT.of ha,cq,?_⟩
  refine ⟨_,rfl,_,rfl,tl,_,_,_,rfl,rfl,SqL.of gtl3,eat,a,_,1,.str t.2,rfl,rfl,SqT.of ha,aF (j:=1) rfl,?_⟩
  have lzr:zr.length<=24:=by
   rw [<- hTr.len,List.length_map]
   exact vA hok.2.2.2.2 ho hqs hql
  refine ⟨_,rfl,_,rfl,fun fm=>fm∈rds o qs mode (0+ (i:Int)),tp,rdl,zr,rfl,tt3,nrdt,grdl,by lia,vz hok.2.2.2.2 ho hqs hql hTr,fun v fm H4 rp wf sz k4 tt4=>?_⟩
  have k24:Kp tp H2 H4:=(Kp.refl.same s3).trans k4
  have grl4:=k24 _ _ grl2 nrt
  have gtl4:=k24 _ _ gtl2 ntt
  refine ⟨(by show 3<=sizeLine;decide),fun p5 hp5=>?_⟩
  have s5:=af hp5 (.tup [.int t.1,.str t.2,v])
  have g5:(upd H4 p5 (.tup [.int t.1,.str t.2,v])) p5=some (.tup [.int t.1,.str t.2,v]):=ac
  have tt5:=tt4.same s5
  generalize upd H4 p5 (.tup [.int t.1,.str t.2,v])=H5 at s5 g5 tt5 ⊢
  have k25:Kp tp H2 H5:=k24.same s5
  have grl5:=s5 _ _ grl4
  refine ⟨rl,rv,.ref p5,rfl,rfl,grl5,ao (by lia),?_⟩
  have tk:TK H5 (upd H5 rl (.lst (rv++[.ref p5]))):=TK.lst grl5
  have tk26:TK H2 (upd H5 rl (.lst (rv++[.ref p5]))):=(k25.tk tt2).trans tk
  refine ⟨_,_,rv++[.ref p5],rules++[⟨t.1,t.2,fm⟩],rfl,?_,?_,?_,hTt2.mono tk26,ac,?_,?_,?_⟩
  ·intro b oo hb hbn
   rw [ah (ai hb hrl)]
   exact k25 _ _ (k2 _ _ hb hbn) hbn
  ·obtain ⟨t9,e9⟩:=tt5
   exact ⟨t9,by rw [ah (Ne.symm nrt)];exact e9⟩
  ·rw [ah (Ne.symm nrl)]
   exact s5 _ _ gtl4
  ·exact Paired.snoc (hRr.mono tk26) ⟨p5,v,rfl,tk _ _ g5,rp.mono ((ay s5).trans tk)⟩
  ·rw [List.map_append,hmap,List.take_add_one,ht]
   rfl
  ·intro j r hj
   by_cases c:j<i
   ·rw [List.getElem?_append_left (by lia)]at hj
    exact hfm j r hj
   ·rw [List.getElem?_append_right (by lia),lrules]at hj
    have hji:j=i:=by
     by_cases c2:j=i
     ·exact c2
     ·have:j-i≠0:=by lia
      rw [List.getElem?_eq_none (by show 1<=j-i;lia)]at hj
      cases hj
    subst hji
    rw [Nat.sub_self]at hj
    have:r=⟨t.1,t.2,fm⟩:=(Option.some.inj hj).symm
    subst this
    rw [Int.zero_add]at wf
    exact ⟨wf,sz⟩
 ·rintro σ H2 ⟨o8,o9,rv,rules,rfl,k2,tt2,gtl2,hTt2,grl2,hRr,hmap,hfm⟩
  have tk2:=k2.tk hT
  rw [List.take_of_length_le (by lia)]at hmap
  refine ⟨_,rfl,_,rfl,_,rfl,_,rfl,rl,rv,rfl,.inl ⟨SqL.of grl2,fun p3 hp3=>?_⟩⟩
  have s3:=af hp3 (.tup rv)
  have g3:(upd H2 p3 (.tup rv)) p3=some (.tup rv):=ac
  generalize upd H2 p3 (.tup rv)=H3 at s3 g3 ⊢
  refine ⟨(by show 4<=sizeLine;decide),fun p4 hp4=>?_⟩
  have s4:=af hp4 (.tup [.str nm,.str o.name,.ref pa,.ref p3])
  refine q (.ref p4) rules _ ⟨p4,pa,p3,rv,rfl,ac,s4 _ _ (s3 _ _ (tk2 _ _ hpa)),s4 _ _ g3,hRr.mono (ay (s3.trans s4))⟩ ⟨hmap,hfm⟩ (k2.same (s3.trans s4)) (tt2.same (s3.trans s4))
structure Bk where
 wheel:Int
 sorts:List Srt
 forms:List Frm
noncomputable def RepFs (H:Hp) (fs:List Frm) (vs:List V):Prop:=Paired (RepF H) fs vs
theorem RepFs.mono {H H':Hp} (t:TK H H') {fs:List Frm} {vs:List V} (h:RepFs H fs vs):RepFs H' fs vs:=Paired.mapP h fun _ _ r=>r.mono t
theorem RepFs.len {H:Hp} {fs:List Frm} {vs:List V} (h:RepFs H fs vs):fs.length=vs.length:=Paired.length h
inductive RepB (H:Hp) (b:Bk) (v:V):Prop
 | mk: ∀ a sa fa fv,(v=.ref a)->(H a=some (.tup [.int b.wheel,.ref sa,.ref fa]))->(SrtsAt H sa b.sorts)->(H fa=some (.tup fv))->(RepFs H b.forms fv)->RepB H b v
theorem RepB.mono {H H':Hp} (t:TK H H') {b:Bk} {v:V}:RepB H b v->RepB H' b v:=fun ⟨a,sa,fa,fv,e,h1,h2,h3,h4⟩=>⟨a,sa,fa,fv,e,t _ _ h1,h2.mono t,t _ _ h3,h4.mono t⟩
noncomputable def wN (ss:List Srt) (mode:Int) (fr:Frm):Prop:=fr.own∈ss/\(∀ q∈fr.parts,q∈ss)/\fr.parts.length<=3/\qL fr.own fr.parts mode fr.rules
structure BookOk (b:Bk):Prop where
 so:eJ b.sorts
 wh:2<=b.wheel/\b.wheel<=10^30
 few:b.forms.length<=10
 more:b.sorts.length<=b.forms.length
 nd:(b.forms.map Frm.name).Nodup
 wd: ∀ fr∈b.forms,cj fr.name=true
 fo: ∃ mode:Int,(mode=0\/mode=1\/mode=2)/\ ∀ fr∈b.forms,wN b.sorts mode fr
 nil: ∃ fr,fr∈b.forms/\fr.parts=[]
theorem SqL.keep {K:PySem.W.Frag} {H H':Hp} {a:Addr} {xs:List V} (h:SqL K H a xs) (k: ∀ o,H a=some o->H' a=some o):SqL K H' a xs:=by
 rcases h with (h | ⟨o,h⟩) | h
 ·exact .inl (.inl (k _ h))
 ·exact .inl (.inr ⟨o,k _ h⟩)
 ·exact .inr h
theorem lY {H:Hp} {ss:List Srt} {xs:List V} (h:RepSs H ss xs) {d:Int} (h0:0<=d) (h1:d<xs.length): ∃ q a b c,ss[d.toNat]? =some q/\atI xs d=some (.ref a)/\H a=some (.tup [.str (Srt.name q),b,c]):=by
 obtain ⟨x,ex,ex2⟩:=fF h0 h1
 obtain ⟨q,hq,a,b,c,rfl,ha,_⟩:=aC h ex2
 exact ⟨q,a,.ref b,.ref c,hq,ex,ha⟩
inductive ph (K:PySem.W.Frag) (vs:List V) (H:Hp) (Q:VK) (E_:XK):Prop
 | mk: ∀ (sc:Addr) (ns:List Int) (st:Int) (few:Bool),(vs=[.ref sc,.int st,.bl few])->(SqL K H sc (ns.map V.int))->(ns.length<=63)->(0<=st)->(st<900)->(∀ v bk H',RepB H' bk v->BookOk bk->Same H H'->Q v H')->ph K vs H Q E_
noncomputable def v8 (s:Stmt):List Stmt:=match s with
 | .For _ _ b _ _=>b
 | _=>[]
noncomputable def bkFor:List Stmt:=v8 ((cM fH).getD 8 (.Pass ⟨0,0,0,0⟩))
inductive lA (H:Hp) (sc hd sa nl fl:Addr) (st wh mode gr mo:Int) (few:Bool) (ss:List Srt) (ws:List Str) (i:Nat) (σ:St) (H':Hp):Prop
 | mk: ∀ o11 o12 o13 o14 o15 fv frs,(σ=[some (.ref sc),some (.int st),some (.bl few),some (.ref hd),some (.int wh),some (.int mode),some (.int gr),some (.int mo),some (.ref sa),some (.ref nl),some (.ref fl),o11,o12,o13,o14,o15])->(Same H H')->(SrtsAt H' sa ss)->(H' nl=some (.lst (ws.map V.str)))->(H' fl=some (.lst fv))->(RepFs H' frs fv)->(frs.length=i)->(frs.map Frm.name=ws.take i)->((∀ fr∈frs,wN ss mode fr))->((∀ k,k<i->k<ss.length->(frs[k]?).map Frm.own=ss[k]?))->(∀ fr,frs[0]? =some fr->fr.parts=[])->lA H sc hd sa nl fl st wh mode gr mo few ss ws i σ H'
theorem sY {α:Type} {l:List α} {x y:α} {j:Nat} (h:(l++[x])[j]? =some y):(j<l.length/\l[j]? =some y)\/(j=l.length/\y=x):=by
 by_cases c:j<l.length
 ·rw [List.getElem?_append_left c]at h
  exact .inl ⟨c,h⟩
 ·rw [List.getElem?_append_right (by lia)]at h
  by_cases c2:j-l.length=0
  ·rw [c2]at h
   exact .inr ⟨by lia,(Option.some.inj h).symm⟩
  ·rw [List.getElem?_eq_none (by show 1<=j-l.length;lia)]at h
   cases h
noncomputable abbrev i9:List Str:=["script","start","few","head","wheel","mode","grown","more","sorts","names","forms","k","tape","own","many","parts"]
theorem scBook:aG i9 ["script","start","few"] (ak fH):=fsc
theorem vd {cdv:Value} {A:Around} {outer:List Env} {s:Shared} {H H0:Hp} {E:XK} (G:Gb mg)
  (GD:aE P w K mg base CX0 1 g gd ["tape","many"] cf) (bD:Binds K gd ["tape","many"] []) (kD:PySem.W.keepIn K (.ref g)=true) (mD:mg "_law_digit"=some (.ref g))
  (GF:aE P w K mg base CX0 5 f2 fd2 ["tape","sorts","name","own","parts","mode"] gj) (bF:Binds K fd2 ["tape","sorts","name","own","parts","mode"] []) (kF:PySem.W.keepIn K (.ref f2)=true) (mF:mg "_law_form"=some (.ref f2))
  (hr:Room 5 (er CX0 P w K mg base i9 "_law_book" (ak fH) f cdv A outer s H0 E).nox.A):
  ∃ t,PSs (er CX0 P w K mg base i9 "_law_book" (ak fH) f cdv A outer s H0 E).nox (bkFor.drop 5) t/\
   ∀ (sc hd sa nl fl:Addr) (st wh mode gr mo:Int) (few:Bool) (ss:List Srt) (ws:List Str),eJ ss->ws.length=10->H fl=none->nl≠fl-> ∀ (D:iB) (i:Nat) (σ:St) (H2 H5:Hp) (tp:Addr) (o:Srt) (m:Int) (o15:Option V),lA H sc hd sa nl fl st wh mode gr mo few ss ws i σ H2->i<10->H2 tp=none->Same H2 H5->Tp H5 tp->o∈ss->(i<ss.length->ss[i]? =some o)->0<=m->m<=3->(i=0->m=0)->
    (∀ σ' H',lA H sc hd sa nl fl st wh mode gr mo few ss ws (i+1) σ' H'->D.nx σ' H')->
    t D [some (.ref sc),some (.int st),some (.bl few),some (.ref hd),some (.int wh),some (.int mode),some (.int gr),some (.int mo),some (.ref sa),some (.ref nl),some (.ref fl),some (.int (0+ (i:Int))),some (.ref tp),some (.str o.name),some (.int m),o15] H5:=by
 have hr1:=hr.mono (show 1<=5 by decide)
 refine ⟨_,ae (am (i:=15) scBook.nd rfl (Or.inl rfl) (bO (r:=fu K) bZ rfl G.tuple (by decide +kernel) (aa
   (cH (sc0:=ak fH) (N0:=i9) (ys:=["sorts","tape"]) (fr:=[8,12]) rfl (br rfl G.range (aa (pv 14) ad)) rfl rfl
    cok
    (fun C s H ex=>ar (r:=aW K) ax (ar (r:=aW K) ax (pv 1) (al GD hr1 rfl mD kD bD .nil aA (aa (pv 2) (aa (aq (r:=dl K) aH rfl G.len PySem.boot_len (aa (pv 1) ad)) ad))) (fun _ _=>rfl)) ag (fun _ _=>rfl))) ad)))
  (aj (bx (dg PySem.F.plainAttrs_list PySem.F.slot_list_append PySem.F.type_list_append bn (pv 10) (aa
   (al GF hr rfl mF kF bF .nil aA (aa (pv 12) (aa (pv 8) (aa (ar (r:=cB K) aS (pv 9) (pv 11) (fun _ _=>rfl)) (aa (pv 13) (aa (pv 15) (aa (pv 5) ad))))))) ad)))),?_⟩
 rintro sc hd sa nl fl st wh mode gr mo few ss ws hok hws hfl0 hnf D i σ H2 H5 tp o m o15 ⟨o11,o12,o13,o14,o15',fv,frs,rfl,sm,hsa,gnl,gfl,hF,hfl,hnm,hfok,hown,hnil⟩ hi htp s5 tt5 ho hoi hm0 hm3 hmi hD
 obtain ⟨xs,gsa,hR⟩:=hsa.mono (ay s5)
 have lxs:=hR.len
 refine ⟨_,rfl,m,rfl,by lia,by lia,?_⟩
 refine gy (n:=m.toNat) (R:=fun i v=>v=.int (0+i)) (by lia) iW eY iq
  (fun p n zs H'=>Kp tp H5 H'/\Tp H' tp/\H' p=some (.lst zs)/\p≠tp/\ ∃ qs,zs=bH qs/\qs.length=n/\ ∀ q∈qs,q∈ss) ?_ ?_ ?_ ?_
 ·intro p hp
  exact ⟨Kp.refl.new hp,tt5.new hp,ac,dC tt5 hp,[],rfl,rfl,fun q h=>by cases h⟩
 ·rintro p n zs H' ⟨_,_,gp,_,qs,rfl,hl,_⟩
  exact ⟨gp,by unfold bH;rw [List.length_map];exact hl⟩
 ·rintro p n zs H' v k hp hn rfl ⟨k6,tt6,gp,hpn,qs,rfl,hl,hqs⟩ hk
  have tk6:=k6.tk tt5
  have h1:=hok.1
  refine ⟨_,rfl,_,rfl,_,rfl,sa,_,rfl,.inr (SqT.of (tk6 _ _ gsa)),tp,_,rfl,tt6,by lia,by have:=hok.2.1;lia,fun d t hd0 hd1=>?_⟩
  obtain ⟨q,a,b,c,hq,eat,ha⟩:=lY hR hd0 hd1
  have k7:Kp tp H5 (upd H' tp (.lst [.int t])):=k6.trans Kp.tape
  have tk7:=k7.tk tt5
  refine ⟨sa,xs,d,.ref a,rfl,rfl,SqT.of (tk7 _ _ gsa),eat,a,_,0,_,rfl,rfl,SqT.of (tk7 _ _ ha),cq,?_⟩
  have gp7:(upd H' tp (.lst [.int t])) p=some (.lst (bH qs)):=by rw [ah hpn];exact gp
  refine hk _ _ gp7 ⟨?_,⟨t,?_⟩,ac,hpn,qs++[q],?_,?_,?_⟩
  ·intro b' o' hb hbn
   rw [ah (ai hb hp)]
   exact k7 _ _ hb hbn
  ·rw [ah (Ne.symm hpn),ac]
  ·unfold bH;rw [List.map_append];rfl
  ·rw [List.length_append,hl];rfl
  ·intro x hx
   rw [List.mem_append,List.mem_singleton]at hx
   rcases hx with h | rfl
   ·exact hqs x h
   ·exact List.mem_of_getElem? hq
 ·rintro p zs H6 hp ⟨k6,tt6,gp,hpn,qs,rfl,hl,hqs⟩
  refine ⟨p,_,rfl,.inl ⟨SqL.of gp,fun pa hpa=>?_⟩⟩
  have s7:=af hpa (.tup (bH qs))
  have g7:(upd H6 pa (.tup (bH qs))) pa=some (.tup (bH qs)):=ac
  have tt7:=tt6.same s7
  generalize upd H6 pa (.tup (bH qs))=H7 at s7 g7 tt7 ⊢
  have k27:Kp tp H2 H7:=((Kp.refl.same s5).trans k6).same s7
  have S27:Same H2 H7:=fun b oo h=>k27 b oo h (ai h htp)
  have gfl7:=S27 _ _ gfl
  obtain ⟨nm,enm⟩: ∃ nm,ws[i]? =some nm:=⟨ws[i]'(by lia),List.getElem?_eq_getElem (by lia)⟩
  have eat:atI (ws.map V.str) (0+ (i:Int))=some (V.str nm):=by
   rw [Int.zero_add]
   exact aF (by rw [List.getElem?_map,enm];rfl)
  refine ⟨_,rfl,.inl ⟨rfl,_,SqL.of gfl7⟩,?_⟩
  refine ⟨_,rfl,_,rfl,_,rfl,_,rfl,nl,_,_,_,rfl,rfl,SqL.of (S27 _ _ gnl),eat,_,rfl,_,rfl,_,rfl,tp,sa,pa,ss,nm,o,qs,mode,rfl,tt7,hsa.mono (ay S27),hok,ho,g7,hqs,by lia,fun v rules H8 rf rok k8 tt8=>?_⟩
  have S28:Same H2 H8:=fun b oo h=>k8 b oo (S27 b oo h) (ai h htp)
  have gfl8:=S28 _ _ gfl
  have lfv:=hF.len
  refine ⟨fl,fv,v,rfl,rfl,gfl8,ao (by lia),?_⟩
  have tk:TK H8 (upd H8 fl (.lst (fv++[v]))):=TK.lst gfl8
  have tk2:TK H2 (upd H8 fl (.lst (fv++[v]))):=(ay S28).trans tk
  refine hD _ _ ⟨_,_,_,_,_,fv++[v],frs++[⟨nm,o,qs,rules⟩],rfl,?_,hsa.mono tk2,?_,ac,?_,?_,?_,?_,?_,?_⟩
  ·intro b oo h
   rw [ah (ai h hfl0)]
   exact S28 _ _ (sm _ _ h)
  ·rw [ah hnf]
   exact S28 _ _ gnl
  ·exact Paired.snoc (hF.mono tk2) (rf.mono tk)
  ·rw [List.length_append,hfl];rfl
  ·rw [List.map_append,hnm,List.take_add_one,enm];rfl
  ·intro fr hfr
   rw [List.mem_append,List.mem_singleton]at hfr
   rcases hfr with h | rfl
   ·exact hfok fr h
   ·exact ⟨ho,hqs,by show qs.length<=3;lia,rok⟩
  ·intro k hk hks
   by_cases c:k<i
   ·rw [List.getElem?_append_left (by lia)]
    exact hown k c hks
   ·have:k=i:=by lia
    subst this
    rw [List.getElem?_append_right (by lia),hfl,Nat.sub_self]
    show some o=_
    rw [hoi hks]
  ·intro fr hfr
   rcases sY hfr with ⟨h,e⟩ | ⟨h,e⟩
   ·exact hnil fr e
   ·subst e
    have:qs.length=0:=by rw [hl,hmi (by lia)];rfl
    exact List.eq_nil_of_length_eq_zero this
theorem vT {d:Int} (h0:0<=d) (h1:d<5): ∃ m:Int,atI [V.int 2,.int 1,.int 3,.int 2,.int 0] d=some (.int m)/\0<=m/\m<=3:=by
 have h5:d=0\/d=1\/d=2\/d=3\/d=4:=by lia
 rcases h5 with h | h | h | h | h <;> subst h <;> exact ⟨_,rfl,by decide,by decide⟩
theorem vS {d:Int} (h0:0<=d) (h1:d<5): ∃ m:Int,atI [V.int 0,.int 0,.int 1,.int 2,.int 2] d=some (.int m)/\(m=0\/m=1\/m=2):=by
 have h5:d=0\/d=1\/d=2\/d=3\/d=4:=by lia
 rcases h5 with h | h | h | h | h <;> subst h <;> exact ⟨_,rfl,by decide⟩
theorem vR {d:Int} (h0:0<=d) (h1:d<3): ∃ m:Int,atI [V.int 3,.int 4,.int 7] d=some (.int m)/\3<=m/\m<=7:=by
 have h5:d=0\/d=1\/d=2:=by lia
 rcases h5 with h | h | h <;> subst h <;> exact ⟨_,rfl,by decide,by decide⟩
theorem sK {z d:Int} (hz0:0<=z) (hz1:z<1000) (h0:0<=d) (h1:d<6): ∃ m:Int,atI [V.int 2,.int 7,.int 10,.int 97,.int (10^ (30:Int).toNat),.int (2+z)] d=some (.int m)/\2<=m/\m<=10^30:=by
 have e:(10:Int) ^ (30:Int).toNat=10^30:=rfl
 have b:(2000:Int)<=10^30:=by decide +kernel
 have h5:d=0\/d=1\/d=2\/d=3\/d=4\/d=5:=by lia
 rcases h5 with h | h | h | h | h | h <;> subst h
 ·exact ⟨2,rfl,by lia,by lia⟩
 ·exact ⟨7,rfl,by lia,by lia⟩
 ·exact ⟨10,rfl,by lia,by lia⟩
 ·exact ⟨97,rfl,by lia,by lia⟩
 ·exact ⟨_,rfl,by rw [e];lia,by rw [e];lia⟩
 ·exact ⟨_,rfl,by lia,by lia⟩
theorem vf {cdv:Value} {A:Around} {outer:List Env} {s:Shared} {H H0:Hp} {E:XK} (G:Gb mg)
  (GD:aE P w K mg base CX0 1 g gd ["tape","many"] cf) (bD:Binds K gd ["tape","many"] []) (kD:PySem.W.keepIn K (.ref g)=true) (mD:mg "_law_digit"=some (.ref g))
  (GF:aE P w K mg base CX0 5 f2 fd2 ["tape","sorts","name","own","parts","mode"] gj) (bF:Binds K fd2 ["tape","sorts","name","own","parts","mode"] []) (kF:PySem.W.keepIn K (.ref f2)=true) (mF:mg "_law_form"=some (.ref f2))
  (hr:Room 5 (er CX0 P w K mg base i9 "_law_book" (ak fH) f cdv A outer s H0 E).nox.A):
  ∃ t,PSs (er CX0 P w K mg base i9 "_law_book" (ak fH) f cdv A outer s H0 E).nox (bkFor.drop 3) t/\
   ∀ (sc hd sa nl fl:Addr) (st wh mode gr mo:Int) (few:Bool) (ss:List Srt) (ws:List Str),eJ ss->ws.length=10->H fl=none->nl≠fl-> ∀ (D:iB) (i:Nat) (σ:St) (H2 H5:Hp) (tp:Addr) (o:Srt) (o14 o15:Option V),lA H sc hd sa nl fl st wh mode gr mo few ss ws i σ H2->i<10->H2 tp=none->Same H2 H5->Tp H5 tp->o∈ss->(i<ss.length->ss[i]? =some o)->
    (∀ σ' H',lA H sc hd sa nl fl st wh mode gr mo few ss ws (i+1) σ' H'->D.nx σ' H')->
    t D [some (.ref sc),some (.int st),some (.bl few),some (.ref hd),some (.int wh),some (.int mode),some (.int gr),some (.int mo),some (.ref sa),some (.ref nl),some (.ref fl),some (.int (0+ (i:Int))),some (.ref tp),some (.str o.name),o14,o15] H5:=by
 have hr1:=hr.mono (show 1<=5 by decide)
 obtain ⟨t2,ht2,hread2⟩:=vd (cdv:=cdv) (A:=A) (outer:=outer) (s:=s) (H:=H) (H0:=H0) (E:=E) (f:=f) G GD bD kD mD GF bF kF mF hr
 refine ⟨_,ae (am (i:=14) scBook.nd rfl (Or.inl rfl) (ar (r:=cB K) aS (aN (aa ag (aa ag (aa ag (aa ag (aa ag ad)))))) (al GD hr1 rfl mD kD bD .nil aA (aa (pv 12) (aa ag ad))) (fun _ _=>rfl)))
  (ae (bi (PW.pt (nW (aM dh (pv 11) ag (aV _)) (my (PW.pt (iP (aM dh (pv 6) ag (aV _)) (gm (aM kQ (pv 11) (aq (r:=dl K) aH rfl G.len PySem.boot_len (aa (pv 8) ad)) (aV _))))))))
   (aj (am (i:=14) scBook.nd rfl (Or.inl rfl) ag)) aP) ht2),?_⟩
 intro sc hd sa nl fl st wh mode gr mo few ss ws hok hws hfl0 hnf D i σ H2 H5 tp o o14 o15 hB hi htp s5 tt5 ho hoi hD
 obtain ⟨xs,gsa,hR⟩:SrtsAt H5 sa ss:=by
  obtain ⟨_,_,_,_,_,_,_,_,_,h,_⟩:=hB
  exact h.mono (ay s5)
 refine ⟨(by show 5<=sizeLine;decide),fun p hp=>?_⟩
 have npt:=dC tt5 hp
 refine ⟨_,rfl,tp,5,rfl,tt5.new hp,by decide,by decide,fun d t hd0 hd1=>?_⟩
 obtain ⟨m,em,hm0,hm3⟩:=vT hd0 hd1
 refine ⟨p,_,d,.int m,rfl,rfl,SqL.of (by rw [ah npt];exact ac),em,?_⟩
 have k6:Kp tp H5 (upd (upd H5 p (.lst [.int 2,.int 1,.int 3,.int 2,.int 0])) tp (.lst [.int t])):=(Kp.refl.new hp).trans Kp.tape
 have tt6:Tp (upd (upd H5 p (.lst [.int 2,.int 1,.int 3,.int 2,.int 0])) tp (.lst [.int t])) tp:=⟨t,ac⟩
 generalize upd (upd H5 p (.lst [.int 2,.int 1,.int 3,.int 2,.int 0])) tp (.lst [.int t])=H6 at k6 tt6 ⊢
 have s6:Same H2 H6:=fun b oo h=>k6 b oo (s5 b oo h) (ai h htp)
 have gsa6:=k6.tk tt5 _ _ gsa
 refine ⟨_,rfl,rfl,_,rfl,?_⟩
 refine cs (fun c=>kn ?_) (fun c=>?_)
 ·exact hread2 sc hd sa nl fl st wh mode gr mo few ss ws hok hws hfl0 hnf D i σ H2 H6 tp o 0 o15 hB hi htp s6 tt6 ho hoi (by decide) (by decide) (fun _=>rfl) hD
 have hne:i=0->m=0:=fun e=>by
  subst e
  exact absurd (decide_eq_true rfl) c
 refine ⟨_,rfl,rfl,_,rfl,?_⟩
 refine cs (fun c2=>?_) (fun c2=>dI ?_)
 ·refine ⟨_,rfl,_,rfl,sa,xs,rfl,.inr (SqT.of gsa6),_,_,rfl,rfl,_,rfl,?_⟩
  refine cs (fun c3=>?_) (fun c3=>?_)
  ·exact hread2 sc hd sa nl fl st wh mode gr mo few ss ws hok hws hfl0 hnf D i σ H2 H6 tp o 0 o15 hB hi htp s6 tt6 ho hoi (by decide) (by decide) (fun _=>rfl) hD
  ·exact hread2 sc hd sa nl fl st wh mode gr mo few ss ws hok hws hfl0 hnf D i σ H2 H6 tp o m o15 hB hi htp s6 tt6 ho hoi hm0 hm3 hne hD
 ·exact hread2 sc hd sa nl fl st wh mode gr mo few ss ws hok hws hfl0 hnf D i σ H2 H6 tp o m o15 hB hi htp s6 tt6 ho hoi hm0 hm3 hne hD
theorem wr {cdv:Value} {A:Around} {outer:List Env} {s:Shared} {H:Hp} {Q:VK} {E:XK} {sc:Addr} {ns:List Int} {st:Int} {few:Bool} (G:Gb mg)
  (GD:aE P w K mg base CX0 1 g gd ["tape","many"] cf) (bD:Binds K gd ["tape","many"] []) (kD:PySem.W.keepIn K (.ref g)=true) (mD:mg "_law_digit"=some (.ref g))
  (GF:aE P w K mg base CX0 5 f2 fd2 ["tape","sorts","name","own","parts","mode"] gj) (bF:Binds K fd2 ["tape","sorts","name","own","parts","mode"] []) (kF:PySem.W.keepIn K (.ref f2)=true) (mF:mg "_law_form"=some (.ref f2))
  (GT:aE P w K mg base CX0 2 f3 fd3 ["script","k"] (iF K)) (bT:Binds K fd3 ["script","k"] []) (kT:PySem.W.keepIn K (.ref f3)=true) (mT:mg "_law_tape"=some (.ref f3))
  (hS:SqL K H sc (ns.map V.int)) (hns:ns.length<=63) (hst0:0<=st) (hst1:st<900) (q: ∀ v bk H',RepB H' bk v->BookOk bk->Same H H'->Q v H')
  (hr:Room 5 (er CX0 P w K mg base i9 "_law_book" (ak fH) f cdv A outer s H E).nox.A):
  ∃ t,PSs (er CX0 P w K mg base i9 "_law_book" (ak fH) f cdv A outer s H E).nox ((cM fH).drop 8) t/\
   ∀ (hd sa nl fl:Addr) (wh mode gr mo:Int) (ss:List Srt) (ws:List Str) (H5:Hp),eJ ss->NamesAre 10 ws->2<=wh->wh<=10^30->(mode=0\/mode=1\/mode=2)->0<=mo->mo<=7->H fl=none->nl≠fl->H fl=none->
    Same H H5->SrtsAt H5 sa ss->H5 nl=some (.lst (ws.map V.str))->H5 fl=some (.lst [])->
    t {nx:=fun _ H'=>Q .non H',rt:=Q} [some (.ref sc),some (.int st),some (.bl few),some (.ref hd),some (.int wh),some (.int mode),some (.int gr),some (.int mo),some (.ref sa),some (.ref nl),some (.ref fl),none,none,none,none,none] H5:=by
 have hr1:=hr.mono (show 1<=5 by decide)
 have hr2:=hr.mono (show 2<=5 by decide)
 obtain ⟨t1,ht1,hread1⟩:=vf (cdv:=cdv) (A:=A) (outer:=outer) (s:=s) (H:=H) (H0:=H) (E:=E) (f:=f) G GD bD kD mD GF bF kF mF hr
 refine ⟨_,ae (a6 PassesOwn.never rfl (br rfl G.range (aa (aq (iY rfl) rfl G.min (by decide +kernel) (aa ag (aa (aw a8 (aq (r:=dl K) aH rfl G.len PySem.boot_len (aa (pv 8) ad)) (pv 7)) ad))) ad)) (au (i:=11) scBook.nd rfl (Or.inl rfl))
   (ae (am (i:=12) scBook.nd rfl (Or.inr rfl) (al GT hr2 rfl mT kT bT .nil aA (aa (pv 0) (aa (aw a8 (aw a8 (pv 1) ag) (pv 11)) ad))))
   (ae (am (i:=13) scBook.nd rfl (Or.inl rfl) (ar (r:=aW K) ax (ar (r:=aW K) ax (pv 8) (aw cR (pv 11) (aq (r:=dl K) aH rfl G.len PySem.boot_len (aa (pv 8) ad))) (fun _ _=>rfl)) ag (fun _ _=>rfl)))
   (ae (bi (aM wJ (pv 11) (aq (r:=dl K) aH rfl G.len PySem.boot_len (aa (pv 8) ad)) (aV _))
    (aj (am (i:=13) scBook.nd rfl (Or.inl rfl) (ar (r:=aW K) ax (ar (r:=aW K) ax (pv 8) (al GD hr1 rfl mD kD bD .nil aA (aa (pv 12) (aa (aq (r:=dl K) aH rfl G.len PySem.boot_len (aa (pv 8) ad)) ad))) (fun _ _=>rfl)) ag (fun _ _=>rfl)))) aP) ht1))))
  (aj (aL (aK (aa (pv 4) (aa (pv 8) (aa (bO (r:=fu K) bZ rfl G.tuple (by decide +kernel) (aa (pv 10) ad)) ad)))))),?_⟩
 intro hd sa nl fl wh mode gr mo ss ws H5 hok hN hw2 hw3 hmode hmo0 hmo7 hfl0 hnf _ S5 hsa gnl gfl
 obtain ⟨nLen,nNd,nWd⟩:=hN.ok (by decide)
 obtain ⟨xs,gsa,hR⟩:=hsa
 have lxs:=hR.len
 have l1:=hok.1
 have l4:=hok.2.1
 obtain ⟨n,en,hn1,hn2⟩: ∃ n:Int,(if (xs.length:Int) +mo<10 then (xs.length:Int) +mo else 10)=n/\(xs.length:Int)<=n/\n<=10:=⟨_,rfl,by split <;> lia,by split <;> lia⟩
 refine ⟨_,rfl,sa,xs,rfl,.inr (SqT.of gsa),_,rfl,_,_,rfl,rfl,_,_,rfl,?_⟩
 rw [en]
 refine ⟨n,rfl,by lia,by lia,?_⟩
 refine dq (fun i σ H'=>lA H sc hd sa nl fl st wh mode gr mo few ss ws i σ H')
  ⟨none,none,none,none,none,[],[],rfl,S5,⟨xs,gsa,hR⟩,gnl,gfl,.nil,rfl,rfl,fun _ h=>(by cases h),fun k h=>(by lia),fun fr h=>(by cases h)⟩ ?_ ?_
 ·intro i σ H6 hi hB
  have hB':=hB
  obtain ⟨o11,o12,o13,o14,o15,fv,frs,rfl,S6,hsa6,gnl6,gfl6,hF6,_⟩:=hB'
  obtain ⟨xs6,gsa6,hR6⟩:=hsa6
  have lx6:=hR6.len
  refine ⟨_,rfl,_,rfl,_,_,rfl,rfl,_,rfl,_,_,rfl,rfl,sc,ns,_,rfl,SqL.keep hS (fun oo h=>S6 _ _ h),hns,by lia,by lia,fun tp t0 htp=>?_⟩
  have s7:=af htp (.lst [.int t0])
  have tt7:Tp (upd H6 tp (.lst [.int t0])) tp:=⟨t0,ac⟩
  generalize upd H6 tp (.lst [.int t0])=H7 at s7 tt7 ⊢
  have gsa7:=s7 _ _ gsa6
  have hR7:=hR6.mono (ay s7)
  have hm0:0<=(0+ (i:Int)) % (xs6.length:Int):=Int.emod_nonneg _ (by lia)
  have hm1:(0+ (i:Int)) % (xs6.length:Int) <xs6.length:=Int.emod_lt_of_pos _ (by lia)
  obtain ⟨o,a,b,c,ho,eat,ha⟩:=lY hR7 hm0 hm1
  refine ⟨_,rfl,_,rfl,_,rfl,sa,xs6,rfl,.inr (SqT.of gsa7),_,_,rfl,rfl,(by show (0:Int) <xs6.length;lia),sa,xs6,_,.ref a,rfl,rfl,SqT.of gsa7,eat,a,_,0,_,rfl,rfl,SqT.of ha,cq,?_⟩
  refine ⟨_,rfl,_,rfl,sa,xs6,rfl,.inr (SqT.of gsa7),_,_,rfl,rfl,_,rfl,?_⟩
  refine cs (fun c=>?_) (fun c=>?_)
  ·have c':(xs6.length:Int)<=0+ (i:Int):=of_decide_eq_true c
   refine ⟨_,rfl,_,rfl,_,rfl,sa,xs6,rfl,.inr (SqT.of gsa7),tp,_,rfl,tt7,by lia,by lia,fun d t1 hd0 hd1=>?_⟩
   have k8:Kp tp H7 (upd H7 tp (.lst [.int t1])):=Kp.tape
   have tt8:Tp (upd H7 tp (.lst [.int t1])) tp:=⟨t1,ac⟩
   generalize upd H7 tp (.lst [.int t1])=H8 at k8 tt8 ⊢
   have tk8:=k8.tk tt7
   obtain ⟨o2,a2,b2,c2,ho2,eat2,ha2⟩:=lY hR7 hd0 hd1
   refine ⟨sa,xs6,d,.ref a2,rfl,rfl,SqT.of (tk8 _ _ gsa7),eat2,a2,_,0,_,rfl,rfl,SqT.of (tk8 _ _ ha2),cq,?_⟩
   exact hread1 sc hd sa nl fl st wh mode gr mo few ss ws hok nLen hfl0 hnf _ i _ H6 H8 tp o2 _ _ hB (by lia) htp (fun y oo h=>k8 y oo (s7 y oo h) (ai h htp)) tt8 (List.mem_of_getElem? ho2) (fun h=>by lia) (fun σ' H' h=>h)
  ·have c': ¬ (xs6.length:Int)<=0+ (i:Int):=fun e=>c (decide_eq_true e)
   have ei:((0+ (i:Int)) % (xs6.length:Int)).toNat=i:=by
    rw [Int.emod_eq_of_lt (by lia) (by lia)]
    lia
   rw [ei]at ho
   exact hread1 sc hd sa nl fl st wh mode gr mo few ss ws hok nLen hfl0 hnf _ i _ H6 H7 tp o _ _ hB (by lia) htp s7 tt7 (List.mem_of_getElem? ho) (fun _=>ho) (fun σ' H' h=>h)
 ·rintro σ H6 ⟨o11,o12,o13,o14,o15,fv,frs,rfl,S6,hsa6,gnl6,gfl6,hF6,lfr,hnm,hfok,hown,hnil⟩
  refine ⟨_,rfl,_,rfl,_,rfl,fl,fv,rfl,.inl ⟨SqL.of gfl6,fun fa hfa=>?_⟩⟩
  have s7:=af hfa (.tup fv)
  have g7:(upd H6 fa (.tup fv)) fa=some (.tup fv):=ac
  generalize upd H6 fa (.tup fv)=H7 at s7 g7 ⊢
  refine ⟨(by show 3<=sizeLine;decide),fun pb hpb=>?_⟩
  have s8:=af hpb (.tup [.int wh,.ref sa,.ref fa])
  have tk68:=ay (s7.trans s8)
  refine q (.ref pb) ⟨wh,ss,frs⟩ _ ⟨pb,sa,fa,fv,rfl,ac,hsa6.mono tk68,s8 _ _ g7,hF6.mono tk68⟩ ?_ (S6.trans (s7.trans s8))
  refine ⟨hok,⟨hw2,hw3⟩,?_,?_,?_,?_,⟨mode,hmode,hfok⟩,?_⟩
  ·show frs.length<=10
   lia
  ·show ss.length<=frs.length
   lia
  ·show (frs.map Frm.name).Nodup
   rw [hnm]
   exact nNd.sublist (List.take_sublist _ _)
  ·intro fr hfr
   refine nWd _ (List.mem_of_mem_take (i:=n.toNat) ?_)
   rw [<- hnm]
   exact List.mem_map_of_mem hfr
  ·have l0:0<frs.length:=by have:=hok.1;lia
   exact ⟨frs[0],List.getElem_mem l0,hnil _ (List.getElem?_eq_getElem l0)⟩
theorem vN (F:Fun K "_law_book" "_law_book" fH f fd) (G:Gb mg)
  (GD:aE P w K mg base CX0 1 g gd ["tape","many"] cf) (bD:Binds K gd ["tape","many"] []) (kD:PySem.W.keepIn K (.ref g)=true) (mD:mg "_law_digit"=some (.ref g))
  (GF:aE P w K mg base CX0 5 f2 fd2 ["tape","sorts","name","own","parts","mode"] gj) (bF:Binds K fd2 ["tape","sorts","name","own","parts","mode"] []) (kF:PySem.W.keepIn K (.ref f2)=true) (mF:mg "_law_form"=some (.ref f2))
  (GT:aE P w K mg base CX0 2 f3 fd3 ["script","k"] (iF K)) (bT:Binds K fd3 ["script","k"] []) (kT:PySem.W.keepIn K (.ref f3)=true) (mT:mg "_law_tape"=some (.ref f3))
  (GS:aE P w K mg base CX0 3 f4 fd4 ["tape","few"] lN) (bS:Binds K fd4 ["tape","few"] []) (kS:PySem.W.keepIn K (.ref f4)=true) (mS:mg "_law_sorts"=some (.ref f4))
  (GN:aE P w K mg base CX0 2 f5 fd5 ["tape","many"] hX) (bN:Binds K fd5 ["tape","many"] []) (kN:PySem.W.keepIn K (.ref f5)=true) (mN:mg "_law_names"=some (.ref f5)):
  aE P w K mg base CX0 6 f fd ["script","start","few"] (ph K):=by
 refine F.ok scBook (fun vs H Q E h=>?_) (fun cdv A outer s H vs Q E hr h=>?_)
 ·obtain ⟨sc,ns,st,few,rfl,_⟩:=h
  rfl
 obtain ⟨sc,ns,st,few,rfl,hS,hns,hst0,hst1,q⟩:=h
 have hr1:=hr.mono (show 1<=5 by decide)
 have hr2:=hr.mono (show 2<=5 by decide)
 have hr3:=hr.mono (show 3<=5 by decide)
 obtain ⟨t,ht,hread⟩:=wr (cdv:=cdv) (A:=A) (outer:=outer) (s:=s) (H:=H) (Q:=Q) (E:=E) (f:=f) (few:=few) G GD bD kD mD GF bF kF mF GT bT kT mT hS hns hst0 hst1 q hr
 refine ⟨_,ae (am (i:=3) scBook.nd rfl (Or.inl rfl) (al GT hr2 rfl mT kT bT .nil aA (pac (pv 0) (pac (pv 1) ad))))
  (ae (am (i:=4) scBook.nd rfl (Or.inl rfl) (ar (r:=cB K) aS (aN (pac ag (pac ag (pac ag (pac ag (pac (aw xk ag ag) (pac (aw a8 ag (al GD hr1 rfl mD kD bD .nil aA (pac (pv 3) (pac ag ad)))) ad)))))))
   (al GD hr1 rfl mD kD bD .nil aA (pac (pv 3) (pac ag ad))) (fun _ _=>rfl)))
  (ae (am (i:=5) scBook.nd rfl (Or.inl rfl) (ar (r:=cB K) aS (aN (pac ag (pac ag (pac ag (pac ag (pac ag ad)))))) (al GD hr1 rfl mD kD bD .nil aA (pac (pv 3) (pac ag ad))) (fun _ _=>rfl)))
  (ae (am (i:=6) scBook.nd rfl (Or.inl rfl) (al GD hr1 rfl mD kD bD .nil aA (pac (pv 3) (pac ag ad))))
  (ae (am (i:=7) scBook.nd rfl (Or.inl rfl) (al GD hr1 rfl mD kD bD .nil aA (pac (pv 3) (pac (ar (r:=cB K) aS (aN (pac ag (pac ag (pac ag ad)))) (al GD hr1 rfl mD kD bD .nil aA (pac (pv 3) (pac ag ad))) (fun _ _=>rfl)) ad))))
  (ae (am (i:=8) scBook.nd rfl (Or.inr rfl) (al GS hr3 rfl mS kS bS .nil aA (pac (pv 3) (pac (pv 2) ad))))
  (ae (am (i:=9) scBook.nd rfl (Or.inl rfl) (al GN hr2 rfl mN kN bN .nil aA (pac (pv 3) (pac ag ad))))
  (ae (am (i:=10) scBook.nd rfl (Or.inl rfl) (aN ad)) ht))))))),?_⟩
 refine ⟨_,rfl,_,rfl,sc,ns,st,rfl,hS,hns,hst0,by lia,fun hd t0 hhd=>?_⟩
 have S1:=af hhd (.lst [.int t0])
 have tt1:Tp (upd H hd (.lst [.int t0])) hd:=⟨t0,ac⟩
 generalize upd H hd (.lst [.int t0])=H1 at S1 tt1 ⊢
 refine ⟨10,30,rfl,rfl,⟨by decide,by decide,by decide +kernel⟩,?_⟩
 refine ⟨_,rfl,hd,1000,rfl,tt1,by decide,by decide,fun z t1 hz0 hz1=>⟨2,z,rfl,rfl,?_⟩⟩
 have k2:Kp hd H1 (upd H1 hd (.lst [.int t1])):=Kp.tape
 have tt2:Tp (upd H1 hd (.lst [.int t1])) hd:=⟨t1,ac⟩
 generalize upd H1 hd (.lst [.int t1])=H2 at k2 tt2 ⊢
 refine ⟨(by show 6<=sizeLine;decide),fun p hp=>?_⟩
 have np:=dC tt2 hp
 refine ⟨_,rfl,hd,6,rfl,tt2.new hp,by decide,by decide,fun d t2 hd0 hd1=>?_⟩
 obtain ⟨wh,ewh,hw2,hw3⟩:=sK hz0 hz1 hd0 hd1
 refine ⟨p,_,d,.int wh,rfl,rfl,SqL.of (by rw [ah np];exact ac),ewh,?_⟩
 have k3:Kp hd H1 (upd (upd H2 p (.lst [.int 2,.int 7,.int 10,.int 97,.int (10^ (30:Int).toNat),.int (2+z)])) hd (.lst [.int t2])):=(k2.new hp).trans Kp.tape
 have tt3:Tp (upd (upd H2 p (.lst [.int 2,.int 7,.int 10,.int 97,.int (10^ (30:Int).toNat),.int (2+z)])) hd (.lst [.int t2])) hd:=⟨t2,ac⟩
 generalize upd (upd H2 p (.lst [.int 2,.int 7,.int 10,.int 97,.int (10^ (30:Int).toNat),.int (2+z)])) hd (.lst [.int t2])=H3 at k3 tt3 ⊢
 refine ⟨(by show 5<=sizeLine;decide),fun p hp=>?_⟩
 have np:=dC tt3 hp
 refine ⟨_,rfl,hd,5,rfl,tt3.new hp,by decide,by decide,fun d t2 hd0 hd1=>?_⟩
 obtain ⟨mode,emo,hmode⟩:=vS hd0 hd1
 refine ⟨p,_,d,.int mode,rfl,rfl,SqL.of (by rw [ah np];exact ac),emo,?_⟩
 have k4:Kp hd H1 (upd (upd H3 p (.lst [.int 0,.int 0,.int 1,.int 2,.int 2])) hd (.lst [.int t2])):=(k3.new hp).trans Kp.tape
 have tt4:Tp (upd (upd H3 p (.lst [.int 0,.int 0,.int 1,.int 2,.int 2])) hd (.lst [.int t2])) hd:=⟨t2,ac⟩
 generalize upd (upd H3 p (.lst [.int 0,.int 0,.int 1,.int 2,.int 2])) hd (.lst [.int t2])=H4 at k4 tt4 ⊢
 refine ⟨_,rfl,hd,2,rfl,tt4,by decide,by decide,fun gr t3 _ _=>?_⟩
 have k5:Kp hd H1 (upd H4 hd (.lst [.int t3])):=k4.trans Kp.tape
 have tt5:Tp (upd H4 hd (.lst [.int t3])) hd:=⟨t3,ac⟩
 generalize upd H4 hd (.lst [.int t3])=H5 at k5 tt5 ⊢
 refine ⟨_,rfl,(by show 3<=sizeLine;decide),fun p hp=>?_⟩
 have np:=dC tt5 hp
 refine ⟨_,rfl,hd,3,rfl,tt5.new hp,by decide,by decide,fun d t4 hd0 hd1=>?_⟩
 obtain ⟨mm,emm,hmm3,hmm7⟩:=vR hd0 hd1
 refine ⟨p,_,d,.int mm,rfl,rfl,SqL.of (by rw [ah np];exact ac),emm,?_⟩
 have k6:Kp hd H1 (upd (upd H5 p (.lst [.int 3,.int 4,.int 7])) hd (.lst [.int t4])):=(k5.new hp).trans Kp.tape
 have tt6:Tp (upd (upd H5 p (.lst [.int 3,.int 4,.int 7])) hd (.lst [.int t4])) hd:=⟨t4,ac⟩
 generalize upd (upd H5 p (.lst [.int 3,.int 4,.int 7])) hd (.lst [.int t4])=H6 at k6 tt6 ⊢
 refine ⟨hd,mm,rfl,tt6,by lia,by lia,fun mo t5 hmo0 hmo1=>?_⟩
 have k7:Kp hd H1 (upd H6 hd (.lst [.int t5])):=k6.trans Kp.tape
 have tt7:Tp (upd H6 hd (.lst [.int t5])) hd:=⟨t5,ac⟩
 generalize upd H6 hd (.lst [.int t5])=H7 at k7 tt7 ⊢
 refine ⟨_,rfl,_,rfl,hd,few,rfl,tt7,fun sa ss xs H8 gsa hR hok k8 tt8=>?_⟩
 refine ⟨_,rfl,hd,10,rfl,tt8,by decide,by decide,fun nl ws H9 gnl hnl hN hnh k9 tt9=>?_⟩
 refine ⟨(by show 0<=sizeLine;decide),fun fl hfl=>?_⟩
 have k19:Kp hd H1 H9:=k7.trans (k8.trans k9)
 have S9:Same H H9:=fun b oo h=>k19 b oo (S1 b oo h) (ai h hhd)
 have s10:=af hfl (.lst [])
 exact hread hd sa nl fl wh mode gr mo ss ws _ hok hN hw2 hw3 hmode hmo0 (by lia) (S9.free hfl) (ai gnl hfl) (S9.free hfl) (S9.trans s10) (SrtsAt.mono (ay s10) (SrtsAt.mono (k9.tk tt8) ⟨xs,gsa,hR⟩)) (s10 _ _ gnl) ac
inductive Bt where
 | mk (nm:Str) (ps:List Bt)
noncomputable def Bt.nm:Bt->Str
 | .mk x _=>x
noncomputable def Bt.ps:Bt->List Bt
 | .mk _ l=>l
noncomputable def RepT (H:Hp):Nat->Bt->V->Prop
 | 0,_,_=>False
 | n+1,t,v=> ∃ a b vs,v=.ref a/\H a=some (.tup [.str t.nm,.ref b])/\H b=some (.tup vs)/\Paired (RepT H n) t.ps vs
theorem RepT.mono {H H':Hp} (k:TK H H'): ∀ {n:Nat} {t:Bt} {v:V},RepT H n t v->RepT H' n t v
 | 0,_,_,h=>h
 | n+1,_,_,⟨a,b,vs,e,h1,h2,h3⟩=>⟨a,b,vs,e,k _ _ h1,k _ _ h2,Paired.mapP h3 fun _ _ r=>RepT.mono k r⟩
theorem RepT.up {H:Hp}: ∀ {n:Nat} {t:Bt} {v:V},RepT H n t v->RepT H (n+1) t v
 | 0,_,_,h=>h.elim
 | n+1,_,_,⟨a,b,vs,e,h1,h2,h3⟩=>⟨a,b,vs,e,h1,h2,Paired.mapP h3 fun _ _ r=>RepT.up r⟩
noncomputable def Bt.at?:Bt->List Nat->Option Bt
 | t,[]=>some t
 | t,k::r=>(t.ps[k]?).bind fun u=>u.at? r
theorem Bt.at?_snoc: ∀ (pl:List Nat) (t:Bt) (k:Nat),t.at? (pl++[k])=(t.at? pl).bind fun u=>u.ps[k]?
 | [],t,k=>by
  show (t.ps[k]?).bind (fun u=>u.at? [])=t.ps[k]?
  cases t.ps[k]? <;> rfl
 | j::r,t,k=>by
  show (t.ps[j]?).bind (fun u=>u.at? (r++[k]))=((t.ps[j]?).bind fun u=>u.at? r).bind fun u=>u.ps[k]?
  cases t.ps[j]? with
  | none=>rfl
  | some u=>exact Bt.at?_snoc r u k
theorem a7 {α β:Type} {F:α->β->Prop}: ∀ {l:List α} {r:List β} {i:Nat} {a:α},Paired F l r->l[i]? =some a-> ∃ b,r[i]? =some b/\F a b
 | _,_,i,a,.nil,e=>by cases i <;> cases e
 | _,_,0,a,.cons h _,e=>⟨_,rfl,by cases e;exact h⟩
 | _,_,i+1,a,.cons _ t,e=>a7 (i:=i) t e
noncomputable def plV (pl:List Nat):List V:=pl.map fun (k:Nat)=>V.int (k:Int)
mutual
noncomputable def Bt.places:Bt->List (List Nat)
 | .mk _ ps=>[]::bo 0 ps
noncomputable def bo:Nat->List Bt->List (List Nat)
 | _,[]=>[]
 | k,t::r=>t.places.map (fun p=>k::p)++bo (k+1) r
end
theorem cS (t:Bt):t.places=[]::bo 0 t.ps:=by
 cases t with
 | mk x l=>rw [Bt.places];rfl
theorem dE (k:Nat):bo k []=[]:=by rw [bo]
theorem cr (k:Nat) (t:Bt) (r:List Bt):bo k (t::r)=t.places.map (fun p=>k::p)++bo (k+1) r:=by rw [bo]
noncomputable def Bt.sz (t:Bt):Nat:=t.places.length
noncomputable def szL:List Bt->Nat
 | []=>0
 | t::r=>t.sz+szL r
theorem eD: ∀ (l:List Bt) (k:Nat),(bo k l).length=szL l
 | [],k=>by rw [dE];rfl
 | t::r,k=>by
  rw [cr,List.length_append,List.length_map,eD r (k+1)]
  rfl
theorem nJ (t:Bt):t.sz=szL t.ps+1:=by
 show t.places.length=_
 rw [cS,List.length_cons,eD]
theorem jr: ∀ (a b:List Bt),szL (a++b)=szL a+szL b
 | [],b=>by show szL b=0+szL b;lia
 | t::r,b=>by
  show t.sz+szL (r++b)=(t.sz+szL r) +szL b
  rw [jr r b];lia
theorem jq (t:Bt):1<=t.sz:=by rw [nJ];lia
theorem jd: ∀ {l:List Bt} {t:Bt},t∈l->t.sz<=szL l
 | u::r,t,h=>by
  show t.sz<=u.sz+szL r
  rcases List.mem_cons.mp h with rfl | h
  ·lia
  ·have:=jd h;lia
theorem fS: ∀ {l:List Bt} {k:Nat} {p:List Nat},p∈bo k l-> ∃ j u p',l[j]? =some u/\p=(k+j)::p'/\p'∈u.places
 | [],k,p,h=>by rw [dE]at h;cases h
 | t::r,k,p,h=>by
  rw [cr,List.mem_append]at h
  rcases h with h | h
  ·obtain ⟨p',hp,rfl⟩:=List.mem_map.mp h
   exact ⟨0,t,p',rfl,rfl,hp⟩
  ·obtain ⟨j,u,p',h1,rfl,h2⟩:=fS h
   exact ⟨j+1,u,p',h1,by rw [show k+1+j=k+ (j+1) by lia],h2⟩
theorem dN: ∀ (n:Nat) (t:Bt),t.sz<=n-> ∀ p∈t.places,p.length<t.sz
 | 0,t,h,_,_=>by have:=jq t;lia
 | n+1,t,h,p,hp=>by
  have e:=nJ t
  rw [cS]at hp
  rcases List.mem_cons.mp hp with rfl | hp
  ·show 0<t.sz;lia
  ·obtain ⟨j,u,p',h1,rfl,h2⟩:=fS hp
   have h3:=jd (List.mem_of_getElem? h1)
   have:=dN n u (by lia) p' h2
   rw [List.length_cons]
   lia
theorem lH: ∀ (l:List Bt),l.length<=szL l
 | []=>Nat.le_refl _
 | t::r=>by
  show r.length+1<=t.sz+szL r
  have:=lH r
  have:=jq t
  lia
theorem wp {J:It} {xs:List V} {fr:List Nat} {te:TE} {σ:St} {H1:Hp} {Q:VK} {α:Type} (hn:xs.length<=1000)
  (hgo: ∀ i H,Same H1 H->i<xs.length->J.go i H) (hst: ∀ H,Same H1 H->J.stop xs.length H) (hy: ∀ i H v H',Same H1 H->J.yld i H v H'->H'=H/\xs[i]? =some v)
  (R:Hp->α->V->Prop) (mono: ∀ {H H':Hp} {a:α} {v:V},TK H H'->R H a v->R H' a v) (g:V->α)
  (hte: ∀ v H (k:VK),v∈xs->Same H1 H->(∀ u H',Same H H'->R H' (g v) u->k u H')->te (some v::cy fr σ) H k)
  (hd: ∀ p zs H',H1 p=none->Same H1 H'->H' p=some (.lst zs)->Paired (R H') (xs.map g) zs->Q (.ref p) H'):fc fr te σ J H1 Q:=by
 intro p hp
 refine ⟨fun i m zs H=>i<=xs.length/\m=xs.length-i/\Same H1 H/\H p=some (.lst zs)/\zs.length=i/\Paired (R H) ((xs.take i).map g) zs,⟨_,Nat.zero_le _,rfl,af hp _,ac,rfl,.nil⟩,?_⟩
 rintro i m zs H ⟨hi,hm,sm,gp,hz,hT⟩
 refine ⟨gp,?_⟩
 by_cases e:i=xs.length
 ·subst e
  rw [List.take_length]at hT
  exact .inl ⟨hst H sm,hd p zs H hp sm gp hT⟩
 ·have hlt:i<xs.length:=by lia
  refine .inr ⟨hgo i H sm hlt,ao (by lia),fun v H' hv=>?_⟩
  obtain ⟨rfl,hv2⟩:=hy i H v H' sm hv
  refine hte v _ _ (List.mem_of_getElem? hv2) sm fun u H2 s2 r=>?_
  have gp2:=s2 _ _ gp
  have tk:TK H2 (upd H2 p (.lst (zs++[u]))):=TK.lst gp2
  refine ⟨gp2,xs.length- (i+1),by lia,by lia,rfl,?_,ac,by rw [List.length_append,hz];rfl,?_⟩
  ·intro b o hb
   rw [ah (ai hb hp)]
   exact s2 _ _ (sm _ _ hb)
  ·rw [List.take_add_one,hv2,List.map_append]
   exact Paired.snoc (Paired.mapP hT fun _ _ r=>mono ((ay s2).trans tk) r) (mono tk r)
theorem xF {K:PySem.W.Frag} {a:Addr} {xs:List V} {H1:Hp} (ha:H1 a=some (.lst xs)): ∀ i H,Same H1 H->i<xs.length->(Itl K a).go i H:=fun i H s h=>⟨xs,xs[i],SqL.of (s _ _ ha),List.getElem?_eq_getElem h⟩
theorem xE {K:PySem.W.Frag} {a:Addr} {xs:List V} {H1:Hp} (ha:H1 a=some (.lst xs)): ∀ H,Same H1 H->(Itl K a).stop xs.length H:=fun H s=>⟨xs,SqL.of (s _ _ ha),Nat.le_refl _⟩
theorem yL {K:PySem.W.Frag} {a:Addr} {xs:List V} {H1:Hp} (ha:H1 a=some (.lst xs)): ∀ i H v H',Same H1 H->(Itl K a).yld i H v H'->H'=H/\xs[i]? =some v:=fun i H v H' s hv=>⟨hv.1,by obtain ⟨rfl,hv⟩:=hv;exact hv xs (SqL.of (s _ _ ha))⟩
theorem fE {K:PySem.W.Frag} {a:Addr} {xs:List V} {H1:Hp} (ha:H1 a=some (.tup xs)): ∀ i H,Same H1 H->i<xs.length->(Itt K a).go i H:=fun i H s h=>⟨xs,xs[i],SqT.of (s _ _ ha),List.getElem?_eq_getElem h⟩
theorem fD {K:PySem.W.Frag} {a:Addr} {xs:List V} {H1:Hp} (ha:H1 a=some (.tup xs)): ∀ H,Same H1 H->(Itt K a).stop xs.length H:=fun H s=>⟨xs,SqT.of (s _ _ ha),Nat.le_refl _⟩
theorem ip {K:PySem.W.Frag} {a:Addr} {xs:List V} {H1:Hp} (ha:H1 a=some (.tup xs)): ∀ i H v H',Same H1 H->(Itt K a).yld i H v H'->H'=H/\xs[i]? =some v:=fun i H v H' s hv=>⟨hv.1,by obtain ⟨rfl,hv⟩:=hv;exact hv xs (SqT.of (s _ _ ha))⟩
theorem gC {J:It} {xs:List V} {fr:List Nat} {te:TE} {σ:St} {H1:Hp} {Q:VK} (hn:xs.length<=1000)
  (hgo: ∀ i H,Same H1 H->i<xs.length->J.go i H) (hst: ∀ H,Same H1 H->J.stop xs.length H) (hy: ∀ i H v H',Same H1 H->J.yld i H v H'->H'=H/\xs[i]? =some v)
  (h:V->V) (hte: ∀ v H (k:VK),v∈xs->Same H1 H->k (h v) H->te (some v::cy fr σ) H k)
  (hd: ∀ p H',H1 p=none->Same H1 H'->H' p=some (.lst (xs.map h))->Q (.ref p) H'):fc fr te σ J H1 Q:=by
 refine wp hn hgo hst hy (fun _ (a:V) v=>v=a) (fun _ h=>h) h (fun v H k hv s hk=>hte v H k hv s (hk _ _ (fun _ _ h=>h) rfl)) fun p zs H' hp s gp hP=>?_
 have:zs=xs.map h:=by
  have go: ∀ {l r:List V},Paired (fun (a v:V)=>v=a) l r->r=l:=by
   intro l r hh
   induction hh with
   | nil=>rfl
   | cons a _ ih=>rw [a,ih]
  exact go hP
 rw [this]at gp
 exact hd p H' hp s gp
noncomputable def Lst (kvs:List (Key×V)) (s:Srt) (n:Nat):Prop:=aO kvs (.inr s.name)=some (.int (n:Int))
noncomputable def gB:Nat->Nat
 | 0=>0
 | n+1=>1+3*gB n
theorem jl: ∀ {a b:Nat},a<=b->gB a<=gB b
 | 0,b,_=>Nat.zero_le _
 | a+1,0,h=>by lia
 | a+1,b+1,h=>by
  have:=jl (a:=a) (b:=b) (by lia)
  show 1+3*gB a<=1+3*gB b
  lia
noncomputable def bJ:List Nat->Nat
 | []=>0
 | n::r=>n+bJ r
noncomputable def eg (kvs:List (Key×V)) (s:Srt):Bool:=(aO kvs (.inr s.name)).isSome
noncomputable def cnt (bk:Bk) (kvs:List (Key×V)):Nat:=bk.sorts.countP (eg kvs)
theorem xN (bk:Bk) (kvs:List (Key×V)):cnt bk kvs<=bk.sorts.length:=List.countP_le_length
theorem lp {α:Type} {p q:α->Bool}: ∀ {l:List α} {x:α},(∀ y,p y=true->q y=true)->x∈l->p x=false->q x=true->l.countP p+1<=l.countP q
 | y::r,x,hpq,hx,h1,h2=>by
  rw [List.countP_cons,List.countP_cons]
  rcases List.mem_cons.mp hx with rfl | hx
  ·rw [h1,h2]
   have:r.countP p<=r.countP q:=List.countP_mono_left fun z _=>hpq z
   simp only [Bool.false_eq_true,if_false,if_true]
   lia
  ·have ih:=lp hpq hx h1 h2
   by_cases c:p y=true
   ·rw [if_pos c,if_pos (hpq y c)];lia
   ·rw [if_neg c];lia
structure LI (bk:Bk) (kvs:List (Key×V)):Prop where
 vl: ∀ k v,aO kvs k=some v-> ∃ s,s∈bk.sorts/\k=.inr (Srt.name s)/\ ∃ n:Nat,v=.int (n:Int)/\1<=n/\n<=gB (cnt bk kvs)
 cl: ∀ s n,s∈bk.sorts->Lst kvs s n-> ∃ fr,fr∈bk.forms/\Frm.own fr=s/\ ∃ ms,Paired (Lst kvs) fr.parts ms/\1+bJ ms<=n
theorem LI.nil (bk:Bk):LI bk []:=⟨fun k v h=>(by cases h),fun s n _ h=>(by cases h)⟩
theorem je {ss:List Srt} (nd:(ss.map Srt.name).Nodup) {a b:Srt} (ha:a∈ss) (hb:b∈ss) (e:a.name=b.name):a=b:=by
 obtain ⟨i,hi⟩:=List.getElem?_of_mem ha
 obtain ⟨j,hj⟩:=List.getElem?_of_mem hb
 have q1:(ss.map Srt.name)[i]? =some a.name:=by rw [List.getElem?_map,hi];rfl
 have q2:(ss.map Srt.name)[j]? =some a.name:=by rw [List.getElem?_map,hj,e];rfl
 have:=eW nd q1 q2
 subst this
 rw [hi]at hj
 exact Option.some.inj hj
theorem qy {kvs:List (Key×V)} {s:Srt} {n m:Nat} (a:Lst kvs s n) (b:Lst kvs s m):n=m:=by
 unfold Lst at a b
 rw [a]at b
 have:=V.int.inj (Option.some.inj b)
 lia
theorem LI.val {bk:Bk} {kvs:List (Key×V)} (h:LI bk kvs) {s:Srt} {v:V} (e:aO kvs (.inr s.name)=some v): ∃ n:Nat,v=.int (n:Int)/\1<=n/\n<=gB (cnt bk kvs):=by
 obtain ⟨_,_,_,n,h⟩:=h.vl _ _ e
 exact ⟨n,h⟩
theorem LI.sum {bk:Bk} {kvs:List (Key×V)} (h:LI bk kvs): ∀ {ps:List Srt} {ms:List Nat},Paired (Lst kvs) ps ms->bJ ms<=ps.length*gB (cnt bk kvs)
 | _,_,.nil=>Nat.zero_le _
 | _,_,@Paired.cons _ _ _ a b l m x t=>by
  obtain ⟨n,e,_,h2⟩:=h.val x
  have e:(b:Int)=n:=V.int.inj e
  have ih:=LI.sum h t
  show b+bJ m<=(l.length+1) *gB (cnt bk kvs)
  rw [Nat.succ_mul]
  lia
theorem eG {kvs kvs':List (Key×V)} (h: ∀ s n,Lst kvs s n-> ∃ n',Lst kvs' s n'/\n'<=n): ∀ {ps:List Srt} {ms:List Nat},Paired (Lst kvs) ps ms-> ∃ ms',Paired (Lst kvs') ps ms'/\bJ ms'<=bJ ms
 | _,_,.nil=>⟨[],.nil,Nat.le_refl _⟩
 | _,_,@Paired.cons _ _ _ a b l m x t=>by
  obtain ⟨n',h1,h2⟩:=h _ _ x
  obtain ⟨ms',h3,h4⟩:=eG h t
  exact ⟨n'::ms',.cons h1 h3,by show n'+bJ ms'<=b+bJ m;lia⟩
theorem LI.put {bk:Bk} {kvs:List (Key×V)} (h:LI bk kvs) (nd:(bk.sorts.map Srt.name).Nodup) {fr:Frm} (hf:fr∈bk.forms) (ho:fr.own∈bk.sorts) (hp:fr.parts.length<=3) {ms:List Nat} (hm:Paired (Lst kvs) fr.parts ms)
  {n:Nat} (hn:(aO kvs (.inr fr.own.name)=none/\n=1+bJ ms)\/ ∃ m:Nat,Lst kvs fr.own m/\n=min (1+bJ ms) m):LI bk (aX kvs (.inr fr.own.name) (.int (n:Int))):=by
 have hsum:=h.sum hm
 have hle:fr.parts.length*gB (cnt bk kvs)<=3*gB (cnt bk kvs):=Nat.mul_le_mul_right _ hp
 have hput: ∀ j,aO (aX kvs (.inr fr.own.name) (.int (n:Int))) j=if j=.inr fr.own.name then some (.int (n:Int))else aO kvs j:=fun j=>bP _ _ _ _
 have hmon: ∀ y,eg kvs y=true->eg (aX kvs (.inr fr.own.name) (.int (n:Int))) y=true:=by
  intro y hy
  unfold eg at hy ⊢
  rw [hput]
  by_cases c:(Sum.inr y.name:Key)=.inr fr.own.name
  ·rw [if_pos c];rfl
  ·rw [if_neg c];exact hy
 have hcnt:cnt bk kvs<=cnt bk (aX kvs (.inr fr.own.name) (.int (n:Int))):=List.countP_mono_left fun z _=>hmon z
 have hg:=jl hcnt
 have hfall: ∀ s m,Lst kvs s m-> ∃ n',Lst (aX kvs (.inr fr.own.name) (.int (n:Int))) s n'/\n'<=m:=by
  intro s m hs
  by_cases c:s.name=fr.own.name
  ·refine ⟨n,by unfold Lst;rw [hput,if_pos (by rw [c])],?_⟩
   rcases hn with ⟨e,_⟩ | ⟨m',e,rfl⟩
   ·unfold Lst at hs;rw [c,e]at hs;cases hs
   ·have:Lst kvs fr.own m:=by unfold Lst at hs ⊢;rw [<- c];exact hs
    have:=qy e this
    lia
  ·exact ⟨m,by unfold Lst;rw [hput,if_neg (fun z=>c (Sum.inr.inj z))];exact hs,Nat.le_refl _⟩
 refine ⟨fun k v hv=>?_,fun s m hs hl=>?_⟩
 ·rw [hput]at hv
  by_cases c:k=.inr fr.own.name
  ·rw [if_pos c]at hv
   refine ⟨fr.own,ho,c,n,(Option.some.inj hv).symm,?_,?_⟩
   ·rcases hn with ⟨_,rfl⟩ | ⟨m,e,rfl⟩
    ·lia
    ·obtain ⟨m',e',h1,_⟩:=h.val e
     have e':(m:Int)=m':=V.int.inj e'
     lia
   ·rcases hn with ⟨e,rfl⟩ | ⟨m,e,rfl⟩
    ·have:=lp (p:=eg kvs) (q:=eg (aX kvs (.inr fr.own.name) (.int ((1+bJ ms:Nat):Int)))) hmon ho (by unfold eg;rw [e];rfl) (by unfold eg;rw [hput,if_pos rfl];rfl)
     have:=jl this
     have e3:gB (bk.sorts.countP (eg kvs) +1)=1+3*gB (cnt bk kvs):=rfl
     show 1+bJ ms<=gB (bk.sorts.countP _)
     lia
    ·obtain ⟨m',e',_,h2⟩:=h.val e
     have e':(m:Int)=m':=V.int.inj e'
     lia
  ·rw [if_neg c]at hv
   obtain ⟨s,h1,h2,m,h3,h4,h5⟩:=h.vl k v hv
   exact ⟨s,h1,h2,m,h3,h4,by lia⟩
 ·by_cases c:s.name=fr.own.name
  ·have es:=je nd hs ho c
   subst es
   have hl':n=m:=by
    unfold Lst at hl
    rw [hput,if_pos rfl]at hl
    have:=V.int.inj (Option.some.inj hl)
    lia
   subst hl'
   obtain ⟨ms',h1,h2⟩:=eG hfall hm
   rcases hn with ⟨_,e⟩ | ⟨m',e,e2⟩
   ·exact ⟨fr,hf,rfl,ms',h1,by lia⟩
   ·by_cases c2:1+bJ ms<=m'
    ·exact ⟨fr,hf,rfl,ms',h1,by lia⟩
    ·obtain ⟨fr2,g1,g2,ms2,g3,g4⟩:=h.cl _ _ ho e
     obtain ⟨ms3,g5,g6⟩:=eG hfall g3
     exact ⟨fr2,g1,g2,ms3,g5,by lia⟩
  ·have hl':Lst kvs s m:=by
    unfold Lst at hl ⊢
    rw [hput,if_neg (fun z=>c (Sum.inr.inj z))]at hl
    exact hl
   obtain ⟨fr2,g1,g2,ms2,g3,g4⟩:=h.cl _ _ hs hl'
   obtain ⟨ms3,g5,g6⟩:=eG hfall g3
   exact ⟨fr2,g1,g2,ms3,g5,by lia⟩
noncomputable def qi (bk:Bk) (kvs:List (Key×V)):Prop:= ∃ fr,fr∈bk.forms/\ ∃ n,Lst kvs (Frm.own fr) n
noncomputable def hIn (kvs:List (Key×V)):V->V
 | .str x=>.bl (aO kvs (.inr x)).isSome
 | _=>.non
noncomputable def sA (kvs:List (Key×V)):V->V
 | .str x=>(aO kvs (.inr x)).getD .non
 | _=>.non
theorem lh (kvs:List (Key×V)) (ps:List Srt):(bH ps).map (hIn kvs)=(ps.map (eg kvs)).map V.bl:=by
 unfold bH
 rw [List.map_map,List.map_map]
 rfl
theorem jN {bk:Bk} {kvs:List (Key×V)} (h:LI bk kvs): ∀ (ps:List Srt),(ps.map (eg kvs)).all id=true-> ∃ ms,Paired (Lst kvs) ps ms
 | [],_=>⟨[],.nil⟩
 | p::r,e=>by
  rw [List.map_cons,List.all_cons,Bool.and_eq_true]at e
  obtain ⟨ms,hm⟩:=jN h r e.2
  obtain ⟨v,hv⟩:=Option.isSome_iff_exists.mp (show (aO kvs (.inr p.name)).isSome=true from e.1)
  obtain ⟨n,rfl,_⟩:=h.val hv
  exact ⟨n::ms,.cons hv hm⟩
theorem gU {kvs:List (Key×V)}: ∀ {ps:List Srt} {ms:List Nat},Paired (Lst kvs) ps ms->(bH ps).map (sA kvs)=(ms.map fun m=>((m:Nat):Int)).map V.int
 | _,_,.nil=>rfl
 | _,_,@Paired.cons _ _ _ a b l m x t=>by
  have ih:=gU t
  show (aO kvs (.inr a.name)).getD .non::(bH l).map (sA kvs)=V.int (b:Int)::_
  rw [ih,show aO kvs (.inr a.name)=some (.int (b:Int))from x]
  rfl
theorem gY: ∀ ms:List Nat,ja (ms.map fun m=>((m:Nat):Int))=(bJ ms:Int)
 | []=>rfl
 | m::r=>by
  show (m:Int) +ja (r.map fun m=>((m:Nat):Int))=((m+bJ r:Nat):Int)
  rw [gY r]
  lia
theorem cP (ps:List Srt):(bH ps).length=ps.length:=List.length_map _
theorem fB {ps:List Srt} {v:V} (h:v∈bH ps): ∃ s,s∈ps/\v=.str (Srt.name s):=by
 obtain ⟨s,hs,e⟩:=List.mem_map.mp h
 exact ⟨s,hs,e.symm⟩
theorem LI.small {bk:Bk} {kvs:List (Key×V)} (h:LI bk kvs) (hk:BookOk bk) {s:Srt} {n:Nat} (hn:Lst kvs s n):1<=n/\n<=40:=by
 obtain ⟨m,e,h1,h2⟩:=h.val hn
 have e:(n:Int)=m:=V.int.inj e
 have h3:=xN bk kvs
 have h4:=hk.so.2.1
 have h5:=jl (show cnt bk kvs<=4 by lia)
 have h6:gB 4=40:=rfl
 lia
theorem dQ {bk:Bk} {kvs:List (Key×V)} (h:LI bk kvs) (hk:BookOk bk): ∀ {ps:List Srt} {ms:List Nat},Paired (Lst kvs) ps ms-> ∀ m∈ms,1<=m/\m<=40
 | _,_,.nil,m,hm=>by cases hm
 | _,_,@Paired.cons _ _ _ a b l r x t,m,hm=>by
  rcases List.mem_cons.mp hm with rfl | hm
  ·exact h.small hk x
  ·exact dQ h hk t m hm
noncomputable def xw:Option V->Nat
 | some (.int i)=>i.toNat
 | _=>0
noncomputable def szF (kvs:List (Key×V)) (fr:Frm):Nat:=1+bJ (fr.parts.map fun p=>xw (aO kvs (.inr p.name)))
noncomputable def pR (kvs:List (Key×V)) (fr:Frm):Nat:=match aO kvs (.inr fr.own.name)with
 | none=>szF kvs fr
 | some v=>min (szF kvs fr) (xw (some v))
noncomputable def ox (kvs:List (Key×V)) (fr:Frm):List (Key×V):=if (fr.parts.map (eg kvs)).all id=true then aX kvs (.inr fr.own.name) (.int ((pR kvs fr:Nat):Int))else kvs
noncomputable def iT (bk:Bk):Nat->List (Key×V)
 | 0=>[]
 | i+1=>bk.forms.foldl ox (iT bk i)
noncomputable def aZ (bk:Bk):List (Key×V):=iT bk bk.sorts.length
theorem fA {kvs:List (Key×V)}: ∀ {ps:List Srt} {ms:List Nat},Paired (Lst kvs) ps ms->ps.map (fun p=>xw (aO kvs (.inr p.name)))=ms
 | _,_,.nil=>rfl
 | _,_,@Paired.cons _ _ _ a b l m x t=>by
  rw [List.map_cons,fA t,show aO kvs (.inr a.name)=some (.int (b:Int))from x]
  show (b:Int).toNat::m=b::m
  rw [Int.toNat_natCast]
theorem qz {bk:Bk} {kvs:List (Key×V)} (h:LI bk kvs) {fr:Frm} {ms:List Nat} (hm:Paired (Lst kvs) fr.parts ms):
  (aO kvs (.inr fr.own.name)=none/\pR kvs fr=1+bJ ms)\/ ∃ m:Nat,Lst kvs fr.own m/\pR kvs fr=min (1+bJ ms) m:=by
 have e:szF kvs fr=1+bJ ms:=by unfold szF;rw [fA hm]
 cases hv:aO kvs (.inr fr.own.name)with
 | none=>exact .inl ⟨rfl,by unfold pR;rw [hv];exact e⟩
 | some v=>
  obtain ⟨m,rfl,_⟩:=h.val hv
  refine .inr ⟨m,hv,?_⟩
  unfold pR
  rw [hv]
  show min (szF kvs fr) (m:Int).toNat=_
  rw [e,Int.toNat_natCast]
inductive lO  (vs:List V) (H:Hp) (Q:VK) (E_:XK):Prop
 | mk: ∀ bv bk,(vs=[bv])->(RepB H bk bv)->(BookOk bk)->(∀ d H',H d=none->Same H H'->H' d=some (.dK (aZ bk))->LI bk (aZ bk)->qi bk (aZ bk)->Q (.ref d) H')->lO vs H Q E_
noncomputable abbrev qe:List Str:=["book","found","turn","name","sort","parts","rules","size"]
theorem scLeast:aG qe ["book"] (ak jE):=fsc
theorem um (F:Fun K "_law_least" "_law_least" jE f fd) (G:Gb mg) (hsum:mg "sum"=none):aE P w K mg base CX0 1 f fd ["book"] lO:=by
 refine F.ok scLeast (fun vs H Q E h=>?_) (fun cdv A outer s H vs Q E hr h=>?_)
 ·obtain ⟨bv,bk,rfl,_⟩:=h
  rfl
 obtain ⟨bv,bk,rfl,⟨a,sa,fa,fv,rfl,ha,⟨sx,hsa,hS⟩,hfa,hF⟩,hok,q⟩:=h
 have hu:=cZ hr
 refine ⟨_,ae (am (i:=1) scLeast.nd rfl (Or.inr rfl) fU)
  (ae (a6 PassesOwn.never rfl (br rfl G.range (aa (aq (r:=dl K) aH rfl G.len PySem.boot_len (aa (ar (r:=aW K) ax (pv 0) ag (fun _ _=>rfl)) ad)) ad)) (au (i:=2) scLeast.nd rfl (Or.inl rfl))
   (aj (a6 PassesOwn.never rfl (bf (ar (r:=aW K) ax (pv 0) ag (fun _ _=>rfl)))
    (cC rfl (aJ (au (i:=3) scLeast.nd rfl (Or.inl rfl)) (aJ (au (i:=4) scLeast.nd rfl (Or.inl rfl)) (aJ (au (i:=5) scLeast.nd rfl (Or.inl rfl)) (aJ (au (i:=6) scLeast.nd rfl (Or.inl rfl)) bV)))))
    (aj (bi (dZ (aq (ka rfl) rfl G.all (by decide +kernel) (aa (cH (sc0:=ak jE) (N0:=qe) (ys:=["found"]) (fr:=[1]) rfl (bf (pv 5)) rfl rfl
       cok (fun C s H ex=>t7 (mP hu (pv 0) (pv 1)))) ad)))
     (ae (am (i:=7) scLeast.nd rfl (Or.inl rfl) (aw a8 ag (aq (j9 rfl) rfl hsum (by decide +kernel) (aa (cH (sc0:=ak jE) (N0:=qe) (ys:=["found"]) (fr:=[1]) rfl (bf (pv 5)) rfl rfl
       cok (fun C s H ex=>bp hu (pv 1) (pv 0) (fun _ _=>rfl))) ad))))
     (aj (cA hu (pv 1) (pv 4) (aq (iY rfl) rfl G.min (by decide +kernel) (aa (pv 7) (aa (tY hu (pv 1) (pv 4) (pv 7) ⟨rfl,rfl,rfl,rfl⟩) ad))) rfl)))
     aP)))))
  (aj (aL (pv 1)))),?_⟩
 have lS:=hS.len
 have lF:=hF.len
 refine fun td htd=>?_
 have s0:=af htd (.dK [])
 have g0:(upd H td (.dK [])) td=some (.dK []):=ac
 generalize upd H td (.dK [])=H0 at s0 g0 ⊢
 have h4:=hok.so.2.1
 have h10:=hok.few
 obtain ⟨fr0,hfr0,hnil0⟩:=hok.nil
 obtain ⟨i0,hi0⟩:=List.getElem?_of_mem hfr0
 refine ⟨_,rfl,a,_,1,.ref sa,rfl,rfl,SqT.of (s0 _ _ ha),aF (j:=1) rfl,sa,sx,rfl,.inr (SqT.of (s0 _ _ hsa)),_,rfl,by lia,by lia,?_⟩
 refine dq (fun i σ H'=> ∃ o2 o3 o4 o5 o6 o7 kvs,σ=[some (.ref a),some (.ref td),o2,o3,o4,o5,o6,o7]/\Same H H'/\H' td=some (.dK kvs)/\LI bk kvs/\kvs.length<=10*i/\(1<=i->qi bk kvs)/\kvs=iT bk i)
  ⟨none,none,none,none,none,none,[],rfl,s0,g0,LI.nil bk,Nat.le_refl _,fun z=>absurd z (by lia),rfl⟩ ?_ ?_
 ·rintro i σ H1 hi ⟨o2,o3,o4,o5,o6,o7,kvs,rfl,S1,gd1,hI1,hl1,ht1,hk1⟩
  refine ⟨_,rfl,a,_,2,.ref fa,rfl,rfl,SqT.of (S1 _ _ ha),aF (j:=2) rfl,fa,rfl,⟨fv,SqT.of (S1 _ _ hfa)⟩,?_⟩
  refine cu (xs:=fv) (fun j σ H'=>j<=fv.length/\ ∃ o3 o4 o5 o6 o7 kvs,σ=[some (.ref a),some (.ref td),some (.int (0+ (i:Int))),o3,o4,o5,o6,o7]/\Same H H'/\H' td=some (.dK kvs)/\LI bk kvs/\kvs.length<=10*i+j/\(1<=i\/i0<j->qi bk kvs)/\kvs=(bk.forms.take j).foldl ox (iT bk i))
   ⟨Nat.zero_le _,o3,o4,o5,o6,o7,kvs,rfl,S1,gd1,hI1,hl1,fun z=>ht1 (by lia),hk1⟩ (fun j σ H' _ h=>by obtain ⟨_,_,_,_,_,_,_,_,sm,_⟩:=h;exact SqT.of (sm _ _ hfa)) ?_ ?_
  ·rintro j x σ H2 hx ⟨hj,o3,o4,o5,o6,o7,kvs,rfl,S2,gd2,hI2,hl2,ht2,hk2⟩
   have hjl:j<fv.length:=(List.getElem?_eq_some_iff.mp hx).1
   obtain ⟨fr,hfr,b,pa,ra,rv,rfl,hb,hpa,hra,hR⟩:=aC hF hx
   have hfm:=List.mem_of_getElem? hfr
   have hk1000:kvs.length<=1000:=by lia
   obtain ⟨mode,_,hfo⟩:=hok.fo
   obtain ⟨hown,hparts,hp3,_⟩:=hfo fr hfm
   have ek:(bk.forms.take (j+1)).foldl ox (iT bk i)=ox kvs fr:=by
    rw [List.take_add_one,hfr,List.foldl_append,<- hk2]
    rfl
   refine ⟨b,_,rfl,SqT.of (S2 _ _ hb),rfl,_,_,rfl,_,_,rfl,_,_,rfl,_,_,rfl,rfl,?_⟩
   refine ⟨_,rfl,pa,rfl,⟨_,SqT.of (S2 _ _ hpa)⟩,?_⟩
   refine gC (by rw [cP];lia) (fE (S2 _ _ hpa)) (fD (S2 _ _ hpa)) (ip (S2 _ _ hpa)) (hIn kvs) ?_ ?_
   ·intro v H' k hv s' hk
    obtain ⟨sr,_,rfl⟩:=fB hv
    exact ⟨_,rfl,_,rfl,td,_,rfl,DGet.k (k:=.inr sr.name) (s' _ _ gd2),hk⟩
   intro p3 H3 hp3' s3 gp3
   rw [lh]at gp3
   have S3:Same H H3:=S2.trans s3
   have gd3:=s3 _ _ gd2
   refine ⟨p3,_,rfl,SqL.of gp3,_,rfl,?_⟩
   refine cs (fun c=>?_) (fun c=>?_)
   ·obtain ⟨ms,hms⟩:=jN hI2 _ c
    have hsm:=dQ hI2 hok hms
    have lms:fr.parts.length=ms.length:=Paired.length hms
    refine ⟨_,rfl,pa,rfl,⟨_,SqT.of (S3 _ _ hpa)⟩,?_⟩
    refine gC (by rw [cP];lia) (fE (S3 _ _ hpa)) (fD (S3 _ _ hpa)) (ip (S3 _ _ hpa)) (sA kvs) ?_ ?_
    ·intro v H' k hv s' hk
     obtain ⟨sr,hsr,rfl⟩:=fB hv
     obtain ⟨i',hi'⟩:=List.getElem?_of_mem hsr
     obtain ⟨m,_,hm⟩:=a7 hms hi'
     refine ⟨_,rfl,_,rfl,td,.int (m:Int),rfl,(by rw [<- show aO kvs (.inr sr.name)=some (.int (m:Int))from hm];exact DGet.k (k:=.inr sr.name) (s' _ _ gd3)),?_⟩
     have:sA kvs (.str sr.name)=.int (m:Int):=by
      show (aO kvs (.inr sr.name)).getD .non=_
      rw [show aO kvs (.inr sr.name)=some (.int (m:Int))from hm]
      rfl
     rw [this]at hk
     exact hk
    intro p4 H4 hp4 s4 gp4
    rw [gU hms]at gp4
    have S4:Same H H4:=S3.trans s4
    have gd4:=s4 _ _ gd3
    refine ⟨p4,_,rfl,SqL.of gp4,by rw [List.length_map];lia,?_,?_⟩
    ·intro n hn
     obtain ⟨m,hm,rfl⟩:=List.mem_map.mp hn
     have:=hsm m hm
     lia
    rw [gY]
    refine ⟨_,_,rfl,rfl,?_⟩
    rw [show (V.int (1+ (bJ ms:Int)))=V.int ((1+bJ ms:Nat):Int)from congrArg V.int (show (1:Int) + (bJ ms:Int)=((1+bJ ms:Nat):Int) by lia)]
    refine ⟨_,rfl,_,rfl,td,rfl,.inl ⟨kvs,.inl gd4⟩,_,rfl,_,rfl,_,DGet.k (k:=.inr fr.own.name) gd4,?_⟩
    have fin: ∀ n:Nat,n=pR kvs fr->
      j+1<=fv.length/\ ∃ o3 o4 o5 o6 o7 kvs',[some (V.ref a),some (.ref td),some (.int (0+ (i:Int))),some (.str fr.name),some (.str fr.own.name),some (.ref pa),some (.ref ra),some (.int ((1+bJ ms:Nat):Int))]=[some (V.ref a),some (.ref td),some (.int (0+ (i:Int))),o3,o4,o5,o6,o7]/\
       Same H (upd H4 td (.dK (aX kvs (.inr fr.own.name) (.int (n:Int)))))/\(upd H4 td (.dK (aX kvs (.inr fr.own.name) (.int (n:Int))))) td=some (.dK kvs')/\LI bk kvs'/\kvs'.length<=10*i+ (j+1)/\(1<=i\/i0<j+1->qi bk kvs')/\kvs'=(bk.forms.take (j+1)).foldl ox (iT bk i):=by
     intro n hn
     subst hn
     refine ⟨hjl,_,_,_,_,_,_,rfl,?_,ac,hI2.put hok.so.2.2.1 hfm hown hp3 hms (qz hI2 hms),?_,fun _=>?_,by rw [ek];exact (if_pos c).symm⟩
     ·intro y oo h
      rw [ah (ai h htd)]
      exact S4 _ _ h
     ·have:=bh kvs (.inr fr.own.name) (.int ((pR kvs fr:Nat):Int))
      lia
     ·exact ⟨fr,hfm,_,by unfold Lst;rw [bP,if_pos rfl]⟩
    have hmn:=qz hI2 hms
    cases hold:aO kvs (.inr fr.own.name)with
    | none=>
     refine ⟨_,_,rfl,?_⟩
     rw [if_neg (by lia)]
     refine ⟨_,rfl,_,rfl,td,_,rfl,DPut.k (k:=.inr fr.own.name) gd4 (ao hk1000),?_⟩
     exact fin (1+bJ ms) (by rcases hmn with ⟨_,e⟩ | ⟨m',e,_⟩;exact e.symm;unfold Lst at e;rw [hold]at e;cases e)
    | some v=>
     obtain ⟨m,rfl,_⟩:=hI2.val hold
     refine ⟨_,_,rfl,?_⟩
     have e5:(if (m:Int) < ((1+bJ ms:Nat):Int)then (m:Int)else ((1+bJ ms:Nat):Int))=((min (1+bJ ms) m:Nat):Int):=by
      by_cases c5:(m:Int) < ((1+bJ ms:Nat):Int)
      ·rw [if_pos c5];lia
      ·rw [if_neg c5];lia
     rw [e5]
     refine ⟨_,rfl,_,rfl,td,_,rfl,DPut.k (k:=.inr fr.own.name) gd4 (ao hk1000),?_⟩
     exact fin _ (by rcases hmn with ⟨e,_⟩ | ⟨m',e,e2⟩;rw [hold]at e;cases e;rw [e2,qy e hold])
   ·refine ⟨hjl,_,_,_,_,_,kvs,rfl,S3,gd3,hI2,by lia,fun z=>?_,by rw [ek];exact (if_neg c).symm⟩
    by_cases c0:1<=i\/i0<j
    ·exact ht2 c0
    ·have j0:j=i0:=by lia
     subst j0
     rw [hi0]at hfr
     cases hfr
     rw [hnil0]at c
     exact absurd rfl c
  ·rintro σ H2 ⟨_,o3,o4,o5,o6,o7,kvs,rfl,S2,gd2,hI2,hl2,ht2,hk2⟩
   have:=hok.more
   have:=hok.so.1
   rw [<- lF,List.take_length]at hk2
   have hi0l:=(List.getElem?_eq_some_iff.mp hi0).1
   exact ⟨_,_,_,_,_,_,kvs,rfl,S2,gd2,hI2,by lia,fun _=>ht2 (.inr (by lia)),hk2⟩
 ·rintro σ H1 ⟨o2,o3,o4,o5,o6,o7,kvs,rfl,S1,gd1,hI1,hl1,ht1,hk1⟩
  have:=hok.so.1
  rw [Int.toNat_natCast,<- lS]at hk1 ht1
  subst hk1
  exact ⟨_,rfl,q td H1 htd S1 gd1 hI1 (ht1 (by lia))⟩
noncomputable def TreeOk (bk:Bk):Nat->Bt->Srt->Prop
 | 0,_,_=>False
 | n+1,t,s=>(∃ m,Lst (aZ bk) s m)/\ ∃ fr,fr∈bk.forms/\Frm.name fr=t.nm/\fr.own=s/\Paired (TreeOk bk n) t.ps fr.parts
theorem va {K:PySem.W.Frag} {kvs:List (Key×V)} {pa d:Addr} {ps:List Srt} {fr:List Nat} {te:TE} {σ:St} {H:Hp} {Q:VK} (hd:H d=some (.dK kvs)) (hpa:H pa=some (.tup (bH ps))) (hl:ps.length<=1000)
  (hte: ∀ (x:Str) H' (k:VK),H' d=some (.dK kvs)->k (.bl (aO kvs (.inr x)).isSome) H'->te (some (.str x)::cy fr σ) H' k)
  (hQ: ∀ p H',H p=none->Same H H'->H' p=some (.lst ((ps.map (eg kvs)).map V.bl))->Q (.ref p) H'):fc fr te σ (Itt K pa) H Q:=by
 refine gC (by rw [cP];lia) (fE hpa) (fD hpa) (ip hpa) (hIn kvs) ?_ ?_
 ·intro v H' k hv s' hk
  obtain ⟨sr,_,rfl⟩:=fB hv
  exact hte _ _ _ (s' _ _ hd) hk
 ·intro p H' hp s' gp
  rw [lh]at gp
  exact hQ p H' hp s' gp
theorem lq {K:PySem.W.Frag} {kvs:List (Key×V)} {pa d:Addr} {ps:List Srt} {ms:List Nat} {fr:List Nat} {te:TE} {σ:St} {H:Hp} {Q:VK} (hm:Paired (Lst kvs) ps ms) (hd:H d=some (.dK kvs)) (hpa:H pa=some (.tup (bH ps))) (hl:ps.length<=1000)
  (hte: ∀ (x:Str) (m:Nat) H' (k:VK),H' d=some (.dK kvs)->aO kvs (.inr x)=some (.int (m:Int))->k (.int (m:Int)) H'->te (some (.str x)::cy fr σ) H' k)
  (hQ: ∀ p H',H p=none->Same H H'->H' p=some (.lst ((ms.map fun m=>((m:Nat):Int)).map V.int))->Q (.ref p) H'):fc fr te σ (Itt K pa) H Q:=by
 refine gC (by rw [cP];lia) (fE hpa) (fD hpa) (ip hpa) (sA kvs) ?_ ?_
 ·intro v H' k hv s' hk
  obtain ⟨sr,hsr,rfl⟩:=fB hv
  obtain ⟨i',hi'⟩:=List.getElem?_of_mem hsr
  obtain ⟨m,_,hm⟩:=a7 hm hi'
  have hm':aO kvs (.inr sr.name)=some (.int (m:Int)):=hm
  refine hte _ m _ _ (s' _ _ hd) hm' ?_
  have:sA kvs (.str sr.name)=.int (m:Int):=by
   show (aO kvs (.inr sr.name)).getD .non=_
   rw [hm']
   rfl
  rw [this]at hk
  exact hk
 ·intro p H' hp s' gp
  rw [gU hm]at gp
  exact hQ p H' hp s' gp
theorem fX {H:Hp} {d:Addr} {kvs:List (Key×V)} {x:Str} {v:V} (g:H d=some (.dK kvs)) (e:aO kvs (.inr x)=some v):DGet H d (.str x) (some v):=by
 rw [<- e]
 exact DGet.k (k:=.inr x) g
theorem kz: ∀ (l:List Nat) (i m:Nat),l[i]? =some m->bJ (l.drop i)=m+bJ (l.drop (i+1))
 | [],i,m,h=>by cases i <;> cases h
 | a::r,0,m,h=>by cases h;rfl
 | a::r,i+1,m,h=>kz r i m h
inductive gK (n:Nat) (vs:List V) (H:Hp) (Q:VK) (E_:XK):Prop
 | mk: ∀ tp bv d bk s r m,(vs=[.ref tp,bv,.ref d,.str (Srt.name s),.int ((r:Nat):Int)])->(RepB H bk bv)->(BookOk bk)->(LI bk (aZ bk))->(H d=some (.dK (aZ bk)))->(Tp H tp)->(s∈bk.sorts)->(Lst (aZ bk) s m)->(m<=r)->(r<=n)->(r<=1000)->(∀ v t H',RepT H' n t v->TreeOk bk n t s->t.sz<=r->Kp tp H H'->Tp H' tp->Q v H')->gK n vs H Q E_
noncomputable abbrev qM:List Str:=["tape","book","least","sort","room","forms","form","spare","parts","name","more"]
theorem scTree:aG qM ["tape","book","least","sort","room"] (ak jz):=fsc
theorem ug {n:Nat} (F:Fun K "_law_tree" "_law_tree" jz f fd) (G:Gb mg) (hsum:mg "sum"=none)
  (GD:aE P w K mg base CX0 1 g gd ["tape","many"] cf) (bD:Binds K gd ["tape","many"] []) (kD:PySem.W.keepIn K (.ref g)=true) (mD:mg "_law_digit"=some (.ref g))
  (GT:aE P w K mg base CX0 (n+2) f fd ["tape","book","least","sort","room"] (gK n)) (bT:Binds K fd ["tape","book","least","sort","room"] []) (mT:mg "_law_tree"=some (.ref f)):
  aE P w K mg base CX0 (n+3) f fd ["tape","book","least","sort","room"] (gK (n+1)):=by
 refine F.ok scTree (fun vs H Q E h=>?_) (fun cdv A outer s H vs Q E hr h=>?_)
 ·obtain ⟨tp,bv,d,bk,sr,r,m,rfl,_⟩:=h
  rfl
 obtain ⟨tp,bv,d,bk,sr,r,m,rfl,hB,hok,hI,gd0,tt0,hsr,hm,hmr,hrn,hr1000,q⟩:=h
 have hB':=hB
 obtain ⟨a,sa,fa,fv,rfl,ha,⟨sx,hsa,hS⟩,hfa,hF⟩:=hB'
 have hu:=cZ hr
 have hr1:=hr.mono (show 1<=n+2 by lia)
 refine ⟨_,ae (am (i:=5) scTree.nd rfl (Or.inl rfl) (aN ad))
  (ae (a6 PassesOwn.never rfl (bf (ar (r:=aW K) ax (pv 1) ag (fun _ _=>rfl))) (au (i:=6) scTree.nd rfl (Or.inl rfl))
   (aj (bi (PW.pt (iP (aM dh (ar (r:=aW K) ax (pv 6) ag (fun _ _=>rfl)) (pv 3) (aV _))
     (gm (dZ (aq (ka rfl) rfl G.all (by decide +kernel) (aa (cH (sc0:=ak jz) (N0:=qM) (ys:=["least"]) (fr:=[2]) rfl (bf (ar (r:=aW K) ax (pv 6) ag (fun _ _=>rfl))) rfl rfl
       cok (fun C s H ex=>t7 (mP hu (pv 0) (pv 1)))) ad))))))
    (aj (bi (aM yH (aw a8 ag (aq (j9 rfl) rfl hsum (by decide +kernel) (aa (cH (sc0:=ak jz) (N0:=qM) (ys:=["least"]) (fr:=[2]) rfl (bf (ar (r:=aW K) ax (pv 6) ag (fun _ _=>rfl))) rfl rfl
       cok (fun C s H ex=>bp hu (pv 1) (pv 0) (fun _ _=>rfl))) ad))) (pv 4) (aV _))
     (aj (bx (dg PySem.F.plainAttrs_list PySem.F.slot_list_append PySem.F.type_list_append bn (pv 5) (aa (pv 6) ad)))) aP)) aP)))
  (ae (am (i:=6) scTree.nd rfl (Or.inl rfl) (ar (r:=cB K) aS (pv 5) (al GD hr1 rfl mD kD bD .nil aA (aa (pv 0) (aa (aq (r:=dl K) aH rfl G.len PySem.boot_len (aa (pv 5) ad)) ad))) (fun _ _=>rfl)))
  (ae (am (i:=7) scTree.nd rfl (Or.inl rfl) (aw ee (aw ee (pv 4) ag) (aq (j9 rfl) rfl hsum (by decide +kernel) (aa (cH (sc0:=ak jz) (N0:=qM) (ys:=["least"]) (fr:=[2]) rfl (bf (ar (r:=aW K) ax (pv 6) ag (fun _ _=>rfl))) rfl rfl
       cok (fun C s H ex=>bp hu (pv 1) (pv 0) (fun _ _=>rfl))) ad))))
  (ae (am (i:=8) scTree.nd rfl (Or.inl rfl) (aN ad))
  (ae (a6 PassesOwn.never rfl (bf (ar (r:=aW K) ax (pv 6) ag (fun _ _=>rfl))) (au (i:=9) scTree.nd rfl (Or.inl rfl))
   (ae (am (i:=10) scTree.nd rfl (Or.inl rfl) (al GD hr1 rfl mD kD bD .nil aA (aa (pv 0) (aa (aw a8 (pv 7) ag) ad))))
   (ae (am (i:=7) scTree.nd rfl (Or.inl rfl) (aw ee (pv 7) (pv 10)))
   (aj (bx (dg PySem.F.plainAttrs_list PySem.F.slot_list_append PySem.F.type_list_append bn (pv 8) (aa
    (al GT hr rfl mT F.kp bT .nil aA (aa (pv 0) (aa (pv 1) (aa (pv 2) (aa (pv 9) (aa (aw a8 (bp hu (pv 2) (pv 9) (fun _ _=>rfl)) (pv 10)) ad)))))) ad)))))))
  (aj (aL (aK (aa (ar (r:=aW K) ax (pv 6) ag (fun _ _=>rfl)) (aa (bO (r:=fu K) bZ rfl G.tuple (by decide +kernel) (aa (pv 8) ad)) ad)))))))))),?_⟩
 refine ⟨(by show 0<=sizeLine;decide),fun fl hfl=>?_⟩
 have s0:=af hfl (.lst [])
 have g0:(upd H fl (.lst [])) fl=some (.lst []):=ac
 generalize upd H fl (.lst [])=H0 at s0 g0 ⊢
 have lF:=hF.len
 have h10:=hok.few
 have hfree: ∀ {fr:Frm},fr∈bk.forms->fr.own∈bk.sorts/\fr.parts.length<=3/\ ∀ p∈fr.parts,p∈bk.sorts:=fun {fr} hf=>by
  obtain ⟨mode,_,hfo⟩:=hok.fo
  obtain ⟨h1,h2,h3,_⟩:=hfo fr hf
  exact ⟨h1,h3,h2⟩
 refine ⟨_,rfl,a,_,2,.ref fa,rfl,rfl,SqT.of (s0 _ _ ha),aF (j:=2) rfl,fa,rfl,⟨fv,SqT.of (s0 _ _ hfa)⟩,?_⟩
 refine cu (xs:=fv) (fun i σ H'=>i<=fv.length/\ ∃ o6 xs frs,σ=[some (.ref tp),some (.ref a),some (.ref d),some (.str sr.name),some (.int (r:Int)),some (.ref fl),o6,none,none,none,none]/\Same H H'/\H' fl=some (.lst xs)/\RepFs H' frs xs/\xs.length<=i/\
   (∀ fr∈frs,fr∈bk.forms/\Frm.own fr=sr/\ ∃ ms,Paired (Lst (aZ bk)) fr.parts ms/\1+bJ ms<=r)/\(∀ fr ms,fr∈bk.forms.take i->Frm.own fr=sr->Paired (Lst (aZ bk)) fr.parts ms->1+bJ ms<=r->frs≠[]))
  ⟨Nat.zero_le _,none,[],[],rfl,s0,g0,.nil,Nat.le_refl _,fun fr h=>(by cases h),fun fr ms h=>(by cases h)⟩ (fun i σ H' _ h=>by obtain ⟨_,_,_,_,_,sm,_⟩:=h;exact SqT.of (sm _ _ hfa)) ?_ ?_
 ·rintro i x σ H1 hx ⟨hi,o6,xs,frs,rfl,S1,gf1,hR1,hl1,hg1,hn1⟩
  have hil:i<fv.length:=(List.getElem?_eq_some_iff.mp hx).1
  obtain ⟨fr,hfr,b,pa,ra,rv,rfl,hb,hpa,hra,hRr⟩:=aC hF hx
  have hfm:=List.mem_of_getElem? hfr
  obtain ⟨hown,hp3,hpin⟩:=hfree hfm
  have etk:bk.forms.take (i+1)=bk.forms.take i++[fr]:=by rw [List.take_add_one,hfr];rfl
  have stay: ∀ {H2:Hp},Same H1 H2-> ¬ (fr.own=sr/\ ∃ ms,Paired (Lst (aZ bk)) fr.parts ms/\1+bJ ms<=r)->i+1<=fv.length/\ ∃ o6 xs' frs',[some (V.ref tp),some (.ref a),some (.ref d),some (.str sr.name),some (.int (r:Int)),some (.ref fl),some (.ref b),none,none,none,none]=[some (.ref tp),some (.ref a),some (.ref d),some (.str sr.name),some (.int (r:Int)),some (.ref fl),o6,none,none,none,none]/\Same H H2/\H2 fl=some (.lst xs')/\RepFs H2 frs' xs'/\xs'.length<=i+1/\
   (∀ fr∈frs',fr∈bk.forms/\Frm.own fr=sr/\ ∃ ms,Paired (Lst (aZ bk)) fr.parts ms/\1+bJ ms<=r)/\(∀ fr ms,fr∈bk.forms.take (i+1)->Frm.own fr=sr->Paired (Lst (aZ bk)) fr.parts ms->1+bJ ms<=r->frs'≠[]):=by
   intro H2 s2 hno
   refine ⟨hil,_,xs,frs,rfl,S1.trans s2,s2 _ _ gf1,hR1.mono (ay s2),by lia,hg1,fun fr' ms h1 h2 h3 h4=>?_⟩
   rw [etk,List.mem_append,List.mem_singleton]at h1
   rcases h1 with h1 | rfl
   ·exact hn1 fr' ms h1 h2 h3 h4
   ·exact absurd ⟨h2,ms,h3,h4⟩ hno
  refine ⟨_,rfl,b,_,1,_,rfl,rfl,SqT.of (S1 _ _ hb),aF (j:=1) rfl,_,rfl,rfl,_,rfl,?_⟩
  refine cs (fun c=>?_) (fun c=>?_)
  ·have c':fr.own.name=sr.name:=V.str.inj (of_decide_eq_true c)
   have eo:=je hok.so.2.2.1 hown hsr c'
   refine ⟨_,rfl,b,_,2,.ref pa,rfl,rfl,SqT.of (S1 _ _ hb),aF (j:=2) rfl,pa,rfl,⟨_,SqT.of (S1 _ _ hpa)⟩,?_⟩
   refine va (d:=d) (kvs:=aZ bk) (S1 _ _ gd0) (S1 _ _ hpa) (by lia) (fun x H' k g hk=>⟨_,rfl,_,rfl,d,_,rfl,DGet.k (k:=.inr x) g,hk⟩) fun p2 H2 hp2 s2 gp2=>?_
   refine ⟨p2,_,rfl,SqL.of gp2,_,rfl,?_⟩
   refine cs (fun c2=>?_) (fun c2=>?_)
   ·obtain ⟨ms,hms⟩:=jN hI _ c2
    have hsm:=dQ hI hok hms
    have lms:fr.parts.length=ms.length:=Paired.length hms
    have S2:Same H H2:=S1.trans s2
    refine ⟨_,rfl,b,_,2,.ref pa,rfl,rfl,SqT.of (S2 _ _ hb),aF (j:=2) rfl,pa,rfl,⟨_,SqT.of (S2 _ _ hpa)⟩,?_⟩
    refine lq (d:=d) hms (S2 _ _ gd0) (S2 _ _ hpa) (by lia) (fun x m H' k g e hk=>⟨_,rfl,_,rfl,d,_,rfl,fX g e,hk⟩) fun p3 H3 hp3' s3 gp3=>?_
    refine ⟨p3,_,rfl,SqL.of gp3,by rw [List.length_map];lia,?_,?_⟩
    ·intro n' hn'
     obtain ⟨m',hm',rfl⟩:=List.mem_map.mp hn'
     have:=hsm m' hm'
     lia
    rw [gY]
    refine ⟨_,_,rfl,rfl,_,rfl,_,_,rfl,rfl,_,rfl,?_⟩
    have S3:Same H H3:=S2.trans s3
    refine cs (fun c3=>?_) (fun c3=>?_)
    ·have c3':(1:Int) + (bJ ms:Int)<=(r:Int):=of_decide_eq_true c3
     have gf3:=s3 _ _ (s2 _ _ gf1)
     refine ⟨_,rfl,.inl ⟨rfl,_,SqL.of gf3⟩,_,rfl,fl,xs,.ref b,rfl,rfl,gf3,ao (by lia),?_⟩
     have tk:TK H3 (upd H3 fl (.lst (xs++[.ref b]))):=TK.lst gf3
     have tk1:TK H1 (upd H3 fl (.lst (xs++[.ref b]))):=((ay s2).trans (ay s3)).trans tk
     refine ⟨hil,_,xs++[.ref b],frs++[fr],rfl,?_,ac,Paired.snoc (hR1.mono tk1) ⟨b,pa,ra,rv,rfl,tk1 _ _ (S1 _ _ hb),tk1 _ _ (S1 _ _ hpa),tk1 _ _ (S1 _ _ hra),(hRr.mono (ay S1)).mono tk1⟩,by rw [List.length_append];show xs.length+1<=i+1;lia,?_,?_⟩
     ·intro y oo h
      rw [ah (ai h hfl)]
      exact S3 _ _ h
     ·intro fr' hf'
      rw [List.mem_append,List.mem_singleton]at hf'
      rcases hf' with hf' | rfl
      ·exact hg1 fr' hf'
      ·exact ⟨hfm,eo,ms,hms,by lia⟩
     ·intro _ _ _ _ _ _ z
      exact absurd (List.append_eq_nil_iff.mp z).2 (by simp)
    ·refine stay (s2.trans s3) ?_
     rintro ⟨_,ms',h1,h2⟩
     have:ms'=ms:=by
      have e1:=fA h1
      have e2:=fA hms
      rw [e1]at e2
      exact e2
     subst this
     exact c3 (decide_eq_true (by show (1:Int) + (bJ ms':Int)<=(r:Int);lia))
   ·refine stay s2 ?_
    rintro ⟨_,ms',h1,_⟩
    refine c2 ?_
    rw [List.all_eq_true]
    intro y hy
    obtain ⟨p,hp,rfl⟩:=List.mem_map.mp hy
    obtain ⟨i',hi'⟩:=List.getElem?_of_mem hp
    obtain ⟨m',_,hm'⟩:=a7 h1 hi'
    show eg (aZ bk) p=true
    unfold eg
    rw [show aO (aZ bk) (.inr p.name)=some (.int (m':Int))from hm']
    rfl
  ·refine stay (fun _ _ h=>h) ?_
   rintro ⟨e,_⟩
   exact c (decide_eq_true (by rw [e]))
 ·rintro σ H1 ⟨_,o6,xs,frs,rfl,S1,gf1,hR1,hl1,hg1,hn1⟩
  rw [<- lF,List.take_length]at hn1
  obtain ⟨fr0,q1,q2,ms0,q3,q4⟩:=hI.cl _ _ hsr hm
  have hne:frs≠[]:=hn1 fr0 ms0 q1 q2 q3 (by lia)
  have lxs:=hR1.len
  have lpos:0<frs.length:=List.length_pos_iff.mpr hne
  have tt1:Tp H1 tp:=tt0.same S1
  refine ⟨_,rfl,_,rfl,_,rfl,fl,xs,rfl,.inl (SqL.of gf1),tp,_,rfl,tt1,by lia,by lia,fun dd t1 hd0 hd1=>?_⟩
  obtain ⟨x,ex,ex2⟩:=fF hd0 hd1
  obtain ⟨fr,hfr,hRf⟩:=aC hR1 ex2
  obtain ⟨hfm,eo,ms,hms,hmsr⟩:=hg1 fr (List.mem_of_getElem? hfr)
  obtain ⟨hown,hp3,hpin⟩:=hfree hfm
  have hsm:=dQ hI hok hms
  have lms:fr.parts.length=ms.length:=Paired.length hms
  have nfl:fl≠tp:=Ne.symm (dC tt0 hfl).symm
  have k2:Kp tp H (upd H1 tp (.lst [.int t1])):=(Kp.refl.same S1).trans Kp.tape
  have tt2:Tp (upd H1 tp (.lst [.int t1])) tp:=⟨t1,ac⟩
  have gf2:(upd H1 tp (.lst [.int t1])) fl=some (.lst xs):=by rw [ah nfl];exact gf1
  have hRf2:RepF (upd H1 tp (.lst [.int t1])) fr x:=hRf.mono (Kp.tk Kp.tape tt1)
  generalize upd H1 tp (.lst [.int t1])=H2 at k2 tt2 gf2 hRf2 ⊢
  refine ⟨fl,xs,dd,x,rfl,rfl,SqL.of gf2,ex,?_⟩
  obtain ⟨b,pa,ra,rv,rfl,hb,hpa,hra,hRr⟩:=hRf2
  have ndt:d≠tp:=fun e=>by obtain ⟨t,ht⟩:=tt0;rw [e,ht]at gd0;cases gd0
  have gd2:H2 d=some (.dK (aZ bk)):=k2 _ _ gd0 ndt
  refine ⟨_,rfl,_,_,rfl,rfl,_,rfl,b,_,2,.ref pa,rfl,rfl,SqT.of hb,aF (j:=2) rfl,pa,rfl,⟨_,SqT.of hpa⟩,?_⟩
  refine lq (d:=d) hms gd2 hpa (by lia) (fun x m H' k g e hk=>⟨_,rfl,_,rfl,d,_,rfl,fX g e,hk⟩) fun p3 H3 hp3' s3 gp3=>?_
  refine ⟨p3,_,rfl,SqL.of gp3,by rw [List.length_map];lia,?_,?_⟩
  ·intro n' hn'
   obtain ⟨m',hm',rfl⟩:=List.mem_map.mp hn'
   have:=hsm m' hm'
   lia
  rw [gY]
  refine ⟨_,_,rfl,rfl,?_⟩
  rw [show (V.int ((r:Int) -1- (bJ ms:Int)))=V.int ((r-1-bJ ms:Nat):Int)from congrArg V.int (show (r:Int) -1- (bJ ms:Int)=((r-1-bJ ms:Nat):Int) by lia)]
  have k3:Kp tp H H3:=k2.same s3
  have tt3:=tt2.same s3
  refine ⟨(by show 0<=sizeLine;decide),fun pl hpl=>?_⟩
  have s4:=af hpl (.lst [])
  have g4:(upd H3 pl (.lst [])) pl=some (.lst []):=ac
  have npl:pl≠tp:=dC tt3 hpl
  generalize upd H3 pl (.lst [])=H4 at s4 g4 ⊢
  have k4:Kp tp H H4:=k3.same s4
  have tt4:=tt3.same s4
  have hb4:=s4 _ _ (s3 _ _ hb)
  have hpa4:=s4 _ _ (s3 _ _ hpa)
  have hpl0:H pl=none:=by
   cases e:H pl with
   | none=>rfl
   | some o=>exact absurd (k3 _ _ e npl) (by rw [hpl];intro z;cases z)
  have nb:b≠tp:=fun e=>by obtain ⟨t,ht⟩:=tt4;rw [e,ht]at hb4;cases hb4
  have npa:pa≠tp:=fun e=>by obtain ⟨t,ht⟩:=tt4;rw [e,ht]at hpa4;cases hpa4
  have nbl:b≠pl:=ai (s3 _ _ hb) hpl
  have npal:pa≠pl:=ai (s3 _ _ hpa) hpl
  refine ⟨_,rfl,b,_,2,.ref pa,rfl,rfl,SqT.of hb4,aF (j:=2) rfl,pa,rfl,⟨_,SqT.of hpa4⟩,?_⟩
  refine cu (xs:=bH fr.parts) (fun i σ H'=>i<=(bH fr.parts).length/\ ∃ o9 o10 sp pvs ts,σ=[some (.ref tp),some (.ref a),some (.ref d),some (.str sr.name),some (.int (r:Int)),some (.ref fl),some (.ref b),some (.int ((sp:Nat):Int)),some (.ref pl),o9,o10]/\Kp tp H H'/\Tp H' tp/\H' b=some (.tup [.str fr.name,.str fr.own.name,.ref pa,.ref ra])/\H' pa=some (.tup (bH fr.parts))/\H' pl=some (.lst pvs)/\
    Paired (RepT H' n) ts pvs/\Paired (TreeOk bk n) ts (fr.parts.take i)/\szL ts+bJ (ms.drop i) +1+sp<=r)
   ⟨Nat.zero_le _,none,none,r-1-bJ ms,[],[],rfl,k4,tt4,hb4,hpa4,g4,.nil,.nil,by show 0+bJ ms+1+_<=r;lia⟩ (fun i σ H' _ h=>by obtain ⟨_,_,_,_,_,_,_,_,_,_,h,_⟩:=h;exact SqT.of h) ?_ ?_
  ·rintro i x σ H5 hx ⟨hi,o9,o10,sp,pvs,ts,rfl,k5,tt5,hb5,hpa5,gp5,hT5,hO5,hs5⟩
   have hil:i< (bH fr.parts).length:=(List.getElem?_eq_some_iff.mp hx).1
   rw [cP]at hil
   obtain ⟨pq,hpq⟩: ∃ pq,fr.parts[i]? =some pq:=⟨fr.parts[i],List.getElem?_eq_getElem hil⟩
   obtain ⟨mi,hmi,hLi⟩:=a7 hms hpq
   have hdrop:=kz ms i mi hmi
   have ex:x=.str pq.name:=by
    unfold bH at hx
    rw [List.getElem?_map,hpq]at hx
    exact (Option.some.inj hx).symm
   subst ex
   refine ⟨_,rfl,_,rfl,_,_,rfl,rfl,tp,_,rfl,tt5,by show (0:Int) < (sp:Int) +1;lia,by show (sp:Int) +1<_;lia,fun mo t2 hm0 hm1=>?_⟩
   obtain ⟨mo,rfl⟩: ∃ k:Nat,mo=(k:Int):=⟨mo.toNat,by lia⟩
   have hm1':mo<=sp:=by
    have:(mo:Int) < (sp:Int) +1:=hm1
    lia
   have k6:Kp tp H5 (upd H5 tp (.lst [.int t2])):=Kp.tape
   have tt6:Tp (upd H5 tp (.lst [.int t2])) tp:=⟨t2,ac⟩
   generalize upd H5 tp (.lst [.int t2])=H6 at k6 tt6 ⊢
   refine ⟨_,rfl,_,rfl,_,_,rfl,rfl,?_⟩
   rw [show (V.int ((sp:Int) - (mo:Int)))=V.int ((sp-mo:Nat):Int)from congrArg V.int (show (sp:Int) - (mo:Int)=((sp-mo:Nat):Int) by lia)]
   have k06:Kp tp H H6:=k5.trans k6
   have gp6:=k6 _ _ gp5 npl
   have gd6:=k06 _ _ gd0 ndt
   refine ⟨_,rfl,.inl ⟨rfl,_,SqL.of gp6⟩,?_⟩
   refine ⟨_,rfl,_,rfl,_,rfl,_,rfl,_,rfl,_,rfl,d,_,rfl,fX gd6 hLi,_,rfl,_,_,rfl,rfl,?_⟩
   refine ⟨tp,_,d,bk,pq,mi+mo,mi,rfl,hB.mono (k06.tk tt0),hok,hI,gd6,tt6,hpin pq (List.mem_of_getElem? hpq),hLi,by lia,by lia,by lia,fun v t H7 rT tO tsz k7 tt7=>?_⟩
   have gp7:=k7 _ _ gp6 npl
   have lts:=Paired.length hT5
   have lto:=Paired.length hO5
   rw [List.length_take]at lto
   refine ⟨pl,pvs,v,rfl,rfl,gp7,ao (by lia),?_⟩
   have tk:TK H7 (upd H7 pl (.lst (pvs++[v]))):=TK.lst gp7
   have tk5:TK H5 H7:=(k6.trans k7).tk tt5
   refine ⟨by rw [cP];exact hil,_,_,sp-mo,pvs++[v],ts++[t],rfl,?_,?_,?_,?_,ac,?_,?_,?_⟩
   ·intro y oo h hny
    rw [ah (ai h hpl0)]
    exact (k06.trans k7) _ _ h hny
   ·obtain ⟨t',ht'⟩:=tt7
    exact ⟨t',by rw [ah (Ne.symm npl)];exact ht'⟩
   ·exact tk _ _ (tk5 _ _ hb5)
   ·exact tk _ _ (tk5 _ _ hpa5)
   ·exact Paired.snoc (Paired.mapP hT5 fun _ _ r=>r.mono (tk5.trans tk)) (rT.mono tk)
   ·rw [List.take_add_one,hpq]
    exact Paired.snoc hO5 tO
   ·rw [jr]
    show szL ts+ (t.sz+0) +bJ (ms.drop (i+1)) +1+ (sp-mo)<=r
    lia
  ·rintro σ H5 ⟨_,o9,o10,sp,pvs,ts,rfl,k5,tt5,hb5,hpa5,gp5,hT5,hO5,hs5⟩
   rw [cP,List.take_length]at hO5
   refine ⟨_,rfl,b,_,0,_,rfl,rfl,SqT.of hb5,cq,_,rfl,pl,pvs,rfl,.inl ⟨SqL.of gp5,fun pt hpt=>?_⟩⟩
   have s6:=af hpt (.tup pvs)
   have g6:(upd H5 pt (.tup pvs)) pt=some (.tup pvs):=ac
   generalize upd H5 pt (.tup pvs)=H6 at s6 g6 ⊢
   refine ⟨(by show 2<=sizeLine;decide),fun pu hpu=>?_⟩
   have s7:=af hpu (.tup [.str fr.name,.ref pt])
   refine q _ (.mk fr.name ts) _ ⟨pu,pt,pvs,rfl,ac,s7 _ _ g6,Paired.mapP hT5 fun _ _ r=>r.mono ((ay s6).trans (ay s7))⟩ ⟨⟨m,hm⟩,fr,hfm,rfl,eo,hO5⟩ ?_ ((k5.same s6).same s7) ((tt5.same s6).same s7)
   rw [nJ]
   show szL ts+1<=r
   lia
theorem uh:aE P w K mg base CX0 2 f fd ["tape","book","least","sort","room"] (gK 0):=by
 have no: ∀ vs H Q E,¬ gK 0 vs H Q E:=fun vs H Q E h=>by
  obtain ⟨tp,bv,d,bk,sr,r,m,rfl,hB,hok,hI,gd0,tt0,hsr,hm,hmr,hrn,_⟩:=h
  have:=(hI.small hok hm).1
  lia
 exact ⟨fun vs H Q E h=>absurd h (no vs H Q E),fun A outer s H args us vs Q E _ _ _ _ h=>absurd h (no vs H Q E)⟩
theorem qw (F:Fun K "_law_tree" "_law_tree" jz f fd) (G:Gb mg) (hsum:mg "sum"=none)
  (GD:aE P w K mg base CX0 1 g gd ["tape","many"] cf) (bD:Binds K gd ["tape","many"] []) (kD:PySem.W.keepIn K (.ref g)=true) (mD:mg "_law_digit"=some (.ref g))
  (bT:Binds K fd ["tape","book","least","sort","room"] []) (mT:mg "_law_tree"=some (.ref f)): ∀ n:Nat,aE P w K mg base CX0 (n+2) f fd ["tape","book","least","sort","room"] (gK n)
 | 0=>uh
 | n+1=>ug F G hsum GD bD kD mD (qw F G hsum GD bD kD mD bT mT n) bT mT
theorem oI {α:Type} {J:It} {as:List α} {xs:List V} {A:α->V->Prop} {fr:List Nat} {tc:TT} {te:TE} {σ:St} {H1:Hp} {Q:VK} (hn:xs.length<=1000) (hP:Paired A as xs)
  (hgo: ∀ i H,Same H1 H->i<xs.length->J.go i H) (hst: ∀ H,Same H1 H->J.stop xs.length H) (hy: ∀ i H v H',i<xs.length->Same H1 H->J.yld i H v H'->H'=H/\xs[i]? =some v)
  (c:α->Bool) (R:Hp->α->V->Prop) (mono: ∀ {H H':Hp} {a:α} {v:V},TK H H'->R H a v->R H' a v)
  (htc: ∀ a v H (k:Bool->Hp->Prop),a∈as->A a v->Same H1 H->k (c a) H->tc (some v::cy fr σ) H k)
  (hte: ∀ a v H (k:VK),a∈as->A a v->c a=true->Same H1 H->(∀ u H',Same H H'->R H' a u->k u H')->te (some v::cy fr σ) H k)
  (hd: ∀ p zs H',H1 p=none->Same H1 H'->H' p=some (.lst zs)->Paired (R H') (as.filter c) zs->Q (.ref p) H'):lG fr tc te σ J H1 Q:=by
 intro p hp
 refine ⟨fun i m zs H=>i<=xs.length/\m=xs.length-i/\Same H1 H/\H p=some (.lst zs)/\zs.length<=i/\Paired (R H) ((as.take i).filter c) zs,⟨_,Nat.zero_le _,rfl,af hp _,ac,Nat.le_refl _,.nil⟩,?_⟩
 rintro i m zs H ⟨hi,hm,sm,gp,hz,hT⟩
 refine ⟨gp,?_⟩
 by_cases e:i=xs.length
 ·subst e
  rw [<- Paired.length hP,List.take_length]at hT
  exact .inl ⟨hst H sm,hd p zs H hp sm gp hT⟩
 ·have hlt:i<xs.length:=by lia
  refine .inr ⟨hgo i H sm hlt,ao (by lia),fun v H' hv=>?_⟩
  obtain ⟨rfl,hv2⟩:=hy i H v H' hlt sm hv
  obtain ⟨a,ha,hA⟩:=aC hP hv2
  have etk:(as.take (i+1)).filter c=(as.take i).filter c++(if c a then [a]else []):=take_succ_filter c as i a ha
  refine htc a v _ _ (List.mem_of_getElem? ha) hA sm ?_
  by_cases hc:c a=true
  ·rw [if_pos hc]at etk
   show if c a=true then _ else _
   rw [if_pos hc]
   refine hte a v _ _ (List.mem_of_getElem? ha) hA hc sm fun u H2 s2 r=>?_
   have gp2:=s2 _ _ gp
   have tk:TK H2 (upd H2 p (.lst (zs++[u]))):=TK.lst gp2
   refine ⟨gp2,xs.length- (i+1),by lia,by lia,rfl,?_,ac,by rw [List.length_append];show zs.length+1<=i+1;lia,?_⟩
   ·intro b o hb
    rw [ah (ai hb hp)]
    exact s2 _ _ (sm _ _ hb)
   ·rw [etk]
    exact Paired.snoc (Paired.mapP hT fun _ _ r=>mono ((ay s2).trans tk) r) (mono tk r)
  ·rw [if_neg hc,List.append_nil]at etk
   show if c a=true then _ else _
   rw [if_neg hc]
   exact ⟨xs.length- (i+1),by lia,by lia,rfl,sm,gp,by lia,by rw [etk];exact hT⟩
theorem j4 {α:Type} {J:It} {as:List α} {xs:List V} {A:α->V->Prop} {fr:List Nat} {tc:TT} {te:TE} {σ:St} {H1:Hp} {Q:VK} (hn:xs.length<=1000) (hP:Paired A as xs)
  (hgo: ∀ i H,Same H1 H->i<xs.length->J.go i H) (hst: ∀ H,Same H1 H->J.stop xs.length H) (hy: ∀ i H v H',Same H1 H->J.yld i H v H'->H'=H/\xs[i]? =some v)
  (c:α->Bool) (R:Hp->α->V->Prop) (mono: ∀ {H H':Hp} {a:α} {v:V},TK H H'->R H a v->R H' a v)
  (htc: ∀ a v H (k:Bool->Hp->Prop),a∈as->A a v->Same H1 H->k (c a) H->tc (some v::cy fr σ) H k)
  (hte: ∀ a v H (k:VK),a∈as->A a v->c a=true->Same H1 H->(∀ u H',Same H H'->R H' a u->k u H')->te (some v::cy fr σ) H k)
  (hd: ∀ p zs H',H1 p=none->Same H1 H'->H' p=some (.lst zs)->Paired (R H') (as.filter c) zs->Q (.ref p) H'):lG fr tc te σ J H1 Q:=oI hn hP hgo hst (fun i H v H' _ s h=>hy i H v H' s h) c R mono htc hte hd
theorem iR {α:Type} {h:α->V}: ∀ {l:List α} {r:List V},Paired (fun (a:α) (v:V)=>v=h a) l r->r=l.map h
 | _,_,.nil=>rfl
 | _,_,.cons a t=>by rw [a,iR t];rfl
mutual
noncomputable def Bt.subs:Bt->List Bt
 | .mk x l=>.mk x l::cJ l
noncomputable def cJ:List Bt->List Bt
 | []=>[]
 | t::r=>t.subs++cJ r
end
theorem qk (t:Bt):t.subs=t::cJ t.ps:=by
 cases t with
 | mk x l=>rw [Bt.subs];rfl
theorem eP:cJ []=[]:=by rw [cJ]
theorem dW (t:Bt) (r:List Bt):cJ (t::r)=t.subs++cJ r:=by rw [cJ]
theorem gZ: ∀ (a b:List Bt),cJ (a++b)=cJ a++cJ b
 | [],b=>by rw [eP];rfl
 | t::r,b=>by rw [List.cons_append,dW,dW,gZ r b,List.append_assoc]
theorem kH (t:Bt) (r:List Bt):cJ (t::r)=t::cJ (t.ps++r):=by
 rw [dW,qk,gZ];rfl
theorem kE (t:Bt):cJ [t]=t.subs:=by rw [dW,eP,List.append_nil]
noncomputable def rq (H:Hp) (v:V):List V:=match v with
 | .ref a=>(match H a with
  | some (.tup [_,.ref b])=>(match H b with
   | some (.tup vs)=>vs
   | _=>[])
  | _=>[])
 | _=>[]
theorem RepT.prt {H:Hp} {n:Nat} {t:Bt} {v:V} (h:RepT H n t v): ∃ a b,v=.ref a/\H a=some (.tup [.str t.nm,.ref b])/\H b=some (.tup (rq H v))/\Paired (RepT H n) t.ps (rq H v):=by
 cases n with
 | zero=>exact h.elim
 | succ n=>
  obtain ⟨a,b,vs,rfl,h1,h2,h3⟩:=h
  have e:rq H (.ref a)=vs:=by simp only [rq,h1,h2]
  rw [e]
  exact ⟨a,b,rfl,h1,h2,Paired.mapP h3 fun _ _ r=>RepT.up r⟩
theorem iS {α β:Type} {F:α->β->Prop}: ∀ {l:List α} {r:List β},l.length=r.length->(∀ (i:Nat) a b,l[i]? =some a->r[i]? =some b->F a b)->Paired F l r
 | [],[],_,_=>.nil
 | [],_::_,h,_=>by cases h
 | _::_,[],h,_=>by cases h
 | a::l,b::r,h,k=>.cons (k 0 a b rfl rfl) (iS (by rw [List.length_cons,List.length_cons]at h;lia) fun i x y e1 e2=>k (i+1) x y e1 e2)
theorem Paired.appendP {α β:Type} {F:α->β->Prop}: ∀ {a c:List α} {b d:List β},Paired F a b->Paired F c d->Paired F (a++c) (b++d)
 | _,_,_,_,.nil,h=>h
 | _,_,_,_,.cons r t,h=>.cons r (Paired.appendP t h)
theorem sH {l:Addr} {xs:List V} {fr:List Nat} {te:TE} {σ:St} {H1:Hp} {Q:VK} {α:Type} (hn:xs.length<=1000) (hl:H1 l=some (.tup xs))
  (R:Hp->α->V->Prop) (mono: ∀ {H H':Hp} {a:α} {v:V},TK H H'->R H a v->R H' a v) (g:Nat->V->α)
  (hte: ∀ i v H (k:VK),xs[i]? =some v->Same H1 H->(∀ u H',Same H H'->R H' (g i v) u->k u H')->te (some (.int ((i:Nat):Int))::some v::cy fr σ) H k)
  (hd: ∀ p zs H',H1 p=none->Same H1 H'->H' p=some (.lst zs)->zs.length=xs.length->(∀ (i:Nat) v z,xs[i]? =some v->zs[i]? =some z->R H' (g i v) z)->Q (.ref p) H'):qj fr te σ (Ite l) H1 Q:=by
 intro p hp
 refine ⟨fun i m zs H=>i<=xs.length/\m=xs.length-i/\Same H1 H/\H p=some (.lst zs)/\zs.length=i/\(∀ (j:Nat) v z,xs[j]? =some v->zs[j]? =some z->R H (g j v) z),⟨_,Nat.zero_le _,rfl,af hp _,ac,rfl,fun j v z _ h=>by cases j <;> cases h⟩,?_⟩
 rintro i m zs H ⟨hi,hm,sm,gp,hz,hT⟩
 refine ⟨gp,?_⟩
 by_cases e:i=xs.length
 ·subst e
  exact .inl ⟨⟨xs,sm _ _ hl,rfl⟩,hd p zs H hp sm gp hz hT⟩
 ·have hlt:i<xs.length:=by lia
  refine .inr ⟨⟨xs,xs[i],sm _ _ hl,List.getElem?_eq_getElem hlt⟩,ao (by lia),fun v H' hv=>?_⟩
  obtain ⟨T,x,hT0,rfl,rfl,hx⟩:=hv
  have hx:=hx xs (sm _ _ hl)
  have sT:=af hT0 (.tup [.int ((i:Nat):Int),x])
  have gT:(upd H T (.tup [.int ((i:Nat):Int),x])) T=some (.tup [.int ((i:Nat):Int),x]):=ac
  generalize upd H T (.tup [.int ((i:Nat):Int),x])=H2 at sT gT ⊢
  refine ⟨T,_,_,rfl,gT,?_⟩
  refine hte i x H2 _ hx (sm.trans sT) fun u H3 s3 r=>?_
  have gp3:=s3 _ _ (sT _ _ gp)
  have tk:TK H3 (upd H3 p (.lst (zs++[u]))):=TK.lst gp3
  refine ⟨gp3,xs.length- (i+1),by lia,by lia,rfl,?_,ac,by rw [List.length_append,hz];rfl,fun j v z e1 e2=>?_⟩
  ·intro b o hb
   rw [ah (ai hb hp)]
   exact s3 _ _ (sT _ _ (sm _ _ hb))
  ·by_cases c:j<zs.length
   ·rw [List.getElem?_append_left c]at e2
    exact mono (((ay sT).trans (ay s3)).trans tk) (hT j v z e1 e2)
   ·rw [List.getElem?_append_right (by lia)]at e2
    have:j-zs.length=0:=by
     have:=(List.getElem?_eq_some_iff.mp e2).1
     have l1:([u]:List V).length=1:=rfl
     lia
    rw [this]at e2
    cases e2
    have:j=i:=by lia
    subst this
    rw [hx]at e1
    cases e1
    exact mono tk r
noncomputable def av (pl:List Nat):List Key:=pl.map fun (k:Nat)=>(Sum.inl ((k:Nat):Int):Key)
theorem oD (pl:List Nat):(av pl).map kV=plV pl:=by
 unfold av plV
 rw [List.map_map]
 rfl
theorem eX: ∀ {a b:List Nat},av a=av b->a=b
 | [],[],_=>rfl
 | [],_::_,h=>by cases h
 | _::_,[],h=>by cases h
 | x::a,y::b,h=>by
  have h:(Sum.inl ((x:Nat):Int):Key)::av a=(Sum.inl ((y:Nat):Int):Key)::av b:=h
  rw [List.cons.injEq]at h
  have e:((x:Nat):Int)=((y:Nat):Int):=Sum.inl.inj h.1
  rw [eX h.2,show x=y by lia]
noncomputable def ck:List (List Nat×Bt)->List (List Nat)
 | []=>[]
 | (pl,u)::r=>u.places.map (fun p=>pl++p)++ck r
theorem ft: ∀ (a b:List (List Nat×Bt)),ck (a++b)=ck a++ck b
 | [],b=>rfl
 | (pl,u)::r,b=>by
  show u.places.map _++ck (r++b)=(u.places.map _++ck r)++ck b
  rw [ft r b,List.append_assoc]
noncomputable def jb (pl:List Nat):Nat->List Bt->List (List Nat×Bt)
 | _,[]=>[]
 | k,x::r=>(pl++[k],x)::jb pl (k+1) r
theorem jT (pl:List Nat): ∀ (l:List Bt) (k:Nat),(jb pl k l).length=l.length
 | [],_=>rfl
 | _::r,k=>by show (jb pl (k+1) r).length+1=r.length+1;rw [jT pl r (k+1)]
theorem jS (pl:List Nat): ∀ (l:List Bt) (k:Nat),(jb pl k l).map (·.2)=l
 | [],_=>rfl
 | t::r,k=>by
  show t::(jb pl (k+1) r).map (·.2)=t::r
  rw [jS pl r (k+1)]
theorem jU (pl:List Nat): ∀ (l:List Bt) (k i:Nat) (q:List Nat×Bt),(jb pl k l)[i]? =some q-> ∃ x,l[i]? =some x/\q=(pl++[k+i],x)
 | [],_,i,q,h=>by cases i <;> cases h
 | x::r,k,0,q,h=>by cases h;exact ⟨x,rfl,rfl⟩
 | x::r,k,i+1,q,h=>by
  obtain ⟨y,h1,h2⟩:=jU pl r (k+1) i q h
  exact ⟨y,h1,by rw [h2,show k+1+i=k+ (i+1) by lia]⟩
theorem gM (pl:List Nat): ∀ (l:List Bt) (k:Nat),ck (jb pl k l)=(bo k l).map (fun p=>pl++p)
 | [],k=>by rw [dE];rfl
 | x::r,k=>by
  show x.places.map (fun p=>(pl++[k])++p)++ck (jb pl (k+1) r)=_
  rw [gM pl r (k+1),cr,List.map_append,List.map_map]
  congr 1
  refine List.map_congr_left fun p _=>?_
  show (pl++[k])++p=pl++(k::p)
  rw [List.append_assoc];rfl
theorem iO: ∀ (l:List (List Nat×Bt)),l.length<=(ck l).length
 | []=>Nat.le_refl _
 | (pl,u)::r=>by
  show r.length+1<=(u.places.map _++ck r).length
  rw [List.length_append,List.length_map]
  have:=iO r
  have h:=jq u
  unfold Bt.sz at h
  lia
theorem ie {l:List Bt} {k:Nat} {p:List Nat} (h:p∈bo k l): ∃ j p',p=(k+j)::p':=by
 obtain ⟨j,u,p',_,e,_⟩:=fS h
 exact ⟨j,p',e⟩
theorem cK {α β:Type} {g:α->β} (hg: ∀ a b,g a=g b->a=b): ∀ {l:List α},l.Nodup->(l.map g).Nodup
 | [],_=>List.nodup_nil
 | a::l,h=>by
  rw [List.map_cons,List.nodup_cons]
  rw [List.nodup_cons]at h
  refine ⟨fun z=>?_,cK hg h.2⟩
  obtain ⟨b,hb,e⟩:=List.mem_map.mp z
  exact h.1 (hg _ _ e▸hb)
theorem gG: ∀ (l:List Bt),(∀ x∈l,x.places.Nodup)-> ∀ k,(bo k l).Nodup
 | [],_,k=>by rw [dE];exact List.nodup_nil
 | x::r,h,k=>by
  rw [cr,List.nodup_append]
  refine ⟨cK (fun a b e=>(List.cons.inj e).2) (h x List.mem_cons_self),gG r (fun y hy=>h y (List.mem_cons_of_mem _ hy)) (k+1),fun a ha b hb e=>?_⟩
  obtain ⟨p,_,rfl⟩:=List.mem_map.mp ha
  obtain ⟨j,p',rfl⟩:=ie hb
  have:=(List.cons.inj e).1
  lia
theorem dO: ∀ (n:Nat) (t:Bt),t.sz<=n->t.places.Nodup
 | 0,t,h=>by have:=jq t;lia
 | n+1,t,h=>by
  have e:=nJ t
  rw [cS,List.nodup_cons]
  refine ⟨fun z=>?_,gG _ (fun x hx=>dO n x ?_) 0⟩
  ·obtain ⟨j,p',q⟩:=ie z
   cases q
  ·have:=jd hx
   lia
noncomputable def RepP (H:Hp) (n:Nat) (q:List Nat×Bt) (z:V):Prop:= ∃ c a u,z=.ref c/\H c=some (.tup [.ref a,u])/\H a=some (.tup (plV q.1))/\RepT H n q.2 u
theorem RepP.mono {H H':Hp} {n:Nat} {q:List Nat×Bt} {z:V} (t:TK H H') (h:RepP H n q z):RepP H' n q z:=by
 obtain ⟨c,a,u,e,h1,h2,h3⟩:=h
 exact ⟨c,a,u,e,t _ _ h1,t _ _ h2,h3.mono t⟩
inductive iL  (vs:List V) (H:Hp) (Q:VK) (E_:XK):Prop
 | mk: ∀ n t tv,(vs=[tv])->(RepT H n t tv)->(t.sz<=1000)->(∀ d kvs H',H d=none->Same H H'->H' d=some (.dT kvs)->kvs.map (·.1)=t.places.map av->Paired (RepT H' n) t.subs (kvs.map (·.2))->Q (.ref d) H')->iL vs H Q E_
noncomputable abbrev oO:List Str:=["tree","boughs","waiting","pair","below"]
theorem scByPlace:aG oO ["tree"] (ak ib):=fsc
theorem pP (F:Fun K "boughs_by_place" "boughs_by_place" ib f fd) (hen:mg "enumerate"=none):aE P w K mg base CX0 1 f fd ["tree"] iL:=by
 refine F.ok scByPlace (fun vs H Q E h=>?_) (fun cdv A outer s H vs Q E hr h=>?_)
 ·obtain ⟨n,t,tv,rfl,_⟩:=h
  rfl
 obtain ⟨n,t,tv,rfl,hT,hsz,q⟩:=h
 have hu:=cZ hr
 refine ⟨_,ae (am (i:=1) scByPlace.nd rfl (Or.inl rfl) ig)
  (ae (am (i:=2) scByPlace.nd rfl (Or.inl rfl) (aN (aa (aK (aa (aK ad) (aa (pv 0) ad))) ad)))
  (ae (ic PassesOwn.never (nX (pv 2) (fun _=>rfl))
   (ae (am (i:=3) scByPlace.nd rfl (Or.inr rfl) (mO PySem.F.plainAttrs_list PySem.F.slot_list_pop PySem.F.type_list_pop uE (pv 2)))
   (ae (cA hu (pv 1) (ar (r:=aW K) ax (pv 3) ag (fun _ _=>rfl)) (ar (r:=aW K) ax (pv 3) ag (fun _ _=>rfl)) rfl)
   (ae (tU (i:=4) (sc0:=ak ib) (N0:=oO) (ys:=["pair"]) (fr:=[3]) rfl scByPlace.nd rfl (Or.inl rfl) (vF rfl hen (aa (ar (r:=aW K) ax (ar (r:=aW K) ax (pv 3) ag (fun _ _=>rfl)) ag (fun _ _=>rfl)) ad)) rfl rfl
    ⟨rfl,by decide +kernel,by decide +kernel,by decide +kernel,by decide +kernel,by decide +kernel,by decide +kernel,rfl,by decide +kernel⟩
    (fun C s H ex=>aK (aa (aw (r:=jJ K) cv (ar (r:=aW K) ax (pv 2) ag (fun _ _=>rfl)) (aK (aa (pv 0) ad))) (aa (pv 1) ad))))
   (aj (bx (dg PySem.F.plainAttrs_list PySem.F.slot_list_extend PySem.F.type_list_extend gu (pv 2) (aa (qv (pv 4) (gH eK ag)) ad))))))))
  (aj (aL (pv 1))))),?_⟩
 refine fun d hd=>?_
 have s0:=af hd (.dT [])
 have g0:(upd H d (.dT [])) d=some (.dT []):=ac
 generalize upd H d (.dT [])=H0 at s0 g0 ⊢
 refine ⟨(by show 0<=sizeLine;decide),fun e0 he0=>?_⟩
 have s1:=af he0 (.tup [])
 have g1:(upd H0 e0 (.tup [])) e0=some (.tup []):=ac
 generalize upd H0 e0 (.tup [])=H1 at s1 g1 ⊢
 refine ⟨_,rfl,(by show 2<=sizeLine;decide),fun c0 hc0=>?_⟩
 have s2:=af hc0 (.tup [.ref e0,tv])
 have g2:(upd H1 c0 (.tup [.ref e0,tv])) c0=some (.tup [.ref e0,tv]):=ac
 generalize upd H1 c0 (.tup [.ref e0,tv])=H2 at s2 g2 ⊢
 refine ⟨(by show 1<=sizeLine;decide),fun l hl=>?_⟩
 have s3:=af hl (.lst [.ref c0])
 have g3:(upd H2 l (.lst [.ref c0])) l=some (.lst [.ref c0]):=ac
 generalize upd H2 l (.lst [.ref c0])=H3 at s3 g3 ⊢
 have S3:Same H H3:=((s0.trans s1).trans s2).trans s3
 have hl0:H l=none:=((s0.trans s1).trans s2).free hl
 have hld:l≠d:=fun z=>by rw [z,s2 _ _ (s1 _ _ g0)]at hl;cases hl
 refine ⟨fun m σ H'=> ∃ (Wt:List (List Nat×Bt)) (ws:List V) (kvs:List (List Key×V)) (done:List (List Nat)) (dn:List Bt) (o3 o4:Option V),σ=[some tv,some (.ref d),some (.ref l),o3,o4]/\Same H H'/\H' d=some (.dT kvs)/\H' l=some (.lst ws.reverse)/\
   Paired (RepP H' n) Wt ws/\kvs.map (·.1)=done.map av/\done++ck Wt=t.places/\Paired (RepT H' n) dn (kvs.map (·.2))/\dn++cJ (Wt.map (·.2))=t.subs/\m=(ck Wt).length,
  ⟨_,[([],t)],[.ref c0],[],[],[],none,none,rfl,S3,s3 _ _ (s2 _ _ (s1 _ _ g0)),g3,.cons ⟨c0,e0,tv,rfl,s3 _ _ g2,s3 _ _ (s2 _ _ g1),hT.mono (ay S3)⟩ .nil,rfl,?_,.nil,kE t,rfl⟩,?_⟩
 ·show []++(t.places.map (fun p=>[]++p)++[])=t.places
  rw [List.append_nil,List.nil_append]
  exact List.map_id _
 clear g3 S3 s3 g2 s2 g1 s1 g0 s0 hl hc0 he0
 rintro m σ H4 ⟨Wt,ws,kvs,done,dn,o3,o4,rfl,S4,gd,gl,hP,hk,hall,hdn,hsub,rfl⟩
 have hlen:done.length+ (ck Wt).length=t.sz:=by
  have:=congrArg List.length hall
  rw [List.length_append]at this
  exact this
 refine ⟨_,rfl,_,.inl ⟨ws.reverse,SqL.of gl,rfl⟩,?_⟩
 cases hP with
 | nil=>
  refine dI ?_
  have e:done=t.places:=by rw [<- hall];exact (List.append_nil _).symm
  have e2:dn=t.subs:=by rw [<- hsub];show dn=dn++cJ [];rw [eP,List.append_nil]
  exact ⟨_,rfl,q d kvs H4 hd S4 gd (by rw [hk,e]) (by rw [<- e2];exact hdn)⟩
 | @cons qh z W' rs hz hP'=>
  have ne:(!((z::rs).reverse).isEmpty)=true:=by simp
  refine cs (fun _=>?_) (fun c=>absurd ne c)
  refine ⟨_,fun σ' H'' h=>h,?_⟩
  rw [List.reverse_cons]at gl
  refine ⟨_,rfl,.inl ⟨rfl,_,SqL.of gl⟩,l,_,z,rfl,rfl,gl,by simp,?_⟩
  rw [List.dropLast_concat]
  obtain ⟨pl,u⟩:=qh
  have tk5:TK H4 (upd H4 l (.lst rs.reverse)):=TK.lst gl
  have S5:Same H (upd H4 l (.lst rs.reverse)):=fun y oo h=>by
   rw [ah (ai h hl0)]
   exact S4 _ _ h
  have gl5:(upd H4 l (.lst rs.reverse)) l=some (.lst rs.reverse):=ac
  have gd5:(upd H4 l (.lst rs.reverse)) d=some (.dT kvs):=by rw [ah (Ne.symm hld)];exact gd
  have hz5:=RepP.mono tk5 hz
  have hP5:Paired (RepP (upd H4 l (.lst rs.reverse)) n) W' rs:=Paired.mapP hP' fun _ _ r=>r.mono tk5
  have hd5:Paired (RepT (upd H4 l (.lst rs.reverse)) n) dn (kvs.map (·.2)):=Paired.mapP hdn fun _ _ r=>r.mono tk5
  generalize upd H4 l (.lst rs.reverse)=H5 at tk5 S5 gl5 gd5 hz5 hP5 hd5 ⊢
  clear hz hP' gl gd S4 tk5 hdn
  obtain ⟨c,a,uv,rfl,hc,ha,hu5⟩:=hz5
  have hrest:ck ((pl,u)::W')=pl::((bo 0 u.ps).map (fun p=>pl++p)++ck W'):=by
   show u.places.map (fun p=>pl++p)++ck W'=_
   rw [cS,List.map_cons,List.append_nil];rfl
  rw [hrest]at hall hlen ⊢
  rw [List.length_cons]at hlen
  have hnew:aO kvs (av pl)=none:=by
   cases hv:aO kvs (av pl)with
   | none=>rfl
   | some v=>
    have hm:=vm hv
    rw [hk]at hm
    obtain ⟨p',hp',e⟩:=List.mem_map.mp hm
    rw [eX e]at hp'
    have nd:=dO t.sz t (Nat.le_refl _)
    rw [<- hall,List.nodup_append]at nd
    exact absurd rfl (nd.2.2 pl hp' pl List.mem_cons_self)
  have lkv:kvs.length=done.length:=by
   have:=congrArg List.length hk
   rw [List.length_map,List.length_map]at this
   exact this
  refine ⟨_,rfl,c,_,1,uv,rfl,rfl,SqT.of hc,aF (j:=1) rfl,_,rfl,_,rfl,c,_,0,.ref a,rfl,rfl,SqT.of hc,aF (j:=0) rfl,d,_,rfl,DPut.t gd5 (k:=av pl) (by rw [oD];exact ha) (ao (by lia)),?_⟩
  rw [tT _ hnew]
  have tk6:TK H5 (upd H5 d (.dT (kvs++[(av pl,uv)]))):=fun b xs e=>by
   rw [ah (fun z=>by rw [z,gd5]at e;cases e)];exact e
  have S6:Same H (upd H5 d (.dT (kvs++[(av pl,uv)]))):=fun y oo h=>by
   rw [ah (ai h hd)]
   exact S5 _ _ h
  have gl6:(upd H5 d (.dT (kvs++[(av pl,uv)]))) l=some (.lst rs.reverse):=by rw [ah hld];exact gl5
  have gd6:(upd H5 d (.dT (kvs++[(av pl,uv)]))) d=some (.dT (kvs++[(av pl,uv)])):=ac
  have hc6:=tk6 _ _ hc
  have ha6:=tk6 _ _ ha
  have hu6:=hu5.mono tk6
  have hP6:Paired (RepP (upd H5 d (.dT (kvs++[(av pl,uv)]))) n) W' rs:=Paired.mapP hP5 fun _ _ r=>r.mono tk6
  have hd6:Paired (RepT (upd H5 d (.dT (kvs++[(av pl,uv)]))) n) dn (kvs.map (·.2)):=Paired.mapP hd5 fun _ _ r=>r.mono tk6
  generalize upd H5 d (.dT (kvs++[(av pl,uv)]))=H6 at tk6 S6 gl6 gd6 hc6 ha6 hu6 hP6 hd6 ⊢
  clear hc ha hu5 hP5 hd5 gl5 gd5 S5 tk6
  obtain ⟨ua,ub,rfl,hua,hub,hps⟩:=hu6.prt
  have hpl:u.ps.length=(rq H6 (.ref ua)).length:=Paired.length hps
  have hszu:(bo 0 u.ps).length=szL u.ps:=eD _ _
  have hkl:=lH u.ps
  rw [List.length_append,List.length_map]at hlen
  refine ⟨_,rfl,c,_,1,.ref ua,rfl,rfl,SqT.of hc6,aF (j:=1) rfl,ua,_,1,.ref ub,rfl,rfl,SqT.of hua,aF (j:=1) rfl,ub,_,rfl,hub,?_⟩
  refine sH (by lia) hub (fun H q z=> ∃ c a,z=.ref c/\H c=some (.tup [.ref a,q.2])/\H a=some (.tup q.1)) (fun t ⟨c,a,e,h1,h2⟩=>⟨c,a,e,t _ _ h1,t _ _ h2⟩) (fun i v=>(plV pl++[V.int ((i:Nat):Int)],v)) ?_ ?_
  ·intro i v H7 k hv s7 hk7
   refine ⟨_,rfl,c,_,0,.ref a,rfl,rfl,SqT.of (s7 _ _ hc6),aF (j:=0) rfl,_,rfl,(by show 1<=sizeLine;decide),fun q1 hq1=>?_⟩
   have s8:=af hq1 (.tup [V.int ((i:Nat):Int)])
   have g8:(upd H7 q1 (.tup [V.int ((i:Nat):Int)])) q1=some (.tup [V.int ((i:Nat):Int)]):=ac
   generalize upd H7 q1 (.tup [V.int ((i:Nat):Int)])=H8 at s8 g8 ⊢
   have ha8:=s8 _ _ (s7 _ _ ha6)
   have lpl:(plV pl).length=pl.length:=List.length_map _
   have hplm:pl∈t.places:=by rw [<- hall];exact List.mem_append_right _ List.mem_cons_self
   have hshort:=dN t.sz t (Nat.le_refl _) pl hplm
   have fin: ∀ (b:Addr) (H9:Hp),Same H8 H9->H9 b=some (.tup (plV pl++[V.int ((i:Nat):Int)]))-> ∀ p,H9 p=none->k (.ref p) (upd H9 p (.tup [.ref b,v])):=fun b H9 s9 gb p hp=>
    hk7 _ _ ((s8.trans s9).trans (af hp _)) ⟨p,b,rfl,ac,(af hp _) _ _ gb⟩
   refine ⟨a,q1,_,_,rfl,rfl,SqT.of ha8,SqT.of g8,?_,fun e=>?_,fun _ e=>(by cases e),fun _ _ b hb=>?_⟩
   ·rw [lpl];exact Nat.le_of_lt (ao (by show pl.length+1<=1000;lia))
   ·refine ⟨_,rfl,(by show 2<=sizeLine;decide),fun p hp=>fin q1 H8 (fun _ _ h=>h) (by rw [e];exact g8) p hp⟩
   ·refine ⟨_,rfl,(by show 2<=sizeLine;decide),fun p hp=>fin b _ (af hb _) ac p hp⟩
  ·intro pb zb H7 hpb s7 gpb lzb hzb
   have gl7:=s7 _ _ gl6
   refine ⟨_,rfl,.inl ⟨rfl,_,SqL.of gl7⟩,_,rfl,_,rfl,pb,zb,-1,rfl,rfl,SqL.of gpb,by decide,fun b hb=>?_⟩
   rw [kJ]
   have s8:=af hb (.lst zb.reverse)
   have g8:(upd H7 b (.lst zb.reverse)) b=some (.lst zb.reverse):=ac
   generalize upd H7 b (.lst zb.reverse)=H8 at s8 g8 ⊢
   have gl8:=s8 _ _ gl7
   have S8:Same H6 H8:=s7.trans s8
   have lrs:W'.length=rs.length:=Paired.length hP6
   have lW:=iO W'
   refine ⟨l,b,_,_,rfl,rfl,gl8,g8,?_,?_⟩
   ·rw [List.length_reverse,List.length_reverse]
    exact Nat.le_of_lt (ao (by lia))
   have tk9:TK H8 (upd H8 l (.lst (rs.reverse++zb.reverse))):=TK.lst gl8
   have hrk:ck (jb pl 0 u.ps++W')=(bo 0 u.ps).map (fun p=>pl++p)++ck W':=by rw [ft,gM]
   refine ⟨_,?_,jb pl 0 u.ps++W',zb++rs,kvs++[(av pl,.ref ua)],done++[pl],dn++[u],_,_,rfl,?_,?_,?_,?_,?_,?_,?_,?_,rfl⟩
   ·rw [hrk,List.length_cons];lia
   ·intro y oo h
    rw [ah (ai h hl0)]
    exact S8 _ _ (S6 _ _ h)
   ·rw [ah (Ne.symm hld)];exact S8 _ _ gd6
   ·rw [ac,List.reverse_append]
   ·refine Paired.appendP (iS (by rw [jT,lzb];exact hpl) fun i qq z e1 e2=>?_) (Paired.mapP hP6 fun _ _ r=>(r.mono (ay S8)).mono tk9)
    obtain ⟨x,hx,rfl⟩:=jU pl u.ps 0 i qq e1
    obtain ⟨xv,hxv,rx⟩:=a7 hps hx
    obtain ⟨c',a',rfl,h1,h2⟩:=hzb i xv z hxv e2
    refine ⟨c',a',xv,rfl,tk9 _ _ (s8 _ _ h1),tk9 _ _ (s8 _ _ ?_),(rx.mono (ay S8)).mono tk9⟩
    rw [h2]
    show some (HO.tup (plV pl++[V.int ((i:Nat):Int)]))=some (HO.tup (plV (pl++[0+i])))
    rw [Nat.zero_add]
    unfold plV
    rw [List.map_append];rfl
   ·rw [List.map_append,List.map_append,hk];rfl
   ·rw [hrk,List.append_assoc];exact hall
   ·rw [List.map_append]
    exact Paired.appendP (Paired.mapP hd6 fun _ _ r=>(r.mono (ay S8)).mono tk9) (.cons ((hu6.mono (ay S8)).mono tk9) .nil)
   ·rw [<- hsub,List.map_append,jS,List.map_cons,kH,List.append_assoc];rfl
structure BkS (bk:Bk):Prop where
 few:bk.forms.length<=10
 nd:(bk.forms.map Frm.name).Nodup
 s4:bk.sorts.length<=4
 sd:(bk.sorts.map Srt.name).Nodup
 ws: ∀ s∈bk.sorts,s.downs.length<=3/\s.ups.length<=3/\(s.downs++s.ups).Nodup/\ ∀ x∈s.downs++s.ups,x.length<=1000
 wz: ∀ s∈bk.sorts,1<=s.downs.length+s.ups.length/\ ∀ x∈s.downs++s.ups,cj x=true/\x≠"zzz"
 fo: ∀ fr∈bk.forms,fr.own∈bk.sorts/\(∀ q∈fr.parts,q∈bk.sorts)/\fr.parts.length<=3/\fr.rules.map (fun r=>(r.pl,r.word))=dj fr.own fr.parts/\ ∀ r∈fr.rules,r.fm.wf/\r.fm.size<=15
theorem BookOk.s {bk:Bk} (h:BookOk bk):BkS bk:=by
 obtain ⟨mode,_,hf⟩:=h.fo
 refine ⟨h.few,h.nd,h.so.2.1,h.so.2.2.1,fun s hs=>⟨(h.so.2.2.2.2 s hs).2.2.1,(h.so.2.2.2.2 s hs).2.2.2.1,(h.so.2.2.2.2 s hs).1,fun x hx=>di ((h.so.2.2.2.2 s hs).2.1 x hx)⟩,fun s hs=>⟨(h.so.2.2.2.2 s hs).2.2.2.2.1,fun x hx=>⟨(h.so.2.2.2.2 s hs).2.1 x hx,(h.so.2.2.2.2 s hs).2.2.2.2.2 x hx⟩⟩,fun fr m=>?_⟩
 obtain ⟨h1,h2,h3,h4,h5⟩:=hf fr m
 refine ⟨h1,h2,h3,h4,fun r hr=>?_⟩
 obtain ⟨j,hj⟩:=List.getElem?_of_mem hr
 exact ⟨(h5 j r hj).1.wf,(h5 j r hj).2⟩
theorem ky {k:Int}: ∀ {qs:List Srt},(∀ q∈qs,q.downs.length<=3)->(bM k qs).length<=3*qs.length
 | [],_=>Nat.le_refl _
 | q::r,h=>by
  have h1:=ky (k:=k+1) (qs:=r) fun x hx=>h x (List.mem_cons_of_mem _ hx)
  have h2:=h q List.mem_cons_self
  show (q.downs.map (fun x=>(k,x))++bM (k+1) r).length<=_
  rw [List.length_append,List.length_map,List.length_cons]
  lia
theorem BkS.rules12 {bk:Bk} (h:BkS bk) {fr:Frm} (m:fr∈bk.forms):fr.rules.length<=12:=by
 obtain ⟨h1,h2,h3,h4,_⟩:=h.fo fr m
 have e:=congrArg List.length h4
 rw [List.length_map]at e
 have h5:=ky (k:=0) (qs:=fr.parts) fun q hq=>(h.ws q (h2 q hq)).1
 have h6:=(h.ws _ h1).2.1
 have h7:(dj fr.own fr.parts).length=fr.own.ups.length+ (bM 0 fr.parts).length:=by
  unfold dj
  rw [List.length_append,List.length_map]
 lia
theorem jP {k:Int}: ∀ {qs:List Srt} {j:Nat} {q:Srt} {x:Str},qs[j]? =some q->x∈q.downs->(k+ (j:Int),x)∈bM k qs
 | [],j,_,_,h,_=>by cases j <;> cases h
 | q::r,0,_,x,h,hx=>by
  cases h
  show (k+ ((0:Nat):Int),x)∈q.downs.map (fun x=>(k,x))++bM (k+1) r
  rw [show k+ ((0:Nat):Int)=k by lia]
  exact List.mem_append_left _ (List.mem_map.mpr ⟨x,hx,rfl⟩)
 | q::r,j+1,_,x,h,hx=>by
  have:=jP (k:=k+1) (qs:=r) (j:=j) h hx
  show (k+ ((j+1:Nat):Int),x)∈q.downs.map (fun x=>(k,x))++bM (k+1) r
  rw [show k+ ((j+1:Nat):Int)=k+1+ (j:Int) by lia]
  exact List.mem_append_right _ this
theorem BkS.down {bk:Bk} (h:BkS bk) {fr:Frm} (m:fr∈bk.forms) {j:Nat} {q:Srt} {x:Str} (hq:fr.parts[j]? =some q) (hx:x∈q.downs): ∃ r∈fr.rules,r.pl=(j:Int)/\r.word=x:=by
 obtain ⟨_,_,_,h4,_⟩:=h.fo fr m
 have h5:((j:Int),x)∈fr.rules.map (fun r=>(r.pl,r.word)):=by
  rw [h4]
  have:=jP (k:=0) hq hx
  rw [Int.zero_add]at this
  exact List.mem_append_right _ this
 obtain ⟨r,hr,e⟩:=List.mem_map.mp h5
 exact ⟨r,hr,(Prod.mk.inj e).1,(Prod.mk.inj e).2⟩
theorem BkS.up {bk:Bk} (h:BkS bk) {fr:Frm} (m:fr∈bk.forms) {x:Str} (hx:x∈fr.own.ups): ∃ r∈fr.rules,r.pl= -1/\r.word=x:=by
 obtain ⟨_,_,_,h4,_⟩:=h.fo fr m
 have h5:((-1:Int),x)∈fr.rules.map (fun r=>(r.pl,r.word)):=by
  rw [h4]
  exact List.mem_append_left _ (List.mem_map.mpr ⟨x,hx,rfl⟩)
 obtain ⟨r,hr,e⟩:=List.mem_map.mp h5
 exact ⟨r,hr,(Prod.mk.inj e).1,(Prod.mk.inj e).2⟩
inductive iK  (vs:List V) (H:Hp) (Q:VK) (E_:XK):Prop
 | mk: ∀ bv bk,(vs=[bv])->(RepB H bk bv)->(∀ fa fv,H fa=some (.tup fv)->RepFs H bk.forms fv->Q (.ref fa) H)->iK vs H Q E_
inductive ff  (vs:List V) (H:Hp) (Q:VK) (E_:XK):Prop
 | mk: ∀ v fr,(vs=[v])->(RepF H fr v)->(Q (.str fr.own.name) H)->ff vs H Q E_
inductive eC  (vs:List V) (H:Hp) (Q:VK) (E_:XK):Prop
 | mk: ∀ bv bk nm fr,(vs=[bv,.str nm])->(RepB H bk bv)->(BkS bk)->(fr∈bk.forms)->(Frm.name fr=nm)->(∀ v H',Same H H'->RepF H' fr v->Q v H')->eC vs H Q E_
inductive jt  (vs:List V) (H:Hp) (Q:VK) (E_:XK):Prop
 | mk: ∀ bv bk a nm r fr,(vs=[bv,.ref a])->(RepB H bk bv)->(BkS bk)->(H a=some (.tup (.str nm::r)))->(fr∈bk.forms)->(Frm.name fr=nm)->(∀ H',Same H H'->Q (.str fr.own.name) H')->jt vs H Q E_
theorem de {l:List Frm} (nd:(l.map Frm.name).Nodup) {a b:Frm} (ha:a∈l) (hb:b∈l) (e:a.name=b.name):a=b:=by
 obtain ⟨i,hi⟩:=List.getElem?_of_mem ha
 obtain ⟨j,hj⟩:=List.getElem?_of_mem hb
 have q1:(l.map Frm.name)[i]? =some a.name:=by rw [List.getElem?_map,hi];rfl
 have q2:(l.map Frm.name)[j]? =some a.name:=by rw [List.getElem?_map,hj,e];rfl
 have:=eW nd q1 q2
 subst this
 rw [hi]at hj
 exact Option.some.inj hj
theorem rh:aG ["book"] ["book"] (ak jF):=fsc
theorem pO (F:Fun K "forms_of" "forms_of" jF f fd):aE P w K mg base CX0 1 f fd ["book"] iK:=by
 refine F.ok rh (fun vs H Q E h=>?_) (fun cdv A outer s H vs Q E hr h=>?_)
 ·obtain ⟨bv,bk,rfl,_⟩:=h
  rfl
 obtain ⟨bv,bk,rfl,⟨a,sa,fa,fv,rfl,ha,_,hfa,hF⟩,q⟩:=h
 refine ⟨_,aj (aL (ar (r:=aW K) ax (pv 0) ag (fun _ _=>rfl))),?_⟩
 exact ⟨_,rfl,a,_,2,_,rfl,rfl,SqT.of ha,aF (j:=2) rfl,q fa fv hfa hF⟩
theorem ma:aG ["form"] ["form"] (ak fP):=fsc
theorem km (F:Fun K "sort_of_form" "sort_of_form" fP f fd):aE P w K mg base CX0 1 f fd ["form"] ff:=by
 refine F.ok ma (fun vs H Q E h=>?_) (fun cdv A outer s H vs Q E hr h=>?_)
 ·obtain ⟨v,fr,rfl,_⟩:=h
  rfl
 obtain ⟨v,fr,rfl,⟨a,pa,ra,rv,rfl,ha,_⟩,q⟩:=h
 refine ⟨_,aj (aL (ar (r:=aW K) ax (pv 0) ag (fun _ _=>rfl))),?_⟩
 exact ⟨_,rfl,a,_,1,_,rfl,rfl,SqT.of ha,aF (j:=1) rfl,q⟩
theorem nP:aG ["book","name"] ["book","name"] (ak fk):=fsc
theorem ng (F:Fun K "form_named" "form_named" fk f fd)
  (GF:aE P w K mg base CX0 1 f2 fd2 ["book"] iK) (bF:Binds K fd2 ["book"] []) (kF:PySem.W.keepIn K (.ref f2)=true) (mF:mg "forms_of"=some (.ref f2)):aE P w K mg base CX0 2 f fd ["book","name"] eC:=by
 refine F.ok nP (fun vs H Q E h=>?_) (fun cdv A outer s H vs Q E hr h=>?_)
 ·obtain ⟨bv,bk,nm,fr,rfl,_⟩:=h
  rfl
 obtain ⟨bv,bk,nm,fr,rfl,hB,hok,hf,hn,q⟩:=h
 refine ⟨_,aj (aL (ar (r:=cB K) aS (n8 (sc0:=ak fk) (N0:=["book","name"]) (ys:=["name"]) (fr:=[1]) rfl
   (bf (al GF hr rfl mF kF bF .nil aA (aa (pv 0) ad))) rfl rfl
   cok
   (fun C s H ex=>aM dh (ar (r:=aW K) ax (pv 0) ag (fun _ _=>rfl)) (pv 1) (aV _))
   (fun C s H ex=>pv 0)) ag (fun _ _=>rfl))),?_⟩
 refine ⟨_,rfl,bv,bk,rfl,hB,fun fa fv hfa hF=>?_⟩
 have h10:=hok.few
 have lF:=hF.len
 refine ⟨fa,rfl,⟨fv,SqT.of hfa⟩,?_⟩
 refine j4 (by lia) hF (fE hfa) (fD hfa) (ip hfa) (fun fr=>decide (Frm.name fr=nm)) (fun H fr v=>RepF H fr v) (fun t h=>h.mono t) ?_ ?_ ?_
 ·rintro fr' v H' k _ ⟨a,pa,ra,rv,rfl,ha,_⟩ s' hk
  refine ⟨_,rfl,a,_,0,_,rfl,rfl,SqT.of (s' _ _ ha),cq,_,rfl,rfl,_,rfl,?_⟩
  have:decide (V.str fr'.name=V.str nm)=decide (fr'.name=nm):=by
   by_cases c:fr'.name=nm
   ·rw [decide_eq_true c,decide_eq_true (by rw [c])]
   ·rw [decide_eq_false c,decide_eq_false fun e=>c (V.str.inj e)]
  rw [this]
  exact hk
 ·rintro fr' v H' k _ hA _ s' hk
  exact ⟨_,rfl,hk _ _ (fun _ _ h=>h) (hA.mono (ay s'))⟩
 intro p zs H' hp s' gp hz
 cases hz0:bk.forms.filter (fun fr=>decide (Frm.name fr=nm))with
 | nil=>
  have:fr∈bk.forms.filter (fun fr=>decide (Frm.name fr=nm)):=List.mem_filter.mpr ⟨hf,decide_eq_true hn⟩
  rw [hz0]at this
  cases this
 | cons fr' rest=>
  rw [hz0]at hz
  cases hz with
  | @cons _ z _ _ hz1 _=>
   have hm:fr'∈bk.forms.filter (fun fr=>decide (Frm.name fr=nm)):=by rw [hz0];exact List.mem_cons_self
   obtain ⟨m1,m2⟩:=List.mem_filter.mp hm
   have:=de hok.nd m1 hf ((of_decide_eq_true m2).trans hn.symm)
   subst this
   exact ⟨p,_,0,z,rfl,rfl,SqL.of gp,cq,q z H' s' hz1⟩
theorem tE:aG ["book","tree"] ["book","tree"] (ak mf):=fsc
theorem rH (F:Fun K "sort_of" "sort_of" mf f fd)
  (GF:aE P w K mg base CX0 2 f2 fd2 ["book","name"] eC) (bF:Binds K fd2 ["book","name"] []) (kF:PySem.W.keepIn K (.ref f2)=true) (mF:mg "form_named"=some (.ref f2))
  (GS:aE P w K mg base CX0 1 f3 fd3 ["form"] ff) (bS:Binds K fd3 ["form"] []) (kS:PySem.W.keepIn K (.ref f3)=true) (mS:mg "sort_of_form"=some (.ref f3)):aE P w K mg base CX0 3 f fd ["book","tree"] jt:=by
 refine F.ok tE (fun vs H Q E h=>?_) (fun cdv A outer s H vs Q E hr h=>?_)
 ·obtain ⟨bv,bk,a,nm,r,fr,rfl,_⟩:=h
  rfl
 obtain ⟨bv,bk,a,nm,r,fr,rfl,hB,hok,ha,hf,hn,q⟩:=h
 have hr1:=hr.mono (show 1<=2 by lia)
 refine ⟨_,aj (aL (al GS hr1 rfl mS kS bS .nil aA (aa (al GF hr rfl mF kF bF .nil aA (aa (pv 0) (aa (ar (r:=aW K) ax (pv 1) ag (fun _ _=>rfl)) ad))) ad))),?_⟩
 exact ⟨_,rfl,_,rfl,a,_,0,_,rfl,rfl,SqT.of ha,cq,bv,bk,nm,fr,rfl,hB,hok,hf,hn,fun v H' s' hR=>⟨v,fr,rfl,hR,q H' s'⟩⟩
theorem iz {J:It} {α:Type} {as:List α} {A:α->V->Prop} {xs:List V} {fr:List Nat} {te:TE} {σ:St} {H1:Hp} {Q:VK} (hn:xs.length<=1000) (hP:Paired A as xs)
  (hgo: ∀ i H,Same H1 H->i<xs.length->J.go i H) (hst: ∀ H,Same H1 H->J.stop xs.length H) (hy: ∀ i H v H',i<xs.length->Same H1 H->J.yld i H v H'->H'=H/\xs[i]? =some v)
  (R:Hp->α->V->Prop) (mono: ∀ {H H':Hp} {a:α} {v:V},TK H H'->R H a v->R H' a v)
  (hte: ∀ a v H (k:VK),a∈as->A a v->Same H1 H->(∀ u H',Same H H'->R H' a u->k u H')->te (some v::cy fr σ) H k)
  (hd: ∀ p zs H',H1 p=none->Same H1 H'->H' p=some (.lst zs)->Paired (R H') as zs->Q (.ref p) H'):fc fr te σ J H1 Q:=by
 intro p hp
 have hl:as.length=xs.length:=Paired.length hP
 refine ⟨fun i m zs H=>i<=xs.length/\m=xs.length-i/\Same H1 H/\H p=some (.lst zs)/\zs.length=i/\Paired (R H) (as.take i) zs,⟨_,Nat.zero_le _,rfl,af hp _,ac,rfl,.nil⟩,?_⟩
 rintro i m zs H ⟨hi,hm,sm,gp,hz,hT⟩
 refine ⟨gp,?_⟩
 by_cases e:i=xs.length
 ·subst e
  rw [<- hl,List.take_length]at hT
  exact .inl ⟨hst H sm,hd p zs H hp sm gp hT⟩
 ·have hlt:i<xs.length:=by lia
  refine .inr ⟨hgo i H sm hlt,ao (by lia),fun v H' hv=>?_⟩
  obtain ⟨rfl,hv2⟩:=hy i H v H' hlt sm hv
  obtain ⟨a,ha,hA⟩:=aC hP hv2
  refine hte a v _ _ (List.mem_of_getElem? ha) hA sm fun u H2 s2 r=>?_
  have gp2:=s2 _ _ gp
  have tk:TK H2 (upd H2 p (.lst (zs++[u]))):=TK.lst gp2
  refine ⟨gp2,xs.length- (i+1),by lia,by lia,rfl,?_,ac,by rw [List.length_append,hz];rfl,?_⟩
  ·intro b o hb
   rw [ah (ai hb hp)]
   exact s2 _ _ (sm _ _ hb)
  ·rw [List.take_add_one,ha]
   exact Paired.snoc (Paired.mapP hT fun _ _ r=>mono ((ay s2).trans tk) r) (mono tk r)
inductive iG  (vs:List V) (H:Hp) (Q:VK) (E_:XK):Prop
 | mk: ∀ bv bk,(vs=[bv])->(RepB H bk bv)->(∀ sa sv,H sa=some (.tup sv)->RepSs H bk.sorts sv->Q (.ref sa) H)->iG vs H Q E_
inductive eB  (vs:List V) (H:Hp) (Q:VK) (E_:XK):Prop
 | mk: ∀ bv bk nm s,(vs=[bv,.str nm])->(RepB H bk bv)->(BkS bk)->(s∈bk.sorts)->(Srt.name s=nm)->(∀ v H',Same H H'->RepS H' s v->Q v H')->eB vs H Q E_
inductive lQ  (vs:List V) (H:Hp) (Q:VK) (E_:XK):Prop
 | mk: ∀ bv bk nm s,(vs=[bv,.str nm])->(RepB H bk bv)->(BkS bk)->(s∈bk.sorts)->(Srt.name s=nm)->(∀ b H',Same H H'->H' b=some (.tup (List.map V.str (Srt.downs s)))->Q (.ref b) H')->lQ vs H Q E_
inductive sW  (vs:List V) (H:Hp) (Q:VK) (E_:XK):Prop
 | mk: ∀ bv bk nm s,(vs=[bv,.str nm])->(RepB H bk bv)->(BkS bk)->(s∈bk.sorts)->(Srt.name s=nm)->(∀ b H',Same H H'->H' b=some (.tup (List.map V.str (Srt.ups s)))->Q (.ref b) H')->sW vs H Q E_
inductive iH  (vs:List V) (H:Hp) (Q:VK) (E_:XK):Prop
 | mk: ∀ v fr,(vs=[v])->(RepF H fr v)->(∀ ra rv,H ra=some (.tup rv)->RepRs H fr.rules rv->Q (.ref ra) H)->iH vs H Q E_
noncomputable def dM (r:Rul):List Key:=[.inl r.pl,.inr r.word]
inductive lT  (vs:List V) (H:Hp) (Q:VK) (E_:XK):Prop
 | mk: ∀ v fr,(vs=[v])->(RepF H fr v)->(fr.rules.length<=12)->(∀ d kvs H',H d=none->Same H H'->H' d=some (.dT kvs)->kvs.length<=12->(∀ r∈fr.rules,∃ x,aO kvs (dM r)=some x)->(∀ kv∈kvs,∃ r∈fr.rules,kv.1=dM r/\Rep H' r.fm kv.2)->Q (.ref d) H')->lT vs H Q E_
theorem ji {κ:Type} [DecidableEq κ] {kvs:List (κ×V)} {k:κ} {v:V} {kv:κ×V} (h:kv∈aX kvs k v):kv∈kvs\/kv.1=k/\kv.2=v:=by
 unfold aX at h
 split at h
 ·obtain ⟨p,hp,e⟩:=List.mem_map.mp h
  by_cases c:p.1=k
  ·rw [if_pos c]at e
   exact .inr ⟨by rw [<- e];exact c,by rw [<- e]⟩
  ·rw [if_neg c]at e
   exact .inl (by rw [<- e];exact hp)
 ·rcases List.mem_append.mp h with h | h
  ·exact .inl h
  ·have:kv=(k,v):=by simpa using h
   exact .inr ⟨by rw [this],by rw [this]⟩
theorem re:aG ["book"] ["book"] (ak jA):=fsc
theorem pJ (F:Fun K "sorts_of" "sorts_of" jA f fd):aE P w K mg base CX0 1 f fd ["book"] iG:=by
 refine F.ok re (fun vs H Q E h=>?_) (fun cdv A outer s H vs Q E hr h=>?_)
 ·obtain ⟨bv,bk,rfl,_⟩:=h
  rfl
 obtain ⟨bv,bk,rfl,⟨a,sa,fa,fv,rfl,ha,⟨sx,hsa,hS⟩,_⟩,q⟩:=h
 refine ⟨_,aj (aL (ar (r:=aW K) ax (pv 0) ag (fun _ _=>rfl))),?_⟩
 exact ⟨_,rfl,a,_,1,_,rfl,rfl,SqT.of ha,aF (j:=1) rfl,q sa sx hsa hS⟩
theorem nN:aG ["book","name"] ["book","name"] (ak fj):=fsc
theorem mZ (F:Fun K "sort_named" "sort_named" fj f fd)
  (GF:aE P w K mg base CX0 1 f2 fd2 ["book"] iG) (bF:Binds K fd2 ["book"] []) (kF:PySem.W.keepIn K (.ref f2)=true) (mF:mg "sorts_of"=some (.ref f2)):aE P w K mg base CX0 2 f fd ["book","name"] eB:=by
 refine F.ok nN (fun vs H Q E h=>?_) (fun cdv A outer s H vs Q E hr h=>?_)
 ·obtain ⟨bv,bk,nm,fr,rfl,_⟩:=h
  rfl
 obtain ⟨bv,bk,nm,fr,rfl,hB,hok,hf,hn,q⟩:=h
 refine ⟨_,aj (aL (ar (r:=cB K) aS (n8 (sc0:=ak fj) (N0:=["book","name"]) (ys:=["name"]) (fr:=[1]) rfl
   (bf (al GF hr rfl mF kF bF .nil aA (aa (pv 0) ad))) rfl rfl
   cok
   (fun C s H ex=>aM dh (ar (r:=aW K) ax (pv 0) ag (fun _ _=>rfl)) (pv 1) (aV _))
   (fun C s H ex=>pv 0)) ag (fun _ _=>rfl))),?_⟩
 refine ⟨_,rfl,bv,bk,rfl,hB,fun fa fv hfa hF=>?_⟩
 have h4:=hok.s4
 have lF:=hF.len
 refine ⟨fa,rfl,⟨fv,SqT.of hfa⟩,?_⟩
 refine j4 (by lia) hF (fE hfa) (fD hfa) (ip hfa) (fun fr=>decide (Srt.name fr=nm)) (fun H fr v=>RepS H fr v) (fun t h=>h.mono t) ?_ ?_ ?_
 ·rintro sr v H' k _ ⟨a1,b1,c1,rfl,g1,_⟩ s' hk
  refine ⟨_,rfl,a1,_,0,.str sr.name,rfl,rfl,SqT.of (s' _ _ g1),cq,_,rfl,rfl,_,rfl,?_⟩
  rw [show decide (V.str sr.name=V.str nm)=decide (sr.name=nm)from decide_eq_decide.mpr ⟨fun e=>V.str.inj e,fun e=>by rw [e]⟩]
  exact hk
 ·rintro sr v H' k _ hR _ s' hk
  exact ⟨_,rfl,hk _ _ (fun _ _ h=>h) (hR.mono (ay s'))⟩
 ·intro p zs H' hp s' gp hz
  have hm:fr∈bk.sorts.filter fun fr=>decide (Srt.name fr=nm):=List.mem_filter.mpr ⟨hf,decide_eq_true hn⟩
  cases hfl:bk.sorts.filter fun fr=>decide (Srt.name fr=nm)with
  | nil=>rw [hfl]at hm;cases hm
  | cons x r=>
   rw [hfl]at hz
   cases hz with
   | @cons _ z _ zr hx _=>
    have hxm:x∈bk.sorts.filter fun fr=>decide (Srt.name fr=nm):=by rw [hfl];exact List.mem_cons_self
    have e:x=fr:=je hok.sd (List.mem_filter.mp hxm).1 hf (by rw [of_decide_eq_true (List.mem_filter.mp hxm).2,hn])
    subst e
    exact ⟨p,_,0,z,rfl,rfl,SqL.of gp,cq,q z H' s' hx⟩
theorem vx:aG ["book","sort"] ["book","sort"] (ak pA):=fsc
theorem ut (F:Fun K "downs_of" "downs_of" pA f fd)
  (GN:aE P w K mg base CX0 2 f2 fd2 ["book","name"] eB) (bN:Binds K fd2 ["book","name"] []) (kN:PySem.W.keepIn K (.ref f2)=true) (mN:mg "sort_named"=some (.ref f2)):aE P w K mg base CX0 3 f fd ["book","sort"] lQ:=by
 refine F.ok vx (fun vs H Q E h=>?_) (fun cdv A outer s H vs Q E hr h=>?_)
 ·obtain ⟨bv,bk,nm,sr,rfl,_⟩:=h
  rfl
 obtain ⟨bv,bk,nm,sr,rfl,hB,hok,hs,hn,q⟩:=h
 refine ⟨_,aj (aL (ar (r:=aW K) ax (al GN hr rfl mN kN bN .nil aA (aa (pv 0) (aa (pv 1) ad))) ag (fun _ _=>rfl))),?_⟩
 refine ⟨_,rfl,_,rfl,bv,bk,nm,sr,rfl,hB,hok,hs,hn,fun v H' s' hR=>?_⟩
 obtain ⟨a,b,c,rfl,ha,hb,_⟩:=hR
 exact ⟨a,_,1,.ref b,rfl,rfl,SqT.of ha,aF (j:=1) rfl,q b H' s' hb⟩
theorem yq:aG ["book","sort"] ["book","sort"] (ak w6):=fsc
theorem xq (F:Fun K "ups_of" "ups_of" w6 f fd)
  (GN:aE P w K mg base CX0 2 f2 fd2 ["book","name"] eB) (bN:Binds K fd2 ["book","name"] []) (kN:PySem.W.keepIn K (.ref f2)=true) (mN:mg "sort_named"=some (.ref f2)):aE P w K mg base CX0 3 f fd ["book","sort"] sW:=by
 refine F.ok yq (fun vs H Q E h=>?_) (fun cdv A outer s H vs Q E hr h=>?_)
 ·obtain ⟨bv,bk,nm,sr,rfl,_⟩:=h
  rfl
 obtain ⟨bv,bk,nm,sr,rfl,hB,hok,hs,hn,q⟩:=h
 refine ⟨_,aj (aL (ar (r:=aW K) ax (al GN hr rfl mN kN bN .nil aA (aa (pv 0) (aa (pv 1) ad))) ag (fun _ _=>rfl))),?_⟩
 refine ⟨_,rfl,_,rfl,bv,bk,nm,sr,rfl,hB,hok,hs,hn,fun v H' s' hR=>?_⟩
 obtain ⟨a,b,c,rfl,ha,hb,hc⟩:=hR
 exact ⟨a,_,2,.ref c,rfl,rfl,SqT.of ha,aF (j:=2) rfl,q c H' s' hc⟩
theorem rg:aG ["form"] ["form"] (ak jB):=fsc
theorem pK (F:Fun K "rules_of" "rules_of" jB f fd):aE P w K mg base CX0 1 f fd ["form"] iH:=by
 refine F.ok rg (fun vs H Q E h=>?_) (fun cdv A outer s H vs Q E hr h=>?_)
 ·obtain ⟨v,fr,rfl,_⟩:=h
  rfl
 obtain ⟨v,fr,rfl,⟨a,pa,ra,rv,rfl,ha,hpa,hra,hR⟩,q⟩:=h
 refine ⟨_,aj (aL (ar (r:=aW K) ax (pv 0) ag (fun _ _=>rfl))),?_⟩
 exact ⟨_,rfl,a,_,3,_,rfl,rfl,SqT.of ha,aF (j:=3) rfl,q ra rv hra hR⟩
noncomputable abbrev xZ:List Str:=["form","found","at","word","formula"]
theorem scByKey:aG xZ ["form"] (ak pC):=fsc
theorem uw (F:Fun K "formulas_by_key" "formulas_by_key" pC f fd)
  (GR:aE P w K mg base CX0 1 f2 fd2 ["form"] iH) (bR:Binds K fd2 ["form"] []) (kR:PySem.W.keepIn K (.ref f2)=true) (mR:mg "rules_of"=some (.ref f2)):aE P w K mg base CX0 2 f fd ["form"] lT:=by
 refine F.ok scByKey (fun vs H Q E h=>?_) (fun cdv A outer s H vs Q E hr h=>?_)
 ·obtain ⟨v,fr,rfl,_⟩:=h
  rfl
 obtain ⟨v,fr,rfl,hF,h12,q⟩:=h
 have hu:=cZ hr
 refine ⟨_,ae (am (i:=1) scByKey.nd rfl (Or.inl rfl) ig)
  (ae (a6 PassesOwn.never rfl (bf (al GR hr rfl mR kR bR .nil aA (aa (pv 0) ad)))
    (cC rfl (aJ (au (i:=2) scByKey.nd rfl (Or.inl rfl)) (aJ (au (i:=3) scByKey.nd rfl (Or.inl rfl)) (aJ (au (i:=4) scByKey.nd rfl (Or.inl rfl)) bV))))
   (aj (cA hu (pv 1) (aK (aa (pv 2) (aa (pv 3) ad))) (pv 4) rfl)))
  (aj (aL (pv 1)))),?_⟩
 refine fun d hd=>?_
 have s0:=af hd (.dT [])
 have g0:(upd H d (.dT [])) d=some (.dT []):=ac
 generalize upd H d (.dT [])=H0 at s0 g0 ⊢
 refine ⟨_,rfl,v,fr,rfl,hF.mono (ay s0),fun ra rv hra hR=>?_⟩
 refine ⟨ra,rfl,⟨rv,SqT.of hra⟩,?_⟩
 have lR:=hR.len
 have hra':=hra
 refine cu (xs:=rv) (fun i σ H'=>i<=rv.length/\ ∃ o2 o3 o4 kvs,σ=[some v,some (.ref d),o2,o3,o4]/\Same H H'/\H' ra=some (.tup rv)/\RepRs H' fr.rules rv/\H' d=some (.dT kvs)/\kvs.length<=i/\(∀ r∈fr.rules.take i,∃ x,aO kvs (dM r)=some x)/\ ∀ kv∈kvs,∃ r∈fr.rules,kv.1=dM r/\Rep H' r.fm kv.2)
  ⟨Nat.zero_le _,none,none,none,[],rfl,s0,hra,hR,g0,Nat.le_refl _,fun r h=>(by cases h),fun kv h=>(by cases h)⟩ (fun i σ H' _ h=>by obtain ⟨_,_,_,_,_,_,_,g,_⟩:=h;exact SqT.of g) ?_ ?_
 ·rintro i x σ H1 hx ⟨_,o2,o3,o4,kvs,rfl,S1,gra,hR1,gd,hl,hv,hall⟩
  have hil:i<rv.length:=(List.getElem?_eq_some_iff.mp hx).1
  obtain ⟨r,hr',a,u,rfl,ha,hu'⟩:=aC hR1 hx
  refine ⟨a,_,rfl,SqT.of ha,rfl,_,_,rfl,_,_,rfl,_,_,rfl,rfl,?_⟩
  refine ⟨_,rfl,_,rfl,_,rfl,_,rfl,(by show 2<=sizeLine;decide),fun t ht=>?_⟩
  have s2:=af ht (.tup [.int r.pl,.str r.word])
  have g2:(upd H1 t (.tup [.int r.pl,.str r.word])) t=some (.tup ((dM r).map kV)):=ac
  generalize upd H1 t (.tup [.int r.pl,.str r.word])=H2 at s2 g2 ⊢
  refine ⟨d,_,rfl,DPut.t (s2 _ _ gd) g2 (ao (by lia)),?_⟩
  have tk:TK H1 (upd H2 d (.dT (aX kvs (dM r) u))):=fun b xs e=>by
   rw [ah (fun z=>by rw [z,gd]at e;cases e)]
   exact s2 _ _ e
  refine ⟨hil,_,_,_,_,rfl,?_,tk _ _ gra,hR1.mono tk,ac,?_,?_,?_⟩
  ·intro y o h
   rw [ah (ai h hd)]
   exact s2 _ _ (S1 _ _ h)
  ·have:=bh kvs (dM r) u
   lia
  ·intro r' hm
   rw [bP]
   by_cases c:dM r'=dM r
   ·rw [if_pos c];exact ⟨_,rfl⟩
   ·rw [if_neg c]
    rw [List.take_add_one,hr']at hm
    rcases List.mem_append.mp hm with h | h
    ·exact hv r' h
    ·have:r'=r:=by simpa using h
     exact absurd (by rw [this]) c
  ·intro kv hkv
   rcases ji hkv with h | h
   ·obtain ⟨r0,h1,h0,h2⟩:=hall kv h
    exact ⟨r0,h1,h0,h2.mono tk⟩
   ·exact ⟨r,List.mem_of_getElem? hr',h.1,by rw [h.2];exact hu'.mono tk⟩
 ·rintro σ H1 ⟨_,o2,o3,o4,kvs,rfl,S1,gra,hR1,gd,hl,hv,hall⟩
  rw [<- lR,List.take_length]at hv
  exact ⟨_,rfl,q d kvs H1 hd S1 gd (by lia) hv hall⟩
noncomputable def TrS (bk:Bk):Nat->Bt->Srt->Prop
 | 0,_,_=>False
 | n+1,t,s=> ∃ fr,fr∈bk.forms/\Frm.name fr=t.nm/\fr.own=s/\Paired (TrS bk n) t.ps fr.parts
theorem TreeOk.trS {bk:Bk}: ∀ {n:Nat} {t:Bt} {s:Srt},TreeOk bk n t s->TrS bk n t s
 | 0,_,_,h=>h.elim
 | n+1,_,_,⟨_,fr,h1,h2,h3,h4⟩=>⟨fr,h1,h2,h3,Paired.mapP h4 fun _ _ r=>TreeOk.trS r⟩
theorem TrS.frm {bk:Bk} {n:Nat} {t:Bt} {s:Srt} (h:TrS bk n t s): ∃ fr,fr∈bk.forms/\Frm.name fr=t.nm/\fr.own=s:=by
 cases n with
 | zero=>exact h.elim
 | succ n=>obtain ⟨fr,h1,h2,h3,_⟩:=h;exact ⟨fr,h1,h2,h3⟩
theorem TrS.at {bk:Bk}: ∀ {pl:List Nat} {n:Nat} {t u:Bt} {s:Srt},TrS bk n t s->t.at? pl=some u-> ∃ m s',TrS bk m u s'
 | [],n,t,u,s,h,e=>by cases e;exact ⟨n,s,h⟩
 | k::r,0,t,u,s,h,e=>h.elim
 | k::r,n+1,t,u,s,⟨fr,_,_,_,hp⟩,e=>by
  have e:(t.ps[k]?).bind (fun x=>x.at? r)=some u:=e
  cases hk:t.ps[k]? with
  | none=>rw [hk]at e;cases e
  | some x=>
   rw [hk]at e
   obtain ⟨q,_,hx⟩:=a7 hp hk
   exact TrS.at (pl:=r) hx e
theorem TrS.above {bk:Bk} {n:Nat} {t u:Bt} {s:Srt} (h:TrS bk n t s) {pl:List Nat} {k:Nat} (e:t.at? (pl++[k])=some u): ∃ u0 fr q m,t.at? pl=some u0/\fr∈bk.forms/\Frm.name fr=u0.nm/\fr.parts[k]? =some q/\TrS bk m u q:=by
 rw [Bt.at?_snoc]at e
 cases h0:t.at? pl with
 | none=>rw [h0]at e;cases e
 | some u0=>
  rw [h0]at e
  have e:u0.ps[k]? =some u:=e
  obtain ⟨m,s0,h1⟩:=h.at h0
  cases m with
  | zero=>exact h1.elim
  | succ m=>
   obtain ⟨fr,f1,f2,_,hp⟩:=h1
   obtain ⟨q,hq,hu⟩:=a7 hp e
   exact ⟨u0,fr,q,m,rfl,f1,f2,hq,hu⟩
theorem jK: ∀ {l:List Bt} {k j:Nat} {u:Bt} {p:List Nat},l[j]? =some u->p∈u.places->(k+j)::p∈bo k l
 | [],_,j,_,_,h,_=>by cases j <;> cases h
 | x::r,k,0,u,p,h,hp=>by
  cases h
  rw [cr]
  exact List.mem_append_left _ (List.mem_map.mpr ⟨p,hp,rfl⟩)
 | x::r,k,j+1,u,p,h,hp=>by
  have:=jK (k:=k+1) (l:=r) (j:=j) h hp
  rw [cr,show k+ (j+1)=k+1+j by lia]
  exact List.mem_append_right _ this
theorem cX: ∀ {pl:List Nat} {t u:Bt},t.at? pl=some u->pl∈t.places
 | [],t,u,_=>by rw [cS];exact List.mem_cons_self
 | k::r,t,u,e=>by
  have e:(t.ps[k]?).bind (fun x=>x.at? r)=some u:=e
  cases hk:t.ps[k]? with
  | none=>rw [hk]at e;cases e
  | some x=>
   rw [hk]at e
   have:=jK (k:=0) hk (cX (pl:=r) e)
   rw [Nat.zero_add]at this
   rw [cS]
   exact List.mem_cons_of_mem _ this
theorem cQ {α β:Type} {F:α->β->Prop}: ∀ {a c:List α} {b d:List β},Paired F a b->Paired F c d->Paired F (a++c) (b++d)
 | _,_,_,_,.nil,h=>h
 | _,_,_,_,.cons r t,h=>.cons r (cQ t h)
theorem eF {α β γ:Type} {F:α->β->Prop} {G:γ->β->Prop} {g:α->γ} (k: ∀ a b,F a b->G (g a) b): ∀ {l:List α} {r:List β},Paired F l r->Paired G (l.map g) r
 | _,_,.nil=>.nil
 | _,_,.cons h t=>.cons (k _ _ h) (eF k t)
theorem cN: ∀ (n:Nat) (t:Bt),t.sz<=n->Paired (fun p u=>t.at? p=some u) t.places t.subs
 | 0,t,h=>by have:=jq t;lia
 | n+1,t,h=>by
  have e:=nJ t
  have hl: ∀ (l:List Bt) (k:Nat) (pre:List Bt),t.ps=pre++l->pre.length=k->Paired (fun p u=>t.at? p=some u) (bo k l) (cJ l):=by
   intro l
   induction l with
   | nil=>intro k pre _ _;rw [dE,eP];exact .nil
   | cons x r ih=>
    intro k pre e1 e2
    rw [cr,dW]
    have hx:x∈t.ps:=by rw [e1];exact List.mem_append_right _ List.mem_cons_self
    have hsz:=jd hx
    have hk:t.ps[k]? =some x:=by rw [e1,List.getElem?_append_right (by lia),e2,Nat.sub_self];rfl
    refine cQ (eF (fun p u hp=>?_) (cN n x (by lia))) (ih (k+1) (pre++[x]) (by rw [e1,List.append_assoc];rfl) (by rw [List.length_append,e2];rfl))
    show (t.ps[k]?).bind (fun x=>x.at? p)=some u
    rw [hk]
    exact hp
  rw [cS,qk]
  exact .cons rfl (hl t.ps 0 [] rfl rfl)
noncomputable def cI (bk:Bk) (u:Bt):Srt:=match bk.forms.find? (fun fr=>decide (Frm.name fr=u.nm))with
 | some fr=>fr.own
 | none=>⟨"",[],[]⟩
theorem cG {bk:Bk} (nd:(bk.forms.map Frm.name).Nodup) {u:Bt} {fr:Frm} (h1:fr∈bk.forms) (h2:Frm.name fr=u.nm):cI bk u=fr.own:=by
 unfold cI
 cases h:bk.forms.find? (fun fr=>decide (Frm.name fr=u.nm))with
 | none=>exact absurd (decide_eq_true h2) (by simpa using List.find?_eq_none.mp h fr h1)
 | some f=>
  have h3:decide (Frm.name f=u.nm)=true:=by simpa using List.find?_some h
  have e:f=fr:=de nd (List.mem_of_find?_eq_some h) h1 (by rw [of_decide_eq_true h3,h2])
  rw [e]
noncomputable def dD (s:Srt):List Str:=s.downs++s.ups
noncomputable def dL (bk:Bk) (q:List Nat×Bt):List (List Nat×Str):=(dD (cI bk q.2)).map fun w=>(q.1,w)
noncomputable def be (bk:Bk) (t:Bt):List (List Nat×Str):=(t.places.zip t.subs).flatMap (dL bk)
noncomputable def spk (q:List Nat×Str):List Key×Key:=(av q.1,.inr q.2)
theorem hU {a b:List Nat×Str} (h:spk a=spk b):a=b:=by
 obtain ⟨p,w⟩:=a
 obtain ⟨p',w'⟩:=b
 have h1:p=p':=eX (Prod.mk.inj h).1
 have h2:w=w':=Sum.inr.inj (Prod.mk.inj h).2
 rw [h1,h2]
theorem jY {bk:Bk}: ∀ {l:List (List Nat×Bt)},(l.map (·.1)).Nodup->(∀ q∈l,(dD (cI bk q.2)).Nodup)->(l.flatMap (dL bk)).Nodup
 | [],_,_=>List.nodup_nil
 | q::r,h1,h2=>by
  rw [List.flatMap_cons,List.nodup_append]
  rw [List.map_cons,List.nodup_cons]at h1
  refine ⟨cK (fun a b e=>(Prod.mk.inj e).2) (h2 q List.mem_cons_self),jY h1.2 fun x hx=>h2 x (List.mem_cons_of_mem _ hx),fun a ha b hb e=>?_⟩
  obtain ⟨w,_,rfl⟩:=List.mem_map.mp ha
  obtain ⟨q',hq',hb'⟩:=List.mem_flatMap.mp hb
  obtain ⟨w',_,rfl⟩:=List.mem_map.mp hb'
  exact h1.1 (List.mem_map.mpr ⟨q',hq',(Prod.mk.inj e).1.symm⟩)
theorem lC {α β:Type}: ∀ {a:List α} {b:List β},a.length=b.length->(a.zip b).map (·.1)=a
 | [],[],_=>rfl
 | [],_::_,h=>by cases h
 | _::_,[],h=>by cases h
 | x::a,y::b,h=>by
  show x::(a.zip b).map (·.1)=x::a
  rw [lC (Nat.succ.inj h)]
theorem i4 {bk:Bk} {t:Bt} (h: ∀ u∈t.subs,(dD (cI bk u)).Nodup):((be bk t).map spk).Nodup:=by
 refine cK (fun a b e=>hU e) (jY ?_ fun q hq=>h q.2 (List.of_mem_zip hq).2)
 rw [lC (Paired.length (cN t.sz t (Nat.le_refl _)))]
 exact dO t.sz t (Nat.le_refl _)
theorem jn {κ:Type} [DecidableEq κ]: ∀ {kvs:List (κ×V)} {k:κ} {v:V},(kvs.map (·.1)).Nodup->(k,v)∈kvs->aO kvs k=some v
 | [],_,_,_,h=>by cases h
 | p::r,k,v,nd,h=>by
  rw [List.map_cons,List.nodup_cons]at nd
  rcases List.mem_cons.mp h with e | h
  ·rw [<- e];exact bQ rfl
  ·have: ¬ p.1=k:=fun e=>nd.1 (by rw [e];exact List.mem_map.mpr ⟨(k,v),h,rfl⟩)
   rw [bc this]
   exact jn nd.2 h
theorem vc {H:Hp} {n:Nat} {t u:Bt} {kvs:List (List Key×V)} {pl:List Nat} (hk:kvs.map (·.1)=t.places.map av) (hv:Paired (RepT H n) t.subs (kvs.map (·.2))) (e:t.at? pl=some u): ∃ v,aO kvs (av pl)=some v/\RepT H n u v:=by
 obtain ⟨i,hi⟩:=List.getElem?_of_mem (cX e)
 obtain ⟨u',hu,hat⟩:=a7 (cN t.sz t (Nat.le_refl _)) hi
 rw [e]at hat
 cases hat
 obtain ⟨v,hvi,hR⟩:=a7 hv hu
 have nd:(kvs.map (·.1)).Nodup:=by rw [hk];exact cK (fun a b z=>eX z) (dO t.sz t (Nat.le_refl _))
 refine ⟨v,jn nd ?_,hR⟩
 have h1:(kvs.map (·.1))[i]? =some (av pl):=by rw [hk,List.getElem?_map,hi];rfl
 rw [List.getElem?_map]at h1 hvi
 cases hkv:kvs[i]? with
 | none=>rw [hkv]at h1;cases h1
 | some kv=>
  rw [hkv]at h1 hvi
  have:kv=(av pl,v):=by rw [<- Option.some.inj h1,<- Option.some.inj hvi]
  rw [<- this]
  exact List.mem_of_getElem? hkv
theorem iV {κ:Type} [DecidableEq κ] {kvs:List (κ×V)} {k:κ} {v:V} (h:k∉kvs.map (·.1)):(aX kvs k v).map (·.1)=kvs.map (·.1)++[k]:=by
 unfold aX
 rw [if_neg,List.map_append]
 ·rfl
 ·intro z
  obtain ⟨p,hp,e⟩:=List.any_eq_true.mp z
  exact h (List.mem_map.mpr ⟨p,hp,of_decide_eq_true e⟩)
theorem sf {κ:Type} [DecidableEq κ] {kvs:List (κ×V)} {k:κ} {v:V} (h:k∈kvs.map (·.1)):(aX kvs k v).map (·.1)=kvs.map (·.1):=by
 unfold aX
 rw [if_pos,List.map_map]
 ·refine List.map_congr_left fun p _=>?_
  show (if p.1=k then (p.1,v)else p).1=p.1
  split <;> rfl
 ·obtain ⟨p,hp,e⟩:=List.mem_map.mp h
  exact List.any_eq_true.mpr ⟨p,hp,decide_eq_true e⟩
noncomputable def Fm.rdk:Fm->List (List Key)
 | .num _=>[]
 | .own x=>[[.inr "own",.inr x]]
 | .part k x=>[[.inr "part",.inl k,.inr x]]
 | .bin _ a b=>a.rdk++b.rdk
 | .whn a b c=>a.rdk++(b.rdk++c.rdk)
noncomputable def fsz:List Fm->Nat
 | []=>0
 | f::r=>f.size+fsz r
noncomputable def cO:List Fm->List (List Key)
 | []=>[]
 | f::r=>f.rdk++cO r
theorem Tw.of {H:Hp}: ∀ (n:Nat) {fs:List Fm} {ws:List V},fsz fs=n->Paired (fun f v=>Rep H f v/\f.wf) fs ws-> ∃ out,Tw H ws out (cO fs)/\out.length=n:=by
 intro n
 induction n using Nat.strongRecOn with
 | _ n ih=>
  intro fs ws hn h
  cases h with
  | nil=>exact ⟨[],.nil,hn⟩
  | @cons f v fs ws hf t=>
   obtain ⟨rp,wf⟩:=hf
   have hn:f.size+fsz fs=n:=hn
   cases f with
   | num i=>
    obtain ⟨a,rfl,ha⟩:=rp
    have hn:1+fsz fs=n:=hn
    obtain ⟨out,h1,h2⟩:=ih (fsz fs) (by lia) rfl t
    exact ⟨_,.num ha (by simp) h1,by rw [List.length_cons,h2];lia⟩
   | own x=>
    obtain ⟨a,rfl,ha⟩:=rp
    have hn:1+fsz fs=n:=hn
    obtain ⟨out,h1,h2⟩:=ih (fsz fs) (by lia) rfl t
    exact ⟨_,.rd (ks:=[.inr "own",.inr x]) ha (.inl ⟨x,rfl,di wf⟩) h1,by rw [List.length_cons,h2];lia⟩
   | part k x=>
    obtain ⟨a,rfl,ha⟩:=rp
    obtain ⟨w0,w1⟩:(0<=k/\k<=2)/\cj x=true:=wf
    have hn:1+fsz fs=n:=hn
    obtain ⟨out,h1,h2⟩:=ih (fsz fs) (by lia) rfl t
    exact ⟨_,.rd (ks:=[.inr "part",.inl k,.inr x]) ha (.inr ⟨k,x,rfl,di w1⟩) h1,by rw [List.length_cons,h2];lia⟩
   | bin op A B=>
    obtain ⟨a,u,w,rfl,ha,r1,r2⟩:=rp
    obtain ⟨ho,w1,w2⟩:op∈ops/\A.wf/\B.wf:=wf
    have hn:A.size+B.size+1+fsz fs=n:=hn
    obtain ⟨out,h1,h2⟩:=ih (A.size+ (B.size+fsz fs)) (by lia) (fs:=A::B::fs) rfl (.cons ⟨r1,w1⟩ (.cons ⟨r2,w2⟩ t))
    refine ⟨.ref a::out,?_,by rw [List.length_cons,h2];lia⟩
    rw [show cO (Fm.bin op A B::fs)=cO (A::B::fs)from List.append_assoc _ _ _]
    exact .inn ha (by rw [sk ho];rfl) (rD ho) (by simp) h1
   | whn A B C=>
    obtain ⟨a,u,w,z,rfl,ha,r1,r2,r3⟩:=rp
    obtain ⟨w1,w2,w3⟩:A.wf/\B.wf/\C.wf:=wf
    have hn:A.size+B.size+C.size+1+fsz fs=n:=hn
    obtain ⟨out,h1,h2⟩:=ih (A.size+ (B.size+ (C.size+fsz fs))) (by lia) (fs:=A::B::C::fs) rfl (.cons ⟨r1,w1⟩ (.cons ⟨r2,w2⟩ (.cons ⟨r3,w3⟩ t)))
    refine ⟨.ref a::out,?_,by rw [List.length_cons,h2];lia⟩
    rw [show cO (Fm.whn A B C::fs)=cO (A::B::C::fs)from by show (A.rdk++(B.rdk++C.rdk))++cO fs=A.rdk++(B.rdk++(C.rdk++cO fs));rw [List.append_assoc,List.append_assoc]]
    exact .inn ha (by rw [pV];rfl) (by decide +kernel) (by simp) h1
theorem Tw.of1 {H:Hp} {f:Fm} {v:V} (r:Rep H f v) (wf:f.wf): ∃ out,Tw H [v] out f.rdk/\out.length=f.size:=by
 obtain ⟨out,h1,h2⟩:=Tw.of (H:=H) f.size (fs:=[f]) (ws:=[v]) rfl (.cons ⟨r,wf⟩ .nil)
 rw [show cO [f]=f.rdk from List.append_nil _]at h1
 exact ⟨out,h1,h2⟩
theorem dy: ∀ f:Fm,f.rdk.length<=f.size
 | .num _=>Nat.zero_le _
 | .own _=>Nat.le_refl _
 | .part _ _=>Nat.le_refl _
 | .bin _ a b=>by
  have h1:=dy a
  have h2:=dy b
  show (a.rdk++b.rdk).length<=a.size+b.size+1
  rw [List.length_append];lia
 | .whn a b c=>by
  have h1:=dy a
  have h2:=dy b
  have h3:=dy c
  show (a.rdk++(b.rdk++c.rdk)).length<=a.size+b.size+c.size+1
  rw [List.length_append,List.length_append];lia
noncomputable def Rd1 (ks:List Key):Prop:=(∃ x:Str,ks=[.inr "own",.inr x]/\x.length<=1000)\/ ∃ (k:Nat) (x:Str),ks=[.inr "part",.inl (k:Int),.inr x]/\x.length<=1000
theorem fR: ∀ {f:Fm},f.wf-> ∀ ks∈f.rdk,Rd1 ks
 | .num _,_,_,h=>by cases h
 | .own x,wf,ks,h=>.inl ⟨x,List.mem_singleton.mp h,di wf⟩
 | .part k x,wf,ks,h=>by
  obtain ⟨⟨w0,_⟩,w1⟩:(0<=k/\k<=2)/\cj x=true:=wf
  exact .inr ⟨k.toNat,x,by rw [Int.toNat_of_nonneg w0];exact List.mem_singleton.mp h,di w1⟩
 | .bin _ a b,wf,ks,h=>by
  obtain ⟨_,w1,w2⟩:_/\a.wf/\b.wf:=wf
  rcases List.mem_append.mp h with h | h
  ·exact fR w1 ks h
  ·exact fR w2 ks h
 | .whn a b c,wf,ks,h=>by
  obtain ⟨w1,w2,w3⟩:a.wf/\b.wf/\c.wf:=wf
  rcases List.mem_append.mp h with h | h
  ·exact fR w1 ks h
  ·rcases List.mem_append.mp h with h | h
   ·exact fR w2 ks h
   ·exact fR w3 ks h
theorem nA: ∀ {a acc b:List (List Key)},dd acc (a++b)=dd (dd acc a) b
 | [],_,_=>rfl
 | x::a,acc,b=>nA (a:=a)
theorem uG: ∀ {rs acc:List (List Key)} {x:List Key},x∈acc\/x∈rs->x∈dd acc rs
 | [],acc,x,h=>h.elim id (fun z=>by cases z)
 | y::r,acc,x,h=>by
  refine uG (rs:=r) ?_
  by_cases e:y∈acc
  ·rw [if_pos e]
   rcases h with h | h
   ·exact .inl h
   ·rcases List.mem_cons.mp h with z | z
    ·exact .inl (by rw [z];exact e)
    ·exact .inr z
  ·rw [if_neg e]
   rcases h with h | h
   ·exact .inl (List.mem_append_left _ h)
   ·rcases List.mem_cons.mp h with z | z
    ·exact .inl (List.mem_append_right _ (List.mem_singleton.mpr z))
    ·exact .inr z
theorem wM: ∀ {rs b acc:List (List Key)},dd acc (dd b rs)=dd (dd acc b) rs
 | [],_,_=>rfl
 | x::r,b,acc=>by
  show dd acc (dd (if x∈b then b else b++[x]) r)=dd (if x∈dd acc b then dd acc b else dd acc b++[x]) r
  rw [wM (rs:=r)]
  by_cases e:x∈b
  ·rw [if_pos e,if_pos (uG (.inr e))]
  ·rw [if_neg e,nA]
   rfl
inductive Rl (bk:Bk) (t:Bt):List Nat×Str->List Nat×Fm->Prop where
 | up {pl:List Nat} {u:Bt} {fr:Frm} {r:Rul}:t.at? pl=some u->fr∈bk.forms->Frm.name fr=u.nm->r∈fr.rules->r.pl= -1->Rl bk t (pl,r.word) (pl,r.fm)
 | dn {pl:List Nat} {u:Bt} {fr:Frm} {r:Rul} {k:Nat}:t.at? pl=some u->fr∈bk.forms->Frm.name fr=u.nm->r∈fr.rules->r.pl=(k:Int)->Rl bk t (pl++[k],r.word) (pl,r.fm)
theorem dS {k:Int}: ∀ {qs:List Srt} {i:Int} {x:Str},(i,x)∈bM k qs-> ∃ (j:Nat) (q:Srt),i=k+ (j:Int)/\qs[j]? =some q/\x∈q.downs
 | [],_,_,h=>by cases h
 | q::r,i,x,h=>by
  have h:(i,x)∈q.downs.map (fun x=>(k,x))++bM (k+1) r:=h
  rcases List.mem_append.mp h with h | h
  ·obtain ⟨y,hy,e⟩:=List.mem_map.mp h
   cases e
   exact ⟨0,q,by lia,rfl,hy⟩
  ·obtain ⟨j,q',e,h1,h2⟩:=dS (k:=k+1) h
   exact ⟨j+1,q',by lia,h1,h2⟩
theorem kx {k:Int}: ∀ {qs:List Srt},(∀ q∈qs,q.downs.Nodup)->(bM k qs).Nodup
 | [],_=>List.nodup_nil
 | q::r,h=>by
  show (q.downs.map (fun x=>(k,x))++bM (k+1) r).Nodup
  refine List.nodup_append.mpr ⟨?_,kx fun x hx=>h x (List.mem_cons_of_mem _ hx),?_⟩
  ·have:=h q List.mem_cons_self
   exact List.Pairwise.map _ (fun a b (hab:a≠b) e=>hab (Prod.mk.inj e).2) this
  ·intro a ha b hb e
   subst e
   obtain ⟨y,hy,e⟩:=List.mem_map.mp ha
   subst e
   obtain ⟨j,_,e,_⟩:=dS hb
   lia
section
variable {bk:Bk} (h:BkS bk)
include h
theorem BkS.tnd {fr:Frm} (m:fr∈bk.forms):(fr.rules.map fun r=>(r.pl,r.word)).Nodup:=by
 obtain ⟨h1,h2,_,h4,_⟩:=h.fo fr m
 rw [h4]
 unfold dj
 refine List.nodup_append.mpr ⟨?_,kx fun q hq=>(List.nodup_append.mp (h.ws q (h2 q hq)).2.2.1).1,?_⟩
 ·have:=(List.nodup_append.mp (h.ws _ h1).2.2.1).2.1
  exact List.Pairwise.map _ (fun a b (hab:a≠b) e=>hab (Prod.mk.inj e).2) this
 ·intro a ha b hb e
  subst e
  obtain ⟨y,hy,e⟩:=List.mem_map.mp ha
  subst e
  obtain ⟨j,_,e,_⟩:=dS hb
  lia
theorem BkS.rinj {fr:Frm} (m:fr∈bk.forms) {r r':Rul} (a:r∈fr.rules) (b:r'∈fr.rules) (e1:r.pl=r'.pl) (e2:r.word=r'.word):r=r':=by
 have nd:=h.tnd m
 obtain ⟨i,hi,ei⟩:=List.getElem_of_mem a
 obtain ⟨j,hj,ej⟩:=List.getElem_of_mem b
 have:=(List.getElem_inj (i:=i) (j:=j) (h₀:=by rw [List.length_map];exact hi) (h₁:=by rw [List.length_map];exact hj) nd).mp (by rw [List.getElem_map,List.getElem_map,ei,ej,e1,e2])
 subst this
 rw [<- ei,<- ej]
theorem BkS.upw {fr:Frm} (m:fr∈bk.forms) {r:Rul} (a:r∈fr.rules) (e:r.pl= -1):r.word∈fr.own.ups:=by
 obtain ⟨_,_,_,h4,_⟩:=h.fo fr m
 have:(r.pl,r.word)∈dj fr.own fr.parts:=by rw [<- h4];exact List.mem_map.mpr ⟨r,a,rfl⟩
 unfold dj at this
 rcases List.mem_append.mp this with z | z
 ·obtain ⟨y,hy,q⟩:=List.mem_map.mp z
  rw [<- (Prod.mk.inj q).2];exact hy
 ·obtain ⟨j,_,q,_⟩:=dS z
  lia
theorem BkS.dnw {fr:Frm} (m:fr∈bk.forms) {r:Rul} (a:r∈fr.rules) {k:Nat} (e:r.pl=(k:Int)): ∃ q,fr.parts[k]? =some q/\r.word∈q.downs:=by
 obtain ⟨_,_,_,h4,_⟩:=h.fo fr m
 have:(r.pl,r.word)∈dj fr.own fr.parts:=by rw [<- h4];exact List.mem_map.mpr ⟨r,a,rfl⟩
 unfold dj at this
 rcases List.mem_append.mp this with z | z
 ·obtain ⟨y,hy,q⟩:=List.mem_map.mp z
  have:=(Prod.mk.inj q).1
  lia
 ·obtain ⟨j,q,e',h1,h2⟩:=dS z
  have:j=k:=by lia
  subst this
  exact ⟨q,h1,h2⟩
theorem BkS.plw {fr:Frm} (m:fr∈bk.forms) {r:Rul} (a:r∈fr.rules):r.pl= -1\/ ∃ k:Nat,r.pl=(k:Int):=by
 obtain ⟨_,_,_,h4,_⟩:=h.fo fr m
 have:(r.pl,r.word)∈dj fr.own fr.parts:=by rw [<- h4];exact List.mem_map.mpr ⟨r,a,rfl⟩
 unfold dj at this
 rcases List.mem_append.mp this with z | z
 ·obtain ⟨y,hy,q⟩:=List.mem_map.mp z
  exact .inl (Prod.mk.inj q).1.symm
 ·obtain ⟨j,q,e',h1,h2⟩:=dS z
  exact .inr ⟨j,by lia⟩
variable {n:Nat} {t:Bt} {s:Srt} (ht:TrS bk n t s)
include ht
theorem BkS.dnsort {pl:List Nat} {u:Bt} (hu:t.at? pl=some u) {fr:Frm} (m:fr∈bk.forms) (e:Frm.name fr=u.nm) {k:Nat} {q:Srt} (hq:fr.parts[k]? =some q): ∃ u',t.at? (pl++[k])=some u'/\cI bk u'=q:=by
 obtain ⟨m',s',h1⟩:=ht.at hu
 cases m' with
 | zero=>exact h1.elim
 | succ m'=>
  obtain ⟨fr',f1,f2,_,hp⟩:=h1
  have:fr'=fr:=de h.nd f1 m (by rw [f2,e])
  subst this
  obtain ⟨u',e1,e2⟩:=aC hp hq
  obtain ⟨fx,x1,x2,x3⟩:=e2.frm
  refine ⟨u',?_,by rw [cG h.nd x1 x2,x3]⟩
  rw [Bt.at?_snoc,hu]
  exact e1
theorem BkS.updn {pl:List Nat} {u:Bt} {fr:Frm} {r:Rul} (a1:t.at? pl=some u) (a2:fr∈bk.forms) (a3:Frm.name fr=u.nm) (a4:r∈fr.rules) (a5:r.pl= -1)
  {pl':List Nat} {u':Bt} {fr':Frm} {r':Rul} {k:Nat} (b1:t.at? pl'=some u') (b2:fr'∈bk.forms) (b3:Frm.name fr'=u'.nm) (b4:r'∈fr'.rules) (b5:r'.pl=(k:Int)) (e:pl=pl'++[k]) (ew:r.word=r'.word):False:=by
 have w1:=h.upw a2 a4 a5
 obtain ⟨q,q1,q2⟩:=h.dnw b2 b4 b5
 obtain ⟨ux,x1,x2⟩:=h.dnsort ht b1 b2 b3 q1
 rw [<- e,a1]at x1
 cases x1
 rw [cG h.nd a2 a3]at x2
 have nd:=(h.ws _ (h.fo fr a2).1).2.2.1
 rw [<- x2,<- ew]at q2
 exact (List.nodup_append.mp nd).2.2 _ q2 _ w1 rfl
theorem Rl.uni {q:List Nat×Str} {a b:List Nat×Fm} (x:Rl bk t q a) (y:Rl bk t q b):a=b:=by
 obtain ⟨q1,q2⟩:=q
 generalize hq:(q1,q2)=q at x y
 cases x with
 | @up pl u fr r a1 a2 a3 a4 a5=>
  generalize hq':(pl,r.word)=q at y
  cases y with
  | @up pl' u' fr' r' b1 b2 b3 b4 b5=>
   obtain ⟨e1,e2⟩:=Prod.mk.inj hq'
   subst e1
   rw [a1]at b1
   cases b1
   have:=de h.nd a2 b2 (by rw [a3,b3])
   subst this
   rw [h.rinj a2 a4 b4 (by rw [a5,b5]) e2]
  | @dn pl' u' fr' r' k b1 b2 b3 b4 b5=>
   obtain ⟨e1,e2⟩:=Prod.mk.inj hq'
   exact (h.updn ht a1 a2 a3 a4 a5 b1 b2 b3 b4 b5 e1 e2).elim
 | @dn pl u fr r k a1 a2 a3 a4 a5=>
  generalize hq':(pl++[k],r.word)=q at y
  cases y with
  | @up pl' u' fr' r' b1 b2 b3 b4 b5=>
   obtain ⟨e1,e2⟩:=Prod.mk.inj hq'
   exact (h.updn ht b1 b2 b3 b4 b5 a1 a2 a3 a4 a5 e1.symm e2.symm).elim
  | @dn pl' u' fr' r' k' b1 b2 b3 b4 b5=>
   obtain ⟨e1,e2⟩:=Prod.mk.inj hq'
   obtain ⟨e3,e4⟩:=List.append_inj' e1 rfl
   subst e3
   have e4:k=k':=by simpa using e4
   subst e4
   rw [a1]at b1
   cases b1
   have:=de h.nd a2 b2 (by rw [a3,b3])
   subst this
   rw [h.rinj a2 a4 b4 (by rw [a5,b5]) e2]
theorem Rl.top {u:Bt} (hu:t.at? []=some u) {w:Str} (hw:w∈(cI bk u).downs) {a:List Nat×Fm}: ¬ Rl bk t ([],w) a:=fun x=>by
 generalize hq:(([]:List Nat),w)=q at x
 cases x with
 | @up pl u' fr r a1 a2 a3 a4 a5=>
  obtain ⟨e1,e2⟩:=Prod.mk.inj hq
  subst e1
  rw [hu]at a1
  cases a1
  have w1:=h.upw a2 a4 a5
  rw [cG h.nd a2 a3]at hw
  rw [e2]at hw
  exact (List.nodup_append.mp (h.ws _ (h.fo fr a2).1).2.2.1).2.2 _ hw _ w1 rfl
 | @dn pl u' fr r k a1 a2 a3 a4 a5=>
  obtain ⟨e1,e2⟩:=Prod.mk.inj hq
  exact absurd e1.symm (by simp)
end
noncomputable def fL (p:List Nat):List Key->List Nat×Str
 | [.inr _,.inr x]=>(p,x)
 | [.inr _,.inl k,.inr x]=>(p++[k.toNat],x)
 | _=>(p,"")
noncomputable def Rds (bk:Bk) (t:Bt) (q:List Nat×Str) (l:List (List Nat×Str)):Prop:=
 ((∀ a,¬ Rl bk t q a)/\l=[])\/ ∃ p fm,Rl bk t q (p,fm)/\fm.wf/\fm.size<=15/\l=(dd [] fm.rdk).map (fL p)
theorem Rds.uni {bk:Bk} (h:BkS bk) {n:Nat} {t:Bt} {s:Srt} (ht:TrS bk n t s) {q:List Nat×Str} {l m:List (List Nat×Str)} (x:Rds bk t q l) (y:Rds bk t q m):l=m:=by
 rcases x with ⟨x1,x2⟩ | ⟨p,fm,x1,_,_,x2⟩
 ·rcases y with ⟨y1,y2⟩ | ⟨p',fm',y1,_⟩
  ·rw [x2,y2]
  ·exact absurd y1 (x1 _)
 ·rcases y with ⟨y1,y2⟩ | ⟨p',fm',y1,_,_,y2⟩
  ·exact absurd x1 (y1 _)
  ·have e:=Rl.uni h ht x1 y1
   cases e
   rw [x2,y2]
theorem fJ {κ:Type} [DecidableEq κ]: ∀ {kvs:List (κ×V)} {k:κ} {v:V},aO kvs k=some v->(k,v)∈kvs
 | [],_,_,h=>by cases h
 | p::r,k,v,h=>by
  by_cases c:p.1=k
  ·rw [bQ c]at h
   have:p=(k,v):=by rw [<- c,<- Option.some.inj h]
   rw [this];exact List.mem_cons_self
  ·rw [bc c]at h
   exact List.mem_cons_of_mem _ (fJ h)
theorem ndT {H:Hp} {d:Addr} {kvs:List (List Key×V)} (h:H d=some (.dT kvs)): ∀ xs,H d≠some (.tup xs)/\H d≠some (.lst xs):=fun xs=>⟨fun z=>by (rw [h]at z;cases z),fun z=>by (rw [h]at z;cases z)⟩
theorem ndK {H:Hp} {d:Addr} {kvs:List (Key×V)} (h:H d=some (.dK kvs)): ∀ xs,H d≠some (.tup xs)/\H d≠some (.lst xs):=fun xs=>⟨fun z=>by (rw [h]at z;cases z),fun z=>by (rw [h]at z;cases z)⟩
theorem ndP {H:Hp} {d:Addr} {kvs:List ((List Key×Key)×V)} (h:H d=some (.dP kvs)): ∀ xs,H d≠some (.tup xs)/\H d≠some (.lst xs):=fun xs=>⟨fun z=>by (rw [h]at z;cases z),fun z=>by (rw [h]at z;cases z)⟩
theorem nR {r r':Rul} (e:dM r=dM r'):r.pl=r'.pl/\r.word=r'.word:=by
 unfold dM at e
 obtain ⟨e1,e2⟩:=List.cons.inj e
 exact ⟨Sum.inl.inj e1,Sum.inr.inj (List.cons.inj e2).1⟩
noncomputable def ToldAt (H:Hp) (kvs:List (List Key×V)) (r:Rul):Prop:= ∃ T x l ys,aO kvs (dM r)=some (.ref T)/\H T=some (.tup [x,.ref l])/\H l=some (.lst ys)/\KsOf H ys (dd [] r.fm.rdk)
theorem ToldAt.kp {d:Addr} {H H':Hp} {kvs:List (List Key×V)} {r:Rul} (k:Kp d H H') (hd: ∀ xs,H d≠some (.tup xs)/\H d≠some (.lst xs)):ToldAt H kvs r->ToldAt H' kvs r:=fun ⟨T,x,l,ys,e,h1,h2,h3⟩=>
 ⟨T,x,l,ys,e,k _ _ h1 (fun z=>(hd _).1 (by rw [<- z];exact h1)),k _ _ h2 (fun z=>(hd _).2 (by rw [<- z];exact h2)),h3.mono fun b xs e=>k _ _ e fun z=>(hd _).1 (by rw [<- z];exact e)⟩
noncomputable def ToldOk (H:Hp) (fr:Frm) (kvs:List (List Key×V)):Prop:= ∀ r∈fr.rules,ToldAt H kvs r
theorem ToldOk.kp {d:Addr} {H H':Hp} {fr:Frm} {kvs:List (List Key×V)} (k:Kp d H H') (hd: ∀ xs,H d≠some (.tup xs)/\H d≠some (.lst xs)) (h:ToldOk H fr kvs):ToldOk H' fr kvs:=fun r hr=>(h r hr).kp k hd
inductive o0  (vs:List V) (H:Hp) (Q:VK) (E_:XK):Prop
 | mk: ∀ v fr,(vs=[v])->(RepF H fr v)->(fr.rules.length<=12)->((∀ r∈fr.rules,r.fm.wf/\r.fm.size<=15))->((∀ r∈fr.rules,∀ r'∈fr.rules,dM r=dM r'->r=r'))->(∀ d kvs H',H d=none->Same H H'->H' d=some (.dT kvs)->ToldOk H' fr kvs->Q (.ref d) H')->o0 vs H Q E_
noncomputable def ToldN (H:Hp) (bk:Bk) (kvs:List (Key×V)) (nm:Str):Prop:= ∃ td kv2 fr,fr∈bk.forms/\Frm.name fr=nm/\aO kvs (.inr nm)=some (.ref td)/\H td=some (.dT kv2)/\ToldOk H fr kv2
theorem ToldN.same {H H':Hp} {bk:Bk} {kvs:List (Key×V)} {nm:Str} (s:Same H H'):ToldN H bk kvs nm->ToldN H' bk kvs nm:=fun ⟨td,kv2,fr,h1,h2,h3,h4,h5⟩=>⟨td,kv2,fr,h1,h2,h3,s _ _ h4,fun r hr=>let ⟨T,x,l,ys,e,g1,g2,g3⟩:=h5 r hr;⟨T,x,l,ys,e,s _ _ g1,s _ _ g2,g3.mono (ay s)⟩⟩
inductive lM  (vs:List V) (H:Hp) (Q:VK) (E_:XK):Prop
 | mk: ∀ bv bk nl nms,(vs=[bv,.ref nl])->(RepB H bk bv)->(BkS bk)->(H nl=some (.lst (List.map V.str nms)))->(nms.length<=1000)->((∀ nm∈nms,∃ fr∈bk.forms,Frm.name fr=nm))->(∀ d kvs H',H d=none->Same H H'->H' d=some (.dK kvs)->(∀ nm∈nms,ToldN H' bk kvs nm)->Q (.ref d) H')->lM vs H Q E_
noncomputable abbrev y8:List Str:=["form","told","key","formula"]
theorem scTold:aG y8 ["form"] (ak tG):=fsc
theorem vI (F:Fun K "told_by_form" "told_by_form" tG f fd)
  (GK:aE P w K mg base CX0 2 f2 fd2 ["form"] lT) (bK:Binds K fd2 ["form"] []) (kK:PySem.W.keepIn K (.ref f2)=true) (mK:mg "formulas_by_key"=some (.ref f2))
  (GR:aE P w K mg base CX0 3 f3 fd3 ["formula"] qm) (bR:Binds K fd3 ["formula"] []) (kR:PySem.W.keepIn K (.ref f3)=true) (mR:mg "readings_of"=some (.ref f3)):aE P w K mg base CX0 4 f fd ["form"] o0:=by
 refine F.ok scTold (fun vs H Q E h=>?_) (fun cdv A outer s H vs Q E hr h=>?_)
 ·obtain ⟨v,fr,rfl,_⟩:=h
  rfl
 obtain ⟨v,fr,rfl,hF,h12,hwf,hinj,q⟩:=h
 have hu:=cZ hr
 have hr2:=hr.mono (show 2<=3 by decide)
 refine ⟨_,ae (am (i:=1) scTold.nd rfl (Or.inl rfl) ig)
  (ae (a6 PassesOwn.never rfl (n0 (al GK hr2 rfl mK kK bK .nil aA (aa (pv 0) ad)))
    (cC rfl (aJ (au (i:=2) scTold.nd rfl (Or.inl rfl)) (aJ (au (i:=3) scTold.nd rfl (Or.inl rfl)) bV)))
   (aj (cA hu (pv 1) (pv 2) (aK (aa (pv 3) (aa (al GR hr rfl mR kR bR .nil aA (aa (pv 3) ad)) ad))) rfl)))
  (aj (aL (pv 1)))),?_⟩
 refine fun d hd=>?_
 have s0:=af hd (.dT [])
 have g0:(upd H d (.dT [])) d=some (.dT []):=ac
 generalize upd H d (.dT [])=H0 at s0 g0 ⊢
 refine ⟨_,rfl,v,fr,rfl,hF.mono (ay s0),h12,fun dk kv0 H1 hdk s1 gdk hl12 hkeys hreps=>?_⟩
 refine ⟨dk,kv0,rfl,.inl ⟨gdk,fun o=>?_⟩⟩
 have hdk0:H dk=none:=s0.free hdk
 have ndk:d≠dk:=fun z=>by rw [<- z,g0]at hdk;cases hdk
 have tkf:TK H1 (upd H1 dk (.frz o (.dT kv0))):=fun b xs e=>by rw [ah (fun z=>by rw [z,gdk]at e;cases e)];exact e
 have S1:Same H (upd H1 dk (.frz o (.dT kv0))):=fun b x e=>by rw [ah (ai e hdk0)];exact s1 _ _ (s0 _ _ e)
 have gd1:(upd H1 dk (.frz o (.dT kv0))) d=some (.dT []):=by rw [ah ndk];exact s1 _ _ g0
 have gk1:(upd H1 dk (.frz o (.dT kv0))) dk=some (.frz o (.dT kv0)):=ac
 have hrep1: ∀ kv∈kv0,∃ r∈fr.rules,kv.1=dM r/\Rep (upd H1 dk (.frz o (.dT kv0))) r.fm kv.2:=fun kv hkv=>by
  obtain ⟨r,h1,h0,h2⟩:=hreps kv hkv
  exact ⟨r,h1,h0,h2.mono tkf⟩
 generalize upd H1 dk (.frz o (.dT kv0))=H2 at S1 gd1 gk1 hrep1 ⊢
 refine li (kvs:=kv0) (fun i σ H'=>i<=kv0.length/\ ∃ o2 o3 kvs,σ=[some v,some (.ref d),o2,o3]/\Same H H'/\TK H2 H'/\H' dk=some (.frz o (.dT kv0))/\H' d=some (.dT kvs)/\kvs.length<=i/\ ∀ kv∈kv0.take i,∃ r∈fr.rules,kv.1=dM r/\ToldAt H' kvs r)
  ⟨Nat.zero_le _,none,none,[],rfl,S1,fun _ _ h=>h,gk1,gd1,Nat.le_refl _,fun kv h=>(by cases h)⟩ (fun i σ H' _ h=>by obtain ⟨_,_,_,_,_,_,_,g,_⟩:=h;exact g) ?_ ?_
 ·rintro i ks u T0 c σ H3 hx hT0 hc ⟨_,o2,o3,kvs,rfl,S3,tk3,gk3,gd3,hl,hv⟩
  have hil:i<kv0.length:=(List.getElem?_eq_some_iff.mp hx).1
  obtain ⟨r,hrm,hrk,hrep⟩:=hrep1 _ (List.mem_of_getElem? hx)
  have hrk:ks=dM r:=hrk
  have s4:=af hT0 (.tup [.ref c,u])
  have g4:(upd H3 T0 (.tup [.ref c,u])) T0=some (.tup [.ref c,u]):=ac
  generalize upd H3 T0 (.tup [.ref c,u])=H4 at s4 g4 ⊢
  refine ⟨T0,_,rfl,SqT.of g4,rfl,_,_,rfl,_,_,rfl,rfl,?_⟩
  obtain ⟨out,hTw,hlen⟩:=Tw.of1 (hrep.mono (TK.trans tk3 (ay s4))) (hwf r hrm).1
  have h15:=(hwf r hrm).2
  refine ⟨_,rfl,_,rfl,u,out,_,rfl,hTw,by lia,fun p ys H5 hp s5 gp hK=>?_⟩
  refine ⟨(by show 2<=sizeLine;decide),fun T hT=>?_⟩
  have s6:=af hT (.tup [u,.ref p])
  have g6:(upd H5 T (.tup [u,.ref p])) T=some (.tup [u,.ref p]):=ac
  generalize upd H5 T (.tup [u,.ref p])=H6 at s6 g6 ⊢
  have S36:Same H3 H6:=s4.trans (s5.trans s6)
  refine ⟨_,rfl,_,rfl,d,_,rfl,DPut.t (S36 _ _ gd3) (S36 _ _ hc) (ao (by lia)),?_⟩
  have tk:TK H6 (upd H6 d (.dT (aX kvs ks (.ref T)))):=fun b xs e=>by
   rw [ah (fun z=>by rw [z,S36 _ _ gd3]at e;cases e)]
   exact e
  refine ⟨hil,_,_,_,rfl,?_,TK.trans (TK.trans tk3 (ay S36)) tk,by rw [ah (Ne.symm ndk)];exact S36 _ _ gk3,ac,?_,?_⟩
  ·intro y oo h
   rw [ah (ai h hd)]
   exact S36 _ _ (S3 _ _ h)
  ·have:=bh kvs ks (.ref T)
   lia
  ·intro kv hkv
   have kd:Kp d H3 (upd H6 d (.dT (aX kvs ks (.ref T)))):=fun b x e n=>by rw [ah n];exact S36 _ _ e
   by_cases c':kv.1=ks
   ·refine ⟨r,hrm,c'.trans hrk,T,u,p,ys,by rw [<- hrk,bP,if_pos rfl],tk _ _ g6,?_,hK.mono fun b xs e=>tk _ _ (s6 _ _ e)⟩
    rw [ah (fun z=>by rw [z,(s4.trans s5) _ _ gd3]at gp;cases gp)]
    exact s6 _ _ gp
   ·rw [List.take_add_one,hx]at hkv
    rcases List.mem_append.mp hkv with h | h
    ·obtain ⟨r',hr',e0,T',x',l',y',e1,e2,e3,e4⟩:=hv kv h
     exact ⟨r',hr',e0,ToldAt.kp kd (ndT gd3) ⟨T',x',l',y',e1,e2,e3,e4⟩ |> fun ⟨T2,x2,l2,y2,f1,f2,f3,f4⟩=>⟨T2,x2,l2,y2,by rw [bP,if_neg (fun z=>c' (e0.trans z))];exact f1,f2,f3,f4⟩⟩
    ·have:kv=(ks,u):=by simpa using h
     exact absurd (by rw [this]) c'
 ·rintro σ H3 ⟨_,o2,o3,kvs,rfl,S3,tk3,gk3,gd3,hl,hv⟩
  rw [List.take_length]at hv
  refine ⟨_,rfl,q d kvs H3 hd S3 gd3 fun r hrm=>?_⟩
  obtain ⟨x,hx⟩:=hkeys r hrm
  obtain ⟨r',hr',e,z⟩:=hv _ (fJ hx)
  have e:dM r=dM r':=e
  rw [hinj r hrm r' hr' e]
  exact z
noncomputable abbrev xX:List Str:=["book","names","told","name"]
theorem scTolds:aG xX ["book","names"] (ak pi):=fsc
theorem ui (F:Fun K "told_by_forms" "told_by_forms" pi f fd)
  (GT:aE P w K mg base CX0 4 f2 fd2 ["form"] o0) (bT:Binds K fd2 ["form"] []) (kT:PySem.W.keepIn K (.ref f2)=true) (mT:mg "told_by_form"=some (.ref f2))
  (GN:aE P w K mg base CX0 2 f3 fd3 ["book","name"] eC) (bN:Binds K fd3 ["book","name"] []) (kN:PySem.W.keepIn K (.ref f3)=true) (mN:mg "form_named"=some (.ref f3)):aE P w K mg base CX0 5 f fd ["book","names"] lM:=by
 refine F.ok scTolds (fun vs H Q E h=>?_) (fun cdv A outer s H vs Q E hr h=>?_)
 ·obtain ⟨bv,bk,nl,nms,rfl,_⟩:=h
  rfl
 obtain ⟨bv,bk,nl,nms,rfl,hB,hok,hnl,hlen,hnm,q⟩:=h
 have hu:=cZ hr
 have hr2:=hr.mono (show 2<=4 by decide)
 refine ⟨_,ae (am (i:=2) scTolds.nd rfl (Or.inl rfl) fU)
  (ae (a6 PassesOwn.never rfl (cL (pv 1)) (au (i:=3) scTolds.nd rfl (Or.inl rfl))
   (aj (bi (mz (kO hu (pv 3) (pv 2)))
    (aj (cA hu (pv 2) (pv 3) (al GT hr rfl mT kT bT .nil aA (aa (al GN hr2 rfl mN kN bN .nil aA (aa (pv 0) (aa (pv 3) ad))) ad)) rfl)) aP)))
  (aj (aL (pv 2)))),?_⟩
 refine fun d hd=>?_
 have s0:=af hd (.dK [])
 have g0:(upd H d (.dK [])) d=some (.dK []):=ac
 generalize upd H d (.dK [])=H0 at s0 g0 ⊢
 have lV:(nms.map V.str).length=nms.length:=List.length_map _
 refine ⟨_,rfl,nl,rfl,⟨_,SqL.of (s0 _ _ hnl)⟩,?_⟩
 refine cD (xs:=nms.map V.str) (fun i σ H'=>i<=nms.length/\ ∃ o3 kvs,σ=[some bv,some (.ref nl),some (.ref d),o3]/\Same H H'/\H' d=some (.dK kvs)/\kvs.length<=i/\(∀ nm∈nms.take i,ToldN H' bk kvs nm)/\ ∀ nm x,aO kvs (.inr nm)=some x->ToldN H' bk kvs nm)
  ⟨Nat.zero_le _,none,[],rfl,s0,g0,Nat.le_refl _,fun nm h=>(by cases h),fun nm x h=>(by cases h)⟩ (fun i σ H' _ h=>by obtain ⟨_,_,_,_,sm,_⟩:=h;exact SqL.of (sm _ _ hnl)) ?_ ?_
 ·rintro i x σ H1 hx ⟨_,o3,kvs,rfl,S1,gd,hl,hv,hin⟩
  rw [List.getElem?_map]at hx
  obtain ⟨nm,hnmi,rfl⟩: ∃ nm,nms[i]? =some nm/\x=.str nm:=by
   cases h:nms[i]? with
   | none=>rw [h]at hx;cases hx
   | some nm=>rw [h]at hx;exact ⟨nm,rfl,(Option.some.inj hx).symm⟩
  have hil:i<nms.length:=(List.getElem?_eq_some_iff.mp hnmi).1
  refine ⟨_,rfl,_,rfl,d,_,rfl,DGet.k (k:=.inr nm) gd,_,rfl,?_⟩
  have hstep: ∀ m∈nms.take (i+1),m∈nms.take i\/m=nm:=fun m hm=>by
   rw [List.take_add_one,hnmi]at hm
   rcases List.mem_append.mp hm with h | h
   ·exact .inl h
   ·exact .inr (by simpa using h)
  refine cs (fun c=>?_) (fun c=>?_)
  ·obtain ⟨fr,hfr,hfn⟩:=hnm nm (List.mem_of_getElem? hnmi)
   refine ⟨_,rfl,_,rfl,bv,bk,nm,fr,rfl,hB.mono (ay S1),hok,hfr,hfn,fun fv H2 s2 hRF=>?_⟩
   refine ⟨fv,fr,rfl,hRF,hok.rules12 hfr,(hok.fo fr hfr).2.2.2.2,fun r hr r' hr' e=>hok.rinj hfr hr hr' (nR e).1 (nR e).2,fun td kv2 H3 htd s3 gtd hT=>?_⟩
   have S13:=s2.trans s3
   have ntd:td≠d:=fun z=>by have:=s2 _ _ gd;rw [<- z,htd]at this;cases this
   refine ⟨_,rfl,_,rfl,d,_,rfl,DPut.k (k:=.inr nm) (S13 _ _ gd) (ao (by lia)),?_⟩
   have tk:TK H3 (upd H3 d (.dK (aX kvs (.inr nm) (.ref td)))):=fun b xs e=>by
    rw [ah (fun z=>by rw [z,S13 _ _ gd]at e;cases e)]
    exact e
   have hnew:ToldN (upd H3 d (.dK (aX kvs (.inr nm) (.ref td)))) bk (aX kvs (.inr nm) (.ref td)) nm:=⟨td,kv2,fr,hfr,hfn,by rw [bP,if_pos rfl],by rw [ah ntd];exact gtd,hT.kp (d:=d) (fun b x e n=>by rw [ah n];exact e) (ndK (S13 _ _ gd))⟩
   have hold: ∀ m,m≠nm->ToldN H1 bk kvs m->ToldN (upd H3 d (.dK (aX kvs (.inr nm) (.ref td)))) bk (aX kvs (.inr nm) (.ref td)) m:=fun m hm ⟨td',kv',fr',e1,e2,e3,e4,e5⟩=>
    ⟨td',kv',fr',e1,e2,by rw [bP,if_neg (fun z=>hm (Sum.inr.inj z))];exact e3,by rw [ah (fun z=>by rw [z,gd]at e4;cases e4)];exact S13 _ _ e4,e5.kp (d:=d) (fun b x e n=>by rw [ah n];exact S13 _ _ e) (ndK gd)⟩
   refine ⟨hil,_,_,rfl,?_,ac,?_,?_,?_⟩
   ·intro y oo h
    rw [ah (ai h hd)]
    exact S13 _ _ (S1 _ _ h)
   ·have:=bh kvs (Sum.inr nm) (.ref td)
    lia
   ·intro m hm
    by_cases e:m=nm
    ·rw [e];exact hnew
    ·rcases hstep m hm with h | h
     ·exact hold m e (hv m h)
     ·exact absurd h e
   ·intro m x' hx'
    by_cases e:m=nm
    ·rw [e];exact hnew
    ·rw [bP,if_neg (fun z=>e (Sum.inr.inj z))]at hx'
     exact hold m e (hin m x' hx')
  ·refine ⟨hil,_,kvs,rfl,S1,gd,by lia,fun m hm=>?_,hin⟩
   rcases hstep m hm with h | h
   ·exact hv m h
   ·rw [h]
    cases hval:aO kvs (Sum.inr nm)with
    | none=>rw [hval]at c;exact absurd rfl c
    | some x'=>exact hin nm x' hval
 ·rintro σ H1 ⟨_,o3,kvs,rfl,S1,gd,hl,hv,hin⟩
  rw [lV,List.take_length]at hv
  exact ⟨_,rfl,q d kvs H1 hd S1 gd hv⟩
section
variable {X:Cx}
theorem pH (hu:X.A.units<cLine):OpR X (compareOp .NotEq) (fun x y H Q=> ∃ a b xs,x=.ref a/\y=.ref b/\SqT X.K H a xs/\SqT X.K H b []/\Q (.bl (!xs.isEmpty)) H):=by
 intro pins s σ H x y v u Q I rx ry h
 obtain ⟨a,b,xs,rfl,rfl,ha,hb,q⟩:=h
 cases rx
 cases ry
 obtain ⟨its,r,pl,_⟩:=I.tuple ha
 obtain ⟨its2,r2,pl2,_⟩:=I.tuple hb
 cases r2
 refine SeqAt.RcNeAt.tuples (e:=fun _=>true) pl pl2 hu (fun j _ h2=>absurd h2 (Nat.not_lt_zero _)) X.prog X.w X.xe _ ⟨V.bl _,H,I,?_,q⟩
 cases r with
 | nil=>rfl
 | cons r1 t=>simp [RelV]
end
theorem lm (zs:List V) (u:V):cV (zs++[u]) none (some (-1))=zs:=by
 have e:HT.sIx (zs++[u]).length (zs++[u]).length (some (-1))=zs.length:=by
  show (if (-1:Int) <0 then ((-1:Int) + ((zs++[u]).length:Int)).toNat else min (-1:Int).toNat (zs++[u]).length)=zs.length
  rw [if_pos (by decide),List.length_append]
  show ((-1:Int) + ((zs.length+1:Nat):Int)).toNat=zs.length
  lia
 unfold cV
 rw [e,HT.sIx_none,List.drop_zero,Nat.sub_zero,List.take_append_of_le_length (Nat.le_refl _),List.take_length]
theorem DGet.tf {H:Hp} {a b:Addr} {o:Obj} {kvs:List (List Key×V)} {k:List Key} (e:H a=some (.frz o (.dT kvs))) (eb:H b=some (.tup (k.map kV))):DGet H a (.ref b) (aO kvs k):=.inr (.inl ⟨kvs,k,b,.inr ⟨o,e⟩,rfl,eb,rfl⟩)
theorem cU {rd:Addr} {H H':Hp} {kr:List ((List Key×Key)×V)} (k:Kp rd H H') (h:H rd=some (.dP kr)):TK H H':=fun b xs e=>k b _ e fun z=>by rw [z,h]at e;cases e
theorem ToldN.kp {rd:Addr} {H H':Hp} {bk:Bk} {kvs:List (Key×V)} {nm:Str} {kr:List ((List Key×Key)×V)} (k:Kp rd H H') (h:H rd=some (.dP kr)):ToldN H bk kvs nm->ToldN H' bk kvs nm:=fun ⟨td,kv2,fr,h1,h2,h3,h4,h5⟩=>
 ⟨td,kv2,fr,h1,h2,h3,k _ _ h4 fun z=>by (rw [z,h]at h4;cases h4),h5.kp k (ndP h)⟩
theorem jH {H:Hp} {n:Nat} {t:Bt} {v:V} (h:RepT H n t v): ∃ a b,v=.ref a/\H a=some (.tup [.str t.nm,.ref b]):=by
 cases n with
 | zero=>exact h.elim
 | succ n=>obtain ⟨a,b,vs,e,h1,_⟩:=h;exact ⟨a,b,e,h1⟩
theorem iu {bk:Bk}: ∀ {l:List (List Nat×Bt)},(∀ q∈l,(dD (cI bk q.2)).length<=6)->(l.flatMap (dL bk)).length<=6*l.length
 | [],_=>Nat.le_refl _
 | q::r,h=>by
  have h1:=iu (bk:=bk) (l:=r) fun x hx=>h x (List.mem_cons_of_mem _ hx)
  have h2:=h q List.mem_cons_self
  have h3:(dL bk q).length=(dD (cI bk q.2)).length:=List.length_map _
  rw [List.flatMap_cons,List.length_append,List.length_cons]
  lia
noncomputable def spW (pl:List Nat) (w:Str):List Key×Key:=spk (pl,w)
noncomputable def aY (t:Bt):List (List Nat×Bt):=t.places.zip t.subs
noncomputable def gF (bk:Bk) (t:Bt) (i:Nat):List (List Key×Key):=(((aY t).drop i).flatMap (dL bk)).map spk
theorem tM {bk:Bk} {t:Bt} {i:Nat} {pl:List Nat} {u:Bt} (h:(aY t)[i]? =some (pl,u)):gF bk t i=(cI bk u).downs.map (spW pl)++((cI bk u).ups.map (spW pl)++gF bk t (i+1)):=by
 unfold gF
 have h1:=List.getElem?_eq_some_iff.mp h
 rw [List.drop_eq_getElem_cons h1.1,h1.2,List.flatMap_cons,List.map_append]
 show ((dD (cI bk u)).map fun w=>(pl,w)).map spk++_=_
 unfold dD
 rw [List.map_map,List.map_append,List.append_assoc]
 rfl
theorem lE {α β:Type}: ∀ {a:List α} {b:List β} {i:Nat} {x:α} {y:β},a[i]? =some x->b[i]? =some y->(a.zip b)[i]? =some (x,y)
 | [],_,i,_,_,h,_=>by cases i <;> cases h
 | _::_,[],i,_,_,_,h=>by cases i <;> cases h
 | _::_,_::_,0,_,_,h1,h2=>by cases h1;cases h2;rfl
 | _::a,_::b,i+1,_,_,h1,h2=>lE (a:=a) (b:=b) (i:=i) h1 h2
theorem gR {α:Type} {a r L:List α} {k:α} (e:a++k::r=L) (nd:L.Nodup):k∉a:=fun h=>by
 rw [<- e,List.nodup_append]at nd
 exact nd.2.2 k h k List.mem_cons_self rfl
theorem mE {α:Type} {a r L:List α} (e:a++r=L):a.length<=L.length:=by rw [<- e,List.length_append];lia
theorem gc {K:PySem.W.Frag} {H:Hp} {a b:Addr} {xs ys:List V} {Q:VK} (ha:H a=some (.tup xs)) (hb:H b=some (.tup ys)) (hl:xs.length+ys.length<=1000) (q: ∀ c H',Same H H'->H' c=some (.tup (xs++ys))->Q (.ref c) H'):jJ K (.ref a) (.ref b) H Q:=by
 refine ⟨a,b,_,_,rfl,rfl,SqT.of ha,SqT.of hb,Nat.le_of_lt (ao hl),fun e=>q b H (fun _ _ h=>h) ?_,fun _ e=>q a H (fun _ _ h=>h) ?_,fun _ _ p hp=>q p _ (af hp _) ac⟩
 ·rw [hb,e];rfl
 ·rw [ha,e,List.append_nil]
theorem qY {t u:Bt} {pl:List Nat} (h:t.at? pl=some u):u∈t.subs:=by
 obtain ⟨i,hi⟩:=List.getElem?_of_mem (cX h)
 obtain ⟨u',hu,hat⟩:=a7 (cN t.sz t (Nat.le_refl _)) hi
 rw [h]at hat
 cases hat
 exact List.mem_of_getElem? hu
theorem fC (p:List Nat) (k:Nat):(av (p++[k])).map kV=(av p).map kV++[V.int ((k:Nat):Int)]:=by
 unfold av
 rw [List.map_append,List.map_append]
 rfl
theorem lJ {l:List Str} {j:Nat} {x:V} (h:(l.map V.str)[j]? =some x): ∃ w,l[j]? =some w/\x=.str w:=by
 rw [List.getElem?_map]at h
 cases e:l[j]? with
 | none=>rw [e]at h;cases h
 | some w=>rw [e]at h;exact ⟨w,rfl,(Option.some.inj h).symm⟩
theorem nv {α:Type} {l:List α} {j:Nat} {w:α} (h:l[j]? =some w):l.drop j=w::l.drop (j+1):=by
 have h1:=List.getElem?_eq_some_iff.mp h
 rw [List.drop_eq_getElem_cons h1.1,h1.2]
noncomputable def RV (H:Hp) (bk:Bk) (t:Bt) (q:List Nat×Str) (v:V):Prop:=(v=.non/\ ∀ a,¬ Rl bk t q a)\/ ∃ p fm T c f l ys,Rl bk t q (p,fm)/\fm.wf/\fm.size<=15/\v=.ref T/\H T=some (.tup [.ref c,f,.ref l])/\H c=some (.tup ((av p).map kV))/\H l=some (.lst ys)/\KsOf H ys (dd [] fm.rdk)
theorem RV.kp {rd:Addr} {H H':Hp} {bk:Bk} {t:Bt} {q:List Nat×Str} {v:V} {kr:List ((List Key×Key)×V)} (k:Kp rd H H') (h:H rd=some (.dP kr)):RV H bk t q v->RV H' bk t q v:=fun x=>by
 rcases x with x | ⟨p,fm,T,c,f,l,ys,h1,h2,h3,h4,h5,h6,h7,h8⟩
 ·exact .inl x
 ·exact .inr ⟨p,fm,T,c,f,l,ys,h1,h2,h3,h4,cU k h _ _ h5,cU k h _ _ h6,k _ _ h7 (fun z=>by rw [z,h]at h7;cases h7),h8.mono (cU k h)⟩
noncomputable def RVs (H:Hp) (bk:Bk) (t:Bt) (kr:List ((List Key×Key)×V)):Prop:= ∀ kv∈kr,∃ q,kv.1=spk q/\RV H bk t q kv.2
theorem RVs.kp {rd:Addr} {H H':Hp} {bk:Bk} {t:Bt} {kr kr':List ((List Key×Key)×V)} (k:Kp rd H H') (h:H rd=some (.dP kr')) (x:RVs H bk t kr):RVs H' bk t kr:=fun kv hkv=>let ⟨q,e,r⟩:=x kv hkv;⟨q,e,r.kp k h⟩
theorem RVs.put {rd:Addr} {H H':Hp} {bk:Bk} {t:Bt} {kr kr':List ((List Key×Key)×V)} {q:List Nat×Str} {v:V} (k:Kp rd H H') (h:H rd=some (.dP kr')) (x: ∀ kv∈kr,kv.1≠spk q-> ∃ q,kv.1=spk q/\RV H bk t q kv.2) (n:RV H' bk t q v):RVs H' bk t (aX kr (spk q) v):=fun kv hkv=>by
 unfold aX at hkv
 split at hkv
 ·obtain ⟨p,hp,e⟩:=List.mem_map.mp hkv
  by_cases c:p.1=spk q
  ·rw [if_pos c]at e
   exact ⟨q,by rw [<- e];exact c,by rw [<- e];exact n⟩
  ·rw [if_neg c]at e
   obtain ⟨q',e',r⟩:=x p hp c
   exact ⟨q',by rw [<- e];exact e',by rw [<- e];exact r.kp k h⟩
 ·rcases List.mem_append.mp hkv with hm | hm
  ·by_cases c:kv.1=spk q
   ·rename_i hno
    exact absurd (List.any_eq_true.mpr ⟨kv,hm,decide_eq_true c⟩) hno
   ·obtain ⟨q',e',r⟩:=x kv hm c
    exact ⟨q',e',r.kp k h⟩
  ·have:kv=(spk q,v):=by simpa using hm
   exact ⟨q,by rw [this],by rw [this];exact n⟩
theorem xf {κ:Type} [DecidableEq κ] {kvs:List (κ×V)} {k:κ} {v:V} {kv:κ×V} (h:kv∈aX kvs k v) (n:kv.1≠k):kv∈kvs:=by
 rcases ji h with h | h
 ·exact h
 ·exact absurd h.1 n
inductive jy  (vs:List V) (H:Hp) (Q:VK) (E_:XK):Prop
 | mk: ∀ bv tv bk n t m s,(vs=[bv,tv])->(RepB H bk bv)->(BkS bk)->(RepT H n t tv)->(TrS bk m t s)->(t.sz<=100)->(∀ d kvs H',H d=none->Same H H'->H' d=some (.dP kvs)->kvs.map (·.1)=(be bk t).map spk->RVs H' bk t kvs->Q (.ref d) H')->jy vs H Q E_
noncomputable abbrev qP:List Str:=["book","tree","boughs","bough","told","rules","place","sort","down","above","up"]
theorem scBySpot:aG qP ["book","tree"] (ak jh):=fsc
theorem rV (F:Fun K "rules_by_spot" "rules_by_spot" jh f fd)
  (GB:aE P w K mg base CX0 1 f2 fd2 ["tree"] iL) (bB:Binds K fd2 ["tree"] []) (kB:PySem.W.keepIn K (.ref f2)=true) (mB:mg "boughs_by_place"=some (.ref f2))
  (GT:aE P w K mg base CX0 5 f3 fd3 ["book","names"] lM) (bT:Binds K fd3 ["book","names"] []) (kT:PySem.W.keepIn K (.ref f3)=true) (mT:mg "told_by_forms"=some (.ref f3))
  (GS:aE P w K mg base CX0 3 f4 fd4 ["book","tree"] jt) (bS:Binds K fd4 ["book","tree"] []) (kS:PySem.W.keepIn K (.ref f4)=true) (mS:mg "sort_of"=some (.ref f4))
  (GD:aE P w K mg base CX0 3 f5 fd5 ["book","sort"] lQ) (bD:Binds K fd5 ["book","sort"] []) (kD:PySem.W.keepIn K (.ref f5)=true) (mD:mg "downs_of"=some (.ref f5))
  (GU:aE P w K mg base CX0 3 f6 fd6 ["book","sort"] sW) (bU:Binds K fd6 ["book","sort"] []) (kU:PySem.W.keepIn K (.ref f6)=true) (mU:mg "ups_of"=some (.ref f6)):aE P w K mg base CX0 6 f fd ["book","tree"] jy:=by
 refine F.ok scBySpot (fun vs H Q E h=>?_) (fun cdv A outer s H vs Q E hr h=>?_)
 ·obtain ⟨bv,tv,bk,n,t,m,s,rfl,_⟩:=h
  rfl
 obtain ⟨bv,tv,bk,n,t,m,sr0,rfl,hB,hok,hT,hTr,hsz,q⟩:=h
 have hu:=cZ hr
 have hu0:=hr.units0
 have hr1:=hr.mono (show 1<=5 by decide)
 have hr3:=hr.mono (show 3<=5 by decide)
 refine ⟨_,ae (am (i:=2) scBySpot.nd rfl (Or.inl rfl) (al GB hr1 rfl mB kB bB .nil aA (aa (pv 1) ad)))
  (ae (am (i:=4) scBySpot.nd rfl (Or.inl rfl) (al GT hr rfl mT kT bT .nil aA (aa (pv 0) (aa
   (cH (sc0:=ak jh) (N0:=qP) (ys:=[]) (fr:=[]) rfl (vE (pv 2)) rfl rfl
    cok
    (fun C s H ex=>ar (r:=aW K) ax (pv 0) ag (fun _ _=>rfl))) ad))))
  (ae (am (i:=5) scBySpot.nd rfl (Or.inl rfl) jM)
  (ae (a6 PassesOwn.never rfl (n0 (pv 2)) (cC rfl (aJ (au (i:=6) scBySpot.nd rfl (Or.inl rfl)) (aJ (au (i:=3) scBySpot.nd rfl (Or.inl rfl)) bV)))
   (ae (am (i:=7) scBySpot.nd rfl (Or.inl rfl) (al GS hr3 rfl mS kS bS .nil aA (aa (pv 0) (aa (pv 3) ad))))
   (ae (a6 PassesOwn.never rfl (bf (al GD hr3 rfl mD kD bD .nil aA (aa (pv 0) (aa (pv 7) ad)))) (au (i:=8) scBySpot.nd rfl (Or.inl rfl))
    (ae (cA hu (pv 5) (aK (aa (pv 6) (aa (pv 8) ad))) mM rfl)
    (aj (bi (aM (pH hu0) (pv 6) (aK ad) (aV _))
     (ae (am (i:=9) scBySpot.nd rfl (Or.inl rfl) (bp hu (pv 2) (bj l8 (pv 6) cg (bq (gH eK ag))) (fun _ _=>rfl)))
     (aj (cA hu (pv 5) (aK (aa (pv 6) (aa (pv 8) ad)))
      (aw cv (aK (aa (bj l8 (pv 6) cg (bq (gH eK ag))) ad))
       (bp hu (bp hu (pv 4) (ar (r:=aW K) ax (pv 9) ag (fun _ _=>rfl)) (fun _ _=>rfl)) (aK (aa (ar (r:=aW K) ax (pv 6) (gH eK ag) (fun _ _=>rfl)) (aa (pv 8) ad))) (fun _ _=>rfl))) rfl)))
     aP))))
   (aj (a6 PassesOwn.never rfl (bf (al GU hr3 rfl mU kU bU .nil aA (aa (pv 0) (aa (pv 7) ad)))) (au (i:=10) scBySpot.nd rfl (Or.inl rfl))
    (aj (cA hu (pv 5) (aK (aa (pv 6) (aa (pv 10) ad)))
     (aw cv (aK (aa (pv 6) ad))
      (bp hu (bp hu (pv 4) (ar (r:=aW K) ax (pv 3) ag (fun _ _=>rfl)) (fun _ _=>rfl)) (aK (aa (gH eK ag) (aa (pv 10) ad))) (fun _ _=>rfl))) rfl)))))))
  (aj (aL (pv 5)))))),?_⟩
 refine ⟨_,rfl,n,t,tv,rfl,hT,by lia,fun bd kvs H1 hbd s1 gbd hk hv=>?_⟩
 have hsub:=cN t.sz t (Nat.le_refl _)
 have lsub:t.places.length=t.subs.length:=Paired.length hsub
 have lsz:t.places.length=t.sz:=rfl
 have lkv:kvs.length=t.subs.length:=by
  have:=Paired.length hv
  rw [List.length_map]at this
  exact this.symm
 have hfrm: ∀ u∈t.subs,∃ fr,fr∈bk.forms/\Frm.name fr=u.nm/\cI bk u=fr.own:=fun u hu=>by
  obtain ⟨i,hi⟩:=List.getElem?_of_mem hu
  obtain ⟨p,hp,hat⟩:=aC hsub hi
  obtain ⟨m',s',h1⟩:=hTr.at hat
  obtain ⟨fr,f1,f2,f3⟩:=h1.frm
  exact ⟨fr,f1,f2,cG hok.nd f1 f2⟩
 have hwd: ∀ u∈t.subs,(dD (cI bk u)).Nodup/\(dD (cI bk u)).length<=6:=fun u hu=>by
  obtain ⟨fr,f1,_,f3⟩:=hfrm u hu
  obtain ⟨w1,w2,w3,_⟩:=hok.ws _ (hok.fo fr f1).1
  rw [f3]
  exact ⟨w3,by unfold dD;rw [List.length_append];lia⟩
 have hLn:((be bk t).map spk).Nodup:=i4 fun u hu=>(hwd u hu).1
 have hLl:((be bk t).map spk).length<=600:=by
  rw [List.length_map]
  have h1:=iu (bk:=bk) (l:=t.places.zip t.subs) fun q hq=>(hwd q.2 (List.of_mem_zip hq).2).2
  have h2:(t.places.zip t.subs).length<=100:=by rw [List.length_zip];lia
  show ((t.places.zip t.subs).flatMap (dL bk)).length<=600
  lia
 generalize hL:(be bk t).map spk=L at hLn hLl q
 refine ⟨_,rfl,_,rfl,bd,kvs,rfl,.inl ⟨gbd,fun o=>?_⟩⟩
 have tk2:TK H1 (upd H1 bd (.frz o (.dT kvs))):=fun b xs e=>by rw [ah (fun z=>by rw [z,gbd]at e;cases e)];exact e
 have S2:Same H (upd H1 bd (.frz o (.dT kvs))):=fun b x e=>by rw [ah (ai e hbd)];exact s1 _ _ e
 have gbd2:(upd H1 bd (.frz o (.dT kvs))) bd=some (.frz o (.dT kvs)):=ac
 have hv2:Paired (RepT (upd H1 bd (.frz o (.dT kvs))) n) t.subs (kvs.map (·.2)):=Paired.mapP hv fun _ _ r=>r.mono tk2
 generalize upd H1 bd (.frz o (.dT kvs))=H2 at tk2 S2 gbd2 hv2 ⊢
 refine iz (xs:=kvs.map (·.2)) (by rw [List.length_map];lia) hv2 (fun i H' s' hi=>⟨kvs,kvs[i]'(by rw [List.length_map]at hi;exact hi),s' _ _ gbd2,List.getElem?_eq_getElem _⟩) (fun H' s'=>⟨kvs,s' _ _ gbd2,(List.length_map _).symm⟩) (fun i H' v H'' _ s' hy=>⟨hy.1,hy.2 kvs (s' _ _ gbd2)⟩) (fun _ u v=>v=.str (Bt.nm u)) (fun _ h=>h) ?_ ?_
 ·rintro u v H' k _ hR s' hk'
  obtain ⟨a,b,rfl,ha⟩:=jH hR
  exact ⟨_,rfl,a,_,0,.str u.nm,rfl,rfl,SqT.of (s' _ _ ha),cq,hk' _ _ (fun _ _ h=>h) rfl⟩
 intro p zs H3 hp s3 gp hz
 have ez:=iR hz
 subst ez
 refine ⟨bv,bk,p,t.subs.map Bt.nm,rfl,hB.mono (ay (S2.trans s3)),hok,by rw [gp,List.map_map];rfl,by rw [List.length_map];lia,fun nm hnm=>?_,fun td kvT H4 htd s4 gtd hToldN=>?_⟩
 ·obtain ⟨u,hu,rfl⟩:=List.mem_map.mp hnm
  obtain ⟨fr,f1,f2,_⟩:=hfrm u hu
  exact ⟨fr,f1,f2⟩
 refine fun rd hrd=>?_
 have s5:=af hrd (.dP [])
 have g5:(upd H4 rd (.dP [])) rd=some (.dP []):=ac
 have hrd0:H rd=none:=(S2.trans (s3.trans s4)).free hrd
 have nbr:bd≠rd:=fun z=>by have:=(s3.trans s4) _ _ gbd2;rw [z,hrd]at this;cases this
 have ntr:td≠rd:=fun z=>by rw [z,hrd]at gtd;cases gtd
 have S5:Same H2 (upd H4 rd (.dP [])):=s3.trans (s4.trans s5)
 have gtd5:=s5 _ _ gtd
 have hT5: ∀ nm∈t.subs.map Bt.nm,ToldN (upd H4 rd (.dP [])) bk kvT nm:=fun nm h=>(hToldN nm h).same s5
 generalize upd H4 rd (.dP [])=H5 at s5 g5 S5 gtd5 hT5 ⊢
 clear hToldN gtd s4 s3 gp hz
 have gbd5:=S5 _ _ gbd2
 have hv5:Paired (RepT H5 n) t.subs (kvs.map (·.2)):=Paired.mapP hv2 fun _ _ r=>r.mono (ay S5)
 have hB5:RepB H5 bk bv:=hB.mono (ay (S2.trans S5))
 refine ⟨_,rfl,bd,kvs,rfl,.inr ⟨o,gbd5,?_⟩⟩
 refine li (kvs:=kvs) (fun i σ H'=>i<=kvs.length/\ ∃ o3 o6 o7 o8 o9 o10 kr,σ=[some bv,some tv,some (.ref bd),o3,some (.ref td),some (.ref rd),o6,o7,o8,o9,o10]/\Kp rd H5 H'/\H' rd=some (.dP kr)/\kr.map (·.1)++gF bk t i=L/\RVs H' bk t kr)
  ⟨Nat.zero_le _,none,none,none,none,none,none,[],rfl,Kp.refl,g5,hL,fun kv h=>(by cases h)⟩ (fun i σ H' _ h=>by obtain ⟨_,_,_,_,_,_,_,_,_,kp,_⟩:=h;exact kp _ _ gbd5 nbr) ?_ ?_
 ·rintro i ks v T c σ H6 hx hT0 hc ⟨_,o3,o6,o7,o8,o9,o10,kr,rfl,k6,gr6,eL,rv6⟩
  have hil:i<kvs.length:=(List.getElem?_eq_some_iff.mp hx).1
  obtain ⟨pl,hpl,rfl⟩: ∃ pl,t.places[i]? =some pl/\ks=av pl:=by
   have h1:(kvs.map (·.1))[i]? =some ks:=by rw [List.getElem?_map,hx];rfl
   rw [hk,List.getElem?_map]at h1
   cases e:t.places[i]? with
   | none=>rw [e]at h1;cases h1
   | some pl=>rw [e]at h1;exact ⟨pl,rfl,(Option.some.inj h1).symm⟩
  obtain ⟨u,hu,hR5⟩:=aC hv5 (show (kvs.map (·.2))[i]? =some v by rw [List.getElem?_map,hx];rfl)
  have hat:t.at? pl=some u:=by
   obtain ⟨u',hu',hat⟩:=a7 hsub hpl
   rw [hu]at hu'
   cases hu'
   exact hat
  have hitem:(aY t)[i]? =some (pl,u):=lE hpl hu
  obtain ⟨fr,f1,f2,f3⟩:=hfrm u (List.mem_of_getElem? hu)
  obtain ⟨hown,_,_,_,_⟩:=hok.fo fr f1
  obtain ⟨a,b,rfl,ha5⟩:=jH hR5
  have tk6:=cU k6 g5
  have s7:=af hT0 (.tup [.ref c,.ref a])
  have g7:(upd H6 T (.tup [.ref c,.ref a])) T=some (.tup [.ref c,.ref a]):=ac
  generalize upd H6 T (.tup [.ref c,.ref a])=H7 at s7 g7 ⊢
  refine ⟨T,_,rfl,SqT.of g7,rfl,_,_,rfl,_,_,rfl,rfl,?_⟩
  refine ⟨_,rfl,_,rfl,bv,bk,a,u.nm,_,fr,rfl,(hB5.mono tk6).mono (ay s7),hok,s7 _ _ (tk6 _ _ ha5),f1,f2,fun H8 s8=>?_⟩
  refine ⟨_,rfl,_,rfl,bv,bk,fr.own.name,fr.own,rfl,(hB5.mono tk6).mono (ay (s7.trans s8)),hok,hown,rfl,fun db H9 s9 gdb=>?_⟩
  refine ⟨db,rfl,⟨_,SqT.of gdb⟩,?_⟩
  rw [tM hitem,f3]at eL
  have S69:=s7.trans (s8.trans s9)
  have k9:Kp rd H5 H9:=k6.same S69
  have rv9:RVs H9 bk t kr:=rv6.kp (rd:=rd) (fun b o e _=>S69 _ _ e) gr6
  have gr9:=S69 _ _ gr6
  have gc9:=S69 _ _ hc
  clear s7 s8 s9 g7 gr6 hc hT0
  have lD:(fr.own.downs.map V.str).length=fr.own.downs.length:=List.length_map _
  have ncr:c≠rd:=fun z=>by rw [z,gr9]at gc9;cases gc9
  refine cu (xs:=fr.own.downs.map V.str) (fun j σ H'=>j<=fr.own.downs.length/\ ∃ o8 o9 kr',σ=[some bv,some tv,some (.ref bd),some (.ref a),some (.ref td),some (.ref rd),some (.ref c),some (.str fr.own.name),o8,o9,o10]/\Kp rd H9 H'/\H' rd=some (.dP kr')/\
    kr'.map (·.1)++((fr.own.downs.drop j).map (spW pl)++(fr.own.ups.map (spW pl)++gF bk t (i+1)))=L/\RVs H' bk t kr')
   ⟨Nat.zero_le _,o8,o9,kr,rfl,Kp.refl,gr9,eL,rv9⟩ (fun j σ H' _ h=>by obtain ⟨_,_,_,_,_,kp,_⟩:=h;exact SqT.of (cU kp gr9 _ _ gdb)) ?_ ?_
  ·rintro j x σ H10 hxj ⟨_,o8',o9',kr',rfl,k10,gr10,eL',rv10⟩
   obtain ⟨w,hw,rfl⟩:=lJ hxj
   have hjl:j<fr.own.downs.length:=(List.getElem?_eq_some_iff.mp hw).1
   rw [nv hw,List.map_cons,List.cons_append]at eL'
   have hnot:=gR eL' hLn
   have hlen:=mE eL'
   rw [List.length_map]at hlen
   refine ⟨_,rfl,_,rfl,_,rfl,(by show 2<=sizeLine;decide),fun kt hkt=>?_⟩
   have s11:=af hkt (.tup [.ref c,.str w])
   have g11:(upd H10 kt (.tup [.ref c,.str w])) kt=some (.tup [.ref c,kV (Sum.inr w)]):=ac
   generalize upd H10 kt (.tup [.ref c,.str w])=H11 at s11 g11 ⊢
   have gc10:=cU k10 gr9 _ _ gc9
   refine ⟨rd,_,rfl,DPut.p (t:=av pl) (k:=Sum.inr w) (s11 _ _ gr10) g11 (s11 _ _ gc10) (ao (by lia)),?_⟩
   have k12:Kp rd H9 (upd H11 rd (.dP (aX kr' (av pl,Sum.inr w) .non))):=fun b' o' e n'=>by rw [ah n'];exact s11 _ _ (k10 _ _ e n')
   have kx12:Kp rd H10 (upd H11 rd (.dP (aX kr' (av pl,Sum.inr w) .non))):=fun b' o' e n'=>by rw [ah n'];exact s11 _ _ e
   have gr12:(upd H11 rd (.dP (aX kr' (av pl,Sum.inr w) .non))) rd=some (.dP (aX kr' (av pl,Sum.inr w) .non)):=ac
   generalize upd H11 rd (.dP (aX kr' (av pl,Sum.inr w) .non))=H12 at k12 kx12 gr12 ⊢
   have hkeys:(aX kr' (av pl,Sum.inr w) V.non).map (·.1)=kr'.map (·.1)++[spW pl w]:=iV hnot
   have hlen2:=bh kr' (av pl,Sum.inr w) V.non
   have rvn:pl=[]->RVs H12 bk t (aX kr' (av pl,Sum.inr w) V.non):=fun e0=>RVs.put (q:=(pl,w)) kx12 gr10 (fun kv hkv _=>rv10 kv hkv) (.inl ⟨rfl,fun a=>by rw [e0]at hat ⊢;exact Rl.top hok hTr hat (by rw [f3];exact List.mem_of_getElem? hw)⟩)
   have rvo: ∀ kv∈aX kr' (av pl,Sum.inr w) V.non,kv.1≠spk (pl,w)-> ∃ q,kv.1=spk q/\RV H10 bk t q kv.2:=fun kv hkv n=>rv10 kv (xf hkv n)
   generalize aX kr' (av pl,Sum.inr w) V.non=kr2 at gr12 hkeys hlen2 rvn rvo ⊢
   have eL2:kr2.map (·.1)++((fr.own.downs.drop (j+1)).map (spW pl)++(fr.own.ups.map (spW pl)++gF bk t (i+1)))=L:=by
    rw [hkeys,List.append_assoc]
    exact eL'
   clear s11 g11 gc10
   have gc12:=k12 _ _ gc9 ncr
   refine ⟨_,rfl,(by show 0<=sizeLine;decide),fun e he=>?_⟩
   have s13:=af he (.tup [])
   have g13:(upd H12 e (.tup [])) e=some (.tup []):=ac
   generalize upd H12 e (.tup [])=H13 at s13 g13 ⊢
   have k13:Kp rd H9 H13:=k12.same s13
   have gr13:=s13 _ _ gr12
   have gc13:=s13 _ _ gc12
   refine ⟨c,e,_,rfl,rfl,SqT.of gc13,SqT.of g13,_,rfl,?_⟩
   refine cs (fun cT=>?_) (fun cF=>⟨hjl,_,_,kr2,rfl,k13,gr13,eL2,(rvn (by cases pl with | nil=>rfl | cons a r=>exact absurd rfl cF)).kp (rd:=rd) (fun b o e _=>s13 _ _ e) gr12⟩)
   obtain ⟨p0,k,hpk⟩: ∃ p0 k,pl=p0++[k]:=by
    rcases List.eq_nil_or_concat pl with e0 | ⟨p0,k,e0⟩
    ·rw [e0]at cT;exact absurd cT (by decide)
    ·exact ⟨p0,k,by rw [e0,List.concat_eq_append]⟩
   have hgcS: ∀ {H':Hp},H' c=some (.tup ((av pl).map kV))->H' c=some (.tup ((av p0).map kV++[V.int ((k:Nat):Int)])):=fun h=>by rw [h,hpk,fC]
   obtain ⟨u0,fr0,q0,mm,hat0,y1,y2,y3,y4⟩:=hTr.above (show t.at? (p0++[k])=some u by rw [<- hpk];exact hat)
   have hq0:q0=fr.own:=by
    obtain ⟨fx,x1,x2,x3⟩:=y4.frm
    rw [<- x3,de hok.nd x1 f1 (by rw [x2,f2])]
   rw [hq0]at y3
   obtain ⟨rr,hrr,r1,r2⟩:=hok.down y1 y3 (List.mem_of_getElem? hw)
   have T13:Kp rd H5 H13:=k9.trans k13
   have hv13:Paired (RepT H13 n) t.subs (kvs.map (·.2)):=Paired.mapP hv5 fun _ _ r=>r.mono (cU T13 g5)
   obtain ⟨v0,hv0,hR0⟩:=vc hk hv13 hat0
   obtain ⟨a0,b0,rfl,ha0⟩:=jH hR0
   obtain ⟨td0,kv0,frx,t1,t2,t3,t4,t5⟩:=ToldN.kp T13 g5 (hT5 u0.nm (List.mem_map.mpr ⟨u0,qY hat0,rfl⟩))
   have efx:frx=fr0:=de hok.nd t1 y1 (by rw [t2,y2])
   rw [efx]at t5
   obtain ⟨TT,xx,ll,ys,z1,z2,z3,z4⟩:=t5 rr hrr
   have erk:dM rr=[Sum.inl ((k:Nat):Int),Sum.inr w]:=by unfold dM;rw [r1,r2]
   rw [erk]at z1
   refine ⟨_,rfl,_,rfl,_,rfl,_,rfl,c,_,rfl,hgcS gc13,fun pa H14 s14 gpa=>?_⟩
   rw [show (-(1:Int))= -1 from rfl,lm]at gpa
   refine ⟨bd,_,rfl,(by rw [<- hv0];exact DGet.tf (s14 _ _ (T13 _ _ gbd5 nbr)) gpa),?_⟩
   refine ⟨_,rfl,_,rfl,_,rfl,c,_,rfl,hgcS (s14 _ _ gc13),fun pb H15 s15 gpb=>?_⟩
   rw [show (-(1:Int))= -1 from rfl,lm]at gpb
   refine ⟨(by show 1<=sizeLine;decide),fun t1' ht1=>?_⟩
   have s16:=af ht1 (.tup [.ref pb])
   have g16:(upd H15 t1' (.tup [.ref pb])) t1'=some (.tup [.ref pb]):=ac
   generalize upd H15 t1' (.tup [.ref pb])=H16 at s16 g16 ⊢
   have S16:Same H13 H16:=Same.trans s14 (Same.trans s15 s16)
   refine ⟨_,rfl,_,rfl,a0,_,0,.str u0.nm,rfl,rfl,SqT.of (S16 _ _ ha0),cq,td,_,rfl,(by rw [<- t3];exact DGet.k (k:=Sum.inr u0.nm) (S16 _ _ (T13 _ _ gtd5 ntr))),?_⟩
   refine ⟨_,rfl,_,rfl,c,_,-1,.int ((k:Nat):Int),rfl,rfl,SqT.of (hgcS (S16 _ _ gc13)),kf _ _,_,rfl,(by show 2<=sizeLine;decide),fun k2 hk2=>?_⟩
   have s17:=af hk2 (.tup [.int ((k:Nat):Int),.str w])
   have g17:(upd H16 k2 (.tup [.int ((k:Nat):Int),.str w])) k2=some (.tup ([Sum.inl ((k:Nat):Int),Sum.inr w].map kV)):=ac
   generalize upd H16 k2 (.tup [.int ((k:Nat):Int),.str w])=H17 at s17 g17 ⊢
   have S17:=S16.trans s17
   refine ⟨td0,_,rfl,(by rw [<- z1];exact DGet.t (S17 _ _ t4) g17),?_⟩
   refine gc (s17 _ _ g16) (S17 _ _ z2) (by show 1+2<=1000;decide) fun cc H18 s18 gcc=>?_
   refine ⟨_,rfl,_,rfl,_,rfl,(by show 2<=sizeLine;decide),fun k3 hk3=>?_⟩
   have s19:=af hk3 (.tup [.ref c,.str w])
   have g19:(upd H18 k3 (.tup [.ref c,.str w])) k3=some (.tup [.ref c,kV (Sum.inr w)]):=ac
   generalize upd H18 k3 (.tup [.ref c,.str w])=H19 at s19 g19 ⊢
   have S19:=S17.trans (s18.trans s19)
   have hlen3:=mE eL2
   rw [List.length_map]at hlen3
   refine ⟨rd,_,rfl,DPut.p (t:=av pl) (k:=Sum.inr w) (S19 _ _ gr13) g19 (S19 _ _ gc13) (ao (by lia)),?_⟩
   have kx19:Kp rd H10 (upd H19 rd (.dP (aX kr2 (av pl,Sum.inr w) (.ref cc)))):=fun b' o' e' n'=>by rw [ah n'];exact S19 _ _ (s13 _ _ (kx12 _ _ e' n'))
   have ky19:Kp rd H13 (upd H19 rd (.dP (aX kr2 (av pl,Sum.inr w) (.ref cc)))):=fun b' o' e' n'=>by rw [ah n'];exact S19 _ _ e'
   have kz19:Kp rd H18 (upd H19 rd (.dP (aX kr2 (av pl,Sum.inr w) (.ref cc)))):=fun b' o' e' n'=>by rw [ah n'];exact s19 _ _ e'
   have gr18:=(S17.trans s18) _ _ gr13
   refine ⟨hjl,_,_,_,rfl,fun b' o' e' n'=>?_,ac,?_,?_⟩
   ·rw [ah n'];exact S19 _ _ (k13 _ _ e' n')
   ·rw [sf (by rw [hkeys];exact List.mem_append_right _ List.mem_cons_self)]
    exact eL2
   ·have hRl:Rl bk t (pl,w) (p0,rr.fm):=by
     rw [hpk,<- r2]
     exact .dn hat0 y1 y2 hrr r1
    have hwf:=(hok.fo fr0 y1).2.2.2.2 rr hrr
    refine RVs.put (q:=(pl,w)) kx19 gr10 rvo (.inr ⟨p0,rr.fm,cc,pb,xx,ll,ys,hRl,hwf.1,hwf.2,rfl,cU kz19 gr18 _ _ gcc,cU kz19 gr18 _ _ (s18 _ _ (s17 _ _ (s16 _ _ gpb))),ky19 _ _ z3 (fun z=>by rw [z,gr13]at z3;cases z3),z4.mono (cU ky19 gr13)⟩)
  ·rintro σ H10 ⟨_,o8',o9',kr',rfl,k10,gr10,eL',rv10⟩
   rw [lD,List.drop_length]at eL'
   have eL1:kr'.map (·.1)++(fr.own.ups.map (spW pl)++gF bk t (i+1))=L:=eL'
   have T10:Kp rd H5 H10:=k9.trans k10
   have tk10:=cU T10 g5
   refine ⟨_,rfl,_,rfl,bv,bk,fr.own.name,fr.own,rfl,hB5.mono tk10,hok,hown,rfl,fun ub H11 s11 gub=>?_⟩
   refine ⟨ub,rfl,⟨_,SqT.of gub⟩,?_⟩
   have gr11:=s11 _ _ gr10
   have rv11:RVs H11 bk t kr':=rv10.kp (rd:=rd) (fun b o e _=>s11 _ _ e) gr10
   have gc11:=s11 _ _ (k10 _ _ gc9 ncr)
   have T11:Kp rd H5 H11:=T10.same s11
   have lU:(fr.own.ups.map V.str).length=fr.own.ups.length:=List.length_map _
   refine cu (xs:=fr.own.ups.map V.str) (fun j σ H'=>j<=fr.own.ups.length/\ ∃ o10 kr',σ=[some bv,some tv,some (.ref bd),some (.ref a),some (.ref td),some (.ref rd),some (.ref c),some (.str fr.own.name),o8',o9',o10]/\Kp rd H11 H'/\H' rd=some (.dP kr')/\
     kr'.map (·.1)++((fr.own.ups.drop j).map (spW pl)++gF bk t (i+1))=L/\RVs H' bk t kr')
    ⟨Nat.zero_le _,o10,kr',rfl,Kp.refl,gr11,eL1,rv11⟩ (fun j σ H' _ h=>by obtain ⟨_,_,_,_,kp,_⟩:=h;exact SqT.of (cU kp gr11 _ _ gub)) ?_ ?_
   ·rintro j x σ H12 hxj ⟨_,o10',kr2,rfl,k12,gr12,eL2,rv12⟩
    obtain ⟨w,hw,rfl⟩:=lJ hxj
    have hjl:j<fr.own.ups.length:=(List.getElem?_eq_some_iff.mp hw).1
    rw [nv hw,List.map_cons,List.cons_append]at eL2
    have hnot:=gR eL2 hLn
    have hlen:=mE eL2
    rw [List.length_map]at hlen
    obtain ⟨rr,hrr,r1,r2⟩:=hok.up f1 (List.mem_of_getElem? hw)
    have T12:Kp rd H5 H12:=T11.trans k12
    have gc12:=k12 _ _ gc11 ncr
    obtain ⟨td0,kv0,frx,t1,t2,t3,t4,t5⟩:=ToldN.kp T12 g5 (hT5 u.nm (List.mem_map.mpr ⟨u,List.mem_of_getElem? hu,rfl⟩))
    have efx:frx=fr:=de hok.nd t1 f1 (by rw [t2,f2])
    rw [efx]at t5
    obtain ⟨TT,xx,ll,ys,z1,z2,z3,z4⟩:=t5 rr hrr
    have erk:dM rr=[Sum.inl (-1),Sum.inr w]:=by unfold dM;rw [r1,r2]
    rw [erk]at z1
    refine ⟨_,rfl,(by show 1<=sizeLine;decide),fun t1' ht1=>?_⟩
    have s16:=af ht1 (.tup [.ref c])
    have g16:(upd H12 t1' (.tup [.ref c])) t1'=some (.tup [.ref c]):=ac
    generalize upd H12 t1' (.tup [.ref c])=H16 at s16 g16 ⊢
    refine ⟨_,rfl,_,rfl,a,_,0,.str u.nm,rfl,rfl,SqT.of (s16 _ _ (cU T12 g5 _ _ ha5)),cq,td,_,rfl,(by rw [<- t3];exact DGet.k (k:=Sum.inr u.nm) (s16 _ _ (T12 _ _ gtd5 ntr))),?_⟩
    refine ⟨_,rfl,_,rfl,(by show 2<=sizeLine;decide),fun k2 hk2=>?_⟩
    try rw [show (fun (i:Int)=>V.int (-i)) 1=V.int (-1)from rfl]
    have s17:=af hk2 (.tup [.int (-1),.str w])
    have g17:(upd H16 k2 (.tup [.int (-1),.str w])) k2=some (.tup ([Sum.inl (-1),Sum.inr w].map kV)):=ac
    generalize upd H16 k2 (.tup [.int (-1),.str w])=H17 at s17 g17 ⊢
    have S17:=s16.trans s17
    refine ⟨td0,_,rfl,(by rw [<- z1];exact DGet.t (S17 _ _ t4) g17),?_⟩
    refine gc (s17 _ _ g16) (S17 _ _ z2) (by show 1+2<=1000;decide) fun cc H18 s18 gcc=>?_
    refine ⟨_,rfl,_,rfl,_,rfl,(by show 2<=sizeLine;decide),fun k3 hk3=>?_⟩
    have s19:=af hk3 (.tup [.ref c,.str w])
    have g19:(upd H18 k3 (.tup [.ref c,.str w])) k3=some (.tup [.ref c,kV (Sum.inr w)]):=ac
    generalize upd H18 k3 (.tup [.ref c,.str w])=H19 at s19 g19 ⊢
    have S19:=S17.trans (s18.trans s19)
    refine ⟨rd,_,rfl,DPut.p (t:=av pl) (k:=Sum.inr w) (S19 _ _ gr12) g19 (S19 _ _ gc12) (ao (by lia)),?_⟩
    have ky19:Kp rd H12 (upd H19 rd (.dP (aX kr2 (av pl,Sum.inr w) (.ref cc)))):=fun b' o' e' n'=>by rw [ah n'];exact S19 _ _ e'
    have kz19:Kp rd H18 (upd H19 rd (.dP (aX kr2 (av pl,Sum.inr w) (.ref cc)))):=fun b' o' e' n'=>by rw [ah n'];exact s19 _ _ e'
    have gr18:=(S17.trans s18) _ _ gr12
    refine ⟨hjl,_,_,rfl,fun b' o' e' n'=>?_,ac,?_,?_⟩
    ·rw [ah n'];exact S19 _ _ (k12 _ _ e' n')
    ·rw [iV (show (av pl,Sum.inr w)∉kr2.map (·.1)from hnot),List.append_assoc]
     exact eL2
    ·have hRl:Rl bk t (pl,w) (pl,rr.fm):=by
      rw [<- r2]
      exact .up hat f1 f2 hrr r1
     have hwf:=(hok.fo fr f1).2.2.2.2 rr hrr
     refine RVs.put (q:=(pl,w)) ky19 gr12 (fun kv hkv _=>rv12 kv hkv) (.inr ⟨pl,rr.fm,cc,c,xx,ll,ys,hRl,hwf.1,hwf.2,rfl,cU kz19 gr18 _ _ gcc,cU ky19 gr12 _ _ gc12,ky19 _ _ z3 (fun z=>by rw [z,gr12]at z3;cases z3),z4.mono (cU ky19 gr12)⟩)
   ·rintro σ H12 ⟨_,o10',kr2,rfl,k12,gr12,eL2,rv12⟩
    rw [lU,List.drop_length]at eL2
    exact ⟨hil,_,_,_,_,_,_,kr2,rfl,T11.trans k12,gr12,eL2,rv12⟩
 ·rintro σ H6 ⟨_,o3,o6,o7,o8,o9,o10,kr,rfl,k6,gr6,eL,rv6⟩
  have hend:gF bk t kvs.length=[]:=by
   unfold gF
   rw [List.drop_eq_nil_of_le (by show (t.places.zip t.subs).length<=kvs.length;rw [List.length_zip];lia)]
   rfl
  rw [hend,List.append_nil]at eL
  refine ⟨_,rfl,q rd kr H6 hrd0 (fun b' o' e'=>k6 _ _ (S5 _ _ (S2 _ _ e')) (ai e' hrd0)) gr6 eL rv6⟩
noncomputable def RepSp (H:Hp) (q:List Nat×Str) (v:V):Prop:= ∃ b c,v=.ref b/\H b=some (.tup [.ref c,.str q.2])/\H c=some (.tup ((av q.1).map kV))
theorem RepSp.mono {H H':Hp} (k:TK H H') {q:List Nat×Str} {v:V}:RepSp H q v->RepSp H' q v:=fun ⟨b,c,e,h1,h2⟩=>⟨b,c,e,k _ _ h1,k _ _ h2⟩
inductive jv  (vs:List V) (H:Hp) (Q:VK) (E_:XK):Prop
 | mk: ∀ bv bk nm fr,(vs=[bv,.str nm])->(RepB H bk bv)->(BkS bk)->(fr∈bk.forms)->(Frm.name fr=nm)->(∀ d b c H',Same H H'->H' d=some (.tup [.ref b,.ref c])->H' b=some (.tup (List.map V.str fr.own.downs))->H' c=some (.tup (List.map V.str fr.own.ups))->Q (.ref d) H')->jv vs H Q E_
noncomputable abbrev ww:List Str:=["book","name","form","sort"]
theorem scLWords:aG ww ["book","name"] (ak mn):=fsc
theorem rM (F:Fun K "_law_words" "_law_words" mn f fd):aE P w K mg base CX0 1 f fd ["book","name"] jv:=by
 refine F.ok scLWords (fun vs H Q E h=>?_) (fun cdv A outer s H vs Q E hr h=>?_)
 ·obtain ⟨bv,bk,nm,fr,rfl,_⟩:=h
  rfl
 obtain ⟨bv,bk,nm,fr,rfl,hB,hok,hf,hn,q⟩:=h
 refine ⟨_,ae (a6 PassesOwn.never rfl (bf (ar (r:=aW K) ax (pv 0) ag (fun _ _=>rfl))) (au (i:=2) scLWords.nd rfl (Or.inl rfl))
   (aj (a6 PassesOwn.never rfl (bf (ar (r:=aW K) ax (pv 0) ag (fun _ _=>rfl))) (au (i:=3) scLWords.nd rfl (Or.inl rfl))
    (aj (bi (PW.pt (iP (aM dh (ar (r:=aW K) ax (pv 2) ag (fun _ _=>rfl)) (pv 1) (aV _)) (gm (aM dh (ar (r:=aW K) ax (pv 3) ag (fun _ _=>rfl)) (ar (r:=aW K) ax (pv 2) ag (fun _ _=>rfl)) (aV _)))))
     (aj (aL (aK (aa (ar (r:=aW K) ax (pv 3) ag (fun _ _=>rfl)) (aa (ar (r:=aW K) ax (pv 3) ag (fun _ _=>rfl)) ad))))) aP)))))
  (aj tV),?_⟩
 have hB0:=hB
 obtain ⟨a,sa,fa,fv,rfl,ha,⟨sx,hsa,hS⟩,hfa,hF⟩:=hB0
 have lF:=hF.len
 have lS:=hS.len
 refine ⟨_,rfl,a,_,2,.ref fa,rfl,rfl,SqT.of ha,aF (j:=2) rfl,fa,rfl,⟨fv,SqT.of hfa⟩,?_⟩
 refine cu (xs:=fv) (fun i σ H'=> ∃ o2 o3,σ=[some (.ref a),some (.str nm),o2,o3]/\H'=H/\ ∀ x∈bk.forms.take i,Frm.name x≠nm)
  ⟨none,none,rfl,rfl,fun x h=>(by cases h)⟩ (fun i σ H' _ h=>by obtain ⟨_,_,_,e,_⟩:=h;rw [e];exact SqT.of hfa) ?_ ?_
 ·rintro i x σ H1 hx ⟨o2,o3,rfl,e1,hno⟩
  subst e1
  obtain ⟨fx,hfx,b,pa,ra,rv,rfl,hb,hpa,hra,hRR⟩:=aC hF hx
  refine ⟨_,rfl,a,_,1,.ref sa,rfl,rfl,SqT.of ha,aF (j:=1) rfl,sa,rfl,⟨sx,SqT.of hsa⟩,?_⟩
  refine cu (xs:=sx) (fun j σ H'=> ∃ o3,σ=[some (.ref a),some (.str nm),some (.ref b),o3]/\H'=H1/\(Frm.name fx=nm-> ∀ y∈bk.sorts.take j,Srt.name y≠fx.own.name))
   ⟨o3,rfl,rfl,fun _ y h=>(by cases h)⟩ (fun j σ H' _ h=>by obtain ⟨_,_,e,_⟩:=h;rw [e];exact SqT.of hsa) ?_ ?_
  ·rintro j y σ H2 hy ⟨o3',rfl,e2,hno2⟩
   subst e2
   obtain ⟨sy,hsy,b1,c1,d1,rfl,g1,g2,g3⟩:=aC hS hy
   refine ⟨_,rfl,b,_,0,.str fx.name,rfl,rfl,SqT.of hb,cq,_,rfl,rfl,_,rfl,?_⟩
   rw [show decide (V.str fx.name=V.str nm)=decide (fx.name=nm)from decide_eq_decide.mpr ⟨fun e=>V.str.inj e,fun e=>by rw [e]⟩]
   refine cs (fun c=>?_) (fun c=>?_)
   ·have hfn:=of_decide_eq_true c
    refine ⟨_,rfl,b1,_,0,.str sy.name,rfl,rfl,SqT.of g1,cq,_,rfl,b,_,1,.str fx.own.name,rfl,rfl,SqT.of hb,aF (j:=1) rfl,rfl,_,rfl,?_⟩
    rw [show decide (V.str sy.name=V.str fx.own.name)=decide (sy.name=fx.own.name)from decide_eq_decide.mpr ⟨fun e=>V.str.inj e,fun e=>by rw [e]⟩]
    refine cs (fun c2=>?_) (fun c2=>?_)
    ·have hsn:=of_decide_eq_true c2
     have ef:fx=fr:=de hok.nd (List.mem_of_getElem? hfx) hf (by rw [hfn,hn])
     have es:sy=fr.own:=je hok.sd (List.mem_of_getElem? hsy) (hok.fo fr hf).1 (by rw [hsn,ef])
     subst es
     refine ⟨_,rfl,b1,_,1,.ref c1,rfl,rfl,SqT.of g1,aF (j:=1) rfl,_,rfl,b1,_,2,.ref d1,rfl,rfl,SqT.of g1,aF (j:=2) rfl,(by show 2<=sizeLine;decide),fun d hd=>?_⟩
     have s3:=af hd (.tup [.ref c1,.ref d1])
     exact q d c1 d1 _ s3 ac (s3 _ _ g2) (s3 _ _ g3)
    ·refine ⟨_,rfl,rfl,fun _ z hz=>?_⟩
     rw [List.take_add_one,hsy]at hz
     rcases List.mem_append.mp hz with h | h
     ·exact hno2 hfn z h
     ·have:z=sy:=by simpa using h
      rw [this]
      exact fun e=>c2 (decide_eq_true e)
   ·exact dI ⟨_,rfl,rfl,fun h=>absurd (decide_eq_true h) c⟩
  ·rintro σ H2 ⟨o3',rfl,e2,hno2⟩
   rw [<- lS,List.take_length]at hno2
   refine ⟨_,_,rfl,e2,fun z hz=>?_⟩
   rw [List.take_add_one,hfx]at hz
   rcases List.mem_append.mp hz with h | h
   ·exact hno z h
   ·have:z=fx:=by simpa using h
    rw [this]
    exact fun e=>hno2 e fx.own (hok.fo fx (List.mem_of_getElem? hfx)).1 rfl
 ·rintro σ H1 ⟨o2,o3,rfl,e1,hno⟩
  rw [<- lF,List.take_length]at hno
  exact absurd hn (hno fr hf)
theorem og {α β:Type}: ∀ {l:List (α×β)} {a:List α} {b:List β},l.map (·.1)=a->l.map (·.2)=b->l=a.zip b
 | [],_,_,h1,h2=>by subst h1;rfl
 | (x,y)::r,_,_,h1,h2=>by
  subst h1 h2
  show (x,y)::r=(x,y)::(r.map (·.1)).zip (r.map (·.2))
  rw [<- og (l:=r) rfl rfl]
inductive eQ  (vs:List V) (H:Hp) (Q:VK) (E_:XK):Prop
 | mk: ∀ n t tv,(vs=[tv])->(RepT H n t tv)->(t.sz<=100)->(∀ p zs H',H p=none->Same H H'->H' p=some (.lst zs)->Paired (RepP H' n) (aY t) zs->Q (.ref p) H')->eQ vs H Q E_
inductive h9  (vs:List V) (H:Hp) (Q:VK) (E_:XK):Prop
 | mk: ∀ bv tv bk n t m s,(vs=[bv,tv])->(RepB H bk bv)->(BkS bk)->(RepT H n t tv)->(TrS bk m t s)->(t.sz<=100)->(∀ p zs H',H p=none->Same H H'->H' p=some (.lst zs)->Paired (RepSp H') (be bk t) zs->Q (.ref p) H')->h9 vs H Q E_
noncomputable abbrev oN:List Str:=["tree","found","waits","place","bough","parts"]
theorem scLBoughs:aG oN ["tree"] (ak ia):=fsc
theorem pN (F:Fun K "_law_boughs" "_law_boughs" ia f fd) (G:Gb mg):aE P w K mg base CX0 1 f fd ["tree"] eQ:=by
 refine F.ok scLBoughs (fun vs H Q E h=>?_) (fun cdv A outer s H vs Q E hr h=>?_)
 ·obtain ⟨n,t,tv,rfl,_⟩:=h
  rfl
 obtain ⟨n,t,tv,rfl,hT,hsz,q⟩:=h
 refine ⟨_,ae (am (i:=1) scLBoughs.nd rfl (Or.inl rfl) (aN ad))
  (ae (am (i:=2) scLBoughs.nd rfl (Or.inl rfl) (aN (aa (aK (aa (aK ad) (aa (pv 0) ad))) ad)))
  (ae (ic PassesOwn.never (aM (rE hr.units0) (pv 2) (aN ad) (aV _))
   (ae (iQ (dg PySem.F.plainAttrs_list PySem.F.slot_list_pop PySem.F.type_list_pop uD (pv 2) (aa ag ad)) (cC rfl (aJ (au (i:=3) scLBoughs.nd rfl (Or.inr rfl)) (aJ (au (i:=4) scLBoughs.nd rfl (Or.inl rfl)) bV))))
   (ae (bx (dg PySem.F.plainAttrs_list PySem.F.slot_list_append PySem.F.type_list_append bn (pv 1) (aa (aK (aa (pv 3) (aa (pv 4) ad))) ad)))
   (ae (am (i:=5) scLBoughs.nd rfl (Or.inr rfl) (ar (r:=aW K) ax (pv 4) ag (fun _ _=>rfl)))
   (aj (am (i:=2) scLBoughs.nd rfl (Or.inl rfl) (aw cY
    (cH (sc0:=ak ia) (N0:=oN) (ys:=["parts","place"]) (fr:=[5,3]) rfl (br rfl G.range (aa (aq (r:=dl K) aH rfl G.len PySem.boot_len (aa (pv 5) ad)) ad)) rfl rfl
     cok
     (fun C s H ex=>aK (aa (aw (r:=jJ K) cv (pv 2) (aK (aa (pv 0) ad))) (aa (ar (r:=aW K) ax (pv 1) (pv 0) (fun _ _=>rfl)) ad))))
    (pv 2))))))))
  (aj (aL (pv 1))))),?_⟩
 refine ⟨(by show 0<=sizeLine;decide),fun fl hfl=>?_⟩
 have s0:=af hfl (.lst [])
 have g0:(upd H fl (.lst [])) fl=some (.lst []):=ac
 generalize upd H fl (.lst [])=H0 at s0 g0 ⊢
 refine ⟨(by show 0<=sizeLine;decide),fun e0 he0=>?_⟩
 have s1:=af he0 (.tup [])
 have g1:(upd H0 e0 (.tup [])) e0=some (.tup []):=ac
 generalize upd H0 e0 (.tup [])=H1 at s1 g1 ⊢
 refine ⟨_,rfl,(by show 2<=sizeLine;decide),fun c0 hc0=>?_⟩
 have s2:=af hc0 (.tup [.ref e0,tv])
 have g2:(upd H1 c0 (.tup [.ref e0,tv])) c0=some (.tup [.ref e0,tv]):=ac
 generalize upd H1 c0 (.tup [.ref e0,tv])=H2 at s2 g2 ⊢
 refine ⟨(by show 1<=sizeLine;decide),fun wl0 hwl0=>?_⟩
 have s3:=af hwl0 (.lst [.ref c0])
 have g3:(upd H2 wl0 (.lst [.ref c0])) wl0=some (.lst [.ref c0]):=ac
 generalize upd H2 wl0 (.lst [.ref c0])=H3 at s3 g3 ⊢
 have S3:Same H H3:=((s0.trans s1).trans s2).trans s3
 have hw0:H wl0=none:=((s0.trans s1).trans s2).free hwl0
 have nfw0:fl≠wl0:=fun z=>by have:=s2 _ _ (s1 _ _ g0);rw [z,hwl0]at this;cases this
 refine ⟨fun m σ H'=> ∃ (Wt:List (List Nat×Bt)) (ws:List V) (dn:List (List Nat×Bt)) (dz:List V) (wl:Addr) (o3 o4 o5:Option V),σ=[some tv,some (.ref fl),some (.ref wl),o3,o4,o5]/\Same H H'/\H' fl=some (.lst dz)/\H' wl=some (.lst ws)/\fl≠wl/\H wl=none/\
   Paired (RepP H' n) Wt ws/\Paired (RepP H' n) dn dz/\dn.map (·.1)++ck Wt=t.places/\dn.map (·.2)++cJ (Wt.map (·.2))=t.subs/\m=(ck Wt).length,
  ⟨_,[([],t)],[.ref c0],[],[],wl0,none,none,none,rfl,S3,s3 _ _ (s2 _ _ (s1 _ _ g0)),g3,nfw0,hw0,.cons ⟨c0,e0,tv,rfl,s3 _ _ g2,s3 _ _ (s2 _ _ g1),hT.mono (ay S3)⟩ .nil,.nil,?_,kE t,rfl⟩,?_⟩
 ·show []++(t.places.map (fun p=>[]++p)++[])=t.places
  rw [List.append_nil,List.nil_append]
  exact List.map_id _
 clear g3 S3 s3 g2 s2 g1 s1 g0 s0 hwl0 hc0 he0 hw0 nfw0
 rintro m σ H4 ⟨Wt,ws,dn,dz,wl,o3,o4,o5,rfl,S4,gf,gw,nfw,hw0,hP,hD,hall,hsub,rfl⟩
 have hlen:dn.length+ (ck Wt).length=t.sz:=by
  have:=congrArg List.length hall
  rw [List.length_append,List.length_map]at this
  exact this
 have ldz:dn.length=dz.length:=Paired.length hD
 refine ⟨_,rfl,(by show 0<=sizeLine;decide),fun p3 h3=>?_⟩
 have s5:=af h3 (.lst [])
 have g5:(upd H4 p3 (.lst [])) p3=some (.lst []):=ac
 have gf5:=s5 _ _ gf
 have gw5:=s5 _ _ gw
 have S5:=S4.trans s5
 have hP5:Paired (RepP (upd H4 p3 (.lst [])) n) Wt ws:=Paired.mapP hP fun _ _ r=>r.mono (ay s5)
 have hD5:Paired (RepP (upd H4 p3 (.lst [])) n) dn dz:=Paired.mapP hD fun _ _ r=>r.mono (ay s5)
 generalize upd H4 p3 (.lst [])=H5 at s5 g5 gf5 gw5 S5 hP5 hD5 ⊢
 clear hP hD gf gw S4 s5
 refine ⟨wl,p3,ws,rfl,rfl,SqL.of gw5,SqL.of g5,_,rfl,?_⟩
 cases hP5 with
 | nil=>
  refine dI ⟨_,rfl,q fl dz H5 hfl S5 gf5 ?_⟩
  have e1:dn.map (·.1)=t.places:=by rw [<- hall];exact (List.append_nil _).symm
  have e2:dn.map (·.2)=t.subs:=by rw [<- hsub];show _=_++cJ [];rw [eP,List.append_nil]
  unfold aY
  rw [<- og e1 e2]
  exact hD5
 | @cons qh z W' rs hz hP'=>
  refine kn ⟨_,fun σ' H'' h=>h,?_⟩
  obtain ⟨pl,u⟩:=qh
  obtain ⟨c,a,uv,rfl,hc,ha,hu5⟩:=hz
  refine ⟨_,rfl,.inl ⟨rfl,_,SqL.of gw5⟩,wl,_,0,0,.ref c,rfl,rfl,gw5,by decide,by decide,by simp [seqIndex?],rfl,?_⟩
  have tk6:TK H5 (upd H5 wl (.lst rs)):=TK.lst gw5
  have S6:Same H (upd H5 wl (.lst rs)):=fun y oo h=>by rw [ah (ai h hw0)];exact S5 _ _ h
  have gw6:(upd H5 wl (.lst rs)) wl=some (.lst rs):=ac
  have gf6:(upd H5 wl (.lst rs)) fl=some (.lst dz):=by rw [ah nfw];exact gf5
  rw [show (V.ref c::rs).eraseIdx 0=rs from rfl]
  generalize upd H5 wl (.lst rs)=H6 at tk6 S6 gw6 gf6 ⊢
  have hc6:=tk6 _ _ hc
  have ha6:=tk6 _ _ ha
  have hu6:=hu5.mono tk6
  have hP6:Paired (RepP H6 n) W' rs:=Paired.mapP hP' fun _ _ r=>r.mono tk6
  have hD6:Paired (RepP H6 n) dn dz:=Paired.mapP hD5 fun _ _ r=>r.mono tk6
  clear hP' hD5 hc ha hu5 gf5 gw5 S5 tk6
  refine ⟨c,_,rfl,SqT.of hc6,rfl,_,_,rfl,_,_,rfl,rfl,?_⟩
  refine ⟨_,rfl,.inl ⟨rfl,_,SqL.of gf6⟩,_,rfl,_,rfl,(by show 2<=sizeLine;decide),fun T hT'=>?_⟩
  have s7:=af hT' (.tup [.ref a,uv])
  have g7:(upd H6 T (.tup [.ref a,uv])) T=some (.tup [.ref a,uv]):=ac
  generalize upd H6 T (.tup [.ref a,uv])=H7 at s7 g7 ⊢
  have hrest:ck ((pl,u)::W')=pl::((bo 0 u.ps).map (fun p=>pl++p)++ck W'):=by
   show u.places.map (fun p=>pl++p)++ck W'=_
   rw [cS,List.map_cons,List.append_nil];rfl
  rw [hrest]at hall hlen ⊢
  rw [List.length_cons]at hlen
  refine ⟨fl,_,_,rfl,rfl,s7 _ _ gf6,ao (by lia),?_⟩
  have tk8:TK H7 (upd H7 fl (.lst (dz++[.ref T]))):=TK.lst (s7 _ _ gf6)
  have S8:Same H (upd H7 fl (.lst (dz++[.ref T]))):=fun y oo h=>by rw [ah (ai h hfl)];exact s7 _ _ (S6 _ _ h)
  have gf8:(upd H7 fl (.lst (dz++[.ref T]))) fl=some (.lst (dz++[.ref T])):=ac
  have gw8:(upd H7 fl (.lst (dz++[.ref T]))) wl=some (.lst rs):=by rw [ah (Ne.symm nfw)];exact s7 _ _ gw6
  have TK8:TK H6 (upd H7 fl (.lst (dz++[.ref T]))):=(ay s7).trans tk8
  have g8:=tk8 _ _ g7
  generalize upd H7 fl (.lst (dz++[.ref T]))=H8 at tk8 S8 gf8 gw8 TK8 g8 ⊢
  have ha8:=TK8 _ _ ha6
  have hu8:=hu6.mono TK8
  have hP8:Paired (RepP H8 n) W' rs:=Paired.mapP hP6 fun _ _ r=>r.mono TK8
  have hD8:Paired (RepP H8 n) (dn++[(pl,u)]) (dz++[.ref T]):=cQ (Paired.mapP hD6 fun _ _ r=>r.mono TK8) (.cons ⟨T,a,uv,rfl,g8,ha8,hu8⟩ .nil)
  clear hP6 hD6 hc6 ha6 hu6 gf6 gw6 S6 g7 s7 tk8 TK8
  obtain ⟨ua,ub,rfl,hua,hub,hps⟩:=hu8.prt
  have hpl:u.ps.length=(rq H8 (.ref ua)).length:=Paired.length hps
  have hszu:(bo 0 u.ps).length=szL u.ps:=eD _ _
  have hkl:=lH u.ps
  rw [List.length_append,List.length_map]at hlen
  refine ⟨_,rfl,ua,_,1,.ref ub,rfl,rfl,SqT.of hua,aF (j:=1) rfl,?_⟩
  refine ⟨_,rfl,ub,_,rfl,.inr (SqT.of hub),_,rfl,by lia,by lia,?_⟩
  rw [Int.toNat_natCast,<- hpl]
  have hx: ∀ i,i<u.ps.length->((List.range u.ps.length).map fun j=>V.int ((j:Nat):Int))[i]? =some (V.int ((i:Nat):Int)):=fun i hi=>by
   rw [List.getElem?_map,List.getElem?_range hi];rfl
  have hl:((List.range u.ps.length).map fun j=>V.int ((j:Nat):Int)).length=u.ps.length:=by rw [List.length_map,List.length_range]
  have hPr:Paired (fun (j:Nat) (v:V)=>v=V.int ((j:Nat):Int)) (List.range u.ps.length) ((List.range u.ps.length).map fun j=>V.int ((j:Nat):Int)):=by
   generalize List.range u.ps.length=l
   induction l with
   | nil=>exact .nil
   | cons a r ih=>exact .cons rfl ih
  refine iz (by lia) hPr (fun i H _ h=>iW i H (by lia)) (fun H _=>by rw [hl];exact eY H) (fun i H v H' hi _ h=>?_) (fun H j z=> ∃ x,u.ps[j]? =some x/\RepP H n (pl++[j],x) z) (fun k ⟨x,e,h⟩=>⟨x,e,h.mono k⟩) ?_ ?_
  ·refine ⟨h.1,?_⟩
   rw [hx i (by lia),h.2]
   exact congrArg (fun x=>some (V.int x)) (show ((i:Nat):Int)=0+ (i:Int) by lia)
  ·intro j v H9 k hj hv s9 hk
   subst hv
   have hj':=List.mem_range.mp hj
   have hxj:u.ps[j]? =some u.ps[j]:=List.getElem?_eq_getElem hj'
   obtain ⟨xv,hxv,rx⟩:=a7 hps hxj
   refine ⟨_,rfl,_,rfl,(by show 1<=sizeLine;decide),fun q1 hq1=>?_⟩
   have s10:=af hq1 (.tup [V.int ((j:Nat):Int)])
   have g10:(upd H9 q1 (.tup [V.int ((j:Nat):Int)])) q1=some (.tup [V.int ((j:Nat):Int)]):=ac
   generalize upd H9 q1 (.tup [V.int ((j:Nat):Int)])=H10 at s10 g10 ⊢
   have ha10:=s10 _ _ (s9 _ _ ha8)
   have lpl:(plV pl).length=pl.length:=List.length_map _
   have hplm:pl∈t.places:=by rw [<- hall];exact List.mem_append_right _ List.mem_cons_self
   have hshort:=dN t.sz t (Nat.le_refl _) pl hplm
   refine gc ha10 g10 (by rw [lpl];show pl.length+1<=1000;lia) fun b H11 s11 gb=>?_
   refine ⟨_,rfl,_,rfl,ub,_,_,xv,rfl,rfl,SqT.of (s11 _ _ (s10 _ _ (s9 _ _ hub))),aF hxv,(by show 2<=sizeLine;decide),fun p hp=>?_⟩
   have s12:=af hp (.tup [.ref b,xv])
   refine hk _ _ (s10.trans (s11.trans s12)) ⟨_,hxj,p,b,xv,rfl,ac,s12 _ _ (by rw [gb];show some (HO.tup (plV pl++[V.int ((j:Nat):Int)]))=some (HO.tup (plV (pl++[j])));unfold plV;rw [List.map_append];rfl),rx.mono (ay (s9.trans (s10.trans (s11.trans s12))))⟩
  ·intro pb zb H9 hpb s9 gpb hzb
   have lzb:u.ps.length=zb.length:=by
    have:=Paired.length hzb
    rw [List.length_range]at this
    exact this
   have gw9:=s9 _ _ gw8
   have lrs:W'.length=rs.length:=Paired.length hP8
   have lW:=iO W'
   refine ⟨_,rfl,pb,wl,zb,rs,rfl,rfl,gpb,gw9,Nat.le_of_lt (ao (by lia)),fun nw hnw=>?_⟩
   have s10:=af hnw (.lst (zb++rs))
   have S10:=s9.trans s10
   have hrk:ck (jb pl 0 u.ps++W')=(bo 0 u.ps).map (fun p=>pl++p)++ck W':=by rw [ft,gM]
   refine ⟨_,?_,jb pl 0 u.ps++W',zb++rs,dn++[(pl,u)],dz++[.ref T],nw,_,_,_,rfl,S8.trans S10,S10 _ _ gf8,ac,?_,(S8.trans s9).free hnw,?_,Paired.mapP hD8 fun _ _ r=>r.mono (ay S10),?_,?_,rfl⟩
   ·rw [hrk,List.length_cons];lia
   ·intro z
    have:=s9 _ _ gf8
    rw [z,hnw]at this;cases this
   ·refine cQ (iS (by rw [jT];exact lzb) fun i qq z e1 e2=>?_) (Paired.mapP hP8 fun _ _ r=>r.mono (ay S10))
    obtain ⟨x,hx',rfl⟩:=jU pl u.ps 0 i qq e1
    obtain ⟨j,hj,x',hx2,hR⟩:=aC hzb e2
    have hi:i<u.ps.length:=(List.getElem?_eq_some_iff.mp hx').1
    rw [List.getElem?_range hi]at hj
    cases hj
    rw [hx']at hx2
    cases hx2
    rw [Nat.zero_add]
    exact hR.mono (ay s10)
   ·rw [hrk,List.map_append,List.append_assoc];exact hall
   ·have e1:cJ (((pl,u)::W').map (·.2))=u::cJ (u.ps++W'.map (·.2)):=kH u _
    rw [<- hsub,e1,List.map_append,List.map_append,jS,List.append_assoc];rfl
noncomputable abbrev qN:List Str:=["book","tree","found","place","bough","downs","ups"]
theorem scLSpots:aG qN ["book","tree"] (ak jf):=fsc
theorem rO (F:Fun K "_law_spots" "_law_spots" jf f fd)
  (GB:aE P w K mg base CX0 1 f2 fd2 ["tree"] eQ) (bB:Binds K fd2 ["tree"] []) (kB:PySem.W.keepIn K (.ref f2)=true) (mB:mg "_law_boughs"=some (.ref f2))
  (GW:aE P w K mg base CX0 1 f3 fd3 ["book","name"] jv) (bW:Binds K fd3 ["book","name"] []) (kW:PySem.W.keepIn K (.ref f3)=true) (mW:mg "_law_words"=some (.ref f3)):aE P w K mg base CX0 2 f fd ["book","tree"] h9:=by
 refine F.ok scLSpots (fun vs H Q E h=>?_) (fun cdv A outer s H vs Q E hr h=>?_)
 ·obtain ⟨bv,tv,bk,n,t,m,s,rfl,_⟩:=h
  rfl
 obtain ⟨bv,tv,bk,n,t,m,sr,rfl,hB,hok,hT,hTr,hsz,q⟩:=h
 refine ⟨_,ae (am (i:=2) scLSpots.nd rfl (Or.inl rfl) (aN ad))
  (ae (a6 PassesOwn.never rfl (cL (al GB hr rfl mB kB bB .nil aA (aa (pv 1) ad))) (cC rfl (aJ (au (i:=3) scLSpots.nd rfl (Or.inr rfl)) (aJ (au (i:=4) scLSpots.nd rfl (Or.inl rfl)) bV)))
   (ae (iQ (al GW hr rfl mW kW bW .nil aA (aa (pv 0) (aa (ar (r:=aW K) ax (pv 4) ag (fun _ _=>rfl)) ad))) (cC rfl (aJ (au (i:=5) scLSpots.nd rfl (Or.inl rfl)) (aJ (au (i:=6) scLSpots.nd rfl (Or.inl rfl)) bV))))
   (aj (bx (dg PySem.F.plainAttrs_list PySem.F.slot_list_extend PySem.F.type_list_extend gu (pv 2) (aa
    (cH (sc0:=ak jf) (N0:=qN) (ys:=["place"]) (fr:=[3]) rfl (bf (aw cv (pv 5) (pv 6))) rfl rfl
     cok
     (fun C s H ex=>aK (aa (pv 1) (aa (pv 0) ad)))) ad))))))
  (aj (aL (pv 2)))),?_⟩
 refine ⟨(by show 0<=sizeLine;decide),fun fl hfl=>?_⟩
 have s0:=af hfl (.lst [])
 have g0:(upd H fl (.lst [])) fl=some (.lst []):=ac
 generalize upd H fl (.lst [])=H0 at s0 g0 ⊢
 refine ⟨_,rfl,n,t,tv,rfl,hT.mono (ay s0),hsz,fun bl zs H1 hbl s1 gbl hZ=>?_⟩
 refine ⟨bl,rfl,⟨zs,SqL.of gbl⟩,?_⟩
 have nbf:bl≠fl:=fun z=>by rw [z,g0]at hbl;cases hbl
 have hsub:=cN t.sz t (Nat.le_refl _)
 have lsub:t.places.length=t.subs.length:=Paired.length hsub
 have lsz:t.places.length=t.sz:=rfl
 have litems:(aY t).length=t.sz:=by unfold aY;rw [List.length_zip];lia
 have lZ:(aY t).length=zs.length:=Paired.length hZ
 have hfrm: ∀ u∈t.subs,∃ fr,fr∈bk.forms/\Frm.name fr=u.nm/\cI bk u=fr.own:=fun u hu=>by
  obtain ⟨i,hi⟩:=List.getElem?_of_mem hu
  obtain ⟨p,hp,hat⟩:=aC hsub hi
  obtain ⟨m',s',h1⟩:=hTr.at hat
  obtain ⟨fr,f1,f2,f3⟩:=h1.frm
  exact ⟨fr,f1,f2,cG hok.nd f1 f2⟩
 have hwd: ∀ u∈t.subs,(dD (cI bk u)).length<=6:=fun u hu=>by
  obtain ⟨fr,f1,_,f3⟩:=hfrm u hu
  obtain ⟨w1,w2,w3,_⟩:=hok.ws _ (hok.fo fr f1).1
  rw [f3]
  unfold dD
  rw [List.length_append];lia
 refine cD (xs:=zs) (fun i σ H'=> ∃ o3 o4 o5 o6 fz,σ=[some bv,some tv,some (.ref fl),o3,o4,o5,o6]/\Same H H'/\TK H1 H'/\H' bl=some (.lst zs)/\H' fl=some (.lst fz)/\Paired (RepSp H') (((aY t).take i).flatMap (dL bk)) fz)
  ⟨none,none,none,none,[],rfl,s0.trans s1,fun _ _ h=>h,gbl,s1 _ _ g0,.nil⟩ (fun i σ H' _ h=>by obtain ⟨_,_,_,_,_,_,_,_,g,_⟩:=h;exact SqL.of g) ?_ ?_
 ·rintro i x σ H2 hx ⟨o3,o4,o5,o6,fz,rfl,S2,tk2,gb2,gf2,hF⟩
  obtain ⟨qu,hitem,hRP⟩:=aC hZ hx
  obtain ⟨pl,u⟩:=qu
  obtain ⟨c,a,uv,rfl,hc,ha,hu⟩:=hRP.mono tk2
  obtain ⟨ua,ub,rfl,hua⟩:=jH hu
  have hum:u∈t.subs:=(List.of_mem_zip (List.mem_of_getElem? hitem)).2
  obtain ⟨fr,f1,f2,f3⟩:=hfrm u hum
  refine ⟨c,_,rfl,SqT.of hc,rfl,_,_,rfl,_,_,rfl,rfl,?_⟩
  refine ⟨_,rfl,_,rfl,ua,_,0,.str u.nm,rfl,rfl,SqT.of hua,cq,bv,bk,u.nm,fr,rfl,hB.mono (ay S2),hok,f1,f2,fun d db uc H3 s3 gd gdb guc=>?_⟩
  refine ⟨d,_,rfl,SqT.of gd,rfl,_,_,rfl,_,_,rfl,rfl,?_⟩
  have hw6:=hwd u hum
  have l1:(fr.own.downs.map V.str).length+ (fr.own.ups.map V.str).length<=6:=by
   rw [List.length_map,List.length_map]
   rw [f3]at hw6
   unfold dD at hw6
   rw [List.length_append]at hw6
   exact hw6
  refine ⟨_,rfl,.inl ⟨rfl,_,SqL.of (s3 _ _ gf2)⟩,_,rfl,_,rfl,gc gdb guc (by lia) fun cc H4 s4 gcc=>?_⟩
  have ecc:fr.own.downs.map V.str++fr.own.ups.map V.str=(dD fr.own).map V.str:=by unfold dD;rw [List.map_append]
  rw [ecc]at gcc
  refine ⟨cc,rfl,⟨_,SqT.of gcc⟩,?_⟩
  have hPw:Paired (fun (w:Str) (v:V)=>v=V.str w) (dD fr.own) ((dD fr.own).map V.str):=by
   generalize dD fr.own=l
   induction l with
   | nil=>exact .nil
   | cons a r ih=>exact .cons rfl ih
  have lw:((dD fr.own).map V.str).length<=6:=by rw [List.length_map,<- f3];exact hw6
  have ha4:H4 a=some (.tup ((av pl).map kV)):=by rw [oD];exact s4 _ _ (s3 _ _ ha)
  refine iz (by lia) hPw (fE gcc) (fD gcc) (fun i H v H' _ s h=>ip gcc i H v H' s h) (fun H w z=>RepSp H (pl,w) z) (fun k h=>h.mono k) ?_ ?_
  ·intro w v H5 k _ hv s5 hk
   subst hv
   refine ⟨_,rfl,_,rfl,(by show 2<=sizeLine;decide),fun p hp=>hk _ _ (af hp _) ⟨p,a,rfl,ac,af hp _ _ _ (s5 _ _ ha4)⟩⟩
  ·intro p zw H5 hp s5 gp hzw
   have S25:=s3.trans (s4.trans s5)
   have gf5:=S25 _ _ gf2
   have lzw:(dD fr.own).length=zw.length:=Paired.length hzw
   have lfz:fz.length<=600:=by
    have h1:=Paired.length hF
    have h2:=iu (bk:=bk) (l:=(aY t).take i) fun q hq=>hwd q.2 (List.of_mem_zip (List.mem_of_mem_take hq)).2
    have h3:((aY t).take i).length<=100:=by rw [List.length_take];lia
    lia
   rw [List.length_map]at lw
   refine ⟨fl,p,_,_,rfl,rfl,gf5,gp,Nat.le_of_lt (ao (by lia)),?_⟩
   have tk6:TK H5 (upd H5 fl (.lst (fz++zw))):=TK.lst gf5
   refine ⟨_,_,_,_,_,rfl,?_,(tk2.trans (ay S25)).trans tk6,by rw [ah nbf];exact S25 _ _ gb2,ac,?_⟩
   ·intro y oo h
    rw [ah (ai h hfl)]
    exact S25 _ _ (S2 _ _ h)
   ·rw [List.take_add_one,hitem,List.flatMap_append]
    refine cQ (Paired.mapP hF fun _ _ r=>(r.mono (ay S25)).mono tk6) ?_
    show Paired _ (([(pl,u)]:List (List Nat×Bt)).flatMap (dL bk)) zw
    rw [List.flatMap_cons,List.flatMap_nil,List.append_nil]
    show Paired _ ((dD (cI bk u)).map fun w=>(pl,w)) zw
    rw [f3]
    exact eF (fun w z h=>h.mono tk6) hzw
 ·rintro σ H2 ⟨o3,o4,o5,o6,fz,rfl,S2,tk2,gb2,gf2,hF⟩
  rw [<- lZ,List.take_length]at hF
  exact ⟨_,rfl,q fl fz H2 hfl S2 gf2 hF⟩
theorem jL (pl:List Nat):(av pl).map kV=pl.map fun k=>V.int ((k:Nat):Int):=by
 unfold av
 rw [List.map_map];rfl
theorem iC {bk:Bk} (hok:BkS bk) {n:Nat} {t:Bt} {s:Srt} (h:TrS bk n t s) (hsz:t.sz<=100):(be bk t).length<=600:=by
 have h1:=iu (bk:=bk) (l:=t.places.zip t.subs) fun q hq=>by
  obtain ⟨i,hi⟩:=List.getElem?_of_mem (List.of_mem_zip hq).2
  obtain ⟨pl,_,hat⟩:=aC (cN t.sz t (Nat.le_refl _)) hi
  obtain ⟨m',s',h2⟩:=h.at hat
  obtain ⟨fr,f1,f2,f3⟩:=h2.frm
  obtain ⟨w1,w2,_⟩:=hok.ws _ (hok.fo fr f1).1
  rw [cG hok.nd f1 f2]
  unfold dD
  rw [List.length_append];lia
 have h2:(t.places.zip t.subs).length<=100:=by
  rw [List.length_zip]
  have:t.places.length=t.sz:=rfl
  lia
 show ((t.places.zip t.subs).flatMap (dL bk)).length<=600
 lia
theorem iD {H:Hp}: ∀ {l:List (List Nat×Str)} {xs ys:List V},Paired (RepSp H) l xs->Paired (RepSp H) l ys->Paired (AlkT H 2) xs ys
 | _,_,_,.nil,.nil=>.nil
 | _,_,_,.cons ⟨b,c,e,h1,h2⟩ t,.cons ⟨b',c',e',h1',h2'⟩ t'=>by
  refine .cons (.inr ⟨b,b',_,_,e,e',h1,h1',.cons (.inr ⟨c,c',_,_,rfl,rfl,h2,h2',?_⟩) (.cons (.inl (.inl ⟨_,rfl,rfl⟩)) .nil)⟩) (iD t t')
  rw [jL]
  clear h2 h2'
  generalize Prod.fst _=pl
  induction pl with
  | nil=>exact .nil
  | cons k r ih=>exact .cons (.inr ⟨_,rfl,rfl⟩) ih
inductive sX  (vs:List V) (H:Hp) (Q:VK) (E_:XK):Prop
 | mk: ∀ p zs l,(vs=[.ref p])->(H p=some (.lst zs))->(Paired (RepSp H) l zs)->(zs.length<=1000)->((∀ q∈l,q.1.length<=1000/\q.2.length<=1000))->(∀ H',Same H H'->Q (.bl true) H')->sX vs H Q E_
theorem scAre:aG ["found","spot"] ["found"] (ak gk):=fsc
theorem xt (F:Fun K "_law_are_spots" "_law_are_spots" gk f fd) (G:Gb mg) (hlist:mg "list"=none)
  (GW:aE P w K mg base CX0 1 f2 fd2 ["found"] ql) (bW:Binds K fd2 ["found"] []) (kW:PySem.W.keepIn K (.ref f2)=true) (mW:mg "_law_whole"=some (.ref f2)):aE P w K mg base CX0 2 f fd ["found"] sX:=by
 refine F.ok scAre (fun vs H Q E h=>?_) (fun cdv A outer s H vs Q E hr h=>?_)
 ·obtain ⟨p,zs,l,rfl,_⟩:=h
  rfl
 obtain ⟨p,zs,l,rfl,gp,hZ,hlen,hsh,q⟩:=h
 refine ⟨_,ae (bi (gP (dZ (aq e7 rfl G.isi (by decide +kernel) (aa (pv 0) (aa (fw (v:=.ty "list") rfl hlist (by decide +kernel) rfl) ad))))) dU aP)
  (ae (a6 PassesOwn.never rfl (cL (pv 0)) (au (i:=1) scAre.nd rfl (Or.inl rfl))
   (ae (bi (PW.pt (nW (gP (dZ (aq e7 rfl G.isi (by decide +kernel) (aa (pv 1) (aa (fw (v:=.ty "tuple") rfl G.tuple (by decide +kernel) rfl) ad)))))
     (nW (aM wI (aq (r:=dl K) aH rfl G.len PySem.boot_len (aa (pv 1) ad)) ag (aV _))
     (my (gP (dZ (aq e7 rfl G.isi (by decide +kernel) (aa (ar (r:=aW K) ax (pv 1) ag (fun _ _=>rfl)) (aa (fw (v:=.ty "tuple") rfl G.tuple (by decide +kernel) rfl) ad))))))))) dU aP)
   (aj (bi (PW.pt (nW (gP (dZ (aq e7 rfl G.isi (by decide +kernel) (aa (ar (r:=aW K) ax (pv 1) ag (fun _ _=>rfl)) (aa (fw (v:=.ty "str") rfl G.str (by decide +kernel) rfl) ad)))))
     (my (gP (dZ (aq (ka rfl) rfl G.all (by decide +kernel) (aa (cH (sc0:=ak gk) (N0:=["found","spot"]) (ys:=[]) (fr:=[]) rfl (bf (ar (r:=aW K) ax (pv 1) ag (fun _ _=>rfl))) rfl rfl
      cok
      (fun C s H ex=>al GW hr rfl mW kW bW .nil aA (aa (pv 0) ad))) ad))))))) dU aP))))
  (aj (aL n9))),?_⟩
 refine ⟨_,rfl,.ref p,"list",rfl,.inl ⟨zs,gp⟩,by simp,true,?_,dI ?_⟩
 ·exact congrArg V.bl (by simp only [isV,gp];rfl)
 refine ⟨_,rfl,p,rfl,⟨zs,SqL.of gp⟩,?_⟩
 refine cD (xs:=zs) (fun i σ H'=> ∃ o1,σ=[some (.ref p),o1]/\Same H H') ⟨none,rfl,Same.refl H⟩ (fun i σ H' _ h=>by obtain ⟨_,_,sm⟩:=h;exact SqL.of (sm _ _ gp)) ?_ ?_
 ·rintro i x σ H1 hx ⟨o1,rfl,s1⟩
  obtain ⟨qq,hq,b,c,rfl,hb,hc⟩:=aC hZ hx
  obtain ⟨hs1,hs2⟩:=hsh qq (List.mem_of_getElem? hq)
  have hb1:=s1 _ _ hb
  have hc1:=s1 _ _ hc
  refine ⟨_,rfl,.ref b,"tuple",rfl,.inr (.inl ⟨_,hb1⟩),by simp,true,?_,dI ?_⟩
  ·exact congrArg V.bl (by simp only [isV,hb1];rfl)
  refine ⟨_,rfl,b,_,rfl,.inr (SqT.of hb1),rfl,_,rfl,?_⟩
  rw [show (!decide (V.int (([V.ref c,V.str qq.2].length:Nat):Int)=V.int 2))=false from congrArg Bool.not (decide_eq_true (show V.int (([V.ref c,V.str qq.2].length:Nat):Int)=V.int 2 from rfl))]
  refine dI ⟨_,rfl,b,_,0,.ref c,rfl,rfl,SqT.of hb1,cq,.ref c,"tuple",rfl,.inr (.inl ⟨_,hc1⟩),by simp,true,?_,dI ?_⟩
  ·exact congrArg V.bl (by simp only [isV,hc1];rfl)
  refine ⟨_,rfl,b,_,1,.str qq.2,rfl,rfl,SqT.of hb1,aF (j:=1) rfl,.str qq.2,"str",rfl,hs2,by simp,true,rfl,dI ?_⟩
  refine ⟨_,rfl,b,_,0,.ref c,rfl,rfl,SqT.of hb1,cq,c,rfl,⟨_,SqT.of hc1⟩,?_⟩
  have hPw:Paired (fun (k:Nat) (v:V)=>v=V.int ((k:Nat):Int)) qq.1 ((av qq.1).map kV):=by
   rw [jL]
   generalize qq.1=l
   induction l with
   | nil=>exact .nil
   | cons a r ih=>exact .cons rfl ih
  refine iz (by rw [jL,List.length_map];exact hs1) hPw (fE hc1) (fD hc1) (fun i H v H' _ s h=>ip hc1 i H v H' s h) (fun _ _ z=>z=.bl true) (fun _ h=>h) ?_ ?_
  ·intro k v H2 kk _ hv s2 hk
   subst hv
   exact ⟨_,rfl,_,rfl,trivial,hk _ _ (fun _ _ h=>h) rfl⟩
  ·intro p2 z2 H2 hp2 s2 gp2 hz2
   have ez:z2=(List.replicate qq.1.length true).map V.bl:=by
    clear gp2 hPw hsh
    generalize qq.1=l at hz2
    induction hz2 with
    | nil=>rfl
    | cons h _ ih=>rw [h,ih];rfl
   refine ⟨p2,List.replicate qq.1.length true,rfl,SqL.of (by rw [gp2,ez]),true,?_,dI ⟨_,rfl,s1.trans s2⟩⟩
   exact congrArg V.bl (by simp)
 ·rintro σ H1 ⟨o1,rfl,s1⟩
  exact q H1 s1
theorem wY {d:Int} (h0:0<=d) (h1:d<6): ∃ r:Nat,atI [V.int 4,.int 8,.int 16,.int 24,.int 8,.int 61] d=some (.int ((r:Nat):Int))/\4<=r:=by
 have:d=0\/d=1\/d=2\/d=3\/d=4\/d=5:=by lia
 rcases this with rfl | rfl | rfl | rfl | rfl | rfl
 ·exact ⟨4,rfl,by lia⟩
 ·exact ⟨8,rfl,by lia⟩
 ·exact ⟨16,rfl,by lia⟩
 ·exact ⟨24,rfl,by lia⟩
 ·exact ⟨8,rfl,by lia⟩
 ·exact ⟨61,rfl,by lia⟩
inductive jx (K:PySem.W.Frag) (vs:List V) (H:Hp) (Q:VK) (E_:XK):Prop
 | mk: ∀ (sc:Addr) (ns:List Int) (st:Int) (few:Bool),(vs=[.ref sc,.int st,.bl few])->(SqL K H sc (ns.map V.int))->(ns.length<=63)->(0<=st)->(st<800)->(∀ d bv tv bk t s H',Same H H'->H' d=some (.tup [bv,tv])->RepB H' bk bv->BookOk bk->RepT H' 60 t tv->TreeOk bk 60 t s->t.sz<=60->Q (.ref d) H')->jx K vs H Q E_
noncomputable abbrev qO:List Str:=["script","start","few","book","least","tape","sort","grown","more","room"]
theorem scLGrown:aG qO ["script","start","few"] (ak jg):=fsc
theorem rS (F:Fun K "_law_grown" "_law_grown" jg f fd) (G:Gb mg)
  (GB:aE P w K mg base CX0 6 f2 fd2 ["script","start","few"] (ph K)) (bB:Binds K fd2 ["script","start","few"] []) (kB:PySem.W.keepIn K (.ref f2)=true) (mB:mg "_law_book"=some (.ref f2))
  (GL:aE P w K mg base CX0 1 f3 fd3 ["book"] lO) (bL:Binds K fd3 ["book"] []) (kL:PySem.W.keepIn K (.ref f3)=true) (mL:mg "_law_least"=some (.ref f3))
  (GT:aE P w K mg base CX0 2 f4 fd4 ["script","k"] (iF K)) (bT:Binds K fd4 ["script","k"] []) (kT:PySem.W.keepIn K (.ref f4)=true) (mT:mg "_law_tape"=some (.ref f4))
  (GD:aE P w K mg base CX0 1 f5 fd5 ["tape","many"] cf) (bD:Binds K fd5 ["tape","many"] []) (kD:PySem.W.keepIn K (.ref f5)=true) (mD:mg "_law_digit"=some (.ref f5))
  (GR:aE P w K mg base CX0 62 f6 fd6 ["tape","book","least","sort","room"] (gK 60)) (bR:Binds K fd6 ["tape","book","least","sort","room"] []) (kR:PySem.W.keepIn K (.ref f6)=true) (mR:mg "_law_tree"=some (.ref f6)):
  aE P w K mg base CX0 63 f fd ["script","start","few"] (jx K):=by
 refine F.ok scLGrown (fun vs H Q E h=>?_) (fun cdv A outer s H vs Q E hr h=>?_)
 ·obtain ⟨sc,ns,st,few,rfl,_⟩:=h
  rfl
 obtain ⟨sc,ns,st,few,rfl,hS,hlen,hst0,hst1,q⟩:=h
 have hu:=cZ hr
 have hr1:=hr.mono (show 1<=62 by decide)
 have hr2:=hr.mono (show 2<=62 by decide)
 have hr6:=hr.mono (show 6<=62 by decide)
 refine ⟨_,ae (am (i:=3) scLGrown.nd rfl (Or.inl rfl) (al GB hr6 rfl mB kB bB .nil aA (aa (pv 0) (aa (aw a8 (pv 1) ag) (aa (pv 2) ad)))))
  (ae (am (i:=4) scLGrown.nd rfl (Or.inr rfl) (al GL hr1 rfl mL kL bL .nil aA (aa (pv 3) ad)))
  (ae (am (i:=5) scLGrown.nd rfl (Or.inl rfl) (al GT hr2 rfl mT kT bT .nil aA (aa (pv 0) (aa (pv 1) ad))))
  (ae (nY (i:=7) (sc0:=ak jg) (N0:=qO) (ys:=["least"]) (fr:=[4]) rfl scLGrown.nd rfl (Or.inl rfl)
    (bf (ar (r:=aW K) ax (pv 3) ag (fun _ _=>rfl))) rfl rfl
    cok
    (fun C s H ex=>mz (mP hu (ar (r:=aW K) ax (pv 0) ag (fun _ _=>rfl)) (pv 1)))
    (fun C s H ex=>ar (r:=aW K) ax (pv 0) ag (fun _ _=>rfl)))
  (ae (am (i:=6) scLGrown.nd rfl (Or.inl rfl) (ar (r:=cB K) aS (pv 7) (al GD hr1 rfl mD kD bD .nil aA (aa (pv 5) (aa (aq (r:=dl K) aH rfl G.len PySem.boot_len (aa (pv 7) ad)) ad))) (fun _ _=>rfl)))
  (ae (am (i:=8) scLGrown.nd rfl (Or.inl rfl) (aq (iY rfl) rfl G.min (by decide +kernel) (aa (aw ee ag (bp hu (pv 4) (pv 6) (fun _ _=>rfl))) (aa
    (ar (r:=cB K) aS (aN (aa ag (aa ag (aa ag (aa ag (aa ag (aa ag ad))))))) (al GD hr1 rfl mD kD bD .nil aA (aa (pv 5) (aa ag ad))) (fun _ _=>rfl)) ad))))
  (ae (am (i:=9) scLGrown.nd rfl (Or.inl rfl) (aw a8 (bp hu (pv 4) (pv 6) (fun _ _=>rfl)) (al GD hr1 rfl mD kD bD .nil aA (aa (pv 5) (aa (pv 8) ad)))))
  (aj (aL (aK (aa (pv 3) (aa (al GR hr rfl mR kR bR .nil aA (aa (pv 5) (aa (pv 3) (aa (pv 4) (aa (pv 6) (aa (pv 9) ad)))))) ad))))))))))),?_⟩
 refine ⟨_,rfl,_,rfl,_,_,rfl,rfl,_,rfl,sc,ns,st+1,few,rfl,hS,hlen,by lia,by lia,fun bv bk H1 hB hok s1=>?_⟩
 refine ⟨_,rfl,bv,bk,rfl,hB,hok,fun d H2 hd s2 gd2 hI hTop=>?_⟩
 have S2:=s1.trans s2
 refine ⟨_,rfl,_,rfl,sc,ns,st,rfl,SqL.keep hS (fun o e=>S2 _ _ e),hlen,by lia,by lia,fun tp tt htp=>?_⟩
 have s3:=af htp (.lst [.int tt])
 have tp3:Tp (upd H2 tp (.lst [.int tt])) tp:=⟨tt,ac⟩
 generalize upd H2 tp (.lst [.int tt])=H3 at s3 tp3 ⊢
 have S3:=S2.trans s3
 have htp0:H tp=none:=S2.free htp
 have hB3:RepB H3 bk bv:=hB.mono (ay (s2.trans s3))
 have hB3':=hB3
 obtain ⟨a,sa,fa,fv,rfl,ha,⟨sx,hsa,hSx⟩,hfa,hF⟩:=hB3'
 have lS:=hSx.len
 have h4:=hok.so.2.1
 have gd3:=s3 _ _ gd2
 refine ⟨_,rfl,a,_,1,.ref sa,rfl,rfl,SqT.of ha,aF (j:=1) rfl,sa,rfl,⟨sx,SqT.of hsa⟩,?_⟩
 refine j4 (by lia) hSx (fE hsa) (fD hsa) (ip hsa) (eg (aZ bk)) (fun _ s v=>v=.str s.name) (fun _ h=>h) ?_ ?_ ?_
 ·rintro sr v H' k _ ⟨a1,b1,c1,rfl,g1,_⟩ s' hk
  exact ⟨_,rfl,a1,_,0,_,rfl,rfl,SqT.of (s' _ _ g1),cq,_,rfl,d,_,rfl,DGet.k (k:=.inr sr.name) (s' _ _ gd3),_,rfl,hk⟩
 ·rintro sr v H' k _ ⟨a1,b1,c1,rfl,g1,_⟩ _ s' hk
  exact ⟨_,rfl,a1,_,0,_,rfl,rfl,SqT.of (s' _ _ g1),cq,hk _ _ (fun _ _ h=>h) rfl⟩
 intro gl zs H4 hgl s4 ggl hz
 have ez:=iR hz
 subst ez
 have tp4:=tp3.same s4
 have hpos:0< (bk.sorts.filter (eg (aZ bk))).length:=by
  obtain ⟨fr,hfr,m,hm⟩:=hTop
  obtain ⟨mode,_,hfo⟩:=hok.fo
  refine List.length_pos_of_mem (List.mem_filter.mpr ⟨(hfo fr hfr).1,?_⟩)
  unfold eg
  rw [show aO (aZ bk) (.inr fr.own.name)=_ from hm]
  rfl
 have hfl:(bk.sorts.filter (eg (aZ bk))).length<=bk.sorts.length:=List.length_filter_le _ _
 have lmap:((bk.sorts.filter (eg (aZ bk))).map fun s=>V.str (Srt.name s)).length=(bk.sorts.filter (eg (aZ bk))).length:=List.length_map _
 refine ⟨_,rfl,_,rfl,_,rfl,gl,_,rfl,.inl (SqL.of ggl),tp,_,rfl,tp4,by lia,by lia,fun dd t1 hd0 hd1=>?_⟩
 obtain ⟨x,ex,ex2⟩:=fF hd0 hd1
 have k5:Kp tp H3 (upd H4 tp (.lst [.int t1])):=(Kp.refl.same s4).trans Kp.tape
 have tp5:Tp (upd H4 tp (.lst [.int t1])) tp:=⟨t1,ac⟩
 have ngl:gl≠tp:=dC tp3 hgl
 have nd:d≠tp:=fun z=>by rw [z,htp]at gd2;cases gd2
 have g5:(upd H4 tp (.lst [.int t1])) gl=some (.lst ((bk.sorts.filter (eg (aZ bk))).map fun s=>V.str (Srt.name s))):=by rw [ah ngl];exact ggl
 have gd5:(upd H4 tp (.lst [.int t1])) d=some (.dK (aZ bk)):=by rw [ah nd];exact s4 _ _ gd3
 generalize upd H4 tp (.lst [.int t1])=H5 at k5 tp5 g5 gd5 ⊢
 refine ⟨gl,_,dd,x,rfl,rfl,SqL.of g5,ex,?_⟩
 obtain ⟨sr,hsr,rfl⟩: ∃ sr,sr∈bk.sorts.filter (eg (aZ bk))/\x=V.str (Srt.name sr):=by
  obtain ⟨sr,h1,h2⟩:=List.mem_map.mp (List.mem_of_getElem? ex2)
  exact ⟨sr,h1,h2.symm⟩
 obtain ⟨hsin,hshas⟩:=List.mem_filter.mp hsr
 obtain ⟨v,hv⟩:=Option.isSome_iff_exists.mp (show (aO (aZ bk) (.inr sr.name)).isSome=true from hshas)
 obtain ⟨m,rfl,hm1,_⟩:=hI.val hv
 have hm40:=hI.small hok hv
 refine ⟨_,rfl,_,rfl,d,_,rfl,fX gd5 hv,_,_,rfl,rfl,(by show 6<=sizeLine;decide),fun ml hml=>?_⟩
 have s6:=af hml (.lst [.int 4,.int 8,.int 16,.int 24,.int 8,.int 61])
 have g6:(upd H5 ml (.lst [.int 4,.int 8,.int 16,.int 24,.int 8,.int 61])) ml=some (.lst [.int 4,.int 8,.int 16,.int 24,.int 8,.int 61]):=ac
 generalize upd H5 ml (.lst [.int 4,.int 8,.int 16,.int 24,.int 8,.int 61])=H6 at s6 g6 ⊢
 have nml:ml≠tp:=dC tp5 hml
 have tp6:=tp5.same s6
 refine ⟨_,rfl,tp,_,rfl,tp6,by decide,by decide,fun d2 t2 hd20 hd21=>?_⟩
 obtain ⟨r6,er6,hr64⟩:=wY hd20 hd21
 have k7:Kp tp H5 (upd H6 tp (.lst [.int t2])):=(Kp.refl.same s6).trans Kp.tape
 have tp7:Tp (upd H6 tp (.lst [.int t2])) tp:=⟨t2,ac⟩
 have gd7:(upd H6 tp (.lst [.int t2])) d=some (.dK (aZ bk)):=by rw [ah nd];exact s6 _ _ gd5
 have g7:(upd H6 tp (.lst [.int t2])) ml=some (.lst [.int 4,.int 8,.int 16,.int 24,.int 8,.int 61]):=by rw [ah nml];exact g6
 generalize upd H6 tp (.lst [.int t2])=H7 at k7 tp7 gd7 g7 ⊢
 refine ⟨ml,_,_,_,rfl,rfl,SqL.of g7,er6,?_⟩
 refine ⟨_,_,rfl,?_⟩
 obtain ⟨mo,hmo,hmo1,hmo2⟩: ∃ mo:Nat,(if ((r6:Nat):Int) <61- (m:Int)then ((r6:Nat):Int)else 61- (m:Int))=((mo:Nat):Int)/\4<=mo/\mo+m<=61:=by
  split
  ·exact ⟨r6,rfl,hr64,by lia⟩
  ·exact ⟨61-m,by lia,by lia,by lia⟩
 rw [hmo]
 refine ⟨_,rfl,_,rfl,d,_,rfl,fX gd7 hv,_,rfl,_,rfl,tp,_,rfl,tp7,by lia,by lia,fun d3 t3 hd30 hd31=>⟨_,_,rfl,rfl,?_⟩⟩
 obtain ⟨k3,rfl⟩: ∃ k:Nat,d3=(k:Int):=⟨d3.toNat,by lia⟩
 try rw [show (V.int (((m:Nat):Int) + ((k3:Nat):Int)))=V.int ((m+k3:Nat):Int)from congrArg V.int (show ((m:Nat):Int) + ((k3:Nat):Int)=((m+k3:Nat):Int) by lia)]
 have k8:Kp tp H7 (upd H7 tp (.lst [.int t3])):=Kp.tape
 have tp8:Tp (upd H7 tp (.lst [.int t3])) tp:=⟨t3,ac⟩
 have gd8:(upd H7 tp (.lst [.int t3])) d=some (.dK (aZ bk)):=by rw [ah nd];exact gd7
 generalize upd H7 tp (.lst [.int t3])=H8 at k8 tp8 gd8 ⊢
 have K8:Kp tp H3 H8:=(k5.trans k7).trans k8
 refine ⟨_,rfl,_,rfl,_,rfl,_,rfl,_,rfl,_,rfl,tp,_,d,bk,sr,m+k3,m,rfl,hB3.mono (K8.tk tp3),hok,hI,gd8,tp8,hsin,hv,by lia,by lia,by lia,fun tv t H9 rT tO tsz k9 tp9=>?_⟩
 refine ⟨(by show 2<=sizeLine;decide),fun p hp=>?_⟩
 have s10:=af hp (.tup [.ref a,tv])
 have K9:=K8.trans k9
 exact q p (.ref a) tv bk t sr _ (fun b o e=>s10 _ _ (K9 _ _ (S3 _ _ e) (ai e htp0))) ac ((hB3.mono (K9.tk tp3)).mono (ay s10)) hok (rT.mono (ay s10)) tO (by lia)
theorem jk {H:Hp}: ∀ {ys:List V} {kss:List (List Key)},KsOf H ys kss->Paired (fun ks v=> ∃ b,v=V.ref b/\H b=some (.tup (ks.map kV))) kss ys
 | _,_,.nil=>.nil
 | _,_,.cons h t=>.cons h (jk t)
inductive js  (vs:List V) (H:Hp) (Q:VK) (E_:XK):Prop
 | mk: ∀ c rd p ks,(vs=[.ref c,.ref rd])->(H c=some (.tup ((av p).map kV)))->(p.length<=900)->(H rd=some (.tup (ks.map kV)))->(Rd1 ks)->(∀ v H',Same H H'->RepSp H' (fL p ks) v->Q v H')->js vs H Q E_
inductive fM  (vs:List V) (H:Hp) (Q:VK) (E_:XK):Prop
 | mk: ∀ v,(vs=[v])->(((v=.non/\ ∀ p H',H p=none->Same H H'->H' p=some (.lst [])->Q (.ref p) H')\/ ∃ T c f l ys p rs,v=.ref T/\H T=some (.tup [.ref c,f,.ref l])/\H c=some (.tup ((av p).map kV))/\p.length<=900/\H l=some (.lst ys)/\KsOf H ys rs/\rs.length<=1000/\(∀ ks∈rs,Rd1 ks)/\ ∀ o zs H',H o=none->Same H H'->H' o=some (.lst zs)->Paired (RepSp H') (rs.map (fL p)) zs->Q (.ref o) H'))->fM vs H Q E_
inductive pc (C:Addr) (vs:List V) (H:Hp) (Q:VK) (E:XK):Prop
 | mk: ∀ d b c kvs ks w,(vs=[.ref d,.ref b])->(H d=some (.dP kvs))->(H b=some (.tup [.ref c,.str w]))->(H c=some (.tup (ks.map kV)))->(((∃ v,aO kvs (ks,Sum.inr w)=some v)->Q .non H))->((aO kvs (ks,Sum.inr w)=none->E (.ref C) none H))->pc C vs H Q E
noncomputable def xU (H:Hp) (ks:List Key) (w:Str) (v:V):Prop:= ∃ b c,v=.ref b/\H b=some (.tup [.ref c,.str w])/\H c=some (.tup (ks.map kV))
inductive gi (C:Addr) (vs:List V) (H:Hp) (Q:VK) (E:XK):Prop
 | mk: ∀ bv tv sv bk n t m s ks w,(vs=[bv,tv,sv])->(RepB H bk bv)->(BkS bk)->(RepT H n t tv)->(TrS bk m t s)->(t.sz<=100)->(xU H ks w sv)->((∀ q,q∈be bk t->spk q=(ks,Sum.inr w)-> ∀ o zs l H',H o=none->Same H H'->H' o=some (.lst zs)->Rds bk t q l->Paired (RepSp H') l zs->Q (.ref o) H'))->(((ks,Sum.inr w)∉(be bk t).map spk-> ∀ H',Same H H'->E (.ref C) none H'))->gi C vs H Q E
theorem Rl.place {bk:Bk} {t:Bt} {q:List Nat×Str} {a:List Nat×Fm} (x:Rl bk t q a): ∃ u,t.at? a.1=some u:=by
 cases x with
 | up h1 _ _ _ _=>exact ⟨_,h1⟩
 | dn h1 _ _ _ _=>exact ⟨_,h1⟩
theorem ed {t:Bt} {pl:List Nat} {u:Bt} (h:t.at? pl=some u):pl.length<=t.sz:=by
 have:=dN t.sz t (Nat.le_refl _) pl (cX h)
 lia
theorem tD:aG ["place","reading"] ["place","reading"] (ak me):=fsc
theorem rG (F:Fun K "spot_of_reading" "spot_of_reading" me f fd):aE P w K mg base CX0 1 f fd ["place","reading"] js:=by
 refine F.ok tD (fun vs H Q E h=>?_) (fun cdv A outer s H vs Q E hr h=>?_)
 ·obtain ⟨c,rd,p,ks,rfl,_⟩:=h
  rfl
 obtain ⟨c,rd,p,ks,rfl,hc,hp,hrd,hk,q⟩:=h
 refine ⟨_,ae (bi (aM dh (ar (r:=aW K) ax (pv 1) ag (fun _ _=>rfl)) aT (aV _)) (aj (aL (aK (aa (pv 0) (aa (ar (r:=aW K) ax (pv 1) ag (fun _ _=>rfl)) ad))))) aP)
  (aj (aL (aK (aa (aw cv (pv 0) (aK (aa (ar (r:=aW K) ax (pv 1) ag (fun _ _=>rfl)) ad))) (aa (ar (r:=aW K) ax (pv 1) ag (fun _ _=>rfl)) ad))))),?_⟩
 rcases hk with ⟨x,rfl,hx⟩ | ⟨k,x,rfl,hx⟩
 ·refine ⟨_,rfl,rd,_,0,.str "own",rfl,rfl,SqT.of hrd,cq,rfl,_,rfl,?_⟩
  rw [decide_eq_true (show V.str "own"=V.str "own" from rfl)]
  refine kn ⟨_,rfl,_,rfl,rd,_,1,.str x,rfl,rfl,SqT.of hrd,aF (j:=1) rfl,(by show 2<=sizeLine;decide),fun T hT=>?_⟩
  exact q _ _ (af hT _) ⟨T,c,rfl,ac,af hT _ _ _ hc⟩
 ·refine ⟨_,rfl,rd,_,0,.str "part",rfl,rfl,SqT.of hrd,cq,rfl,_,rfl,?_⟩
  rw [decide_eq_false (show ¬ V.str "part"=V.str "own" from fun e=>absurd (V.str.inj e) (by decide +kernel))]
  refine dI ⟨_,rfl,_,rfl,rd,_,1,.int (k:Int),rfl,rfl,SqT.of hrd,aF (j:=1) rfl,(by show 1<=sizeLine;decide),fun T1 hT1=>?_⟩
  have s1:=af hT1 (.tup [.int (k:Int)])
  have g1:(upd H T1 (.tup [.int (k:Int)])) T1=some (.tup [.int (k:Int)]):=ac
  generalize upd H T1 (.tup [.int (k:Int)])=H1 at s1 g1 ⊢
  refine gc (s1 _ _ hc) g1 (by rw [List.length_map];unfold av;rw [List.length_map];show p.length+1<=1000;lia) fun cc H2 s2 gcc=>?_
  refine ⟨_,rfl,rd,_,2,.str x,rfl,rfl,SqT.of (s2 _ _ (s1 _ _ hrd)),aF (j:=2) rfl,(by show 2<=sizeLine;decide),fun T hT=>?_⟩
  have s3:=af hT (.tup [.ref cc,.str x])
  refine q _ _ (s1.trans (s2.trans s3)) ⟨T,cc,rfl,ac,s3 _ _ ?_⟩
  rw [gcc]
  show some (HO.tup ((av p).map kV++[V.int ((k:Nat):Int)]))=some (.tup ((av (p++[k])).map kV))
  rw [fC]
theorem nM:aG ["rule"] ["rule"] (ak fi):=fsc
theorem mY (F:Fun K "spots_read" "spots_read" fi f fd)
  (GS:aE P w K mg base CX0 1 g gd ["place","reading"] js) (bS:Binds K gd ["place","reading"] []) (kS:PySem.W.keepIn K (.ref g)=true) (mS:mg "spot_of_reading"=some (.ref g)):aE P w K mg base CX0 2 f fd ["rule"] fM:=by
 refine F.ok nM (fun vs H Q E h=>?_) (fun cdv A outer s H vs Q E hr h=>?_)
 ·obtain ⟨v,rfl,_⟩:=h
  rfl
 obtain ⟨v,rfl,h⟩:=h
 refine ⟨_,ae (bi (aM xm (pv 0) mM (aV _)) (aj (aL (aN ad))) aP)
  (aj (aL (cH (sc0:=ak fi) (N0:=["rule"]) (ys:=["rule"]) (fr:=[0]) rfl (cL (ar (r:=aW K) ax (pv 0) ag (fun _ _=>rfl))) rfl rfl
   cok
   (fun C s H ex=>al GS hr rfl mS kS bS .nil aA (aa (ar (r:=aW K) ax (pv 1) ag (fun _ _=>rfl)) (aa (pv 0) ad)))))),?_⟩
 rcases h with ⟨rfl,q⟩ | ⟨T,c,f',l,ys,p,rs,rfl,hT,hc,hp,hl,hK,hn,hrd,q⟩
 ·refine ⟨_,rfl,rfl,_,rfl,kn ⟨(by show 0<=sizeLine;decide),fun o ho=>?_⟩⟩
  exact q o _ ho (af ho _) ac
 ·refine ⟨_,rfl,rfl,_,rfl,dI ?_⟩
  refine ⟨_,rfl,T,_,2,.ref l,rfl,rfl,SqT.of hT,aF (j:=2) rfl,l,rfl,⟨ys,SqL.of hl⟩,?_⟩
  have ln:ys.length=rs.length:=Paired.length hK
  refine iz (by lia) (jk hK) (xF hl) (xE hl) (fun i H v H' _ s h=>yL hl i H v H' s h) (fun H ks v=>RepSp H (fL p ks) v) (fun t h=>h.mono t) ?_ ?_
  ·rintro ks v H1 k hm ⟨b,rfl,hb⟩ s1 hk
   refine ⟨_,rfl,T,_,0,.ref c,rfl,rfl,SqT.of (s1 _ _ hT),cq,_,rfl,?_⟩
   exact ⟨c,b,p,ks,rfl,s1 _ _ hc,hp,s1 _ _ hb,hrd ks hm,fun v H2 s2 hv=>hk v H2 s2 hv⟩
  ·intro o zs H1 ho s1 gO hz
   exact q o zs H1 ho s1 gO (eF (g:=fL p) (fun _ _ h=>h) hz)
theorem wZ:aG ["rules","spot"] ["rules","spot"] (ak tI):=fsc
theorem vK {B newId initId:String} {bmB:List Value} (F:Fun K "need_spot" "need_spot" tI f fd) (hC:mg "NoSpot"=some (.ref C)) (ex:PySem.W.excIn K C bmB newId=true) (FB:ExcBaseFacts B newId initId bmB):
  aE P w K mg base (CX1 P w C) 1 f fd ["rules","spot"] (pc C):=by
 refine F.ok1 wZ (fun vs H Q E h=>?_) (fun cdv A outer s H vs Q E hr h=>?_)
 ·obtain ⟨d,b,c,kvs,ks,w,rfl,_⟩:=h
  rfl
 obtain ⟨d,b,c,kvs,ks,w',rfl,hd,hb,hc,q1,q2⟩:=h
 have hu:=cZ hr
 refine ⟨_,aj (bi (mz (kO hu (pv 1) (pv 0))) (aj (rn (E:=E) rfl rfl hC ex FB (fun pins σ H s h' y vs I m q=>sC I m q) (aa aT ad))) aP),?_⟩
 refine ⟨_,rfl,_,rfl,d,_,rfl,DGet.p (t:=ks) (k:=Sum.inr w') hd hb hc,_,rfl,?_⟩
 refine cs (fun cT=>?_) (fun cF=>?_)
 ·refine ⟨(by show 1<=sizeLine;decide),q2 ?_⟩
  cases e:aO kvs (ks,Sum.inr w')with
  | none=>rfl
  | some v=>rw [e]at cT;exact absurd cT Bool.false_ne_true
 ·refine q1 ?_
  cases e:aO kvs (ks,Sum.inr w')with
  | none=>rw [e]at cF;exact absurd rfl cF
  | some v=>exact ⟨v,rfl⟩
theorem scReadsAt:aG ["book","tree","spot","rules"] ["book","tree","spot"] (ak jD):=fsc
theorem pM (F:Fun K "reads_at" "reads_at" jD f fd)
  (GB:aE P w K mg base CX0 6 f2 fd2 ["book","tree"] jy) (bB:Binds K fd2 ["book","tree"] []) (kB:PySem.W.keepIn K (.ref f2)=true) (mB:mg "rules_by_spot"=some (.ref f2))
  (GN:aE P w K mg base (CX1 P w C) 1 f3 fd3 ["rules","spot"] (pc C)) (bN:Binds K fd3 ["rules","spot"] []) (kN:PySem.W.keepIn K (.ref f3)=true) (mN:mg "need_spot"=some (.ref f3))
  (GR:aE P w K mg base CX0 2 f4 fd4 ["rule"] fM) (bR:Binds K fd4 ["rule"] []) (kR:PySem.W.keepIn K (.ref f4)=true) (mR:mg "spots_read"=some (.ref f4)):
  aE P w K mg base (CX1 P w C) 7 f fd ["book","tree","spot"] (gi C):=by
 refine F.ok1 scReadsAt (fun vs H Q E h=>?_) (fun cdv A outer s H vs Q E hr h=>?_)
 ·obtain ⟨bv,tv,sv,bk,n,t,m,s,ks,w,rfl,_⟩:=h
  rfl
 obtain ⟨bv,tv,sv,bk,n,t,m,sr,ks,w',rfl,hB,hok,hT,hTr,hsz,⟨b,c,rfl,hb,hc⟩,q1,q2⟩:=h
 have hu:=cZ hr
 have hr1:=hr.mono (show 1<=6 by decide)
 have hr2:=hr.mono (show 2<=6 by decide)
 refine ⟨_,ae (am (i:=3) scReadsAt.nd rfl (Or.inl rfl) (al GB hr rfl mB kB bB .nil aA (aa (pv 0) (aa (pv 1) ad))))
  (ae (bx (al GN hr1 rfl mN kN bN .nil yG (aa (pv 3) (aa (pv 2) ad))))
  (aj (aL (al GR hr2 rfl mR kR bR .nil aA (aa (bp hu (pv 3) (pv 2) (fun _ _=>rfl)) ad))))),?_⟩
 refine ⟨_,rfl,_,rfl,bv,tv,bk,n,t,m,sr,rfl,hB,hok,hT,hTr,hsz,fun d kvs H1 hd s1 gd hkeys hRV=>?_⟩
 refine ⟨_,rfl,_,rfl,d,b,c,kvs,ks,w',rfl,gd,s1 _ _ hb,s1 _ _ hc,?_,fun hno=>?_⟩
 ·rintro ⟨v,hv⟩
  have hmem:=fJ hv
  obtain ⟨q,hq,hrv⟩:=hRV _ hmem
  have hq:(ks,Sum.inr w')=spk q:=hq
  have hqs:q∈be bk t:=by
   have:spk q∈(be bk t).map spk:=by rw [<- hkeys,<- hq];exact List.mem_map.mpr ⟨_,hmem,rfl⟩
   obtain ⟨q',h1,h2⟩:=List.mem_map.mp this
   rw [<- hU h2];exact h1
  refine ⟨_,rfl,_,rfl,d,_,rfl,(by rw [<- hv];exact DGet.p (t:=ks) (k:=Sum.inr w') gd (s1 _ _ hb) (s1 _ _ hc)),v,rfl,?_⟩
  rcases hrv with ⟨rfl,hn⟩ | ⟨p,fm,T,c',f',l,ys,h1,h2,h3,rfl,h5,h6,h7,h8⟩
  ·refine .inl ⟨rfl,fun o H2 ho s2 gO=>?_⟩
   exact q1 q hqs hq.symm o [] [] H2 (s1.free ho) (s1.trans s2) gO (.inl ⟨hn,rfl⟩) .nil
  ·obtain ⟨u,hu'⟩:=h1.place
   have hl:p.length<=t.sz:=ed hu'
   refine .inr ⟨T,c',f',l,ys,p,_,rfl,h5,h6,by lia,h7,h8,?_,ny (fun _ h=>by cases h) (fR h2),fun o zs H2 ho s2 gO hz=>?_⟩
   ·have:=gV (rs:=fm.rdk) (acc:=[])
    have:=dy fm
    simp only [List.length_nil]at *
    lia
   ·exact q1 q hqs hq.symm o zs _ H2 (s1.free ho) (s1.trans s2) gO (.inr ⟨p,fm,h1,h2,h3,rfl⟩) hz
 ·refine q2 (fun hm=>?_) H1 s1
  rw [<- hkeys]at hm
  exact nG hno hm
theorem jI: ∀ (a b:List Fm),cO (a++b)=cO a++cO b
 | [],_=>rfl
 | x::a,b=>by show x.rdk++cO (a++b)=(x.rdk++cO a)++cO b;rw [jI a b,List.append_assoc]
theorem vP {H:Hp} {fm:Fm} {v:V} (rp:Rep H fm v) (wf:fm.wf):
  (∃ a k r ks,v=.ref a/\H a=some (.tup (.str k::r))/\(k="own"\/k="part")/\H a=some (.tup (ks.map kV))/\fm.rdk=[ks])\/
  (∃ a r,v=.ref a/\H a=some (.tup (.str "num"::r))/\fm.rdk=[])\/
  ∃ a k ws fs,v=.ref a/\H a=some (.tup (.str k::ws))/\k≠"own"/\k≠"part"/\k≠"num"/\Paired (fun f v=>Rep H f v/\f.wf/\f.size<fm.size) fs ws/\fm.rdk=cO fs/\ws.length<=3:=by
 cases fm with
 | num i=>obtain ⟨a,rfl,ha⟩:=rp;exact .inr (.inl ⟨a,_,rfl,ha,rfl⟩)
 | own x=>obtain ⟨a,rfl,ha⟩:=rp;exact .inl ⟨a,"own",_,[.inr "own",.inr x],rfl,ha,.inl rfl,ha,rfl⟩
 | part k x=>obtain ⟨a,rfl,ha⟩:=rp;exact .inl ⟨a,"part",_,[.inr "part",.inl k,.inr x],rfl,ha,.inr rfl,ha,rfl⟩
 | bin op A B=>
  obtain ⟨a,u,w,rfl,ha,r1,r2⟩:=rp
  obtain ⟨ho,w1,w2⟩:op∈ops/\A.wf/\B.wf:=wf
  have hn:op≠"own"/\op≠"part"/\op≠"num":=by
   unfold ops at ho
   simp only [List.mem_cons,List.not_mem_nil,or_false]at ho
   rcases ho with rfl | rfl | rfl | rfl | rfl <;> decide +kernel
  refine .inr (.inr ⟨a,op,_,[A,B],rfl,ha,hn.1,hn.2.1,hn.2.2,.cons ⟨r1,w1,?_⟩ (.cons ⟨r2,w2,?_⟩ .nil),?_,by simp⟩)
  ·show A.size<A.size+B.size+1;lia
  ·show B.size<A.size+B.size+1;lia
  ·show A.rdk++B.rdk=A.rdk++(B.rdk++[]);rw [List.append_nil]
 | whn A B C=>
  obtain ⟨a,u,w,z,rfl,ha,r1,r2,r3⟩:=rp
  obtain ⟨w1,w2,w3⟩:A.wf/\B.wf/\C.wf:=wf
  refine .inr (.inr ⟨a,"when",_,[A,B,C],rfl,ha,by decide +kernel,by decide +kernel,by decide +kernel,.cons ⟨r1,w1,?_⟩ (.cons ⟨r2,w2,?_⟩ (.cons ⟨r3,w3,?_⟩ .nil)),?_,by simp⟩)
  ·show A.size<A.size+B.size+C.size+1;lia
  ·show B.size<A.size+B.size+C.size+1;lia
  ·show C.size<A.size+B.size+C.size+1;lia
  ·show A.rdk++(B.rdk++C.rdk)=A.rdk++(B.rdk++(C.rdk++[]));rw [List.append_nil]
theorem vt (k x:Str):decide (V.str k=V.str x)=decide (k=x):=decide_eq_decide.mpr ⟨fun e=>V.str.inj e,fun e=>by rw [e]⟩
theorem zG (x:V) (r:List V):cV (x::r) (some 1) none=r:=by
 have e1:HT.sIx (x::r).length 0 (some 1)=1:=by
  have:HT.sIx (x::r).length 0 (some 1)=min 1 (x::r).length:=HT.sIx_nat _ _ 1
  rw [this,List.length_cons]
  lia
 unfold cV
 rw [e1,HT.sIx_none,List.length_cons,List.drop_one,List.tail_cons,Nat.add_sub_cancel,List.take_length]
theorem fV {p:Addr} {H H':Hp} {xs:List V} (k:Kp p H H') (h:H p=some (.lst xs)):TK H H':=fun b ys e=>k b _ e fun z=>by rw [z,h]at e;cases e
inductive fg (n:Nat) (vs:List V) (H:Hp) (Q:VK) (E_:XK):Prop
 | mk: ∀ v fm,(vs=[v])->(Rep H fm v)->(fm.wf)->(fm.size<=n)->(n<=15)->(∀ p ys H',H p=none->Same H H'->H' p=some (.lst ys)->KsOf H' ys (dd [] fm.rdk)->Q (.ref p) H')->fg n vs H Q E_
noncomputable abbrev xY:List Str:=["formula","found","part","one"]
theorem scLRead:aG xY ["formula"] (ak mw):=fsc
theorem rQ {n:Nat} (F:Fun K "_law_read" "_law_read" mw f fd) (GR:aE P w K mg base CX0 (n+1) f fd ["formula"] (fg n)) (bR:Binds K fd ["formula"] []) (mR:mg "_law_read"=some (.ref f)):
  aE P w K mg base CX0 (n+2) f fd ["formula"] (fg (n+1)):=by
 refine F.ok scLRead (fun vs H Q E h=>?_) (fun cdv A outer s H vs Q E hr h=>?_)
 ·obtain ⟨v,fm,rfl,_⟩:=h
  rfl
 obtain ⟨v,fm,rfl,hF,hwf,hsz,hn,q⟩:=h
 have hu:=cZ hr
 refine ⟨_,ae (bi (aM kX (ar (r:=aW K) ax (pv 0) ag (fun _ _=>rfl)) (aK (aa aT (aa aT ad))) (by with_unfolding_all rfl)) (aj (aL (aN (aa (pv 0) ad)))) aP)
  (ae (am (i:=1) scLRead.nd rfl (Or.inl rfl) (aN ad))
  (ae (bi (aM wI (ar (r:=aW K) ax (pv 0) ag (fun _ _=>rfl)) aT (aV _))
   (aj (a6 PassesOwn.never rfl (bf (bj l8 (pv 0) (bq ag) cg)) (au (i:=2) scLRead.nd rfl (Or.inl rfl))
    (aj (a6 PassesOwn.never rfl (cL (al GR hr rfl mR F.kp bR .nil aA (aa (pv 2) ad))) (au (i:=3) scLRead.nd rfl (Or.inl rfl))
     (aj (bi (aM (oi (Nat.lt_of_le_of_lt (Nat.add_le_add_left (by decide:1<=16) _) hu)) (pv 3) (pv 1) (by with_unfolding_all rfl))
      (aj (bx (dg PySem.F.plainAttrs_list PySem.F.slot_list_append PySem.F.type_list_append bn (pv 1) (aa (pv 3) ad)))) aP)))))) aP)
  (aj (aL (pv 1))))),?_⟩
 rcases vP hF hwf with ⟨a,k,r,ks,rfl,ha,hk,hks,hrd⟩ | ⟨a,r,rfl,ha,hrd⟩ | ⟨a,k,ws,fs,rfl,ha,hk1,hk2,hk3,hP,hrd,hws⟩
 ·refine ⟨_,rfl,a,_,0,.str k,rfl,rfl,SqT.of ha,cq,(by show 2<=sizeLine;decide),fun T hT=>?_⟩
  have s1:=af hT (.tup [.str "own",.str "part"])
  have g1:(upd H T (.tup [.str "own",.str "part"])) T=some (.tup [.str "own",.str "part"]):=ac
  generalize upd H T (.tup [.str "own",.str "part"])=H1 at s1 g1 ⊢
  refine ⟨T,_,rfl,.inr (SqT.of g1),rfl,rfl,_,rfl,?_⟩
  refine cs (fun _=>?_) (fun c=>absurd ?_ c)
  ·refine ⟨_,rfl,(by show 1<=sizeLine;decide),fun p hp=>?_⟩
   have s2:=af hp (.lst [.ref a])
   refine q p [.ref a] _ (s1.free hp) (s1.trans s2) ac ?_
   rw [hrd]
   exact .cons ⟨a,rfl,s2 _ _ (s1 _ _ hks)⟩ .nil
  ·show inV (.str k) [.str "own",.str "part"]=true
   rw [dF]
   rcases hk with rfl | rfl <;> rfl
 ·refine ⟨_,rfl,a,_,0,.str "num",rfl,rfl,SqT.of ha,cq,(by show 2<=sizeLine;decide),fun T hT=>?_⟩
  have s1:=af hT (.tup [.str "own",.str "part"])
  have g1:(upd H T (.tup [.str "own",.str "part"])) T=some (.tup [.str "own",.str "part"]):=ac
  generalize upd H T (.tup [.str "own",.str "part"])=H1 at s1 g1 ⊢
  refine ⟨T,_,rfl,.inr (SqT.of g1),rfl,rfl,_,rfl,?_⟩
  refine cs (fun c=>absurd c (by rw [show (if false=true then !inV (V.str "num") [V.str "own",V.str "part"]else inV (V.str "num") [V.str "own",V.str "part"])=inV (V.str "num") [V.str "own",V.str "part"]from rfl,dF];decide +kernel)) (fun _=>?_)
  refine ⟨(by show 0<=sizeLine;decide),fun p hp=>?_⟩
  have s2:=af hp (.lst [])
  have g2:(upd H1 p (.lst [])) p=some (.lst []):=ac
  have hp0:=s1.free hp
  generalize upd H1 p (.lst [])=H2 at s2 g2 ⊢
  refine ⟨_,rfl,a,_,0,.str "num",rfl,rfl,SqT.of (s2 _ _ (s1 _ _ ha)),cq,rfl,_,rfl,?_⟩
  rw [decide_eq_true (show V.str "num"=V.str "num" from rfl)]
  refine dI ⟨_,rfl,?_⟩
  exact q p [] H2 hp0 (s1.trans s2) g2 (by rw [hrd];exact .nil)
 ·refine ⟨_,rfl,a,_,0,.str k,rfl,rfl,SqT.of ha,cq,(by show 2<=sizeLine;decide),fun T hT=>?_⟩
  have s1:=af hT (.tup [.str "own",.str "part"])
  have g1:(upd H T (.tup [.str "own",.str "part"])) T=some (.tup [.str "own",.str "part"]):=ac
  generalize upd H T (.tup [.str "own",.str "part"])=H1 at s1 g1 ⊢
  refine ⟨T,_,rfl,.inr (SqT.of g1),rfl,rfl,_,rfl,?_⟩
  refine cs (fun c=>absurd c (by rw [show (if false=true then !inV (V.str k) [V.str "own",V.str "part"]else inV (V.str k) [V.str "own",V.str "part"])=inV (V.str k) [V.str "own",V.str "part"]from rfl,dF,decide_eq_false hk1,decide_eq_false hk2];decide)) (fun _=>?_)
  refine ⟨(by show 0<=sizeLine;decide),fun p hp=>?_⟩
  have s2:=af hp (.lst [])
  have g2:(upd H1 p (.lst [])) p=some (.lst []):=ac
  have hp0:=s1.free hp
  generalize upd H1 p (.lst [])=H2 at s2 g2 ⊢
  have S2:=s1.trans s2
  refine ⟨_,rfl,a,_,0,.str k,rfl,rfl,SqT.of (S2 _ _ ha),cq,rfl,_,rfl,?_⟩
  rw [vt,decide_eq_false hk3]
  refine kn ⟨_,rfl,1,rfl,a,_,rfl,S2 _ _ ha,fun pt H3 s3 gpt=>?_⟩
  rw [zG]at gpt
  refine ⟨pt,rfl,⟨_,SqT.of gpt⟩,?_⟩
  have g3:=s3 _ _ g2
  have S3:Same H H3:=S2.trans s3
  have hlen: ∀ i,(dd [] (cO (fs.take i))).length<=15:=fun i=>by
   have h1:=gV (rs:=cO (fs.take i)) (acc:=[])
   have h2:(cO fs).length<=fm.size:=by rw [<- hrd];exact dy fm
   rw [<- List.take_append_drop i fs,jI,List.length_append]at h2
   rw [List.length_nil]at h1
   lia
  have lfs:fs.length=ws.length:=Paired.length hP
  refine cu (xs:=ws) (fun i σ H'=>i<=ws.length/\ ∃ o2 o3 ys,σ=[some (.ref a),some (.ref p),o2,o3]/\Kp p H3 H'/\H' p=some (.lst ys)/\KsOf H' ys (dd [] (cO (fs.take i))))
   ⟨Nat.zero_le _,none,none,[],rfl,Kp.refl,g3,.nil⟩ (fun i σ H' _ h=>by obtain ⟨_,_,_,_,_,kp,_⟩:=h;exact SqT.of (fV kp g3 _ _ gpt)) ?_ ?_
  ·rintro i x σ H4 hx ⟨_,o2,o3,ys,rfl,k4,g4,hK4⟩
   have hil:i<ws.length:=(List.getElem?_eq_some_iff.mp hx).1
   obtain ⟨f1,hf1,r1,r2,r3⟩:=aC hP hx
   have tk4:=fV k4 g3
   refine ⟨_,rfl,x,f1,rfl,(r1.mono (ay S3)).mono tk4,r2,by lia,by lia,fun l zs H5 hl s5 gl hK5=>?_⟩
   refine ⟨l,rfl,⟨zs,SqL.of gl⟩,?_⟩
   have g5:=s5 _ _ g4
   have nlp:l≠p:=fun z=>by rw [z,g4]at hl;cases hl
   have lzs:zs.length=(dd [] f1.rdk).length:=Paired.length hK5
   have etake:fs.take (i+1)=fs.take i++[f1]:=by rw [List.take_add_one,hf1];rfl
   have eend:dd (dd [] (cO (fs.take i))) (dd [] f1.rdk)=dd [] (cO (fs.take (i+1))):=by
    rw [wM,etake,jI,nA]
    show _=dd _ (f1.rdk++[])
    rw [List.append_nil]
    rfl
   refine cD (xs:=zs) (fun j σ H'=>j<=zs.length/\ ∃ o3 ys',σ=[some (.ref a),some (.ref p),some x,o3]/\Kp p H5 H'/\H' p=some (.lst ys')/\KsOf H' ys' (dd (dd [] (cO (fs.take i))) ((dd [] f1.rdk).take j)))
    ⟨Nat.zero_le _,o3,ys,rfl,Kp.refl,g5,hK4.mono fun b xs e=>s5 _ _ e⟩ (fun j σ H' _ h=>by obtain ⟨_,_,_,_,kp,_⟩:=h;exact SqL.of (kp _ _ gl nlp)) ?_ ?_
   ·rintro j y σ H6 hy ⟨_,o3',ys',rfl,k6,g6,hK6⟩
    have hjl:j<zs.length:=(List.getElem?_eq_some_iff.mp hy).1
    obtain ⟨ks,hks,b,rfl,hb⟩:=aC (jk hK5) hy
    have hb6:=fV k6 g5 _ _ hb
    have estep:dd (dd [] (cO (fs.take i))) ((dd [] f1.rdk).take (j+1))=if ks∈dd (dd [] (cO (fs.take i))) ((dd [] f1.rdk).take j)then dd (dd [] (cO (fs.take i))) ((dd [] f1.rdk).take j)else dd (dd [] (cO (fs.take i))) ((dd [] f1.rdk).take j)++[ks]:=by
     rw [List.take_add_one,hks,nA]
     rfl
    have l6:ys'.length=(dd (dd [] (cO (fs.take i))) ((dd [] f1.rdk).take j)).length:=Paired.length hK6
    have lb:(dd (dd [] (cO (fs.take i))) ((dd [] f1.rdk).take j)).length<=60:=by
     have h1:=gV (rs:=(dd [] f1.rdk).take j) (acc:=dd [] (cO (fs.take i)))
     have h2:=hlen i
     have h3:=gV (rs:=f1.rdk) (acc:=[])
     have h4:=dy f1
     rw [List.length_take]at h1
     rw [List.length_nil]at h3
     lia
    refine ⟨_,rfl,_,rfl,b,p,ks,ys',_,rfl,rfl,hb6,SqL.of g6,hK6,_,rfl,?_⟩
    by_cases hm:ks∈dd (dd [] (cO (fs.take i))) ((dd [] f1.rdk).take j)
    ·rw [if_pos hm]at estep
     refine cs (fun c=>?_) (fun _=>⟨hjl,_,ys',rfl,k6,g6,by rw [estep];exact hK6⟩)
     rw [if_pos rfl,decide_eq_true hm]at c
     cases c
    ·rw [if_neg hm]at estep
     refine cs (fun _=>?_) (fun c=>absurd (by rw [if_pos rfl,decide_eq_false hm];rfl) c)
     refine ⟨_,rfl,.inl ⟨rfl,_,SqL.of g6⟩,_,rfl,p,_,_,rfl,rfl,g6,ao (by lia),?_⟩
     have tk:TK H6 (upd H6 p (.lst (ys'++[.ref b]))):=TK.lst g6
     refine ⟨hjl,_,_,rfl,fun b' o' e' n'=>by rw [ah n'];exact k6 _ _ e' n',ac,?_⟩
     rw [estep]
     exact cQ (hK6.mono tk) (.cons ⟨b,rfl,tk _ _ hb6⟩ .nil)
   ·rintro σ H6 ⟨_,o3',ys',rfl,k6,g6,hK6⟩
    rw [lzs,List.take_length,eend]at hK6
    exact ⟨hil,_,_,ys',rfl,fun b' o' e' n'=>k6 _ _ (s5 _ _ (k4 _ _ e' n')) n',g6,hK6⟩
  ·rintro σ H4 ⟨_,o2,o3,ys,rfl,k4,g4,hK4⟩
   rw [<- lfs,List.take_length,<- hrd]at hK4
   exact ⟨_,rfl,q p ys H4 hp0 (fun b' o' e'=>k4 _ _ (S3 _ _ e') (ai e' hp0)) g4 hK4⟩
theorem rR:aE P w K mg base CX0 1 f fd ["formula"] (fg 0):=by
 have no: ∀ vs H Q E,¬ fg 0 vs H Q E:=fun vs H Q E h=>by
  obtain ⟨v,fm,_,_,_,h,_⟩:=h
  have:=fm.size_pos
  lia
 exact ⟨fun vs H Q E h=>absurd h (no vs H Q E),fun A outer s H args us vs Q E _ _ _ _ h=>absurd h (no vs H Q E)⟩
theorem om (F:Fun K "_law_read" "_law_read" mw f fd) (bR:Binds K fd ["formula"] []) (mR:mg "_law_read"=some (.ref f)): ∀ n:Nat,aE P w K mg base CX0 (n+1) f fd ["formula"] (fg n)
 | 0=>rR
 | n+1=>rQ F (om F bR mR n) bR mR
noncomputable def jG (bk:Bk) (u:Bt):List Rul:=match bk.forms.find? (fun fr=>decide (Frm.name fr=u.nm))with
 | some fr=>fr.rules
 | none=>[]
theorem fq {bk:Bk} (nd:(bk.forms.map Frm.name).Nodup) {u:Bt} {fr:Frm} (h1:fr∈bk.forms) (h2:Frm.name fr=u.nm):jG bk u=fr.rules:=by
 unfold jG
 cases e:bk.forms.find? (fun fr=>decide (Frm.name fr=u.nm))with
 | none=>exact absurd (decide_eq_true h2) (by simpa using List.find?_eq_none.mp e fr h1)
 | some fx=>
  have h3:=List.mem_of_find?_eq_some e
  have h4:Frm.name fx=u.nm:=by simpa using List.find?_some e
  show fx.rules=fr.rules
  rw [de nd h3 h1 (by rw [h4,h2])]
noncomputable def cz (pl:List Nat) (r:Rul):List Nat×Str:=(if r.pl<0 then pl else pl++[r.pl.toNat],r.word)
noncomputable def fW (bk:Bk) (q:List Nat×Bt):List (List Nat×Str):=(jG bk q.2).map (cz q.1)
theorem eI {t u:Bt} {pl:List Nat} (h:t.at? pl=some u):(pl,u)∈aY t:=by
 obtain ⟨i,hi⟩:=List.getElem?_of_mem (cX h)
 obtain ⟨u',hu,hat⟩:=a7 (cN t.sz t (Nat.le_refl _)) hi
 rw [h]at hat
 cases hat
 exact List.mem_of_getElem? (lE hi hu)
theorem dG {t u:Bt} {pl:List Nat} {i:Nat} (h:(aY t)[i]? =some (pl,u)):t.at? pl=some u:=by
 have h1:t.places[i]? =some pl:=by
  have:=congrArg (Option.map Prod.fst) h
  rw [<- List.getElem?_map]at this
  have hl:t.places.length=t.subs.length:=Paired.length (cN t.sz t (Nat.le_refl _))
  unfold aY at this
  rw [lC hl]at this
  exact this
 have h2:t.subs[i]? =some u:=by
  have hl:t.places.length=t.subs.length:=Paired.length (cN t.sz t (Nat.le_refl _))
  cases e:t.subs[i]? with
  | none=>have:=List.getElem?_eq_none_iff.mp e;have:=(List.getElem?_eq_some_iff.mp h1).1;lia
  | some u'=>
   have:=lE h1 e
   unfold aY at h
   rw [h]at this
   rw [(Prod.mk.inj (Option.some.inj this)).2]
 obtain ⟨u',hu,hat⟩:=a7 (cN t.sz t (Nat.le_refl _)) h1
 rw [h2]at hu
 cases hu
 exact hat
noncomputable def LRv (H:Hp) (bk:Bk) (t:Bt) (q:List Nat×Str) (v:V):Prop:= ∃ p fm T c f,Rl bk t q (p,fm)/\fm.wf/\fm.size<=15/\v=.ref T/\H T=some (.tup [.ref c,f])/\H c=some (.tup ((av p).map kV))/\Rep H fm f
theorem LRv.mono {H H':Hp} {bk:Bk} {t:Bt} {q:List Nat×Str} {v:V} (k:TK H H'):LRv H bk t q v->LRv H' bk t q v:=fun ⟨p,fm,T,c,f,h1,h2,h3,h4,h5,h6,h7⟩=>⟨p,fm,T,c,f,h1,h2,h3,h4,k _ _ h5,k _ _ h6,h7.mono k⟩
noncomputable def LRs (H:Hp) (bk:Bk) (t:Bt) (kr:List ((List Key×Key)×V)):Prop:= ∀ kv∈kr,∃ q,kv.1=spk q/\LRv H bk t q kv.2
structure LRI (H3:Hp) (rd:Addr) (bk:Bk) (t:Bt) (S:List (List Nat×Str)) (H:Hp) (kr:List ((List Key×Key)×V)):Prop where
 k:Kp rd H3 H
 g:H rd=some (.dP kr)
 rv:LRs H bk t kr
 all: ∀ q∈S,∃ v,aO kr (spk q)=some v
 len:kr.length<=S.length
theorem LRI.put {H3 H H1:Hp} {rd T:Addr} {bk:Bk} {t:Bt} {S:List (List Nat×Str)} {kr:List ((List Key×Key)×V)} {q:List Nat×Str} (I:LRI H3 rd bk t S H kr) (s:Same H H1) (n:LRv H1 bk t q (.ref T)):
  LRI H3 rd bk t (S++[q]) (upd H1 rd (.dP (aX kr (spk q) (.ref T)))) (aX kr (spk q) (.ref T)):=by
 have tk:TK H1 (upd H1 rd (.dP (aX kr (spk q) (.ref T)))):=TK.upd fun xs e=>by rw [s _ _ I.g]at e;cases e
 refine ⟨fun b o e n'=>by rw [ah n'];exact s _ _ (I.k _ _ e n'),ac,fun kv hkv=>?_,fun q' hq'=>?_,?_⟩
 ·rcases ji hkv with h | h
  ·obtain ⟨q',e,r⟩:=I.rv kv h
   exact ⟨q',e,(r.mono (ay s)).mono tk⟩
  ·exact ⟨q,h.1,by rw [h.2];exact n.mono tk⟩
 ·rw [bP]
  by_cases c:spk q'=spk q
  ·rw [if_pos c];exact ⟨_,rfl⟩
  ·rw [if_neg c]
   rcases List.mem_append.mp hq' with h | h
   ·exact I.all q' h
   ·exact absurd (by rw [List.mem_singleton.mp h]) c
 ·have:=bh kr (spk q) (.ref T)
  have:=I.len
  rw [List.length_append,List.length_singleton]
  lia
theorem sZ {n:Nat} (h:n<=100000):n<sizeLine:=Nat.lt_of_le_of_lt h (by decide)
theorem lg {bk:Bk}: ∀ {l:List (List Nat×Bt)},(∀ q∈l,(jG bk q.2).length<=12)->(l.flatMap (fW bk)).length<=12*l.length
 | [],_=>Nat.le_refl _
 | q::r,h=>by
  have h1:=lg (bk:=bk) (l:=r) fun x hx=>h x (List.mem_cons_of_mem _ hx)
  have h2:=h q List.mem_cons_self
  have h3:(fW bk q).length=(jG bk q.2).length:=List.length_map _
  rw [List.flatMap_cons,List.length_append,List.length_cons]
  lia
inductive jw  (vs:List V) (H:Hp) (Q:VK) (E_:XK):Prop
 | mk: ∀ bv tv bk n t m s,(vs=[bv,tv])->(RepB H bk bv)->(BkS bk)->(RepT H n t tv)->(TrS bk m t s)->(t.sz<=100)->(∀ d kvs H',H d=none->Same H H'->H' d=some (.dP kvs)->LRs H' bk t kvs->(∀ q a,Rl bk t q a-> ∃ v,aO kvs (spk q)=some v)->Q (.ref d) H')->jw vs H Q E_
noncomputable def FAt (H:Hp) (kvs:List (Key×V)) (fr:Frm):Prop:= ∃ ra rv,aO kvs (.inr fr.name)=some (.ref ra)/\H ra=some (.tup rv)/\RepRs H fr.rules rv
noncomputable abbrev wx:List Str:=["book","tree","forms","form","found","place","bough","at","word","formula","here"]
theorem scLRules:aG wx ["book","tree"] (ak mr):=fsc
theorem rP (F:Fun K "_law_rules" "_law_rules" mr f fd)
  (GB:aE P w K mg base CX0 1 f2 fd2 ["tree"] eQ) (bB:Binds K fd2 ["tree"] []) (kB:PySem.W.keepIn K (.ref f2)=true) (mB:mg "_law_boughs"=some (.ref f2)):aE P w K mg base CX0 2 f fd ["book","tree"] jw:=by
 refine F.ok scLRules (fun vs H Q E h=>?_) (fun cdv A outer s H vs Q E hr h=>?_)
 ·obtain ⟨bv,tv,bk,n,t,m,s,rfl,_⟩:=h
  rfl
 obtain ⟨bv,tv,bk,n,t,m,sr,rfl,hB,hok,hT,hTr,hsz,q⟩:=h
 obtain ⟨ba,sa,fa,fv,rfl,hba,hS,hfa,hF⟩:=id hB
 have hu:=cZ hr
 refine ⟨_,ae (am (i:=2) scLRules.nd rfl (Or.inl rfl) fU)
  (ae (a6 PassesOwn.never rfl (bf (ar (r:=aW K) ax (pv 0) ag (fun _ _=>rfl))) (au (i:=3) scLRules.nd rfl (Or.inl rfl))
   (aj (cA hu (pv 2) (ar (r:=aW K) ax (pv 3) ag (fun _ _=>rfl)) (ar (r:=aW K) ax (pv 3) ag (fun _ _=>rfl)) rfl)))
  (ae (am (i:=4) scLRules.nd rfl (Or.inl rfl) jM)
  (ae (a6 PassesOwn.never rfl (cL (al GB hr rfl mB kB bB .nil aA (aa (pv 1) ad))) (cC rfl (aJ (au (i:=5) scLRules.nd rfl (Or.inl rfl)) (aJ (au (i:=6) scLRules.nd rfl (Or.inl rfl)) bV)))
   (aj (a6 PassesOwn.never rfl (bf (bp hu (pv 2) (ar (r:=aW K) ax (pv 6) ag (fun _ _=>rfl)) (fun _ _=>rfl)))
     (cC rfl (aJ (au (i:=7) scLRules.nd rfl (Or.inl rfl)) (aJ (au (i:=8) scLRules.nd rfl (Or.inl rfl)) (aJ (au (i:=9) scLRules.nd rfl (Or.inl rfl)) bV))))
    (ae (am (i:=10) scLRules.nd rfl (Or.inl rfl) (pv 5))
    (ae (bi (aM wJ (pv 7) ag (aV _)) (aj (am (i:=10) scLRules.nd rfl (Or.inl rfl) (aw cv (pv 5) (aK (aa (pv 7) ad))))) aP)
    (aj (cA hu (pv 4) (aK (aa (pv 10) (aa (pv 8) ad))) (aK (aa (pv 5) (aa (pv 9) ad))) rfl)))))))
  (aj (aL (pv 4)))))),?_⟩
 refine fun fo hfo=>?_
 have s0:=af hfo (.dK [])
 have g0:(upd H fo (.dK [])) fo=some (.dK []):=ac
 generalize upd H fo (.dK [])=H0 at s0 g0 ⊢
 refine ⟨_,rfl,ba,_,2,.ref fa,rfl,rfl,SqT.of (s0 _ _ hba),aF (j:=2) rfl,fa,rfl,⟨fv,SqT.of (s0 _ _ hfa)⟩,?_⟩
 have lF:bk.forms.length=fv.length:=Paired.length hF
 have hfew:=hok.few
 refine cu (xs:=fv) (fun i σ H'=>i<=fv.length/\ ∃ o3 kvs,σ=[some (.ref ba),some tv,some (.ref fo),o3,none,none,none,none,none,none,none]/\Kp fo H0 H'/\H' fo=some (.dK kvs)/\kvs.length<=i/\ ∀ fr∈bk.forms.take i,FAt H' kvs fr)
  ⟨Nat.zero_le _,none,[],rfl,Kp.refl,g0,Nat.le_refl _,fun fr h=>(by cases h)⟩ (fun i σ H' _ h=>by obtain ⟨_,_,_,_,kp,_⟩:=h;exact SqT.of (kp _ _ (s0 _ _ hfa) (fun z=>by rw [z,hfo]at hfa;cases hfa))) ?_ ?_
 ·rintro i x σ H1 hx ⟨_,o3,kvs,rfl,k1,g1,hl,hv⟩
  have hil:i<fv.length:=(List.getElem?_eq_some_iff.mp hx).1
  have tk1:TK H H1:=fun b xs e=>k1 _ _ (s0 _ _ e) (fun z=>by rw [z,hfo]at e;cases e)
  obtain ⟨fr,hfr,a,pa,ra,rv,rfl,ha,hpa,hra,hR⟩:=aC hF hx
  refine ⟨_,rfl,a,_,3,.ref ra,rfl,rfl,SqT.of (tk1 _ _ ha),aF (j:=3) rfl,_,rfl,_,rfl,a,_,0,.str fr.name,rfl,rfl,SqT.of (tk1 _ _ ha),cq,fo,_,rfl,DPut.k (k:=Sum.inr fr.name) g1 (ao (by lia)),?_⟩
  have tk2:TK H1 (upd H1 fo (.dK (aX kvs (Sum.inr fr.name) (.ref ra)))):=TK.upd fun xs e=>by rw [g1]at e;cases e
  refine ⟨hil,_,_,rfl,fun b o e n'=>by rw [ah n'];exact k1 _ _ e n',ac,?_,?_⟩
  ·have:=bh kvs (Sum.inr fr.name) (V.ref ra)
   lia
  ·intro fx hfx
   by_cases c:fx=fr
   ·rw [c]
    exact ⟨ra,rv,by rw [bP,if_pos rfl],tk2 _ _ (tk1 _ _ hra),(hR.mono tk1).mono tk2⟩
   ·rw [List.take_add_one,hfr]at hfx
    rcases List.mem_append.mp hfx with h | h
    ·obtain ⟨ra',rv',e1,e2,e3⟩:=hv fx h
     refine ⟨ra',rv',?_,tk2 _ _ e2,e3.mono tk2⟩
     rw [bP,if_neg fun z=>c (de hok.nd (List.mem_of_mem_take h) (List.mem_of_getElem? hfr) (Sum.inr.inj z))]
     exact e1
    ·exact absurd (by simpa using h) c
 ·rintro σ H1 ⟨_,o3,kvs,rfl,k1,g1,hl,hv⟩
  rw [<- lF,List.take_length]at hv
  have S1:Same H H1:=fun b o e=>k1 _ _ (s0 _ _ e) (fun z=>by rw [z,hfo]at e;cases e)
  refine fun rd hrd=>?_
  have s2:=af hrd (.dP [])
  have g2:(upd H1 rd (.dP [])) rd=some (.dP []):=ac
  have hrd0:H rd=none:=S1.free hrd
  have nfr:fo≠rd:=fun z=>by rw [z,hrd]at g1;cases g1
  generalize upd H1 rd (.dP [])=H2 at s2 g2 ⊢
  refine ⟨_,rfl,n,t,tv,rfl,hT.mono (ay (S1.trans s2)),hsz,fun bl zs H3 hbl s3 gbl hZ=>?_⟩
  refine ⟨bl,rfl,⟨zs,SqL.of gbl⟩,?_⟩
  have g3:=s3 _ _ g2
  have nbr:bl≠rd:=fun z=>by rw [z,g2]at hbl;cases hbl
  have gfo:=s3 _ _ (s2 _ _ g1)
  have S3:Same H1 H3:=s2.trans s3
  have lZ:(aY t).length=zs.length:=Paired.length hZ
  have lI:(aY t).length<=100:=by
   have:t.places.length=t.sz:=rfl
   unfold aY
   rw [List.length_zip];lia
  have hfrm: ∀ {i:Nat} {pl:List Nat} {u:Bt},(aY t)[i]? =some (pl,u)-> ∃ fr,fr∈bk.forms/\Frm.name fr=u.nm:=fun h=>by
   obtain ⟨m',s',h1⟩:=hTr.at (dG h)
   obtain ⟨fr,f1,f2,_⟩:=h1.frm
   exact ⟨fr,f1,f2⟩
  have hr12: ∀ i,(((aY t).take i).flatMap (fW bk)).length<=1200:=fun i=>by
   have:=lg (bk:=bk) (l:=(aY t).take i) fun q hq=>by
    obtain ⟨j,hj⟩:=List.getElem?_of_mem (List.mem_of_mem_take hq)
    obtain ⟨fr,f1,f2⟩:=hfrm (pl:=q.1) (u:=q.2) hj
    rw [fq hok.nd f1 f2]
    exact hok.rules12 f1
   rw [List.length_take]at this
   lia
  refine cD (xs:=zs) (fun i σ H'=>i<=zs.length/\ ∃ o5 o6 o7 o8 o9 o10 kr,σ=[some (.ref ba),some tv,some (.ref fo),o3,some (.ref rd),o5,o6,o7,o8,o9,o10]/\LRI H3 rd bk t (((aY t).take i).flatMap (fW bk)) H' kr)
   ⟨Nat.zero_le _,none,none,none,none,none,none,[],rfl,Kp.refl,g3,fun kv h=>(by cases h),fun q h=>(by cases h),Nat.le_refl _⟩ (fun i σ H' _ h=>by obtain ⟨_,_,_,_,_,_,_,_,_,I⟩:=h;exact SqL.of (I.k _ _ gbl nbr)) ?_ ?_
  ·rintro i x σ H4 hx ⟨_,o5,o6,o7,o8,o9,o10,kr,rfl,I4⟩
   have hil:i<zs.length:=(List.getElem?_eq_some_iff.mp hx).1
   obtain ⟨qu,hitem,hRP⟩:=aC hZ hx
   obtain ⟨pl,u⟩:=qu
   have tk4:TK H3 H4:=cU I4.k g3
   obtain ⟨c,a,uv,rfl,hc,ha,hu'⟩:=hRP.mono tk4
   have ha:H4 a=some (.tup ((av pl).map kV)):=by unfold av;rw [List.map_map];exact ha
   obtain ⟨ua,ub,rfl,hua⟩:=jH hu'
   have hat:=dG hitem
   obtain ⟨fr,f1,f2⟩:=hfrm hitem
   have lpl:pl.length<=t.sz:=ed hat
   obtain ⟨ra,rv,e1,e2,e3⟩:=hv fr f1
   have gra4:=tk4 _ _ (S3 _ _ e2)
   have hR4:RepRs H4 fr.rules rv:=(e3.mono (ay S3)).mono tk4
   have h12:=hok.rules12 f1
   have lR:fr.rules.length=rv.length:=hR4.len
   refine ⟨c,_,rfl,SqT.of hc,rfl,_,_,rfl,_,_,rfl,rfl,?_⟩
   refine ⟨_,rfl,_,rfl,ua,_,0,.str u.nm,rfl,rfl,SqT.of hua,cq,fo,_,rfl,(by rw [<- e1,f2];exact DGet.k (k:=Sum.inr u.nm) (I4.k _ _ gfo nfr)),ra,rfl,⟨rv,SqT.of gra4⟩,?_⟩
   have eS:((aY t).take (i+1)).flatMap (fW bk)=((aY t).take i).flatMap (fW bk)++fr.rules.map (cz pl):=by
    rw [List.take_add_one,hitem,List.flatMap_append]
    show _++(fW bk (pl,u)++[])=_
    rw [List.append_nil]
    unfold fW
    rw [fq hok.nd f1 f2]
   refine cu (xs:=rv) (fun j σ H'=>j<=rv.length/\ ∃ o7 o8 o9 o10 kr,σ=[some (.ref ba),some tv,some (.ref fo),o3,some (.ref rd),some (.ref a),some (.ref ua),o7,o8,o9,o10]/\TK H4 H'/\LRI H3 rd bk t (((aY t).take i).flatMap (fW bk)++(fr.rules.take j).map (cz pl)) H' kr)
    ⟨Nat.zero_le _,o7,o8,o9,o10,kr,rfl,TK.refl _,by rw [List.take_zero,List.map_nil,List.append_nil];exact I4⟩ (fun j σ H' _ h=>by obtain ⟨_,_,_,_,_,_,_,tk,_⟩:=h;exact SqT.of (tk _ _ gra4)) ?_ ?_
   ·rintro j y σ H5 hy ⟨_,o7',o8',o9',o10',kr',rfl,tk5,I5⟩
    have hjl:j<rv.length:=(List.getElem?_eq_some_iff.mp hy).1
    obtain ⟨r,hrj,ya,fv',rfl,hya,hfv⟩:=aC (hR4.mono tk5) hy
    have hrm:=List.mem_of_getElem? hrj
    have hwf:=(hok.fo fr f1).2.2.2.2 r hrm
    have hlS:=hr12 i
    have lS:=I5.len
    rw [List.length_append,List.length_map,List.length_take]at lS
    have eT:((aY t).take i).flatMap (fW bk)++(fr.rules.take (j+1)).map (cz pl)=(((aY t).take i).flatMap (fW bk)++(fr.rules.take j).map (cz pl))++[cz pl r]:=by
     rw [List.take_add_one,hrj,List.map_append,List.append_assoc]
     rfl
    rw [eT]
    have ha5:=tk5 _ _ ha
    refine ⟨ya,_,rfl,SqT.of hya,rfl,_,_,rfl,_,_,rfl,_,_,rfl,rfl,?_⟩
    refine ⟨_,rfl,_,rfl,_,_,rfl,rfl,_,rfl,?_⟩
    rcases hok.plw f1 hrm with hm | ⟨k,hk⟩
    ·have hh:cz pl r=(pl,r.word):=by unfold cz;rw [if_pos (by lia)]
     have hRl:Rl bk t (cz pl r) (pl,r.fm):=by rw [hh];exact .up hat f1 f2 hrm hm
     refine cs (fun c=>absurd (of_decide_eq_true c) (by lia)) (fun _=>?_)
     refine ⟨_,rfl,_,rfl,(by show 2<=sizeLine;decide),fun T hT=>?_⟩
     have s6:=af hT (.tup [.ref a,fv'])
     have g6:(upd H5 T (.tup [.ref a,fv'])) T=some (.tup [.ref a,fv']):=ac
     generalize upd H5 T (.tup [.ref a,fv'])=H6 at s6 g6 ⊢
     refine ⟨_,rfl,_,rfl,_,rfl,(by show 2<=sizeLine;decide),fun kt hkt=>?_⟩
     have s7:=af hkt (.tup [.ref a,.str r.word])
     have g7:(upd H6 kt (.tup [.ref a,.str r.word])) kt=some (.tup [.ref a,kV (Sum.inr r.word)]):=ac
     generalize upd H6 kt (.tup [.ref a,.str r.word])=H7 at s7 g7 ⊢
     have S7:=s6.trans s7
     refine ⟨rd,_,rfl,DPut.p (t:=av pl) (k:=Sum.inr r.word) (S7 _ _ I5.g) g7 (S7 _ _ ha5) (sZ (by lia)),?_⟩
     have J:=I5.put (T:=T) S7 ⟨pl,r.fm,T,a,fv',hRl,hwf.1,hwf.2,rfl,s7 _ _ g6,S7 _ _ ha5,hfv.mono (ay S7)⟩
     rw [show spk (cz pl r)=(av pl,Sum.inr r.word)from by rw [hh];rfl]at J
     exact ⟨hjl,_,_,_,_,_,rfl,TK.trans tk5 (TK.trans (ay S7) (TK.upd fun xs e=>by rw [S7 _ _ I5.g]at e;cases e)),J⟩
    ·have hh:cz pl r=(pl++[k],r.word):=by unfold cz;rw [if_neg (by lia),hk];rfl
     have hRl:Rl bk t (cz pl r) (pl,r.fm):=by rw [hh];exact .dn hat f1 f2 hrm hk
     refine cs (fun _=>?_) (fun c=>absurd (decide_eq_true (by lia)) c)
     refine ⟨_,rfl,_,rfl,(by show 1<=sizeLine;decide),fun T1 hT1=>?_⟩
     have s51:=af hT1 (.tup [.int r.pl])
     have g51:(upd H5 T1 (.tup [.int r.pl])) T1=some (.tup [.int r.pl]):=ac
     generalize upd H5 T1 (.tup [.int r.pl])=H51 at s51 g51 ⊢
     refine gc (s51 _ _ ha5) g51 (by rw [List.length_map];unfold av;rw [List.length_map];show pl.length+1<=1000;lia) fun cc H52 s52 gcc=>?_
     rw [hk,<- fC]at gcc
     refine ⟨_,rfl,_,rfl,(by show 2<=sizeLine;decide),fun T hT=>?_⟩
     have s6:=af hT (.tup [.ref a,fv'])
     have g6:(upd H52 T (.tup [.ref a,fv'])) T=some (.tup [.ref a,fv']):=ac
     generalize upd H52 T (.tup [.ref a,fv'])=H6 at s6 g6 ⊢
     refine ⟨_,rfl,_,rfl,_,rfl,(by show 2<=sizeLine;decide),fun kt hkt=>?_⟩
     have s7:=af hkt (.tup [.ref cc,.str r.word])
     have g7:(upd H6 kt (.tup [.ref cc,.str r.word])) kt=some (.tup [.ref cc,kV (Sum.inr r.word)]):=ac
     generalize upd H6 kt (.tup [.ref cc,.str r.word])=H7 at s7 g7 ⊢
     have S7:=s51.trans (s52.trans (s6.trans s7))
     refine ⟨rd,_,rfl,DPut.p (t:=av (pl++[k])) (k:=Sum.inr r.word) (S7 _ _ I5.g) g7 (s7 _ _ (s6 _ _ gcc)) (sZ (by lia)),?_⟩
     have J:=I5.put (T:=T) S7 ⟨pl,r.fm,T,a,fv',hRl,hwf.1,hwf.2,rfl,s7 _ _ g6,S7 _ _ ha5,hfv.mono (ay S7)⟩
     rw [show spk (cz pl r)=(av (pl++[k]),Sum.inr r.word)from by rw [hh];rfl]at J
     exact ⟨hjl,_,_,_,_,_,rfl,TK.trans tk5 (TK.trans (ay S7) (TK.upd fun xs e=>by rw [S7 _ _ I5.g]at e;cases e)),J⟩
   ·rintro σ H5 ⟨_,o7',o8',o9',o10',kr',rfl,tk5,I5⟩
    rw [<- lR,List.take_length,<- eS]at I5
    exact ⟨hil,_,_,_,_,_,_,kr',rfl,I5⟩
  ·rintro σ H4 ⟨_,o5,o6,o7,o8,o9,o10,kr,rfl,I4⟩
   rw [<- lZ,List.take_length]at I4
   refine ⟨_,rfl,q rd kr H4 hrd0 (fun b o e=>I4.k _ _ (S3 _ _ (S1 _ _ e)) (ai e hrd0)) I4.g I4.rv fun q' a hRl=>I4.all q' ?_⟩
   cases hRl with
   | @up pl u fr r a1 a2 a3 a4 a5=>
    refine List.mem_flatMap.mpr ⟨(pl,u),eI a1,List.mem_map.mpr ⟨r,by rw [fq hok.nd a2 a3];exact a4,?_⟩⟩
    show cz pl r=_
    unfold cz;rw [if_pos (by lia)]
   | @dn pl u fr r k a1 a2 a3 a4 a5=>
    refine List.mem_flatMap.mpr ⟨(pl,u),eI a1,List.mem_map.mpr ⟨r,by rw [fq hok.nd a2 a3];exact a4,?_⟩⟩
    show cz pl r=_
    unfold cz;rw [if_neg (by lia),a5];rfl
theorem sV {bk:Bk} (hok:BkS bk) {n:Nat} {t:Bt} {s:Srt} (hTr:TrS bk n t s):((be bk t).map spk).Nodup:=i4 fun u hu=>by
 obtain ⟨i,hi⟩:=List.getElem?_of_mem hu
 obtain ⟨p,hp,hat⟩:=aC (cN t.sz t (Nat.le_refl _)) hi
 obtain ⟨m',s',h1⟩:=hTr.at hat
 obtain ⟨fr,f1,f2,f3⟩:=h1.frm
 rw [cG hok.nd f1 f2]
 exact (hok.ws _ (hok.fo fr f1).1).2.2.1
noncomputable def RdV (H:Hp) (bk:Bk) (t:Bt) (kr:List ((List Key×Key)×V)):Prop:= ∀ kv∈kr,∃ q l o zs,kv.1=spk q/\kv.2=.ref o/\H o=some (.lst zs)/\Rds bk t q l/\Paired (RepSp H) l zs
theorem RdV.kp {d:Addr} {H H':Hp} {bk:Bk} {t:Bt} {kr kr':List ((List Key×Key)×V)} (k:Kp d H H') (h:H d=some (.dP kr')) (x:RdV H bk t kr):RdV H' bk t kr:=fun kv hkv=>by
 obtain ⟨q,l,o,zs,e1,e2,e3,e4,e5⟩:=x kv hkv
 exact ⟨q,l,o,zs,e1,e2,k _ _ e3 (fun z=>by rw [z,h]at e3;cases e3),e4,Paired.mapP e5 fun _ _ r=>r.mono (cU k h)⟩
inductive pe  (vs:List V) (H:Hp) (Q:VK) (E_:XK):Prop
 | mk: ∀ bv tv bk n t m s,(vs=[bv,tv])->(RepB H bk bv)->(BkS bk)->(RepT H n t tv)->(TrS bk m t s)->(t.sz<=100)->(∀ d kvs H',H d=none->Same H H'->H' d=some (.dP kvs)->kvs.map (·.1)=(be bk t).map spk->RdV H' bk t kvs->Q (.ref d) H')->pe vs H Q E_
noncomputable abbrev y9:List Str:=["book","tree","rules","found","spot","place","formula","one","here"]
theorem scLRds:aG y9 ["book","tree"] (ak tK):=fsc
theorem vL (F:Fun K "_law_reads" "_law_reads" tK f fd)
  (GU:aE P w K mg base CX0 2 f2 fd2 ["book","tree"] jw) (bU:Binds K fd2 ["book","tree"] []) (kU:PySem.W.keepIn K (.ref f2)=true) (mU:mg "_law_rules"=some (.ref f2))
  (GS:aE P w K mg base CX0 2 f3 fd3 ["book","tree"] h9) (bS:Binds K fd3 ["book","tree"] []) (kS:PySem.W.keepIn K (.ref f3)=true) (mS:mg "_law_spots"=some (.ref f3))
  (GR:aE P w K mg base CX0 16 f4 fd4 ["formula"] (fg 15)) (bR:Binds K fd4 ["formula"] []) (kR:PySem.W.keepIn K (.ref f4)=true) (mR:mg "_law_read"=some (.ref f4)):aE P w K mg base CX0 17 f fd ["book","tree"] pe:=by
 refine F.ok scLRds (fun vs H Q E h=>?_) (fun cdv A outer s H vs Q E hr h=>?_)
 ·obtain ⟨bv,tv,bk,n,t,m,s,rfl,_⟩:=h
  rfl
 obtain ⟨bv,tv,bk,n,t,m,sr,rfl,hB,hok,hT,hTr,hsz,q⟩:=h
 have hu:=cZ hr
 have hr2:=hr.mono (show 2<=16 by decide)
 refine ⟨_,ae (am (i:=2) scLRds.nd rfl (Or.inl rfl) (al GU hr2 rfl mU kU bU .nil aA (aa (pv 0) (aa (pv 1) ad))))
  (ae (am (i:=3) scLRds.nd rfl (Or.inl rfl) jM)
  (ae (a6 PassesOwn.never rfl (cL (al GS hr2 rfl mS kS bS .nil aA (aa (pv 0) (aa (pv 1) ad)))) (au (i:=4) scLRds.nd rfl (Or.inl rfl))
   (ae (cA hu (pv 3) (pv 4) (aN ad) rfl)
   (aj (bi (mz (mP hu (pv 4) (pv 2)))
    (ae (iQ (bp hu (pv 2) (pv 4) (fun _ _=>rfl)) (cC rfl (aJ (au (i:=5) scLRds.nd rfl (Or.inl rfl)) (aJ (au (i:=6) scLRds.nd rfl (Or.inl rfl)) bV))))
    (aj (a6 PassesOwn.never rfl (cL (al GR hr rfl mR kR bR .nil aA (aa (pv 6) ad))) (au (i:=7) scLRds.nd rfl (Or.inl rfl))
     (ae (am (i:=8) scLRds.nd rfl (Or.inl rfl) (pv 5))
     (ae (bi (aM dh (ar (r:=aW K) ax (pv 7) ag (fun _ _=>rfl)) aT (aV _)) (aj (am (i:=8) scLRds.nd rfl (Or.inl rfl) (aw cv (pv 5) (aK (aa (ar (r:=aW K) ax (pv 7) ag (fun _ _=>rfl)) ad))))) aP)
     (aj (bx (dg PySem.F.plainAttrs_list PySem.F.slot_list_append PySem.F.type_list_append bn (bp hu (pv 3) (pv 4) (fun _ _=>rfl)) (aa (aK (aa (pv 8) (aa (ar (r:=aW K) ax (pv 7) (gH eK ag) (fun _ _=>rfl)) ad))) ad))))))))) aP))))
  (aj (aL (pv 3))))),?_⟩
 refine ⟨_,rfl,_,rfl,bv,tv,bk,n,t,m,sr,rfl,hB,hok,hT,hTr,hsz,fun ru kvu H1 hru s1 gru hLR hall=>?_⟩
 refine fun d hd=>?_
 have s2:=af hd (.dP [])
 have g2:(upd H1 d (.dP [])) d=some (.dP []):=ac
 have hd0:H d=none:=s1.free hd
 have nrd:ru≠d:=fun z=>by rw [z,hd]at gru;cases gru
 have hLR2:LRs (upd H1 d (.dP [])) bk t kvu:=fun kv hkv=>let ⟨q',e,r⟩:=hLR kv hkv;⟨q',e,r.mono (ay s2)⟩
 generalize upd H1 d (.dP [])=H2 at s2 g2 hLR2 ⊢
 have S2:=s1.trans s2
 refine ⟨_,rfl,_,rfl,bv,tv,bk,n,t,m,sr,rfl,hB.mono (ay S2),hok,hT.mono (ay S2),hTr,hsz,fun sl zs0 H3 hsl s3 gsl hZ=>?_⟩
 refine ⟨sl,rfl,⟨zs0,SqL.of gsl⟩,?_⟩
 have g3:=s3 _ _ g2
 have gru3:=s3 _ _ (s2 _ _ gru)
 have nsd:sl≠d:=fun z=>by rw [z,g2]at hsl;cases hsl
 have hnd:=sV hok hTr
 have h600:=iC hok hTr hsz
 have lZ:(be bk t).length=zs0.length:=Paired.length hZ
 refine cD (xs:=zs0) (fun i σ H'=>i<=zs0.length/\ ∃ o4 o5 o6 o7 o8 kr,σ=[some bv,some tv,some (.ref ru),some (.ref d),o4,o5,o6,o7,o8]/\Kp d H3 H'/\H' d=some (.dP kr)/\kr.map (·.1)=((be bk t).take i).map spk/\RdV H' bk t kr)
  ⟨Nat.zero_le _,none,none,none,none,none,[],rfl,Kp.refl,g3,rfl,fun kv h=>(by cases h)⟩ (fun i σ H' _ h=>by obtain ⟨_,_,_,_,_,_,_,_,kp,_⟩:=h;exact SqL.of (kp _ _ gsl nsd)) ?_ ?_
 ·rintro i x σ H4 hx ⟨_,o4,o5,o6,o7,o8,kr,rfl,k4,g4,hkeys,hRd⟩
  have hil:i<zs0.length:=(List.getElem?_eq_some_iff.mp hx).1
  obtain ⟨qq,hqi,b,c,rfl,hb,hc⟩:=aC hZ hx
  have tk4:=cU k4 g3
  have hb4:=tk4 _ _ hb
  have hc4:=tk4 _ _ hc
  have gru4:=k4 _ _ gru3 nrd
  have etake:((be bk t).take (i+1)).map spk=((be bk t).take i).map spk++[spk qq]:=by rw [List.take_add_one,hqi,List.map_append];rfl
  have hnot:spk qq∉kr.map (·.1):=by
   rw [hkeys]
   have e:(be bk t).map spk=((be bk t).take i).map spk++spk qq::((be bk t).drop (i+1)).map spk:=by
    rw [<- List.map_cons,<- nv hqi,<- List.map_append,List.take_append_drop]
   exact gR e.symm hnd
  have lkr:kr.length<=600:=by
   have:=congrArg List.length hkeys
   rw [List.length_map,List.length_map,List.length_take]at this
   lia
  refine ⟨(by show 0<=sizeLine;decide),fun lo hlo=>?_⟩
  have s5:=af hlo (.lst [])
  have g5:(upd H4 lo (.lst [])) lo=some (.lst []):=ac
  generalize upd H4 lo (.lst [])=H5 at s5 g5 ⊢
  have nld:lo≠d:=fun z=>by rw [z,g4]at hlo;cases hlo
  refine ⟨_,rfl,_,rfl,d,_,rfl,DPut.p (t:=av qq.1) (k:=Sum.inr qq.2) (s5 _ _ g4) (s5 _ _ hb4) (s5 _ _ hc4) (ao (by lia)),?_⟩
  have k6:Kp d H4 (upd H5 d (.dP (aX kr (av qq.1,Sum.inr qq.2) (.ref lo)))):=fun b o e n'=>by rw [ah n'];exact s5 _ _ e
  have g6:(upd H5 d (.dP (aX kr (av qq.1,Sum.inr qq.2) (.ref lo)))) d=some (.dP (aX kr (av qq.1,Sum.inr qq.2) (.ref lo))):=ac
  have glo6:(upd H5 d (.dP (aX kr (av qq.1,Sum.inr qq.2) (.ref lo)))) lo=some (.lst []):=by rw [ah nld];exact g5
  generalize upd H5 d (.dP (aX kr (av qq.1,Sum.inr qq.2) (.ref lo)))=H6 at k6 g6 glo6 ⊢
  have hkeys2:(aX kr (av qq.1,Sum.inr qq.2) (V.ref lo)).map (·.1)=((be bk t).take (i+1)).map spk:=by
   rw [iV (show (av qq.1,Sum.inr qq.2)∉kr.map (·.1)from hnot),hkeys,etake]
   rfl
  have hval:aO (aX kr (av qq.1,Sum.inr qq.2) (V.ref lo)) (av qq.1,Sum.inr qq.2)=some (.ref lo):=by rw [bP,if_pos rfl]
  have hnew: ∀ {H':Hp} {zs:List V} {l:List (List Nat×Str)},Kp d H4 H'->H' lo=some (.lst zs)->Rds bk t qq l->Paired (RepSp H') l zs->RdV H' bk t (aX kr (av qq.1,Sum.inr qq.2) (V.ref lo)):=fun {H'} {zs} {l} kk gl hR hP kv hkv=>by
   rcases ji hkv with h | h
   ·exact (hRd.kp kk g4) kv h
   ·exact ⟨qq,l,lo,zs,h.1,h.2,gl,hR,hP⟩
  generalize aX kr (av qq.1,Sum.inr qq.2) (V.ref lo)=kr2 at g6 hkeys2 hval hnew
  have tk6:=cU k6 g4
  have hb6:=tk6 _ _ hb4
  have hc6:=tk6 _ _ hc4
  have gru6:=k6 _ _ gru4 nrd
  refine ⟨_,rfl,_,rfl,ru,_,rfl,DGet.p (t:=av qq.1) (k:=Sum.inr qq.2) gru6 hb6 hc6,_,rfl,?_⟩
  cases hvu:aO kvu (av qq.1,Sum.inr qq.2)with
  | none=>
   refine dI ?_
   have hno: ∀ a,¬ Rl bk t qq a:=fun a ha=>by
    obtain ⟨v,e⟩:=hall qq a ha
    have e:aO kvu (av qq.1,Sum.inr qq.2)=some v:=e
    rw [hvu]at e;cases e
   exact ⟨hil,_,_,_,_,_,kr2,rfl,fun b' o' e' n'=>k6 _ _ (k4 _ _ e' n') n',g6,hkeys2,hnew k6 glo6 (.inl ⟨hno,rfl⟩) .nil⟩
  | some v=>
   refine kn ?_
   obtain ⟨q',eq',p,fm,T,c',fv,hRl,hwf,hsz',ev,hT6,hc',hfv⟩:=hLR2 _ (fJ hvu)
   have:q'=qq:=(hU eq').symm
   subst this
   have ev:v=.ref T:=ev
   subst ev
   have tk26:TK H2 H6:=TK.trans (ay s3) (TK.trans tk4 tk6)
   obtain ⟨u',hu'⟩:=hRl.place
   have hpl:p.length<=t.sz:=ed hu'
   refine ⟨_,rfl,_,rfl,ru,_,rfl,(by rw [<- hvu];exact DGet.p (t:=av q'.1) (k:=Sum.inr q'.2) gru6 hb6 hc6),T,_,rfl,SqT.of (tk26 _ _ hT6),rfl,_,_,rfl,_,_,rfl,rfl,?_⟩
   refine ⟨_,rfl,fv,fm,rfl,hfv.mono tk26,hwf,hsz',Nat.le_refl _,fun l1 ys H7 hl1 s7 gl1 hK=>?_⟩
   refine ⟨l1,rfl,⟨ys,SqL.of gl1⟩,?_⟩
   have nl1:l1≠lo:=fun z=>by rw [z,glo6]at hl1;cases hl1
   have hc7:=s7 _ _ (tk26 _ _ hc')
   have glo7:=s7 _ _ glo6
   have k7:Kp d H4 H7:=fun b o e n'=>s7 _ _ (k6 _ _ e n')
   have lK:ys.length=(dd [] fm.rdk).length:=Paired.length hK
   have l15:(dd [] fm.rdk).length<=15:=by
    have h1:=gV (rs:=fm.rdk) (acc:=[])
    have h2:=dy fm
    rw [List.length_nil]at h1
    lia
   have hRd1: ∀ ks∈dd [] fm.rdk,Rd1 ks:=ny (fun _ h=>by cases h) (fR hwf)
   refine cD (xs:=ys) (fun j σ H'=>j<=ys.length/\ ∃ o7 o8 zs,σ=[some bv,some tv,some (.ref ru),some (.ref d),some (.ref b),some (.ref c'),some fv,o7,o8]/\Kp d H4 H'/\Kp lo H7 H'/\H' lo=some (.lst zs)/\Paired (RepSp H') (((dd [] fm.rdk).take j).map (fL p)) zs)
    ⟨Nat.zero_le _,o7,o8,[],rfl,k7,Kp.refl,glo7,.nil⟩ (fun j σ H' _ h=>by obtain ⟨_,_,_,_,_,_,kp,_⟩:=h;exact SqL.of (kp _ _ gl1 nl1)) ?_ ?_
   ·rintro j y σ H8 hy ⟨_,o7',o8',zs,rfl,k8,kl8,glo8,hP8⟩
    have hjl:j<ys.length:=(List.getElem?_eq_some_iff.mp hy).1
    obtain ⟨ks,hks,rb,rfl,hrb⟩:=aC (jk hK) hy
    have tk8:=fV kl8 glo7
    have hrb8:=tk8 _ _ hrb
    have hc8:=tk8 _ _ hc7
    have gd8:=kl8 _ _ (s7 _ _ g6) (Ne.symm nld)
    have hb8:=tk8 _ _ (s7 _ _ hb6)
    have hcc8:=tk8 _ _ (s7 _ _ hc6)
    have lzs:zs.length<=15:=by
     have:=Paired.length hP8
     rw [List.length_map,List.length_take]at this
     lia
    have eT:((dd [] fm.rdk).take (j+1)).map (fL p)=((dd [] fm.rdk).take j).map (fL p)++[fL p ks]:=by rw [List.take_add_one,hks,List.map_append];rfl
    have fin: ∀ {H9 H10:Hp} {T2:Addr},Same H8 H9->RepSp H9 (fL p ks) (.ref T2)->H10=upd H9 lo (.lst (zs++[.ref T2]))->Kp d H4 H10/\Kp lo H7 H10/\H10 lo=some (.lst (zs++[.ref T2]))/\Paired (RepSp H10) (((dd [] fm.rdk).take (j+1)).map (fL p)) (zs++[.ref T2]):=fun {H9} {H10} {T2} s9 hR e=>by
     subst e
     have tk:TK H9 (upd H9 lo (.lst (zs++[.ref T2]))):=TK.lst (s9 _ _ glo8)
     refine ⟨fun b o e n'=>by rw [ah (fun z=>by rw [z,hlo]at e;cases e)];exact s9 _ _ (k8 _ _ e n'),fun b o e n'=>by rw [ah n'];exact s9 _ _ (kl8 _ _ e n'),ac,?_⟩
     rw [eT]
     exact cQ (Paired.mapP hP8 fun _ _ r=>(r.mono (ay s9)).mono tk) (.cons (hR.mono tk) .nil)
    rcases hRd1 ks (List.mem_of_getElem? hks)with ⟨x',rfl,hx'⟩ | ⟨k',x',rfl,hx'⟩
    ·refine ⟨_,rfl,_,rfl,rb,_,0,.str "own",rfl,rfl,SqT.of hrb8,cq,rfl,_,rfl,?_⟩
     rw [decide_eq_false (show ¬ V.str "own"=V.str "part" from fun e=>absurd (V.str.inj e) (by decide +kernel))]
     refine dI ?_
     refine ⟨_,rfl,_,rfl,d,.ref lo,rfl,(by rw [<- hval];exact DGet.p (t:=av q'.1) (k:=Sum.inr q'.2) gd8 hb8 hcc8),.inl ⟨rfl,_,SqL.of glo8⟩,_,rfl,_,rfl,_,rfl,rb,_,-1,.str x',rfl,rfl,SqT.of hrb8,kf [V.str "own"] _,(by show 2<=sizeLine;decide),fun T2 hT2=>?_⟩
     have s9:=af hT2 (.tup [.ref c',.str x'])
     have g9:(upd H8 T2 (.tup [.ref c',.str x'])) T2=some (.tup [.ref c',.str x']):=ac
     generalize upd H8 T2 (.tup [.ref c',.str x'])=H9 at s9 g9 ⊢
     obtain ⟨e1,e2,e3,e4⟩:=fin (T2:=T2) s9 ⟨T2,c',rfl,g9,s9 _ _ hc8⟩ rfl
     exact ⟨lo,zs,_,rfl,rfl,s9 _ _ glo8,ao (by lia),hjl,_,_,_,rfl,e1,e2,e3,e4⟩
    ·refine ⟨_,rfl,_,rfl,rb,_,0,.str "part",rfl,rfl,SqT.of hrb8,cq,rfl,_,rfl,?_⟩
     rw [decide_eq_true (show V.str "part"=V.str "part" from rfl)]
     refine kn ?_
     refine ⟨_,rfl,_,rfl,rb,_,1,.int (k':Int),rfl,rfl,SqT.of hrb8,aF (j:=1) rfl,(by show 1<=sizeLine;decide),fun T1 hT1=>?_⟩
     have s81:=af hT1 (.tup [.int (k':Int)])
     have g81:(upd H8 T1 (.tup [.int (k':Int)])) T1=some (.tup [.int (k':Int)]):=ac
     generalize upd H8 T1 (.tup [.int (k':Int)])=H81 at s81 g81 ⊢
     refine gc (s81 _ _ hc8) g81 (by rw [List.length_map];unfold av;rw [List.length_map];show p.length+1<=1000;lia) fun cc H82 s82 gcc=>?_
     rw [<- fC]at gcc
     have S82:=s81.trans s82
     refine ⟨_,rfl,_,rfl,d,.ref lo,rfl,(by rw [<- hval];exact DGet.p (t:=av q'.1) (k:=Sum.inr q'.2) (S82 _ _ gd8) (S82 _ _ hb8) (S82 _ _ hcc8)),.inl ⟨rfl,_,SqL.of (S82 _ _ glo8)⟩,_,rfl,_,rfl,_,rfl,rb,_,-1,.str x',rfl,rfl,SqT.of (S82 _ _ hrb8),kf [V.str "part",V.int (k':Int)] _,(by show 2<=sizeLine;decide),fun T2 hT2=>?_⟩
     have s9:=af hT2 (.tup [.ref cc,.str x'])
     have g9:(upd H82 T2 (.tup [.ref cc,.str x'])) T2=some (.tup [.ref cc,.str x']):=ac
     generalize upd H82 T2 (.tup [.ref cc,.str x'])=H9 at s9 g9 ⊢
     obtain ⟨e1,e2,e3,e4⟩:=fin (T2:=T2) (S82.trans s9) ⟨T2,cc,rfl,g9,s9 _ _ gcc⟩ rfl
     exact ⟨lo,zs,_,rfl,rfl,(S82.trans s9) _ _ glo8,ao (by lia),hjl,_,_,_,rfl,e1,e2,e3,e4⟩
   ·rintro σ H8 ⟨_,o7',o8',zs,rfl,k8,kl8,glo8,hP8⟩
    rw [lK,List.take_length]at hP8
    exact ⟨hil,_,_,_,_,_,kr2,rfl,fun b' o' e' n'=>k8 _ _ (k4 _ _ e' n') n',kl8 _ _ (s7 _ _ g6) (Ne.symm nld),hkeys2,hnew k8 glo8 (.inr ⟨p,fm,hRl,hwf,hsz',rfl⟩) hP8⟩
 ·rintro σ H4 ⟨_,o4,o5,o6,o7,o8,kr,rfl,k4,g4,hkeys,hRd⟩
  rw [<- lZ,List.take_length]at hkeys
  exact ⟨_,rfl,q d kr H4 hd0 (fun b o e=>k4 _ _ (s3 _ _ (S2 _ _ e)) (ai e hd0)) g4 hkeys hRd⟩
structure x0 (K:PySem.W.Frag) (mg:Str->Option Value) (C CB D0 D1 D2 D3 D4 D5 D6 D7 D9 D10 D11 D12 D13 D14 D15 D16 D17:Addr):Prop where
 d0:mg "NoText"=some (.ref D0)
 d1:mg "NoBook"=some (.ref D1)
 d2:mg "Tangled"=some (.ref D2)
 d3:mg "TooGreat"=some (.ref D3)
 d4:mg "NoPlace"=some (.ref D4)
 d5:mg "NoFit"=some (.ref D5)
 d6:mg "NoTree"=some (.ref D6)
 d7:mg "TooMany"=some (.ref D7)
 d8:mg "NoSpot"=some (.ref C)
 d9:mg "NoGiven"=some (.ref D9)
 d10:mg "Ring"=some (.ref D10)
 d11:mg "NoChange"=some (.ref D11)
 d12:mg "NoPlain"=some (.ref D12)
 d13:mg "NoBuild"=some (.ref D13)
 d14:mg "NoWorth"=some (.ref D14)
 d15:mg "NoPrice"=some (.ref D15)
 d16:mg "NoRow"=some (.ref D16)
 d17:mg "NoName"=some (.ref D17)
 k0:PySem.W.kitOne K (.ref C) (.ref D0)=some false
 k1:PySem.W.kitOne K (.ref C) (.ref D1)=some false
 k2:PySem.W.kitOne K (.ref C) (.ref D2)=some false
 k3:PySem.W.kitOne K (.ref C) (.ref D3)=some false
 k4:PySem.W.kitOne K (.ref C) (.ref D4)=some false
 k5:PySem.W.kitOne K (.ref C) (.ref D5)=some false
 k6:PySem.W.kitOne K (.ref C) (.ref D6)=some false
 k7:PySem.W.kitOne K (.ref C) (.ref D7)=some false
 k8:PySem.W.kitOne K (.ref C) (.ref C)=some true
 k9:PySem.W.kitOne K (.ref C) (.ref D9)=some false
 k10:PySem.W.kitOne K (.ref C) (.ref D10)=some false
 k11:PySem.W.kitOne K (.ref C) (.ref D11)=some false
 k12:PySem.W.kitOne K (.ref C) (.ref D12)=some false
 k13:PySem.W.kitOne K (.ref C) (.ref D13)=some false
 k14:PySem.W.kitOne K (.ref C) (.ref D14)=some false
 k15:PySem.W.kitOne K (.ref C) (.ref D15)=some false
 k16:PySem.W.kitOne K (.ref C) (.ref D16)=some false
 k17:PySem.W.kitOne K (.ref C) (.ref D17)=some false
 cb:mg "BoughError"=some (.ref CB)
 ve:mg "ValueError"=none
 exc:ExC K C
 cac:CaC K C CB
 val:PySem.W.kitOne K (.ref C) (.type "ValueError")=some true
inductive lX (C:Addr) (vs:List V) (H:Hp) (Q:VK) (E_:XK):Prop
 | mk: ∀ x,(vs=[.ref x,.str "NoSpot"])->(H x=some (ExO x C))->(∀ H',Same H H'->Q (.bl true) H')->lX C vs H Q E_
noncomputable def nmL:List Str:=["NoText","NoBook","Tangled","TooGreat","NoPlace","NoFit","NoTree","TooMany","NoSpot","NoGiven","Ring","NoChange","NoPlain","NoBuild","NoWorth","NoPrice","NoRow","NoName"]
noncomputable def flL:List Bool:=[false,false,false,false,false,false,false,false,true,false,false,false,false,false,false,false,false,false]
theorem nQ: ∀ (n:Nat) (k:Nat),Paired (fun (i:Nat) (v:V)=>v=V.int ((i:Nat):Int)) (List.range' k n) ((List.range' k n).map fun i=>V.int ((i:Nat):Int))
 | 0,_=>.nil
 | n+1,k=>.cons rfl (nQ n (k+1))
noncomputable abbrev vj:List Str:=["e","kind","names","some","told"]
theorem scAlone:aG vj ["e","kind"] (ak mx):=fsc
theorem uy (F:Fun K "_law_alone" "_law_alone" mx f fd) (G:Gb mg) (h:x0 K mg C CB D0 D1 D2 D3 D4 D5 D6 D7 D9 D10 D11 D12 D13 D14 D15 D16 D17):aE P w K mg base CX0 1 f fd ["e","kind"] (lX C):=by
 refine F.ok scAlone (fun vs H Q E h=>?_) (fun cdv A outer s H vs Q E hr hq=>?_)
 ·obtain ⟨x,rfl,_⟩:=h
  rfl
 obtain ⟨x,rfl,gx,q⟩:=hq
 have hu:=cZ hr
 refine ⟨_,ae (am (i:=2) scAlone.nd rfl (Or.inr rfl) (aN (pac aT (pac aT (pac aT (pac aT (pac aT (pac aT (pac aT (pac aT (pac aT ad)))))))))))
  (ae (am (i:=2) scAlone.nd rfl (Or.inr rfl) (aw cY (pv 2) (aN (pac aT (pac aT (pac aT (pac aT (pac aT (pac aT (pac aT (pac aT ad)))))))))))
  (ae (bx (dg PySem.F.plainAttrs_list PySem.F.slot_list_append PySem.F.type_list_append bn (pv 2) (aa aT ad)))
  (ae (am (i:=3) scAlone.nd rfl (Or.inr rfl) (aN (pac (aq bg rfl G.isi (by decide +kernel) (aa (pv 0) (aa (bt (v:=.ref D0) rfl h.d0 rfl) ad))) (pac (aq bg rfl G.isi (by decide +kernel) (aa (pv 0) (aa (bt (v:=.ref D1) rfl h.d1 rfl) ad))) (pac (aq bg rfl G.isi (by decide +kernel) (aa (pv 0) (aa (bt (v:=.ref D2) rfl h.d2 rfl) ad))) ad)))))
  (ae (am (i:=3) scAlone.nd rfl (Or.inr rfl) (aw cY (pv 3) (aN (pac (aq bg rfl G.isi (by decide +kernel) (aa (pv 0) (aa (bt (v:=.ref D3) rfl h.d3 rfl) ad))) (pac (aq bg rfl G.isi (by decide +kernel) (aa (pv 0) (aa (bt (v:=.ref D4) rfl h.d4 rfl) ad))) (pac (aq bg rfl G.isi (by decide +kernel) (aa (pv 0) (aa (bt (v:=.ref D5) rfl h.d5 rfl) ad))) ad))))))
  (ae (am (i:=3) scAlone.nd rfl (Or.inr rfl) (aw cY (pv 3) (aN (pac (aq bg rfl G.isi (by decide +kernel) (aa (pv 0) (aa (bt (v:=.ref D6) rfl h.d6 rfl) ad))) (pac (aq bg rfl G.isi (by decide +kernel) (aa (pv 0) (aa (bt (v:=.ref D7) rfl h.d7 rfl) ad))) (pac (aq bg rfl G.isi (by decide +kernel) (aa (pv 0) (aa (bt (v:=.ref C) rfl h.d8 rfl) ad))) ad))))))
  (ae (am (i:=3) scAlone.nd rfl (Or.inr rfl) (aw cY (pv 3) (aN (pac (aq bg rfl G.isi (by decide +kernel) (aa (pv 0) (aa (bt (v:=.ref D9) rfl h.d9 rfl) ad))) (pac (aq bg rfl G.isi (by decide +kernel) (aa (pv 0) (aa (bt (v:=.ref D10) rfl h.d10 rfl) ad))) (pac (aq bg rfl G.isi (by decide +kernel) (aa (pv 0) (aa (bt (v:=.ref D11) rfl h.d11 rfl) ad))) ad))))))
  (ae (am (i:=3) scAlone.nd rfl (Or.inr rfl) (aw cY (pv 3) (aN (pac (aq bg rfl G.isi (by decide +kernel) (aa (pv 0) (aa (bt (v:=.ref D12) rfl h.d12 rfl) ad))) (pac (aq bg rfl G.isi (by decide +kernel) (aa (pv 0) (aa (bt (v:=.ref D13) rfl h.d13 rfl) ad))) (pac (aq bg rfl G.isi (by decide +kernel) (aa (pv 0) (aa (bt (v:=.ref D14) rfl h.d14 rfl) ad))) ad))))))
  (ae (am (i:=3) scAlone.nd rfl (Or.inr rfl) (aw cY (pv 3) (aN (pac (aq bg rfl G.isi (by decide +kernel) (aa (pv 0) (aa (bt (v:=.ref D15) rfl h.d15 rfl) ad))) (pac (aq bg rfl G.isi (by decide +kernel) (aa (pv 0) (aa (bt (v:=.ref D16) rfl h.d16 rfl) ad))) (pac (aq bg rfl G.isi (by decide +kernel) (aa (pv 0) (aa (bt (v:=.ref D17) rfl h.d17 rfl) ad))) ad))))))
  (ae (nY (i:=4) (sc0:=ak mx) (N0:=vj) (ys:=["names","some"]) (fr:=[2,3]) rfl scAlone.nd rfl (Or.inl rfl) (br rfl G.range (aa ag ad)) rfl rfl
   cok
   (fun C s H ex=>dZ (ar (r:=cB K) aS (pv 2) (pv 0) (fun _ _=>rfl))) (fun C s H ex=>ar (r:=cB K) aS (pv 1) (pv 0) (fun _ _=>rfl)))
  (aj (aL (ud (aq bg rfl G.isi (by decide +kernel) (aa (pv 0) (aa (fw (v:=.ty "ValueError") rfl h.ve (by decide +kernel) rfl) ad))) (tX (ii (xo (n:=0) (Nat.lt_of_le_of_lt (Nat.add_le_add_left (by decide:1<=16) _) hu)) (pv 4) (aN (aa (pv 1) ad)) (by with_unfolding_all rfl))))))))))))))),?_⟩
 refine ⟨(by show 9<=sizeLine;decide),fun p1 hp1=>?_⟩
 have s1:=af hp1 (.lst [.str "NoText",.str "NoBook",.str "Tangled",.str "TooGreat",.str "NoPlace",.str "NoFit",.str "NoTree",.str "TooMany",.str "NoSpot"])
 have g1:(upd H p1 (.lst [.str "NoText",.str "NoBook",.str "Tangled",.str "TooGreat",.str "NoPlace",.str "NoFit",.str "NoTree",.str "TooMany",.str "NoSpot"])) p1=some (.lst [.str "NoText",.str "NoBook",.str "Tangled",.str "TooGreat",.str "NoPlace",.str "NoFit",.str "NoTree",.str "TooMany",.str "NoSpot"]):=ac
 generalize upd H p1 (.lst [.str "NoText",.str "NoBook",.str "Tangled",.str "TooGreat",.str "NoPlace",.str "NoFit",.str "NoTree",.str "TooMany",.str "NoSpot"])=H1 at s1 g1 ⊢
 refine ⟨_,rfl,(by show 8<=sizeLine;decide),fun p2 hp2=>?_⟩
 have s2:=af hp2 (.lst [.str "NoGiven",.str "Ring",.str "NoChange",.str "NoPlain",.str "NoBuild",.str "NoWorth",.str "NoPrice",.str "NoRow"])
 have g2:(upd H1 p2 (.lst [.str "NoGiven",.str "Ring",.str "NoChange",.str "NoPlain",.str "NoBuild",.str "NoWorth",.str "NoPrice",.str "NoRow"])) p2=some (.lst [.str "NoGiven",.str "Ring",.str "NoChange",.str "NoPlain",.str "NoBuild",.str "NoWorth",.str "NoPrice",.str "NoRow"]):=ac
 generalize upd H1 p2 (.lst [.str "NoGiven",.str "Ring",.str "NoChange",.str "NoPlain",.str "NoBuild",.str "NoWorth",.str "NoPrice",.str "NoRow"])=H2 at s2 g2 ⊢
 refine ⟨p1,p2,_,_,rfl,rfl,s2 _ _ g1,g2,(by show 9+8<=sizeLine;decide),fun p3 hp3=>?_⟩
 have s3:=af hp3 (.lst ([.str "NoText",.str "NoBook",.str "Tangled",.str "TooGreat",.str "NoPlace",.str "NoFit",.str "NoTree",.str "TooMany",.str "NoSpot"]++[.str "NoGiven",.str "Ring",.str "NoChange",.str "NoPlain",.str "NoBuild",.str "NoWorth",.str "NoPrice",.str "NoRow"]))
 have g3:(upd H2 p3 (.lst ([.str "NoText",.str "NoBook",.str "Tangled",.str "TooGreat",.str "NoPlace",.str "NoFit",.str "NoTree",.str "TooMany",.str "NoSpot"]++[.str "NoGiven",.str "Ring",.str "NoChange",.str "NoPlain",.str "NoBuild",.str "NoWorth",.str "NoPrice",.str "NoRow"]))) p3=some (.lst ([.str "NoText",.str "NoBook",.str "Tangled",.str "TooGreat",.str "NoPlace",.str "NoFit",.str "NoTree",.str "TooMany",.str "NoSpot",.str "NoGiven",.str "Ring",.str "NoChange",.str "NoPlain",.str "NoBuild",.str "NoWorth",.str "NoPrice",.str "NoRow"])):=ac
 generalize upd H2 p3 (.lst ([.str "NoText",.str "NoBook",.str "Tangled",.str "TooGreat",.str "NoPlace",.str "NoFit",.str "NoTree",.str "TooMany",.str "NoSpot"]++[.str "NoGiven",.str "Ring",.str "NoChange",.str "NoPlain",.str "NoBuild",.str "NoWorth",.str "NoPrice",.str "NoRow"]))=H3 at s3 g3 ⊢
 have S3:=s1.trans (s2.trans s3)
 have hp30:H p3=none:=(s1.trans s2).free hp3
 refine ⟨_,rfl,.inl ⟨rfl,_,SqL.of g3⟩,p3,_,_,rfl,rfl,g3,ao (by decide),?_⟩
 have S4:Same H (upd H3 p3 (.lst ([.str "NoText",.str "NoBook",.str "Tangled",.str "TooGreat",.str "NoPlace",.str "NoFit",.str "NoTree",.str "TooMany",.str "NoSpot",.str "NoGiven",.str "Ring",.str "NoChange",.str "NoPlain",.str "NoBuild",.str "NoWorth",.str "NoPrice",.str "NoRow"]++[.str "NoName"]))):=fun b o e=>by rw [ah (ai e hp30)];exact S3 _ _ e
 have g4:(upd H3 p3 (.lst ([.str "NoText",.str "NoBook",.str "Tangled",.str "TooGreat",.str "NoPlace",.str "NoFit",.str "NoTree",.str "TooMany",.str "NoSpot",.str "NoGiven",.str "Ring",.str "NoChange",.str "NoPlain",.str "NoBuild",.str "NoWorth",.str "NoPrice",.str "NoRow"]++[.str "NoName"]))) p3=some (.lst (nmL.map V.str)):=ac
 generalize upd H3 p3 (.lst ([.str "NoText",.str "NoBook",.str "Tangled",.str "TooGreat",.str "NoPlace",.str "NoFit",.str "NoTree",.str "TooMany",.str "NoSpot",.str "NoGiven",.str "Ring",.str "NoChange",.str "NoPlain",.str "NoBuild",.str "NoWorth",.str "NoPrice",.str "NoRow"]++[.str "NoName"]))=H4 at S4 g4 ⊢
 have gx4:=S4 _ _ gx
 refine ⟨_,rfl,x,C,.ref D0,.ref D0,false,rfl,gx4,h.exc,fun u z=>z,h.k0,_,rfl,x,C,.ref D1,.ref D1,false,rfl,gx4,h.exc,fun u z=>z,h.k1,_,rfl,x,C,.ref D2,.ref D2,false,rfl,gx4,h.exc,fun u z=>z,h.k2,(by show 3<=sizeLine;decide),fun q0 hq0=>?_⟩
 have t0:=af hq0 (.lst [.bl false,.bl false,.bl false])
 have y0:(upd H4 q0 (.lst [.bl false,.bl false,.bl false])) q0=some (.lst [.bl false,.bl false,.bl false]):=ac
 generalize upd H4 q0 (.lst [.bl false,.bl false,.bl false])=N0 at t0 y0 ⊢
 have T0:=t0
 have X0:=t0 _ _ gx4
 refine ⟨_,rfl,_,rfl,x,C,.ref D3,.ref D3,false,rfl,X0,h.exc,fun u z=>z,h.k3,_,rfl,x,C,.ref D4,.ref D4,false,rfl,X0,h.exc,fun u z=>z,h.k4,_,rfl,x,C,.ref D5,.ref D5,false,rfl,X0,h.exc,fun u z=>z,h.k5,(by show 3<=sizeLine;decide),fun r0 hr0=>?_⟩
 have u0:=af hr0 (.lst [.bl false,.bl false,.bl false])
 have z0:(upd N0 r0 (.lst [.bl false,.bl false,.bl false])) r0=some (.lst [.bl false,.bl false,.bl false]):=ac
 generalize upd N0 r0 (.lst [.bl false,.bl false,.bl false])=M0 at u0 z0 ⊢
 refine ⟨q0,r0,_,_,rfl,rfl,u0 _ _ y0,z0,(by show 3+3<=sizeLine;decide),fun q1 hq1=>?_⟩
 have t1:=af hq1 (.lst ([.bl false,.bl false,.bl false]++[.bl false,.bl false,.bl false]))
 have y1:(upd M0 q1 (.lst ([.bl false,.bl false,.bl false]++[.bl false,.bl false,.bl false]))) q1=some (.lst [.bl false,.bl false,.bl false,.bl false,.bl false,.bl false]):=ac
 generalize upd M0 q1 (.lst ([.bl false,.bl false,.bl false]++[.bl false,.bl false,.bl false]))=N1 at t1 y1 ⊢
 have T1:=T0.trans (u0.trans t1)
 have X1:=(u0.trans t1) _ _ X0
 refine ⟨_,rfl,_,rfl,x,C,.ref D6,.ref D6,false,rfl,X1,h.exc,fun u z=>z,h.k6,_,rfl,x,C,.ref D7,.ref D7,false,rfl,X1,h.exc,fun u z=>z,h.k7,_,rfl,x,C,.ref C,.ref C,true,rfl,X1,h.exc,fun u z=>z,h.k8,(by show 3<=sizeLine;decide),fun r1 hr1=>?_⟩
 have u1:=af hr1 (.lst [.bl false,.bl false,.bl true])
 have z1:(upd N1 r1 (.lst [.bl false,.bl false,.bl true])) r1=some (.lst [.bl false,.bl false,.bl true]):=ac
 generalize upd N1 r1 (.lst [.bl false,.bl false,.bl true])=M1 at u1 z1 ⊢
 refine ⟨q1,r1,_,_,rfl,rfl,u1 _ _ y1,z1,(by show 6+3<=sizeLine;decide),fun q2 hq2=>?_⟩
 have t2:=af hq2 (.lst ([.bl false,.bl false,.bl false,.bl false,.bl false,.bl false]++[.bl false,.bl false,.bl true]))
 have y2:(upd M1 q2 (.lst ([.bl false,.bl false,.bl false,.bl false,.bl false,.bl false]++[.bl false,.bl false,.bl true]))) q2=some (.lst [.bl false,.bl false,.bl false,.bl false,.bl false,.bl false,.bl false,.bl false,.bl true]):=ac
 generalize upd M1 q2 (.lst ([.bl false,.bl false,.bl false,.bl false,.bl false,.bl false]++[.bl false,.bl false,.bl true]))=N2 at t2 y2 ⊢
 have T2:=T1.trans (u1.trans t2)
 have X2:=(u1.trans t2) _ _ X1
 refine ⟨_,rfl,_,rfl,x,C,.ref D9,.ref D9,false,rfl,X2,h.exc,fun u z=>z,h.k9,_,rfl,x,C,.ref D10,.ref D10,false,rfl,X2,h.exc,fun u z=>z,h.k10,_,rfl,x,C,.ref D11,.ref D11,false,rfl,X2,h.exc,fun u z=>z,h.k11,(by show 3<=sizeLine;decide),fun r2 hr2=>?_⟩
 have u2:=af hr2 (.lst [.bl false,.bl false,.bl false])
 have z2:(upd N2 r2 (.lst [.bl false,.bl false,.bl false])) r2=some (.lst [.bl false,.bl false,.bl false]):=ac
 generalize upd N2 r2 (.lst [.bl false,.bl false,.bl false])=M2 at u2 z2 ⊢
 refine ⟨q2,r2,_,_,rfl,rfl,u2 _ _ y2,z2,(by show 9+3<=sizeLine;decide),fun q3 hq3=>?_⟩
 have t3:=af hq3 (.lst ([.bl false,.bl false,.bl false,.bl false,.bl false,.bl false,.bl false,.bl false,.bl true]++[.bl false,.bl false,.bl false]))
 have y3:(upd M2 q3 (.lst ([.bl false,.bl false,.bl false,.bl false,.bl false,.bl false,.bl false,.bl false,.bl true]++[.bl false,.bl false,.bl false]))) q3=some (.lst [.bl false,.bl false,.bl false,.bl false,.bl false,.bl false,.bl false,.bl false,.bl true,.bl false,.bl false,.bl false]):=ac
 generalize upd M2 q3 (.lst ([.bl false,.bl false,.bl false,.bl false,.bl false,.bl false,.bl false,.bl false,.bl true]++[.bl false,.bl false,.bl false]))=N3 at t3 y3 ⊢
 have T3:=T2.trans (u2.trans t3)
 have X3:=(u2.trans t3) _ _ X2
 refine ⟨_,rfl,_,rfl,x,C,.ref D12,.ref D12,false,rfl,X3,h.exc,fun u z=>z,h.k12,_,rfl,x,C,.ref D13,.ref D13,false,rfl,X3,h.exc,fun u z=>z,h.k13,_,rfl,x,C,.ref D14,.ref D14,false,rfl,X3,h.exc,fun u z=>z,h.k14,(by show 3<=sizeLine;decide),fun r3 hr3=>?_⟩
 have u3:=af hr3 (.lst [.bl false,.bl false,.bl false])
 have z3:(upd N3 r3 (.lst [.bl false,.bl false,.bl false])) r3=some (.lst [.bl false,.bl false,.bl false]):=ac
 generalize upd N3 r3 (.lst [.bl false,.bl false,.bl false])=M3 at u3 z3 ⊢
 refine ⟨q3,r3,_,_,rfl,rfl,u3 _ _ y3,z3,(by show 12+3<=sizeLine;decide),fun q4 hq4=>?_⟩
 have t4:=af hq4 (.lst ([.bl false,.bl false,.bl false,.bl false,.bl false,.bl false,.bl false,.bl false,.bl true,.bl false,.bl false,.bl false]++[.bl false,.bl false,.bl false]))
 have y4:(upd M3 q4 (.lst ([.bl false,.bl false,.bl false,.bl false,.bl false,.bl false,.bl false,.bl false,.bl true,.bl false,.bl false,.bl false]++[.bl false,.bl false,.bl false]))) q4=some (.lst [.bl false,.bl false,.bl false,.bl false,.bl false,.bl false,.bl false,.bl false,.bl true,.bl false,.bl false,.bl false,.bl false,.bl false,.bl false]):=ac
 generalize upd M3 q4 (.lst ([.bl false,.bl false,.bl false,.bl false,.bl false,.bl false,.bl false,.bl false,.bl true,.bl false,.bl false,.bl false]++[.bl false,.bl false,.bl false]))=N4 at t4 y4 ⊢
 have T4:=T3.trans (u3.trans t4)
 have X4:=(u3.trans t4) _ _ X3
 refine ⟨_,rfl,_,rfl,x,C,.ref D15,.ref D15,false,rfl,X4,h.exc,fun u z=>z,h.k15,_,rfl,x,C,.ref D16,.ref D16,false,rfl,X4,h.exc,fun u z=>z,h.k16,_,rfl,x,C,.ref D17,.ref D17,false,rfl,X4,h.exc,fun u z=>z,h.k17,(by show 3<=sizeLine;decide),fun r4 hr4=>?_⟩
 have u4:=af hr4 (.lst [.bl false,.bl false,.bl false])
 have z4:(upd N4 r4 (.lst [.bl false,.bl false,.bl false])) r4=some (.lst [.bl false,.bl false,.bl false]):=ac
 generalize upd N4 r4 (.lst [.bl false,.bl false,.bl false])=M4 at u4 z4 ⊢
 refine ⟨q4,r4,_,_,rfl,rfl,u4 _ _ y4,z4,(by show 15+3<=sizeLine;decide),fun q5 hq5=>?_⟩
 have t5:=af hq5 (.lst ([.bl false,.bl false,.bl false,.bl false,.bl false,.bl false,.bl false,.bl false,.bl true,.bl false,.bl false,.bl false,.bl false,.bl false,.bl false]++[.bl false,.bl false,.bl false]))
 have y5:(upd M4 q5 (.lst ([.bl false,.bl false,.bl false,.bl false,.bl false,.bl false,.bl false,.bl false,.bl true,.bl false,.bl false,.bl false,.bl false,.bl false,.bl false]++[.bl false,.bl false,.bl false]))) q5=some (.lst [.bl false,.bl false,.bl false,.bl false,.bl false,.bl false,.bl false,.bl false,.bl true,.bl false,.bl false,.bl false,.bl false,.bl false,.bl false,.bl false,.bl false,.bl false]):=ac
 generalize upd M4 q5 (.lst ([.bl false,.bl false,.bl false,.bl false,.bl false,.bl false,.bl false,.bl false,.bl true,.bl false,.bl false,.bl false,.bl false,.bl false,.bl false]++[.bl false,.bl false,.bl false]))=N5 at t5 y5 ⊢
 have T5:=T4.trans (u4.trans t5)
 have X5:=(u4.trans t5) _ _ X4
 have y5:N5 q5=some (.lst (flL.map V.bl)):=y5
 have g5:=T5 _ _ g4
 refine ⟨18,rfl,by decide,by decide,?_⟩
 have e18:((List.range' 0 18).map fun i=>V.int ((i:Nat):Int)).length=18:=rfl
 refine oI (xs:=(List.range' 0 18).map fun i=>V.int ((i:Nat):Int)) (by rw [e18];decide) (nQ 18 0) (fun i H _ hi=>iW i H hi) (fun H _=>eY H) (fun i H v H' hi _ hv=>?_) (fun i=>flL.getD i false) (fun _ i v=>v=.str (nmL.getD i "")) (fun _ h=>h) ?_ ?_ ?_
 ·obtain ⟨e1,e2⟩:=iq i H v H' hv
  rw [e18]at hi
  refine ⟨e1,?_⟩
  rw [List.getElem?_map,List.getElem?_range' hi,e2]
  show some (V.int ((0+1*i:Nat):Int))=some (V.int (0+ (i:Int)))
  congr 2
  lia
 ·rintro i v H1 k hm rfl s1 hk
  have hi:i<18:=by have:=List.mem_range'.mp hm;obtain ⟨j,h1,h2⟩:=this;lia
  refine ⟨_,rfl,_,rfl,q5,_,_,.bl (flL.getD i false),rfl,rfl,SqL.of (s1 _ _ y5),?_,flL.getD i false,rfl,hk⟩
  refine aF ?_
  rw [List.getElem?_map]
  have:flL[i]? =some (flL.getD i false):=by rw [List.getD_eq_getElem?_getD,List.getElem?_eq_getElem (by exact hi)];rfl
  rw [this];rfl
 ·rintro i v H1 k hm rfl _ s1 hk
  have hi:i<18:=by have:=List.mem_range'.mp hm;obtain ⟨j,h1,h2⟩:=this;lia
  refine ⟨_,rfl,_,rfl,p3,_,_,.str (nmL.getD i ""),rfl,rfl,SqL.of (s1 _ _ g5),?_,hk _ _ (fun _ _ h=>h) rfl⟩
  refine aF ?_
  rw [List.getElem?_map]
  have:nmL[i]? =some (nmL.getD i ""):=by rw [List.getD_eq_getElem?_getD,List.getElem?_eq_getElem (by exact hi)];rfl
  rw [this];rfl
 ·intro tl zs H6 htl s6 gtl hz
  have ez:zs=[.str "NoSpot"]:=by
   have ef:(List.range' 0 18).filter (fun i=>flL.getD i false)=[8]:=by decide
   rw [ef]at hz
   cases hz with
   | cons a b=>cases b;rw [a];rfl
  subst ez
  refine ⟨_,rfl,x,C,.ty "ValueError",.type "ValueError",true,rfl,s6 _ _ X5,h.exc,fun u z=>z,h.val,_,rfl,?_⟩
  refine kn ?_
  refine ⟨_,rfl,_,rfl,(by show 1<=sizeLine;decide),fun kl hkl=>?_⟩
  have s7:=af hkl (.lst [.str "NoSpot"])
  refine ⟨tl,kl,_,_,rfl,rfl,s7 _ _ gtl,ac,.cons (.inl ⟨_,rfl,rfl⟩) .nil,?_⟩
  exact q _ (S4.trans (T5.trans (s6.trans s7)))
inductive iI  (vs:List V) (H:Hp) (Q:VK) (E_:XK):Prop
 | mk: ∀ bv tv sv bk n t m s ks w,(vs=[bv,tv,sv])->(RepB H bk bv)->(BkS bk)->(RepT H n t tv)->(TrS bk m t s)->(t.sz<=100)->(xU H ks w sv)->((ks,Sum.inr w)∉(be bk t).map spk)->(∀ H',Same H H'->Q (.bl true) H')->iI vs H Q E_
noncomputable abbrev vi:List Str:=["book","tree","spot","caught","e"]
theorem scRefused:aG vi ["book","tree","spot"] (ak jC):=fsc
theorem pL (F:Fun K "_law_refused" "_law_refused" jC f fd) (h:x0 K mg C CB D0 D1 D2 D3 D4 D5 D6 D7 D9 D10 D11 D12 D13 D14 D15 D16 D17)
  (GA:aE P w K mg base (CX1 P w C) 7 f2 fd2 ["book","tree","spot"] (gi C)) (bA:Binds K fd2 ["book","tree","spot"] []) (kA:PySem.W.keepIn K (.ref f2)=true) (mA:mg "reads_at"=some (.ref f2))
  (GL:aE P w K mg base CX0 1 f3 fd3 ["e","kind"] (lX C)) (bL:Binds K fd3 ["e","kind"] []) (kL:PySem.W.keepIn K (.ref f3)=true) (mL:mg "_law_alone"=some (.ref f3)):
  aE P w K mg base CX0 8 f fd ["book","tree","spot"] iI:=by
 refine F.ok scRefused (fun vs H Q E h=>?_) (fun cdv A outer s H vs Q E hr hq=>?_)
 ·obtain ⟨bv,tv,sv,bk,n,t,m,s,ks,w,rfl,_⟩:=h
  rfl
 obtain ⟨bv,tv,sv,bk,n,t,m,sr,ks,w',rfl,hB,hok,hT,hTr,hsz,hK,hno,q⟩:=hq
 have hr1:=hr.mono (show 1<=7 by decide)
 refine ⟨_,ae (am (i:=3) scRefused.nd rfl (Or.inl rfl) mM)
  (ae (vB (i:=4) (fun _ _ z=>z) rfl rfl scRefused.nd GA hr rfl mA kA bA (aa (pv 0) (aa (pv 1) (aa (pv 2) ad))) rfl rfl rfl h.cb h.cac (fun x=>aj (am (i:=3) scRefused.nd rfl (Or.inl rfl) (pv 4))))
  (aj (aL (al GL hr1 rfl mL kL bL .nil aA (aa (pv 3) (aa aT ad)))))),?_⟩
 refine ⟨_,rfl,_,rfl,_,rfl,bv,tv,sv,bk,n,t,m,sr,ks,w',rfl,hB,hok,hT,hTr,hsz,hK,fun q' hq' e=>absurd (List.mem_map.mpr ⟨q',hq',e⟩) hno,fun _ H1 s1 x hx=>?_⟩
 have s2:=af hx (ExO x C)
 refine ⟨_,rfl,_,rfl,x,rfl,ac,fun H2 s3=>q H2 (s1.trans (s2.trans s3))⟩
theorem lL {bk:Bk} {t:Bt} {q:List Nat×Str} (h:q∈be bk t): ∃ u,t.at? q.1=some u/\q.2∈dD (cI bk u):=by
 obtain ⟨p,hp,hq⟩:=List.mem_flatMap.mp h
 obtain ⟨w,hw,rfl⟩:=List.mem_map.mp hq
 obtain ⟨i,hi⟩:=List.getElem?_of_mem hp
 exact ⟨p.2,dG (i:=i) hi,hw⟩
theorem qK {bk:Bk} (hok:BkS bk) {n:Nat} {t:Bt} {s:Srt} (hTr:TrS bk n t s) {pl:List Nat} {u:Bt} (h:t.at? pl=some u):cI bk u∈bk.sorts/\u.ps.length<=3:=by
 obtain ⟨m,s',h1⟩:=hTr.at h
 cases m with
 | zero=>exact h1.elim
 | succ m=>
  obtain ⟨fr,f1,f2,f3,hp⟩:=h1
  rw [cG hok.nd f1 f2]
  have:=Paired.length hp
  have h3:=(hok.fo fr f1).2.2.1
  exact ⟨(hok.fo fr f1).1,by lia⟩
theorem iE {bk:Bk} (hok:BkS bk) {n:Nat} {t:Bt} {s:Srt} (hTr:TrS bk n t s) {q:List Nat×Str} (h:q∈be bk t):cj q.2=true/\q.2≠"zzz":=by
 obtain ⟨u,h1,h2⟩:=lL h
 exact (hok.wz _ (qK hok hTr h1).1).2 _ h2
theorem uz {bk:Bk} {t:Bt} {pl:List Nat} {u:Bt} (hu:t.at? pl=some u) {k:Int} (hk: ∀ n:Nat,k=(n:Int)->u.ps.length<=n) {w:Str}:(av pl++[Sum.inl k],Sum.inr w)∉(be bk t).map spk:=fun h=>by
 obtain ⟨q,hq,e⟩:=List.mem_map.mp h
 have e:av q.1=av pl++[Sum.inl k]:=(Prod.mk.inj e).1
 obtain ⟨u',h1,_⟩:=lL hq
 rcases List.eq_nil_or_concat q.1 with e0 | ⟨p0,n,e0⟩
 ·rw [e0]at e
  have:=congrArg List.length e
  rw [List.length_append]at this
  exact absurd this (by show ¬ 0=_+1;lia)
 ·rw [List.concat_eq_append]at e0
  rw [e0]at e h1
  have e':av (p0++[n])=av p0++[Sum.inl (n:Int)]:=by unfold av;rw [List.map_append];rfl
  rw [e']at e
  obtain ⟨x1,x2⟩:=List.append_inj' e rfl
  have hn:k=(n:Int):=(Sum.inl.inj (List.cons.inj x2).1).symm
  rw [eX x1,Bt.at?_snoc,hu]at h1
  have h1:u.ps[n]? =some u':=h1
  have:=(List.getElem?_eq_some_iff.mp h1).1
  have:=hk n hn
  lia
theorem ot {bk:Bk} (hok:BkS bk) {n:Nat} {t:Bt} {s:Srt} (hTr:TrS bk n t s) {ks:List Key} {w:Str} (h:cj w=false):(ks,Sum.inr w)∉(be bk t).map spk:=fun hm=>by
 obtain ⟨q,hq,e⟩:=List.mem_map.mp hm
 have e:q.2=w:=Sum.inr.inj (Prod.mk.inj e).2
 have:=(iE hok hTr hq).1
 rw [e,h]at this
 cases this
theorem wO:(List.range 26).all (fun i=>Unicode.upperOf (97+i)==[65+i])=true:=by decide +kernel
theorem oP {w:Str} (h:cj w=true):cj (Txt.upper w)=false:=by
 unfold cj at h
 rw [Bool.and_eq_true,Bool.and_eq_true]at h
 obtain ⟨⟨h1,_⟩,h3⟩:=h
 have h1:1<=w.cps.toList.length:=by have:=of_decide_eq_true h1;rw [Array.length_toList];exact this
 cases e:w.cps.toList with
 | nil=>rw [e]at h1;exact absurd h1 (by decide)
 | cons c r=>
  rw [e,List.all_cons,Bool.and_eq_true]at h3
  have hc:97<=c/\c<=122:=of_decide_eq_true h3.1
  have hup:Unicode.upperOf c=[c-32]:=by
   have:=List.all_eq_true.mp wO (c-97) (List.mem_range.mpr (by lia))
   have:=eq_of_beq this
   rw [show 97+ (c-97)=c by lia]at this
   rw [this]
   congr 1
   lia
  have ef:(Txt.upper w).cps.toList=(c-32)::((r.mapIdx fun i c=>(Unicode.upperOf c).toArray).map Array.toList).flatten:=by
   show ((w.cps.mapIdx fun i c=>(Unicode.upperOf c).toArray).flatten).toList=_
   rw [Array.toList_flatten,Array.toList_mapIdx,e,List.mapIdx_cons,List.map_cons,List.flatten_cons,hup]
   rfl
  unfold cj
  rw [ef,List.all_cons,show uI (c-32)=false from decide_eq_false (by lia)]
  simp
theorem Kp.tkT {tp:Addr} {H H':Hp} (k:Kp tp H H') (h:Tp H tp):TK H H':=k.tk h
theorem sU {H:Hp}: ∀ {l:List (List Nat×Str)} {ys:List V},Paired (RepSp H) l ys->xV H ys (l.map spk)
 | _,_,.nil=>.nil
 | _,_,.cons ⟨b,c,e,h1,h2⟩ t=>.cons ⟨b,c,e,h1,h2⟩ (sU t)
theorem vV (pl:List Nat):(av pl).map kV=(pl.map fun (k:Nat)=>(k:Int)).map V.int:=by
 unfold av
 rw [List.map_map,List.map_map]
 rfl
theorem uS {a b:List Nat} (h:(a.map fun (k:Nat)=>(k:Int))=b.map fun (k:Nat)=>(k:Int)):a=b:=List.map_inj_right (fun x y e=>by lia) |>.mp h
noncomputable def NoSp (H:Hp) (bk:Bk) (t:Bt) (v:V):Prop:= ∃ ks w,xU H ks w v/\(ks,Sum.inr w)∉(be bk t).map spk
theorem NoSp.mono {H H':Hp} {bk:Bk} {t:Bt} {v:V} (k:TK H H'):NoSp H bk t v->NoSp H' bk t v:=fun ⟨ks,w,⟨b,c,e,h1,h2⟩,h3⟩=>⟨ks,w,⟨b,c,e,k _ _ h1,k _ _ h2⟩,h3⟩
inductive ju  (vs:List V) (H:Hp) (Q:VK) (E_:XK):Prop
 | mk: ∀ tp bv tv sl zs bk n t m s,(vs=[.ref tp,bv,tv,.ref sl])->(Tp H tp)->(RepB H bk bv)->(BkS bk)->(RepT H n t tv)->(TrS bk m t s)->(t.sz<=100)->(H sl=some (.lst zs))->(sl≠tp)->(Paired (RepSp H) (be bk t) zs)->(∀ v H',Kp tp H H'->NoSp H' bk t v->Q v H')->ju vs H Q E_
theorem wH {bk:Bk} {n:Nat} {t:Bt} {s:Srt} (hTr:TrS bk n t s) (hok:BkS bk):1<=(be bk t).length:=by
 obtain ⟨fr,f1,f2,_⟩:=hTr.frm
 have h1:=eI (t:=t) (pl:=[]) (u:=t) rfl
 have hs:=cG hok.nd f1 f2
 have hw:=(hok.wz _ (hok.fo fr f1).1).1
 have: ∃ w,w∈dD (cI bk t):=by
  cases e:dD (cI bk t)with
  | nil=>
   have e':=congrArg List.length e
   unfold dD at e'
   rw [hs,List.length_append]at e'
   exact absurd e' (by show ¬ _=0;lia)
  | cons x r=>exact ⟨x,List.mem_cons_self⟩
 obtain ⟨w,hw'⟩:=this
 exact List.length_pos_of_mem (List.mem_flatMap.mpr ⟨([],t),h1,List.mem_map.mpr ⟨w,hw',rfl⟩⟩)
noncomputable abbrev wv:List Str:=["tape","book","tree","spots","place","word","many","here","bough","words","sort","one","other","ways"]
theorem scNoSpot:aG wv ["tape","book","tree","spots"] (ak mj):=fsc
theorem rK (F:Fun K "_law_no_spot" "_law_no_spot" mj f fd) (G:Gb mg)
  (GD:aE P w K mg base CX0 1 f2 fd2 ["tape","many"] cf) (bD:Binds K fd2 ["tape","many"] []) (kD:PySem.W.keepIn K (.ref f2)=true) (mD:mg "_law_digit"=some (.ref f2))
  (GB:aE P w K mg base CX0 1 f3 fd3 ["tree"] eQ) (bB:Binds K fd3 ["tree"] []) (kB:PySem.W.keepIn K (.ref f3)=true) (mB:mg "_law_boughs"=some (.ref f3)):
  aE P w K mg base CX0 2 f fd ["tape","book","tree","spots"] ju:=by
 refine F.ok scNoSpot (fun vs H Q E h=>?_) (fun cdv A outer s H vs Q E hr h=>?_)
 ·obtain ⟨tp,bv,tv,sl,zs,bk,n,t,m,s,rfl,_⟩:=h
  rfl
 obtain ⟨tp,bv,tv,sl,zs,bk,n,t,m,sr,rfl,tt,hB,hok,hT,hTr,hsz,gsl,nst,hZ,q⟩:=h
 have hu:=cZ hr
 refine ⟨_,ae (iQ (ar (r:=cB K) aS (pv 3) (al GD hr rfl mD kD bD .nil aA (aa (pv 0) (aa (aq (r:=dl K) aH rfl G.len PySem.boot_len (aa (pv 3) ad)) ad))) (fun _ _=>rfl)) (cC rfl (aJ (au (i:=4) scNoSpot.nd rfl (Or.inl rfl)) (aJ (au (i:=5) scNoSpot.nd rfl (Or.inl rfl)) bV))))
  (ae (am (i:=6) scNoSpot.nd rfl (Or.inl rfl) ag)
  (ae (a6 PassesOwn.never rfl (cL (al GB hr rfl mB kB bB .nil aA (aa (pv 2) ad))) (cC rfl (aJ (au (i:=7) scNoSpot.nd rfl (Or.inl rfl)) (aJ (au (i:=8) scNoSpot.nd rfl (Or.inl rfl)) bV)))
   (aj (bi (aM (xp (Nat.lt_of_le_of_lt (Nat.le_add_right _ 16) hu)) (pv 7) (pv 4) (aV _)) (aj (am (i:=6) scNoSpot.nd rfl (Or.inl rfl) (aq (r:=dl K) aH rfl G.len PySem.boot_len (aa (ar (r:=aW K) ax (pv 8) ag (fun _ _=>rfl)) ad)))) aP)))
  (ae (am (i:=9) scNoSpot.nd rfl (Or.inl rfl) (aN (aa aT ad)))
  (ae (a6 PassesOwn.never rfl (bf (ar (r:=aW K) ax (pv 1) ag (fun _ _=>rfl))) (au (i:=10) scNoSpot.nd rfl (Or.inl rfl))
   (aj (a6 PassesOwn.never rfl (bf (aw cv (ar (r:=aW K) ax (pv 10) ag (fun _ _=>rfl)) (ar (r:=aW K) ax (pv 10) ag (fun _ _=>rfl)))) (au (i:=11) scNoSpot.nd rfl (Or.inl rfl))
    (aj (bi (aM (oh hu) (aK (aa (pv 4) (aa (pv 11) ad))) (pv 3) (by with_unfolding_all rfl))
     (aj (bx (dg PySem.F.plainAttrs_list PySem.F.slot_list_append PySem.F.type_list_append bn (pv 9) (aa (pv 11) ad)))) aP)))))
  (ae (am (i:=12) scNoSpot.nd rfl (Or.inl rfl) (ar (r:=cB K) aS (pv 9) (al GD hr rfl mD kD bD .nil aA (aa (pv 0) (aa (aq (r:=dl K) aH rfl G.len PySem.boot_len (aa (pv 9) ad)) ad))) (fun _ _=>rfl)))
  (ae (am (i:=13) scNoSpot.nd rfl (Or.inl rfl) (aN (pac (aK (pac (aw cv (pv 4) (aK (aa (pv 6) ad))) (pac (pv 5) ad))) (pac (aK (pac (aw cv (pv 4) (aK (aa (gH eK ag) ad))) (pac (pv 5) ad))) ad))))
  (ae (am (i:=13) scNoSpot.nd rfl (Or.inl rfl) (aw cY (pv 13) (aN (pac (aK (pac (aw cv (pv 4) (aK (aa ag ad))) (pac (pv 5) ad))) (pac (aK (pac (pv 4) (pac (pv 12) ad))) (pac (aK (pac (pv 4) (pac aT ad))) ad))))))
  (aj (aL (ar (r:=cB K) aS (aw cY (pv 13) (aN (pac (aK (pac (pv 4) (pac (mO PySem.F.plainAttrs_str PySem.F.slot_str_upper PySem.F.type_str_upper uC (pv 5)) ad))) ad))) (al GD hr rfl mD kD bD .nil aA (aa (pv 0) (aa ag ad))) (fun _ _=>rfl))))))))))),?_⟩
 have lZ:(be bk t).length=zs.length:=Paired.length hZ
 have hpos:=wH hTr hok
 have h600:=iC hok hTr hsz
 refine ⟨_,rfl,_,rfl,_,rfl,sl,_,rfl,.inl (SqL.of gsl),tp,_,rfl,tt,by lia,by lia,fun d0 t0 hd0 hd1=>?_⟩
 obtain ⟨x,ex,ex2⟩:=fF hd0 hd1
 have k1:Kp tp H (upd H tp (.lst [.int t0])):=Kp.tape
 have tt1:Tp (upd H tp (.lst [.int t0])) tp:=⟨t0,ac⟩
 generalize upd H tp (.lst [.int t0])=H1 at k1 tt1 ⊢
 have tk1:=k1.tkT tt
 have gsl1:=k1 _ _ gsl nst
 obtain ⟨qq,hqq,b,c,rfl,hb,hc⟩:=aC hZ ex2
 have hqm:=List.mem_of_getElem? hqq
 obtain ⟨hwd,_⟩:=iE hok hTr hqm
 obtain ⟨u0,hat0,hin0⟩:=lL hqm
 obtain ⟨_,hps3⟩:=qK hok hTr hat0
 obtain ⟨pl,wd⟩:=qq
 have lpl:pl.length<=t.sz:=ed hat0
 have hc1:=tk1 _ _ hc
 refine ⟨sl,_,d0,.ref b,rfl,rfl,SqL.of gsl1,ex,b,_,rfl,SqT.of (tk1 _ _ hb),rfl,_,_,rfl,_,_,rfl,rfl,?_⟩
 refine ⟨_,rfl,n,t,tv,rfl,hT.mono tk1,hsz,fun bl bz H2 hbl s2 gbl hBZ=>?_⟩
 refine ⟨bl,rfl,⟨bz,SqL.of gbl⟩,?_⟩
 have tt2:=tt1.same s2
 have hc2:=s2 _ _ hc1
 have lB:(aY t).length=bz.length:=Paired.length hBZ
 refine cD (xs:=bz) (fun i σ H'=>i<=bz.length/\H'=H2/\ ∃ (mv:Nat) (o7 o8:Option V),σ=[some (.ref tp),some bv,some tv,some (.ref sl),some (.ref c),some (.str wd),some (.int (mv:Int)),o7,o8,none,none,none,none,none]/\ ∀ u,(pl,u)∈(aY t).take i->mv=u.ps.length)
  ⟨Nat.zero_le _,rfl,0,none,none,rfl,fun u h=>(by cases h)⟩ (fun i σ H' _ h=>by obtain ⟨_,e,_⟩:=h;rw [e];exact SqL.of gbl) ?_ ?_
 ·rintro i y σ H' hy ⟨_,rfl,mv,o7,o8,rfl,hmv⟩
  have hil:i<bz.length:=(List.getElem?_eq_some_iff.mp hy).1
  obtain ⟨qu,hitem,hRP⟩:=aC hBZ hy
  obtain ⟨p',u'⟩:=qu
  obtain ⟨c',a',uv,rfl,hc',ha',hu'⟩:=hRP
  have ha':H' a'=some (.tup (List.map V.int (p'.map fun (k:Nat)=>(k:Int)))):=by rw [List.map_map];exact ha'
  have hstep: ∀ u,(pl,u)∈(aY t).take (i+1)->(pl,u)∈(aY t).take i\/(pl=p'/\u=u'):=fun u hm=>by
   rw [List.take_add_one,hitem]at hm
   rcases List.mem_append.mp hm with z | z
   ·exact .inl z
   ·have:(pl,u)=(p',u'):=by simpa using z
    exact .inr ⟨(Prod.mk.inj this).1,(Prod.mk.inj this).2⟩
  refine ⟨c',_,rfl,SqT.of hc',rfl,_,_,rfl,_,_,rfl,rfl,?_⟩
  refine ⟨_,rfl,_,rfl,a',c,_,_,rfl,rfl,ha',(by rw [<- vV];exact hc2),_,rfl,?_⟩
  by_cases e:p'=pl
  ·rw [decide_eq_true (by rw [e])]
   obtain ⟨ua,ub,rfl,h1,h2,h3⟩:=hu'.prt
   refine kn ⟨_,rfl,ua,_,1,.ref ub,rfl,rfl,SqT.of h1,aF (j:=1) rfl,ub,_,rfl,.inr (SqT.of h2),hil,rfl,_,_,_,rfl,fun u hm=>?_⟩
   have l3:=Paired.length h3
   rcases hstep u hm with z | ⟨_,z⟩
   ·obtain ⟨j,hj⟩:=List.getElem?_of_mem (List.mem_of_mem_take z)
    have w1:=dG hj
    have w2:=dG hitem
    rw [e,w1]at w2
    rw [Option.some.inj w2];exact l3.symm
   ·rw [z];exact l3.symm
  ·rw [decide_eq_false (fun z=>e (uS z))]
   refine dI ⟨hil,rfl,mv,_,_,rfl,fun u hm=>?_⟩
   rcases hstep u hm with z | ⟨z,_⟩
   ·exact hmv u z
   ·exact absurd z.symm e
 rintro σ H' ⟨_,rfl,mv,o7,o8,rfl,hmv⟩
 rw [<- lB,List.take_length]at hmv
 have hmv:=hmv u0 (eI hat0)
 refine ⟨(by show 1<=sizeLine;decide),fun wl hwl=>?_⟩
 have s3:=af hwl (.lst [.str "zzz"])
 have g3:(upd H' wl (.lst [.str "zzz"])) wl=some (.lst (List.map V.str [("zzz":Str)])):=ac
 generalize upd H' wl (.lst [.str "zzz"])=H3 at s3 g3 ⊢
 have S13:Same H1 H3:=s2.trans s3
 have tk3:TK H H3:=TK.trans tk1 (ay S13)
 have tt3:=tt1.same S13
 have k3:Kp tp H H3:=fun b o e n'=>S13 _ _ (k1 _ _ e n')
 have nwt:wl≠tp:=dC tt2 hwl
 have hB3:=hB.mono tk3
 obtain ⟨ba,sa,fa,fv,rfl,hba,⟨sx,hsa,hSx⟩,hfa,hF⟩:=hB3
 have lS:=hSx.len
 have h4:=hok.s4
 have gsl3:=S13 _ _ gsl1
 have hc3:=S13 _ _ hc1
 have hZ3:Paired (RepSp H3) (be bk t) zs:=Paired.mapP hZ fun _ _ r=>r.mono tk3
 have nws:sl≠wl:=fun z=>by have:=s2 _ _ gsl1;rw [z,hwl]at this;cases this
 have hz0:(av pl,Sum.inr ("zzz":Str))∉(be bk t).map spk:=fun hm=>by
  obtain ⟨q',hq',e⟩:=List.mem_map.mp hm
  exact (iE hok hTr hq').2 (Sum.inr.inj (Prod.mk.inj e).2)
 refine ⟨_,rfl,ba,_,1,.ref sa,rfl,rfl,SqT.of hba,aF (j:=1) rfl,sa,rfl,⟨sx,SqT.of hsa⟩,?_⟩
 refine cu (xs:=sx) (fun i σ H'=>i<=sx.length/\ ∃ o10 o11 ws,σ=[some (.ref tp),some (.ref ba),some tv,some (.ref sl),some (.ref c),some (.str wd),some (.int (mv:Int)),o7,o8,some (.ref wl),o10,o11,none,none]/\Kp wl H3 H'/\H' wl=some (.lst (List.map V.str ws))/\1<=ws.length/\ws.length<=1+6*i/\ ∀ x∈ws,(av pl,Sum.inr x)∉(be bk t).map spk)
  ⟨Nat.zero_le _,none,none,[("zzz":Str)],rfl,Kp.refl,g3,by decide,by decide,fun x hx=>(by rw [List.mem_singleton.mp hx];exact hz0)⟩ (fun i σ H' _ h=>by obtain ⟨_,_,_,_,_,kp,_⟩:=h;exact SqT.of (fV kp g3 _ _ hsa)) ?_ ?_
 ·rintro i y σ H4 hy ⟨_,o10,o11,ws,rfl,k4,g4,hw1,hw6,hws⟩
  have hil:i<sx.length:=(List.getElem?_eq_some_iff.mp hy).1
  have tk4:=fV k4 g3
  obtain ⟨srt,hsrt,a1,b1,c1,rfl,e1,e2,e3⟩:=aC (hSx.mono tk4) hy
  have hsm:=List.mem_of_getElem? hsrt
  obtain ⟨w1,w2,_,_⟩:=hok.ws srt hsm
  refine ⟨_,rfl,a1,_,1,.ref b1,rfl,rfl,SqT.of e1,aF (j:=1) rfl,_,rfl,a1,_,2,.ref c1,rfl,rfl,SqT.of e1,aF (j:=2) rfl,?_⟩
  refine gc e2 e3 (by rw [List.length_map,List.length_map];lia) fun cc H5 s5 gcc=>?_
  rw [<- List.map_append]at gcc
  have hwn: ∀ x∈srt.downs++srt.ups,(cj x=true/\x≠"zzz"):=(hok.wz srt hsm).2
  have lw:(srt.downs++srt.ups).length<=6:=by rw [List.length_append];lia
  generalize srt.downs++srt.ups=dw at gcc hwn lw
  refine ⟨cc,rfl,⟨_,SqT.of gcc⟩,?_⟩
  have g5:=s5 _ _ g4
  have lV:(dw.map V.str).length=dw.length:=List.length_map _
  have nlc:cc≠wl:=fun z=>by rw [z,g5]at gcc;cases gcc
  refine cu (xs:=dw.map V.str) (fun j σ H'=>j<=dw.length/\ ∃ o11 ws',σ=[some (.ref tp),some (.ref ba),some tv,some (.ref sl),some (.ref c),some (.str wd),some (.int (mv:Int)),o7,o8,some (.ref wl),some (.ref a1),o11,none,none]/\Kp wl H5 H'/\H' wl=some (.lst (List.map V.str ws'))/\1<=ws'.length/\ws'.length<=ws.length+j/\ ∀ x∈ws',(av pl,Sum.inr x)∉(be bk t).map spk)
   ⟨Nat.zero_le _,o11,ws,rfl,Kp.refl,g5,hw1,Nat.le_refl _,hws⟩ (fun j σ H' _ h=>by obtain ⟨_,_,_,_,kp,_⟩:=h;exact SqT.of (kp _ _ gcc nlc)) ?_ ?_
  ·rintro j z σ H6 hz ⟨_,o11',ws',rfl,k6,g6,hv1,hv2,hv3⟩
   obtain ⟨x,hx,rfl⟩:=lJ hz
   have hjl:j<dw.length:=(List.getElem?_eq_some_iff.mp hx).1
   have K6:Kp wl H3 H6:=fun b o e n'=>k6 _ _ (s5 _ _ (k4 _ _ e n')) n'
   have tk6:=fV K6 g3
   refine ⟨_,rfl,_,rfl,(by show 2<=sizeLine;decide),fun T hT=>?_⟩
   have s7:=af hT (.tup [.ref c,.str x])
   have g7:(upd H6 T (.tup [.ref c,.str x])) T=some (.tup [.ref c,.str x]):=ac
   generalize upd H6 T (.tup [.ref c,.str x])=H7 at s7 g7 ⊢
   have tk7:TK H3 H7:=TK.trans tk6 (ay s7)
   have k7:Kp wl H5 H7:=fun b o e n'=>s7 _ _ (k6 _ _ e n')
   refine ⟨_,rfl,T,sl,(av pl,Sum.inr x),zs,(be bk t).map spk,rfl,rfl,⟨c,g7,tk7 _ _ hc3⟩,SqL.of (s7 _ _ (K6 _ _ gsl3 nws)),sU (Paired.mapP hZ3 fun _ _ r=>r.mono tk7),_,rfl,?_⟩
   have gw7:=s7 _ _ g6
   by_cases hm:(av pl,Sum.inr x)∈(be bk t).map spk
   ·rw [decide_eq_true hm]
    exact dI ⟨hjl,_,ws',rfl,k7,gw7,hv1,by lia,hv3⟩
   ·rw [decide_eq_false hm]
    refine kn ⟨_,rfl,.inl ⟨rfl,_,SqL.of gw7⟩,_,rfl,wl,_,_,rfl,rfl,gw7,ao (by rw [List.length_map];lia),?_⟩
    refine ⟨hjl,_,ws'++[x],rfl,fun b' o' e' n'=>by rw [ah n'];exact k7 _ _ e' n',by rw [List.map_append];exact ac,by rw [List.length_append];lia,by rw [List.length_append];show ws'.length+1<=_;lia,fun x' hx'=>?_⟩
    rcases List.mem_append.mp hx' with h | h
    ·exact hv3 x' h
    ·rw [List.mem_singleton.mp h];exact hm
  ·rintro σ H6 ⟨_,o11',ws',rfl,k6,g6,hv1,hv2,hv3⟩
   rw [lV]at hv2
   exact ⟨hil,_,_,ws',rfl,fun b' o' e' n'=>k6 _ _ (s5 _ _ (k4 _ _ e' n')) n',g6,hv1,by lia,hv3⟩
 rintro σ H4 ⟨_,o10,o11,ws,rfl,k4,g4,hw1,hw6,hws⟩
 have tk4:=fV k4 g3
 have tt4:Tp H4 tp:=let ⟨t',e⟩:=tt3;⟨t',k4 _ _ e (Ne.symm nwt)⟩
 have k04:Kp tp H H4:=fun b o e n'=>k4 _ _ (k3 _ _ e n') (fun z=>by have:=s2 _ _ (k1 _ _ e n');rw [z,hwl]at this;cases this)
 have hc4:=tk4 _ _ hc3
 have lw:(ws.map V.str).length=ws.length:=List.length_map _
 refine ⟨_,rfl,_,rfl,_,rfl,wl,_,rfl,.inl (SqL.of g4),tp,_,rfl,tt4,by lia,by lia,fun d1 t1 hd10 hd11=>?_⟩
 obtain ⟨y,ey,ey2⟩:=fF hd10 hd11
 obtain ⟨oth,hoth,rfl⟩:=lJ ey2
 have hno4:=hws oth (List.mem_of_getElem? hoth)
 have k5:Kp tp H4 (upd H4 tp (.lst [.int t1])):=Kp.tape
 have tt5:Tp (upd H4 tp (.lst [.int t1])) tp:=⟨t1,ac⟩
 generalize upd H4 tp (.lst [.int t1])=H5 at k5 tt5 ⊢
 have hc5:=k5.tkT tt4 _ _ hc4
 have hlen1:((av pl).map kV).length+1<=1000:=by rw [List.length_map];unfold av;rw [List.length_map];lia
 refine ⟨wl,_,d1,.str oth,rfl,rfl,SqL.of (k5 _ _ g4 nwt),ey,?_⟩
 have ext: ∀ {H6 H7:Hp} {cc T:Addr} {k:Int} {x:Str},(∀ m:Nat,k=(m:Int)->u0.ps.length<=m)->H6 cc=some (.tup ((av pl).map kV++[V.int k]))->H6 T=none->H7=upd H6 T (.tup [.ref cc,.str x])->NoSp H7 bk t (.ref T):=fun {H6 H7 cc T k x} hk hcc hT e=>by
  subst e
  refine ⟨av pl++[Sum.inl k],x,⟨T,cc,rfl,ac,?_⟩,uz hat0 hk⟩
  rw [af hT _ _ _ hcc,List.map_append]
  rfl
 refine ⟨_,rfl,_,rfl,(by show 1<=sizeLine;decide),fun x1 hx1=>?_⟩
 have r1:=af hx1 (.tup [.int (mv:Int)])
 have y1:(upd H5 x1 (.tup [.int (mv:Int)])) x1=some (.tup [.int (mv:Int)]):=ac
 generalize upd H5 x1 (.tup [.int (mv:Int)])=A1 at r1 y1 ⊢
 refine gc (r1 _ _ hc5) y1 hlen1 fun c1 A2 r2 gc1=>?_
 refine ⟨_,rfl,(by show 2<=sizeLine;decide),fun v1 hv1=>?_⟩
 have r3:=af hv1 (.tup [.ref c1,.str wd])
 have N1:=ext (x:=wd) (fun m hm=>by lia) gc1 hv1 rfl
 generalize upd A2 v1 (.tup [.ref c1,.str wd])=A3 at r3 N1 ⊢
 have R3:=r1.trans (r2.trans r3)
 refine ⟨_,rfl,_,rfl,(by show 1<=sizeLine;decide),fun x2 hx2=>?_⟩
 have r4:=af hx2 (.tup [.int (-1)])
 have y2:(upd A3 x2 (.tup [.int (-1)])) x2=some (.tup [.int (-1)]):=ac
 generalize upd A3 x2 (.tup [.int (-1)])=A4 at r4 y2 ⊢
 refine gc (r4 _ _ (R3 _ _ hc5)) y2 hlen1 fun c2 A5 r5 gc2=>?_
 refine ⟨_,rfl,(by show 2<=sizeLine;decide),fun v2 hv2=>?_⟩
 have r6:=af hv2 (.tup [.ref c2,.str wd])
 have N2:=ext (x:=wd) (fun m hm=>by lia) gc2 hv2 rfl
 generalize upd A5 v2 (.tup [.ref c2,.str wd])=A6 at r6 N2 ⊢
 have R6:=R3.trans (r4.trans (r5.trans r6))
 refine ⟨(by show 2<=sizeLine;decide),fun l1 hl1=>?_⟩
 have r7:=af hl1 (.lst [.ref v1,.ref v2])
 have gl1:(upd A6 l1 (.lst [.ref v1,.ref v2])) l1=some (.lst [.ref v1,.ref v2]):=ac
 generalize upd A6 l1 (.lst [.ref v1,.ref v2])=A7 at r7 gl1 ⊢
 have R7:=R6.trans r7
 refine ⟨_,rfl,_,rfl,(by show 1<=sizeLine;decide),fun x3 hx3=>?_⟩
 have r8:=af hx3 (.tup [.int 3])
 have y3:(upd A7 x3 (.tup [.int 3])) x3=some (.tup [.int 3]):=ac
 generalize upd A7 x3 (.tup [.int 3])=A8 at r8 y3 ⊢
 refine gc (r8 _ _ (R7 _ _ hc5)) y3 hlen1 fun c3 A9 r9 gc3=>?_
 refine ⟨_,rfl,(by show 2<=sizeLine;decide),fun v3 hv3=>?_⟩
 have r10:=af hv3 (.tup [.ref c3,.str wd])
 have N3:=ext (x:=wd) (fun m hm=>by lia) gc3 hv3 rfl
 generalize upd A9 v3 (.tup [.ref c3,.str wd])=A10 at r10 N3 ⊢
 have R10:=R7.trans (r8.trans (r9.trans r10))
 have ext2: ∀ {H6 H7:Hp} {T:Addr} {x:Str},Same H5 H6->(av pl,Sum.inr x)∉(be bk t).map spk->H6 T=none->H7=upd H6 T (.tup [.ref c,.str x])->NoSp H7 bk t (.ref T):=fun {H6 H7 T x} s6 hno hT e=>by
  subst e
  exact ⟨av pl,x,⟨T,c,rfl,ac,af hT _ _ _ (s6 _ _ hc5)⟩,hno⟩
 refine ⟨_,rfl,_,rfl,(by show 2<=sizeLine;decide),fun v4 hv4=>?_⟩
 have r11:=af hv4 (.tup [.ref c,.str oth])
 have N4:=ext2 (x:=oth) R10 hno4 hv4 rfl
 generalize upd A10 v4 (.tup [.ref c,.str oth])=A11 at r11 N4 ⊢
 have R11:=R10.trans r11
 refine ⟨_,rfl,(by show 2<=sizeLine;decide),fun v5 hv5=>?_⟩
 have r12:=af hv5 (.tup [.ref c,.str ""])
 have N5:=ext2 (x:="") R11 (ot hok hTr (by decide +kernel)) hv5 rfl
 generalize upd A11 v5 (.tup [.ref c,.str ""])=A12 at r12 N5 ⊢
 have R12:=R11.trans r12
 refine ⟨(by show 3<=sizeLine;decide),fun l2 hl2=>?_⟩
 have r13:=af hl2 (.lst [.ref v3,.ref v4,.ref v5])
 have gl2:(upd A12 l2 (.lst [.ref v3,.ref v4,.ref v5])) l2=some (.lst [.ref v3,.ref v4,.ref v5]):=ac
 generalize upd A12 l2 (.lst [.ref v3,.ref v4,.ref v5])=A13 at r13 gl2 ⊢
 have R712:Same A7 A13:=r8.trans (r9.trans (r10.trans (r11.trans (r12.trans r13))))
 refine ⟨l1,l2,_,_,rfl,rfl,R712 _ _ gl1,gl2,(by show 2+3<=sizeLine;decide),fun l3 hl3=>?_⟩
 have r14:=af hl3 (.lst ([.ref v1,.ref v2]++[.ref v3,.ref v4,.ref v5]))
 have gl3:(upd A13 l3 (.lst ([.ref v1,.ref v2]++[.ref v3,.ref v4,.ref v5]))) l3=some (.lst [.ref v1,.ref v2,.ref v3,.ref v4,.ref v5]):=ac
 generalize upd A13 l3 (.lst ([.ref v1,.ref v2]++[.ref v3,.ref v4,.ref v5]))=A14 at r14 gl3 ⊢
 have R14:=R12.trans (r13.trans r14)
 have hshort:wd.length<=1000:=di hwd
 refine ⟨_,rfl,_,rfl,_,rfl,rfl,wd,rfl,rfl,hshort,(by show 2<=sizeLine;decide),fun v6 hv6=>?_⟩
 have r15:=af hv6 (.tup [.ref c,.str (Txt.upper wd)])
 have N6:=ext2 (x:=Txt.upper wd) R14 (ot hok hTr (oP hwd)) hv6 rfl
 generalize upd A14 v6 (.tup [.ref c,.str (Txt.upper wd)])=A15 at r15 N6 ⊢
 refine ⟨(by show 1<=sizeLine;decide),fun l4 hl4=>?_⟩
 have r16:=af hl4 (.lst [.ref v6])
 have gl4:(upd A15 l4 (.lst [.ref v6])) l4=some (.lst [.ref v6]):=ac
 generalize upd A15 l4 (.lst [.ref v6])=A16 at r16 gl4 ⊢
 refine ⟨l3,l4,_,_,rfl,rfl,(r15.trans r16) _ _ gl3,gl4,(by show 5+1<=sizeLine;decide),fun l5 hl5=>?_⟩
 have r17:=af hl5 (.lst ([.ref v1,.ref v2,.ref v3,.ref v4,.ref v5]++[.ref v6]))
 have gl5:(upd A16 l5 (.lst ([.ref v1,.ref v2,.ref v3,.ref v4,.ref v5]++[.ref v6]))) l5=some (.lst [.ref v1,.ref v2,.ref v3,.ref v4,.ref v5,.ref v6]):=ac
 generalize upd A16 l5 (.lst ([.ref v1,.ref v2,.ref v3,.ref v4,.ref v5]++[.ref v6]))=A17 at r17 gl5 ⊢
 have R1517:Same A14 A17:=r15.trans (r16.trans r17)
 have R17:=R14.trans R1517
 have tt17:=tt5.same R17
 refine ⟨_,rfl,tp,_,rfl,tt17,by decide,by decide,fun d2 t2 hd20 hd21=>?_⟩
 have k18:Kp tp A17 (upd A17 tp (.lst [.int t2])):=Kp.tape
 have gl18:(upd A17 tp (.lst [.int t2])) l5=some (.lst [.ref v1,.ref v2,.ref v3,.ref v4,.ref v5,.ref v6]):=by rw [ah (dC (tt5.same (R14.trans (r15.trans r16))) hl5)];exact gl5
 generalize upd A17 tp (.lst [.int t2])=A18 at k18 gl18 ⊢
 have tk18: ∀ {B:Hp},Same B A17->TK B A18:=fun sB=>TK.trans (ay sB) (k18.tkT tt17)
 have hd22:d2< (([V.ref v1,.ref v2,.ref v3,.ref v4,.ref v5,.ref v6]:List V).length:Int):=hd21
 obtain ⟨z,ez,ez2⟩:=fF hd20 hd22
 have hall: ∀ z∈[V.ref v1,.ref v2,.ref v3,.ref v4,.ref v5,.ref v6],NoSp A18 bk t z:=fun z hz=>by
  have E12:Same A12 A17:=r13.trans (r14.trans R1517)
  have E11:=r12.trans E12
  have E10:=r11.trans E11
  have E6:Same A6 A17:=r7.trans (r8.trans (r9.trans (r10.trans E10)))
  have E3:Same A3 A17:=r4.trans (r5.trans (r6.trans E6))
  simp only [List.mem_cons,List.not_mem_nil,or_false]at hz
  rcases hz with rfl | rfl | rfl | rfl | rfl | rfl
  ·exact N1.mono (tk18 E3)
  ·exact N2.mono (tk18 E6)
  ·exact N3.mono (tk18 E10)
  ·exact N4.mono (tk18 E11)
  ·exact N5.mono (tk18 E12)
  ·exact N6.mono (tk18 (r16.trans r17))
 refine ⟨l5,_,d2,z,rfl,rfl,SqL.of gl18,ez,?_⟩
 exact q z A18 (fun b o e n'=>k18 _ _ (R17 _ _ (k5 _ _ (k04 _ _ e n') n')) n') (hall z (List.mem_of_getElem? ez2))
theorem wq {P:Program} {w:World} {K:PySem.W.Frag} {mg:Str->Option Value} {base:Heap} {C f:Addr} {k:Nat} {fd:FuncData} {ps:List Str} {sp sp':Sp} (F:aE P w K mg base (CX1 P w C) k f fd ps sp) (h: ∀ vs H Q E,sp' vs H Q E->sp vs H Q fun _ _ _=>False):
  aE P w K mg base CX0 k f fd ps sp':=by
 refine ⟨fun vs H Q E q=>F.len _ _ _ _ (h _ _ _ _ q),fun A outer s H args us vs Q E hr he hb hv hs=>codeAny_mono (F.run A outer s H args us vs Q (fun _ _ _=>False) hr he hb hv (h _ _ _ _ hs)) fun r s' hq=>?_⟩
 cases r with
 | error e=>
  have hq:CX1 P w C outer H s (fun _ _ _=>False) e s':=hq
  cases hq with
  | mk _ _ _ _ _ _ _ _ _ _ _ _ _ q=>exact q.elim
 | ok fl=>cases fl <;> exact hq
inductive iJ  (vs:List V) (H:Hp) (Q:VK) (E_:XK):Prop
 | mk: ∀ bv tv sv bk n t m s q,(vs=[bv,tv,sv])->(RepB H bk bv)->(BkS bk)->(RepT H n t tv)->(TrS bk m t s)->(t.sz<=100)->(RepSp H q sv)->(q∈be bk t)->(∀ o zs l H',H o=none->Same H H'->H' o=some (.lst zs)->Rds bk t q l->Paired (RepSp H') l zs->Q (.ref o) H')->iJ vs H Q E_
theorem vy {C:Addr} (vs:List V) (H:Hp) (Q:VK) (E:XK) (h:iJ vs H Q E):gi C vs H Q fun _ _ _=>False:=by
 obtain ⟨bv,tv,sv,bk,n,t,m,s,q,rfl,h1,h2,h3,h4,h5,h6,h7,h8⟩:=h
 refine ⟨bv,tv,sv,bk,n,t,m,s,av q.1,q.2,rfl,h1,h2,h3,h4,h5,h6,fun q' hq' e=>?_,fun hno=>absurd (List.mem_map.mpr ⟨q,h7,rfl⟩) hno⟩
 rw [hU (a:=q') (b:=q) e]
 exact h8
theorem rk {bk:Bk} {t:Bt} (hsz:t.sz<=100) {q:List Nat×Str} {l:List (List Nat×Str)} (h:Rds bk t q l):l.length<=15/\ ∀ q'∈l,q'.1.length<=1000/\q'.2.length<=1000:=by
 rcases h with ⟨_,rfl⟩ | ⟨p,fm,h1,h2,h3,rfl⟩
 ·exact ⟨Nat.zero_le _,fun q' h=>by cases h⟩
 ·obtain ⟨u,hu⟩:=h1.place
  have hl:p.length<=t.sz:=ed hu
  have hd:=gV (rs:=fm.rdk) (acc:=[])
  have hr:=dy fm
  rw [List.length_nil]at hd
  refine ⟨by rw [List.length_map];lia,fun q' hq'=>?_⟩
  obtain ⟨ks,hks,rfl⟩:=List.mem_map.mp hq'
  rcases ny (fun _ h=>by cases h) (fR h2) ks hks with ⟨x,rfl,hx⟩ | ⟨k,x,rfl,hx⟩
  ·exact ⟨by show p.length<=1000;lia,hx⟩
  ·refine ⟨?_,hx⟩
   show (p++[_]).length<=1000
   rw [List.length_append]
   show p.length+1<=1000
   lia
theorem qS {κ:Type} [DecidableEq κ] {kvs:List (κ×V)} {k:κ} (h:k∈kvs.map (·.1)): ∃ v,aO kvs k=some v:=by
 cases e:aO kvs k with
 | none=>exact absurd h (nG e)
 | some v=>exact ⟨v,rfl⟩
theorem wo {zs:List V} {lo hi:Option Int} {j:Nat} {x:V} (h:(cV zs lo hi)[j]? =some x):x∈zs:=by
 unfold cV at h
 exact List.mem_of_mem_drop (List.mem_of_mem_take (List.mem_of_getElem? h))
inductive nL (K:PySem.W.Frag) (vs:List V) (H:Hp) (Q:VK) (E_:XK):Prop
 | mk: ∀ (a:Addr) (ns:List Int),(vs=[.ref a])->(SqL K H a (ns.map V.int))->(ns.length<=63)->(∀ H',Q (.bl true) H')->nL K vs H Q E_
noncomputable abbrev zL:List Str:=["script","book","tree","reads","spots","tape","at","spot","found","k"]
theorem scLaw:aG zL ["script"] (ak rj):=fsc
theorem xr (F:Fun K "law" "law" rj f fd) (G:Gb mg)
  (GG:aE P w K mg base CX0 63 f2 fd2 ["script","start","few"] (jx K)) (bG:Binds K fd2 ["script","start","few"] []) (kG:PySem.W.keepIn K (.ref f2)=true) (mG:mg "_law_grown"=some (.ref f2))
  (GR:aE P w K mg base CX0 17 f3 fd3 ["book","tree"] pe) (bR:Binds K fd3 ["book","tree"] []) (kR:PySem.W.keepIn K (.ref f3)=true) (mR:mg "_law_reads"=some (.ref f3))
  (GS:aE P w K mg base CX0 2 f4 fd4 ["book","tree"] h9) (bS:Binds K fd4 ["book","tree"] []) (kS:PySem.W.keepIn K (.ref f4)=true) (mS:mg "_law_spots"=some (.ref f4))
  (GT:aE P w K mg base CX0 2 f5 fd5 ["script","k"] (iF K)) (bT:Binds K fd5 ["script","k"] []) (kT:PySem.W.keepIn K (.ref f5)=true) (mT:mg "_law_tape"=some (.ref f5))
  (GD:aE P w K mg base CX0 1 f6 fd6 ["tape","many"] cf) (bD:Binds K fd6 ["tape","many"] []) (kD:PySem.W.keepIn K (.ref f6)=true) (mD:mg "_law_digit"=some (.ref f6))
  (GA:aE P w K mg base CX0 7 f7 fd7 ["book","tree","spot"] iJ) (bA:Binds K fd7 ["book","tree","spot"] []) (kA:PySem.W.keepIn K (.ref f7)=true) (mA:mg "reads_at"=some (.ref f7))
  (GI:aE P w K mg base CX0 2 f8 fd8 ["found"] sX) (bI:Binds K fd8 ["found"] []) (kI:PySem.W.keepIn K (.ref f8)=true) (mI:mg "_law_are_spots"=some (.ref f8))
  (GN:aE P w K mg base CX0 2 f9 fd9 ["tape","book","tree","spots"] ju) (bN:Binds K fd9 ["tape","book","tree","spots"] []) (kN:PySem.W.keepIn K (.ref f9)=true) (mN:mg "_law_no_spot"=some (.ref f9))
  (GF:aE P w K mg base CX0 8 f10 fd10 ["book","tree","spot"] iI) (bF:Binds K fd10 ["book","tree","spot"] []) (kF:PySem.W.keepIn K (.ref f10)=true) (mF:mg "_law_refused"=some (.ref f10)):
  aE P w K mg base CX0 64 f fd ["script"] (nL K):=by
 refine F.ok scLaw (fun vs H Q E h=>?_) (fun cdv A outer s H vs Q E hr h=>?_)
 ·obtain ⟨a,ns,rfl,_⟩:=h
  rfl
 obtain ⟨a,ns,rfl,hS,hlen,q⟩:=h
 have hu:=cZ hr
 have hu3:=Nat.lt_of_le_of_lt (Nat.add_le_add_left (by decide:2+1<=16) _) hu
 have hr1:=hr.mono (show 1<=63 by decide)
 have hr2:=hr.mono (show 2<=63 by decide)
 have hr7:=hr.mono (show 7<=63 by decide)
 have hr8:=hr.mono (show 8<=63 by decide)
 have hr17:=hr.mono (show 17<=63 by decide)
 refine ⟨_,ae (iQ (al GG hr rfl mG kG bG .nil aA (aa (pv 0) (aa ag (aa n9 ad)))) (cC rfl (aJ (au (i:=1) scLaw.nd rfl (Or.inl rfl)) (aJ (au (i:=2) scLaw.nd rfl (Or.inl rfl)) bV))))
  (ae (am (i:=3) scLaw.nd rfl (Or.inl rfl) (al GR hr17 rfl mR kR bR .nil aA (aa (pv 1) (aa (pv 2) ad))))
  (ae (am (i:=4) scLaw.nd rfl (Or.inl rfl) (al GS hr2 rfl mS kS bS .nil aA (aa (pv 1) (aa (pv 2) ad))))
  (ae (am (i:=5) scLaw.nd rfl (Or.inl rfl) (al GT hr2 rfl mT kT bT .nil aA (aa (pv 0) (aa ag ad))))
  (ae (am (i:=6) scLaw.nd rfl (Or.inl rfl) (al GD hr1 rfl mD kD bD .nil aA (aa (pv 5) (aa (aq (r:=dl K) aH rfl G.len PySem.boot_len (aa (pv 4) ad)) ad))))
  (ae (a6 PassesOwn.never rfl (cL (bj dv (pv 4) (bq (pv 6)) (bq (aw a8 (pv 6) ag)))) (au (i:=7) scLaw.nd rfl (Or.inl rfl))
   (ae (am (i:=8) scLaw.nd rfl (Or.inl rfl) (al GA hr7 rfl mA kA bA .nil aA (aa (pv 1) (aa (pv 2) (aa (pv 7) ad)))))
   (ae (bi (PW.pt (nW (gP (dZ (al GI hr2 rfl mI kI bI .nil aA (aa (pv 8) ad)))) (my (aM (ue (n:=2) hu3) (pv 8) (bp hu (pv 3) (pv 7) (fun _ _=>rfl)) (aV _))))) dU aP)
   (ae (bx (mO PySem.F.plainAttrs_list PySem.F.slot_list_clear PySem.F.type_list_clear uF (pv 8)))
   (aj (bi (aM (ue (n:=2) hu3) (al GA hr7 rfl mA kA bA .nil aA (aa (pv 1) (aa (pv 2) (aa (pv 7) ad)))) (bp hu (pv 3) (pv 7) (fun _ _=>rfl)) (aV _)) dU aP))))))
  (ae (a6 PassesOwn.never rfl (br rfl G.range (aa ag ad)) (au (i:=9) scLaw.nd rfl (Or.inl rfl))
   (ae (am (i:=7) scLaw.nd rfl (Or.inl rfl) (al GN hr2 rfl mN kN bN .nil aA (aa (al GT hr2 rfl mT kT bT .nil aA (aa (pv 0) (aa (aw a8 ag (pv 9)) ad))) (aa (pv 1) (aa (pv 2) (aa (pv 4) ad))))))
   (aj (bi (gP (dZ (al GF hr8 rfl mF kF bF .nil aA (aa (pv 1) (aa (pv 2) (aa (pv 7) ad)))))) dU aP))))
  (aj (aL n9)))))))),?_⟩
 refine ⟨_,rfl,a,ns,0,false,rfl,hS,hlen,by decide,by decide,fun d1 bv tv bk t sr H1 s1 gd1 hB1 hk1 hT1 hO1 hz1=>?_⟩
 refine ⟨d1,_,rfl,SqT.of gd1,rfl,_,_,rfl,_,_,rfl,rfl,?_⟩
 have hok:=hk1.s
 have hTr:=hO1.trS
 have hsz:t.sz<=100:=by lia
 refine ⟨_,rfl,_,rfl,bv,tv,bk,60,t,60,sr,rfl,hB1,hok,hT1,hTr,hsz,fun rd kvs H2 hrd s2 grd hkeys hRd=>?_⟩
 refine ⟨_,rfl,_,rfl,bv,tv,bk,60,t,60,sr,rfl,hB1.mono (ay s2),hok,hT1.mono (ay s2),hTr,hsz,fun sl zs H3 hsl s3 gsl hZ=>?_⟩
 have S3:=s1.trans (s2.trans s3)
 have lZ:(be bk t).length=zs.length:=Paired.length hZ
 have hpos:=wH hTr hok
 have h600:=iC hok hTr hsz
 refine ⟨_,rfl,a,ns,12,rfl,SqL.keep hS (fun o e=>S3 _ _ e),hlen,by decide,by decide,fun tp tt htp=>?_⟩
 have s4:=af htp (.lst [.int tt])
 have tp4:Tp (upd H3 tp (.lst [.int tt])) tp:=⟨tt,ac⟩
 generalize upd H3 tp (.lst [.int tt])=H4 at s4 tp4 ⊢
 refine ⟨_,rfl,_,rfl,sl,_,rfl,.inl (SqL.of (s4 _ _ gsl)),tp,_,rfl,tp4,by lia,by lia,fun d t1 hd0 hd1=>?_⟩
 have S5:Same H3 (upd H4 tp (.lst [.int t1])):=fun b o e=>by rw [ah (ai e htp)];exact s4 _ _ e
 generalize upd H4 tp (.lst [.int t1])=H5 at S5 ⊢
 have gsl5:=S5 _ _ gsl
 have grd5:=S5 _ _ (s3 _ _ grd)
 have hB5:RepB H5 bk bv:=hB1.mono (ay (s2.trans (s3.trans S5)))
 have hT5:RepT H5 60 t tv:=hT1.mono (ay (s2.trans (s3.trans S5)))
 have hZ5:Paired (RepSp H5) (be bk t) zs:=Paired.mapP hZ fun _ _ r=>r.mono (ay S5)
 have hRd5:RdV H5 bk t kvs:=hRd.kp (d:=rd) (fun b o e _=>S5 _ _ (s3 _ _ e)) grd
 have S05:Same H H5:=S3.trans S5
 clear s4 tp4 hd0 hd1
 refine ⟨_,rfl,_,rfl,d,rfl,_,rfl,_,_,rfl,rfl,_,rfl,sl,zs,rfl,SqL.of gsl5,fun cl hcl=>?_⟩
 have s6:=af hcl (.lst (cV zs (some d) (some (d+60))))
 have g6:(upd H5 cl (.lst (cV zs (some d) (some (d+60))))) cl=some (.lst (cV zs (some d) (some (d+60)))):=ac
 generalize upd H5 cl (.lst (cV zs (some d) (some (d+60))))=H6 at s6 g6 ⊢
 refine ⟨cl,rfl,⟨_,SqL.of g6⟩,?_⟩
 refine cD (xs:=cV zs (some d) (some (d+60))) (fun i σ H'=> ∃ o7 o8,σ=[some (.ref a),some bv,some tv,some (.ref rd),some (.ref sl),some (.ref tp),some (.int d),o7,o8,none]/\Same H6 H') ⟨none,none,rfl,Same.refl H6⟩ (fun i σ H' _ h=>by obtain ⟨_,_,_,sm⟩:=h;exact SqL.of (sm _ _ g6)) ?_ ?_
 ·rintro i x σ H7 hx ⟨o7,o8,rfl,s7⟩
  obtain ⟨j,hj⟩:=List.getElem?_of_mem (wo hx)
  obtain ⟨qq,hqq,hsp⟩:=aC hZ5 hj
  have hqm:=List.mem_of_getElem? hqq
  obtain ⟨v,hv⟩:=qS (kvs:=kvs) (k:=spk qq) (by rw [hkeys];exact List.mem_map.mpr ⟨qq,hqm,rfl⟩)
  obtain ⟨q',l',o',zs',e1,e2,e3,e4,e5⟩:=hRd5 _ (fJ hv)
  have e1:qq=q':=hU e1
  subst e1
  have e2:v=.ref o':=e2
  subst e2
  have S7:=s6.trans s7
  have dget: ∀ {H':Hp},Same H5 H'->DGet H' rd x (some (.ref o')):=fun {H'} s'=>by
   obtain ⟨b,c,rfl,hb,hc⟩:=hsp
   rw [<- hv]
   exact DGet.p (t:=av qq.1) (k:=Sum.inr qq.2) (s' _ _ grd5) (s' _ _ hb) (s' _ _ hc)
  obtain ⟨h15,hsh⟩:=rk hsz e4
  refine ⟨_,rfl,_,rfl,_,rfl,bv,tv,x,bk,60,t,60,sr,qq,rfl,hB5.mono (ay S7),hok,hT5.mono (ay S7),hTr,hsz,hsp.mono (ay S7),hqm,fun o zo l H8 ho s8 go hl hP=>?_⟩
  have el:l=l':=Rds.uni hok hTr hl e4
  subst el
  have S8:=S7.trans s8
  have lzo:l.length=zo.length:=Paired.length hP
  refine ⟨_,rfl,o,zo,l,rfl,go,hP,by lia,hsh,fun H9 s9=>⟨true,rfl,dI ?_⟩⟩
  have S9:=S8.trans s9
  refine ⟨_,rfl,_,rfl,_,rfl,rd,.ref o',rfl,dget S9,o,o',_,_,rfl,rfl,s9 _ _ go,S9 _ _ e3,iD (Paired.mapP hP fun _ _ r=>r.mono (ay s9)) (Paired.mapP e5 fun _ _ r=>r.mono (ay S9)),_,rfl,dI ?_⟩
  have go9:=s9 _ _ go
  refine ⟨_,rfl,.inl ⟨rfl,_,SqL.of go9⟩,o,zo,rfl,rfl,go9,?_⟩
  have S10:Same H7 (upd H9 o (.lst [])):=fun b' x' e=>by rw [ah (ai e ho)];exact s9 _ _ (s8 _ _ e)
  generalize upd H9 o (.lst [])=H10 at S10 ⊢
  have T10:=S7.trans S10
  refine ⟨_,rfl,_,rfl,_,rfl,bv,tv,x,bk,60,t,60,sr,qq,rfl,hB5.mono (ay T10),hok,hT5.mono (ay T10),hTr,hsz,hsp.mono (ay T10),hqm,fun o2 zo2 l2 H11 ho2 s11 go2 hl2 hP2=>?_⟩
  have el2:l2=l:=Rds.uni hok hTr hl2 hl
  subst el2
  have T11:=T10.trans s11
  refine ⟨_,rfl,_,rfl,rd,.ref o',rfl,dget T11,o2,o',_,_,rfl,rfl,go2,T11 _ _ e3,iD hP2 (Paired.mapP e5 fun _ _ r=>r.mono (ay T11)),_,rfl,dI ?_⟩
  exact ⟨_,_,rfl,s7.trans (S10.trans s11)⟩
 ·rintro σ H7 ⟨o7,o8,rfl,s7⟩
  have S7:=s6.trans s7
  refine ⟨6,rfl,by decide,by decide,?_⟩
  refine dq (fun i σ H'=> ∃ o7 o9,σ=[some (.ref a),some bv,some tv,some (.ref rd),some (.ref sl),some (.ref tp),some (.int d),o7,o8,o9]/\Same H7 H') ⟨o7,none,rfl,Same.refl H7⟩ ?_ ?_
  ·rintro i σ H8 hi ⟨o7',o9,rfl,s8⟩
   have S8:=S7.trans s8
   refine ⟨_,rfl,_,rfl,_,_,rfl,rfl,a,ns,13+ (0+ (i:Int)),rfl,SqL.keep hS (fun o e=>S8 _ _ (S05 _ _ e)),hlen,by lia,by lia,fun tq t9 htq=>?_⟩
   have s9:=af htq (.lst [.int t9])
   have tt9:Tp (upd H8 tq (.lst [.int t9])) tq:=⟨t9,ac⟩
   generalize upd H8 tq (.lst [.int t9])=H9 at s9 tt9 ⊢
   have S9:=S8.trans s9
   have gsl8:=S8 _ _ gsl5
   refine ⟨_,rfl,_,rfl,_,rfl,tq,bv,tv,sl,zs,bk,60,t,60,sr,rfl,tt9,hB5.mono (ay S9),hok,hT5.mono (ay S9),hTr,hsz,S9 _ _ gsl5,fun z=>by (rw [z,htq]at gsl8;cases gsl8),Paired.mapP hZ5 fun _ _ r=>r.mono (ay S9),fun v H10 k10 hno=>?_⟩
   have s10:Same H8 H10:=fun b o e=>k10 _ _ (s9 _ _ e) (ai e htq)
   have S10:=S8.trans s10
   obtain ⟨ks,w',hK,hn⟩:=hno
   refine ⟨_,rfl,_,rfl,_,rfl,bv,tv,v,bk,60,t,60,sr,ks,w',rfl,hB5.mono (ay S10),hok,hT5.mono (ay S10),hTr,hsz,hK,hn,fun H11 s11=>⟨true,rfl,dI ?_⟩⟩
   exact ⟨_,_,rfl,s8.trans (s10.trans s11)⟩
  ·rintro σ H8 ⟨o7',o9,rfl,s8⟩
   exact q H8
theorem wk {P:Program} {w:World} {K:PySem.W.Frag} {aD:Addr} {h1 h2 h3 h4 h5 h6:Int} {t1 t2 t3 t4 t5 t6 u1 u2 u3 u4 u5 u6:Tok} {ep:Nat}
  (lD:K.lookup aD=some ⟨.type "dict",none,.dict #[⟨h1,.str "plus" t1,.int 2 u1⟩,⟨h2,.str "less" t2,.int 2 u2⟩,⟨h3,.str "times" t3,.int 2 u3⟩,⟨h4,.str "least" t4,.int 2 u4⟩,⟨h5,.str "most" t5,.int 2 u5⟩,⟨h6,.str "when" t6,.int 3 u6⟩] ep,#[]⟩)
  (e1:h1=hashStr w "plus") (e2:h2=hashStr w "less") (e3:h3=hashStr w "times") (e4:h4=hashStr w "least") (e5:h5=hashStr w "most") (e6:h6=hashStr w "when") (nD:(aD==sysModules)=false):wB P w K aD lc:=by
 refine ⟨nD,fun h X=>⟨[(.inr "plus",.int 2 u1),(.inr "less",.int 2 u2),(.inr "times",.int 2 u3),(.inr "least",.int 2 u4),(.inr "most",.int 2 u5),(.inr "when",.int 3 u6)],?_,?_⟩⟩
 ·exact .cons ⟨rfl,_,rfl⟩ (.cons ⟨rfl,_,rfl⟩ (.cons ⟨rfl,_,rfl⟩ (.cons ⟨rfl,_,rfl⟩ (.cons ⟨rfl,_,rfl⟩ (.cons ⟨rfl,_,rfl⟩ .nil)))))
 ·refine ⟨_,_,_,X _ _ lD,⟨rfl,rfl,rfl⟩,rfl,?_,?_,by dsimp only [List.map];decide +kernel⟩
  ·intro e he
   simp only [List.mem_toArray,List.mem_cons,List.not_mem_nil,or_false]at he
   rcases he with rfl | rfl | rfl | rfl | rfl | rfl
   ·exact ⟨.inr "plus",bE "plus" t1,e1⟩
   ·exact ⟨.inr "less",bE "less" t2,e2⟩
   ·exact ⟨.inr "times",bE "times" t3,e3⟩
   ·exact ⟨.inr "least",bE "least" t4,e4⟩
   ·exact ⟨.inr "most",bE "most" t5,e5⟩
   ·exact ⟨.inr "when",bE "when" t6,e6⟩
  ·exact .cons (bE "plus" t1) rfl (.cons (bE "less" t2) rfl (.cons (bE "times" t3) rfl (.cons (bE "least" t4) rfl (.cons (bE "most" t5) rfl (.cons (bE "when" t6) rfl .nil)))))
theorem jV {K:PySem.W.Frag} {C:Addr} {b:Value} {r:Bool} (h:PySem.W.mroIn K C b=some r):(PySem.W.clsIn K C).isSome=true:=by
 unfold PySem.W.mroIn at h
 cases e:PySem.W.clsIn K C with
 | none=>rw [e]at h;cases h
 | some c=>rfl
theorem cE {α:Type} {l:List α} (h:l.length=1): ∃ a,l=[a]:=by
 match l,h with
 | [a],_=>exact ⟨a,rfl⟩
theorem ce {α:Type} {l:List α} (h:l.length=2): ∃ a b,l=[a,b]:=by
 match l,h with
 | [a,b],_=>exact ⟨a,b,rfl⟩
theorem kb {α:Type} {l:List α} (h:l.length=3): ∃ a b c,l=[a,b,c]:=by
 match l,h with
 | [a,b,c],_=>exact ⟨a,b,c,rfl⟩
theorem xP {α:Type} {l:List α} (h:l.length=4): ∃ a b c d,l=[a,b,c,d]:=by
 match l,h with
 | [a,b,c,d],_=>exact ⟨a,b,c,d,rfl⟩
theorem vg {α:Type} {l:List α} (h:l.length=5): ∃ a b c d e,l=[a,b,c,d,e]:=by
 match l,h with
 | [a,b,c,d,e],_=>exact ⟨a,b,c,d,e,rfl⟩
theorem xO {α:Type} {l:List α} (h:l.length=6): ∃ a b c d e f,l=[a,b,c,d,e,f]:=by
 match l,h with
 | [a,b,c,d,e,f],_=>exact ⟨a,b,c,d,e,f,rfl⟩
theorem tN {K:PySem.W.Frag} {aR:Addr} {od:Option Addr} {sl:Array (Option Value)} {t1 t2:Tok} {m:Nat} (l:K.lookup aR=some ⟨.type "tuple",od,.seq #[.str "own" t1,.str "part" t2] m,sl⟩): ∀ H,SqT K H aR [.str "own",.str "part"]:=
 fun H=>.inr ⟨_,_,_,l,rfl,rfl,(show 2<=sizeLine by decide),.cons ⟨_,rfl⟩ (.cons ⟨_,rfl⟩ .nil)⟩
/-- what is told of a def -/
structure Df (K:PySem.W.Frag) (nm:Str) (st:Stmt) (f:Addr) (fd:FuncData):Prop where
 a:PySem.W.nsIn K mainGlobals nm=some (some (.ref f))
 k:PySem.W.keepIn K (.ref f)=true
 F:Fun K nm nm st f fd
theorem Df.m {K:PySem.W.Frag} {nm:Str} {st:Stmt} {f:Addr} {fd:FuncData} {h:Heap} {mg:Str->Option Value} (d:Df K nm st f fd) (X:K.In h) (G:h.Ns mainGlobals mg):mg nm=some (.ref f):=PySem.W.mg_of X G d.a
theorem Df.of {K:PySem.W.Frag} {nm:Str} {st:Stmt} {f:Addr} {oc:Value} {od an:Option Addr} {osl:Array (Option Value)} {kV doc pm cdv ct:Value} (a:PySem.W.nsIn K mainGlobals nm=some (some (.ref f))) (k:PySem.W.keepIn K (.ref f)=true)
  (l:K.lookup f=some ⟨oc,od,.func (PySem.W.fnOf nm nm (iw st) (cM st) (ak st) .none kV doc pm an cdv ct),osl⟩) (c:PySem.W.codeIn K cdv nm=true):Df K nm st f (PySem.W.fnOf nm nm (iw st) (cM st) (ak st) .none kV doc pm an cdv ct):=
 ⟨a,k,⟨⟨oc,od,kV,doc,pm,an,cdv,ct,osl,rfl,l,c⟩,k⟩⟩
theorem all_mk {l:PySem.W.OpenLaw} {w:World} {K:PySem.W.Frag} {h:Heap} {mg:Str->Option Value} {fa aD aR C CB f1 f2 f3 f4 f5 f6 f7 f8 f9 f10 f11 f12 f13 f14 f15 f16 f17 f18 f19 f20 f21 f22 f23 f24 f25 f26 f27 f28 f29 f30 f31 f32 f33 f34 f35 f36 f37 f38 f39 f40 f41 f42 f43 f44 f45 f46 f47 f48 D0 D1 D2 D3 D4 D5 D6 D7 D9 D10 D11 D12 D13 D14 D15 D16 D17:Addr} {r1 r2 r3 r4 r5 r6 r7 r8 r9 r10 r11 r12 r13 r14 r15 r16 r17 r18 r19 r20 r21 r22 r23 r24 r25 r26 r27 r28 r29 r30 r31 r32 r33 r34 r35 r36 r37 r38 r39 r40 r41 r42 r43 r44 r45 r46 r47 r48:FuncData} (X:K.In h) (G:h.Ns mainGlobals mg) (hfa:mg "law"=some (.ref fa))
  {odR:Option Addr} {slR:Array (Option Value)} {w1 w2 t1 t2 t3 t4 t5 t6 u1 u2 u3 u4 u5 u6:Tok} {h1 h2 h3 h4 h5 h6:Int} {ep mR:Nat}
  (d1:Df K "inner_of" pz f1 r1)
  (d2:Df K "tuples_of" md f2 r2)
  (d3:Df K "readings_of" pk f3 r3)
  (d4:Df K "sorts_of" jA f4 r4)
  (d5:Df K "forms_of" jF f5 r5)
  (d6:Df K "sort_named" fj f6 r6)
  (d7:Df K "form_named" fk f7 r7)
  (d8:Df K "downs_of" pA f8 r8)
  (d9:Df K "ups_of" w6 f9 r9)
  (d10:Df K "sort_of_form" fP f10 r10)
  (d11:Df K "rules_of" jB f11 r11)
  (d12:Df K "formulas_by_key" pC f12 r12)
  (d13:Df K "sort_of" mf f13 r13)
  (d14:Df K "boughs_by_place" ib f14 r14)
  (d15:Df K "reads_at" jD f15 r15)
  (d16:Df K "need_spot" tI f16 r16)
  (d17:Df K "rules_by_spot" jh f17 r17)
  (d18:Df K "told_by_forms" pi f18 r18)
  (d19:Df K "told_by_form" tG f19 r19)
  (d20:Df K "spots_read" fi f20 r20)
  (d21:Df K "spot_of_reading" me f21 r21)
  (d22:Df K "_law_cell_at" tL f22 r22)
  (d23:Df K "_law_tape" tH f23 r23)
  (d24:Df K "_law_digit" pB f24 r24)
  (d25:Df K "_law_names" fQ f25 r25)
  (d26:Df K "_law_number" mh f26 r26)
  (d27:Df K "_law_leaf" tJ f27 r27)
  (d28:Df K "_law_formula" eU f28 r28)
  (d29:Df K "_law_sorts" pj f29 r29)
  (d30:Df K "_law_targets" fO f30 r30)
  (d31:Df K "_law_readings" dY f31 r31)
  (d32:Df K "_law_form" pp f32 r32)
  (d33:Df K "_law_book" fH f33 r33)
  (d34:Df K "_law_least" jE f34 r34)
  (d35:Df K "_law_tree" jz f35 r35)
  (d36:Df K "_law_whole" mq f36 r36)
  (d37:Df K "_law_grown" jg f37 r37)
  (d38:Df K "_law_words" mn f38 r38)
  (d39:Df K "_law_boughs" ia f39 r39)
  (d40:Df K "_law_spots" jf f40 r40)
  (d41:Df K "_law_rules" mr f41 r41)
  (d42:Df K "_law_read" mw f42 r42)
  (d43:Df K "_law_reads" tK f43 r43)
  (d44:Df K "_law_are_spots" gk f44 r44)
  (d45:Df K "_law_alone" mx f45 r45)
  (d46:Df K "_law_no_spot" mj f46 r46)
  (d47:Df K "_law_refused" jC f47 r47)
  (d48:Df K "law" rj f48 r48)
  (z1:PySem.W.nsIn K mainGlobals "isinstance"=some none)
  (z2:PySem.W.nsIn K mainGlobals "int"=some none)
  (z3:PySem.W.nsIn K mainGlobals "bool"=some none)
  (z4:PySem.W.nsIn K mainGlobals "str"=some none)
  (z5:PySem.W.nsIn K mainGlobals "tuple"=some none)
  (z6:PySem.W.nsIn K mainGlobals "len"=some none)
  (z7:PySem.W.nsIn K mainGlobals "all"=some none)
  (z8:PySem.W.nsIn K mainGlobals "range"=some none)
  (z9:PySem.W.nsIn K mainGlobals "max"=some none)
  (z10:PySem.W.nsIn K mainGlobals "min"=some none)
  (z11:PySem.W.nsIn K mainGlobals "list"=some none)
  (z12:PySem.W.nsIn K mainGlobals "sum"=some none)
  (z13:PySem.W.nsIn K mainGlobals "enumerate"=some none)
  (z14:PySem.W.nsIn K mainGlobals "ValueError"=some none)
  (aI:PySem.W.nsIn K mainGlobals "INNER_COUNTS"=some (some (.ref aD)))
  (lD:K.lookup aD=some ⟨.type "dict",none,.dict #[⟨h1,.str "plus" t1,.int 2 u1⟩,⟨h2,.str "less" t2,.int 2 u2⟩,⟨h3,.str "times" t3,.int 2 u3⟩,⟨h4,.str "least" t4,.int 2 u4⟩,⟨h5,.str "most" t5,.int 2 u5⟩,⟨h6,.str "when" t6,.int 3 u6⟩] ep,#[]⟩)
  (e1:h1=hashStr w "plus")    (e2:h2=hashStr w "less")    (e3:h3=hashStr w "times")    (e4:h4=hashStr w "least")    (e5:h5=hashStr w "most")    (e6:h6=hashStr w "when")
  (nD:(aD==sysModules)=false)
  (aQ:PySem.W.nsIn K mainGlobals "READINGS"=some (some (.ref aR))) (lR:K.lookup aR=some ⟨.type "tuple",odR,.seq #[.str "own" w1,.str "part" w2] mR,slR⟩)
  (aB:PySem.W.nsIn K mainGlobals "BoughError"=some (some (.ref CB)))
  (c0:PySem.W.nsIn K mainGlobals "NoText"=some (some (.ref D0)))
  (c1:PySem.W.nsIn K mainGlobals "NoBook"=some (some (.ref D1)))
  (c2:PySem.W.nsIn K mainGlobals "Tangled"=some (some (.ref D2)))
  (c3:PySem.W.nsIn K mainGlobals "TooGreat"=some (some (.ref D3)))
  (c4:PySem.W.nsIn K mainGlobals "NoPlace"=some (some (.ref D4)))
  (c5:PySem.W.nsIn K mainGlobals "NoFit"=some (some (.ref D5)))
  (c6:PySem.W.nsIn K mainGlobals "NoTree"=some (some (.ref D6)))
  (c7:PySem.W.nsIn K mainGlobals "TooMany"=some (some (.ref D7)))
  (c8:PySem.W.nsIn K mainGlobals "NoSpot"=some (some (.ref C)))
  (c9:PySem.W.nsIn K mainGlobals "NoGiven"=some (some (.ref D9)))
  (c10:PySem.W.nsIn K mainGlobals "Ring"=some (some (.ref D10)))
  (c11:PySem.W.nsIn K mainGlobals "NoChange"=some (some (.ref D11)))
  (c12:PySem.W.nsIn K mainGlobals "NoPlain"=some (some (.ref D12)))
  (c13:PySem.W.nsIn K mainGlobals "NoBuild"=some (some (.ref D13)))
  (c14:PySem.W.nsIn K mainGlobals "NoWorth"=some (some (.ref D14)))
  (c15:PySem.W.nsIn K mainGlobals "NoPrice"=some (some (.ref D15)))
  (c16:PySem.W.nsIn K mainGlobals "NoRow"=some (some (.ref D16)))
  (c17:PySem.W.nsIn K mainGlobals "NoName"=some (some (.ref D17)))
  (q0:PySem.W.kitOne K (.ref C) (.ref D0)=some false)
  (q1:PySem.W.kitOne K (.ref C) (.ref D1)=some false)
  (q2:PySem.W.kitOne K (.ref C) (.ref D2)=some false)
  (q3:PySem.W.kitOne K (.ref C) (.ref D3)=some false)
  (q4:PySem.W.kitOne K (.ref C) (.ref D4)=some false)
  (q5:PySem.W.kitOne K (.ref C) (.ref D5)=some false)
  (q6:PySem.W.kitOne K (.ref C) (.ref D6)=some false)
  (q7:PySem.W.kitOne K (.ref C) (.ref D7)=some false)
  (q9:PySem.W.kitOne K (.ref C) (.ref D9)=some false)
  (q10:PySem.W.kitOne K (.ref C) (.ref D10)=some false)
  (q11:PySem.W.kitOne K (.ref C) (.ref D11)=some false)
  (q12:PySem.W.kitOne K (.ref C) (.ref D12)=some false)
  (q13:PySem.W.kitOne K (.ref C) (.ref D13)=some false)
  (q14:PySem.W.kitOne K (.ref C) (.ref D14)=some false)
  (q15:PySem.W.kitOne K (.ref C) (.ref D15)=some false)
  (q16:PySem.W.kitOne K (.ref C) (.ref D16)=some false)
  (q17:PySem.W.kitOne K (.ref C) (.ref D17)=some false)
  (x1:PySem.W.excIn K C [.type "ValueError",.type "Exception",.type "BaseException",.type "object"] "ValueError.__new__"=true)
  (x2:PySem.W.findIn K (.ref C) "__getattribute__"=some (some (.builtin "BaseException.__getattribute__"))) (x3:PySem.W.findIn K (.ref C) "__getattr__"=some none) (x4:PySem.W.findIn K (.ref C) "__class__"=some (some (.builtin "object.__class__")))
  (x5:PySem.W.specialIn K (.builtin "object.__class__") "__get__"=some (some (.builtin "getset_descriptor.__get__"))) (x6:PySem.W.takesIn K (.builtin "object.__class__")=some true)
  (x7:PySem.W.mroIn K C (.type "object")=some true) (x8:PySem.W.mroIn K C (.type "BaseException")=some true) (x9:PySem.W.mroIn K C (.ref CB)=some true) (x10:PySem.W.mroIn K CB (.type "BaseException")=some true) (x11:PySem.W.typeIn K (.ref CB)=some (.type "type"))
  (x13:PySem.W.kitOne K (.ref C) (.type "ValueError")=some true):
  ∃ fd:FuncData,(∀ (s:Shared) (v:Value),BindsTo s fd ⟨[v],[]⟩ [("script",v)])/\ ∀ base:Heap,K.In base->base.Ns mainGlobals mg->aE l.prog w K mg base CX0 64 fa fd ["script"] (nL K):=by
 have e:=hfa.symm.trans (d48.m X G)
 cases e
 have b1:=d1.F.binds (ps:=["formula"]) fun _ _ _ _ _ _ us hl=>by obtain ⟨x,rfl⟩:=cE hl;rfl
 have m1:=d1.m X G
 have b2:=d2.F.binds (ps:=["formula"]) fun _ _ _ _ _ _ us hl=>by obtain ⟨x,rfl⟩:=cE hl;rfl
 have m2:=d2.m X G
 have b3:=d3.F.binds (ps:=["formula"]) fun _ _ _ _ _ _ us hl=>by obtain ⟨x,rfl⟩:=cE hl;rfl
 have m3:=d3.m X G
 have b4:=d4.F.binds (ps:=["book"]) fun _ _ _ _ _ _ us hl=>by obtain ⟨x,rfl⟩:=cE hl;rfl
 have m4:=d4.m X G
 have b5:=d5.F.binds (ps:=["book"]) fun _ _ _ _ _ _ us hl=>by obtain ⟨x,rfl⟩:=cE hl;rfl
 have m5:=d5.m X G
 have b6:=d6.F.binds (ps:=["book","name"]) fun _ _ _ _ _ _ us hl=>by obtain ⟨x,y,rfl⟩:=ce hl;rfl
 have m6:=d6.m X G
 have b7:=d7.F.binds (ps:=["book","name"]) fun _ _ _ _ _ _ us hl=>by obtain ⟨x,y,rfl⟩:=ce hl;rfl
 have m7:=d7.m X G
 have b8:=d8.F.binds (ps:=["book","sort"]) fun _ _ _ _ _ _ us hl=>by obtain ⟨x,y,rfl⟩:=ce hl;rfl
 have m8:=d8.m X G
 have b9:=d9.F.binds (ps:=["book","sort"]) fun _ _ _ _ _ _ us hl=>by obtain ⟨x,y,rfl⟩:=ce hl;rfl
 have m9:=d9.m X G
 have b10:=d10.F.binds (ps:=["form"]) fun _ _ _ _ _ _ us hl=>by obtain ⟨x,rfl⟩:=cE hl;rfl
 have m10:=d10.m X G
 have b11:=d11.F.binds (ps:=["form"]) fun _ _ _ _ _ _ us hl=>by obtain ⟨x,rfl⟩:=cE hl;rfl
 have m11:=d11.m X G
 have b12:=d12.F.binds (ps:=["form"]) fun _ _ _ _ _ _ us hl=>by obtain ⟨x,rfl⟩:=cE hl;rfl
 have m12:=d12.m X G
 have b13:=d13.F.binds (ps:=["book","tree"]) fun _ _ _ _ _ _ us hl=>by obtain ⟨x,y,rfl⟩:=ce hl;rfl
 have m13:=d13.m X G
 have b14:=d14.F.binds (ps:=["tree"]) fun _ _ _ _ _ _ us hl=>by obtain ⟨x,rfl⟩:=cE hl;rfl
 have m14:=d14.m X G
 have b15:=d15.F.binds (ps:=["book","tree","spot"]) fun _ _ _ _ _ _ us hl=>by obtain ⟨x,y,z,rfl⟩:=kb hl;rfl
 have m15:=d15.m X G
 have b16:=d16.F.binds (ps:=["rules","spot"]) fun _ _ _ _ _ _ us hl=>by obtain ⟨x,y,rfl⟩:=ce hl;rfl
 have m16:=d16.m X G
 have b17:=d17.F.binds (ps:=["book","tree"]) fun _ _ _ _ _ _ us hl=>by obtain ⟨x,y,rfl⟩:=ce hl;rfl
 have m17:=d17.m X G
 have b18:=d18.F.binds (ps:=["book","names"]) fun _ _ _ _ _ _ us hl=>by obtain ⟨x,y,rfl⟩:=ce hl;rfl
 have m18:=d18.m X G
 have b19:=d19.F.binds (ps:=["form"]) fun _ _ _ _ _ _ us hl=>by obtain ⟨x,rfl⟩:=cE hl;rfl
 have m19:=d19.m X G
 have b20:=d20.F.binds (ps:=["rule"]) fun _ _ _ _ _ _ us hl=>by obtain ⟨x,rfl⟩:=cE hl;rfl
 have m20:=d20.m X G
 have b21:=d21.F.binds (ps:=["place","reading"]) fun _ _ _ _ _ _ us hl=>by obtain ⟨x,y,rfl⟩:=ce hl;rfl
 have m21:=d21.m X G
 have b22:=d22.F.binds (ps:=["script","k"]) fun _ _ _ _ _ _ us hl=>by obtain ⟨x,y,rfl⟩:=ce hl;rfl
 have m22:=d22.m X G
 have b23:=d23.F.binds (ps:=["script","k"]) fun _ _ _ _ _ _ us hl=>by obtain ⟨x,y,rfl⟩:=ce hl;rfl
 have m23:=d23.m X G
 have b24:=d24.F.binds (ps:=["tape","many"]) fun _ _ _ _ _ _ us hl=>by obtain ⟨x,y,rfl⟩:=ce hl;rfl
 have m24:=d24.m X G
 have b25:=d25.F.binds (ps:=["tape","many"]) fun _ _ _ _ _ _ us hl=>by obtain ⟨x,y,rfl⟩:=ce hl;rfl
 have m25:=d25.m X G
 have b26:=d26.F.binds (ps:=["tape"]) fun _ _ _ _ _ _ us hl=>by obtain ⟨x,rfl⟩:=cE hl;rfl
 have m26:=d26.m X G
 have b27:=d27.F.binds (ps:=["tape","readings"]) fun _ _ _ _ _ _ us hl=>by obtain ⟨x,y,rfl⟩:=ce hl;rfl
 have m27:=d27.m X G
 have b28:=d28.F.binds (ps:=["tape","readings"]) fun _ _ _ _ _ _ us hl=>by obtain ⟨x,y,rfl⟩:=ce hl;rfl
 have m28:=d28.m X G
 have b29:=d29.F.binds (ps:=["tape","few"]) fun _ _ _ _ _ _ us hl=>by obtain ⟨x,y,rfl⟩:=ce hl;rfl
 have m29:=d29.m X G
 have b30:=d30.F.binds (ps:=["sorts","own","parts"]) fun _ _ _ _ _ _ us hl=>by obtain ⟨x,y,z,rfl⟩:=kb hl;rfl
 have m30:=d30.m X G
 have b31:=d31.F.binds (ps:=["sorts","own","parts","mode","j"]) fun _ _ _ _ _ _ us hl=>by obtain ⟨x,y,z,u,v,rfl⟩:=vg hl;rfl
 have m31:=d31.m X G
 have b32:=d32.F.binds (ps:=["tape","sorts","name","own","parts","mode"]) fun _ _ _ _ _ _ us hl=>by obtain ⟨x,y,z,u,v,w,rfl⟩:=xO hl;rfl
 have m32:=d32.m X G
 have b33:=d33.F.binds (ps:=["script","start","few"]) fun _ _ _ _ _ _ us hl=>by obtain ⟨x,y,z,rfl⟩:=kb hl;rfl
 have m33:=d33.m X G
 have b34:=d34.F.binds (ps:=["book"]) fun _ _ _ _ _ _ us hl=>by obtain ⟨x,rfl⟩:=cE hl;rfl
 have m34:=d34.m X G
 have b35:=d35.F.binds (ps:=["tape","book","least","sort","room"]) fun _ _ _ _ _ _ us hl=>by obtain ⟨x,y,z,u,v,rfl⟩:=vg hl;rfl
 have m35:=d35.m X G
 have b36:=d36.F.binds (ps:=["found"]) fun _ _ _ _ _ _ us hl=>by obtain ⟨x,rfl⟩:=cE hl;rfl
 have m36:=d36.m X G
 have b37:=d37.F.binds (ps:=["script","start","few"]) fun _ _ _ _ _ _ us hl=>by obtain ⟨x,y,z,rfl⟩:=kb hl;rfl
 have m37:=d37.m X G
 have b38:=d38.F.binds (ps:=["book","name"]) fun _ _ _ _ _ _ us hl=>by obtain ⟨x,y,rfl⟩:=ce hl;rfl
 have m38:=d38.m X G
 have b39:=d39.F.binds (ps:=["tree"]) fun _ _ _ _ _ _ us hl=>by obtain ⟨x,rfl⟩:=cE hl;rfl
 have m39:=d39.m X G
 have b40:=d40.F.binds (ps:=["book","tree"]) fun _ _ _ _ _ _ us hl=>by obtain ⟨x,y,rfl⟩:=ce hl;rfl
 have m40:=d40.m X G
 have b41:=d41.F.binds (ps:=["book","tree"]) fun _ _ _ _ _ _ us hl=>by obtain ⟨x,y,rfl⟩:=ce hl;rfl
 have m41:=d41.m X G
 have b42:=d42.F.binds (ps:=["formula"]) fun _ _ _ _ _ _ us hl=>by obtain ⟨x,rfl⟩:=cE hl;rfl
 have m42:=d42.m X G
 have b43:=d43.F.binds (ps:=["book","tree"]) fun _ _ _ _ _ _ us hl=>by obtain ⟨x,y,rfl⟩:=ce hl;rfl
 have m43:=d43.m X G
 have b44:=d44.F.binds (ps:=["found"]) fun _ _ _ _ _ _ us hl=>by obtain ⟨x,rfl⟩:=cE hl;rfl
 have m44:=d44.m X G
 have b45:=d45.F.binds (ps:=["e","kind"]) fun _ _ _ _ _ _ us hl=>by obtain ⟨x,y,rfl⟩:=ce hl;rfl
 have m45:=d45.m X G
 have b46:=d46.F.binds (ps:=["tape","book","tree","spots"]) fun _ _ _ _ _ _ us hl=>by obtain ⟨x,y,z,u,rfl⟩:=xP hl;rfl
 have m46:=d46.m X G
 have b47:=d47.F.binds (ps:=["book","tree","spot"]) fun _ _ _ _ _ _ us hl=>by obtain ⟨x,y,z,rfl⟩:=kb hl;rfl
 have m47:=d47.m X G
 have Gb0:Gb mg:=⟨PySem.W.mg_none_of X G z1,PySem.W.mg_none_of X G z2,PySem.W.mg_none_of X G z3,PySem.W.mg_none_of X G z4,PySem.W.mg_none_of X G z5,PySem.W.mg_none_of X G z6,PySem.W.mg_none_of X G z7,PySem.W.mg_none_of X G z8,PySem.W.mg_none_of X G z9,PySem.W.mg_none_of X G z10⟩
 have D:wB l.prog w K aD lc:=wk lD e1 e2 e3 e4 e5 e6 nD
 have mI:=PySem.W.mg_of X G aI
 have mQ:=PySem.W.mg_of X G aQ
 have hR:=tN lR
 have v11:=PySem.W.mg_none_of X G z11
 have v12:=PySem.W.mg_none_of X G z12
 have v13:=PySem.W.mg_none_of X G z13
 have v14:=PySem.W.mg_none_of X G z14
 have cl:x0 K mg C CB D0 D1 D2 D3 D4 D5 D6 D7 D9 D10 D11 D12 D13 D14 D15 D16 D17:=⟨PySem.W.mg_of X G c0,PySem.W.mg_of X G c1,PySem.W.mg_of X G c2,PySem.W.mg_of X G c3,PySem.W.mg_of X G c4,PySem.W.mg_of X G c5,PySem.W.mg_of X G c6,PySem.W.mg_of X G c7,PySem.W.mg_of X G c8,PySem.W.mg_of X G c9,PySem.W.mg_of X G c10,PySem.W.mg_of X G c11,PySem.W.mg_of X G c12,PySem.W.mg_of X G c13,PySem.W.mg_of X G c14,PySem.W.mg_of X G c15,PySem.W.mg_of X G c16,PySem.W.mg_of X G c17,q0,q1,q2,q3,q4,q5,q6,q7,(by unfold PySem.W.kitOne;rw [if_pos (beq_self_eq_true _)]),q9,q10,q11,q12,q13,q14,q15,q16,q17,PySem.W.mg_of X G aB,v14,⟨x2,x3,x4,x5,x6,x7,x8,jV x7⟩,⟨x9,x10,x11,jV x10⟩,x13⟩
 have F48:=d48.F
 obtain ⟨_,_,kV,dc,pm,an,cd,ct,_,rfl,_,_⟩:=d48.F.ex
 refine ⟨PySem.W.fnOf "law" "law" (iw rj) (cM rj) (ak rj) .none kV dc pm an cd ct,fun s v=>.of_eq rfl,fun base _ _=>?_⟩
 have g_inner:=ur (base:=base) d1.F mI D
 have g_tuples:=rF d2.F g_inner b1 d1.k m1
 have g_reads:=uk d3.F v11 mQ hR g_tuples b2 d2.k m2
 have g_sortsOf:=pJ (P:=l.prog) (w:=w) (mg:=mg) (base:=base) d4.F
 have g_forms:=pO (P:=l.prog) (w:=w) (mg:=mg) (base:=base) d5.F
 have g_sortN:=mZ d6.F g_sortsOf b4 d4.k m4
 have g_formN:=ng d7.F g_forms b5 d5.k m5
 have g_downs:=ut d8.F g_sortN b6 d6.k m6
 have g_ups:=xq d9.F g_sortN b6 d6.k m6
 have g_sortf:=km (P:=l.prog) (w:=w) (mg:=mg) (base:=base) d10.F
 have g_rules:=pK (P:=l.prog) (w:=w) (mg:=mg) (base:=base) d11.F
 have g_byKey:=uw d12.F g_rules b11 d11.k m11
 have g_sortOf:=rH d13.F g_formN b7 d7.k m7 g_sortf b10 d10.k m10
 have g_byp:=pP (P:=l.prog) (w:=w) (mg:=mg) (base:=base) d14.F v13
 have g_told:=vI d19.F g_byKey b12 d12.k m12 g_reads b3 d3.k m3
 have g_tolds:=ui d18.F g_told b19 d19.k m19 g_formN b7 d7.k m7
 have g_bySpot:=rV d17.F g_byp b14 d14.k m14 g_tolds b18 d18.k m18 g_sortOf b13 d13.k m13 g_downs b8 d8.k m8 g_ups b9 d9.k m9
 have g_spotOf:=rG (P:=l.prog) (w:=w) (mg:=mg) (base:=base) d21.F
 have g_spotsR:=mY d20.F g_spotOf b21 d21.k m21
 have g_need:=vK (P:=l.prog) (w:=w) (mg:=mg) (base:=base) d16.F cl.d8 x1 PySem.F.excBase_ValueError
 have g_readsAt:=pM d15.F g_bySpot b17 d17.k m17 g_need b16 d16.k m16 g_spotsR b20 d20.k m20
 have g_cell:=vM (P:=l.prog) (w:=w) (base:=base) d22.F Gb0
 have g_tape:=vJ d23.F g_cell b22 d22.k m22
 have g_digit:=uu (P:=l.prog) (w:=w) (mg:=mg) (base:=base) d24.F
 have g_names:=rL d25.F Gb0 g_digit b24 d24.k m24
 have g_number:=rJ d26.F g_digit b24 d24.k m24
 have g_formula:=fun ρ=>on (ρ:=ρ) d28.F Gb0 g_digit b24 d24.k m24 (uq (ρ:=ρ) d27.F Gb0 g_digit b24 d24.k m24 g_number b26 d26.k m26) b27 d27.k m27
 have g_sorts:=uj d29.F Gb0 g_digit b24 d24.k m24 g_names b25 d25.k m25
 have g_targets:=pI (P:=l.prog) (w:=w) (mg:=mg) (base:=base) d30.F Gb0
 have g_lread:=nc d31.F Gb0 g_targets b30 d30.k m30
 have g_lform:=ul d32.F Gb0 g_targets b30 d30.k m30 g_lread b31 d31.k m31 g_formula b28 d28.k m28
 have g_book:=vN d33.F Gb0 g_digit b24 d24.k m24 g_lform b32 d32.k m32 g_tape b23 d23.k m23 g_sorts b29 d29.k m29 g_names b25 d25.k m25
 have g_least:=um (P:=l.prog) (w:=w) (mg:=mg) (base:=base) d34.F Gb0 v12
 have g_tree:=qw d35.F Gb0 v12 g_digit b24 d24.k m24 b35 m35 60
 have g_whole:=rN (P:=l.prog) (w:=w) (mg:=mg) (base:=base) d36.F Gb0
 have g_grown:=rS d37.F Gb0 g_book b33 d33.k m33 g_least b34 d34.k m34 g_tape b23 d23.k m23 g_digit b24 d24.k m24 g_tree b35 d35.k m35
 have g_lwords:=rM (P:=l.prog) (w:=w) (mg:=mg) (base:=base) d38.F
 have g_lboughs:=pN (P:=l.prog) (w:=w) (mg:=mg) (base:=base) d39.F Gb0
 have g_lspots:=rO d40.F g_lboughs b39 d39.k m39 g_lwords b38 d38.k m38
 have g_are:=xt d44.F Gb0 v11 g_whole b36 d36.k m36
 have g_lrules:=rP d41.F g_lboughs b39 d39.k m39
 have g_lrd:=om (P:=l.prog) (w:=w) (mg:=mg) (base:=base) d42.F b42 m42 15
 have g_lrds:=vL d43.F g_lrules b41 d41.k m41 g_lspots b40 d40.k m40 g_lrd b42 d42.k m42
 have g_alone:=uy (P:=l.prog) (w:=w) (mg:=mg) (base:=base) d45.F Gb0 cl
 have g_refused:=pL d47.F cl g_readsAt b15 d15.k m15 g_alone b45 d45.k m45
 have g_noSpot:=rK d46.F Gb0 g_digit b24 d24.k m24 g_lboughs b39 d39.k m39
 exact xr F48 Gb0 g_grown b37 d37.k m37 g_lrds b43 d43.k m43 g_lspots b40 d40.k m40 g_tape b23 d23.k m23 g_digit b24 d24.k m24 (wq g_readsAt vy) b15 d15.k m15 g_are b44 d44.k m44 g_noSpot b46 d46.k m46 g_refused b47 d47.k m47
theorem walk {l:PySem.W.OpenLaw} {q:Program} {loose:List Str} {XP:(Str->Option Value)->Heap->Prop} {YP:World->Heap->Prop} {d:DefRec} {K:Params->PySem.W.Frag} (hn:l.most=some 63) (hdf:d.params.defaults=[])
  (hY: ∀ (w:World) (h:Heap),YP w h->(K w.params).In h)
  (F: ∀ (w:World) (mg:Str->Option Value) (fa:Addr) (h:Heap),(K w.params).In h->h.Ns mainGlobals mg->mg d.name=some (.ref fa)->
   ∃ fd:FuncData,(∀ (s:Shared) (u:Value),BindsTo s fd ⟨[u],[]⟩ [("script",u)])/\ ∀ base:Heap,(K w.params).In base->base.Ns mainGlobals mg->aE l.prog w (K w.params) mg base CX0 64 fa fd ["script"] (nL (K w.params))):
  PySem.W.WalkO q loose XP YP l.row.toRowW d [] (fun f vs=>PySem.call f vs):=
 L2.walk_of (n:=63) (k:=64) (x:="script") (CX:=fun _=>CX0) (sp:=fun w=>nL (K w.params)) hn (by decide) hdf ⟨rfl,by decide,by decide⟩ hY F (fun _ _ a ns hl _ hS=>⟨a,ns,rfl,hS,hl,fun _=>rfl⟩) fun _ _ _ _ _ z=>z
end My
open PySem PySem.W PyProof.Rows
set_option maxRecDepth 100000 in
set_option maxHeartbeats 0 in
theorem PySem.Challenge.cw_boughworth_k26_what_spots_read_holds : PySem.Challenge.rw_boughworth_k26_what_spots_read.Holds := by
 refine My.parts.c My.parts.a0 My.parts.a1 My.parts.e0 My.parts.e1 My.parts.b0 My.parts.b1 ?_
 delta My.parts
 dsimp only
 k_fill
 refine My.walk (l:=PySem.Challenge.rw_boughworth_k26_what_spots_read) rfl rfl (fun w h Y=>PySem.W.kIn_of Y) ?F
 case F=>
  intro w mg fa h KX G hmg
  refine' My.all_mk KX G hmg ?d1 ?d2 ?d3 ?d4 ?d5 ?d6 ?d7 ?d8 ?d9 ?d10 ?d11 ?d12 ?d13 ?d14 ?d15 ?d16 ?d17 ?d18 ?d19 ?d20 ?d21 ?d22 ?d23 ?d24 ?d25 ?d26 ?d27 ?d28 ?d29 ?d30 ?d31 ?d32 ?d33 ?d34 ?d35 ?d36 ?d37 ?d38 ?d39 ?d40 ?d41 ?d42 ?d43 ?d44 ?d45 ?d46 ?d47 ?d48 ?z1 ?z2 ?z3 ?z4 ?z5 ?z6 ?z7 ?z8 ?z9 ?z10 ?z11 ?z12 ?z13 ?z14 ?aI ?lD ?e1 ?e2 ?e3 ?e4 ?e5 ?e6 ?nD ?aQ ?lR ?aB ?c0 ?c1 ?c2 ?c3 ?c4 ?c5 ?c6 ?c7 ?c8 ?c9 ?c10 ?c11 ?c12 ?c13 ?c14 ?c15 ?c16 ?c17 ?q0 ?q1 ?q2 ?q3 ?q4 ?q5 ?q6 ?q7 ?q9 ?q10 ?q11 ?q12 ?q13 ?q14 ?q15 ?q16 ?q17 ?x1 ?x2 ?x3 ?x4 ?x5 ?x6 ?x7 ?x8 ?x9 ?x10 ?x11 ?x13
  (case d1=>exact My.Df.of (by k_is) (by k_is) (by k_is) (by k_is))
  (case d2=>exact My.Df.of (by k_is) (by k_is) (by k_is) (by k_is))
  (case d3=>exact My.Df.of (by k_is) (by k_is) (by k_is) (by k_is))
  (case d4=>exact My.Df.of (by k_is) (by k_is) (by k_is) (by k_is))
  (case d5=>exact My.Df.of (by k_is) (by k_is) (by k_is) (by k_is))
  (case d6=>exact My.Df.of (by k_is) (by k_is) (by k_is) (by k_is))
  (case d7=>exact My.Df.of (by k_is) (by k_is) (by k_is) (by k_is))
  (case d8=>exact My.Df.of (by k_is) (by k_is) (by k_is) (by k_is))
  (case d9=>exact My.Df.of (by k_is) (by k_is) (by k_is) (by k_is))
  (case d10=>exact My.Df.of (by k_is) (by k_is) (by k_is) (by k_is))
  (case d11=>exact My.Df.of (by k_is) (by k_is) (by k_is) (by k_is))
  (case d12=>exact My.Df.of (by k_is) (by k_is) (by k_is) (by k_is))
  (case d13=>exact My.Df.of (by k_is) (by k_is) (by k_is) (by k_is))
  (case d14=>exact My.Df.of (by k_is) (by k_is) (by k_is) (by k_is))
  (case d15=>exact My.Df.of (by k_is) (by k_is) (by k_is) (by k_is))
  (case d16=>exact My.Df.of (by k_is) (by k_is) (by k_is) (by k_is))
  (case d17=>exact My.Df.of (by k_is) (by k_is) (by k_is) (by k_is))
  (case d18=>exact My.Df.of (by k_is) (by k_is) (by k_is) (by k_is))
  (case d19=>exact My.Df.of (by k_is) (by k_is) (by k_is) (by k_is))
  (case d20=>exact My.Df.of (by k_is) (by k_is) (by k_is) (by k_is))
  (case d21=>exact My.Df.of (by k_is) (by k_is) (by k_is) (by k_is))
  (case d22=>exact My.Df.of (by k_is) (by k_is) (by k_is) (by k_is))
  (case d23=>exact My.Df.of (by k_is) (by k_is) (by k_is) (by k_is))
  (case d24=>exact My.Df.of (by k_is) (by k_is) (by k_is) (by k_is))
  (case d25=>exact My.Df.of (by k_is) (by k_is) (by k_is) (by k_is))
  (case d26=>exact My.Df.of (by k_is) (by k_is) (by k_is) (by k_is))
  (case d27=>exact My.Df.of (by k_is) (by k_is) (by k_is) (by k_is))
  (case d28=>exact My.Df.of (by k_is) (by k_is) (by k_is) (by k_is))
  (case d29=>exact My.Df.of (by k_is) (by k_is) (by k_is) (by k_is))
  (case d30=>exact My.Df.of (by k_is) (by k_is) (by k_is) (by k_is))
  (case d31=>exact My.Df.of (by k_is) (by k_is) (by k_is) (by k_is))
  (case d32=>exact My.Df.of (by k_is) (by k_is) (by k_is) (by k_is))
  (case d33=>exact My.Df.of (by k_is) (by k_is) (by k_is) (by k_is))
  (case d34=>exact My.Df.of (by k_is) (by k_is) (by k_is) (by k_is))
  (case d35=>exact My.Df.of (by k_is) (by k_is) (by k_is) (by k_is))
  (case d36=>exact My.Df.of (by k_is) (by k_is) (by k_is) (by k_is))
  (case d37=>exact My.Df.of (by k_is) (by k_is) (by k_is) (by k_is))
  (case d38=>exact My.Df.of (by k_is) (by k_is) (by k_is) (by k_is))
  (case d39=>exact My.Df.of (by k_is) (by k_is) (by k_is) (by k_is))
  (case d40=>exact My.Df.of (by k_is) (by k_is) (by k_is) (by k_is))
  (case d41=>exact My.Df.of (by k_is) (by k_is) (by k_is) (by k_is))
  (case d42=>exact My.Df.of (by k_is) (by k_is) (by k_is) (by k_is))
  (case d43=>exact My.Df.of (by k_is) (by k_is) (by k_is) (by k_is))
  (case d44=>exact My.Df.of (by k_is) (by k_is) (by k_is) (by k_is))
  (case d45=>exact My.Df.of (by k_is) (by k_is) (by k_is) (by k_is))
  (case d46=>exact My.Df.of (by k_is) (by k_is) (by k_is) (by k_is))
  (case d47=>exact My.Df.of (by k_is) (by k_is) (by k_is) (by k_is))
  (case d48=>exact My.Df.of (by k_is) (by k_is) (by k_is) (by k_is))
  (case z1=>k_is)
  (case z2=>k_is)
  (case z3=>k_is)
  (case z4=>k_is)
  (case z5=>k_is)
  (case z6=>k_is)
  (case z7=>k_is)
  (case z8=>k_is)
  (case z9=>k_is)
  (case z10=>k_is)
  (case z11=>k_is)
  (case z12=>k_is)
  (case z13=>k_is)
  (case z14=>k_is)
  (case aI=>k_is)
  (case lD=>k_is)
  (case e1=>first | rfl | k_is)
  (case e2=>first | rfl | k_is)
  (case e3=>first | rfl | k_is)
  (case e4=>first | rfl | k_is)
  (case e5=>first | rfl | k_is)
  (case e6=>first | rfl | k_is)
  (case nD=>first | rfl | decide | k_is)
  (case aQ=>k_is)
  (case lR=>k_is)
  (case aB=>k_is)
  (case c0=>k_is)
  (case c1=>k_is)
  (case c2=>k_is)
  (case c3=>k_is)
  (case c4=>k_is)
  (case c5=>k_is)
  (case c6=>k_is)
  (case c7=>k_is)
  (case c8=>k_is)
  (case c9=>k_is)
  (case c10=>k_is)
  (case c11=>k_is)
  (case c12=>k_is)
  (case c13=>k_is)
  (case c14=>k_is)
  (case c15=>k_is)
  (case c16=>k_is)
  (case c17=>k_is)
  (case q0=>kit_is)
  (case q1=>kit_is)
  (case q2=>kit_is)
  (case q3=>kit_is)
  (case q4=>kit_is)
  (case q5=>kit_is)
  (case q6=>kit_is)
  (case q7=>kit_is)
  (case q9=>kit_is)
  (case q10=>kit_is)
  (case q11=>kit_is)
  (case q12=>kit_is)
  (case q13=>kit_is)
  (case q14=>kit_is)
  (case q15=>kit_is)
  (case q16=>kit_is)
  (case q17=>kit_is)
  (case x1=>k_exc)
  (case x2=>k_is)
  (case x3=>k_is)
  (case x4=>k_is)
  (case x5=>k_is)
  (case x6=>k_is)
  (case x7=>k_is)
  (case x8=>k_is)
  (case x9=>k_is)
  (case x10=>k_is)
  (case x11=>k_is)
  (case x13=>kit_is)
