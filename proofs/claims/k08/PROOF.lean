import PyProof.Rows.All
import Wide.All
import OpenK.AllK
import Wide.FinOn
import Lean
import PyProof.EqAt
import PyProof.EqKinds
import PyProof.TupleCall
import PyProof.TupleKey
import PyProof.DictKeyH
import PyProof.SumWalk
import KE.KDictList
import PyProof.NeKinds
import PyProof.Draws
import PyProof.ZipIter
import PyProof.ListMulRoad
import KE.RegKIsAll
import OpenK.KOwn
import PyProof.EnumMake
import PyProof.Rows.StrNews
import PyProof.StrCalls6
import PyProof.ToksMono
import PyProof.StrLawsReplace
import PyProof.StrLawsJoin
import PyProof.Rows.StrSplitJoin
import PyProof.DictValues
import PyProof.DictWalks
import KE.KRevIter
import Flt.Sum
import PyProof.FitsBits
import PyProof.DictTable
import KE.KItemsList
import PyProof.DictItems
import KE.KPairComp
import PyProof.CollectWalk
import PySem.Challenge.RW_boughworth_k08_books_let_by
set_option Elab.async false
set_option linter.all false
set_option bootstrap.genMatcherCode false
set_option compiler.extract_closed false
set_option genSizeOfSpec false
set_option maxRecDepth 100000
set_option maxHeartbeats 4000000
namespace My
open PySem PySem.W PySem.Calls PyProof.Rows
theorem with_hl {P R Q:Prop} (hl:P) (hc:R) (main:Q):Q:=main
structure Parts (Q:Prop):Type where
 {P1:Prop}
 {P2:Prop}
 {P3:Prop}
 {P4:Prop}
 {P5:Prop}
 {P6:Prop}
 {W:Prop}
 a0:P1
 a1:P2
 e0:P3
 e1:P4
 b0:P5
 b1:P6
 c:P1->P2->P3->P4->P5->P6->W->Q
noncomputable def yd (_:Params):Obj:={cls:=Value.type "tuple",data:=Data.seq #[]}
noncomputable def yc (_:Params):Obj:={cls:=Value.none,data:=Data.fields #[]}
noncomputable def ya (_:Params):Obj:={cls:=Value.type "code",data:=Data.fields #[Value.str (Str.ofString "<module>") 182,Value.str (Str.ofString "<module>") 183,Value.str (Str.ofString "/claim/cut.py") 184,Value.int 1 0,Value.int 0 0,Value.int 0 0,Value.int 0 0,Value.int 0 0,Value.ref 11,Value.bool false,Value.int 181 0,Value.ref 12,Value.none,Value.none,Value.none,Value.none,Value.int 185 0,Value.int 1 0,Value.str (Str.ofString "/claim/cut.py") 186]}
noncomputable def x9 (_:Params):Obj:={cls:=Value.type "frame",slots:= #[some (Value.ref 13),some (Value.ref 3),some (Value.ref 3),none,some (Value.str (Str.ofString "__main__") 164),none,some (Value.ref 0)]}
noncomputable def xw (P:Params):BT:=(BT.node (boot_o_0 P) (BT.node (boot_o_1 P) (BT.node (boot_o_3 P) (BT.node (boot_o_7 P) BT.nil BT.nil) (BT.node (yd P) BT.nil BT.nil)) (BT.node (boot_o_5 P) (BT.node (boot_o_9 P) BT.nil BT.nil) (BT.node (ya P) BT.nil BT.nil))) (BT.node (boot_o_2 P) (BT.node (boot_o_4 P) (BT.node (boot_o_8 P) BT.nil BT.nil) (BT.node (yc P) BT.nil BT.nil)) (BT.node (boot_o_6 P) (BT.node (boot_o_10 P) BT.nil BT.nil) (BT.node (x9 P) BT.nil BT.nil))))
noncomputable def ww (p:Program):Env:={scope:=p.main.scope,locals:=mainNs,globals:=mainNs,cells:=[],code:=.ref 13,frame:=some 14}
noncomputable abbrev hC (p:Program):Code:=.body (behindTheImports p) (ww p)
noncomputable def hSt (w:World) (os:OsState):SharedT:=⟨xw w.params,15,{},#[],{},187,os⟩
abbrev nj:Pos:=⟨0,0,0,0⟩
noncomputable abbrev xx (p:Program):Thread:=piecesOf (behindTheImports p) (ww p) (hC p) nj [topFrame nj]
noncomputable abbrev tW (p:Program) (n:Nat) (w:World) (os:OsState):Option (Flow×SharedT×Code×Pos):=PySem.W.Fast.tw10110043849684766642 PySem.W.Fast.tw14364793385576792824 p w 11 (some (.ref 6)) 1 n (hSt w os) (xx p)
theorem ye {p:Program} {w:World} {n₀:Nat} {ann:Option Value} (s:Shared) (c:Code) (pos:Pos):topRun treeTable p w n₀ ann 2 s ⟨doneF .next,c,pos,[topFrame nj]⟩=some s:=by
 obtain ⟨h,g,d,t,o⟩:=s
 kernel_rfl
theorem xy (P:Params):((boot_heap P).isNs mainGlobals&&(#[]:Array GenState).size==0,(boot_heap P).objs.size,(boot_heap P).nsMap mainGlobals "__annotations__")=(true,11,some (.ref 6)):=by kernel_rfl
theorem left_of {p q:Program} {loose:List Str} {Xt:Shared->Bool} {α:Type} {Yf:Shared->α} {Ya:World->α} {N n:Nat} {g0:Bool} {posE:Pos}
  (e:opening p=plainProg p.main.scope.names) (hN:Nat.ble 600 N=true) (f: ∀ s,fenceModules? p s=some s) (le:Nat.ble (12+ (1+ (n+2))) N=true)
  (pre: ∀ (w:World) (os:OsState),topGo treeTable p w 11 (some (.ref 6)) 12 ⟨boot_heap w.params,#[],boot_drawn,boot_toks,os⟩ (topStub p)=some ((hSt w os).abs,⟨denote treeTable (hC p),hC p,nj,[topFrame nj]⟩))
  (block: ∀ (w:World) (os:OsState),segRun treeTable p w 11 (some (.ref 6)) 1 1 (hSt w os).abs (blockOf (behindTheImports p) (ww p) (hC p) nj [topFrame nj])=some (.next,(hSt w os).abs,hC p,nj))
  (runA: ∀ (w:World) (os:OsState),(tW p n w os).map (fun r=>(r.1,r.2.2,(staticsOk (importedModules p.main.body) (boot_heap w.params) r.2.1.abs.heap&&namesBound p r.2.1.abs.heap&&gensDone r.2.1.abs&&laidKept (boot_heap w.params) r.2.1.abs.heap),(openSeen q loose (importedModules p.main.body) Xt g0 r.2.1.abs).1,Yf r.2.1.abs))=some (.next,(hC p,posE),true,(openGood q loose).1,Ya w))
  (runE: ∀ (w:World) (os:OsState),(tW p n w os).map (fun r=>((openSeen q loose (importedModules p.main.body) Xt g0 r.2.1.abs).2.1,(openSeen q loose (importedModules p.main.body) Xt g0 r.2.1.abs).2.2.1))=some ((openGood q loose).2.1,(openGood q loose).2.2.1))
  (runB: ∀ (w:World) (os:OsState),(tW p n w os).map (fun r=>(openSeen q loose (importedModules p.main.body) Xt g0 r.2.1.abs).2.2.2)=some (openGood q loose).2.2.2):LeftO p q loose Xt Yf Ya N g0:=by
 intro w
 obtain ⟨⟨h,gs,d,k,os⟩,e1,e'⟩:=Option.map_eq_some_iff.mp (boot_open e hN f w)
 obtain ⟨rfl,rfl,rfl,rfl⟩:h=boot_heap w.params/\gs= #[]/\d=boot_drawn/\k=boot_toks:=by simpa using e'
 obtain ⟨z1,z2,z3⟩:_/\_/\_:=by simpa only [Prod.mk.injEq]using xy w.params
 have E:segRunT treeTable p w 11 (some (.ref 6)) 1 n (hSt w os) (xx p)=tW p n w os:=by
  unfold tW
  rw [<- PySem.W.Fast.te10110043849684766642,<- PySem.W.Fast.te14364793385576792824]
 have A:=runA w os
 have B:=runB w os
 have E2:=runE w os
 obtain ⟨⟨fl,x,c,pos⟩,r1,r2⟩:=Option.map_eq_some_iff.mp A
 simp only [Prod.mk.injEq]at r2
 obtain ⟨rfl,⟨rfl,rfl⟩,l1,l2a,yb⟩:=r2
 have l2e:((openSeen q loose (importedModules p.main.body) Xt g0 x.abs).2.1,(openSeen q loose (importedModules p.main.body) Xt g0 x.abs).2.2.1)=((openGood q loose).2.1,(openGood q loose).2.2.1):=by rw [r1]at E2;exact Option.some.inj E2
 have l2d:(openSeen q loose (importedModules p.main.body) Xt g0 x.abs).2.2.2=(openGood q loose).2.2.2:=by rw [r1]at B;exact Option.some.inj B
 have l2:openSeen q loose (importedModules p.main.body) Xt g0 x.abs=openGood q loose:=Prod.ext l2a (Prod.ext (Prod.mk.inj l2e).1 (Prod.ext (Prod.mk.inj l2e).2 l2d))
 have s1:=segRun_of (E.trans r1)
 have t1:=piece_app (rest:=[]) s1 (piece_nil (ye x.abs _ _))
 rw [List.append_nil]at t1
 have t3:=go_top (pre w os) (piece_block (block w os) t1)
 have r:=topRun_mono (N- (12+ (1+ (n+2)))) _ _ _ _ t3
 rw [show 12+ (1+ (n+2)) + (N- (12+ (1+ (n+2))))=N by have:=Nat.le_of_ble_eq_true le;omega]at r
 have t:topFrom treeTable p w N ⟨boot_heap w.params,#[],boot_drawn,boot_toks,os⟩=some x.abs:=by
  unfold topFrom
  dsimp only
  rw [z1,z2,z3,r]
  show (match staticsOk _ _ _&&namesBound _ _&&gensDone _&&laidKept _ _ with | true=>_ | false=>_)=_
  rw [l1]
 unfold openEnds
 rw [e1]
 change Option.map _ (topFrom treeTable p w N _)=_
 rw [t]
 exact congrArg some (Prod.ext l2 yb)
end My
open PySem PySem.W PyProof.Rows in
set_option maxHeartbeats 0 in
noncomputable def My.parts:My.Parts PySem.Challenge.rw_boughworth_k08_books_let_by.Holds:=by
 apply My.Parts.mk
 case c=>
  intro ha0 ha1 he0 he1 hb0 hb1 hW
  w_on;o_law
  apply My.with_hl
  case main=>
   k_head;(case hw=>w_witness2)
  case hc=>exact hW
  case hl=>
   refine My.left_of (n:=2450) (posE:=⟨379,0,391,15⟩) ?e ?hN ?f ?le ?pre ?block (byRow2 "special-get-raises" ha0 ha1) (byRow2 "special-get-raises" he0 he1) (byRow2 "special-get-raises" hb0 hb1)
   case e=>kernel_rfl
   case hN=>decide
   case f=>intro s;kernel_rfl
   case le=>decide
   case pre=>(intro w os;kernel_rfl)
   case block=>(intro w os;kernel_rfl)
 case a0=>(intro w os;kernel_rfl)
 case a1=>(intro w os;kernel_rfl)
 case e0=>(intro w os;kernel_rfl)
 case e1=>(intro w os;kernel_rfl)
 case b0=>(intro w os;kernel_rfl)
 case b1=>(intro w os;kernel_rfl)
namespace PySem
section
variable {prog:Program} {w:World} {K K2:Type} [DecidableEq K] [DecidableEq K2] {knd:KeyKind prog w K} {kn2:KeyKind prog w K2}
noncomputable def IsPairKey (knd:KeyKind prog w K) (kn2:KeyKind prog w K2) (h:Heap) (p:List K×K2) (a:Addr):Prop:=
 ∃ o items n b v,h.get? a=some o/\o.cls=.type "tuple"/\o.data=.seq items n/\items.toList=[.ref b,v]/\IsTupleKey knd h p.1 b/\kn2.is p.2 v=true
noncomputable def i9 (knd:KeyKind prog w K) (kn2:KeyKind prog w K2) (p:List K×K2):Int:=reduceHash (Builtin.Tuple.tupleHashOf [tupleKeyHash knd p.1,kn2.hash p.2])
variable {A:Around} {E:Value->Shared->Prop} {s:Shared}
theorem IsPairKey.typeIs {p:List K×K2} {a:Addr} (x:IsPairKey knd kn2 s.heap p a):s.TypeIs (.ref a) "tuple":=by
 obtain ⟨o,_,_,_,_,e,c,_⟩:=x
 exact ⟨o,e,c⟩
theorem IsPairKey.inj {h:Heap} {p q:List K×K2} {a:Addr} (x:IsPairKey knd kn2 h p a) (y:IsPairKey knd kn2 h q a):p=q:=by
 obtain ⟨o,i,n,b,v,e,_,d,t,k,m⟩:=x
 obtain ⟨o',i',n',b',v',e',_,d',t',k',m'⟩:=y
 rw [e]at e';cases e'
 rw [d]at d';cases d'
 rw [t]at t'
 have h1:b=b'/\v=v':=by simpa using t'
 obtain ⟨rfl,rfl⟩:=h1
 exact Prod.ext (k.inj k') (kn2.inj _ _ _ m m')
theorem IsPairKey.keeps {h h':Heap} {p:List K×K2} {a d:Addr} {o:Obj} {es ep} (x:IsPairKey knd kn2 h p a) (ho:h.get? d=some o) (hd:o.data=.dict es ep) (hs:Heap.SameBut d h h'):IsPairKey knd kn2 h' p a:=by
 obtain ⟨o',i,n,b,v,e,c,dt,t,k,m⟩:=x
 refine ⟨o',i,n,b,v,?_,c,dt,t,k.keeps ho hd hs,m⟩
 have ne:a≠d:=fun z=>by
  subst z
  rw [ho]at e;cases e
  rw [hd]at dt;cases dt
 rw [<- e]
 exact hs.2 a ne
theorem fX {p:List K×K2} {a:Addr} {Q:Int->Shared->Prop} (hu:A.units+8<cLine) (hk:IsPairKey knd kn2 s.heap p a) (h:Q (i9 knd kn2 p) {s with toks:=s.toks+ (p.1.length+1+1+1)}):
  wpAny (model prog w) A (pyHash (.ref a)) Q E s:=by
 have hT:=hk.typeIs
 obtain ⟨o,items,n,b,v,ho,_,hd,hi,hb,hv⟩:=hk
 unfold pyHash
 first | unfold pyHashByItsType | skip
 first | refine wpAny_bind (wpAny_cRoomFor_or (.inr (by omega)) ?_) | skip
 refine wpAny_bind (wpAny_specialOf hT F.slot_tuple_hash.lookup ?_)
 show wpAny _ _ (if (some (Value.builtin "tuple.__hash__")==some Value.none)=true then _ else _) Q E s
 rw [if_neg (by rw [beq_builtin_none];exact Bool.false_ne_true)]
 refine wpAny_bind (wpAny_specialOf hT F.slot_tuple_hash.lookup ?_)
 show wpAny _ _ (callSpecialIfBoundUnlessNone? (.ref a) "__hash__" _ >>= _) Q E s
 refine wpAny_bind (wpAny_callSpecialIfBoundUnlessNone?_slot hT F.slot_tuple_hash (wpAny_call_entry F.slot_tuple_hash hT F.entry_tuple_hash ?_ (F.args_tuple_hash_1 _)))
 show wpAny _ _ (Builtin.Tuple.tupleItemsOf (.ref a) >>= _) _ _ s
 refine wpAny_bind (wpAny_tupleItemsOf ho hd ?_)
 refine wpAny_bind ?_
 rw [<- Array.forIn_toList,hi,List.forIn_cons]
 refine wpAny_bind (wpAny_bind (wpAny_pyHash_tuple (by show _<cLine;simp;omega) hb ?_))
 refine wpAny_pure ?_
 show wpAny _ _ (forIn [v] #[tupleKeyHash knd p.1] _) _ _ _
 rw [List.forIn_cons]
 refine wpAny_bind (wpAny_bind (kn2.pyHash hv ?_))
 refine wpAny_pure ?_
 show wpAny _ _ (forIn [] _ _) _ _ _
 rw [List.forIn_nil]
 refine wpAny_pure ?_
 show wpAny _ _ (retInt (Builtin.Tuple.tupleHashOf [tupleKeyHash knd p.1,kn2.hash p.2])) _ _ _
 refine wpAny_ret_mkInt ?_
 generalize hz:Builtin.Tuple.tupleHashOf [tupleKeyHash knd p.1,kn2.hash p.2]=z
 show wpAny _ _ (if (decide (-(2:Int) ^63<=z)&&decide (z<2^63))=true then _ else _) Q E _
 unfold i9 reduceHash at h
 rw [hz]at h
 by_cases hr:(decide (-(2:Int) ^63<=z)&&decide (z<2^63))=true
 ·rw [if_pos hr]
  rw [if_pos hr]at h
  exact wpAny_pure (by simpa [Nat.add_assoc]using h)
 ·rw [if_neg hr]
  rw [if_neg hr]at h
  exact wpAny_bind (wpAny_rule (wpAny_pure (by simpa [Nat.add_assoc]using h)))
theorem ma (m:Nat) {ks:List K} {a:Addr} {Q:Bool->Shared->Prop} (hk:IsTupleKey knd s.heap ks a) (h:Q true s):wpAny (model prog w) A (eqIsQuiet (m+1) (.ref a)) Q E s:=by
 have hT:=hk.typeIs
 obtain ⟨o,items,n,ho,_,hd,hi⟩:=hk
 unfold eqIsQuiet
 refine wpAny_bind (wpAny_specialOf hT F.slot_tuple_eq.lookup ?_)
 show wpAny _ _ (isInstance (.ref a) (.type "tuple") >>= _) _ _ s
 refine wpAny_bind (wpAny_isInstance hT isSubtype_tuple_tuple ?_)
 simp only [Bool.not_true,Bool.false_eq_true,if_false]
 refine wpAny_bind (wpAny_seqItems ho hd (wpAny_bind ?_))
 show wpAny _ _ (forIn items _ _) _ _ s
 rw [<- Array.forIn_toList]
 refine wpAny_forIn_list _ (fun rest r s'=>r.1=none/\s'=s/\ ∀ v∈rest,carriedByValue v=true) _ ?_ ?_ _ _ ⟨rfl,rfl,hi.byValue⟩
 ·rintro v rest r s' ⟨hr,rfl,hall⟩
  rw [eqIsQuiet_byValue _ (hall v List.mem_cons_self)]
  refine wpAny_bind (wpAny_pure ?_)
  simp only [Bool.not_true,Bool.false_eq_true,if_false]
  exact wpAny_pure ⟨rfl,rfl,fun u hu'=>hall u (List.mem_cons_of_mem _ hu')⟩
 ·rintro ⟨r1,r2⟩ s' ⟨hr,rfl,_⟩
  simp only at hr
  subst hr
  exact wpAny_pure h
theorem eI {p:List K×K2} {a:Addr} {Q:Bool->Shared->Prop} (hk:IsPairKey knd kn2 s.heap p a) (h:Q true s):wpAny (model prog w) A (eqIsQuiet 8 (.ref a)) Q E s:=by
 have hT:=hk.typeIs
 obtain ⟨o,items,n,b,v,ho,_,hd,hi,hb,hv⟩:=hk
 unfold eqIsQuiet
 refine wpAny_bind (wpAny_specialOf hT F.slot_tuple_eq.lookup ?_)
 show wpAny _ _ (isInstance (.ref a) (.type "tuple") >>= _) _ _ s
 refine wpAny_bind (wpAny_isInstance hT isSubtype_tuple_tuple ?_)
 simp only [Bool.not_true,Bool.false_eq_true,if_false]
 refine wpAny_bind (wpAny_seqItems ho hd ?_)
 refine wpAny_bind ?_
 show wpAny _ _ (forIn items _ _) _ _ s
 rw [<- Array.forIn_toList,hi,List.forIn_cons]
 refine wpAny_bind (wpAny_bind (ma 6 hb ?_))
 simp only [Bool.not_true,Bool.false_eq_true,if_false]
 refine wpAny_pure ?_
 show wpAny _ _ (forIn [v] (none,()) _) _ _ _
 rw [List.forIn_cons,eqIsQuiet_byValue _ (kn2.byValue _ _ hv)]
 refine wpAny_bind (wpAny_bind (wpAny_pure ?_))
 simp only [Bool.not_true,Bool.false_eq_true,if_false]
 refine wpAny_pure ?_
 show wpAny _ _ (forIn [] _ _) _ _ _
 rw [List.forIn_nil]
 exact wpAny_pure (wpAny_pure h)
theorem kJ {p q:List K×K2} {a b:Addr} {R:Fin->Shared->Prop} (hu:A.units+4<cLine) (hx:IsPairKey knd kn2 s.heap p a) (hy:IsPairKey knd kn2 s.heap q b) (h:R (.done (.ret (.bool (decide (p=q))))) s):
  wpAny (model prog w) A (Builtin.«tuple.__eq__» ⟨[.ref a,.ref b],[]⟩) R E s:=by
 have hTb:=hy.typeIs
 obtain ⟨oa,xs,na,a1,v1,hoa,_,hda,hia,hka,hva⟩:=hx
 obtain ⟨ob,ys,nb,b1,v2,hob,_,hdb,hib,hkb,hvb⟩:=hy
 show wpAny _ _ (isInstance (.ref b) (.type "tuple") >>= _) _ _ s
 refine wpAny_bind (wpAny_isInstance hTb isSubtype_tuple_tuple ?_)
 simp only [Bool.not_true,Bool.false_eq_true,if_false]
 refine wpAny_bind (wpAny_tupleItemsOf hoa hda (wpAny_bind (wpAny_tupleItemsOf hob hdb (wpAny_bind ?_))))
 have hs:xs.size=ys.size:=by rw [<- Array.length_toList,<- Array.length_toList,hia,hib];rfl
 rw [hia,hib]
 show wpAny _ _ (forIn [(Value.ref a1,Value.ref b1),(v1,v2)] (none,()) _) _ _ _
 rw [List.forIn_cons]
 refine wpAny_bind (wpAny_bind (wpAny_eqBool_tuple (by omega) hka hkb ?_))
 by_cases h1:p.1=q.1
 ·rw [decide_eq_true h1]
  simp only [Bool.not_true,Bool.false_eq_true,if_false]
  refine wpAny_pure ?_
  show wpAny _ _ (forIn [(v1,v2)] (none,()) _) _ _ _
  rw [List.forIn_cons]
  refine wpAny_bind (wpAny_bind (kn2.eqBool (a:=p.2) (b:=q.2) hva hvb ?_))
  by_cases h2:p.2=q.2
  ·rw [decide_eq_true h2]
   simp only [Bool.not_true,Bool.false_eq_true,if_false]
   refine wpAny_pure ?_
   show wpAny _ _ (forIn [] _ _) _ _ _
   rw [List.forIn_nil]
   rw [decide_eq_true (Prod.ext h1 h2)]at h
   refine wpAny_pure (wpAny_pure ?_)
   show R (.done (.ret (.bool (xs.size==ys.size)))) s
   rw [hs,beq_self_eq_true]
   exact h
  ·rw [decide_eq_false h2]
   simp only [Bool.not_false,if_true]
   rw [decide_eq_false fun e=>h2 (congrArg Prod.snd e)]at h
   exact wpAny_bind (wpAny_pure (wpAny_pure (wpAny_pure (wpAny_pure h))))
 ·rw [decide_eq_false h1]
  simp only [Bool.not_false,if_true]
  rw [decide_eq_false fun e=>h1 (congrArg Prod.fst e)]at h
  exact wpAny_bind (wpAny_pure (wpAny_pure (wpAny_pure (wpAny_pure h))))
theorem fY {p q:List K×K2} {a b:Addr} {Q:Bool->Shared->Prop} (hu:A.units+8<cLine) (hx:IsPairKey knd kn2 s.heap p a) (hy:IsPairKey knd kn2 s.heap q b) (h:Q (decide (p=q)) s):
  wpAny (model prog w) A (eqBool (.ref a) (.ref b)) Q E s:=by
 unfold eqBool
 try with_reducible refine wpAny_holding ?_
 show wpAny _ _ (if (Value.ref a==Value.ref b)=true then _ else _) Q E s
 by_cases hab:(Value.ref a==Value.ref b)=true
 ·rw [if_pos hab]
  have e:a=b:=by have:=eq_of_beq hab;injection this
  subst e
  obtain rfl:=hx.inj hy
  exact wpAny_bind (wpAny_rule (wpAny_pure (by simpa using h)))
 ·rw [if_neg hab]
  exact wpAny_bind (wpAny_richCompare_same_room (op:=.Eq) hx.typeIs hy.typeIs F.slot_tuple_eq
   (wpAny_call_entry F.slot_tuple_eq hx.typeIs F.entry_tuple_eq (kJ (by simp;omega) hx hy ⟨_,rfl,(fun e=>nomatch e),wpAny_truthy_bool h⟩) (F.args_tuple_eq_2 _ _)) (by omega))
end
noncomputable def fe {prog:Program} {w:World} {K K2:Type} [DecidableEq K] [DecidableEq K2] (knd:KeyKind prog w K) (kn2:KeyKind prog w K2):HeapKind prog w (List K×K2) where
 is:=IsPairKey knd kn2
 hash:=i9 knd kn2
 draws:=fun p=>p.1.length+1+1+1
 room:=fun A=>A.units+8<cLine
 inj:=fun hx hy=>hx.inj hy
 keeps:=fun x ho hd hs=>x.keeps ho hd hs
 pyHash:=fun hu hk h=>fX hu hk h
 eqBool:=fun hu hx hy h=>fY hu hx hy h
 quiet:=fun hk h=>eI hk h
end PySem
namespace L2
open PySem PySem.Spec PyProof.Rows
noncomputable abbrev Key:=Sum Int Str
noncomputable def jJ:Key->Value->Bool
 | .inl k,v=>Value.isInt k v
 | .inr x,v=>Value.isStrOf x v
noncomputable def xZ (w:World):Key->Int
 | .inl k=>hashInt k
 | .inr x=>hashStr w x
theorem cb: ∀ {k:Key} {v:Value},jJ k v=true->(∃ i t,k=Sum.inl i/\v=Value.int i t)\/(∃ x t,k=Sum.inr x/\v=Value.str x t)
 | .inl i,v,h=>by
  obtain ⟨t,e⟩:=Value.isInt_shape (k:=i) (v:=v) h
  exact .inl ⟨i,t,rfl,e⟩
 | .inr x,v,h=>by
  obtain ⟨t,e⟩:=Value.isStrOf_shape (x:=x) (v:=v) h
  exact .inr ⟨x,t,rfl,e⟩
theorem qB (i:Int) (t:Tok):jJ (.inl i) (.int i t)=true:=by simp [jJ,Value.isInt]
theorem bG (x:Str) (t:Tok):jJ (.inr x) (.str x t)=true:=by simp [jJ,Value.isStrOf]
theorem wp (a b:Int):decide ((Sum.inl a:Key)=Sum.inl b)=(a==b):=by
 by_cases e:a=b
 ·subst e;simp
 ·have h: ¬ (Sum.inl a:Key)=Sum.inl b:=fun q=>e (Sum.inl.inj q)
  rw [decide_eq_false h]
  exact (beq_eq_false_iff_ne.mpr e).symm
theorem wm (a b:Str):decide ((Sum.inr a:Key)=Sum.inr b)=decide (a=b):=by
 by_cases e:a=b
 ·subst e;simp
 ·have h: ¬ (Sum.inr a:Key)=Sum.inr b:=fun q=>e (Sum.inr.inj q)
  rw [decide_eq_false h,decide_eq_false e]
theorem wo (a:Int) (b:Str):decide ((Sum.inl a:Key)=Sum.inr b)=false:=decide_eq_false (fun q=>nomatch q)
theorem wn (a:Str) (b:Int):decide ((Sum.inr a:Key)=Sum.inl b)=false:=decide_eq_false (fun q=>nomatch q)
noncomputable def a9 (prog:Program) (w:World):PySem.KeyKind prog w Key where
 is:=jJ
 hash:=xZ w
 inj:=fun v a b ha hb=>by
  rcases cb ha with ⟨i,t,rfl,rfl⟩ | ⟨x,t,rfl,rfl⟩
  ·rcases cb hb with ⟨j,u,rfl,e⟩ | ⟨y,u,rfl,e⟩
   ·injection e with e1 _;rw [e1]
   ·exact nomatch e
  ·rcases cb hb with ⟨j,u,rfl,e⟩ | ⟨y,u,rfl,e⟩
   ·exact nomatch e
   ·injection e with e1 _;rw [e1]
 byValue:=fun k v h=>by
  rcases cb h with ⟨i,t,rfl,rfl⟩ | ⟨x,t,rfl,rfl⟩ <;> rfl
 pyHash:=fun hv h=>by
  rcases cb hv with ⟨i,t,rfl,rfl⟩ | ⟨x,t,rfl,rfl⟩
  ·exact wpAny_pyHash_int h
  ·exact wpAny_pyHash_str h
 eqBool:=fun hu hv h=>by
  rcases cb hu with ⟨i,t,rfl,rfl⟩ | ⟨x,t,rfl,rfl⟩
  ·rcases cb hv with ⟨j,u,rfl,rfl⟩ | ⟨y,u,rfl,rfl⟩
   ·rw [wp]at h;exact wpAny_eqBool_int h
   ·rw [wo]at h;exact SeqAt.EqAt.int_str i t y u _ _ _ _ h
  ·rcases cb hv with ⟨j,u,rfl,rfl⟩ | ⟨y,u,rfl,rfl⟩
   ·rw [wn]at h;exact SeqAt.EqAt.str_int x t j u _ _ _ _ h
   ·rw [wm]at h;exact wpAny_eqBool_str h
 «strs» :=fun k x t v h=>by
  rcases cb h with ⟨i,u,rfl,e⟩ | ⟨y,u,rfl,e⟩
  ·exact nomatch e
  ·injection e with e1 _
   subst e1
   cases v <;> rfl
theorem mG (prog:Program) (w:World) (i:Int) (t:Tok):(a9 prog w).is (.inl i) (.int i t)=true:=qB i t
theorem mE (prog:Program) (w:World) (x:Str) (t:Tok):(a9 prog w).is (.inr x) (.str x t)=true:=bG x t
inductive V where
 | non | bl (b:Bool) | int (i:Int) | str (x:Str) | byt (b:Array UInt8) | flt (b:UInt64) | ref (a:Addr) | ty (n:String)
 deriving DecidableEq
noncomputable def RelV:V->Value->Prop
 | .non,u=>u=Value.none
 | .bl b,u=>u=Value.bool b
 | .int i,u=> ∃ t,u=Value.int i t
 | .str x,u=> ∃ t,u=Value.str x t
 | .byt b,u=> ∃ t,u=Value.bytes b t
 | .flt b,u=> ∃ t,u=Value.float b t
 | .ref a,u=>u=Value.ref a
 | .ty n,u=>u=Value.type n
noncomputable abbrev Vals:List V->List Value->Prop:=Paired RelV
theorem Vals.length {xs:List V} {us:List Value} (r:Vals xs us):xs.length=us.length:=Paired.length r
theorem Vals.get: ∀ {xs:List V} {us:List Value} {i:Nat} {x:V},Vals xs us->xs[i]? =some x-> ∃ u,us[i]? =some u/\RelV x u
 | _,_,_,_,.nil,e=>by simp at e
 | _,_,0,_,.cons r _,e=>by simp at e;subst e;exact ⟨_,rfl,r⟩
 | _,_,i+1,x,.cons _ t,e=>by
  obtain ⟨u,h1,h2⟩:=Vals.get (i:=i) (x:=x) t (by simpa using e)
  exact ⟨u,by simpa using h1,h2⟩
theorem Vals.set {x:V} {u:Value} (r:RelV x u): ∀ {xs:List V} {us:List Value} (i:Nat),Vals xs us->Vals (xs.set i x) (us.set i u)
 | _,_,_,.nil=>.nil
 | _,_,0,.cons _ t=>.cons r t
 | _,_,i+1,.cons q t=>.cons q (Vals.set r i t)
theorem Vals.append: ∀ {xs ys:List V} {us ws:List Value},Vals xs us->Vals ys ws->Vals (xs++ys) (us++ws)
 | _,_,_,_,.nil,s=>s
 | _,_,_,_,.cons r t,s=>.cons r (Vals.append t s)
theorem Vals.take: ∀ {xs:List V} {us:List Value} (n:Nat),Vals xs us->Vals (xs.take n) (us.take n)
 | _,_,0,_=>.nil
 | _,_,_+1,.nil=>.nil
 | _,_,n+1,.cons r t=>.cons r (Vals.take n t)
theorem Vals.drop: ∀ {xs:List V} {us:List Value} (n:Nat),Vals xs us->Vals (xs.drop n) (us.drop n)
 | _,_,0,r=>r
 | _,_,_+1,.nil=>.nil
 | _,_,n+1,.cons _ t=>Vals.drop n t
theorem Vals.none_of: ∀ {xs:List V} {us:List Value} {i:Nat},Vals xs us->xs[i]? =none->us[i]? =none:=fun {xs us i} r e=>by
 have h1:=r.length
 have h2:xs.length<=i:=List.getElem?_eq_none_iff.mp e
 exact List.getElem?_eq_none_iff.mpr (by omega)
noncomputable def RelO:Option V->Option Value->Prop
 | some v,some u=>RelV v u
 | none,none=>True
 | _,_=>False
noncomputable def KV {κ:Type}:List (κ×V)->List (κ×Value)->Prop:=Paired fun (p:κ×V) (q:κ×Value)=>p.1=q.1/\RelV p.2 q.2
noncomputable def kV:Key->V
 | .inl i=>.int i
 | .inr x=>.str x
inductive HO where
 /-- a list -/
 | lst (xs:List V)
 /-- a tuple (never changes) -/
 | tup (xs:List V)
 /-- a dict whose keys are ints and texts; one whose keys are tuples of ints and texts (the empty one is both) -/
 | dK (kvs:List (Key×V)) | dT (kvs:List (List Key×V)) | dP (kvs:List ((List Key×Key)×V))
 /-- a set of ints: its members, its size -/
 | set (S:Int->Bool) (n:Nat)
 /-- an instance of the class at C, its dict at dx, its attributes -/
 | ins (C dx:Addr) (fs:List (Str×V))
 /-- the dict of the instance at x -/
 | own (x:Addr)
 /-- the dict of an exception -/
 | xd (fs:List (Str×V))
 /-- a bound method, f of x -/
 | met (f x:Addr)
 /-- a range object lo, lo + 1, .. below hi -/
 | rng (lo hi:Int)
 /-- a thing that is known to the object (the script; a dict while a loop walks it): read, never written while it is so -/
 | frz (o:Obj) (u:HO)
 /-- a code object's table -/
 | tbl (ps:Array Value)
 /-- any other thing, by what is true of its one object (a def of one's own: SetO a S n := HO.ext fun h => ..) -/
 | ext (φ:Heap->Prop)
noncomputable abbrev Hp:=Addr->Option HO
noncomputable def upd (H:Hp) (a:Addr) (o:HO):Hp:=fun b=>if b=a then some o else H b
theorem ac {H:Hp} {a:Addr} {o:HO}:upd H a o a=some o:=by unfold upd;rw [if_pos rfl]
theorem am {H:Hp} {a b:Addr} {o:HO} (h:b≠a):upd H a o b=H b:=by unfold upd;rw [if_neg h]
theorem di {H:Hp} {a:Addr} {o u:HO}:upd (upd H a o) a u=upd H a u:=by
 funext b;unfold upd;split <;> rfl
theorem vB {H:Hp} {a b:Addr} {o u:HO} (h:H a=some o) (h':H b=some u) (d:o≠u):a≠b:=by
 intro e;subst e;rw [h]at h';exact d (Option.some.inj h')
theorem ai {H:Hp} {a b:Addr} {o:HO} (h:H a=some o) (h':H b=none):a≠b:=by
 intro e;subst e;rw [h]at h';cases h'
section
variable (P:Program) (w:World)
noncomputable def ObjOk (H:Hp) (h:Heap) (a:Addr):HO->Prop
 | .lst xs=>xs.length<=sizeLine/\ ∃ (its:List Value) (n:Nat),Vals xs its/\h.get? a=some {cls:=.type "list",data:=.seq its.toArray n}
 | .tup xs=>xs.length<=sizeLine/\ ∃ its:List Value,Vals xs its/\IsTup h a its.toArray
 | .dK kvs=>kvs.length<=sizeLine/\(a==sysModules)=false/\ ∃ vs,KV kvs vs/\h.DictOf (a9 P w) a vs
 | .dT kvs=>kvs.length<=sizeLine/\(a==sysModules)=false/\ ∃ xs:List (List Key×Addr×Value),
   Paired (fun (p:List Key×V) (q:List Key×Addr×Value)=>p.1=q.1/\H q.2.1=some (.tup (p.1.map kV))/\RelV p.2 q.2.2) kvs xs/\
   ∃ o es ep,h.get? a=some o/\o.ExactDict/\o.data=.dict es ep/\es.toList=xs.map (entryOfKey (tupleKind (a9 P w)))/\(xs.map (·.1)).Nodup
 | .dP kvs=>kvs.length<=sizeLine/\(a==sysModules)=false/\ ∃ xs:List ((List Key×Key)×Addr×Value),
   Paired (fun (p:(List Key×Key)×V) (q:(List Key×Key)×Addr×Value)=>p.1=q.1/\(∃ b,H q.2.1=some (.tup [.ref b,kV p.1.2])/\H b=some (.tup (p.1.1.map kV)))/\RelV p.2 q.2.2) kvs xs/\
   ∃ o es ep,h.get? a=some o/\o.ExactDict/\o.data=.dict es ep/\es.toList=xs.map (entryOfKey (fe (a9 P w) (a9 P w)))/\(xs.map (·.1)).Nodup
 | .set S n=>h.SetOf (intKind P w) a S n
 | .ins C dx fs=>H dx=some (.own a)/\fs.length<=1000/\dx≠a/\h.get? a=some (PySem.W.instObj C dx)/\
   ∃ mA,h.Ns1 dx mA/\(∀ f,RelO (fs.lookup f) (mA f))/\PySem.Within mA (fs.map (·.1))
 | .own _=> ∃ o,h.get? a=some o
 | .xd fs=> ∃ mA,h.Ns1 a mA/\ ∀ f,RelO (fs.lookup f) (mA f)
 | .rng lo hi=> ∃ t u v,h.get? a=some {cls:=.type "range",data:=.fields #[.int lo t,.int hi u,.int 1 v]}
 | .frz o u=>h.get? a=some o/\ObjOk H h a u
 | .tbl ps=>h.get? a=some {cls:=.none,data:=.fields ps}
 | .met f x=>h.get? a=some (PySem.W.methodObj (.ref f) (.ref x))
 | .ext φ=>φ h/\(∃ o,h.get? a=some o)/\ ∀ h1 h2:Heap,φ h1->(∀ o,h1.get? a=some o->h2.get? a=some o)->φ h2
noncomputable def HOk (H:Hp) (h:Heap):Prop:= ∀ a o,H a=some o->ObjOk P w H h a o
end
section
variable {P:Program} {w:World} {H H':Hp} {h h':Heap} {a:Addr} {o:HO}
theorem ObjOk.lt (x:ObjOk P w H h a o):a<h.objs.size:=by
 cases o with
 | lst xs=>obtain ⟨_,_,_,_,e⟩:=x;exact Heap.lt_size e
 | tup xs=>obtain ⟨_,_,_,p⟩:=x;exact p.lt
 | dK kvs=>obtain ⟨_,_,_,_,o,_,_,e,_⟩:=x;exact Heap.lt_size e
 | dT kvs=>obtain ⟨_,_,_,_,o,_,_,e,_⟩:=x;exact Heap.lt_size e
 | dP kvs=>obtain ⟨_,_,_,_,o,_,_,e,_⟩:=x;exact Heap.lt_size e
 | set S n=>obtain ⟨o,_,_,_,e,_⟩:=x;exact Heap.lt_size e
 | ins C dx fs=>obtain ⟨_,_,_,e,_⟩:=x;exact Heap.lt_size e
 | own y=>obtain ⟨_,e⟩:=x;exact Heap.lt_size e
 | xd fs=>obtain ⟨_,⟨_,_,_,e,_⟩,_⟩:=x;exact Heap.lt_size e
 | rng lo hi=>obtain ⟨_,_,_,e⟩:=x;exact Heap.lt_size e
 | frz ob u=>obtain ⟨e,_⟩:=x;exact Heap.lt_size e
 | tbl ps=>exact Heap.lt_size (show h.get? a=some _ from x)
 | met f y=>exact Heap.lt_size (show h.get? a=some _ from x)
 | ext φ=>obtain ⟨_,⟨_,e⟩,_⟩:=x;exact Heap.lt_size e
theorem Paired.mapP {α β:Type} {F G:α->β->Prop}: ∀ {l₁:List α} {l₂:List β},Paired F l₁ l₂->(∀ a b,F a b->G a b)->Paired G l₁ l₂
 | _,_,.nil,_=>.nil
 | _,_,.cons r t,f=>.cons (f _ _ r) (Paired.mapP t f)
theorem ObjOk.stay (x:ObjOk P w H h a o) (k: ∀ b u,(b=a\/H b=some (.own a))->h.get? b=some u->h'.get? b=some u)
  (ho: ∀ b,H b=some (.own a)->H' b=some (.own a)) (ht: ∀ b xs,H b=some (.tup xs)->H' b=some (.tup xs)):ObjOk P w H' h' a o:=by
 induction o with
 | lst xs=>obtain ⟨z,its,n,r,e⟩:=x;exact ⟨z,its,n,r,k _ _ (.inl rfl) e⟩
 | tup xs=>obtain ⟨z,its,r,ob,e,c⟩:=x;exact ⟨z,its,r,ob,k _ _ (.inl rfl) e,c⟩
 | dK kvs=>obtain ⟨z,y,vs,r,ob,es,ep,e,c⟩:=x;exact ⟨z,y,vs,r,ob,es,ep,k _ _ (.inl rfl) e,c⟩
 | dT kvs=>
  obtain ⟨z,y,xs,r,ob,es,ep,e,c⟩:=x
  exact ⟨z,y,xs,Paired.mapP r fun p q z=>⟨z.1,ht _ _ z.2.1,z.2.2⟩,ob,es,ep,k _ _ (.inl rfl) e,c⟩
 | dP kvs=>
  obtain ⟨z,y,xs,r,ob,es,ep,e,c⟩:=x
  exact ⟨z,y,xs,Paired.mapP r fun p q z=>⟨z.1,let ⟨b,e1,e2⟩:=z.2.1;⟨b,ht _ _ e1,ht _ _ e2⟩,z.2.2⟩,ob,es,ep,k _ _ (.inl rfl) e,c⟩
 | set S n=>obtain ⟨ob,es,ep,t,e,c⟩:=x;exact ⟨ob,es,ep,t,k _ _ (.inl rfl) e,c⟩
 | ins C dx fs=>
  obtain ⟨d,z,ne,e,mA,⟨od,es,ep,e2,c⟩,r⟩:=x
  exact ⟨ho _ d,z,ne,k _ _ (.inl rfl) e,mA,⟨od,es,ep,k _ _ (.inr d) e2,c⟩,r⟩
 | own y=>obtain ⟨ob,e⟩:=x;exact ⟨ob,k _ _ (.inl rfl) e⟩
 | xd fs=>obtain ⟨mA,⟨od,es,ep,e,c⟩,r⟩:=x;exact ⟨mA,⟨od,es,ep,k _ _ (.inl rfl) e,c⟩,r⟩
 | rng lo hi=>obtain ⟨t,u,v,e⟩:=x;exact ⟨t,u,v,k _ _ (.inl rfl) e⟩
 | frz ob u ih=>obtain ⟨e,q⟩:=x;exact ⟨k _ _ (.inl rfl) e,ih q⟩
 | tbl ps=>
  have e:h.get? a=some {cls:=.none,data:=.fields ps}:=x
  show h'.get? a=some {cls:=.none,data:=.fields ps}
  exact k a _ (.inl rfl) e
 | met f y=>
  have e:h.get? a=some (PySem.W.methodObj (.ref f) (.ref y)):=x
  show h'.get? a=some (PySem.W.methodObj (.ref f) (.ref y))
  exact k a _ (.inl rfl) e
 | ext φ=>obtain ⟨p,⟨o,e⟩,st⟩:=x;exact ⟨st _ _ p fun o q=>k _ _ (.inl rfl) q,⟨o,k _ _ (.inl rfl) e⟩,st⟩
theorem HOk.lt (x:HOk P w H h) (e:H a=some o):a<h.objs.size:=(x a o e).lt
theorem HOk.fresh (x:HOk P w H h) (e:h.objs.size<=a):H a=none:=by
 cases q:H a with
 | none=>rfl
 | some u=>exact absurd (Nat.lt_of_lt_of_le (x.lt q) e) (Nat.lt_irrefl _)
theorem HOk.kept (x:HOk P w H h) (k: ∀ b u,h.get? b=some u->h'.get? b=some u):HOk P w H h':=fun a o e=>
 (x a o e).stay (fun b u _ q=>k b u q) (fun _ q=>q) fun _ _ q=>q
theorem HOk.laid (x:HOk P w H h) (k: ∀ b u,h.get? b=some u->h'.get? b=some u) (hp:h.objs.size<=a) (new:ObjOk P w (upd H a o) h' a o):HOk P w (upd H a o) h':=fun b u e=>by
 have hn:=x.fresh hp
 by_cases hb:b=a
 ·subst hb;rw [ac]at e;cases e;exact new
 ·rw [am hb]at e
  exact (x b u e).stay (fun c v _ q=>k c v q) (fun c q=>by rw [am (ai q hn)];exact q) fun c xs q=>by rw [am (ai q hn)];exact q
end
noncomputable def Rd (H:Hp) (a:Addr) (u:HO):Prop:=H a=some u\/ ∃ o,H a=some (.frz o u)
theorem Rd.ok {P:Program} {w:World} {H:Hp} {h:Heap} {a:Addr} {u:HO} (r:Rd H a u) (x:HOk P w H h):ObjOk P w H h a u:=by
 rcases r with r | ⟨o,r⟩
 ·exact x a u r
 ·obtain ⟨_,q⟩:=x a _ r
  exact q
noncomputable def Mut:Option HO->Prop
 | some (.lst _)=>True
 | some (.dK _)=>True
 | some (.dT _)=>True
 | some (.dP _)=>True
 | some (.set _ _)=>True
 | some (.ins _ _ _)=>True
 | some (.ext _)=>True
 | _=>False
section
variable {P:Program} {w:World} {H:Hp} {h h':Heap} {x e:Addr} {o':HO}
theorem HOk.write (ok:HOk P w H h) (mu:Mut (H x)) (he:e=x\/H e=some (.own x)) (k: ∀ b u,b≠e->h.get? b=some u->h'.get? b=some u) (heo: ∃ u,h'.get? e=some u)
  (new:ObjOk P w (upd H x o') h' x o'):HOk P w (upd H x o') h':=fun b u q=>by
 have nown: ∀ c y,H c=some (.own y)->c≠x:=fun c y r z=>by subst z;rw [r]at mu;exact mu
 have ntup: ∀ c xs,H c=some (.tup xs)->c≠x:=fun c xs r z=>by subst z;rw [r]at mu;exact mu
 by_cases hb:b=x
 ·subst hb;rw [ac]at q;cases q;exact new
 ·rw [am hb]at q
  by_cases hbe:b=e
  ·have q':H b=some (.own x):=by
    rcases he with z | z
    ·exact absurd (hbe.trans z) hb
    ·rw [hbe];exact z
   rw [q]at q';cases q'
   obtain ⟨v,hv⟩:=heo
   exact ⟨v,by rw [hbe];exact hv⟩
  ·refine (ok b u q).stay (fun c v hc r=>k c v ?_ r) (fun c r=>by rw [am (nown c b r)];exact r) fun c xs r=>by rw [am (ntup c xs r)];exact r
   rcases hc with rfl | hc
   ·exact hbe
   ·rintro rfl
    rcases he with z | z
    ·exact nown c b hc z
    ·rw [hc]at z;cases z;exact hb rfl
end
structure Un (fs ex:List Addr) (H H':Hp) (h h':Heap):Prop where
 keep: ∀ b o,h.get? b=some o->H b=none->b∉fs->b∉ex->h'.get? b=some o
 slot: ∀ b o,h.get? b=some o->H b=none->b∈fs->b∉ex-> ∃ sl,h'.get? b=some {o with slots:=sl}
 free: ∀ b o,h.get? b=some o->H b=none->b∉ex->H' b=none
 there: ∀ b o,h.get? b=some o->b∉ex-> ∃ o',h'.get? b=some o'
 tups: ∀ b xs,H b=some (.tup xs)->H' b=some (.tup xs)
 frzs: ∀ b o u,H b=some (.frz o u)->H' b=some (.frz o u)
 tbls: ∀ b ps,H b=some (.tbl ps)-> ∃ more,H' b=some (.tbl (ps++more))
section
variable {fs fs' ex ex':List Addr} {H H1 H2:Hp} {h h1 h2 h':Heap} {a x e:Addr} {o:HO}
theorem Un.any (u:Un fs ex H H1 h h1) {b:Addr} {ob:Obj} (q:h.get? b=some ob) (n:H b=none) (hx:b∉ex): ∃ sl,h1.get? b=some {ob with slots:=sl}:=by
 by_cases hb:b∈fs
 ·exact u.slot b ob q n hb hx
 ·exact ⟨ob.slots,u.keep b ob q n hb hx⟩
theorem Un.kept (k: ∀ b u,h.get? b=some u->h'.get? b=some u):Un fs ex H H h h':=
 ⟨fun b ob q _ _ _=>k b ob q,fun b ob q _ _ _=>⟨ob.slots,k b ob q⟩,fun _ _ _ n _=>n,fun b ob q _=>⟨ob,k b ob q⟩,fun _ _ q=>q,fun _ _ _ q=>q,fun _ ps q=>⟨#[],by rw [q];simp⟩⟩
theorem Un.refl:Un fs ex H H h h:=Un.kept fun _ _ q=>q
theorem Un.laid (k: ∀ b u,h.get? b=some u->h'.get? b=some u) (hp:h.objs.size<=a) (hn:H a=none):Un fs ex H (upd H a o) h h' where
 keep:=fun b u q _ _ _=>k b u q
 slot:=fun b u q _ _ _=>⟨u.slots,k b u q⟩
 free:=fun b u q n _=>by rw [am (Nat.ne_of_lt (Nat.lt_of_lt_of_le (Heap.lt_size q) hp))];exact n
 there:=fun b u q _=>⟨u,k b u q⟩
 tups:=fun b xs q=>by rw [am (ai q hn)];exact q
 frzs:=fun b u xs q=>by rw [am (ai q hn)];exact q
 tbls:=fun b ps q=>⟨#[],by rw [am (ai q hn),q];simp⟩
theorem Un.write (mu:Mut (H x)) (he:e=x\/H e=some (.own x)) (k: ∀ b u,b≠e->h.get? b=some u->h'.get? b=some u) (heo: ∃ u,h'.get? e=some u):Un fs ex H (upd H x o) h h':=by
 have hx: ∀ b,H b=none->b≠x:=fun b n z=>by subst z;rw [n]at mu;exact mu
 have hb: ∀ b,H b=none->b≠e:=fun b n z=>by
  subst z
  rcases he with r | r
  ·exact hx b n r
  ·rw [n]at r;cases r
 have hm: ∀ b u,H b=some u-> ¬ Mut (some u)->b≠x:=fun b u q nm z=>by subst z;rw [q]at mu;exact nm mu
 refine ⟨fun b u q n _ _=>k b u (hb b n) q,fun b u q n _ _=>⟨u.slots,k b u (hb b n) q⟩,fun b u q n _=>by rw [am (hx b n)];exact n,fun b u q _=>?_,
  fun b xs q=>by rw [am (hm b _ q fun z=>z)];exact q,fun b u xs q=>by rw [am (hm b _ q fun z=>z)];exact q,fun b ps q=>⟨#[],by rw [am (hm b _ q fun z=>z),q];simp⟩⟩
 by_cases hbe:b=e
 ·subst hbe;exact heo
 ·exact ⟨u,k b u hbe q⟩
end
noncomputable def trk (h:Heap) (H:Hp):List Addr:=(List.range h.objs.size).filter fun a=>(H a).isSome
noncomputable def lA (h:Heap) (H:Hp):Heap:=PySem.W.hideAll h (trk h H)
theorem qE (h:Heap) (H:Hp):(lA h H).objs.size=h.objs.size:=PySem.W.hideAll_size _ _
theorem tU {h:Heap} {H:Hp} {b:Addr} {o:Obj} (e:h.get? b=some o) (n:H b=none):(lA h H).get? b=some o:=
 PySem.W.hideAll_get _ e fun hm=>by
  have q:(H b).isSome=true:=(List.mem_filter.mp hm).2
  rw [n]at q;simp at q
theorem u0 {h:Heap} {H:Hp} {b:Addr} {o:Obj} (e:(lA h H).get? b=some o):h.get? b=some o/\H b=none:=by
 have e':h.get? b=some o:=PySem.W.of_hideAll (trk h H) e
 refine ⟨e',?_⟩
 cases q:H b with
 | none=>rfl
 | some x=>
  have hm:b∈trk h H:=List.mem_filter.mpr ⟨List.mem_range.mpr (Heap.lt_size e'),by simp [q]⟩
  have z:(lA h H).get? b=none:=PySem.W.hideAll_none (trk h H) hm
  rw [z]at e;cases e
structure Mod (K:PySem.W.Frag) (mg:Str->Option Value) (base:Heap):Prop where
 kin:K.In base
 glob:base.Ns mainGlobals mg
 blt: ∃ mb,base.Ns builtinsNs mb/\ ∀ x:Str,x≠"__name__"->mb x=bootBuiltins x
 nolimit:base.NoLimit
structure Cx where
 prog:Program
 w:World
 K:PySem.W.Frag
 mg:Str->Option Value
 base:Heap
 A:Around
 N:List Str
 s₀:Shared
 H₀:Hp
 env:Env
 outer:List Env
 stack:List Env
 ex:List Addr
 fn:Str->Bool
 calm:Bool
 pn:List (Addr×Obj)
 xe:Value->Shared->Prop
noncomputable def frs (l:List Env):List Addr:=l.filterMap (·.frame)
noncomputable abbrev Cx.fs (X:Cx):List Addr:=frs X.outer
noncomputable def Vis (sc:Scope) (x:Str):Prop:=sc.names.lookup x=some .local\/sc.names.lookup x=some .cell\/sc.names.lookup x=some .free
noncomputable def Loc (sc:Scope) (x:Str):Prop:=sc.names.lookup x=some .local\/sc.names.lookup x=some .cell
noncomputable def yj (env:Env) (h:Heap) (m:Str->Option Value) (x:Str) (u:Value):Prop:=
 (env.kindOf x=some .local/\m x=some u)\/((env.kindOf x=some .cell\/env.kindOf x=some .free)/\ ∃ c,env.cells.lookup x=some c/\h.IsCell c (some u))
structure Cx.Ok (X:Cx):Prop where
 mod:Mod X.K X.mg X.base
 kind:X.env.scope.kind=.function
 glob:X.env.globals=mainGlobals
 blt:X.env.builtins=builtinsNs
 above:X.s₀.heap.objs.size<=X.env.locals
 inj: ∀ x y c,X.env.cells.lookup x=some c->X.env.cells.lookup y=some c->x=y
 has: ∀ x,(X.env.kindOf x=some .cell\/X.env.kindOf x=some .free)-> ∃ c,X.env.cells.lookup x=some c
 cab: ∀ x c,X.fn x=true->X.env.cells.lookup x=some c->X.s₀.heap.objs.size<=c
 hd:X.calm=true->X.A.handled=none
 frames:X.A.frames=some X.stack
 stk:X.stack=X.outer\/(X.stack=X.env::X.outer/\X.env.frame=some X.env.locals)
 exf: ∀ b∈X.ex,b≠X.env.locals/\ ∀ x c,X.env.cells.lookup x=some c->c≠b
 bs: ∀ b o,X.base.get? b=some o->X.s₀.heap.get? b=some o/\X.H₀ b=none
 bsz:X.base.objs.size<=X.s₀.heap.objs.size
 noex: ∀ b o,X.base.get? b=some o->b∉X.ex
 exfs: ∀ b∈X.ex,b∉X.fs
 funs:X.s₀.heap.FunFrames X.base X.outer
 frf: ∀ b∈X.fs,X.H₀ b=none
structure Inv (X:Cx) (pins:List (Addr×Obj)) (Z:List (Option V)) (H:Hp) (s:Shared):Prop where
 ok:X.Ok
 os:s.os=X.s₀.os
 bare:AllBare s.gens
 base:Un X.fs X.ex X.H₀ H X.s₀.heap s.heap
 loc: ∃ m,s.heap.Ns X.env.locals m/\ ∀ (i:Nat) (x:Str) (v:V),X.N[i]? =some x->Z[i]? =some (some v)->Vis X.env.scope x-> ∃ u,RelV v u/\yj X.env s.heap m x u
 cell: ∀ x c,X.env.cells.lookup x=some c-> ∃ v,s.heap.IsCell c v
 free:H X.env.locals=none
 freeC: ∀ x c,X.env.cells.lookup x=some c->H c=none
 pin: ∀ p∈X.pn++pins,s.heap.get? p.1=some p.2/\H p.1=none/\p.1≠X.env.locals/\p.1∉X.fs/\ ∀ v,p.2.data≠ .cell v
 hok:HOk X.prog X.w H s.heap
 len:Z.length=X.N.length
section
variable {X:Cx} {pins:List (Addr×Obj)} {Z:List (Option V)} {H H':Hp} {s:Shared} {h':Heap}
theorem Cx.Ok.nofr (ok:X.Ok) {b:Addr} {o:Obj} (e:X.base.get? b=some o):b∉X.fs:=fun hb=>by
 have:=(ok.funs.mem hb).1
 rw [e]at this;cases this
theorem Inv.bs (I:Inv X pins Z H s): ∀ b o,X.base.get? b=some o->s.heap.get? b=some o/\H b=none:=fun b o e=>
 ⟨I.base.keep b o (I.ok.bs b o e).1 (I.ok.bs b o e).2 (I.ok.nofr e) (I.ok.noex b o e),I.base.free b o (I.ok.bs b o e).1 (I.ok.bs b o e).2 (I.ok.noex b o e)⟩
theorem Inv.bk (I:Inv X pins Z H s): ∀ b o,X.base.get? b=some o->s.heap.get? b=some o:=fun b o e=>(I.bs b o e).1
theorem Inv.mod (I:Inv X pins Z H s):Mod X.K X.mg X.base:=I.ok.mod
theorem Inv.kIn (I:Inv X pins Z H s):X.K.In s.heap:=I.ok.mod.kin.keeps I.bk
theorem Inv.lt (I:Inv X pins Z H s):X.env.locals<s.heap.objs.size:=let ⟨_,hn,_⟩:=I.loc;hn.lt
theorem Inv.sz (I:Inv X pins Z H s):X.s₀.heap.objs.size<=s.heap.objs.size:=Nat.le_trans I.ok.above (Nat.le_of_lt I.lt)
theorem Inv.nofs (I:Inv X pins Z H s) {a:Addr} (h:s.heap.objs.size<=a):a∉X.fs:=fun hb=>by
 obtain ⟨_,o,ho,_⟩:=I.ok.funs.mem hb
 exact absurd (Nat.lt_of_lt_of_le (Heap.lt_size ho) (Nat.le_trans I.sz h)) (Nat.lt_irrefl _)
theorem Inv.cne (I:Inv X pins Z H s): ∀ x c,X.env.cells.lookup x=some c->c≠X.env.locals:=fun x c e z=>by
 obtain ⟨v,o,ho,hd⟩:=I.cell x c e
 obtain ⟨m,⟨o',es,ep,ho',hd',_⟩,_⟩:=I.loc
 rw [z,ho']at ho;cases ho;rw [hd']at hd;cases hd
theorem Inv.funs (I:Inv X pins Z H s):s.heap.FunFrames X.base X.outer:=by
 have all: ∀ (l:List Env),(∀ b∈frs l,b∈X.fs)->X.s₀.heap.FunFrames X.base l->s.heap.FunFrames X.base l:=by
  intro l
  induction l with
  | nil=>intro _ _;trivial
  | cons env r ih=>
   intro hs hl
   obtain ⟨hk,⟨L,o,hf,hn,ho,hd⟩,hr⟩:=hl
   have hL:L∈X.fs:=hs L (by unfold frs;rw [List.filterMap_cons,hf];exact List.mem_cons_self)
   obtain ⟨sl,e⟩:=I.base.slot L o ho (I.ok.frf L hL) hL fun z=>I.ok.exfs L z hL
   exact ⟨hk,⟨L,_,hf,hn,e,hd⟩,ih (fun b hb=>hs b (by unfold frs;rw [List.filterMap_cons,hf];exact List.mem_cons_of_mem _ hb)) hr⟩
 exact all X.outer (fun _ hb=>hb) I.ok.funs
theorem Inv.stack (I:Inv X pins Z H s):s.heap.FunFrames X.base X.stack:=by
 rcases I.ok.stk with e | ⟨e,hf⟩
 ·rw [e];exact I.funs
 ·rw [e]
  obtain ⟨m,hn,_⟩:=I.loc
  refine .cons (by rw [I.ok.kind];decide) hf hn ?_ I.funs
  exact Heap.get?_none_of_le (Nat.le_trans I.ok.bsz I.ok.above)
theorem Inv.stkSub (I:Inv X pins Z H s): ∀ b∈frs X.stack,b∈X.env.locals::X.fs:=fun b hb=>by
 rcases I.ok.stk with e | ⟨e,hf⟩
 ·rw [e]at hb;exact List.mem_cons_of_mem _ hb
 ·rw [e]at hb
  unfold frs at hb
  rw [List.filterMap_cons,hf]at hb
  exact hb
theorem Inv.stkFree (I:Inv X pins Z H s): ∀ b∈frs X.stack,H b=none:=fun b hb=>by
 rcases List.mem_cons.mp (I.stkSub b hb)with e | hb
 ·rw [e];exact I.free
 ·obtain ⟨_,o,ho,_⟩:=I.ok.funs.mem hb
  exact I.base.free b o ho (I.ok.frf b hb) fun z=>I.ok.exfs b z hb
theorem Inv.step {g':Array GenState} {t':Nat} {d':Drawn} {ch:List Addr} (I:Inv X pins Z H s)
  (hch: ∀ b∈ch,(b∈X.ex\/X.s₀.heap.objs.size<=b)/\b≠X.env.locals/\(∀ x c,X.env.cells.lookup x=some c->c≠b)/\ ∀ p∈X.pn++pins,p.1≠b)
  (keep: ∀ b o,b≠X.env.locals->b∉X.fs->b∉ch->s.heap.get? b=some o->H b=none->h'.get? b=some o)
  (slot: ∀ b o,b≠X.env.locals->b∈X.fs->b∉ch->s.heap.get? b=some o->H b=none-> ∃ sl,h'.get? b=some {o with slots:=sl}) (free: ∀ b o,b∉ch->s.heap.get? b=some o->H b=none->H' b=none)
  (there: ∀ b o,b∉ch->s.heap.get? b=some o-> ∃ o',h'.get? b=some o')
  (tups: ∀ b xs,H b=some (.tup xs)->H' b=some (.tup xs)) (frzs: ∀ b o u,H b=some (.frz o u)->H' b=some (.frz o u)) (tbls: ∀ b ps,H b=some (.tbl ps)-> ∃ more,H' b=some (.tbl (ps++more)))
  (ns: ∀ m,s.heap.Ns X.env.locals m->h'.Ns X.env.locals m) (hok:HOk X.prog X.w H' h') (hg:AllBare g'):
  Inv X pins Z H' {s with heap:=h',gens:=g',drawn:=d',toks:=t'}:=by
 have neL: ∀ b o,X.s₀.heap.get? b=some o->b≠X.env.locals:=fun b o e=>Nat.ne_of_lt (Nat.lt_of_lt_of_le (Heap.lt_size e) I.ok.above)
 have neC: ∀ b o,X.s₀.heap.get? b=some o->b∉X.ex->b∉ch:=fun b o e hx hb=>by
  rcases (hch b hb).1 with z | z
  ·exact hx z
  ·exact absurd (Nat.lt_of_lt_of_le (Heap.lt_size e) z) (Nat.lt_irrefl _)
 have cellK: ∀ x c,X.env.cells.lookup x=some c-> ∀ v,s.heap.IsCell c v->h'.IsCell c v:=fun x c e v ⟨o,ho,hd⟩=>by
  have nch:c∉ch:=fun z=>(hch c z).2.2.1 x c e rfl
  by_cases hc:c∈X.fs
  ·obtain ⟨sl,q⟩:=slot c o (I.cne x c e) hc nch ho (I.freeC x c e)
   exact ⟨_,q,hd⟩
  ·exact ⟨o,keep c o (I.cne x c e) hc nch ho (I.freeC x c e),hd⟩
 refine ⟨I.ok,I.os,hg,⟨fun b o e n hb hx=>?_,fun b o e n hb hx=>?_,fun b o e n hx=>?_,fun b o e hx=>?_,fun b xs e=>tups b xs (I.base.tups b xs e),fun b o xs e=>frzs b o xs (I.base.frzs b o xs e),fun b ps e=>?_⟩,?_,fun x c e=>?_,?_,fun x c e=>?_,fun p hp=>?_,hok,I.len⟩
 ·exact keep b o (neL b o e) hb (neC b o e hx) (I.base.keep b o e n hb hx) (I.base.free b o e n hx)
 ·obtain ⟨sl,e1⟩:=I.base.slot b o e n hb hx
  obtain ⟨sl',e2⟩:=slot b _ (neL b o e) hb (neC b o e hx) e1 (I.base.free b o e n hx)
  exact ⟨sl',e2⟩
 ·obtain ⟨o',e1⟩:=I.base.there b o e hx
  exact free b o' (neC b o e hx) e1 (I.base.free b o e n hx)
 ·obtain ⟨o',e1⟩:=I.base.there b o e hx
  exact there b o' (neC b o e hx) e1
 ·obtain ⟨m1,e1⟩:=I.base.tbls b ps e
  obtain ⟨m2,e2⟩:=tbls b _ e1
  exact ⟨m1++m2,by rw [e2,Array.append_assoc]⟩
 ·obtain ⟨m,hn,hl⟩:=I.loc
  refine ⟨m,ns m hn,fun i x v e1 e2 e3=>?_⟩
  obtain ⟨u,r,l⟩:=hl i x v e1 e2 e3
  refine ⟨u,r,?_⟩
  rcases l with l | ⟨k,c,e,z⟩
  ·exact .inl l
  ·exact .inr ⟨k,c,e,cellK x c e _ z⟩
 ·obtain ⟨v,z⟩:=I.cell x c e
  exact ⟨v,cellK x c e v z⟩
 ·obtain ⟨m,⟨o,_,_,ho,_⟩,_⟩:=I.loc
  exact free _ o (fun z=>(hch _ z).2.1 rfl) ho I.free
 ·obtain ⟨v,o,ho,hd⟩:=I.cell x c e
  exact free c o (fun z=>(hch c z).2.2.1 x c e rfl) ho (I.freeC x c e)
 ·obtain ⟨e,n,ne,nf,d⟩:=I.pin p hp
  have nch:p.1∉ch:=fun z=>(hch p.1 z).2.2.2 p hp rfl
  exact ⟨keep p.1 p.2 ne nf nch e n,free p.1 p.2 nch e n,ne,nf,d⟩
theorem Inv.un {t':Nat} (I:Inv X pins Z H s) (u:Un X.fs [] H H' s.heap h') (hok:HOk X.prog X.w H' h'):Inv X pins Z H' {s with heap:=h',toks:=t'}:=by
 obtain ⟨m,⟨o,es,ep,ho,r⟩,_⟩:=id I.loc
 obtain ⟨sl,hL⟩:=u.any ho I.free (by simp)
 exact I.step (g':=s.gens) (d':=s.drawn) (ch:=[]) (fun _ z=>nomatch z) (fun b o _ hb _ e n=>u.keep b o e n hb (by simp)) (fun b o _ hb _ e n=>u.slot b o e n hb (by simp)) (fun b o _ e n=>u.free b o e n (by simp)) (fun b o _ e=>u.there b o e (by simp)) u.tups u.frzs u.tbls (fun m' hm=>by
  obtain ⟨o',es',ep',ho',r'⟩:=hm
  rw [ho]at ho';cases ho'
  exact ⟨_,es',ep',hL,r'⟩) hok I.bare
theorem Inv.call {g':Array GenState} {t':Nat} {d':Drawn} {ch:List Addr} (I:Inv X pins Z H s) (u:Un (frs X.stack) ch H H' s.heap h') (hok:HOk X.prog X.w H' h') (hg:AllBare g')
  (hch: ∀ b∈ch,(b∈X.ex\/X.s₀.heap.objs.size<=b)/\b≠X.env.locals/\(∀ x c,X.env.cells.lookup x=some c->c≠b)/\ ∀ p∈X.pn++pins,p.1≠b):
  Inv X pins Z H' {s with heap:=h',gens:=g',drawn:=d',toks:=t'}:=by
 obtain ⟨m,⟨o,es,ep,ho,r⟩,_⟩:=id I.loc
 obtain ⟨sl,hL⟩:=u.any ho I.free fun z=>(hch _ z).2.1 rfl
 exact I.step (ch:=ch) hch (fun b o hL hb hc e n=>u.keep b o e n (fun z=>(List.mem_cons.mp (I.stkSub b z)).elim hL hb) hc) (fun b o _ _ hc e n=>u.any e n hc) (fun b o hc e n=>u.free b o e n hc) (fun b o hc e=>u.there b o e hc) u.tups u.frzs u.tbls (fun m' hm=>by
  obtain ⟨o',es',ep',ho',r'⟩:=hm
  rw [ho]at ho';cases ho'
  exact ⟨_,es',ep',hL,r'⟩) hok hg
theorem Inv.turned {t':Nat} {it:Addr} (I:Inv X pins Z H s) (k: ∀ b o,b≠it->s.heap.get? b=some o->h'.get? b=some o) (hn:H it=none) (hL:it≠X.env.locals)
  (h1:it∈X.ex\/X.s₀.heap.objs.size<=it) (h2: ∀ x c,X.env.cells.lookup x=some c->c≠it) (h3: ∀ p∈X.pn++pins,p.1≠it):Inv X pins Z H {s with heap:=h',toks:=t'}:=by
 have nit: ∀ b u,H b=some u->b≠it:=fun b u e z=>by rw [z,hn]at e;cases e
 refine I.step (g':=s.gens) (d':=s.drawn) (ch:=[it]) (fun b hb=>?_) (fun b o _ _ hc e _=>k b o (fun z=>hc (by simp [z])) e) (fun b o _ _ hc e _=>⟨o.slots,k b o (fun z=>hc (by simp [z])) e⟩) (fun _ _ _ _ n=>n)
  (fun b o hc e=>⟨o,k b o (fun z=>hc (by simp [z])) e⟩) (fun _ _ e=>e) (fun _ _ _ e=>e) (fun b ps e=>⟨#[],by rw [e];simp⟩) (fun m hm=>?_) (fun b u e=>?_) I.bare
 ·have e:b=it:=by simpa using hb
  subst e
  exact ⟨h1,hL,h2,h3⟩
 ·obtain ⟨o,es,ep,ho,r⟩:=hm
  exact ⟨o,es,ep,k _ o (Ne.symm hL) ho,r⟩
 ·refine (I.hok b u e).stay (fun c v hc q=>k c v ?_ q) (fun _ q=>q) fun _ _ q=>q
  rcases hc with z | z
  ·rw [z];exact nit b u e
  ·exact nit c _ z
theorem Inv.tok (I:Inv X pins Z H s) (t:Nat):Inv X pins Z H {s with toks:=t}:=I.un (h':=s.heap) (t':=t) Un.refl I.hok
theorem Inv.kept {t':Nat} (I:Inv X pins Z H s) (k: ∀ b u,s.heap.get? b=some u->h'.get? b=some u):Inv X pins Z H {s with heap:=h',toks:=t'}:=I.un (Un.kept k) (I.hok.kept k)
theorem Inv.laid {a:Addr} {o:HO} {t':Nat} (I:Inv X pins Z H s) (k: ∀ b u,s.heap.get? b=some u->h'.get? b=some u) (hp:s.heap.objs.size<=a) (new:ObjOk X.prog X.w (upd H a o) h' a o):
  Inv X pins Z (upd H a o) {s with heap:=h',toks:=t'}:=I.un (Un.laid k hp (I.hok.fresh hp)) (I.hok.laid k hp new)
theorem Inv.write {x e:Addr} {o:HO} {t':Nat} (I:Inv X pins Z H s) (mu:Mut (H x)) (he:e=x\/H e=some (.own x)) (k: ∀ b u,b≠e->s.heap.get? b=some u->h'.get? b=some u) (heo: ∃ u,h'.get? e=some u)
  (new:ObjOk X.prog X.w (upd H x o) h' x o):Inv X pins Z (upd H x o) {s with heap:=h',toks:=t'}:=I.un (Un.write mu he k heo) (I.hok.write mu he k heo new)
theorem Inv.pins_of {pins':List (Addr×Obj)} (I:Inv X pins Z H s) (h: ∀ p∈pins',s.heap.get? p.1=some p.2/\H p.1=none/\p.1≠X.env.locals/\p.1∉X.fs/\ ∀ v,p.2.data≠ .cell v):Inv X pins' Z H s:=
 ⟨I.ok,I.os,I.bare,I.base,I.loc,I.cell,I.free,I.freeC,fun p hp=>(List.mem_append.mp hp).elim (fun z=>I.pin p (List.mem_append_left _ z)) (h p),I.hok,I.len⟩
theorem ff {N:List Str} (hN:N.Nodup) {i j:Nat} {x:Str} (a:N[i]? =some x) (b:N[j]? =some x):i=j:=by
 obtain ⟨h1,e1⟩:=List.getElem?_eq_some_iff.mp a
 obtain ⟨h2,e2⟩:=List.getElem?_eq_some_iff.mp b
 exact (List.getElem_inj hN).mp (e1.trans e2.symm)
theorem gI {M:Model} {A:Around} {E:Value->Shared->Prop} {i:Nat} {x:Str} {v:V} {u:Value} {Q:Unit->Shared->Prop} (I:Inv X pins Z H s) (hN:X.N.Nodup) (hi:X.N[i]? =some x) (hx:Loc X.env.scope x) (r:RelV v u)
  (h: ∀ s',Inv X pins (Z.set i (some v)) H s'->(∃ a,Heap.SameBut a s.heap s'.heap/\(a=X.env.locals\/X.env.cells.lookup x=some a))->Q () s') (hf:X.fn x=true\/X.env.scope.names.lookup x=some .local:=by first | exact .inl rfl | exact .inr rfl | assumption):wpAny M A (storeName X.env x u) Q E s:=by
 obtain ⟨m,hn,hl⟩:=id I.loc
 have hcls:(X.env.scope.kind== .class||(X.env.scope.kind== .module&&X.env.locals !=X.env.globals))=false:=by rw [I.ok.kind];rfl
 have hiZ:i<Z.length:=by rw [I.len];exact (List.getElem?_eq_some_iff.mp hi).1
 have cne:=I.cne
 have tracked: ∀ {a:Addr} {h':Heap},(∃ o,s.heap.get? a=some o/\H a=none)->Heap.SameBut a s.heap h'->HOk X.prog X.w H h':=fun {a h'} ha hs b ob e=>by
  obtain ⟨_,_,hfree⟩:=ha
  refine (I.hok b ob e).stay (fun c w' hc q=>(hs.2 c ?_).trans q) (fun _ q=>q) fun _ _ q=>q
  rintro rfl
  rcases hc with rfl | hc
  ·rw [hfree]at e;cases e
  ·rw [hfree]at hc;cases hc
 rcases hx with hk | hk
 ·refine wpAny_storeName_local hk hn (fun h' hn' hs=>?_) hcls
  obtain ⟨oL,_,_,hoL,_⟩:=id hn
  refine h _ ⟨I.ok,I.os,I.bare,⟨fun b o e n hb hx=>?_,fun b o e n hb hx=>?_,I.base.free,fun b o e hx=>?_,I.base.tups,I.base.frzs,I.base.tbls⟩,⟨_,hn',fun j y v' e1 e2 e3=>?_⟩,fun y c e=>?_,I.free,I.freeC,fun p hp=>?_,tracked ⟨oL,hoL,I.free⟩ hs,by simpa using I.len⟩ ⟨_,hs,.inl rfl⟩
  ·exact (hs.2 b (Nat.ne_of_lt (Nat.lt_of_lt_of_le (Heap.lt_size e) I.ok.above))).trans (I.base.keep b o e n hb hx)
  ·obtain ⟨sl,e1⟩:=I.base.slot b o e n hb hx
   exact ⟨sl,(hs.2 b (Nat.ne_of_lt (Nat.lt_of_lt_of_le (Heap.lt_size e) I.ok.above))).trans e1⟩
  ·obtain ⟨o',e1⟩:=I.base.there b o e hx
   exact ⟨o',(hs.2 b (Nat.ne_of_lt (Nat.lt_of_lt_of_le (Heap.lt_size e) I.ok.above))).trans e1⟩
  ·by_cases hj:j=i
   ·subst hj
    rw [hi]at e1;cases e1
    rw [List.getElem?_set_self hiZ]at e2
    cases e2
    exact ⟨u,r,.inl ⟨hk,by simp⟩⟩
   ·rw [List.getElem?_set_ne (Ne.symm hj)]at e2
    obtain ⟨u',r',q⟩:=hl j y v' e1 e2 e3
    refine ⟨u',r',?_⟩
    rcases q with ⟨k,e⟩ | ⟨k,c,e,z⟩
    ·refine .inl ⟨k,?_⟩
     have:y≠x:=fun e=>hj (ff hN e1 (e▸hi))
     simp [this,e]
    ·exact .inr ⟨k,c,e,z.sameBut hs (cne y c e)⟩
  ·obtain ⟨w',z⟩:=I.cell y c e
   exact ⟨w',z.sameBut hs (cne y c e)⟩
  ·obtain ⟨e,n,ne,nf,d⟩:=I.pin p hp
   exact ⟨(hs.2 p.1 ne).trans e,n,ne,nf,d⟩
 ·have hfn:X.fn x=true:=by
   rcases hf with z | z
   ·exact z
   ·rw [z]at hk;cases hk
  obtain ⟨c,hc⟩:=I.ok.has x (.inl hk)
  obtain ⟨w',z⟩:=I.cell x c hc
  refine wpAny_storeName_cell I.ok.kind hk hc z (fun h' hc' hs=>?_)
  obtain ⟨oc,hoc,hocd⟩:=id z
  refine h {s with heap:=h'} ⟨I.ok,I.os,I.bare,⟨fun b o e n hb hx=>?_,fun b o e n hb hx=>?_,I.base.free,fun b o e hx=>?_,I.base.tups,I.base.frzs,I.base.tbls⟩,⟨m,hn.sameBut hs (Ne.symm (cne x c hc)),fun j y v' e1 e2 e3=>?_⟩,fun y c' e=>?_,I.free,I.freeC,fun p hp=>?_,tracked ⟨oc,hoc,I.freeC x c hc⟩ hs,by simpa using I.len⟩ ⟨c,hs,.inr hc⟩
  ·exact (hs.2 b (Nat.ne_of_lt (Nat.lt_of_lt_of_le (Heap.lt_size e) (I.ok.cab x c hfn hc)))).trans (I.base.keep b o e n hb hx)
  ·obtain ⟨sl,e1⟩:=I.base.slot b o e n hb hx
   exact ⟨sl,(hs.2 b (Nat.ne_of_lt (Nat.lt_of_lt_of_le (Heap.lt_size e) (I.ok.cab x c hfn hc)))).trans e1⟩
  ·obtain ⟨o',e1⟩:=I.base.there b o e hx
   exact ⟨o',(hs.2 b (Nat.ne_of_lt (Nat.lt_of_lt_of_le (Heap.lt_size e) (I.ok.cab x c hfn hc)))).trans e1⟩
  ·by_cases hj:j=i
   ·subst hj
    rw [hi]at e1;cases e1
    rw [List.getElem?_set_self hiZ]at e2
    cases e2
    exact ⟨u,r,.inr ⟨.inl hk,c,hc,hc'⟩⟩
   ·rw [List.getElem?_set_ne (Ne.symm hj)]at e2
    obtain ⟨u',r',q⟩:=hl j y v' e1 e2 e3
    refine ⟨u',r',?_⟩
    rcases q with q | ⟨k,c',e,z'⟩
    ·exact .inl q
    ·refine .inr ⟨k,c',e,z'.sameBut hs ?_⟩
     rintro rfl
     exact hj (ff hN e1 (I.ok.inj _ _ _ e hc▸hi))
  ·by_cases hcc:c'=c
   ·subst hcc;exact ⟨_,hc'⟩
   ·obtain ⟨w2,z2⟩:=I.cell y c' e
    exact ⟨w2,z2.sameBut hs hcc⟩
  ·obtain ⟨e,n,ne,nf,d⟩:=I.pin p hp
   refine ⟨(hs.2 p.1 ?_).trans e,n,ne,nf,d⟩
   intro q
   rw [q,hoc]at e
   have q':oc=p.2:=Option.some.inj e
   exact d w' (by rw [<- q'];exact hocd)
theorem iF {M:Model} {A:Around} {E:Value->Shared->Prop} {i:Nat} {x:Str} {v:V} {u:Value} {Q:Unit->Shared->Prop} (I:Inv X pins Z H s) (hN:X.N.Nodup) (hi:X.N[i]? =some x) (hx:Loc X.env.scope x) (r:RelV v u)
  (h: ∀ s',Inv X pins (Z.set i (some v)) H s'->Q () s') (hf:X.fn x=true\/X.env.scope.names.lookup x=some .local:=by first | exact .inl rfl | exact .inr rfl | assumption):wpAny M A (storeName X.env x u) Q E s:=
 gI I hN hi hx r (fun s' I' _=>h s' I') hf
theorem Inv.call' {s':Shared} {ch:List Addr} (I:Inv X pins Z H s) (ho:s'.os=s.os) (u:Un (frs X.stack) ch H H' s.heap s'.heap) (hok:HOk X.prog X.w H' s'.heap) (hg:AllBare s'.gens)
  (hch: ∀ b∈ch,(b∈X.ex\/X.s₀.heap.objs.size<=b)/\b≠X.env.locals/\(∀ x c,X.env.cells.lookup x=some c->c≠b)/\ ∀ p∈X.pn++pins,p.1≠b):Inv X pins Z H' s':=by
 obtain ⟨h',g',d',t',o'⟩:=s'
 have e:o'=s.os:=ho
 subst e
 exact I.call (g':=g') (t':=t') (d':=d') u hok hg hch
end
noncomputable abbrev XK:=Value->Option Addr->Hp->Prop
noncomputable abbrev St:=List (Option V)
noncomputable abbrev VK:=V->Hp->Prop
noncomputable abbrev TE:=St->Hp->VK->Prop
noncomputable abbrev TT:=St->Hp->(Bool->Hp->Prop)->Prop
noncomputable abbrev TA:=St->Hp->(List V->Hp->Prop)->Prop
structure eE where
 nx:St->Hp->Prop
 rt:VK
 bk:St->Hp->Prop:=fun _ _=>False
 ct:St->Hp->Prop:=fun _ _=>False
noncomputable abbrev TS:=eE->St->Hp->Prop
noncomputable def EP (X:Cx) (pins:List (Addr×Obj)) (Z:St) (Q:VK) (u:Value) (s':Shared):Prop:= ∃ v H',Inv X pins Z H' s'/\RelV v u/\Q v H'
noncomputable def TP (X:Cx) (pins:List (Addr×Obj)) (Z:St) (Q:Bool->Hp->Prop) (b:Bool) (s':Shared):Prop:= ∃ H',Inv X pins Z H' s'/\Q b H'
noncomputable def AP (X:Cx) (pins:List (Addr×Obj)) (Z:St) (Q:List V->Hp->Prop) (us:List Value) (s':Shared):Prop:= ∃ vs H',Inv X pins Z H' s'/\Vals vs us/\Q vs H'
noncomputable def SP (X:Cx) (pins:List (Addr×Obj)) (D:eE) (f:Flow) (s':Shared):Prop:=
 match f with
 | .next=> ∃ Z' H',Inv X pins Z' H' s'/\D.nx Z' H'
 | .brk=> ∃ Z' H',Inv X pins Z' H' s'/\D.bk Z' H'
 | .cont=> ∃ Z' H',Inv X pins Z' H' s'/\D.ct Z' H'
 | .ret u=> ∃ v Z' H',Inv X pins Z' H' s'/\RelV v u/\D.rt v H'
noncomputable def PE (X:Cx) (e:Expr) (t:TE):Prop:=
 ∀ (pins:List (Addr×Obj)) (s:Shared) (Z:St) (H:Hp) (Q:VK),Inv X pins Z H s->t Z H Q->wpAny (model X.prog X.w) X.A (eval e X.env) (EP X pins Z Q) X.xe s
noncomputable def PT (X:Cx) (e:Expr) (t:TT):Prop:=
 ∀ (pins:List (Addr×Obj)) (s:Shared) (Z:St) (H:Hp) (Q:Bool->Hp->Prop),Inv X pins Z H s->t Z H Q->wpAny (model X.prog X.w) X.A (isTrue e X.env (eval e X.env)) (TP X pins Z Q) X.xe s
noncomputable def PW (X:Cx) (e:Expr) (t:TT):Prop:=
 ∀ (whole:Sem Value) (pins:List (Addr×Obj)) (s:Shared) (Z:St) (H:Hp) (Q:Bool->Hp->Prop),Inv X pins Z H s->t Z H Q->wpAny (model X.prog X.w) X.A (isTrue e X.env whole) (TP X pins Z Q) X.xe s
theorem PW.pt {X:Cx} {e:Expr} {t:TT} (h:PW X e t):PT X e t:=h _
noncomputable def PA (X:Cx) (es:List Expr) (t:TA):Prop:=
 ∀ (pos:Pos) (pins:List (Addr×Obj)) (s:Shared) (Z:St) (H:Hp) (Q:List V->Hp->Prop),Inv X pins Z H s->t Z H Q->wpAny (model X.prog X.w) X.A (spliced (backTo pos (starEach es X.env))) (AP X pins Z Q) X.xe s
noncomputable def PS (X:Cx) (st:Stmt) (t:TS):Prop:=
 ∀ (pins:List (Addr×Obj)) (s:Shared) (Z:St) (H:Hp) (D:eE),Inv X pins Z H s->t D Z H->wpAny (model X.prog X.w) X.A (exec st X.env) (SP X pins D) X.xe s
noncomputable def PSs (X:Cx) (st:List Stmt) (t:TS):Prop:=
 ∀ (pins:List (Addr×Obj)) (s:Shared) (Z:St) (H:Hp) (D:eE),Inv X pins Z H s->t D Z H->wpAny (model X.prog X.w) X.A (execs st X.env) (SP X pins D) X.xe s
theorem thn {α:Type} {t:Sem α} {Q Q':α->Shared->Prop} {M:Model} {A:Around} {E:Value->Shared->Prop} {s:Shared} (h:wpAny M A t Q E s) (hQ: ∀ a s,Q a s->Q' a s):wpAny M A t Q' E s:=wpAny_mono h hQ fun _ _ x=>x
section
variable {X:Cx}
noncomputable def wO (i:Nat):TE:=fun Z H Q=> ∃ v,Z[i]? =some (some v)/\Q v H
noncomputable def tC (v:V):TE:=fun _ H Q=>Q v H
theorem v8 {i:Nat} {x:Str} {pos:Pos} (hN:X.N[i]? =some x) (hv:Vis X.env.scope x) (hd:(x==("__debug__":Str))=false:=by decide) (hcd:(x==("__classdict__":Str))=false:=by decide):PE X (.Name x pos) (wO i):=by
 intro pins s Z H Q I h
 obtain ⟨v,e,h⟩:=h
 obtain ⟨m,hn,hl⟩:=I.loc
 obtain ⟨u,r,l⟩:=hl i x v hN e hv
 have fin:EP X pins Z Q u s:=⟨v,H,I,r,h⟩
 rcases l with ⟨hk,hm⟩ | ⟨hk,c,hc,hcell⟩
 ·exact wpAny_Name (wpAny_loadName_local I.ok.kind hk hn hm fin) hd
 ·rcases hk with hk | hk
  ·exact wpAny_Name (wpAny_loadName_cell I.ok.kind hk hc hcell fin) hd
  ·exact wpAny_Name (wpAny_loadName_free I.ok.kind hk hc hcell fin hcd) hd
theorem ae {i j pos}:PE X (.Constant (.int i) j pos) (tC (.int i)):=fun _ _ _ H _ I h=>wpAny_Constant_int ⟨.int i,H,I.tok _,⟨_,rfl⟩,h⟩
theorem dg {b j pos}:PE X (.Constant (.bool b) j pos) (tC (.bl b)):=fun _ _ _ H _ I h=>Constant_bool ⟨.bl b,H,I,rfl,h⟩
theorem fP {j pos}:PE X (.Constant .none j pos) (tC .non):=fun _ _ _ H _ I h=>Constant_none ⟨.non,H,I,rfl,h⟩
theorem aP {x j pos}:PE X (.Constant (.str x) j pos) (tC (.str x)):=fun _ _ _ H _ I h=>Calls.Constant_str ⟨.str x,H,I.tok _,⟨_,rfl⟩,h⟩
noncomputable def Gl (X:Cx) (x:Str):Prop:=X.env.kindOf x=some .globalImplicit
theorem pj {E:Value->Shared->Prop} {pins:List (Addr×Obj)} {s:Shared} {Z:St} {H:Hp} {x:Str} {u:Value} {pos:Pos} {Q:Value->Shared->Prop} (I:Inv X pins Z H s) (hg:Gl X x) (hm:X.mg x=some u) (h:Q u s)
  (hd:(x==("__debug__":Str))=false:=by decide):wpAny (model X.prog X.w) X.A (eval (.Name x pos) X.env) Q E s:=
 Calls.Name_function_global I.ok.kind hg (Calls.loadGlobal_global (by rw [I.ok.glob];exact I.mod.glob.keeps I.bk) hm h) hd
theorem fh {E:Value->Shared->Prop} {pins:List (Addr×Obj)} {s:Shared} {Z:St} {H:Hp} {x:Str} {u:Value} {pos:Pos} {Q:Value->Shared->Prop} (I:Inv X pins Z H s) (hg:Gl X x) (hm:X.mg x=none) (hv:bootBuiltins x=some u) (h:Q u s)
  (hn:x≠"__name__":=by decide) (hd:(x==("__debug__":Str))=false:=by decide):wpAny (model X.prog X.w) X.A (eval (.Name x pos) X.env) Q E s:=by
 obtain ⟨mb,h1,h2⟩:=I.mod.blt
 exact Calls.Name_function_global I.ok.kind hg (Calls.loadGlobal_builtin (by rw [I.ok.glob];exact I.mod.glob.keeps I.bk) hm (by rw [I.ok.blt];exact h1.keeps I.bk) ((h2 x hn).trans hv) h) hd
theorem cr {x:Str} {v:V} {u:Value} {pos:Pos} (hg:Gl X x) (hm:X.mg x=some u) (r:RelV v u) (hd:(x==("__debug__":Str))=false:=by decide):PE X (.Name x pos) (tC v):=
 fun _ _ _ H _ I h=>pj I hg hm ⟨v,H,I,r,h⟩ hd
theorem bE {x:Str} {v:V} {u:Value} {pos:Pos} (hg:Gl X x) (hm:X.mg x=none) (hv:bootBuiltins x=some u) (r:RelV v u) (hn:x≠"__name__":=by decide) (hd:(x==("__debug__":Str))=false:=by decide):PE X (.Name x pos) (tC v):=
 fun _ _ _ H _ I h=>fh I hg hm hv ⟨v,H,I,r,h⟩ hn hd
variable {a b:Expr} {ta tb:TE} {pos:Pos}
noncomputable def tB (t:TE):TT:=fun Z H Q=>t Z H fun x H1=> ∃ c,x=.bl c/\Q c H1
theorem aT {e:Expr} {t:TE} (h:PE X e t) (he: ∀ whole,isTrue e X.env whole=(do let v <- whole;standAt e.pos;holding [v] (truthy v)):=by intro _;rfl):PT X e (tB t):=by
 intro pins s Z H Q I hw
 refine isTrue_plain (thn (h pins s Z H _ I hw) fun v s1 ⟨x,H1,I1,r1,q1⟩=>?_) (he _)
 obtain ⟨d,rfl,q⟩:=q1
 cases r1
 exact wpAny_truthy_bool ⟨H1,I1,q⟩
variable {tA tB':TT} {rest:List Expr}
noncomputable def xQ (t u:TT):TT:=fun Z H Q=>t Z H fun c H1=>if c=true then u Z H1 Q else Q false H1
noncomputable def tOr (t u:TT):TT:=fun Z H Q=>t Z H fun c H1=>if c=true then Q true H1 else u Z H1 Q
noncomputable def xK (t:TT):TT:=fun Z H Q=>t Z H fun c H1=>Q (!c) H1
theorem dD (ha:PT X a tA):PW X (.BoolOp .And [a] pos) tA:=by
 intro wh pins s Z H Q I h
 refine isTrue_and (thn (ha pins s Z H Q I h) fun c s1 e=>?_)
 cases c with
 | true=>exact isTrue_and_nil e
 | false=>exact e
theorem cD (ha:PT X a tA):PW X (.BoolOp .Or [a] pos) tA:=by
 intro wh pins s Z H Q I h
 refine isTrue_or (thn (ha pins s Z H Q I h) fun c s1 e=>?_)
 cases c with
 | false=>exact isTrue_or_nil e
 | true=>exact e
theorem eY (ha:PT X a tA) (hb:PW X (.BoolOp .And (b::rest) pos) tB'):PW X (.BoolOp .And (a::b::rest) pos) (xQ tA tB'):=by
 intro wh pins s Z H Q I h
 refine isTrue_and (thn (ha pins s Z H _ I h) fun c s1 ⟨H1,I1,q1⟩=>?_)
 cases c with
 | true=>exact hb wh pins s1 Z H1 Q I1 q1
 | false=>exact ⟨H1,I1,q1⟩
theorem c6 (ha:PT X a tA) (hb:PW X (.BoolOp .Or (b::rest) pos) tB'):PW X (.BoolOp .Or (a::b::rest) pos) (tOr tA tB'):=by
 intro wh pins s Z H Q I h
 refine isTrue_or (thn (ha pins s Z H _ I h) fun c s1 ⟨H1,I1,q1⟩=>?_)
 cases c with
 | true=>exact ⟨H1,I1,q1⟩
 | false=>exact hb wh pins s1 Z H1 Q I1 q1
theorem aY (ha:PT X a tA):PT X (.UnaryOp .Not a pos) (xK tA):=by
 intro pins s Z H Q I h
 exact isTrue_not (ha pins s Z H (fun c H1=>Q (!c) H1) I h)
noncomputable def wY (ta tb:TE):TE:=fun Z H Q=>ta Z H fun x H1=> ∃ c,x=.bl c/\if c=true then tb Z H1 Q else Q (.bl false) H1
noncomputable def wR (ta:TE):TE:=fun Z H Q=>ta Z H fun x H1=> ∃ c,x=.bl c/\Q (.bl (!c)) H1
theorem cv {op} {t:TE} (h:PE X a t):PE X (.BoolOp op [a] pos) t:=fun pins s Z H Q I hw=>BoolOp_one (h pins s Z H Q I hw)
theorem cf (ha:PE X a ta) (hb:PE X (.BoolOp .And (b::rest) pos) tb):PE X (.BoolOp .And (a::b::rest) pos) (wY ta tb):=by
 intro pins s Z H Q I h
 refine BoolOp_and (thn (ha pins s Z H _ I h) fun v s1 ⟨x,H1,I1,r1,q1⟩=>?_)
 obtain ⟨c,rfl,q1⟩:=q1
 cases r1
 refine wpAny_truthy_bool ?_
 cases c with
 | true=>exact hb pins s1 Z H1 Q I1 q1
 | false=>exact ⟨.bl false,H1,I1,rfl,q1⟩
theorem sj (ha:PE X a ta):PE X (.UnaryOp .Not a pos) (wR ta):=by
 intro pins s Z H Q I h
 refine UnaryOp_ (thn (ha pins s Z H _ I h) fun v s1 ⟨x,H1,I1,r1,q1⟩=>?_)
 obtain ⟨c,rfl,q1⟩:=q1
 cases r1
 exact not_of (wpAny_truthy_bool ⟨.bl (!c),H1,I1,rfl,q1⟩)
noncomputable def tIf (t:TT) (ta tb:TE):TE:=fun Z H Q=>t Z H fun c H1=>if c=true then ta Z H1 Q else tb Z H1 Q
theorem gj {c:Expr} (hc:PT X c tA) (ha:PE X a ta) (hb:PE X b tb):PE X (.IfExp c a b pos) (tIf tA ta tb):=by
 intro pins s Z H Q I h
 refine wpAny_IfExp (thn (hc pins s Z H _ I h) fun d s1 ⟨H1,I1,q1⟩=>?_)
 cases d with
 | true=>exact ha pins s1 Z H1 Q I1 q1
 | false=>exact hb pins s1 Z H1 Q I1 q1
end
noncomputable def SqL (K:PySem.W.Frag) (H:Hp) (a:Addr) (xs:List V):Prop:=
 Rd H a (.lst xs)\/
  ∃ (o:Obj) (its:Array Value) (n:Nat),K.lookup a=some o/\o.cls=.type "list"/\o.dict=none/\o.data=.seq its n/\its.size<=sizeLine/\Vals xs its.toList
noncomputable def SqT (K:PySem.W.Frag) (H:Hp) (a:Addr) (xs:List V):Prop:=
 Rd H a (.tup xs)\/
  ∃ (o:Obj) (its:Array Value) (n:Nat),K.lookup a=some o/\o.cls=.type "tuple"/\o.data=.seq its n/\its.size<=sizeLine/\Vals xs its.toList
noncomputable def yh:Value->Option V
 | .none=>some .non
 | .bool b=>some (.bl b)
 | .int i _=>some (.int i)
 | .str x _=>some (.str x)
 | .bytes b _=>some (.byt b)
 | .float b _=>some (.flt b)
 | .ref a=>some (.ref a)
 | .type n=>some (.ty n)
 | _=>none
theorem RelV.abs {x:V} {u:Value} (r:RelV x u):yh u=some x:=by
 cases x with
 | non=>cases r;rfl
 | bl _=>cases r;rfl
 | int _=>obtain ⟨t,rfl⟩:=r;rfl
 | str _=>obtain ⟨t,rfl⟩:=r;rfl
 | byt _=>obtain ⟨t,rfl⟩:=r;rfl
 | flt _=>obtain ⟨t,rfl⟩:=r;rfl
 | ref _=>cases r;rfl
 | ty _=>cases r;rfl
theorem RelV.inj {x y:V} {u:Value} (r:RelV x u) (q:RelV y u):x=y:=Option.some.inj (r.abs.symm.trans q.abs)
theorem Vals.inj: ∀ {xs ys:List V} {us:List Value},Vals xs us->Vals ys us->xs=ys
 | _,_,_,.nil,.nil=>rfl
 | _,_,_,.cons r t,.cons r' t'=>by rw [r.inj r',Vals.inj t t']
section
variable {X:Cx} {pins:List (Addr×Obj)} {Z:St} {H:Hp} {s:Shared} {a:Addr} {xs ys:List V}
theorem SqL.of {K:PySem.W.Frag} (h:H a=some (.lst xs)):SqL K H a xs:=.inl (.inl h)
theorem SqT.of {K:PySem.W.Frag} (h:H a=some (.tup xs)):SqT K H a xs:=.inl (.inl h)
theorem Inv.list (I:Inv X pins Z H s) (h:SqL X.K H a xs): ∃ its:List Value,Vals xs its/\PlainL s.heap a its.toArray/\xs.length<=sizeLine:=by
 rcases h with h | ⟨o,its,n,hk,hc,hd,hs,hz,r⟩
 ·obtain ⟨z,its,n,r,e⟩:=h.ok I.hok
  exact ⟨its,r,⟨_,n,e,rfl,rfl,rfl⟩,z⟩
 ·refine ⟨its.toList,r,⟨o,n,I.kIn a o hk,hc,hd,by simpa using hs⟩,?_⟩
  have e:=r.length
  simp only [Array.length_toList]at e
  omega
theorem Inv.tuple (I:Inv X pins Z H s) (h:SqT X.K H a xs): ∃ its:List Value,Vals xs its/\IsTup s.heap a its.toArray/\xs.length<=sizeLine:=by
 rcases h with h | ⟨o,its,n,hk,hc,hs,hz,r⟩
 ·obtain ⟨z,its,r,p⟩:=h.ok I.hok
  exact ⟨its,r,p,z⟩
 ·refine ⟨its.toList,r,⟨o,I.kIn a o hk,hc,n,by simpa using hs⟩,?_⟩
  have e:=r.length
  simp only [Array.length_toList]at e
  omega
theorem Inv.list_inj (I:Inv X pins Z H s) (h:SqL X.K H a xs) (h':SqL X.K H a ys):xs=ys:=by
 obtain ⟨its,r,⟨o,n,e,_,_,d⟩,_⟩:=I.list h
 obtain ⟨its',r',⟨o',n',e',_,_,d'⟩,_⟩:=I.list h'
 rw [e]at e';cases e'
 rw [d]at d'
 injection d' with d1 _
 have:its=its':=by simpa using congrArg Array.toList d1
 subst this
 exact r.inj r'
theorem Inv.tuple_inj (I:Inv X pins Z H s) (h:SqT X.K H a xs) (h':SqT X.K H a ys):xs=ys:=by
 obtain ⟨its,r,⟨o,e,_,n,d⟩,_⟩:=I.tuple h
 obtain ⟨its',r',⟨o',e',_,n',d'⟩,_⟩:=I.tuple h'
 rw [e]at e';cases e'
 rw [d]at d'
 injection d' with d1 _
 have:its=its':=by simpa using congrArg Array.toList d1
 subst this
 exact r.inj r'
end
noncomputable abbrev Cx.wish (X:Cx) (E:Value->Shared->Prop):Cx:={X with xe:=E}
noncomputable abbrev Cx.nox (X:Cx):Cx:=X.wish fun _ _=>False
theorem Cx.Ok.wish {X:Cx} (ok:X.Ok) (E:Value->Shared->Prop):(X.wish E).Ok:=
 ⟨ok.mod,ok.kind,ok.glob,ok.blt,ok.above,ok.inj,ok.has,ok.cab,ok.hd,ok.frames,ok.stk,ok.exf,ok.bs,ok.bsz,ok.noex,ok.exfs,ok.funs,ok.frf⟩
theorem Cx.Ok.unwish {X:Cx} {E:Value->Shared->Prop} (ok:(X.wish E).Ok):X.Ok:=
 ⟨ok.mod,ok.kind,ok.glob,ok.blt,ok.above,ok.inj,ok.has,ok.cab,ok.hd,ok.frames,ok.stk,ok.exf,ok.bs,ok.bsz,ok.noex,ok.exfs,ok.funs,ok.frf⟩
section
variable {X:Cx} {pins:List (Addr×Obj)} {Z:St} {H:Hp} {s:Shared} {E:Value->Shared->Prop}
theorem Inv.wish (I:Inv X pins Z H s) (E:Value->Shared->Prop):Inv (X.wish E) pins Z H s:=⟨I.ok.wish E,I.os,I.bare,I.base,I.loc,I.cell,I.free,I.freeC,I.pin,I.hok,I.len⟩
theorem Inv.unwish (I:Inv (X.wish E) pins Z H s):Inv X pins Z H s:=⟨I.ok.unwish,I.os,I.bare,I.base,I.loc,I.cell,I.free,I.freeC,I.pin,I.hok,I.len⟩
theorem SP.unwish {D:eE} {f:Flow} {s':Shared} (h:SP (X.wish E) pins D f s'):SP X pins D f s':=by
 cases f with
 | next=>obtain ⟨Z',H',I,q⟩:=h;exact ⟨Z',H',I.unwish,q⟩
 | brk=>obtain ⟨Z',H',I,q⟩:=h;exact ⟨Z',H',I.unwish,q⟩
 | cont=>obtain ⟨Z',H',I,q⟩:=h;exact ⟨Z',H',I.unwish,q⟩
 | ret u=>obtain ⟨v,Z',H',I,r,q⟩:=h;exact ⟨v,Z',H',I.unwish,r,q⟩
theorem PSs.nox {st:List Stmt} {t:TS} (h:PSs X.nox st t):PSs X st t:=fun pins s Z H D I hw=>
 wpAny_mono (h pins s Z H D (I.wish _) hw) (fun _ _ q=>q.unwish) fun _ _ z=>False.elim z
end
section
variable {X:Cx} {st:Stmt} {rest:List Stmt} {t u:TS} {e:Expr} {te:TE} {pos:Pos}
noncomputable def wS:TS:=fun D Z H=>D.nx Z H
noncomputable def vL (t u:TS):TS:=fun D Z H=>t {D with nx:=u D} Z H
theorem aC:PSs X [] wS:=fun _ _ Z H _ I h=>wpAny_execs_nil ⟨Z,H,I,h⟩
theorem ad (h1:PS X st t) (h2:PSs X rest u):PSs X (st::rest) (vL t u):=by
 intro pins s Z H D I h
 refine wpAny_execs_cons (thn (h1 pins s Z H {D with nx:=u D} I h) fun f s1 q=>?_)
 cases f with
 | next=>
  obtain ⟨Z',H',I',q⟩:=q
  exact h2 pins s1 Z' H' D I' q
 | ret v=>exact q
 | brk=>exact q
 | cont=>exact q
theorem aj (h1:PS X st t):PSs X [st] t:=by
 intro pins s Z H D I h
 refine wpAny_execs_cons (thn (h1 pins s Z H D I h) fun f s1 q=>?_)
 cases f with
 | next=>exact wpAny_execs_nil q
 | ret v=>exact q
 | brk=>exact q
 | cont=>exact q
theorem Inv.quiet {pins:List (Addr×Obj)} {Z:St} {H:Hp} {s:Shared} (I:Inv X pins Z H s):interactive X.env=false:=by simp [interactive,I.ok.kind]
noncomputable def wU (te:TE):TS:=fun D Z H=>te Z H fun _ H1=>D.nx Z H1
theorem cq (he:PE X e te) (hs:swapsWith e none pos.line X.env=pure false:=by rfl):PS X (.Expr e pos) (wU te):=by
 intro pins s Z H D I h
 exact wpAny_Expr_any (thn (he pins s Z H _ I h) fun v s1 ⟨x,H1,I1,r1,q1⟩=>⟨Z,H1,I1,q1⟩) I.quiet hs
noncomputable def xJ (te:TE):TS:=fun D Z H=>te Z H D.rt
theorem aw (he:PE X e te):PS X (.Return (some e) pos) (xJ te):=by
 intro pins s Z H D I h
 exact wpAny_Return_some (thn (he pins s Z H _ I h) fun v s1 ⟨x,H1,I1,r1,q1⟩=>⟨x,Z,H1,I1,r1,q1⟩)
noncomputable def xM (c:TT) (t u:TS):TS:=fun D Z H=>c Z H fun b H1=>if b=true then t D Z H1 else u D Z H1
theorem aL {c:Expr} {a b:List Stmt} {tc:TT} (hc:PT X c tc) (ha:PSs X a t) (hb:PSs X b u):PS X (.If c a b pos) (xM tc t u):=by
 intro pins s Z H D I h
 refine wpAny_If (thn (hc pins s Z H _ I h) fun d s1 ⟨H1,I1,q1⟩=>?_)
 cases d with
 | true=>exact ha pins s1 Z H1 D I1 q1
 | false=>exact hb pins s1 Z H1 D I1 q1
noncomputable def vM:TS:=fun _ _ _=>False
theorem aK {sts:List Stmt}:PSs X sts vM:=fun _ _ _ _ _ _ h=>h.elim
end
noncomputable abbrev TG:=V->St->Hp->(St->Hp->Prop)->Prop
noncomputable abbrev TGs:=List V->St->Hp->(St->Hp->Prop)->Prop
noncomputable def PG (X:Cx) (target:Expr) (t:TG):Prop:=
 ∀ (pins:List (Addr×Obj)) (s:Shared) (Z:St) (H:Hp) (v:V) (u:Value) (Q:St->Hp->Prop),Inv X pins Z H s->RelV v u->t v Z H Q->
  wpAny (model X.prog X.w) X.A (assign target X.env u) (fun _ s'=> ∃ Z' H',Inv X pins Z' H' s'/\Q Z' H') X.xe s
noncomputable def PGs (X:Cx) (ts:List Expr) (t:TGs):Prop:=
 ∀ (pins:List (Addr×Obj)) (s:Shared) (Z:St) (H:Hp) (vs:List V) (us:List Value) (Q:St->Hp->Prop),Inv X pins Z H s->Vals vs us->t vs Z H Q->
  wpAny (model X.prog X.w) X.A (assignInOrder ((assignEach ts X.env).map (·.2)) us) (fun _ s'=> ∃ Z' H',Inv X pins Z' H' s'/\Q Z' H') X.xe s
noncomputable abbrev wH:=V->V->V->Hp->(Hp->Prop)->Prop
noncomputable def xG (X:Cx) (t:wH):Prop:=
 ∀ (pins:List (Addr×Obj)) (s:Shared) (Z:St) (H:Hp) (o i v:V) (ov iv u:Value) (Q:Hp->Prop),Inv X pins Z H s->RelV o ov->RelV i iv->RelV v u->t o i v H Q->
  wpAny (model X.prog X.w) X.A (setItem ov iv u) (fun _ s'=> ∃ H',Inv X pins Z H' s'/\Q H') X.xe s
noncomputable abbrev TIp:=V->V->Hp->VK->Prop
noncomputable def PIp (X:Cx) (op:Operator) (t:TIp):Prop:=
 ∀ (pins:List (Addr×Obj)) (s:Shared) (Z:St) (H:Hp) (x y:V) (v u:Value) (Q:VK),Inv X pins Z H s->RelV x v->RelV y u->t x y H Q->
  wpAny (model X.prog X.w) X.A (inplaceOp op v u) (EP X pins Z Q) X.xe s
section
variable {X:Cx} {pos:Pos}
noncomputable def dI (i:Nat):TG:=fun v Z H Q=>Q (Z.set i (some v)) H
theorem aH {i:Nat} {x:Str} (hN:X.N.Nodup) (hi:X.N[i]? =some x) (hx:Loc X.env.scope x) (hf:X.fn x=true\/X.env.scope.names.lookup x=some .local:=by first | exact .inl rfl | exact .inr rfl | assumption):PG X (.Name x pos) (dI i):=by
 intro pins s Z H v u Q I r h
 exact wpAny_assign_Name (iF I hN hi hx r (fun s' I'=>⟨_,H,I',h⟩) hf)
noncomputable def wz:TGs:=fun vs Z H Q=>vs=[]/\Q Z H
noncomputable def jN (t:TG) (u:TGs):TGs:=fun vs Z H Q=> ∃ v r,vs=v::r/\t v Z H fun Z' H'=>u r Z' H' Q
theorem dj:PGs X [] wz:=by
 intro pins s Z H vs us Q I r h
 obtain ⟨e,h⟩:=h
 subst e
 cases r
 exact assignInOrder_nil ⟨Z,H,I,h⟩
theorem aU {e:Expr} {es:List Expr} {t:TG} {u:TGs} (h1:PG X e t) (h2:PGs X es u)
  (hs:(assignEach (e::es) X.env).map (·.2)=assign e X.env::(assignEach es X.env).map (·.2):=by rfl):PGs X (e::es) (jN t u):=by
 intro pins s Z H vs us Q I r h
 obtain ⟨v,vr,e1,h⟩:=h
 subst e1
 cases r with
 | cons r rr=>
  rw [hs]
  refine assignInOrder_cons (thn (h1 pins s Z H _ _ _ I r h) fun _ s1 ⟨Z1,H1,I1,q1⟩=>?_)
  exact h2 pins s1 Z1 H1 _ _ Q I1 rr q1
noncomputable def wx (K:PySem.W.Frag) (n:Nat) (t:TGs):TG:=fun v Z H Q=> ∃ a xs,v=.ref a/\SqT K H a xs/\xs.length=n/\t xs Z H Q
theorem eC {es:List Expr} {k:Nat} {t:TGs} {n:Nat} (hc:X.calm=true) (h:PGs X es t)
  (hn:(assignEach es X.env).length=n:=by rfl) (hst:(assignEach es X.env).findIdx? (·.1)=none:=by rfl):PG X (.Tuple es k pos) (wx X.K n t):=by
 intro pins s Z H v u Q I r hw
 obtain ⟨a,xs,e1,hq,hl,hw⟩:=hw
 subst e1
 cases r
 obtain ⟨its,rv,ht,hz⟩:=I.tuple hq
 refine assign_Tuple_tuple (I.ok.hd hc) ht (by simp [hn,<- hl,rv.length]) hst fun h' hx=>?_
 have I1:Inv X pins Z H {s with heap:=h'}:=I.kept (t':=s.toks) fun b o e=>hx b o (Nat.ne_of_lt (Heap.lt_size e)) e
 exact h pins _ Z H xs _ Q I1 (by simpa using rv) hw
noncomputable def yf (to ti:TE) (t:wH):TG:=fun v Z H Q=>to Z H fun o H1=>ti Z H1 fun i H2=>t o i v H2 fun H3=>Q Z H3
theorem v7 {o i:Expr} {to ti:TE} {t:wH} (ho:PE X o to) (hi:PE X i ti) (hs:xG X t)
  (ha: ∀ v,assign (.Subscript o i pos) X.env v=(do
   let ov <- holding [v] (eval o X.env)
   let iv <- holding [v,ov] (eval i X.env)
   standAt pos
   holding [v,ov,iv] (setItem ov iv v)
   release [v,ov,iv] []):=by intro _;rfl):PG X (.Subscript o i pos) (yf to ti t):=by
 intro pins s Z H v u Q I r h
 rw [ha]
 refine wpAny_bind (wpAny_holding (thn (ho pins s Z H _ I h) fun ov s1 ⟨x,H1,I1,r1,q1⟩=>?_))
 refine wpAny_bind (wpAny_holding (thn (hi pins s1 Z H1 _ I1 q1) fun iv s2 ⟨y,H2,I2,r2,q2⟩=>?_))
 refine wpAny_bind (wpAny_standAt (wpAny_bind (wpAny_holding (thn (hs pins s2 Z H2 x y v ov iv u _ I2 r1 r2 r q2) fun _ s3 ⟨H3,I3,q3⟩=>?_))))
 exact wpAny_release ⟨Z,H3,I3,q3⟩
noncomputable def nJ (te:TE) (g:TG):TS:=fun D Z H=>te Z H fun x H1=>g x Z H1 D.nx
theorem v4 {tg e:Expr} {te:TE} {g:TG} (he:PE X e te) (hg:PG X tg g) (hs:swapsWithSole [tg] e pos.line X.env=pure false:=by rfl) (hw:swappedStores [tg] e X.env=pure none:=by rfl)
  (h1:(assignEach [tg] X.env).map (·.2)=[assign tg X.env]:=by rfl):PS X (.Assign [tg] e pos) (nJ te g):=by
 intro pins s Z H D I h
 refine wpAny_Assign_stores (thn (he pins s Z H _ I h) fun v s1 ⟨x,H1,I1,r1,q1⟩=>?_) hs hw
 rw [h1]
 exact thn (hg pins s1 Z H1 x v _ I1 r1 q1) fun _ s2 q=>q
theorem aq {i:Nat} {x:Str} {e:Expr} {te:TE} {pos':Pos} (hN:X.N.Nodup) (hi:X.N[i]? =some x) (hx:Loc X.env.scope x) (he:PE X e te) (hs:swapsWith e (some (.Name x pos')) pos.line X.env=pure false:=by rfl) (hf:X.fn x=true\/X.env.scope.names.lookup x=some .local:=by first | exact .inl rfl | exact .inr rfl | assumption):
  PS X (.Assign [.Name x pos'] e pos) (nJ te (dI i)):=by
 intro pins s Z H D I h
 refine wpAny_Assign_Name (thn (he pins s Z H _ I h) fun v s1 ⟨y,H1,I1,r1,q1⟩=>?_) hs
 exact iF I1 hN hi hx r1 (fun s2 I2=>⟨_,H1,I2,q1⟩) hf
noncomputable def xP (i:Nat) (te:TE) (ti:TIp):TS:=fun D Z H=> ∃ x,Z[i]? =some (some x)/\te Z H fun y H1=>ti x y H1 fun z H2=>D.nx (Z.set i (some z)) H2
theorem vZ {i:Nat} {x:Str} {e:Expr} {te:TE} {op:Operator} {ti:TIp} {pos':Pos} (hN:X.N.Nodup) (hi:X.N[i]? =some x) (hx:Loc X.env.scope x) (he:PE X e te) (ho:PIp X op ti) (hf:X.fn x=true\/X.env.scope.names.lookup x=some .local:=by first | exact .inl rfl | exact .inr rfl | assumption):
  PS X (.AugAssign (.Name x pos') op e pos) (xP i te ti):=by
 intro pins s Z H D I h
 obtain ⟨v,e1,h⟩:=h
 obtain ⟨m,hn,hl⟩:=I.loc
 have vis:Vis X.env.scope x:=by rcases hx with k | k;exact .inl k;exact .inr (.inl k)
 obtain ⟨u,r,l⟩:=hl i x v hi e1 vis
 refine wpAny_AugAssign_Name ?_
 have go:wpAny (model X.prog X.w) X.A (eval e X.env) (fun w s₂=>wpAny (model X.prog X.w) X.A (inplaceOp op u w) (fun r s₃=>wpAny (model X.prog X.w) X.A (storeName X.env x r) (fun _=>SP X pins D .next) X.xe s₃) X.xe s₂) X.xe s:=by
  refine thn (he pins s Z H _ I h) fun w s1 ⟨y,H1,I1,r1,q1⟩=>?_
  refine thn (ho pins s1 Z H1 v y u w _ I1 r r1 q1) fun z s2 ⟨zv,H2,I2,r2,q2⟩=>?_
  exact iF I2 hN hi hx r2 (fun s3 I3=>⟨_,H2,I3,q2⟩) hf
 rcases l with ⟨hk,hm⟩ | ⟨hk,c,hc,hcell⟩
 ·exact wpAny_loadName_local I.ok.kind hk hn hm go
 ·rcases hk with hk | hk
  ·exact wpAny_loadName_cell I.ok.kind hk hc hcell go
  ·rcases hx with k | k
   ·have:X.env.scope.names.lookup x=some .free:=hk
    rw [k]at this;cases this
   ·have:X.env.scope.names.lookup x=some .free:=hk
    rw [k]at this;cases this
noncomputable def ipI (f:Int->Int->Int):TIp:=fun x y H Q=> ∃ i j,x=.int i/\y=.int j/\Q (.int (f i j)) H
theorem wv:PIp X .Add (ipI fun i j=>i+j):=by
 intro pins s Z H x y v u Q I r1 r2 h
 obtain ⟨i,j,e1,e2,q⟩:=h
 subst e1;subst e2
 obtain ⟨t,rfl⟩:=r1
 obtain ⟨t',rfl⟩:=r2
 exact iadd_int ⟨.int _,H,I.tok _,⟨_,rfl⟩,q⟩
end
section
variable {X:Cx} {pos:Pos}
noncomputable def qV (c:TT) (tb:TS):TS:=fun D Z H=> ∃ W:Nat->St->Hp->Prop,(∃ m,W m Z H)/\ ∀ m Z H,W m Z H->
 c Z H fun b H1=>if b=true then ∃ N:St->Hp->Prop,(∀ Z' H',N Z' H'-> ∃ m',m'<m/\W m' Z' H')/\tb {D with nx:=N,ct:=N,bk:=D.nx} Z H1 else D.nx Z H1
theorem iV {c:Expr} {body:List Stmt} {tc:TT} {tb:TS} (hp:PassesOwn (model X.prog X.w) X.A X.env X.xe) (hc:PT X c tc) (hb:PSs X body tb):PS X (.While c body [] pos) (qV tc tb):=by
 intro pins s Z H D I h
 obtain ⟨W,⟨m0,w0⟩,turn⟩:=h
 refine wpAny_While (codeAny_whileLoop (fun n s'=> ∃ Z' H',Inv X pins Z' H' s'/\W n Z' H') ?_ m0 ⟨Z,H,I,w0⟩)
 rintro n s1 ⟨Z1,H1,I1,w1⟩
 refine wpAny_passesOwn hp (thn (hc pins s1 Z1 H1 _ I1 (turn n Z1 H1 w1)) fun b s2 ⟨H2,I2,q2⟩=>?_)
 cases b with
 | true=>
  obtain ⟨N,hN,q2⟩:=q2
  rw [if_pos rfl]
  refine wpAny_passesOwn hp (thn (hb pins s2 Z1 H2 _ I2 q2) fun f s3 q3=>?_)
  cases f with
  | next=>
   obtain ⟨Z3,H3,I3,n3⟩:=q3
   obtain ⟨m',hm,w3⟩:=hN Z3 H3 n3
   exact ⟨m',hm,Z3,H3,I3,w3⟩
  | cont=>
   obtain ⟨Z3,H3,I3,n3⟩:=q3
   obtain ⟨m',hm,w3⟩:=hN Z3 H3 n3
   exact ⟨m',hm,Z3,H3,I3,w3⟩
  | brk=>exact q3
  | ret v=>exact q3
 | false=>
  rw [if_neg Bool.false_ne_true]
  exact wpAny_execs_nil ⟨Z1,H2,I2,q2⟩
end
structure It where
 go:Nat->Hp->Prop
 yld:Nat->Hp->V->Hp->Prop
 stop:Nat->Hp->Prop
noncomputable def iq (X:Cx) (pins:List (Addr×Obj)) (H:Hp) (b:Addr):Prop:=
 H b=none/\b≠X.env.locals/\b∉X.fs/\(b∈X.ex\/X.s₀.heap.objs.size<=b)/\(∀ x c,X.env.cells.lookup x=some c->c≠b)/\ ∀ p∈X.pn++pins,p.1≠b
theorem Inv.fpOk {X:Cx} {pins:List (Addr×Obj)} {Z:St} {H H':Hp} {s:Shared} {b:Addr} (I:Inv X pins Z H s) (hb:s.heap.objs.size<=b) (hn:H' b=none):iq X pins H' b:=by
 refine ⟨hn,Nat.ne_of_gt (Nat.lt_of_lt_of_le I.lt hb),I.nofs hb,.inr (Nat.le_trans I.sz hb),fun x c e z=>?_,fun p hp z=>?_⟩
 ·obtain ⟨v,q⟩:=I.cell x c e
  exact absurd (Nat.lt_of_lt_of_le q.lt (by rw [z];exact hb)) (Nat.lt_irrefl _)
 ·exact absurd (Nat.lt_of_lt_of_le (Heap.lt_size (I.pin p hp).1) (by rw [z];exact hb)) (Nat.lt_irrefl _)
structure nB (P:Program) (w:World) (K:PySem.W.Frag) (tg:Expr) (J:It) (fp:List Addr) (it:Addr) (tn:Nat->Heap->Prop):Prop where
 mem:it∈fp
 obj: ∀ i h,tn i h-> ∀ b∈fp,∃ o,h.get? b=some o/\ ∀ v,o.data≠ .cell v
 keep: ∀ i h h',tn i h->(∀ b∈fp,∀ o,h.get? b=some o->h'.get? b=some o)->tn i h'
 item: ∀ (X:Cx),X.prog=P->X.w=w->X.K=K->X.calm=true-> ∀ (i:Nat) (pins:List (Addr×Obj)) (s:Shared) (Z:St) (H:Hp) (E:Value->Shared->Prop),Inv X pins Z H s->(∀ b∈fp,iq X pins H b)->tn i s.heap->J.go i H->
  wpAny (model P w) X.A (pyNext (.ref it)) (fun r s1=> ∃ u,r=some u/\
   wpAny (model P w) X.A (letOwnedTupleGo tg (.ref it) u) (fun _ s2=> ∃ x H',Inv X pins Z H' s2/\RelV x u/\J.yld i H x H'/\tn (i+1) s2.heap/\ ∀ b∈fp,H' b=none) E s1) E s
 done: ∀ (X:Cx),X.prog=P->X.w=w->X.K=K->X.calm=true-> ∀ (i:Nat) (pins:List (Addr×Obj)) (s:Shared) (Z:St) (H:Hp) (E:Value->Shared->Prop),Inv X pins Z H s->(∀ b∈fp,iq X pins H b)->tn i s.heap->J.stop i H->
  wpAny (model P w) X.A (pyNext (.ref it)) (fun r s1=>r=none/\Inv X pins Z H s1) E s
 self: ∀ (A:Around) (i:Nat) (s:Shared) (Q:Value->Shared->Prop) (E:Value->Shared->Prop),tn i s.heap->Q (.ref it) s->wpAny (model P w) A (pyIter (.ref it)) Q E s
noncomputable abbrev TI:=St->Hp->(It->Hp->Prop)->Prop
noncomputable def PIE (X:Cx) (pins:List (Addr×Obj)) (Z:St) (tg:Expr) (R:It->Hp->Prop) (itv:Value) (s2:Shared):Prop:=
 ∃ (it:Addr) (fp:List Addr) (tn:Nat->Heap->Prop) (J:It) (H':Hp),itv=.ref it/\Inv X pins Z H' s2/\nB X.prog X.w X.K tg J fp it tn/\tn 0 s2.heap/\(∀ b∈fp,iq X pins H' b)/\R J H'
noncomputable def PI (X:Cx) (tg iter:Expr) (wi:TI):Prop:=
 ∀ (pins:List (Addr×Obj)) (s:Shared) (Z:St) (H:Hp) (R:It->Hp->Prop),Inv X pins Z H s->wi Z H R->
  wpAny (model X.prog X.w) X.A (eval iter X.env) (fun v s1=>wpAny (model X.prog X.w) X.A (pyIter v) (PIE X pins Z tg R) X.xe s1) X.xe s
theorem nn {M:Model} {A:Around} {E:Value->Shared->Prop} {s:Shared} {tg:Expr} {it:Addr} {u:Value} {o:Obj} {n:String} {vs:Array Value} {Q:Unit->Shared->Prop} (ho:s.heap.get? it=some o) (hc:o.cls=.type n) (hd:o.data=.fields vs)
  (hn:["enumerate","zip","dict_itemiterator","dict_reverseitemiterator","odict_iterator","itertools.zip_longest","itertools.pairwise"].contains n=false) (hQ:Q () s):wpAny M A (letOwnedTupleGo tg (.ref it) u) Q E s:=by
 unfold letOwnedTupleGo
 cases tg <;> first
  | exact wpAny_pure hQ
  | (cases u <;> first
    | exact wpAny_pure hQ
    | (refine wpAny_bind (wpAny_load ho ?_)
       rw [hc,hd]
       show wpAny M A (if (["enumerate","zip","dict_itemiterator","dict_reverseitemiterator","odict_iterator","itertools.zip_longest","itertools.pairwise"].contains n&&vs[0]? ==some (rawInt _))=true then _ else _) Q E s
       rw [if_neg (by intro h;rw [hn,Bool.false_and]at h;cases h)]
       exact wpAny_pure hQ))
noncomputable def Itl (K:PySem.W.Frag) (a:Addr):It:=
 ⟨fun i H=> ∃ xs x,SqL K H a xs/\xs[i]? =some x,fun i H x H'=>H'=H/\ ∀ xs,SqL K H a xs->xs[i]? =some x,fun i H=> ∃ xs,SqL K H a xs/\xs.length<=i⟩
noncomputable def Itt (K:PySem.W.Frag) (a:Addr):It:=
 ⟨fun i H=> ∃ xs x,SqT K H a xs/\xs[i]? =some x,fun i H x H'=>H'=H/\ ∀ xs,SqT K H a xs->xs[i]? =some x,fun i H=> ∃ xs,SqT K H a xs/\xs.length<=i⟩
noncomputable def Itr (lo:Int) (n:Nat):It:=⟨fun i _=>i<n,fun i H x H'=>H'=H/\x=.int (lo+i),fun i _=>n<=i⟩
theorem pM {P:Program} {w:World} {K:PySem.W.Frag} {tg:Expr} (a it:Addr):nB P w K tg (Itl K a) [it] it (fun i h=>h.IsListIter it a i) where
 mem:=by simp
 obj:=fun i h st b hb=>by
  have e:b=it:=by simpa using hb
  subst e
  obtain ⟨o,e,c,d⟩:=st
  exact ⟨o,e,fun v z=>by rw [d]at z;cases z⟩
 keep:=fun i h h' st k=>st.at fun o e=>k it (by simp) o e
 item:=by
  intro X hP hw hK hc i pins s Z H E I hf st hg
  subst hP hw hK
  obtain ⟨xs,x,hq,hx⟩:=hg
  obtain ⟨its,rv,p,hz⟩:=I.list hq
  obtain ⟨u,hu,ru⟩:=rv.get hx
  obtain ⟨f0,f1,f2,f3,f4,f5⟩:=hf it (by simp)
  refine wpAny_pyNext_list_item st p.isList (x:=u) (by simpa using hu) fun h' st' sb=>?_
  have I1:Inv X pins Z H {s with heap:=h'}:=I.turned (t':=s.toks) (fun b o hb e=>(sb.2 b hb).trans e) f0 f1 f3 f4 f5
  obtain ⟨o,e,c,d⟩:=id st'
  exact ⟨u,rfl,nn (s:={s with heap:=h'}) e c d (by decide) ⟨x,H,I1,ru,⟨rfl,fun ys hy=>by rw [I.list_inj hy hq];exact hx⟩,st',fun b hb=>(hf b hb).1⟩⟩
 done:=by
  intro X hP hw hK hc i pins s Z H E I hf st hg
  subst hP hw hK
  obtain ⟨xs,hq,hx⟩:=hg
  obtain ⟨its,rv,p,hz⟩:=I.list hq
  obtain ⟨f0,f1,f2,f3,f4,f5⟩:=hf it (by simp)
  have hl:=rv.length
  exact wpAny_pyNext_list_end (I.ok.hd hc) st p.isList (by simp;omega) fun h' eb=>⟨rfl,I.turned (t':=s.toks) (fun b o hb e=>eb b o hb e) f0 f1 f3 f4 f5⟩
 self:=fun _ _ _ _ _ st h=>wpAny_pyIter_listiter st h
theorem nG {P:Program} {w:World} {K:PySem.W.Frag} {tg:Expr} (a it:Addr):nB P w K tg (Itt K a) [it] it (fun i h=>h.IsTupleIter it a i) where
 mem:=by simp
 obj:=fun i h st b hb=>by
  have e:b=it:=by simpa using hb
  subst e
  obtain ⟨o,e,c,d⟩:=st
  exact ⟨o,e,fun v z=>by rw [d]at z;cases z⟩
 keep:=fun i h h' st k=>st.at fun o e=>k it (by simp) o e
 item:=by
  intro X hP hw hK hc i pins s Z H E I hf st hg
  subst hP hw hK
  obtain ⟨xs,x,hq,hx⟩:=hg
  obtain ⟨its,rv,p,hz⟩:=I.tuple hq
  obtain ⟨u,hu,ru⟩:=rv.get hx
  obtain ⟨f0,f1,f2,f3,f4,f5⟩:=hf it (by simp)
  refine wpAny_pyNext_tuple_item st (show s.heap.IsTuple a its.toArray from p) (x:=u) (by simpa using hu) fun h' st' sb=>?_
  have I1:Inv X pins Z H {s with heap:=h'}:=I.turned (t':=s.toks) (fun b o hb e=>(sb.2 b hb).trans e) f0 f1 f3 f4 f5
  obtain ⟨o,e,c,d⟩:=id st'
  exact ⟨u,rfl,nn (s:={s with heap:=h'}) e c d (by decide) ⟨x,H,I1,ru,⟨rfl,fun ys hy=>by rw [I.tuple_inj hy hq];exact hx⟩,st',fun b hb=>(hf b hb).1⟩⟩
 done:=by
  intro X hP hw hK hc i pins s Z H E I hf st hg
  subst hP hw hK
  obtain ⟨xs,hq,hx⟩:=hg
  obtain ⟨its,rv,p,hz⟩:=I.tuple hq
  obtain ⟨f0,f1,f2,f3,f4,f5⟩:=hf it (by simp)
  have hl:=rv.length
  exact wpAny_pyNext_tuple_end (I.ok.hd hc) st (show s.heap.IsTuple a its.toArray from p) (by simp;omega) fun h' eb=>⟨rfl,I.turned (t':=s.toks) (fun b o hb e=>eb b o hb e) f0 f1 f3 f4 f5⟩
 self:=fun _ _ _ _ _ st h=>wpAny_pyIter_tupleiter st h
theorem nH {P:Program} {w:World} {K:PySem.W.Frag} {tg:Expr} (it:Addr) (lo:Int) (n:Nat):nB P w K tg (Itr lo n) [it] it (fun i h=>IsRangeIter h it (lo+ (i:Nat) *1) ((n:Int) - (i:Nat)) 1) where
 mem:=by simp
 obj:=fun i h st b hb=>by
  have e:b=it:=by simpa using hb
  subst e
  exact ⟨_,st,fun v z=>by
   have z':Data.fields _=Data.cell v:=z
   cases z'⟩
 keep:=fun i h h' st k=>k it (by simp) _ st
 item:=by
  intro X hP hw hK hc i pins s Z H E I hf st hg
  subst hP hw hK
  obtain ⟨f0,f1,f2,f3,f4,f5⟩:=hf it (by simp)
  have W:=Walks.range (prog:=X.prog) (w:=X.w) (I.ok.hd hc) it lo 1 n
  refine W.item i s _ _ hg st fun v h' tk hv st' kk=>?_
  obtain ⟨t,rfl⟩:=hv
  have I1:Inv X pins Z H {s with heap:=h',toks:=tk}:=I.turned (fun b o hb e=>kk b o (by simpa using hb) e) f0 f1 f3 f4 f5
  refine ⟨_,rfl,nn (s:={s with heap:=h',toks:=tk}) (n:="range_iterator") st' rfl rfl (by decide) ⟨.int (lo+i),H,I1,⟨t,?_⟩,⟨rfl,rfl⟩,st',fun b hb=>(hf b hb).1⟩⟩
  rw [Int.mul_one]
 done:=by
  intro X hP hw hK hc i pins s Z H E I hf st hg
  subst hP hw hK
  obtain ⟨f0,f1,f2,f3,f4,f5⟩:=hf it (by simp)
  exact wpAny_pyNext_range_end (I.ok.hd hc) st (by have:n<=i:=hg;omega) fun h' eb=>⟨rfl,I.turned (t':=s.toks) (fun b o hb e=>eb b o hb e) f0 f1 f3 f4 f5⟩
 self:=fun _ _ _ _ _ st h=>wpAny_pyIter_rangeiter st h
section
variable {X:Cx} {tg:Expr}
noncomputable def xt (K:PySem.W.Frag) (tl:TE):TI:=fun Z H R=>tl Z H fun x H1=> ∃ a,x=.ref a/\(∃ xs,SqL K H1 a xs)/\R (Itl K a) H1
noncomputable def x5 (K:PySem.W.Frag) (tl:TE):TI:=fun Z H R=>tl Z H fun x H1=> ∃ a,x=.ref a/\(∃ xs,SqT K H1 a xs)/\R (Itt K a) H1
theorem cY {l:Expr} {tl:TE} (hl:PE X l tl):PI X tg l (xt X.K tl):=by
 intro pins s Z H R I h
 refine thn (hl pins s Z H _ I h) fun v s1 ⟨x,H1,I1,r1,q1⟩=>?_
 obtain ⟨a,e,⟨xs,hq⟩,q⟩:=q1
 subst e
 cases r1
 obtain ⟨its,rv,p,hz⟩:=I1.list hq
 refine wpAny_pyIter_list p.isList ?_
 refine ⟨s1.heap.objs.size,[s1.heap.objs.size],_,_,H1,rfl,I1.kept (t':=s1.toks) fun b o e=>Heap.get?_push_of_some _ e,pM a _,⟨_,Heap.get?_push_size _ rfl,rfl,rfl⟩,fun b hb=>?_,q⟩
 have e:b=s1.heap.objs.size:=by simpa using hb
 subst e
 exact I1.fpOk (Nat.le_refl _) (I1.hok.fresh (Nat.le_refl _))
theorem bd {l:Expr} {tl:TE} (hl:PE X l tl):PI X tg l (x5 X.K tl):=by
 intro pins s Z H R I h
 refine thn (hl pins s Z H _ I h) fun v s1 ⟨x,H1,I1,r1,q1⟩=>?_
 obtain ⟨a,e,⟨xs,hq⟩,q⟩:=q1
 subst e
 cases r1
 obtain ⟨its,rv,p,hz⟩:=I1.tuple hq
 refine wpAny_pyIter_tuple (show s1.heap.IsTuple a its.toArray from p) ?_
 refine ⟨s1.heap.objs.size,[s1.heap.objs.size],_,_,H1,rfl,I1.kept (t':=s1.toks) fun b o e=>Heap.get?_push_of_some _ e,nG a _,⟨_,Heap.get?_push_size _ rfl,rfl,rfl⟩,fun b hb=>?_,q⟩
 have e:b=s1.heap.objs.size:=by simpa using hb
 subst e
 exact I1.fpOk (Nat.le_refl _) (I1.hok.fresh (Nat.le_refl _))
theorem rZ {pins:List (Addr×Obj)} {Z:St} {H:Hp} {s:Shared} {R:It->Hp->Prop} {E:Value->Shared->Prop} {lo hi:Int} {t u v:Tok} {tk:Nat} (I:Inv X pins Z H s) (h1: -(2^62)<=lo) (h2:lo<2^62) (h3: -(2^62)<=hi) (h4:hi<2^62)
  (q:R (Itr lo (hi-lo).toNat) H):wpAny (model X.prog X.w) X.A (pyIter (.ref s.heap.objs.size)) (PIE X pins Z tg R) E {s with heap:=s.heap.push {cls:=.type "range",data:=.fields #[.int lo t,.int hi u,.int 1 v]},toks:=tk}:=by
 refine wpAny_pyIter_range (IsRange.new ..) (small_one h1 h2 h3 h4) ?_
 have I1:Inv X pins Z H {s with heap:=s.heap.push {cls:=.type "range",data:=.fields #[.int lo t,.int hi u,.int 1 v]},toks:=tk}:=I.kept fun b o e=>Heap.get?_push_of_some _ e
 refine ⟨(s.heap.push {cls:=.type "range",data:=.fields #[.int lo t,.int hi u,.int 1 v]}).objs.size,[(s.heap.push {cls:=.type "range",data:=.fields #[.int lo t,.int hi u,.int 1 v]}).objs.size],_,_,H,rfl,
  I1.kept (t':=tk) fun b o e=>Heap.get?_push_of_some _ e,nH _ lo (hi-lo).toNat,?_,fun b hb=>?_,q⟩
 ·have e1:lo+ ((0:Nat):Int) *1=lo:=by simp
  have e2:(((hi-lo).toNat:Nat):Int) - ((0:Nat):Int)=Builtin.Range.rangeSize lo hi 1:=by rw [rangeSize_one];split <;> omega
  show IsRangeIter _ _ (lo+ ((0:Nat):Int) *1) ((((hi-lo).toNat:Nat):Int) - ((0:Nat):Int)) 1
  rw [e1,e2]
  exact Heap.get?_push_size _ rfl
 ·have e:b=(s.heap.push {cls:=.type "range",data:=.fields #[.int lo t,.int hi u,.int 1 v]}).objs.size:=by simpa using hb
  subst e
  exact I1.fpOk (Nat.le_refl _) (I1.hok.fresh (Nat.le_refl _))
noncomputable def xr (ta:TA):TI:=fun Z H R=>ta Z H fun vs H1=> ∃ j:Int,vs=[.int j]/\ -(2^62)<=j/\j<2^62/\R (Itr 0 j.toNat) H1
theorem bq {a:Expr} {ta:TA} {p pos:Pos} (hg:Gl X "range") (hm:X.mg "range"=none) (ha:PA X [a] ta) (hs:starEach [a] X.env=[(false,eval a X.env)]:=by rfl):PI X tg (.Call (.Name "range" p) [a] [] pos) (xr ta):=by
 intro pins s Z H R I h
 refine Call_ (fh I hg hm boot_range (PyProof.Rows.callWith_type1 (thn (ha pos pins s Z H _ I h) fun us s1 ⟨vs,H1,I1,r1,q1⟩=>?_) hs rfl))
 obtain ⟨j,e,q1,q2,q⟩:=q1
 subst e
 cases r1 with
 | cons r rr=>
  cases rr
  obtain ⟨t,rfl⟩:=r
  exact call_range_1 (rZ I1 (by omega) (by omega) q1 q2 (by simpa using q))
noncomputable def xN (wi:TI) (g:TG) (tb:TS):TS:=fun D Z H=>wi Z H fun J H1=> ∃ W:Nat->Nat->St->Hp->Prop,(∃ m,W 0 m Z H1)/\ ∀ i m Z H,W i m Z H->
 (J.stop i H/\D.nx Z H)\/(J.go i H/\ ∃ N:St->Hp->Prop,(∀ Z' H',N Z' H'-> ∃ m',m'<m/\W (i+1) m' Z' H')/\ ∀ x H',J.yld i H x H'->g x Z H' fun Z2 H2=>tb {D with nx:=N,ct:=N,bk:=D.nx} Z2 H2)
noncomputable def kG (fp:List Addr) (h:Heap):List (Addr×Obj):=fp.filterMap fun b=>(h.get? b).map fun o=>(b,o)
theorem bw {fp:List Addr} {h:Heap} {b:Addr} {o:Obj} (hb:b∈fp) (e:h.get? b=some o):(b,o)∈kG fp h:=List.mem_filterMap.mpr ⟨b,hb,by rw [e];rfl⟩
theorem qw {fp:List Addr} {h:Heap} {p:Addr×Obj} (hp:p∈kG fp h):p.1∈fp/\h.get? p.1=some p.2:=by
 obtain ⟨b,hb,e⟩:=List.mem_filterMap.mp hp
 cases q:h.get? b with
 | none=>rw [q]at e;cases e
 | some o=>
  rw [q]at e
  have e':(b,o)=p:=Option.some.inj e
  subst e'
  exact ⟨hb,q⟩
theorem Inv.pinned {pins:List (Addr×Obj)} {Z:St} {H:Hp} {s:Shared} {fp:List Addr} (I:Inv X pins Z H s) (hf: ∀ b∈fp,iq X pins H b) (ho: ∀ b∈fp,∃ o,s.heap.get? b=some o/\ ∀ v,o.data≠ .cell v):Inv X (pins++kG fp s.heap) Z H s:=
 I.pins_of fun p hp=>(List.mem_append.mp hp).elim (fun z=>I.pin p (List.mem_append_right _ z)) fun z=>by
  obtain ⟨hb,e⟩:=qw z
  obtain ⟨f0,f1,f2,_⟩:=hf p.1 hb
  obtain ⟨o,e',d⟩:=ho p.1 hb
  rw [e]at e';cases e'
  exact ⟨e,f0,f1,f2,d⟩
theorem Inv.unpinned {pins pl:List (Addr×Obj)} {Z:St} {H:Hp} {s:Shared} (I:Inv X (pins++pl) Z H s):Inv X pins Z H s:=I.pins_of fun p hp=>I.pin p (List.mem_append_right _ (List.mem_append_left _ hp))
theorem bQ {iter:Expr} {body:List Stmt} {wi:TI} {g:TG} {tb:TS} {pos:Pos} (hp:PassesOwn (model X.prog X.w) X.A X.env X.xe) (hc:X.calm=true) (hi:PI X tg iter wi) (hg:PG X tg g) (hb:PSs X body tb)
  (hs: ∀ x,foldedSetIterable iter X.env x=pure x:=by intro _;rfl):PS X (.For tg iter body [] pos) (xN wi g tb):=by
 intro pins s Z H D I h
 refine wpAny_For (thn (hi pins s Z H _ I h) fun v s1 h1=>thn h1 fun itv s2 h2=>?_) hs
 obtain ⟨it,fp,tn,J,H2,e,I2,T,st2,f2,W,⟨m0,w0⟩,turn⟩:=h2
 subst e
 have stat: ∀ {H':Hp},(∀ b∈fp,H' b=none)-> ∀ b∈fp,iq X pins H' b:=fun hn b hb=>⟨hn b hb,(f2 b hb).2⟩
 refine codeAny_forLoop_any (fun n s'=> ∃ i Z' H',Inv X pins Z' H' s'/\tn i s'.heap/\(∀ b∈fp,H' b=none)/\W i n Z' H') ?_ m0 ⟨0,Z,H2,I2,st2,fun b hb=>(f2 b hb).1,w0⟩
 rintro n s3 ⟨i,Z3,H3,I3,st3,fr3,w3⟩
 rcases turn i n Z3 H3 w3 with ⟨stop,qn⟩ | ⟨go,N,hN,step⟩
 ·refine wpAny_passesOwn hp (thn (T.done X rfl rfl rfl hc i pins s3 Z3 H3 X.xe I3 (stat fr3) st3 stop) fun r s4 ⟨hr,I4⟩=>?_)
  subst hr
  exact wpAny_execs_nil ⟨Z3,H3,I4,qn⟩
 ·refine wpAny_passesOwn hp (thn (T.item X rfl rfl rfl hc i pins s3 Z3 H3 X.xe I3 (stat fr3) st3 go) fun r s4 ⟨u,hr,h4⟩=>?_)
  subst hr
  refine wpAny_passesOwn hp (thn h4 fun _ s5 ⟨x,H5,I5,r5,y5,st5,fr5⟩=>?_)
  have I5':=I5.pinned (stat fr5) (T.obj _ _ st5)
  refine wpAny_passesOwn hp (thn (hg _ s5 Z3 H5 x u _ I5' r5 (step x H5 y5)) fun _ s6 ⟨Z6,H6,I6,q6⟩=>?_)
  refine wpAny_passesOwn hp (thn (hb _ s6 Z6 H6 _ I6 q6) fun f s7 q7=>?_)
  have again: ∀ {Z7:St} {H7:Hp},Inv X (pins++kG fp s5.heap) Z7 H7 s7->N Z7 H7-> ∃ m,m<n/\ ∃ i Z' H',Inv X pins Z' H' s7/\tn i s7.heap/\(∀ b∈fp,H' b=none)/\W i m Z' H':=fun {Z7 H7} I7 n7=>by
   obtain ⟨m',hm,w7⟩:=hN Z7 H7 n7
   refine ⟨m',hm,i+1,Z7,H7,I7.unpinned,T.keep _ _ _ st5 fun b hb o e=>(I7.pin (b,o) (List.mem_append_right _ (List.mem_append_right _ (bw hb e)))).1,fun b hb=>?_,w7⟩
   obtain ⟨o,e,d⟩:=T.obj _ _ st5 b hb
   exact (I7.pin (b,o) (List.mem_append_right _ (List.mem_append_right _ (bw hb e)))).2.1
  cases f with
  | next=>obtain ⟨Z7,H7,I7,n7⟩:=q7;exact again I7 n7
  | cont=>obtain ⟨Z7,H7,I7,n7⟩:=q7;exact again I7 n7
  | brk=>obtain ⟨Z7,H7,I7,q7⟩:=q7;exact ⟨Z7,H7,I7.unpinned,q7⟩
  | ret v=>obtain ⟨x7,Z7,H7,I7,r7,q7⟩:=q7;exact ⟨x7,Z7,H7,I7.unpinned,r7,q7⟩
end
theorem gx {K:PySem.W.Frag} {a:Addr} {xs:List V} {g:TG} {tb:TS} {D:eE} {Z:St} {H:Hp} (Pv:Nat->St->Hp->Prop) (h0:Pv 0 Z H) (hl: ∀ i Z H,i<=xs.length->Pv i Z H->SqL K H a xs)
  (hs: ∀ i x Z H,xs[i]? =some x->Pv i Z H->g x Z H fun Z2 H2=>tb {D with nx:=Pv (i+1),ct:=Pv (i+1),bk:=D.nx} Z2 H2) (hd: ∀ Z H,Pv xs.length Z H->D.nx Z H):
  ∃ W:Nat->Nat->St->Hp->Prop,(∃ m,W 0 m Z H)/\ ∀ i m Z H,W i m Z H->
   ((Itl K a).stop i H/\D.nx Z H)\/((Itl K a).go i H/\ ∃ N:St->Hp->Prop,(∀ Z' H',N Z' H'-> ∃ m',m'<m/\W (i+1) m' Z' H')/\ ∀ x H',(Itl K a).yld i H x H'->g x Z H' fun Z2 H2=>tb {D with nx:=N,ct:=N,bk:=D.nx} Z2 H2):=by
 refine ⟨fun i m Z H=>m=xs.length-i/\i<=xs.length/\Pv i Z H,⟨xs.length,by simp,Nat.zero_le _,h0⟩,?_⟩
 rintro i m Z H ⟨rfl,hi,p⟩
 have q:=hl i Z H hi p
 by_cases hlt:i<xs.length
 ·refine .inr ⟨⟨xs,xs[i],q,by simp [hlt]⟩,Pv (i+1),fun Z' H' p'=>⟨xs.length- (i+1),by omega,rfl,hlt,p'⟩,fun x H' y=>?_⟩
  obtain ⟨e,y⟩:=y
  subst e
  exact hs i x Z _ (y xs q) p
 ·have e:i=xs.length:=by omega
  subst e
  exact .inl ⟨⟨xs,q,Nat.le_refl _⟩,hd Z H p⟩
theorem dk {K:PySem.W.Frag} {a:Addr} {xs:List V} {g:TG} {tb:TS} {D:eE} {Z:St} {H:Hp} (Pv:Nat->St->Hp->Prop) (h0:Pv 0 Z H) (hl: ∀ i Z H,i<=xs.length->Pv i Z H->SqT K H a xs)
  (hs: ∀ i x Z H,xs[i]? =some x->Pv i Z H->g x Z H fun Z2 H2=>tb {D with nx:=Pv (i+1),ct:=Pv (i+1),bk:=D.nx} Z2 H2) (hd: ∀ Z H,Pv xs.length Z H->D.nx Z H):
  ∃ W:Nat->Nat->St->Hp->Prop,(∃ m,W 0 m Z H)/\ ∀ i m Z H,W i m Z H->
   ((Itt K a).stop i H/\D.nx Z H)\/((Itt K a).go i H/\ ∃ N:St->Hp->Prop,(∀ Z' H',N Z' H'-> ∃ m',m'<m/\W (i+1) m' Z' H')/\ ∀ x H',(Itt K a).yld i H x H'->g x Z H' fun Z2 H2=>tb {D with nx:=N,ct:=N,bk:=D.nx} Z2 H2):=by
 refine ⟨fun i m Z H=>m=xs.length-i/\i<=xs.length/\Pv i Z H,⟨xs.length,by simp,Nat.zero_le _,h0⟩,?_⟩
 rintro i m Z H ⟨rfl,hi,p⟩
 have q:=hl i Z H hi p
 by_cases hlt:i<xs.length
 ·refine .inr ⟨⟨xs,xs[i],q,by simp [hlt]⟩,Pv (i+1),fun Z' H' p'=>⟨xs.length- (i+1),by omega,rfl,hlt,p'⟩,fun x H' y=>?_⟩
  obtain ⟨e,y⟩:=y
  subst e
  exact hs i x Z _ (y xs q) p
 ·have e:i=xs.length:=by omega
  subst e
  exact .inl ⟨⟨xs,q,Nat.le_refl _⟩,hd Z H p⟩
theorem cL {lo:Int} {n:Nat} {g:TG} {tb:TS} {D:eE} {Z:St} {H:Hp} (Pv:Nat->St->Hp->Prop) (h0:Pv 0 Z H)
  (hs: ∀ i Z H,i<n->Pv i Z H->g (.int (lo+i)) Z H fun Z2 H2=>tb {D with nx:=Pv (i+1),ct:=Pv (i+1),bk:=D.nx} Z2 H2) (hd: ∀ Z H,Pv n Z H->D.nx Z H):
  ∃ W:Nat->Nat->St->Hp->Prop,(∃ m,W 0 m Z H)/\ ∀ i m Z H,W i m Z H->
   ((Itr lo n).stop i H/\D.nx Z H)\/((Itr lo n).go i H/\ ∃ N:St->Hp->Prop,(∀ Z' H',N Z' H'-> ∃ m',m'<m/\W (i+1) m' Z' H')/\ ∀ x H',(Itr lo n).yld i H x H'->g x Z H' fun Z2 H2=>tb {D with nx:=N,ct:=N,bk:=D.nx} Z2 H2):=by
 refine ⟨fun i m Z H=>m=n-i/\i<=n/\Pv i Z H,⟨n,by simp,Nat.zero_le _,h0⟩,?_⟩
 rintro i m Z H ⟨rfl,hi,p⟩
 by_cases hlt:i<n
 ·refine .inr ⟨hlt,Pv (i+1),fun Z' H' p'=>⟨n- (i+1),by omega,rfl,hlt,p'⟩,fun x H' y=>?_⟩
  obtain ⟨e,y⟩:=y
  subst e y
  exact hs i Z _ hlt p
 ·have e:i=n:=by omega
  subst e
  exact .inl ⟨Nat.le_refl _,hd Z H p⟩
theorem iA {c:TT} {tb:TS} {D:eE} {Z:St} {H:Hp} (Pv:St->Hp->Prop) (μ:St->Hp->Nat) (h0:Pv Z H)
  (hs: ∀ Z H,Pv Z H->c Z H fun b H1=>if b=true then tb {D with nx:=fun Z' H'=>Pv Z' H'/\μ Z' H'<μ Z H,ct:=fun Z' H'=>Pv Z' H'/\μ Z' H'<μ Z H,bk:=D.nx} Z H1 else D.nx Z H1)
  (mono: ∀ Z H Q Q',(∀ b H1,Q b H1->Q' b H1)->c Z H Q->c Z H Q'):qV c tb D Z H:=by
 refine ⟨fun m Z H=>m=μ Z H/\Pv Z H,⟨_,rfl,h0⟩,?_⟩
 rintro m Z H ⟨rfl,p⟩
 refine mono Z H _ _ (fun b H1 q=>?_) (hs Z H p)
 cases b with
 | true=>exact ⟨_,fun Z' H' ⟨p',l⟩=>⟨_,l,rfl,p'⟩,q⟩
 | false=>exact q
noncomputable abbrev R2:=V->V->Hp->VK->Prop
noncomputable def OpR (X:Cx) (f:Value->Value->Sem Value) (r:R2):Prop:=
 ∀ (pins:List (Addr×Obj)) (s:Shared) (Z:St) (H:Hp) (x y:V) (v u:Value) (Q:VK),Inv X pins Z H s->RelV x v->RelV y u->r x y H Q->
  wpAny (model X.prog X.w) X.A (f v u) (EP X pins Z Q) X.xe s
noncomputable def UnR (X:Cx) (f:Value->Sem Value) (r:V->Hp->VK->Prop):Prop:=
 ∀ (pins:List (Addr×Obj)) (s:Shared) (Z:St) (H:Hp) (x:V) (v:Value) (Q:VK),Inv X pins Z H s->RelV x v->r x H Q->
  wpAny (model X.prog X.w) X.A (f v) (EP X pins Z Q) X.xe s
noncomputable def dJ (X:Cx) (f:Value) (r:List V->Hp->VK->Prop):Prop:=
 ∀ (pins:List (Addr×Obj)) (s:Shared) (Z:St) (H:Hp) (xs:List V) (us:List Value) (Q:VK),Inv X pins Z H s->Vals xs us->r xs H Q->
  wpAny (model X.prog X.w) X.A (call f us) (EP X pins Z Q) X.xe s
noncomputable def yi (X:Cx) (r:V->Hp->(Bool->Hp->Prop)->Prop):Prop:=
 ∀ (pins:List (Addr×Obj)) (s:Shared) (Z:St) (H:Hp) (x:V) (v:Value) (Q:Bool->Hp->Prop),Inv X pins Z H s->RelV x v->r x H Q->
  wpAny (model X.prog X.w) X.A (truthy v) (TP X pins Z Q) X.xe s
noncomputable def tOp (r:R2) (ta tb:TE):TE:=fun Z H Q=>ta Z H fun x H1=>tb Z H1 fun y H2=>r x y H2 Q
noncomputable def tUn (r:V->Hp->VK->Prop) (ta:TE):TE:=fun Z H Q=>ta Z H fun x H1=>r x H1 Q
noncomputable def rI (C:Int->Int->Prop) (g:Int->Int->V):R2:=fun x y H Q=> ∃ i j,x=.int i/\y=.int j/\C i j/\Q (g i j) H
noncomputable def rI0 (g:Int->Int->V):R2:=fun x y H Q=> ∃ i j,x=.int i/\y=.int j/\Q (g i j) H
noncomputable def rU (g:Int->V):V->Hp->VK->Prop:=fun x H Q=> ∃ i,x=.int i/\Q (g i) H
section
variable {X:Cx} {a b c:Expr} {ta tb tc:TE} {pos:Pos}
theorem wF (ha:PE X a ta) (hb:PE X b tb) {pins:List (Addr×Obj)} {s:Shared} {Z:St} {H:Hp} {R:V->V->Hp->Prop} (I:Inv X pins Z H s)
  (h:ta Z H fun x H1=>tb Z H1 fun y H2=>R x y H2) {Q:Value->Shared->Prop} {f:Value->Value->Sem Value}
  (hf: ∀ v u s2 x y H2,Inv X pins Z H2 s2->RelV x v->RelV y u->R x y H2->wpAny (model X.prog X.w) X.A (f v u) Q X.xe s2):
  wpAny (model X.prog X.w) X.A (eval a X.env) (fun v s₁=>wpAny (model X.prog X.w) X.A (eval b X.env) (fun u s₂=>wpAny (model X.prog X.w) X.A (f v u) Q X.xe s₂) X.xe s₁) X.xe s:=by
 refine thn (ha pins s Z H _ I h) fun v s1 ⟨x,H1,I1,r1,q1⟩=>?_
 refine thn (hb pins s1 Z H1 _ I1 q1) fun u s2 ⟨y,H2,I2,r2,q2⟩=>?_
 exact hf v u s2 x y H2 I2 r1 r2 q2
theorem aB {op:Operator} {r:R2} (ho:OpR X (binaryOp op) r) (ha:PE X a ta) (hb:PE X b tb):PE X (.BinOp a op b pos) (tOp r ta tb):=by
 intro pins s Z H Q I h
 exact wpAny_BinOp (wF ha hb I h fun v u s2 x y H2 I2 rx ry q=>ho pins s2 Z H2 x y v u Q I2 rx ry q)
theorem ic {op:UnaryOp} {r:V->Hp->VK->Prop} (ho:UnR X (unaryOp op) r) (ha:PE X a ta):PE X (.UnaryOp op a pos) (tUn r ta):=by
 intro pins s Z H Q I h
 exact UnaryOp_ (thn (ha pins s Z H _ I h) fun v s1 ⟨x,H1,I1,r1,q1⟩=>ho pins s1 Z H1 x v Q I1 r1 q1)
theorem opI {f:Value->Value->Sem Value} {C:Int->Int->Prop} {g:Int->Int->Int}
  (rule: ∀ (i j:Int) (t u:Tok) (s:Shared) (Q:Value->Shared->Prop) (E:Value->Shared->Prop),C i j->Q (.int (g i j) s.toks) {s with toks:=s.toks+1}->wpAny (model X.prog X.w) X.A (f (.int i t) (.int j u)) Q E s):
  OpR X f (rI C fun i j=>.int (g i j)):=by
 intro pins s Z H x y v u Q I rx ry h
 obtain ⟨i,j,rfl,rfl,hc,q⟩:=h
 obtain ⟨t,rfl⟩:=rx
 obtain ⟨t',rfl⟩:=ry
 exact rule i j t t' s _ _ hc ⟨.int (g i j),H,I.tok _,⟨_,rfl⟩,q⟩
theorem xo {f:Value->Value->Sem Value} {g:Int->Int->Int}
  (rule: ∀ (i j:Int) (t u:Tok) (s:Shared) (Q:Value->Shared->Prop) (E:Value->Shared->Prop),Q (.int (g i j) s.toks) {s with toks:=s.toks+1}->wpAny (model X.prog X.w) X.A (f (.int i t) (.int j u)) Q E s):
  OpR X f (rI0 fun i j=>.int (g i j)):=by
 intro pins s Z H x y v u Q I rx ry h
 obtain ⟨i,j,rfl,rfl,q⟩:=h
 obtain ⟨t,rfl⟩:=rx
 obtain ⟨t',rfl⟩:=ry
 exact rule i j t t' s _ _ ⟨.int (g i j),H,I.tok _,⟨_,rfl⟩,q⟩
theorem uQ {f:Value->Value->Sem Value} {g:Int->Int->Bool}
  (rule: ∀ (i j:Int) (t u:Tok) (s:Shared) (Q:Value->Shared->Prop) (E:Value->Shared->Prop),Q (.bool (g i j)) s->wpAny (model X.prog X.w) X.A (f (.int i t) (.int j u)) Q E s):
  OpR X f (rI0 fun i j=>.bl (g i j)):=by
 intro pins s Z H x y v u Q I rx ry h
 obtain ⟨i,j,rfl,rfl,q⟩:=h
 obtain ⟨t,rfl⟩:=rx
 obtain ⟨t',rfl⟩:=ry
 exact rule i j t t' s _ _ ⟨.bl (g i j),H,I,rfl,q⟩
noncomputable def ym (i j:Int):Prop:=0<j/\j<1073741824
noncomputable def yl (i j:Int):Prop:=0<=j/\j<=1000000/\i.natAbs<2^64
noncomputable def CMul (i j:Int):Prop:=(-(2^64) <i/\i<2^64)\/(-(2^64) <j/\j<2^64)
theorem CMul.ok {i j:Int} (h:CMul i j):IntMulOk i j:=by
 rcases h with ⟨h1,h2⟩ | ⟨h1,h2⟩
 ·exact .of_left (intBits_le_64 h1 h2)
 ·exact .of_right (intBits_le_64 h1 h2)
theorem aW:OpR X (binaryOp .Add) (rI0 fun i j=>.int (i+j)):=xo fun _ _ _ _ _ _ _ q=>add_int q
theorem dL:OpR X (binaryOp .Sub) (rI0 fun i j=>.int (i-j)):=xo fun _ _ _ _ _ _ _ q=>sub_int q
theorem de:OpR X (binaryOp .Mult) (rI CMul fun i j=>.int (i*j)):=opI fun _ _ _ _ _ _ _ hc q=>mul_int q hc.ok
theorem lb:OpR X (binaryOp .FloorDiv) (rI ym fun i j=>.int (i/j)):=opI fun i j _ _ _ _ _ hc q=>by
 have h1:(0:Int) <j:=hc.1
 have h2:j<1073741824:=hc.2
 exact floordiv_int (by omega) (by rw [Int.fdiv_eq_ediv_of_nonneg i (by omega)];exact q) (.inl (PyProof.noPylong_small (by omega)))
theorem cE:OpR X (binaryOp .Mod) (rI (fun _ j=>0<j) fun i j=>.int (i%j)):=opI fun i j _ _ _ _ _ hc q=>by
 have h1:(0:Int) <j:=hc
 exact mod_int' (by omega) (by rw [Int.fmod_eq_emod_of_nonneg i (by omega)];exact q)
theorem sB:OpR X (binaryOp .Pow) (rI yl fun i j=>.int (i^j.toNat)):=opI fun _ _ _ _ _ _ _ hc q=>pow_int_small hc.1 hc.2.1 hc.2.2 q
theorem unI {f:Value->Sem Value} {g:Int->Int}
  (rule: ∀ (i:Int) (t:Tok) (s:Shared) (Q:Value->Shared->Prop) (E:Value->Shared->Prop),Q (.int (g i) s.toks) {s with toks:=s.toks+1}->wpAny (model X.prog X.w) X.A (f (.int i t)) Q E s):
  UnR X f (rU fun i=>.int (g i)):=by
 intro pins s Z H x v Q I rx h
 obtain ⟨i,rfl,q⟩:=h
 obtain ⟨t,rfl⟩:=rx
 exact rule i t s _ _ ⟨.int (g i),H,I.tok _,⟨_,rfl⟩,q⟩
theorem eK:UnR X (unaryOp .USub) (rU fun i=>.int (-i)):=unI fun _ _ _ _ _ q=>neg_int q
end
noncomputable def w4:V->V->Bool
 | .non,.non=>true | .non,.int _=>true | .int _,.non=>true | .non,.bl _=>true | .bl _,.non=>true | .non,.str _=>true | .str _,.non=>true
 | .int _,.int _=>true | .bl _,.bl _=>true | .str _,.str _=>true | .byt _,.byt _=>true
 | .int _,.str _=>true | .str _,.int _=>true | .bl _,.str _=>true | .str _,.bl _=>true
 | _,_=>false
noncomputable def rEq:R2:=fun x y H Q=>w4 x y=true/\Q (.bl (decide (x=y))) H
noncomputable def rNe:R2:=fun x y H Q=>w4 x y=true/\Q (.bl (!decide (x=y))) H
theorem pE {i j:Int}:decide (V.int i=V.int j)=(i==j):=by
 rw [Bool.eq_iff_iff]
 simp
theorem ui {i j:Bool}:decide (V.bl i=V.bl j)=(i==j):=by
 rw [Bool.eq_iff_iff]
 simp
theorem pD {i j:Str}:decide (V.str i=V.str j)=(i==j):=by
 rw [Bool.eq_iff_iff]
 simp
theorem pF {i j:Array UInt8}:decide (V.byt i=V.byt j)=(i.toList==j.toList):=by
 rw [Bool.eq_iff_iff]
 cases i
 cases j
 simp
section
variable {X:Cx} {a b c:Expr} {ta tb tc:TE} {pos:Pos}
theorem aZ {pins:List (Addr×Obj)} {Z:St} {H:Hp} {s:Shared} {Q:VK} {k k':Bool} (I:Inv X pins Z H s) (q:Q (.bl k) H) (e:k=k'):EP X pins Z Q (.bool k') s:=by
 subst e
 exact ⟨.bl k,H,I,rfl,q⟩
theorem bj:OpR X (compareOp .Eq) rEq:=by
 intro pins s Z H x y v u Q I rx ry h
 obtain ⟨hs,q⟩:=h
 cases x with
 | non=>
  cases rx
  cases y with
  | non=>cases ry;exact PySem.EqNone.eq_none_none (aZ I q (by simp))
  | bl j=>cases ry;exact PySem.EqNone.eq_none_bool (aZ I q (by simp))
  | int j=>obtain ⟨t',rfl⟩:=ry;exact PySem.EqNone.eq_none_int (aZ I q (by simp))
  | str j=>obtain ⟨t',rfl⟩:=ry;exact PySem.EqNone.eq_none_str (aZ I q (by simp))
  | _=>exact absurd (show false=true from hs) Bool.false_ne_true
 | bl i=>
  cases rx
  cases y with
  | non=>cases ry;exact PySem.EqNone.eq_bool_none (aZ I q (by simp))
  | bl j=>cases ry;exact eq_bool (aZ I q ui)
  | str j=>obtain ⟨t',rfl⟩:=ry;exact PySem.EqMixed.eq_bool_str (aZ I q (by simp))
  | _=>exact absurd (show false=true from hs) Bool.false_ne_true
 | int i=>
  obtain ⟨t,rfl⟩:=rx
  cases y with
  | non=>cases ry;exact PySem.EqNone.eq_int_none (aZ I q (by simp))
  | int j=>obtain ⟨t',rfl⟩:=ry;exact eq_int (aZ I q pE)
  | str j=>obtain ⟨t',rfl⟩:=ry;exact PySem.EqMixed.eq_int_str (aZ I q (by simp))
  | _=>exact absurd (show false=true from hs) Bool.false_ne_true
 | str i=>
  obtain ⟨t,rfl⟩:=rx
  cases y with
  | non=>cases ry;exact PySem.EqNone.eq_str_none (aZ I q (by simp))
  | bl j=>cases ry;exact PySem.EqMixed.eq_str_bool (aZ I q (by simp))
  | int j=>obtain ⟨t',rfl⟩:=ry;exact PySem.EqMixed.eq_str_int (aZ I q (by simp))
  | str j=>obtain ⟨t',rfl⟩:=ry;exact eq_str (aZ I q pD)
  | _=>exact absurd (show false=true from hs) Bool.false_ne_true
 | byt i=>
  obtain ⟨t,rfl⟩:=rx
  cases y with
  | byt j=>obtain ⟨t',rfl⟩:=ry;exact PySem.W.eq_bytes (aZ I q pF)
  | _=>exact absurd (show false=true from hs) Bool.false_ne_true
 | _=>cases y <;> exact absurd (show false=true from hs) Bool.false_ne_true
theorem mj:OpR X (compareOp .NotEq) rNe:=by
 intro pins s Z H x y v u Q I rx ry h
 obtain ⟨hs,q⟩:=h
 cases x with
 | non=>
  cases rx
  cases y with
  | non=>cases ry;exact PySem.EqNone.ne_none_none (aZ I q (by simp))
  | bl j=>cases ry;exact PySem.EqNone.ne_none_bool (aZ I q (by simp))
  | int j=>obtain ⟨t',rfl⟩:=ry;exact PySem.EqNone.ne_none_int (aZ I q (by simp))
  | str j=>obtain ⟨t',rfl⟩:=ry;exact PySem.EqNone.ne_none_str (aZ I q (by simp))
  | _=>exact absurd (show false=true from hs) Bool.false_ne_true
 | bl i=>
  cases rx
  cases y with
  | non=>cases ry;exact PySem.EqNone.ne_bool_none (aZ I q (by simp))
  | bl j=>cases ry;exact ne_bool (aZ I q (congrArg not ui))
  | str j=>obtain ⟨t',rfl⟩:=ry;exact PySem.EqMixed.ne_bool_str (aZ I q (by simp))
  | _=>exact absurd (show false=true from hs) Bool.false_ne_true
 | int i=>
  obtain ⟨t,rfl⟩:=rx
  cases y with
  | non=>cases ry;exact PySem.EqNone.ne_int_none (aZ I q (by simp))
  | int j=>obtain ⟨t',rfl⟩:=ry;exact ne_int (aZ I q (congrArg not pE))
  | str j=>obtain ⟨t',rfl⟩:=ry;exact PySem.EqMixed.ne_int_str (aZ I q (by simp))
  | _=>exact absurd (show false=true from hs) Bool.false_ne_true
 | str i=>
  obtain ⟨t,rfl⟩:=rx
  cases y with
  | non=>cases ry;exact PySem.EqNone.ne_str_none (aZ I q (by simp))
  | bl j=>cases ry;exact PySem.EqMixed.ne_str_bool (aZ I q (by simp))
  | int j=>obtain ⟨t',rfl⟩:=ry;exact PySem.EqMixed.ne_str_int (aZ I q (by simp))
  | str j=>obtain ⟨t',rfl⟩:=ry;exact ne_str (aZ I q (congrArg not pD))
  | _=>exact absurd (show false=true from hs) Bool.false_ne_true
 | byt i=>
  obtain ⟨t,rfl⟩:=rx
  cases y with
  | byt j=>obtain ⟨t',rfl⟩:=ry;exact PySem.W.ne_bytes (aZ I q (congrArg not pF))
  | _=>exact absurd (show false=true from hs) Bool.false_ne_true
 | _=>cases y <;> exact absurd (show false=true from hs) Bool.false_ne_true
theorem fI:OpR X (compareOp .Lt) (rI0 fun i j=>.bl (decide (i<j))):=uQ fun _ _ _ _ _ _ _ q=>lt_int q
theorem jH:OpR X (compareOp .LtE) (rI0 fun i j=>.bl (decide (i<=j))):=uQ fun _ _ _ _ _ _ _ q=>le_int q
theorem jI:OpR X (compareOp .Gt) (rI0 fun i j=>.bl (decide (j<i))):=uQ fun _ _ _ _ _ _ _ q=>gt_int q
theorem vA:OpR X (compareOp .GtE) (rI0 fun i j=>.bl (decide (j<=i))):=uQ fun _ _ _ _ _ _ _ q=>ge_int q
theorem sC:OpR X (compareOp .Is) (fun x y H Q=>y=.non/\Q (.bl (decide (x=.non))) H):=by
 intro pins s Z H x y v u Q I rx ry h
 obtain ⟨rfl,q⟩:=h
 cases ry
 refine is_none_gen (aZ I q ?_)
 cases x <;> first
  | (cases rx;rfl)
  | (obtain ⟨t,rfl⟩:=rx;rfl)
theorem kQ:OpR X (compareOp .IsNot) (fun x y H Q=>y=.non/\Q (.bl (!decide (x=.non))) H):=by
 intro pins s Z H x y v u Q I rx ry h
 obtain ⟨rfl,q⟩:=h
 cases ry
 refine isnot_none_gen (aZ I q ?_)
 cases x <;> first
  | (cases rx;rfl)
  | (obtain ⟨t,rfl⟩:=rx;rfl)
theorem aE (b:Expr) {op:CmpOp} (h:op≠ .In:=by decide) (h2:op≠ .NotIn:=by decide):behindInMarks op b=false:=by
 have e1:(op==CmpOp.In)=false:=by cases op <;> first | rfl | exact absurd rfl h
 have e2:(op==CmpOp.NotIn)=false:=by cases op <;> first | rfl | exact absurd rfl h2
 cases b <;> simp [behindInMarks,e1,e2]
theorem bm {op:CmpOp} {r:R2} (ho:OpR X (compareOp op) r) (ha:PE X a ta) (hb:PE X b tb) (hm:behindInMarks op b=false):PE X (.Compare a [op] [b] pos) (tOp r ta tb):=by
 intro pins s Z H Q I h
 exact wpAny_Compare1 (wF ha hb I h fun v u s2 x y H2 I2 rx ry q=>ho pins s2 Z H2 x y v u Q I2 rx ry q) hm
noncomputable def vy (t:TE):TT:=fun Z H Q=>t Z H fun x H'=> ∃ k,x=.bl k/\Q k H'
theorem aF {op:CmpOp} {r:R2} (ho:OpR X (compareOp op) r) (ha:PE X a ta) (hb:PE X b tb) (hm:behindInMarks op b=false):PT X (.Compare a [op] [b] pos) (vy (tOp r ta tb)):=by
 intro pins s Z H Q I h
 refine wpAny_isTrue_Compare1 (thn (ha pins s Z H _ I h) fun v s1 ⟨x,H1,I1,r1,q1⟩=>thn (hb pins s1 Z H1 _ I1 q1) fun u s2 ⟨y,H2,I2,r2,q2⟩=>
  thn (ho pins s2 Z H2 x y v u _ I2 r1 r2 q2) fun c s3 ⟨z,H3,I3,r3,k,e,q3⟩=>?_) hm
 subst e
 cases r3
 exact wpAny_truthy_bool ⟨H3,I3,q3⟩
noncomputable def qZ (r r':R2) (ta tb tc:TE):TE:=fun Z H Q=>ta Z H fun x H1=>tb Z H1 fun y H2=>r x y H2 fun z H3=> ∃ k,z=.bl k/\
 (if k=true then tc Z H3 fun w' H4=>r' y w' H4 Q else Q (.bl false) H3)
theorem iY {op op':CmpOp} {r r':R2} (ho:OpR X (compareOp op) r) (ho':OpR X (compareOp op') r') (ha:PE X a ta) (hb:PE X b tb) (hc:PE X c tc)
  (hm:lastMarks [op,op'] [b,c]=false:=by with_unfolding_all rfl):PE X (.Compare a [op,op'] [b,c] pos) (qZ r r' ta tb tc):=by
 intro pins s Z H Q I h
 refine Compare_chain (thn (ha pins s Z H _ I h) fun v s1 ⟨x,H1,I1,r1,q1⟩=>chain_link (thn (hb pins s1 Z H1 _ I1 q1) fun u s2 ⟨y,H2,I2,r2,q2⟩=>
  thn (ho pins s2 Z H2 x y v u _ I2 r1 r2 q2) fun d s3 ⟨z,H3,I3,r3,k,e,q3⟩=>?_)) hm
 subst e
 cases r3
 refine wpAny_truthy_bool ?_
 cases k with
 | false=>exact ite_ff ⟨.bl false,H3,I3,rfl,q3⟩
 | true=>exact ite_tt (chain_last (thn (hc pins s3 Z H3 _ I3 q3) fun w' s4 ⟨z',H4,I4,r4,q4⟩=>ho' pins s4 Z H4 y z' u w' Q I4 r2 r4 q4))
theorem sf {op op':CmpOp} {r r':R2} (ho:OpR X (compareOp op) r) (ho':OpR X (compareOp op') r') (ha:PE X a ta) (hb:PE X b tb) (hc:PE X c tc)
  (hm:lastMarks [op,op'] [b,c]=false:=by with_unfolding_all rfl):PT X (.Compare a [op,op'] [b,c] pos) (vy (qZ r r' ta tb tc)):=by
 intro pins s Z H Q I h
 refine isTrue_chain (thn (ha pins s Z H _ I h) fun v s1 ⟨x,H1,I1,r1,q1⟩=>test_link (thn (hb pins s1 Z H1 _ I1 q1) fun u s2 ⟨y,H2,I2,r2,q2⟩=>
  thn (ho pins s2 Z H2 x y v u _ I2 r1 r2 q2) fun d s3 ⟨z,H3,I3,r3,k,e,q3⟩=>?_)) hm
 subst e
 cases r3
 refine wpAny_truthy_bool ?_
 cases k with
 | false=>
  obtain ⟨k',e',q'⟩:=q3
  cases e'
  exact ite_ff ⟨H3,I3,q'⟩
 | true=>
  refine ite_tt (test_last (thn (hc pins s3 Z H3 _ I3 q3) fun w' s4 ⟨z',H4,I4,r4,q4⟩=>thn (ho' pins s4 Z H4 y z' u w' _ I4 r2 r4 q4) fun d' s5 ⟨z2,H5,I5,r5,k2,e2,q5⟩=>?_))
  subst e2
  cases r5
  exact wpAny_truthy_bool ⟨H5,I5,q5⟩
noncomputable def xF (K:PySem.W.Frag) (x:V) (H:Hp) (k:Bool):Prop:=
 match x with
 | .non=>k=false
 | .bl b=>k=b
 | .int i=>k=(i !=0)
 | .str y=>y.length<=sizeLine/\k=((y.length:Int)!=0)
 | .byt y=>y.size<=sizeLine/\k=((y.size:Int)!=0)
 | .ref p=>(∃ xs,SqL K H p xs/\k= !xs.isEmpty)\/(∃ xs,SqT K H p xs/\k= !xs.isEmpty)\/ ∃ kvs,H p=some (.dK kvs)/\k= !kvs.isEmpty
 | _=>False
theorem oB {κ:Type} {kvs:List (κ×V)} {vs:List (κ×Value)} (r:KV kvs vs):(!vs.isEmpty)= !kvs.isEmpty:=by
 cases r <;> rfl
theorem je {xs:List V} {its:List Value} (r:Vals xs its):(!its.toArray.isEmpty)= !xs.isEmpty:=by
 cases r <;> simp
theorem fR:(sizeLine:Nat) <2^63:=by rw [sizeLine_eq];decide
theorem vJ:yi X (fun x H Q=> ∃ k,xF X.K x H k/\Q k H):=by
 intro pins s Z H x v Q I rx h
 obtain ⟨k,e,q⟩:=h
 have hl:=fR
 have hs:sizeLine=16777216:=sizeLine_eq
 cases x with
 | non=>
  cases rx
  have e':k=false:=e
  subst e'
  exact truthy_none ⟨H,I,q⟩
 | bl b=>
  cases rx
  have e':k=b:=e
  subst e'
  exact wpAny_truthy_bool ⟨H,I,q⟩
 | int i=>
  obtain ⟨t,rfl⟩:=rx
  have e':k=(i !=0):=e
  subst e'
  exact PySem.P.truthy_int ⟨H,I,q⟩
 | str y=>
  obtain ⟨t,rfl⟩:=rx
  obtain ⟨hy,e'⟩:y.length<=sizeLine/\k=((y.length:Int)!=0):=e
  subst e'
  exact PySem.P.truthy_str (by omega) ⟨H,I.tok _,q⟩
 | byt y=>
  obtain ⟨t,rfl⟩:=rx
  obtain ⟨hy,e'⟩:y.size<=sizeLine/\k=((y.size:Int)!=0):=e
  subst e'
  exact PySem.W.truthy_bytes (by omega) ⟨H,I.tok _,q⟩
 | ref p=>
  cases rx
  have e':(∃ xs,SqL X.K H p xs/\k= !xs.isEmpty)\/(∃ xs,SqT X.K H p xs/\k= !xs.isEmpty)\/ ∃ kvs,H p=some (.dK kvs)/\k= !kvs.isEmpty:=e
  rcases e' with ⟨xs,hx,e'⟩ | ⟨xs,hx,e'⟩ | ⟨kvs,hx,e'⟩
  ·subst e'
   obtain ⟨its,r,pl,hz⟩:=I.list hx
   have hlen:=r.length
   exact wpAny_truthy_list pl.isList (by simp only [List.size_toArray];omega) ⟨H,I.tok _,by rw [je r];exact q⟩
  ·subst e'
   obtain ⟨its,r,pl,hz⟩:=I.tuple hx
   have hlen:=r.length
   exact truthy_tuple pl (by simp only [List.size_toArray];omega) ⟨H,I.tok _,by rw [je r];exact q⟩
  ·subst e'
   obtain ⟨hz,hS,vs,r,m⟩:kvs.length<=sizeLine/\(p==sysModules)=false/\ ∃ vs,KV kvs vs/\s.heap.DictOf (a9 X.prog X.w) p vs:=I.hok p _ hx
   have hlen:kvs.length=vs.length:=Paired.length r
   exact wpAny_truthy_dict hS m (by omega) ⟨H,I.tok _,by rw [oB r];exact q⟩
 | _=>exact (show False from e).elim
theorem md (ha:PE X a ta) (he: ∀ whole,isTrue a X.env whole=(do let v <- whole;standAt a.pos;holding [v] (truthy v))):
  PT X a (fun Z H Q=>ta Z H fun x H'=> ∃ k,xF X.K x H' k/\Q k H'):=by
 intro pins s Z H Q I h
 exact isTrue_plain (thn (ha pins s Z H _ I h) fun v s1 ⟨x,H1,I1,r1,q1⟩=>vJ pins s1 Z H1 x v Q I1 r1 q1) (he _)
theorem fQ:OpR X (binaryOp .Add) (fun x y H Q=> ∃ i j,x=.str i/\y=.str j/\i.length+j.length<=sizeLine/\Q (.str (i++j)) H):=by
 intro pins s Z H x y v u Q I rx ry h
 obtain ⟨i,j,rfl,rfl,hz,q⟩:=h
 obtain ⟨t,rfl⟩:=rx
 obtain ⟨t',rfl⟩:=ry
 exact add_str (fun t' tk=>⟨.str (i++j),H,I.tok _,⟨_,rfl⟩,q⟩) hz
theorem fZ {x:V} {us:List Value} (r:Vals [x] us): ∃ u,us=[u]/\RelV x u:=by
 cases r with
 | cons r1 r2=>cases r2;exact ⟨_,rfl,r1⟩
theorem jv {x y:V} {us:List Value} (r:Vals [x,y] us): ∃ u w',us=[u,w']/\RelV x u/\RelV y w':=by
 cases r with
 | cons r1 r2=>
  cases r2 with
  | cons r3 r4=>cases r4;exact ⟨_,_,rfl,r1,r3⟩
theorem qJ (hc:X.calm=true):dJ X (.builtin "max") (fun xs H Q=> ∃ i j,xs=[.int i,.int j]/\Q (.int (if j>i then j else i)) H):=by
 intro pins s Z H xs us Q I r h
 obtain ⟨i,j,rfl,q⟩:=h
 obtain ⟨u,w',rfl,⟨t,rfl⟩,⟨t',rfl⟩⟩:=jv r
 refine max_two_ints (I.ok.hd hc) fun h' tk k=>⟨_,H,I.kept k,?_,q⟩
 by_cases hj:j>i
 ·rw [if_pos hj,if_pos hj];exact ⟨_,rfl⟩
 ·rw [if_neg hj,if_neg hj];exact ⟨_,rfl⟩
theorem jR (hc:X.calm=true):dJ X (.builtin "min") (fun xs H Q=> ∃ i j,xs=[.int i,.int j]/\Q (.int (if j<i then j else i)) H):=by
 intro pins s Z H xs us Q I r h
 obtain ⟨i,j,rfl,q⟩:=h
 obtain ⟨u,w',rfl,⟨t,rfl⟩,⟨t',rfl⟩⟩:=jv r
 refine min_two_ints (I.ok.hd hc) fun h' tk k=>⟨_,H,I.kept k,?_,q⟩
 by_cases hj:j<i
 ·rw [if_pos hj,if_pos hj];exact ⟨_,rfl⟩
 ·rw [if_neg hj,if_neg hj];exact ⟨_,rfl⟩
theorem fG:dJ X (.type "int") (fun xs H Q=>(∃ i,xs=[.int i]/\Q (.int i) H)\/ ∃ k,xs=[.bl k]/\Q (.int (if k then 1 else 0)) H):=by
 intro pins s Z H xs us Q I r h
 rcases h with ⟨i,rfl,q⟩ | ⟨k,rfl,q⟩
 ·obtain ⟨u,rfl,t,rfl⟩:=fZ r
  exact call_int_int ⟨.int i,H,I,⟨_,rfl⟩,q⟩
 ·obtain ⟨u,rfl,r1⟩:=fZ r
  cases r1
  exact call_int_bool ⟨.int (if k then 1 else 0),H,I.tok _,⟨_,rfl⟩,q⟩
end
structure ObjM (h:Heap) (x dx C:Addr) (mA:Str->Option Value):Prop where
 obj:h.get? x=some (PySem.W.instObj C dx)
 ns:h.Ns1 dx mA
 ne:dx≠x
theorem qz {h:Heap} {dx:Addr} {mA:Str->Option Value} (n:h.Ns1 dx mA): ∃ od,h.get? dx=some od/\ ∀ name,PySem.W.lookIn name od=some (mA name):=by
 obtain ⟨o,es,ep,ho,hd,hk,_,hm⟩:=n
 refine ⟨o,ho,fun name=>?_⟩
 have e:=hm name
 unfold nsFind findBy at e
 rw [<- Array.find?_toList]at e
 unfold PySem.W.lookIn
 rw [hd]
 dsimp only
 split
 ·rename_i y q
  rw [q]at e
  exact congrArg some e
 ·rename_i q
  rw [q]at e
  have a:es.toList.any (·.refKey)=false:=by
   rw [List.any_eq_false]
   intro y hy
   obtain ⟨z,t,hkey⟩:=hk y (Array.mem_toList_iff.mp hy)
   simp [DictEntry.refKey,hkey]
  have a': ¬ es.toList.any (·.refKey)=true:=by rw [a];exact Bool.false_ne_true
  rw [if_neg a']
  exact congrArg some e
theorem ObjM.look {h:Heap} {x dx C:Addr} {mA:Str->Option Value} (I:ObjM h x dx C mA): ∃ od,PySem.W.InstAt h x (PySem.W.instObj C dx) C (some od)/\ ∀ name,PySem.W.lookIn name od=some (mA name):=
 let ⟨od,ho,hl⟩:=qz I.ns
 ⟨od,⟨I.obj,rfl,rfl,ho⟩,hl⟩
theorem RelO.some_of {v:V} {o:Option Value} (r:RelO (some v) o): ∃ u,o=some u/\RelV v u:=by
 cases o with
 | none=>exact (show False from r).elim
 | some u=>exact ⟨u,rfl,r⟩
section
variable {P:Program} {w:World} {H H':Hp} {h h':Heap} {a C dx:Addr} {fs fs':List (Str×V)}
theorem vg (hok:HOk P w H h) (e:H a=some (.ins C dx fs)): ∃ mA,ObjM h a dx C mA/\(∀ f,RelO (fs.lookup f) (mA f))/\PySem.Within mA (fs.map (·.1))/\fs.length<=1000/\H dx=some (.own a):=by
 obtain ⟨d,z,ne,ob,mA,n,r,q⟩:=(show ObjOk P w H h a (.ins C dx fs)from hok a _ e)
 exact ⟨mA,⟨ob,n,ne⟩,r,q,z,d⟩
end
structure Cls (K:PySem.W.Frag) (C:Addr):Prop where
 pg:PySem.W.plainGet K C Str.empty=true
 hd:PySem.W.hasDictIn K C=true
 po:PySem.W.plainOver K C=true
 sa:PySem.W.findIn K (.ref C) "__setattr__"=some (some (.builtin "object.__setattr__"))
theorem Cls.get {K:PySem.W.Frag} {C:Addr} (c:Cls K C) (f:Str):PySem.W.plainGet K C f=true:=c.pg
section
variable {X:Cx} {pins:List (Addr×Obj)} {Z:St} {H:Hp} {s:Shared} {A:Around} {E:Value->Shared->Prop} {Q:Value->Shared->Prop} {c:Value} {b:Bool}
inductive gG (K:PySem.W.Frag) (H:Hp):V->Value->Prop where
 | non:gG K H .non (.type "NoneType")
 | bl (x:Bool):gG K H (.bl x) (.type "bool")
 | int (i:Int):gG K H (.int i) (.type "int")
 | str (x:Str):gG K H (.str x) (.type "str")
 | flt (x:UInt64):gG K H (.flt x) (.type "float")
 | lst {a:Addr} {xs:List V} (e:H a=some (.lst xs)):gG K H (.ref a) (.type "list")
 | frz {a:Addr} {o:Obj} {xs:List V} (e:H a=some (.frz o (.lst xs))):gG K H (.ref a) (.type "list")
 | tup {a:Addr} {xs:List V} (e:H a=some (.tup xs)):gG K H (.ref a) (.type "tuple")
 | dK {a:Addr} {kvs:List (Key×V)} (e:H a=some (.dK kvs)):gG K H (.ref a) (.type "dict")
 | dT {a:Addr} {kvs:List (List Key×V)} (e:H a=some (.dT kvs)):gG K H (.ref a) (.type "dict")
 | ins {a C dx:Addr} {fs:List (Str×V)} (e:H a=some (.ins C dx fs)) (cl:Cls K C) (ha:PySem.W.findIn K (.ref C) "__class__"=some (some (.builtin "object.__class__")))
   (hn:PySem.W.specialIn K (.builtin "object.__class__") "__get__"=some (some (.builtin "getset_descriptor.__get__"))) (htk:PySem.W.takesIn K (.builtin "object.__class__")=some true)
   (hm:PySem.W.mroIn K C (.type "object")=some true):gG K H (.ref a) (.ref C)
theorem qC {x:V} {u t:Value} (I:Inv X pins Z H s) (rx:RelV x u) (ty:gG X.K H x t) (e:PySem.W.kitOne X.K t c=some b) (h: ∀ tk,Q (.bool b) {s with toks:=tk}):
  wpAny (model X.prog X.w) A (call (.builtin "isinstance") [u,c]) Q E s:=by
 cases ty with
 | non=>cases (show u=Value.none from rx);exact PySem.W.kia_one PySem.W.kitx_none I.kIn True.intro e (fun z=>nomatch z) h
 | bl y=>cases (show u=Value.bool y from rx);exact PySem.W.kia_one PySem.W.kitx_bool I.kIn True.intro e (fun z=>nomatch z) h
 | int i=>obtain ⟨t,q⟩:=(show ∃ t,u=Value.int i t from rx);cases q;exact PySem.W.kia_one PySem.W.kitx_int I.kIn True.intro e (fun z=>nomatch z) h
 | str y=>obtain ⟨t,q⟩:=(show ∃ t,u=Value.str y t from rx);cases q;exact PySem.W.kia_one PySem.W.kitx_str I.kIn True.intro e (fun z=>nomatch z) h
 | flt y=>obtain ⟨t,q⟩:=(show ∃ t,u=Value.float y t from rx);cases q;exact PySem.W.kia_one PySem.W.kitx_float I.kIn True.intro e (fun z=>nomatch z) h
 | @lst a xs ea=>
  cases (show u=Value.ref a from rx)
  obtain ⟨_,_,n,_,h1⟩:=(show ObjOk X.prog X.w H s.heap a (.lst xs)from I.hok a _ ea)
  exact PySem.W.kia_one PySem.W.kitx_list I.kIn ⟨_,h1,rfl⟩ e (fun z=>nomatch z) h
 | @frz a ob xs ea=>
  cases (show u=Value.ref a from rx)
  obtain ⟨_,_,_,n,_,h1⟩:=(show ObjOk X.prog X.w H s.heap a (.frz ob (.lst xs))from I.hok a _ ea)
  exact PySem.W.kia_one PySem.W.kitx_list I.kIn ⟨_,h1,rfl⟩ e (fun z=>nomatch z) h
 | @tup a xs ea=>
  cases (show u=Value.ref a from rx)
  obtain ⟨_,_,_,p⟩:=(show ObjOk X.prog X.w H s.heap a (.tup xs)from I.hok a _ ea)
  obtain ⟨o,h1,h2,_⟩:=p
  exact PySem.W.kia_one PySem.W.kitx_tuple I.kIn ⟨o,h1,h2⟩ e (fun z=>nomatch z) h
 | @dK a kvs ea=>
  cases (show u=Value.ref a from rx)
  obtain ⟨_,_,vs,_,p⟩:=(show ObjOk X.prog X.w H s.heap a (.dK kvs)from I.hok a _ ea)
  obtain ⟨o,es,ep,h1,h2,_⟩:=p
  exact PySem.W.kia_one PySem.W.kitx_dict I.kIn ⟨o,h1,h2.1⟩ e (fun z=>nomatch z) h
 | @dT a kvs ea=>
  cases (show u=Value.ref a from rx)
  obtain ⟨_,_,xs,_,o,es,ep,h1,h2,_⟩:=(show ObjOk X.prog X.w H s.heap a (.dT kvs)from I.hok a _ ea)
  exact PySem.W.kia_one PySem.W.kitx_dict I.kIn ⟨o,h1,h2.1⟩ e (fun z=>nomatch z) h
 | @ins a C dx fs ea cl ha hn htk hm=>
  cases (show u=Value.ref a from rx)
  obtain ⟨mA,O,_⟩:=vg I.hok ea
  obtain ⟨od,J,_⟩:=O.look
  exact PySem.W.kia_one (PySem.W.kitx_own (cl.get _) cl.hd ha hn htk hm) I.kIn J e (fun z=>nomatch z) h
end
structure Room (k:Nat) (A:Around):Prop where
 hd:A.handled=none
 dp:A.depth+3*k+5<recursionLimit
 un:A.units+16*k+200<cLine
theorem Room.mono {j k:Nat} {A:Around} (r:Room k A) (h:j<=k):Room j A:=⟨r.hd,by have:=r.dp;omega,by have:=r.un;omega⟩
theorem Room.deeper {k:Nat} {A:Around} (r:Room (k+1) A) (env:Env):Room k (A.deeper env):=
 ⟨r.hd,by have:=r.dp;show A.depth+1+3*k+5<_;omega,by have:=r.un;show A.units+3+16*k+200<_;omega⟩
theorem Room.depth {k:Nat} {A:Around} (r:Room k A):A.depth<recursionLimit:=by have:=r.dp;omega
theorem Room.units {k:Nat} {A:Around} (r:Room k A):A.units+64<cLine:=by have:=r.un;omega
noncomputable def xL:TA:=fun _ H Q=>Q [] H
noncomputable def vz (ta:TE) (tr:TA):TA:=fun Z H Q=>ta Z H fun x H1=>tr Z H1 fun xs H2=>Q (x::xs) H2
section
variable {X:Cx} {e:Expr} {es:List Expr} {te:TE} {t:TA} {pos:Pos}
theorem ab:PA X [] xL:=fun _ _ _ _ H Q I h=>Calls.spliced_nil ⟨[],H,I,.nil,h⟩
theorem aa (ha:PE X e te) (hr:PA X es t) (hs:starEach (e::es) X.env=(false,eval e X.env)::starEach es X.env:=by rfl):PA X (e::es) (vz te t):=by
 intro pos pins s Z H Q I h
 rw [hs]
 show wpAny _ _ (spliced ((false,eval e X.env)::backTo pos (starEach es X.env))) _ _ s
 refine Calls.spliced_cons (thn (ha pins s Z H _ I h) fun u s1 ⟨x,H1,I1,r1,q1⟩=>?_)
 exact thn (hr pos pins s1 Z H1 _ I1 q1) fun us s2 ⟨xs,H2,I2,r2,q2⟩=>⟨x::xs,H2,I2,.cons r1 r2,q2⟩
noncomputable def xI (t:TA):TE:=fun Z H Q=>t Z H fun xs H1=>xs.length<=sizeLine/\ ∀ p,H1 p=none->Q (.ref p) (upd H1 p (.tup xs))
noncomputable def wT (t:TA):TE:=fun Z H Q=>t Z H fun xs H1=>xs.length<=sizeLine/\ ∀ p,H1 p=none->Q (.ref p) (upd H1 p (.lst xs))
theorem aJ {x1} (h:PA X es t):PE X (.Tuple es x1 pos) (xI t):=by
 intro pins s Z H Q I hq
 refine wpAny_Tuple_spliced (thn (h pos pins s Z H _ I hq) fun us s1 ⟨xs,H1,I1,r,z,q⟩=>⟨by rw [<- r.length];exact z,?_⟩)
 have hf:H1 s1.heap.objs.size=none:=I1.hok.fresh (Nat.le_refl _)
 refine ⟨.ref s1.heap.objs.size,upd H1 s1.heap.objs.size (.tup xs),I1.laid (t':=s1.toks) (fun b u e=>Heap.get?_push_of_some _ e) (Nat.le_refl _) ?_,rfl,q _ hf⟩
 exact ⟨z,us,r,⟨_,Heap.get?_push_size _ rfl,rfl,_,rfl⟩⟩
theorem bf (h:PA X es t):PE X (.List es pos) (wT t):=by
 intro pins s Z H Q I hq
 refine wpAny_List_spliced (thn (h pos pins s Z H _ I hq) fun us s1 ⟨xs,H1,I1,r,z,q⟩=>⟨by rw [<- r.length];exact z,?_⟩)
 have hf:H1 s1.heap.objs.size=none:=I1.hok.fresh (Nat.le_refl _)
 refine ⟨.ref s1.heap.objs.size,upd H1 s1.heap.objs.size (.lst xs),I1.laid (t':=s1.toks) (fun b u e=>Heap.get?_push_of_some _ e) (Nat.le_refl _) ?_,rfl,q _ hf⟩
 exact ⟨z,us,0,r,Heap.get?_push_size _ rfl⟩
end
noncomputable abbrev Sp:=List V->Hp->VK->XK->Prop
noncomputable abbrev CXT:=List Env->Hp->Shared->XK->Value->Shared->Prop
structure vx (P:Program) (w:World) (K:PySem.W.Frag) (mg:Str->Option Value) (base:Heap) (A:Around) (outer:List Env) (s:Shared) (H:Hp):Prop where
 frames:A.frames=some outer
 mod:Mod K mg base
 bs: ∀ b o,base.get? b=some o->s.heap.get? b=some o/\H b=none
 bsz:base.objs.size<=s.heap.objs.size
 funs:s.heap.FunFrames base outer
 frf: ∀ b∈frs outer,H b=none
 hok:HOk P w H s.heap
 bare:AllBare s.gens
noncomputable def CE (outer:List Env) (P:Program) (w:World) (H:Hp) (s:Shared) (Q:VK) (u:Value) (s':Shared):Prop:=
 ∃ v H',s'.os=s.os/\AllBare s'.gens/\Un (frs outer) [] H H' s.heap s'.heap/\HOk P w H' s'.heap/\RelV v u/\Q v H'
noncomputable def CR (CX:CXT) (outer:List Env) (P:Program) (w:World) (H:Hp) (s:Shared) (Q:VK) (E:XK) (r:Result) (s':Shared):Prop:=
 match r with
 | .ok (.ret u)=>CE outer P w H s Q u s'
 | .ok _=>False
 | .error e=>CX outer H s E e s'
structure FnOk (P:Program) (w:World) (K:PySem.W.Frag) (mg:Str->Option Value) (base:Heap) (CX:CXT) (k:Nat) (f:Addr) (fd:FuncData) (ps:List Str) (sp:Sp):Prop where
 len: ∀ vs H Q E,sp vs H Q E->vs.length=ps.length
 run: ∀ (A:Around) (outer:List Env) (s:Shared) (H:Hp) (args:Args) (us:List Value) (vs:List V) (Q:VK) (E:XK),Room k A->vx P w K mg base A outer s H->BindsTo s fd args (ps.zip us)->Vals vs us->sp vs H Q E->
  codeAny (model P w) A (.call (.ref f) args) (CR CX outer P w H s Q E) s
section
variable {X:Cx} {pins:List (Addr×Obj)} {Z:St} {H:Hp} {s s':Shared}
theorem Inv.env0 (I:Inv X pins Z H s):vx X.prog X.w X.K X.mg X.base X.A X.stack s H:=
 ⟨I.ok.frames,I.ok.mod,I.bs,Nat.le_trans I.ok.bsz I.sz,I.stack,I.stkFree,I.hok,I.bare⟩
theorem Inv.after {Q:VK} {u:Value} (I:Inv X pins Z H s) (h:CE X.stack X.prog X.w H s Q u s'):EP X pins Z Q u s':=by
 obtain ⟨v,H',os,bare,un,hok,r,q⟩:=h
 obtain ⟨hh,g,d,t,os'⟩:=s'
 obtain rfl:os'=s.os:=os
 exact ⟨v,H',I.call (h':=hh) (g':=g) (d':=d) (t':=t) (ch:=[]) un hok bare (fun b z=>absurd z (by simp)),r,q⟩
end
noncomputable def wX (sp:Sp) (dvs:List V) (E:XK) (t:TA):TE:=fun Z H Q=>t Z H fun vs H1=>sp (vs++dvs) H1 Q E
noncomputable def Binds (K:PySem.W.Frag) (fd:FuncData) (ps:List Str) (ds:List Value):Prop:=
 ∀ (s:Shared) (us:List Value),K.In s.heap->(us++ds).length=ps.length->BindsTo s fd ⟨us,[]⟩ (ps.zip (us++ds))
theorem Binds.all {K:PySem.W.Frag} {fd:FuncData} {ps:List Str} (h: ∀ us:List Value,us.length=ps.length->bindArgs fd ⟨us,[]⟩=pure (ps.zip us)):Binds K fd ps []:=fun s us _ hl=>by
 rw [List.append_nil]at hl ⊢
 exact .of_eq (h us hl)
noncomputable def oN (CX:CXT) (X:Cx) (E:XK):Prop:= ∀ (pins:List (Addr×Obj)) (Z:St) (H:Hp) (s:Shared) (e:Value) (s':Shared),Inv X pins Z H s->CX X.stack H s E e s'->X.xe e s'
section
variable {X:Cx} {CX:CXT} {k:Nat} {f C:Addr} {fd:FuncData} {ps:List Str} {sp:Sp} {dvs:List V} {ds:List Value} {E:XK} {x m:Str} {p pos apos:Pos} {e o:Expr} {es:List Expr} {ta:TE} {t:TA}
theorem vX {pins:List (Addr×Obj)} {Z:St} {H:Hp} {s:Shared} {Q:VK} {us:List Value} {vs:List V} (F:FnOk X.prog X.w X.K X.mg X.base CX k f fd ps sp) (hr:Room k X.A) (hb:Binds X.K fd ps ds) (hd:Vals dvs ds) (hx:oN CX X E)
  (I:Inv X pins Z H s) (r:Vals vs us) (h:sp (vs++dvs) H Q E):wpAny (model X.prog X.w) X.A (call (.ref f) us) (EP X pins Z Q) X.xe s:=by
 have r2:Vals (vs++dvs) (us++ds):=r.append hd
 have hl:(us++ds).length=ps.length:=by rw [<- r2.length];exact F.len _ _ _ _ h
 refine wpAny_call (codeAny_mono (F.run X.A X.stack s H ⟨us,[]⟩ (us++ds) (vs++dvs) Q E hr I.env0 (hb s us I.kIn hl) r2 h) fun r s' hq=>?_)
 cases r with
 | error e=>exact hx pins Z H s e s' I hq
 | ok fl=>
  cases fl with
  | ret u=>exact I.after hq
  | next=>exact False.elim hq
  | brk=>exact False.elim hq
  | cont=>exact False.elim hq
theorem af (F:FnOk X.prog X.w X.K X.mg X.base CX k f fd ps sp) (hr:Room k X.A) (hg:Gl X x) (hm:X.mg x=some (.ref f)) (hk:PySem.W.keepIn X.K (.ref f)=true) (hb:Binds X.K fd ps ds) (hd:Vals dvs ds) (hx:oN CX X E)
  (ha:PA X (e::es) t) (hdb:(x==("__debug__":Str))=false:=by decide) (he:starEach (e::es) X.env=(false,eval e X.env)::starEach es X.env:=by rfl) (hpl:(backTo pos (starEach es X.env)).any (·.1)=false:=by rfl):
  PE X (.Call (.Name x p) (e::es) [] pos) (wX sp dvs E t):=by
 intro pins s Z H Q I h
 refine wpAny_Call_Name_kw (pj I hg hm ?_ hdb)
 refine PySem.W.callWith_K (h₀:=X.base) I.ok.mod.kin hk (thn (ha pos pins s Z H _ I h) fun us s1 ⟨vs,H1,I1,r,q⟩=>⟨I1.kIn,?_⟩) he hpl
 exact vX F hr hb hd hx I1 r q
end
structure au (N P:List Str) (sc:Scope):Prop where
 kind:sc.kind=.function
 co:sc.isCoroutine=false
 gen:sc.isGenerator=false
 nd:N.Nodup
 pre:N.take P.length=P
 par: ∀ x∈P,sc.names.lookup x=some .local\/sc.names.lookup x=some .cell
 nofree: ∀ y∈sc.names,y.2≠ .free
theorem fsc {N P:List Str} {sc:Scope} (kind_:sc.kind=.function:=by rfl) (co_:sc.isCoroutine=false:=by rfl) (gen_:sc.isGenerator=false:=by rfl) (nd_:N.Nodup:=by decide +kernel) (pre_:N.take P.length=P:=by rfl) (par_: ∀ x∈P,sc.names.lookup x=some .local\/sc.names.lookup x=some .cell:=by decide +kernel) (nofree_: ∀ y∈sc.names,y.2≠ .free:=by decide +kernel):au N P sc:=⟨kind_,co_,gen_,nd_,pre_,par_,nofree_⟩
theorem jS {kindOf:Str->Option NameKind} {x:Str}: ∀ {binds:List (Str×Value)} {m:Str->Option Value},(∀ v,(x,v)∉binds)->bindL kindOf binds m x=m x
 | [],_,_=>rfl
 | (n,v)::r,m,h=>by
  unfold bindL
  rw [jS fun w hw=>h w (List.mem_cons_of_mem _ hw)]
  split
  ·have:x≠n:=by rintro rfl;exact h v List.mem_cons_self
   simp [this]
  ·rfl
theorem jU {kindOf:Str->Option NameKind} {x:Str}: ∀ {binds:List (Str×Value)} {m:Str->Option Value},(∀ v,(x,v)∉binds)->bindC kindOf binds m x=m x
 | [],_,_=>rfl
 | (n,v)::r,m,h=>by
  unfold bindC
  rw [jU fun w hw=>h w (List.mem_cons_of_mem _ hw)]
  split
  ·rfl
  ·have:x≠n:=by rintro rfl;exact h v List.mem_cons_self
   simp [this]
theorem jT {kindOf:Str->Option NameKind} {x:Str} {v:Value}: ∀ {P:List Str} {vs:List Value} {i:Nat} {m:Str->Option Value},P.Nodup->P[i]? =some x->vs[i]? =some v->kindOf x=some .local->
  bindL kindOf (P.zip vs) m x=some v
 | [],_,_,_,_,h,_,_=>by simp at h
 | _::_,[],_,_,_,_,h,_=>by simp at h
 | p::P,w::vs,0,m,nd,h1,h2,hk=>by
  simp at h1 h2;subst h1;subst h2
  show bindL kindOf ((p,w)::P.zip vs) m p=_
  unfold bindL
  rw [jS fun v hv=>(List.nodup_cons.mp nd).1 (List.of_mem_zip hv).1,if_pos hk]
  simp
 | p::P,w::vs,i+1,m,nd,h1,h2,hk=>by
  show bindL kindOf ((p,w)::P.zip vs) m x=_
  unfold bindL
  exact jT (i:=i) (List.nodup_cons.mp nd).2 (by simpa using h1) (by simpa using h2) hk
theorem jV {kindOf:Str->Option NameKind} {x:Str} {v:Value}: ∀ {P:List Str} {vs:List Value} {i:Nat} {m:Str->Option Value},P.Nodup->P[i]? =some x->vs[i]? =some v->kindOf x≠some .local->
  bindC kindOf (P.zip vs) m x=some v
 | [],_,_,_,_,h,_,_=>by simp at h
 | _::_,[],_,_,_,_,h,_=>by simp at h
 | p::P,w::vs,0,m,nd,h1,h2,hk=>by
  simp at h1 h2;subst h1;subst h2
  show bindC kindOf ((p,w)::P.zip vs) m p=_
  unfold bindC
  rw [jU fun v hv=>(List.nodup_cons.mp nd).1 (List.of_mem_zip hv).1,if_neg hk]
  simp
 | p::P,w::vs,i+1,m,nd,h1,h2,hk=>by
  show bindC kindOf ((p,w)::P.zip vs) m x=_
  unfold bindC
  exact jV (i:=i) (List.nodup_cons.mp nd).2 (by simpa using h1) (by simpa using h2) hk
noncomputable def gZ (N:List Str) (vs:List V):St:=vs.map some++List.replicate (N.length-vs.length) none
noncomputable def c7 (CX:CXT) (P:Program) (w:World) (K:PySem.W.Frag) (mg:Str->Option Value) (base:Heap) (N:List Str) (qual:Str) (scope:Scope) (f:Addr) (cd:Value) (A:Around) (outer:List Env) (s:Shared) (H:Hp) (E:XK):Cx where
 prog:=P
 w:=w
 K:=K
 mg:=mg
 base:=base
 A:=A.deeper (envOfC qual scope s.heap.objs.size f cd)
 N:=N
 s₀:=s
 H₀:=H
 env:=envOfC qual scope s.heap.objs.size f cd
 outer:=outer
 stack:=envOfC qual scope s.heap.objs.size f cd::outer
 ex:=[]
 calm:=true
 fn:=fun _=>true
 pn:=[]
 xe:=fun e s'=>wpAny (model P w) (A.deeper (envOfC qual scope s.heap.objs.size f cd)) (leaving (envOfC qual scope s.heap.objs.size f cd) e) (fun _ s''=>CX outer H s E e s'') (fun e' s''=>CX outer H s E e' s'') s'
theorem ny {sc:Scope} {n:Nat} {x:Str} (h:sc.names.lookup x=some .cell): ∃ c,(cellsFrom n sc.names []).lookup x=some c:=by
 have q:=PySem.W.cellsFrom_some sc.names n [] (.inl h)
 exact Option.isSome_iff_exists.mp q
theorem qD {CX:CXT} {P:Program} {w:World} {K:PySem.W.Frag} {mg:Str->Option Value} {base:Heap} {N ps:List Str} {qual:Str} {scope:Scope} {f:Addr} {cd:Value} {A:Around} {outer:List Env} {s s1:Shared} {H:Hp} {E:XK} {us:List Value} {vs:List V}
  (S:au N ps scope) (hd:A.handled=none) (e0:vx P w K mg base A outer s H) (hl:vs.length=ps.length) (r:Vals vs us)
  (x:InCallC s s.heap.objs.size (bindL (envOfC qual scope s.heap.objs.size f cd).kindOf (ps.zip us) fun _=>none) (cellsFrom (s.heap.objs.size+1) scope.names []) (bindC (envOfC qual scope s.heap.objs.size f cd).kindOf (ps.zip us) fun _=>none) s1):
  Inv (c7 CX P w K mg base N qual scope f cd A outer s H E) [] (gZ N vs) H s1:=by
 have hpl:ps.length<=N.length:=by have:=congrArg List.length S.pre;rw [List.length_take]at this;omega
 obtain ⟨h1,tk,rfl,hk⟩:=x.done
 have noA: ∀ b:Addr,b∉(c7 CX P w K mg base N qual scope f cd A outer s H E).ex:=fun b z=>absurd (show b∈([]:List Addr)from z) (by simp)
 refine ⟨⟨e0.mod,S.kind,rfl,rfl,Nat.le_refl _,fun y z c h1 h2=>?_,fun y hy=>?_,fun y c _ h=>?_,fun _=>hd,Around.frames_deeper e0.frames,.inr ⟨rfl,rfl⟩,fun b z=>absurd z (noA b),e0.bs,e0.bsz,fun b _ _=>noA b,fun b z=>absurd z (noA b),e0.funs,e0.frf⟩,
  rfl,e0.bare,Un.kept hk,⟨_,x.toInCall.ns,fun i y v h1 h2 h3=>?_⟩,fun y c h=>⟨_,x.cell y c h⟩,e0.hok.fresh (Nat.le_refl _),fun y c h=>?_,fun p hp=>absurd (show p∈([]:List (Addr×Obj))from hp) (by simp),e0.hok.kept hk,?_⟩
 ·exact name_of_addr x.apart (PySem.mem_of_lookup h1) (PySem.mem_of_lookup h2)
 ·have hy:scope.names.lookup y=some .cell\/scope.names.lookup y=some .free:=hy
  rcases hy with hy | hy
  ·exact ny hy
  ·exact absurd rfl (S.nofree _ (PySem.mem_of_lookup hy))
 ·exact Nat.le_of_lt (x.above y c (PySem.mem_of_lookup h))
 ·have hi:i<vs.length:=by
   unfold gZ at h2
   by_cases hi:i<vs.length
   ·exact hi
   ·rw [List.getElem?_append_right (by simpa using hi)]at h2
    rw [List.getElem?_replicate]at h2
    split at h2 <;> cases h2
  have ha:vs[i]? =some v:=by
   unfold gZ at h2
   rw [List.getElem?_append_left (by simpa using hi),List.getElem?_map]at h2
   cases e:vs[i]? with
   | none=>rw [e]at h2;cases h2
   | some a=>rw [e]at h2;cases h2;rfl
  obtain ⟨u,hu,rv⟩:=r.get ha
  have hp:ps[i]? =some y:=by
   rw [<- S.pre,List.getElem?_take_of_lt (by omega)];exact h1
  have ndP:ps.Nodup:=by rw [<- S.pre];exact S.nd.sublist (List.take_sublist _ _)
  refine ⟨u,rv,?_⟩
  rcases S.par y (List.mem_of_getElem? hp)with k | k
  ·exact .inl ⟨k,jT ndP hp hu k⟩
  ·obtain ⟨c,e⟩:=ny (n:=s.heap.objs.size+1) k
   refine .inr ⟨.inl k,c,e,?_⟩
   have q:=x.cell y c e
   rw [jV ndP hp hu (by show scope.names.lookup y≠_;rw [k];decide)]at q
   exact q
 ·exact e0.hok.fresh (Nat.le_of_lt (x.above y c (PySem.mem_of_lookup h)))
 ·unfold gZ
  show _=N.length
  rw [List.length_append,List.length_map,List.length_replicate]
  omega
theorem xz {CX:CXT} {P:Program} {w:World} {K:PySem.W.Frag} {mg:Str->Option Value} {base:Heap} {k:Nat} {f:Addr} {name qual:Str} {params:Arguments} {body:List Stmt} {scope:Scope} {dV kV doc pm cdv ct oc:Value} {an od:Option Addr}
  {osl:Array (Option Value)} {N ps:List Str} {sp:Sp} (lk:K.lookup f=some ⟨oc,od,.func (PySem.W.fnOf name qual params body scope dV kV doc pm an cdv ct),osl⟩) (hcd:PySem.W.codeIn K cdv qual=true) (S:au N ps scope)
  (len: ∀ vs H Q E,sp vs H Q E->vs.length=ps.length)
  (hbody: ∀ (A:Around) (outer:List Env) (s:Shared) (H:Hp) (vs:List V) (Q:VK) (E:XK),Room k (A.deeper (envOfC qual scope s.heap.objs.size f cdv))->sp vs H Q E->
   ∃ t,PSs (c7 CX P w K mg base N qual scope f cdv A outer s H E) body t/\t {nx:=fun _ H'=>Q .non H',rt:=Q} (gZ N vs) H):
  FnOk P w K mg base CX (k+1) f (PySem.W.fnOf name qual params body scope dV kV doc pm an cdv ct) ps sp:=by
 refine ⟨len,fun A outer s H args us vs Q E hr e0 hb r hsp=>?_⟩
 have hl:=len _ _ _ _ hsp
 have KX:K.In s.heap:=e0.mod.kin.keeps fun b o e=>(e0.bs b o e).1
 have lim:s.heap.NoLimit:=e0.mod.nolimit.keeps fun b o e=>(e0.bs b o e).1
 have hkind: ∀ y∈ps.zip us,scope.names.lookup y.1=some .local\/(scope.names.lookup y.1=some .cell/\((cellsFrom (s.heap.objs.size+1) scope.names []).lookup y.1).isSome=true):=fun ⟨n,v⟩ hy=>by
  rcases S.par n (List.of_mem_zip hy).1 with q | q
  ·exact .inl q
  ·exact .inr ⟨q,PySem.W.cellsFrom_some _ _ _ (.inl q)⟩
 refine codeAny_call_function hr.depth (KX _ _ lk) rfl S.co S.gen rfl (PySem.W.codeRec_of KX hcd) (hb _ _ _ _ ?_)
 refine wpAny_newFunctionEnv_cells S.kind hkind fun env he s1 x=>?_
 subst he
 refine ⟨lim.keeps x.toInCall.keep,codeAny_func ?_⟩
 obtain ⟨t,ht,hq⟩:=hbody A outer s H vs Q E (hr.deeper _) hsp
 have I:Inv (c7 CX P w K mg base N qual scope f cdv A outer s H E) [] (gZ N vs) H s1:=qD S hr.hd e0 hl r x
 refine wpAny_mono (ht [] s1 (gZ N vs) H _ I hq) (fun fl s' hs=>?_) fun e s' hs=>hs
 have fin: ∀ {Z':St} {H':Hp} {v:V} {u:Value},Inv (c7 CX P w K mg base N qual scope f cdv A outer s H E) [] Z' H' s'->RelV v u->Q v H'->CE outer P w H s Q u s':=
  fun {Z' H' v u} J rv q=>⟨v,H',J.os,J.bare,J.base,J.hok,rv,q⟩
 cases fl with
 | ret u=>
  obtain ⟨v,Z',H',J,rv,q⟩:=hs
  exact fin J rv q
 | next=>
  obtain ⟨Z',H',J,q⟩:=hs
  exact fin (v:=V.non) (u:=Value.none) J rfl q
 | brk=>
  obtain ⟨_,_,_,q⟩:=hs
  exact False.elim q
 | cont=>
  obtain ⟨_,_,_,q⟩:=hs
  exact False.elim q
section
variable {X:Cx} {x:Str} {p pos:Pos} {e:Expr} {es:List Expr} {t:TA} {id T:String} {r:List V->Hp->VK->Prop}
noncomputable def tCB (r:List V->Hp->VK->Prop) (t:TA):TE:=fun Z H Q=>t Z H fun vs H1=>r vs H1 Q
theorem ao (hc:dJ X (.builtin id) r) (hg:Gl X x) (hm:X.mg x=none) (hv:bootBuiltins x=some (.builtin id)) (ha:PA X (e::es) t) (hn:x≠"__name__":=by decide) (hdb:(x==("__debug__":Str))=false:=by decide)
  (he:starEach (e::es) X.env=(false,eval e X.env)::starEach es X.env:=by rfl) (hpl:(backTo pos (starEach es X.env)).any (·.1)=false:=by rfl):PE X (.Call (.Name x p) (e::es) [] pos) (tCB r t):=by
 intro pins s Z H Q I h
 refine wpAny_Call_Name_kw (fh I hg hm hv ?_ hn hdb)
 exact PyProof.Rows.callWith_builtin1 (thn (ha pos pins s Z H _ I h) fun us s1 ⟨vs,H1,I1,r1,q1⟩=>hc pins s1 Z H1 vs us Q I1 r1 q1) he hpl
theorem bg (hc:dJ X (.type T) r) (hg:Gl X x) (hm:X.mg x=none) (hv:bootBuiltins x=some (.type T)) (ha:PA X (e::es) t) (hn:x≠"__name__":=by decide) (hdb:(x==("__debug__":Str))=false:=by decide)
  (he:starEach (e::es) X.env=(false,eval e X.env)::starEach es X.env:=by rfl) (hpl:(backTo pos (starEach es X.env)).any (·.1)=false:=by rfl):PE X (.Call (.Name x p) (e::es) [] pos) (tCB r t):=by
 intro pins s Z H Q I h
 refine wpAny_Call_Name_kw (fh I hg hm hv ?_ hn hdb)
 exact PyProof.Rows.callWith_type1 (thn (ha pos pins s Z H _ I h) fun us s1 ⟨vs,H1,I1,r1,q1⟩=>hc pins s1 Z H1 vs us Q I1 r1 q1) he hpl
end
end L2
namespace HT
open PySem PyProof.Rows
section
variable {prog:Program} {w:World} {A:Around} {E:Value->Shared->Prop} {s:Shared}
theorem cat_tup {t b:Addr} {vs ws:List Value} {Q:Value->Shared->Prop} (ht:IsTup s.heap t vs.toArray) (hb:IsTup s.heap b ws.toArray) (hv:vs≠[])
  (h1:ws=[]->Q (.ref t) s) (h2:ws≠[]->Q (.ref s.heap.objs.size) {s with heap:=s.heap.push {cls:=.type "tuple",data:=.seq (vs++ws).toArray}})
  (hsz:vs.length+ws.length<=sizeLine):wpAny (model prog w) A (binaryOp .Add (.ref t) (.ref b)) Q E s:=by
 obtain ⟨⟨cls,dd,data,sl⟩,ho,hc,n,hd⟩:=id ht
 obtain ⟨⟨cls2,dd2,data2,sl2⟩,ho2,hc2,n2,hd2⟩:=id hb
 simp only at hc hd hc2 hd2
 subst hc hd hc2 hd2
 have e:vs.toArray++ws.toArray=(vs++ws).toArray:=by simp
 by_cases hw:ws=[]
 ·exact concat_meets ⟨_,ho,rfl⟩ ⟨_,ho2,rfl⟩ noFill_tuple_add seq_tuple_add PySem.F.slot_tuple_add PySem.F.entry_tuple_add (PySem.F.args_tuple_add_2 _ _)
   (tuple_addW1 t b vs.toArray ws.toArray n n2 dd dd2 sl sl2 (by simpa using hv) (by simp [hw])) ⟨ho,ho2,h1 hw⟩
 ·refine concat_meets ⟨_,ho,rfl⟩ ⟨_,ho2,rfl⟩ noFill_tuple_add seq_tuple_add PySem.F.slot_tuple_add PySem.F.entry_tuple_add (PySem.F.args_tuple_add_2 _ _)
   (tuple_addW2 t b vs.toArray ws.toArray n n2 dd dd2 sl sl2 (by simpa using hv) (by simpa using hw) (by rw [List.size_toArray,List.size_toArray];exact hsz)) ⟨ho,ho2,?_⟩
  rw [e]
  exact h2 hw
noncomputable def sIx (n d:Nat):Option Int->Nat
 | none=>d
 | some v=>if v<0 then (v+ (n:Int)).toNat else min v.toNat n
theorem sIx_none (n d:Nat):sIx n d none=d:=rfl
theorem sIx_nat (n d k:Nat):sIx n d (some (k:Int))=min k n:=by
 show (if (k:Int) <0 then ((k:Int) + (n:Int)).toNat else min (k:Int).toNat n)=min k n
 rw [if_neg (by omega),Int.toNat_natCast]
theorem vW (n d:Nat) (hd:d<=n) (o:Option Int):sIx n d o<=n:=by
 cases o with
 | none=>exact hd
 | some v=>
  show (if v<0 then (v+ (n:Int)).toNat else min v.toNat n)<=n
  by_cases hv:v<0
  ·rw [if_pos hv];omega
  ·rw [if_neg hv];exact Nat.min_le_right _ _
theorem pG (v:Int) (n d:Nat):(if v<0 then max (v+ (n:Int)) 0 else min v (n:Int))=((sIx n d (some v):Nat):Int):=by
 show (if v<0 then max (v+ (n:Int)) 0 else min v (n:Int))=(((if v<0 then (v+ (n:Int)).toNat else min v.toNat n):Nat):Int)
 by_cases hv:v<0
 ·simp only [if_pos hv];omega
 ·simp only [if_neg hv];omega
theorem oM (lo hi:Option Int) (n:Nat):Builtin.Slice.sliceAdjust lo hi 1 (n:Int)=(((sIx n 0 lo:Nat):Int),((sIx n n hi:Nat):Int)):=by
 have h1: ¬ ((1:Int) <0):=by omega
 unfold Builtin.Slice.sliceAdjust
 simp only [h1,if_false]
 refine Prod.ext ?_ ?_
 ·cases lo with
  | none=>rfl
  | some v=>exact pG v n 0
 ·cases hi with
  | none=>rfl
  | some v=>exact pG v n n
theorem n0 (i j:Nat):Builtin.Slice.slicePlaces (i:Int) (j:Int) 1=j-i:=by
 unfold Builtin.Slice.slicePlaces
 have h1:(1:Int) >0:=by omega
 simp only [h1,if_true,Int.ediv_one]
 split <;> omega
theorem dv {v:Value} {o:Option Int} {Q:Option Int->Shared->Prop} (p:IsPart v o) (h:Q o s):wpAny (model prog w) A (Builtin.Slice.slicePartIndex v) Q E s:=by
 cases p with
 | none=>exact slicePart_none h
 | int i t=>exact slicePart_int h
theorem dS {sl:Addr} {vl vu:Value} {lo hi:Option Int} {n:Nat} {Q:Int×Int×Nat->Shared->Prop} (hs:s.heap.IsSliceOf sl vl vu .none) (pl:IsPart vl lo) (pu:IsPart vu hi)
  (h:Q (((sIx n 0 lo:Nat):Int),1,sIx n n hi-sIx n 0 lo) s):wpAny (model prog w) A (Builtin.Slice.sliceApplied (.ref sl) (pure (n:Int))) Q E s:=by
 obtain ⟨os,hos,hcs,hds⟩:=id hs
 unfold Builtin.Slice.sliceApplied Builtin.Slice.sliceFields
 refine wpAny_bind (wpAny_bind (wpAny_field hos hds (x:=vl) rfl (wpAny_bind (wpAny_field hos hds (x:=vu) rfl (wpAny_bind (wpAny_field hos hds (x:=.none) rfl (wpAny_pure ?_)))))))
 refine wpAny_bind (slicePart_none ?_)
 show wpAny _ _ (if ((1:Int)==0)=true then _ else _) _ _ s
 rw [if_neg (by decide)]
 refine wpAny_bind (dv pl (wpAny_bind (dv pu (wpAny_bind (wpAny_pure ?_)))))
 show wpAny _ _ (match Builtin.Slice.sliceAdjust lo hi 1 (n:Int)with | (lo,hi)=>pure (lo,(1:Int),Builtin.Slice.slicePlaces lo hi 1)) _ _ s
 rw [oM lo hi n]
 show wpAny _ _ (pure (((sIx n 0 lo:Nat):Int),(1:Int),Builtin.Slice.slicePlaces ((sIx n 0 lo:Nat):Int) ((sIx n n hi:Nat):Int) 1)) _ _ s
 rw [n0]
 exact wpAny_pure h
theorem si (xs:Array Value) (i k:Nat):((List.range k).filterMap fun (m:Nat)=>xs[((i:Int) + (m:Int) *1).toNat]?).toArray=((xs.toList.drop i).take k).toArray:=by
 have e:(fun (m:Nat)=>xs[((i:Int) + (m:Int) *1).toNat]?)=fun m=>xs[i+m]? :=by
  funext m
  have:((i:Int) + (m:Int) *1).toNat=i+m:=by omega
  rw [this]
 rw [e]
 have:=pick_run xs i k
 rw [List.filterMap_map]at this
 have e2:((fun x=>xs[x]?)∘fun x=>i+x)=fun m=>xs[i+m]? :=rfl
 rw [e2]at this
 rw [this]
theorem getItem_tuple_cut {t sl:Addr} {items:Array Value} {vl vu:Value} {lo hi:Option Int} {Q:Value->Shared->Prop} (ht:IsTup s.heap t items) (hs:s.heap.IsSliceOf sl vl vu .none) (pl:IsPart vl lo) (pu:IsPart vu hi)
  (hw: ¬ (sIx items.size 0 lo=0/\sIx items.size items.size hi=items.size))
  (h:Q (.ref s.heap.objs.size) {s with heap:=s.heap.push {cls:=.type "tuple",data:=.seq ((items.toList.drop (sIx items.size 0 lo)).take (sIx items.size items.size hi-sIx items.size 0 lo)).toArray}})
  (hsz:items.size<=sizeLine):wpAny (model prog w) A (getItem (.ref t) (.ref sl)) Q E s:=by
 have htake:sizeOk (.seq ((items.toList.drop (sIx items.size 0 lo)).take (sIx items.size items.size hi-sIx items.size 0 lo)).toArray):=by
  show ((items.toList.drop (sIx items.size 0 lo)).take (sIx items.size items.size hi-sIx items.size 0 lo)).toArray.size<=sizeLine
  rw [List.size_toArray,List.length_take,List.length_drop,Array.length_toList]
  omega
 have hj:sIx items.size items.size hi<=items.size:=vW _ _ (Nat.le_refl _) hi
 obtain ⟨os,hos,hcs,hds⟩:=id hs
 have hTs:s.TypeIs (.ref sl) "slice":=⟨os,hos,hcs⟩
 unfold getItem
 try with_reducible refine wpAny_holding ?_
 first | refine wpAny_bind (wpAny_pure ?_) | skip
 refine wpAny_bind (wpAny_sequenceKey ht.typeIs (by decide) ?_)
 refine wpAny_bind (wpAny_callSpecial?_slot (name:=Str.ofString "__getitem__") ht.typeIs PyProof.Rows.slot_tuple_getitem
  (wpAny_call_entry PyProof.Rows.slot_tuple_getitem ht.typeIs entry_tuple_getitem ?_ (args_tuple_getitem _ _)))
 show wpAny _ _ (Builtin.Tuple.tupleItemsOf (.ref t) >>= _) _ _ s
 refine wpAny_bind (tupleItemsOf_ ht ?_)
 refine wpAny_bind (wpAny_typeOf hTs ?_)
 rw [if_pos (by decide)]
 refine wpAny_bind (dS hs pl pu ?_)
 have hno: ¬ ((((sIx items.size 0 lo:Nat):Int)==0&&(1:Int)==1&&(sIx items.size items.size hi-sIx items.size 0 lo)==items.size)=true):=by
  intro q
  rw [Bool.and_eq_true,Bool.and_eq_true]at q
  have q1:((sIx items.size 0 lo:Nat):Int)=0:=eq_of_beq q.1.1
  have q2:sIx items.size items.size hi-sIx items.size 0 lo=items.size:=eq_of_beq q.2
  exact hw ⟨by omega,by omega⟩
 show wpAny _ _ (if (((sIx items.size 0 lo:Nat):Int)==0&&(1:Int)==1&&(sIx items.size items.size hi-sIx items.size 0 lo)==items.size)=true then _ else _) _ _ s
 rw [if_neg hno,si]
 first
  | exact wpAny_bind (m:=Builtin.Tuple.tupleExact _) (wpAny_newObj_type (wpAny_pure ⟨_,rfl,wpAny_pure h⟩) htake)
  | exact wpAny_bind (m:=Builtin.Tuple.tupleExact _) (wpAny_newObj_type (wpAny_bind (wpAny_pure (wpAny_pure ⟨_,rfl,wpAny_pure h⟩))) htake)
  | exact wpAny_bind (wpAny_bind (m:=Builtin.Tuple.tupleExact _) (wpAny_newObj_type (wpAny_pure (wpAny_pure ⟨_,rfl,wpAny_pure h⟩)) htake))
  | exact wpAny_bind (wpAny_bind (m:=Builtin.Tuple.tupleExact _) (wpAny_newObj_type (wpAny_pure ⟨_,rfl,wpAny_pure h⟩) htake))
end
end HT
namespace L2
open PySem PySem.Spec PyProof.Rows
noncomputable abbrev TO:=St->Hp->(Option Int->Hp->Prop)->Prop
noncomputable def PO (X:Cx) (e:Option Expr) (t:TO):Prop:=
 ∀ (pins:List (Addr×Obj)) (s:Shared) (Z:St) (H:Hp) (Q:Option Int->Hp->Prop),Inv X pins Z H s->t Z H Q->
  wpAny (model X.prog X.w) X.A (evalPart e X.env) (fun u s'=> ∃ o H',Inv X pins Z H' s'/\IsPart u o/\Q o H') X.xe s
noncomputable def ut:TO:=fun _ H Q=>Q none H
noncomputable def wQ (t:TE):TO:=fun Z H Q=>t Z H fun x H1=> ∃ i,x=.int i/\Q (some i) H1
section
variable {X:Cx} {e:Expr} {te:TE} {lo hi:Option Expr} {tl th:TO} {pos p2:Pos}
theorem bp:PO X none ut:=by
 intro pins s Z H Q I h
 rw [evalPart_none]
 exact wpAny_pure ⟨none,H,I,.none,h⟩
theorem bh (h:PE X e te):PO X (some e) (wQ te):=by
 intro pins s Z H Q I hw
 rw [evalPart_some]
 refine thn (h pins s Z H _ I hw) fun u s1 ⟨x,H1,I1,r1,q1⟩=>?_
 obtain ⟨i,rfl,q⟩:=q1
 obtain ⟨t,rfl⟩:=r1
 exact ⟨some i,H1,I1,.int i t,q⟩
noncomputable def SlR (X:Cx) (r:V->Option Int->Option Int->Hp->VK->Prop):Prop:=
 ∀ (pins:List (Addr×Obj)) (s:Shared) (Z:St) (H:Hp) (x:V) (v vl vu:Value) (lo hi:Option Int) (sl:Addr) (Q:VK),Inv X pins Z H s->RelV x v->s.heap.IsSliceOf sl vl vu .none->IsPart vl lo->IsPart vu hi->r x lo hi H Q->
  ∃ T id,typeLookup (.type T) "__getitem__"=pure (some (.builtin id))/\s.TypeIs v T/\wpAny (model X.prog X.w) X.A (getItem v (.ref sl)) (EP X pins Z Q) X.xe s
noncomputable def tSl (r:V->Option Int->Option Int->Hp->VK->Prop) (te:TE) (tl th:TO):TE:=fun Z H Q=>te Z H fun x H1=>tl Z H1 fun l H2=>th Z H2 fun u H3=>r x l u H3 Q
theorem a7 {r:V->Option Int->Option Int->Hp->VK->Prop} (hr:SlR X r) (he:PE X e te) (hl:PO X lo tl) (hu:PO X hi th):PE X (.Subscript e (.Slice lo hi none p2) pos) (tSl r te tl th):=by
 intro pins s Z H Q I h
 refine Subscript_ (thn (he pins s Z H _ I h) fun v s1 ⟨x,H1,I1,r1,q1⟩=>?_)
 refine wpAny_Slice (thn (hl pins s1 Z H1 _ I1 q1) fun vl s2 ⟨l,H2,I2,pl,q2⟩=>thn (hu pins s2 Z H2 _ I2 q2) fun vu s3 ⟨u,H3,I3,pu,q3⟩=>?_)
 rw [evalPart_none]
 refine wpAny_pure ?_
 have I4:Inv X pins Z H3 {s3 with heap:=s3.heap.push {cls:=.type "slice",data:=.fields #[vl,vu,.none]}}:=I3.kept (t':=s3.toks) fun b ob q=>Heap.get?_push_of_some _ q
 obtain ⟨T,id,hT,ht,hg⟩:=hr pins {s3 with heap:=s3.heap.push {cls:=.type "slice",data:=.fields #[vl,vu,.none]}} Z H3 x v vl vu l u s3.heap.objs.size Q I4 r1 (Heap.IsSliceOf.new ..) pl pu q3
 show wpAny (model X.prog X.w) X.A (subscriptTail e (.Slice lo hi none p2) v (.ref s3.heap.objs.size)) (EP X pins Z Q) X.xe {s3 with heap:=s3.heap.push {cls:=.type "slice",data:=.fields #[vl,vu,.none]}}
 exact tail_any (ops:=[.ref s3.heap.objs.size,v]) ht hT hg (by with_unfolding_all rfl)
noncomputable def c8 (xs:List V) (lo hi:Option Int):List V:=(xs.drop (HT.sIx xs.length 0 lo)).take (HT.sIx xs.length xs.length hi-HT.sIx xs.length 0 lo)
theorem il (xs:List V) (lo hi:Option Int):(c8 xs lo hi).length<=xs.length:=by
 unfold c8
 rw [List.length_take,List.length_drop]
 omega
noncomputable def xc (K:PySem.W.Frag):V->Option Int->Option Int->Hp->VK->Prop:=fun x lo hi H Q=> ∃ a xs,x=.ref a/\SqT K H a xs/\
 ¬ (HT.sIx xs.length 0 lo=0/\HT.sIx xs.length xs.length hi=xs.length)/\ ∀ p,H p=none->Q (.ref p) (upd H p (.tup (c8 xs lo hi)))
theorem nM:SlR X (xc X.K):=by
 intro pins s Z H x v vl vu lo hi sl Q I rx hs pl pu h
 obtain ⟨a,xs,rfl,hx,hw,q⟩:=h
 cases rx
 obtain ⟨its,r,ht,hz⟩:=I.tuple hx
 have hlen:its.toArray.size=xs.length:=by rw [List.size_toArray];exact r.length.symm
 refine ⟨"tuple",_,PyProof.Rows.slot_tuple_getitem.lookup,ht.typeIs,?_⟩
 refine HT.getItem_tuple_cut ht hs pl pu (by rw [hlen];exact hw) ?_ (by rw [hlen];exact hz)
 rw [hlen]
 refine ⟨.ref s.heap.objs.size,_,I.laid (t':=s.toks) (o:=.tup (c8 xs lo hi)) (fun b ob q=>Heap.get?_push_of_some _ q) (Nat.le_refl _) ?_,rfl,q _ (I.hok.fresh (Nat.le_refl _))⟩
 exact ⟨Nat.le_trans (il xs lo hi) hz,_,(r.drop (HT.sIx xs.length 0 lo)).take (HT.sIx xs.length xs.length hi-HT.sIx xs.length 0 lo),IsTup.new _ _⟩
noncomputable def xm (K:PySem.W.Frag):R2:=fun x y H Q=> ∃ a b xs ys,x=.ref a/\y=.ref b/\SqT K H a xs/\SqT K H b ys/\xs≠[]/\xs.length+ys.length<=sizeLine/\
 (ys=[]->Q (.ref a) H)/\(ys≠[]-> ∀ p,H p=none->Q (.ref p) (upd H p (.tup (xs++ys))))
theorem Vals.nil_iff {xs:List V} {us:List Value} (r:Vals xs us):us=[]↔xs=[]:=by
 cases r with
 | nil=>simp
 | cons _ _=>simp
theorem uP:OpR X (binaryOp .Add) (xm X.K):=by
 intro pins s Z H x y v u Q I rx ry h
 obtain ⟨a,b,xs,ys,rfl,rfl,ha,hb,hx,hz,q1,q2⟩:=h
 cases rx
 cases ry
 obtain ⟨its,r1,p1,_⟩:=I.tuple ha
 obtain ⟨its2,r2,p2,_⟩:=I.tuple hb
 refine HT.cat_tup p1 p2 (fun z=>hx (r1.nil_iff.mp z)) (fun z=>⟨.ref a,H,I,rfl,q1 (r2.nil_iff.mp z)⟩) (fun z=>?_) (by rw [<- r1.length,<- r2.length];exact hz)
 refine ⟨.ref s.heap.objs.size,_,I.laid (t':=s.toks) (o:=.tup (xs++ys)) (fun b ob q=>Heap.get?_push_of_some _ q) (Nat.le_refl _) ?_,rfl,q2 (fun w=>z (r2.nil_iff.mpr w)) _ (I.hok.fresh (Nat.le_refl _))⟩
 exact ⟨by rw [List.length_append];exact hz,_,r1.append r2,IsTup.new _ _⟩
end
noncomputable def ixN (n:Nat) (i:Int):Option Nat:=if 0<=i then (if i<n then some i.toNat else none)else if -(n:Int)<=i then some (i+n).toNat else none
noncomputable def atI {α:Type} (xs:List α) (i:Int):Option α:=(ixN xs.length i).bind fun j=>xs[j]?
theorem pp {n:Nat} {i:Int} {j:Nat} (h:ixN n i=some j):seqIndex? i n=some j/\j<n/\ -(n:Int)<=i/\i<n:=by
 unfold ixN at h
 by_cases h0:0<=i
 ·rw [if_pos h0]at h
  by_cases h1:i<n
  ·rw [if_pos h1]at h
   have e:i.toNat=j:=Option.some.inj h
   exact ⟨by rw [seqIndex_of h0 h1,e],by omega,by omega,h1⟩
  ·rw [if_neg h1]at h;cases h
 ·rw [if_neg h0]at h
  by_cases h1: -(n:Int)<=i
  ·rw [if_pos h1]at h
   have e:(i+n).toNat=j:=Option.some.inj h
   exact ⟨by rw [seqIndex_neg (by omega) h1,e],by omega,h1,by omega⟩
  ·rw [if_neg h1]at h;cases h
theorem lG {α:Type} {xs:List α} {i:Int} {v:α} (h:atI xs i=some v): ∃ j,seqIndex? i xs.length=some j/\xs[j]? =some v/\j<xs.length/\ -(xs.length:Int)<=i/\i<xs.length:=by
 unfold atI at h
 cases e:ixN xs.length i with
 | none=>rw [e]at h;cases h
 | some j=>
  rw [e]at h
  obtain ⟨h1,h2,h3,h4⟩:=pp e
  exact ⟨j,h1,h,h2,h3,h4⟩
theorem aG {α:Type} {xs:List α} {j:Nat} {v:α} (h:xs[j]? =some v):atI xs (j:Int)=some v:=by
 have hj:j<xs.length:=(List.getElem?_eq_some_iff.mp h).1
 have e:ixN xs.length (j:Int)=some j:=by
  unfold ixN
  rw [if_pos (by omega),if_pos (by omega)];simp
 unfold atI;rw [e];exact h
noncomputable def vw (b:Expr):Prop:= ∀ o i,subscripted b false o i=operate [o,i] (getItem o i)
noncomputable def IxR (X:Cx) (r:R2):Prop:=
 ∀ (value slice:Expr) (pins:List (Addr×Obj)) (s:Shared) (Z:St) (H:Hp) (x y:V) (v u:Value) (Q:VK),Inv X pins Z H s->RelV x v->RelV y u->r x y H Q->
  subscripted slice false v u=operate [v,u] (getItem v u)->wpAny (model X.prog X.w) X.A (subscriptTail value slice v u) (EP X pins Z Q) X.xe s
noncomputable def MtR (X:Cx) (id:String) (r:V->List V->Hp->VK->Prop):Prop:=
 ∀ (pins:List (Addr×Obj)) (s:Shared) (Z:St) (H:Hp) (x:V) (xs:List V) (v:Value) (us:List Value) (Q:VK),Inv X pins Z H s->RelV x v->Vals xs us->r x xs H Q->
  wpAny (model X.prog X.w) X.A (call (.builtin id) (v::us)) (EP X pins Z Q) X.xe s
section
variable {X:Cx} {a b:Expr} {ta tb:TE} {pos:Pos}
theorem av {r:R2} (hr:IxR X r) (ha:PE X a ta) (hb:PE X b tb) (hs:vw b):PE X (.Subscript a b pos) (tOp r ta tb):=by
 intro pins s Z H Q I h
 exact Subscript_ (wF ha hb I h fun v u s2 x y H2 I2 rx ry q=>hr a b pins s2 Z H2 x y v u Q I2 rx ry q (hs _ _))
noncomputable def xi (K:PySem.W.Frag):R2:=fun x y H Q=> ∃ p xs i v,x=.ref p/\y=.int i/\SqL K H p xs/\atI xs i=some v/\Q v H
noncomputable def gh (K:PySem.W.Frag):R2:=fun x y H Q=> ∃ p xs i v,x=.ref p/\y=.int i/\SqT K H p xs/\atI xs i=some v/\Q v H
noncomputable def xV:R2:=fun x y H Q=> ∃ z i c,x=.str z/\y=.int i/\z.length<=sizeLine/\atI z.cps.toList i=some c/\Q (.str ⟨#[c]⟩) H
theorem aM:IxR X (xi X.K):=by
 intro value slice pins s Z H x y v u Q I rx ry h hs
 obtain ⟨p,xs,i,z,rfl,rfl,hq,he,q⟩:=h
 cases rx
 obtain ⟨t,rfl⟩:=ry
 obtain ⟨its,r,pl,hz⟩:=I.list hq
 obtain ⟨j,h1,h2,h3,h4,h5⟩:=lG he
 obtain ⟨w,ew,rw'⟩:=r.get h2
 have hl:=r.length
 have hn:=fR
 have fin:EP X pins Z Q w s:=⟨z,H,I,rw',q⟩
 by_cases h0:0<=i
 ·have hj:i.toNat=j:=by
   rw [seqIndex_of h0 h5]at h1
   exact Option.some.inj h1
  exact item_listR pl.isList h0 (by omega) (by rw [hj];simpa using ew) fin hs
 ·have hj:(i+ (its.toArray.size:Int)).toNat=j:=by
   rw [seqIndex_neg (by omega) h4]at h1
   rw [List.size_toArray,<- hl]
   exact Option.some.inj h1
  exact subscriptTail_builtinR (x:=w) pl.isList.typeIs slot_list_getitem.lookup
   (wpAny_getItem_list_neg (Q:=fun r s'=>r=w/\EP X pins Z Q r s') pl.isList (by omega) (by rw [List.size_toArray] <;> omega) (by omega) (by rw [hj];simpa using ew) ⟨rfl,fin⟩) hs
theorem ay:IxR X (gh X.K):=by
 intro value slice pins s Z H x y v u Q I rx ry h hs
 obtain ⟨p,xs,i,z,rfl,rfl,hq,he,q⟩:=h
 cases rx
 obtain ⟨t,rfl⟩:=ry
 obtain ⟨its,r,pl,hz⟩:=I.tuple hq
 obtain ⟨j,h1,h2,h3,h4,h5⟩:=lG he
 obtain ⟨w,ew,rw'⟩:=r.get h2
 have hl:=r.length
 have hn:=fR
 have fin:EP X pins Z Q w s:=⟨z,H,I,rw',q⟩
 exact subscriptTail_builtinR (x:=w) pl.typeIs slot_tuple_getitem.lookup
  (getItem_tuple (j:=j) (Q:=fun r s'=>r=w/\EP X pins Z Q r s') pl (by omega) (by omega) (by rw [List.size_toArray,<- hl];exact h1) (by simpa using ew) ⟨rfl,fin⟩) hs
theorem oA:IxR X xV:=by
 intro value slice pins s Z H x y v u Q I rx ry h hs
 obtain ⟨z,i,c,rfl,rfl,hz,he,q⟩:=h
 obtain ⟨t,rfl⟩:=rx
 obtain ⟨t',rfl⟩:=ry
 obtain ⟨j,h1,h2,h3,h4,h5⟩:=lG he
 have hl:z.cps.toList.length=z.length:=by simp [Str.length]
 rw [hl]at h1 h4 h5
 have hn:=fR
 exact tail_any (typeIs_str s z t) slot_str_getitem.lookup (getItem_str (c:=c) (by
  have e1:decide (i< -(2^63:Int))=false:=decide_eq_false (by omega)
  have e2:decide (i≥2^63)=false:=decide_eq_false (by omega)
  rw [e1,e2,Bool.or_false]) (by rw [h1];simpa using h2) ⟨.str ⟨#[c]⟩,H,I.tok _,⟨_,rfl⟩,q⟩) hs
theorem oy (its:List Value) (n j:Nat) (u:Value):Obj.mapSeq (·.setIfInBounds j u) {cls:=.type "list",data:=.seq its.toArray n}={cls:=.type "list",data:=.seq (its.set j u).toArray n}:=by
 simp [Obj.mapSeq]
theorem Inv.lst {pins:List (Addr×Obj)} {Z:St} {H:Hp} {s:Shared} {p:Addr} {xs:List V} (I:Inv X pins Z H s) (h:H p=some (.lst xs)):
  ∃ (its:List Value) (n:Nat),Vals xs its/\s.heap.get? p=some {cls:=.type "list",data:=.seq its.toArray n}/\xs.length<=sizeLine:=by
 obtain ⟨z,its,n,r,e⟩:=I.hok p _ h
 exact ⟨its,n,r,e,z⟩
theorem Inv.lstUpd {pins:List (Addr×Obj)} {Z:St} {H:Hp} {s:Shared} {p:Addr} {xs ys:List V} {its its':List Value} {n n':Nat} {f:Obj->Obj} (I:Inv X pins Z H s) (h:H p=some (.lst xs))
  (ho:s.heap.get? p=some {cls:=.type "list",data:=.seq its.toArray n}) (hf:f {cls:=.type "list",data:=.seq its.toArray n}={cls:=.type "list",data:=.seq its'.toArray n'}) (r:Vals ys its') (hz:ys.length<=sizeLine) (t:Nat):
  Inv X pins Z (upd H p (.lst ys)) {s with heap:=s.heap.update p f,toks:=t}:=by
 have e:(s.heap.update p f).get? p=some {cls:=.type "list",data:=.seq its'.toArray n'}:=by
  rw [Heap.get?_update_self f ho (by rw [hf] <;> rfl),hf]
 refine I.write (x:=p) (e:=p) (by rw [h];trivial) (.inl rfl) (fun b u hb q=>(Heap.get?_update_other _ _ (Ne.symm hb)).trans q) ⟨_,e⟩ ?_
 exact ⟨hz,its',n',r,e⟩
noncomputable def xf:V->V->V->Hp->(Hp->Prop)->Prop:=fun o i v H Q=> ∃ p xs k j,o=.ref p/\i=.int k/\H p=some (.lst xs)/\ixN xs.length k=some j/\Q (upd H p (.lst (xs.set j v)))
theorem rD:xG X xf:=by
 intro pins s Z H o i v ov iv u Q I ro ri rv h
 obtain ⟨p,xs,k,j,rfl,rfl,hp,hj,q⟩:=h
 cases ro
 obtain ⟨t,rfl⟩:=ri
 obtain ⟨its,n,r,ho,hz⟩:=I.lst hp
 obtain ⟨h1,h2,h3,h4⟩:=pp hj
 have hl:=r.length
 have hn:=fR
 have I':Inv X pins Z (upd H p (.lst (xs.set j v))) {s with heap:=s.heap.update p (Obj.mapSeq (·.setIfInBounds j u))}:=
  I.lstUpd hp ho (oy its n j u) (r.set rv j) (by rw [List.length_set];exact hz) s.toks
 by_cases h0:0<=k
 ·have hk:k.toNat=j:=by
   rw [seqIndex_of h0 h4]at h1
   exact Option.some.inj h1
  exact PySem.W.ki_setAt ho h0 (by omega) (by rw [List.size_toArray,<- hl];exact h4) (by rw [hk];exact ⟨_,I',q⟩)
 ·have hk:(k+ (its.toArray.size:Int)).toNat=j:=by
   rw [seqIndex_neg (by omega) h3]at h1
   rw [List.size_toArray,<- hl]
   exact Option.some.inj h1
  exact PySem.W.ki_setBack ho (by omega) (by rw [List.size_toArray,<- hl];exact h3) (by omega) (by rw [hk];exact ⟨_,I',q⟩)
theorem ke (lo hi:Option Int) (n:Nat):(sliceBounds lo hi none n).1=((HT.sIx n 0 lo:Nat):Int)/\(sliceBounds lo hi none n).2.1=((HT.sIx n n hi:Nat):Int)/\(sliceBounds lo hi none n).2.2=1:=by
 refine ⟨?_,?_,rfl⟩
 ·cases lo with
  | none=>simp [sliceBounds,HT.sIx]
  | some i=>
   simp only [sliceBounds,HT.sIx,Option.getD_none,show (1:Int) >0 by decide,if_true]
   by_cases h:i<0
   ·simp only [h,if_true] <;> omega
   ·simp only [h,if_false] <;> omega
 ·cases hi with
  | none=>simp [sliceBounds,HT.sIx]
  | some i=>
   simp only [sliceBounds,HT.sIx,Option.getD_none,show (1:Int) >0 by decide,if_true]
   by_cases h:i<0
   ·simp only [h,if_true] <;> omega
   ·simp only [h,if_false] <;> omega
theorem jr (its:List Value) (lo hi:Option Int):slicePick its.toArray lo hi none=((its.drop (HT.sIx its.length 0 lo)).take (HT.sIx its.length its.length hi-HT.sIx its.length 0 lo)).toArray:=by
 obtain ⟨h1,h2,h3⟩:=ke lo hi its.toArray.size
 unfold slicePick
 rw [h1,h2,h3]
 simp only [sliceRange_one,pick_run,List.size_toArray] <;> rfl
noncomputable def xS (K:PySem.W.Frag):V->Option Int->Option Int->Hp->VK->Prop:=fun x lo hi H Q=> ∃ a xs,x=.ref a/\SqL K H a xs/\ ∀ p,H p=none->Q (.ref p) (upd H p (.lst (c8 xs lo hi)))
theorem cG:SlR X (xS X.K):=by
 intro pins s Z H x v vl vu lo hi sl Q I rx hs pl pu h
 obtain ⟨a,xs,rfl,hx,q⟩:=h
 cases rx
 obtain ⟨its,r,ht,hz⟩:=I.list hx
 have hlen:=r.length
 refine ⟨"list",_,slot_list_getitem.lookup,ht.isList.typeIs,?_⟩
 refine wpAny_getItem_list_slice ht.isList hs pl pu .none (by simp) ?_ (by rw [List.size_toArray] <;> omega)
 rw [jr,<- hlen]
 refine ⟨.ref s.heap.objs.size,_,I.laid (t':=s.toks) (o:=.lst (c8 xs lo hi)) (fun b ob q=>Heap.get?_push_of_some _ q) (Nat.le_refl _) ?_,rfl,q _ (I.hok.fresh (Nat.le_refl _))⟩
 exact ⟨Nat.le_trans (il xs lo hi) hz,_,0,(r.drop (HT.sIx xs.length 0 lo)).take (HT.sIx xs.length xs.length hi-HT.sIx xs.length 0 lo),Heap.get?_push_size _ rfl⟩
noncomputable def fK:V->Bool
 | .non=>true
 | .bl _=>true
 | .int _=>true
 | .str _=>true
 | _=>false
noncomputable def eqV:V->V->Bool
 | .non,.non=>true
 | .bl a,.bl b=>a==b
 | .bl a,.int b=>(if a then 1 else 0)==b
 | .int a,.bl b=>a==(if b then 1 else 0)
 | .int a,.int b=>a==b
 | .str a,.str b=>a==b
 | _,_=>false
theorem wB {A:Around} {s:Shared} {y x:V} {u v:Value} (ry:RelV y u) (rx:RelV x v) (fy:fK y=true) (fx:fK x=true):SeqAt.EqAt A s u v (eqV y x):=by
 cases y with
 | non=>
  cases ry
  cases x with
  | non=>cases rx;exact SeqAt.EqAt.same _
  | bl b=>cases rx;exact SeqAt.EqAt.none_bool b
  | int b=>obtain ⟨t,rfl⟩:=rx;exact SeqAt.EqAt.none_int b t
  | str b=>obtain ⟨t,rfl⟩:=rx;exact SeqAt.EqAt.none_str b t
  | _=>exact absurd (show false=true from fx) Bool.false_ne_true
 | bl a=>
  cases ry
  cases x with
  | non=>cases rx;exact SeqAt.EqAt.bool_none a
  | bl b=>cases rx;exact SeqAt.EqAt.bool_bool a b
  | int b=>obtain ⟨t,rfl⟩:=rx;exact SeqAt.EqAt.bool_int a b t
  | str b=>obtain ⟨t,rfl⟩:=rx;exact SeqAt.EqAt.bool_str a b t
  | _=>exact absurd (show false=true from fx) Bool.false_ne_true
 | int a=>
  obtain ⟨t',rfl⟩:=ry
  cases x with
  | non=>cases rx;exact SeqAt.EqAt.int_none a t'
  | bl b=>cases rx;exact SeqAt.EqAt.int_bool a t' b
  | int b=>obtain ⟨t,rfl⟩:=rx;exact SeqAt.EqAt.int_int a t' b t
  | str b=>obtain ⟨t,rfl⟩:=rx;exact SeqAt.EqAt.int_str a t' b t
  | _=>exact absurd (show false=true from fx) Bool.false_ne_true
 | str a=>
  obtain ⟨t',rfl⟩:=ry
  cases x with
  | non=>cases rx;exact SeqAt.EqAt.str_none a t'
  | bl b=>cases rx;exact SeqAt.EqAt.str_bool a t' b
  | int b=>obtain ⟨t,rfl⟩:=rx;exact SeqAt.EqAt.str_int a t' b t
  | str b=>obtain ⟨t,rfl⟩:=rx;exact SeqAt.EqAt.str_str a t' b t
  | _=>exact absurd (show false=true from fx) Bool.false_ne_true
 | _=>exact absurd (show false=true from fy) Bool.false_ne_true
noncomputable def eqU (x:V) (u:Value):Bool:=match u with
 | .none=>eqV .non x
 | .bool b=>eqV (.bl b) x
 | .int i _=>eqV (.int i) x
 | .str z _=>eqV (.str z) x
 | _=>false
theorem tZ {x y:V} {u:Value} (r:RelV y u) (f:fK y=true):eqU x u=eqV y x:=by
 cases y with
 | non=>cases r;rfl
 | bl b=>cases r;rfl
 | int i=>obtain ⟨t,rfl⟩:=r;rfl
 | str z=>obtain ⟨t,rfl⟩:=r;rfl
 | _=>exact absurd (show false=true from f) Bool.false_ne_true
theorem gE {x:V}: ∀ {xs:List V} {us:List Value},Vals xs us->xs.all fK=true->us.any (eqU x)=xs.any fun y=>eqV y x
 | _,_,.nil,_=>rfl
 | y::xs,u::us,.cons r t,f=>by
  rw [List.all_cons,Bool.and_eq_true]at f
  rw [List.any_cons,List.any_cons,tZ r f.1,gE t f.2]
theorem fg {A:Around} {s:Shared} {x:V} {v:Value} (rx:RelV x v) (fx:fK x=true): ∀ {xs:List V} {us:List Value},Vals xs us->xs.all fK=true-> ∀ u∈us,SeqAt.EqAt A s u v (eqU x u)
 | _,_,.nil,_=>fun u hu=>by cases hu
 | y::xs,u::us,.cons r t,f=>fun u' hu=>by
  rw [List.all_cons,Bool.and_eq_true]at f
  rcases List.mem_cons.mp hu with rfl | hu
  ·rw [tZ r f.1];exact wB r rx f.1 fx
  ·exact fg rx fx t f.2 u' hu
noncomputable def inV (x:V) (xs:List V):Bool:=xs.any fun y=>eqV y x
noncomputable def rIn (K:PySem.W.Frag) (neg:Bool):R2:=fun x y H Q=> ∃ p xs,y=.ref p/\(SqL K H p xs\/SqT K H p xs)/\fK x=true/\xs.all fK=true/\Q (.bl (if neg then !inV x xs else inV x xs)) H
theorem fA:OpR X (compareOp .In) (rIn X.K false):=by
 intro pins s Z H x y v u Q I rx ry h
 obtain ⟨p,xs,rfl,hq,fx,fs,q⟩:=h
 cases ry
 rcases hq with hq | hq
 ·obtain ⟨its,r,pl,hz⟩:=I.list hq
  refine SeqAt.in_listAt (eqU x) pl.isList (fun w hw=>fg rx fx r fs w (by simpa using hw)) ⟨.bl _,H,I,rfl,?_⟩
  rw [show its.toArray.any (eqU x)=its.any (eqU x) by simp,gE r fs]
  exact q
 ·obtain ⟨its,r,pl,hz⟩:=I.tuple hq
  refine SeqAt.in_tupleAt (eqU x) pl (fun w hw=>fg rx fx r fs w (by simpa using hw)) ⟨.bl _,H,I,rfl,?_⟩
  rw [show its.toArray.any (eqU x)=its.any (eqU x) by simp,gE r fs]
  exact q
theorem kZ:OpR X (compareOp .NotIn) (rIn X.K true):=by
 intro pins s Z H x y v u Q I rx ry h
 obtain ⟨p,xs,rfl,hq,fx,fs,q⟩:=h
 cases ry
 rcases hq with hq | hq
 ·obtain ⟨its,r,pl,hz⟩:=I.list hq
  refine SeqAt.notIn_listAt (eqU x) pl.isList (fun w hw=>fg rx fx r fs w (by simpa using hw)) ⟨.bl _,H,I,rfl,?_⟩
  rw [show its.toArray.any (eqU x)=its.any (eqU x) by simp,gE r fs]
  exact q
 ·obtain ⟨its,r,pl,hz⟩:=I.tuple hq
  refine SeqAt.notIn_tupleAt (eqU x) pl (fun w hw=>fg rx fx r fs w (by simpa using hw)) ⟨.bl _,H,I,rfl,?_⟩
  rw [show its.toArray.any (eqU x)=its.any (eqU x) by simp,gE r fs]
  exact q
theorem ar:dJ X (.builtin "len") (fun xs H Q=> ∃ p ys,xs=[.ref p]/\(SqL X.K H p ys\/SqT X.K H p ys)/\Q (.int ys.length) H):=by
 intro pins s Z H xs us Q I r h
 obtain ⟨p,ys,rfl,hq,q⟩:=h
 obtain ⟨u,rfl,rx⟩:=fZ r
 cases rx
 have hn:=fR
 rcases hq with hq | hq
 ·obtain ⟨its,r',pl,hz⟩:=I.list hq
  have hlen:=r'.length
  exact Calls.call_len_list pl.isList (by simp only [List.size_toArray] <;> omega) ⟨.int ys.length,H,I.tok _,⟨s.toks+1,by rw [List.size_toArray,hlen]⟩,q⟩
 ·obtain ⟨its,r',pl,hz⟩:=I.tuple hq
  have hlen:=r'.length
  exact len_tuple pl (by simp only [List.size_toArray] <;> omega) ⟨.int ys.length,H,I.tok _,⟨s.toks+1,by rw [List.size_toArray,hlen]⟩,q⟩
theorem lE:dJ X (.builtin "len") (fun xs H Q=> ∃ z,xs=[.str z]/\z.length<=sizeLine/\Q (.int z.length) H):=by
 intro pins s Z H xs us Q I r h
 obtain ⟨z,rfl,hz,q⟩:=h
 obtain ⟨u,rfl,t,rfl⟩:=fZ r
 have hn:=fR
 exact len_str (by omega) ⟨.int z.length,H,I.tok _,⟨_,rfl⟩,q⟩
theorem a8:dJ X (.type "tuple") (fun xs H Q=> ∃ p ys,xs=[.ref p]/\((SqL X.K H p ys/\ ∀ l,H l=none->Q (.ref l) (upd H l (.tup ys)))\/(SqT X.K H p ys/\Q (.ref p) H))):=by
 intro pins s Z H xs us Q I r h
 obtain ⟨p,ys,rfl,h⟩:=h
 obtain ⟨u,rfl,rx⟩:=fZ r
 cases rx
 rcases h with ⟨hq,q⟩ | ⟨hq,q⟩
 ·obtain ⟨its,r',pl,hz⟩:=I.list hq
  have hlen:=r'.length
  refine call_tuple_list pl.isList (fun h' kp=>?_) (by simp only [List.size_toArray] <;> omega)
  have I1:Inv X pins Z H {s with heap:=h'}:=I.kept (t':=s.toks) kp
  have I2:Inv X pins Z (upd H h'.objs.size (.tup ys)) {s with heap:=h'.push {cls:=.type "tuple",data:=.seq its.toArray}}:=
   I1.laid (t':=s.toks) (fun b o e=>Heap.get?_push_of_some _ e) (Nat.le_refl _) (show ObjOk X.prog X.w _ _ _ (.tup ys)from ⟨hz,its,r',IsTup.new _ _⟩)
  exact ⟨.ref h'.objs.size,_,I2,rfl,q _ (I1.hok.fresh (Nat.le_refl _))⟩
 ·obtain ⟨its,r',pl,hz⟩:=I.tuple hq
  exact call_tuple_same pl ⟨.ref p,H,I,rfl,q⟩
noncomputable def tyV (K:PySem.W.Frag) (T:String) (x:V) (H:Hp):Prop:=match x with
 | .str _=>T="str"
 | .int _=>T="int"
 | .ref p=>(T="list"/\ ∃ xs,SqL K H p xs)\/(T="tuple"/\ ∃ o,K.lookup p=some o/\o.cls=.type "tuple"/\o.dict=none)\/
   (T="dict"/\((∃ kvs,H p=some (.dK kvs))\/ ∃ kvs,H p=some (.dT kvs)))\/(T="set"/\ ∃ S n,H p=some (.set S n))
 | _=>False
theorem qR {pins:List (Addr×Obj)} {Z:St} {H:Hp} {s:Shared} {T:String} {x:V} {v:Value} (I:Inv X pins Z H s) (r:RelV x v) (ty:tyV X.K T x H):
  s.TypeIs v T/\ ∀ a,v=.ref a-> ∃ ob,s.heap.get? a=some ob/\ob.dict=none:=by
 cases x with
 | str z=>
  obtain ⟨t,rfl⟩:=r
  cases (show T="str" from ty)
  exact ⟨typeIs_str s z t,fun _ e=>nomatch e⟩
 | int i=>
  obtain ⟨t,rfl⟩:=r
  cases (show T="int" from ty)
  exact ⟨typeIs_int s i t,fun _ e=>nomatch e⟩
 | ref p=>
  cases r
  rcases ty with ⟨rfl,xs,hq⟩ | ⟨rfl,o,hk,hc,hd⟩ | ⟨rfl,hk⟩ | ⟨rfl,S,n,hk⟩
  ·obtain ⟨its,_,pl,_⟩:=I.list hq
   refine ⟨pl.isList.typeIs,fun a e=>?_⟩
   cases e
   obtain ⟨o,n,e,c,hd,_⟩:=pl
   exact ⟨o,e,hd⟩
  ·refine ⟨⟨o,I.kIn p o hk,hc⟩,fun a e=>?_⟩
   cases e
   exact ⟨o,I.kIn _ o hk,hd⟩
  ·have z: ∃ o,s.heap.get? p=some o/\o.ExactDict:=by
    rcases hk with ⟨kvs,hk⟩ | ⟨kvs,hk⟩
    ·obtain ⟨_,_,_,_,o,_,_,e,ex,_⟩:=I.hok p _ hk
     exact ⟨o,e,ex⟩
    ·obtain ⟨_,_,_,_,o,_,_,e,ex,_⟩:=I.hok p _ hk
     exact ⟨o,e,ex⟩
   obtain ⟨o,e,ex⟩:=z
   refine ⟨⟨o,e,ex.1⟩,fun a e2=>?_⟩
   cases e2
   exact ⟨o,e,ex.2.1⟩
  ·obtain ⟨o,_,_,_,e,ex,_⟩:=I.hok p _ hk
   refine ⟨⟨o,e,ex.1⟩,fun a e2=>?_⟩
   cases e2
   exact ⟨o,e,ex.2.1⟩
 | _=>exact False.elim ty
noncomputable def xO (K:PySem.W.Frag) (T:String) (r:V->List V->Hp->VK->Prop) (to:TE):TE:=fun Z H Q=>to Z H fun x H1=>tyV K T x H1/\r x [] H1 Q
noncomputable def tBM (K:PySem.W.Frag) (T:String) (r:V->List V->Hp->VK->Prop) (to:TE) (t:TA):TE:=fun Z H Q=>to Z H fun x H1=>tyV K T x H1/\t Z H1 fun xs H2=>r x xs H2 Q
variable {o e:Expr} {es:List Expr} {to:TE} {t:TA} {name:Str} {apos cpos:Pos} {T id:String} {r:V->List V->Hp->VK->Prop}
theorem sy (pa:PlainAttrs T) (slot:Slot T name id) (hty:typeOf (.builtin id)=pure (.type "method_descriptor")) (hm:MtR X id r) (ho:PE X o to)
  (hbase:attributeBase o name X.env (eval o X.env)=eval o X.env:=by rfl) (hline:(apos.endLine==cpos.line)=true:=by rfl):PE X (.Call (.Attribute o name apos) [] [] cpos) (xO X.K T r to):=by
 intro pins s Z H Q I h
 refine wpAny_Call_method0_late hbase hline (thn (ho pins s Z H _ I h) fun v s1 ⟨x,H1,I1,r1,ty,q1⟩=>?_)
 obtain ⟨h1,h2⟩:=qR I1 r1 ty
 exact ⟨T,id,pa,slot,hty,h1,h2,Calls.callWith_builtin rfl (PySem.evalArgs_none (hm pins s1 Z H1 x [] v [] Q I1 r1 .nil q1))⟩
theorem dF (pa:PlainAttrs T) (slot:Slot T name id) (hty:typeOf (.builtin id)=pure (.type "method_descriptor")) (hm:MtR X id r) (ho:PE X o to) (ha:PA X (e::es) t)
  (hbase:attributeBase o name X.env (eval o X.env)=eval o X.env:=by rfl)
  (hfew:((backTo cpos (starEach (e::es) X.env)).all (fun x=> !x.1)&&(backToKw cpos (keywordEach [] X.env)).all (fun x=>x.1.isSome)
   &&decide ((e::es).length+ ([]:List Keyword).length+ (if ([]:List Keyword).isEmpty then 0 else 1) <30))=true:=by rfl)
  (hline:(apos.endLine==cpos.line)=true:=by rfl) (hs:starEach (e::es) X.env=(false,eval e X.env)::starEach es X.env:=by rfl) (hplain:(backTo cpos (starEach es X.env)).any (·.1)=false:=by rfl):
  PE X (.Call (.Attribute o name apos) (e::es) [] cpos) (tBM X.K T r to t):=by
 intro pins s Z H Q I h
 refine wpAny_Call_method_late hbase hfew hline rfl (thn (ho pins s Z H _ I h) fun v s1 ⟨x,H1,I1,r1,ty,q1⟩=>?_)
 obtain ⟨h1,h2⟩:=qR I1 r1 ty
 refine ⟨T,id,pa,slot,hty,h1,h2,?_⟩
 have hA:=ha cpos pins s1 Z H1 _ I1 q1
 rw [hs]at hA ⊢
 refine Calls.callWith_builtin (by show (false||(backTo cpos (starEach es X.env)).any (·.1))=false;rw [hplain] <;> rfl) (Calls.evalArgs_plain ?_)
 exact thn hA fun us s2 ⟨vs,H2,I2,r2,q2⟩=>hm pins s2 Z H2 x vs v us Q I2 r1 r2 q2
end
noncomputable def MtM (X:Cx) (id:String) (r:V->List V->Hp->VK->Prop):Prop:=
 ∀ (pins:List (Addr×Obj)) (s:Shared) (Z:St) (H:Hp) (x:V) (xs:List V) (v:Value) (us:List Value) (Q:VK),Inv X pins Z H s->RelV x v->Vals xs us->r x xs H Q->
  wpAny (model X.prog X.w) X.A (call (.builtin id) (v::us)) (EP X pins Z Q) X.xe s
theorem Vals.one: ∀ {x:V} {us:List Value},Vals [x] us-> ∃ u,us=[u]/\RelV x u
 | _,_,.cons r .nil=>⟨_,rfl,r⟩
theorem Vals.two: ∀ {x y:V} {us:List Value},Vals [x,y] us-> ∃ u v,us=[u,v]/\RelV x u/\RelV y v
 | _,_,_,.cons r (.cons q .nil)=>⟨_,_,rfl,r,q⟩
theorem Vals.zero: ∀ {us:List Value},Vals [] us->us=[]
 | _,.nil=>rfl
theorem Vals.dropLast {xs:List V} {us:List Value} (h:Vals xs us):Vals xs.dropLast us.dropLast:=by
 induction h with
 | nil=>exact .nil
 | cons r t ih=>
  cases t with
  | nil=>exact .nil
  | cons q t'=>exact .cons r ih
theorem oE {α:Type} (l:List α):l.eraseIdx (l.length-1)=l.dropLast:=by
 induction l with
 | nil=>rfl
 | cons a r ih=>
  cases r with
  | nil=>rfl
  | cons b r=>
   have e:(a::b::r).length-1=((b::r).length-1) +1:=by
    have h1:(a::b::r).length=r.length+2:=rfl
    have h2:(b::r).length=r.length+1:=rfl
    omega
   rw [e,List.eraseIdx_cons_succ,ih]
   all_goals rfl
section
variable {X:Cx} {pins:List (Addr×Obj)} {Z:St} {H:Hp} {s:Shared} {l b:Addr} {xs ys zs:List V}
theorem Inv.lset {its its':List Value} {n:Nat} {f:Array Value->Array Value} {t':Nat} (I:Inv X pins Z H s) (hH:H l=some (.lst xs))
  (e:s.heap.get? l=some {cls:=.type "list",data:=.seq its.toArray n}) (hf:f its.toArray=its'.toArray) (hv:Vals ys its') (hz:ys.length<=sizeLine):
  Inv X pins Z (upd H l (.lst ys)) {s with heap:=s.heap.update l (Obj.mapSeq f),toks:=t'}:=by
 have q:=PySem.IsL.update e f
 rw [hf]at q
 refine I.write (x:=l) (e:=l) (by rw [hH];exact trivial) (.inl rfl) (fun b' u hb hu=>(Heap.get?_update_other s.heap (Obj.mapSeq f) (Ne.symm hb)).trans hu) ⟨_,q⟩ ?_
 exact ⟨hz,its',_,hv,q⟩
theorem Inv.lnew {its:List Value} {t':Nat} (I:Inv X pins Z H s) (hv:Vals ys its) (hz:ys.length<=sizeLine):
  Inv X pins Z (upd H s.heap.objs.size (.lst ys)) {s with heap:=s.heap.push {cls:=.type "list",data:=.seq its.toArray},toks:=t'}:=
 I.laid (fun _ _ q=>Heap.get?_push_of_some _ q) (Nat.le_refl _) ⟨hz,its,0,hv,Heap.get?_push_size _ rfl⟩
theorem Inv.fresh (I:Inv X pins Z H s):H s.heap.objs.size=none:=I.hok.fresh (Nat.le_refl _)
theorem Inv.lstM (I:Inv X pins Z H s) (hH:H l=some (.lst xs)):xs.length<=sizeLine/\ ∃ (its:List Value) (n:Nat),Vals xs its/\xs.length=its.length/\s.heap.get? l=some {cls:=.type "list",data:=.seq its.toArray n}:=by
 obtain ⟨z,its,n,r,e⟩:=I.hok l _ hH
 exact ⟨z,its,n,r,r.length,e⟩
theorem mz {n:Nat} (h:n<=sizeLine):Builtin.List.listTooLong n=false:=by
 unfold Builtin.List.listTooLong
 exact decide_eq_false (by omega)
end
section
variable {X:Cx}
noncomputable def uI:V->List V->Hp->VK->Prop:=fun x vs H Q=> ∃ l xs y,x=.ref l/\vs=[y]/\H l=some (.lst xs)/\xs.length<sizeLine/\Q .non (upd H l (.lst (xs++[y])))
theorem bZ:MtM X "list.append" uI:=by
 intro pins s Z H x vs v us Q I rx rv h
 obtain ⟨l,xs,y,rfl,rfl,hH,hz,q⟩:=h
 cases rx
 obtain ⟨u,rfl,ru⟩:=rv.one
 obtain ⟨z,its,n,r,hl,e⟩:=I.lstM hH
 refine call_meets F.slot_list_append ⟨_,e,rfl⟩ F.entry_list_append (F.args_list_append_2 _ _) (PySem.list_append l its.toArray n u (by rw [List.size_toArray];omega)) ⟨e,?_⟩
 refine ⟨.non,_,I.lset (its':=its++[u]) hH e (by simp) (r.append (.cons ru .nil)) ?_,rfl,q⟩
 rw [List.length_append,List.length_singleton]
 omega
noncomputable def uH:V->List V->Hp->VK->Prop:=fun x vs H Q=> ∃ l b xs zs,x=.ref l/\vs=[.ref b]/\H l=some (.lst xs)/\H b=some (.lst zs)/\xs.length+zs.length<=sizeLine/\Q .non (upd H l (.lst (xs++zs)))
theorem fB:MtM X "list.extend" uH:=by
 intro pins s Z H x vs v us Q I rx rv h
 obtain ⟨l,b,xs,zs,rfl,rfl,hH,hB,hz,q⟩:=h
 cases rx
 obtain ⟨u,rfl,ru⟩:=rv.one
 cases ru
 obtain ⟨z,its,n,r,hl,e⟩:=I.lstM hH
 obtain ⟨z2,its2,n2,r2,hl2,e2⟩:=I.lstM hB
 have hsz:its.toArray.size+its2.toArray.size<=sizeLine:=by rw [List.size_toArray,List.size_toArray];omega
 have hlong: ¬ (!its.toArray.isEmpty&&Builtin.List.listTooLong (its.toArray.size+its2.toArray.size))=true:=by
  rw [mz hsz,Bool.and_false]
  exact Bool.false_ne_true
 refine call_meets F.slot_list_extend ⟨_,e,rfl⟩ F.entry_list_extend (F.args_list_extend_2 _ _)
  (AutoSeq1.list_extend_list_list_0 l its.toArray n b its2.toArray n2 hlong (by rw [List.size_toArray];omega) (by omega)) ⟨e,e2,?_⟩
 refine ⟨.non,_,I.lset (its':=its++its2) hH e (by simp) (r.append r2) ?_,rfl,q⟩
 rw [List.length_append]
 omega
noncomputable def xU:V->List V->Hp->VK->Prop:=fun x vs H Q=> ∃ l xs y,x=.ref l/\vs=[]/\H l=some (.lst xs)/\xs[xs.length-1]? =some y/\Q y (upd H l (.lst xs.dropLast))
theorem sX:MtM X "list.pop" xU:=by
 intro pins s Z H x vs v us Q I rx rv h
 obtain ⟨l,xs,y,rfl,rfl,hH,hy,q⟩:=h
 cases rx
 have hus:=rv.zero
 subst hus
 obtain ⟨z,its,n,r,hl,e⟩:=I.lstM hH
 obtain ⟨u,hu,ru⟩:=r.get hy
 have hy':its.toArray[its.toArray.size-1]? =some u:=by
  show its.toArray[its.length-1]? =some u
  rw [<- Array.getElem?_toList,<- hl]
  exact hu
 refine call_meets F.slot_list_pop ⟨_,e,rfl⟩ F.entry_list_pop (F.args_list_pop_1 _) (MeetsSeq.list_pop_last l its.toArray n u hy' (by rw [List.size_toArray];omega)) ⟨e,?_⟩
 refine ⟨y,_,I.lset (its':=its.dropLast) hH e ?_ r.dropLast ?_,ru,q⟩
 ·show its.toArray.eraseIdxIfInBounds (its.toArray.size-1)=its.dropLast.toArray
  rw [List.size_toArray,List.eraseIdxIfInBounds_toArray,oE]
 ·rw [List.length_dropLast]
  omega
noncomputable def xX:R2:=fun x y H Q=> ∃ l b xs zs,x=.ref l/\y=.ref b/\H l=some (.lst xs)/\H b=some (.lst zs)/\xs.length+zs.length<=sizeLine/\ ∀ p,H p=none->Q (.ref p) (upd H p (.lst (xs++zs)))
theorem gQ:OpR X (binaryOp .Add) xX:=by
 intro pins s Z H x y v u Q I rx ry h
 obtain ⟨l,b,xs,zs,rfl,rfl,hH,hB,hz,q⟩:=h
 cases rx
 cases ry
 obtain ⟨z,its,n,r,hl,e⟩:=I.lstM hH
 obtain ⟨z2,its2,n2,r2,hl2,e2⟩:=I.lstM hB
 refine PySem.P.add_list e e2 ?_ (by rw [List.size_toArray,List.size_toArray];omega)
 have ea:its.toArray++its2.toArray=(its++its2).toArray:=by simp
 rw [ea]
 exact ⟨.ref _,_,I.lnew (t':=s.toks) (r.append r2) (by rw [List.length_append];omega),rfl,q _ I.fresh⟩
end
section
variable {κ:Type} [DecidableEq κ]
noncomputable def cz (kvs:List (κ×V)) (k:κ):Option V:=(kvs.find? fun kv=>decide (kv.1=k)).map (·.2)
noncomputable def cW (kvs:List (κ×V)) (k:κ) (v:V):List (κ×V):=
 if (kvs.any fun kv=>decide (kv.1=k))=true then kvs.map (fun kv=>if kv.1=k then (kv.1,v)else kv)else kvs++[(k,v)]
theorem qQ {k:κ}:cz ([]:List (κ×V)) k=none:=rfl
theorem cg {p:κ×V} {r:List (κ×V)} {k:κ} (e:p.1=k):cz (p::r) k=some p.2:=by simp [cz,List.find?_cons,e]
theorem bi {p:κ×V} {r:List (κ×V)} {k:κ} (e: ¬ p.1=k):cz (p::r) k=cz r k:=by simp [cz,List.find?_cons,e]
theorem eJ (k:κ): ∀ kvs:List (κ×V),(kvs.any fun kv=>decide (kv.1=k))=(cz kvs k).isSome
 | []=>rfl
 | p::r=>by
  rw [List.any_cons]
  by_cases e:p.1=k
  ·simp only [cg e,decide_eq_true e,Bool.true_or,Option.isSome_some]
  ·rw [bi e,decide_eq_false e,Bool.false_or];exact eJ k r
theorem lK (k j:κ) (y:V): ∀ kvs:List (κ×V),cz (kvs.map fun kv=>if kv.1=k then (kv.1,y)else kv) j=(cz kvs j).map fun x=>if j=k then y else x
 | []=>rfl
 | p::r=>by
  have ih:=lK k j y r
  rw [List.map_cons]
  by_cases h:p.1=k
  ·rw [if_pos h]
   by_cases e:p.1=j
   ·rw [cg (p:=(p.1,y)) e,cg e,Option.map_some,if_pos (e.symm.trans h)]
   ·rw [bi (p:=(p.1,y)) e,bi e,ih]
  ·rw [if_neg h]
   by_cases e:p.1=j
   ·rw [cg (p:=p) e,cg e,Option.map_some,if_neg (fun z=>h (e.trans z))]
   ·rw [bi (p:=p) e,bi e,ih]
theorem jw (k j:κ) (y:V): ∀ kvs:List (κ×V),cz kvs k=none->cz (kvs++[(k,y)]) j=if j=k then some y else cz kvs j
 | [],_=>by
  by_cases e:k=j
  ·rw [if_pos e.symm];exact cg (p:=(k,y)) e
  ·rw [if_neg (fun z=>e z.symm)];exact bi (p:=(k,y)) e
 | p::r,hn=>by
  rw [List.cons_append]
  have hk: ¬ p.1=k:=fun z=>by rw [cg z]at hn;cases hn
  rw [bi hk]at hn
  have ih:=jw k j y r hn
  by_cases e:p.1=j
  ·rw [cg e,cg e,if_neg (fun z=>hk (e.trans z))]
  ·rw [bi e,bi e,ih]
theorem gc (kvs:List (κ×V)) (k j:κ) (y:V):cz (cW kvs k y) j=if j=k then some y else cz kvs j:=by
 unfold cW
 by_cases a:(kvs.any fun kv=>decide (kv.1=k))=true
 ·rw [if_pos a,lK]
  rw [eJ]at a
  by_cases e:j=k
  ·obtain ⟨x,hx⟩:=Option.isSome_iff_exists.mp a
   rw [if_pos e,e,hx,Option.map_some,if_pos rfl]
  ·rw [if_neg e]
   cases cz kvs j with
   | none=>rfl
   | some x=>rw [Option.map_some,if_neg e]
 ·rw [if_neg a]
  refine jw k j y kvs ?_
  rw [eJ]at a
  cases q:cz kvs k with
  | none=>rfl
  | some x=>rw [q]at a;exact (a rfl).elim
theorem cx (kvs:List (κ×V)) (k:κ) (v:V):(cW kvs k v).length<=kvs.length+1:=by
 unfold cW
 split
 ·rw [List.length_map];omega
 ·rw [List.length_append,List.length_cons,List.length_nil];omega
theorem RelO.isSome_eq {o:Option V} {u:Option Value} (r:RelO o u):o.isSome=u.isSome:=by
 cases o with
 | none=>cases u with
  | none=>rfl
  | some _=>exact (show False from r).elim
 | some _=>cases u with
  | none=>exact (show False from r).elim
  | some _=>rfl
theorem KV.val {kvs:List (κ×V)} {vs:List (κ×Value)} (r:KV kvs vs) (k:κ):RelO (cz kvs k) (valueAt vs k):=by
 unfold KV at r
 induction r with
 | nil=>exact True.intro
 | @cons p q ps qs h t ih=>
  obtain ⟨h1,h2⟩:=h
  by_cases e:p.1=k
  ·have e':q.1=k:=h1.symm.trans e
   have b:valueAt (q::qs) k=some q.2:=by simp [valueAt,List.find?_cons,e']
   rw [cg e,b];exact h2
  ·have e': ¬ q.1=k:=fun z=>e (h1.trans z)
   have b:valueAt (q::qs) k=valueAt qs k:=by simp [valueAt,List.find?_cons,e']
   rw [bi e,b];exact ih
theorem KV.any {kvs:List (κ×V)} {vs:List (κ×Value)} (r:KV kvs vs) (k:κ):(kvs.any fun kv=>decide (kv.1=k))=vs.any fun kv=>decide (kv.1=k):=by
 unfold KV at r
 induction r with
 | nil=>rfl
 | cons h t ih=>rw [List.any_cons,List.any_cons,ih,h.1]
theorem KV.repl {kvs:List (κ×V)} {vs:List (κ×Value)} (r:KV kvs vs) (k:κ) {y:V} {u:Value} (ry:RelV y u):
  KV (kvs.map fun kv=>if kv.1=k then (kv.1,y)else kv) (vs.map fun kv=>if kv.1=k then (kv.1,u)else kv):=by
 unfold KV at r ⊢
 induction r with
 | nil=>exact .nil
 | @cons p q ps qs h t ih=>
  rw [List.map_cons,List.map_cons]
  refine .cons ?_ ih
  obtain ⟨h1,h2⟩:=h
  by_cases e:p.1=k
  ·rw [if_pos e,if_pos (h1.symm.trans e)];exact ⟨h1,ry⟩
  ·rw [if_neg e,if_neg (fun z=>e (h1.trans z))];exact ⟨h1,h2⟩
theorem KV.put {kvs:List (κ×V)} {vs:List (κ×Value)} (r:KV kvs vs) (k:κ) {y:V} {u:Value} (ry:RelV y u):KV (cW kvs k y) (stored vs k u):=by
 unfold cW stored
 rw [r.any k]
 by_cases e:(vs.any fun kv=>decide (kv.1=k))=true
 ·rw [if_pos e,if_pos e];exact r.repl k ry
 ·rw [if_neg e,if_neg e];exact Paired.snoc r ⟨rfl,ry⟩
theorem KV.length {kvs:List (κ×V)} {vs:List (κ×Value)} (r:KV kvs vs):kvs.length=vs.length:=Paired.length r
end
theorem jK {P:Program} {w:World} {k:Key} {u:Value} (r:RelV (kV k) u):(a9 P w).is k u=true:=by
 cases k with
 | inl i=>obtain ⟨t,e⟩:=(show ∃ t,u=Value.int i t from r);subst e;exact mG P w i t
 | inr x=>obtain ⟨t,e⟩:=(show ∃ t,u=Value.str x t from r);subst e;exact mE P w x t
theorem jL {P:Program} {w:World}: ∀ {ks:List Key} {us:List Value},Vals (ks.map kV) us->ItemsAre (a9 P w) ks us
 | [],_,r=>by rw [List.map_nil]at r;cases r;exact .nil
 | k::ks,_,r=>by
  rw [List.map_cons]at r
  cases r with
  | cons h t=>exact .cons (jK h) (jL t)
noncomputable abbrev KT (H:Hp):List (List Key×V)->List (List Key×Addr×Value)->Prop:=Paired fun p q=>p.1=q.1/\H q.2.1=some (.tup (p.1.map kV))/\RelV p.2 q.2.2
theorem KT.val {H:Hp} {kvs:List (List Key×V)} {xs:List (List Key×Addr×Value)} (r:KT H kvs xs) (k:List Key):RelO (cz kvs k) ((atKey xs k).map (·.2)):=by
 induction r with
 | nil=>exact True.intro
 | @cons p q ps qs h t ih=>
  obtain ⟨h1,_,h2⟩:=h
  by_cases e:p.1=k
  ·have e':q.1=k:=h1.symm.trans e
   have b:atKey (q::qs) k=some q.2:=by simp [atKey,List.find?_cons,e']
   rw [cg e,b];exact h2
  ·have e': ¬ q.1=k:=fun z=>e (h1.trans z)
   have b:atKey (q::qs) k=atKey qs k:=by simp [atKey,List.find?_cons,e']
   rw [bi e,b];exact ih
theorem KT.repl {H:Hp} {kvs:List (List Key×V)} {xs:List (List Key×Addr×Value)} (r:KT H kvs xs) (k:List Key) {y:V} {u:Value} (ry:RelV y u):
  KT H (kvs.map fun kv=>if kv.1=k then (kv.1,y)else kv) (xs.map (putAt k u)):=by
 induction r with
 | nil=>exact .nil
 | @cons p q ps qs h t ih=>
  rw [List.map_cons,List.map_cons]
  refine .cons ?_ ih
  obtain ⟨h1,h2,h3⟩:=h
  unfold putAt
  by_cases e:p.1=k
  ·rw [if_pos e,if_pos (h1.symm.trans e)];exact ⟨h1,h2,ry⟩
  ·rw [if_neg e,if_neg (fun z=>e (h1.trans z))];exact ⟨h1,h2,h3⟩
theorem KT.put {H:Hp} {kvs:List (List Key×V)} {xs:List (List Key×Addr×Value)} (r:KT H kvs xs) (k:List Key) {b:Addr} {y:V} {u:Value} (hb:H b=some (.tup (k.map kV))) (ry:RelV y u):
  KT H (cW kvs k y) (storedH xs k b u):=by
 have e:(kvs.any fun kv=>decide (kv.1=k))=(atKey xs k).isSome:=by
  rw [eJ,(r.val k).isSome_eq,Option.isSome_map]
 unfold cW storedH
 rw [e]
 by_cases q:(atKey xs k).isSome=true
 ·rw [if_pos q,if_pos q];exact r.repl k ry
 ·rw [if_neg q,if_neg q];exact Paired.snoc r ⟨rfl,hb,ry⟩
theorem KT.keeps {H H':Hp} {kvs:List (List Key×V)} {xs:List (List Key×Addr×Value)} (r:KT H kvs xs) (ht: ∀ b ys,H b=some (.tup ys)->H' b=some (.tup ys)):KT H' kvs xs:=
 Paired.mapP r fun _ _ z=>⟨z.1,ht _ _ z.2.1,z.2.2⟩
noncomputable abbrev KP (H:Hp):List ((List Key×Key)×V)->List ((List Key×Key)×Addr×Value)->Prop:=Paired fun p q=>p.1=q.1/\(∃ c,H q.2.1=some (.tup [.ref c,kV p.1.2])/\H c=some (.tup (p.1.1.map kV)))/\RelV p.2 q.2.2
theorem KP.val {H:Hp} {kvs:List ((List Key×Key)×V)} {xs:List ((List Key×Key)×Addr×Value)} (r:KP H kvs xs) (k:List Key×Key):RelO (cz kvs k) ((atKey xs k).map (·.2)):=by
 induction r with
 | nil=>exact True.intro
 | @cons p q ps qs h t ih=>
  obtain ⟨h1,_,h2⟩:=h
  by_cases e:p.1=k
  ·have e':q.1=k:=h1.symm.trans e
   have b:atKey (q::qs) k=some q.2:=by simp [atKey,List.find?_cons,e']
   rw [cg e,b];exact h2
  ·have e': ¬ q.1=k:=fun z=>e (h1.trans z)
   have b:atKey (q::qs) k=atKey qs k:=by simp [atKey,List.find?_cons,e']
   rw [bi e,b];exact ih
theorem KP.repl {H:Hp} {kvs:List ((List Key×Key)×V)} {xs:List ((List Key×Key)×Addr×Value)} (r:KP H kvs xs) (k:List Key×Key) {y:V} {u:Value} (ry:RelV y u):
  KP H (kvs.map fun kv=>if kv.1=k then (kv.1,y)else kv) (xs.map (putAt k u)):=by
 induction r with
 | nil=>exact .nil
 | @cons p q ps qs h t ih=>
  rw [List.map_cons,List.map_cons]
  refine .cons ?_ ih
  obtain ⟨h1,h2,h3⟩:=h
  unfold putAt
  by_cases e:p.1=k
  ·rw [if_pos e,if_pos (h1.symm.trans e)];exact ⟨h1,h2,ry⟩
  ·rw [if_neg e,if_neg (fun z=>e (h1.trans z))];exact ⟨h1,h2,h3⟩
theorem KP.put {H:Hp} {kvs:List ((List Key×Key)×V)} {xs:List ((List Key×Key)×Addr×Value)} (r:KP H kvs xs) (k:List Key×Key) {b:Addr} {y:V} {u:Value} (hb: ∃ c,H b=some (.tup [.ref c,kV k.2])/\H c=some (.tup (k.1.map kV))) (ry:RelV y u):
  KP H (cW kvs k y) (storedH xs k b u):=by
 have e:(kvs.any fun kv=>decide (kv.1=k))=(atKey xs k).isSome:=by
  rw [eJ,(r.val k).isSome_eq,Option.isSome_map]
 unfold cW storedH
 rw [e]
 by_cases q:(atKey xs k).isSome=true
 ·rw [if_pos q,if_pos q];exact r.repl k ry
 ·rw [if_neg q,if_neg q];exact Paired.snoc r ⟨rfl,hb,ry⟩
theorem KP.keeps {H H':Hp} {kvs:List ((List Key×Key)×V)} {xs:List ((List Key×Key)×Addr×Value)} (r:KP H kvs xs) (ht: ∀ b ys,H b=some (.tup ys)->H' b=some (.tup ys)):KP H' kvs xs:=
 Paired.mapP r fun _ _ z=>⟨z.1,let ⟨c,e1,e2⟩:=z.2.1;⟨c,ht _ _ e1,ht _ _ e2⟩,z.2.2⟩
section
variable {P:Program} {w:World} {H:Hp} {h:Heap} {a:Addr}
theorem rY {u:HO} (ok:HOk P w H h) (e:Rd H a u):ObjOk P w H h a u:=e.ok ok
theorem ug {kvs:List (Key×V)} (ok:HOk P w H h) (e:Rd H a (.dK kvs)):kvs.length<=sizeLine/\(a==sysModules)=false/\ ∃ vs,KV kvs vs/\h.DictOf (a9 P w) a vs:=
 show ObjOk P w H h a (.dK kvs)from rY ok e
theorem xC {kvs:List (Key×V)} (ok:HOk P w H h) (e:H a=some (.dK kvs)):kvs.length<=sizeLine/\(a==sysModules)=false/\ ∃ vs,KV kvs vs/\h.DictOf (a9 P w) a vs:=ug ok (.inl e)
theorem lu {ks:List Key} (ok:HOk P w H h) (e:H a=some (.tup (ks.map kV))):(tupleKind (a9 P w)).is h ks a:=by
 obtain ⟨_,its,r,o,h1,h2,n,h3⟩:=(show ObjOk P w H h a (.tup (ks.map kV))from ok a _ e)
 exact ⟨o,its.toArray,n,h1,h2,h3,by simpa using jL r⟩
theorem ua {kvs:List (List Key×V)} (ok:HOk P w H h) (e:Rd H a (.dT kvs)):kvs.length<=sizeLine/\(a==sysModules)=false/\
  ∃ xs,KT H kvs xs/\h.DictOfH (tupleKind (a9 P w)) a xs:=by
 obtain ⟨z,y,xs,r,o,es,ep,h1,h2,h3,h4,h5⟩:=(show ObjOk P w H h a (.dT kvs)from rY ok e)
 refine ⟨z,y,xs,r,o,es,ep,h1,h2,h3,h4,fun x hx=>?_,h5⟩
 have all: ∀ {l:List (List Key×V)} {m:List (List Key×Addr×Value)},KT H l m-> ∀ x∈m,(tupleKind (a9 P w)).is h x.1 x.2.1:=by
  intro l m q
  induction q with
  | nil=>intro x hx;exact nomatch hx
  | @cons p q ps qs hq t ih=>
   intro x hx
   rcases List.mem_cons.mp hx with e | hx
   ·subst e
    exact lu ok (by rw [<- hq.1];exact hq.2.1)
   ·exact ih x hx
 exact all r x hx
theorem xA {kvs:List (List Key×V)} (ok:HOk P w H h) (e:H a=some (.dT kvs)):kvs.length<=sizeLine/\(a==sysModules)=false/\
  ∃ xs,KT H kvs xs/\h.DictOfH (tupleKind (a9 P w)) a xs:=ua ok (.inl e)
theorem lx {k:List Key×Key} (ok:HOk P w H h) (e: ∃ c,H a=some (.tup [.ref c,kV k.2])/\H c=some (.tup (k.1.map kV))):(fe (a9 P w) (a9 P w)).is h k a:=by
 obtain ⟨c,e1,e2⟩:=e
 obtain ⟨_,its,r,o,h1,h2,n,h3⟩:=(show ObjOk P w H h a (.tup [.ref c,kV k.2])from ok a _ e1)
 obtain ⟨u,v,rfl,ru,rv⟩:=r.two
 cases (show u=Value.ref c from ru)
 exact ⟨o,_,n,c,v,h1,h2,h3,by simp,lu ok e2,jK rv⟩
theorem uf {kvs:List ((List Key×Key)×V)} (ok:HOk P w H h) (e:Rd H a (.dP kvs)):kvs.length<=sizeLine/\(a==sysModules)=false/\
  ∃ xs,KP H kvs xs/\h.DictOfH (fe (a9 P w) (a9 P w)) a xs:=by
 obtain ⟨z,y,xs,r,o,es,ep,h1,h2,h3,h4,h5⟩:=(show ObjOk P w H h a (.dP kvs)from rY ok e)
 refine ⟨z,y,xs,r,o,es,ep,h1,h2,h3,h4,fun x hx=>?_,h5⟩
 have all: ∀ {l:List ((List Key×Key)×V)} {m:List ((List Key×Key)×Addr×Value)},KP H l m-> ∀ x∈m,(fe (a9 P w) (a9 P w)).is h x.1 x.2.1:=by
  intro l m q
  induction q with
  | nil=>intro x hx;exact nomatch hx
  | @cons p q ps qs hq t ih=>
   intro x hx
   rcases List.mem_cons.mp hx with e | hx
   ·subst e
    rw [<- hq.1];exact lx ok hq.2.1
   ·exact ih x hx
 exact all r x hx
theorem xB {kvs:List ((List Key×Key)×V)} (ok:HOk P w H h) (e:H a=some (.dP kvs)):kvs.length<=sizeLine/\(a==sysModules)=false/\
  ∃ xs,KP H kvs xs/\h.DictOfH (fe (a9 P w) (a9 P w)) a xs:=uf ok (.inl e)
end
noncomputable def DGet (H:Hp) (a:Addr) (y:V) (r:Option V):Prop:=
 (∃ kvs k,Rd H a (.dK kvs)/\y=kV k/\r=cz kvs k)\/(∃ kvs k b,Rd H a (.dT kvs)/\y=.ref b/\H b=some (.tup (k.map kV))/\r=cz kvs k)\/
 ∃ kvs k b,Rd H a (.dP kvs)/\y=.ref b/\(∃ c,H b=some (.tup [.ref c,kV k.2])/\H c=some (.tup (k.1.map kV)))/\r=cz kvs k
noncomputable def DPut (H:Hp) (a:Addr) (y v:V) (H':Hp):Prop:=
 (∃ kvs k,H a=some (.dK kvs)/\y=kV k/\kvs.length<sizeLine/\H'=upd H a (.dK (cW kvs k v)))\/
 (∃ kvs k b,H a=some (.dT kvs)/\y=.ref b/\H b=some (.tup (k.map kV))/\kvs.length<sizeLine/\H'=upd H a (.dT (cW kvs k v)))\/
 ∃ kvs k b,H a=some (.dP kvs)/\y=.ref b/\(∃ c,H b=some (.tup [.ref c,kV k.2])/\H c=some (.tup (k.1.map kV)))/\kvs.length<sizeLine/\H'=upd H a (.dP (cW kvs k v))
theorem DGet.k {H:Hp} {a:Addr} {kvs:List (Key×V)} {k:Key} (e:H a=some (.dK kvs)):DGet H a (kV k) (cz kvs k):=.inl ⟨kvs,k,.inl e,rfl,rfl⟩
theorem DGet.t {H:Hp} {a b:Addr} {kvs:List (List Key×V)} {k:List Key} (e:H a=some (.dT kvs)) (eb:H b=some (.tup (k.map kV))):DGet H a (.ref b) (cz kvs k):=.inr (.inl ⟨kvs,k,b,.inl e,rfl,eb,rfl⟩)
theorem DPut.k {H:Hp} {a:Addr} {kvs:List (Key×V)} {k:Key} {v:V} (e:H a=some (.dK kvs)) (hl:kvs.length<sizeLine):DPut H a (kV k) v (upd H a (.dK (cW kvs k v))):=.inl ⟨kvs,k,e,rfl,hl,rfl⟩
theorem DPut.t {H:Hp} {a b:Addr} {kvs:List (List Key×V)} {k:List Key} {v:V} (e:H a=some (.dT kvs)) (eb:H b=some (.tup (k.map kV))) (hl:kvs.length<sizeLine):
  DPut H a (.ref b) v (upd H a (.dT (cW kvs k v))):=.inr (.inl ⟨kvs,k,b,e,rfl,eb,hl,rfl⟩)
section
variable {X:Cx} {pins:List (Addr×Obj)} {Z:St} {H:Hp} {s:Shared} {a:Addr} {y v:V} {u r:Value} {o:Option V} {A:Around} {E:Value->Shared->Prop}
theorem Inv.big (I:Inv X pins Z H s):sysModules<s.heap.objs.size:=by
 have h:mainGlobals<s.heap.objs.size:=(I.mod.glob.keeps I.bk).lt
 exact Nat.lt_trans (by decide) h
theorem qI {Q:Value->Shared->Prop} (hu:A.units+16<cLine) (I:Inv X pins Z H s) (g:DGet H a y (some v)) (ry:RelV y u) (h: ∀ w' s',Inv X pins Z H s'->RelV v w'->Q w' s'):
  wpAny (model X.prog X.w) A (getItem (.ref a) u) Q E s:=by
 rcases g with ⟨kvs,k,e,ey,l⟩ | ⟨kvs,k,b,e,ey,eb,l⟩ | ⟨kvs,k,b,e,ey,eb,l⟩
 ·subst ey
  obtain ⟨z,hd,vs,rel,dd⟩:=ug I.hok e
  obtain ⟨w',hw,rw'⟩:=RelO.some_of (v:=v) (o:=valueAt vs k) (by rw [l];exact rel.val k)
  exact wpAny_getItem_of (jK ry) dd.mapOf hw (h w' _ (I.tok _) rw')
 ·subst ey
  cases (show u=Value.ref b from ry)
  obtain ⟨z,hd,xs,rel,dd⟩:=ua I.hok e
  obtain ⟨w',hw,rw'⟩:=RelO.some_of (v:=v) (o:=(atKey xs k).map (·.2)) (by rw [l];exact rel.val k)
  obtain ⟨p,hp,hp2⟩:=Option.map_eq_some_iff.mp hw
  refine wpAny_getItem_heap (tupleKind_room_in1 (by omega)) (lu I.hok eb) dd hp ?_
  rw [hp2]
  exact h w' _ (I.tok _) rw'
 ·subst ey
  cases (show u=Value.ref b from ry)
  obtain ⟨z,hd,xs,rel,dd⟩:=uf I.hok e
  obtain ⟨w',hw,rw'⟩:=RelO.some_of (v:=v) (o:=(atKey xs k).map (·.2)) (by rw [l];exact rel.val k)
  obtain ⟨p,hp,hp2⟩:=Option.map_eq_some_iff.mp hw
  refine wpAny_getItem_heap (show _+8<cLine by show A.units+1+8<cLine;omega) (lx I.hok eb) dd hp ?_
  rw [hp2]
  exact h w' _ (I.tok _) rw'
theorem iz {h':Heap} {t':Nat} {ob:HO} (I:Inv X pins Z H s) (mu:Mut (H a)) (hs:Heap.SameBut a s.heap h') (he: ∃ q,h'.get? a=some q) (new:ObjOk X.prog X.w (upd H a ob) h' a ob):
  Inv X pins Z (upd H a ob) {s with heap:=h',toks:=t'}:=
 I.write (x:=a) (e:=a) mu (.inl rfl) (fun b q hb z=>(hs.2 b hb).trans z) he new
theorem wC {P:Program} {w:World} {H':Hp} {h':Heap} {kvs:List (Key×V)} {vs:List (Key×Value)} (z:kvs.length<=sizeLine) (hd:(a==sysModules)=false) (rel:KV kvs vs) (dd:h'.DictOf (a9 P w) a vs):
  ObjOk P w H' h' a (.dK kvs):=⟨z,hd,vs,rel,dd⟩
theorem qH {H':Hp} {Q:Unit->Shared->Prop} (hu:A.units+16<cLine) (I:Inv X pins Z H s) (g:DPut H a y v H') (ry:RelV y u) (rv:RelV v r) (h: ∀ s',Inv X pins Z H' s'->Q () s'):
  wpAny (model X.prog X.w) A (setItem (.ref a) u r) Q E s:=by
 rcases g with ⟨kvs,k,e,ey,l,eH⟩ | ⟨kvs,k,b,e,ey,eb,l,eH⟩ | ⟨kvs,k,b,e,ey,eb,l,eH⟩
 ·subst ey eH
  obtain ⟨z,hd,vs,rel,dd⟩:=xC I.hok e
  have hz:vs.length<=sizeLine:=by rw [<- rel.length];exact z
  have hl:(cW kvs k v).length<=sizeLine:=by have:=cx kvs k v;omega
  refine wpAny_setItem_pairs (hsz:=hz) (jK ry) dd fun h' dd' hs=>h _ ?_
  have he: ∃ q,h'.get? a=some q:=let ⟨q,_,_,hq,_⟩:=dd';⟨q,hq⟩
  exact iz I (by rw [e];exact True.intro) hs he (wC hl hd (rel.put k rv) dd')
 ·subst ey eH
  cases (show u=Value.ref b from ry)
  obtain ⟨z,hd,xs,rel,dd⟩:=xA I.hok e
  have hz:xs.length<=sizeLine:=by rw [<- Paired.length rel];exact z
  have hl:(cW kvs k v).length<=sizeLine:=by have:=cx kvs k v;omega
  refine wpAny_setItem_heap (hsz:=hz) (tupleKind_room_in1 (by omega)) (lu I.hok eb) dd fun h' dd' hs=>h _ ?_
  obtain ⟨q,es,ep,hq,h2,h3,h4,_,h5⟩:=dd'
  refine iz I (by rw [e];exact True.intro) hs ⟨q,hq⟩ ⟨hl,hd,_,(rel.put k eb rv).keeps fun c ys ec=>?_,q,es,ep,hq,h2,h3,h4,h5⟩
  rw [am (vB ec e (fun z=>nomatch z))]
  exact ec
 ·subst ey eH
  cases (show u=Value.ref b from ry)
  obtain ⟨z,hd,xs,rel,dd⟩:=xB I.hok e
  have hz:xs.length<=sizeLine:=by rw [<- Paired.length rel];exact z
  have hl:(cW kvs k v).length<=sizeLine:=by have:=cx kvs k v;omega
  refine wpAny_setItem_heap (hsz:=hz) (show _+8<cLine by show A.units+1+8<cLine;omega) (lx I.hok eb) dd fun h' dd' hs=>h _ ?_
  obtain ⟨q,es,ep,hq,h2,h3,h4,_,h5⟩:=dd'
  refine iz I (by rw [e];exact True.intro) hs ⟨q,hq⟩ ⟨hl,hd,_,(rel.put k eb rv).keeps fun c ys ec=>?_,q,es,ep,hq,h2,h3,h4,h5⟩
  rw [am (vB ec e (fun z=>nomatch z))]
  exact ec
end
noncomputable def wJ (i:Expr):Prop:= ∀ ov iv,subscripted i false ov iv=operate [ov,iv] (getItem ov iv)
theorem oQ {prog:Program} {w:World} {A:Around} {E:Value->Shared->Prop} {s:Shared} {env:Env} {value slice:Expr} {pos:Pos} {T id:String} {Q:Value->Shared->Prop}
  (hl:typeLookup (.type T) "__getitem__"=pure (some (.builtin id))) (hs:wJ slice)
  (h:wpAny (model prog w) A (eval value env) (fun o s₁=>wpAny (model prog w) A (eval slice env) (fun i s₂=>s₂.TypeIs o T/\wpAny (model prog w) A (getItem o i) Q E s₂) E s₁) E s):
  wpAny (model prog w) A (eval (.Subscript value slice pos) env) Q E s:=by
 refine Subscript_ (wpAny_mono h (fun o s₁ h₁=>wpAny_mono h₁ (fun i s₂ h₂=>?_) fun _ _ x=>x) fun _ _ x=>x)
 obtain ⟨hT,h₂⟩:=h₂
 unfold subscriptTail
 refine wpAny_bind ?_
 rw [getitemInPython_of_ne hT.not_modules]
 refine wpAny_bind (wpAny_specialOf hT hl ?_)
 have fin:wpAny (model prog w) A (subscripted slice false o i) (fun r s₃=>wpAny (model prog w) A (letTemporaryGo value o r >>= fun _=>pure r) Q E s₃) E s₂:=by
  rw [hs o i]
  exact wpAny_operating (wpAny_mono h₂ (fun r s₃ h₃=>wpAny_bind (wpAny_letTemporaryGo (wpAny_pure h₃))) fun _ _ x=>x)
 first
  | exact wpAny_pure (wpAny_bind fin)
  | exact wpAny_bind (wpAny_pure (wpAny_bind fin))
  | exact wpAny_bind fin
theorem nu {X:Cx} {pins:List (Addr×Obj)} {Z:St} {H:Hp} {s:Shared} {a:Addr} {y:V} {o:Option V} (I:Inv X pins Z H s) (g:DGet H a y o):s.TypeIs (.ref a) "dict":=by
 rcases g with ⟨kvs,k,e,_,_⟩ | ⟨kvs,k,b,e,_,_,_⟩ | ⟨kvs,k,b,e,_,_,_⟩
 ·obtain ⟨_,_,vs,_,dd⟩:=ug I.hok e
  exact dd.typeIs
 ·obtain ⟨_,_,xs,_,dd⟩:=ua I.hok e
  exact dd.typeIs
 ·obtain ⟨_,_,xs,_,dd⟩:=uf I.hok e
  exact dd.typeIs
noncomputable def wW (td ty:TE):TE:=fun Z H Q=>td Z H fun x H1=>ty Z H1 fun y H2=> ∃ a v,x=.ref a/\DGet H2 a y (some v)/\Q v H2
noncomputable def xa (td ty tv:TE):TS:=fun D Z H=>tv Z H fun v H1=>td Z H1 fun x H2=>ty Z H2 fun y H3=> ∃ a H4,x=.ref a/\DPut H3 a y v H4/\D.nx Z H4
section
variable {X:Cx} {o i e value:Expr} {pos pos' tpos:Pos} {td ty tv:TE}
theorem gk (hu:X.A.units+16<cLine) (ho:PE X o td) (hi:PE X i ty) (hs:wJ i):PE X (.Subscript o i pos) (wW td ty):=by
 intro pins s Z H Q I h
 refine oQ PySem.F.slot_dict_getitem.lookup hs (thn (ho pins s Z H _ I h) fun u s1 ⟨x,H1,I1,rx,q1⟩=>thn (hi pins s1 Z H1 _ I1 q1) fun iv s2 ⟨y,H2,I2,ry,a,v,ex,g,q2⟩=>?_)
 subst ex
 obtain rfl:u=Value.ref a:=rx
 exact ⟨nu I2 g,qI hu I2 g ry fun w' s3 I3 rw'=>⟨v,H2,I3,rw',q2⟩⟩
theorem gi (hu:X.A.units+16<cLine) (ho:PE X o td) (hi:PE X i ty) (hv:PE X value tv) (hs:swapsWith value (some (.Subscript o i pos')) pos.line X.env=pure false):
  PS X (.Assign [.Subscript o i pos'] value pos) (xa td ty tv):=by
 intro pins s Z H D I h
 refine wpAny_Assign_Subscript (thn (hv pins s Z H _ I h) fun r s1 ⟨v,H1,I1,rv,q1⟩=>thn (ho pins s1 Z H1 _ I1 q1) fun u s2 ⟨x,H2,I2,rx,q2⟩=>thn (hi pins s2 Z H2 _ I2 q2) fun iv s3 ⟨y,H3,I3,ry,a,H4,ex,g,q3⟩=>?_) hs
 subst ex
 obtain rfl:u=Value.ref a:=rx
 exact qH hu I3 g ry rv fun s4 I4=>⟨Z,H4,I4,q3⟩
end
theorem uh {P:Program} {w:World} {H:Hp} (h:Heap) (hb:sysModules<h.objs.size):ObjOk P w H (h.push {cls:=.type "dict",data:=.dict #[]}) h.objs.size (.dK []):=
 ⟨Nat.zero_le _,beq_eq_false_iff_ne.mpr (Ne.symm (Nat.ne_of_lt hb)),[],.nil,Heap.DictOf.new h⟩
theorem ud {P:Program} {w:World} {H:Hp} (h:Heap) (hb:sysModules<h.objs.size):ObjOk P w H (h.push {cls:=.type "dict",data:=.dict #[]}) h.objs.size (.dT []):=
 ⟨Nat.zero_le _,beq_eq_false_iff_ne.mpr (Ne.symm (Nat.ne_of_lt hb)),[],.nil,_,#[],0,Heap.get?_push_size _ rfl,⟨rfl,rfl,rfl⟩,rfl,rfl,List.nodup_nil⟩
noncomputable def vO:TE:=fun _ H Q=> ∀ p,H p=none->Q (.ref p) (upd H p (.dK []))
noncomputable def vN:TE:=fun _ H Q=> ∀ p,H p=none->Q (.ref p) (upd H p (.dT []))
section
variable {X:Cx} {pos:Pos}
theorem mh:PE X (.Dict [] [] pos) vO:=fun pins s Z H Q I h=>
 wpAny_Dict_empty ⟨.ref s.heap.objs.size,_,I.laid (a:=s.heap.objs.size) (o:=.dK []) (t':=s.toks) (fun _ _ q=>Heap.get?_push_of_some _ q) (Nat.le_refl _) (uh s.heap I.big),rfl,h _ (I.hok.fresh (Nat.le_refl _))⟩
theorem iW:PE X (.Dict [] [] pos) vN:=fun pins s Z H Q I h=>
 wpAny_Dict_empty ⟨.ref s.heap.objs.size,_,I.laid (a:=s.heap.objs.size) (o:=.dT []) (t':=s.toks) (fun _ _ q=>Heap.get?_push_of_some _ q) (Nat.le_refl _) (ud s.heap I.big),rfl,h _ (I.hok.fresh (Nat.le_refl _))⟩
end
end L2
namespace Att
open PySem PySem.W PySem.Calls PyProof.Rows
theorem ip {P:Params} {h:Heap}: ∀ (ns:List Int) (vs:List Value),WellAll P h vs (ns.map WData.int)->IntsAre vs ns:=by
 intro ns
 induction ns with
 | nil=>
  intro vs w
  rw [List.map_nil]at w
  cases w
  exact .nil
 | cons n ns ih=>
  intro vs w
  rw [List.map_cons]at w
  cases w with
  | cons a b=>
   cases a
   exact .cons _ _ (ih _ b)
theorem pR {l:OpenLaw} {n:Nat} (hn:l.most=some n) {P:Params} {h:Heap} {args:List WData} {vals:List Value}
  (hpre:l.row.toRowW.claim.pre args=true) (hwl:WellAll P h vals args):
  ∃ a vs ns,vals=[Value.ref a]/\args=[WData.list (ns.map WData.int)]/\h.get? a=some {cls:=.type "list",data:=.seq vs.toArray}/\IntsAre vs ns/\ns.length<=n:=by
 have hsh:WShape.hasAll [] args [.list .int]=true:=(pre_splitW hpre).1
 have hc:l.pre.holds [] {args:=args}=true:=(pre_splitW hpre).2
 obtain ⟨d,r,rfl,h1,h2⟩:=hasAllW_cons hsh
 obtain rfl:=hasAllW_nil h2
 obtain ⟨xs,rfl,h3⟩:=hasW_list h1
 obtain ⟨ns,rfl⟩:=items_int h3
 have hlen:ns.length<=n:=by
  unfold OpenLaw.pre at hc
  have h4:(WTm.not (.lt (.lit (.int (n:Int))) (.len (.arg 0)))).holds [] {args:=[.list (ns.map .int)]}=true:=by
   have h4:=(holds_andW hc).1
   rw [hn]at h4
   exact h4
  have h5:=condW_of h4 (w_not (w_lt w_lit (w_len_list (w_arg rfl))))
  rw [List.length_map]at h5
  refine Nat.le_of_not_lt fun q=>?_
  have q':(n:Int) < ((ns.length:Nat):Int):=by omega
  first
   | (rw [decide_eq_true q']at h5;exact absurd h5 (by decide))
   | (simp at h5;omega)
 cases hwl with
 | cons w1 w2=>
  cases w2
  cases w1 with
  | list ho hall=>exact ⟨_,_,ns,rfl,rfl,ho,ip ns _ hall,hlen⟩
theorem qa (l:OpenLaw) (args:List WData):l.row.toRowW.claim.post args (.bool true) args=true:=
 postW_of (r:=l.row.toRowW) (X:=(true==true))
  (show WShape.has [] (.bool true) .bool=true by first | rfl | decide | simp [WShape.has,WShape.arms,WShape.armsAll])
  (show (WTm.eq .res (.lit (.bool true))).value [] {args:=args,res:=some (.bool true),after:=args}=some (.bool (true==true))from w_eq_bool (w_res rfl) w_lit) rfl
theorem attach_call {l:OpenLaw} {n:Nat} {q:Program} {loose:List Str} {XP:(Str->Option Value)->Heap->Prop} {YP:World->Heap->Prop} {d:DefRec}
  (hn:l.most=some n) (hdf:d.params.defaults=[])
  (call: ∀ (w:World) (s₀ s₁:Shared) (mg mb:Str->Option Value) (fa:Addr) (o:Obj) (pm cd doc:Value) (a:Addr) (vs:List Value) (ns:List Int),
   Ground q loose [] XP w s₀ mg mb s₁.heap->YP w s₁.heap->
   s₁.heap.get? fa=some o->o.data=.func (docDef d.name d.params d.body d.scope pm cd doc)->s₁.heap.CodeRec cd d.name->mg d.name=some (.ref fa)->
   s₁.heap.get? a=some {cls:=.type "list",data:=.seq vs.toArray}->IntsAre vs ns->ns.length<=n->s₁.gens= #[]->
   codeAny (model l.prog w) callerA (.call (.ref fa) ⟨[.ref a],[]⟩) (fun r s'=>r=.ok (.ret (.bool true))/\OldK s₁.heap s'.heap/\s'.os=s₁.os/\AllBare s'.gens) s₁):
  WalkO q loose XP YP l.row.toRowW d [] (fun f vs=>PySem.call f vs):=by
 intro w s₀ s₁ mg mb G Y fa o pm cd doc dV kV ho hd hcd hD hmg hg args vals as hpre hlay hrd hwl hlo
 obtain rfl:dV=.none:=Dflts.none hD hdf
 obtain rfl:kV=.none:=Dflts.noKw hD
 obtain ⟨a,vs,ns,rfl,rfl,hobj,hints,hlen⟩:=pR hn hpre hwl
 refine enter_call (codeAny_mono (call w s₀ s₁ mg mb fa o pm cd doc a vs ns G Y ho (fd_plain hd) hcd hmg hobj hints hlen hg) fun r s' hq=>?_)
 obtain ⟨rfl,h2,h3,h4⟩:=hq
 exact ⟨.inl ⟨.bool true,.bool true,[],rfl,fun _=>rfl,.bool true,qa l _,fun _=>⟨List.Pairwise.nil,fun _ hm=>(nomatch hm)⟩⟩,h2,h3,h4⟩
end Att
namespace L2
open PySem PySem.Spec PyProof.Rows
theorem ju: ∀ {vs:List Value} {ns:List Int},IntsAre vs ns->Vals (ns.map V.int) vs
 | _,_,.nil=>.nil
 | _,_,.cons n t h=>.cons ⟨t,rfl⟩ (ju h)
noncomputable def wI (H:Hp):Prop:= ∀ b,H b=none\/ ∃ o xs,H b=some (.frz o (.lst xs))
theorem tG {P:Program} {w:World} {K:PySem.W.Frag} {mg mb:Str->Option Value} {CX:CXT} {k:Nat} {fa a:Addr} {fd:FuncData} {x:Str} {sp:Sp} {s₁:Shared} {vs:List Value} {ns:List Int}
  (KX:K.In s₁.heap) (hns:s₁.heap.Ns mainGlobals mg) (hb:s₁.heap.Ns builtinsNs mb) (hbb: ∀ x:Str,x≠"__name__"->mb x=bootBuiltins x) (hlim:s₁.heap.NoLimit) (hg:s₁.gens= #[])
  (ha:s₁.heap.get? a=some {cls:=.type "list",data:=.seq vs.toArray}) (hi:IntsAre vs ns) (hl:ns.length<=sizeLine) (hr:Room k callerA)
  (F: ∀ base:Heap,K.In base->base.Ns mainGlobals mg->FnOk P w K mg base CX k fa fd [x] sp) (hbind: ∀ (s:Shared) (u:Value),BindsTo s fd ⟨[u],[]⟩ [(x,u)])
  (hsp: ∀ H:Hp,wI H->SqL K H a (ns.map V.int)->sp [.ref a] H (fun v _=>v=.bl true) fun _ _ _=>False)
  (hCX: ∀ H e s',CX [] H s₁ (fun _ _ _=>False) e s'->False):
  codeAny (model P w) callerA (.call (.ref fa) ⟨[.ref a],[]⟩) (fun r s'=>r=.ok (.ret (.bool true))/\OldK s₁.heap s'.heap/\s'.os=s₁.os/\AllBare s'.gens) s₁:=by
 have rv:=ju hi
 have lenV:=hi.length
 have core: ∀ H:Hp,wI H->SqL K H a (ns.map V.int)->HOk P w H s₁.heap->(∀ b,H b≠none->b=a)->(H a≠none->K.lookup a=none)->
   codeAny (model P w) callerA (.call (.ref fa) ⟨[.ref a],[]⟩) (fun r s'=>r=.ok (.ret (.bool true))/\OldK s₁.heap s'.heap/\s'.os=s₁.os/\AllBare s'.gens) s₁:=by
  intro H hO hS hok hA hK
  have base_of: ∀ {b:Addr} {o:Obj},s₁.heap.get? b=some o->H b=none->(lA s₁.heap H).get? b=some o:=fun e n=>tU e n
  have noA: ∀ {b:Addr} {o:Obj} {es:Array DictEntry} {ep:Nat},s₁.heap.get? b=some o->o.data=.dict es ep->H b=none:=fun {b o es ep} e d=>by
   cases q:H b with
   | none=>rfl
   | some u=>
    have e':b=a:=hA b (by rw [q];simp)
    subst e'
    rw [ha]at e;cases e
    have d':Data.seq vs.toArray _=Data.dict es ep:=d
    cases d'
  have nsK: ∀ {b:Addr} {m:Str->Option Value},s₁.heap.Ns b m->(lA s₁.heap H).Ns b m:=fun {b m} ⟨o,es,ep,e,d,r⟩=>⟨o,es,ep,base_of e (noA e d),d,r⟩
  have hKb:K.In (lA s₁.heap H):=fun b o e=>base_of (KX b o e) (by
   cases q:H b with
   | none=>rfl
   | some u=>
    have e':b=a:=hA b (by rw [q];simp)
    subst e'
    rw [hK (by rw [q];simp)]at e;cases e)
  have hM:Mod K mg (lA s₁.heap H):=⟨hKb,nsK hns,⟨mb,nsK hb,hbb⟩,let ⟨mc,h1,h2⟩:=hlim;⟨mc,nsK h1,h2⟩⟩
  have e0:vx P w K mg (lA s₁.heap H) callerA [] s₁ H:=⟨rfl,hM,fun b o e=>u0 e,Nat.le_of_eq (qE _ _),trivial,fun b hb=>absurd (show b∈([]:List Addr)from hb) (by simp),hok,.of_eq hg⟩
  refine codeAny_mono ((F _ hKb (nsK hns)).run callerA [] s₁ H ⟨[.ref a],[]⟩ [.ref a] [.ref a] _ _ hr e0 (hbind s₁ (.ref a)) (.cons rfl .nil) (hsp H hO hS)) fun r s' h=>?_
  cases r with
  | error e=>exact (hCX H e s' h).elim
  | ok fl=>
   cases fl with
   | next=>exact False.elim h
   | brk=>exact False.elim h
   | cont=>exact False.elim h
   | ret u=>
    obtain ⟨v,H',os,bare,un,hok',r',q⟩:=h
    have q':v=.bl true:=q
    subst q'
    obtain rfl:u=Value.bool true:=r'
    refine ⟨rfl,OldK.of_keep fun b o e=>?_,os,bare⟩
    cases q:H b with
    | none=>exact un.keep b o e q (by intro z;exact absurd (show b∈([]:List Addr)from z) (by simp)) (by simp)
    | some u=>
     rcases hO b with z | ⟨ob,xs,z⟩
     ·rw [q]at z;cases z
     ·have z2:=un.frzs b ob _ z
      obtain ⟨e1,_⟩:=hok b _ z
      obtain ⟨e2,_⟩:=hok' b _ z2
      rw [e]at e1;cases e1
      exact e2
 cases hk:K.lookup a with
 | some o=>
  have e:=KX a o hk
  rw [ha]at e
  cases e
  refine core (fun _=>none) (fun _=>.inl rfl) (.inr ⟨_,vs.toArray,_,hk,rfl,rfl,rfl,by rw [List.size_toArray,lenV];exact hl,by simpa using rv⟩) (fun b u z=>by have z':(none:Option HO)=some u:=z;cases z') (fun b z=>absurd rfl z) fun z=>absurd rfl z
 | none=>
  refine core (fun b=>if b=a then some (.frz {cls:=.type "list",data:=.seq vs.toArray} (.lst (ns.map V.int)))else none) (fun b=>?_) (.inl (.inr ⟨{cls:=.type "list",data:=.seq vs.toArray},if_pos rfl⟩)) (fun b u z=>?_) (fun b z=>?_) fun _=>hk
  ·by_cases hb:b=a
   ·exact .inr ⟨_,_,if_pos hb⟩
   ·exact .inl (if_neg hb)
  ·by_cases hb:b=a
   ·have z':=(if_pos hb).symm.trans z
    cases z'
    subst hb
    exact ⟨ha,by rw [List.length_map];exact hl,vs,_,rv,ha⟩
   ·have z':=(if_neg hb).symm.trans z
    cases z'
  ·by_cases hb:b=a
   ·exact hb
   ·exact absurd (if_neg hb) z
theorem walk_of {l:PySem.W.OpenLaw} {n k:Nat} {q:Program} {loose:List Str} {XP:(Str->Option Value)->Heap->Prop} {YP:World->Heap->Prop} {d:DefRec} {K:Params->PySem.W.Frag} {CX:World->CXT} {sp:World->Sp} {x:Str}
  (hn:l.most=some n) (hn2:n<=sizeLine) (hdf:d.params.defaults=[]) (hr:Room k callerA)
  (hY: ∀ (w:World) (h:Heap),YP w h->(K w.params).In h)
  (F: ∀ (w:World) (mg:Str->Option Value) (fa:Addr) (h:Heap),(K w.params).In h->h.Ns mainGlobals mg->mg d.name=some (.ref fa)->
   ∃ fd:FuncData,(∀ (s:Shared) (u:Value),BindsTo s fd ⟨[u],[]⟩ [(x,u)])/\
    ∀ base:Heap,(K w.params).In base->base.Ns mainGlobals mg->FnOk l.prog w (K w.params) mg base (CX w) k fa fd [x] (sp w))
  (hsp: ∀ (w:World) (H:Hp) (a:Addr) (ns:List Int),ns.length<=n->wI H->SqL (K w.params) H a (ns.map V.int)->sp w [.ref a] H (fun v _=>v=.bl true) fun _ _ _=>False)
  (hCX: ∀ (w:World) (H:Hp) (s:Shared) (e:Value) (s':Shared),CX w [] H s (fun _ _ _=>False) e s'->False):
  PySem.W.WalkO q loose XP YP l.row.toRowW d [] (fun f vs=>PySem.call f vs):=by
 refine Att.attach_call hn hdf fun w s₀ s₁ mg mb fa o pm cd doc a vs ns G Y ho hd hcd hmg hobj hints hlen hg=>?_
 have KX:=hY w _ Y
 obtain ⟨fd,hb,hF⟩:=F w mg fa _ KX G.T.g hmg
 exact tG KX G.T.g G.T.b G.T.builtins G.T.nolimit hg hobj hints (Nat.le_trans hlen hn2) hr hF hb (fun H hO hS=>hsp w H a ns hlen hO hS) fun H e s'=>hCX w H s₁ e s'
noncomputable def gB (s:Stmt):Arguments:=match s with
 | .FunctionDef _ a _ _ _ _ _ _ _ _=>a
 | _=>{posonlyargs:=[],args:=[],vararg:=none,kwonlyargs:=[],kw_defaults:=[],kwarg:=none,defaults:=[]}
noncomputable def cH (s:Stmt):List Stmt:=match s with
 | .FunctionDef _ _ b _ _ _ _ _ _ _=>b
 | _=>[]
noncomputable def ag (s:Stmt):Scope:=match s with
 | .FunctionDef _ _ _ _ _ _ sc _ _ _=>sc
 | _=>{kind:=.function,names:=[],isGenerator:=false,isCoroutine:=false}
noncomputable abbrev CX0:CXT:=fun _ _ _ _ _ _=>False
noncomputable abbrev E0:XK:=fun _ _ _=>False
theorem al {X:Cx}:oN CX0 X E0:=fun _ _ _ _ _ _ _ h=>h.elim
structure Fun (K:PySem.W.Frag) (x qual:Str) (st:Stmt) (f:Addr) (fd:FuncData):Prop where
 ex: ∃ (oc:Value) (od:Option Addr) (kV doc pm:Value) (an:Option Addr) (cdv ct:Value) (osl:Array (Option Value)),
  fd=PySem.W.fnOf x qual (gB st) (cH st) (ag st) .none kV doc pm an cdv ct/\K.lookup f=some ⟨oc,od,.func fd,osl⟩/\PySem.W.codeIn K cdv qual=true
 kp:PySem.W.keepIn K (.ref f)=true
section
variable {P:Program} {w:World} {K:PySem.W.Frag} {mg:Str->Option Value} {base:Heap}
theorem Fun.ok {x qual:Str} {st:Stmt} {f:Addr} {fd:FuncData} {N ps:List Str} {k:Nat} {sp:Sp} (F:Fun K x qual st f fd) (S:au N ps (ag st)) (len: ∀ vs H Q E,sp vs H Q E->vs.length=ps.length)
  (hbody: ∀ (cdv:Value) (A:Around) (outer:List Env) (s:Shared) (H:Hp) (vs:List V) (Q:VK) (E:XK),Room k (A.deeper (envOfC qual (ag st) s.heap.objs.size f cdv))->sp vs H Q E->
   ∃ t,PSs (c7 CX0 P w K mg base N qual (ag st) f cdv A outer s H E).nox (cH st) t/\t {nx:=fun _ H'=>Q .non H',rt:=Q} (gZ N vs) H):FnOk P w K mg base CX0 (k+1) f fd ps sp:=by
 obtain ⟨oc,od,kV,doc,pm,an,cdv,ct,osl,rfl,lk,hcd⟩:=F.ex
 refine xz lk hcd S len fun A outer s H vs Q E hr hsp=>?_
 obtain ⟨t,h,q⟩:=hbody cdv A outer s H vs Q E hr hsp
 exact ⟨t,h.nox,q⟩
theorem Fun.binds {x qual:Str} {st:Stmt} {f:Addr} {fd:FuncData} {ps:List Str} (F:Fun K x qual st f fd)
  (h: ∀ (kV doc pm:Value) (an:Option Addr) (cdv ct:Value) (us:List Value),us.length=ps.length->bindArgs (PySem.W.fnOf x qual (gB st) (cH st) (ag st) .none kV doc pm an cdv ct) ⟨us,[]⟩=pure (ps.zip us)):Binds K fd ps []:=by
 obtain ⟨oc,od,kV,doc,pm,an,cdv,ct,osl,rfl,lk,hcd⟩:=F.ex
 exact .all (h kV doc pm an cdv ct)
end
theorem jg {A:Around} {k:Nat} (hr:Room k A):A.units+16<cLine:=Nat.lt_of_le_of_lt (Nat.add_le_add_left (by decide:16<=64) _) hr.units
theorem aA {n:Nat} (h:n<=1000):n<sizeLine:=Nat.lt_of_le_of_lt h (by decide)
section
variable {X:Cx}
theorem pv (i:Nat) {x:Str} {pos:Pos} (hN:X.N[i]? =some x:=by rfl) (hv:Vis X.env.scope x:=by first | exact Or.inl rfl | exact Or.inr (Or.inl rfl) | exact Or.inr (Or.inr rfl)) (hd:(x==("__debug__":Str))=false:=by decide)
  (hcd:(x==("__classdict__":Str))=false:=by decide):PE X (.Name x pos) (wO i):=v8 hN hv hd hcd
end
theorem aX {A B:Prop} (h:B):if false=true then A else B:=by
 rw [if_neg Bool.false_ne_true]
 exact h
theorem cX {A B:Prop} (h:A):if true=true then A else B:=by
 rw [if_pos rfl]
 exact h
theorem bx {c A B:Prop} [Decidable c] (h1:c->A) (h2: ¬ c->B):if c then A else B:=by
 by_cases h:c
 ·rw [if_pos h]
  exact h1 h
 ·rw [if_neg h]
  exact h2 h
noncomputable def Same (H H':Hp):Prop:= ∀ b o,H b=some o->H' b=some o
theorem Same.refl (H:Hp):Same H H:=fun _ _ h=>h
theorem Same.trans {H H1 H2:Hp} (a:Same H H1) (b:Same H1 H2):Same H H2:=fun c o h=>b c o (a c o h)
theorem Same.free {H H':Hp} (e:Same H H') {l:Addr} (h:H' l=Option.none):H l=Option.none:=by
 cases q:H l with
 | none=>rfl
 | some o=>
  rw [e l o q]at h
  cases h
theorem Same.seq {K:PySem.W.Frag} {H H':Hp} {a:Addr} {xs:List V} (e:Same H H') (h:SqL K H a xs):SqL K H' a xs:=by
 rcases h with (h | ⟨o,h⟩) | h
 ·exact .inl (.inl (e _ _ h))
 ·exact .inl (.inr ⟨o,e _ _ h⟩)
 ·exact .inr h
section
variable {X:Cx}
theorem uk:dJ X (.builtin "isinstance") (fun xs H Q=> ∃ x T t b,xs=[x,.ty T]/\gG X.K H x t/\PySem.W.kitOne X.K t (.type T)=some b/\Q (.bl b) H):=by
 intro pins s Z H xs us Q I r h
 obtain ⟨x,T,t,b,rfl,ty,e,q⟩:=h
 obtain ⟨u,w',rfl,ru,rw'⟩:=jv r
 cases (show w'=Value.type T from rw')
 exact qC I ru ty e fun tk=>⟨.bl b,H,I.tok tk,rfl,q⟩
theorem jG:OpR X (compareOp .LtE) (fun x y H Q=> ∃ i j,x=.str i/\y=.str j/\Q (.bl (!decide (j.cps.toList<i.cps.toList))) H):=by
 intro pins s Z H x y v u Q I rx ry h
 obtain ⟨i,j,rfl,rfl,q⟩:=h
 obtain ⟨t,rfl⟩:=rx
 obtain ⟨t',rfl⟩:=ry
 exact PySem.P.le_str (aZ I q rfl)
end
noncomputable def Itw (n:Nat) (R:Nat->V->Prop):It:=⟨fun i _=>i<n,fun i H x H'=>H'=H/\R i x,fun i _=>i=n⟩
theorem nF {P:Program} {w:World} {K:PySem.W.Frag} {tg:Expr} (it:Addr) (n:Nat) (Pv:Nat->Value->Prop) (tn:Nat->Heap->Prop) (R:Nat->V->Prop)
  (hW: ∀ A:Around,A.handled=none->Walks P w A it [it] [it] n Pv tn)
  (hobj: ∀ i h,tn i h-> ∃ (o:Obj) (nm:String) (vs:Array Value),h.get? it=some o/\o.cls=.type nm/\o.data=.fields vs/\
   ["enumerate","zip","dict_itemiterator","dict_reverseitemiterator","odict_iterator","itertools.zip_longest","itertools.pairwise"].contains nm=false)
  (hP: ∀ i v,Pv i v-> ∃ x,RelV x v/\R i x)
  (hself: ∀ (A:Around) (i:Nat) (s:Shared) (Q:Value->Shared->Prop) (E:Value->Shared->Prop),tn i s.heap->Q (.ref it) s->wpAny (model P w) A (pyIter (.ref it)) Q E s):nB P w K tg (Itw n R) [it] it tn where
 mem:=by simp
 obj:=fun i h st b hb=>by
  have e:b=it:=by simpa using hb
  subst e
  obtain ⟨o,nm,vs,e,_,d,_⟩:=hobj i h st
  exact ⟨o,e,fun v z=>by rw [d]at z;cases z⟩
 keep:=fun i h h' st k=>(hW callerA rfl).frame i h h' st fun b hb o e=>k b hb o e
 item:=by
  intro X hP' hw hK hc i pins s Z H E I hf st hg
  subst hP' hw hK
  obtain ⟨f0,f1,f2,f3,f4,f5⟩:=hf it (by simp)
  refine (hW X.A (I.ok.hd hc)).item i s _ _ hg st fun v h' tk hv st' kk=>?_
  obtain ⟨x,rx,qx⟩:=hP i v hv
  have I1:Inv X pins Z H {s with heap:=h',toks:=tk}:=I.turned (fun b o hb e=>kk b o (by simpa using hb) e) f0 f1 f3 f4 f5
  obtain ⟨o,nm,vs,e,c,d,ne⟩:=hobj _ _ st'
  exact ⟨v,rfl,nn (s:={s with heap:=h',toks:=tk}) e c d ne ⟨x,H,I1,rx,⟨rfl,qx⟩,st',fun b hb=>(hf b hb).1⟩⟩
 done:=by
  intro X hP' hw hK hc i pins s Z H E I hf st hg
  subst hP' hw hK
  obtain ⟨f0,f1,f2,f3,f4,f5⟩:=hf it (by simp)
  have hg':i=n:=hg
  subst hg'
  exact (hW X.A (I.ok.hd hc)).done s _ _ st fun h' tk kk=>⟨rfl,I.turned (t':=tk) (fun b o hb e=>kk b o (by simpa using hb) e) f0 f1 f3 f4 f5⟩
 self:=hself
section
variable {X:Cx} {tg:Expr}
noncomputable def x6 (tl:TE):TI:=fun Z H R=>tl Z H fun x H1=> ∃ z,x=.str z/\R (Itw z.length fun i v=> ∃ c,z.cps[i]? =some c/\v=.str ⟨#[c]⟩) H1
theorem v6 {l:Expr} {tl:TE} (hl:PE X l tl):PI X tg l (x6 tl):=by
 intro pins s Z H R I h
 refine thn (hl pins s Z H _ I h) fun v s1 ⟨x,H1,I1,r1,z,ez,q⟩=>?_
 subst ez
 obtain ⟨t,rfl⟩:=r1
 have go: ∀ (T:String) (o:Obj),(∀ (A:Around) (i:Nat) (s:Shared) (Q:Value->Shared->Prop) (E:Value->Shared->Prop),s.heap.IsStrIter s1.heap.objs.size T z t i->Q (.ref s1.heap.objs.size) s->wpAny (model X.prog X.w) A (pyIter (.ref s1.heap.objs.size)) Q E s)->(∀ A:Around,A.handled=none->Walks X.prog X.w A s1.heap.objs.size [s1.heap.objs.size] [s1.heap.objs.size] z.cps.size (SignAt z) (fun i h=>h.IsStrIter s1.heap.objs.size T z t i))->
   ["enumerate","zip","dict_itemiterator","dict_reverseitemiterator","odict_iterator","itertools.zip_longest","itertools.pairwise"].contains T=false->
   (s1.heap.push o).IsStrIter s1.heap.objs.size T z t 0->PIE X pins Z tg R (.ref s1.heap.objs.size) {s1 with heap:=s1.heap.push o}:=by
  intro T o hS hW hT st
  refine ⟨s1.heap.objs.size,[s1.heap.objs.size],_,Itw z.length fun i v=> ∃ c,z.cps[i]? =some c/\v=.str ⟨#[c]⟩,H1,rfl,I1.kept (t':=s1.toks) fun b o e=>Heap.get?_push_of_some _ e,
   nF s1.heap.objs.size z.length (SignAt z) (fun i h=>h.IsStrIter s1.heap.objs.size T z t i) _ hW (fun i h st=>?_) (fun i v hv=>?_) hS,st,fun b hb=>?_,q⟩
  ·obtain ⟨o,e,c,d⟩:=st
   exact ⟨o,T,_,e,c,d,hT⟩
  ·obtain ⟨c,u,e,rfl⟩:=hv
   exact ⟨.str ⟨#[c]⟩,⟨u,rfl⟩,c,e,rfl⟩
  ·have e:b=s1.heap.objs.size:=by simpa using hb
   subst e
   exact I1.fpOk (Nat.le_refl _) I1.fresh
 cases ha:z.cps.all (· <128)
 ·exact wpAny_pyIter_wide ha (go "str_iterator" _ (fun _ _ _ _ _ st h=>wpAny_pyIter_striter_wide st h) (fun A hA=>Walks.strWide hA _ z t) (by decide) ⟨_,Heap.get?_push_size _ rfl,rfl,rfl⟩)
 ·exact wpAny_pyIter_ascii ha (go "str_ascii_iterator" _ (fun _ _ _ _ _ st h=>wpAny_pyIter_striter_ascii st h) (fun A hA=>Walks.strAscii hA _ z t) (by decide) ⟨_,Heap.get?_push_size _ rfl,rfl,rfl⟩)
end
section
variable {X:Cx} {e k:Expr} {te tk:TE} {pos p2:Pos}
theorem dN: ∀ (ix:List Nat) {xs:List V} {us:List Value},Vals xs us->Vals (ix.filterMap (xs[·]?)) (ix.filterMap (us[·]?))
 | [],_,_,_=>.nil
 | i::r,xs,us,h=>by
  rw [List.filterMap_cons,List.filterMap_cons]
  cases ex:xs[i]? with
  | none=>
   rw [h.none_of ex]
   exact dN r h
  | some x=>
   obtain ⟨u,eu,ru⟩:=h.get ex
   rw [eu]
   exact .cons ru (dN r h)
noncomputable def eM (n:Nat) (c:Int):List Nat:=sliceRange (sliceBounds none none (some c) n).1 (sliceBounds none none (some c) n).2.1 (sliceBounds none none (some c) n).2.2
noncomputable def gY (xs:List V) (c:Int):List V:=(eM xs.length c).filterMap (xs[·]?)
theorem nZ {α:Type} (xs:List α):(List.range xs.length).filterMap (xs[·]?)=xs:=by
 induction xs with
 | nil=>rfl
 | cons x r ih=>
  rw [List.length_cons,List.range_succ_eq_map,List.filterMap_cons,List.filterMap_map]
  show x::List.filterMap ((fun j=>(x::r)[j]?)∘Nat.succ) (List.range r.length)=x::r
  congr 1
theorem nK (n:Nat):eM n 1=List.range n:=by
 unfold eM sliceBounds sliceRange
 simp only [Option.getD_some,show (1:Int) >0 by decide,if_true]
 by_cases h:n=0
 ·subst h
  rfl
 ·rw [if_pos (by omega)]
  have e:(((n:Int) -0+1-1) /1).toNat=n:=by rw [Int.ediv_one];omega
  rw [e]
  conv=>rhs;rw [<- List.map_id (List.range n)]
  apply List.map_congr_left
  intro k hk
  show (0+1* (k:Int)).toNat=k
  omega
theorem pP (xs:List V):gY xs 1=xs:=by
 unfold gY
 rw [nK]
 exact nZ xs
theorem nL (n:Nat):eM n (-1)=(List.range n).map fun k=>n-1-k:=by
 unfold eM sliceBounds sliceRange
 simp only [Option.getD_some,show ¬ ((-1:Int) >0) by decide,if_false]
 by_cases h:n=0
 ·subst h
  rfl
 ·rw [if_pos (by omega)]
  have e:(((n:Int) -1- -1- -1-1) / (- -1)).toNat=n:=by
   rw [show (- -1:Int)=1 by decide,Int.ediv_one];omega
  rw [e]
  apply List.map_congr_left
  intro k hk
  have:=List.mem_range.mp hk
  show ((n:Int) -1+ -1* (k:Int)).toNat=n-1-k
  omega
theorem rev_pick {α:Type} (xs:List α):((List.range xs.length).map fun k=>xs.length-1-k).filterMap (xs[·]?)=xs.reverse:=by
 apply List.ext_getElem?
 intro i
 have hall:((List.range xs.length).map fun k=>xs.length-1-k).filterMap (xs[·]?)=(List.range xs.length).filterMap fun k=>xs[xs.length-1-k]? :=by
  rw [List.filterMap_map]
  rfl
 rw [hall]
 have hsome: ∀ (l:List Nat),(∀ k∈l,k<xs.length)-> ∀ j:Nat,(l.filterMap fun k=>xs[xs.length-1-k]?)[j]? =l[j]?.bind fun k=>xs[xs.length-1-k]? :=by
  intro l
  induction l with
  | nil=>intro _ j;rfl
  | cons a r ih=>
   intro hl j
   have ha:=hl a List.mem_cons_self
   have hx:xs[xs.length-1-a]? =some xs[xs.length-1-a]:=List.getElem?_eq_getElem (by omega)
   rw [List.filterMap_cons,hx]
   cases j with
   | zero=>simp [hx]
   | succ j=>
    rw [List.getElem?_cons_succ,List.getElem?_cons_succ]
    exact ih (fun k hk=>hl k (List.mem_cons_of_mem _ hk)) j
 rw [hsome _ (fun k hk=>List.mem_range.mp hk) i]
 by_cases hi:i<xs.length
 ·rw [List.getElem?_range hi,List.getElem?_reverse hi]
  rfl
 ·rw [List.getElem?_eq_none (by simpa using hi),List.getElem?_eq_none (by simpa using hi)]
  rfl
theorem pQ (xs:List V):gY xs (-1)=xs.reverse:=by
 unfold gY
 rw [nL]
 exact rev_pick xs
noncomputable def wP (K:PySem.W.Frag) (te tk:TE):TE:=fun Z H Q=>te Z H fun x H1=>tk Z H1 fun y H2=> ∃ a xs c,x=.ref a/\y=.int c/\SqL K H2 a xs/\c≠0/\ ∀ p,H2 p=none->Q (.ref p) (upd H2 p (.lst (gY xs c)))
theorem uL (he:PE X e te) (hk:PE X k tk):PE X (.Subscript e (.Slice none none (some k) p2) pos) (wP X.K te tk):=by
 intro pins s Z H Q I h
 refine Subscript_ (thn (he pins s Z H _ I h) fun v s1 ⟨x,H1,I1,r1,q1⟩=>?_)
 refine wpAny_Slice ?_
 rw [evalPart_none,evalPart_some]
 refine wpAny_pure (wpAny_pure ?_)
 refine thn (hk pins s1 Z H1 _ I1 q1) fun vk s3 ⟨y,H3,I3,ry,a,xs,c,ex,ey,hq,hc,q⟩=>?_
 subst ex ey
 obtain ⟨t,rfl⟩:=ry
 cases r1
 have I4:Inv X pins Z H3 {s3 with heap:=s3.heap.push {cls:=.type "slice",data:=.fields #[.none,.none,.int c t]}}:=I3.kept (t':=s3.toks) fun b ob q=>Heap.get?_push_of_some _ q
 obtain ⟨its,r,ht,hz⟩:=I4.list hq
 have hlen:=r.length
 have hpick:slicePick its.toArray none none (some c)=((eM xs.length c).filterMap (its[·]?)).toArray:=by
  unfold slicePick eM
  rw [List.size_toArray,hlen]
  simp
 have hle:(gY xs c).length<=sizeLine:=by
  have h1:=slicePick_size_le its.toArray none none (some c)
  rw [hpick,List.size_toArray,List.size_toArray]at h1
  have h2:=(dN (eM xs.length c) r).length
  unfold gY
  omega
 show wpAny (model X.prog X.w) X.A (subscriptTail e (.Slice none none (some k) p2) (.ref a) (.ref s3.heap.objs.size)) (EP X pins Z Q) X.xe {s3 with heap:=s3.heap.push {cls:=.type "slice",data:=.fields #[.none,.none,.int c t]}}
 refine tail_any (ops:=[.ref a,.ref s3.heap.objs.size]) ht.isList.typeIs slot_list_getitem.lookup (wpAny_getItem_list_slice ht.isList (Heap.IsSliceOf.new ..) .none .none (.int c t) (by simpa using hc) ?_ (by rw [List.size_toArray];omega)) (by with_unfolding_all rfl)
 rw [hpick]
 refine ⟨.ref (s3.heap.push {cls:=.type "slice",data:=.fields #[.none,.none,.int c t]}).objs.size,_,I4.laid (t':=s3.toks) (o:=.lst (gY xs c)) (fun b ob q=>Heap.get?_push_of_some _ q) (Nat.le_refl _) ?_,rfl,q _ I4.fresh⟩
 exact ⟨hle,_,0,dN _ r,Heap.get?_push_size _ rfl⟩
noncomputable def xR:V->Option Int->Option Int->Hp->VK->Prop:=fun x lo hi H Q=> ∃ z,x=.str z/\z.length<=sizeLine/\Q (.str (Txt.slice z lo hi)) H
theorem kg:SlR X xR:=by
 intro pins s Z H x v vl vu lo hi sl Q I rx hs pl pu h
 obtain ⟨z,rfl,hz,q⟩:=h
 obtain ⟨t,rfl⟩:=rx
 refine ⟨"str",_,F.slot_str_getitem.lookup,typeIs_str _ _ _,?_⟩
 have go: ∀ (l u:Option (Int×Tok)),vl=partValue l->vu=partValue u->lo=l.map (·.1)->hi=u.map (·.1)->wpAny (model X.prog X.w) X.A (getItem (.str z t) (.ref sl)) (EP X pins Z Q) X.xe s:=by
  intro l u e1 e2 e3 e4
  subst e1 e2 e3 e4
  refine wpAny_getItem_str_slice (l:=l) (u:=u) (st:=none) hs rfl ?_
  exact post_val_or_str ⟨Nat.le_trans (Txt.slice_le z _ _) hz,fun t' k=>⟨.str (Txt.slice z (l.map (·.1)) (u.map (·.1))),H,I.tok k,⟨t',rfl⟩,q⟩⟩
 cases pl with
 | none=>
  cases pu with
  | none=>exact go none none rfl rfl rfl rfl
  | int j tj=>exact go none (some (j,tj)) rfl rfl rfl rfl
 | int i ti=>
  cases pu with
  | none=>exact go (some (i,ti)) none rfl rfl rfl rfl
  | int j tj=>exact go (some (i,ti)) (some (j,tj)) rfl rfl rfl rfl
open PySem.AutoSeq1 (wpAny_loadPart')in
theorem oD (l:Addr) (items:Array Value) (n:Nat) (b:Addr) (items2:Array Value) (n2:Nat) (dd:Option Addr) (sl:Array (Option Value)) (hs0: ¬(!items.isEmpty&&Builtin.List.listTooLong (items.size+items2.size))=true) (hs1:items.size<=sizeLine) (hs2:items.size+items2.size<=sizeLine+1):
  Meets (Builtin.«list.extend» ⟨[.ref l,.ref b],[]⟩) (fun _ R s=>s.heap.get? l=some {cls:=.type "list",dict:=none,data:=.seq items n,slots:= #[]}/\s.heap.get? b=some {cls:=.type "tuple",dict:=dd,data:=.seq items2 n2,slots:=sl}/\R (.ok (.ret Value.none)) {s with heap:=s.heap.update l (Obj.mapSeq fun x=>x++items2),toks:=s.toks}):=
 .of_wp fun prog w A R s h=>by
  obtain ⟨hp,g,d,tk,os⟩:=s;obtain ⟨hl,hb,h⟩:=h;have f1:=AutoSeq1.idx_int;have f2:=AutoSeq1.sub_tuple_tuple;have f3:=AutoSeq1.sub_list_list;have f4:=AutoSeq1.sub_tuple_list;have f5:=AutoSeq1.sub_list_tuple;
  have hz':(items++items2).size<=sizeLine+1:=by rw [Array.size_append];exact hs2
  wp_walk using (wpAny_updateSeq hl rfl (hz:=hs1) (_hz':=hz')),wpAny_loadPart' hl,wpAny_loadPart' hb;exact ⟨_,rfl,h⟩
noncomputable def xj (K:PySem.W.Frag):V->List V->Hp->VK->Prop:=fun x vs H Q=> ∃ l b xs zs,x=.ref l/\vs=[.ref b]/\H l=some (.lst xs)/\SqT K H b zs/\xs.length+zs.length<=sizeLine/\Q .non (upd H l (.lst (xs++zs)))
theorem ph:MtM X "list.extend" (xj X.K):=by
 intro pins s Z H x vs v us Q I rx rv h
 obtain ⟨l,b,xs,zs,rfl,rfl,hH,hB,hz,q⟩:=h
 cases rx
 obtain ⟨u,rfl,ru⟩:=rv.one
 cases ru
 obtain ⟨z,its,n,r,hl,e⟩:=I.lstM hH
 obtain ⟨its2,r2,ht2,hz2⟩:=I.tuple hB
 obtain ⟨⟨c2,d2,dat2,sl2⟩,e2,hc2,n2,hd2⟩:=ht2
 dsimp only at hc2 hd2
 subst hc2 hd2
 have hl2:=r2.length
 have hsz:its.toArray.size+its2.toArray.size<=sizeLine:=by rw [List.size_toArray,List.size_toArray];omega
 have hlong: ¬ (!its.toArray.isEmpty&&Builtin.List.listTooLong (its.toArray.size+its2.toArray.size))=true:=by
  rw [mz hsz,Bool.and_false]
  exact Bool.false_ne_true
 refine call_meets F.slot_list_extend ⟨_,e,rfl⟩ F.entry_list_extend (F.args_list_extend_2 _ _)
  (oD l its.toArray n b its2.toArray n2 d2 sl2 hlong (by rw [List.size_toArray];omega) (by omega)) ⟨e,e2,?_⟩
 refine ⟨.non,_,I.lset (its':=its++its2) hH e (by simp) (r.append r2) ?_,rfl,q⟩
 rw [List.length_append]
 omega
theorem p9 (bs:List Bool):((List.range bs.length).all fun i=>(bs[i]?).getD true)=bs.all id:=by
 induction bs with
 | nil=>rfl
 | cons b r ih=>
  rw [List.length_cons,List.range_succ_eq_map,List.all_cons,List.all_map]
  show (b&&(List.range r.length).all (fun i=>((b::r)[i+1]?).getD true))=(b&&r.all id)
  rw [<- ih]
  rfl
theorem ck (hc:X.calm=true):dJ X (.builtin "all") (fun xs H Q=> ∃ (p:Addr) (bs:List Bool),xs=[.ref p]/\SqL X.K H p (bs.map V.bl)/\Q (.bl (bs.all id)) H):=by
 intro pins s Z H xs us Q I r h
 obtain ⟨p,bs,rfl,hq,q⟩:=h
 obtain ⟨u,rfl,ru⟩:=fZ r
 cases ru
 obtain ⟨its,rv,pl,hz⟩:=I.list hq
 have hl:=pl.isList
 have hlt:p<s.heap.objs.size:=by obtain ⟨_,e,_⟩:=hl;exact Heap.lt_size e
 have hn:its.toArray.size=bs.length:=by have:=rv.length;rw [List.length_map]at this;rw [List.size_toArray];omega
 refine call_all_walk (wpAny_pyIter_list hl ?_)
 refine ⟨s.heap.objs.size,[s.heap.objs.size,p],[s.heap.objs.size],its.toArray.size,_,_,fun i=>(bs[i]?).getD true,rfl,Walks.list (A:=X.A.in1) (I.ok.hd hc) _ p (Nat.ne_of_lt hlt) its.toArray,
  ⟨⟨_,Heap.get?_push_size _ rfl,rfl,rfl⟩,hl.push _⟩,fun i v s' Q' E' hP hQ=>?_,fun h' tk hk=>?_⟩
 ·have hv:its[i]? =some v:=by simpa using hP
  have hi:i<bs.length:=by
   have:=(List.getElem?_eq_some_iff.mp hv).1
   have:=rv.length
   rw [List.length_map]at this
   omega
  have hb:(bs.map V.bl)[i]? =some (V.bl bs[i]):=by rw [List.getElem?_map,List.getElem?_eq_getElem hi] <;> rfl
  obtain ⟨u,eu,ru⟩:=rv.get hb
  rw [hv]at eu
  cases eu
  cases (show v=Value.bool bs[i]from ru)
  have hQ':=hQ
  simp only [List.getElem?_eq_getElem hi,Option.getD_some]at hQ'
  exact wpAny_truthy_bool hQ'
 ·rw [hn,p9]
  refine ⟨.bl (bs.all id),H,I.kept (t':=tk) fun b x e=>?_,rfl,q⟩
  exact hk b x (fun hm=>by rw [List.mem_singleton.mp hm]at e;exact Nat.lt_irrefl _ (Heap.lt_size e)) (Heap.get?_push_of_some _ e)
noncomputable def qL (P:Program) (w:World) (K:PySem.W.Frag) (a:Addr) (kvs:List (Key×V)):Prop:=
 (a==sysModules)=false/\ ∀ h:Heap,K.In h-> ∃ vs,KV kvs vs/\h.DictOf (a9 P w) a vs
noncomputable def xW (P:Program) (w:World) (K:PySem.W.Frag) (neg:Bool):R2:=fun x y H Q=> ∃ k a kvs,x=kV k/\y=.ref a/\qL P w K a kvs/\Q (.bl (if neg then !(cz kvs k).isSome else (cz kvs k).isSome)) H
theorem sD:OpR X (compareOp .In) (xW X.prog X.w X.K false):=by
 intro pins s Z H x y v u Q I rx ry h
 obtain ⟨k,a,kvs,rfl,rfl,⟨hd,T⟩,q⟩:=h
 cases (show u=Value.ref a from ry)
 obtain ⟨vs,rel,dd⟩:=T _ I.kIn
 refine wpAny_in_of (jK rx) hd dd.mapOf ?_
 rw [<- (rel.val k).isSome_eq]
 exact ⟨.bl (cz kvs k).isSome,H,I.tok _,rfl,q⟩
noncomputable def wV (P:Program) (w:World) (K:PySem.W.Frag) (td ty:TE):TE:=fun Z H Q=>td Z H fun x H1=>ty Z H1 fun y H2=> ∃ a kvs k v,x=.ref a/\y=kV k/\qL P w K a kvs/\cz kvs k=some v/\Q v H2
theorem uM {o i:Expr} {td ty:TE} (ho:PE X o td) (hi:PE X i ty) (hs:wJ i):PE X (.Subscript o i pos) (wV X.prog X.w X.K td ty):=by
 intro pins s Z H Q I h
 refine oQ PySem.F.slot_dict_getitem.lookup hs (thn (ho pins s Z H _ I h) fun u s1 ⟨x,H1,I1,rx,q1⟩=>thn (hi pins s1 Z H1 _ I1 q1) fun iv s2 ⟨y,H2,I2,ry,a,kvs,k,v,ex,ey,⟨hd,T⟩,l,q2⟩=>?_)
 subst ex ey
 obtain rfl:u=Value.ref a:=rx
 obtain ⟨vs,rel,dd⟩:=T _ I2.kIn
 obtain ⟨w',hw,rw'⟩:=RelO.some_of (v:=v) (o:=valueAt vs k) (by rw [<- l];exact rel.val k)
 exact ⟨dd.typeIs,wpAny_getItem_of (jK ry) dd.mapOf hw ⟨v,H2,I2.tok _,rw',q2⟩⟩
end
theorem gA {α β:Type} {f:α->β->Sem (ForInStep β)} (g:β->α->β): ∀ {l:List α} (c:β),(∀ x∈l,∀ c,f x c=pure (.yield (g c x)))->forIn l c f=pure (l.foldl g c)
 | [],c,_=>rfl
 | x::l,c,h=>by
  have hx:=h x List.mem_cons_self c
  rw [List.forIn_cons,hx,pure_bind]
  exact gA g (g c x) fun y hy=>h y (List.mem_cons_of_mem _ hy)
noncomputable def cj (cells:List (Str×Addr)) (c:List (Str×Addr)) (x:Str×NameKind):List (Str×Addr):=
 if x.2=.free then (match cells.lookup x.1 with | some a=>(x.1,a)::c | none=>c)else c
noncomputable def cR (cells:List (Str×Addr)) (names:List (Str×NameKind)):List (Str×Addr):=names.foldl (cj cells) []
theorem cZ {scope:Scope} {env:Env} (h: ∀ x∈scope.names,x.2=.free-> ∃ c,env.cells.lookup x.1=some c):closureFor scope env=pure (cR env.cells scope.names):=by
 simp only [closureFor]
 rw [gA (cj env.cells) [] (fun x hx c=>by
  obtain ⟨n,kind⟩:=x
  by_cases hk:kind=.free
  ·subst hk
   obtain ⟨a,ha⟩:=h _ hx rfl
   simp only [cj,if_true,beq_self_eq_true,cellOf,ha,pure_bind]
  ·have hb:(kind==NameKind.free)=false:=by simpa using hk
   simp only [cj,hb,hk,Bool.false_eq_true,if_false])]
 rfl
theorem jl {cells:List (Str×Addr)}: ∀ {names:List (Str×NameKind)} {acc:List (Str×Addr)},(∀ p∈acc,cells.lookup p.1=some p.2)-> ∀ p∈names.foldl (cj cells) acc,cells.lookup p.1=some p.2
 | [],_,h=>h
 | x::r,acc,h=>by
  refine jl (names:=r) (acc:=cj cells acc x) ?_
  intro p hp
  unfold cj at hp
  split at hp
  ·split at hp
   ·rename_i a ha
    rcases List.mem_cons.mp hp with e | e
    ·subst e
     exact ha
    ·exact h p e
   ·exact h p hp
  ·exact h p hp
theorem jm {cells:List (Str×Addr)}: ∀ {names:List (Str×NameKind)} {acc:List (Str×Addr)} {p:Str×Addr},p∈acc->p∈names.foldl (cj cells) acc
 | [],_,_,h=>h
 | x::r,acc,p,h=>by
  refine jm (names:=r) (acc:=cj cells acc x) ?_
  unfold cj
  split
  ·split
   ·exact List.mem_cons_of_mem _ h
   ·exact h
  ·exact h
theorem nw {cells:List (Str×Addr)} {n:Str} {c:Addr} (hc:cells.lookup n=some c): ∀ {names:List (Str×NameKind)} {acc:List (Str×Addr)},(n,NameKind.free)∈names->(n,c)∈names.foldl (cj cells) acc
 | [],_,h=>by simp at h
 | x::r,acc,h=>by
  rcases List.mem_cons.mp h with e | e
  ·subst e
   refine jm (names:=r) ?_
   simp [cj,hc]
  ·exact nw hc (names:=r) e
theorem mem_of_lookup {α β:Type} [BEq α] [LawfulBEq α] {k:α} {v:β}: ∀ {l:List (α×β)},l.lookup k=some v->(k,v)∈l
 | [],h=>by simp at h
 | (a,b)::r,h=>by
  rw [List.lookup_cons]at h
  split at h
  ·rename_i e
   have:=eq_of_beq e
   subst this
   cases h
   exact List.mem_cons_self
  ·exact List.mem_cons_of_mem _ (mem_of_lookup h)
theorem fJ {α β:Type} [BEq α] [LawfulBEq α] {k:α} {v:β}: ∀ {l:List (α×β)},(k,v)∈l-> ∃ v',l.lookup k=some v'
 | [],h=>by simp at h
 | (a,b)::r,h=>by
  rw [List.lookup_cons]
  split
  ·exact ⟨b,rfl⟩
  ·rename_i e
   rcases List.mem_cons.mp h with q | q
   ·cases q
    simp at e
   ·exact fJ q
theorem cQ {cells:List (Str×Addr)} {names:List (Str×NameKind)} {n:Str} {c:Addr} (h:(cR cells names).lookup n=some c):cells.lookup n=some c:=
 jl (names:=names) (acc:=[]) (by simp) (n,c) (mem_of_lookup h)
theorem cy {cells:List (Str×Addr)} {names:List (Str×NameKind)} {n:Str} {c:Addr} (hc:cells.lookup n=some c) (h:(n,NameKind.free)∈names):(cR cells names).lookup n=some c:=by
 obtain ⟨c',e⟩:=fJ (nw hc (acc:=[]) h)
 have:=cQ e
 rw [hc]at this
 cases this
 exact e
noncomputable def aV (sc0 scope:Scope):List (Str×NameKind):=
 scope.names.map fun (n,k)=>if (k== .free&&sc0.kind== .function&&sc0.names.lookup n==some .cell)then (n,.cell)else (n,k)
structure fW (sc0:Scope) (N0:List Str) (scope:Scope) (x:Str) (ys:List Str) (fr:List Nat):Prop where
 kind:scope.kind=.function
 nocell: ∀ y∈scope.names,y.2≠ .cell
 loc: ∀ y∈scope.names,y.2=.local->scope.names.lookup y.1=some .local
 xl:(aV sc0 scope).lookup x=some .local
 free: ∀ y∈scope.names,y.2=.free->sc0.names.lookup y.1=some .cell
 nd:(x::ys).Nodup
 len:ys.length=fr.length
 sl: ∀ q∈ys.zip fr,N0[q.2]? =some q.1/\sc0.names.lookup q.1=some .cell/\(aV sc0 scope).lookup q.1=some .cell
theorem cok {sc0:Scope} {N0:List Str} {scope:Scope} {x:Str} {ys:List Str} {fr:List Nat} (kind_:scope.kind=.function:=by rfl) (nocell_: ∀ y∈scope.names,y.2≠ .cell:=by decide +kernel) (loc_: ∀ y∈scope.names,y.2=.local->scope.names.lookup y.1=some .local:=by decide +kernel) (xl_:(aV sc0 scope).lookup x=some .local:=by decide +kernel) (free_: ∀ y∈scope.names,y.2=.free->sc0.names.lookup y.1=some .cell:=by decide +kernel) (nd_:(x::ys).Nodup:=by decide +kernel) (len_:ys.length=fr.length:=by rfl) (sl_: ∀ q∈ys.zip fr,N0[q.2]? =some q.1/\sc0.names.lookup q.1=some .cell/\(aV sc0 scope).lookup q.1=some .cell:=by decide +kernel):fW sc0 N0 scope x ys fr:=⟨kind_,nocell_,loc_,xl_,free_,nd_,len_,sl_⟩
noncomputable def bz (X:Cx) (x:Str) (ys:List Str) (scope:Scope) (C:Addr) (s:Shared) (H:Hp) (ex:List Addr):Cx:=
 {X with N:=x::ys,s₀:=s,H₀:=H,env:=compEnvC scope (cR X.env.cells scope.names) C X.env,outer:=X.stack,stack:=X.stack,ex:=ex,fn:=fun _=>false,pn:=[],xe:=fun _ _=>False}
section
variable {prog:Program} {w:World} {A:Around} {R:Result->Shared->Prop} {s:Shared}
theorem dM {elt target iter:Expr} {scope:Scope} {pos:Pos} {it acc:Value} {env:Env} (I:Nat->Shared->Prop)
  (turn: ∀ n s,I n s->wpAny (model prog w) A (pyNext it) (fun r s₁=>match r with
   | none=>R (.ok .next) s₁
   | some v=>wpAny (model prog w) A (letOwnedTupleGo target it v) (fun _ s₁'=>wpAny (model prog w) A (assign target env v) (fun _ s₂=>wpAny (model prog w) A (eval elt env) (fun x s₃=>
     wpAny (model prog w) A (call (.builtin "list.append") [acc,x]) (fun _ s₄=> ∃ m,m<n/\I m s₄) (fun _ _=>False) s₃) (fun _ _=>False) s₂) (fun _ _=>False) s₁') (fun _ _=>False) s₁) (fun _ _=>False) s)
  (n:Nat) (h:I n s):codeAny (model prog w) A (.compLoop (.ListComp elt [⟨target,iter,[],0⟩] scope pos) 0 it acc env) R s:=by
 refine codeAny_loop rfl I (fun n s hI=>?_) n h
 show wpAny _ _ ((compTurn (.ListComp elt [⟨target,iter,[],0⟩] scope pos) 0 it acc env).onRaise (fun x=>do noteFrame x env;theTreesLotGoes x)) _ _ s
 refine wpAny_noted ?_
 rw [compTurn_list1]
 refine wpAny_noRaise ?_
 refine wpAny_bind (wpAny_standAt (wpAny_bind (wpAny_mono (turn n s hI) (fun r s₁ h₁=>?_) fun _ _ h'=>h')))
 cases r with
 | none=>exact wpAny_pure h₁
 | some v=>
  refine wpAny_bind (wpAny_mono h₁ (fun _ s₁' h₁'=>?_) fun _ _ h'=>h')
  exact wpAny_bind (wpAny_mono h₁' (fun _ s₂ h₂=>wpAny_bind (wpAny_bind (wpAny_mono h₂ (fun x s₃ h₃=>wpAny_bind (wpAny_mono h₃
   (fun _ s₄ h₄=>wpAny_pure (wpAny_pure ⟨rfl,h₄⟩)) fun _ _ h'=>h')) fun _ _ h'=>h'))) fun _ _ h'=>h')
end
noncomputable def cc (fr:List Nat) (Z:St):St:=fr.map fun j=>(Z[j]?).join
noncomputable def eL (fr:List Nat) (te:TE) (Z:St) (J:It) (H1:Hp) (Q:VK):Prop:=
 ∀ p,H1 p=none-> ∃ W:Nat->Nat->List V->Hp->Prop,(∃ m,W 0 m [] (upd H1 p (.lst [])))/\ ∀ i m ys H,W i m ys H->H p=some (.lst ys)/\
  ((J.stop i H/\Q (.ref p) H)\/(J.go i H/\ys.length<sizeLine/\ ∀ x H',J.yld i H x H'->te (some x::cc fr Z) H' fun v H2=>
   H2 p=some (.lst ys)/\ ∃ m',m'<m/\W (i+1) m' (ys++[v]) (upd H2 p (.lst (ys++[v])))))
noncomputable def qY (wi:TI) (fr:List Nat) (te:TE):TE:=fun Z H Q=>wi Z H fun J H1=>eL fr te Z J H1 Q
section
variable {X:Cx} {x:Str} {px pos fpos:Pos} {iter elt:Expr} {scope sc0:Scope} {N0 ys:List Str} {fr:List Nat} {wi:TI} {te:TE} {pins:List (Addr×Obj)} {Z:St} {H:Hp} {s:Shared}
theorem jQ {use:Option (Value->Sem Unit)} {Qv:Value->Shared->Prop} {Q:VK} (hcalm:X.calm=true) (hi:PI X (.Name x px) iter wi) (hsc:X.env.scope=sc0) (hN:X.N=N0) (ok:fW sc0 N0 scope x ys fr)
  (hE: ∀ C s H ex,PE (bz X x ys scope C s H ex) elt te) (I:Inv X pins Z H s) (h:qY wi fr te Z H Q) (hs: ∀ v,foldedSetIterable iter X.env v=pure v)
  (fin: ∀ (p C:Addr) (H':Hp) (s':Shared) (m:Str->Option Value),Inv X pins Z H' s'->s'.heap.Ns C m->H' C=none->C≠X.env.locals->X.s₀.heap.objs.size<=C->(∀ y c,X.env.cells.lookup y=some c->c≠C)->(∀ q∈X.pn++pins,q.1≠C)->Q (.ref p) H'->
   compPost (model X.prog X.w) X.A X.xe use Qv (.ref p) C (.ok .next) s'):
  wpAny (model X.prog X.w) X.A (comprehension (.ListComp elt [⟨.Name x px,iter,[],0⟩] scope pos) scope X.env fpos (newList []) false (eval iter X.env) use) Qv X.xe s:=by
 subst hsc hN
 have hkof: ∀ y,X.env.kindOf y=X.env.scope.names.lookup y:=fun y=>rfl
 have hfree: ∀ y∈scope.names,y.2=.free-> ∃ c,X.env.cells.lookup y.1=some c:=fun y hy e=>I.ok.has y.1 (.inl (ok.free y hy e))
 refine wpAny_comprehension_free (gs:=[]) rfl hs (cZ hfree) ok.kind ok.loc (thn (hi pins s Z H _ I h) fun v s1 h1=>thn h1 fun itv s2 h2=>?_)
 obtain ⟨it,fp,tn,J,H2,e,I2,T,st2,f2,hp⟩:=h2
 subst e
 refine wpAny_newObj_type (wpAny_newFunctionEnv ok.nocell (by intro y hy;simp at hy) (fun h₁ hns₁ hsb₁=>?_) ok.kind)
 dsimp only at hns₁ hsb₁ ⊢
 have I3:Inv X pins Z (upd H2 s2.heap.objs.size (.lst [])) {s2 with heap:=s2.heap.push {cls:=.type "list",data:=.seq ([]:List Value).toArray}}:=
  I2.lnew (its:=[]) (ys:=[]) (t':=s2.toks) .nil (Nat.zero_le _)
 have hf2: ∀ b∈fp,b<s2.heap.objs.size:=fun b hb=>by
  obtain ⟨o,e,_⟩:=T.obj _ _ st2 b hb
  exact Heap.lt_size e
 have hps:s2.heap.objs.size< (s2.heap.push {cls:=.type "list",data:=.seq ([]:List Value).toArray}).objs.size:=by rw [Heap.size_push];exact Nat.lt_succ_self _
 have W0:=hp s2.heap.objs.size I2.fresh
 have st3:tn 0 (s2.heap.push {cls:=.type "list",data:=.seq ([]:List Value).toArray}):=T.keep _ _ _ st2 fun b hb o e=>Heap.get?_push_of_some _ e
 generalize hpp:s2.heap.objs.size=p at I3 W0 hf2 hps ⊢
 generalize hh3:(s2.heap.push {cls:=.type "list",data:=.seq ([]:List Value).toArray})=h3 at I3 hns₁ hsb₁ hps st3 ⊢
 generalize hH3:upd H2 p (.lst [])=H3 at I3 W0
 have hold: ∀ b o,h3.get? b=some o->h₁.get? b=some o:=fun b o e=>hsb₁.extBut b o (Nat.ne_of_lt (Heap.lt_size e)) (Heap.get?_push_of_some _ e)
 have fH3: ∀ b∈fp,H3 b=none:=fun b hb=>by
  rw [<- hH3,am (Nat.ne_of_lt (hf2 b hb))]
  exact (f2 b hb).1
 have hclos: ∀ y c,(cR X.env.cells scope.names).lookup y=some c->X.env.cells.lookup y=some c:=fun y c e=>cQ e
 have hcell3: ∀ y c,X.env.cells.lookup y=some c->c<h3.objs.size:=fun y c e=>by
  obtain ⟨v,o,ho,_⟩:=I3.cell y c e
  exact Heap.lt_size ho
 have hlt3:X.env.locals<h3.objs.size:=I3.lt
 have Yok:(bz X x ys scope h3.objs.size {s2 with heap:=h3} H3 fp).Ok:={
  mod:=I.ok.mod
  kind:=ok.kind
  glob:=I.ok.glob
  blt:=I.ok.blt
  above:=Nat.le_refl _
  inj:=fun y z c e1 e2=>I.ok.inj y z c (hclos _ _ e1) (hclos _ _ e2)
  has:=fun y hk=>by
   have hfr:(y,NameKind.free)∈scope.names:=by
    have hm: ∃ k,(aV X.env.scope scope).lookup y=some k/\(k=.cell\/k=.free):=by
     rcases hk with hk | hk
     ·exact ⟨_,hk,.inl rfl⟩
     ·exact ⟨_,hk,.inr rfl⟩
    obtain ⟨k,hk,hkk⟩:=hm
    have hmem:=mem_of_lookup hk
    unfold aV at hmem
    obtain ⟨⟨n,k0⟩,hn,en⟩:=List.mem_map.mp hmem
    dsimp only at en
    split at en
    ·rename_i hc
     simp only [Bool.and_eq_true]at hc
     have hk0:k0=.free:=by simpa using hc.1.1
     cases en
     rw [<- hk0]
     exact hn
    ·cases en
     rcases hkk with e | e
     ·exact absurd e (ok.nocell _ hn)
     ·rw [<- e]
      exact hn
   obtain ⟨c,hc⟩:=hfree _ hfr rfl
   exact ⟨c,cy hc hfr⟩
  cab:=fun y c hf _=>by cases hf
  hd:=I.ok.hd
  frames:=I.ok.frames
  stk:=.inl rfl
  exf:=fun b hb=>⟨fun e=>absurd (hf2 b hb) (by rw [e];exact Nat.not_lt.mpr (Nat.le_of_lt hps)),fun y c e=>(f2 b hb).2.2.2.2.1 y c (hclos _ _ e)⟩
  bs:=fun b o e=>⟨(I3.bs b o e).1,(I3.bs b o e).2⟩
  bsz:=Nat.le_trans I.ok.bsz I3.sz
  noex:=fun b o e hb=>by
   rcases (f2 b hb).2.2.2.1 with q | q
   ·exact I.ok.noex b o e q
   ·have h1:b<X.base.objs.size:=Heap.lt_size e
    exact absurd h1 (Nat.not_lt.mpr (Nat.le_trans I.ok.bsz q))
  exfs:=fun b hb hm=>by
   rcases List.mem_cons.mp (I3.stkSub b hm)with q | q
   ·exact (f2 b hb).2.1 q
   ·exact (f2 b hb).2.2.1 q
  funs:=I3.stack
  frf:=I3.stkFree}
 have IY:Inv (bz X x ys scope h3.objs.size {s2 with heap:=h3} H3 fp) [] (none::cc fr Z) H3 {s2 with heap:=h₁,toks:=s2.toks+ ([]:List (Str×Value)).length}:={
  ok:=Yok
  os:=rfl
  bare:=I2.bare
  base:=Un.kept hold
  loc:=by
   refine ⟨_,hns₁,fun i y v hy hv hvis=>?_⟩
   cases i with
   | zero=>cases hv
   | succ j=>
    have hy':ys[j]? =some y:=hy
    have hv':(cc fr Z)[j]? =some (some v):=hv
    unfold cc at hv'
    rw [List.getElem?_map]at hv'
    obtain ⟨i0,hi0,hv0⟩:=Option.map_eq_some_iff.mp hv'
    have hz:(y,i0)∈ys.zip fr:=by
     refine List.mem_iff_getElem?.mpr ⟨j,?_⟩
     rw [List.getElem?_zip_eq_some]
     exact ⟨hy',hi0⟩
    obtain ⟨hn,hk,hk2⟩:=ok.sl _ hz
    have hZ:Z[i0]? =some (some v):=by
     cases e:Z[i0]? with
     | none=>rw [e]at hv0;cases hv0
     | some o=>
      rw [e]at hv0
      rw [show o=some v from hv0]
    obtain ⟨m,hm,hl⟩:=I3.loc
    obtain ⟨u,ru,lk⟩:=hl i0 y v hn hZ (.inr (.inl hk))
    refine ⟨u,ru,.inr ⟨.inl hk2,?_⟩⟩
    rcases lk with ⟨a,_⟩ | ⟨_,c,hc,hcell⟩
    ·have a':X.env.scope.names.lookup y=some .local:=a
     have hk':X.env.scope.names.lookup y=some .cell:=hk
     rw [hk']at a'
     cases a'
    ·have hfr:(y,NameKind.free)∈scope.names:=by
      have hmem:=mem_of_lookup hk2
      unfold aV at hmem
      obtain ⟨⟨n,k0⟩,hn0,en⟩:=List.mem_map.mp hmem
      dsimp only at en
      split at en
      ·rename_i hc0
       simp only [Bool.and_eq_true]at hc0
       have hk0:k0=.free:=by simpa using hc0.1.1
       cases en
       rw [<- hk0]
       exact hn0
      ·cases en
       exact absurd rfl (ok.nocell _ hn0)
     exact ⟨c,cy hc hfr,hcell.keeps hold⟩
  cell:=fun y c e=>by
   obtain ⟨v,hv⟩:=I3.cell y c (hclos _ _ e)
   exact ⟨v,hv.keeps hold⟩
  free:=I3.fresh
  freeC:=fun y c e=>I3.freeC y c (hclos _ _ e)
  pin:=fun q hq=>by cases hq
  hok:=I3.hok.kept hold
  len:=by
   show (none::cc fr Z).length=(x::ys).length
   rw [List.length_cons,List.length_cons,ok.len]
   unfold cc
   rw [List.length_map]}
 have hxl:(bz X x ys scope h3.objs.size {s2 with heap:=h3} H3 fp).env.scope.names.lookup x=some .local:=ok.xl
 have pgx:PG (bz X x ys scope h3.objs.size {s2 with heap:=h3} H3 fp) (.Name x px) (dI 0):=aH (i:=0) ok.nd rfl (.inl hxl) (.inr hxl)
 have pel:=hE h3.objs.size {s2 with heap:=h3} H3 fp
 obtain ⟨W,⟨m0,w0⟩,turn⟩:=W0
 have stat: ∀ {H':Hp},(∀ b∈fp,H' b=none)-> ∀ b∈fp,iq (bz X x ys scope h3.objs.size {s2 with heap:=h3} H3 fp) [] H' b:=fun hn b hb=>
  ⟨hn b hb,(Yok.exf b hb).1,Yok.exfs b hb,.inl hb,(Yok.exf b hb).2,fun q hq=>by cases hq⟩
 have loop:codeAny (model X.prog X.w) X.A (.compLoop (.ListComp elt [⟨.Name x px,iter,[],0⟩] scope pos) 0 (.ref it) (.ref p) (compEnvC scope (cR X.env.cells scope.names) h3.objs.size X.env))
   (compPost (model X.prog X.w) X.A X.xe use Qv (.ref p) h3.objs.size) {s2 with heap:=h₁,toks:=s2.toks+ ([]:List (Str×Value)).length}:=by
  refine dM (fun n s'=> ∃ i zs v0 H',Inv (bz X x ys scope h3.objs.size {s2 with heap:=h3} H3 fp) [] (v0::cc fr Z) H' s'/\tn i s'.heap/\(∀ b∈fp,H' b=none)/\W i n zs H') ?_ m0
   ⟨0,[],none,H3,IY,T.keep _ _ _ st3 fun b hb o e=>hold b o e,fH3,w0⟩
  rintro n s5 ⟨i,zs,v0,H5,I5,st5,fr5,w5⟩
  obtain ⟨hacc,turn5⟩:=turn i n zs H5 w5
  rcases turn5 with ⟨stop,qn⟩ | ⟨go,hlen,step⟩
  ·refine thn (T.done (bz X x ys scope h3.objs.size {s2 with heap:=h3} H3 fp) rfl rfl rfl hcalm i [] s5 _ H5 _ I5 (stat fr5) st5 stop) fun r s6 ⟨hr,I6⟩=>?_
   subst hr
   obtain ⟨m6,n6,_⟩:=I6.loc
   refine fin p h3.objs.size H5 s6 m6 (I3.call' I6.os I6.base I6.hok I6.bare fun b hb=>⟨(f2 b hb).2.2.2.1,(f2 b hb).2.1,(f2 b hb).2.2.2.2.1,(f2 b hb).2.2.2.2.2⟩) n6 I6.free (Nat.ne_of_gt hlt3) I3.sz (fun y c e=>Nat.ne_of_lt (hcell3 y c e)) (fun q hq=>?_) qn
   exact Nat.ne_of_lt (Heap.lt_size (I3.pin q hq).1)
  ·refine thn (T.item (bz X x ys scope h3.objs.size {s2 with heap:=h3} H3 fp) rfl rfl rfl hcalm i [] s5 _ H5 _ I5 (stat fr5) st5 go) fun r s6 ⟨u,hr,h6⟩=>?_
   subst hr
   refine thn h6 fun _ s7 ⟨xv,H7,I7,r7,y7,st7,fr7⟩=>?_
   have I7':=I7.pinned (stat fr7) (T.obj _ _ st7)
   refine thn (pgx _ s7 _ H7 xv u (fun Z' H'=>Z'=some xv::cc fr Z/\H'=H7) I7' r7 ⟨rfl,rfl⟩) fun _ s8 ⟨Z8,H8,I8,e8,e8'⟩=>?_
   subst e8 e8'
   refine thn (pel _ s8 _ H8 _ I8 (step xv H8 y7)) fun yv s9 ⟨v9,H9,I9,r9,hp9,m',hm',w9⟩=>?_
   refine thn (bZ _ s9 _ H9 (.ref p) [v9] (.ref p) [yv] (fun _ H'=>H'=upd H9 p (.lst (zs++[v9]))) I9 rfl (.cons r9 .nil) ⟨p,zs,v9,rfl,rfl,hp9,hlen,rfl⟩) fun _ s10 ⟨_,H10,I10,_,e10⟩=>?_
   subst e10
   refine ⟨m',hm',i+1,zs++[v9],some xv,_,I10.unpinned,T.keep _ _ _ st7 fun b hb o e=>(I10.pin (b,o) (List.mem_append_right _ (List.mem_append_right _ (bw hb e)))).1,fun b hb=>?_,w9⟩
   obtain ⟨o,e,d⟩:=T.obj _ _ st7 b hb
   exact (I10.pin (b,o) (List.mem_append_right _ (List.mem_append_right _ (bw hb e)))).2.1
 exact codeAny_compStart_list loop (T.self X.A 0 _ _ _ (T.keep _ _ _ st3 fun b hb o e=>hold b o e) loop)
theorem br (hcalm:X.calm=true) (hi:PI X (.Name x px) iter wi) (hsc:X.env.scope=sc0) (hN:X.N=N0) (ok:fW sc0 N0 scope x ys fr)
  (hE: ∀ C s H ex,PE (bz X x ys scope C s H ex) elt te) (hs: ∀ v,foldedSetIterable iter X.env v=pure v:=by intro _;rfl):
  PE X (.ListComp elt [⟨.Name x px,iter,[],0⟩] scope pos) (qY wi fr te):=by
 intro pins s Z H Q I h
 rw [eval_ListComp]
 refine jQ (use:=none) (Qv:=EP X pins Z Q) (Q:=Q) hcalm hi hsc hN ok hE I h hs fun p C H' s' m I' hn h0 h1 h2 h3 h4 q=>?_
 refine ⟨m,hn,fun h' sb=>⟨.ref p,H',I'.turned (t':=s'.toks) (fun b o hb e=>sb.extBut b o hb e) h0 (Ne.symm (Ne.symm h1)) (.inr h2) h3 h4,rfl,q⟩⟩
theorem dE {i:Nat} {y:Str} {py spos:Pos} (hcalm:X.calm=true) (hnd:X.N.Nodup) (hiN:X.N[i]? =some y) (hy:Loc X.env.scope y) (hi:PI X (.Name x px) iter wi) (hsc:X.env.scope=sc0) (hN:X.N=N0) (ok:fW sc0 N0 scope x ys fr)
  (hE: ∀ C s H ex,PE (bz X x ys scope C s H ex) elt te) (hsw:swapsWith (.ListComp elt [⟨.Name x px,iter,[],0⟩] scope pos) (some (.Name y py)) spos.line X.env=pure true:=by rfl)
  (hs: ∀ v,foldedSetIterable iter X.env v=pure v:=by intro _;rfl) (hf:X.fn y=true\/X.env.scope.names.lookup y=some .local:=by first | exact .inl rfl | exact .inr rfl | assumption):
  PS X (.Assign [.Name y py] (.ListComp elt [⟨.Name x px,iter,[],0⟩] scope pos) spos) (nJ (qY wi fr te) (dI i)):=by
 intro pins s Z H D I h
 rw [exec_Assign_Name_used _ _ _ _ hsw]
 refine wpAny_bind (wpAny_standAt (wpAny_bind ?_))
 show wpAny _ X.A (do let _ <- comprehension (.ListComp elt [⟨.Name x px,iter,[],0⟩] scope pos) scope X.env _ (newList []) false (eval iter X.env) (some (assign (.Name y py) X.env))) _ _ s
 refine wpAny_bind (thn (jQ (use:=some (assign (.Name y py) X.env)) (Qv:=fun _ s'=>SP X pins D .next s') (Q:=fun v H'=>D.nx (Z.set i (some v)) H') hcalm hi hsc hN ok hE I h hs fun p C H' s' m I' hn h0 h1 h2 h3 h4 q=>?_) fun _ s' hq=>wpAny_pure (wpAny_pure hq))
 show wpAny _ X.A (assign (.Name y py) X.env (.ref p)) _ _ s'
 refine wpAny_assign_Name (gI (v:=.ref p) I' hnd hiN hy rfl (fun s'' I'' ⟨a,sb,ha⟩=>?_) hf)
 have hCa:C≠a:=by
  rcases ha with e | e
  ·rw [e];exact h1
  ·exact (h3 y a e).symm
 refine ⟨m,hn.sameBut sb hCa,fun h' sb'=>⟨_,H',I''.turned (t':=s''.toks) (fun b o hb e=>sb'.extBut b o hb e) h0 h1 (.inr h2) h3 h4,q⟩⟩
theorem dr {n:Nat} {J:It} {H1:Hp} {Q:VK} {R:Nat->V->Prop} (hn:n<=1000) (hgo: ∀ i H,i<n->J.go i H) (hstop: ∀ H,J.stop n H) (hy: ∀ i H v H',J.yld i H v H'->H'=H/\R i v)
  (Pv:Addr->Nat->List V->Hp->Prop) (h0: ∀ p,H1 p=none->Pv p 0 [] (upd H1 p (.lst []))) (hl: ∀ p i zs H,Pv p i zs H->H p=some (.lst zs)/\zs.length=i)
  (hs: ∀ p i zs H v (k:VK),H1 p=none->i<n->R i v->Pv p i zs H->(∀ u H2,H2 p=some (.lst zs)->Pv p (i+1) (zs++[u]) (upd H2 p (.lst (zs++[u])))->k u H2)->te (some v::cc fr Z) H k)
  (hd: ∀ p zs H,H1 p=none->Pv p n zs H->Q (.ref p) H):eL fr te Z J H1 Q:=by
 intro p hp
 refine ⟨fun i m zs H=>i<=n/\m=n-i/\Pv p i zs H,⟨n,Nat.zero_le _,by simp,h0 p hp⟩,?_⟩
 rintro i m zs H ⟨hi,hm,q⟩
 obtain ⟨hp',hz⟩:=hl p i zs H q
 refine ⟨hp',?_⟩
 by_cases e:i=n
 ·subst e
  exact .inl ⟨hstop H,hd p zs H hp q⟩
 ·have hlt:i<n:=by omega
  refine .inr ⟨hgo i H hlt,aA (by omega),fun v H' hv=>?_⟩
  obtain ⟨rfl,r⟩:=hy i H v H' hv
  refine hs p i zs H' v _ hp hlt r q fun u H2 a b=>?_
  exact ⟨a,n- (i+1),by omega,by omega,rfl,b⟩
theorem jd {lo:Int} {n:Nat}: ∀ i H,i<n->(Itr lo n).go i H:=fun _ _ h=>h
theorem fi {lo:Int} {n:Nat}: ∀ H,(Itr lo n).stop n H:=fun _=>Nat.le_refl n
theorem gu {lo:Int} {n:Nat}: ∀ i H v H',(Itr lo n).yld i H v H'->H'=H/\v=.int (lo+i):=fun _ _ _ _ h=>h
theorem wt {n:Nat} {R:Nat->V->Prop}: ∀ i H,i<n->(Itw n R).go i H:=fun _ _ h=>h
theorem tL {n:Nat} {R:Nat->V->Prop}: ∀ H,(Itw n R).stop n H:=fun _=>rfl
theorem vc {n:Nat} {R:Nat->V->Prop}: ∀ i H v H',(Itw n R).yld i H v H'->H'=H/\R i v:=fun _ _ _ _ h=>h
end
noncomputable def pf:Expr->Bool
 | .Starred _ _=>false
 | _=>true
theorem jq {e:Expr} {es:List Expr} {env:Env} (h:pf e=true):starEach (e::es) env=(false,eval e env)::starEach es env:=by
 cases e <;> first | rfl | cases h
theorem pac {X:Cx} {e:Expr} {es:List Expr} {te:TE} {t:TA} (ha:PE X e te) (hr:PA X es t) (h:pf e=true:=by rfl):PA X (e::es) (vz te t):=aa ha hr (jq h)
noncomputable def oG:Const->Option V
 | .str x=>some (.str x)
 | .int i=>some (.int i)
 | .bool b=>some (.bl b)
 | .none=>some .non
 | _=>none
noncomputable def gD:List Expr->Option (List V)
 | []=>some []
 | .Constant c _ _::r=>(match oG c,gD r with | some v,some vs=>some (v::vs) | _,_=>none)
 | _::_=>none
theorem sk {X:Cx} {c:Const} {j:Nat} {pos:Pos} {v:V} (h:oG c=some v):PE X (.Constant c j pos) (tC v):=by
 cases c with
 | str x=>cases h;exact aP
 | int i=>cases h;exact ae
 | bool b=>cases h;exact dg
 | none=>cases h;exact fP
 | _=>cases h
theorem jF {X:Cx}: ∀ {es:List Expr} {vs:List V},gD es=some vs->PA X es (fun _ H Q=>Q vs H)
 | [],vs,h=>by
  cases h
  exact ab
 | e::r,vs,h=>by
  cases e with
  | Constant c j pos=>
   simp only [gD]at h
   cases hc:oG c with
   | none=>rw [hc]at h;cases h
   | some v=>
    cases hr:gD r with
    | none=>rw [hc,hr]at h;cases h
    | some ws=>
     rw [hc,hr]at h
     cases h
     exact pac (sk hc) (jF hr)
  | _=>cases h
theorem uJ {X:Cx} {i:Nat} {x:Str} {es:List Expr} {vs:List V} {pos p pos':Pos} (hN:X.N.Nodup) (hi:X.N[i]? =some x) (hx:Loc X.env.scope x) (hf:X.fn x=true\/X.env.scope.names.lookup x=some .local) (h:gD es=some vs):
  PS X (.Assign [.Name x pos'] (.List es p) pos) (nJ (wT (fun _ H Q=>Q vs H)) (dI i)):=
 aq hN hi hx (bf (jF h)) rfl hf
end L2
namespace HT
open PySem PyProof.Rows
section
variable {prog:Program} {w:World} {A:Around} {s:Shared} {E:Value->Shared->Prop}
theorem nA (n:Nat):Builtin.Slice.sliceAdjust none none (-1) (n:Int)=((n:Int) -1,-1):=by
 unfold Builtin.Slice.sliceAdjust
 simp
theorem mf (n:Nat):Builtin.Slice.slicePlaces ((n:Int) -1) (-1) (-1)=n:=by
 unfold Builtin.Slice.slicePlaces
 have h1: ¬ ((-1:Int) >0):=by omega
 simp only [h1,if_false]
 rw [show (- -1:Int)=1 by decide,Int.ediv_one]
 split <;> omega
theorem lH {sl:Addr} {t:Tok} {n:Nat} {Q:Int×Int×Nat->Shared->Prop} (hs:s.heap.IsSliceOf sl .none .none (.int (-1) t)) (h:Q ((n:Int) -1,-1,n) s):
  wpAny (model prog w) A (Builtin.Slice.sliceApplied (.ref sl) (pure (n:Int))) Q E s:=by
 obtain ⟨os,hos,hcs,hds⟩:=id hs
 unfold Builtin.Slice.sliceApplied Builtin.Slice.sliceFields
 refine wpAny_bind (wpAny_bind (wpAny_field hos hds (x:=.none) rfl (wpAny_bind (wpAny_field hos hds (x:=.none) rfl (wpAny_bind (wpAny_field hos hds (x:=.int (-1) t) rfl (wpAny_pure ?_)))))))
 refine wpAny_bind (dv (.int (-1) t) ?_)
 show wpAny _ _ (if ((-1:Int)==0)=true then _ else _) _ _ s
 rw [if_neg (by decide)]
 refine wpAny_bind (dv .none (wpAny_bind (dv .none (wpAny_bind (wpAny_pure ?_)))))
 show wpAny _ _ (match Builtin.Slice.sliceAdjust none none (-1) (n:Int)with | (lo,hi)=>pure (lo,(-1:Int),Builtin.Slice.slicePlaces lo hi (-1))) _ _ s
 rw [nA n]
 show wpAny _ _ (pure ((n:Int) -1,(-1:Int),Builtin.Slice.slicePlaces ((n:Int) -1) (-1) (-1))) _ _ s
 rw [mf]
 exact wpAny_pure h
theorem nq {α β:Type} {f g:α->Option β}: ∀ {l:List α},(∀ x∈l,f x=g x)->l.filterMap f=l.filterMap g
 | [],_=>rfl
 | x::r,h=>by rw [List.filterMap_cons,List.filterMap_cons,h x List.mem_cons_self,nq fun y hy=>h y (List.mem_cons_of_mem _ hy)]
theorem qc (xs:Array Value):((List.range xs.size).filterMap fun (m:Nat)=>xs[((xs.size:Int) -1+ (m:Int) * -1).toNat]?).toArray=xs.toList.reverse.toArray:=by
 congr 1
 rw [<- L2.rev_pick xs.toList,List.filterMap_map,Array.length_toList]
 refine nq fun m hm=>?_
 have:=List.mem_range.mp hm
 have e:((xs.size:Int) -1+ (m:Int) * -1).toNat=xs.size-1-m:=by omega
 rw [e]
 simp
theorem getItem_tuple_back {a sl:Addr} {items:Array Value} {t:Tok} {Q:Value->Shared->Prop} (ht:IsTup s.heap a items) (hs:s.heap.IsSliceOf sl .none .none (.int (-1) t))
  (h:Q (.ref s.heap.objs.size) {s with heap:=s.heap.push {cls:=.type "tuple",data:=.seq items.toList.reverse.toArray}})
  (hsz:items.size<=sizeLine):wpAny (model prog w) A (getItem (.ref a) (.ref sl)) Q E s:=by
 have hok:sizeOk (.seq items.toList.reverse.toArray):=by
  show items.toList.reverse.toArray.size<=sizeLine
  rw [List.size_toArray,List.length_reverse,Array.length_toList]
  exact hsz
 obtain ⟨os,hos,hcs,hds⟩:=id hs
 have hTs:s.TypeIs (.ref sl) "slice":=⟨os,hos,hcs⟩
 unfold getItem
 try with_reducible refine wpAny_holding ?_
 first | refine wpAny_bind (wpAny_pure ?_) | skip
 refine wpAny_bind (wpAny_sequenceKey ht.typeIs (by decide) ?_)
 refine wpAny_bind (wpAny_callSpecial?_slot (name:=Str.ofString "__getitem__") ht.typeIs PyProof.Rows.slot_tuple_getitem
  (wpAny_call_entry PyProof.Rows.slot_tuple_getitem ht.typeIs entry_tuple_getitem ?_ (args_tuple_getitem _ _)))
 show wpAny _ _ (Builtin.Tuple.tupleItemsOf (.ref a) >>= _) _ _ s
 refine wpAny_bind (tupleItemsOf_ ht ?_)
 refine wpAny_bind (wpAny_typeOf hTs ?_)
 rw [if_pos (by decide)]
 refine wpAny_bind (lH hs ?_)
 show wpAny _ _ (if (((items.size:Int) -1)==0&&(-1:Int)==1&&items.size==items.size)=true then _ else _) _ _ s
 rw [if_neg (by simp),qc]
 first
  | exact wpAny_bind (m:=Builtin.Tuple.tupleExact _) (wpAny_newObj_type (wpAny_pure ⟨_,rfl,wpAny_pure h⟩) hok)
  | exact wpAny_bind (m:=Builtin.Tuple.tupleExact _) (wpAny_newObj_type (wpAny_bind (wpAny_pure (wpAny_pure ⟨_,rfl,wpAny_pure h⟩))) hok)
  | exact wpAny_bind (wpAny_bind (m:=Builtin.Tuple.tupleExact _) (wpAny_newObj_type (wpAny_pure (wpAny_pure ⟨_,rfl,wpAny_pure h⟩)) hok))
  | exact wpAny_bind (wpAny_bind (m:=Builtin.Tuple.tupleExact _) (wpAny_newObj_type (wpAny_pure ⟨_,rfl,wpAny_pure h⟩) hok))
end
end HT
namespace L2
open PySem PySem.Spec PyProof.Rows
section
variable {X:Cx} {e k:Expr} {te tk:TE} {pos p2:Pos}
noncomputable def vP (K:PySem.W.Frag) (te tk:TE):TE:=fun Z H Q=>te Z H fun x H1=>tk Z H1 fun y H2=> ∃ a xs,x=.ref a/\y=.int (-1)/\SqT K H2 a xs/\ ∀ p,H2 p=none->Q (.ref p) (upd H2 p (.tup xs.reverse))
theorem qP {xs:List V} {us:List Value} (h:Vals xs us):Vals xs.reverse us.reverse:=by
 rw [<- rev_pick xs,<- rev_pick us,h.length]
 exact dN _ h
theorem sA (he:PE X e te) (hk:PE X k tk):PE X (.Subscript e (.Slice none none (some k) p2) pos) (vP X.K te tk):=by
 intro pins s Z H Q I h
 refine Subscript_ (thn (he pins s Z H _ I h) fun v s1 ⟨x,H1,I1,r1,q1⟩=>?_)
 refine wpAny_Slice ?_
 rw [evalPart_none,evalPart_some]
 refine wpAny_pure (wpAny_pure ?_)
 refine thn (hk pins s1 Z H1 _ I1 q1) fun vk s3 ⟨y,H3,I3,ry,a,xs,ex,ey,hq,q⟩=>?_
 subst ex ey
 obtain ⟨t,rfl⟩:=ry
 cases r1
 have I4:Inv X pins Z H3 {s3 with heap:=s3.heap.push {cls:=.type "slice",data:=.fields #[.none,.none,.int (-1) t]}}:=I3.kept (t':=s3.toks) fun b ob q=>Heap.get?_push_of_some _ q
 obtain ⟨its,r,ht,hz⟩:=I4.tuple hq
 show wpAny (model X.prog X.w) X.A (subscriptTail e (.Slice none none (some k) p2) (.ref a) (.ref s3.heap.objs.size)) (EP X pins Z Q) X.xe {s3 with heap:=s3.heap.push {cls:=.type "slice",data:=.fields #[.none,.none,.int (-1) t]}}
 refine tail_any (ops:=[.ref a,.ref s3.heap.objs.size]) ht.typeIs PyProof.Rows.slot_tuple_getitem.lookup (HT.getItem_tuple_back ht (Heap.IsSliceOf.new ..) ?_ (by rw [List.size_toArray,<- r.length];exact hz)) (by with_unfolding_all rfl)
 refine ⟨.ref (s3.heap.push {cls:=.type "slice",data:=.fields #[.none,.none,.int (-1) t]}).objs.size,_,I4.laid (t':=s3.toks) (o:=.tup xs.reverse) (fun b ob q=>Heap.get?_push_of_some _ q) (Nat.le_refl _) ?_,rfl,q _ I4.fresh⟩
 exact ⟨by rw [List.length_reverse];exact hz,_,qP r,IsTup.new _ _⟩
end
end L2
namespace HT
open PySem PyProof.Rows
section
variable {prog:Program} {w:World} {A:Around} {s:Shared} {E:Value->Shared->Prop} {d j:Addr} {ks:List Value} {i ep:Nat}
noncomputable def DEs (h:Heap) (d:Addr) (ks:List Value) (ep:Nat):Prop:= ∃ o es,h.get? d=some o/\o.ExactDict/\o.data=.dict es ep/\es.toList.map (·.key)=ks
theorem DEs.type (m:DEs s.heap d ks ep):s.TypeIs (.ref d) "dict":=by
 obtain ⟨o,_,ho,hc,_⟩:=m
 exact ⟨o,ho,hc.1⟩
theorem DEs.keeps {h h':Heap} (m:DEs h d ks ep) (k: ∀ o,h.get? d=some o->h'.get? d=some o):DEs h' d ks ep:=by
 obtain ⟨o,es,ho,r⟩:=m
 exact ⟨o,es,k o ho,r⟩
theorem DEs.lt {h:Heap} (m:DEs h d ks ep):d<h.objs.size:=by
 obtain ⟨o,es,ho,_⟩:=m
 exact Heap.lt_size ho
theorem gO {es:Array DictEntry} (e:es.toList.map (·.key)=ks):es.size=ks.length:=by
 rw [<- e,List.length_map,Array.length_toList]
theorem tQ {Q:Value->Shared->Prop} (lo:(d==sysModules)=false) (m:DEs s.heap d ks ep)
  (q:Q (.ref s.heap.objs.size) {s with heap:=s.heap.push {cls:=.type "dict_keyiterator",data:=.fields #[.ref d,.int 0 0,.int ks.length 0,.int ep 0]}}):wpAny (model prog w) A (pyIter (.ref d)) Q E s:=by
 have ty:=m.type
 obtain ⟨o,es,ho,hc,hdat,hk⟩:=m
 refine wpAny_pyIter_slot ty PySem.F.slot_dict_iter (wpAny_call_entry PySem.F.slot_dict_iter ty PySem.F.entry_dict_iter ?_ (PySem.F.args_dict_iter_1 _))
 unfold Builtin.«dict.__iter__» Builtin.Dict.dictSlotNone
 refine wpAny_bind (wpAny_bind (wpAny_notOrdered_dict ty ?_))
 refine wpAny_pure (show wpAny _ _ (Builtin.Dict.showsAll d >>= _) _ _ s from ?_)
 unfold Builtin.Dict.showsAll
 rw [if_neg (by rw [lo];exact Bool.false_ne_true)]
 refine wpAny_bind (wpAny_pure (wpAny_bind (wpAny_dictEntries ho hdat (wpAny_bind (wpAny_dictEpoch ho hdat ?_)))))
 refine wpAny_bind (wpAny_newObj_type (wpAny_pure ⟨_,rfl,"dict_keyiterator",_,⟨_,Heap.get?_push_size _ rfl,rfl⟩,PySem.F.slot_dict_keyiterator_next.lookup,?_⟩))
 simpa [rawInt,gO hk]using q
theorem sV {x:Value} {Q:Option Value->Shared->Prop} (st:s.heap.IsKeyIter j d i ks.length ep) (m:DEs s.heap d ks ep) (hx:ks[i]? =some x)
  (q: ∀ h',h'.IsKeyIter j d (i+1) ks.length ep->Heap.SameBut j s.heap h'->Q (some x) {s with heap:=h'}):wpAny (model prog w) A (pyNext (.ref j)) Q E s:=by
 have ty:=st.typeIs
 obtain ⟨o,ho,hc,hd⟩:=id st
 obtain ⟨od,es,hod,hcd,hdd,hk⟩:=m
 have hz:=gO hk
 have hlt:i<ks.length:=(List.getElem?_eq_some_iff.mp hx).1
 have hes:i<es.size:=by omega
 have hkey:es[i].key=x:=by
  have e1:(es.toList.map (·.key))[i]? =some x:=by rw [hk];exact hx
  rw [List.getElem?_map,Array.getElem?_toList,Array.getElem?_eq_getElem hes]at e1
  exact Option.some.inj e1
 unfold pyNext
 refine wpAny_bind (wpAny_attempt (wpAny_callSpecial?_slot (name:=Str.ofString "__next__") ty PySem.F.slot_dict_keyiterator_next (wpAny_call_entry PySem.F.slot_dict_keyiterator_next ty PySem.F.entry_dict_keyiterator_next ?_ (PySem.F.args_dict_keyiterator_next_1 _))))
 refine wpAny_bind (wpAny_pure (wpAny_bind (wpAny_bind ?_)))
 first | refine wpAny_bind (wpAny_typeNameOfWhole_keyiter ty (wpAny_pure (wpAny_bind (wpAny_fieldsOf ho hd ?_)))) | refine wpAny_bind (wpAny_typeNameOf_keyiter ty (wpAny_pure (wpAny_bind (wpAny_fieldsOf ho hd ?_))))
 have own:Builtin.Dict_items.ownsTuple "dict_keyiterator"=false:=by decide
 simp only [own,Bool.false_eq_true,if_false]
 refine (show wpAny _ _ (if (Value.ref d==Value.none)=true then _ else _) _ _ s from ?_)
 rw [if_neg fun b0:(Value.ref d==Value.none)=true=>Bool.false_ne_true b0]
 refine wpAny_bind (wpAny_pure (wpAny_bind (wpAny_dictEntries hod hdd ?_)))
 rw [if_neg (by rw [hz];simp)]
 refine wpAny_bind (wpAny_pure (wpAny_bind (wpAny_dictEpoch hod hdd ?_)))
 rw [if_neg (by simp)]
 refine wpAny_pure ?_
 simp only [show ¬ ((i:Int) <0)from by omega,if_false,Int.toNat_natCast,Array.getElem?_eq_getElem hes]
 refine wpAny_bind ?_
 first | refine wpAny_bind (wpAny_typeNameOfWhole_keyiter ty (wpAny_pure (wpAny_bind (wpAny_isOneOf_keyiter ty ?_)))) | refine wpAny_bind (wpAny_typeNameOf_keyiter ty (wpAny_pure (wpAny_bind (wpAny_isOneOf_keyiter ty ?_))))
 refine (show wpAny _ _ (setField (.ref j) 1 (rawInt ((i:Int) +1)) >>= _) _ _ s from ?_)
 refine wpAny_bind (wpAny_setField ho hd (by simp) ?_)
 have st':(s.heap.update j (Obj.mapFields (·.setIfInBounds 1 (rawInt ((i:Int) +1))))).IsKeyIter j d (i+1) ks.length ep:=by
  refine ⟨_,Heap.get?_update_self _ ho (Obj.isFreed_of_fields (Obj.data_mapFields hd _)),(Obj.cls_mapFields ..).trans hc,?_⟩
  rw [Obj.data_mapFields hd];simp [rawInt]
 refine wpAny_bind (wpAny_holding (wpAny_bind (wpAny_isOneOf_keyiter (s:={s with heap:=s.heap.update j (Obj.mapFields (·.setIfInBounds 1 (rawInt ((i:Int) +1))))}) st'.typeIs ?_)))
 refine (show wpAny _ _ (pure es[i].key) _ _ _ from ?_)
 rw [hkey]
 exact wpAny_pure (wpAny_pure ⟨_,rfl,wpAny_pure (q _ st' (Heap.SameBut.update ..))⟩)
theorem vm {Q:Option Value->Shared->Prop} (hh:A.handled=none) (st:s.heap.IsKeyIter j d i ks.length ep) (m:DEs s.heap d ks ep) (hx:ks.length<=i)
  (q: ∀ h',Heap.ExtBut j s.heap h'->Q none {s with heap:=h'}):wpAny (model prog w) A (pyNext (.ref j)) Q E s:=by
 have ty:=st.typeIs
 obtain ⟨o,ho,hc,hd⟩:=id st
 obtain ⟨od,es,hod,hcd,hdd,hk⟩:=m
 have hz:=gO hk
 unfold pyNext
 refine wpAny_bind (wpAny_attempt (wpAny_callSpecial?_slot (name:=Str.ofString "__next__") ty PySem.F.slot_dict_keyiterator_next (wpAny_call_entry PySem.F.slot_dict_keyiterator_next ty PySem.F.entry_dict_keyiterator_next ?_ (PySem.F.args_dict_keyiterator_next_1 _))))
 refine wpAny_bind (wpAny_pure (wpAny_bind (wpAny_bind ?_)))
 first | refine wpAny_bind (wpAny_typeNameOfWhole_keyiter ty (wpAny_pure (wpAny_bind (wpAny_fieldsOf ho hd ?_)))) | refine wpAny_bind (wpAny_typeNameOf_keyiter ty (wpAny_pure (wpAny_bind (wpAny_fieldsOf ho hd ?_))))
 have own:Builtin.Dict_items.ownsTuple "dict_keyiterator"=false:=by decide
 simp only [own,Bool.false_eq_true,if_false]
 refine (show wpAny _ _ (if (Value.ref d==Value.none)=true then _ else _) _ _ s from ?_)
 rw [if_neg fun b0:(Value.ref d==Value.none)=true=>Bool.false_ne_true b0]
 refine wpAny_bind (wpAny_pure (wpAny_bind (wpAny_dictEntries hod hdd ?_)))
 rw [if_neg (by rw [hz];simp)]
 refine wpAny_bind (wpAny_pure (wpAny_bind (wpAny_dictEpoch hod hdd ?_)))
 rw [if_neg (by simp)]
 refine wpAny_pure ?_
 have hge:es.size<=i:=by omega
 simp only [show ¬ ((i:Int) <0)from by omega,if_false,Int.toNat_natCast,Array.getElem?_eq_none hge]
 refine wpAny_bind ?_
 first | refine wpAny_bind (wpAny_typeNameOfWhole_keyiter ty (wpAny_pure ?_)) | refine wpAny_bind (wpAny_typeNameOf_keyiter ty (wpAny_pure ?_))
 refine (show wpAny _ _ (setField (.ref j) 0 .none >>= _) _ _ s from wpAny_bind (wpAny_setField ho hd (by simp) ?_))
 refine (show wpAny _ _ (newExc (.type "StopIteration") [] >>= _) _ _ _ from wpAny_bind ?_)
 simp only [newExc,newTuple]
 refine wpAny_bind (wpAny_newObj_type (wpAny_bind (m:=firstArgMember _ _) (wpAny_of_eq (a:=Value.none) (by first | rfl | (simp only [firstArgMember];rfl)) (wpAny_newObj_type ?_ (by size_fits)))) (by size_fits))
 simp only [raiseNew]
 refine wpAny_bind (wpAny_handled ?_)
 rw [show A.in1.handled=none from hh]
 refine (wpAny_bind (wpAny_pure (wpAny_throw (?_))))
 refine wpAny_bind (wpAny_isInstance (T:="StopIteration") (b:=true) ⟨_,Heap.get?_push_size _ rfl,rfl⟩ isSubtype_stop (wpAny_pure (q _ ?_)))
 exact ((Heap.SameBut.update ..).extBut.push _).push _
theorem pK (hh:A.handled=none) (hne:d≠j):Walks prog w A j [j,d] [j] ks.length (fun i v=>ks[i]? =some v) (fun i h=>h.IsKeyIter j d i ks.length ep/\DEs h d ks ep) where
 sub:=fun b hb=>by rw [List.mem_singleton.mp hb];exact List.mem_cons_self
 frame:=fun _ _ _ st k=>⟨st.1.at fun o e=>k j (by simp) o e,st.2.keeps fun o e=>k d (by simp) o e⟩
 item:=fun i s Q E hi st hQ=>by
  have hx:ks[i]? =some ks[i]:=List.getElem?_eq_getElem hi
  refine sV st.1 st.2 hx fun h' st' sb=>?_
  exact hQ _ h' s.toks hx ⟨st',st.2.keeps fun o e=>sb.extBut d o hne e⟩ fun b o hb e=>sb.extBut b o (fun z=>hb (by rw [z];exact List.mem_cons_self)) e
 done:=fun s Q E st hQ=>vm hh st.1 st.2 (Nat.le_refl _) fun h' eb=>hQ h' s.toks fun b o hb e=>eb b o (fun z=>hb (by rw [z];exact List.mem_cons_self)) e
 self:=fun _ _ _ _ st hQ=>wpAny_pyIter_keyiter st.1 hQ
theorem src_des (lo:(d==sysModules)=false):PySem.W.KdlSrc prog w "dict" d d ks.length (fun i v=>ks[i]? =some v) (fun h=>DEs h d ks ep) where
 type:=fun _ m=>m.type
 there:=fun _ m=>⟨m.lt,m.lt⟩
 keep:=fun _ _ m k=>m.keeps fun o e=>k d (.inl rfl) o e
 notList:=by decide
 notTuple:=by decide
 hint:=fun _ _ _ _ m q=>PySem.W.kdl_hint_dict m.type q
 iter:=fun _ _ hh m=>⟨_,_,fun _ _ q=>tQ lo m q,pK hh (Nat.ne_of_lt m.lt),⟨⟨_,Heap.get?_push_size _ rfl,rfl,rfl⟩,m.keeps fun o e=>Heap.get?_push_of_some _ e⟩⟩
end
end HT
namespace L2
open PySem PySem.Spec PyProof.Rows
section
variable {X:Cx}
noncomputable def KsOf (H:Hp):List V->List (List Key)->Prop:=Paired fun y ks=> ∃ b,y=.ref b/\H b=some (.tup (ks.map kV))
theorem KsOf.mono {H H':Hp} {ys:List V} {kss:List (List Key)} (h:KsOf H ys kss) (t: ∀ b xs,H b=some (.tup xs)->H' b=some (.tup xs)):KsOf H' ys kss:=
 Paired.mapP h fun _ _ ⟨b,e,hb⟩=>⟨b,e,t _ _ hb⟩
theorem tI {H:Hp} {kvs:List (List Key×V)} {xs:List (List Key×Addr×Value)} (r:KT H kvs xs):KsOf H (xs.map fun q=>V.ref q.2.1) (kvs.map (·.1)):=by
 induction r with
 | nil=>exact .nil
 | cons h _ ih=>exact .cons ⟨_,rfl,h.2.1⟩ ih
theorem oJ (hc:X.calm=true):dJ X (.type "list") (fun xs H Q=> ∃ a kvs,xs=[.ref a]/\H a=some (.dT kvs)/\ ∀ p ys,H p=none->KsOf H ys (kvs.map (·.1))->Q (.ref p) (upd H p (.lst ys))):=by
 intro pins s Z H xs us Q I r h
 obtain ⟨a,kvs,rfl,ha,q⟩:=h
 obtain ⟨u,rfl,ru⟩:=fZ r
 cases ru
 obtain ⟨hz,lo,ys,kt,o,es,ep,h1,h2,h3,h4,h5⟩:=(show ObjOk X.prog X.w H s.heap a (.dT kvs)from I.hok a _ ha)
 have hm:HT.DEs s.heap a (ys.map fun q=>Value.ref q.2.1) ep:=by
  refine ⟨o,es,h1,h2,h3,?_⟩
  rw [h4,List.map_map]
  rfl
 have hl:ys.length=kvs.length:=(Paired.length kt).symm
 refine PySem.W.kdl_call (HT.src_des lo) (I.ok.hd hc) hm (by rw [List.length_map];omega) fun h' tk acc c' kp e hi=>?_
 obtain ⟨i1,i2⟩:=hi
 have hacc:acc.toList=ys.map fun q=>Value.ref q.2.1:=by
  refine List.ext_getElem? fun i=>?_
  rw [Array.getElem?_toList]
  cases hv:acc[i]? with
  | some v=>exact (i2 i v hv).symm
  | none=>
   have:acc.size<=i:=Array.getElem?_eq_none_iff.mp hv
   exact (List.getElem?_eq_none (by rw [<- i1];exact this)).symm
 have rv:Vals (ys.map fun q=>V.ref q.2.1) (ys.map fun q=>Value.ref q.2.1):=by
  clear kt h4 h5 hl i1 i2 hacc hm
  induction ys with
  | nil=>exact .nil
  | cons y r ih=>exact .cons rfl ih
 refine ⟨.ref s.heap.objs.size,_,I.laid (t':=tk) (o:=.lst (ys.map fun q=>V.ref q.2.1)) kp (Nat.le_refl _) ?_,rfl,q _ _ (I.hok.fresh (Nat.le_refl _)) (tI kt)⟩
 refine ⟨by rw [List.length_map];omega,_,c',rv,?_⟩
 rw [<- hacc,Array.toArray_toList]
 exact e
end
section
variable {X:Cx}
instance yn (ks:List Key) (kss:List (List Key)):Decidable (ks∈kss):=decidable_of_iff (kss.any (fun l=>decide (l=ks))=true) ⟨fun h=>by
  obtain ⟨x,hx,e⟩:=List.any_eq_true.mp h
  rw [<- of_decide_eq_true e]
  exact hx,fun h=>List.any_eq_true.mpr ⟨ks,h,decide_eq_true rfl⟩⟩
theorem iw (K:PySem.W.Frag) (t:String) (ht:t∈["NoneType","bool","int","str","list","tuple","dict"]):
  PySem.W.kitAny K (.type t) [.type "tuple",.type "list"]=some (t=="tuple"||t=="list"):=by
 simp only [List.mem_cons,List.not_mem_nil,or_false]at ht
 rcases ht with rfl | rfl | rfl | rfl | rfl | rfl | rfl <;> first | rfl | (with_unfolding_all rfl) | (with_unfolding_all decide)
inductive TL (H:Hp):V->Bool->Prop where
 | str (z:Str):TL H (.str z) false
 | int (i:Int):TL H (.int i) false
 | tup {a:Addr} {xs:List V}:H a=some (.tup xs)->TL H (.ref a) true
 | lst {a:Addr} {xs:List V}:H a=some (.lst xs)->TL H (.ref a) true
theorem qK:dJ X (.builtin "isinstance") (fun xs H Q=> ∃ x p b,xs=[x,.ref p]/\H p=some (.tup [.ty "tuple",.ty "list"])/\TL H x b/\Q (.bl b) H):=by
 intro pins s Z H xs us Q I r h
 obtain ⟨x,p,b,rfl,hp,ty,q⟩:=h
 obtain ⟨u,w',rfl,rx,rp⟩:=jv r
 cases (show w'=Value.ref p from rp)
 obtain ⟨_,its,rv,o,h1,h2,n,h3⟩:=(show ObjOk X.prog X.w H s.heap p (.tup [.ty "tuple",.ty "list"])from I.hok p _ hp)
 obtain ⟨u1,u2,rfl,r1,r2⟩:=jv rv
 cases (show u1=Value.type "tuple" from r1)
 cases (show u2=Value.type "list" from r2)
 obtain ⟨c,d,dt,sl⟩:=o
 simp only at h2 h3
 subst h2 h3
 have k: ∀ tk,EP X pins Z Q (.bool b) {s with toks:=tk}:=fun tk=>⟨.bl b,H,I.tok tk,rfl,q⟩
 cases ty with
 | int i=>
  obtain ⟨t,e⟩:=(show ∃ t,u=Value.int i t from rx)
  cases e
  exact PySem.W.kia_tup PySem.W.kitx_int I.kIn True.intro h1 (iw _ "int" (by simp)) (fun z=>nomatch z) k
 | str y=>
  obtain ⟨t,e⟩:=(show ∃ t,u=Value.str y t from rx)
  cases e
  exact PySem.W.kia_tup PySem.W.kitx_str I.kIn True.intro h1 (iw _ "str" (by simp)) (fun z=>nomatch z) k
 | @lst a xs ea=>
  cases (show u=Value.ref a from rx)
  obtain ⟨_,_,_,_,h4⟩:=(show ObjOk X.prog X.w H s.heap a (.lst xs)from I.hok a _ ea)
  exact PySem.W.kia_tup PySem.W.kitx_list I.kIn ⟨_,h4,rfl⟩ h1 (iw _ "list" (by simp)) (fun z=>nomatch z) k
 | @tup a xs ea=>
  cases (show u=Value.ref a from rx)
  obtain ⟨_,_,_,o2,h4,h5,_⟩:=(show ObjOk X.prog X.w H s.heap a (.tup xs)from I.hok a _ ea)
  exact PySem.W.kia_tup PySem.W.kitx_tuple I.kIn ⟨o2,h4,h5⟩ h1 (iw _ "tuple" (by simp)) (fun z=>nomatch z) k
end
end L2
namespace HT
open PySem PyProof.Rows
section
variable {prog:Program} {w:World} {A:Around} {s:Shared} {E:Value->Shared->Prop} {j t:Addr} {i:Nat} {items:Array Value}
theorem ue {x:Value} {Q:Value->Shared->Prop} (st:s.heap.IsTupleIter j t i) (ht:s.heap.IsTuple t items) (hx:items[i]? =some x)
  (q: ∀ h',h'.IsTupleIter j t (i+1)->Heap.SameBut j s.heap h'->Q x {s with heap:=h'}):wpAny (model prog w) A (Builtin.SmallTypes.nextOf (.ref j)) Q E s:=by
 have ty:=st.typeIs
 obtain ⟨o,ho,hc,hd⟩:=id st
 obtain ⟨ol,hol,_,nl,hdl⟩:=ht
 unfold Builtin.SmallTypes.nextOf
 refine wpAny_bind (wpAny_callSpecial?_slot (name:=Str.ofString "__next__") ty PySem.F.slot_tuple_iterator_next (wpAny_call_entry PySem.F.slot_tuple_iterator_next ty PySem.F.entry_tuple_iterator_next ?_ (PySem.F.args_tuple_iterator_next_1 _)))
 refine (show wpAny _ _ (field (.ref j) 0 >>= _) _ _ s from wpAny_bind (wpAny_field ho hd (x:=.ref t) rfl ?_))
 refine (show wpAny _ _ (if (Value.ref t==Value.none)=true then _ else _) _ _ s from ?_)
 rw [if_neg fun b0:(Value.ref t==Value.none)=true=>Bool.false_ne_true b0]
 refine (show wpAny _ _ (field (.ref j) 1 >>= _) _ _ s from wpAny_bind (wpAny_field ho hd (x:=.int i 0) rfl ?_))
 refine (show wpAny _ _ (seqItems? (.ref t) >>= _) _ _ s from wpAny_bind (wpAny_seqItems hol hdl ?_))
 simp only [Int.toNat_natCast,hx]
 refine wpAny_bind (wpAny_setField ho hd (by simp) (wpAny_pure ⟨x,rfl,wpAny_pure (q _ ⟨_,Heap.get?_update_self _ ho (Obj.isFreed_of_fields (Obj.data_mapFields hd _)),(Obj.cls_mapFields ..).trans hc,?_⟩ (Heap.SameBut.update ..))⟩))
 rw [Obj.data_mapFields hd];simp [rawInt]
theorem nr {Q:Value->Shared->Prop} (hh:A.handled=none) (st:s.heap.IsTupleIter j t i) (ht:s.heap.IsTuple t items) (hx:items[i]? =none)
  (q: ∀ h' e,Heap.ExtBut j s.heap h'->(∃ o,h'.get? e=some o/\o.cls=.type "StopIteration")->E (.ref e) {s with heap:=h'}):wpAny (model prog w) A (Builtin.SmallTypes.nextOf (.ref j)) Q E s:=by
 have ty:=st.typeIs
 obtain ⟨o,ho,hc,hd⟩:=id st
 obtain ⟨ol,hol,_,nl,hdl⟩:=ht
 unfold Builtin.SmallTypes.nextOf
 refine wpAny_bind (wpAny_callSpecial?_slot (name:=Str.ofString "__next__") ty PySem.F.slot_tuple_iterator_next (wpAny_call_entry PySem.F.slot_tuple_iterator_next ty PySem.F.entry_tuple_iterator_next ?_ (PySem.F.args_tuple_iterator_next_1 _)))
 refine (show wpAny _ _ (field (.ref j) 0 >>= _) _ _ s from wpAny_bind (wpAny_field ho hd (x:=.ref t) rfl ?_))
 refine (show wpAny _ _ (if (Value.ref t==Value.none)=true then _ else _) _ _ s from ?_)
 rw [if_neg fun b0:(Value.ref t==Value.none)=true=>Bool.false_ne_true b0]
 refine (show wpAny _ _ (field (.ref j) 1 >>= _) _ _ s from wpAny_bind (wpAny_field ho hd (x:=.int i 0) rfl ?_))
 refine (show wpAny _ _ (seqItems? (.ref t) >>= _) _ _ s from wpAny_bind (wpAny_seqItems hol hdl ?_))
 simp only [Int.toNat_natCast,hx]
 refine wpAny_bind (wpAny_rule (wpAny_bind (wpAny_setField ho hd (by simp) (show wpAny _ _ (newExc (.type "StopIteration") [] >>= _) _ _ _ from wpAny_bind ?_))))
 simp only [newExc,newTuple]
 refine wpAny_bind (wpAny_newObj_type (wpAny_bind (m:=firstArgMember _ _) (wpAny_of_eq (a:=Value.none) (by first | rfl | (simp only [firstArgMember];rfl)) (wpAny_newObj_type ?_ (by size_fits)))) (by size_fits))
 simp only [raiseNew]
 refine wpAny_bind (wpAny_handled ?_)
 rw [show A.in1.handled=none from hh]
 exact wpAny_bind (wpAny_pure (wpAny_throw (q _ _ (((Heap.SameBut.update ..).extBut.push _).push _) ⟨_,Heap.get?_push_size _ rfl,rfl⟩)))
noncomputable def SIter (c:Bool) (h:Heap) (j l:Addr) (i:Nat):Prop:=if c=true then h.IsTupleIter j l i else h.IsListIter j l i
noncomputable def SSeq (c:Bool) (h:Heap) (l:Addr) (items:Array Value):Prop:=if c=true then h.IsTuple l items else h.IsList l items
theorem SIter.obj {c:Bool} {h:Heap} {l:Addr} (x:SIter c h j l i): ∃ o,h.get? j=some o/\ ∀ v,o.data≠ .cell v:=by
 cases c with
 | true=>obtain ⟨o,e,_,d⟩:=(show h.IsTupleIter j l i from x);exact ⟨o,e,fun v z=>by rw [d]at z;cases z⟩
 | false=>obtain ⟨o,e,_,d⟩:=(show h.IsListIter j l i from x);exact ⟨o,e,fun v z=>by rw [d]at z;cases z⟩
theorem SIter.at {c:Bool} {h h':Heap} {l:Addr} (x:SIter c h j l i) (k: ∀ o,h.get? j=some o->h'.get? j=some o):SIter c h' j l i:=by
 cases c with
 | true=>obtain ⟨o,e,r⟩:=(show h.IsTupleIter j l i from x);exact (show h'.IsTupleIter j l i from ⟨o,k o e,r⟩)
 | false=>obtain ⟨o,e,r⟩:=(show h.IsListIter j l i from x);exact (show h'.IsListIter j l i from ⟨o,k o e,r⟩)
theorem SSeq.at {c:Bool} {h h':Heap} {l:Addr} (x:SSeq c h l items) (k: ∀ o,h.get? l=some o->h'.get? l=some o):SSeq c h' l items:=by
 cases c with
 | true=>obtain ⟨o,e,r⟩:=(show h.IsTuple l items from x);exact (show h'.IsTuple l items from ⟨o,k o e,r⟩)
 | false=>obtain ⟨o,e,r⟩:=(show h.IsList l items from x);exact (show h'.IsList l items from ⟨o,k o e,r⟩)
theorem draws_seq (c:Bool) (hh:A.handled=none) (j l:Addr) (hne:l≠j) (items:Array Value):
  Draws prog w A j [j,l] items.size (fun i v=>items[i]? =some v) (fun i h=>SIter c h j l i/\SSeq c h l items) where
 live:=fun _ _ st=>let ⟨o,e,_⟩:=st.1.obj;⟨o,e⟩
 frame:=fun _ _ _ st k=>⟨st.1.at fun o e=>k j (by simp) o e,st.2.at fun o e=>k l (by simp) o e⟩
 item:=fun i s Q E hi st hQ=>by
  have hx:items[i]? =some items[i]:=Array.getElem?_eq_getElem hi
  cases c with
  | true=>exact ue st.1 st.2 hx fun h' st' sb=>hQ _ h' s.toks hx ⟨st',st.2.at fun o e=>sb.extBut l o hne e⟩ sb
  | false=>exact wpAny_nextOf_list_item st.1 st.2 hx fun h' st' sb=>hQ _ h' s.toks hx ⟨st',st.2.at fun o e=>sb.extBut l o hne e⟩ sb
 done:=fun s Q E st hE=>by
  cases c with
  | true=>exact nr hh st.1 st.2 (by simp) hE
  | false=>exact wpAny_nextOf_list_end hh st.1 st.2 (by simp) hE
end
structure ZAp (z TI TO i1 i2:Addr) (f1 f2:List Addr):Prop where
 tz:TI≠z
 oz:TO≠z
 a1z:i1≠z
 a2z:i2≠z
 to:TI≠TO
 t1:TI≠i1
 t2:TI≠i2
 o1:TO≠i1
 o2:TO≠i2
 ii:i1≠i2
 z1:z∉f1
 z2:z∉f2
 p1:TO∉f1
 p2:TO∉f2
 q1:i2∉f1
 q2:i1∉f2
section
variable {prog:Program} {w:World} {A:Around} {s:Shared} {E:Value->Shared->Prop} {z TI TO i1 i2:Addr} {f1 f2:List Addr} {n1 n2 k:Nat} {P1 P2:Nat->Value->Prop} {S1 S2:Nat->Heap->Prop} {a b:Value}
theorem qN {Q:Value->Shared->Prop} (D1:Draws prog w A i1 f1 n1 P1 S1) (D2:Draws prog w A i2 f2 n2 P2 S2) (D:ZAp z TI TO i1 i2 f1 f2)
  (hz:IsZip s.heap z TI TO .none) (hTI:IsPair s.heap TI (.ref i1) (.ref i2)) (hTO:IsPair s.heap TO a b) (st1:S1 k s.heap) (st2:S2 k s.heap) (k1:k<n1) (k2:k<n2)
  (q: ∀ x y h' tk,P1 k x->P2 k y->IsZip h' z TI TO (rawInt s.heap.objs.size)->IsPair h' TO x y->S1 (k+1) h'->S2 (k+1) h'->IsPair h' s.heap.objs.size x y->
   (∀ c o,c≠z->c≠TO->c≠i1->c≠i2->s.heap.get? c=some o->h'.get? c=some o)->Q (.ref s.heap.objs.size) {s with heap:=h',toks:=tk}):
  wpAny (model prog w) A (Builtin.«zip.__next__» ⟨[.ref z],[]⟩) (fun fin s'=> ∃ v,fin=.done (.ret v)/\Q v s') E s:=by
 refine (show wpAny _ _ (field (.ref z) 2 >>= _) _ _ _ from wpAny_bind (wpAny_field hz rfl (x:=.bool false) rfl ?_))
 refine (show wpAny _ _ (field (.ref z) 3 >>= _) _ _ _ from wpAny_bind (wpAny_field hz rfl (x:=.ref TI) rfl (wpAny_bind (wpAny_seqItems hTI rfl ?_))))
 refine (show wpAny _ _ (Builtin.SmallTypes.ownedTupleIsFree (.ref z) >>= _) _ _ _ from wpAny_bind ?_)
 unfold Builtin.SmallTypes.ownedTupleIsFree
 refine wpAny_bind (wpAny_field hz rfl (x:=.none) rfl (wpAny_pure ?_))
 simp only [if_true]
 refine wpAny_bind (wpAny_rule (wpAny_bind (wpAny_field hz rfl (x:=.ref TO) rfl (wpAny_bind (wpAny_setField_rec hz (by simp) fun g1 zz1 sb1=>?_)))))
 replace zz1:IsZip g1 z TI TO .ellipsis:=zz1
 refine wpAny_bind ?_
 simp only [List.zipIdx_cons,List.zipIdx_nil,List.forIn_cons,List.forIn_nil]
 refine wpAny_bind (wpAny_bind (wpAny_onRaise (show wpAny _ _ (Builtin.SmallTypes.nextOf (.ref i1) >>= _) _ _ _ from ?_)))
 refine wpAny_bind (D1.item k _ _ _ k1 (D1.frame k s.heap g1 st1 fun c hc o e=>sb1.extBut c o (fun x=>D.z1 (x▸hc)) e) fun x g2 tk2 hx s1' sb2=>wpAny_pure ?_)
 have to2:IsPair g2 TO a b:=sb2.extBut _ _ D.o1 (sb1.extBut _ _ D.oz hTO)
 refine wpAny_bind (wpAny_seqItems to2 rfl (wpAny_bind (wpAny_updateSeq_pair to2 fun g3 to3 sb3=>?_)))
 replace to3:IsPair g3 TO x b:=to3
 refine wpAny_bind (wpAny_letGo (wpAny_pure ?_))
 refine wpAny_bind (wpAny_bind (wpAny_onRaise (show wpAny _ _ (Builtin.SmallTypes.nextOf (.ref i2) >>= _) _ _ _ from ?_)))
 refine wpAny_bind (D2.item k _ _ _ k2 (D2.frame k s.heap g3 st2 fun c hc o e=>?_) fun y g4 tk4 hy s2' sb4=>wpAny_pure ?_)
 ·exact sb3.extBut c o (fun x=>D.p2 (x▸hc)) (sb2.extBut c o (fun x=>D.q2 (x▸hc)) (sb1.extBut c o (fun x=>D.z2 (x▸hc)) e))
 have to4:IsPair g4 TO x b:=sb4.extBut _ _ D.o2 to3
 refine wpAny_bind (wpAny_seqItems to4 rfl (wpAny_bind (wpAny_updateSeq_pair to4 fun g5 to5 sb5=>?_)))
 replace to5:IsPair g5 TO x y:=to5
 refine wpAny_bind (wpAny_letGo (wpAny_pure (wpAny_pure ?_)))
 refine wpAny_bind (wpAny_seqItems to5 rfl (wpAny_bind (wpAny_newTuple ?_)))
 have sz:g5.objs.size=s.heap.objs.size:=by rw [sb5.1,sb4.1,sb3.1,sb2.1,sb1.1]
 have zz5:IsZip g5 z TI TO .ellipsis:=sb5.extBut _ _ D.oz.symm (sb4.extBut _ _ D.a2z.symm (sb3.extBut _ _ D.oz.symm (sb2.extBut _ _ D.a1z.symm zz1)))
 have kk5: ∀ c o,c≠z->c≠TO->c≠i1->c≠i2->s.heap.get? c=some o->g5.get? c=some o:=fun c o c1 c2 c3 c4 e=>
  sb5.extBut c o c2 (sb4.extBut c o c4 (sb3.extBut c o c2 (sb2.extBut c o c3 (sb1.extBut c o c1 e))))
 have zlt:z<g5.objs.size:=Heap.lt_size zz5
 refine (show wpAny _ _ (Builtin.SmallTypes.ownedTupleHandOut (.ref z) (.ref g5.objs.size) >>= _) _ _ _ from wpAny_bind ?_)
 unfold Builtin.SmallTypes.ownedTupleHandOut
 have zz6:IsZip (g5.push {cls:=.type "tuple",data:=.seq #[x,y]}) z TI TO .ellipsis:=Heap.get?_push_of_some _ zz5
 refine wpAny_bind (wpAny_setField_rec zz6 (by simp) fun g7 zz7 sb7=>?_)
 replace zz7:IsZip g7 z TI TO (rawInt g5.objs.size):=zz7
 refine wpAny_setField_rec zz7 (by simp) fun g8 zz8 sb8=>?_
 replace zz8:IsZip g8 z TI TO (rawInt g5.objs.size):=zz8
 have up: ∀ c o,c≠z->g5.get? c=some o->g8.get? c=some o:=fun c o c1 e=>sb8.extBut c o c1 (sb7.extBut c o c1 (Heap.get?_push_of_some _ e))
 have tt8:IsPair g8 g5.objs.size x y:=sb8.extBut _ _ (Nat.ne_of_gt zlt) (sb7.extBut _ _ (Nat.ne_of_gt zlt) (Heap.get?_push_size _ rfl))
 rw [sz]at zz8 tt8
 refine wpAny_pure ⟨_,rfl,(show Q (.ref g5.objs.size) _ from ?_)⟩
 rw [sz]
 refine q x y g8 _ hx hy zz8 (up _ _ D.oz to5) ?_ ?_ tt8 fun c o c1 c2 c3 c4 e=>up c o c1 (kk5 c o c1 c2 c3 c4 e)
 ·refine D1.frame (k+1) g2 g8 s1' fun c hc o e=>up c o (fun x=>D.z1 (x▸hc)) (sb5.extBut c o (fun x=>D.p1 (x▸hc)) (sb4.extBut c o (fun x=>D.q1 (x▸hc)) (sb3.extBut c o (fun x=>D.p1 (x▸hc)) e)))
 ·exact D2.frame (k+1) g4 g8 s2' fun c hc o e=>up c o (fun x=>D.z2 (x▸hc)) (sb5.extBut c o (fun x=>D.p2 (x▸hc)) e)
theorem lI {Q:Fin->Shared->Prop} (D1:Draws prog w A i1 f1 n1 P1 S1) (D:ZAp z TI TO i1 i2 f1 f2)
  (hz:IsZip s.heap z TI TO .none) (hTI:IsPair s.heap TI (.ref i1) (.ref i2)) (hTO:IsPair s.heap TO a b) (st1:S1 n1 s.heap)
  (q: ∀ h' e,(∀ c o,c≠z->c≠TO->c≠i1->c≠i2->s.heap.get? c=some o->h'.get? c=some o)->(∃ o,h'.get? e=some o/\o.cls=.type "StopIteration")->E (.ref e) {s with heap:=h'}):
  wpAny (model prog w) A (Builtin.«zip.__next__» ⟨[.ref z],[]⟩) Q E s:=by
 refine (show wpAny _ _ (field (.ref z) 2 >>= _) _ _ _ from wpAny_bind (wpAny_field hz rfl (x:=.bool false) rfl ?_))
 refine (show wpAny _ _ (field (.ref z) 3 >>= _) _ _ _ from wpAny_bind (wpAny_field hz rfl (x:=.ref TI) rfl (wpAny_bind (wpAny_seqItems hTI rfl ?_))))
 refine (show wpAny _ _ (Builtin.SmallTypes.ownedTupleIsFree (.ref z) >>= _) _ _ _ from wpAny_bind ?_)
 unfold Builtin.SmallTypes.ownedTupleIsFree
 refine wpAny_bind (wpAny_field hz rfl (x:=.none) rfl (wpAny_pure ?_))
 simp only [if_true]
 refine wpAny_bind (wpAny_rule (wpAny_bind (wpAny_field hz rfl (x:=.ref TO) rfl (wpAny_bind (wpAny_setField_rec hz (by simp) fun g1 zz1 sb1=>?_)))))
 replace zz1:IsZip g1 z TI TO .ellipsis:=zz1
 refine wpAny_bind ?_
 simp only [List.zipIdx_cons,List.zipIdx_nil,List.forIn_cons,List.forIn_nil]
 refine wpAny_bind (wpAny_bind (wpAny_onRaise (show wpAny _ _ (Builtin.SmallTypes.nextOf (.ref i1) >>= _) _ _ _ from ?_)))
 refine wpAny_bind (D1.done _ _ _ (D1.frame n1 s.heap g1 st1 fun c hc o e=>sb1.extBut c o (fun x=>D.z1 (x▸hc)) e) fun g2 e eb2 he=>?_)
 obtain ⟨oe,hoe,hce⟩:=he
 have zz2:IsZip g2 z TI TO .ellipsis:=eb2 _ _ D.a1z.symm zz1
 have ez:e≠z:=fun x=>by subst x;rw [zz2]at hoe;cases hoe;simp at hce
 exact wpAny_setField_rec zz2 (by simp) fun g3 _ sb3=>q g3 e (fun c o c1 _ c3 _ x=>sb3.extBut c o c1 (eb2 c o c3 (sb1.extBut c o c1 x))) ⟨oe,sb3.extBut _ _ ez hoe,hce⟩
theorem next_zip {Q:Option Value->Shared->Prop} (D1:Draws prog w A.in1 i1 f1 n1 P1 S1) (D2:Draws prog w A.in1 i2 f2 n2 P2 S2) (D:ZAp z TI TO i1 i2 f1 f2)
  (hz:IsZip s.heap z TI TO .none) (hTI:IsPair s.heap TI (.ref i1) (.ref i2)) (hTO:IsPair s.heap TO a b) (st1:S1 k s.heap) (st2:S2 k s.heap) (k1:k<n1) (k2:k<n2)
  (q: ∀ x y h' tk,P1 k x->P2 k y->IsZip h' z TI TO (rawInt s.heap.objs.size)->IsPair h' TO x y->S1 (k+1) h'->S2 (k+1) h'->IsPair h' s.heap.objs.size x y->
   (∀ c o,c≠z->c≠TO->c≠i1->c≠i2->s.heap.get? c=some o->h'.get? c=some o)->Q (some (.ref s.heap.objs.size)) {s with heap:=h',toks:=tk}):
  wpAny (model prog w) A (pyNext (.ref z)) Q E s:=by
 have ty:s.TypeIs (.ref z) "zip":=⟨_,hz,rfl⟩
 unfold pyNext
 exact wpAny_bind (wpAny_attempt (wpAny_callSpecial?_slot (name:=Str.ofString "__next__") ty PySem.F.slot_zip_next (wpAny_call_entry PySem.F.slot_zip_next ty PySem.F.entry_zip_next
  (qN D1 D2 D hz hTI hTO st1 st2 k1 k2 fun x y h' tk a0 b0 a1 a2 a3 a4 a5 a6=>wpAny_pure (q x y h' tk a0 b0 a1 a2 a3 a4 a5 a6)) (PySem.F.args_zip_next_1 _))))
theorem end_zip {Q:Option Value->Shared->Prop} (D1:Draws prog w A.in1 i1 f1 n1 P1 S1) (D:ZAp z TI TO i1 i2 f1 f2)
  (hz:IsZip s.heap z TI TO .none) (hTI:IsPair s.heap TI (.ref i1) (.ref i2)) (hTO:IsPair s.heap TO a b) (st1:S1 n1 s.heap)
  (q: ∀ h',(∀ c o,c≠z->c≠TO->c≠i1->c≠i2->s.heap.get? c=some o->h'.get? c=some o)->Q none {s with heap:=h'}):wpAny (model prog w) A (pyNext (.ref z)) Q E s:=by
 have ty:s.TypeIs (.ref z) "zip":=⟨_,hz,rfl⟩
 unfold pyNext
 refine wpAny_bind (wpAny_attempt (wpAny_callSpecial?_slot (name:=Str.ofString "__next__") ty PySem.F.slot_zip_next (wpAny_call_entry PySem.F.slot_zip_next ty PySem.F.entry_zip_next
  (lI D1 D hz hTI hTO st1 fun h' e kk he=>?_) (PySem.F.args_zip_next_1 _))))
 obtain ⟨o,ho,hc⟩:=he
 exact wpAny_bind (wpAny_isInstance (T:="StopIteration") (b:=true) ⟨o,ho,hc⟩ isSubtype_stop (wpAny_pure (q _ kk)))
end
section
variable {prog:Program} {w:World} {A:Around} {s:Shared} {E:Value->Shared->Prop}
noncomputable def tIt (l:Addr):Obj:={cls:=.type "tuple_iterator",data:=.fields #[.ref l,.int 0 0]}
noncomputable def zG2 (h:Heap) (l1 l2:Addr):Heap:=(h.push (tIt l1)).push (tIt l2)
noncomputable def zG3 (h:Heap) (l1 l2:Addr):Heap:=(zG2 h l1 l2).push {cls:=.type "tuple",data:=.seq #[.ref h.objs.size,.ref (h.push (tIt l1)).objs.size]}
noncomputable def zG4 (h:Heap) (l1 l2:Addr):Heap:=(zG3 h l1 l2).push {cls:=.type "tuple",data:=.seq #[.none,.none]}
noncomputable def zG5 (h:Heap) (l1 l2:Addr):Heap:=(zG4 h l1 l2).push {cls:=.type "zip",data:=.fields #[.none,.bool false,.bool false,.ref (zG2 h l1 l2).objs.size,.ref (zG3 h l1 l2).objs.size]}
theorem qM (l1 l2:Addr) (xs ys:Array Value):Meets (Builtin.«zip.__new__» ⟨[.type "zip",.ref l1,.ref l2],[]⟩)
  (fun _ R s=>s.heap.IsTuple l1 xs/\s.heap.IsTuple l2 ys/\R (.ok (.ret (.ref (zG4 s.heap l1 l2).objs.size))) {s with heap:=zG5 s.heap l1 l2}):=
 .of_wp fun prog w A R s h=>by
  obtain ⟨hp,g,d,tk,os⟩:=s
  obtain ⟨a1,a2,h⟩:=h
  have sub:=sub_zip
  have b1:Heap.IsTuple (Shared.heap ⟨hp,g,d,tk,os⟩) l1 xs:=a1
  have b2:Heap.IsTuple (Shared.heap ⟨hp.push {cls:=.type "tuple_iterator",data:=.fields #[.ref l1,.int 0 0]},g,d,tk,os⟩) l2 ys:=Heap.IsTuple.push a2 _
  wp_walk using wpAny_pyIter_tuple b1,wpAny_pyIter_tuple b2
  exact ⟨_,rfl,h⟩
theorem call_zipS {c:Bool} {l1 l2:Addr} {xs ys:Array Value} {Q:Value->Shared->Prop} (a1:SSeq c s.heap l1 xs) (a2:SSeq c s.heap l2 ys)
  (q: ∀ h',IsZip h' (s.heap.objs.size+4) (s.heap.objs.size+2) (s.heap.objs.size+3) .none->IsPair h' (s.heap.objs.size+2) (.ref s.heap.objs.size) (.ref (s.heap.objs.size+1))->
   IsPair h' (s.heap.objs.size+3) .none .none->SIter c h' s.heap.objs.size l1 0->SIter c h' (s.heap.objs.size+1) l2 0->
   (∀ b o,s.heap.get? b=some o->h'.get? b=some o)->Q (.ref (s.heap.objs.size+4)) {s with heap:=h'}):wpAny (model prog w) A (call (.type "zip") [.ref l1,.ref l2]) Q E s:=by
 cases c with
 | false=>exact call_zip_2 a1 a2 fun h' b1 b2 b3 b4 b5 _ b7=>q h' b1 b2 b3 b4 b5 b7
 | true=>
  refine callType_new PySem.F.called_zip (by decide) (PySem.F.typeCall_zip_2 _ _) (PySem.F.newCall_zip_2 _ _) (fun obj=>PySem.F.args_object_init_3 obj _ _) PySem.F.entry_zip_new (qM l1 l2 xs ys) ⟨a1,a2,?_⟩
  have z1:(s.heap.push (tIt l1)).objs.size=s.heap.objs.size+1:=Heap.size_push ..
  have z2:(zG2 s.heap l1 l2).objs.size=s.heap.objs.size+2:=by unfold zG2;rw [Heap.size_push,z1]
  have z3:(zG3 s.heap l1 l2).objs.size=s.heap.objs.size+3:=by unfold zG3;rw [Heap.size_push,z2]
  have z4:(zG4 s.heap l1 l2).objs.size=s.heap.objs.size+4:=by unfold zG4;rw [Heap.size_push,z3]
  have g5:(zG5 s.heap l1 l2).get? (zG4 s.heap l1 l2).objs.size=some {cls:=.type "zip",data:=.fields #[.none,.bool false,.bool false,.ref (zG2 s.heap l1 l2).objs.size,.ref (zG3 s.heap l1 l2).objs.size]}:=Heap.get?_push_size _ rfl
  have g4:(zG5 s.heap l1 l2).get? (zG3 s.heap l1 l2).objs.size=some {cls:=.type "tuple",data:=.seq #[.none,.none]}:=Heap.get?_push_of_some _ (Heap.get?_push_size _ rfl)
  have g3:(zG5 s.heap l1 l2).get? (zG2 s.heap l1 l2).objs.size=some {cls:=.type "tuple",data:=.seq #[.ref s.heap.objs.size,.ref (s.heap.push (tIt l1)).objs.size]}:=Heap.get?_push_of_some _ (Heap.get?_push_of_some _ (Heap.get?_push_size _ rfl))
  have g2:(zG5 s.heap l1 l2).get? (s.heap.push (tIt l1)).objs.size=some (tIt l2):=Heap.get?_push_of_some _ (Heap.get?_push_of_some _ (Heap.get?_push_of_some _ (Heap.get?_push_size _ rfl)))
  have g1:(zG5 s.heap l1 l2).get? s.heap.objs.size=some (tIt l1):=Heap.get?_push_of_some _ (Heap.get?_push_of_some _ (Heap.get?_push_of_some _ (Heap.get?_push_of_some _ (Heap.get?_push_size _ rfl))))
  show _/\_
  rw [z2,z3,z4]at g5
  rw [z1,z2]at g3
  rw [z3]at g4
  rw [z1]at g2
  rw [z4]
  exact ⟨⟨_,g5,rfl⟩,q _ g5 g3 g4 (show Heap.IsTupleIter _ _ _ _ from ⟨_,g1,rfl,rfl⟩) (show Heap.IsTupleIter _ _ _ _ from ⟨_,g2,rfl,rfl⟩) fun b o x=>
   Heap.get?_push_of_some _ (Heap.get?_push_of_some _ (Heap.get?_push_of_some _ (Heap.get?_push_of_some _ (Heap.get?_push_of_some _ x))))⟩
end
end HT
namespace L2
open PySem PySem.Spec PyProof.Rows
noncomputable def eh (c:Bool) (xs:List V):HO:=if c=true then .tup xs else .lst xs
theorem lX {c:Bool} {xs ys:List V} (h:eh c xs=eh c ys):xs=ys:=by
 cases c with
 | true=>exact HO.tup.inj h
 | false=>exact HO.lst.inj h
theorem Inv.seqS {X:Cx} {pins:List (Addr×Obj)} {Z:St} {H:Hp} {s:Shared} {c:Bool} {a:Addr} {xs:List V} (I:Inv X pins Z H s) (h:H a=some (eh c xs)): ∃ its:List Value,Vals xs its/\HT.SSeq c s.heap a its.toArray/\xs.length<=sizeLine:=by
 cases c with
 | true=>obtain ⟨its,r,p,z⟩:=I.tuple (SqT.of (K:=X.K) h);exact ⟨its,r,p,z⟩
 | false=>obtain ⟨its,r,p,z⟩:=I.list (SqL.of (K:=X.K) h);exact ⟨its,r,p.isList,z⟩
noncomputable def Itz (c:Bool) (l1 l2:Addr):It:=
 ⟨fun i H=> ∃ xs ys x y,H l1=some (eh c xs)/\H l2=some (eh c ys)/\xs[i]? =some x/\ys[i]? =some y,
  fun i H v H'=> ∃ T x y,H T=none/\v=.ref T/\H'=upd H T (.tup [x,y])/\ ∀ xs ys,H l1=some (eh c xs)->H l2=some (eh c ys)->xs[i]? =some x/\ys[i]? =some y,
  fun i H=> ∃ xs ys,H l1=some (eh c xs)/\H l2=some (eh c ys)/\xs.length=i/\ys.length=i⟩
noncomputable def ZAt (c:Bool) (z TI TO i1 i2 l1 l2:Addr) (i:Nat) (h:Heap):Prop:=IsZip h z TI TO .none/\IsPair h TI (.ref i1) (.ref i2)/\(∃ a b,IsPair h TO a b)/\HT.SIter c h i1 l1 i/\HT.SIter c h i2 l2 i
theorem fp5 {z TI TO i1 i2 b:Addr} (h:b∈[z,TI,TO,i1,i2]):b=z\/b=TI\/b=TO\/b=i1\/b=i2:=by simpa using h
theorem qT {P:Program} {w:World} {K:PySem.W.Frag} {es:List Expr} {kk:Nat} {tpos:Pos} (c:Bool) (z TI TO i1 i2 l1 l2:Addr) (nd:[z,TI,TO,i1,i2].Nodup):
  nB P w K (.Tuple es kk tpos) (Itz c l1 l2) [z,TI,TO,i1,i2] z (ZAt c z TI TO i1 i2 l1 l2):=by
 simp only [List.nodup_cons,List.mem_cons,List.not_mem_nil,or_false,not_or,List.nodup_nil,and_true]at nd
 obtain ⟨⟨n1,n2,n3,n4⟩,⟨n5,n6,n7⟩,⟨n8,n9⟩,n10,_⟩:=nd
 have ap: ∀ {X:Cx} {pins:List (Addr×Obj)} {H:Hp} {xs ys:List V},(∀ b∈[z,TI,TO,i1,i2],iq X pins H b)->H l1=some (eh c xs)->H l2=some (eh c ys)->
   HT.ZAp z TI TO i1 i2 [i1,l1] [i2,l2]/\l1≠i1/\l2≠i2:=by
  intro X pins H xs ys hf h1 h2
  have a: ∀ b∈[z,TI,TO,i1,i2],b≠l1/\b≠l2:=fun b hb=>⟨(ai h1 (hf b hb).1).symm,(ai h2 (hf b hb).1).symm⟩
  have az:=a z (by simp)
  have aO:=a TO (by simp)
  have a1:=a i1 (by simp)
  have a2:=a i2 (by simp)
  refine ⟨⟨Ne.symm n1,Ne.symm n2,Ne.symm n3,Ne.symm n4,n5,n6,n7,n8,n9,n10,?_,?_,?_,?_,?_,?_⟩,Ne.symm a1.1,Ne.symm a2.2⟩ <;> simp only [List.mem_cons,List.not_mem_nil,or_false,not_or]
  ·exact ⟨n3,az.1⟩
  ·exact ⟨n4,az.2⟩
  ·exact ⟨n8,aO.1⟩
  ·exact ⟨n9,aO.2⟩
  ·exact ⟨Ne.symm n10,a2.1⟩
  ·exact ⟨n10,a1.2⟩
 refine ⟨by simp,fun i h st b hb=>?_,fun i h h' st k=>?_,?_,?_,fun _ _ _ _ _ st h=>wpAny_pyIter_zip st.1 h⟩
 ·obtain ⟨h1,h2,⟨a,b',h3⟩,h4,h5⟩:=st
  rcases fp5 hb with rfl | rfl | rfl | rfl | rfl
  ·exact ⟨_,h1,fun v e=>nomatch e⟩
  ·exact ⟨_,h2,fun v e=>nomatch e⟩
  ·exact ⟨_,h3,fun v e=>nomatch e⟩
  ·exact h4.obj
  ·exact h5.obj
 ·obtain ⟨h1,h2,⟨a,b',h3⟩,h4,h5⟩:=st
  exact ⟨k z (by simp) _ h1,k TI (by simp) _ h2,⟨a,b',k TO (by simp) _ h3⟩,h4.at fun o e=>k i1 (by simp) o e,h5.at fun o e=>k i2 (by simp) o e⟩
 ·intro X hP hw hK hc i pins s Z H E I hf st hg
  subst hP hw hK
  obtain ⟨xs,ys,x,y,hx,hy,ex,ey⟩:=hg
  obtain ⟨its1,r1,q1,_⟩:=I.seqS hx
  obtain ⟨its2,r2,q2,_⟩:=I.seqS hy
  obtain ⟨u,hu,ru⟩:=r1.get ex
  obtain ⟨v,hv,rv⟩:=r2.get ey
  obtain ⟨z0,t0,⟨a,b,o0⟩,s1,s2⟩:=st
  obtain ⟨D,e1,e2⟩:=ap hf hx hy
  refine HT.next_zip (HT.draws_seq (A:=X.A.in1) c (I.ok.hd hc) i1 l1 e1 its1.toArray) (HT.draws_seq (A:=X.A.in1) c (I.ok.hd hc) i2 l2 e2 its2.toArray) D z0 t0 o0 ⟨s1,q1⟩ ⟨s2,q2⟩
   (by rw [List.size_toArray];exact (List.getElem?_eq_some_iff.mp hu).1) (by rw [List.size_toArray];exact (List.getElem?_eq_some_iff.mp hv).1) fun x' y' h' tk px py z1 o1 t1 t2 pr kk=>?_
  have ex':x'=u:=by
   have p1:its1[i]? =some x':=by simpa using px
   rw [hu]at p1;exact (Option.some.inj p1).symm
  have ey':y'=v:=by
   have p1:its2[i]? =some y':=by simpa using py
   rw [hv]at p1;exact (Option.some.inj p1).symm
  subst ex' ey'
  refine ⟨_,rfl,wpAny_letOwnedTupleGo_zip z1 fun h'' z2 sb=>?_⟩
  have lt: ∀ {b:Addr} {ob:Obj},s.heap.get? b=some ob->b≠s.heap.objs.size:=fun e=>Nat.ne_of_lt (Heap.lt_size e)
  have fT:H s.heap.objs.size=none:=I.hok.fresh (Nat.le_refl _)
  have keep: ∀ b ob,b∉[z,TO,i1,i2]->s.heap.get? b=some ob->h''.get? b=some ob:=fun b ob hb e=>by
   simp only [List.mem_cons,List.not_mem_nil,or_false,not_or]at hb
   exact sb.extBut b ob hb.1 (kk b ob hb.1 hb.2.1 hb.2.2.1 hb.2.2.2 e)
  have sub: ∀ b,b∈[z,TO,i1,i2]->b∈[z,TI,TO,i1,i2]:=fun b hb=>by
   simp only [List.mem_cons,List.not_mem_nil,or_false]at hb ⊢
   rcases hb with h | h | h | h
   ·exact .inl h
   ·exact .inr (.inr (.inl h))
   ·exact .inr (.inr (.inr (.inl h)))
   ·exact .inr (.inr (.inr (.inr h)))
  have trk: ∀ b uo,H b=some uo->b∉[z,TO,i1,i2]:=fun b uo e hb=>by rw [(hf b (sub b hb)).1]at e;cases e
  have ptT:IsPair h'' s.heap.objs.size x' y':=sb.extBut _ _ (Ne.symm (lt z0)) pr
  have I2:Inv X pins Z (upd H s.heap.objs.size (.tup [x,y])) {s with heap:=h'',toks:=tk}:=by
   refine I.step (g':=s.gens) (d':=s.drawn) (ch:=[z,TO,i1,i2]) (fun b hb=>?_) (fun b ob _ _ hb e _=>keep b ob hb e) (fun b ob _ _ hb e _=>⟨ob.slots,keep b ob hb e⟩) (fun b ob hb e n=>by rw [am (lt e)];exact n)
    (fun b ob hb e=>⟨ob,keep b ob hb e⟩) (fun b zs e=>by rw [am (ai e fT)];exact e) (fun b ob uo e=>by rw [am (ai e fT)];exact e) (fun b ps e=>⟨#[],by rw [am (ai e fT),e];simp⟩) (fun m hm=>?_) (fun b uo e=>?_) I.bare
   ·obtain ⟨_,f1,_,f3,f4,f5⟩:=hf b (sub b hb)
    exact ⟨f3,f1,f4,f5⟩
   ·obtain ⟨ob,es',ep,ho,r⟩:=hm
    exact ⟨ob,es',ep,keep _ ob (fun hb=>(hf _ (sub _ hb)).2.1 rfl) ho,r⟩
   ·by_cases hb:b=s.heap.objs.size
    ·subst hb
     rw [ac]at e
     cases e
     exact ⟨by show 2<=sizeLine;decide,[x',y'],.cons ru (.cons rv .nil),_,ptT,rfl,_,rfl⟩
    ·rw [am hb]at e
     refine (I.hok b uo e).stay (fun c' v' hc' q=>keep c' v' ?_ q) (fun c' q=>by rw [am (ai q fT)];exact q) fun c' zs q=>by rw [am (ai q fT)];exact q
     rcases hc' with h | h
     ·rw [h];exact trk b uo e
     ·exact trk c' _ h
  refine ⟨.ref s.heap.objs.size,_,I2,rfl,⟨_,x,y,fT,rfl,rfl,fun xs' ys' h1 h2=>?_⟩,⟨z2,sb.extBut _ _ (Ne.symm n1) (kk _ _ (Ne.symm n1) n5 n6 n7 t0),⟨_,_,sb.extBut _ _ (Ne.symm n2) o1⟩,t1.1.at fun o e=>sb.extBut _ o (Ne.symm n3) e,t2.1.at fun o e=>sb.extBut _ o (Ne.symm n4) e⟩,fun b hb=>?_⟩
  ·rw [hx]at h1
   rw [hy]at h2
   rw [<- lX (Option.some.inj h1),<- lX (Option.some.inj h2)]
   exact ⟨ex,ey⟩
  ·have hb': ∃ ob,s.heap.get? b=some ob:=by
    rcases fp5 hb with rfl | rfl | rfl | rfl | rfl
    ·exact ⟨_,z0⟩
    ·exact ⟨_,t0⟩
    ·exact ⟨_,o0⟩
    ·obtain ⟨ob,e,_⟩:=s1.obj;exact ⟨ob,e⟩
    ·obtain ⟨ob,e,_⟩:=s2.obj;exact ⟨ob,e⟩
   obtain ⟨ob,e⟩:=hb'
   rw [am (lt e)]
   exact (hf b hb).1
 ·intro X hP hw hK hc i pins s Z H E I hf st hg
  subst hP hw hK
  obtain ⟨xs,ys,hx,hy,l,l'⟩:=hg
  obtain ⟨its1,r1,q1,_⟩:=I.seqS hx
  obtain ⟨z0,t0,⟨a,b,o0⟩,s1,s2⟩:=st
  obtain ⟨D,e1,e2⟩:=ap hf hx hy
  have hi:i=its1.toArray.size:=by rw [List.size_toArray,<- l];exact r1.length
  rw [hi]at s1
  refine HT.end_zip (HT.draws_seq (A:=X.A.in1) c (I.ok.hd hc) i1 l1 e1 its1.toArray) D z0 t0 o0 ⟨s1,q1⟩ fun h' kk=>⟨rfl,?_⟩
  have keep: ∀ b ob,b∉[z,TO,i1,i2]->s.heap.get? b=some ob->h'.get? b=some ob:=fun b ob hb e=>by
   simp only [List.mem_cons,List.not_mem_nil,or_false,not_or]at hb
   exact kk b ob hb.1 hb.2.1 hb.2.2.1 hb.2.2.2 e
  have sub: ∀ b,b∈[z,TO,i1,i2]->b∈[z,TI,TO,i1,i2]:=fun b hb=>by
   simp only [List.mem_cons,List.not_mem_nil,or_false]at hb ⊢
   rcases hb with h | h | h | h
   ·exact .inl h
   ·exact .inr (.inr (.inl h))
   ·exact .inr (.inr (.inr (.inl h)))
   ·exact .inr (.inr (.inr (.inr h)))
  have trk: ∀ b uo,H b=some uo->b∉[z,TO,i1,i2]:=fun b uo e hb=>by rw [(hf b (sub b hb)).1]at e;cases e
  refine I.step (g':=s.gens) (d':=s.drawn) (t':=s.toks) (ch:=[z,TO,i1,i2]) (fun b hb=>?_) (fun b ob _ _ hb e _=>keep b ob hb e) (fun b ob _ _ hb e _=>⟨ob.slots,keep b ob hb e⟩) (fun b ob hb e n=>n)
   (fun b ob hb e=>⟨ob,keep b ob hb e⟩) (fun b zs e=>e) (fun b ob uo e=>e) (fun b ps e=>⟨#[],by rw [e];simp⟩) (fun m hm=>?_) (fun b uo e=>?_) I.bare
  ·obtain ⟨_,f1,_,f3,f4,f5⟩:=hf b (sub b hb)
   exact ⟨f3,f1,f4,f5⟩
  ·obtain ⟨ob,es',ep,ho,r⟩:=hm
   exact ⟨ob,es',ep,keep _ ob (fun hb=>(hf _ (sub _ hb)).2.1 rfl) ho,r⟩
  ·refine (I.hok b uo e).stay (fun c' v' hc' q=>keep c' v' ?_ q) (fun _ q=>q) fun _ _ q=>q
   rcases hc' with h | h
   ·rw [h];exact trk b uo e
   ·exact trk c' _ h
noncomputable def x4 (ta:TA):TI:=fun Z H R=>ta Z H fun vs H1=> ∃ c l1 l2 xs ys,vs=[.ref l1,.ref l2]/\H1 l1=some (eh c xs)/\H1 l2=some (eh c ys)/\R (Itz c l1 l2) H1
theorem v5 {X:Cx} {es:List Expr} {kk:Nat} {tpos:Pos} {a b:Expr} {ta:TA} {p pos:Pos} (hg:Gl X "zip") (hm:X.mg "zip"=none) (ha:PA X [a,b] ta) (hs:starEach [a,b] X.env=[(false,eval a X.env),(false,eval b X.env)]:=by rfl) (hs2:starEach [b] X.env=[(false,eval b X.env)]:=by rfl):
  PI X (.Tuple es kk tpos) (.Call (.Name "zip" p) [a,b] [] pos) (x4 ta):=by
 intro pins s Z H R I h
 refine Call_ (fh I hg hm (show bootBuiltins "zip"=some (.type "zip") by decide +kernel) (PyProof.Rows.callWith_type1 (thn (ha pos pins s Z H _ I h) fun us s1 ⟨vs,H1,I1,r1,q1⟩=>?_) (by rw [hs,hs2]) (by rw [hs2];rfl)))
 obtain ⟨c,l1,l2,xs,ys,rfl,hx,hy,q⟩:=q1
 obtain ⟨u,v,rfl,ru,rv⟩:=jv r1
 cases (show u=Value.ref l1 from ru)
 cases (show v=Value.ref l2 from rv)
 obtain ⟨its1,_,e1,_⟩:=I1.seqS hx
 obtain ⟨its2,_,e2,_⟩:=I1.seqS hy
 refine HT.call_zipS e1 e2 fun h' a1 a2 a3 a4 a5 kp=>?_
 have I2:Inv X pins Z H1 {s1 with heap:=h'}:=I1.kept (t':=s1.toks) kp
 refine wpAny_pyIter_zip a1 ?_
 refine ⟨s1.heap.objs.size+4,[s1.heap.objs.size+4,s1.heap.objs.size+2,s1.heap.objs.size+3,s1.heap.objs.size,s1.heap.objs.size+1],_,_,H1,rfl,I2,qT c _ _ _ _ _ l1 l2 (by simp),⟨a1,a2,⟨_,_,a3⟩,a4,a5⟩,fun b hb=>?_,q⟩
 have hb':s1.heap.objs.size<=b:=by rcases fp5 hb with rfl | rfl | rfl | rfl | rfl <;> omega
 exact I1.fpOk hb' (I1.hok.fresh hb')
structure pJ (sc0:Scope) (N0:List Str) (scope:Scope) (x x2:Str) (ys:List Str) (fr:List Nat):Prop where
 kind:scope.kind=.function
 nocell: ∀ y∈scope.names,y.2≠ .cell
 loc: ∀ y∈scope.names,y.2=.local->scope.names.lookup y.1=some .local
 xl:(aV sc0 scope).lookup x=some .local
 xl2:(aV sc0 scope).lookup x2=some .local
 free: ∀ y∈scope.names,y.2=.free->sc0.names.lookup y.1=some .cell
 nd:(x::x2::ys).Nodup
 len:ys.length=fr.length
 sl: ∀ q∈ys.zip fr,N0[q.2]? =some q.1/\sc0.names.lookup q.1=some .cell/\(aV sc0 scope).lookup q.1=some .cell
noncomputable def cP (X:Cx) (x x2:Str) (ys:List Str) (scope:Scope) (C:Addr) (s:Shared) (H:Hp) (ex:List Addr):Cx:=
 {X with N:=x::x2::ys,s₀:=s,H₀:=H,env:=compEnvC scope (cR X.env.cells scope.names) C X.env,outer:=X.stack,stack:=X.stack,ex:=ex,fn:=fun _=>false,pn:=[],xe:=fun _ _=>False}
noncomputable def uv (fr:List Nat) (te:TE) (Z:St) (J:It) (H1:Hp) (Q:VK):Prop:=
 ∀ p,H1 p=none-> ∃ W:Nat->Nat->List V->Hp->Prop,(∃ m,W 0 m [] (upd H1 p (.lst [])))/\ ∀ i m ys H,W i m ys H->H p=some (.lst ys)/\
  ((J.stop i H/\Q (.ref p) H)\/(J.go i H/\ys.length<sizeLine/\ ∀ x H',J.yld i H x H'-> ∃ T v1 v2,x=.ref T/\H' T=some (.tup [v1,v2])/\te (some v1::some v2::cc fr Z) H' fun v H2=>
   H2 p=some (.lst ys)/\ ∃ m',m'<m/\W (i+1) m' (ys++[v]) (upd H2 p (.lst (ys++[v])))))
noncomputable def qX (wi:TI) (fr:List Nat) (te:TE):TE:=fun Z H Q=>wi Z H fun J H1=>uv fr te Z J H1 Q
section
variable {X:Cx} {x x2:Str} {px px2 tpos pos fpos:Pos} {kk:Nat} {iter elt:Expr} {scope sc0:Scope} {N0 ys:List Str} {fr:List Nat} {wi:TI} {te:TE} {pins:List (Addr×Obj)} {Z:St} {H:Hp} {s:Shared}
theorem oI {use:Option (Value->Sem Unit)} {Qv:Value->Shared->Prop} {Q:VK} (hcalm:X.calm=true) (hi:PI X (.Tuple [.Name x px,.Name x2 px2] kk tpos) iter wi) (hsc:X.env.scope=sc0) (hN:X.N=N0) (ok:pJ sc0 N0 scope x x2 ys fr)
  (hE: ∀ C s H ex,PE (cP X x x2 ys scope C s H ex) elt te) (I:Inv X pins Z H s) (h:qX wi fr te Z H Q) (hs: ∀ v,foldedSetIterable iter X.env v=pure v)
  (fin: ∀ (p C:Addr) (H':Hp) (s':Shared) (m:Str->Option Value),Inv X pins Z H' s'->s'.heap.Ns C m->H' C=none->C≠X.env.locals->X.s₀.heap.objs.size<=C->(∀ y c,X.env.cells.lookup y=some c->c≠C)->(∀ q∈X.pn++pins,q.1≠C)->Q (.ref p) H'->
   compPost (model X.prog X.w) X.A X.xe use Qv (.ref p) C (.ok .next) s'):
  wpAny (model X.prog X.w) X.A (comprehension (.ListComp elt [⟨.Tuple [.Name x px,.Name x2 px2] kk tpos,iter,[],0⟩] scope pos) scope X.env fpos (newList []) false (eval iter X.env) use) Qv X.xe s:=by
 subst hsc hN
 have hkof: ∀ y,X.env.kindOf y=X.env.scope.names.lookup y:=fun y=>rfl
 have hfree: ∀ y∈scope.names,y.2=.free-> ∃ c,X.env.cells.lookup y.1=some c:=fun y hy e=>I.ok.has y.1 (.inl (ok.free y hy e))
 refine wpAny_comprehension_free (gs:=[]) rfl hs (cZ hfree) ok.kind ok.loc (thn (hi pins s Z H _ I h) fun v s1 h1=>thn h1 fun itv s2 h2=>?_)
 obtain ⟨it,fp,tn,J,H2,e,I2,T,st2,f2,hp⟩:=h2
 subst e
 refine wpAny_newObj_type (wpAny_newFunctionEnv ok.nocell (by intro y hy;simp at hy) (fun h₁ hns₁ hsb₁=>?_) ok.kind)
 dsimp only at hns₁ hsb₁ ⊢
 have I3:Inv X pins Z (upd H2 s2.heap.objs.size (.lst [])) {s2 with heap:=s2.heap.push {cls:=.type "list",data:=.seq ([]:List Value).toArray}}:=
  I2.lnew (its:=[]) (ys:=[]) (t':=s2.toks) .nil (Nat.zero_le _)
 have hf2: ∀ b∈fp,b<s2.heap.objs.size:=fun b hb=>by
  obtain ⟨o,e,_⟩:=T.obj _ _ st2 b hb
  exact Heap.lt_size e
 have hps:s2.heap.objs.size< (s2.heap.push {cls:=.type "list",data:=.seq ([]:List Value).toArray}).objs.size:=by rw [Heap.size_push];exact Nat.lt_succ_self _
 have W0:=hp s2.heap.objs.size I2.fresh
 have st3:tn 0 (s2.heap.push {cls:=.type "list",data:=.seq ([]:List Value).toArray}):=T.keep _ _ _ st2 fun b hb o e=>Heap.get?_push_of_some _ e
 generalize hpp:s2.heap.objs.size=p at I3 W0 hf2 hps ⊢
 generalize hh3:(s2.heap.push {cls:=.type "list",data:=.seq ([]:List Value).toArray})=h3 at I3 hns₁ hsb₁ hps st3 ⊢
 generalize hH3:upd H2 p (.lst [])=H3 at I3 W0
 have hold: ∀ b o,h3.get? b=some o->h₁.get? b=some o:=fun b o e=>hsb₁.extBut b o (Nat.ne_of_lt (Heap.lt_size e)) (Heap.get?_push_of_some _ e)
 have fH3: ∀ b∈fp,H3 b=none:=fun b hb=>by
  rw [<- hH3,am (Nat.ne_of_lt (hf2 b hb))]
  exact (f2 b hb).1
 have hclos: ∀ y c,(cR X.env.cells scope.names).lookup y=some c->X.env.cells.lookup y=some c:=fun y c e=>cQ e
 have hcell3: ∀ y c,X.env.cells.lookup y=some c->c<h3.objs.size:=fun y c e=>by
  obtain ⟨v,o,ho,_⟩:=I3.cell y c e
  exact Heap.lt_size ho
 have hlt3:X.env.locals<h3.objs.size:=I3.lt
 have Yok:(cP X x x2 ys scope h3.objs.size {s2 with heap:=h3} H3 fp).Ok:={
  mod:=I.ok.mod
  kind:=ok.kind
  glob:=I.ok.glob
  blt:=I.ok.blt
  above:=Nat.le_refl _
  inj:=fun y z c e1 e2=>I.ok.inj y z c (hclos _ _ e1) (hclos _ _ e2)
  has:=fun y hk=>by
   have hfr:(y,NameKind.free)∈scope.names:=by
    have hm: ∃ k,(aV X.env.scope scope).lookup y=some k/\(k=.cell\/k=.free):=by
     rcases hk with hk | hk
     ·exact ⟨_,hk,.inl rfl⟩
     ·exact ⟨_,hk,.inr rfl⟩
    obtain ⟨k,hk,hkk⟩:=hm
    have hmem:=mem_of_lookup hk
    unfold aV at hmem
    obtain ⟨⟨n,k0⟩,hn,en⟩:=List.mem_map.mp hmem
    dsimp only at en
    split at en
    ·rename_i hc
     simp only [Bool.and_eq_true]at hc
     have hk0:k0=.free:=by simpa using hc.1.1
     cases en
     rw [<- hk0]
     exact hn
    ·cases en
     rcases hkk with e | e
     ·exact absurd e (ok.nocell _ hn)
     ·rw [<- e]
      exact hn
   obtain ⟨c,hc⟩:=hfree _ hfr rfl
   exact ⟨c,cy hc hfr⟩
  cab:=fun y c hf _=>by cases hf
  hd:=I.ok.hd
  frames:=I.ok.frames
  stk:=.inl rfl
  exf:=fun b hb=>⟨fun e=>absurd (hf2 b hb) (by rw [e];exact Nat.not_lt.mpr (Nat.le_of_lt hps)),fun y c e=>(f2 b hb).2.2.2.2.1 y c (hclos _ _ e)⟩
  bs:=fun b o e=>⟨(I3.bs b o e).1,(I3.bs b o e).2⟩
  bsz:=Nat.le_trans I.ok.bsz I3.sz
  noex:=fun b o e hb=>by
   rcases (f2 b hb).2.2.2.1 with q | q
   ·exact I.ok.noex b o e q
   ·have h1:b<X.base.objs.size:=Heap.lt_size e
    exact absurd h1 (Nat.not_lt.mpr (Nat.le_trans I.ok.bsz q))
  exfs:=fun b hb hm=>by
   rcases List.mem_cons.mp (I3.stkSub b hm)with q | q
   ·exact (f2 b hb).2.1 q
   ·exact (f2 b hb).2.2.1 q
  funs:=I3.stack
  frf:=I3.stkFree}
 have IY:Inv (cP X x x2 ys scope h3.objs.size {s2 with heap:=h3} H3 fp) [] (none::none::cc fr Z) H3 {s2 with heap:=h₁,toks:=s2.toks+ ([]:List (Str×Value)).length}:={
  ok:=Yok
  os:=rfl
  bare:=I2.bare
  base:=Un.kept hold
  loc:=by
   refine ⟨_,hns₁,fun i y v hy hv hvis=>?_⟩
   match i,hy,hv with
   | 0,_,hv=>cases hv
   | 1,_,hv=>cases hv
   | j+2,hy,hv=>
    have hy':ys[j]? =some y:=hy
    have hv':(cc fr Z)[j]? =some (some v):=hv
    unfold cc at hv'
    rw [List.getElem?_map]at hv'
    obtain ⟨i0,hi0,hv0⟩:=Option.map_eq_some_iff.mp hv'
    have hz:(y,i0)∈ys.zip fr:=by
     refine List.mem_iff_getElem?.mpr ⟨j,?_⟩
     rw [List.getElem?_zip_eq_some]
     exact ⟨hy',hi0⟩
    obtain ⟨hn,hk,hk2⟩:=ok.sl _ hz
    have hZ:Z[i0]? =some (some v):=by
     cases e:Z[i0]? with
     | none=>rw [e]at hv0;cases hv0
     | some o=>
      rw [e]at hv0
      rw [show o=some v from hv0]
    obtain ⟨m,hm,hl⟩:=I3.loc
    obtain ⟨u,ru,lk⟩:=hl i0 y v hn hZ (.inr (.inl hk))
    refine ⟨u,ru,.inr ⟨.inl hk2,?_⟩⟩
    rcases lk with ⟨a,_⟩ | ⟨_,c,hc,hcell⟩
    ·have a':X.env.scope.names.lookup y=some .local:=a
     have hk':X.env.scope.names.lookup y=some .cell:=hk
     rw [hk']at a'
     cases a'
    ·have hfr:(y,NameKind.free)∈scope.names:=by
      have hmem:=mem_of_lookup hk2
      unfold aV at hmem
      obtain ⟨⟨n,k0⟩,hn0,en⟩:=List.mem_map.mp hmem
      dsimp only at en
      split at en
      ·rename_i hc0
       simp only [Bool.and_eq_true]at hc0
       have hk0:k0=.free:=by simpa using hc0.1.1
       cases en
       rw [<- hk0]
       exact hn0
      ·cases en
       exact absurd rfl (ok.nocell _ hn0)
     exact ⟨c,cy hc hfr,hcell.keeps hold⟩
  cell:=fun y c e=>by
   obtain ⟨v,hv⟩:=I3.cell y c (hclos _ _ e)
   exact ⟨v,hv.keeps hold⟩
  free:=I3.fresh
  freeC:=fun y c e=>I3.freeC y c (hclos _ _ e)
  pin:=fun q hq=>by cases hq
  hok:=I3.hok.kept hold
  len:=by
   show (none::none::cc fr Z).length=(x::x2::ys).length
   rw [List.length_cons,List.length_cons,List.length_cons,List.length_cons,ok.len]
   unfold cc
   rw [List.length_map]}
 have hxl:(cP X x x2 ys scope h3.objs.size {s2 with heap:=h3} H3 fp).env.scope.names.lookup x=some .local:=ok.xl
 have hxl2:(cP X x x2 ys scope h3.objs.size {s2 with heap:=h3} H3 fp).env.scope.names.lookup x2=some .local:=ok.xl2
 have pgx:PG (cP X x x2 ys scope h3.objs.size {s2 with heap:=h3} H3 fp) (.Tuple [.Name x px,.Name x2 px2] kk tpos) (wx X.K 2 (jN (dI 0) (jN (dI 1) wz))):=
  eC hcalm (aU (aH (i:=0) ok.nd rfl (.inl hxl) (.inr hxl)) (aU (aH (i:=1) ok.nd rfl (.inl hxl2) (.inr hxl2)) dj))
 have pel:=hE h3.objs.size {s2 with heap:=h3} H3 fp
 obtain ⟨W,⟨m0,w0⟩,turn⟩:=W0
 have stat: ∀ {H':Hp},(∀ b∈fp,H' b=none)-> ∀ b∈fp,iq (cP X x x2 ys scope h3.objs.size {s2 with heap:=h3} H3 fp) [] H' b:=fun hn b hb=>
  ⟨hn b hb,(Yok.exf b hb).1,Yok.exfs b hb,.inl hb,(Yok.exf b hb).2,fun q hq=>by cases hq⟩
 have loop:codeAny (model X.prog X.w) X.A (.compLoop (.ListComp elt [⟨.Tuple [.Name x px,.Name x2 px2] kk tpos,iter,[],0⟩] scope pos) 0 (.ref it) (.ref p) (compEnvC scope (cR X.env.cells scope.names) h3.objs.size X.env))
   (compPost (model X.prog X.w) X.A X.xe use Qv (.ref p) h3.objs.size) {s2 with heap:=h₁,toks:=s2.toks+ ([]:List (Str×Value)).length}:=by
  refine dM (fun n s'=> ∃ i zs v0 w0 H',Inv (cP X x x2 ys scope h3.objs.size {s2 with heap:=h3} H3 fp) [] (v0::w0::cc fr Z) H' s'/\tn i s'.heap/\(∀ b∈fp,H' b=none)/\W i n zs H') ?_ m0
   ⟨0,[],none,none,H3,IY,T.keep _ _ _ st3 fun b hb o e=>hold b o e,fH3,w0⟩
  rintro n s5 ⟨i,zs,v0,wv0,H5,I5,st5,fr5,w5⟩
  obtain ⟨hacc,turn5⟩:=turn i n zs H5 w5
  rcases turn5 with ⟨stop,qn⟩ | ⟨go,hlen,step⟩
  ·refine thn (T.done (cP X x x2 ys scope h3.objs.size {s2 with heap:=h3} H3 fp) rfl rfl rfl hcalm i [] s5 _ H5 _ I5 (stat fr5) st5 stop) fun r s6 ⟨hr,I6⟩=>?_
   subst hr
   obtain ⟨m6,n6,_⟩:=I6.loc
   refine fin p h3.objs.size H5 s6 m6 (I3.call' I6.os I6.base I6.hok I6.bare fun b hb=>⟨(f2 b hb).2.2.2.1,(f2 b hb).2.1,(f2 b hb).2.2.2.2.1,(f2 b hb).2.2.2.2.2⟩) n6 I6.free (Nat.ne_of_gt hlt3) I3.sz (fun y c e=>Nat.ne_of_lt (hcell3 y c e)) (fun q hq=>?_) qn
   exact Nat.ne_of_lt (Heap.lt_size (I3.pin q hq).1)
  ·refine thn (T.item (cP X x x2 ys scope h3.objs.size {s2 with heap:=h3} H3 fp) rfl rfl rfl hcalm i [] s5 _ H5 _ I5 (stat fr5) st5 go) fun r s6 ⟨u,hr,h6⟩=>?_
   subst hr
   refine thn h6 fun _ s7 ⟨xv,H7,I7,r7,y7,st7,fr7⟩=>?_
   have I7':=I7.pinned (stat fr7) (T.obj _ _ st7)
   obtain ⟨T7,v1,v2,eT,hT7,step7⟩:=step xv H7 y7
   refine thn (pgx _ s7 _ H7 xv u (fun Z' H'=>Z'=some v1::some v2::cc fr Z/\H'=H7) I7' r7 ⟨T7,[v1,v2],eT,SqT.of hT7,rfl,v1,[v2],rfl,v2,[],rfl,rfl,rfl,rfl⟩) fun _ s8 ⟨Z8,H8,I8,e8,e8'⟩=>?_
   subst e8 e8'
   refine thn (pel _ s8 _ H8 _ I8 step7) fun yv s9 ⟨v9,H9,I9,r9,hp9,m',hm',w9⟩=>?_
   refine thn (bZ _ s9 _ H9 (.ref p) [v9] (.ref p) [yv] (fun _ H'=>H'=upd H9 p (.lst (zs++[v9]))) I9 rfl (.cons r9 .nil) ⟨p,zs,v9,rfl,rfl,hp9,hlen,rfl⟩) fun _ s10 ⟨_,H10,I10,_,e10⟩=>?_
   subst e10
   refine ⟨m',hm',i+1,zs++[v9],some v1,some v2,_,I10.unpinned,T.keep _ _ _ st7 fun b hb o e=>(I10.pin (b,o) (List.mem_append_right _ (List.mem_append_right _ (bw hb e)))).1,fun b hb=>?_,w9⟩
   obtain ⟨o,e,d⟩:=T.obj _ _ st7 b hb
   exact (I10.pin (b,o) (List.mem_append_right _ (List.mem_append_right _ (bw hb e)))).2.1
 exact codeAny_compStart_list loop (T.self X.A 0 _ _ _ (T.keep _ _ _ st3 fun b hb o e=>hold b o e) loop)
theorem su (hcalm:X.calm=true) (hi:PI X (.Tuple [.Name x px,.Name x2 px2] kk tpos) iter wi) (hsc:X.env.scope=sc0) (hN:X.N=N0) (ok:pJ sc0 N0 scope x x2 ys fr)
  (hE: ∀ C s H ex,PE (cP X x x2 ys scope C s H ex) elt te) (hs: ∀ v,foldedSetIterable iter X.env v=pure v:=by intro _;rfl):
  PE X (.ListComp elt [⟨.Tuple [.Name x px,.Name x2 px2] kk tpos,iter,[],0⟩] scope pos) (qX wi fr te):=by
 intro pins s Z H Q I h
 rw [eval_ListComp]
 refine oI (use:=none) (Qv:=EP X pins Z Q) (Q:=Q) hcalm hi hsc hN ok hE I h hs fun p C H' s' m I' hn h0 h1 h2 h3 h4 q=>?_
 refine ⟨m,hn,fun h' sb=>⟨.ref p,H',I'.turned (t':=s'.toks) (fun b o hb e=>sb.extBut b o hb e) h0 (Ne.symm (Ne.symm h1)) (.inr h2) h3 h4,rfl,q⟩⟩
end
section
variable {prog:Program} {w:World} {A:Around} {R:Result->Shared->Prop} {s:Shared}
theorem jk {elt target iter cnd:Expr} {scope:Scope} {pos:Pos} {it acc:Value} {env:Env} (I:Nat->Shared->Prop)
  (turn: ∀ n s,I n s->wpAny (model prog w) A (pyNext it) (fun r s₁=>match r with
   | none=>R (.ok .next) s₁
   | some v=>wpAny (model prog w) A (letOwnedTupleGo target it v) (fun _ s₁'=>wpAny (model prog w) A (assign target env v) (fun _ s₂=>wpAny (model prog w) A (isTrue cnd env (eval cnd env)) (fun ok s₃=>
     if ok=true then wpAny (model prog w) A (eval elt env) (fun x s₄=>
      wpAny (model prog w) A (call (.builtin "list.append") [acc,x]) (fun _ s₅=> ∃ m,m<n/\I m s₅) (fun _ _=>False) s₄) (fun _ _=>False) s₃
     else ∃ m,m<n/\I m s₃) (fun _ _=>False) s₂) (fun _ _=>False) s₁') (fun _ _=>False) s₁) (fun _ _=>False) s)
  (n:Nat) (h:I n s):codeAny (model prog w) A (.compLoop (.ListComp elt [⟨target,iter,[cnd],0⟩] scope pos) 0 it acc env) R s:=by
 refine codeAny_loop rfl I (fun n s hI=>?_) n h
 show wpAny _ _ ((compTurn (.ListComp elt [⟨target,iter,[cnd],0⟩] scope pos) 0 it acc env).onRaise (fun x=>do noteFrame x env;theTreesLotGoes x)) _ _ s
 refine wpAny_noted ?_
 rw [compTurn_list]
 refine wpAny_noRaise ?_
 refine wpAny_bind (wpAny_standAt (wpAny_bind (wpAny_mono (turn n s hI) (fun r s₁ h₁=>?_) fun _ _ h'=>h')))
 cases r with
 | none=>exact wpAny_pure h₁
 | some v=>
  refine wpAny_bind (wpAny_mono h₁ (fun _ s₁' h₁'=>?_) fun _ _ h'=>h')
  refine wpAny_bind (wpAny_mono h₁' (fun _ s₂ h₂=>wpAny_bind (wpAny_mono (wpAny_tests_one h₂) (fun ok s₃ h₃=>?_) fun _ _ h'=>h')) fun _ _ h'=>h')
  cases ok with
  | false=>exact wpAny_pure ⟨rfl,h₃⟩
  | true=>
   exact wpAny_bind (wpAny_bind (wpAny_mono h₃ (fun x s₄ h₄=>wpAny_bind (wpAny_mono h₄ (fun _ s₅ h₅=>wpAny_pure (wpAny_pure ⟨rfl,h₅⟩)) fun _ _ h'=>h')) fun _ _ h'=>h'))
end
noncomputable def jW (fr:List Nat) (tc:TT) (te:TE) (Z:St) (J:It) (H1:Hp) (Q:VK):Prop:=
 ∀ p,H1 p=none-> ∃ W:Nat->Nat->List V->Hp->Prop,(∃ m,W 0 m [] (upd H1 p (.lst [])))/\ ∀ i m ys H,W i m ys H->H p=some (.lst ys)/\
  ((J.stop i H/\Q (.ref p) H)\/(J.go i H/\ys.length<sizeLine/\ ∀ x H',J.yld i H x H'->tc (some x::cc fr Z) H' fun b H2=>if b=true then te (some x::cc fr Z) H2 fun v H3=>
   H3 p=some (.lst ys)/\ ∃ m',m'<m/\W (i+1) m' (ys++[v]) (upd H3 p (.lst (ys++[v])))else ∃ m',m'<m/\W (i+1) m' ys H2))
noncomputable def nI (wi:TI) (fr:List Nat) (tc:TT) (te:TE):TE:=fun Z H Q=>wi Z H fun J H1=>jW fr tc te Z J H1 Q
section
variable {X:Cx} {x:Str} {px pos fpos:Pos} {iter elt cnd:Expr} {scope sc0:Scope} {N0 ys:List Str} {fr:List Nat} {wi:TI} {tc:TT} {te:TE} {pins:List (Addr×Obj)} {Z:St} {H:Hp} {s:Shared}
theorem ji {use:Option (Value->Sem Unit)} {Qv:Value->Shared->Prop} {Q:VK} (hcalm:X.calm=true) (hi:PI X (.Name x px) iter wi) (hsc:X.env.scope=sc0) (hN:X.N=N0) (ok:fW sc0 N0 scope x ys fr)
  (hT: ∀ C s H ex,PT (bz X x ys scope C s H ex) cnd tc) (hE: ∀ C s H ex,PE (bz X x ys scope C s H ex) elt te) (I:Inv X pins Z H s) (h:nI wi fr tc te Z H Q) (hs: ∀ v,foldedSetIterable iter X.env v=pure v)
  (fin: ∀ (p C:Addr) (H':Hp) (s':Shared) (m:Str->Option Value),Inv X pins Z H' s'->s'.heap.Ns C m->H' C=none->C≠X.env.locals->X.s₀.heap.objs.size<=C->(∀ y c,X.env.cells.lookup y=some c->c≠C)->(∀ q∈X.pn++pins,q.1≠C)->Q (.ref p) H'->
   compPost (model X.prog X.w) X.A X.xe use Qv (.ref p) C (.ok .next) s'):
  wpAny (model X.prog X.w) X.A (comprehension (.ListComp elt [⟨.Name x px,iter,[cnd],0⟩] scope pos) scope X.env fpos (newList []) false (eval iter X.env) use) Qv X.xe s:=by
 subst hsc hN
 have hkof: ∀ y,X.env.kindOf y=X.env.scope.names.lookup y:=fun y=>rfl
 have hfree: ∀ y∈scope.names,y.2=.free-> ∃ c,X.env.cells.lookup y.1=some c:=fun y hy e=>I.ok.has y.1 (.inl (ok.free y hy e))
 refine wpAny_comprehension_free (gs:=[]) rfl hs (cZ hfree) ok.kind ok.loc (thn (hi pins s Z H _ I h) fun v s1 h1=>thn h1 fun itv s2 h2=>?_)
 obtain ⟨it,fp,tn,J,H2,e,I2,T,st2,f2,hp⟩:=h2
 subst e
 refine wpAny_newObj_type (wpAny_newFunctionEnv ok.nocell (by intro y hy;simp at hy) (fun h₁ hns₁ hsb₁=>?_) ok.kind)
 dsimp only at hns₁ hsb₁ ⊢
 have I3:Inv X pins Z (upd H2 s2.heap.objs.size (.lst [])) {s2 with heap:=s2.heap.push {cls:=.type "list",data:=.seq ([]:List Value).toArray}}:=
  I2.lnew (its:=[]) (ys:=[]) (t':=s2.toks) .nil (Nat.zero_le _)
 have hf2: ∀ b∈fp,b<s2.heap.objs.size:=fun b hb=>by
  obtain ⟨o,e,_⟩:=T.obj _ _ st2 b hb
  exact Heap.lt_size e
 have hps:s2.heap.objs.size< (s2.heap.push {cls:=.type "list",data:=.seq ([]:List Value).toArray}).objs.size:=by rw [Heap.size_push];exact Nat.lt_succ_self _
 have W0:=hp s2.heap.objs.size I2.fresh
 have st3:tn 0 (s2.heap.push {cls:=.type "list",data:=.seq ([]:List Value).toArray}):=T.keep _ _ _ st2 fun b hb o e=>Heap.get?_push_of_some _ e
 generalize hpp:s2.heap.objs.size=p at I3 W0 hf2 hps ⊢
 generalize hh3:(s2.heap.push {cls:=.type "list",data:=.seq ([]:List Value).toArray})=h3 at I3 hns₁ hsb₁ hps st3 ⊢
 generalize hH3:upd H2 p (.lst [])=H3 at I3 W0
 have hold: ∀ b o,h3.get? b=some o->h₁.get? b=some o:=fun b o e=>hsb₁.extBut b o (Nat.ne_of_lt (Heap.lt_size e)) (Heap.get?_push_of_some _ e)
 have fH3: ∀ b∈fp,H3 b=none:=fun b hb=>by
  rw [<- hH3,am (Nat.ne_of_lt (hf2 b hb))]
  exact (f2 b hb).1
 have hclos: ∀ y c,(cR X.env.cells scope.names).lookup y=some c->X.env.cells.lookup y=some c:=fun y c e=>cQ e
 have hcell3: ∀ y c,X.env.cells.lookup y=some c->c<h3.objs.size:=fun y c e=>by
  obtain ⟨v,o,ho,_⟩:=I3.cell y c e
  exact Heap.lt_size ho
 have hlt3:X.env.locals<h3.objs.size:=I3.lt
 have Yok:(bz X x ys scope h3.objs.size {s2 with heap:=h3} H3 fp).Ok:={
  mod:=I.ok.mod
  kind:=ok.kind
  glob:=I.ok.glob
  blt:=I.ok.blt
  above:=Nat.le_refl _
  inj:=fun y z c e1 e2=>I.ok.inj y z c (hclos _ _ e1) (hclos _ _ e2)
  has:=fun y hk=>by
   have hfr:(y,NameKind.free)∈scope.names:=by
    have hm: ∃ k,(aV X.env.scope scope).lookup y=some k/\(k=.cell\/k=.free):=by
     rcases hk with hk | hk
     ·exact ⟨_,hk,.inl rfl⟩
     ·exact ⟨_,hk,.inr rfl⟩
    obtain ⟨k,hk,hkk⟩:=hm
    have hmem:=mem_of_lookup hk
    unfold aV at hmem
    obtain ⟨⟨n,k0⟩,hn,en⟩:=List.mem_map.mp hmem
    dsimp only at en
    split at en
    ·rename_i hc
     simp only [Bool.and_eq_true]at hc
     have hk0:k0=.free:=by simpa using hc.1.1
     cases en
     rw [<- hk0]
     exact hn
    ·cases en
     rcases hkk with e | e
     ·exact absurd e (ok.nocell _ hn)
     ·rw [<- e]
      exact hn
   obtain ⟨c,hc⟩:=hfree _ hfr rfl
   exact ⟨c,cy hc hfr⟩
  cab:=fun y c hf _=>by cases hf
  hd:=I.ok.hd
  frames:=I.ok.frames
  stk:=.inl rfl
  exf:=fun b hb=>⟨fun e=>absurd (hf2 b hb) (by rw [e];exact Nat.not_lt.mpr (Nat.le_of_lt hps)),fun y c e=>(f2 b hb).2.2.2.2.1 y c (hclos _ _ e)⟩
  bs:=fun b o e=>⟨(I3.bs b o e).1,(I3.bs b o e).2⟩
  bsz:=Nat.le_trans I.ok.bsz I3.sz
  noex:=fun b o e hb=>by
   rcases (f2 b hb).2.2.2.1 with q | q
   ·exact I.ok.noex b o e q
   ·have h1:b<X.base.objs.size:=Heap.lt_size e
    exact absurd h1 (Nat.not_lt.mpr (Nat.le_trans I.ok.bsz q))
  exfs:=fun b hb hm=>by
   rcases List.mem_cons.mp (I3.stkSub b hm)with q | q
   ·exact (f2 b hb).2.1 q
   ·exact (f2 b hb).2.2.1 q
  funs:=I3.stack
  frf:=I3.stkFree}
 have IY:Inv (bz X x ys scope h3.objs.size {s2 with heap:=h3} H3 fp) [] (none::cc fr Z) H3 {s2 with heap:=h₁,toks:=s2.toks+ ([]:List (Str×Value)).length}:={
  ok:=Yok
  os:=rfl
  bare:=I2.bare
  base:=Un.kept hold
  loc:=by
   refine ⟨_,hns₁,fun i y v hy hv hvis=>?_⟩
   cases i with
   | zero=>cases hv
   | succ j=>
    have hy':ys[j]? =some y:=hy
    have hv':(cc fr Z)[j]? =some (some v):=hv
    unfold cc at hv'
    rw [List.getElem?_map]at hv'
    obtain ⟨i0,hi0,hv0⟩:=Option.map_eq_some_iff.mp hv'
    have hz:(y,i0)∈ys.zip fr:=by
     refine List.mem_iff_getElem?.mpr ⟨j,?_⟩
     rw [List.getElem?_zip_eq_some]
     exact ⟨hy',hi0⟩
    obtain ⟨hn,hk,hk2⟩:=ok.sl _ hz
    have hZ:Z[i0]? =some (some v):=by
     cases e:Z[i0]? with
     | none=>rw [e]at hv0;cases hv0
     | some o=>
      rw [e]at hv0
      rw [show o=some v from hv0]
    obtain ⟨m,hm,hl⟩:=I3.loc
    obtain ⟨u,ru,lk⟩:=hl i0 y v hn hZ (.inr (.inl hk))
    refine ⟨u,ru,.inr ⟨.inl hk2,?_⟩⟩
    rcases lk with ⟨a,_⟩ | ⟨_,c,hc,hcell⟩
    ·have a':X.env.scope.names.lookup y=some .local:=a
     have hk':X.env.scope.names.lookup y=some .cell:=hk
     rw [hk']at a'
     cases a'
    ·have hfr:(y,NameKind.free)∈scope.names:=by
      have hmem:=mem_of_lookup hk2
      unfold aV at hmem
      obtain ⟨⟨n,k0⟩,hn0,en⟩:=List.mem_map.mp hmem
      dsimp only at en
      split at en
      ·rename_i hc0
       simp only [Bool.and_eq_true]at hc0
       have hk0:k0=.free:=by simpa using hc0.1.1
       cases en
       rw [<- hk0]
       exact hn0
      ·cases en
       exact absurd rfl (ok.nocell _ hn0)
     exact ⟨c,cy hc hfr,hcell.keeps hold⟩
  cell:=fun y c e=>by
   obtain ⟨v,hv⟩:=I3.cell y c (hclos _ _ e)
   exact ⟨v,hv.keeps hold⟩
  free:=I3.fresh
  freeC:=fun y c e=>I3.freeC y c (hclos _ _ e)
  pin:=fun q hq=>by cases hq
  hok:=I3.hok.kept hold
  len:=by
   show (none::cc fr Z).length=(x::ys).length
   rw [List.length_cons,List.length_cons,ok.len]
   unfold cc
   rw [List.length_map]}
 have hxl:(bz X x ys scope h3.objs.size {s2 with heap:=h3} H3 fp).env.scope.names.lookup x=some .local:=ok.xl
 have pgx:PG (bz X x ys scope h3.objs.size {s2 with heap:=h3} H3 fp) (.Name x px) (dI 0):=aH (i:=0) ok.nd rfl (.inl hxl) (.inr hxl)
 have pel:=hE h3.objs.size {s2 with heap:=h3} H3 fp
 have ptl:=hT h3.objs.size {s2 with heap:=h3} H3 fp
 obtain ⟨W,⟨m0,w0⟩,turn⟩:=W0
 have stat: ∀ {H':Hp},(∀ b∈fp,H' b=none)-> ∀ b∈fp,iq (bz X x ys scope h3.objs.size {s2 with heap:=h3} H3 fp) [] H' b:=fun hn b hb=>
  ⟨hn b hb,(Yok.exf b hb).1,Yok.exfs b hb,.inl hb,(Yok.exf b hb).2,fun q hq=>by cases hq⟩
 have loop:codeAny (model X.prog X.w) X.A (.compLoop (.ListComp elt [⟨.Name x px,iter,[cnd],0⟩] scope pos) 0 (.ref it) (.ref p) (compEnvC scope (cR X.env.cells scope.names) h3.objs.size X.env))
   (compPost (model X.prog X.w) X.A X.xe use Qv (.ref p) h3.objs.size) {s2 with heap:=h₁,toks:=s2.toks+ ([]:List (Str×Value)).length}:=by
  refine jk (fun n s'=> ∃ i zs v0 H',Inv (bz X x ys scope h3.objs.size {s2 with heap:=h3} H3 fp) [] (v0::cc fr Z) H' s'/\tn i s'.heap/\(∀ b∈fp,H' b=none)/\W i n zs H') ?_ m0
   ⟨0,[],none,H3,IY,T.keep _ _ _ st3 fun b hb o e=>hold b o e,fH3,w0⟩
  rintro n s5 ⟨i,zs,v0,H5,I5,st5,fr5,w5⟩
  obtain ⟨hacc,turn5⟩:=turn i n zs H5 w5
  rcases turn5 with ⟨stop,qn⟩ | ⟨go,hlen,step⟩
  ·refine thn (T.done (bz X x ys scope h3.objs.size {s2 with heap:=h3} H3 fp) rfl rfl rfl hcalm i [] s5 _ H5 _ I5 (stat fr5) st5 stop) fun r s6 ⟨hr,I6⟩=>?_
   subst hr
   obtain ⟨m6,n6,_⟩:=I6.loc
   refine fin p h3.objs.size H5 s6 m6 (I3.call' I6.os I6.base I6.hok I6.bare fun b hb=>⟨(f2 b hb).2.2.2.1,(f2 b hb).2.1,(f2 b hb).2.2.2.2.1,(f2 b hb).2.2.2.2.2⟩) n6 I6.free (Nat.ne_of_gt hlt3) I3.sz (fun y c e=>Nat.ne_of_lt (hcell3 y c e)) (fun q hq=>?_) qn
   exact Nat.ne_of_lt (Heap.lt_size (I3.pin q hq).1)
  ·refine thn (T.item (bz X x ys scope h3.objs.size {s2 with heap:=h3} H3 fp) rfl rfl rfl hcalm i [] s5 _ H5 _ I5 (stat fr5) st5 go) fun r s6 ⟨u,hr,h6⟩=>?_
   subst hr
   refine thn h6 fun _ s7 ⟨xv,H7,I7,r7,y7,st7,fr7⟩=>?_
   have I7':=I7.pinned (stat fr7) (T.obj _ _ st7)
   refine thn (pgx _ s7 _ H7 xv u (fun Z' H'=>Z'=some xv::cc fr Z/\H'=H7) I7' r7 ⟨rfl,rfl⟩) fun _ s8 ⟨Z8,H8,I8,e8,e8'⟩=>?_
   subst e8 e8'
   refine thn (ptl _ s8 _ H8 _ I8 (step xv H8 y7)) fun bb s8' ⟨H8',I8',hb⟩=>?_
   cases bb with
   | false=>
    obtain ⟨m',hm',w9⟩:=hb
    refine ⟨m',hm',i+1,zs,some xv,_,I8'.unpinned,T.keep _ _ _ st7 fun b hb o e=>(I8'.pin (b,o) (List.mem_append_right _ (List.mem_append_right _ (bw hb e)))).1,fun b hb=>?_,w9⟩
    obtain ⟨o,e,d⟩:=T.obj _ _ st7 b hb
    exact (I8'.pin (b,o) (List.mem_append_right _ (List.mem_append_right _ (bw hb e)))).2.1
   | true=>
   refine thn (pel _ s8' _ H8' _ I8' hb) fun yv s9 ⟨v9,H9,I9,r9,hp9,m',hm',w9⟩=>?_
   refine thn (bZ _ s9 _ H9 (.ref p) [v9] (.ref p) [yv] (fun _ H'=>H'=upd H9 p (.lst (zs++[v9]))) I9 rfl (.cons r9 .nil) ⟨p,zs,v9,rfl,rfl,hp9,hlen,rfl⟩) fun _ s10 ⟨_,H10,I10,_,e10⟩=>?_
   subst e10
   refine ⟨m',hm',i+1,zs++[v9],some xv,_,I10.unpinned,T.keep _ _ _ st7 fun b hb o e=>(I10.pin (b,o) (List.mem_append_right _ (List.mem_append_right _ (bw hb e)))).1,fun b hb=>?_,w9⟩
   obtain ⟨o,e,d⟩:=T.obj _ _ st7 b hb
   exact (I10.pin (b,o) (List.mem_append_right _ (List.mem_append_right _ (bw hb e)))).2.1
 exact codeAny_compStart_list loop (T.self X.A 0 _ _ _ (T.keep _ _ _ st3 fun b hb o e=>hold b o e) loop)
theorem iX (hcalm:X.calm=true) (hi:PI X (.Name x px) iter wi) (hsc:X.env.scope=sc0) (hN:X.N=N0) (ok:fW sc0 N0 scope x ys fr)
  (hT: ∀ C s H ex,PT (bz X x ys scope C s H ex) cnd tc) (hE: ∀ C s H ex,PE (bz X x ys scope C s H ex) elt te) (hs: ∀ v,foldedSetIterable iter X.env v=pure v:=by intro _;rfl):
  PE X (.ListComp elt [⟨.Name x px,iter,[cnd],0⟩] scope pos) (nI wi fr tc te):=by
 intro pins s Z H Q I h
 rw [eval_ListComp]
 refine ji (use:=none) (Qv:=EP X pins Z Q) (Q:=Q) hcalm hi hsc hN ok hT hE I h hs fun p C H' s' m I' hn h0 h1 h2 h3 h4 q=>?_
 refine ⟨m,hn,fun h' sb=>⟨.ref p,H',I'.turned (t':=s'.toks) (fun b o hb e=>sb.extBut b o hb e) h0 (Ne.symm (Ne.symm h1)) (.inr h2) h3 h4,rfl,q⟩⟩
theorem me {i:Nat} {y:Str} {py spos:Pos} (hcalm:X.calm=true) (hnd:X.N.Nodup) (hiN:X.N[i]? =some y) (hy:Loc X.env.scope y) (hi:PI X (.Name x px) iter wi) (hsc:X.env.scope=sc0) (hN:X.N=N0) (ok:fW sc0 N0 scope x ys fr)
  (hT: ∀ C s H ex,PT (bz X x ys scope C s H ex) cnd tc) (hE: ∀ C s H ex,PE (bz X x ys scope C s H ex) elt te) (hsw:swapsWith (.ListComp elt [⟨.Name x px,iter,[cnd],0⟩] scope pos) (some (.Name y py)) spos.line X.env=pure true:=by rfl)
  (hs: ∀ v,foldedSetIterable iter X.env v=pure v:=by intro _;rfl) (hf:X.fn y=true\/X.env.scope.names.lookup y=some .local:=by first | exact .inl rfl | exact .inr rfl | assumption):
  PS X (.Assign [.Name y py] (.ListComp elt [⟨.Name x px,iter,[cnd],0⟩] scope pos) spos) (nJ (nI wi fr tc te) (dI i)):=by
 intro pins s Z H D I h
 rw [exec_Assign_Name_used _ _ _ _ hsw]
 refine wpAny_bind (wpAny_standAt (wpAny_bind ?_))
 show wpAny _ X.A (do let _ <- comprehension (.ListComp elt [⟨.Name x px,iter,[cnd],0⟩] scope pos) scope X.env _ (newList []) false (eval iter X.env) (some (assign (.Name y py) X.env))) _ _ s
 refine wpAny_bind (thn (ji (use:=some (assign (.Name y py) X.env)) (Qv:=fun _ s'=>SP X pins D .next s') (Q:=fun v H'=>D.nx (Z.set i (some v)) H') hcalm hi hsc hN ok hT hE I h hs fun p C H' s' m I' hn h0 h1 h2 h3 h4 q=>?_) fun _ s' hq=>wpAny_pure (wpAny_pure hq))
 show wpAny _ X.A (assign (.Name y py) X.env (.ref p)) _ _ s'
 refine wpAny_assign_Name (gI (v:=.ref p) I' hnd hiN hy rfl (fun s'' I'' ⟨a,sb,ha⟩=>?_) hf)
 have hCa:C≠a:=by
  rcases ha with e | e
  ·rw [e];exact h1
  ·exact (h3 y a e).symm
 refine ⟨m,hn.sameBut sb hCa,fun h' sb'=>⟨_,H',I''.turned (t':=s''.toks) (fun b o hb e=>sb'.extBut b o hb e) h0 h1 (.inr h2) h3 h4,q⟩⟩
end
end L2
namespace HT
open PySem PyProof.Rows
theorem noFill_tuple_mul:fillsNumberSlot (.type "tuple") "mul"=pure false:=
 PySem.fillsNumberSlot_seq (id:="tuple.__mul__") (r:=some (.builtin "tuple.__rmul__")) F.slot_tuple_mul.lookup (by decide +kernel) F.slot_tuple_rmul.lookup (by decide +kernel)
theorem repeat_tuple:seqRepeat? (.type "tuple")=pure (some (.builtin "tuple.__mul__")):=by
 unfold seqRepeat?
 rw [PySem.seqSlot_of (T:="tuple") (name:="__mul__") (id:="tuple.__mul__") F.slot_tuple_mul.lookup (by decide +kernel),PySem.seqSlot_of (T:="tuple") (name:="__rmul__") (id:="tuple.__rmul__") F.slot_tuple_rmul.lookup (by decide +kernel)]
 rfl
theorem int_rmul_tuple (a:Int) (t:Tok) (l:Addr) (items:Array Value) (n:Nat) (dd:Option Addr) (sl:Array (Option Value)):
  Meets (Builtin.«int.__rmul__» ⟨[.int a t,.ref l],[]⟩) (fun _ R s=>s.heap.get? l=some {cls:=.type "tuple",dict:=dd,data:=.seq items n,slots:=sl}/\R (.ok (.ret Value.notImplemented)) s):=
 .of_wp fun prog w A R s h=>by obtain ⟨hp,g,d,tk,os⟩:=s;obtain ⟨hl,h⟩:=h;wp_walk;exact ⟨_,rfl,h⟩
theorem tuple_mul1 (l:Addr) (items:Array Value) (n:Nat) (dd:Option Addr) (sl:Array (Option Value)) (u:Tok) (hc0: ¬ items.isEmpty=true):
  Meets (Builtin.«tuple.__mul__» ⟨[.ref l,.int 1 u],[]⟩) (fun _ R s=>s.heap.get? l=some {cls:=.type "tuple",dict:=dd,data:=.seq items n,slots:=sl}/\R (.ok (.ret (.ref l))) s):=
 .of_wp fun prog w A R s h=>by obtain ⟨hp,g,d,tk,os⟩:=s;obtain ⟨hl,h⟩:=h;have f1:=AutoSeq1.idx_int;have f2:=AutoSeq1.sub_tuple_tuple;wp_walk using AutoSeq1.wpAny_loadPart' hl;exact ⟨_,rfl,h⟩
theorem tuple_mul0 (l:Addr) (v:Value) (n:Nat) (dd:Option Addr) (sl:Array (Option Value)) (u:Tok):
  Meets (Builtin.«tuple.__mul__» ⟨[.ref l,.int 0 u],[]⟩) (fun _ R s=>s.heap.get? l=some {cls:=.type "tuple",dict:=dd,data:=.seq #[v] n,slots:=sl}/\R (.ok (.ret (.ref s.heap.objs.size))) {s with heap:=s.heap.push {cls:=.type "tuple",data:=.seq #[]},toks:=s.toks}):=
 .of_wp fun prog w A R s h=>by obtain ⟨hp,g,d,tk,os⟩:=s;obtain ⟨hl,h⟩:=h;have f1:=AutoSeq1.idx_int;have f2:=AutoSeq1.sub_tuple_tuple;wp_walk using AutoSeq1.wpAny_loadPart' hl;exact ⟨_,rfl,h⟩
theorem tuple_mul2 (l:Addr) (v:Value) (n:Nat) (dd:Option Addr) (sl:Array (Option Value)) (u:Tok):
  Meets (Builtin.«tuple.__mul__» ⟨[.ref l,.int 2 u],[]⟩) (fun _ R s=>s.heap.get? l=some {cls:=.type "tuple",dict:=dd,data:=.seq #[v] n,slots:=sl}/\R (.ok (.ret (.ref s.heap.objs.size))) {s with heap:=s.heap.push {cls:=.type "tuple",data:=.seq #[v,v]},toks:=s.toks}):=
 .of_wp fun prog w A R s h=>by obtain ⟨hp,g,d,tk,os⟩:=s;obtain ⟨hl,h⟩:=h;have f1:=AutoSeq1.idx_int;have f2:=AutoSeq1.sub_tuple_tuple;wp_walk using AutoSeq1.wpAny_loadPart' hl;exact ⟨_,rfl,h⟩
theorem tuple_mul3 (l:Addr) (v:Value) (n:Nat) (dd:Option Addr) (sl:Array (Option Value)) (u:Tok):
  Meets (Builtin.«tuple.__mul__» ⟨[.ref l,.int 3 u],[]⟩) (fun _ R s=>s.heap.get? l=some {cls:=.type "tuple",dict:=dd,data:=.seq #[v] n,slots:=sl}/\R (.ok (.ret (.ref s.heap.objs.size))) {s with heap:=s.heap.push {cls:=.type "tuple",data:=.seq #[v,v,v]},toks:=s.toks}):=
 .of_wp fun prog w A R s h=>by obtain ⟨hp,g,d,tk,os⟩:=s;obtain ⟨hl,h⟩:=h;have f1:=AutoSeq1.idx_int;have f2:=AutoSeq1.sub_tuple_tuple;wp_walk using AutoSeq1.wpAny_loadPart' hl;exact ⟨_,rfl,h⟩
end HT
namespace L2
open PySem PySem.Spec PyProof.Rows
section
variable {X:Cx}
theorem sE:OpR X (binaryOp .Add) (fun x y H Q=> ∃ a b xs ys,x=.ref a/\y=.ref b/\SqT X.K H a xs/\SqT X.K H b ys/\xs.length+ys.length<=sizeLine/\(xs=[]->Q (.ref b) H)/\(xs≠[]->ys=[]->Q (.ref a) H)/\
  (xs≠[]->ys≠[]-> ∀ p,H p=none->Q (.ref p) (upd H p (.tup (xs++ys))))):=by
 intro pins s Z H x y v u Q I rx ry h
 obtain ⟨a,b,xs,ys,rfl,rfl,ha,hb,hz,q0,q1,q2⟩:=h
 by_cases hx:xs=[]
 ·subst hx
  cases rx
  cases ry
  obtain ⟨its,r1,p1,_⟩:=I.tuple ha
  obtain ⟨its2,r2,p2,_⟩:=I.tuple hb
  cases r1
  obtain ⟨⟨cls,dd,data,sl⟩,ho,hc,n,hd⟩:=id p1
  obtain ⟨⟨cls2,dd2,data2,sl2⟩,ho2,hc2,n2,hd2⟩:=id p2
  simp only at hc hd hc2 hd2
  subst hc hd hc2 hd2
  exact concat_meets ⟨_,ho,rfl⟩ ⟨_,ho2,rfl⟩ noFill_tuple_add seq_tuple_add PySem.F.slot_tuple_add PySem.F.entry_tuple_add (PySem.F.args_tuple_add_2 _ _)
   (tuple_addW0 a b #[] its2.toArray n n2 dd dd2 sl sl2 rfl) ⟨ho,ho2,⟨.ref b,H,I,rfl,q0 rfl⟩⟩
 ·exact uP pins s Z H _ _ v u Q I rx ry ⟨a,b,xs,ys,rfl,rfl,ha,hb,hx,hz,q1 hx,q2 hx⟩
theorem uN:OpR X (binaryOp .Mult) (fun x y H Q=> ∃ a v k,x=.ref a/\y=.int k/\SqT X.K H a [v]/\(k=0\/k=1\/k=2\/k=3)/\(k=1->Q (.ref a) H)/\(∀ p,H p=none->k≠1->Q (.ref p) (upd H p (.tup (List.replicate k.toNat v))))):=by
 intro pins s Z H x y vv u Q I rx ry h
 obtain ⟨a,v,k,rfl,rfl,ha,hk,q1,q2⟩:=h
 cases rx
 obtain ⟨t,rfl⟩:=ry
 obtain ⟨its,r,p1,_⟩:=I.tuple ha
 cases r with
 | @cons _ z _ _ rz r0=>
  cases r0
  obtain ⟨⟨cls,dd,data,sl⟩,ho,hc,n,hd⟩:=id p1
  simp only at hc hd
  subst hc hd
  have go: ∀ {Q':Value->Shared->Prop},wpAny (model X.prog X.w) X.A (call (.builtin "tuple.__mul__") [.ref a,.int k t]) Q' X.xe s->wpAny (model X.prog X.w) X.A (binaryOp .Mult (.ref a) (.int k t)) Q' X.xe s:=fun hq=>
   wpAny_binaryOp_repeat_ref (T:="tuple") (U:="int") (by decide) ⟨_,ho,rfl⟩ (fun s'=>typeIs_int s' k t) HT.noFill_tuple_mul F.fills_int_mul F.slot_int_rmul HT.repeat_tuple F.slot_int_index.lookup
    (call_meets F.slot_int_rmul (typeIs_int s k t) F.entry_int_rmul (F.args_int_rmul_2 _ _) (HT.int_rmul_tuple k t a _ n dd sl) ⟨ho,rfl,⟨_,ho,rfl⟩,hq⟩)
  have new: ∀ (zs:List Value) (vs:List V),Vals vs zs->vs.length<=3->(∀ p,H p=none->Q (.ref p) (upd H p (.tup vs)))->EP X pins Z Q (.ref s.heap.objs.size) {s with heap:=s.heap.push {cls:=.type "tuple",data:=.seq zs.toArray},toks:=s.toks}:=by
   intro zs vs rv hl hq
   refine ⟨.ref s.heap.objs.size,_,I.laid (t':=s.toks) (o:=.tup vs) (fun b ob q=>Heap.get?_push_of_some _ q) (Nat.le_refl _) ?_,rfl,hq _ (I.hok.fresh (Nat.le_refl _))⟩
   exact ⟨Nat.le_of_lt (aA (by omega)),_,rv,IsTup.new _ _⟩
  rcases hk with rfl | rfl | rfl | rfl
  ·exact go (call_meets F.slot_tuple_mul ⟨_,ho,rfl⟩ F.entry_tuple_mul (F.args_tuple_mul_2 _ _) (HT.tuple_mul0 a z n dd sl t) ⟨ho,new [] [] .nil (by show 0<=3;omega) fun p hp=>q2 p hp (by decide)⟩)
  ·exact go (call_meets F.slot_tuple_mul ⟨_,ho,rfl⟩ F.entry_tuple_mul (F.args_tuple_mul_2 _ _) (HT.tuple_mul1 a _ n dd sl t (by simp)) ⟨ho,⟨.ref a,H,I,rfl,q1 rfl⟩⟩)
  ·exact go (call_meets F.slot_tuple_mul ⟨_,ho,rfl⟩ F.entry_tuple_mul (F.args_tuple_mul_2 _ _) (HT.tuple_mul2 a z n dd sl t) ⟨ho,new [z,z] [v,v] (.cons rz (.cons rz .nil)) (by show 2<=3;omega) fun p hp=>q2 p hp (by decide)⟩)
  ·exact go (call_meets F.slot_tuple_mul ⟨_,ho,rfl⟩ F.entry_tuple_mul (F.args_tuple_mul_2 _ _) (HT.tuple_mul3 a z n dd sl t) ⟨ho,new [z,z,z] [v,v,v] (.cons rz (.cons rz (.cons rz .nil))) (by show 3<=3;omega) fun p hp=>q2 p hp (by decide)⟩)
end
end L2
namespace HT
open PySem PyProof.Rows
open PySem.AutoSeq1 (wpAny_loadPart')
section
variable {prog:Program} {w:World} {A:Around} {s:Shared} {E:Value->Shared->Prop}
noncomputable def eO (it:Addr):Obj:={cls:=.type "enumerate",data:=.fields #[.none,.bool false,.ref it,rawInt 0,.none,.none]}
theorem qG (l:Addr) (o:Obj) (items:Array Value):Meets (Builtin.«enumerate.__new__» ⟨[.type "enumerate",.ref l],[]⟩)
  (fun _ R s=>s.heap.get? l=some o/\s.heap.IsTuple l items/\R (.ok (.ret (.ref (s.heap.push (tIt l)).objs.size))) {s with heap:=(s.heap.push (tIt l)).push (eO s.heap.objs.size)}):=
 .of_wp fun prog w A R s h=>by
  obtain ⟨hp,g,d,tk,os⟩:=s
  obtain ⟨hl,a1,h⟩:=h
  have hsub:=sub_enumerate
  have b1:Heap.IsTuple (Shared.heap ⟨hp,g,d,tk,os⟩) l items:=a1
  wp_walk using wpAny_loadPart' hl
  refine wpAny_stack_any fun st=>wpAny_pure ?_
  split
  ·rename_i c _ _ _ _ _
   cases (c==Value.type "enumerate") <;> (wp_walk using wpAny_loadPart' hl,wpAny_pyIter_tuple b1;exact ⟨_,rfl,h⟩)
  ·wp_walk using wpAny_loadPart' hl,wpAny_pyIter_tuple b1
   exact ⟨_,rfl,h⟩
theorem call_enumT {l:Addr} {items:Array Value} {Q:Value->Shared->Prop} (a1:s.heap.IsTuple l items)
  (q: ∀ h',IsEnum h' (s.heap.objs.size+1) s.heap.objs.size 0 .none->h'.IsTupleIter s.heap.objs.size l 0->(∀ b o,s.heap.get? b=some o->h'.get? b=some o)->Q (.ref (s.heap.objs.size+1)) {s with heap:=h'}):
  wpAny (model prog w) A (call (.type "enumerate") [.ref l]) Q E s:=by
 obtain ⟨o,ho,_⟩:=id a1
 refine callType_new PySem.F.called_enumerate (by decide) (PySem.F.typeCall_enumerate_1 _) (PySem.F.newCall_enumerate_1 _) (fun obj=>PySem.F.args_object_init_2 obj _) PySem.F.entry_enumerate_new (qG l o items) ⟨ho,a1,?_⟩
 have z1:(s.heap.push (tIt l)).objs.size=s.heap.objs.size+1:=Heap.size_push ..
 have g2:((s.heap.push (tIt l)).push (eO s.heap.objs.size)).get? (s.heap.push (tIt l)).objs.size=some (eO s.heap.objs.size):=Heap.get?_push_size _ rfl
 have g1:((s.heap.push (tIt l)).push (eO s.heap.objs.size)).get? s.heap.objs.size=some (tIt l):=Heap.get?_push_of_some _ (Heap.get?_push_size _ rfl)
 show _/\_
 rw [z1]at g2 ⊢
 exact ⟨⟨_,g2,rfl⟩,q _ g2 ⟨_,g1,rfl,rfl⟩ fun b o x=>Heap.get?_push_of_some _ (Heap.get?_push_of_some _ x)⟩
end
end HT
namespace L2
open PySem PySem.Spec PyProof.Rows
noncomputable def Ite (l:Addr):It:=
 ⟨fun i H=> ∃ xs x,H l=some (.tup xs)/\xs[i]? =some x,
  fun i H v H'=> ∃ T x,H T=none/\v=.ref T/\H'=upd H T (.tup [.int (i:Int),x])/\ ∀ xs,H l=some (.tup xs)->xs[i]? =some x,
  fun i H=> ∃ xs,H l=some (.tup xs)/\xs.length=i⟩
noncomputable def yk (e it l:Addr) (i:Nat) (h:Heap):Prop:=(∃ old,IsEnum h e it (i:Int) old)/\HT.SIter true h it l i
theorem fp2 {e it b:Addr} (h:b∈[e,it]):b=e\/b=it:=by simpa using h
theorem pN {P:Program} {w:World} {K:PySem.W.Frag} {es:List Expr} {kk:Nat} {tpos:Pos} (e it l:Addr) (nd:e≠it):nB P w K (.Tuple es kk tpos) (Ite l) [e,it] e (yk e it l):=by
 have ap: ∀ {X:Cx} {pins:List (Addr×Obj)} {H:Hp} {xs:List V},(∀ b∈[e,it],iq X pins H b)->H l=some (.tup xs)->e≠l/\l≠it:=by
  intro X pins H xs hf h1
  have a: ∀ b∈[e,it],b≠l:=fun b hb=>(ai h1 (hf b hb).1).symm
  exact ⟨a e (by simp),Ne.symm (a it (by simp))⟩
 refine ⟨by simp,fun i h st b hb=>?_,fun i h h' st k=>?_,?_,?_,fun _ _ _ _ _ st h=>wpAny_pyIter_enum st.1.choose_spec h⟩
 ·obtain ⟨⟨old,h1⟩,h2⟩:=st
  rcases fp2 hb with rfl | rfl
  ·exact ⟨_,h1,fun v e=>nomatch e⟩
  ·exact h2.obj
 ·obtain ⟨⟨old,h1⟩,h2⟩:=st
  exact ⟨⟨old,k e (by simp) _ h1⟩,h2.at fun o z=>k it (by simp) o z⟩
 ·intro X hP hw hK hc i pins s Z H E I hf st hg
  subst hP hw hK
  obtain ⟨xs,x,hx,ex⟩:=hg
  obtain ⟨its,r1,q1,_⟩:=I.seqS (c:=true) hx
  obtain ⟨u,hu,ru⟩:=r1.get ex
  obtain ⟨⟨old,z0⟩,s1⟩:=st
  obtain ⟨a1,a2⟩:=ap hf hx
  refine wpAny_pyNext_enum_itemD (HT.draws_seq (A:=X.A.in1) true (I.ok.hd hc) it l a2 its.toArray) z0 ⟨s1,q1⟩ (by rw [List.size_toArray];exact (List.getElem?_eq_some_iff.mp hu).1) nd
   (by simp only [List.mem_cons,List.not_mem_nil,or_false,not_or];exact ⟨nd,a1⟩) fun x' h' tk px z1 t1 pr _ kk=>?_
  have ex':x'=u:=by
   have p1:its[i]? =some x':=by simpa using px
   rw [hu]at p1;exact (Option.some.inj p1).symm
  subst ex'
  refine ⟨_,rfl,wpAny_letOwnedTupleGo_enum z1 fun h'' z2 sb=>?_⟩
  have lt: ∀ {b:Addr} {ob:Obj},s.heap.get? b=some ob->b≠s.heap.objs.size:=fun e=>Nat.ne_of_lt (Heap.lt_size e)
  have fT:H s.heap.objs.size=none:=I.hok.fresh (Nat.le_refl _)
  have keep: ∀ b ob,b∉[e,it]->s.heap.get? b=some ob->h''.get? b=some ob:=fun b ob hb z=>by
   simp only [List.mem_cons,List.not_mem_nil,or_false,not_or]at hb
   exact sb.extBut b ob hb.1 (kk b ob hb.1 hb.2 z)
  have trk: ∀ b uo,H b=some uo->b∉[e,it]:=fun b uo z hb=>by rw [(hf b hb).1]at z;cases z
  have ptT:=sb.extBut _ _ (Ne.symm (lt z0)) pr
  have I2:Inv X pins Z (upd H s.heap.objs.size (.tup [.int (i:Int),x])) {s with heap:=h'',toks:=tk+1}:=by
   refine I.step (g':=s.gens) (d':=s.drawn) (ch:=[e,it]) (fun b hb=>?_) (fun b ob _ _ hb z _=>keep b ob hb z) (fun b ob _ _ hb z _=>⟨ob.slots,keep b ob hb z⟩) (fun b ob hb z n=>by rw [am (lt z)];exact n)
    (fun b ob hb z=>⟨ob,keep b ob hb z⟩) (fun b zs z=>by rw [am (ai z fT)];exact z) (fun b ob uo z=>by rw [am (ai z fT)];exact z) (fun b ps z=>⟨#[],by rw [am (ai z fT),z];simp⟩) (fun m hm=>?_) (fun b uo z=>?_) I.bare
   ·obtain ⟨_,f1,_,f3,f4,f5⟩:=hf b hb
    exact ⟨f3,f1,f4,f5⟩
   ·obtain ⟨ob,es',ep,ho,r⟩:=hm
    exact ⟨ob,es',ep,keep _ ob (fun hb=>(hf _ hb).2.1 rfl) ho,r⟩
   ·by_cases hb:b=s.heap.objs.size
    ·subst hb
     rw [ac]at z
     cases z
     exact ⟨by show 2<=sizeLine;decide,[.int (i:Int) tk,x'],.cons ⟨tk,rfl⟩ (.cons ru .nil),_,ptT,rfl,_,rfl⟩
    ·rw [am hb]at z
     refine (I.hok b uo z).stay (fun c' v' hc' q=>keep c' v' ?_ q) (fun c' q=>by rw [am (ai q fT)];exact q) fun c' zs q=>by rw [am (ai q fT)];exact q
     rcases hc' with h | h
     ·rw [h];exact trk b uo z
     ·exact trk c' _ h
  refine ⟨.ref s.heap.objs.size,_,I2,rfl,⟨_,x,fT,rfl,rfl,fun xs' h1=>?_⟩,⟨⟨_,by rw [Int.natCast_add];exact z2⟩,t1.1.at fun o z=>sb.extBut _ o (Ne.symm nd) z⟩,fun b hb=>?_⟩
  ·rw [hx]at h1
   cases h1
   exact ex
  ·have hb': ∃ ob,s.heap.get? b=some ob:=by
    rcases fp2 hb with rfl | rfl
    ·exact ⟨_,z0⟩
    ·obtain ⟨ob,z,_⟩:=s1.obj;exact ⟨ob,z⟩
   obtain ⟨ob,z⟩:=hb'
   rw [am (lt z)]
   exact (hf b hb).1
 ·intro X hP hw hK hc i pins s Z H E I hf st hg
  subst hP hw hK
  obtain ⟨xs,hx,l'⟩:=hg
  obtain ⟨its,r1,q1,_⟩:=I.seqS (c:=true) hx
  obtain ⟨⟨old,z0⟩,s1⟩:=st
  obtain ⟨a1,a2⟩:=ap hf hx
  have hi:i=its.toArray.size:=by rw [List.size_toArray,<- l'];exact r1.length
  rw [hi]at s1
  refine wpAny_pyNext_enum_endD (HT.draws_seq (A:=X.A.in1) true (I.ok.hd hc) it l a2 its.toArray) z0 ⟨s1,q1⟩ fun h' eb=>⟨rfl,?_⟩
  exact I.turned (t':=s.toks) (it:=it) (fun b ob hb z=>eb b ob hb z) (hf it (by simp)).1 (hf it (by simp)).2.1 (hf it (by simp)).2.2.2.1 (hf it (by simp)).2.2.2.2.1 (hf it (by simp)).2.2.2.2.2
noncomputable def xu (ta:TA):TI:=fun Z H R=>ta Z H fun vs H1=> ∃ l xs,vs=[.ref l]/\H1 l=some (.tup xs)/\R (Ite l) H1
theorem uK {X:Cx} {es:List Expr} {kk:Nat} {tpos:Pos} {a:Expr} {ta:TA} {p pos:Pos} (hg:Gl X "enumerate") (hm:X.mg "enumerate"=none) (ha:PA X [a] ta) (hs:starEach [a] X.env=[(false,eval a X.env)]:=by rfl):
  PI X (.Tuple es kk tpos) (.Call (.Name "enumerate" p) [a] [] pos) (xu ta):=by
 intro pins s Z H R I h
 refine Call_ (fh I hg hm (show bootBuiltins "enumerate"=some (.type "enumerate") by decide +kernel) (PyProof.Rows.callWith_type1 (thn (ha pos pins s Z H _ I h) fun us s1 ⟨vs,H1,I1,r1,q1⟩=>?_) (by rw [hs];rfl) rfl))
 obtain ⟨l,xs,rfl,hx,q⟩:=q1
 obtain ⟨u,rfl,ru⟩:=fZ r1
 cases (show u=Value.ref l from ru)
 obtain ⟨its,_,e1,_⟩:=I1.seqS (c:=true) hx
 refine HT.call_enumT e1 fun h' a1 a2 kp=>?_
 have I2:Inv X pins Z H1 {s1 with heap:=h'}:=I1.kept (t':=s1.toks) kp
 refine wpAny_pyIter_enum a1 ?_
 refine ⟨s1.heap.objs.size+1,[s1.heap.objs.size+1,s1.heap.objs.size],_,_,H1,rfl,I2,pN _ _ l (Nat.succ_ne_self _),⟨⟨_,a1⟩,a2⟩,fun b hb=>?_,q⟩
 have hb':s1.heap.objs.size<=b:=by rcases fp2 hb with rfl | rfl <;> omega
 exact I1.fpOk hb' (I1.hok.fresh hb')
section
variable {X:Cx} {x x2:Str} {px px2 tpos pos fpos:Pos} {kk:Nat} {iter elt:Expr} {scope sc0:Scope} {N0 ys:List Str} {fr:List Nat} {wi:TI} {te:TE}
noncomputable def se (K:PySem.W.Frag):R2:=fun x y H Q=> ∃ a b xs ys,x=.ref a/\y=.ref b/\SqT K H a xs/\SqT K H b ys/\xs.length+ys.length<=sizeLine/\(xs=[]->Q (.ref b) H)/\(xs≠[]->ys=[]->Q (.ref a) H)/\
 (xs≠[]->ys≠[]-> ∀ p,H p=none->Q (.ref p) (upd H p (.tup (xs++ys))))
theorem ja:OpR X (binaryOp .Add) (se X.K):=by
 intro pins s Z H x y v u Q I rx ry h
 obtain ⟨a,b,xs,ys,e1,e2,h1,h2,h3,q1,q2,q3⟩:=h
 exact sE pins s Z H x y v u Q I rx ry ⟨a,b,xs,ys,e1,e2,h1,h2,h3,q1,q2,q3⟩
end
theorem eZ {G:V->V->Prop} {R:Value->Value->Prop} (hG: ∀ v u x y,G v u->RelV v x->RelV u y->R x y): ∀ {xs ys:List V} {us ws:List Value},Paired G xs ys->Vals xs us->Vals ys ws->
  us.length=ws.length/\ ∀ j (h1:j<us.length) (h2:j<ws.length),R us[j] ws[j]
 | _,_,_,_,.nil,.nil,.nil=>⟨rfl,fun j h _=>absurd h (Nat.not_lt_zero _)⟩
 | _,_,_,_,.cons g p,.cons r1 r,.cons s1 s=>by
  obtain ⟨l,h⟩:=eZ hG p r s
  refine ⟨by simp [l],fun j h1 h2=>?_⟩
  cases j with
  | zero=>exact hG _ _ _ _ g r1 s1
  | succ j=>exact h j (Nat.lt_of_succ_lt_succ h1) (Nat.lt_of_succ_lt_succ h2)
end L2
namespace HT
open PySem PyProof.Rows
section
variable {prog:Program} {w:World} {A:Around} {s:Shared} {E:Value->Shared->Prop} {d j:Addr} {ks:List Value} {i ep:Nat}
noncomputable def VEs (h:Heap) (d:Addr) (ks:List Value) (ep:Nat):Prop:= ∃ o es,h.get? d=some o/\o.ExactDict/\o.data=.dict es ep/\es.toList.map (·.val)=ks
theorem VEs.type (m:VEs s.heap d ks ep):s.TypeIs (.ref d) "dict":=by
 obtain ⟨o,_,ho,hc,_⟩:=m
 exact ⟨o,ho,hc.1⟩
theorem VEs.keeps {h h':Heap} (m:VEs h d ks ep) (k: ∀ o,h.get? d=some o->h'.get? d=some o):VEs h' d ks ep:=by
 obtain ⟨o,es,ho,r⟩:=m
 exact ⟨o,es,k o ho,r⟩
theorem gN {es:Array DictEntry} (e:es.toList.map (·.val)=ks):es.size=ks.length:=by
 rw [<- e,List.length_map,Array.length_toList]
theorem iter_ves {r:Addr} {Q:Value->Shared->Prop} (hv:s.heap.IsValuesView r d) (m:VEs s.heap d ks ep)
  (q:Q (.ref s.heap.objs.size) {s with heap:=s.heap.push {cls:=.type "dict_valueiterator",data:=.fields #[.ref d,.int 0 0,.int ks.length 0,.int ep 0]}}):wpAny (model prog w) A (pyIter (.ref r)) Q E s:=by
 obtain ⟨ov,hov,hcv,hdv⟩:=(show ∃ o,s.heap.get? r=some o/\o.cls=.type "dict_values"/\o.data=.fields #[.ref d]from hv)
 obtain ⟨o,es,ho,hc,hdat,hk⟩:=m
 refine wpAny_pyIter_slot hv.typeIs PySem.F.slot_dict_values_iter (wpAny_call_entry PySem.F.slot_dict_values_iter hv.typeIs PySem.F.entry_dict_values_iter ?_ (PySem.F.args_dict_values_iter_1 _))
 unfold Builtin.«dict_values.__iter__» Builtin.Dict_items.dictOf Builtin.Dict_items.newIterator
 refine wpAny_bind (wpAny_pure (wpAny_bind (wpAny_bind (wpAny_field hov hdv (x:=.ref d) rfl (wpAny_pure (wpAny_bind (wpAny_bind (wpAny_dictEntries ho hdat (wpAny_bind (wpAny_dictEpoch ho hdat ?_))))))))))
 have own:Builtin.Dict_items.ownsTuple "dict_valueiterator"=false:=by decide
 simp only [own,Bool.false_eq_true,if_false]
 refine wpAny_newObj_type (wpAny_pure ⟨_,rfl,"dict_valueiterator",_,⟨_,Heap.get?_push_size _ rfl,rfl⟩,PySem.F.slot_dict_valueiterator_next.lookup,?_⟩)
 simpa [rawInt,gN hk]using q
theorem call_ves {Q:Value->Shared->Prop} (lo:(d==sysModules)=false) (m:VEs s.heap d ks ep)
  (q:Q (.ref s.heap.objs.size) {s with heap:=s.heap.push {cls:=.type "dict_values",data:=.fields #[.ref d]}}):wpAny (model prog w) A (call (.builtin "dict.values") [.ref d]) Q E s:=by
 have ty:=m.type
 refine wpAny_call_entry PySem.F.slot_dict_values ty PySem.F.entry_dict_values ?_ (PySem.F.args_dict_values_1 _)
 refine wpAny_bind ?_
 unfold Builtin.Dict.noArgs
 refine wpAny_bind (wpAny_notOrdered_dict ty ?_)
 refine (show wpAny _ _ (pure d) _ _ s from wpAny_pure (show wpAny _ _ (Builtin.Dict.showsAll d >>= _) _ _ s from ?_))
 unfold Builtin.Dict.showsAll
 rw [if_neg (by rw [lo];exact Bool.false_ne_true)]
 exact wpAny_bind (wpAny_pure (wpAny_bind (wpAny_newObj_type (wpAny_pure ⟨_,rfl,q⟩))))
theorem next_ves {x:Value} {Q:Option Value->Shared->Prop} (st:s.heap.IsValIter j d i ks.length ep) (m:VEs s.heap d ks ep) (hx:ks[i]? =some x)
  (q: ∀ h',h'.IsValIter j d (i+1) ks.length ep->Heap.SameBut j s.heap h'->Q (some x) {s with heap:=h'}):wpAny (model prog w) A (pyNext (.ref j)) Q E s:=by
 have ty:=st.typeIs
 obtain ⟨o,ho,hc,hd⟩:=id st
 obtain ⟨od,es,hod,hcd,hdd,hk⟩:=m
 have hz:=gN hk
 have hlt:i<ks.length:=(List.getElem?_eq_some_iff.mp hx).1
 have hes:i<es.size:=by omega
 have hkey:es[i].val=x:=by
  have e1:(es.toList.map (·.val))[i]? =some x:=by rw [hk];exact hx
  rw [List.getElem?_map,Array.getElem?_toList,Array.getElem?_eq_getElem hes]at e1
  exact Option.some.inj e1
 unfold pyNext
 refine wpAny_bind (wpAny_attempt (wpAny_callSpecial?_slot (name:=Str.ofString "__next__") ty PySem.F.slot_dict_valueiterator_next (wpAny_call_entry PySem.F.slot_dict_valueiterator_next ty PySem.F.entry_dict_valueiterator_next ?_ (PySem.F.args_dict_valueiterator_next_1 _))))
 refine wpAny_bind (wpAny_pure (wpAny_bind (wpAny_bind ?_)))
 first | refine wpAny_bind (wpAny_typeNameOfWhole_valiter ty (wpAny_pure (wpAny_bind (wpAny_fieldsOf ho hd ?_)))) | refine wpAny_bind (wpAny_typeNameOf_valiter ty (wpAny_pure (wpAny_bind (wpAny_fieldsOf ho hd ?_))))
 have own:Builtin.Dict_items.ownsTuple "dict_valueiterator"=false:=by decide
 simp only [own,Bool.false_eq_true,if_false]
 refine (show wpAny _ _ (if (Value.ref d==Value.none)=true then _ else _) _ _ s from ?_)
 rw [if_neg fun b0:(Value.ref d==Value.none)=true=>Bool.false_ne_true b0]
 refine wpAny_bind (wpAny_pure (wpAny_bind (wpAny_dictEntries hod hdd ?_)))
 rw [if_neg (by rw [hz];simp)]
 refine wpAny_bind (wpAny_pure (wpAny_bind (wpAny_dictEpoch hod hdd ?_)))
 rw [if_neg (by simp)]
 refine wpAny_pure ?_
 simp only [show ¬ ((i:Int) <0)from by omega,if_false,Int.toNat_natCast,Array.getElem?_eq_getElem hes]
 refine wpAny_bind ?_
 first | refine wpAny_bind (wpAny_typeNameOfWhole_valiter ty (wpAny_pure (wpAny_bind (wpAny_isOneOf_valiter ty ?_)))) | refine wpAny_bind (wpAny_typeNameOf_valiter ty (wpAny_pure (wpAny_bind (wpAny_isOneOf_valiter ty ?_))))
 refine (show wpAny _ _ (setField (.ref j) 1 (rawInt ((i:Int) +1)) >>= _) _ _ s from ?_)
 refine wpAny_bind (wpAny_setField ho hd (by simp) ?_)
 have st':(s.heap.update j (Obj.mapFields (·.setIfInBounds 1 (rawInt ((i:Int) +1))))).IsValIter j d (i+1) ks.length ep:=by
  refine ⟨_,Heap.get?_update_self _ ho (Obj.isFreed_of_fields (Obj.data_mapFields hd _)),(Obj.cls_mapFields ..).trans hc,?_⟩
  rw [Obj.data_mapFields hd];simp [rawInt]
 refine wpAny_bind (wpAny_holding (wpAny_bind (wpAny_isOneOf_valiter (s:={s with heap:=s.heap.update j (Obj.mapFields (·.setIfInBounds 1 (rawInt ((i:Int) +1))))}) st'.typeIs (wpAny_bind (wpAny_isOneOf_valiter (s:={s with heap:=s.heap.update j (Obj.mapFields (·.setIfInBounds 1 (rawInt ((i:Int) +1))))}) st'.typeIs ?_)))))
 refine (show wpAny _ _ (pure es[i].val) _ _ _ from ?_)
 rw [hkey]
 exact wpAny_pure (wpAny_pure ⟨_,rfl,wpAny_pure (q _ st' (Heap.SameBut.update ..))⟩)
theorem end_ves {Q:Option Value->Shared->Prop} (hh:A.handled=none) (st:s.heap.IsValIter j d i ks.length ep) (m:VEs s.heap d ks ep) (hx:ks.length<=i)
  (q: ∀ h',Heap.ExtBut j s.heap h'->Q none {s with heap:=h'}):wpAny (model prog w) A (pyNext (.ref j)) Q E s:=by
 have ty:=st.typeIs
 obtain ⟨o,ho,hc,hd⟩:=id st
 obtain ⟨od,es,hod,hcd,hdd,hk⟩:=m
 have hz:=gN hk
 unfold pyNext
 refine wpAny_bind (wpAny_attempt (wpAny_callSpecial?_slot (name:=Str.ofString "__next__") ty PySem.F.slot_dict_valueiterator_next (wpAny_call_entry PySem.F.slot_dict_valueiterator_next ty PySem.F.entry_dict_valueiterator_next ?_ (PySem.F.args_dict_valueiterator_next_1 _))))
 refine wpAny_bind (wpAny_pure (wpAny_bind (wpAny_bind ?_)))
 first | refine wpAny_bind (wpAny_typeNameOfWhole_valiter ty (wpAny_pure (wpAny_bind (wpAny_fieldsOf ho hd ?_)))) | refine wpAny_bind (wpAny_typeNameOf_valiter ty (wpAny_pure (wpAny_bind (wpAny_fieldsOf ho hd ?_))))
 have own:Builtin.Dict_items.ownsTuple "dict_valueiterator"=false:=by decide
 simp only [own,Bool.false_eq_true,if_false]
 refine (show wpAny _ _ (if (Value.ref d==Value.none)=true then _ else _) _ _ s from ?_)
 rw [if_neg fun b0:(Value.ref d==Value.none)=true=>Bool.false_ne_true b0]
 refine wpAny_bind (wpAny_pure (wpAny_bind (wpAny_dictEntries hod hdd ?_)))
 rw [if_neg (by rw [hz];simp)]
 refine wpAny_bind (wpAny_pure (wpAny_bind (wpAny_dictEpoch hod hdd ?_)))
 rw [if_neg (by simp)]
 refine wpAny_pure ?_
 have hge:es.size<=i:=by omega
 simp only [show ¬ ((i:Int) <0)from by omega,if_false,Int.toNat_natCast,Array.getElem?_eq_none hge]
 refine wpAny_bind ?_
 first | refine wpAny_bind (wpAny_typeNameOfWhole_valiter ty (wpAny_pure ?_)) | refine wpAny_bind (wpAny_typeNameOf_valiter ty (wpAny_pure ?_))
 refine (show wpAny _ _ (setField (.ref j) 0 .none >>= _) _ _ s from wpAny_bind (wpAny_setField ho hd (by simp) ?_))
 refine (show wpAny _ _ (newExc (.type "StopIteration") [] >>= _) _ _ _ from wpAny_bind ?_)
 simp only [newExc,newTuple]
 refine wpAny_bind (wpAny_newObj_type (wpAny_bind (m:=firstArgMember _ _) (wpAny_of_eq (a:=Value.none) (by first | rfl | (simp only [firstArgMember];rfl)) (wpAny_newObj_type ?_ (by size_fits)))) (by size_fits))
 simp only [raiseNew]
 refine wpAny_bind (wpAny_handled ?_)
 rw [show A.in1.handled=none from hh]
 refine (wpAny_bind (wpAny_pure (wpAny_throw (?_))))
 refine wpAny_bind (wpAny_isInstance (T:="StopIteration") (b:=true) ⟨_,Heap.get?_push_size _ rfl,rfl⟩ isSubtype_stop (wpAny_pure (q _ ?_)))
 exact ((Heap.SameBut.update ..).extBut.push _).push _
end
section
variable {prog:Program} {w:World} {A:Around} {s:Shared} {E:Value->Shared->Prop}
theorem getItem_tuple_all {t sl:Addr} {items:Array Value} {vl vu:Value} {lo hi:Option Int} {Q:Value->Shared->Prop} (ht:IsTup s.heap t items) (hs:s.heap.IsSliceOf sl vl vu .none) (pl:IsPart vl lo) (pu:IsPart vu hi)
  (i1:sIx items.size 0 lo=0) (i2:sIx items.size items.size hi=items.size) (h:Q (.ref t) s):wpAny (model prog w) A (getItem (.ref t) (.ref sl)) Q E s:=by
 obtain ⟨os,hos,hcs,hds⟩:=id hs
 have hTs:s.TypeIs (.ref sl) "slice":=⟨os,hos,hcs⟩
 unfold getItem
 try with_reducible refine wpAny_holding ?_
 first | refine wpAny_bind (wpAny_pure ?_) | skip
 refine wpAny_bind (wpAny_sequenceKey ht.typeIs (by decide) (wpAny_bind (wpAny_callSpecial?_slot (name:=Str.ofString "__getitem__") ht.typeIs PyProof.Rows.slot_tuple_getitem
  (wpAny_call_entry PyProof.Rows.slot_tuple_getitem ht.typeIs entry_tuple_getitem ?_ (args_tuple_getitem _ _)))))
 refine (show wpAny _ _ (Builtin.Tuple.tupleItemsOf (.ref t) >>= _) _ _ s from wpAny_bind (tupleItemsOf_ ht (wpAny_bind (wpAny_typeOf hTs ?_))))
 rw [if_pos (by decide)]
 refine wpAny_bind (dS hs pl pu ?_)
 rw [i1,i2]
 refine (show wpAny _ _ (if (((0:Nat):Int)==0&&(1:Int)==1&&(items.size-0)==items.size)=true then _ else _) _ _ s from ?_)
 rw [if_pos (by simp)]
 refine wpAny_bind (m:=Builtin.Tuple.tupleIsExact _) ?_
 unfold Builtin.Tuple.tupleIsExact
 refine wpAny_bind (wpAny_typeOf ht.typeIs (wpAny_pure ?_))
 rw [if_pos (by decide)]
 exact wpAny_bind (wpAny_rule (wpAny_pure ⟨_,rfl,wpAny_pure h⟩))
end
end HT
namespace L2
open PySem PySem.Spec PyProof.Rows
section
variable {X:Cx}
noncomputable def xT:V->Option Int->Option Int->Hp->VK->Prop:=fun x lo hi H Q=> ∃ a xs,x=.ref a/\H a=some (.tup xs)/\ ∀ p H',(∀ b o,H b=some o->H' b=some o)->H' p=some (.tup (c8 xs lo hi))->Q (.ref p) H'
theorem kf:SlR X xT:=by
 intro pins s Z H x v vl vu lo hi sl Q I rx hs pl pu h
 obtain ⟨a,xs,ex,hx,q⟩:=h
 by_cases hw:HT.sIx xs.length 0 lo=0/\HT.sIx xs.length xs.length hi=xs.length
 ·subst ex
  cases rx
  obtain ⟨its,r,ht,hz⟩:=I.tuple (SqT.of (K:=X.K) hx)
  have hl:=r.length
  refine ⟨"tuple",_,PyProof.Rows.slot_tuple_getitem.lookup,ht.typeIs,HT.getItem_tuple_all ht hs pl pu (by rw [List.size_toArray,<- hl];exact hw.1) (by rw [List.size_toArray,<- hl];exact hw.2) ⟨.ref a,H,I,rfl,q a H (fun _ _ h=>h) ?_⟩⟩
  rw [hx]
  unfold c8
  rw [hw.1,hw.2,List.drop_zero,Nat.sub_zero,List.take_length]
 ·exact nM pins s Z H x v vl vu lo hi sl Q I rx hs pl pu ⟨a,xs,ex,SqT.of hx,hw,fun p hp=>q p _ (fun b o e=>by rw [am (ai e hp)];exact e) ac⟩
end
end L2
namespace HT
open PySem PyProof.Rows
section
variable {prog:Program} {w:World} {A:Around} {s:Shared} {E:Value->Shared->Prop} {d it:Addr} {ks:List (Value×Value)} {i ep:Nat}
noncomputable def IEs (h:Heap) (d:Addr) (ks:List (Value×Value)) (ep:Nat):Prop:= ∃ o es,h.get? d=some o/\o.ExactDict/\o.data=.dict es ep/\es.toList.map (fun e=>(e.key,e.val))=ks
end
end HT
namespace L2
open PySem PySem.Spec PyProof.Rows
theorem Inv.freeze {X:Cx} {pins:List (Addr×Obj)} {Z:St} {H:Hp} {s:Shared} {d:Addr} {o:Obj} {kvs:List (List Key×V)} (I:Inv X pins Z H s) (hd:H d=some (.dT kvs)) (ho:s.heap.get? d=some o):Inv X pins Z (upd H d (.frz o (.dT kvs))) s:=by
 refine iz (t':=s.toks) (h':=s.heap) I (by rw [hd];exact True.intro) ⟨rfl,fun _ _=>rfl⟩ ⟨o,ho⟩ ⟨ho,?_⟩
 obtain ⟨z,lo,xs,kt,r⟩:=(show ObjOk X.prog X.w H s.heap d (.dT kvs)from I.hok d _ hd)
 refine ⟨z,lo,xs,Paired.mapP kt fun p q h=>⟨h.1,?_,h.2.2⟩,r⟩
 rw [am (fun z=>by rw [z,hd]at h;cases h.2.1)]
 exact h.2.1
noncomputable def nO (o:Obj):Nat:=match o.data with
 | .dict es _=>es.size
 | _=>0
noncomputable def epO (o:Obj):Nat:=match o.data with
 | .dict _ ep=>ep
 | _=>0
theorem jh {X:Cx} {pins:List (Addr×Obj)} {Z:St} {H:Hp} {s:Shared} {d:Addr} {o:Obj} {kvs:List (List Key×V)} (I:Inv X pins Z H s) (hd:H d=some (.frz o (.dT kvs))):
  ∃ xs:List (List Key×Addr×Value),KT H kvs xs/\(d==sysModules)=false/\nO o=xs.length/\HT.IEs s.heap d (xs.map fun q=>(Value.ref q.2.1,q.2.2)) (epO o)/\HT.VEs s.heap d (xs.map fun q=>q.2.2) (epO o)/\s.heap.get? d=some o:=by
 obtain ⟨ho,z,lo,xs,kt,o',es,ep,h1,h2,h3,h4,h5⟩:=(show ObjOk X.prog X.w H s.heap d (.frz o (.dT kvs))from I.hok d _ hd)
 rw [ho]at h1
 cases h1
 have e1:nO o=es.size:=by unfold nO;rw [h3]
 have e2:epO o=ep:=by unfold epO;rw [h3]
 refine ⟨xs,kt,lo,?_,⟨o,es,ho,h2,by rw [e2];exact h3,?_⟩,⟨o,es,ho,h2,by rw [e2];exact h3,?_⟩,ho⟩
 ·rw [e1,<- Array.length_toList,h4,List.length_map]
 ·rw [h4,List.map_map];rfl
 ·rw [h4,List.map_map];rfl
theorem vD {H:Hp}: ∀ {kvs:List (List Key×V)} {xs:List (List Key×Addr×Value)} {i:Nat} {kv:List Key×V},KT H kvs xs->kvs[i]? =some kv-> ∃ q:List Key×Addr×Value,xs[i]? =some q/\H q.2.1=some (.tup (kv.1.map kV))/\RelV kv.2 q.2.2
 | _,_,i,_,.nil,e=>by cases i <;> cases e
 | _,_,0,_,.cons h _,e=>by cases e;exact ⟨_,rfl,h.2.1,h.2.2⟩
 | _,_,i+1,_,.cons _ t,e=>vD (i:=i) t e
noncomputable def x8 (J:Addr->Obj->It) (to:TE):TI:=fun Z H R=>to Z H fun x H1=> ∃ d kvs,x=.ref d/\((H1 d=some (.dT kvs)/\ ∀ o,R (J d o) (upd H1 d (.frz o (.dT kvs))))\/ ∃ o,H1 d=some (.frz o (.dT kvs))/\R (J d o) H1)
theorem wA {X:Cx} {pins:List (Addr×Obj)} {Z:St} {H:Hp} {s:Shared} {d:Addr} {kvs:List (List Key×V)} {J:Addr->Obj->It} {R:It->Hp->Prop} (I:Inv X pins Z H s)
  (h:(H d=some (.dT kvs)/\ ∀ o,R (J d o) (upd H d (.frz o (.dT kvs))))\/ ∃ o,H d=some (.frz o (.dT kvs))/\R (J d o) H): ∃ o H',Inv X pins Z H' s/\H' d=some (.frz o (.dT kvs))/\R (J d o) H':=by
 rcases h with ⟨hd,q⟩ | ⟨o,hd,q⟩
 ·obtain ⟨_,_,xs,kt,o,es,ep,h1,_⟩:=(show ObjOk X.prog X.w H s.heap d (.dT kvs)from I.hok d _ hd)
  exact ⟨o,_,I.freeze hd h1,ac,q o⟩
 ·exact ⟨o,H,I,hd,q⟩
noncomputable def Itj (d:Addr) (o:Obj):It:=
 ⟨fun i H=> ∃ kvs kv,H d=some (.frz o (.dT kvs))/\kvs[i]? =some kv,
  fun i H x H'=>H'=H/\ ∀ kvs,H d=some (.frz o (.dT kvs))->(kvs.map (·.2))[i]? =some x,
  fun i H=> ∃ kvs,H d=some (.frz o (.dT kvs))/\kvs.length=i⟩
theorem pL {P:Program} {w:World} {K:PySem.W.Frag} {tg:Expr} (it d:Addr) (o:Obj):nB P w K tg (Itj d o) [it] it (fun i h=>h.IsValIter it d i (nO o) (epO o)) where
 mem:=by simp
 obj:=fun i h st b hb=>by
  have e:b=it:=by simpa using hb
  subst e
  obtain ⟨o,e,c,d⟩:=st
  exact ⟨o,e,fun v z=>by rw [d]at z;cases z⟩
 keep:=fun i h h' st k=>st.at fun o e=>k it (by simp) o e
 item:=by
  intro X hP hw hK hc i pins s Z H E I hf st hg
  subst hP hw hK
  obtain ⟨kvs,kv,hd,hx⟩:=hg
  obtain ⟨xs,kt,lo,hn,_,m,_⟩:=jh I hd
  obtain ⟨q,hq,hc',rv⟩:=vD kt hx
  obtain ⟨f0,f1,f2,f3,f4,f5⟩:=hf it (by simp)
  rw [hn,<- List.length_map (f:=fun q:List Key×Addr×Value=>q.2.2)]at st
  refine HT.next_ves st m (by rw [List.getElem?_map,hq];rfl) fun h' st' sb=>?_
  have I1:Inv X pins Z H {s with heap:=h'}:=I.turned (t':=s.toks) (fun b o hb e=>sb.extBut b o hb e) f0 f1 f3 f4 f5
  obtain ⟨o',e,c,d'⟩:=id st'
  rw [List.length_map,<- hn]at st'
  exact ⟨q.2.2,rfl,nn (s:={s with heap:=h'}) e c d' (by decide) ⟨_,H,I1,rv,⟨rfl,fun ys hy=>by rw [hd]at hy;cases hy;rw [List.getElem?_map,hx];rfl⟩,st',fun b hb=>(hf b hb).1⟩⟩
 done:=by
  intro X hP hw hK hc i pins s Z H E I hf st hg
  subst hP hw hK
  obtain ⟨kvs,hd,hl⟩:=hg
  obtain ⟨xs,kt,lo,hn,_,m,_⟩:=jh I hd
  have hle:xs.length=kvs.length:=(Paired.length kt).symm
  obtain ⟨f0,f1,f2,f3,f4,f5⟩:=hf it (by simp)
  rw [hn,<- List.length_map (f:=fun q:List Key×Addr×Value=>q.2.2)]at st
  exact HT.end_ves (I.ok.hd hc) st m (by rw [List.length_map];omega) fun h' eb=>⟨rfl,I.turned (t':=s.toks) (fun b o hb e=>eb b o hb e) f0 f1 f3 f4 f5⟩
 self:=fun _ _ _ _ _ st h=>wpAny_pyIter_valiter st h
theorem oZ {X:Cx} {tg:Expr} {o:Expr} {to:TE} {apos cpos:Pos} (ho:PE X o to)
  (hbase:attributeBase o "values" X.env (eval o X.env)=eval o X.env:=by rfl) (hline:(apos.endLine==cpos.line)=true:=by rfl):
  PI X tg (.Call (.Attribute o "values" apos) [] [] cpos) (x8 Itj to):=by
 intro pins s Z H R I h
 refine wpAny_Call_method0_late hbase hline (thn (ho pins s Z H _ I h) fun v s1 ⟨x,H1,I1,r1,d,kvs,ex,q1⟩=>?_)
 subst ex
 cases r1
 obtain ⟨ob,H2,I2,hd,q⟩:=wA I1 q1
 obtain ⟨xs,kt,lo,hn,_,m,hob⟩:=jh I2 hd
 refine ⟨"dict","dict.values",PySem.F.plainAttrs_dict,PySem.F.slot_dict_values,PySem.F.type_dict_values,m.type,(fun b e=>?_),Calls.callWith_builtin rfl (PySem.evalArgs_none (HT.call_ves lo m ?_))⟩
 ·cases e
  obtain ⟨o',es',e1,e2,_⟩:=m
  exact ⟨o',e1,e2.2.1⟩
 have kp0: ∀ b o,s1.heap.get? b=some o->(s1.heap.push {cls:=.type "dict_values",data:=.fields #[.ref d]}).get? b=some o:=fun b o e=>Heap.get?_push_of_some _ e
 refine HT.iter_ves ⟨_,Heap.get?_push_size _ rfl,rfl,rfl⟩ (m.keeps fun o e=>kp0 _ o e) ?_
 have hsz:(s1.heap.push {cls:=.type "dict_values",data:=.fields #[.ref d]}).objs.size=s1.heap.objs.size+1:=Heap.size_push ..
 refine ⟨_,[_],_,_,H2,rfl,I2.kept (t':=s1.toks) fun b o e=>Heap.get?_push_of_some _ (kp0 b o e),pL _ d ob,?_,fun b hb=>?_,q⟩
 ·rw [List.length_map,<- hn]
  exact ⟨_,Heap.get?_push_size _ rfl,rfl,rfl⟩
 ·have e:b=(s1.heap.push {cls:=.type "dict_values",data:=.fields #[.ref d]}).objs.size:=by simpa using hb
  have hb':s1.heap.objs.size<=b:=by rw [e,hsz];omega
  exact I2.fpOk hb' (I2.hok.fresh hb')
noncomputable def AlkT (H:Hp):Nat->V->V->Prop
 | 0,v,u=>(∃ z,v=.str z/\u=.str z)\/ ∃ i,v=.int i/\u=.int i
 | n+1,v,u=>((∃ z,v=.str z/\u=.str z)\/ ∃ i,v=.int i/\u=.int i)\/ ∃ a b xs ys,v=.ref a/\u=.ref b/\H a=some (.tup xs)/\H b=some (.tup ys)/\Paired (AlkT H n) xs ys
theorem AlkT.eqAt {X:Cx} {pins:List (Addr×Obj)} {Z:St} {H:Hp} {s:Shared} (I:Inv X pins Z H s): ∀ (n:Nat) {A:Around} {v u:V} {x y:Value},A.units+n<cLine->AlkT H n v u->RelV v x->RelV u y->SeqAt.EqAt A s x y true:=by
 have leaf: ∀ {A:Around} {v u:V} {x y:Value},((∃ z,v=.str z/\u=.str z)\/ ∃ i,v=.int i/\u=.int i)->RelV v x->RelV u y->SeqAt.EqAt A s x y true:=by
  rintro A v u x y (⟨z,rfl,rfl⟩ | ⟨i,rfl,rfl⟩) r1 r2
  ·obtain ⟨t1,rfl⟩:=(show ∃ t,x=Value.str z t from r1)
   obtain ⟨t2,rfl⟩:=(show ∃ t,y=Value.str z t from r2)
   simpa using SeqAt.EqAt.str_str (A:=A) (s:=s) z t1 z t2
  ·obtain ⟨t1,rfl⟩:=(show ∃ t,x=Value.int i t from r1)
   obtain ⟨t2,rfl⟩:=(show ∃ t,y=Value.int i t from r2)
   simpa using SeqAt.EqAt.int_int (A:=A) (s:=s) i t1 i t2
 intro n
 induction n with
 | zero=>intro A v u x y _ h r1 r2;exact leaf h r1 r2
 | succ n ih=>
  intro A v u x y hu h r1 r2
  rcases h with h | ⟨a,b,xs,ys,rfl,rfl,ha,hb,hp⟩
  ·exact leaf h r1 r2
  ·cases (show x=Value.ref a from r1)
   cases (show y=Value.ref b from r2)
   by_cases hab:a=b
   ·subst hab;exact SeqAt.EqAt.same _
   obtain ⟨its,r,p,_⟩:=I.seqS (c:=true) ha
   obtain ⟨its2,r2,p2,_⟩:=I.seqS (c:=true) hb
   have hu1:A.in1.units+n<cLine:=by show A.units+1+n<cLine;omega
   obtain ⟨hl,hj⟩:=eZ (R:=fun x y=>SeqAt.EqAt A.in1 s x y true) (fun v u x y g q1 q2=>ih hu1 g q1 q2) hp r r2
   have:=SeqAt.RcAt.tuples (e:=fun _=>true) p p2 (by omega:A.units<cLine) (fun j h1 h2=>by simpa using hj j (by simpa using h1) (by simpa using h2))
   rw [show ((List.range (min its.toArray.size its2.toArray.size)).all (fun _=>true)&&its.toArray.size==its2.toArray.size)=true by simp [hl]]at this
   exact SeqAt.EqAt.of_refs hab this
end L2
namespace HT
open PySem PyProof.Rows
noncomputable def ins {K:Type} [DecidableEq K] (u:List K):List K->List K
 | []=>u
 | k::r=>ins (if k∈u then u else u++[k]) r
theorem SetOf.keep {prog:Program} {w:World} {K:Type} [DecidableEq K] {knd:KeyKind prog w K} {h h':Heap} {a:Addr} {S:K->Bool} {n:Nat} (H:Heap.SetOf knd h a S n) (k: ∀ o,h.get? a=some o->h'.get? a=some o):Heap.SetOf knd h' a S n:=by
 obtain ⟨o,es,ep,t,h1,h2⟩:=H
 exact ⟨o,es,ep,t,k o h1,h2⟩
theorem SetOf.cong {prog:Program} {w:World} {K:Type} [DecidableEq K] {knd:KeyKind prog w K} {h:Heap} {a:Addr} {S S':K->Bool} {n n':Nat} (H:Heap.SetOf knd h a S n) (e: ∀ k,S k=S' k) (en:n=n'):Heap.SetOf knd h a S' n':=by
 have:S=S':=funext e
 subst this
 subst en
 exact H
theorem lW {prog:Program} {w:World} {A:Around} {R:Result->Shared->Prop} {I:Addr} {fp wr:List Addr} {G:Array GenState->Array GenState->Prop} {P:Nat->Value->Prop} {St:Nat->Shared->Prop} {K:Type} [DecidableEq K] {knd:KeyKind prog w K} {n:Nat}
  (W:WalksS prog w A.in1 I fp wr G n P St) (S:Addr) (hS:S∉fp) (val:List K) (hl:val.length=n) (hP: ∀ i v,P i v-> ∃ k,val[i]? =some k/\knd.is k v=true/\v.scannable=true) (hn:n+1<scanBound):
  ∀ (k i:Nat) (s:Shared) (u:List K),n-i=k->i<=n->St i s->Heap.SetOf knd s.heap S (fun k'=>decide (k'∈u)) u.length->u.length<=i->
   (∀ s',Moved (S::wr) G s s'->Heap.SetOf knd s'.heap S (fun k'=>decide (k'∈ins u (val.drop i))) (ins u (val.drop i)).length->R (.ok (.ret .none)) s')->
   codeAny (model prog w) A (.builtin "set.update.loop" {pos:=[.ref S,.ref I]}) R s:=by
 intro k
 induction k with
 | zero=>
  intro i s u hk hi hst hset hu hR
  have e:i=n:=by omega
  subst e
  refine codeAny_builtin F.entry_set_update_loop ?_
  rw [Around.under_plainId F.plain_set_update_loop]
  refine wpAny_bind (W.done s _ _ hst fun s' mv=>?_)
  have hd:val.drop i=[]:=List.drop_eq_nil_of_le (by omega)
  refine wpAny_pure (hR s' (mv.mono fun b hb=>List.mem_cons_of_mem _ hb) ?_)
  rw [hd]
  exact SetOf.keep hset fun o ho=>mv.heap S o (fun hb=>hS (W.sub S hb)) ho
 | succ k ih=>
  intro i s u hk hi hst hset hu hR
  refine codeAny_builtin F.entry_set_update_loop ?_
  rw [Around.under_plainId F.plain_set_update_loop]
  refine wpAny_bind (W.item i s _ _ (by omega) hst fun v s' hv st' mv=>?_)
  obtain ⟨x,hx,hkx,hsc⟩:=hP i v hv
  have hset':=SetOf.keep hset fun o ho=>mv.heap S o (fun hb=>hS (W.sub S hb)) ho
  have hd:val.drop i=x::val.drop (i+1):=by
   obtain ⟨hlt,hx'⟩:=List.getElem?_eq_some_iff.mp hx
   rw [List.drop_eq_getElem_cons hlt,hx']
  refine wpAny_bind (wpAny_holding (wpAny_holding (wpAny_bind (knd.pyHash hkx (wpAny_setAddHashed_of hkx hsc hset' (by omega) fun h' sb so=>?_)))))
  refine wpAny_pure ⟨plainId_quiet F.plain_set_update_loop _,?_⟩
  refine ih (i+1) _ (if x∈u then u else u++[x]) (by omega) (by omega) ?_ ?_ ?_ ?_
  ·exact W.frame (i+1) s' h' (s'.toks+1) st' (Nat.le_succ _) fun b hb o ho=>(sb.2 b (fun z=>hS (z▸hb))).trans ho
  ·refine SetOf.cong so (fun k'=>?_) ?_
   ·by_cases c:x∈u
    ·rw [if_pos c]
     by_cases c2:k'=x
     ·subst c2;simp [c]
     ·simp [c2]
    ·rw [if_neg c]
     simp
   ·by_cases c:x∈u
    ·rw [if_pos c,if_pos (decide_eq_true c)]
    ·rw [if_neg c,if_neg (by rw [decide_eq_false c];exact Bool.false_ne_true),List.length_append];rfl
  ·split
   ·omega
   ·rw [List.length_append];show u.length+1<=_;omega
  ·intro s2 mv2 hs2
   refine hR s2 ?_ (by rw [hd];exact hs2)
   refine Moved.trans W.gtrans (Moved.then_heap (mv.mono fun b hb=>List.mem_cons_of_mem _ hb) (Nat.le_succ _) fun b o hb ho=>(sb.2 b (fun z=>hb (z▸List.mem_cons_self))).trans ho) mv2
theorem call_setS {prog:Program} {w:World} {A:Around} {E:Value->Shared->Prop} {s:Shared} {l:Addr} {items:Array Value} {K:Type} [DecidableEq K] {knd:KeyKind prog w K} {val:List K} {Q:Value->Shared->Prop} (hh:A.handled=none)
  (hL:s.heap.IsList l items) (hl:val.length=items.size) (hP: ∀ (i:Nat) (v:Value),items[i]? =some v-> ∃ k,val[i]? =some k/\knd.is k v=true/\v.scannable=true) (hn:items.size+1<scanBound)
  (q: ∀ (h':Heap) (tk:Nat),Heap.SetOf knd h' s.heap.objs.size (fun k'=>decide (k'∈ins [] val)) (ins [] val).length->(∀ b o,b<s.heap.objs.size->s.heap.get? b=some o->h'.get? b=some o)->
   Q (.ref s.heap.objs.size) {s with heap:=h',toks:=tk}):
  wpAny (model prog w) A (call (.type "set") [.ref l]) Q E s:=by
 refine wpAny_call (codeAny_of_tree ?_)
 refine wpAny_pure ⟨Code.quiet_builtin _ (by decide +kernel),codeAny_builtin F.entry_type_call ?_⟩
 rw [Around.under_plain (weight_type_call_type _ _ _) rfl]
 obtain ⟨c,tl,em⟩:=F.called_set.mro
 unfold Builtin.«type.__call__»
 simp only [F.called_set.notType,Bool.false_eq_true,if_false,F.called_set.canCreate,F.typeCall_set_1,F.called_set.made,pure_bind,em,List.isEmpty_cons]
 refine wpAny_bind (wpAny_holding (wpAny_call (code_set_new_1 _ fun led=>?_)))
 generalize ho0:({cls:=Value.type "set",data:=Data.set #[] 0 (SetTable.fresh 0 0 led)}:Obj)=o0
 have hset0:Heap.SetOf knd (s.heap.push o0) s.heap.objs.size (fun k'=>decide (k'∈([]:List K))) 0:=by
  subst ho0
  exact SetOf.cong ((setObjOf_fresh (knd:=knd) led).setOf (Heap.get?_push_size _ rfl) (by decide)) (fun k=>by simp) rfl
 have hty:Shared.TypeIs {s with heap:=s.heap.push o0} (.ref s.heap.objs.size) "set":=hset0.typeIs
 refine wpAny_bind (wpAny_isInstance hty F.called_set.sub ?_)
 simp only [Bool.not_true,Bool.false_eq_true,if_false]
 refine wpAny_bind (wpAny_holding (wpAny_callSpecial?_slot hty F.called_set.init (wpAny_call (codeAny_call_builtin (by decide +kernel) F.entry_set_init (check_set_init_1 hty ?_)))))
 unfold Builtin.«set.__init__»
 simp only [noKeywords,List.isEmpty_nil,if_true,pure_bind]
 refine wpAny_bind (show wpAny _ _ (typeNameOfCut 200 (.ref s.heap.objs.size)) _ _ _ from wpAny_bind (wpAny_bind (wpAny_typeOf hty (wpAny_pure (wpAny_pure ?_)))))
 refine wpAny_bind (wpAny_of_eq (show checkCount _ 0 1 1=pure ()from rfl) ?_)
 refine wpAny_bind (wpAny_pure ?_)
 have hload:(s.heap.push o0).get? s.heap.objs.size=some o0:=by subst ho0;exact Heap.get?_push_size _ rfl
 refine wpAny_bind (show wpAny _ _ (setUsed s.heap.objs.size) _ _ _ from wpAny_bind (wpAny_bind (wpAny_load' hload ?_)))
 subst ho0
 refine wpAny_pure (wpAny_pure ?_)
 refine wpAny_bind (?_:wpAny _ _ (Builtin.Frozenset.updateFrom "set.__init__" s.heap.objs.size (.ref l)) _ _ _)
 have hL':=hL.push {cls:=Value.type "set",data:=Data.set #[] 0 (SetTable.fresh 0 0 led)}
 have htyl:Shared.TypeIs {s with heap:=s.heap.push {cls:=Value.type "set",data:=Data.set #[] 0 (SetTable.fresh 0 0 led)}} (.ref l) "list":=Heap.IsList.typeIs hL'
 unfold Builtin.Frozenset.updateFrom
 refine wpAny_bind (show wpAny _ _ (Builtin.Frozenset.isAnySet (.ref l)) _ _ _ from wpAny_bind (wpAny_isInstance htyl F.sub_list_set (wpAny_isInstance htyl F.sub_list_frozenset ?_)))
 refine wpAny_bind (wpAny_typeOf htyl ?_)
 refine wpAny_bind (wpAny_pyIter_list hL' ?_)
 refine wpAny_bind (wpAny_runValue ?_)
 have hsz:(s.heap.push {cls:=Value.type "set",data:=Data.set #[] 0 (SetTable.fresh 0 0 led)}).objs.size=s.heap.objs.size+1:=Heap.size_push _ _
 have hlt:l<s.heap.objs.size:=by
  obtain ⟨o,ho,_⟩:=hL
  exact Heap.lt_size ho
 clear hload hty htyl
 dsimp only
 generalize hh1:s.heap.push {cls:=Value.type "set",data:=Data.set #[] 0 (SetTable.fresh 0 0 led)}=h1 at hset0 hL' hsz ⊢
 have hold: ∀ b o,s.heap.get? b=some o->h1.get? b=some o:=fun b o e=>by rw [<- hh1];exact Heap.get?_push_of_some _ e
 have hno:s.heap.objs.size∉[h1.objs.size,l]:=fun hm=>by
  rw [hsz]at hm
  rcases List.mem_cons.mp hm with z | z
  ·exact absurd z (Nat.ne_of_lt (Nat.lt_succ_self _))
  ·rcases List.mem_cons.mp z with z | z
   ·exact absurd z (Nat.ne_of_gt hlt)
   ·cases z
 refine lW (knd:=knd) (Walks.toS (Walks.list (show A.in1.in1.in1.handled=none from hh) h1.objs.size l (by rw [hsz];exact Nat.ne_of_lt (Nat.lt_succ_of_lt hlt)) items)) s.heap.objs.size hno val hl hP hn items.size 0 _ [] rfl (Nat.zero_le _)
  ⟨⟨_,Heap.get?_push_size _ rfl,rfl,rfl⟩,hL'.push _⟩ (SetOf.keep hset0 fun o ho=>Heap.get?_push_of_some _ ho) (Nat.zero_le _) fun s' mv hs=>?_
 obtain ⟨h',g',d',tk',os'⟩:=s'
 have e1:g'=s.gens:=mv.gens
 have e2:d'=s.drawn:=mv.drawn
 have e3:os'=s.os:=mv.os
 subst e1 e2 e3
 refine wpAny_pure (wpAny_pure (wpAny_pure (q h' tk' hs fun b o hb ho=>mv.heap b o (fun hm=>?_) (Heap.get?_push_of_some _ (hold b o ho)))))
 rw [hsz]at hm
 rcases List.mem_cons.mp hm with z | z
 ·exact absurd z (Nat.ne_of_lt hb)
 ·rcases List.mem_cons.mp z with z | z
  ·exact absurd z (Nat.ne_of_lt (Nat.lt_succ_of_lt hb))
  ·cases z
theorem call_setT {prog:Program} {w:World} {A:Around} {E:Value->Shared->Prop} {s:Shared} {l:Addr} {items:Array Value} {K:Type} [DecidableEq K] {knd:KeyKind prog w K} {val:List K} {Q:Value->Shared->Prop} (hh:A.handled=none)
  (hL:s.heap.IsTuple l items) (hl:val.length=items.size) (hP: ∀ (i:Nat) (v:Value),items[i]? =some v-> ∃ k,val[i]? =some k/\knd.is k v=true/\v.scannable=true) (hn:items.size+1<scanBound)
  (q: ∀ (h':Heap) (tk:Nat),Heap.SetOf knd h' s.heap.objs.size (fun k'=>decide (k'∈ins [] val)) (ins [] val).length->(∀ b o,b<s.heap.objs.size->s.heap.get? b=some o->h'.get? b=some o)->
   Q (.ref s.heap.objs.size) {s with heap:=h',toks:=tk}):
  wpAny (model prog w) A (call (.type "set") [.ref l]) Q E s:=by
 refine wpAny_call (codeAny_of_tree ?_)
 refine wpAny_pure ⟨Code.quiet_builtin _ (by decide +kernel),codeAny_builtin F.entry_type_call ?_⟩
 rw [Around.under_plain (weight_type_call_type _ _ _) rfl]
 obtain ⟨c,tl,em⟩:=F.called_set.mro
 unfold Builtin.«type.__call__»
 simp only [F.called_set.notType,Bool.false_eq_true,if_false,F.called_set.canCreate,F.typeCall_set_1,F.called_set.made,pure_bind,em,List.isEmpty_cons]
 refine wpAny_bind (wpAny_holding (wpAny_call (code_set_new_1 _ fun led=>?_)))
 generalize ho0:({cls:=Value.type "set",data:=Data.set #[] 0 (SetTable.fresh 0 0 led)}:Obj)=o0
 have hset0:Heap.SetOf knd (s.heap.push o0) s.heap.objs.size (fun k'=>decide (k'∈([]:List K))) 0:=by
  subst ho0
  exact SetOf.cong ((setObjOf_fresh (knd:=knd) led).setOf (Heap.get?_push_size _ rfl) (by decide)) (fun k=>by simp) rfl
 have hty:Shared.TypeIs {s with heap:=s.heap.push o0} (.ref s.heap.objs.size) "set":=hset0.typeIs
 refine wpAny_bind (wpAny_isInstance hty F.called_set.sub ?_)
 simp only [Bool.not_true,Bool.false_eq_true,if_false]
 refine wpAny_bind (wpAny_holding (wpAny_callSpecial?_slot hty F.called_set.init (wpAny_call (codeAny_call_builtin (by decide +kernel) F.entry_set_init (check_set_init_1 hty ?_)))))
 unfold Builtin.«set.__init__»
 simp only [noKeywords,List.isEmpty_nil,if_true,pure_bind]
 refine wpAny_bind (show wpAny _ _ (typeNameOfCut 200 (.ref s.heap.objs.size)) _ _ _ from wpAny_bind (wpAny_bind (wpAny_typeOf hty (wpAny_pure (wpAny_pure ?_)))))
 refine wpAny_bind (wpAny_of_eq (show checkCount _ 0 1 1=pure ()from rfl) ?_)
 refine wpAny_bind (wpAny_pure ?_)
 have hload:(s.heap.push o0).get? s.heap.objs.size=some o0:=by subst ho0;exact Heap.get?_push_size _ rfl
 refine wpAny_bind (show wpAny _ _ (setUsed s.heap.objs.size) _ _ _ from wpAny_bind (wpAny_bind (wpAny_load' hload ?_)))
 subst ho0
 refine wpAny_pure (wpAny_pure ?_)
 refine wpAny_bind (?_:wpAny _ _ (Builtin.Frozenset.updateFrom "set.__init__" s.heap.objs.size (.ref l)) _ _ _)
 have hL':=hL.push {cls:=Value.type "set",data:=Data.set #[] 0 (SetTable.fresh 0 0 led)}
 have htyl:Shared.TypeIs {s with heap:=s.heap.push {cls:=Value.type "set",data:=Data.set #[] 0 (SetTable.fresh 0 0 led)}} (.ref l) "tuple":=Heap.IsTuple.typeIs hL'
 unfold Builtin.Frozenset.updateFrom
 refine wpAny_bind (show wpAny _ _ (Builtin.Frozenset.isAnySet (.ref l)) _ _ _ from wpAny_bind (wpAny_isInstance htyl F.sub_tuple_set (wpAny_isInstance htyl F.sub_tuple_frozenset ?_)))
 refine wpAny_bind (wpAny_typeOf htyl ?_)
 refine wpAny_bind (wpAny_pyIter_tuple hL' ?_)
 refine wpAny_bind (wpAny_runValue ?_)
 have hsz:(s.heap.push {cls:=Value.type "set",data:=Data.set #[] 0 (SetTable.fresh 0 0 led)}).objs.size=s.heap.objs.size+1:=Heap.size_push _ _
 have hlt:l<s.heap.objs.size:=by
  obtain ⟨o,ho,_⟩:=hL
  exact Heap.lt_size ho
 clear hload hty htyl
 dsimp only
 generalize hh1:s.heap.push {cls:=Value.type "set",data:=Data.set #[] 0 (SetTable.fresh 0 0 led)}=h1 at hset0 hL' hsz ⊢
 have hold: ∀ b o,s.heap.get? b=some o->h1.get? b=some o:=fun b o e=>by rw [<- hh1];exact Heap.get?_push_of_some _ e
 have hno:s.heap.objs.size∉[h1.objs.size,l]:=fun hm=>by
  rw [hsz]at hm
  rcases List.mem_cons.mp hm with z | z
  ·exact absurd z (Nat.ne_of_lt (Nat.lt_succ_self _))
  ·rcases List.mem_cons.mp z with z | z
   ·exact absurd z (Nat.ne_of_gt hlt)
   ·cases z
 refine lW (knd:=knd) (Walks.toS (Walks.tuple (show A.in1.in1.in1.handled=none from hh) h1.objs.size l (by rw [hsz];exact Nat.ne_of_lt (Nat.lt_succ_of_lt hlt)) items)) s.heap.objs.size hno val hl hP hn items.size 0 _ [] rfl (Nat.zero_le _)
  ⟨⟨_,Heap.get?_push_size _ rfl,rfl,rfl⟩,hL'.push _⟩ (SetOf.keep hset0 fun o ho=>Heap.get?_push_of_some _ ho) (Nat.zero_le _) fun s' mv hs=>?_
 obtain ⟨h',g',d',tk',os'⟩:=s'
 have e1:g'=s.gens:=mv.gens
 have e2:d'=s.drawn:=mv.drawn
 have e3:os'=s.os:=mv.os
 subst e1 e2 e3
 refine wpAny_pure (wpAny_pure (wpAny_pure (q h' tk' hs fun b o hb ho=>mv.heap b o (fun hm=>?_) (Heap.get?_push_of_some _ (hold b o ho)))))
 rw [hsz]at hm
 rcases List.mem_cons.mp hm with z | z
 ·exact absurd z (Nat.ne_of_lt hb)
 ·rcases List.mem_cons.mp z with z | z
  ·exact absurd z (Nat.ne_of_lt (Nat.lt_succ_of_lt hb))
  ·cases z
end HT
namespace L2
open PySem
section
variable {X:Cx}
noncomputable def uu (K:PySem.W.Frag) (te:TE):TE:=fun Z H Q=>te Z H fun x H1=> ∃ (a:Addr) (xs:List Str),x=.ref a/\(SqL K H1 a (xs.map V.str)\/SqT K H1 a (xs.map V.str))/\xs.length<=1000/\Q (.int ((HT.ins [] xs).length:Int)) H1
theorem lJ {xs:List Str} {its:List Value} (r:Vals (xs.map V.str) its): ∀ (i:Nat) (v:Value),its.toArray[i]? =some v-> ∃ k,xs[i]? =some k/\(∃ t,v=.str k t):=by
 induction xs generalizing its with
 | nil=>cases r;intro i v h;simp at h
 | cons x l ih=>
  cases r with
  | cons r1 r2=>
   intro i v h
   rw [List.getElem?_toArray]at h
   cases i with
   | zero=>
    cases h
    obtain ⟨t,e⟩:=r1
    exact ⟨x,rfl,t,e⟩
   | succ i=>exact ih r2 i v (by rw [List.getElem?_toArray];exact h)
theorem qd {e:Expr} {p1 p2 p3 p4:Pos} {te:TE} (hcalm:X.calm=true) (gl:Gl X "len") (ml:X.mg "len"=none) (gs:Gl X "set") (ms:X.mg "set"=none) (he:PE X e te)
  (h1:starEach [.Call (.Name "set" p2) [e] [] p3] X.env=[(false,eval (.Call (.Name "set" p2) [e] [] p3) X.env)]:=by rfl) (h2:starEach [e] X.env=[(false,eval e X.env)]:=by rfl):
  PE X (.Call (.Name "len" p1) [.Call (.Name "set" p2) [e] [] p3] [] p4) (uu X.K te):=by
 intro pins s Z H Q I h
 refine wpAny_Call_Name_kw (fh I gl ml PySem.boot_len ?_)
 refine PyProof.Rows.callWith_builtin1 ?_ h1 rfl
 rw [h1]
 refine Calls.spliced_cons (wpAny_Call_Name_kw (fh I gs ms (show bootBuiltins "set"=some (.type "set") by decide +kernel) (PyProof.Rows.callWith_type1 ?_ h2 rfl)))
 rw [h2]
 refine Calls.spliced_cons (thn (he pins s Z H _ I h) fun u s1 ⟨x,H1,I1,r1,q1⟩=>Calls.spliced_nil ?_)
 obtain ⟨a,xs,rfl,hq,hx,q⟩:=q1
 cases r1
 have hh:X.A.handled=none:=I1.ok.hd hcalm
 have fin: ∀ (h':Heap) (tk:Nat),Heap.SetOf (strKind X.prog X.w) h' s1.heap.objs.size (fun k'=>decide (k'∈HT.ins [] xs)) (HT.ins [] xs).length->(∀ b o,b<s1.heap.objs.size->s1.heap.get? b=some o->h'.get? b=some o)->
   wpAny (model X.prog X.w) X.A (call (Value.builtin "len") [.ref s1.heap.objs.size]) (EP X pins Z Q) X.xe {s1 with heap:=h',toks:=tk}:=fun h' tk hs k=>by
  obtain ⟨o,es,ep,t,g1,g2,g3,_,_,g4,g5,g6⟩:=hs
  refine call_len_set g1 g2 g3 g5 (Int.lt_trans (Int.ofNat_lt.mpr g4) (by decide)) ?_
  rw [g6]
  exact ⟨.int _,H1,I1.kept fun b o e=>k b o (Heap.lt_size e) e,⟨_,rfl⟩,q⟩
 have hmem: ∀ {its:List Value},Vals (xs.map V.str) its-> ∀ (i:Nat) (v:Value),its.toArray[i]? =some v-> ∃ k,xs[i]? =some k/\(strKind X.prog X.w).is k v=true/\v.scannable=true:=fun r' i v hv=>by
  obtain ⟨k,e1,t,rfl⟩:=lJ r' i v hv
  exact ⟨k,e1,strKind_is _ _ _ _,rfl⟩
 have hsz: ∀ {its:List Value},Vals (xs.map V.str) its->xs.length=its.toArray.size:=fun r'=>by
  rw [List.size_toArray,<- r'.length,List.length_map]
 have hb: ∀ {its:List Value},Vals (xs.map V.str) its->its.toArray.size+1<scanBound:=fun r'=>by
  rw [<- hsz r']
  exact Nat.lt_of_le_of_lt (Nat.succ_le_succ hx) (by decide)
 rcases hq with hq | hq
 ·obtain ⟨its,r',pl,hz⟩:=I1.list hq
  exact HT.call_setS (knd:=strKind X.prog X.w) (val:=xs) hh pl.isList (hsz r') (hmem r') (hb r') fun h' tk hs k=>Calls.spliced_nil (fin h' tk hs k)
 ·obtain ⟨its,r',pl,hz⟩:=I1.tuple hq
  obtain ⟨o,ho,hc,n,hd⟩:=pl
  exact HT.call_setT (knd:=strKind X.prog X.w) (val:=xs) hh ⟨o,ho,hc,n,hd⟩ (hsz r') (hmem r') (hb r') fun h' tk hs k=>Calls.spliced_nil (fin h' tk hs k)
theorem jM {K:Type} [DecidableEq K]: ∀ {l u:List K},(u++l).Nodup->HT.ins u l=u++l
 | [],u,_=>(List.append_nil u).symm
 | x::r,u,h=>by
  have hx:x∉u:=fun m=>(List.nodup_append.mp h).2.2 x m x List.mem_cons_self rfl
  show HT.ins (if x∈u then u else u++[x]) r=_
  rw [if_neg hx,jM (by rw [List.append_assoc];exact h),List.append_assoc]
  rfl
end
end L2
namespace L2
open PySem PyProof.Rows
structure pI (sc0:Scope) (N0:List Str) (scope:Scope) (x x2 x3:Str) (ys:List Str) (fr:List Nat):Prop where
 kind:scope.kind=.function
 nocell: ∀ y∈scope.names,y.2≠ .cell
 loc: ∀ y∈scope.names,y.2=.local->scope.names.lookup y.1=some .local
 xl:(aV sc0 scope).lookup x=some .local
 xl2:(aV sc0 scope).lookup x2=some .local
 xl3:(aV sc0 scope).lookup x3=some .local
 free: ∀ y∈scope.names,y.2=.free->sc0.names.lookup y.1=some .cell
 nd:(x::x2::x3::ys).Nodup
 len:ys.length=fr.length
 sl: ∀ q∈ys.zip fr,N0[q.2]? =some q.1/\sc0.names.lookup q.1=some .cell/\(aV sc0 scope).lookup q.1=some .cell
noncomputable def cI (X:Cx) (x x2 x3:Str) (ys:List Str) (scope:Scope) (C:Addr) (s:Shared) (H:Hp) (ex:List Addr):Cx:=
 {X with N:=x::x2::x3::ys,s₀:=s,H₀:=H,env:=compEnvC scope (cR X.env.cells scope.names) C X.env,outer:=X.stack,stack:=X.stack,ex:=ex,fn:=fun _=>false,pn:=[],xe:=fun _ _=>False}
noncomputable def oP (fr:List Nat) (te:TE) (Z:St) (J:It) (H1:Hp) (Q:VK):Prop:=
 ∀ p,H1 p=none-> ∃ W:Nat->Nat->List V->Hp->Prop,(∃ m,W 0 m [] (upd H1 p (.lst [])))/\ ∀ i m ys H,W i m ys H->H p=some (.lst ys)/\
  ((J.stop i H/\Q (.ref p) H)\/(J.go i H/\ys.length<sizeLine/\ ∀ x H',J.yld i H x H'-> ∃ T v1 v2 v3,x=.ref T/\H' T=some (.tup [v1,v2,v3])/\te (some v1::some v2::some v3::cc fr Z) H' fun v H2=>
   H2 p=some (.lst ys)/\ ∃ m',m'<m/\W (i+1) m' (ys++[v]) (upd H2 p (.lst (ys++[v])))))
noncomputable def qW (wi:TI) (fr:List Nat) (te:TE):TE:=fun Z H Q=>wi Z H fun J H1=>oP fr te Z J H1 Q
section
variable {X:Cx} {x x2 x3:Str} {px px2 px3 tpos pos fpos:Pos} {kk:Nat} {iter elt:Expr} {scope sc0:Scope} {N0 ys:List Str} {fr:List Nat} {wi:TI} {te:TE} {pins:List (Addr×Obj)} {Z:St} {H:Hp} {s:Shared}
theorem oH {use:Option (Value->Sem Unit)} {Qv:Value->Shared->Prop} {Q:VK} (hcalm:X.calm=true) (hi:PI X (.Tuple [.Name x px,.Name x2 px2,.Name x3 px3] kk tpos) iter wi) (hsc:X.env.scope=sc0) (hN:X.N=N0) (ok:pI sc0 N0 scope x x2 x3 ys fr)
  (hE: ∀ C s H ex,PE (cI X x x2 x3 ys scope C s H ex) elt te) (I:Inv X pins Z H s) (h:qW wi fr te Z H Q) (hs: ∀ v,foldedSetIterable iter X.env v=pure v)
  (fin: ∀ (p C:Addr) (H':Hp) (s':Shared) (m:Str->Option Value),Inv X pins Z H' s'->s'.heap.Ns C m->H' C=none->C≠X.env.locals->X.s₀.heap.objs.size<=C->(∀ y c,X.env.cells.lookup y=some c->c≠C)->(∀ q∈X.pn++pins,q.1≠C)->Q (.ref p) H'->
   compPost (model X.prog X.w) X.A X.xe use Qv (.ref p) C (.ok .next) s'):
  wpAny (model X.prog X.w) X.A (comprehension (.ListComp elt [⟨.Tuple [.Name x px,.Name x2 px2,.Name x3 px3] kk tpos,iter,[],0⟩] scope pos) scope X.env fpos (newList []) false (eval iter X.env) use) Qv X.xe s:=by
 subst hsc hN
 have hkof: ∀ y,X.env.kindOf y=X.env.scope.names.lookup y:=fun y=>rfl
 have hfree: ∀ y∈scope.names,y.2=.free-> ∃ c,X.env.cells.lookup y.1=some c:=fun y hy e=>I.ok.has y.1 (.inl (ok.free y hy e))
 refine wpAny_comprehension_free (gs:=[]) rfl hs (cZ hfree) ok.kind ok.loc (thn (hi pins s Z H _ I h) fun v s1 h1=>thn h1 fun itv s2 h2=>?_)
 obtain ⟨it,fp,tn,J,H2,e,I2,T,st2,f2,hp⟩:=h2
 subst e
 refine wpAny_newObj_type (wpAny_newFunctionEnv ok.nocell (by intro y hy;simp at hy) (fun h₁ hns₁ hsb₁=>?_) ok.kind)
 dsimp only at hns₁ hsb₁ ⊢
 have I3:Inv X pins Z (upd H2 s2.heap.objs.size (.lst [])) {s2 with heap:=s2.heap.push {cls:=.type "list",data:=.seq ([]:List Value).toArray}}:=
  I2.lnew (its:=[]) (ys:=[]) (t':=s2.toks) .nil (Nat.zero_le _)
 have hf2: ∀ b∈fp,b<s2.heap.objs.size:=fun b hb=>by
  obtain ⟨o,e,_⟩:=T.obj _ _ st2 b hb
  exact Heap.lt_size e
 have hps:s2.heap.objs.size< (s2.heap.push {cls:=.type "list",data:=.seq ([]:List Value).toArray}).objs.size:=by rw [Heap.size_push];exact Nat.lt_succ_self _
 have W0:=hp s2.heap.objs.size I2.fresh
 have st3:tn 0 (s2.heap.push {cls:=.type "list",data:=.seq ([]:List Value).toArray}):=T.keep _ _ _ st2 fun b hb o e=>Heap.get?_push_of_some _ e
 generalize hpp:s2.heap.objs.size=p at I3 W0 hf2 hps ⊢
 generalize hh3:(s2.heap.push {cls:=.type "list",data:=.seq ([]:List Value).toArray})=h3 at I3 hns₁ hsb₁ hps st3 ⊢
 generalize hH3:upd H2 p (.lst [])=H3 at I3 W0
 have hold: ∀ b o,h3.get? b=some o->h₁.get? b=some o:=fun b o e=>hsb₁.extBut b o (Nat.ne_of_lt (Heap.lt_size e)) (Heap.get?_push_of_some _ e)
 have fH3: ∀ b∈fp,H3 b=none:=fun b hb=>by
  rw [<- hH3,am (Nat.ne_of_lt (hf2 b hb))]
  exact (f2 b hb).1
 have hclos: ∀ y c,(cR X.env.cells scope.names).lookup y=some c->X.env.cells.lookup y=some c:=fun y c e=>cQ e
 have hcell3: ∀ y c,X.env.cells.lookup y=some c->c<h3.objs.size:=fun y c e=>by
  obtain ⟨v,o,ho,_⟩:=I3.cell y c e
  exact Heap.lt_size ho
 have hlt3:X.env.locals<h3.objs.size:=I3.lt
 have Yok:(cI X x x2 x3 ys scope h3.objs.size {s2 with heap:=h3} H3 fp).Ok:={
  mod:=I.ok.mod
  kind:=ok.kind
  glob:=I.ok.glob
  blt:=I.ok.blt
  above:=Nat.le_refl _
  inj:=fun y z c e1 e2=>I.ok.inj y z c (hclos _ _ e1) (hclos _ _ e2)
  has:=fun y hk=>by
   have hfr:(y,NameKind.free)∈scope.names:=by
    have hm: ∃ k,(aV X.env.scope scope).lookup y=some k/\(k=.cell\/k=.free):=by
     rcases hk with hk | hk
     ·exact ⟨_,hk,.inl rfl⟩
     ·exact ⟨_,hk,.inr rfl⟩
    obtain ⟨k,hk,hkk⟩:=hm
    have hmem:=mem_of_lookup hk
    unfold aV at hmem
    obtain ⟨⟨n,k0⟩,hn,en⟩:=List.mem_map.mp hmem
    dsimp only at en
    split at en
    ·rename_i hc
     simp only [Bool.and_eq_true]at hc
     have hk0:k0=.free:=by simpa using hc.1.1
     cases en
     rw [<- hk0]
     exact hn
    ·cases en
     rcases hkk with e | e
     ·exact absurd e (ok.nocell _ hn)
     ·rw [<- e]
      exact hn
   obtain ⟨c,hc⟩:=hfree _ hfr rfl
   exact ⟨c,cy hc hfr⟩
  cab:=fun y c hf _=>by cases hf
  hd:=I.ok.hd
  frames:=I.ok.frames
  stk:=.inl rfl
  exf:=fun b hb=>⟨fun e=>absurd (hf2 b hb) (by rw [e];exact Nat.not_lt.mpr (Nat.le_of_lt hps)),fun y c e=>(f2 b hb).2.2.2.2.1 y c (hclos _ _ e)⟩
  bs:=fun b o e=>⟨(I3.bs b o e).1,(I3.bs b o e).2⟩
  bsz:=Nat.le_trans I.ok.bsz I3.sz
  noex:=fun b o e hb=>by
   rcases (f2 b hb).2.2.2.1 with q | q
   ·exact I.ok.noex b o e q
   ·have h1:b<X.base.objs.size:=Heap.lt_size e
    exact absurd h1 (Nat.not_lt.mpr (Nat.le_trans I.ok.bsz q))
  exfs:=fun b hb hm=>by
   rcases List.mem_cons.mp (I3.stkSub b hm)with q | q
   ·exact (f2 b hb).2.1 q
   ·exact (f2 b hb).2.2.1 q
  funs:=I3.stack
  frf:=I3.stkFree}
 have IY:Inv (cI X x x2 x3 ys scope h3.objs.size {s2 with heap:=h3} H3 fp) [] (none::none::none::cc fr Z) H3 {s2 with heap:=h₁,toks:=s2.toks+ ([]:List (Str×Value)).length}:={
  ok:=Yok
  os:=rfl
  bare:=I2.bare
  base:=Un.kept hold
  loc:=by
   refine ⟨_,hns₁,fun i y v hy hv hvis=>?_⟩
   match i,hy,hv with
   | 0,_,hv=>cases hv
   | 1,_,hv=>cases hv
   | 2,_,hv=>cases hv
   | j+3,hy,hv=>
    have hy':ys[j]? =some y:=hy
    have hv':(cc fr Z)[j]? =some (some v):=hv
    unfold cc at hv'
    rw [List.getElem?_map]at hv'
    obtain ⟨i0,hi0,hv0⟩:=Option.map_eq_some_iff.mp hv'
    have hz:(y,i0)∈ys.zip fr:=by
     refine List.mem_iff_getElem?.mpr ⟨j,?_⟩
     rw [List.getElem?_zip_eq_some]
     exact ⟨hy',hi0⟩
    obtain ⟨hn,hk,hk2⟩:=ok.sl _ hz
    have hZ:Z[i0]? =some (some v):=by
     cases e:Z[i0]? with
     | none=>rw [e]at hv0;cases hv0
     | some o=>
      rw [e]at hv0
      rw [show o=some v from hv0]
    obtain ⟨m,hm,hl⟩:=I3.loc
    obtain ⟨u,ru,lk⟩:=hl i0 y v hn hZ (.inr (.inl hk))
    refine ⟨u,ru,.inr ⟨.inl hk2,?_⟩⟩
    rcases lk with ⟨a,_⟩ | ⟨_,c,hc,hcell⟩
    ·have a':X.env.scope.names.lookup y=some .local:=a
     have hk':X.env.scope.names.lookup y=some .cell:=hk
     rw [hk']at a'
     cases a'
    ·have hfr:(y,NameKind.free)∈scope.names:=by
      have hmem:=mem_of_lookup hk2
      unfold aV at hmem
      obtain ⟨⟨n,k0⟩,hn0,en⟩:=List.mem_map.mp hmem
      dsimp only at en
      split at en
      ·rename_i hc0
       simp only [Bool.and_eq_true]at hc0
       have hk0:k0=.free:=by simpa using hc0.1.1
       cases en
       rw [<- hk0]
       exact hn0
      ·cases en
       exact absurd rfl (ok.nocell _ hn0)
     exact ⟨c,cy hc hfr,hcell.keeps hold⟩
  cell:=fun y c e=>by
   obtain ⟨v,hv⟩:=I3.cell y c (hclos _ _ e)
   exact ⟨v,hv.keeps hold⟩
  free:=I3.fresh
  freeC:=fun y c e=>I3.freeC y c (hclos _ _ e)
  pin:=fun q hq=>by cases hq
  hok:=I3.hok.kept hold
  len:=by
   show (none::none::none::cc fr Z).length=(x::x2::x3::ys).length
   rw [List.length_cons,List.length_cons,List.length_cons,List.length_cons,List.length_cons,List.length_cons,ok.len]
   unfold cc
   rw [List.length_map]}
 have hxl:(cI X x x2 x3 ys scope h3.objs.size {s2 with heap:=h3} H3 fp).env.scope.names.lookup x=some .local:=ok.xl
 have hxl2:(cI X x x2 x3 ys scope h3.objs.size {s2 with heap:=h3} H3 fp).env.scope.names.lookup x2=some .local:=ok.xl2
 have hxl3:(cI X x x2 x3 ys scope h3.objs.size {s2 with heap:=h3} H3 fp).env.scope.names.lookup x3=some .local:=ok.xl3
 have pgx:PG (cI X x x2 x3 ys scope h3.objs.size {s2 with heap:=h3} H3 fp) (.Tuple [.Name x px,.Name x2 px2,.Name x3 px3] kk tpos) (wx X.K 3 (jN (dI 0) (jN (dI 1) (jN (dI 2) wz)))):=
  eC hcalm (aU (aH (i:=0) ok.nd rfl (.inl hxl) (.inr hxl)) (aU (aH (i:=1) ok.nd rfl (.inl hxl2) (.inr hxl2)) (aU (aH (i:=2) ok.nd rfl (.inl hxl3) (.inr hxl3)) dj)))
 have pel:=hE h3.objs.size {s2 with heap:=h3} H3 fp
 obtain ⟨W,⟨m0,w0⟩,turn⟩:=W0
 have stat: ∀ {H':Hp},(∀ b∈fp,H' b=none)-> ∀ b∈fp,iq (cI X x x2 x3 ys scope h3.objs.size {s2 with heap:=h3} H3 fp) [] H' b:=fun hn b hb=>
  ⟨hn b hb,(Yok.exf b hb).1,Yok.exfs b hb,.inl hb,(Yok.exf b hb).2,fun q hq=>by cases hq⟩
 have loop:codeAny (model X.prog X.w) X.A (.compLoop (.ListComp elt [⟨.Tuple [.Name x px,.Name x2 px2,.Name x3 px3] kk tpos,iter,[],0⟩] scope pos) 0 (.ref it) (.ref p) (compEnvC scope (cR X.env.cells scope.names) h3.objs.size X.env))
   (compPost (model X.prog X.w) X.A X.xe use Qv (.ref p) h3.objs.size) {s2 with heap:=h₁,toks:=s2.toks+ ([]:List (Str×Value)).length}:=by
  refine dM (fun n s'=> ∃ i zs v0 w0 z0 H',Inv (cI X x x2 x3 ys scope h3.objs.size {s2 with heap:=h3} H3 fp) [] (v0::w0::z0::cc fr Z) H' s'/\tn i s'.heap/\(∀ b∈fp,H' b=none)/\W i n zs H') ?_ m0
   ⟨0,[],none,none,none,H3,IY,T.keep _ _ _ st3 fun b hb o e=>hold b o e,fH3,w0⟩
  rintro n s5 ⟨i,zs,v0,wv0,zv0,H5,I5,st5,fr5,w5⟩
  obtain ⟨hacc,turn5⟩:=turn i n zs H5 w5
  rcases turn5 with ⟨stop,qn⟩ | ⟨go,hlen,step⟩
  ·refine thn (T.done (cI X x x2 x3 ys scope h3.objs.size {s2 with heap:=h3} H3 fp) rfl rfl rfl hcalm i [] s5 _ H5 _ I5 (stat fr5) st5 stop) fun r s6 ⟨hr,I6⟩=>?_
   subst hr
   obtain ⟨m6,n6,_⟩:=I6.loc
   refine fin p h3.objs.size H5 s6 m6 (I3.call' I6.os I6.base I6.hok I6.bare fun b hb=>⟨(f2 b hb).2.2.2.1,(f2 b hb).2.1,(f2 b hb).2.2.2.2.1,(f2 b hb).2.2.2.2.2⟩) n6 I6.free (Nat.ne_of_gt hlt3) I3.sz (fun y c e=>Nat.ne_of_lt (hcell3 y c e)) (fun q hq=>?_) qn
   exact Nat.ne_of_lt (Heap.lt_size (I3.pin q hq).1)
  ·refine thn (T.item (cI X x x2 x3 ys scope h3.objs.size {s2 with heap:=h3} H3 fp) rfl rfl rfl hcalm i [] s5 _ H5 _ I5 (stat fr5) st5 go) fun r s6 ⟨u,hr,h6⟩=>?_
   subst hr
   refine thn h6 fun _ s7 ⟨xv,H7,I7,r7,y7,st7,fr7⟩=>?_
   have I7':=I7.pinned (stat fr7) (T.obj _ _ st7)
   obtain ⟨T7,v1,v2,v3,eT,hT7,step7⟩:=step xv H7 y7
   refine thn (pgx _ s7 _ H7 xv u (fun Z' H'=>Z'=some v1::some v2::some v3::cc fr Z/\H'=H7) I7' r7 ⟨T7,[v1,v2,v3],eT,SqT.of hT7,rfl,v1,[v2,v3],rfl,v2,[v3],rfl,v3,[],rfl,rfl,rfl,rfl⟩) fun _ s8 ⟨Z8,H8,I8,e8,e8'⟩=>?_
   subst e8 e8'
   refine thn (pel _ s8 _ H8 _ I8 step7) fun yv s9 ⟨v9,H9,I9,r9,hp9,m',hm',w9⟩=>?_
   refine thn (bZ _ s9 _ H9 (.ref p) [v9] (.ref p) [yv] (fun _ H'=>H'=upd H9 p (.lst (zs++[v9]))) I9 rfl (.cons r9 .nil) ⟨p,zs,v9,rfl,rfl,hp9,hlen,rfl⟩) fun _ s10 ⟨_,H10,I10,_,e10⟩=>?_
   subst e10
   refine ⟨m',hm',i+1,zs++[v9],some v1,some v2,some v3,_,I10.unpinned,T.keep _ _ _ st7 fun b hb o e=>(I10.pin (b,o) (List.mem_append_right _ (List.mem_append_right _ (bw hb e)))).1,fun b hb=>?_,w9⟩
   obtain ⟨o,e,d⟩:=T.obj _ _ st7 b hb
   exact (I10.pin (b,o) (List.mem_append_right _ (List.mem_append_right _ (bw hb e)))).2.1
 exact codeAny_compStart_list loop (T.self X.A 0 _ _ _ (T.keep _ _ _ st3 fun b hb o e=>hold b o e) loop)
theorem mi (hcalm:X.calm=true) (hi:PI X (.Tuple [.Name x px,.Name x2 px2,.Name x3 px3] kk tpos) iter wi) (hsc:X.env.scope=sc0) (hN:X.N=N0) (ok:pI sc0 N0 scope x x2 x3 ys fr)
  (hE: ∀ C s H ex,PE (cI X x x2 x3 ys scope C s H ex) elt te) (hs: ∀ v,foldedSetIterable iter X.env v=pure v:=by intro _;rfl):
  PE X (.ListComp elt [⟨.Tuple [.Name x px,.Name x2 px2,.Name x3 px3] kk tpos,iter,[],0⟩] scope pos) (qW wi fr te):=by
 intro pins s Z H Q I h
 rw [eval_ListComp]
 refine oH (use:=none) (Qv:=EP X pins Z Q) (Q:=Q) hcalm hi hsc hN ok hE I h hs fun p C H' s' m I' hn h0 h1 h2 h3 h4 q=>?_
 refine ⟨m,hn,fun h' sb=>⟨.ref p,H',I'.turned (t':=s'.toks) (fun b o hb e=>sb.extBut b o hb e) h0 (Ne.symm (Ne.symm h1)) (.inr h2) h3 h4,rfl,q⟩⟩
end
end L2
namespace L2
open PySem PySem.Spec PyProof.Rows
noncomputable def xk (n:Nat):R2:=fun x y H Q=> ∃ a b xs ys,x=.ref a/\y=.ref b/\H a=some (.lst xs)/\H b=some (.lst ys)/\Paired (AlkT H n) xs ys/\Q (.bl true) H
theorem we {X:Cx} {n:Nat} (hu:X.A.units+ (n+1) <cLine):OpR X (compareOp .Eq) (xk n):=by
 intro pins s Z H x y v u Q I rx ry h
 obtain ⟨a,b,xs,ys,rfl,rfl,ha,hb,hp,q⟩:=h
 cases rx
 cases ry
 obtain ⟨its,r,p,_⟩:=I.seqS (c:=false) ha
 obtain ⟨its2,r2,p2,_⟩:=I.seqS (c:=false) hb
 have hu1:X.A.in1.units+n<cLine:=by show X.A.units+1+n<cLine;omega
 obtain ⟨hl,hj⟩:=eZ (R:=fun x y=>SeqAt.EqAt X.A.in1 s x y true) (fun v u x y g q1 q2=>AlkT.eqAt I n hu1 g q1 q2) hp r r2
 refine SeqAt.RcAt.lists (e:=fun _=>true) p p2 (by simpa using hl) (by omega) (fun j h1 h2=>by simpa using hj j (by simpa using h1) (by simpa using h2)) X.prog X.w X.xe _ ⟨.bl true,H,I,?_,q⟩
 show Value.bool _=Value.bool true
 simp
theorem fV (H:Hp): ∀ ks:List Key,Paired (AlkT H 0) (ks.map kV) (ks.map kV)
 | []=>.nil
 | .inl i::r=>.cons (.inr ⟨i,rfl,rfl⟩) (fV H r)
 | .inr z::r=>.cons (.inl ⟨z,rfl,rfl⟩) (fV H r)
theorem tK {H:Hp} {kss:List (List Key)} {xs ys:List V} (h1:KsOf H xs kss) (h2:KsOf H ys kss):Paired (AlkT H 1) xs ys:=by
 induction h1 generalizing ys with
 | nil=>cases h2;exact .nil
 | cons a _ ih=>
  cases h2 with
  | cons b t=>
   obtain ⟨c,rfl,hc⟩:=a
   obtain ⟨d,rfl,hd⟩:=b
   exact .cons (.inr ⟨c,d,_,_,rfl,rfl,hc,hd,fV H _⟩) (ih t)
theorem tY {l:Addr} {xs:List V} {g:TG} {tb:TS} {D:eE} {Z:St} {H:Hp} (Pv:Nat->St->Hp->Prop) (h0:Pv 0 Z H) (hl: ∀ i Z H,i<=xs.length->Pv i Z H->H l=some (.tup xs))
  (step: ∀ i x T Z H,xs[i]? =some x->H T=none->Pv i Z H->g (.ref T) Z (upd H T (.tup [.int (i:Int),x])) fun Z2 H2=>tb {D with nx:=Pv (i+1),ct:=Pv (i+1),bk:=D.nx} Z2 H2) (fin: ∀ Z H,Pv xs.length Z H->D.nx Z H):
  ∃ W:Nat->Nat->St->Hp->Prop,(∃ m,W 0 m Z H)/\ ∀ i m Z H,W i m Z H->
   ((Ite l).stop i H/\D.nx Z H)\/((Ite l).go i H/\ ∃ N:St->Hp->Prop,(∀ Z' H',N Z' H'-> ∃ m',m'<m/\W (i+1) m' Z' H')/\ ∀ x H',(Ite l).yld i H x H'->g x Z H' fun Z2 H2=>tb {D with nx:=N,ct:=N,bk:=D.nx} Z2 H2):=by
 refine ⟨fun i m Z H=>m=xs.length-i/\i<=xs.length/\Pv i Z H,⟨xs.length,by simp,Nat.zero_le _,h0⟩,?_⟩
 rintro i m Z H ⟨rfl,hi,p⟩
 have q:=hl i Z H hi p
 by_cases hlt:i<xs.length
 ·refine .inr ⟨⟨xs,xs[i],q,List.getElem?_eq_getElem hlt⟩,Pv (i+1),fun Z' H' p'=>⟨xs.length- (i+1),by omega,rfl,hlt,p'⟩,fun x H' y=>?_⟩
  obtain ⟨T,v,fT,rfl,rfl,hk⟩:=y
  exact step i v T Z H (hk xs q) fT p
 ·have e:i=xs.length:=by omega
  subst e
  exact .inl ⟨⟨xs,q,rfl⟩,fin Z H p⟩
theorem tX {d:Addr} {o:Obj} {kvs:List (List Key×V)} {g:TG} {tb:TS} {D:eE} {Z:St} {H:Hp} (Pv:Nat->St->Hp->Prop) (h0:Pv 0 Z H) (hl: ∀ i Z H,i<=kvs.length->Pv i Z H->H d=some (.frz o (.dT kvs)))
  (step: ∀ i kv Z H,kvs[i]? =some kv->Pv i Z H->g kv.2 Z H fun Z2 H2=>tb {D with nx:=Pv (i+1),ct:=Pv (i+1),bk:=D.nx} Z2 H2) (fin: ∀ Z H,Pv kvs.length Z H->D.nx Z H):
  ∃ W:Nat->Nat->St->Hp->Prop,(∃ m,W 0 m Z H)/\ ∀ i m Z H,W i m Z H->
   ((Itj d o).stop i H/\D.nx Z H)\/((Itj d o).go i H/\ ∃ N:St->Hp->Prop,(∀ Z' H',N Z' H'-> ∃ m',m'<m/\W (i+1) m' Z' H')/\ ∀ x H',(Itj d o).yld i H x H'->g x Z H' fun Z2 H2=>tb {D with nx:=N,ct:=N,bk:=D.nx} Z2 H2):=by
 refine ⟨fun i m Z H=>m=kvs.length-i/\i<=kvs.length/\Pv i Z H,⟨kvs.length,by simp,Nat.zero_le _,h0⟩,?_⟩
 rintro i m Z H ⟨rfl,hi,p⟩
 have q:=hl i Z H hi p
 by_cases hlt:i<kvs.length
 ·refine .inr ⟨⟨kvs,kvs[i],q,List.getElem?_eq_getElem hlt⟩,Pv (i+1),fun Z' H' p'=>⟨kvs.length- (i+1),by omega,rfl,hlt,p'⟩,fun x H' y=>?_⟩
  obtain ⟨rfl,hk⟩:=y
  have hx:=hk kvs q
  rw [List.getElem?_map]at hx
  obtain ⟨kv,hkv,rfl⟩:=Option.map_eq_some_iff.mp hx
  exact step i kv Z H' hkv p
 ·have e:i=kvs.length:=by omega
  subst e
  exact .inl ⟨⟨kvs,q,rfl⟩,fin Z H p⟩
section
variable {X:Cx}
theorem pZ (bs:List Bool):((List.range bs.length).any fun i=>(bs[i]?).getD false)=bs.any id:=by
 induction bs with
 | nil=>rfl
 | cons b r ih=>
  rw [List.length_cons,List.range_succ_eq_map,List.any_cons,List.any_map]
  show (b||(List.range r.length).any (fun i=>((b::r)[i+1]?).getD false))=(b||r.any id)
  rw [<- ih]
  rfl
theorem nz (hc:X.calm=true):dJ X (.builtin "any") (fun xs H Q=> ∃ (p:Addr) (bs:List Bool),xs=[.ref p]/\SqL X.K H p (bs.map V.bl)/\Q (.bl (bs.any id)) H):=by
 intro pins s Z H xs us Q I r h
 obtain ⟨p,bs,rfl,hq,q⟩:=h
 obtain ⟨u,rfl,ru⟩:=fZ r
 cases ru
 obtain ⟨its,rv,pl,hz⟩:=I.list hq
 have hl:=pl.isList
 have hlt:p<s.heap.objs.size:=by obtain ⟨_,e,_⟩:=hl;exact Heap.lt_size e
 have hn:its.toArray.size=bs.length:=by have:=rv.length;rw [List.length_map]at this;rw [List.size_toArray];omega
 refine call_any_walk (wpAny_pyIter_list hl ?_)
 refine ⟨s.heap.objs.size,[s.heap.objs.size,p],[s.heap.objs.size],its.toArray.size,_,_,fun i=>(bs[i]?).getD false,rfl,Walks.list (A:=X.A.in1) (I.ok.hd hc) _ p (Nat.ne_of_lt hlt) its.toArray,
  ⟨⟨_,Heap.get?_push_size _ rfl,rfl,rfl⟩,hl.push _⟩,fun i v s' Q' E' hP hQ=>?_,fun h' tk hk=>?_⟩
 ·have hv:its[i]? =some v:=by simpa using hP
  have hi:i<bs.length:=by
   have:=(List.getElem?_eq_some_iff.mp hv).1
   have:=rv.length
   rw [List.length_map]at this
   omega
  have hb:(bs.map V.bl)[i]? =some (V.bl bs[i]):=by rw [List.getElem?_map,List.getElem?_eq_getElem hi] <;> rfl
  obtain ⟨u,eu,ru⟩:=rv.get hb
  rw [hv]at eu
  cases eu
  cases (show v=Value.bool bs[i]from ru)
  have hQ':=hQ
  simp only [List.getElem?_eq_getElem hi,Option.getD_some]at hQ'
  exact wpAny_truthy_bool hQ'
 ·rw [hn,pZ]
  refine ⟨.bl (bs.any id),H,I.kept (t':=tk) fun b x e=>?_,rfl,q⟩
  exact hk b x (fun hm=>by rw [List.mem_singleton.mp hm]at e;exact Nat.lt_irrefl _ (Heap.lt_size e)) (Heap.get?_push_of_some _ e)
end
end L2
namespace My
open PySem L2
variable {P:Program} {w:World} {K:PySem.W.Frag} {mg:Str->Option Value} {base:Heap} {aD aR f f2 f3 f4 f5 f6 f7 f8 f9 g:Addr} {fd fd2 fd3 fd4 fd5 fd6 fd7 fd8 fd9 gd:FuncData}
noncomputable def fS (c:Nat):Bool:=decide (97<=c/\c<=122)
noncomputable def be (x:Str):Bool:=decide (1<=x.length)&&decide (x.length<=8)&&x.cps.toList.all fS
noncomputable def ops:List Str:=["plus","less","times","least","most"]
inductive Fm where
 | num (n:Int)
 | own (x:Str)
 | part (k:Int) (x:Str)
 | bin (op:Str) (a b:Fm)
 | whn (a b c:Fm)
noncomputable def Fm.size:Fm->Nat
 | .num _=>1
 | .own _=>1
 | .part _ _=>1
 | .bin _ a b=>a.size+b.size+1
 | .whn a b c=>a.size+b.size+c.size+1
noncomputable def Fm.wf:Fm->Prop
 | .num n=> -999999<=n/\n<=999999
 | .own x=>be x=true
 | .part k x=>(0<=k/\k<=2)/\be x=true
 | .bin op a b=>op∈ops/\a.wf/\b.wf
 | .whn a b c=>a.wf/\b.wf/\c.wf
theorem Fm.size_pos: ∀ f:Fm,1<=f.size
 | .num _=>Nat.le_refl 1
 | .own _=>Nat.le_refl 1
 | .part _ _=>Nat.le_refl 1
 | .bin _ a b=>by show 1<=a.size+b.size+1;omega
 | .whn a b c=>by show 1<=a.size+b.size+c.size+1;omega
noncomputable def Rep (H:Hp):Fm->V->Prop
 | .num n,v=> ∃ a,v=.ref a/\H a=some (.tup [.str "num",.int n])
 | .own x,v=> ∃ a,v=.ref a/\H a=some (.tup [.str "own",.str x])
 | .part k x,v=> ∃ a,v=.ref a/\H a=some (.tup [.str "part",.int k,.str x])
 | .bin op A B,v=> ∃ a u w,v=.ref a/\H a=some (.tup [.str op,u,w])/\Rep H A u/\Rep H B w
 | .whn A B C,v=> ∃ a u w z,v=.ref a/\H a=some (.tup [.str "when",u,w,z])/\Rep H A u/\Rep H B w/\Rep H C z
noncomputable def TK (H H':Hp):Prop:= ∀ a xs,H a=some (.tup xs)->H' a=some (.tup xs)
theorem TK.trans {H H1 H2:Hp} (a:TK H H1) (b:TK H1 H2):TK H H2:=fun c o h=>b c o (a c o h)
theorem TK.upd {H:Hp} {p:Addr} {o:HO} (h: ∀ xs,H p≠some (.tup xs)):TK H (upd H p o):=fun a xs e=>by
 by_cases q:a=p
 ·subst q
  exact absurd e (h xs)
 ·rw [am q]
  exact e
theorem TK.lst {H:Hp} {p:Addr} {o:HO} {ys:List V} (h:H p=some (.lst ys)):TK H (L2.upd H p o):=TK.upd fun xs e=>by rw [h]at e;cases e
theorem TK.new {H:Hp} {p:Addr} {o:HO} (h:H p=none):TK H (L2.upd H p o):=TK.upd fun xs e=>by rw [h]at e;cases e
theorem Rep.mono {H H':Hp} (t:TK H H'): ∀ {f:Fm} {v:V},Rep H f v->Rep H' f v
 | .num _,_,⟨a,e,h⟩=>⟨a,e,t _ _ h⟩
 | .own _,_,⟨a,e,h⟩=>⟨a,e,t _ _ h⟩
 | .part _ _,_,⟨a,e,h⟩=>⟨a,e,t _ _ h⟩
 | .bin _ _ _,_,⟨a,u,w,e,h,r1,r2⟩=>⟨a,u,w,e,t _ _ h,Rep.mono t r1,Rep.mono t r2⟩
 | .whn _ _ _,_,⟨a,u,w,z,e,h,r1,r2,r3⟩=>⟨a,u,w,z,e,t _ _ h,Rep.mono t r1,Rep.mono t r2,Rep.mono t r3⟩
noncomputable def isV (T:String) (H:Hp) (v:V):Bool:=match v with
 | .bl _=>T=="bool"||T=="int"
 | .int _=>T=="int"
 | .str _=>T=="str"
 | .ref a=>(match H a with | some (.lst _)=>T=="list" | some (.tup _)=>T=="tuple" | some (.dK _)=>T=="dict" | _=>false)
 | _=>false
noncomputable def Sh (H:Hp):V->Prop
 | .non=>True
 | .bl _=>True
 | .int _=>True
 | .str x=>x.length<=1000
 | .ref a=>(∃ xs,H a=some (.lst xs))\/(∃ xs,H a=some (.tup xs))\/ ∃ kvs,H a=some (.dK kvs)
 | _=>False
section
variable {X:Cx}
theorem vb (K:PySem.W.Frag) (t T:String) (ht:t∈["NoneType","bool","int","str","list","tuple","dict"]) (hT:T∈["bool","int","str","list","tuple","dict"]):
  PySem.W.kitOne K (.type t) (.type T)=some (t==T||(t=="bool"&&T=="int")):=by
 simp only [List.mem_cons,List.not_mem_nil,or_false]at ht hT
 rcases ht with rfl | rfl | rfl | rfl | rfl | rfl | rfl <;> rcases hT with rfl | rfl | rfl | rfl | rfl | rfl <;> first | rfl | (with_unfolding_all rfl) | (with_unfolding_all decide)
theorem bo:dJ X (.builtin "isinstance") (fun xs H Q=> ∃ x T,xs=[x,.ty T]/\Sh H x/\T∈["bool","int","str","list","tuple","dict"]/\Q (.bl (isV T H x)) H):=by
 intro pins s Z H xs us Q I r h
 obtain ⟨x,T,rfl,hs,hT,q⟩:=h
 have go: ∀ t,gG X.K H x (.type t)->t∈["NoneType","bool","int","str","list","tuple","dict"]->isV T H x=(t==T||(t=="bool"&&T=="int"))->wpAny (model X.prog X.w) X.A (call (.builtin "isinstance") us) (EP X pins Z Q) X.xe s:=by
  intro t ty ht e
  refine uk pins s Z H _ us Q I r ⟨x,T,.type t,_,rfl,ty,vb X.K t T ht hT,?_⟩
  rw [<- e]
  exact q
 have hTT:=hT
 simp only [List.mem_cons,List.not_mem_nil,or_false]at hTT
 cases x with
 | non=>exact go _ .non (by simp) (by rcases hTT with rfl | rfl | rfl | rfl | rfl | rfl <;> rfl)
 | bl b=>exact go _ (.bl b) (by simp) (by rcases hTT with rfl | rfl | rfl | rfl | rfl | rfl <;> rfl)
 | int i=>exact go _ (.int i) (by simp) (by rcases hTT with rfl | rfl | rfl | rfl | rfl | rfl <;> rfl)
 | str z=>exact go _ (.str z) (by simp) (by rcases hTT with rfl | rfl | rfl | rfl | rfl | rfl <;> rfl)
 | ref a=>
  rcases hs with ⟨ys,e⟩ | ⟨ys,e⟩ | ⟨ys,e⟩
  ·exact go _ (.lst e) (by simp) (by simp only [isV,e];rcases hTT with rfl | rfl | rfl | rfl | rfl | rfl <;> rfl)
  ·exact go _ (.tup e) (by simp) (by simp only [isV,e];rcases hTT with rfl | rfl | rfl | rfl | rfl | rfl <;> rfl)
  ·exact go _ (.dK e) (by simp) (by simp only [isV,e];rcases hTT with rfl | rfl | rfl | rfl | rfl | rfl <;> rfl)
 | byt _=>exact hs.elim
 | flt _=>exact hs.elim
 | ty _=>exact hs.elim
end
noncomputable def top (i:Nat):Stmt:=PySem.Challenge.pw_boughworth_k08_books_let_by.main.body.getD i (.Pass ⟨0,0,0,0⟩)
noncomputable abbrev nQ:Stmt:=top 5
noncomputable abbrev kl:Stmt:=top 6
noncomputable abbrev oV:Stmt:=top 7
noncomputable abbrev rQ:Stmt:=top 14
noncomputable abbrev rP:Stmt:=top 15
noncomputable abbrev nW:Stmt:=top 16
noncomputable abbrev kn:Stmt:=top 17
noncomputable abbrev nS:Stmt:=top 18
noncomputable abbrev rL:Stmt:=top 24
noncomputable abbrev rN:Stmt:=top 25
noncomputable abbrev kq:Stmt:=top 26
noncomputable abbrev iN:Stmt:=top 27
noncomputable abbrev iO:Stmt:=top 28
noncomputable abbrev iT:Stmt:=top 29
noncomputable abbrev el:Stmt:=top 30
noncomputable abbrev eB:Stmt:=top 31
noncomputable abbrev nX:Stmt:=top 32
noncomputable abbrev vV:Stmt:=top 33
noncomputable abbrev gP:Stmt:=top 34
noncomputable abbrev eS:Stmt:=top 35
noncomputable abbrev iQ:Stmt:=top 36
noncomputable abbrev iP:Stmt:=top 37
noncomputable abbrev iu:Stmt:=top 38
noncomputable abbrev nU:Stmt:=top 39
noncomputable abbrev ko:Stmt:=top 40
noncomputable abbrev ky:Stmt:=top 41
noncomputable abbrev eW:Stmt:=top 42
noncomputable abbrev dW:Stmt:=top 43
noncomputable abbrev nV:Stmt:=top 44
noncomputable abbrev fu:Stmt:=top 45
noncomputable abbrev iS:Stmt:=top 46
noncomputable abbrev fN:Stmt:=top 47
noncomputable abbrev eA:Stmt:=top 48
noncomputable abbrev fO:Stmt:=top 49
noncomputable abbrev cV:Stmt:=top 50
noncomputable abbrev km:Stmt:=top 51
noncomputable abbrev fz:Stmt:=top 52
noncomputable abbrev kx:Stmt:=top 53
noncomputable abbrev eV:Stmt:=top 54
noncomputable abbrev ir:Stmt:=top 55
noncomputable abbrev er:Stmt:=top 56
noncomputable abbrev rR:Stmt:=top 58
noncomputable abbrev rM:Stmt:=top 59
noncomputable abbrev nY:Stmt:=top 60
noncomputable abbrev eU:Stmt:=top 61
noncomputable abbrev ku:Stmt:=top 62
noncomputable abbrev rO:Stmt:=top 63
noncomputable abbrev dX:Stmt:=top 64
noncomputable abbrev nR:Stmt:=top 65
noncomputable abbrev eR:Stmt:=top 66
noncomputable abbrev dw:Stmt:=top 67
noncomputable abbrev nT:Stmt:=top 68
noncomputable abbrev eF:Stmt:=top 69
noncomputable abbrev kw:Stmt:=top 70
noncomputable abbrev l9:Stmt:=top 71
noncomputable abbrev cU:Stmt:=top 72
noncomputable abbrev iR:Stmt:=top 73
noncomputable abbrev cA:Stmt:=top 74
noncomputable abbrev kr:Stmt:=top 75
noncomputable abbrev dU:Stmt:=top 76
structure Gb (mg:Str->Option Value):Prop where
 isi:mg "isinstance"=none
 int:mg "int"=none
 bool:mg "bool"=none
 str:mg "str"=none
 tuple:mg "tuple"=none
 len:mg "len"=none
 all:mg "all"=none
 range:mg "range"=none
 max:mg "max"=none
 min:mg "min"=none
noncomputable def nE:V->Bool
 | .int _=>true
 | _=>false
noncomputable def cM (lo hi:Int):V->Bool
 | .int i=>decide (lo<=i)&&decide (i<=hi)
 | _=>false
noncomputable def df:V->Bool
 | .str x=>be x
 | _=>false
theorem pA {H:Hp} {v:V} (h:Sh H v):(if isV "int" H v=true then !isV "bool" H v else false)=nE v:=by
 cases v with
 | ref a=>rcases h with ⟨ys,e⟩ | ⟨ys,e⟩ | ⟨ys,e⟩ <;> (simp only [isV,e];rfl)
 | _=>rfl
theorem pq {H:Hp} {v:V} (h:isV "str" H v=true): ∃ z,v=.str z:=by
 cases v with
 | str z=>exact ⟨z,rfl⟩
 | ref a=>
  simp only [isV]at h
  split at h <;> simp at h
 | _=>simp [isV]at h
theorem vf {H:Hp} {v:V} (h:isV "tuple" H v=true): ∃ a xs,v=.ref a/\H a=some (.tup xs):=by
 cases v with
 | ref a=>
  simp only [isV]at h
  split at h
  ·simp at h
  ·rename_i xs e
   exact ⟨a,xs,rfl,e⟩
  ·simp at h
  ·simp at h
 | _=>simp [isV]at h
theorem qb {Q:VK} {b b':Bool} {H:Hp} (q:Q (.bl b) H) (e:b=b'):Q (.bl b') H:=e▸q
theorem ah {H:Hp} {p:Addr} (h:H p=none) (o:HO):Same H (upd H p o):=fun b u q=>by rw [am (ai q h)];exact q
noncomputable def fq:Sp:=fun vs H Q _=> ∃ v,vs=[v]/\Sh H v/\Q (.bl (nE v)) H
noncomputable def iH:Sp:=fun vs H Q _=> ∃ v lo hi,vs=[v,.int lo,.int hi]/\Sh H v/\Q (.bl (cM lo hi v)) H
noncomputable def gJ:Sp:=fun vs H Q _=> ∃ v,vs=[v]/\Sh H v/\ ∀ H',Same H H'->Q (.bl (df v)) H'
theorem ux:au ["thing"] ["thing"] (ag nQ):=fsc
theorem sG (F:Fun K "is_whole" "is_whole" nQ f fd) (G:Gb mg):FnOk P w K mg base CX0 1 f fd ["thing"] fq:=by
 refine F.ok ux (fun vs H Q E h=>?_) (fun cdv A outer s H vs Q E hr h=>?_)
 ·obtain ⟨v,rfl,_⟩:=h
  rfl
 obtain ⟨v,rfl,hS,q⟩:=h
 refine ⟨_,aj (aw (cf (ao bo rfl G.isi (by decide +kernel) (aa (pv 0) (aa (bE (v:=.ty "int") rfl G.int (by decide +kernel) rfl) ab)))
  (cv (sj (ao bo rfl G.isi (by decide +kernel) (aa (pv 0) (aa (bE (v:=.ty "bool") rfl G.bool (by decide +kernel) rfl) ab))))))),?_⟩
 have e:=pA hS
 refine ⟨_,rfl,v,"int",rfl,hS,by simp,_,rfl,?_⟩
 refine bx (fun c=>?_) (fun c=>?_)
 ·rw [if_pos c]at e
  refine ⟨_,rfl,v,"bool",rfl,hS,by simp,_,rfl,?_⟩
  exact qb q e.symm
 ·rw [if_neg c]at e
  exact qb q e.symm
theorem rE:au ["thing","lowest","highest"] ["thing","lowest","highest"] (ag kl):=fsc
theorem qf (F:Fun K "is_whole_within" "is_whole_within" kl f fd) (GW:FnOk P w K mg base CX0 1 g gd ["thing"] fq) (bW:Binds K gd ["thing"] []) (kW:PySem.W.keepIn K (.ref g)=true) (mW:mg "is_whole"=some (.ref g)):
  FnOk P w K mg base CX0 2 f fd ["thing","lowest","highest"] iH:=by
 refine F.ok rE (fun vs H Q E h=>?_) (fun cdv A outer s H vs Q E hr h=>?_)
 ·obtain ⟨v,lo,hi,rfl,_⟩:=h
  rfl
 obtain ⟨v,lo,hi,rfl,hS,q⟩:=h
 refine ⟨_,aj (aw (cf (af GW hr rfl mW kW bW .nil al (aa (pv 0) ab)) (cv (iY jH jH (pv 1) (pv 0) (pv 2))))),?_⟩
 refine ⟨_,rfl,v,rfl,hS,_,rfl,?_⟩
 refine bx (fun c=>?_) (fun c=>?_)
 ·cases v with
  | int i=>
   refine ⟨_,rfl,_,rfl,lo,i,rfl,rfl,_,rfl,?_⟩
   refine bx (fun c1=>?_) (fun c1=>?_)
   ·refine ⟨_,rfl,i,hi,rfl,rfl,?_⟩
    have e:cM lo hi (.int i)=decide (i<=hi):=by
     show (decide (lo<=i)&&decide (i<=hi))=_
     rw [c1,Bool.true_and]
    exact qb q e
   ·have e:cM lo hi (.int i)=false:=by
     show (decide (lo<=i)&&decide (i<=hi))=_
     rw [Bool.eq_false_iff.mpr c1,Bool.false_and]
    exact qb q e
  | _=>cases c
 ·have e:cM lo hi v=false:=by
   cases v with
   | int i=>exact absurd rfl c
   | _=>rfl
  exact qb q e
theorem tt (a b:Nat):decide ([a] <[b])=decide (a<b):=by
 rw [decide_eq_decide]
 simp [List.cons_lt_cons_iff]
theorem xE (c:Nat):(!decide ((⟨#[c]⟩:Str).cps.toList< ("a":Str).cps.toList))=decide (97<=c):=by
 have e:("a":Str).cps.toList=[97]:=by decide +kernel
 rw [e]
 show (!decide ([c] <[97]))=_
 rw [tt]
 by_cases h:c<97
 ·rw [decide_eq_true h,decide_eq_false (by omega)]
  rfl
 ·rw [decide_eq_false h,decide_eq_true (by omega)]
  rfl
theorem xY (c:Nat):(!decide (("z":Str).cps.toList< (⟨#[c]⟩:Str).cps.toList))=decide (c<=122):=by
 have e:("z":Str).cps.toList=[122]:=by decide +kernel
 rw [e]
 show (!decide ([122] <[c]))=_
 rw [tt]
 by_cases h:122<c
 ·rw [decide_eq_true h,decide_eq_false (by omega)]
  rfl
 ·rw [decide_eq_false h,decide_eq_true (by omega)]
  rfl
theorem va (c:Nat):fS c=(decide (97<=c)&&decide (c<=122)):=by
 unfold fS
 by_cases h1:97<=c <;> by_cases h2:c<=122 <;> simp [h1,h2]
theorem vS:au ["thing"] ["thing"] (ag oV):=fsc
theorem uR (F:Fun K "is_word" "is_word" oV f fd) (G:Gb mg) {tk:Tok} (mL:mg "MOST_LETTERS"=some (.int 8 tk)):FnOk P w K mg base CX0 1 f fd ["thing"] gJ:=by
 refine F.ok vS (fun vs H Q E h=>?_) (fun cdv A outer s H vs Q E hr h=>?_)
 ·obtain ⟨v,rfl,_⟩:=h
  rfl
 obtain ⟨v,rfl,hS,q⟩:=h
 refine ⟨_,ad (aL (PW.pt (c6 (aY (aT (ao bo rfl G.isi (by decide +kernel) (aa (pv 0) (aa (bE (v:=.ty "str") rfl G.str (by decide +kernel) rfl) ab)))))
   (cD (aY (sf jH jH ae (ao lE rfl G.len PySem.boot_len (aa (pv 0) ab)) (cr (v:=.int 8) rfl mL ⟨_,rfl⟩)))))) (aj (aw dg)) aC)
  (aj (aw (ao (ck rfl) rfl G.all (by decide +kernel) (aa (br (sc0:=ag oV) (N0:=["thing"]) (ys:=[]) (fr:=[]) rfl (v6 (pv 0)) rfl rfl
   cok (fun C s H ex=>iY jG jG aP (pv 0) aP)) ab)))),?_⟩
 refine ⟨_,rfl,v,"str",rfl,hS,by simp,_,rfl,?_⟩
 refine bx (fun c=>?_) (fun c=>?_)
 ·-- no text
  refine cX ?_
  have e:df v=false:=by
   cases v with
   | str z=>simp [isV]at c
   | _=>rfl
  exact qb (q H (Same.refl H)) e
 ·obtain ⟨z,rfl⟩:=pq (H:=H) (v:=v) (by cases h:isV "str" H v with
   | true=>rfl
   | false=>rw [h]at c;exact absurd rfl c)
  have hz:z.length<=sizeLine:=Nat.le_of_lt (aA hS)
  refine ⟨_,rfl,z,rfl,hz,1,_,rfl,rfl,_,rfl,?_⟩
  have ew:df (.str z)=(decide (1<=z.length)&&decide (z.length<=8)&&z.cps.toList.all fS):=rfl
  refine bx (fun c1=>?_) (fun c1=>?_)
  ·have c1':1<=z.length:=by have:=of_decide_eq_true c1;omega
   refine ⟨_,8,rfl,rfl,_,rfl,?_⟩
   refine bx (fun c2=>?_) (fun c2=>?_)
   ·have c2': ¬ z.length<=8:=fun z8=>by
     have:((z.length:Int)<=8):=by omega
     rw [decide_eq_true this]at c2
     exact absurd c2 (by decide)
    have e:df (.str z)=false:=by rw [ew,decide_eq_false c2',Bool.and_false,Bool.false_and]
    exact qb (q H (Same.refl H)) e
   ·have c2':z.length<=8:=by
     by_cases h:((z.length:Int)<=8)
     ·omega
     ·rw [decide_eq_false h]at c2
      exact absurd rfl c2
    refine ⟨_,rfl,z,rfl,?_⟩
    refine dr (n:=z.length) (R:=fun i v=> ∃ c,z.cps[i]? =some c/\v=.str ⟨#[c]⟩) (by omega) wt tL vc
     (fun p i zs H'=>H'=upd H p (.lst zs)/\i<=z.length/\zs=((z.cps.toList.take i).map fS).map V.bl) (fun p hp=>⟨rfl,Nat.zero_le _,rfl⟩) ?_ ?_ ?_
    ·rintro p i zs H' ⟨rfl,hi,rfl⟩
     refine ⟨ac,?_⟩
     rw [List.length_map,List.length_map,List.length_take]
     exact Nat.min_eq_left hi
    ·rintro p i zs H' v k hp hi ⟨ch,hc,rfl⟩ ⟨rfl,_,rfl⟩ hk
     have hc':z.cps.toList[i]? =some ch:=by rw [Array.getElem?_toList];exact hc
     have nxt:((z.cps.toList.take i).map fS).map V.bl++[V.bl (fS ch)]=((z.cps.toList.take (i+1)).map fS).map V.bl:=by
      rw [List.take_add_one,hc']
      simp
     have fin:k (.bl (fS ch)) (upd H p (.lst (((z.cps.toList.take i).map fS).map V.bl))):=hk _ _ ac ⟨by rw [di],hi,nxt⟩
     rw [va]at fin
     refine ⟨_,rfl,_,_,rfl,rfl,_,rfl,?_⟩
     refine bx (fun c3=>?_) (fun c3=>?_)
     ·refine ⟨_,_,rfl,rfl,?_⟩
      rw [xE]at c3
      rw [c3,Bool.true_and]at fin
      exact qb fin (xY ch).symm
     ·rw [xE]at c3
      rw [Bool.eq_false_iff.mpr c3,Bool.false_and]at fin
      exact fin
    ·rintro p zs H' hp ⟨rfl,_,rfl⟩
     refine ⟨p,(z.cps.toList.take z.length).map fS,rfl,SqL.of ac,?_⟩
     have e:df (.str z)=((z.cps.toList.take z.length).map fS).all id:=by
      rw [ew,decide_eq_true c1',decide_eq_true c2',List.take_of_length_le (show z.cps.toList.length<=z.length from Nat.le_refl _),List.all_map]
      rfl
     exact qb (q _ (ah hp _)) e
  ·have c1': ¬ 1<=z.length:=fun z1=>by
    have:((1:Int)<=(z.length:Int)):=by omega
    rw [decide_eq_true this]at c1
    exact c1 rfl
   refine ⟨_,rfl,?_⟩
   refine cX ?_
   have e:df (.str z)=false:=by rw [ew,decide_eq_false c1',Bool.false_and,Bool.false_and]
   exact qb (q H (Same.refl H)) e
noncomputable def cK (k:Str):Option Nat:=if k∈ops then some 2 else if k="when" then some 3 else none
noncomputable def qe (p:V->Bool):List V->Bool
 | [x]=>p x
 | _=>false
noncomputable def vI (p:V->V->Bool):List V->Bool
 | [x,y]=>p x y
 | _=>false
theorem pc {p:V->Bool} {r:List V} (h: ¬ r.length=1):qe p r=false:=by
 match r with
 | []=>rfl
 | [x]=>exact absurd rfl h
 | _::_::_=>rfl
theorem ur {p:V->V->Bool} {r:List V} (h: ¬ r.length=2):vI p r=false:=by
 match r with
 | []=>rfl
 | [_]=>rfl
 | [x,y]=>exact absurd rfl h
 | _::_::_::_=>rfl
noncomputable def cJ:List V->Bool
 | .str k::r=>(match cK k with
  | some n=>decide (r.length=n)
  | none=>if k="num" then qe (cM (-999999) 999999) r
   else if k="own" then qe df r
   else if k="part" then vI (fun x y=>cM 0 2 x&&df y) r else false)
 | _=>false
noncomputable def cT (H:Hp):V->Bool
 | .ref a=>(match H a with | some (.tup xs)=>cJ xs | _=>false)
 | _=>false
theorem gT {H:Hp} {a:Addr} {xs:List V} (h:H a=some (.tup xs)):cT H (.ref a)=cJ xs:=by simp only [cT,h]
theorem qF {H:Hp} {a:Addr} {xs:List V} (h:H a=some (.lst xs)):cT H (.ref a)=false:=by simp only [cT,h]
theorem tV {H:Hp} {a:Addr} {xs:List (Key×V)} (h:H a=some (.dK xs)):cT H (.ref a)=false:=by simp only [cT,h]
noncomputable def aS:List V->List V
 | .str k::r=>if (cK k).isSome then r else []
 | _=>[]
noncomputable def gw:List (Key×V):=[(.inr "plus",.int 2),(.inr "less",.int 2),(.inr "times",.int 2),(.inr "least",.int 2),(.inr "most",.int 2),(.inr "when",.int 3)]
theorem tS (k:Str):cz gw (.inr k)=(cK k).map fun (n:Nat)=>V.int n:=by
 unfold cK ops gw
 by_cases h1:k="plus"
 ·subst h1;decide +kernel
 by_cases h2:k="less"
 ·subst h2;decide +kernel
 by_cases h3:k="times"
 ·subst h3;decide +kernel
 by_cases h4:k="least"
 ·subst h4;decide +kernel
 by_cases h5:k="most"
 ·subst h5;decide +kernel
 by_cases h6:k="when"
 ·subst h6;decide +kernel
 have ne: ∀ {y:Str},¬ k=y-> ¬ (Sum.inr y:Key)=Sum.inr k:=fun h e=>h (Sum.inr.inj e).symm
 rw [bi (ne h1),bi (ne h2),bi (ne h3),bi (ne h4),bi (ne h5),bi (ne h6),qQ,if_neg,if_neg h6]
 ·rfl
 ·simp only [List.mem_cons,List.not_mem_nil,or_false,not_or]
  exact ⟨h1,h2,h3,h4,h5⟩
theorem bV {α:Type} {x:α} {r:List α}:atI (x::r) 0=some x:=aG (j:=0) rfl
theorem vq {α:Type} {x y:α} {r:List α}:atI (x::y::r) 1=some y:=aG (j:=1) rfl
theorem xD {α:Type} {x y z:α} {r:List α}:atI (x::y::z::r) 2=some z:=aG (j:=2) rfl
noncomputable def Ask (H:Hp) (v:V):Prop:=Sh H v/\ ∀ a xs,v=.ref a->H a=some (.tup xs)->xs.length<=1000/\ ∀ x∈xs,Sh H x
noncomputable def rh:Sp:=fun vs H Q _=> ∃ v,vs=[v]/\Ask H v/\ ∀ H',Same H H'->Q (.bl (cT H v)) H'
noncomputable def j0:Sp:=fun vs H Q _=> ∃ a k r,vs=[.ref a]/\H a=some (.tup (.str k::r))/\r.length<=1000/\ ∀ p H',Same H H'->H' p=some (.tup (aS (.str k::r)))->Q (.ref p) H'
theorem oF {m n:Nat}:decide (V.int (m:Int)=V.int (n:Int))=decide (m=n):=by
 by_cases h:m=n
 ·subst h;rw [decide_eq_true rfl,decide_eq_true rfl]
 ·rw [decide_eq_false h,decide_eq_false (fun e=>h (by injection e with e;omega))]
theorem uB:au ["formula"] ["formula"] (ag nW):=fsc
theorem sQ (F:Fun K "inner_of" "inner_of" nW f fd) (mD:mg "INNER_COUNTS"=some (.ref aD)) (D:qL P w K aD gw):FnOk P w K mg base CX0 1 f fd ["formula"] j0:=by
 refine F.ok uB (fun vs H Q E h=>?_) (fun cdv A outer s H vs Q E hr h=>?_)
 ·obtain ⟨a,k,r,rfl,_⟩:=h
  rfl
 obtain ⟨a,k,r,rfl,ha,hl,q⟩:=h
 refine ⟨_,aj (aw (gj (aF sD (av ay (pv 0) ae (fun _ _=>rfl)) (cr (v:=.ref aD) rfl mD rfl) (by with_unfolding_all rfl)) (a7 nM (pv 0) (bh ae) bp) (aJ ab))),?_⟩
 refine ⟨_,rfl,a,_,0,_,rfl,rfl,SqT.of ha,bV,.inr k,aD,gw,rfl,rfl,D,_,rfl,?_⟩
 have hv:=tS k
 cases hk:cK k with
 | none=>
  rw [hk]at hv
  refine bx (fun c=>?_) (fun c=>?_)
  ·rw [hv]at c
   exact absurd c (by decide)
  ·refine ⟨(by show 0<=sizeLine;decide),fun p hp=>?_⟩
   refine q p _ (ah hp _) ?_
   rw [ac]
   show some (HO.tup [])=some (HO.tup (if (cK k).isSome=true then r else []))
   rw [hk]
   rfl
 | some n=>
  rw [hk]at hv
  refine bx (fun c=>?_) (fun c=>?_)
  ·refine ⟨_,rfl,1,rfl,a,_,rfl,SqT.of ha,?_,fun p hp=>?_⟩
   ·rintro ⟨h1,_⟩
    have:HT.sIx (V.str k::r).length 0 (some 1)=min 1 (V.str k::r).length:=HT.sIx_nat _ _ 1
    rw [this,List.length_cons]at h1
    omega
   ·refine q p _ (ah hp _) ?_
    rw [ac]
    have e1:HT.sIx (V.str k::r).length 0 (some 1)=1:=by
     have:HT.sIx (V.str k::r).length 0 (some 1)=min 1 (V.str k::r).length:=HT.sIx_nat _ _ 1
     rw [this,List.length_cons]
     omega
    have e2:c8 (V.str k::r) (some 1) none=r:=by
     unfold c8
     rw [e1,HT.sIx_none,List.length_cons,List.drop_one,List.tail_cons,Nat.add_sub_cancel,List.take_length]
    show some (HO.tup (c8 (V.str k::r) (some 1) none))=some (HO.tup (if (cK k).isSome=true then r else []))
    rw [hk,e2]
    rfl
  ·rw [hv]at c
   exact absurd rfl c
theorem scHead:au ["thing","kind"] ["thing"] (ag rP):=fsc
theorem uW (F:Fun K "is_head" "is_head" rP f fd) (G:Gb mg) (mD:mg "INNER_COUNTS"=some (.ref aD)) (D:qL P w K aD gw) {tN tP:Tok} (mN:mg "MOST_NUM"=some (.int 999999 tN)) (mP:mg "MOST_PART"=some (.int 2 tP))
  (GW:FnOk P w K mg base CX0 2 g gd ["thing","lowest","highest"] iH) (bW:Binds K gd ["thing","lowest","highest"] []) (kW:PySem.W.keepIn K (.ref g)=true) (mW:mg "is_whole_within"=some (.ref g))
  (GX:FnOk P w K mg base CX0 1 f2 fd2 ["thing"] gJ) (bX:Binds K fd2 ["thing"] []) (kX:PySem.W.keepIn K (.ref f2)=true) (mX:mg "is_word"=some (.ref f2)):
  FnOk P w K mg base CX0 3 f fd ["thing"] rh:=by
 refine F.ok scHead (fun vs H Q E h=>?_) (fun cdv A outer s H vs Q E hr h=>?_)
 ·obtain ⟨v,rfl,_⟩:=h
  rfl
 obtain ⟨v,rfl,⟨hS,hI⟩,q⟩:=h
 have hr1:=hr.mono (show 1<=2 by decide)
 refine ⟨_,ad (aL (PW.pt (c6 (aY (aT (ao bo rfl G.isi (by decide +kernel) (aa (pv 0) (aa (bE (v:=.ty "tuple") rfl G.tuple (by decide +kernel) rfl) ab)))))
   (cD (aF bj (ao ar rfl G.len PySem.boot_len (aa (pv 0) ab)) ae (aE _))))) (aj (aw dg)) aC)
  (ad (aq (i:=1) scHead.nd rfl (Or.inl rfl) (av ay (pv 0) ae (fun _ _=>rfl)))
  (ad (aL (aY (aT (ao bo rfl G.isi (by decide +kernel) (aa (pv 1) (aa (bE (v:=.ty "str") rfl G.str (by decide +kernel) rfl) ab))))) (aj (aw dg)) aC)
  (ad (aL (aF sD (pv 1) (cr (v:=.ref aD) rfl mD rfl) (by with_unfolding_all rfl))
   (aj (aw (bm bj (ao ar rfl G.len PySem.boot_len (aa (pv 0) ab)) (aB aW ae (uM (cr (v:=.ref aD) rfl mD rfl) (pv 1) (fun _ _=>rfl))) (aE _)))) aC)
  (ad (aL (aF bj (pv 1) aP (aE _))
   (aj (aw (cf (bm bj (ao ar rfl G.len PySem.boot_len (aa (pv 0) ab)) ae (aE _))
    (cv (af GW hr rfl mW kW bW .nil al (aa (av ay (pv 0) ae (fun _ _=>rfl)) (aa (ic eK (cr (v:=.int 999999) rfl mN ⟨_,rfl⟩)) (aa (cr (v:=.int 999999) rfl mN ⟨_,rfl⟩) ab)))))))) aC)
  (ad (aL (aF bj (pv 1) aP (aE _))
   (aj (aw (cf (bm bj (ao ar rfl G.len PySem.boot_len (aa (pv 0) ab)) ae (aE _))
    (cv (af GX hr1 rfl mX kX bX .nil al (aa (av ay (pv 0) ae (fun _ _=>rfl)) ab)))))) aC)
  (ad (aL (aF bj (pv 1) aP (aE _))
   (aj (aw (cf (bm bj (ao ar rfl G.len PySem.boot_len (aa (pv 0) ab)) ae (aE _))
    (cf (af GW hr rfl mW kW bW .nil al (aa (av ay (pv 0) ae (fun _ _=>rfl)) (aa ae (aa (cr (v:=.int 2) rfl mP ⟨_,rfl⟩) ab))))
    (cv (af GX hr1 rfl mX kX bX .nil al (aa (av ay (pv 0) ae (fun _ _=>rfl)) ab))))))) aC)
  (aj (aw dg)))))))),?_⟩
 have fin: ∀ b,cT H v=b->Q (.bl b) H:=fun b e=>by
  exact qb (q H (Same.refl H)) e
 refine ⟨_,rfl,v,"tuple",rfl,hS,by simp,_,rfl,?_⟩
 refine bx (fun c=>?_) (fun c=>?_)
 ·refine cX ?_
  refine fin false ?_
  have c':isV "tuple" H v=false:=by simpa using c
  cases v with
  | ref a=>
   rcases hS with ⟨ys,e⟩ | ⟨ys,e⟩ | ⟨ys,e⟩
   ·exact qF e
   ·simp only [isV,e]at c'
    simp at c'
   ·exact tV e
  | _=>rfl
 have c':isV "tuple" H v=true:=by
  cases h:isV "tuple" H v with
  | true=>rfl
  | false=>rw [h]at c;exact absurd rfl c
 obtain ⟨a,xs,rfl,ha⟩:=vf c'
 obtain ⟨hl,hx⟩:=hI a xs rfl ha
 have hH:cT H (.ref a)=cJ xs:=gT ha
 refine ⟨_,rfl,a,xs,rfl,.inr (SqT.of ha),rfl,_,rfl,?_⟩
 cases xs with
 | nil=>exact cX (fin false (by rw [hH];rfl))
 | cons x0 r=>
  have c0: ¬ (decide (V.int (((x0::r).length:Nat):Int)=V.int 0))=true:=fun z=>by
   have:=of_decide_eq_true z
   injection this with this
   rw [List.length_cons]at this
   omega
  refine bx (fun z=>absurd z c0) (fun _=>?_)
  refine ⟨_,rfl,a,_,0,x0,rfl,rfl,SqT.of ha,bV,?_⟩
  refine ⟨_,rfl,x0,"str",rfl,hx x0 List.mem_cons_self,by simp,_,rfl,?_⟩
  refine bx (fun c1=>?_) (fun c1=>?_)
  ·refine fin false ?_
   rw [hH]
   cases x0 with
   | str k=>simp [isV]at c1
   | _=>rfl
  have c1':isV "str" H x0=true:=by
   cases h:isV "str" H x0 with
   | true=>rfl
   | false=>rw [h]at c1;exact absurd rfl c1
  obtain ⟨k,rfl⟩:=pq c1'
  have hlen: ∀ n:Nat,decide (V.int (((V.str k::r).length:Nat):Int)=V.int ((n+1:Nat):Int))=decide (r.length=n):=fun n=>by
   rw [oF,List.length_cons]
   by_cases h:r.length=n
   ·rw [decide_eq_true h,decide_eq_true (by omega)]
   ·rw [decide_eq_false h,decide_eq_false (by omega)]
  have hv:=tS k
  refine ⟨_,rfl,.inr k,aD,gw,rfl,rfl,D,_,rfl,?_⟩
  cases hk:cK k with
  | some n=>
   rw [hk]at hv
   refine bx (fun _=>?_) (fun c2=>?_)
   ·refine ⟨_,rfl,a,_,rfl,.inr (SqT.of ha),_,rfl,aD,gw,.inr k,_,rfl,rfl,D,hv,1,_,rfl,rfl,rfl,?_⟩
    refine fin _ ?_
    have e:=hlen n
    have e2:(1:Int) + (n:Int)=((n+1:Nat):Int):=by omega
    rw [hH]
    show cJ (V.str k::r)=decide (V.int (((V.str k::r).length:Nat):Int)=V.int (1+ (n:Int)))
    rw [e2,e]
    simp only [cJ,hk]
   ·rw [hv]at c2
    exact absurd rfl c2
  | none=>
   rw [hk]at hv
   refine bx (fun c2=>?_) (fun _=>?_)
   ·rw [hv]at c2
    exact absurd c2 (by decide)
   have hh:cJ (V.str k::r)=(if k="num" then qe (cM (-999999) 999999) r
     else if k="own" then qe df r
     else if k="part" then vI (fun x y=>cM 0 2 x&&df y) r else false):=by
    simp only [cJ,hk]
   refine ⟨_,rfl,rfl,_,rfl,?_⟩
   refine bx (fun c3=>?_) (fun c3=>?_)
   ·have ek:k="num":=by have:=of_decide_eq_true c3;injection this
    rw [if_pos ek]at hh
    refine ⟨_,rfl,a,_,rfl,.inr (SqT.of ha),rfl,_,rfl,?_⟩
    refine bx (fun c4=>?_) (fun c4=>?_)
    ·have e4:r.length=1:=of_decide_eq_true ((hlen 1).symm.trans c4)
     obtain ⟨x1,rfl⟩: ∃ x1,r=[x1]:=List.length_eq_one_iff.mp e4
     refine ⟨_,rfl,a,_,1,x1,rfl,rfl,SqT.of ha,vq,999999,rfl,x1,-999999,999999,rfl,hx x1 (by simp),?_⟩
     exact fin _ (by rw [hH,hh];rfl)
    ·refine fin false ?_
     rw [hH,hh]
     exact pc fun e1=>c4 ((hlen 1).trans (decide_eq_true e1))
   have nk: ¬ k="num":=fun e=>c3 (decide_eq_true (by rw [e]))
   rw [if_neg nk]at hh
   refine ⟨_,rfl,rfl,_,rfl,?_⟩
   refine bx (fun c3=>?_) (fun c3=>?_)
   ·have ek:k="own":=by have:=of_decide_eq_true c3;injection this
    rw [if_pos ek]at hh
    refine ⟨_,rfl,a,_,rfl,.inr (SqT.of ha),rfl,_,rfl,?_⟩
    refine bx (fun c4=>?_) (fun c4=>?_)
    ·have e4:r.length=1:=of_decide_eq_true ((hlen 1).symm.trans c4)
     obtain ⟨x1,rfl⟩: ∃ x1,r=[x1]:=List.length_eq_one_iff.mp e4
     refine ⟨_,rfl,a,_,1,x1,rfl,rfl,SqT.of ha,vq,x1,rfl,hx x1 (by simp),fun H' sm=>?_⟩
     have e:cT H (.ref a)=df x1:=by rw [hH,hh];rfl
     exact qb (q H' sm) e
    ·refine fin false ?_
     rw [hH,hh]
     exact pc fun e1=>c4 ((hlen 1).trans (decide_eq_true e1))
   have nk2: ¬ k="own":=fun e=>c3 (decide_eq_true (by rw [e]))
   rw [if_neg nk2]at hh
   refine ⟨_,rfl,rfl,_,rfl,?_⟩
   refine bx (fun c3=>?_) (fun c3=>?_)
   ·have ek:k="part":=by have:=of_decide_eq_true c3;injection this
    rw [if_pos ek]at hh
    refine ⟨_,rfl,a,_,rfl,.inr (SqT.of ha),rfl,_,rfl,?_⟩
    refine bx (fun c4=>?_) (fun c4=>?_)
    ·have e4:r.length=2:=of_decide_eq_true ((hlen 2).symm.trans c4)
     obtain ⟨x1,x2,rfl⟩: ∃ x1 x2,r=[x1,x2]:=by
      match r,e4 with
      | [x1,x2],_=>exact ⟨x1,x2,rfl⟩
     refine ⟨_,rfl,a,_,1,x1,rfl,rfl,SqT.of ha,vq,x1,0,2,rfl,hx x1 (by simp),_,rfl,?_⟩
     refine bx (fun c5=>?_) (fun c5=>?_)
     ·refine ⟨_,rfl,a,_,2,x2,rfl,rfl,SqT.of ha,xD,x2,rfl,hx x2 (by simp),fun H' sm=>?_⟩
      have e:cT H (.ref a)=df x2:=by rw [hH,hh];show (cM 0 2 x1&&df x2)=_;rw [c5,Bool.true_and]
      exact qb (q H' sm) e
     ·refine fin false ?_
      rw [hH,hh]
      show (cM 0 2 x1&&df x2)=_
      rw [Bool.eq_false_iff.mpr c5,Bool.false_and]
    ·refine fin false ?_
     rw [hH,hh]
     exact ur fun e1=>c4 ((hlen 2).trans (decide_eq_true e1))
   have nk3: ¬ k="part":=fun e=>c3 (decide_eq_true (by rw [e]))
   rw [if_neg nk3]at hh
   exact fin false (by rw [hH,hh])
inductive Bad (H:Hp):V->Prop where
 | sc {v:V}:Ask H v->cT H v=false->Bad H v
 | inn {a:Addr} {k:Str} {pre post:List V} {u:V}:H a=some (.tup (.str k::(pre++u::post)))->k.length<=1000->cK k=some (pre++u::post).length->(∀ x∈pre++post,∃ f,Rep H f x/\f.wf)->Bad H u->Bad H (.ref a)
inductive Fs (H:Hp):List V->Nat->Prop where
 | nil:Fs H [] 0
 | cons {v:V} {f:Fm} {vs:List V} {n:Nat}:Rep H f v->f.wf->Fs H vs n->Fs H (v::vs) (f.size+n)
theorem Fs.append {H:Hp} {xs ys:List V} {m n:Nat} (a:Fs H xs m) (b:Fs H ys n):Fs H (xs++ys) (m+n):=by
 induction a with
 | nil=>rw [Nat.zero_add];exact b
 | cons r w _ ih=>rw [Nat.add_assoc];exact .cons r w ih
theorem Fs.split {H:Hp}: ∀ {xs ys:List V} {n:Nat},Fs H (xs++ys) n-> ∃ a b,Fs H xs a/\Fs H ys b/\n=a+b
 | [],ys,n,h=>⟨0,n,.nil,h,by omega⟩
 | x::r,ys,n,h=>by
  cases h with
  | cons rp wf t=>
   obtain ⟨a,b,h1,h2,e⟩:=Fs.split t
   exact ⟨_,b,.cons rp wf h1,h2,by omega⟩
theorem Fs.mem {H:Hp} {xs:List V} {n:Nat} (h:Fs H xs n): ∀ x∈xs,∃ f,Rep H f x/\f.wf:=by
 induction h with
 | nil=>intro x hx;cases hx
 | cons r w _ ih=>
  intro x hx
  rcases List.mem_cons.mp hx with e | e
  ·subst e;exact ⟨_,r,w⟩
  ·exact ih x e
theorem dY {k:Str} (h:k∈ops):k.length<=1000:=by
 unfold ops at h
 simp only [List.mem_cons,List.not_mem_nil,or_false]at h
 rcases h with rfl | rfl | rfl | rfl | rfl <;> decide +kernel
theorem eX {H:Hp}: ∀ {f:Fm} {v:V},Rep H f v->Sh H v
 | .num _,_,⟨a,e,h⟩=>by subst e;exact .inr (.inl ⟨_,h⟩)
 | .own _,_,⟨a,e,h⟩=>by subst e;exact .inr (.inl ⟨_,h⟩)
 | .part _ _,_,⟨a,e,h⟩=>by subst e;exact .inr (.inl ⟨_,h⟩)
 | .bin _ _ _,_,⟨a,u,w,e,h,_⟩=>by subst e;exact .inr (.inl ⟨_,h⟩)
 | .whn _ _ _,_,⟨a,u,w,z,e,h,_⟩=>by subst e;exact .inr (.inl ⟨_,h⟩)
theorem ba {x:Str} (h:be x=true):x.length<=1000:=by
 unfold be at h
 simp only [Bool.and_eq_true,decide_eq_true_eq]at h
 omega
theorem dZ {op:Str} (h:op∈ops):cK op=some 2:=by unfold cK;rw [if_pos h]
theorem dA:cK "when"=some 3:=by decide +kernel
theorem fF:cK "num"=none:=by decide +kernel
theorem fE:cK "own"=none:=by decide +kernel
theorem dB:cK "part"=none:=by decide +kernel
theorem kz {H:Hp} {f:Fm} {v:V} (r:Rep H f v) (wf:f.wf): ∃ a k xs n,v=.ref a/\H a=some (.tup (.str k::xs))/\xs.length<=3/\k.length<=1000/\(∀ x∈xs,Sh H x)/\cJ (.str k::xs)=true/\Fs H (aS (.str k::xs)) n/\f.size=n+1:=by
 cases f with
 | num n=>
  obtain ⟨a,rfl,h⟩:=r
  refine ⟨a,_,_,0,rfl,h,by simp,by decide +kernel,by simp [Sh],?_,?_,rfl⟩
  ·simp only [cJ,fF,if_true,qe,cM]
   have w1: -999999<=n/\n<=999999:=wf
   rw [decide_eq_true w1.1,decide_eq_true w1.2]
   rfl
  ·simp only [aS,fF]
   exact .nil
 | own x=>
  obtain ⟨a,rfl,h⟩:=r
  have w1:be x=true:=wf
  refine ⟨a,_,_,0,rfl,h,by simp,by decide +kernel,by simpa [Sh]using ba w1,?_,?_,rfl⟩
  ·simp only [cJ,fE]
   rw [if_neg (by decide +kernel),if_pos True.intro]
   exact w1
  ·simp only [aS,fE]
   exact .nil
 | part k x=>
  obtain ⟨a,rfl,h⟩:=r
  obtain ⟨w0,w1⟩:(0<=k/\k<=2)/\be x=true:=wf
  refine ⟨a,_,_,0,rfl,h,by simp,by decide +kernel,by simpa [Sh]using ba w1,?_,?_,rfl⟩
  ·simp only [cJ,dB]
   rw [if_neg (by decide +kernel),if_neg (by decide +kernel),if_pos True.intro]
   show (decide (0<=k)&&decide (k<=2)&&be x)=true
   rw [w1,decide_eq_true w0.1,decide_eq_true w0.2]
   rfl
  ·simp only [aS,dB]
   exact .nil
 | bin op A B=>
  obtain ⟨a,u,w,rfl,h,r1,r2⟩:=r
  obtain ⟨ho,w1,w2⟩:op∈ops/\A.wf/\B.wf:=wf
  refine ⟨a,_,_,A.size+ (B.size+0),rfl,h,by simp,dY ho,?_,?_,?_,by show A.size+B.size+1=_;omega⟩
  ·intro x hx
   simp only [List.mem_cons,List.not_mem_nil,or_false]at hx
   rcases hx with rfl | rfl
   ·exact eX r1
   ·exact eX r2
  ·simp only [cJ,dZ ho]
   rfl
  ·simp only [aS,dZ ho]
   exact .cons r1 w1 (.cons r2 w2 .nil)
 | whn A B C=>
  obtain ⟨a,u,w,z,rfl,h,r1,r2,r3⟩:=r
  obtain ⟨w1,w2,w3⟩:A.wf/\B.wf/\C.wf:=wf
  refine ⟨a,_,_,A.size+ (B.size+ (C.size+0)),rfl,h,by simp,by decide +kernel,?_,?_,?_,by show A.size+B.size+C.size+1=_;omega⟩
  ·intro x hx
   simp only [List.mem_cons,List.not_mem_nil,or_false]at hx
   rcases hx with rfl | rfl | rfl
   ·exact eX r1
   ·exact eX r2
   ·exact eX r3
  ·simp only [cJ,dA]
   rfl
  ·simp only [aS,dA]
   exact .cons r1 w1 (.cons r2 w2 (.cons r3 w3 .nil))
theorem kE {H:Hp} {f:Fm} {v:V} (r:Rep H f v) (wf:f.wf):Ask H v/\cT H v=true:=by
 obtain ⟨a,k,xs,n,rfl,h,hl,hk,hs,hh,_,_⟩:=kz r wf
 refine ⟨⟨eX r,fun b ys e h'=>?_⟩,by rw [gT h];exact hh⟩
 cases e
 rw [h]at h'
 cases h'
 refine ⟨by rw [List.length_cons];omega,fun x hx=>?_⟩
 rcases List.mem_cons.mp hx with e | e
 ·subst e;exact hk
 ·exact hs x e
theorem wG {H:Hp} {v:V} (b:Bad H v):Sh H v:=by
 cases b with
 | sc a _=>exact a.1
 | inn h _ _ _ _=>exact .inr (.inl ⟨_,h⟩)
noncomputable def Res (H:Hp) (ws:List V) (n:Nat):Bool->Prop
 | true=> ∃ t,Fs H ws t/\t+n<=15
 | false=>(∃ t,Fs H ws t/\15<t+n)\/ ∃ pre u post,ws=pre++u::post/\(∀ x∈pre++post,∃ f,Rep H f x/\f.wf)/\Bad H u
theorem uD {H:Hp} {n:Nat} {b:Bool} (hn:n<=15) (h:Res H [] n b):b=true:=by
 cases b with
 | true=>rfl
 | false=>
  rcases h with ⟨t,f,e⟩ | ⟨pre,u,post,e,_⟩
  ·cases f;omega
  ·cases pre <;> cases e
theorem rT {H:Hp} {ws:List V} {x:V} {b:Bool} (h:Res H (ws++[x]) 15 b):b=false:=by
 cases b with
 | false=>rfl
 | true=>
  obtain ⟨t,f,e⟩:=h
  obtain ⟨a,c,f1,f2,e2⟩:=f.split
  cases f2 with
  | cons r w f3=>
   have:=Fm.size_pos (by assumption)
   omega
theorem rS {H:Hp} {ws:List V} {x:V} {n:Nat} {b:Bool} (hn:n<15) (h:Res H (ws++[x]) n b):
  Ask H x/\((cT H x=false/\b=false)\/(cT H x=true/\ ∃ a k r,x=.ref a/\H a=some (.tup (.str k::r))/\r.length<=3/\Res H (ws++aS (.str k::r)) (n+1) b)):=by
 have good: ∀ {t:Nat},Fs H (ws++[x]) t-> ∃ f m,Rep H f x/\f.wf/\Fs H ws m/\t=m+f.size:=fun f=>by
  obtain ⟨a,c,f1,f2,e2⟩:=f.split
  cases f2 with
  | cons r w f3=>
   cases f3
   exact ⟨_,a,r,w,f1,by omega⟩
 have step: ∀ {f:Fm} {m:Nat},Rep H f x->f.wf->Fs H ws m-> ∃ a k r,x=.ref a/\H a=some (.tup (.str k::r))/\r.length<=3/\Fs H (ws++aS (.str k::r)) (m+ (f.size-1)):=fun rp wf fm=>by
  obtain ⟨a,k,xs,q,e,h1,hl,hk,hs,hh,hi,sz⟩:=kz rp wf
  refine ⟨a,k,xs,e,h1,hl,?_⟩
  rw [sz]
  exact fm.append hi
 cases b with
 | true=>
  obtain ⟨t,f,e⟩:=h
  obtain ⟨fm,m,rp,wf,fw,et⟩:=good f
  obtain ⟨ak,hv⟩:=kE rp wf
  obtain ⟨a,k,r,ex,ha,hl,hf⟩:=step rp wf fw
  have:=fm.size_pos
  exact ⟨ak,.inr ⟨hv,a,k,r,ex,ha,hl,_,hf,by omega⟩⟩
 | false=>
  rcases h with ⟨t,f,e⟩ | ⟨pre,u,post,e,hpp,bu⟩
  ·obtain ⟨fm,m,rp,wf,fw,et⟩:=good f
   obtain ⟨ak,hv⟩:=kE rp wf
   obtain ⟨a,k,r,ex,ha,hl,hf⟩:=step rp wf fw
   have:=fm.size_pos
   exact ⟨ak,.inr ⟨hv,a,k,r,ex,ha,hl,.inl ⟨_,hf,by omega⟩⟩⟩
  ·rcases List.eq_nil_or_concat post with hp | ⟨post',y,hp⟩
   ·-- the spoilt one itself
    subst hp
    have ee:ws++[x]=pre++[u]:=e
    obtain ⟨e1,e2⟩:=List.append_inj' ee rfl
    cases e2
    subst e1
    cases bu with
    | sc ak hv=>exact ⟨ak,.inl ⟨hv,rfl⟩⟩
    | @inn a k p2 q2 u2 h1 hk hi hpq b2=>
     have hh:cJ (.str k::(p2++u2::q2))=true:=by simp only [cJ,hi];simp
     have hlen:(p2++u2::q2).length<=3:=by
      unfold cK at hi
      split at hi
      ·injection hi with hi;omega
      ·split at hi
       ·injection hi with hi;omega
       ·cases hi
     refine ⟨⟨.inr (.inl ⟨_,h1⟩),fun b ys eb h'=>?_⟩,.inr ⟨by rw [gT h1];exact hh,a,k,_,rfl,h1,hlen,.inr ⟨ws++p2,u2,q2,?_,?_,b2⟩⟩⟩
     ·cases eb
      rw [h1]at h'
      cases h'
      refine ⟨by rw [List.length_cons];omega,fun z hz=>?_⟩
      rcases List.mem_cons.mp hz with q | q
      ·subst q;exact hk
      ·rcases List.mem_append.mp q with q | q
       ·obtain ⟨f,rp,_⟩:=hpq z (List.mem_append_left _ q)
        exact eX rp
       ·rcases List.mem_cons.mp q with q | q
        ·subst q;exact wG b2
        ·obtain ⟨f,rp,_⟩:=hpq z (List.mem_append_right _ q)
         exact eX rp
     ·show ws++aS (.str k::(p2++u2::q2))=_
      simp only [aS,hi,Option.isSome_some,if_true]
      rw [List.append_assoc]
     ·intro z hz
      rcases List.mem_append.mp hz with q | q
      ·rcases List.mem_append.mp q with q | q
       ·exact hpp z (List.mem_append_left _ q)
       ·exact hpq z (List.mem_append_left _ q)
      ·exact hpq z (List.mem_append_right _ q)
   ·-- a formula behind it
    rw [List.concat_eq_append]at hp
    subst hp
    have ee:ws++[x]=(pre++u::post')++[y]:=by rw [e];simp
    obtain ⟨e1,e2⟩:=List.append_inj' ee rfl
    cases e2
    obtain ⟨fm,rp,wf⟩:=hpp x (by simp)
    obtain ⟨ak,hv⟩:=kE rp wf
    obtain ⟨a,k,xs,q,ex,h1,hl,hk,hs,hh,hi,sz⟩:=kz rp wf
    refine ⟨ak,.inr ⟨hv,a,k,xs,ex,h1,hl,.inr ⟨pre,u,post'++aS (.str k::xs),by rw [e1];simp,?_,bu⟩⟩⟩
    intro z hz
    rcases List.mem_append.mp hz with q | q
    ·exact hpp z (List.mem_append_left _ q)
    ·rcases List.mem_append.mp q with q | q
     ·exact hpp z (List.mem_append_right _ (List.mem_append_left _ q))
     ·exact hi.mem z q
theorem pY {H H':Hp} {v:V} (sm:Same H H') (a:Ask H v):Ask H' v/\cT H' v=cT H v:=by
 have sh: ∀ {x:V},Sh H x->Sh H' x:=fun {x} h=>by
  cases x with
  | ref b=>
   rcases h with ⟨ys,e⟩ | ⟨ys,e⟩ | ⟨ys,e⟩
   ·exact .inl ⟨_,sm _ _ e⟩
   ·exact .inr (.inl ⟨_,sm _ _ e⟩)
   ·exact .inr (.inr ⟨_,sm _ _ e⟩)
  | _=>exact h
 cases v with
 | ref b=>
  obtain ⟨o,eo⟩: ∃ o,H b=some o:=by rcases a.1 with ⟨ys,e⟩ | ⟨ys,e⟩ | ⟨ys,e⟩ <;> exact ⟨_,e⟩
  refine ⟨⟨sh a.1,fun c ys ec h'=>?_⟩,by simp only [cT,sm _ _ eo,eo]⟩
  cases ec
  have h2:H b=some (.tup ys):=by rw [sm _ _ eo]at h';rw [eo];exact h'
  obtain ⟨h3,h4⟩:=a.2 b ys rfl h2
  exact ⟨h3,fun x hx=>sh (h4 x hx)⟩
 | _=>exact ⟨⟨sh a.1,fun c ys ec=>by cases ec⟩,rfl⟩
noncomputable def rj:Sp:=fun vs H Q _=> ∃ v b,vs=[v]/\Res H [v] 0 b/\ ∀ H',Same H H'->Q (.bl b) H'
theorem scForm:au ["thing","waiting","seen","one"] ["thing"] (ag rQ):=fsc
theorem uX (F:Fun K "is_formula" "is_formula" rQ f fd) {tT:Tok} (mT:mg "MOST_TUPLES"=some (.int 15 tT))
  (GH:FnOk P w K mg base CX0 3 g gd ["thing"] rh) (bH:Binds K gd ["thing"] []) (kH:PySem.W.keepIn K (.ref g)=true) (mH:mg "is_head"=some (.ref g))
  (GI:FnOk P w K mg base CX0 1 f2 fd2 ["formula"] j0) (bI:Binds K fd2 ["formula"] []) (kI:PySem.W.keepIn K (.ref f2)=true) (mI:mg "inner_of"=some (.ref f2)):
  FnOk P w K mg base CX0 4 f fd ["thing"] rj:=by
 refine F.ok scForm (fun vs H Q E h=>?_) (fun cdv A outer s H vs Q E hr h=>?_)
 ·obtain ⟨v,b,rfl,_⟩:=h
  rfl
 obtain ⟨v,b,rfl,hR,q⟩:=h
 have hr1:=hr.mono (show 1<=3 by decide)
 refine ⟨_,ad (aq (i:=1) scForm.nd rfl (Or.inl rfl) (bf (aa (pv 0) ab)))
  (ad (aq (i:=2) scForm.nd rfl (Or.inl rfl) ae)
  (ad (iV PassesOwn.never (md (pv 1) (fun _=>rfl))
   (ad (aq (i:=3) scForm.nd rfl (Or.inl rfl) (sy PySem.F.plainAttrs_list PySem.F.slot_list_pop PySem.F.type_list_pop sX (pv 1)))
   (ad (aL (PW.pt (c6 (aF bj (pv 2) (cr (v:=.int 15) rfl mT ⟨_,rfl⟩) (aE _)) (cD (aY (aT (af GH hr rfl mH kH bH .nil al (aa (pv 3) ab))))))) (aj (aw dg)) aC)
   (ad (vZ (i:=2) scForm.nd rfl (Or.inl rfl) ae wv)
   (aj (cq (dF PySem.F.plainAttrs_list PySem.F.slot_list_extend PySem.F.type_list_extend ph (pv 1) (aa (af GI hr1 rfl mI kI bI .nil al (aa (pv 3) ab)) ab))))))))
  (aj (aw dg)))),?_⟩
 refine ⟨_,rfl,(by show 1<=sizeLine;decide),fun l hl=>?_⟩
 dsimp only [vL,nJ,dI,tC]
 refine iA (fun Z H'=> ∃ (ws:List V) (n:Nat) (o:Option V),Z=[some v,some (.ref l),some (.int n),o]/\H' l=some (.lst ws)/\Same H H'/\n<=15/\ws.length<=1+3*n/\Res H ws n b)
  (fun Z _=>match Z with | [_,_,some (.int n),_]=>15-n.toNat | _=>0) ⟨[v],0,none,rfl,ac,ah hl _,Nat.zero_le _,by simp,hR⟩ ?_ ?_
 ·rintro Z H' ⟨ws,n,o,rfl,hw,sm,hn,hlen,hR⟩
  refine ⟨_,rfl,_,.inl ⟨ws,SqL.of hw,rfl⟩,?_⟩
  rcases List.eq_nil_or_concat ws with hz | ⟨ws',x,hz⟩
  ·subst hz
   refine aX ?_
   have eb:=uD hn hR
   subst eb
   exact q H' sm
  ·rw [List.concat_eq_append]at hz
   subst hz
   have ne:(!(ws'++[x]).isEmpty)=true:=by cases ws' <;> rfl
   refine bx (fun _=>?_) (fun c=>absurd ne c)
   refine ⟨_,rfl,.inl ⟨rfl,_,SqL.of hw⟩,l,_,x,rfl,rfl,hw,by simp,?_⟩
   rw [List.dropLast_concat]
   have lne: ∀ {c:Addr} {oo:HO},H c=some oo->c≠l:=fun h=>ai h hl
   have sm1:Same H (upd H' l (.lst ws')):=fun c oo h=>by rw [am (lne h)];exact sm c oo h
   refine ⟨_,rfl,rfl,_,rfl,?_⟩
   refine bx (fun c=>?_) (fun c=>?_)
   ·-- fifteen were seen
    refine cX ?_
    have e15:n=15:=by have:=of_decide_eq_true c;injection this with this;omega
    subst e15
    have eb:=rT hR
    subst eb
    exact q _ sm1
   ·have hn':n<15:=by
     rcases Nat.lt_or_ge n 15 with z | z
     ·exact z
     ·have:n=15:=by omega
      subst this
      exact absurd (decide_eq_true rfl) c
    obtain ⟨ak,alt⟩:=rS hn' hR
    obtain ⟨ak1,hv1⟩:=pY sm1 ak
    refine ⟨_,rfl,x,rfl,ak1,fun H2 sm2=>⟨_,rfl,?_⟩⟩
    rw [hv1]
    rcases alt with ⟨hv,eb⟩ | ⟨hv,a,k,r,ex,ha,hl3,hR'⟩
    ·rw [hv]
     refine cX ?_
     subst eb
     exact q _ (sm1.trans sm2)
    ·rw [hv]
     refine aX ?_
     subst ex
     have sm3:=sm1.trans sm2
     refine ⟨_,rfl,_,1,rfl,rfl,?_⟩
     have hl2:H2 l=some (.lst ws'):=sm2 _ _ ac
     refine ⟨_,rfl,.inl ⟨rfl,_,SqL.of hl2⟩,_,rfl,a,k,r,rfl,sm3 _ _ ha,by omega,fun p H3 sm4 hp=>?_⟩
     have hl3':H3 l=some (.lst ws'):=sm4 _ _ hl2
     have hil:(aS (.str k::r)).length<=3:=by
      show (if (cK k).isSome=true then r else []).length<=3
      split
      ·exact hl3
      ·exact Nat.zero_le _
     refine ⟨l,p,_,_,rfl,rfl,hl3',SqT.of hp,?_,?_⟩
     ·rw [List.length_append]at hlen
      exact Nat.le_of_lt (aA (by simp at hlen;omega))
     ·refine ⟨⟨ws'++aS (.str k::r),n+1,_,rfl,ac,fun c oo h=>?_,by omega,?_,hR'⟩,?_⟩
      ·rw [am (lne h)]
       exact sm4 _ _ (sm3 c oo h)
      ·simp at hlen
       rw [List.length_append]
       omega
      ·show 15- ((n:Int) +1).toNat<15- ((n:Int)).toNat
       omega
 ·rintro Z H' Q1 Q2 hq ⟨y,e1,k,t,h⟩
  exact ⟨y,e1,k,t,hq _ _ h⟩
inductive Ts (H:Hp):List V->List V->Prop where
 | nil:Ts H [] []
 | cons {a:Addr} {k:Str} {r vs out:List V}:H a=some (.tup (.str k::r))->k.length<=1000->r.length<=3->Ts H (aS (.str k::r)++vs) out->Ts H (.ref a::vs) (.ref a::out)
theorem Ts.len {H:Hp} {ws out:List V} (h:Ts H ws out):ws.length<=out.length:=by
 induction h with
 | nil=>exact Nat.le_refl _
 | cons _ _ _ _ ih=>
  rw [List.length_append]at ih
  rw [List.length_cons,List.length_cons]
  omega
noncomputable def iI:Sp:=fun vs H Q _=> ∃ v out,vs=[v]/\Ts H [v] out/\out.length<=1000/\ ∀ p H',Same H H'->H' p=some (.lst out)->Q (.ref p) H'
theorem scTuples:au ["formula","found","waiting","one"] ["formula"] (ag kn):=fsc
theorem qh (F:Fun K "tuples_of" "tuples_of" kn f fd)
  (GI:FnOk P w K mg base CX0 1 f2 fd2 ["formula"] j0) (bI:Binds K fd2 ["formula"] []) (kI:PySem.W.keepIn K (.ref f2)=true) (mI:mg "inner_of"=some (.ref f2)):
  FnOk P w K mg base CX0 2 f fd ["formula"] iI:=by
 refine F.ok scTuples (fun vs H Q E h=>?_) (fun cdv A outer s H vs Q E hr h=>?_)
 ·obtain ⟨v,b,rfl,_⟩:=h
  rfl
 obtain ⟨v,out,rfl,hT,hout,q⟩:=h
 refine ⟨_,ad (aq (i:=1) scTuples.nd rfl (Or.inl rfl) (bf ab))
  (ad (aq (i:=2) scTuples.nd rfl (Or.inl rfl) (bf (aa (pv 0) ab)))
  (ad (iV PassesOwn.never (md (pv 2) (fun _=>rfl))
   (ad (aq (i:=3) scTuples.nd rfl (Or.inl rfl) (sy PySem.F.plainAttrs_list PySem.F.slot_list_pop PySem.F.type_list_pop sX (pv 2)))
   (ad (cq (dF PySem.F.plainAttrs_list PySem.F.slot_list_append PySem.F.type_list_append bZ (pv 1) (aa (pv 3) ab)))
   (aj (cq (dF PySem.F.plainAttrs_list PySem.F.slot_list_extend PySem.F.type_list_extend ph (pv 2) (aa (sA (af GI hr rfl mI kI bI .nil al (aa (pv 3) ab)) (ic eK ae)) ab)))))))
  (aj (aw (pv 1))))),?_⟩
 refine ⟨(by show 0<=sizeLine;decide),fun p1 h1=>?_⟩
 refine ⟨_,rfl,(by show 1<=sizeLine;decide),fun p2 h2=>?_⟩
 dsimp only [vL,nJ,dI,tC]
 have n21:p1≠p2:=fun e=>by
  subst e
  rw [ac]at h2
  cases h2
 have h2':H p2=none:=by rw [am (Ne.symm n21)]at h2;exact h2
 refine iA (fun Z H'=> ∃ (ws done rest:List V) (o:Option V),Z=[some v,some (.ref p1),some (.ref p2),o]/\H' p1=some (.lst done)/\H' p2=some (.lst ws.reverse)/\Same H H'/\Ts H ws rest/\done++rest=out)
  (fun _ H'=>match H' p1 with | some (.lst d)=>out.length-d.length | _=>0) ⟨[v],[],out,none,rfl,by rw [am n21,ac],ac,(ah h1 _).trans (ah h2 _),hT,rfl⟩ ?_ ?_
 ·rintro Z H' ⟨ws,done,rest,o,rfl,g1,g2,sm,hW,he⟩
  refine ⟨_,rfl,_,.inl ⟨ws.reverse,SqL.of g2,rfl⟩,?_⟩
  have hle:done.length+rest.length=out.length:=by rw [<- he,List.length_append]
  cases hW with
  | nil=>
   refine aX ?_
   refine ⟨_,rfl,?_⟩
   rw [List.append_nil]at he
   subst he
   exact q _ _ sm g1
  | @cons a k r vs rest' ha hk hr3 ht=>
   have ne:(!((V.ref a::vs).reverse).isEmpty)=true:=by simp
   refine bx (fun _=>?_) (fun c=>absurd ne c)
   rw [List.reverse_cons]at g2
   refine ⟨_,rfl,.inl ⟨rfl,_,SqL.of g2⟩,p2,_,.ref a,rfl,rfl,g2,by simp,?_⟩
   rw [List.dropLast_concat]
   have l1: ∀ {c:Addr} {oo:HO},H c=some oo->c≠p1:=fun h=>ai h h1
   have l2: ∀ {c:Addr} {oo:HO},H c=some oo->c≠p2:=fun h=>ai h h2'
   rw [List.length_cons]at hle
   refine ⟨_,rfl,.inl ⟨rfl,_,SqL.of (show upd H' p2 (.lst vs.reverse) p1=some (.lst done) by rw [am n21];exact g1)⟩,_,rfl,p1,done,.ref a,rfl,rfl,by rw [am n21];exact g1,aA (by omega),?_⟩
   have sm1:Same H (upd (upd H' p2 (.lst vs.reverse)) p1 (.lst (done++[.ref a]))):=fun c oo h=>by rw [am (l1 h),am (l2 h)];exact sm c oo h
   have k2:upd (upd H' p2 (.lst vs.reverse)) p1 (.lst (done++[.ref a])) p2=some (.lst vs.reverse):=by rw [am (Ne.symm n21),ac]
   refine ⟨_,rfl,.inl ⟨rfl,_,SqL.of k2⟩,_,rfl,a,k,r,rfl,sm1 _ _ ha,by omega,fun p H3 sm4 hp=>?_⟩
   have k1':H3 p1=some (.lst (done++[.ref a])):=sm4 _ _ ac
   have k2':H3 p2=some (.lst vs.reverse):=sm4 _ _ k2
   have hil:(aS (.str k::r)).length<=3:=by
    show (if (cK k).isSome=true then r else []).length<=3
    split
    ·exact hr3
    ·exact Nat.zero_le _
   refine ⟨_,rfl,p,_,rfl,rfl,SqT.of hp,fun p4 h4=>?_⟩
   have n41:p1≠p4:=ai k1' h4
   have n42:p2≠p4:=ai k2' h4
   have hlv:=ht.len
   rw [List.length_append]at hlv
   refine ⟨p2,p4,_,_,rfl,rfl,by rw [am n42];exact k2',SqT.of ac,?_,?_⟩
   ·rw [List.length_reverse,List.length_reverse]
    exact Nat.le_of_lt (aA (by omega))
   ·refine ⟨⟨aS (.str k::r)++vs,done++[.ref a],rest',_,rfl,by rw [am n21,am n41];exact k1',by rw [ac,List.reverse_append],fun c oo h=>?_,ht,by rw [List.append_assoc];exact he⟩,?_⟩
    ·have h3:=sm4 _ _ (sm1 c oo h)
     rw [am (l2 h),am (ai h3 h4)]
     exact h3
    ·rw [am n21,am n41,k1',g1]
     show out.length- (done++[V.ref a]).length<out.length-done.length
     rw [List.length_append,List.length_singleton]
     omega
 ·rintro Z H' Q1 Q2 hq ⟨y,e1,k,t,h⟩
  exact ⟨y,e1,k,t,hq _ _ h⟩
noncomputable def RK (ks:List Key):Prop:=(∃ x:Str,ks=[.inr "own",.inr x]/\x.length<=1000)\/ ∃ (i:Int) (x:Str),ks=[.inr "part",.inl i,.inr x]/\x.length<=1000
inductive Tw (H:Hp):List V->List V->List (List Key)->Prop where
 | nil:Tw H [] [] []
 | rd {a:Addr} {ks:List Key} {vs out:List V} {rs:List (List Key)}:H a=some (.tup (ks.map kV))->RK ks->Tw H vs out rs->Tw H (.ref a::vs) (.ref a::out) (ks::rs)
 | num {a:Addr} {r vs out:List V} {rs:List (List Key)}:H a=some (.tup (.str "num"::r))->r.length<=3->Tw H vs out rs->Tw H (.ref a::vs) (.ref a::out) rs
 | inn {a:Addr} {k:Str} {r vs out:List V} {rs:List (List Key)}:H a=some (.tup (.str k::r))->(cK k).isSome=true->k.length<=1000->r.length<=3->Tw H (r++vs) out rs->Tw H (.ref a::vs) (.ref a::out) rs
theorem Tw.mono {H H':Hp} {ws out:List V} {rs:List (List Key)} (t:TK H H') (h:Tw H ws out rs):Tw H' ws out rs:=by
 induction h with
 | nil=>exact .nil
 | rd a b _ ih=>exact .rd (t _ _ a) b ih
 | num a b _ ih=>exact .num (t _ _ a) b ih
 | inn a b c d _ ih=>exact .inn (t _ _ a) b c d ih
theorem oX {ks:List Key} (h:RK ks): ∃ (k:Str) (r:List V),ks.map kV=.str k::r/\(k="own"\/k="part")/\r.length<=3/\cK k=none:=by
 rcases h with ⟨x,rfl,_⟩ | ⟨i,x,rfl,_⟩
 ·exact ⟨"own",_,rfl,.inl rfl,by simp,fE⟩
 ·exact ⟨"part",_,rfl,.inr rfl,by simp,dB⟩
theorem Tw.ts {H:Hp} {ws out:List V} {rs:List (List Key)} (h:Tw H ws out rs):Ts H ws out:=by
 induction h with
 | nil=>exact .nil
 | @rd a ks vs out rs ha hk t ih=>
  obtain ⟨k,r,e,hk2,hl,hi⟩:=oX hk
  rw [e]at ha
  refine .cons ha ?_ hl ?_
  ·rcases hk2 with rfl | rfl <;> decide +kernel
  ·have:aS (.str k::r)=[]:=by simp only [aS,hi];rfl
   rw [this]
   exact ih
 | @num a r vs out rs ha hl t ih=>
  refine .cons ha (by decide +kernel) hl ?_
  have:aS (.str "num"::r)=[]:=by simp only [aS,fF];rfl
  rw [this]
  exact ih
 | @inn a k r vs out rs ha hi hk hl t ih=>
  refine .cons ha hk hl ?_
  have:aS (.str k::r)=r:=by simp only [aS,hi];rfl
  rw [this]
  exact ih
theorem Tw.rk {H:Hp} {ws out:List V} {rs:List (List Key)} (h:Tw H ws out rs): ∀ ks∈rs,RK ks:=by
 induction h with
 | nil=>intro ks hk;cases hk
 | rd _ b _ ih=>
  intro ks hk
  rcases List.mem_cons.mp hk with e | e
  ·rw [e];exact b
  ·exact ih ks e
 | num _ _ _ ih=>exact ih
 | inn _ _ _ _ _ ih=>exact ih
inductive Tr (H:Hp):List V->List (List Key)->Prop where
 | nil:Tr H [] []
 | rd {a:Addr} {ks:List Key} {out:List V} {rs:List (List Key)}:H a=some (.tup (ks.map kV))->RK ks->Tr H out rs->Tr H (.ref a::out) (ks::rs)
 | no {a:Addr} {k:Str} {r out:List V} {rs:List (List Key)}:H a=some (.tup (.str k::r))-> ¬ k="own"-> ¬ k="part"->Tr H out rs->Tr H (.ref a::out) rs
theorem Tw.tr {H:Hp} {ws out:List V} {rs:List (List Key)} (h:Tw H ws out rs):Tr H out rs:=by
 induction h with
 | nil=>exact .nil
 | rd a b _ ih=>exact .rd a b ih
 | num a _ _ ih=>exact .no a (by decide +kernel) (by decide +kernel) ih
 | @inn a k r vs out rs ha hi _ _ _ ih=>
  refine .no ha (fun e=>?_) (fun e=>?_) ih
  ·rw [e,fE]at hi;cases hi
  ·rw [e,dB]at hi;cases hi
noncomputable def dd (acc:List (List Key)):List (List Key)->List (List Key)
 | []=>acc
 | k::r=>dd (if k∈acc then acc else acc++[k]) r
theorem gV {P:List Key->Prop}: ∀ {rs acc:List (List Key)},(∀ k∈acc,P k)->(∀ k∈rs,P k)-> ∀ k∈dd acc rs,P k
 | [],_,h,_=>h
 | x::r,acc,h,h2=>by
  refine gV (rs:=r) (fun k hk=>?_) fun k hk=>h2 k (List.mem_cons_of_mem _ hk)
  by_cases e:x∈acc
  ·rw [if_pos e]at hk;exact h k hk
  ·rw [if_neg e]at hk
   rcases List.mem_append.mp hk with z | z
   ·exact h k z
   ·rw [List.mem_singleton.mp z];exact h2 x List.mem_cons_self
theorem nh (kvs:List (List Key×V)) (k:List Key) (v:V):(cW kvs k v).map (·.1)=if k∈kvs.map (·.1)then kvs.map (·.1)else kvs.map (·.1)++[k]:=by
 unfold cW
 by_cases h:k∈kvs.map (·.1)
 ·rw [if_pos h,if_pos,List.map_map]
  ·refine List.map_congr_left fun x _=>?_
   show (if x.1=k then (x.1,v)else x).1=x.1
   split <;> rfl
  ·obtain ⟨x,hx,e⟩:=List.mem_map.mp h
   exact List.any_eq_true.mpr ⟨x,hx,decide_eq_true e⟩
 ·rw [if_neg h,if_neg,List.map_append]
  ·rfl
  ·intro z
   obtain ⟨x,hx,e⟩:=List.any_eq_true.mp z
   exact h (List.mem_map.mpr ⟨x,hx,of_decide_eq_true e⟩)
theorem ik (k:Str):inV (.str k) [.str "own",.str "part"]=(decide (k="own")||decide (k="part")):=by
 show (("own"==k)||(("part"==k)||false))=_
 rw [Bool.or_false]
 by_cases h1:k="own"
 ·subst h1;decide +kernel
 ·by_cases h2:k="part"
  ·subst h2;decide +kernel
  ·rw [decide_eq_false h1,decide_eq_false h2]
   have e1:(("own":Str)==k)=false:=beq_eq_false_iff_ne.mpr fun e=>h1 e.symm
   have e2:(("part":Str)==k)=false:=beq_eq_false_iff_ne.mpr fun e=>h2 e.symm
   rw [e1,e2]
noncomputable def jY:Sp:=fun vs H Q _=> ∃ v out rs,vs=[v]/\Tw H [v] out rs/\out.length<=1000/\ ∀ p ys H',H p=none->Same H H'->H' p=some (.lst ys)->KsOf H' ys (dd [] rs)->Q (.ref p) H'
theorem scReads:au ["formula","found","one"] ["formula"] (ag nS):=fsc
theorem sK (F:Fun K "readings_of" "readings_of" nS f fd) (hlist:mg "list"=none) (mR:mg "READINGS"=some (.ref aR)) (hR: ∀ H,SqT K H aR [.str "own",.str "part"])
  (GT:FnOk P w K mg base CX0 2 f2 fd2 ["formula"] iI) (bT:Binds K fd2 ["formula"] []) (kT:PySem.W.keepIn K (.ref f2)=true) (mT:mg "tuples_of"=some (.ref f2)):
  FnOk P w K mg base CX0 3 f fd ["formula"] jY:=by
 refine F.ok scReads (fun vs H Q E h=>?_) (fun cdv A outer s H vs Q E hr h=>?_)
 ·obtain ⟨v,b,_,rfl,_⟩:=h
  rfl
 obtain ⟨v,out,rs,rfl,hT,hout,q⟩:=h
 have hu:=hr.units
 refine ⟨_,ad (aq (i:=1) scReads.nd rfl (Or.inl rfl) iW)
  (ad (bQ PassesOwn.never rfl (cY (af GT hr rfl mT kT bT .nil al (aa (pv 0) ab))) (aH (i:=2) scReads.nd rfl (Or.inl rfl))
   (aj (aL (aF fA (av ay (pv 2) ae (fun _ _=>rfl)) (cr (v:=.ref aR) rfl mR rfl) (by with_unfolding_all rfl))
    (aj (gi (jg hr) (pv 1) (pv 2) dg rfl)) aC)))
  (aj (aw (bg (oJ rfl) rfl hlist (by decide +kernel) (aa (pv 1) ab))))),?_⟩
 refine fun pd hd=>?_
 have s0:=ah hd (.dT [])
 have g0:(upd H pd (.dT [])) pd=some (.dT []):=ac
 generalize upd H pd (.dT [])=H0 at s0 g0 ⊢
 refine ⟨_,rfl,v,out,rfl,(hT.mono (fun _ _ h=>s0 _ _ h)).ts,hout,fun p1 H1 s1 h1=>⟨p1,rfl,⟨out,SqL.of h1⟩,?_⟩⟩
 have S1:=s0.trans s1
 have n1:pd≠p1:=fun e=>by
  subst e
  have:=s1 _ _ g0
  rw [h1]at this
  cases this
 refine gx (xs:=out) (fun i Z H'=>i<=out.length/\ ∃ o kvs rs',Z=[some v,some (.ref pd),o]/\H' pd=some (.dT kvs)/\H' p1=some (.lst out)/\Same H H'/\Tr H (out.drop i) rs'/\dd (kvs.map (·.1)) rs'=dd [] rs/\kvs.length<=i)
  ⟨Nat.zero_le _,none,[],rs,rfl,s1 _ _ g0,h1,S1,hT.tr,rfl,Nat.le_refl _⟩ (fun i Z H' _ h=>by obtain ⟨_,_,_,_,_,_,gp,_⟩:=h;exact SqL.of gp) ?_ ?_
 ·rintro i x Z H' hx ⟨hi,o,kvs,rs',rfl,gd,gp,sm,hTr,hdd,hl⟩
  have hlt:i<out.length:=(List.getElem?_eq_some_iff.mp hx).1
  have hdr:out.drop i=x::out.drop (i+1):=by
   rw [List.drop_eq_getElem_cons hlt]
   have:out[i]? =some out[i]:=List.getElem?_eq_getElem hlt
   rw [hx]at this
   rw [Option.some.inj this]
  rw [hdr]at hTr
  cases hTr with
  | @rd a ks _ rs'' ha hk t=>
   obtain ⟨k,r,e,hk2,_,_⟩:=oX hk
   have ha':=sm _ _ ha
   refine ⟨_,rfl,a,_,0,_,rfl,rfl,SqT.of (by rw [<- e];exact ha'),bV,aR,_,rfl,.inr (hR _),rfl,rfl,_,rfl,?_⟩
   refine bx (fun _=>?_) (fun c=>absurd ?_ c)
   ·refine ⟨_,rfl,_,rfl,pd,_,rfl,DPut.t gd ha' (aA (by omega)),?_⟩
    refine ⟨hlt,_,_,rs'',rfl,ac,by rw [am (Ne.symm n1)];exact gp,fun c oo h=>by rw [am (ai h hd)];exact sm c oo h,t,?_,?_⟩
    ·rw [nh];exact hdd
    ·have:=congrArg List.length (nh kvs ks (.bl true))
     rw [List.length_map]at this
     rw [this]
     split
     ·rw [List.length_map];omega
     ·rw [List.length_append,List.length_map,List.length_singleton];omega
   ·show inV (.str k) [.str "own",.str "part"]=true
    rw [ik]
    rcases hk2 with rfl | rfl <;> rfl
  | @no a k r _ _ ha h1' h2' t=>
   refine ⟨_,rfl,a,_,0,_,rfl,rfl,SqT.of (sm _ _ ha),bV,aR,_,rfl,.inr (hR _),rfl,rfl,_,rfl,?_⟩
   refine bx (fun c=>absurd c ?_) (fun _=>?_)
   ·show ¬ inV (.str k) [.str "own",.str "part"]=true
    rw [ik,decide_eq_false h1',decide_eq_false h2']
    decide
   ·exact ⟨hlt,_,_,rs',rfl,gd,gp,sm,t,hdd,by omega⟩
 ·rintro Z H' ⟨_,o,kvs,rs',rfl,gd,gp,sm,hTr,hdd,hl⟩
  rw [List.drop_length]at hTr
  cases hTr
  refine ⟨_,rfl,pd,kvs,rfl,gd,fun p ys hp hk=>?_⟩
  have e:kvs.map (·.1)=dd [] rs:=hdd
  rw [e]at hk
  exact q p ys _ (sm.free hp) (fun c oo h=>by rw [am (ai (sm c oo h) hp)];exact sm c oo h) ac (hk.mono fun b xs h=>by rw [am (ai h hp)];exact h)
noncomputable def Kp (tp:Addr) (H H':Hp):Prop:= ∀ b o,H b=some o->b≠tp->H' b=some o
theorem Kp.refl {tp:Addr} {H:Hp}:Kp tp H H:=fun _ _ h _=>h
theorem Kp.trans {tp:Addr} {H H1 H2:Hp} (a:Kp tp H H1) (b:Kp tp H1 H2):Kp tp H H2:=fun c o h n=>b c o (a c o h n) n
theorem Kp.same {tp:Addr} {H H1 H2:Hp} (a:Kp tp H H1) (b:Same H1 H2):Kp tp H H2:=fun c o h n=>b c o (a c o h n)
theorem Kp.tape {tp:Addr} {H:Hp} {o:HO}:Kp tp H (upd H tp o):=fun b u h n=>by rw [am n];exact h
theorem Kp.new {tp p:Addr} {H H1:Hp} {o:HO} (a:Kp tp H H1) (h:H1 p=none):Kp tp H (upd H1 p o):=a.same (ah h _)
noncomputable def Tp (H:Hp) (tp:Addr):Prop:= ∃ t:Int,H tp=some (.lst [.int t])
theorem Kp.tk {tp:Addr} {H H':Hp} (a:Kp tp H H') (t:Tp H tp):TK H H':=fun b xs h=>a b _ h fun e=>by
 obtain ⟨t,ht⟩:=t
 subst e
 rw [ht]at h
 cases h
theorem Tp.new {H:Hp} {tp p:Addr} {o:HO} (t:Tp H tp) (h:H p=none):Tp (upd H p o) tp:=by
 obtain ⟨t,ht⟩:=t
 exact ⟨t,by rw [am (ai ht h)];exact ht⟩
noncomputable def rm (K:PySem.W.Frag):Sp:=fun vs H Q _=> ∃ (a:Addr) (ns:List Int) (k:Int),vs=[.ref a,.int k]/\SqL K H a (ns.map V.int)/\ns.length<=63/\0<=k/\ ∀ c:Int,Q (.int c) H
noncomputable def jX (K:PySem.W.Frag):Sp:=fun vs H Q _=> ∃ (a:Addr) (ns:List Int) (k:Int),vs=[.ref a,.int k]/\SqL K H a (ns.map V.int)/\ns.length<=63/\0<=k/\k<1000/\ ∀ p t,H p=none->Q (.ref p) (upd H p (.lst [.int t]))
noncomputable def ca:Sp:=fun vs H Q _=> ∃ (tp:Addr) (m:Int),vs=[.ref tp,.int m]/\Tp H tp/\0<m/\m<1073741824/\ ∀ d t:Int,0<=d->d<m->Q (.int d) (upd H tp (.lst [.int t]))
noncomputable def iJ:Sp:=fun vs H Q _=> ∃ tp,vs=[.ref tp]/\Tp H tp/\ ∀ (n:Int) H',-999999<=n->n<=999999->Kp tp H H'->Tp H' tp->Q (.int n) H'
theorem vU:au ["script","k"] ["script","k"] (ag rR):=fsc
theorem uY (F:Fun K "_law_cell_at" "_law_cell_at" rR f fd) (G:Gb mg):FnOk P w K mg base CX0 1 f fd ["script","k"] (rm K):=by
 refine F.ok vU (fun vs H Q E h=>?_) (fun cdv A outer s H vs Q E hr h=>?_)
 ·obtain ⟨a,ns,k,rfl,_⟩:=h
  rfl
 obtain ⟨a,ns,k,rfl,hS,hl,hk,q⟩:=h
 refine ⟨_,ad (aL (aF fI (pv 1) (ao ar rfl G.len PySem.boot_len (aa (pv 0) ab)) (aE _)) (aj (aw (av aM (pv 0) (pv 1) (fun _ _=>rfl)))) aC) (aj (aw ae)),?_⟩
 refine ⟨_,rfl,_,rfl,a,_,rfl,.inl hS,_,_,rfl,rfl,_,rfl,?_⟩
 refine bx (fun c=>?_) (fun c=>?_)
 ·have c':k< (((ns.map V.int).length:Nat):Int):=of_decide_eq_true c
  rw [List.length_map]at c'
  have hk':k.toNat<ns.length:=by omega
  have e:atI (ns.map V.int) k=some (V.int ns[k.toNat]):=by
   have ek:k=((k.toNat:Nat):Int):=by omega
   have q:atI (ns.map V.int) ((k.toNat:Nat):Int)=some (V.int ns[k.toNat]):=aG (by rw [List.getElem?_map,List.getElem?_eq_getElem hk'] <;> rfl)
   rw [<- ek]at q
   exact q
  exact ⟨_,rfl,_,rfl,a,_,k,_,rfl,rfl,hS,e,q _⟩
 ·exact q 0
theorem scTape:au ["script","k","cell","p","one","two","three","four"] ["script","k"] (ag rM):=fsc
theorem uS (F:Fun K "_law_tape" "_law_tape" rM f fd) (GC:FnOk P w K mg base CX0 1 g gd ["script","k"] (rm K)) (bC:Binds K gd ["script","k"] []) (kC:PySem.W.keepIn K (.ref g)=true) (mC:mg "_law_cell_at"=some (.ref g)):
  FnOk P w K mg base CX0 2 f fd ["script","k"] (jX K):=by
 refine F.ok scTape (fun vs H Q E h=>?_) (fun cdv A outer s H vs Q E hr h=>?_)
 ·obtain ⟨a,ns,k,rfl,_⟩:=h
  rfl
 obtain ⟨a,ns,k,rfl,hS,hl,hk,hk2,q⟩:=h
 refine ⟨_,ad (aq (i:=2) scTape.nd rfl (Or.inl rfl) (af GC hr rfl mC kC bC .nil al (aa (pv 0) (aa (pv 1) ab))))
  (ad (aL (aF bj (aB cE (pv 2) ae) ae (aE _)) (aj (aw (bf (aa (aB lb (pv 2) ae) ab)))) aC)
  (ad (aq (i:=3) scTape.nd rfl (Or.inl rfl) ae)
  (ad (aq (i:=4) scTape.nd rfl (Or.inl rfl) (aB cE (aB aW (aB aW (aB de (aB cE (pv 2) (pv 3)) ae) (aB de ae (pv 1))) ae) (pv 3)))
  (ad (aq (i:=5) scTape.nd rfl (Or.inl rfl) (aB cE (aB aW (aB aW (aB de (pv 4) (pv 4)) (aB de ae (pv 1))) (pv 4)) (pv 3)))
  (ad (aq (i:=6) scTape.nd rfl (Or.inl rfl) (aB cE (aB aW (aB de (pv 5) (pv 5)) (pv 4)) (pv 3)))
  (ad (aq (i:=7) scTape.nd rfl (Or.inl rfl) (aB cE (aB aW (aB de (pv 6) (pv 6)) (pv 5)) (pv 3)))
  (aj (aw (bf (aa (aB aW (aB de (aB aW (aB de (aB aW (aB de (pv 4) (pv 3)) (pv 5)) (pv 3)) (pv 6)) (pv 3)) (pv 7)) ab)))))))))),?_⟩
 refine ⟨_,rfl,_,rfl,a,ns,k,rfl,hS,hl,hk,fun c=>?_⟩
 refine ⟨_,rfl,_,_,rfl,rfl,(by show (0:Int) <2;decide),rfl,_,rfl,?_⟩
 refine bx (fun _=>?_) (fun _=>?_)
 ·exact ⟨_,rfl,_,_,rfl,rfl,⟨by decide,by decide⟩,(by show 1<=sizeLine;decide),fun p hp=>q p _ hp⟩
 have hp0:(0:Int) <2305843009213693951:=by decide
 have mm: ∀ x:Int,-(2^64) <x%2305843009213693951/\x%2305843009213693951<2^64:=fun x=>by
  have h1:=Int.emod_nonneg x (show (2305843009213693951:Int)≠0 by decide)
  have h2:=Int.emod_lt_of_pos x hp0
  omega
 have hkk: -(2^64) <k/\k<2^64:=by omega
 have hpp:(-(2^64):Int) <2305843009213693951/\(2305843009213693951:Int) <2^64:=by decide
 refine ⟨_,rfl,_,rfl,_,_,rfl,rfl,hp0,_,_,rfl,rfl,.inl (mm _),_,rfl,_,_,rfl,rfl,.inr hkk,_,_,rfl,rfl,_,_,rfl,rfl,_,rfl,_,_,rfl,rfl,hp0,?_⟩
 refine ⟨_,rfl,_,rfl,_,_,rfl,rfl,.inl (mm _),_,rfl,_,_,rfl,rfl,.inr hkk,_,_,rfl,rfl,_,rfl,_,_,rfl,rfl,_,rfl,_,_,rfl,rfl,hp0,?_⟩
 refine ⟨_,rfl,_,rfl,_,_,rfl,rfl,.inl (mm _),_,rfl,_,_,rfl,rfl,_,rfl,_,_,rfl,rfl,hp0,?_⟩
 refine ⟨_,rfl,_,rfl,_,_,rfl,rfl,.inl (mm _),_,rfl,_,_,rfl,rfl,_,rfl,_,_,rfl,rfl,hp0,?_⟩
 refine ⟨_,rfl,_,rfl,_,_,rfl,rfl,.inr hpp,_,rfl,_,_,rfl,rfl,_,rfl,_,_,rfl,rfl,.inr hpp,_,rfl,_,_,rfl,rfl,_,rfl,_,_,rfl,rfl,.inr hpp,_,rfl,_,_,rfl,rfl,(by show 1<=sizeLine;decide),fun p hp=>q p _ hp⟩
theorem scDigit:au ["tape","many","found"] ["tape","many"] (ag nY):=fsc
theorem sS (F:Fun K "_law_digit" "_law_digit" nY f fd):FnOk P w K mg base CX0 1 f fd ["tape","many"] ca:=by
 refine F.ok scDigit (fun vs H Q E h=>?_) (fun cdv A outer s H vs Q E hr h=>?_)
 ·obtain ⟨tp,m,rfl,_⟩:=h
  rfl
 obtain ⟨tp,m,rfl,⟨t,ht⟩,hm,hm2,q⟩:=h
 refine ⟨_,ad (aq (i:=2) scDigit.nd rfl (Or.inl rfl) (aB cE (av aM (pv 0) ae (fun _ _=>rfl)) (pv 1)))
  (ad (v4 (aB lb (av aM (pv 0) ae (fun _ _=>rfl)) (pv 1)) (v7 (pv 0) ae rD))
  (aj (aw (pv 2)))),?_⟩
 refine ⟨_,rfl,tp,_,0,_,rfl,rfl,SqL.of ht,bV,_,rfl,_,_,rfl,rfl,hm,?_⟩
 refine ⟨_,rfl,tp,_,0,_,rfl,rfl,SqL.of ht,bV,_,rfl,_,_,rfl,rfl,⟨hm,hm2⟩,?_⟩
 refine ⟨_,rfl,tp,_,0,0,rfl,rfl,ht,rfl,?_⟩
 exact ⟨_,rfl,q (t%m) (t/m) (Int.emod_nonneg _ (by omega)) (Int.emod_lt_of_pos _ hm)⟩
theorem scNumber:au ["tape","way"] ["tape"] (ag ku):=fsc
theorem ql (F:Fun K "_law_number" "_law_number" ku f fd) (GD:FnOk P w K mg base CX0 1 g gd ["tape","many"] ca) (bD:Binds K gd ["tape","many"] []) (kD:PySem.W.keepIn K (.ref g)=true) (mD:mg "_law_digit"=some (.ref g)):
  FnOk P w K mg base CX0 2 f fd ["tape"] iJ:=by
 refine F.ok scNumber (fun vs H Q E h=>?_) (fun cdv A outer s H vs Q E hr h=>?_)
 ·obtain ⟨tp,rfl,_⟩:=h
  rfl
 obtain ⟨tp,rfl,hT,q⟩:=h
 refine ⟨_,ad (aq (i:=1) scNumber.nd rfl (Or.inl rfl) (af GD hr rfl mD kD bD .nil al (aa (pv 0) (aa ae ab))))
  (ad (aL (aF fI (pv 1) ae (aE _)) (aj (aw (pv 1))) aC)
  (aj (aw (av aM (bf (aa (ic eK ae) (aa (aB dL (af GD hr rfl mD kD bD .nil al (aa (pv 0) (aa ae ab))) ae)
   (aa (aB dL (af GD hr rfl mD kD bD .nil al (aa (pv 0) (aa ae ab))) ae) ab)))) (aB dL (pv 1) ae) (fun _ _=>rfl))))),?_⟩
 refine ⟨_,rfl,tp,6,rfl,hT,by decide,by decide,fun d t h0 h1=>?_⟩
 refine ⟨_,rfl,_,_,rfl,rfl,_,rfl,?_⟩
 refine bx (fun c=>?_) (fun c=>?_)
 ·exact ⟨_,rfl,q d _ (by omega) (by omega) Kp.tape ⟨t,ac⟩⟩
 have c':3<=d:=by
  rcases Int.lt_or_le d 3 with z | z
  ·exact absurd (decide_eq_true z) c
  ·exact z
 refine ⟨_,rfl,_,rfl,tp,1001,rfl,⟨t,ac⟩,by decide,by decide,fun d2 t2 h20 h21=>?_⟩
 refine ⟨_,_,rfl,rfl,_,rfl,tp,1999999,rfl,⟨t2,ac⟩,by decide,by decide,fun d3 t3 h30 h31=>?_⟩
 refine ⟨_,_,rfl,rfl,(by show 3<=sizeLine;decide),fun p hp=>?_⟩
 rw [di,di]at hp ⊢
 have hd:d=3\/d=4\/d=5:=by omega
 have fin: ∀ n:Int,-999999<=n->n<=999999->Q (.int n) (upd (upd H tp (.lst [.int t3])) p (.lst [.int (-1),.int (d2-500),.int (d3-999999)])):=fun n h1 h2=>
  q n _ h1 h2 (Kp.tape.new hp) (Tp.new ⟨t3,ac⟩ hp)
 rcases hd with rfl | rfl | rfl
 ·exact ⟨_,rfl,_,_,rfl,rfl,p,_,0,_,rfl,rfl,SqL.of ac,bV,fin _ (by omega) (by omega)⟩
 ·exact ⟨_,rfl,_,_,rfl,rfl,p,_,1,_,rfl,rfl,SqL.of ac,vq,fin _ (by omega) (by omega)⟩
 ·exact ⟨_,rfl,_,_,rfl,rfl,p,_,2,_,rfl,rfl,SqL.of ac,xD,fin _ (by omega) (by omega)⟩
theorem fj {α:Type} {xs:List α} {d:Int} (h0:0<=d) (h1:d<xs.length): ∃ x,atI xs d=some x/\xs[d.toNat]? =some x:=by
 have hk:d.toNat<xs.length:=by omega
 have ek:d=((d.toNat:Nat):Int):=by omega
 have q:atI xs ((d.toNat:Nat):Int)=some xs[d.toNat]:=aG (List.getElem?_eq_getElem hk)
 rw [<- ek]at q
 exact ⟨_,q,List.getElem?_eq_getElem hk⟩
theorem dC (xs:List V) {j:Int} (h0:0<=j) (h1:j<=xs.length):c8 xs none (some j)=xs.take j.toNat:=by
 have ej:j=((j.toNat:Nat):Int):=by omega
 have e:HT.sIx xs.length xs.length (some j)=j.toNat:=by
  rw [ej,HT.sIx_nat]
  omega
 unfold c8
 rw [e,HT.sIx_none,List.drop_zero,Nat.sub_zero]
theorem gC (xs:List V) {j:Int} (h0:0<=j) (h1:j<=xs.length):c8 xs (some j) none=xs.drop j.toNat:=by
 have ej:j=((j.toNat:Nat):Int):=by omega
 have e:HT.sIx xs.length 0 (some j)=j.toNat:=by
  rw [ej,HT.sIx_nat]
  omega
 unfold c8
 rw [e,HT.sIx_none]
 apply List.take_of_length_le
 rw [List.length_drop]
 omega
theorem vR {xs:List V} {j:Nat} (h:j+2<=xs.length): ∃ a x y b,xs=a++x::y::b/\a.length=j/\xs.take j=a/\xs.drop (j+2)=b:=by
 refine ⟨xs.take j,xs[j],xs[j+1],xs.drop (j+2),?_,by rw [List.length_take];omega,rfl,rfl⟩
 rw [<- List.drop_eq_getElem_cons (by omega),<- List.drop_eq_getElem_cons (by omega),List.take_append_drop]
theorem vQ {xs:List V} {j:Nat} (h:j+3<=xs.length): ∃ a x y z b,xs=a++x::y::z::b/\a.length=j/\xs.take j=a/\xs.drop (j+3)=b:=by
 refine ⟨xs.take j,xs[j],xs[j+1],xs[j+2],xs.drop (j+3),?_,by rw [List.length_take];omega,rfl,rfl⟩
 rw [<- List.drop_eq_getElem_cons (by omega),<- List.drop_eq_getElem_cons (by omega),<- List.drop_eq_getElem_cons (by omega),List.take_append_drop]
theorem jo {a b:List V} {x:V} {d:Int} (h:d=(a.length:Int)):atI (a++x::b) d=some x:=by
 subst h
 exact aG (by rw [List.getElem?_append_right (Nat.le_refl _),Nat.sub_self];rfl)
theorem wN {A B R:Prop} {c1 c2:Bool} (hr:(if c2=true then A else B)->R) (h1:c1=true->c2=true->A) (h2: ¬ (c1=true/\c2=true)->B):if c1=true then R else (if false=true then A else B):=by
 cases c1 with
 | true=>
  rw [if_pos rfl]
  apply hr
  cases c2 with
  | true=>rw [if_pos rfl];exact h1 rfl rfl
  | false=>exact aX (h2 fun z=>Bool.false_ne_true z.2)
 | false=>exact aX (aX (h2 fun z=>Bool.false_ne_true z.1))
theorem jE (z:Str) {j:Int} (h0:0<=j) (h1:j<=z.length):((Txt.slice z none (some j)).length:Int)=j:=by
 rcases PyProof.Rows.slice_ns_cases z j h0 with ⟨_,h⟩ | ⟨h,_⟩
 ·exact h
 ·omega
noncomputable def letters:Str:="abcdefghijklmnopqrstuvwxyz"
theorem mJ:letters.cps.toList.all fS=true:=by decide +kernel
theorem ij:letters.length=26:=by decide +kernel
theorem qA {d:Int} (h0:0<=d) (h1:d<26): ∃ c,atI letters.cps.toList d=some c/\fS c=true:=by
 have hl:letters.cps.toList.length=26:=by decide +kernel
 obtain ⟨c,e,e2⟩:=fj (xs:=letters.cps.toList) h0 (by rw [hl];omega)
 exact ⟨c,e,List.all_eq_true.mp mJ c (List.mem_of_getElem? e2)⟩
theorem vt (x y:Str):(x++y).length=x.length+y.length:=by
 show (x.cps++y.cps).size=_
 rw [Array.size_append]
 rfl
noncomputable def names13:List Str:=["own","up","down","min","max","of","top","form","sort","wheel","book","tree","ok"]
theorem aneq:(Txt.slice "aneqoubi" none (some 7)).length=7/\(Txt.slice "aneqoubi" none (some 7)).cps.toList.all fS=true:=by decide +kernel
theorem pC:("eyzmopq":Str).length=7:=by decide +kernel
theorem Tp.same {H H':Hp} {tp:Addr} (t:Tp H tp) (s:Same H H'):Tp H' tp:=by
 obtain ⟨t0,e⟩:=t
 exact ⟨t0,s _ _ e⟩
noncomputable def Fm.wfp (ρ:Fm->Prop):Fm->Prop
 | .num n=> -999999<=n/\n<=999999
 | .own x=>be x=true/\ρ (.own x)
 | .part k x=>((0<=k/\k<=2)/\be x=true)/\ρ (.part k x)
 | .bin op a b=>op∈ops/\a.wfp ρ/\b.wfp ρ
 | .whn a b c=>a.wfp ρ/\b.wfp ρ/\c.wfp ρ
theorem Fm.wfp.wf {ρ:Fm->Prop}: ∀ {f:Fm},f.wfp ρ->f.wf
 | .num _,h=>h
 | .own _,h=>h.1
 | .part _ _,h=>h.1
 | .bin _ _ _,h=>⟨h.1,Fm.wfp.wf h.2.1,Fm.wfp.wf h.2.2⟩
 | .whn _ _ _,h=>⟨Fm.wfp.wf h.1,Fm.wfp.wf h.2.1,Fm.wfp.wf h.2.2⟩
inductive FsP (ρ:Fm->Prop) (H:Hp):List V->Nat->Prop where
 | nil:FsP ρ H [] 0
 | cons {v:V} {f:Fm} {vs:List V} {n:Nat}:Rep H f v->f.wfp ρ->FsP ρ H vs n->FsP ρ H (v::vs) (f.size+n)
theorem FsP.append {ρ:Fm->Prop} {H:Hp} {xs ys:List V} {m n:Nat} (a:FsP ρ H xs m) (b:FsP ρ H ys n):FsP ρ H (xs++ys) (m+n):=by
 induction a with
 | nil=>rw [Nat.zero_add];exact b
 | cons r w _ ih=>rw [Nat.add_assoc];exact .cons r w ih
theorem FsP.split {ρ:Fm->Prop} {H:Hp}: ∀ {xs ys:List V} {n:Nat},FsP ρ H (xs++ys) n-> ∃ a b,FsP ρ H xs a/\FsP ρ H ys b/\n=a+b
 | [],ys,n,h=>⟨0,n,.nil,h,by omega⟩
 | x::r,ys,n,h=>by
  cases h with
  | cons rp wf t=>
   obtain ⟨a,b,h1,h2,e⟩:=FsP.split t
   exact ⟨_,b,.cons rp wf h1,h2,by omega⟩
theorem FsP.mono {ρ:Fm->Prop} {H H':Hp} (t:TK H H') {xs:List V} {n:Nat} (h:FsP ρ H xs n):FsP ρ H' xs n:=by
 induction h with
 | nil=>exact .nil
 | cons r w _ ih=>exact .cons (r.mono t) w ih
noncomputable def LvsP (ρ:Fm->Prop) (H:Hp) (rs:List V):Prop:= ∀ v∈rs,∃ f,Rep H f v/\f.wfp ρ/\f.size=1
theorem LvsP.mono {ρ:Fm->Prop} {H H':Hp} (t:TK H H') {rs:List V} (h:LvsP ρ H rs):LvsP ρ H' rs:=fun v hv=>by
 obtain ⟨f,r,w,s⟩:=h v hv
 exact ⟨f,r.mono t,w,s⟩
noncomputable def jZ (ρ:Fm->Prop):Sp:=fun vs H Q _=> ∃ tp rl rs,vs=[.ref tp,.ref rl]/\Tp H tp/\rl≠tp/\H rl=some (.lst rs)/\rs.length<=1000/\LvsP ρ H rs/\
 ∀ v f H',Rep H' f v->f.wfp ρ->f.size=1->Kp tp H H'->Tp H' tp->Q v H'
noncomputable def fM (ρ:Fm->Prop):Sp:=fun vs H Q _=> ∃ tp rl rs,vs=[.ref tp,.ref rl]/\Tp H tp/\rl≠tp/\H rl=some (.lst rs)/\rs.length<=1000/\LvsP ρ H rs/\
 ∀ v f H',Rep H' f v->f.wfp ρ->f.size<=15->Kp tp H H'->Tp H' tp->Q v H'
theorem uy:au ["tape","readings"] ["tape","readings"] (ag rO):=fsc
theorem sN {ρ:Fm->Prop} (F:Fun K "_law_leaf" "_law_leaf" rO f fd) (G:Gb mg) (GD:FnOk P w K mg base CX0 1 g gd ["tape","many"] ca) (bD:Binds K gd ["tape","many"] []) (kD:PySem.W.keepIn K (.ref g)=true) (mD:mg "_law_digit"=some (.ref g))
  (GN:FnOk P w K mg base CX0 2 f2 fd2 ["tape"] iJ) (bN:Binds K fd2 ["tape"] []) (kN:PySem.W.keepIn K (.ref f2)=true) (mN:mg "_law_number"=some (.ref f2)):
  FnOk P w K mg base CX0 3 f fd ["tape","readings"] (jZ ρ):=by
 refine F.ok uy (fun vs H Q E h=>?_) (fun cdv A outer s H vs Q E hr h=>?_)
 ·obtain ⟨tp,rl,rs,rfl,_⟩:=h
  rfl
 obtain ⟨tp,rl,rs,rfl,hT,hne,hrl,hlen,hL,q⟩:=h
 have hr1:=hr.mono (show 1<=2 by decide)
 refine ⟨_,ad (aL (PW.pt (eY (aF jI (ao ar rfl G.len PySem.boot_len (aa (pv 1) ab)) ae (aE _))
   (dD (aF fI (af GD hr1 rfl mD kD bD .nil al (aa (pv 0) (aa ae ab))) ae (aE _)))))
   (aj (aw (av aM (pv 1) (af GD hr1 rfl mD kD bD .nil al (aa (pv 0) (aa (ao ar rfl G.len PySem.boot_len (aa (pv 1) ab)) ab))) (fun _ _=>rfl)))) aC)
  (aj (aw (aJ (aa aP (aa (af GN hr rfl mN kN bN .nil al (aa (pv 0) ab)) ab))))),?_⟩
 have num: ∀ H1,Kp tp H H1->Tp H1 tp->(∃ v,([some (V.ref tp),some (.ref rl)]:St)[0]? =some (some v)/\iJ [v] H1 (fun x H2=>[V.str "num",x].length<=sizeLine/\ ∀ p,H2 p=none->Q (.ref p) (upd H2 p (.tup [V.str "num",x]))) E0):=fun H1 k1 t1=>by
  refine ⟨_,rfl,tp,rfl,t1,fun n H2 h1 h2 k2 t2=>⟨(by show 2<=sizeLine;decide),fun p hp=>?_⟩⟩
  exact q _ (.num n) _ ⟨p,rfl,ac⟩ ⟨h1,h2⟩ rfl ((k1.trans k2).new hp) (t2.new hp)
 refine ⟨_,rfl,rl,rs,rfl,.inl (SqL.of hrl),_,_,rfl,rfl,_,rfl,?_⟩
 refine bx (fun c=>?_) (fun c=>?_)
 ·have c':0<rs.length:=by have:=of_decide_eq_true c;omega
  refine ⟨_,rfl,tp,4,rfl,hT,by decide,by decide,fun d t h0 h1=>?_⟩
  refine ⟨_,_,rfl,rfl,_,rfl,?_⟩
  refine bx (fun c2=>?_) (fun c2=>?_)
  ·have h2:(upd H tp (.lst [.int t])) rl=some (.lst rs):=by rw [am hne];exact hrl
   refine ⟨_,rfl,_,rfl,_,rfl,rl,rs,rfl,.inl (SqL.of h2),tp,_,rfl,⟨t,ac⟩,by omega,by omega,fun d2 t2 h20 h21=>?_⟩
   rw [di]
   have h3:(upd H tp (.lst [.int t2])) rl=some (.lst rs):=by rw [am hne];exact hrl
   obtain ⟨x,ex,ex2⟩:=fj (xs:=rs) h20 h21
   obtain ⟨fm,r,wf,sz⟩:=hL x (List.mem_of_getElem? ex2)
   have k2:Kp tp H (upd H tp (.lst [.int t2])):=Kp.tape
   exact ⟨rl,rs,d2,x,rfl,rfl,SqL.of h3,ex,q x fm _ (r.mono (k2.tk hT)) wf sz k2 ⟨t2,ac⟩⟩
  ·exact num _ Kp.tape ⟨t,ac⟩
 ·exact num _ Kp.refl hT
theorem vi {H:Hp} {a b:List V} {x y:V} {n:Nat} (h:FsP ρ H (a++x::y::b) n): ∃ A B,Rep H A x/\Rep H B y/\A.wfp ρ/\B.wfp ρ/\ ∃ m1 m2,FsP ρ H a m1/\FsP ρ H b m2/\n=m1+ (A.size+ (B.size+m2)):=by
 obtain ⟨m1,r,h1,h2,e⟩:=h.split
 cases h2 with
 | cons ra wa h3=>
  cases h3 with
  | cons rb wb h4=>exact ⟨_,_,ra,rb,wa,wb,m1,_,h1,h4,e⟩
theorem vh {H:Hp} {a b:List V} {x y z:V} {n:Nat} (h:FsP ρ H (a++x::y::z::b) n): ∃ A B C,Rep H A x/\Rep H B y/\Rep H C z/\A.wfp ρ/\B.wfp ρ/\C.wfp ρ/\ ∃ m1 m2,FsP ρ H a m1/\FsP ρ H b m2/\n=m1+ (A.size+ (B.size+ (C.size+m2))):=by
 obtain ⟨m1,r,h1,h2,e⟩:=h.split
 cases h2 with
 | cons ra wa h3=>
  cases h3 with
  | cons rb wb h4=>
   cases h4 with
   | cons rc wc h5=>exact ⟨_,_,_,ra,rb,rc,wa,wb,wc,m1,_,h1,h5,e⟩
theorem scFormulaP:au ["tape","readings","many","j","stack","way","sign"] ["tape","readings"] (ag dX):=fsc
theorem my (F:Fun K "_law_formula" "_law_formula" dX f fd) (G:Gb mg) (GD:FnOk P w K mg base CX0 1 g gd ["tape","many"] ca) (bD:Binds K gd ["tape","many"] []) (kD:PySem.W.keepIn K (.ref g)=true) (mD:mg "_law_digit"=some (.ref g))
  (GL:FnOk P w K mg base CX0 3 f2 fd2 ["tape","readings"] (jZ ρ)) (bL:Binds K fd2 ["tape","readings"] []) (kL:PySem.W.keepIn K (.ref f2)=true) (mL:mg "_law_leaf"=some (.ref f2)):
  FnOk P w K mg base CX0 4 f fd ["tape","readings"] (fM ρ):=by
 refine F.ok scFormulaP (fun vs H Q E h=>?_) (fun cdv A outer s H vs Q E hr h=>?_)
 ·obtain ⟨tp,rl,rs,rfl,_⟩:=h
  rfl
 obtain ⟨tp,rl,rs,rfl,hT,hne,hrl,hlen,hL,q⟩:=h
 have hr1:=hr.mono (show 1<=3 by decide)
 obtain ⟨t,ht,hread⟩: ∃ t,PSs (c7 CX0 P w K mg base ["tape","readings","many","j","stack","way","sign"] "_law_formula" (ag dX) f cdv A outer s H E).nox ((cH dX).drop 2) t/\
   ∀ (m:Int) (H2:Hp),1<=m->m<=8->Kp tp H H2->Tp H2 tp->t {nx:=fun _ H'=>Q .non H',rt:=Q} [some (.ref tp),some (.ref rl),some (.int m),none,none,none,none] H2:=by
  refine ⟨_,ad (dE (i:=4) (sc0:=ag dX) (N0:=["tape","readings","many","j","stack","way","sign"]) (ys:=["tape","readings"]) (fr:=[0,1]) rfl scFormulaP.nd rfl (Or.inl rfl) (bq rfl G.range (aa (pv 2) ab)) rfl rfl
    cok
    (fun C s H ex=>af GL hr rfl mL kL bL .nil al (aa (pv 1) (aa (pv 2) ab))))
   (ad (iV PassesOwn.never (aF jI (ao ar rfl G.len PySem.boot_len (aa (pv 4) ab)) ae (aE _))
    (ad (aq (i:=5) scFormulaP.nd rfl (Or.inl rfl) (af GD hr1 rfl mD kD bD .nil al (aa (pv 0) (aa ae ab))))
    (aj (aL (PW.pt (eY (aF bj (pv 5) ae (aE _)) (dD (aF jI (ao ar rfl G.len PySem.boot_len (aa (pv 4) ab)) ae (aE _)))))
     (ad (aq (i:=3) scFormulaP.nd rfl (Or.inl rfl) (af GD hr1 rfl mD kD bD .nil al (aa (pv 0) (aa (aB dL (ao ar rfl G.len PySem.boot_len (aa (pv 4) ab)) ae) ab))))
     (aj (aq (i:=4) scFormulaP.nd rfl (Or.inl rfl) (aB gQ (aB gQ (a7 cG (pv 4) bp (bh (pv 3)))
      (bf (aa (aJ (aa aP (aa (av aM (pv 4) (pv 3) (fun _ _=>rfl)) (aa (av aM (pv 4) (aB aW (pv 3) ae) (fun _ _=>rfl)) (aa (av aM (pv 4) (aB aW (pv 3) ae) (fun _ _=>rfl)) ab))))) ab)))
      (a7 cG (pv 4) (bh (aB aW (pv 3) ae)) bp)))))
     (ad (aq (i:=3) scFormulaP.nd rfl (Or.inl rfl) (af GD hr1 rfl mD kD bD .nil al (aa (pv 0) (aa (aB dL (ao ar rfl G.len PySem.boot_len (aa (pv 4) ab)) ae) ab))))
     (ad (aq (i:=6) scFormulaP.nd rfl (Or.inl rfl) (av aM (bf (aa aP (aa aP (aa aP (aa aP (aa aP ab)))))) (aB cE (pv 5) ae) (fun _ _=>rfl)))
     (aj (aq (i:=4) scFormulaP.nd rfl (Or.inl rfl) (aB gQ (aB gQ (a7 cG (pv 4) bp (bh (pv 3)))
      (bf (aa (aJ (aa (pv 6) (aa (av aM (pv 4) (pv 3) (fun _ _=>rfl)) (aa (av aM (pv 4) (aB aW (pv 3) ae) (fun _ _=>rfl)) ab)))) ab)))
      (a7 cG (pv 4) (bh (aB aW (pv 3) ae)) bp))))))))))
   (aj (aw (av aM (pv 4) ae (fun _ _=>rfl))))),fun m H2 hm1 hm8 k2 tt2=>?_⟩
  have tpn: ∀ {p:Addr} {Hx:Hp},Tp Hx tp->Hx p=none->p≠tp:=fun t hp e=>by
   obtain ⟨t0,e0⟩:=t
   subst e
   rw [e0]at hp
   cases hp
  refine ⟨_,rfl,m,rfl,by omega,by omega,?_⟩
  refine dr (n:=m.toNat) (R:=fun i v=>v=.int (0+i)) (by omega) jd fi gu
   (fun p i zs H'=>Kp tp H H'/\Tp H' tp/\H' p=some (.lst zs)/\p≠tp/\zs.length=i/\FsP ρ H' zs i) ?_ ?_ ?_ ?_
  ·intro p hp
   exact ⟨k2.new hp,tt2.new hp,ac,tpn tt2 hp,rfl,.nil⟩
  ·rintro p i zs H' ⟨_,_,h,_,e,_⟩
   exact ⟨h,e⟩
  ·rintro p i zs H' v k hp hi rfl ⟨k3,t3,hz,hpn,hzl,hf⟩ hk
   have hrl':H' rl=some (.lst rs):=k3 _ _ hrl hne
   refine ⟨_,rfl,_,rfl,tp,rl,rs,rfl,t3,hne,hrl',hlen,hL.mono (k3.tk hT),fun v f H3 rp wf sz k4 t4=>?_⟩
   refine hk v H3 (k4 _ _ hz hpn) ⟨?_,?_,ac,hpn,by rw [List.length_append,hzl];rfl,?_⟩
   ·intro b o hb hne'
    have hbp:b≠p:=fun e=>by
     subst e
     have:=k2 b o hb hne'
     rw [hp]at this
     cases this
    rw [am hbp]
    exact k4 _ _ (k3 _ _ hb hne') hne'
   ·obtain ⟨t0,e0⟩:=t4
    exact ⟨t0,by rw [am (Ne.symm hpn)];exact e0⟩
   ·have tk:TK H3 (upd H3 p (.lst (zs++[v]))):=TK.lst (k4 _ _ hz hpn)
    have e1:FsP ρ H3 zs i:=hf.mono (k4.tk t3)
    have e2:=e1.append (FsP.cons rp wf .nil)
    rw [sz]at e2
    exact e2.mono tk
  ·rintro p zs H' hp ⟨k3,t3,hz,hpn,hzl,hf⟩
   refine iA (fun Z H'=> ∃ (sl:Addr) (ws:List V) (n:Nat) (j wy sg:Option V),Z=[some (.ref tp),some (.ref rl),some (.int m),j,some (.ref sl),wy,sg]/\H' sl=some (.lst ws)/\sl≠tp/\1<=ws.length/\ws.length<=8/\
     FsP ρ H' ws n/\n+ws.length<=16/\Kp tp H H'/\Tp H' tp)
    (fun Z H'=>match Z with | [_,_,_,_,some (.ref sl),_,_]=>(match H' sl with | some (.lst ws)=>ws.length | _=>0) | _=>0)
    ⟨p,zs,m.toNat,none,none,none,rfl,hz,hpn,by omega,by omega,hf,by omega,k3,t3⟩ ?_ ?_
   ·rintro Z H3 ⟨sl,ws,n,j,wy,sg,rfl,hsl,hsn,hw1,hw8,hfs,hsz,k4,t4⟩
    refine ⟨_,rfl,sl,ws,rfl,.inl (SqL.of hsl),_,_,rfl,rfl,_,rfl,?_⟩
    refine bx (fun c=>?_) (fun c=>?_)
    ·have c':1<ws.length:=by have:=of_decide_eq_true c;omega
     refine ⟨_,rfl,tp,6,rfl,t4,by decide,by decide,fun wy t5 hw0 hw6=>?_⟩
     have k5:Kp tp H3 (upd H3 tp (.lst [.int t5])):=Kp.tape
     have tt5:Tp (upd H3 tp (.lst [.int t5])) tp:=⟨t5,ac⟩
     have hsl5:=k5 _ _ hsl hsn
     have hfs5:=hfs.mono (k5.tk t4)
     have k5':=k4.trans k5
     generalize upd H3 tp (.lst [.int t5])=H5 at k5 tt5 hsl5 hfs5 k5' ⊢
     refine ⟨_,rfl,rfl,_,rfl,?_⟩
     refine wN (c2:=decide (2< (ws.length:Int))) (fun h=>⟨_,rfl,sl,ws,rfl,.inl (SqL.of hsl5),_,_,rfl,rfl,_,rfl,h⟩) (fun _ cw=>?_) (fun _=>?_)
     ·-- when
      have cw':2<ws.length:=by have:=of_decide_eq_true cw;omega
      refine ⟨_,rfl,_,rfl,sl,ws,rfl,.inl (SqL.of hsl5),_,_,rfl,rfl,tp,_,rfl,tt5,by omega,by omega,fun jj t6 hj0 hj1=>?_⟩
      have k6:Kp tp H5 (upd H5 tp (.lst [.int t6])):=Kp.tape
      have tt6:Tp (upd H5 tp (.lst [.int t6])) tp:=⟨t6,ac⟩
      have hsl6:=k6 _ _ hsl5 hsn
      have hfs6:=hfs5.mono (k6.tk tt5)
      have k6':=k5'.trans k6
      generalize upd H5 tp (.lst [.int t6])=H6 at k6 tt6 hsl6 hfs6 k6' ⊢
      obtain ⟨a,x,y,z,b,ew,ea,etk,edr⟩:=vQ (xs:=ws) (j:=jj.toNat) (by omega)
      have ej:jj=(a.length:Int):=by omega
      obtain ⟨A,B,C,ra,rb,rc,wa,wb,wc,m1,m2,f1,f2,en⟩:=vh (ew▸hfs6)
      have hlw:ws.length=a.length+3+b.length:=by rw [ew];simp;omega
      refine ⟨_,rfl,_,rfl,jj,rfl,sl,ws,rfl,SqL.of hsl6,fun p1 hp1=>?_⟩
      rw [dC ws hj0 (by omega),etk]
      have s1:Same H6 (upd H6 p1 (.lst a)):=ah hp1 _
      have g1:(upd H6 p1 (.lst a)) p1=some (.lst a):=ac
      generalize upd H6 p1 (.lst a)=H7 at s1 g1 ⊢
      have hsl7:=s1 _ _ hsl6
      refine ⟨_,rfl,_,rfl,sl,ws,jj,x,rfl,rfl,SqL.of hsl7,ew▸jo ej,_,rfl,_,rfl,_,_,rfl,rfl,sl,ws,jj+1,y,rfl,rfl,SqL.of hsl7,?_,_,rfl,_,rfl,_,_,rfl,rfl,sl,ws,jj+2,z,rfl,rfl,SqL.of hsl7,?_,(by show 4<=sizeLine;decide),fun p2 hp2=>?_⟩
      ·rw [ew,show a++x::y::z::b=(a++[x])++y::z::b by simp]
       exact jo (by simp;omega)
      ·rw [ew,show a++x::y::z::b=(a++[x,y])++z::b by simp]
       exact jo (by simp;omega)
      have s2:Same H7 (upd H7 p2 (.tup [.str "when",x,y,z])):=ah hp2 _
      have g2:(upd H7 p2 (.tup [.str "when",x,y,z])) p2=some (.tup [.str "when",x,y,z]):=ac
      generalize upd H7 p2 (.tup [.str "when",x,y,z])=H8 at s2 g2 ⊢
      refine ⟨(by show 1<=sizeLine;decide),fun p3 hp3=>?_⟩
      have s3:Same H8 (upd H8 p3 (.lst [.ref p2])):=ah hp3 _
      have g3:(upd H8 p3 (.lst [.ref p2])) p3=some (.lst [.ref p2]):=ac
      generalize upd H8 p3 (.lst [.ref p2])=H9 at s3 g3 ⊢
      refine ⟨p1,p3,a,_,rfl,rfl,s3 _ _ (s2 _ _ g1),g3,Nat.le_of_lt (aA (by simp;omega)),fun p4 hp4=>?_⟩
      have s4:Same H9 (upd H9 p4 (.lst (a++[.ref p2]))):=ah hp4 _
      have g4:(upd H9 p4 (.lst (a++[.ref p2]))) p4=some (.lst (a++[.ref p2])):=ac
      generalize upd H9 p4 (.lst (a++[.ref p2]))=H10 at s4 g4 ⊢
      have s7:Same H7 H10:=s2.trans (s3.trans s4)
      refine ⟨_,rfl,_,rfl,_,_,rfl,rfl,jj+3,rfl,sl,ws,rfl,SqL.of (s7 _ _ hsl7),fun p5 hp5=>?_⟩
      rw [gC ws (by omega) (by omega),show (jj+3).toNat=jj.toNat+3 by omega,edr]
      have s5:Same H10 (upd H10 p5 (.lst b)):=ah hp5 _
      have g5:(upd H10 p5 (.lst b)) p5=some (.lst b):=ac
      generalize upd H10 p5 (.lst b)=H11 at s5 g5 ⊢
      refine ⟨p4,p5,_,b,rfl,rfl,s5 _ _ g4,g5,Nat.le_of_lt (aA (by simp;omega)),fun p6 hp6=>?_⟩
      have s6:Same H6 H11:=s1.trans (s7.trans s5)
      have st:Same H6 (upd H11 p6 (.lst (a++[.ref p2]++b))):=s6.trans (ah hp6 _)
      have tk:TK H6 (upd H11 p6 (.lst (a++[.ref p2]++b))):=fun c xs h=>st _ _ h
      have g2':(upd H11 p6 (.lst (a++[.ref p2]++b))) p2=some (.tup [.str "when",x,y,z]):=(ah hp6 _) _ _ (s5 _ _ (s4 _ _ (s3 _ _ g2)))
      have tt7:Tp (upd H11 p6 (.lst (a++[.ref p2]++b))) tp:=by obtain ⟨t0,e0⟩:=tt6;exact ⟨t0,st _ _ e0⟩
      refine ⟨⟨p6,_,m1+ ((Fm.whn A B C).size+0) +m2,_,_,_,rfl,ac,?_,by simp;omega,by simp;omega,?_,?_,k6'.same st,tt7⟩,?_⟩
      ·intro e
       obtain ⟨t0,e0⟩:=tt6
       have:=s6 _ _ e0
       rw [<- e,hp6]at this
       cases this
      ·exact ((f1.mono tk).append (FsP.cons (f:=.whn A B C) ⟨p2,x,y,z,rfl,g2',ra.mono tk,rb.mono tk,rc.mono tk⟩ ⟨wa,wb,wc⟩ .nil)).append (f2.mono tk)
      ·show m1+ ((A.size+B.size+C.size+1) +0) +m2+ (a++[V.ref p2]++b).length<=16
       simp
       omega
      ·show (match (upd H11 p6 (.lst (a++[.ref p2]++b))) p6 with | some (.lst ws)=>ws.length | _=>0) < (match H3 sl with | some (.lst ws)=>ws.length | _=>0)
       rw [ac,hsl]
       simp
       omega
     ·-- one of the five signs
      refine ⟨_,rfl,_,rfl,sl,ws,rfl,.inl (SqL.of hsl5),_,_,rfl,rfl,tp,_,rfl,tt5,by omega,by omega,fun jj t6 hj0 hj1=>?_⟩
      have k6:Kp tp H5 (upd H5 tp (.lst [.int t6])):=Kp.tape
      have tt6:Tp (upd H5 tp (.lst [.int t6])) tp:=⟨t6,ac⟩
      have hsl6:=k6 _ _ hsl5 hsn
      have hfs6:=hfs5.mono (k6.tk tt5)
      have k6':=k5'.trans k6
      generalize upd H5 tp (.lst [.int t6])=H6 at k6 tt6 hsl6 hfs6 k6' ⊢
      refine ⟨(by show 5<=sizeLine;decide),fun p0 hp0=>?_⟩
      have s0:Same H6 (upd H6 p0 (.lst [.str "plus",.str "less",.str "times",.str "least",.str "most"])):=ah hp0 _
      have g0:(upd H6 p0 (.lst [.str "plus",.str "less",.str "times",.str "least",.str "most"])) p0=some (.lst [.str "plus",.str "less",.str "times",.str "least",.str "most"]):=ac
      generalize upd H6 p0 (.lst [.str "plus",.str "less",.str "times",.str "least",.str "most"])=H6b at s0 g0 ⊢
      obtain ⟨op,hop,hopm⟩: ∃ op,atI [V.str "plus",.str "less",.str "times",.str "least",.str "most"] (wy%5)=some (.str op)/\op∈ops:=by
       have h1:=Int.emod_nonneg wy (show (5:Int)≠0 by decide)
       have h2:=Int.emod_lt_of_pos wy (show (0:Int) <5 by decide)
       have h5:wy%5=0\/wy%5=1\/wy%5=2\/wy%5=3\/wy%5=4:=by omega
       rcases h5 with h | h | h | h | h <;> rw [h]
       ·exact ⟨"plus",rfl,by simp [ops]⟩
       ·exact ⟨"less",rfl,by simp [ops]⟩
       ·exact ⟨"times",rfl,by simp [ops]⟩
       ·exact ⟨"least",rfl,by simp [ops]⟩
       ·exact ⟨"most",rfl,by simp [ops]⟩
      refine ⟨_,rfl,_,_,rfl,rfl,(by show (0:Int) <5;decide),p0,_,_,_,rfl,rfl,SqL.of g0,hop,?_⟩
      obtain ⟨a,x,y,b,ew,ea,etk,edr⟩:=vR (xs:=ws) (j:=jj.toNat) (by omega)
      have ej:jj=(a.length:Int):=by omega
      obtain ⟨A,B,ra,rb,wa,wb,m1,m2,f1,f2,en⟩:=vi (ew▸hfs6)
      have hlw:ws.length=a.length+2+b.length:=by rw [ew];simp;omega
      have hsl6b:=s0 _ _ hsl6
      refine ⟨_,rfl,_,rfl,jj,rfl,sl,ws,rfl,SqL.of hsl6b,fun p1 hp1=>?_⟩
      rw [dC ws hj0 (by omega),etk]
      have s1:Same H6b (upd H6b p1 (.lst a)):=ah hp1 _
      have g1:(upd H6b p1 (.lst a)) p1=some (.lst a):=ac
      generalize upd H6b p1 (.lst a)=H7 at s1 g1 ⊢
      have hsl7:=s1 _ _ hsl6b
      refine ⟨_,rfl,_,rfl,_,rfl,sl,ws,jj,x,rfl,rfl,SqL.of hsl7,ew▸jo ej,_,rfl,_,rfl,_,_,rfl,rfl,sl,ws,jj+1,y,rfl,rfl,SqL.of hsl7,?_,(by show 3<=sizeLine;decide),fun p2 hp2=>?_⟩
      ·rw [ew,show a++x::y::b=(a++[x])++y::b by simp]
       exact jo (by simp;omega)
      have s2:Same H7 (upd H7 p2 (.tup [.str op,x,y])):=ah hp2 _
      have g2:(upd H7 p2 (.tup [.str op,x,y])) p2=some (.tup [.str op,x,y]):=ac
      generalize upd H7 p2 (.tup [.str op,x,y])=H8 at s2 g2 ⊢
      refine ⟨(by show 1<=sizeLine;decide),fun p3 hp3=>?_⟩
      have s3:Same H8 (upd H8 p3 (.lst [.ref p2])):=ah hp3 _
      have g3:(upd H8 p3 (.lst [.ref p2])) p3=some (.lst [.ref p2]):=ac
      generalize upd H8 p3 (.lst [.ref p2])=H9 at s3 g3 ⊢
      refine ⟨p1,p3,a,_,rfl,rfl,s3 _ _ (s2 _ _ g1),g3,Nat.le_of_lt (aA (by simp;omega)),fun p4 hp4=>?_⟩
      have s4:Same H9 (upd H9 p4 (.lst (a++[.ref p2]))):=ah hp4 _
      have g4:(upd H9 p4 (.lst (a++[.ref p2]))) p4=some (.lst (a++[.ref p2])):=ac
      generalize upd H9 p4 (.lst (a++[.ref p2]))=H10 at s4 g4 ⊢
      have s7:Same H7 H10:=s2.trans (s3.trans s4)
      refine ⟨_,rfl,_,rfl,_,_,rfl,rfl,jj+2,rfl,sl,ws,rfl,SqL.of (s7 _ _ hsl7),fun p5 hp5=>?_⟩
      rw [gC ws (by omega) (by omega),show (jj+2).toNat=jj.toNat+2 by omega,edr]
      have s5:Same H10 (upd H10 p5 (.lst b)):=ah hp5 _
      have g5:(upd H10 p5 (.lst b)) p5=some (.lst b):=ac
      generalize upd H10 p5 (.lst b)=H11 at s5 g5 ⊢
      refine ⟨p4,p5,_,b,rfl,rfl,s5 _ _ g4,g5,Nat.le_of_lt (aA (by simp;omega)),fun p6 hp6=>?_⟩
      have s6:Same H6 H11:=s0.trans (s1.trans (s7.trans s5))
      have st:Same H6 (upd H11 p6 (.lst (a++[.ref p2]++b))):=s6.trans (ah hp6 _)
      have tk:TK H6 (upd H11 p6 (.lst (a++[.ref p2]++b))):=fun c xs h=>st _ _ h
      have g2':(upd H11 p6 (.lst (a++[.ref p2]++b))) p2=some (.tup [.str op,x,y]):=(ah hp6 _) _ _ (s5 _ _ (s4 _ _ (s3 _ _ g2)))
      have tt7:Tp (upd H11 p6 (.lst (a++[.ref p2]++b))) tp:=by obtain ⟨t0,e0⟩:=tt6;exact ⟨t0,st _ _ e0⟩
      refine ⟨⟨p6,_,m1+ ((Fm.bin op A B).size+0) +m2,_,_,_,rfl,ac,?_,by simp;omega,by simp;omega,?_,?_,k6'.same st,tt7⟩,?_⟩
      ·intro e
       obtain ⟨t0,e0⟩:=tt6
       have:=s6 _ _ e0
       rw [<- e,hp6]at this
       cases this
      ·exact ((f1.mono tk).append (FsP.cons (f:=.bin op A B) ⟨p2,x,y,rfl,g2',ra.mono tk,rb.mono tk⟩ ⟨hopm,wa,wb⟩ .nil)).append (f2.mono tk)
      ·show m1+ ((A.size+B.size+1) +0) +m2+ (a++[V.ref p2]++b).length<=16
       simp
       omega
      ·show (match (upd H11 p6 (.lst (a++[.ref p2]++b))) p6 with | some (.lst ws)=>ws.length | _=>0) < (match H3 sl with | some (.lst ws)=>ws.length | _=>0)
       rw [ac,hsl]
       simp
       omega
    ·have c':ws.length=1:=by
      have: ¬ (1:Int) < (ws.length:Int):=fun z=>c (decide_eq_true z)
      omega
     obtain ⟨x,ex⟩:=List.length_eq_one_iff.mp c'
     subst ex
     cases hfs with
     | cons rp wf f2=>
      cases f2
      refine ⟨_,rfl,sl,_,0,x,rfl,rfl,SqL.of hsl,bV,q x _ H3 rp wf (by simp at hsz;omega) k4 t4⟩
   ·rintro Z H3 Q1 Q2 hq ⟨y,e1,p,ys,e2,h2,i,j,e3,e4,k,e5,h⟩
    exact ⟨y,e1,p,ys,e2,h2,i,j,e3,e4,k,e5,hq _ _ h⟩
 refine ⟨_,ad (aq (i:=2) scFormulaP.nd rfl (Or.inl rfl) (aB aW ae (af GD hr1 rfl mD kD bD .nil al (aa (pv 0) (aa ae ab)))))
  (ad (aL (aF bj (af GD hr1 rfl mD kD bD .nil al (aa (pv 0) (aa ae ab))) ae (aE _)) (aj (aq (i:=2) scFormulaP.nd rfl (Or.inl rfl) ae)) aC) ht),?_⟩
 refine ⟨_,rfl,tp,4,rfl,hT,by decide,by decide,fun d1 t1 h10 h11=>?_⟩
 refine ⟨1,_,rfl,rfl,?_⟩
 refine ⟨_,rfl,tp,16,rfl,⟨t1,ac⟩,by decide,by decide,fun d2 t2 h20 h21=>?_⟩
 rw [di]
 refine ⟨rfl,_,rfl,?_⟩
 refine bx (fun c9=>?_) (fun c9=>?_)
 ·exact hread 8 _ (by decide) (by decide) Kp.tape ⟨t2,ac⟩
 ·exact hread (1+d1) _ (by omega) (by omega) Kp.tape ⟨t2,ac⟩
noncomputable def mV (d:Int):Nat:=(atI letters.cps.toList d).getD 0
noncomputable def eg (tu:Int):Str:=(⟨#[mV tu]⟩:Str)++Txt.slice "aneqoubi" none (some 7)
noncomputable def nm0 (tu:Int) (i:Nat):Str:=if (0+ (i:Int)) <8 then Txt.slice (eg tu) none (some (0+ (i:Int) +1))else (⟨#[mV ((tu+1) %26)]⟩:Str)++Txt.slice (eg tu) none (some (0+ (i:Int) -8))
noncomputable def nm1 (tu:Int) (i:Nat):Str:=((names13)[((tu+ (0+ (i:Int))) %13).toNat]?).getD ""
noncomputable def nm2 (tu:Int) (i:Nat):Str:=(⟨#[mV ((tu+ (0+ (i:Int))) %26)]⟩:Str)++Txt.slice "eyzmopq" none (some ((tu+3* (0+ (i:Int))) %8))
noncomputable def gn (way:Nat) (tu:Int) (i:Nat):Str:=if way=0 then nm0 tu i else if way=1 then nm1 tu i else nm2 tu i
noncomputable def NamesAre (m:Nat) (ws:List Str):Prop:= ∃ (way tu:Nat) (back:Bool),way<3/\tu<26/\ws=(if back=true then ((List.range m).map (gn way tu)).reverse else (List.range m).map (gn way tu))
noncomputable def eQ:Sp:=fun vs H Q _=> ∃ tp m,vs=[.ref tp,.int m]/\Tp H tp/\0<=m/\m<=13/\
 ∀ l (ws:List Str) H',H' l=some (.lst (ws.map V.str))->(ws.length:Int)=m->NamesAre m.toNat ws->l≠tp->Kp tp H H'->Tp H' tp->Q (.ref l) H'
theorem ls {d:Int} (h0:0<=d) (h1:d<26):atI letters.cps.toList d=some (mV d):=by
 obtain ⟨c,e,_⟩:=qA h0 h1
 unfold mV
 rw [e]
 rfl
theorem q9 (tu:Int):(eg tu).length=8:=by unfold eg;rw [vt,aneq.1];rfl
theorem scNamesX:au ["tape","many","letters","way","turn","back","stem","names","words"] ["tape","many"] (ag eU):=fsc
theorem qm (F:Fun K "_law_names" "_law_names" eU f fd) (G:Gb mg) (GD:FnOk P w K mg base CX0 1 g gd ["tape","many"] ca) (bD:Binds K gd ["tape","many"] []) (kD:PySem.W.keepIn K (.ref g)=true) (mD:mg "_law_digit"=some (.ref g)):
  FnOk P w K mg base CX0 2 f fd ["tape","many"] eQ:=by
 refine F.ok scNamesX (fun vs H Q E h=>?_) (fun cdv A outer s H vs Q E hr h=>?_)
 ·obtain ⟨tp,m,rfl,_⟩:=h
  rfl
 obtain ⟨tp,m,rfl,hT,hm0,hm1,q⟩:=h
 obtain ⟨t,ht,hread⟩: ∃ t,PSs (c7 CX0 P w K mg base ["tape","many","letters","way","turn","back","stem","names","words"] "_law_names" (ag eU) f cdv A outer s H E).nox ((cH eU).drop 5) t/\
   ∀ (b:Int) (l:Addr) (way tu:Nat) (H2:Hp) (o2 o3 o4 o6 o8:Option V),(b=1\/b= -1)->way<3->tu<26->H2 l=some (.lst (((List.range m.toNat).map (gn way tu)).map V.str))->Kp tp H H2->Tp H2 tp->
    t {nx:=fun _ H'=>Q .non H',rt:=Q} [some (.ref tp),some (.int m),o2,o3,o4,some (.int b),o6,some (.ref l),o8] H2:=by
  refine ⟨_,aj (aw (uL (pv 7) (pv 5))),fun b l way tu H2 o2 o3 o4 o6 o8 hb hw1 hw2 hl k2 t2=>?_⟩
  have hlen:(((List.range m.toNat).map (gn way tu)).length:Int)=m:=by rw [List.length_map,List.length_range];omega
  refine ⟨_,rfl,_,rfl,l,_,b,rfl,rfl,SqL.of hl,by omega,fun p hp=>?_⟩
  have hpt:p≠tp:=fun e=>by
   obtain ⟨t0,e0⟩:=t2
   subst e
   rw [e0]at hp
   cases hp
  rcases hb with rfl | rfl
  ·rw [pP]
   exact q p _ _ ac hlen ⟨way,tu,false,hw1,hw2,rfl⟩ hpt (k2.new hp) (t2.new hp)
  ·rw [pQ,<- List.map_reverse]
   exact q p _ _ ac (by rw [List.length_reverse];exact hlen) ⟨way,tu,true,hw1,hw2,rfl⟩ hpt (k2.new hp) (t2.new hp)
 have cw: ∀ {te:TE} {fr:List Nat} {Z:St} {H2:Hp} {Q2:VK} (g:Nat->Str),(∀ (i:Nat) (H3:Hp) (k:VK),(i:Int) <m->k (.str (g i)) H3->te (some (.int (0+i))::cc fr Z) H3 k)->
   (∀ p,H2 p=none->Q2 (.ref p) (upd H2 p (.lst (((List.range m.toNat).map g).map V.str))))->eL fr te Z (Itr 0 m.toNat) H2 Q2:=by
  intro te fr Z H2 Q2 g hs hd
  refine dr (n:=m.toNat) (R:=fun i v=>v=.int (0+i)) (by omega) jd fi gu
   (fun p i zs H'=>H'=upd H2 p (.lst zs)/\zs=((List.range i).map g).map V.str) (fun p hp=>⟨rfl,rfl⟩) ?_ ?_ ?_
  ·rintro p i zs H' ⟨rfl,rfl⟩
   exact ⟨ac,by rw [List.length_map,List.length_map,List.length_range]⟩
  ·rintro p i zs H' v k hp hi rfl ⟨rfl,rfl⟩ hk
   exact hs i _ k (by omega) (hk (.str (g i)) _ ac ⟨di,by rw [List.range_succ];simp⟩)
  ·rintro p zs H' hp ⟨rfl,rfl⟩
   exact hd p hp
 refine ⟨_,ad (aq (i:=2) scNamesX.nd rfl (Or.inr rfl) aP)
  (ad (aq (i:=3) scNamesX.nd rfl (Or.inl rfl) (af GD hr rfl mD kD bD .nil al (aa (pv 0) (aa ae ab))))
  (ad (aq (i:=4) scNamesX.nd rfl (Or.inr rfl) (af GD hr rfl mD kD bD .nil al (aa (pv 0) (aa ae ab))))
  (ad (aq (i:=5) scNamesX.nd rfl (Or.inl rfl) (aB dL ae (aB de ae (af GD hr rfl mD kD bD .nil al (aa (pv 0) (aa ae ab))))))
  (ad (aL (aF bj (pv 3) ae (aE _))
   (ad (aq (i:=6) scNamesX.nd rfl (Or.inr rfl) (aB fQ (av oA (pv 2) (pv 4) (fun _ _=>rfl)) (a7 kg aP bp (bh ae))))
   (aj (dE (i:=7) (sc0:=ag eU) (N0:=["tape","many","letters","way","turn","back","stem","names","words"]) (ys:=["letters","stem","turn"]) (fr:=[2,6,4]) rfl scNamesX.nd rfl (Or.inl rfl) (bq rfl G.range (aa (pv 1) ab)) rfl rfl
    cok
    (fun C s H ex=>gj (aF fI (pv 0) ae (aE _)) (a7 kg (pv 2) bp (bh (aB aW (pv 0) ae)))
     (aB fQ (av oA (pv 1) (aB cE (aB aW (pv 3) ae) ae) (fun _ _=>rfl)) (a7 kg (pv 2) bp (bh (aB dL (pv 0) ae))))))))
   (aj (aL (aF bj (pv 3) ae (aE _))
    (@ad _ _ _ _ _ (@uJ _ 8 _ _ (names13.map V.str) _ _ _ scNamesX.nd rfl (Or.inr rfl) (Or.inl rfl) rfl)
    (aj (dE (i:=7) (sc0:=ag eU) (N0:=["tape","many","letters","way","turn","back","stem","names","words"]) (ys:=["turn","words"]) (fr:=[4,8]) rfl scNamesX.nd rfl (Or.inl rfl) (bq rfl G.range (aa (pv 1) ab)) rfl rfl
     cok
     (fun C s H ex=>av (r:=xi K) aM (pv 2) (aB cE (aB aW (pv 1) (pv 0)) ae) (fun _ _=>rfl)))))
    (aj (dE (i:=7) (sc0:=ag eU) (N0:=["tape","many","letters","way","turn","back","stem","names","words"]) (ys:=["letters","turn"]) (fr:=[2,4]) rfl scNamesX.nd rfl (Or.inl rfl) (bq rfl G.range (aa (pv 1) ab)) rfl rfl
     cok
     (fun C s H ex=>aB fQ (av oA (pv 1) (aB cE (aB aW (pv 2) (pv 0)) ae) (fun _ _=>rfl)) (a7 kg aP bp (bh (aB cE (aB aW (pv 2) (aB de ae (pv 0))) ae)))))))))
  ht)))),?_⟩
 refine ⟨_,rfl,tp,3,rfl,hT,by decide,by decide,fun wy t1 hw0 hw1=>?_⟩
 refine ⟨_,rfl,tp,26,rfl,⟨t1,ac⟩,by decide,by decide,fun tu t2 htu0 htu1=>?_⟩
 rw [di]
 refine ⟨_,rfl,tp,2,rfl,⟨t2,ac⟩,by decide,by decide,fun bk t3 hb0 hb1=>?_⟩
 rw [di]
 refine ⟨2,_,rfl,rfl,.inl ⟨by decide,by decide⟩,1,_,rfl,rfl,?_⟩
 have hb:(1-2*bk=1\/1-2*bk= -1):=by omega
 have k3:Kp tp H (upd H tp (.lst [.int t3])):=Kp.tape
 have tt3:Tp (upd H tp (.lst [.int t3])) tp:=⟨t3,ac⟩
 generalize upd H tp (.lst [.int t3])=H3 at k3 tt3 ⊢
 have l26:(letters.length:Int)=26:=by rw [ij];rfl
 have lsz:letters.length<=sizeLine:=by rw [ij];exact Nat.le_of_lt (aA (by decide))
 refine ⟨_,rfl,rfl,_,rfl,?_⟩
 refine bx (fun c=>?_) (fun c=>?_)
 ·-- stems
  have hwy:wy=0:=V.int.inj (of_decide_eq_true c)
  have ec0:=ls htu0 htu1
  refine ⟨_,rfl,_,rfl,letters,tu,mV tu,rfl,rfl,lsz,ec0,7,rfl,"aneqoubi",rfl,(by decide +kernel),_,_,rfl,rfl,?_,?_⟩
  ·rw [aneq.1]
   show 1+7<=sizeLine
   exact Nat.le_of_lt (aA (by decide))
  have zl:=q9 tu
  have zsz:(eg tu).length<=sizeLine:=by rw [zl];exact Nat.le_of_lt (aA (by decide))
  refine ⟨_,rfl,m,rfl,by omega,by omega,?_⟩
  refine cw (nm0 tu) ?_ ?_
  ·intro i H4 k hi hk
   refine ⟨_,rfl,_,_,rfl,rfl,_,rfl,?_⟩
   refine bx (fun ci=>?_) (fun ci=>?_)
   ·have ci':(0+ (i:Int)) <8:=of_decide_eq_true ci
    refine ⟨_,rfl,_,rfl,_,_,rfl,rfl,_,rfl,eg tu,rfl,zsz,?_⟩
    unfold nm0 at hk
    rw [if_pos ci']at hk
    exact hk
   ·have ci': ¬ (0+ (i:Int)) <8:=fun y=>ci (decide_eq_true y)
    have ec1:=ls (d:=(tu+1) %26) (Int.emod_nonneg _ (by decide)) (Int.emod_lt_of_pos _ (by decide))
    have e:=jE (eg tu) (j:=0+ (i:Int) -8) (by omega) (by rw [zl];omega)
    unfold nm0 at hk
    rw [if_neg ci']at hk
    refine ⟨_,rfl,_,rfl,_,_,rfl,rfl,_,_,rfl,rfl,(by show (0:Int) <26;decide),letters,_,mV ((tu+1) %26),rfl,rfl,lsz,ec1,_,rfl,_,rfl,_,_,rfl,rfl,_,rfl,eg tu,rfl,zsz,_,_,rfl,rfl,?_,hk⟩
    show 1+ (Txt.slice (eg tu) none (some (0+ (i:Int) -8))).length<=sizeLine
    exact Nat.le_of_lt (aA (by omega))
  ·intro p hp
   have etu:((tu.toNat:Nat):Int)=tu:=by omega
   refine hread (1-2*bk) p 0 tu.toNat _ _ _ _ _ _ hb (by decide) (by omega) ?_ (k3.new hp) (tt3.new hp)
   rw [etu]
   exact ac
 ·refine ⟨_,rfl,rfl,_,rfl,?_⟩
  refine bx (fun c2=>?_) (fun c2=>?_)
  ·-- written words
   refine ⟨(by show 13<=sizeLine;decide),fun pw hpw=>?_⟩
   refine ⟨_,rfl,m,rfl,by omega,by omega,?_⟩
   have s4:Same H3 (upd H3 pw (.lst (names13.map V.str))):=ah hpw _
   have g4:(upd H3 pw (.lst (names13.map V.str))) pw=some (.lst (names13.map V.str)):=ac
   have k4:Kp tp H (upd H3 pw (.lst (names13.map V.str))):=k3.same s4
   have tt4:Tp (upd H3 pw (.lst (names13.map V.str))) tp:=tt3.new hpw
   generalize upd H3 pw (.lst (names13.map V.str))=H4 at s4 g4 k4 tt4 ⊢
   refine dr (n:=m.toNat) (R:=fun i v=>v=.int (0+i)) (by omega) jd fi gu
    (fun p i zs H'=>H'=upd H4 p (.lst zs)/\H4 p=none/\zs=((List.range i).map (nm1 tu)).map V.str) (fun p hp=>⟨rfl,hp,rfl⟩) ?_ ?_ ?_
   ·rintro p i zs H' ⟨rfl,_,rfl⟩
    exact ⟨ac,by rw [List.length_map,List.length_map,List.length_range]⟩
   ·rintro p i zs H' v k hp hi rfl ⟨rfl,hp4,rfl⟩ hk
    have h1:=Int.emod_nonneg (tu+ (0+ (i:Int))) (show (13:Int)≠0 by decide)
    have h2:=Int.emod_lt_of_pos (tu+ (0+ (i:Int))) (show (0:Int) <13 by decide)
    obtain ⟨xv,ex,ex2⟩:=fj (xs:=names13.map V.str) h1 (by rw [List.length_map];exact h2)
    have exv:xv=.str (nm1 tu i):=by
     rw [List.getElem?_map]at ex2
     unfold nm1
     cases hx:names13[((tu+ (0+ (i:Int))) %13).toNat]? with
     | none=>rw [hx]at ex2;cases ex2
     | some y=>rw [hx]at ex2;exact (Option.some.inj ex2).symm
    subst exv
    have g5:(upd H4 p (.lst (((List.range i).map (nm1 tu)).map V.str))) pw=some (.lst (names13.map V.str)):=by rw [am (ai g4 hp4)];exact g4
    refine ⟨_,rfl,_,rfl,_,rfl,_,_,rfl,rfl,_,_,rfl,rfl,(by show (0:Int) <13;decide),pw,_,_,_,rfl,rfl,SqL.of g5,ex,?_⟩
    exact hk _ _ ac ⟨di,hp4,by rw [List.range_succ];simp⟩
   ·rintro p zs H' hp ⟨rfl,hp4,rfl⟩
    have etu:((tu.toNat:Nat):Int)=tu:=by omega
    refine hread (1-2*bk) p 1 tu.toNat _ _ _ _ _ _ hb (by decide) (by omega) ?_ (k4.new hp4) (tt4.new hp4)
    rw [etu]
    exact ac
  ·-- a letter and a tail
   refine ⟨_,rfl,m,rfl,by omega,by omega,?_⟩
   refine cw (nm2 tu) ?_ ?_
   ·intro i H4 k hi hk
    have ec1:=ls (d:=(tu+ (0+ (i:Int))) %26) (Int.emod_nonneg _ (by decide)) (Int.emod_lt_of_pos _ (by decide))
    have h1:=Int.emod_nonneg (tu+3* (0+ (i:Int))) (show (8:Int)≠0 by decide)
    have h2:=Int.emod_lt_of_pos (tu+3* (0+ (i:Int))) (show (0:Int) <8 by decide)
    have e:=jE "eyzmopq" (j:=(tu+3* (0+ (i:Int))) %8) h1 (by rw [pC];omega)
    refine ⟨_,rfl,_,rfl,_,rfl,_,_,rfl,rfl,_,_,rfl,rfl,(by show (0:Int) <26;decide),letters,_,mV ((tu+ (0+ (i:Int))) %26),rfl,rfl,lsz,ec1,_,rfl,_,rfl,3,_,rfl,rfl,.inl ⟨by decide,by decide⟩,_,_,rfl,rfl,_,_,rfl,rfl,(by show (0:Int) <8;decide),_,rfl,"eyzmopq",rfl,(by rw [pC];exact Nat.le_of_lt (aA (by decide))),_,_,rfl,rfl,?_,hk⟩
    ·show 1+ (Txt.slice "eyzmopq" none (some ((tu+3* (0+ (i:Int))) %8))).length<=sizeLine
     exact Nat.le_of_lt (aA (by omega))
   ·intro p hp
    have etu:((tu.toNat:Nat):Int)=tu:=by omega
    refine hread (1-2*bk) p 2 tu.toNat _ _ _ _ _ _ hb (by decide) (by omega) ?_ (k3.new hp) (tt3.new hp)
    rw [etu]
    exact ac
noncomputable def ndB:List Str->Bool
 | []=>true
 | x::r=> !(r.any fun y=>x.cps.toList==y.cps.toList)&&ndB r
theorem sW: ∀ {l:List Str},ndB l=true->l.Nodup
 | [],_=>List.nodup_nil
 | x::r,h=>by
  unfold ndB at h
  rw [Bool.and_eq_true]at h
  refine List.nodup_cons.mpr ⟨fun m=>?_,sW h.2⟩
  have h1:=h.1
  rw [Bool.not_eq_true',List.any_eq_false]at h1
  exact h1 x m (by simp)
theorem qy:((List.range 3).all fun way=>(List.range 26).all fun tu=>ndB ((List.range 13).map (gn way tu))&&((List.range 13).map (gn way tu)).all be)=true:=by
 decide +kernel
theorem tw:((List.range 3).all fun way=>(List.range 26).all fun tu=>((List.range 13).map (gn way tu)).all fun x=> !(x.cps.toList==("lone":Str).cps.toList)&& !(x.cps.toList==("lonely":Str).cps.toList)&& !(x.cps.toList==("loneall":Str).cps.toList))=true:=by
 decide +kernel
theorem NamesAre.lone {m:Nat} {ws:List Str} (h:NamesAre m ws) (hm:m<=13): ∀ x∈ws,x≠"lone"/\x≠"lonely"/\x≠"loneall":=by
 obtain ⟨way,tu,back,h1,h2,e⟩:=h
 have a:=tw
 rw [List.all_eq_true]at a
 have a:=a way (List.mem_range.mpr h1)
 rw [List.all_eq_true]at a
 have a:=List.all_eq_true.mp (a tu (List.mem_range.mpr h2))
 have sub:((List.range m).map (gn way tu)).Sublist ((List.range 13).map (gn way tu)):=List.Sublist.map _ (List.range_sublist.mpr hm)
 have wd: ∀ x∈(List.range m).map (gn way tu),x≠"lone"/\x≠"lonely"/\x≠"loneall":=fun x hx=>by
  have b:=a x (sub.subset hx)
  refine ⟨fun z=>?_,fun z=>?_,fun z=>?_⟩ <;> (rw [z]at b;revert b;decide +kernel)
 cases back with
 | false=>
  rw [if_neg (by decide)]at e
  subst e
  exact wd
 | true=>
  rw [if_pos rfl]at e
  subst e
  exact fun x hx=>wd x (List.mem_reverse.mp hx)
theorem NamesAre.ok {m:Nat} {ws:List Str} (h:NamesAre m ws) (hm:m<=13):ws.length=m/\ws.Nodup/\ ∀ x∈ws,be x=true:=by
 obtain ⟨way,tu,back,h1,h2,e⟩:=h
 have a:=qy
 rw [List.all_eq_true]at a
 have a:=a way (List.mem_range.mpr h1)
 rw [List.all_eq_true]at a
 have a:=a tu (List.mem_range.mpr h2)
 rw [Bool.and_eq_true]at a
 have n13:=sW a.1
 have w13:=List.all_eq_true.mp a.2
 have sub:((List.range m).map (gn way tu)).Sublist ((List.range 13).map (gn way tu)):=List.Sublist.map _ (List.range_sublist.mpr hm)
 have nd:=n13.sublist sub
 have wd: ∀ x∈(List.range m).map (gn way tu),be x=true:=fun x hx=>w13 x (sub.subset hx)
 have ln:((List.range m).map (gn way tu)).length=m:=by rw [List.length_map,List.length_range]
 cases back with
 | false=>
  rw [if_neg (by decide)]at e
  subst e
  exact ⟨ln,nd,wd⟩
 | true=>
  rw [if_pos rfl]at e
  subst e
  exact ⟨by rw [List.length_reverse];exact ln,(List.reverse_perm _).nodup_iff.mpr nd,fun x hx=>wd x (List.mem_reverse.mp hx)⟩
structure Srt where
 name:Str
 downs:List Str
 ups:List Str
noncomputable def RepS (H:Hp) (s:Srt) (v:V):Prop:= ∃ a b c,v=.ref a/\H a=some (.tup [.str s.name,.ref b,.ref c])/\H b=some (.tup (s.downs.map V.str))/\H c=some (.tup (s.ups.map V.str))
theorem RepS.mono {H H':Hp} (t:TK H H') {s:Srt} {v:V}:RepS H s v->RepS H' s v:=fun ⟨a,b,c,e,h1,h2,h3⟩=>⟨a,b,c,e,t _ _ h1,t _ _ h2,t _ _ h3⟩
noncomputable def Srt.ok (s:Srt):Prop:=(s.downs++s.ups).Nodup/\(∀ x∈s.downs++s.ups,be x=true)/\s.downs.length<=3/\s.ups.length<=3/\1<=s.downs.length+s.ups.length
noncomputable def RepSs (H:Hp) (ss:List Srt) (vs:List V):Prop:=Paired (RepS H) ss vs
theorem RepSs.mono {H H':Hp} (t:TK H H') {ss:List Srt} {vs:List V} (h:RepSs H ss vs):RepSs H' ss vs:=Paired.mapP h fun _ _ r=>r.mono t
theorem RepSs.len {H:Hp} {ss:List Srt} {vs:List V} (h:RepSs H ss vs):ss.length=vs.length:=Paired.length h
theorem aN {α β:Type} {F:α->β->Prop}: ∀ {l:List α} {r:List β} {i:Nat} {b:β},Paired F l r->r[i]? =some b-> ∃ a,l[i]? =some a/\F a b
 | _,_,i,b,.nil,e=>by cases i <;> cases e
 | _,_,0,b,.cons h _,e=>⟨_,rfl,by cases e;exact h⟩
 | _,_,i+1,b,.cons _ t,e=>aN (i:=i) t e
noncomputable def cB (ss:List Srt):Prop:=1<=ss.length/\ss.length<=4/\(ss.map Srt.name).Nodup/\(∀ s∈ss,be s.name=true/\s.name≠"lone")/\ ∀ s∈ss,s.ok
theorem jx {ws:List Str} (n:ws.Nodup) (w: ∀ x∈ws,be x=true) (hl:ws.length=6) (k d u:Nat) (hd:d<=3) (hu:u<=3) (h1:1<=d+u) (nm:Str):
  (Srt.mk nm ((ws.drop k++ws.take k).take d) (((ws.drop k++ws.take k).drop d).take u)).ok:=by
 have nt:(ws.drop k++ws.take k).Nodup:=by
  have:(ws.drop k++ws.take k).Perm (ws.take k++ws.drop k):=List.perm_append_comm
  rw [List.take_append_drop]at this
  exact this.nodup_iff.mpr n
 have mt: ∀ x∈ws.drop k++ws.take k,be x=true:=fun x hx=>by
  rw [List.mem_append]at hx
  rcases hx with h | h
  ·exact w x (List.mem_of_mem_drop h)
  ·exact w x (List.mem_of_mem_take h)
 have lt:(ws.drop k++ws.take k).length=6:=by rw [List.length_append,List.length_drop,List.length_take];omega
 generalize ws.drop k++ws.take k=ts at nt mt lt
 have sub:(ts.take d++(ts.drop d).take u).Sublist ts:=by
  have:=List.take_append_drop d ts
  conv=>rhs;rw [<- this]
  exact List.Sublist.append (List.Sublist.refl _) (List.take_sublist _ _)
 refine ⟨nt.sublist sub,fun x hx=>mt x (sub.subset hx),?_,?_,?_⟩
 ·show (ts.take d).length<=3
  rw [List.length_take];omega
 ·show ((ts.drop d).take u).length<=3
  rw [List.length_take];omega
 ·show 1<=(ts.take d).length+ ((ts.drop d).take u).length
  rw [List.length_take,List.length_take,List.length_drop];omega
noncomputable def oR:Sp:=fun vs H Q _=> ∃ tp c,vs=[.ref tp,.bl c]/\Tp H tp/\ ∀ a ss xs H',H' a=some (.tup xs)->RepSs H' ss xs->cB ss->Kp tp H H'->Tp H' tp->Q (.ref a) H'
theorem xq (k:Bool): ∃ m:Int,atI [V.int 3,V.int 4] (if k then 1 else 0)=some (.int m)/\3<=m/\m<=4:=by
 cases k
 ·exact ⟨3,rfl,by decide,by decide⟩
 ·exact ⟨4,rfl,by decide,by decide⟩
theorem sZ {d u:Int} (hd:0<=d) (hu:0<=u) (hu3:u<=3): ∃ u1:Int,(if (if decide (V.int d=V.int 0)=true then (1:Int)else 0) >u then (if decide (V.int d=V.int 0)=true then (1:Int)else 0)else u)=u1/\0<=u1/\u1<=3/\1<=d+u1:=by
 refine ⟨_,rfl,?_⟩
 by_cases c:d=0
 ·subst c
  rw [if_pos (decide_eq_true rfl)]
  split <;> omega
 ·rw [if_neg (fun e=>c (V.int.inj (of_decide_eq_true e)))]
  split <;> omega
theorem cS {H:Hp} {tp p:Addr} (t:Tp H tp) (hp:H p=none):p≠tp:=fun e=>by
 obtain ⟨t0,e0⟩:=t
 subst e
 rw [e0]at hp
 cases hp
theorem vo (xs:List V) {a b:Nat} (h:a+b<=xs.length):c8 xs (some (a:Int)) (some ((a:Int) + (b:Int)))=(xs.drop a).take b:=by
 unfold c8
 rw [show ((a:Int) + (b:Int))=((a+b:Nat):Int) by omega,HT.sIx_nat,HT.sIx_nat,Nat.min_eq_left h,Nat.min_eq_left (by omega),Nat.add_sub_cancel_left]
theorem scSorts:au ["tape","few","many","names","words","sorts","k","most","downs","ups","turned"] ["tape","few"] (ag nR):=fsc
theorem sH (F:Fun K "_law_sorts" "_law_sorts" nR f fd) (G:Gb mg) (GD:FnOk P w K mg base CX0 1 g gd ["tape","many"] ca) (bD:Binds K gd ["tape","many"] []) (kD:PySem.W.keepIn K (.ref g)=true) (mD:mg "_law_digit"=some (.ref g))
  (GN:FnOk P w K mg base CX0 2 f2 fd2 ["tape","many"] eQ) (bN:Binds K fd2 ["tape","many"] []) (kN:PySem.W.keepIn K (.ref f2)=true) (mN:mg "_law_names"=some (.ref f2)):
  FnOk P w K mg base CX0 3 f fd ["tape","few"] oR:=by
 refine F.ok scSorts (fun vs H Q E h=>?_) (fun cdv A outer s H vs Q E hr h=>?_)
 ·obtain ⟨tp,c,rfl,_⟩:=h
  rfl
 obtain ⟨tp,few,rfl,hT,q⟩:=h
 have hr1:=hr.mono (show 1<=2 by decide)
 refine ⟨_,ad (aq (i:=2) scSorts.nd rfl (Or.inl rfl) (aB aW ae (af GD hr1 rfl mD kD bD .nil al (aa (pv 0) (aa
    (av aM (bf (aa ae (aa ae ab))) (bg fG rfl G.int (by decide +kernel) (aa (bm bj (af GD hr1 rfl mD kD bD .nil al (aa (pv 0) (aa ae ab))) ae (aE _)) ab)) (fun _ _=>rfl)) ab)))))
  (ad (aq (i:=3) scSorts.nd rfl (Or.inl rfl) (af GN hr rfl mN kN bN .nil al (aa (pv 0) (aa (pv 2) ab))))
  (ad (aq (i:=4) scSorts.nd rfl (Or.inl rfl) (af GN hr rfl mN kN bN .nil al (aa (pv 0) (aa ae ab))))
  (ad (aq (i:=5) scSorts.nd rfl (Or.inl rfl) (bf ab))
  (ad (bQ PassesOwn.never rfl (bq rfl G.range (aa (pv 2) ab)) (aH (i:=6) scSorts.nd rfl (Or.inl rfl))
   (ad (aq (i:=7) scSorts.nd rfl (Or.inl rfl) (av aM (bf (aa ae (aa ae ab))) (bg fG rfl G.int (by decide +kernel) (aa (bm bj (af GD hr1 rfl mD kD bD .nil al (aa (pv 0) (aa ae ab))) ae (aE _)) ab)) (fun _ _=>rfl)))
   (ad (aq (i:=8) scSorts.nd rfl (Or.inl rfl) (af GD hr1 rfl mD kD bD .nil al (aa (pv 0) (aa (pv 7) ab))))
   (ad (aq (i:=9) scSorts.nd rfl (Or.inl rfl) (ao (qJ rfl) rfl G.max (by decide +kernel) (aa (af GD hr1 rfl mD kD bD .nil al (aa (pv 0) (aa (pv 7) ab)))
    (aa (bg fG rfl G.int (by decide +kernel) (aa (bm bj (pv 8) ae (aE _)) ab)) ab))))
   (ad (aL (PW.pt (eY (aT (pv 1)) (dD (aF jI (aB de (pv 8) (pv 9)) ae (aE _))))) (aj (aq (i:=9) scSorts.nd rfl (Or.inl rfl) (aB lb ae (pv 8)))) aC)
   (ad (aq (i:=10) scSorts.nd rfl (Or.inl rfl) (aB gQ (a7 cG (pv 4) (bh (aB cE (pv 6) ae)) bp) (a7 cG (pv 4) bp (bh (aB cE (pv 6) ae)))))
   (aj (cq (dF PySem.F.plainAttrs_list PySem.F.slot_list_append PySem.F.type_list_append bZ (pv 5) (aa (aJ (aa (av aM (pv 3) (pv 6) (fun _ _=>rfl))
    (aa (bg a8 rfl G.tuple (by decide +kernel) (aa (a7 cG (pv 10) bp (bh (pv 8))) ab))
    (aa (bg a8 rfl G.tuple (by decide +kernel) (aa (a7 cG (pv 10) (bh (pv 8)) (bh (aB aW (pv 8) (pv 9)))) ab)) ab)))) ab))))))))))
  (aj (aw (bg a8 rfl G.tuple (by decide +kernel) (aa (pv 5) ab)))))))),?_⟩
 refine ⟨_,rfl,(by show 2<=sizeLine;decide),fun p0 hp0=>?_⟩
 refine ⟨_,rfl,tp,8,rfl,hT.new hp0,by decide,by decide,fun d0 t0 _ _=>⟨rfl,?_⟩⟩
 obtain ⟨m0,em0,hm3,hm4⟩:=xq (decide (V.int d0=V.int 5))
 refine .inr ⟨_,rfl,p0,_,_,_,rfl,rfl,SqL.of (by rw [am (cS hT hp0)];exact ac),em0,?_⟩
 have k0:Kp tp H (upd (upd H p0 (.lst [.int 3,.int 4])) tp (.lst [.int t0])):=(Kp.refl.new hp0).trans Kp.tape
 have tt0:Tp (upd (upd H p0 (.lst [.int 3,.int 4])) tp (.lst [.int t0])) tp:=⟨t0,ac⟩
 generalize upd (upd H p0 (.lst [.int 3,.int 4])) tp (.lst [.int t0])=H1 at k0 tt0 ⊢
 refine ⟨tp,_,rfl,tt0,by omega,by omega,fun dm t1 hdm0 hdm1=>?_⟩
 have k1:Kp tp H (upd H1 tp (.lst [.int t1])):=k0.trans Kp.tape
 have tt1:Tp (upd H1 tp (.lst [.int t1])) tp:=⟨t1,ac⟩
 generalize upd H1 tp (.lst [.int t1])=H2 at k1 tt1 ⊢
 refine ⟨1,_,rfl,rfl,?_⟩
 refine ⟨_,rfl,_,rfl,tp,_,rfl,tt1,by omega,by omega,fun nl ns H3 hnl hnlen hN hnne k2' tt2=>?_⟩
 have k2:=k1.trans k2'
 refine ⟨_,rfl,tp,6,rfl,tt2,by decide,by decide,fun wl ws H4 hwl hwlen hW hwne k3' tt3=>?_⟩
 have k3:=k2.trans k3'
 have hnl4:=k3' _ _ hnl hnne
 refine ⟨(by show 0<=sizeLine;decide),fun sl hsl=>?_⟩
 have hslt:=cS tt3 hsl
 have k4:Kp tp H (upd H4 sl (.lst [])):=k3.new hsl
 have tt4:=tt3.new (o:=.lst []) hsl
 have s4:=ah hsl (.lst [])
 have nsl:nl≠sl:=ai hnl4 hsl
 have wsl:wl≠sl:=ai hwl hsl
 have hnl5:=s4 _ _ hnl4
 have hwl5:=s4 _ _ hwl
 have hsl5:(upd H4 sl (.lst [])) sl=some (.lst []):=ac
 generalize upd H4 sl (.lst [])=H5 at k4 tt4 hnl5 hwl5 hsl5 ⊢
 obtain ⟨nLen,nNd,nWd⟩:=hN.ok (by omega)
 have nNo:=hN.lone (by omega)
 obtain ⟨wLen,wNd,wWd⟩:=hW.ok (by decide)
 have wLen6:ws.length=6:=wLen
 refine ⟨_,rfl,1+dm,rfl,by omega,by omega,?_⟩
 refine cL (fun i Z H'=> ∃ o6 o7 o8 o9 o10 zs ss,Z=[some (.ref tp),some (.bl few),some (.int (1+dm)),some (.ref nl),some (.ref wl),some (.ref sl),o6,o7,o8,o9,o10]/\Kp tp H H'/\Tp H' tp/\H' nl=some (.lst (ns.map V.str))/\H' wl=some (.lst (ws.map V.str))/\H' sl=some (.lst zs)/\RepSs H' ss zs/\ss.length=i/\(∀ s∈ss,s.ok)/\ss.map Srt.name=ns.take i)
  ⟨none,none,none,none,none,[],[],rfl,k4,tt4,hnl5,hwl5,hsl5,.nil,rfl,fun s h=>(by cases h),rfl⟩ ?_ ?_
 ·rintro i Z H6 hi ⟨o6,o7,o8,o9,o10,zs,ss,rfl,k6,tt6,hnl6,hwl6,hsl6,hR,hssl,hok,hnm⟩
  refine ⟨(by show 2<=sizeLine;decide),fun p0 hp0=>?_⟩
  refine ⟨_,rfl,tp,8,rfl,tt6.new hp0,by decide,by decide,fun d0 t0 _ _=>⟨rfl,?_⟩⟩
  obtain ⟨m1,em1,hm3,hm4⟩:=xq (decide (V.int d0=V.int 5))
  refine .inr ⟨_,rfl,p0,_,_,_,rfl,rfl,SqL.of (by rw [am (cS tt6 hp0)];exact ac),em1,?_⟩
  have k7:Kp tp H6 (upd (upd H6 p0 (.lst [.int 3,.int 4])) tp (.lst [.int t0])):=(Kp.refl.new hp0).trans Kp.tape
  have tt7:Tp (upd (upd H6 p0 (.lst [.int 3,.int 4])) tp (.lst [.int t0])) tp:=⟨t0,ac⟩
  generalize upd (upd H6 p0 (.lst [.int 3,.int 4])) tp (.lst [.int t0])=H7 at k7 tt7 ⊢
  refine ⟨_,rfl,_,rfl,tp,_,rfl,tt7,by omega,by omega,fun d t2 hd0 hd1=>?_⟩
  have k8:Kp tp H6 (upd H7 tp (.lst [.int t2])):=k7.trans Kp.tape
  have tt8:Tp (upd H7 tp (.lst [.int t2])) tp:=⟨t2,ac⟩
  generalize upd H7 tp (.lst [.int t2])=H8 at k8 tt8 ⊢
  refine ⟨_,rfl,_,rfl,tp,_,rfl,tt8,by omega,by omega,fun u t3 hu0 hu1=>?_⟩
  have k9:Kp tp H6 (upd H8 tp (.lst [.int t3])):=k8.trans Kp.tape
  have tt9:Tp (upd H8 tp (.lst [.int t3])) tp:=⟨t3,ac⟩
  generalize upd H8 tp (.lst [.int t3])=H9 at k9 tt9 ⊢
  obtain ⟨u1,eu1,hu10,hu13,hdu⟩:=sZ (d:=d) (u:=u) hd0 hu0 (by omega)
  refine ⟨_,rfl,rfl,.inr ⟨_,rfl,_,_,rfl,?_⟩⟩
  rw [eu1]
  refine ⟨_,rfl,few,rfl,?_⟩
  refine wN (c2:=decide (3<d*u1)) (fun h=>⟨_,rfl,_,rfl,_,_,rfl,rfl,.inl ⟨by omega,by omega⟩,_,_,rfl,rfl,_,rfl,h⟩) (fun _ c=>?A) (fun _=>?B)
  case' A=>
   have c':3<d*u1:=of_decide_eq_true c
   have hdp:0<d:=by
    rcases (show d=0\/0<d by omega)with h | h
    ·subst h;omega
    ·exact h
   refine ⟨_,rfl,3,d,rfl,rfl,⟨hdp,by omega⟩,?_⟩
   obtain ⟨v,hv,ev⟩: ∃ v:Int,(0<=v/\v<=3/\1<=d+v)/\((fun (i j:Int)=>V.int (i/j)) 3 d)=V.int v:=by
    refine ⟨3/d,?_,rfl⟩
    rcases (show d=1\/d=2\/d=3 by omega)with h | h | h <;> subst h <;> decide
   rw [ev]
  case' B=>
   have hv:0<=u1/\u1<=3/\1<=d+u1:=⟨hu10,hu13,hdu⟩
   generalize u1=v at hv ⊢
  all_goals
   have hwl9:=k9 _ _ hwl6 hwne
   have hnl9:=k9 _ _ hnl6 hnne
   have hsl9:=k9 _ _ hsl6 hslt
   have hkk0:0<=(0+ (i:Int)) %6:=Int.emod_nonneg _ (by decide)
   have hkk1:(0+ (i:Int)) %6<6:=Int.emod_lt_of_pos _ (by decide)
   refine ⟨_,rfl,_,rfl,_,_,rfl,rfl,(by show (0:Int) <6;decide),_,rfl,wl,_,rfl,SqL.of hwl9,fun p1 hp1=>?_⟩
   rw [gC (ws.map V.str) hkk0 (by rw [List.length_map];omega)]
   have hn6:((0+ (i:Int)) %6).toNat<=6:=by omega
   have hct:c8 (ws.map V.str) none (some ((0+ (i:Int)) %6))=(ws.map V.str).take ((0+ (i:Int)) %6).toNat:=dC (ws.map V.str) hkk0 (by rw [List.length_map];omega)
   generalize hn:((0+ (i:Int)) %6).toNat=n at hct hn6 ⊢
   have s1:=ah hp1 (.lst ((ws.map V.str).drop n))
   have g1:(upd H9 p1 (.lst ((ws.map V.str).drop n))) p1=some (.lst ((ws.map V.str).drop n)):=ac
   generalize upd H9 p1 (.lst ((ws.map V.str).drop n))=Ha at s1 g1 ⊢
   refine ⟨_,rfl,_,rfl,_,_,rfl,rfl,(by show (0:Int) <6;decide),_,rfl,wl,_,rfl,SqL.of (s1 _ _ hwl9),fun p2 hp2=>?_⟩
   rw [hct]
   have s2:=ah hp2 (.lst ((ws.map V.str).take n))
   have g2:(upd Ha p2 (.lst ((ws.map V.str).take n))) p2=some (.lst ((ws.map V.str).take n)):=ac
   generalize upd Ha p2 (.lst ((ws.map V.str).take n))=Hb at s2 g2 ⊢
   have lcat:((ws.map V.str).drop n).length+ ((ws.map V.str).take n).length<=12:=by rw [List.length_drop,List.length_take,List.length_map];omega
   refine ⟨p1,p2,_,_,rfl,rfl,s2 _ _ g1,g2,Nat.le_of_lt (aA (by omega)),fun p3 hp3=>?_⟩
   have e3:(ws.map V.str).drop n++(ws.map V.str).take n=(ws.drop n++ws.take n).map V.str:=by rw [List.map_append,List.map_drop,List.map_take]
   rw [e3]
   have lts:(ws.drop n++ws.take n).length=6:=by rw [List.length_append,List.length_drop,List.length_take];omega
   have hsok:=fun nm=>jx wNd wWd wLen6 n d.toNat v.toNat (by omega) (by omega) (by omega) nm
   generalize ws.drop n++ws.take n=ts at lts hsok ⊢
   have s3:=ah hp3 (.lst (ts.map V.str))
   have g3:(upd Hb p3 (.lst (ts.map V.str))) p3=some (.lst (ts.map V.str)):=ac
   generalize upd Hb p3 (.lst (ts.map V.str))=Hc at s3 g3 ⊢
   have S9:Same H9 Hc:=s1.trans (s2.trans s3)
   have hslc:=S9 _ _ hsl9
   have hnlc:=S9 _ _ hnl9
   have hwlc:=S9 _ _ hwl9
   have kc:Kp tp H6 Hc:=k9.same S9
   have ttc:Tp Hc tp:=tt9.same S9
   refine ⟨_,rfl,.inl ⟨rfl,_,SqL.of hslc⟩,?_⟩
   obtain ⟨nm,enm⟩: ∃ nm,ns[i]? =some nm:=⟨ns[i]'(by omega),List.getElem?_eq_getElem (by omega)⟩
   have eat:atI (ns.map V.str) (0+ (i:Int))=some (V.str nm):=by
    rw [Int.zero_add]
    exact aG (by rw [List.getElem?_map,enm];rfl)
   refine ⟨_,rfl,_,rfl,nl,_,_,_,rfl,rfl,SqL.of hnlc,eat,?_⟩
   refine ⟨_,rfl,_,rfl,d,rfl,p3,_,rfl,SqL.of g3,fun p4 hp4=>?_⟩
   rw [dC (ts.map V.str) hd0 (by rw [List.length_map];omega),<- List.map_take]
   have s4:=ah hp4 (.lst ((ts.take d.toNat).map V.str))
   have g4:(upd Hc p4 (.lst ((ts.take d.toNat).map V.str))) p4=some (.lst ((ts.take d.toNat).map V.str)):=ac
   generalize upd Hc p4 (.lst ((ts.take d.toNat).map V.str))=Hd at s4 g4 ⊢
   refine ⟨p4,_,rfl,.inl ⟨SqL.of g4,fun p5 hp5=>?_⟩⟩
   have s5:=ah hp5 (.tup ((ts.take d.toNat).map V.str))
   have g5:(upd Hd p5 (.tup ((ts.take d.toNat).map V.str))) p5=some (.tup ((ts.take d.toNat).map V.str)):=ac
   generalize upd Hd p5 (.tup ((ts.take d.toNat).map V.str))=He at s5 g5 ⊢
   refine ⟨_,rfl,_,rfl,d,rfl,_,rfl,_,rfl,_,_,rfl,rfl,_,rfl,p3,_,rfl,SqL.of (s5 _ _ (s4 _ _ g3)),fun p6 hp6=>?_⟩
   have ecm:c8 (ts.map V.str) (some d) (some (d+v))=((ts.drop d.toNat).take v.toNat).map V.str:=by
    have:=vo (ts.map V.str) (a:=d.toNat) (b:=v.toNat) (by rw [List.length_map];omega)
    rw [show ((d.toNat:Nat):Int)=d by omega,show ((v.toNat:Nat):Int)=v by omega]at this
    rw [this,List.map_take,List.map_drop]
   rw [ecm]
   have s6:=ah hp6 (.lst (((ts.drop d.toNat).take v.toNat).map V.str))
   have g6:(upd He p6 (.lst (((ts.drop d.toNat).take v.toNat).map V.str))) p6=some (.lst (((ts.drop d.toNat).take v.toNat).map V.str)):=ac
   generalize upd He p6 (.lst (((ts.drop d.toNat).take v.toNat).map V.str))=Hf at s6 g6 ⊢
   refine ⟨p6,_,rfl,.inl ⟨SqL.of g6,fun p7 hp7=>?_⟩⟩
   have s7:=ah hp7 (.tup (((ts.drop d.toNat).take v.toNat).map V.str))
   have g7:(upd Hf p7 (.tup (((ts.drop d.toNat).take v.toNat).map V.str))) p7=some (.tup (((ts.drop d.toNat).take v.toNat).map V.str)):=ac
   generalize upd Hf p7 (.tup (((ts.drop d.toNat).take v.toNat).map V.str))=Hg at s7 g7 ⊢
   refine ⟨(by show 3<=sizeLine;decide),fun p8 hp8=>?_⟩
   have s8:=ah hp8 (.tup [.str nm,.ref p5,.ref p7])
   have g8:(upd Hg p8 (.tup [.str nm,.ref p5,.ref p7])) p8=some (.tup [.str nm,.ref p5,.ref p7]):=ac
   generalize upd Hg p8 (.tup [.str nm,.ref p5,.ref p7])=Hh at s8 g8 ⊢
   have Sc:Same Hc Hh:=s4.trans (s5.trans (s6.trans (s7.trans s8)))
   have hslh:=Sc _ _ hslc
   have hzl:zs.length=i:=by rw [<- hR.len];exact hssl
   refine ⟨sl,zs,.ref p8,rfl,rfl,hslh,aA (by omega),?_⟩
   have tk:TK Hh (upd Hh sl (.lst (zs++[.ref p8]))):=TK.lst hslh
   have kh:Kp tp H6 Hh:=kc.same Sc
   refine ⟨_,_,_,_,_,zs++[.ref p8],ss++[⟨nm,ts.take d.toNat,(ts.drop d.toNat).take v.toNat⟩],rfl,?_,?_,?_,?_,ac,?_,?_,?_,?_⟩
   ·intro b o hb hbn
    rw [am (ai (k3 _ _ hb hbn) hsl)]
    exact kh _ _ (k6 _ _ hb hbn) hbn
   ·obtain ⟨t9,e9⟩:=ttc.same Sc
    exact ⟨t9,by rw [am (Ne.symm hslt)];exact e9⟩
   ·rw [am nsl];exact Sc _ _ hnlc
   ·rw [am wsl];exact Sc _ _ hwlc
   ·exact Paired.snoc (hR.mono ((kh.tk tt6).trans tk)) ⟨p8,p5,p7,rfl,tk _ _ g8,tk _ _ (s8 _ _ (s7 _ _ (s6 _ _ g5))),tk _ _ (s8 _ _ g7)⟩
   ·rw [List.length_append,hssl];rfl
   ·intro s hs
    rw [List.mem_append,List.mem_singleton]at hs
    rcases hs with h | h
    ·exact hok s h
    ·subst h;exact hsok nm
   ·rw [List.map_append,hnm,List.map_singleton,List.take_add_one,enm]
    rfl
 ·rintro Z H6 ⟨o6,o7,o8,o9,o10,zs,ss,rfl,k6,tt6,hnl6,hwl6,hsl6,hR,hssl,hok,hnm⟩
  refine ⟨_,rfl,sl,zs,rfl,.inl ⟨SqL.of hsl6,fun pt hpt=>?_⟩⟩
  refine q pt ss zs _ ac (hR.mono (TK.new hpt)) ⟨by omega,by omega,?_,?_,hok⟩ (k6.new hpt) (tt6.new hpt)
  ·rw [hnm]
   exact nNd.sublist (List.take_sublist _ _)
  ·intro s hs
   have hm:s.name∈ns:=List.mem_of_mem_take (i:=(1+dm).toNat) (by rw [<- hnm];exact List.mem_map_of_mem hs)
   exact ⟨nWd _ hm,(nNo _ hm).1⟩
noncomputable def uq (H:Hp) (ys:List V) (z:V):Prop:= ∃ a,z=.ref a/\H a=some (.tup ys)
noncomputable def Tups (H:Hp) (yss:List (List V)) (zs:List V):Prop:=Paired (uq H) yss zs
theorem Tups.mono {H H':Hp} (t:TK H H') {yss:List (List V)} {zs:List V} (h:Tups H yss zs):Tups H' yss zs:=Paired.mapP h fun _ _ ⟨a,e,g⟩=>⟨a,e,t _ _ g⟩
theorem Tups.len {H:Hp} {yss:List (List V)} {zs:List V} (h:Tups H yss zs):yss.length=zs.length:=Paired.length h
theorem Tups.append {H:Hp}: ∀ {a c:List (List V)} {b d:List V},Tups H a b->Tups H c d->Tups H (a++c) (b++d)
 | _,_,_,_,.nil,h=>h
 | _,_,_,_,.cons x t,h=>.cons x (Tups.append t h)
theorem ax {H H':Hp} (s:Same H H'):TK H H':=fun a xs h=>s _ _ h
theorem ed {K:PySem.W.Frag} {a:Addr} {xs:List V} {fr:List Nat} {te:TE} {Z:St} {H1:Hp} {Q:VK} (hn:xs.length<=1000) (ha:H1 a=some (.tup xs)) (g:V->List V)
  (hte: ∀ v H k,v∈xs->(∀ p,H p=none->k (.ref p) (upd H p (.tup (g v))))->te (some v::cc fr Z) H k)
  (hd: ∀ p zs H',H1 p=none->Same H1 H'->H' p=some (.lst zs)->Tups H' (xs.map g) zs->Q (.ref p) H'):eL fr te Z (Itt K a) H1 Q:=by
 intro p hp
 refine ⟨fun i m zs H=>i<=xs.length/\m=xs.length-i/\Same H1 H/\H p=some (.lst zs)/\zs.length=i/\Tups H ((xs.take i).map g) zs,⟨_,Nat.zero_le _,rfl,ah hp _,ac,rfl,.nil⟩,?_⟩
 rintro i m zs H ⟨hi,hm,sm,gp,hz,hT⟩
 refine ⟨gp,?_⟩
 by_cases e:i=xs.length
 ·subst e
  rw [List.take_length]at hT
  exact .inl ⟨⟨xs,SqT.of (sm _ _ ha),Nat.le_refl _⟩,hd p zs H hp sm gp hT⟩
 ·have hlt:i<xs.length:=by omega
  refine .inr ⟨⟨xs,xs[i],SqT.of (sm _ _ ha),List.getElem?_eq_getElem hlt⟩,aA (by omega),fun v H' hv=>?_⟩
  obtain ⟨rfl,hv⟩:=hv
  have hv:=hv xs (SqT.of (sm _ _ ha))
  refine hte v _ _ (List.mem_of_getElem? hv) fun q hq=>?_
  have s2:=ah hq (.tup (g v))
  have gq:(upd H' q (.tup (g v))) q=some (.tup (g v)):=ac
  generalize upd H' q (.tup (g v))=H2 at s2 gq ⊢
  have gp2:=s2 _ _ gp
  have tk:TK H2 (upd H2 p (.lst (zs++[.ref q]))):=TK.lst gp2
  refine ⟨gp2,xs.length- (i+1),by omega,by omega,rfl,?_,ac,by rw [List.length_append,hz];rfl,?_⟩
  ·intro b o hb
   rw [am (ai hb hp)]
   exact s2 _ _ (sm _ _ hb)
  ·rw [List.take_add_one,hv,List.map_append]
   exact Paired.snoc (hT.mono ((ax s2).trans tk)) ⟨q,rfl,tk _ _ gq⟩
theorem dG {α β:Type} {F:α->β->Prop}: ∀ {l:List α} {r:List β},Paired F l r-> ∀ n,Paired F (l.take n) (r.take n)
 | _,_,.nil,n=>by rw [List.take_nil,List.take_nil];exact .nil
 | _,_,.cons h t,0=>.nil
 | _,_,.cons h t,n+1=>.cons h (dG t n)
noncomputable def bJ (k:Int):List Srt->List (Int×Str)
 | []=>[]
 | q::r=>q.downs.map (fun x=>(k,x))++bJ (k+1) r
noncomputable def ce (o:Srt) (qs:List Srt):List (Int×Str):=o.ups.map (fun x=>(-1,x))++bJ 0 qs
noncomputable def tgV (t:Int×Str):List V:=[.int t.1,.str t.2]
theorem iE (k:Int): ∀ (qs:List Srt),(∀ s∈qs,s.ok)->(bJ k qs).length<=3*qs.length:=by
 intro qs
 induction qs generalizing k with
 | nil=>intro _;exact Nat.le_refl _
 | cons q r ih=>
  intro h
  have h1:=ih (k+1) fun s hs=>h s (List.mem_cons_of_mem _ hs)
  have h2:=(h q List.mem_cons_self).2.2.1
  unfold bJ
  rw [List.length_append,List.length_map,List.length_cons]
  omega
theorem gX (k:Int): ∀ (qs:List Srt) (q:Srt),bJ k (qs++[q])=bJ k qs++q.downs.map (fun x=>(k+qs.length,x)):=by
 intro qs
 induction qs generalizing k with
 | nil=>intro q;show q.downs.map (fun x=>(k,x))++[]=_;rw [List.append_nil];show _=q.downs.map (fun x=>(k+ ((0:Nat):Int),x));rw [show k+ ((0:Nat):Int)=k by omega]
 | cons r rs ih=>
  intro q
  show r.downs.map _++bJ (k+1) (rs++[q])=(r.downs.map _++bJ (k+1) rs)++_
  rw [ih,List.append_assoc]
  have:k+1+ (rs.length:Int)=k+ ((r::rs).length:Int):=by rw [List.length_cons];omega
  rw [this]
noncomputable def TabOk (H:Hp) (kvs:List (Key×V)) (ss:List Srt):Prop:= ∀ s∈ss,∃ a b c,cz kvs (.inr s.name)=some (.ref a)/\H a=some (.tup [.ref b,.ref c])/\H b=some (.tup (s.downs.map V.str))/\H c=some (.tup (s.ups.map V.str))
theorem TabOk.mono {H H':Hp} (t:TK H H') {kvs:List (Key×V)} {ss:List Srt} (h:TabOk H kvs ss):TabOk H' kvs ss:=fun s hs=>by
 obtain ⟨a,b,c,e,h1,h2,h3⟩:=h s hs
 exact ⟨a,b,c,e,t _ _ h1,t _ _ h2,t _ _ h3⟩
theorem TabOk.put {H:Hp} {kvs:List (Key×V)} {ss:List Srt} {i:Nat} {s:Srt} {a b c:Addr} (nd:(ss.map Srt.name).Nodup) (hs:ss[i]? =some s) (h:TabOk H kvs (ss.take i))
  (h1:H a=some (.tup [.ref b,.ref c])) (h2:H b=some (.tup (s.downs.map V.str))) (h3:H c=some (.tup (s.ups.map V.str))):TabOk H (cW kvs (.inr s.name) (.ref a)) (ss.take (i+1)):=by
 intro x hx
 rw [List.take_add_one,hs,List.mem_append]at hx
 rcases hx with hx | hx
 ·obtain ⟨a',b',c',e,r⟩:=h x hx
  refine ⟨a',b',c',?_,r⟩
  rw [gc,if_neg]
  ·exact e
  ·intro z
   have z:x.name=s.name:=Sum.inr.inj z
   obtain ⟨j,hj⟩:=List.getElem?_of_mem hx
   have hji:j<i:=by
    have:=(List.getElem?_eq_some_iff.mp hj).1
    rw [List.length_take]at this
    omega
   rw [List.getElem?_take,if_pos hji]at hj
   have q1:(ss.map Srt.name)[j]? =some s.name:=by rw [List.getElem?_map,hj,<- z];rfl
   have q2:(ss.map Srt.name)[i]? =some s.name:=by rw [List.getElem?_map,hs];rfl
   have:=ff nd q1 q2
   omega
 ·have hx:x=s:=by simpa using hx
  subst hx
  exact ⟨a,b,c,by rw [gc,if_pos rfl],h1,h2,h3⟩
noncomputable def SrtsAt (H:Hp) (a:Addr) (ss:List Srt):Prop:= ∃ xs,H a=some (.tup xs)/\RepSs H ss xs
theorem SrtsAt.mono {H H':Hp} (t:TK H H') {a:Addr} {ss:List Srt}:SrtsAt H a ss->SrtsAt H' a ss:=fun ⟨xs,h,r⟩=>⟨xs,t _ _ h,r.mono t⟩
noncomputable def gL:Sp:=fun vs H Q _=> ∃ sa pa ss o qs,vs=[.ref sa,.str (Srt.name o),.ref pa]/\SrtsAt H sa ss/\cB ss/\o∈ss/\H pa=some (.tup (qs.map fun q=>V.str (Srt.name q)))/\(∀ q∈qs,q∈ss)/\qs.length<=3/\
 ∀ p zs H',H p=none->Same H H'->H' p=some (.lst zs)->Tups H' ((ce o qs).map tgV) zs->Q (.ref p) H'
theorem scTargets:au ["sorts","own","parts","table","name","downs","ups","found","k"] ["sorts","own","parts"] (ag eR):=fsc
theorem oh (F:Fun K "_law_targets" "_law_targets" eR f fd) (G:Gb mg):
  FnOk P w K mg base CX0 1 f fd ["sorts","own","parts"] gL:=by
 refine F.ok scTargets (fun vs H Q E h=>?_) (fun cdv A outer s H vs Q E hr h=>?_)
 ·obtain ⟨sa,pa,ss,o,qs,rfl,_⟩:=h
  rfl
 obtain ⟨sa,pa,ss,o,qs,rfl,⟨xs,hsa,hR⟩,hok,ho,hpa,hqs,hql,q⟩:=h
 have hu:=jg hr
 refine ⟨_,ad (aq (i:=3) scTargets.nd rfl (Or.inl rfl) mh)
  (ad (bQ PassesOwn.never rfl (bd (pv 0)) (eC rfl (aU (aH (i:=4) scTargets.nd rfl (Or.inl rfl)) (aU (aH (i:=5) scTargets.nd rfl (Or.inl rfl)) (aU (aH (i:=6) scTargets.nd rfl (Or.inl rfl)) dj))))
   (aj (gi hu (pv 3) (pv 4) (aJ (aa (pv 5) (aa (pv 6) ab))) rfl)))
  (ad (dE (i:=7) (sc0:=ag eR) (N0:=["sorts","own","parts","table","name","downs","ups","found","k"]) (ys:=[]) (fr:=[]) rfl scTargets.nd rfl (Or.inl rfl)
    (bd (av ay (gk hu (pv 3) (pv 1) (fun _ _=>rfl)) ae (fun _ _=>rfl))) rfl rfl
    cok
    (fun C s H ex=>aJ (aa (ic eK ae) (aa (pv 0) ab))))
  (ad (bQ PassesOwn.never rfl (bq rfl G.range (aa (ao ar rfl G.len PySem.boot_len (aa (pv 2) ab)) ab)) (aH (i:=8) scTargets.nd rfl (Or.inr rfl))
   (aj (cq (dF PySem.F.plainAttrs_list PySem.F.slot_list_extend PySem.F.type_list_extend fB (pv 7) (aa
    (br (sc0:=ag eR) (N0:=["sorts","own","parts","table","name","downs","ups","found","k"]) (ys:=["k"]) (fr:=[8]) rfl
     (bd (av ay (gk hu (pv 3) (av ay (pv 2) (pv 8) (fun _ _=>rfl)) (fun _ _=>rfl)) ae (fun _ _=>rfl))) rfl rfl
     cok
     (fun C s H ex=>aJ (aa (pv 1) (aa (pv 0) ab)))) ab)))))
  (aj (aw (pv 7)))))),?_⟩
 refine fun td htd=>?_
 have s0:=ah htd (.dK [])
 have g0:(upd H td (.dK [])) td=some (.dK []):=ac
 generalize upd H td (.dK [])=H0 at s0 g0 ⊢
 have hlen:=hR.len
 refine ⟨_,rfl,sa,rfl,⟨xs,SqT.of (s0 _ _ hsa)⟩,?_⟩
 refine dk (xs:=xs) (fun i Z H'=>i<=xs.length/\ ∃ o4 o5 o6 kvs,Z=[some (.ref sa),some (.str o.name),some (.ref pa),some (.ref td),o4,o5,o6,none,none]/\Same H H'/\H' td=some (.dK kvs)/\kvs.length<=i/\TabOk H' kvs (ss.take i))
  ⟨Nat.zero_le _,none,none,none,[],rfl,s0,g0,Nat.le_refl _,fun s hs=>(by cases hs)⟩ (fun i Z H' _ h=>by obtain ⟨_,_,_,_,_,_,sm,_⟩:=h;exact SqT.of (sm _ _ hsa)) ?_ ?_
 ·rintro i x Z H1 hx ⟨hi,o4,o5,o6,kvs,rfl,sm,gd,hl,hT⟩
  have hlt:i<xs.length:=(List.getElem?_eq_some_iff.mp hx).1
  obtain ⟨sr,hsr,a,b,c,rfl,ha,hb,hc⟩:=aN hR hx
  refine ⟨a,_,rfl,SqT.of (sm _ _ ha),rfl,_,_,rfl,_,_,rfl,_,_,rfl,rfl,?_⟩
  refine ⟨_,rfl,_,rfl,(by show 2<=sizeLine;decide),fun pt hpt=>?_⟩
  have s1:=ah hpt (.tup [.ref b,.ref c])
  have g1:(upd H1 pt (.tup [.ref b,.ref c])) pt=some (.tup [.ref b,.ref c]):=ac
  generalize upd H1 pt (.tup [.ref b,.ref c])=H2 at s1 g1 ⊢
  have gd2:=s1 _ _ gd
  have S2:Same H H2:=sm.trans s1
  refine ⟨_,rfl,_,rfl,td,_,rfl,DPut.k (k:=.inr sr.name) gd2 (aA (by have:=hok.2.1;omega)),?_⟩
  have tk:TK H2 (upd H2 td (.dK (cW kvs (.inr sr.name) (.ref pt)))):=TK.upd fun ys e=>by rw [gd2]at e;cases e
  refine ⟨hlt,_,_,_,_,rfl,?_,ac,?_,?_⟩
  ·intro y oo h
   rw [am (ai h htd)]
   exact S2 _ _ h
  ·have:=cx kvs (.inr sr.name) (.ref pt)
   omega
  ·exact TabOk.put hok.2.2.1 hsr (hT.mono ((ax s1).trans tk)) (tk _ _ g1) (tk _ _ (S2 _ _ hb)) (tk _ _ (S2 _ _ hc))
 ·rintro Z H1 ⟨_,o4,o5,o6,kvs,rfl,sm,gd,hl,hT⟩
  rw [<- hlen,List.take_length]at hT
  obtain ⟨a,b,c,eo,ha,hb,hc⟩:=hT o ho
  refine ⟨_,rfl,_,rfl,td,.ref a,rfl,(by rw [<- eo];exact DGet.k (k:=.inr o.name) gd),a,_,1,.ref c,rfl,rfl,SqT.of ha,aG (j:=1) rfl,c,rfl,⟨_,SqT.of hc⟩,?_⟩
  have lo:o.ups.length<=3:=(hok.2.2.2.2 o ho).2.2.2.1
  refine ed (by rw [List.length_map];omega) hc (fun v=>[.int (-1),v]) (fun v H k _ hk=>⟨1,rfl,_,rfl,(by show 2<=sizeLine;decide),fun p hp=>hk p hp⟩) fun fl zs H2 hfl s2 gfl hTz=>?_
  have ez:(o.ups.map V.str).map (fun v=>[V.int (-1),v])=(o.ups.map fun x=>((-1:Int),x)).map tgV:=by rw [List.map_map,List.map_map];rfl
  rw [ez]at hTz
  have S2:Same H H2:=sm.trans s2
  have hfl0:H fl=none:=sm.free hfl
  have gd2:=s2 _ _ gd
  have hT2:=hT.mono (ax s2)
  have dfl:fl≠td:=Ne.symm (ai gd hfl)
  have hlp:(qs.map fun q=>V.str (Srt.name q)).length=qs.length:=List.length_map _
  refine ⟨_,rfl,pa,_,rfl,.inr (SqT.of (S2 _ _ hpa)),_,rfl,by omega,by omega,?_⟩
  refine cL (fun i Z H'=> ∃ o8 zs,Z=[some (.ref sa),some (.str o.name),some (.ref pa),some (.ref td),o4,o5,o6,some (.ref fl),o8]/\Same H H'/\H' td=some (.dK kvs)/\TabOk H' kvs ss/\H' fl=some (.lst zs)/\
    Tups H' ((o.ups.map (fun x=>((-1:Int),x))++bJ 0 (qs.take i)).map tgV) zs)
   ⟨none,zs,rfl,S2,gd2,hT2,gfl,by rw [List.take_zero];show Tups H2 ((_++[]).map tgV) zs;rw [List.append_nil];exact hTz⟩ ?_ ?_
  ·rintro i Z H3 hi ⟨o8,zs3,rfl,S3,gd3,hT3,gfl3,hTz3⟩
   have hi':i<qs.length:=by omega
   obtain ⟨sq,hsq⟩: ∃ sq,qs[i]? =some sq:=⟨qs[i],List.getElem?_eq_getElem hi'⟩
   obtain ⟨a,b,c,eq,ha,hb,hc⟩:=hT3 sq (hqs sq (List.mem_of_getElem? hsq))
   have eat:atI (qs.map fun q=>V.str (Srt.name q)) (0+ (i:Int))=some (V.str sq.name):=by
    rw [Int.zero_add]
    exact aG (by rw [List.getElem?_map,hsq];rfl)
   refine ⟨_,rfl,.inl ⟨rfl,_,SqL.of gfl3⟩,?_⟩
   refine ⟨_,rfl,_,rfl,_,rfl,pa,_,_,_,rfl,rfl,SqT.of (S3 _ _ hpa),eat,td,.ref a,rfl,(by rw [<- eq];exact DGet.k (k:=.inr sq.name) gd3),a,_,0,.ref b,rfl,rfl,SqT.of ha,bV,b,rfl,⟨_,SqT.of hb⟩,?_⟩
   have ld:sq.downs.length<=3:=(hok.2.2.2.2 sq (hqs sq (List.mem_of_getElem? hsq))).2.2.1
   refine ed (by rw [List.length_map];omega) hb (fun v=>[.int (0+ (i:Int)),v]) (fun v H k _ hk=>⟨_,rfl,_,rfl,(by show 2<=sizeLine;decide),fun p hp=>hk p hp⟩) fun pl ws H4 hpl s4 gpl hTw=>?_
   have ew:(sq.downs.map V.str).map (fun v=>[V.int (0+ (i:Int)),v])=(sq.downs.map fun x=>(0+ (i:Int),x)).map tgV:=by rw [List.map_map,List.map_map];rfl
   rw [ew]at hTw
   have gfl4:=s4 _ _ gfl3
   have lz:=hTz3.len
   have lw:=hTw.len
   have lt:=iE 0 (qs.take i) fun s hs=>hok.2.2.2.2 s (hqs s (List.mem_of_mem_take hs))
   rw [List.length_map,List.length_append,List.length_map]at lz
   rw [List.length_map,List.length_map]at lw
   rw [List.length_take]at lt
   refine ⟨fl,pl,zs3,ws,rfl,rfl,gfl4,gpl,Nat.le_of_lt (aA (by omega)),?_⟩
   have tk:TK H4 (upd H4 fl (.lst (zs3++ws))):=TK.lst gfl4
   have tk3:TK H3 (upd H4 fl (.lst (zs3++ws))):=(ax s4).trans tk
   refine ⟨_,zs3++ws,rfl,?_,?_,hT3.mono tk3,ac,?_⟩
   ·intro y oo h
    rw [am (ai h hfl0)]
    exact s4 _ _ (S3 _ _ h)
   ·rw [am (Ne.symm dfl)]
    exact s4 _ _ gd3
   ·rw [List.take_add_one,hsq]
    show Tups _ ((_++bJ 0 (qs.take i++[sq])).map tgV) _
    rw [gX,<- List.append_assoc,List.map_append]
    have e9:(0:Int) + ((qs.take i).length:Int)=0+ (i:Int):=by rw [List.length_take];omega
    rw [e9]
    exact (hTz3.mono tk3).append (hTw.mono tk)
  ·rintro Z H3 ⟨o8,zs3,rfl,S3,gd3,hT3,gfl3,hTz3⟩
   have e9:qs.take (((qs.map fun q=>V.str (Srt.name q)).length:Int)).toNat=qs:=by rw [hlp];exact List.take_of_length_le (by omega)
   rw [e9]at hTz3
   exact ⟨_,rfl,q fl zs3 H3 hfl0 S3 gfl3 hTz3⟩
noncomputable def bt (k:Int):List Srt->List Fm
 | []=>[]
 | q::r=>q.ups.map (fun x=>Fm.part k x)++bt (k+1) r
noncomputable def tgF (t:Int×Str):Fm:=if t.1<0 then .own t.2 else .part t.1 t.2
noncomputable def dO (o:Srt) (qs:List Srt) (mode j:Int):List (Int×Str):=if mode=2 then (ce o qs).take j.toNat else ce o qs
noncomputable def rds (o:Srt) (qs:List Srt) (mode j:Int):List Fm:=(o.downs.map Fm.own++bt 0 qs)++(if mode>0 then (dO o qs mode j).map tgF else [])
noncomputable def fmV:Fm->List V
 | .own x=>[.str "own",.str x]
 | .part k x=>[.str "part",.int k,.str x]
 | _=>[]
theorem dy (k:Int): ∀ (qs:List Srt),(∀ s∈qs,s.ok)->(bt k qs).length<=3*qs.length:=by
 intro qs
 induction qs generalizing k with
 | nil=>intro _;exact Nat.le_refl _
 | cons q r ih=>
  intro h
  have h1:=ih (k+1) fun s hs=>h s (List.mem_cons_of_mem _ hs)
  have h2:=(h q List.mem_cons_self).2.2.2.1
  unfold bt
  rw [List.length_append,List.length_map,List.length_cons]
  omega
theorem ib (k:Int): ∀ (qs:List Srt) (q:Srt),bt k (qs++[q])=bt k qs++q.ups.map (fun x=>Fm.part (k+qs.length) x):=by
 intro qs
 induction qs generalizing k with
 | nil=>intro q;show q.ups.map (fun x=>Fm.part k x)++[]=_;rw [List.append_nil];show _=q.ups.map (fun x=>Fm.part (k+ ((0:Nat):Int)) x);rw [show k+ ((0:Nat):Int)=k by omega]
 | cons r rs ih=>
  intro q
  show r.ups.map _++bt (k+1) (rs++[q])=(r.ups.map _++bt (k+1) rs)++_
  rw [ih,List.append_assoc]
  have:k+1+ (rs.length:Int)=k+ ((r::rs).length:Int):=by rw [List.length_cons];omega
  rw [this]
theorem iB {ss:List Srt} {o:Srt} {qs:List Srt} (hok: ∀ s∈ss,s.ok) (ho:o∈ss) (hq: ∀ q∈qs,q∈ss) (hl:qs.length<=3):(ce o qs).length<=12:=by
 have h1:=iE 0 qs fun s hs=>hok s (hq s hs)
 have h2:=(hok o ho).2.2.2.1
 unfold ce
 rw [List.length_append,List.length_map]
 omega
theorem jy (o:Srt) (qs:List Srt) (mode j:Int):(dO o qs mode j).length<=(ce o qs).length:=by
 unfold dO
 by_cases c:mode=2
 ·rw [if_pos c,List.length_take];exact Nat.min_le_right _ _
 ·rw [if_neg c];exact Nat.le_refl _
noncomputable def h8:Sp:=fun vs H Q _=> ∃ sa pa ss o qs mode j,vs=[.ref sa,.str (Srt.name o),.ref pa,.int mode,.int j]/\SrtsAt H sa ss/\cB ss/\o∈ss/\H pa=some (.tup (qs.map fun q=>V.str (Srt.name q)))/\(∀ q∈qs,q∈ss)/\qs.length<=3/\
 0<=j/\j<=(ce o qs).length/\ ∀ p zs H',H p=none->Same H H'->H' p=some (.lst zs)->Tups H' ((rds o qs mode j).map fmV) zs->Q (.ref p) H'
theorem wq {z u:V} (k:Bool):atI [z,u] (if k then 1 else 0)=some (if k then u else z):=by cases k <;> rfl
theorem scLReadings:au ["sorts","own","parts","mode","j","table","name","downs","ups","word","found","k","targets","at"] ["sorts","own","parts","mode","j"] (ag dw):=fsc
theorem lm (F:Fun K "_law_readings" "_law_readings" dw f fd) (G:Gb mg) (GT:FnOk P w K mg base CX0 1 g gd ["sorts","own","parts"] gL) (bT:Binds K gd ["sorts","own","parts"] []) (kT:PySem.W.keepIn K (.ref g)=true) (mT:mg "_law_targets"=some (.ref g)):
  FnOk P w K mg base CX0 2 f fd ["sorts","own","parts","mode","j"] h8:=by
 refine F.ok scLReadings (fun vs H Q E h=>?_) (fun cdv A outer s H vs Q E hr h=>?_)
 ·obtain ⟨sa,pa,ss,o,qs,mode,j,rfl,_⟩:=h
  rfl
 obtain ⟨sa,pa,ss,o,qs,mode,j,rfl,⟨xs,hsa,hR⟩,hok,ho,hpa,hqs,hql,hj0,hj1,q⟩:=h
 have hu:=jg hr
 refine ⟨_,ad (aq (i:=5) scLReadings.nd rfl (Or.inl rfl) mh)
  (ad (bQ PassesOwn.never rfl (bd (pv 0)) (eC rfl (aU (aH (i:=6) scLReadings.nd rfl (Or.inl rfl)) (aU (aH (i:=7) scLReadings.nd rfl (Or.inl rfl)) (aU (aH (i:=8) scLReadings.nd rfl (Or.inl rfl)) dj))))
   (aj (gi hu (pv 5) (pv 6) (aJ (aa (pv 7) (aa (pv 8) ab))) rfl)))
  (ad (dE (i:=10) (sc0:=ag dw) (N0:=["sorts","own","parts","mode","j","table","name","downs","ups","word","found","k","targets","at"]) (ys:=[]) (fr:=[]) rfl scLReadings.nd rfl (Or.inl rfl)
    (bd (av ay (gk hu (pv 5) (pv 1) (fun _ _=>rfl)) ae (fun _ _=>rfl))) rfl rfl
    cok
    (fun C s H ex=>aJ (aa aP (aa (pv 0) ab))))
  (ad (bQ PassesOwn.never rfl (bq rfl G.range (aa (ao ar rfl G.len PySem.boot_len (aa (pv 2) ab)) ab)) (aH (i:=11) scLReadings.nd rfl (Or.inr rfl))
   (aj (cq (dF PySem.F.plainAttrs_list PySem.F.slot_list_extend PySem.F.type_list_extend fB (pv 10) (aa
    (br (sc0:=ag dw) (N0:=["sorts","own","parts","mode","j","table","name","downs","ups","word","found","k","targets","at"]) (ys:=["k"]) (fr:=[11]) rfl
     (bd (av ay (gk hu (pv 5) (av ay (pv 2) (pv 11) (fun _ _=>rfl)) (fun _ _=>rfl)) ae (fun _ _=>rfl))) rfl rfl
     cok
     (fun C s H ex=>aJ (aa aP (aa (pv 1) (aa (pv 0) ab))))) ab)))))
  (ad (aq (i:=12) scLReadings.nd rfl (Or.inl rfl) (af GT hr rfl mT kT bT .nil al (aa (pv 0) (aa (pv 1) (aa (pv 2) ab)))))
  (ad (aL (aF bj (pv 3) ae (aE _)) (aj (aq (i:=12) scLReadings.nd rfl (Or.inl rfl) (a7 cG (pv 12) bp (bh (pv 4))))) aC)
  (ad (bQ PassesOwn.never rfl (cY (pv 12)) (eC rfl (aU (aH (i:=13) scLReadings.nd rfl (Or.inl rfl)) (aU (aH (i:=9) scLReadings.nd rfl (Or.inl rfl)) dj)))
   (aj (aL (aF jI (pv 3) ae (aE _))
    (aj (cq (dF PySem.F.plainAttrs_list PySem.F.slot_list_append PySem.F.type_list_append bZ (pv 10) (aa
     (av aM (bf (aa (aJ (aa aP (aa (pv 13) (aa (pv 9) ab)))) (aa (aJ (aa aP (aa (pv 9) ab))) ab)))
      (bg fG rfl G.int (by decide +kernel) (aa (bm fI (pv 13) ae (aE _)) ab)) (fun _ _=>rfl)) ab)))) aC)))
  (aj (aw (pv 10))))))))),?_⟩
 refine fun td htd=>?_
 have s0:=ah htd (.dK [])
 have g0:(upd H td (.dK [])) td=some (.dK []):=ac
 generalize upd H td (.dK [])=H0 at s0 g0 ⊢
 have hlen:=hR.len
 refine ⟨_,rfl,sa,rfl,⟨xs,SqT.of (s0 _ _ hsa)⟩,?_⟩
 refine dk (xs:=xs) (fun i Z H'=>i<=xs.length/\ ∃ o4 o5 o6 kvs,Z=[some (.ref sa),some (.str o.name),some (.ref pa),some (.int mode),some (.int j),some (.ref td),o4,o5,o6,none,none,none,none,none]/\Same H H'/\H' td=some (.dK kvs)/\kvs.length<=i/\TabOk H' kvs (ss.take i))
  ⟨Nat.zero_le _,none,none,none,[],rfl,s0,g0,Nat.le_refl _,fun s hs=>(by cases hs)⟩ (fun i Z H' _ h=>by obtain ⟨_,_,_,_,_,_,sm,_⟩:=h;exact SqT.of (sm _ _ hsa)) ?_ ?_
 ·rintro i x Z H1 hx ⟨hi,o4,o5,o6,kvs,rfl,sm,gd,hl,hT⟩
  have hlt:i<xs.length:=(List.getElem?_eq_some_iff.mp hx).1
  obtain ⟨sr,hsr,a,b,c,rfl,ha,hb,hc⟩:=aN hR hx
  refine ⟨a,_,rfl,SqT.of (sm _ _ ha),rfl,_,_,rfl,_,_,rfl,_,_,rfl,rfl,?_⟩
  refine ⟨_,rfl,_,rfl,(by show 2<=sizeLine;decide),fun pt hpt=>?_⟩
  have s1:=ah hpt (.tup [.ref b,.ref c])
  have g1:(upd H1 pt (.tup [.ref b,.ref c])) pt=some (.tup [.ref b,.ref c]):=ac
  generalize upd H1 pt (.tup [.ref b,.ref c])=H2 at s1 g1 ⊢
  have gd2:=s1 _ _ gd
  have S2:Same H H2:=sm.trans s1
  refine ⟨_,rfl,_,rfl,td,_,rfl,DPut.k (k:=.inr sr.name) gd2 (aA (by have:=hok.2.1;omega)),?_⟩
  have tk:TK H2 (upd H2 td (.dK (cW kvs (.inr sr.name) (.ref pt)))):=TK.upd fun ys e=>by rw [gd2]at e;cases e
  refine ⟨hlt,_,_,_,_,rfl,?_,ac,?_,?_⟩
  ·intro y oo h
   rw [am (ai h htd)]
   exact S2 _ _ h
  ·have:=cx kvs (.inr sr.name) (.ref pt)
   omega
  ·exact TabOk.put hok.2.2.1 hsr (hT.mono ((ax s1).trans tk)) (tk _ _ g1) (tk _ _ (S2 _ _ hb)) (tk _ _ (S2 _ _ hc))
 ·rintro Z H1 ⟨_,o4,o5,o6,kvs,rfl,sm,gd,hl,hT⟩
  rw [<- hlen,List.take_length]at hT
  obtain ⟨a,b,c,eo,ha,hb,hc⟩:=hT o ho
  refine ⟨_,rfl,_,rfl,td,.ref a,rfl,(by rw [<- eo];exact DGet.k (k:=.inr o.name) gd),a,_,0,.ref b,rfl,rfl,SqT.of ha,bV,b,rfl,⟨_,SqT.of hb⟩,?_⟩
  have lo:o.downs.length<=3:=(hok.2.2.2.2 o ho).2.2.1
  refine ed (by rw [List.length_map];omega) hb (fun v=>[.str "own",v]) (fun v H k _ hk=>⟨_,rfl,(by show 2<=sizeLine;decide),fun p hp=>hk p hp⟩) fun fl zs H2 hfl s2 gfl hTz=>?_
  have ez:(o.downs.map V.str).map (fun v=>[V.str "own",v])=(o.downs.map Fm.own).map fmV:=by rw [List.map_map,List.map_map];rfl
  rw [ez]at hTz
  have S2:Same H H2:=sm.trans s2
  have hfl0:H fl=none:=sm.free hfl
  have gd2:=s2 _ _ gd
  have hT2:=hT.mono (ax s2)
  have dfl:fl≠td:=Ne.symm (ai gd hfl)
  have hlp:(qs.map fun q=>V.str (Srt.name q)).length=qs.length:=List.length_map _
  refine ⟨_,rfl,pa,_,rfl,.inr (SqT.of (S2 _ _ hpa)),_,rfl,by omega,by omega,?_⟩
  refine cL (fun i Z H'=> ∃ o8 zs,Z=[some (.ref sa),some (.str o.name),some (.ref pa),some (.int mode),some (.int j),some (.ref td),o4,o5,o6,none,some (.ref fl),o8,none,none]/\Same H H'/\H' td=some (.dK kvs)/\TabOk H' kvs ss/\H' fl=some (.lst zs)/\
    Tups H' ((o.downs.map Fm.own++bt 0 (qs.take i)).map fmV) zs)
   ⟨none,zs,rfl,S2,gd2,hT2,gfl,by rw [List.take_zero];show Tups H2 ((_++[]).map fmV) zs;rw [List.append_nil];exact hTz⟩ ?_ ?_
  ·rintro i Z H3 hi ⟨o8,zs3,rfl,S3,gd3,hT3,gfl3,hTz3⟩
   have hi':i<qs.length:=by omega
   obtain ⟨sq,hsq⟩: ∃ sq,qs[i]? =some sq:=⟨qs[i],List.getElem?_eq_getElem hi'⟩
   obtain ⟨a,b,c,eq,ha,hb,hc⟩:=hT3 sq (hqs sq (List.mem_of_getElem? hsq))
   have eat:atI (qs.map fun q=>V.str (Srt.name q)) (0+ (i:Int))=some (V.str sq.name):=by
    rw [Int.zero_add]
    exact aG (by rw [List.getElem?_map,hsq];rfl)
   refine ⟨_,rfl,.inl ⟨rfl,_,SqL.of gfl3⟩,?_⟩
   refine ⟨_,rfl,_,rfl,_,rfl,pa,_,_,_,rfl,rfl,SqT.of (S3 _ _ hpa),eat,td,.ref a,rfl,(by rw [<- eq];exact DGet.k (k:=.inr sq.name) gd3),a,_,1,.ref c,rfl,rfl,SqT.of ha,aG (j:=1) rfl,c,rfl,⟨_,SqT.of hc⟩,?_⟩
   have ld:sq.ups.length<=3:=(hok.2.2.2.2 sq (hqs sq (List.mem_of_getElem? hsq))).2.2.2.1
   refine ed (by rw [List.length_map];omega) hc (fun v=>[.str "part",.int (0+ (i:Int)),v]) (fun v H k _ hk=>⟨_,rfl,_,rfl,(by show 3<=sizeLine;decide),fun p hp=>hk p hp⟩) fun pl ws H4 hpl s4 gpl hTw=>?_
   have ew:(sq.ups.map V.str).map (fun v=>[V.str "part",V.int (0+ (i:Int)),v])=(sq.ups.map fun x=>Fm.part (0+ (i:Int)) x).map fmV:=by rw [List.map_map,List.map_map];rfl
   rw [ew]at hTw
   have gfl4:=s4 _ _ gfl3
   have lz:=hTz3.len
   have lw:=hTw.len
   have lt:=dy 0 (qs.take i) fun s hs=>hok.2.2.2.2 s (hqs s (List.mem_of_mem_take hs))
   rw [List.length_map,List.length_append,List.length_map]at lz
   rw [List.length_map,List.length_map]at lw
   rw [List.length_take]at lt
   refine ⟨fl,pl,zs3,ws,rfl,rfl,gfl4,gpl,Nat.le_of_lt (aA (by omega)),?_⟩
   have tk:TK H4 (upd H4 fl (.lst (zs3++ws))):=TK.lst gfl4
   have tk3:TK H3 (upd H4 fl (.lst (zs3++ws))):=(ax s4).trans tk
   refine ⟨_,zs3++ws,rfl,?_,?_,hT3.mono tk3,ac,?_⟩
   ·intro y oo h
    rw [am (ai h hfl0)]
    exact s4 _ _ (S3 _ _ h)
   ·rw [am (Ne.symm dfl)]
    exact s4 _ _ gd3
   ·rw [List.take_add_one,hsq]
    show Tups _ ((_++bt 0 (qs.take i++[sq])).map fmV) _
    rw [ib,<- List.append_assoc,List.map_append]
    have e9:(0:Int) + ((qs.take i).length:Int)=0+ (i:Int):=by rw [List.length_take];omega
    rw [e9]
    exact (hTz3.mono tk3).append (hTw.mono tk)
  ·rintro Z H3 ⟨o8,zs3,rfl,S3,gd3,hT3,gfl3,hTz3⟩
   have e9:qs.take (((qs.map fun q=>V.str (Srt.name q)).length:Int)).toNat=qs:=by rw [hlp];exact List.take_of_length_le (by omega)
   rw [e9]at hTz3
   have lt12:=iB hok.2.2.2.2 ho hqs hql
   have l12:zs3.length<=12:=by
    have lt:=dy 0 qs fun s hs=>hok.2.2.2.2 s (hqs s hs)
    have lz:=hTz3.len
    rw [List.length_map,List.length_append,List.length_map]at lz
    omega
   refine ⟨_,rfl,_,rfl,_,rfl,sa,pa,ss,o,qs,rfl,⟨xs,S3 _ _ hsa,hR.mono (ax S3)⟩,hok,ho,S3 _ _ hpa,hqs,hql,fun tl zt H4 htl s4 gtl hTt=>?_⟩
   have S4:Same H H4:=S3.trans s4
   have gfl4:=s4 _ _ gfl3
   have hTz4:=hTz3.mono (ax s4)
   have nft:fl≠tl:=ai gfl3 htl
   refine ⟨_,rfl,rfl,_,rfl,?_⟩
   refine bx (fun c=>?A) (fun c=>?B)
   case' A=>
    have cm:mode=2:=V.int.inj (of_decide_eq_true c)
    have lzt:zt.length=(ce o qs).length:=by rw [<- hTt.len,List.length_map]
    refine ⟨_,rfl,_,rfl,j,rfl,tl,zt,rfl,SqL.of gtl,fun tl2 htl2=>?_⟩
    rw [dC zt hj0 (by omega)]
    have hsel:Tups H4 ((dO o qs mode j).map tgV) (zt.take j.toNat):=by
     unfold dO
     rw [if_pos cm,List.map_take]
     exact dG hTt _
    have s5:=ah htl2 (.lst (zt.take j.toNat))
    have gt:(upd H4 tl2 (.lst (zt.take j.toNat))) tl2=some (.lst (zt.take j.toNat)):=ac
    have nft2:fl≠tl2:=ai gfl4 htl2
    have gfl5:=s5 _ _ gfl4
    have hTz5:=hTz4.mono (ax s5)
    have hsel5:=hsel.mono (ax s5)
    have S5:Same H (upd H4 tl2 (.lst (zt.take j.toNat))):=S4.trans s5
    generalize upd H4 tl2 (.lst (zt.take j.toNat))=H5 at gt gfl5 hTz5 hsel5 S5 ⊢
    generalize zt.take j.toNat=zu at gt hsel5
    generalize tl2=tx at gt nft2 ⊢
   case' B=>
    have cm: ¬ mode=2:=fun e=>c (decide_eq_true (by rw [e]))
    have hsel5:Tups H4 ((dO o qs mode j).map tgV) zt:=by
     unfold dO
     rw [if_neg cm]
     exact hTt
    have gt:=gtl
    have nft2:=nft
    have gfl5:=gfl4
    have hTz5:=hTz4
    have S5:=S4
    generalize H4=H5 at gt gfl5 hTz5 hsel5 S5 ⊢
    generalize zt=zu at gt hsel5
    generalize tl=tx at gt nft2 ⊢
   all_goals
    have ltg:(dO o qs mode j).length<=12:=Nat.le_trans (jy o qs mode j) lt12
    have lzu:zu.length=(dO o qs mode j).length:=by rw [<- hsel5.len,List.length_map]
    have hrd:rds o qs mode j=(o.downs.map Fm.own++bt 0 qs)++(if mode>0 then (dO o qs mode j).map tgF else []):=rfl
    generalize dO o qs mode j=tg at ltg lzu hrd hsel5
    have e0:(if mode>0 then (tg.take 0).map tgF else [])=[]:=by split <;> rfl
    refine ⟨_,rfl,tx,rfl,⟨zu,SqL.of gt⟩,?_⟩
    refine gx (xs:=zu) (fun i Z H'=>i<=zu.length/\ ∃ o9 zs o13,Z=[some (.ref sa),some (.str o.name),some (.ref pa),some (.int mode),some (.int j),some (.ref td),o4,o5,o6,o9,some (.ref fl),o8,some (.ref tx),o13]/\Same H H'/\H' tx=some (.lst zu)/\Tups H' (tg.map tgV) zu/\H' fl=some (.lst zs)/\zs.length<=12+i/\
      Tups H' (((o.downs.map Fm.own++bt 0 qs)++(if mode>0 then (tg.take i).map tgF else [])).map fmV) zs)
     ⟨Nat.zero_le _,none,zs3,none,rfl,S5,gt,hsel5,gfl5,l12,by rw [e0,List.append_nil];exact hTz5⟩ (fun i Z H' _ h=>by obtain ⟨_,_,_,_,_,_,gg,_⟩:=h;exact SqL.of gg) ?_ ?_
    ·rintro i x Z H6 hx ⟨hi,o9,zs6,o13,rfl,S6,gt6,hsel6,gfl6,l6,hT6⟩
     have hlt:i<zu.length:=(List.getElem?_eq_some_iff.mp hx).1
     obtain ⟨ys,hys,a,rfl,ha⟩:=aN hsel6 hx
     obtain ⟨t,ht,rfl⟩: ∃ t,tg[i]? =some t/\tgV t=ys:=by
      rw [List.getElem?_map]at hys
      cases he:tg[i]? with
      | none=>rw [he]at hys;cases hys
      | some t=>rw [he]at hys;exact ⟨t,rfl,Option.some.inj hys⟩
     refine ⟨a,_,rfl,SqT.of ha,rfl,_,_,rfl,_,_,rfl,rfl,?_⟩
     refine ⟨_,rfl,_,_,rfl,rfl,_,rfl,?_⟩
     refine bx (fun cm=>?_) (fun cm=>?_)
     ·have cm':mode>0:=of_decide_eq_true cm
      refine ⟨_,rfl,.inl ⟨rfl,_,SqL.of gfl6⟩,?_⟩
      refine ⟨_,rfl,_,rfl,(by show 3<=sizeLine;decide),fun p1 hp1=>?_⟩
      have s1:=ah hp1 (.tup [.str "part",.int t.1,.str t.2])
      have g1:(upd H6 p1 (.tup [.str "part",.int t.1,.str t.2])) p1=some (.tup [.str "part",.int t.1,.str t.2]):=ac
      generalize upd H6 p1 (.tup [.str "part",.int t.1,.str t.2])=H7 at s1 g1 ⊢
      refine ⟨_,rfl,(by show 2<=sizeLine;decide),fun p2 hp2=>?_⟩
      have s2:=ah hp2 (.tup [.str "own",.str t.2])
      have g2:(upd H7 p2 (.tup [.str "own",.str t.2])) p2=some (.tup [.str "own",.str t.2]):=ac
      generalize upd H7 p2 (.tup [.str "own",.str t.2])=H8 at s2 g2 ⊢
      refine ⟨(by show 2<=sizeLine;decide),fun p3 hp3=>?_⟩
      have s3:=ah hp3 (.lst [.ref p1,.ref p2])
      have g3:(upd H8 p3 (.lst [.ref p1,.ref p2])) p3=some (.lst [.ref p1,.ref p2]):=ac
      generalize upd H8 p3 (.lst [.ref p1,.ref p2])=H9 at s3 g3 ⊢
      have S69:Same H6 H9:=s1.trans (s2.trans s3)
      refine ⟨_,rfl,_,_,rfl,rfl,.inr ⟨_,rfl,p3,_,_,_,rfl,rfl,SqL.of g3,wq _,?_⟩⟩
      have gfl9:=S69 _ _ gfl6
      refine ⟨fl,zs6,_,rfl,rfl,gfl9,aA (by omega),?_⟩
      have hz:uq H9 (fmV (tgF t)) (if decide (t.1<0)=true then .ref p2 else .ref p1):=by
       by_cases cn:t.1<0
       ·rw [if_pos (decide_eq_true cn)]
        unfold tgF
        rw [if_pos cn]
        exact ⟨p2,rfl,s3 _ _ g2⟩
       ·rw [if_neg (fun e=>cn (of_decide_eq_true e))]
        unfold tgF
        rw [if_neg cn]
        exact ⟨p1,rfl,s3 _ _ (s2 _ _ g1)⟩
      generalize (if decide (t.1<0)=true then V.ref p2 else .ref p1)=zv at hz ⊢
      have tk:TK H9 (upd H9 fl (.lst (zs6++[zv]))):=TK.lst gfl9
      have tk6:TK H6 (upd H9 fl (.lst (zs6++[zv]))):=(ax S69).trans tk
      refine ⟨hlt,_,zs6++[zv],_,rfl,?_,?_,hsel6.mono tk6,ac,by rw [List.length_append];show zs6.length+1<=_;omega,?_⟩
      ·intro y oo h
       rw [am (ai h hfl0)]
       exact S69 _ _ (S6 _ _ h)
      ·rw [am (Ne.symm nft2)]
       exact S69 _ _ gt6
      ·rw [if_pos cm']at hT6 ⊢
       rw [List.take_add_one,ht]
       show Tups _ ((_++(tg.take i++[t]).map tgF).map fmV) _
       rw [List.map_append (f:=tgF),<- List.append_assoc,List.map_append (f:=fmV)]
       obtain ⟨az,ez,gz⟩:=hz
       exact Paired.snoc (hT6.mono tk6) ⟨az,ez,tk _ _ gz⟩
     ·have cm': ¬ mode>0:=fun e=>cm (decide_eq_true e)
      refine ⟨hlt,_,zs6,_,rfl,S6,gt6,hsel6,gfl6,by omega,?_⟩
      rw [if_neg cm']at hT6 ⊢
      exact hT6
    ·rintro Z H6 ⟨_,o9,zs6,o13,rfl,S6,gt6,hsel6,gfl6,l6,hT6⟩
     rw [List.take_of_length_le (by omega),<- hrd]at hT6
     exact ⟨_,rfl,q fl zs6 H6 hfl0 S6 gfl6 hT6⟩
structure Rul where
 pl:Int
 word:Str
 fm:Fm
structure Frm where
 name:Str
 own:Srt
 parts:List Srt
 rules:List Rul
noncomputable def RepR (H:Hp) (r:Rul) (v:V):Prop:= ∃ a u,v=.ref a/\H a=some (.tup [.int r.pl,.str r.word,u])/\Rep H r.fm u
theorem RepR.mono {H H':Hp} (t:TK H H') {r:Rul} {v:V}:RepR H r v->RepR H' r v:=fun ⟨a,u,e,h,p⟩=>⟨a,u,e,t _ _ h,p.mono t⟩
noncomputable def RepRs (H:Hp) (rs:List Rul) (vs:List V):Prop:=Paired (RepR H) rs vs
theorem RepRs.mono {H H':Hp} (t:TK H H') {rs:List Rul} {vs:List V} (h:RepRs H rs vs):RepRs H' rs vs:=Paired.mapP h fun _ _ r=>r.mono t
theorem RepRs.len {H:Hp} {rs:List Rul} {vs:List V} (h:RepRs H rs vs):rs.length=vs.length:=Paired.length h
noncomputable def bn (qs:List Srt):List V:=qs.map fun q=>V.str (Srt.name q)
noncomputable def RepF (H:Hp) (fr:Frm) (v:V):Prop:= ∃ a pa ra rv,v=.ref a/\H a=some (.tup [.str fr.name,.str fr.own.name,.ref pa,.ref ra])/\H pa=some (.tup (bn fr.parts))/\H ra=some (.tup rv)/\RepRs H fr.rules rv
theorem RepF.mono {H H':Hp} (t:TK H H') {fr:Frm} {v:V}:RepF H fr v->RepF H' fr v:=fun ⟨a,pa,ra,rv,e,h1,h2,h3,h4⟩=>⟨a,pa,ra,rv,e,t _ _ h1,t _ _ h2,t _ _ h3,h4.mono t⟩
noncomputable def pH (o:Srt) (qs:List Srt) (mode:Int) (rules:List Rul):Prop:=rules.map (fun r=>(r.pl,r.word))=ce o qs/\ ∀ (j:Nat) r,rules[j]? =some r->r.fm.wfp (fun f=>f∈rds o qs mode j)/\r.fm.size<=15
noncomputable def jb:Fm->Prop
 | .own x=>be x=true
 | .part k x=>(0<=k/\k<=2)/\be x=true
 | _=>False
theorem iD {k:Int}: ∀ {qs:List Srt} {t:Int×Str},t∈bJ k qs->k<=t.1/\t.1<k+qs.length/\ ∃ q∈qs,t.2∈q.downs:=by
 intro qs
 induction qs generalizing k with
 | nil=>intro t h;cases h
 | cons q r ih=>
  intro t h
  unfold bJ at h
  rw [List.mem_append]at h
  rcases h with h | h
  ·obtain ⟨x,hx,rfl⟩:=List.mem_map.mp h
   exact ⟨Int.le_refl _,by rw [List.length_cons];show k<_;omega,q,List.mem_cons_self,hx⟩
  ·obtain ⟨h1,h2,q',h3,h4⟩:=ih h
   exact ⟨by omega,by rw [List.length_cons];omega,q',List.mem_cons_of_mem _ h3,h4⟩
theorem iU {k:Int}: ∀ {qs:List Srt} {f:Fm},f∈bt k qs-> ∃ j x,f=.part j x/\k<=j/\j<k+qs.length/\ ∃ q∈qs,x∈q.ups:=by
 intro qs
 induction qs generalizing k with
 | nil=>intro t h;cases h
 | cons q r ih=>
  intro t h
  unfold bt at h
  rw [List.mem_append]at h
  rcases h with h | h
  ·obtain ⟨x,hx,rfl⟩:=List.mem_map.mp h
   exact ⟨k,x,rfl,Int.le_refl _,by rw [List.length_cons];omega,q,List.mem_cons_self,hx⟩
  ·obtain ⟨j,x,e,h1,h2,q',h3,h4⟩:=ih h
   exact ⟨j,x,e,by omega,by rw [List.length_cons];omega,q',List.mem_cons_of_mem _ h3,h4⟩
theorem qU {ss:List Srt} {o:Srt} {qs:List Srt} (hok: ∀ s∈ss,s.ok) (ho:o∈ss) (hq: ∀ q∈qs,q∈ss) (hl:qs.length<=3) {t:Int×Str} (ht:t∈ce o qs):jb (tgF t):=by
 unfold ce at ht
 rw [List.mem_append]at ht
 unfold tgF
 rcases ht with h | h
 ·obtain ⟨x,hx,rfl⟩:=List.mem_map.mp h
  rw [if_pos (show ((-1:Int),x).1<0 from (by decide:(-1:Int) <0))]
  exact (hok o ho).2.1 x (List.mem_append_right _ hx)
 ·obtain ⟨h1,h2,q,h3,h4⟩:=iD h
  rw [if_neg (by omega)]
  exact ⟨⟨h1,by omega⟩,(hok q (hq q h3)).2.1 _ (List.mem_append_left _ h4)⟩
theorem rX {ss:List Srt} {o:Srt} {qs:List Srt} {mode j:Int} (hok: ∀ s∈ss,s.ok) (ho:o∈ss) (hq: ∀ q∈qs,q∈ss) (hl:qs.length<=3) {f:Fm} (hf:f∈rds o qs mode j):jb f:=by
 unfold rds at hf
 rw [List.mem_append,List.mem_append]at hf
 rcases hf with (h | h) | h
 ·obtain ⟨x,hx,rfl⟩:=List.mem_map.mp h
  exact (hok o ho).2.1 x (List.mem_append_left _ hx)
 ·obtain ⟨k,x,rfl,h1,h2,q,h3,h4⟩:=iU h
  exact ⟨⟨h1,by omega⟩,(hok q (hq q h3)).2.1 _ (List.mem_append_right _ h4)⟩
 ·by_cases c:mode>0
  ·rw [if_pos c]at h
   obtain ⟨t,ht,rfl⟩:=List.mem_map.mp h
   refine qU hok ho hq hl ?_
   unfold dO at ht
   by_cases c2:mode=2
   ·rw [if_pos c2]at ht;exact List.mem_of_mem_take ht
   ·rw [if_neg c2]at ht;exact ht
  ·rw [if_neg c]at h;cases h
theorem iZ {α β:Type} {F:α->β->Prop}: ∀ {l:List α} {r:List β} {b:β},Paired F l r->b∈r-> ∃ a∈l,F a b:=fun {l r b} h m=>by
 obtain ⟨i,hi⟩:=List.getElem?_of_mem m
 obtain ⟨a,ha,f⟩:=aN h hi
 exact ⟨a,List.mem_of_getElem? ha,f⟩
theorem nc {H:Hp} {f:Fm} {v:V} (hl:jb f) (h:uq H (fmV f) v):Rep H f v/\f.size=1:=by
 obtain ⟨a,rfl,ha⟩:=h
 cases f with
 | own x=>exact ⟨⟨a,rfl,ha⟩,rfl⟩
 | part k x=>exact ⟨⟨a,rfl,ha⟩,rfl⟩
 | num n=>exact hl.elim
 | bin op x y=>exact hl.elim
 | whn x y z=>exact hl.elim
theorem mZ {ρ:Fm->Prop} {f:Fm} (hl:jb f) (h:ρ f):f.wfp ρ:=by
 cases f with
 | own x=>exact ⟨hl,h⟩
 | part k x=>exact ⟨hl,h⟩
 | num n=>exact hl.elim
 | bin op x y=>exact hl.elim
 | whn x y z=>exact hl.elim
theorem uE {H:Hp} {ss:List Srt} {o:Srt} {qs:List Srt} {mode j:Int} {zs:List V} (hok: ∀ s∈ss,s.ok) (ho:o∈ss) (hq: ∀ q∈qs,q∈ss) (hl:qs.length<=3) (h:Tups H ((rds o qs mode j).map fmV) zs):LvsP (fun f=>f∈rds o qs mode j) H zs:=fun v hv=>by
 obtain ⟨ys,hy,hz⟩:=iZ h hv
 obtain ⟨f,hf,rfl⟩:=List.mem_map.mp hy
 have lf:=rX hok ho hq hl hf
 obtain ⟨r,s⟩:=nc lf hz
 exact ⟨f,r,mZ lf hf,s⟩
theorem uF {ss:List Srt} {o:Srt} {qs:List Srt} {mode j:Int} (hok: ∀ s∈ss,s.ok) (ho:o∈ss) (hq: ∀ q∈qs,q∈ss) (hl:qs.length<=3):(rds o qs mode j).length<=24:=by
 have h1:=dy 0 qs fun s hs=>hok s (hq s hs)
 have h2:=(hok o ho).2.2.1
 have h3:=iB hok ho hq hl
 have h4:=jy o qs mode j
 unfold rds
 rw [List.length_append,List.length_append,List.length_map]
 by_cases c:mode>0
 ·rw [if_pos c,List.length_map];omega
 ·rw [if_neg c];show _+0<=24;omega
noncomputable def gf:Sp:=fun vs H Q _=> ∃ tp sa pa ss nm o qs mode,vs=[.ref tp,.ref sa,.str nm,.str (Srt.name o),.ref pa,.int mode]/\Tp H tp/\SrtsAt H sa ss/\cB ss/\o∈ss/\H pa=some (.tup (bn qs))/\(∀ q∈qs,q∈ss)/\qs.length<=3/\
 ∀ v rules H',RepF H' ⟨nm,o,qs,rules⟩ v->pH o qs mode rules->Kp tp H H'->Tp H' tp->Q v H'
theorem scLForm:au ["tape","sorts","name","own","parts","mode","rules","targets","j","readings"] ["tape","sorts","name","own","parts","mode"] (ag nT):=fsc
theorem sM (F:Fun K "_law_form" "_law_form" nT f fd) (G:Gb mg) (GT:FnOk P w K mg base CX0 1 g gd ["sorts","own","parts"] gL) (bT:Binds K gd ["sorts","own","parts"] []) (kT:PySem.W.keepIn K (.ref g)=true) (mT:mg "_law_targets"=some (.ref g))
  (GR:FnOk P w K mg base CX0 2 f2 fd2 ["sorts","own","parts","mode","j"] h8) (bR:Binds K fd2 ["sorts","own","parts","mode","j"] []) (kR:PySem.W.keepIn K (.ref f2)=true) (mR:mg "_law_readings"=some (.ref f2))
  (GF: ∀ ρ,FnOk P w K mg base CX0 4 f3 fd3 ["tape","readings"] (fM ρ)) (bF:Binds K fd3 ["tape","readings"] []) (kF:PySem.W.keepIn K (.ref f3)=true) (mF:mg "_law_formula"=some (.ref f3)):
  FnOk P w K mg base CX0 5 f fd ["tape","sorts","name","own","parts","mode"] gf:=by
 have GF':FnOk P w K mg base CX0 4 f3 fd3 ["tape","readings"] (fun vs H Q E=> ∃ ρ,fM ρ vs H Q E):=⟨fun vs H Q E ⟨ρ,h⟩=>(GF ρ).len vs H Q E h,fun A outer s H args us vs Q E hr he hb hv ⟨ρ,h⟩=>(GF ρ).run A outer s H args us vs Q E hr he hb hv h⟩
 refine F.ok scLForm (fun vs H Q E h=>?_) (fun cdv A outer s H vs Q E hr h=>?_)
 ·obtain ⟨tp,sa,pa,ss,nm,o,qs,mode,rfl,_⟩:=h
  rfl
 obtain ⟨tp,sa,pa,ss,nm,o,qs,mode,rfl,hT,hsa,hok,ho,hpa,hqs,hql,q⟩:=h
 refine ⟨_,ad (aq (i:=6) scLForm.nd rfl (Or.inl rfl) (bf ab))
  (ad (aq (i:=7) scLForm.nd rfl (Or.inl rfl) (af GT (hr.mono (show 1<=4 by decide)) rfl mT kT bT .nil al (aa (pv 1) (aa (pv 3) (aa (pv 4) ab)))))
  (ad (bQ PassesOwn.never rfl (bq rfl G.range (aa (ao ar rfl G.len PySem.boot_len (aa (pv 7) ab)) ab)) (aH (i:=8) scLForm.nd rfl (Or.inl rfl))
   (ad (aq (i:=9) scLForm.nd rfl (Or.inl rfl) (af GR (hr.mono (show 2<=4 by decide)) rfl mR kR bR .nil al (aa (pv 1) (aa (pv 3) (aa (pv 4) (aa (pv 5) (aa (pv 8) ab)))))))
   (aj (cq (dF PySem.F.plainAttrs_list PySem.F.slot_list_append PySem.F.type_list_append bZ (pv 6) (aa
    (aJ (aa (av ay (av aM (pv 7) (pv 8) (fun _ _=>rfl)) ae (fun _ _=>rfl)) (aa (av ay (av aM (pv 7) (pv 8) (fun _ _=>rfl)) ae (fun _ _=>rfl))
     (aa (af GF' hr rfl mF kF bF .nil al (aa (pv 0) (aa (pv 9) ab))) ab)))) ab))))))
  (aj (aw (aJ (aa (pv 2) (aa (pv 3) (aa (pv 4) (aa (bg a8 rfl G.tuple (by decide +kernel) (aa (pv 6) ab)) ab))))))))),?_⟩
 refine ⟨(by show 0<=sizeLine;decide),fun rl hrl=>?_⟩
 have s0:=ah hrl (.lst [])
 have g0:(upd H rl (.lst [])) rl=some (.lst []):=ac
 have nrt:=cS hT hrl
 have t0:=hT.new (o:=.lst []) hrl
 generalize upd H rl (.lst [])=H0 at s0 g0 t0 ⊢
 refine ⟨_,rfl,_,rfl,_,rfl,sa,pa,ss,o,qs,rfl,hsa.mono (ax s0),hok,ho,s0 _ _ hpa,hqs,hql,fun tl zt H1 htl s1 gtl hTt=>?_⟩
 have S1:Same H H1:=s0.trans s1
 have grl1:=s1 _ _ g0
 have tt1:=t0.same s1
 have ntt:tl≠tp:=cS t0 htl
 have nrl:rl≠tl:=ai g0 htl
 have lt12:=iB hok.2.2.2.2 ho hqs hql
 have lzt:zt.length=(ce o qs).length:=by rw [<- hTt.len,List.length_map]
 refine ⟨_,rfl,tl,zt,rfl,.inl (SqL.of gtl),_,rfl,by omega,by omega,?_⟩
 refine cL (fun i Z H'=> ∃ o8 o9 rv rules,Z=[some (.ref tp),some (.ref sa),some (.str nm),some (.str o.name),some (.ref pa),some (.int mode),some (.ref rl),some (.ref tl),o8,o9]/\Kp tp H H'/\Tp H' tp/\H' tl=some (.lst zt)/\Tups H' ((ce o qs).map tgV) zt/\
   H' rl=some (.lst rv)/\RepRs H' rules rv/\rules.map (fun r=>(r.pl,r.word))=(ce o qs).take i/\ ∀ (j:Nat) r,rules[j]? =some r->r.fm.wfp (fun f=>f∈rds o qs mode j)/\r.fm.size<=15)
  ⟨none,none,[],[],rfl,Kp.refl.same S1,tt1,gtl,hTt,grl1,.nil,rfl,fun j r h=>by cases h⟩ ?_ ?_
 ·rintro i Z H2 hi ⟨o8,o9,rv,rules,rfl,k2,tt2,gtl2,hTt2,grl2,hRr,hmap,hfm⟩
  have hi':i< (ce o qs).length:=by omega
  have tk2:=k2.tk hT
  have lrules:rules.length=i:=by
   have:=congrArg List.length hmap
   rw [List.length_map,List.length_take]at this
   omega
  have lrv:rv.length=i:=by rw [<- hRr.len];exact lrules
  refine ⟨_,rfl,_,rfl,_,rfl,_,rfl,_,rfl,sa,pa,ss,o,qs,mode,0+ (i:Int),rfl,hsa.mono tk2,hok,ho,tk2 _ _ hpa,hqs,hql,by omega,by omega,fun rdl zr H3 hrdl s3 grdl hTr=>?_⟩
  have tt3:=tt2.same s3
  have grl3:=s3 _ _ grl2
  have gtl3:=s3 _ _ gtl2
  have hTt3:=hTt2.mono (ax s3)
  have nrdt:rdl≠tp:=cS tt2 hrdl
  obtain ⟨t,ht⟩: ∃ t,(ce o qs)[i]? =some t:=⟨(ce o qs)[i],List.getElem?_eq_getElem hi'⟩
  obtain ⟨x,hx⟩: ∃ x,zt[i]? =some x:=⟨zt[i]'(by omega),List.getElem?_eq_getElem (by omega)⟩
  obtain ⟨ys,hys,a,rfl,ha⟩:=aN hTt3 hx
  have eys:ys=tgV t:=by
   rw [List.getElem?_map,ht]at hys
   exact (Option.some.inj hys).symm
  subst eys
  have eat:atI zt (0+ (i:Int))=some (.ref a):=by
   rw [Int.zero_add]
   exact aG hx
  refine ⟨_,rfl,.inl ⟨rfl,_,SqL.of grl3⟩,?_⟩
  refine ⟨_,rfl,_,rfl,tl,_,_,_,rfl,rfl,SqL.of gtl3,eat,a,_,0,.int t.1,rfl,rfl,SqT.of ha,bV,?_⟩
  refine ⟨_,rfl,_,rfl,tl,_,_,_,rfl,rfl,SqL.of gtl3,eat,a,_,1,.str t.2,rfl,rfl,SqT.of ha,aG (j:=1) rfl,?_⟩
  have lzr:zr.length<=24:=by
   rw [<- hTr.len,List.length_map]
   exact uF hok.2.2.2.2 ho hqs hql
  refine ⟨_,rfl,_,rfl,fun fm=>fm∈rds o qs mode (0+ (i:Int)),tp,rdl,zr,rfl,tt3,nrdt,grdl,by omega,uE hok.2.2.2.2 ho hqs hql hTr,fun v fm H4 rp wf sz k4 tt4=>?_⟩
  have k24:Kp tp H2 H4:=(Kp.refl.same s3).trans k4
  have grl4:=k24 _ _ grl2 nrt
  have gtl4:=k24 _ _ gtl2 ntt
  refine ⟨(by show 3<=sizeLine;decide),fun p5 hp5=>?_⟩
  have s5:=ah hp5 (.tup [.int t.1,.str t.2,v])
  have g5:(upd H4 p5 (.tup [.int t.1,.str t.2,v])) p5=some (.tup [.int t.1,.str t.2,v]):=ac
  have tt5:=tt4.same s5
  generalize upd H4 p5 (.tup [.int t.1,.str t.2,v])=H5 at s5 g5 tt5 ⊢
  have k25:Kp tp H2 H5:=k24.same s5
  have grl5:=s5 _ _ grl4
  refine ⟨rl,rv,.ref p5,rfl,rfl,grl5,aA (by omega),?_⟩
  have tk:TK H5 (upd H5 rl (.lst (rv++[.ref p5]))):=TK.lst grl5
  have tk26:TK H2 (upd H5 rl (.lst (rv++[.ref p5]))):=(k25.tk tt2).trans tk
  refine ⟨_,_,rv++[.ref p5],rules++[⟨t.1,t.2,fm⟩],rfl,?_,?_,?_,hTt2.mono tk26,ac,?_,?_,?_⟩
  ·intro b oo hb hbn
   rw [am (ai hb hrl)]
   exact k25 _ _ (k2 _ _ hb hbn) hbn
  ·obtain ⟨t9,e9⟩:=tt5
   exact ⟨t9,by rw [am (Ne.symm nrt)];exact e9⟩
  ·rw [am (Ne.symm nrl)]
   exact s5 _ _ gtl4
  ·exact Paired.snoc (hRr.mono tk26) ⟨p5,v,rfl,tk _ _ g5,rp.mono ((ax s5).trans tk)⟩
  ·rw [List.map_append,hmap,List.take_add_one,ht]
   rfl
  ·intro j r hj
   by_cases c:j<i
   ·rw [List.getElem?_append_left (by omega)]at hj
    exact hfm j r hj
   ·rw [List.getElem?_append_right (by omega),lrules]at hj
    have hji:j=i:=by
     by_cases c2:j=i
     ·exact c2
     ·have:j-i≠0:=by omega
      rw [List.getElem?_eq_none (by show 1<=j-i;omega)]at hj
      cases hj
    subst hji
    rw [Nat.sub_self]at hj
    have:r=⟨t.1,t.2,fm⟩:=(Option.some.inj hj).symm
    subst this
    rw [Int.zero_add]at wf
    exact ⟨wf,sz⟩
 ·rintro Z H2 ⟨o8,o9,rv,rules,rfl,k2,tt2,gtl2,hTt2,grl2,hRr,hmap,hfm⟩
  have tk2:=k2.tk hT
  rw [List.take_of_length_le (by omega)]at hmap
  refine ⟨_,rfl,_,rfl,_,rfl,_,rfl,rl,rv,rfl,.inl ⟨SqL.of grl2,fun p3 hp3=>?_⟩⟩
  have s3:=ah hp3 (.tup rv)
  have g3:(upd H2 p3 (.tup rv)) p3=some (.tup rv):=ac
  generalize upd H2 p3 (.tup rv)=H3 at s3 g3 ⊢
  refine ⟨(by show 4<=sizeLine;decide),fun p4 hp4=>?_⟩
  have s4:=ah hp4 (.tup [.str nm,.str o.name,.ref pa,.ref p3])
  refine q (.ref p4) rules _ ⟨p4,pa,p3,rv,rfl,ac,s4 _ _ (s3 _ _ (tk2 _ _ hpa)),s4 _ _ g3,hRr.mono (ax (s3.trans s4))⟩ ⟨hmap,hfm⟩ (k2.same (s3.trans s4)) (tt2.same (s3.trans s4))
structure Bk where
 wheel:Int
 sorts:List Srt
 forms:List Frm
noncomputable def RepFs (H:Hp) (fs:List Frm) (vs:List V):Prop:=Paired (RepF H) fs vs
theorem RepFs.mono {H H':Hp} (t:TK H H') {fs:List Frm} {vs:List V} (h:RepFs H fs vs):RepFs H' fs vs:=Paired.mapP h fun _ _ r=>r.mono t
theorem RepFs.len {H:Hp} {fs:List Frm} {vs:List V} (h:RepFs H fs vs):fs.length=vs.length:=Paired.length h
noncomputable def RepB (H:Hp) (b:Bk) (v:V):Prop:= ∃ a sa fa fv,v=.ref a/\H a=some (.tup [.int b.wheel,.ref sa,.ref fa])/\SrtsAt H sa b.sorts/\H fa=some (.tup fv)/\RepFs H b.forms fv
theorem RepB.mono {H H':Hp} (t:TK H H') {b:Bk} {v:V}:RepB H b v->RepB H' b v:=fun ⟨a,sa,fa,fv,e,h1,h2,h3,h4⟩=>⟨a,sa,fa,fv,e,t _ _ h1,h2.mono t,t _ _ h3,h4.mono t⟩
noncomputable def vG (ss:List Srt) (mode:Int) (fr:Frm):Prop:=fr.own∈ss/\(∀ q∈fr.parts,q∈ss)/\fr.parts.length<=3/\pH fr.own fr.parts mode fr.rules
structure BookOk (b:Bk):Prop where
 so:cB b.sorts
 wh:2<=b.wheel/\b.wheel<=10^30
 few:b.forms.length<=10
 more:b.sorts.length<=b.forms.length
 nd:(b.forms.map Frm.name).Nodup
 wd: ∀ fr∈b.forms,be fr.name=true/\fr.name≠"lonely"/\fr.name≠"loneall"
 fo: ∃ mode:Int,(mode=0\/mode=1\/mode=2)/\ ∀ fr∈b.forms,vG b.sorts mode fr
 nil: ∃ fr,fr∈b.forms/\fr.parts=[]
theorem SqL.keep {K:PySem.W.Frag} {H H':Hp} {a:Addr} {xs:List V} (h:SqL K H a xs) (k: ∀ o,H a=some o->H' a=some o):SqL K H' a xs:=by
 rcases h with (h | ⟨o,h⟩) | h
 ·exact .inl (.inl (k _ h))
 ·exact .inl (.inr ⟨o,k _ h⟩)
 ·exact .inr h
theorem kb {H:Hp} {ss:List Srt} {xs:List V} (h:RepSs H ss xs) {d:Int} (h0:0<=d) (h1:d<xs.length): ∃ q a b c,ss[d.toNat]? =some q/\atI xs d=some (.ref a)/\H a=some (.tup [.str (Srt.name q),b,c]):=by
 obtain ⟨x,ex,ex2⟩:=fj h0 h1
 obtain ⟨q,hq,a,b,c,rfl,ha,_⟩:=aN h ex2
 exact ⟨q,a,.ref b,.ref c,hq,ex,ha⟩
noncomputable def xh (K:PySem.W.Frag):List V->Hp->VK->Prop:=fun xs H Q=> ∃ p ys,xs=[.ref p]/\(SqL K H p ys\/SqT K H p ys)/\Q (.int ys.length) H
noncomputable def rn (K:PySem.W.Frag):Sp:=fun vs H Q _=> ∃ (sc:Addr) (ns:List Int) (st:Int) (few:Bool),vs=[.ref sc,.int st,.bl few]/\SqL K H sc (ns.map V.int)/\ns.length<=63/\0<=st/\st<900/\ ∀ v bk H',RepB H' bk v->BookOk bk->Same H H'->Q v H'
noncomputable def lB (s:Stmt):List Stmt:=match s with
 | .For _ _ b _ _=>b
 | _=>[]
noncomputable def bkFor:List Stmt:=lB ((cH eF).getD 8 (.Pass ⟨0,0,0,0⟩))
noncomputable def nC (H:Hp) (sc hd sa nl fl:Addr) (st wh mode gr mo:Int) (few:Bool) (ss:List Srt) (ws:List Str) (i:Nat) (Z:St) (H':Hp):Prop:= ∃ o11 o12 o13 o14 o15 fv frs,
 Z=[some (.ref sc),some (.int st),some (.bl few),some (.ref hd),some (.int wh),some (.int mode),some (.int gr),some (.int mo),some (.ref sa),some (.ref nl),some (.ref fl),o11,o12,o13,o14,o15]/\
 Same H H'/\SrtsAt H' sa ss/\H' nl=some (.lst (ws.map V.str))/\H' fl=some (.lst fv)/\RepFs H' frs fv/\frs.length=i/\frs.map Frm.name=ws.take i/\(∀ fr∈frs,vG ss mode fr)/\
 (∀ k,k<i->k<ss.length->(frs[k]?).map Frm.own=ss[k]?)/\ ∀ fr,frs[0]? =some fr->fr.parts=[]
theorem rq {α:Type} {l:List α} {x y:α} {j:Nat} (h:(l++[x])[j]? =some y):(j<l.length/\l[j]? =some y)\/(j=l.length/\y=x):=by
 by_cases c:j<l.length
 ·rw [List.getElem?_append_left c]at h
  exact .inl ⟨c,h⟩
 ·rw [List.getElem?_append_right (by omega)]at h
  by_cases c2:j-l.length=0
  ·rw [c2]at h
   exact .inr ⟨by omega,(Option.some.inj h).symm⟩
  ·rw [List.getElem?_eq_none (by show 1<=j-l.length;omega)]at h
   cases h
noncomputable abbrev im:List Str:=["script","start","few","head","wheel","mode","grown","more","sorts","names","forms","k","tape","own","many","parts"]
theorem scBook:au im ["script","start","few"] (ag eF):=fsc
theorem ul {cdv:Value} {A:Around} {outer:List Env} {s:Shared} {H H0:Hp} {E:XK} (G:Gb mg)
  (GD:FnOk P w K mg base CX0 1 g gd ["tape","many"] ca) (bD:Binds K gd ["tape","many"] []) (kD:PySem.W.keepIn K (.ref g)=true) (mD:mg "_law_digit"=some (.ref g))
  (GF:FnOk P w K mg base CX0 5 f2 fd2 ["tape","sorts","name","own","parts","mode"] gf) (bF:Binds K fd2 ["tape","sorts","name","own","parts","mode"] []) (kF:PySem.W.keepIn K (.ref f2)=true) (mF:mg "_law_form"=some (.ref f2))
  (hr:Room 5 (c7 CX0 P w K mg base im "_law_book" (ag eF) f cdv A outer s H0 E).nox.A):
  ∃ t,PSs (c7 CX0 P w K mg base im "_law_book" (ag eF) f cdv A outer s H0 E).nox (bkFor.drop 5) t/\
   ∀ (sc hd sa nl fl:Addr) (st wh mode gr mo:Int) (few:Bool) (ss:List Srt) (ws:List Str),cB ss->ws.length=10->H fl=none->nl≠fl-> ∀ (D:eE) (i:Nat) (Z:St) (H2 H5:Hp) (tp:Addr) (o:Srt) (m:Int) (o15:Option V),nC H sc hd sa nl fl st wh mode gr mo few ss ws i Z H2->i<10->H2 tp=none->Same H2 H5->Tp H5 tp->o∈ss->(i<ss.length->ss[i]? =some o)->0<=m->m<=3->(i=0->m=0)->
    (∀ Z' H',nC H sc hd sa nl fl st wh mode gr mo few ss ws (i+1) Z' H'->D.nx Z' H')->
    t D [some (.ref sc),some (.int st),some (.bl few),some (.ref hd),some (.int wh),some (.int mode),some (.int gr),some (.int mo),some (.ref sa),some (.ref nl),some (.ref fl),some (.int (0+ (i:Int))),some (.ref tp),some (.str o.name),some (.int m),o15] H5:=by
 have hr1:=hr.mono (show 1<=5 by decide)
 refine ⟨_,ad (aq (i:=15) scBook.nd rfl (Or.inl rfl) (bg a8 rfl G.tuple (by decide +kernel) (aa
   (br (sc0:=ag eF) (N0:=im) (ys:=["sorts","tape"]) (fr:=[8,12]) rfl (bq rfl G.range (aa (pv 14) ab)) rfl rfl
    cok
    (fun C s H ex=>av (r:=gh K) ay (av (r:=gh K) ay (pv 1) (af GD hr1 rfl mD kD bD .nil al (aa (pv 2) (aa (ao (r:=xh K) ar rfl G.len PySem.boot_len (aa (pv 1) ab)) ab))) (fun _ _=>rfl)) ae (fun _ _=>rfl))) ab)))
  (aj (cq (dF PySem.F.plainAttrs_list PySem.F.slot_list_append PySem.F.type_list_append bZ (pv 10) (aa
   (af GF hr rfl mF kF bF .nil al (aa (pv 12) (aa (pv 8) (aa (av aM (pv 9) (pv 11) (fun _ _=>rfl)) (aa (pv 13) (aa (pv 15) (aa (pv 5) ab))))))) ab)))),?_⟩
 rintro sc hd sa nl fl st wh mode gr mo few ss ws hok hws hfl0 hnf D i Z H2 H5 tp o m o15 ⟨o11,o12,o13,o14,o15',fv,frs,rfl,sm,hsa,gnl,gfl,hF,hfl,hnm,hfok,hown,hnil⟩ hi htp s5 tt5 ho hoi hm0 hm3 hmi hD
 obtain ⟨xs,gsa,hR⟩:=hsa.mono (ax s5)
 have lxs:=hR.len
 refine ⟨_,rfl,m,rfl,by omega,by omega,?_⟩
 refine dr (n:=m.toNat) (R:=fun i v=>v=.int (0+i)) (by omega) jd fi gu
  (fun p n zs H'=>Kp tp H5 H'/\Tp H' tp/\H' p=some (.lst zs)/\p≠tp/\ ∃ qs,zs=bn qs/\qs.length=n/\ ∀ q∈qs,q∈ss) ?_ ?_ ?_ ?_
 ·intro p hp
  exact ⟨Kp.refl.new hp,tt5.new hp,ac,cS tt5 hp,[],rfl,rfl,fun q h=>by cases h⟩
 ·rintro p n zs H' ⟨_,_,gp,_,qs,rfl,hl,_⟩
  exact ⟨gp,by unfold bn;rw [List.length_map];exact hl⟩
 ·rintro p n zs H' v k hp hn rfl ⟨k6,tt6,gp,hpn,qs,rfl,hl,hqs⟩ hk
  have tk6:=k6.tk tt5
  have h1:=hok.1
  refine ⟨_,rfl,_,rfl,_,rfl,sa,_,rfl,.inr (SqT.of (tk6 _ _ gsa)),tp,_,rfl,tt6,by omega,by have:=hok.2.1;omega,fun d t hd0 hd1=>?_⟩
  obtain ⟨q,a,b,c,hq,eat,ha⟩:=kb hR hd0 hd1
  have k7:Kp tp H5 (upd H' tp (.lst [.int t])):=k6.trans Kp.tape
  have tk7:=k7.tk tt5
  refine ⟨sa,xs,d,.ref a,rfl,rfl,SqT.of (tk7 _ _ gsa),eat,a,_,0,_,rfl,rfl,SqT.of (tk7 _ _ ha),bV,?_⟩
  have gp7:(upd H' tp (.lst [.int t])) p=some (.lst (bn qs)):=by rw [am hpn];exact gp
  refine hk _ _ gp7 ⟨?_,⟨t,?_⟩,ac,hpn,qs++[q],?_,?_,?_⟩
  ·intro b' o' hb hbn
   rw [am (ai hb hp)]
   exact k7 _ _ hb hbn
  ·rw [am (Ne.symm hpn),ac]
  ·unfold bn;rw [List.map_append];rfl
  ·rw [List.length_append,hl];rfl
  ·intro x hx
   rw [List.mem_append,List.mem_singleton]at hx
   rcases hx with h | rfl
   ·exact hqs x h
   ·exact List.mem_of_getElem? hq
 ·rintro p zs H6 hp ⟨k6,tt6,gp,hpn,qs,rfl,hl,hqs⟩
  refine ⟨p,_,rfl,.inl ⟨SqL.of gp,fun pa hpa=>?_⟩⟩
  have s7:=ah hpa (.tup (bn qs))
  have g7:(upd H6 pa (.tup (bn qs))) pa=some (.tup (bn qs)):=ac
  have tt7:=tt6.same s7
  generalize upd H6 pa (.tup (bn qs))=H7 at s7 g7 tt7 ⊢
  have k27:Kp tp H2 H7:=((Kp.refl.same s5).trans k6).same s7
  have S27:Same H2 H7:=fun b oo h=>k27 b oo h (ai h htp)
  have gfl7:=S27 _ _ gfl
  obtain ⟨nm,enm⟩: ∃ nm,ws[i]? =some nm:=⟨ws[i]'(by omega),List.getElem?_eq_getElem (by omega)⟩
  have eat:atI (ws.map V.str) (0+ (i:Int))=some (V.str nm):=by
   rw [Int.zero_add]
   exact aG (by rw [List.getElem?_map,enm];rfl)
  refine ⟨_,rfl,.inl ⟨rfl,_,SqL.of gfl7⟩,?_⟩
  refine ⟨_,rfl,_,rfl,_,rfl,_,rfl,nl,_,_,_,rfl,rfl,SqL.of (S27 _ _ gnl),eat,_,rfl,_,rfl,_,rfl,tp,sa,pa,ss,nm,o,qs,mode,rfl,tt7,hsa.mono (ax S27),hok,ho,g7,hqs,by omega,fun v rules H8 rf rok k8 tt8=>?_⟩
  have S28:Same H2 H8:=fun b oo h=>k8 b oo (S27 b oo h) (ai h htp)
  have gfl8:=S28 _ _ gfl
  have lfv:=hF.len
  refine ⟨fl,fv,v,rfl,rfl,gfl8,aA (by omega),?_⟩
  have tk:TK H8 (upd H8 fl (.lst (fv++[v]))):=TK.lst gfl8
  have tk2:TK H2 (upd H8 fl (.lst (fv++[v]))):=(ax S28).trans tk
  refine hD _ _ ⟨_,_,_,_,_,fv++[v],frs++[⟨nm,o,qs,rules⟩],rfl,?_,hsa.mono tk2,?_,ac,?_,?_,?_,?_,?_,?_⟩
  ·intro b oo h
   rw [am (ai h hfl0)]
   exact S28 _ _ (sm _ _ h)
  ·rw [am hnf]
   exact S28 _ _ gnl
  ·exact Paired.snoc (hF.mono tk2) (rf.mono tk)
  ·rw [List.length_append,hfl];rfl
  ·rw [List.map_append,hnm,List.take_add_one,enm];rfl
  ·intro fr hfr
   rw [List.mem_append,List.mem_singleton]at hfr
   rcases hfr with h | rfl
   ·exact hfok fr h
   ·exact ⟨ho,hqs,by show qs.length<=3;omega,rok⟩
  ·intro k hk hks
   by_cases c:k<i
   ·rw [List.getElem?_append_left (by omega)]
    exact hown k c hks
   ·have:k=i:=by omega
    subst this
    rw [List.getElem?_append_right (by omega),hfl,Nat.sub_self]
    show some o=_
    rw [hoi hks]
  ·intro fr hfr
   rcases rq hfr with ⟨h,e⟩ | ⟨h,e⟩
   ·exact hnil fr e
   ·subst e
    have:qs.length=0:=by rw [hl,hmi (by omega)];rfl
    exact List.eq_nil_of_length_eq_zero this
theorem pi {d:Int} (h0:0<=d) (h1:d<5): ∃ m:Int,atI [V.int 2,.int 1,.int 3,.int 2,.int 0] d=some (.int m)/\0<=m/\m<=3:=by
 have h5:d=0\/d=1\/d=2\/d=3\/d=4:=by omega
 rcases h5 with h | h | h | h | h <;> subst h <;> exact ⟨_,rfl,by decide,by decide⟩
theorem u8 {d:Int} (h0:0<=d) (h1:d<5): ∃ m:Int,atI [V.int 0,.int 0,.int 1,.int 2,.int 2] d=some (.int m)/\(m=0\/m=1\/m=2):=by
 have h5:d=0\/d=1\/d=2\/d=3\/d=4:=by omega
 rcases h5 with h | h | h | h | h <;> subst h <;> exact ⟨_,rfl,by decide⟩
theorem u7 {d:Int} (h0:0<=d) (h1:d<3): ∃ m:Int,atI [V.int 3,.int 4,.int 7] d=some (.int m)/\3<=m/\m<=7:=by
 have h5:d=0\/d=1\/d=2:=by omega
 rcases h5 with h | h | h <;> subst h <;> exact ⟨_,rfl,by decide,by decide⟩
theorem qO {z d:Int} (hz0:0<=z) (hz1:z<1000) (h0:0<=d) (h1:d<6): ∃ m:Int,atI [V.int 2,.int 7,.int 10,.int 97,.int (10^ (30:Int).toNat),.int (2+z)] d=some (.int m)/\2<=m/\m<=10^30:=by
 have e:(10:Int) ^ (30:Int).toNat=10^30:=rfl
 have b:(2000:Int)<=10^30:=by decide +kernel
 have h5:d=0\/d=1\/d=2\/d=3\/d=4\/d=5:=by omega
 rcases h5 with h | h | h | h | h | h <;> subst h
 ·exact ⟨2,rfl,by omega,by omega⟩
 ·exact ⟨7,rfl,by omega,by omega⟩
 ·exact ⟨10,rfl,by omega,by omega⟩
 ·exact ⟨97,rfl,by omega,by omega⟩
 ·exact ⟨_,rfl,by rw [e];omega,by rw [e];omega⟩
 ·exact ⟨_,rfl,by omega,by omega⟩
theorem um {cdv:Value} {A:Around} {outer:List Env} {s:Shared} {H H0:Hp} {E:XK} (G:Gb mg)
  (GD:FnOk P w K mg base CX0 1 g gd ["tape","many"] ca) (bD:Binds K gd ["tape","many"] []) (kD:PySem.W.keepIn K (.ref g)=true) (mD:mg "_law_digit"=some (.ref g))
  (GF:FnOk P w K mg base CX0 5 f2 fd2 ["tape","sorts","name","own","parts","mode"] gf) (bF:Binds K fd2 ["tape","sorts","name","own","parts","mode"] []) (kF:PySem.W.keepIn K (.ref f2)=true) (mF:mg "_law_form"=some (.ref f2))
  (hr:Room 5 (c7 CX0 P w K mg base im "_law_book" (ag eF) f cdv A outer s H0 E).nox.A):
  ∃ t,PSs (c7 CX0 P w K mg base im "_law_book" (ag eF) f cdv A outer s H0 E).nox (bkFor.drop 3) t/\
   ∀ (sc hd sa nl fl:Addr) (st wh mode gr mo:Int) (few:Bool) (ss:List Srt) (ws:List Str),cB ss->ws.length=10->H fl=none->nl≠fl-> ∀ (D:eE) (i:Nat) (Z:St) (H2 H5:Hp) (tp:Addr) (o:Srt) (o14 o15:Option V),nC H sc hd sa nl fl st wh mode gr mo few ss ws i Z H2->i<10->H2 tp=none->Same H2 H5->Tp H5 tp->o∈ss->(i<ss.length->ss[i]? =some o)->
    (∀ Z' H',nC H sc hd sa nl fl st wh mode gr mo few ss ws (i+1) Z' H'->D.nx Z' H')->
    t D [some (.ref sc),some (.int st),some (.bl few),some (.ref hd),some (.int wh),some (.int mode),some (.int gr),some (.int mo),some (.ref sa),some (.ref nl),some (.ref fl),some (.int (0+ (i:Int))),some (.ref tp),some (.str o.name),o14,o15] H5:=by
 have hr1:=hr.mono (show 1<=5 by decide)
 obtain ⟨t2,ht2,hread2⟩:=ul (cdv:=cdv) (A:=A) (outer:=outer) (s:=s) (H:=H) (H0:=H0) (E:=E) (f:=f) G GD bD kD mD GF bF kF mF hr
 refine ⟨_,ad (aq (i:=14) scBook.nd rfl (Or.inl rfl) (av aM (bf (aa ae (aa ae (aa ae (aa ae (aa ae ab)))))) (af GD hr1 rfl mD kD bD .nil al (aa (pv 12) (aa ae ab))) (fun _ _=>rfl)))
  (ad (aL (PW.pt (c6 (aF bj (pv 11) ae (aE _)) (cD (PW.pt (eY (aF bj (pv 6) ae (aE _)) (dD (aF fI (pv 11) (ao ar rfl G.len PySem.boot_len (aa (pv 8) ab)) (aE _))))))))
   (aj (aq (i:=14) scBook.nd rfl (Or.inl rfl) ae)) aC) ht2),?_⟩
 intro sc hd sa nl fl st wh mode gr mo few ss ws hok hws hfl0 hnf D i Z H2 H5 tp o o14 o15 hB hi htp s5 tt5 ho hoi hD
 obtain ⟨xs,gsa,hR⟩:SrtsAt H5 sa ss:=by
  obtain ⟨_,_,_,_,_,_,_,_,_,h,_⟩:=hB
  exact h.mono (ax s5)
 refine ⟨(by show 5<=sizeLine;decide),fun p hp=>?_⟩
 have npt:=cS tt5 hp
 refine ⟨_,rfl,tp,5,rfl,tt5.new hp,by decide,by decide,fun d t hd0 hd1=>?_⟩
 obtain ⟨m,em,hm0,hm3⟩:=pi hd0 hd1
 refine ⟨p,_,d,.int m,rfl,rfl,SqL.of (by rw [am npt];exact ac),em,?_⟩
 have k6:Kp tp H5 (upd (upd H5 p (.lst [.int 2,.int 1,.int 3,.int 2,.int 0])) tp (.lst [.int t])):=(Kp.refl.new hp).trans Kp.tape
 have tt6:Tp (upd (upd H5 p (.lst [.int 2,.int 1,.int 3,.int 2,.int 0])) tp (.lst [.int t])) tp:=⟨t,ac⟩
 generalize upd (upd H5 p (.lst [.int 2,.int 1,.int 3,.int 2,.int 0])) tp (.lst [.int t])=H6 at k6 tt6 ⊢
 have s6:Same H2 H6:=fun b oo h=>k6 b oo (s5 b oo h) (ai h htp)
 have gsa6:=k6.tk tt5 _ _ gsa
 refine ⟨_,rfl,rfl,_,rfl,?_⟩
 refine bx (fun c=>cX ?_) (fun c=>?_)
 ·exact hread2 sc hd sa nl fl st wh mode gr mo few ss ws hok hws hfl0 hnf D i Z H2 H6 tp o 0 o15 hB hi htp s6 tt6 ho hoi (by decide) (by decide) (fun _=>rfl) hD
 have hne:i=0->m=0:=fun e=>by
  subst e
  exact absurd (decide_eq_true rfl) c
 refine ⟨_,rfl,rfl,_,rfl,?_⟩
 refine bx (fun c2=>?_) (fun c2=>aX ?_)
 ·refine ⟨_,rfl,_,rfl,sa,xs,rfl,.inr (SqT.of gsa6),_,_,rfl,rfl,_,rfl,?_⟩
  refine bx (fun c3=>?_) (fun c3=>?_)
  ·exact hread2 sc hd sa nl fl st wh mode gr mo few ss ws hok hws hfl0 hnf D i Z H2 H6 tp o 0 o15 hB hi htp s6 tt6 ho hoi (by decide) (by decide) (fun _=>rfl) hD
  ·exact hread2 sc hd sa nl fl st wh mode gr mo few ss ws hok hws hfl0 hnf D i Z H2 H6 tp o m o15 hB hi htp s6 tt6 ho hoi hm0 hm3 hne hD
 ·exact hread2 sc hd sa nl fl st wh mode gr mo few ss ws hok hws hfl0 hnf D i Z H2 H6 tp o m o15 hB hi htp s6 tt6 ho hoi hm0 hm3 hne hD
theorem vp {cdv:Value} {A:Around} {outer:List Env} {s:Shared} {H:Hp} {Q:VK} {E:XK} {sc:Addr} {ns:List Int} {st:Int} {few:Bool} (G:Gb mg)
  (GD:FnOk P w K mg base CX0 1 g gd ["tape","many"] ca) (bD:Binds K gd ["tape","many"] []) (kD:PySem.W.keepIn K (.ref g)=true) (mD:mg "_law_digit"=some (.ref g))
  (GF:FnOk P w K mg base CX0 5 f2 fd2 ["tape","sorts","name","own","parts","mode"] gf) (bF:Binds K fd2 ["tape","sorts","name","own","parts","mode"] []) (kF:PySem.W.keepIn K (.ref f2)=true) (mF:mg "_law_form"=some (.ref f2))
  (GT:FnOk P w K mg base CX0 2 f3 fd3 ["script","k"] (jX K)) (bT:Binds K fd3 ["script","k"] []) (kT:PySem.W.keepIn K (.ref f3)=true) (mT:mg "_law_tape"=some (.ref f3))
  (hS:SqL K H sc (ns.map V.int)) (hns:ns.length<=63) (hst0:0<=st) (hst1:st<900) (q: ∀ v bk H',RepB H' bk v->BookOk bk->Same H H'->Q v H')
  (hr:Room 5 (c7 CX0 P w K mg base im "_law_book" (ag eF) f cdv A outer s H E).nox.A):
  ∃ t,PSs (c7 CX0 P w K mg base im "_law_book" (ag eF) f cdv A outer s H E).nox ((cH eF).drop 8) t/\
   ∀ (hd sa nl fl:Addr) (wh mode gr mo:Int) (ss:List Srt) (ws:List Str) (H5:Hp),cB ss->NamesAre 10 ws->2<=wh->wh<=10^30->(mode=0\/mode=1\/mode=2)->0<=mo->mo<=7->H fl=none->nl≠fl->H fl=none->
    Same H H5->SrtsAt H5 sa ss->H5 nl=some (.lst (ws.map V.str))->H5 fl=some (.lst [])->
    t {nx:=fun _ H'=>Q .non H',rt:=Q} [some (.ref sc),some (.int st),some (.bl few),some (.ref hd),some (.int wh),some (.int mode),some (.int gr),some (.int mo),some (.ref sa),some (.ref nl),some (.ref fl),none,none,none,none,none] H5:=by
 have hr1:=hr.mono (show 1<=5 by decide)
 have hr2:=hr.mono (show 2<=5 by decide)
 obtain ⟨t1,ht1,hread1⟩:=um (cdv:=cdv) (A:=A) (outer:=outer) (s:=s) (H:=H) (H0:=H) (E:=E) (f:=f) G GD bD kD mD GF bF kF mF hr
 refine ⟨_,ad (bQ PassesOwn.never rfl (bq rfl G.range (aa (ao (jR rfl) rfl G.min (by decide +kernel) (aa ae (aa (aB aW (ao ar rfl G.len PySem.boot_len (aa (pv 8) ab)) (pv 7)) ab))) ab)) (aH (i:=11) scBook.nd rfl (Or.inl rfl))
   (ad (aq (i:=12) scBook.nd rfl (Or.inr rfl) (af GT hr2 rfl mT kT bT .nil al (aa (pv 0) (aa (aB aW (aB aW (pv 1) ae) (pv 11)) ab))))
   (ad (aq (i:=13) scBook.nd rfl (Or.inl rfl) (av ay (av ay (pv 8) (aB cE (pv 11) (ao ar rfl G.len PySem.boot_len (aa (pv 8) ab))) (fun _ _=>rfl)) ae (fun _ _=>rfl)))
   (ad (aL (aF vA (pv 11) (ao ar rfl G.len PySem.boot_len (aa (pv 8) ab)) (aE _))
    (aj (aq (i:=13) scBook.nd rfl (Or.inl rfl) (av ay (av ay (pv 8) (af GD hr1 rfl mD kD bD .nil al (aa (pv 12) (aa (ao ar rfl G.len PySem.boot_len (aa (pv 8) ab)) ab))) (fun _ _=>rfl)) ae (fun _ _=>rfl)))) aC) ht1))))
  (aj (aw (aJ (aa (pv 4) (aa (pv 8) (aa (bg a8 rfl G.tuple (by decide +kernel) (aa (pv 10) ab)) ab)))))),?_⟩
 intro hd sa nl fl wh mode gr mo ss ws H5 hok hN hw2 hw3 hmode hmo0 hmo7 hfl0 hnf _ S5 hsa gnl gfl
 obtain ⟨nLen,nNd,nWd⟩:=hN.ok (by decide)
 obtain ⟨xs,gsa,hR⟩:=hsa
 have lxs:=hR.len
 have l1:=hok.1
 have l4:=hok.2.1
 obtain ⟨n,en,hn1,hn2⟩: ∃ n:Int,(if (xs.length:Int) +mo<10 then (xs.length:Int) +mo else 10)=n/\(xs.length:Int)<=n/\n<=10:=⟨_,rfl,by split <;> omega,by split <;> omega⟩
 refine ⟨_,rfl,sa,xs,rfl,.inr (SqT.of gsa),_,rfl,_,_,rfl,rfl,_,_,rfl,?_⟩
 rw [en]
 refine ⟨n,rfl,by omega,by omega,?_⟩
 refine cL (fun i Z H'=>nC H sc hd sa nl fl st wh mode gr mo few ss ws i Z H')
  ⟨none,none,none,none,none,[],[],rfl,S5,⟨xs,gsa,hR⟩,gnl,gfl,.nil,rfl,rfl,fun _ h=>(by cases h),fun k h=>(by omega),fun fr h=>(by cases h)⟩ ?_ ?_
 ·intro i Z H6 hi hB
  have hB':=hB
  obtain ⟨o11,o12,o13,o14,o15,fv,frs,rfl,S6,hsa6,gnl6,gfl6,hF6,_⟩:=hB'
  obtain ⟨xs6,gsa6,hR6⟩:=hsa6
  have lx6:=hR6.len
  refine ⟨_,rfl,_,rfl,_,_,rfl,rfl,_,rfl,_,_,rfl,rfl,sc,ns,_,rfl,SqL.keep hS (fun oo h=>S6 _ _ h),hns,by omega,by omega,fun tp t0 htp=>?_⟩
  have s7:=ah htp (.lst [.int t0])
  have tt7:Tp (upd H6 tp (.lst [.int t0])) tp:=⟨t0,ac⟩
  generalize upd H6 tp (.lst [.int t0])=H7 at s7 tt7 ⊢
  have gsa7:=s7 _ _ gsa6
  have hR7:=hR6.mono (ax s7)
  have hm0:0<=(0+ (i:Int)) % (xs6.length:Int):=Int.emod_nonneg _ (by omega)
  have hm1:(0+ (i:Int)) % (xs6.length:Int) <xs6.length:=Int.emod_lt_of_pos _ (by omega)
  obtain ⟨o,a,b,c,ho,eat,ha⟩:=kb hR7 hm0 hm1
  refine ⟨_,rfl,_,rfl,_,rfl,sa,xs6,rfl,.inr (SqT.of gsa7),_,_,rfl,rfl,(by show (0:Int) <xs6.length;omega),sa,xs6,_,.ref a,rfl,rfl,SqT.of gsa7,eat,a,_,0,_,rfl,rfl,SqT.of ha,bV,?_⟩
  refine ⟨_,rfl,_,rfl,sa,xs6,rfl,.inr (SqT.of gsa7),_,_,rfl,rfl,_,rfl,?_⟩
  refine bx (fun c=>?_) (fun c=>?_)
  ·have c':(xs6.length:Int)<=0+ (i:Int):=of_decide_eq_true c
   refine ⟨_,rfl,_,rfl,_,rfl,sa,xs6,rfl,.inr (SqT.of gsa7),tp,_,rfl,tt7,by omega,by omega,fun d t1 hd0 hd1=>?_⟩
   have k8:Kp tp H7 (upd H7 tp (.lst [.int t1])):=Kp.tape
   have tt8:Tp (upd H7 tp (.lst [.int t1])) tp:=⟨t1,ac⟩
   generalize upd H7 tp (.lst [.int t1])=H8 at k8 tt8 ⊢
   have tk8:=k8.tk tt7
   obtain ⟨o2,a2,b2,c2,ho2,eat2,ha2⟩:=kb hR7 hd0 hd1
   refine ⟨sa,xs6,d,.ref a2,rfl,rfl,SqT.of (tk8 _ _ gsa7),eat2,a2,_,0,_,rfl,rfl,SqT.of (tk8 _ _ ha2),bV,?_⟩
   exact hread1 sc hd sa nl fl st wh mode gr mo few ss ws hok nLen hfl0 hnf _ i _ H6 H8 tp o2 _ _ hB (by omega) htp (fun y oo h=>k8 y oo (s7 y oo h) (ai h htp)) tt8 (List.mem_of_getElem? ho2) (fun h=>by omega) (fun Z' H' h=>h)
  ·have c': ¬ (xs6.length:Int)<=0+ (i:Int):=fun e=>c (decide_eq_true e)
   have ei:((0+ (i:Int)) % (xs6.length:Int)).toNat=i:=by
    rw [Int.emod_eq_of_lt (by omega) (by omega)]
    omega
   rw [ei]at ho
   exact hread1 sc hd sa nl fl st wh mode gr mo few ss ws hok nLen hfl0 hnf _ i _ H6 H7 tp o _ _ hB (by omega) htp s7 tt7 (List.mem_of_getElem? ho) (fun _=>ho) (fun Z' H' h=>h)
 ·rintro Z H6 ⟨o11,o12,o13,o14,o15,fv,frs,rfl,S6,hsa6,gnl6,gfl6,hF6,lfr,hnm,hfok,hown,hnil⟩
  refine ⟨_,rfl,_,rfl,_,rfl,fl,fv,rfl,.inl ⟨SqL.of gfl6,fun fa hfa=>?_⟩⟩
  have s7:=ah hfa (.tup fv)
  have g7:(upd H6 fa (.tup fv)) fa=some (.tup fv):=ac
  generalize upd H6 fa (.tup fv)=H7 at s7 g7 ⊢
  refine ⟨(by show 3<=sizeLine;decide),fun pb hpb=>?_⟩
  have s8:=ah hpb (.tup [.int wh,.ref sa,.ref fa])
  have tk68:=ax (s7.trans s8)
  refine q (.ref pb) ⟨wh,ss,frs⟩ _ ⟨pb,sa,fa,fv,rfl,ac,hsa6.mono tk68,s8 _ _ g7,hF6.mono tk68⟩ ?_ (S6.trans (s7.trans s8))
  refine ⟨hok,⟨hw2,hw3⟩,?_,?_,?_,?_,⟨mode,hmode,hfok⟩,?_⟩
  ·show frs.length<=10
   omega
  ·show ss.length<=frs.length
   omega
  ·show (frs.map Frm.name).Nodup
   rw [hnm]
   exact nNd.sublist (List.take_sublist _ _)
  ·intro fr hfr
   have hm:fr.name∈ws:=List.mem_of_mem_take (i:=n.toNat) (by rw [<- hnm];exact List.mem_map_of_mem hfr)
   exact ⟨nWd _ hm,(hN.lone (by decide) _ hm).2⟩
  ·have l0:0<frs.length:=by have:=hok.1;omega
   exact ⟨frs[0],List.getElem_mem l0,hnil _ (List.getElem?_eq_getElem l0)⟩
theorem uZ (F:Fun K "_law_book" "_law_book" eF f fd) (G:Gb mg)
  (GD:FnOk P w K mg base CX0 1 g gd ["tape","many"] ca) (bD:Binds K gd ["tape","many"] []) (kD:PySem.W.keepIn K (.ref g)=true) (mD:mg "_law_digit"=some (.ref g))
  (GF:FnOk P w K mg base CX0 5 f2 fd2 ["tape","sorts","name","own","parts","mode"] gf) (bF:Binds K fd2 ["tape","sorts","name","own","parts","mode"] []) (kF:PySem.W.keepIn K (.ref f2)=true) (mF:mg "_law_form"=some (.ref f2))
  (GT:FnOk P w K mg base CX0 2 f3 fd3 ["script","k"] (jX K)) (bT:Binds K fd3 ["script","k"] []) (kT:PySem.W.keepIn K (.ref f3)=true) (mT:mg "_law_tape"=some (.ref f3))
  (GS:FnOk P w K mg base CX0 3 f4 fd4 ["tape","few"] oR) (bS:Binds K fd4 ["tape","few"] []) (kS:PySem.W.keepIn K (.ref f4)=true) (mS:mg "_law_sorts"=some (.ref f4))
  (GN:FnOk P w K mg base CX0 2 f5 fd5 ["tape","many"] eQ) (bN:Binds K fd5 ["tape","many"] []) (kN:PySem.W.keepIn K (.ref f5)=true) (mN:mg "_law_names"=some (.ref f5)):
  FnOk P w K mg base CX0 6 f fd ["script","start","few"] (rn K):=by
 refine F.ok scBook (fun vs H Q E h=>?_) (fun cdv A outer s H vs Q E hr h=>?_)
 ·obtain ⟨sc,ns,st,few,rfl,_⟩:=h
  rfl
 obtain ⟨sc,ns,st,few,rfl,hS,hns,hst0,hst1,q⟩:=h
 have hr1:=hr.mono (show 1<=5 by decide)
 have hr2:=hr.mono (show 2<=5 by decide)
 have hr3:=hr.mono (show 3<=5 by decide)
 obtain ⟨t,ht,hread⟩:=vp (cdv:=cdv) (A:=A) (outer:=outer) (s:=s) (H:=H) (Q:=Q) (E:=E) (f:=f) (few:=few) G GD bD kD mD GF bF kF mF GT bT kT mT hS hns hst0 hst1 q hr
 refine ⟨_,ad (aq (i:=3) scBook.nd rfl (Or.inl rfl) (af GT hr2 rfl mT kT bT .nil al (pac (pv 0) (pac (pv 1) ab))))
  (ad (aq (i:=4) scBook.nd rfl (Or.inl rfl) (av aM (bf (pac ae (pac ae (pac ae (pac ae (pac (aB sB ae ae) (pac (aB aW ae (af GD hr1 rfl mD kD bD .nil al (pac (pv 3) (pac ae ab)))) ab)))))))
   (af GD hr1 rfl mD kD bD .nil al (pac (pv 3) (pac ae ab))) (fun _ _=>rfl)))
  (ad (aq (i:=5) scBook.nd rfl (Or.inl rfl) (av aM (bf (pac ae (pac ae (pac ae (pac ae (pac ae ab)))))) (af GD hr1 rfl mD kD bD .nil al (pac (pv 3) (pac ae ab))) (fun _ _=>rfl)))
  (ad (aq (i:=6) scBook.nd rfl (Or.inl rfl) (af GD hr1 rfl mD kD bD .nil al (pac (pv 3) (pac ae ab))))
  (ad (aq (i:=7) scBook.nd rfl (Or.inl rfl) (af GD hr1 rfl mD kD bD .nil al (pac (pv 3) (pac (av aM (bf (pac ae (pac ae (pac ae ab)))) (af GD hr1 rfl mD kD bD .nil al (pac (pv 3) (pac ae ab))) (fun _ _=>rfl)) ab))))
  (ad (aq (i:=8) scBook.nd rfl (Or.inr rfl) (af GS hr3 rfl mS kS bS .nil al (pac (pv 3) (pac (pv 2) ab))))
  (ad (aq (i:=9) scBook.nd rfl (Or.inl rfl) (af GN hr2 rfl mN kN bN .nil al (pac (pv 3) (pac ae ab))))
  (ad (aq (i:=10) scBook.nd rfl (Or.inl rfl) (bf ab)) ht))))))),?_⟩
 refine ⟨_,rfl,_,rfl,sc,ns,st,rfl,hS,hns,hst0,by omega,fun hd t0 hhd=>?_⟩
 have S1:=ah hhd (.lst [.int t0])
 have tt1:Tp (upd H hd (.lst [.int t0])) hd:=⟨t0,ac⟩
 generalize upd H hd (.lst [.int t0])=H1 at S1 tt1 ⊢
 refine ⟨10,30,rfl,rfl,⟨by decide,by decide,by decide +kernel⟩,?_⟩
 rw [show ((fun (i j:Int)=>V.int (i^j.toNat)) 10 30)=V.int (10^ (30:Int).toNat)from rfl]
 refine ⟨_,rfl,hd,1000,rfl,tt1,by decide,by decide,fun z t1 hz0 hz1=>⟨2,z,rfl,rfl,?_⟩⟩
 rw [show ((fun (i j:Int)=>V.int (i+j)) 2 z)=V.int (2+z)from rfl]
 have k2:Kp hd H1 (upd H1 hd (.lst [.int t1])):=Kp.tape
 have tt2:Tp (upd H1 hd (.lst [.int t1])) hd:=⟨t1,ac⟩
 generalize upd H1 hd (.lst [.int t1])=H2 at k2 tt2 ⊢
 refine ⟨(by show 6<=sizeLine;decide),fun p hp=>?_⟩
 have np:=cS tt2 hp
 refine ⟨_,rfl,hd,6,rfl,tt2.new hp,by decide,by decide,fun d t2 hd0 hd1=>?_⟩
 obtain ⟨wh,ewh,hw2,hw3⟩:=qO hz0 hz1 hd0 hd1
 refine ⟨p,_,d,.int wh,rfl,rfl,SqL.of (by rw [am np];exact ac),ewh,?_⟩
 have k3:Kp hd H1 (upd (upd H2 p (.lst [.int 2,.int 7,.int 10,.int 97,.int (10^ (30:Int).toNat),.int (2+z)])) hd (.lst [.int t2])):=(k2.new hp).trans Kp.tape
 have tt3:Tp (upd (upd H2 p (.lst [.int 2,.int 7,.int 10,.int 97,.int (10^ (30:Int).toNat),.int (2+z)])) hd (.lst [.int t2])) hd:=⟨t2,ac⟩
 generalize upd (upd H2 p (.lst [.int 2,.int 7,.int 10,.int 97,.int (10^ (30:Int).toNat),.int (2+z)])) hd (.lst [.int t2])=H3 at k3 tt3 ⊢
 refine ⟨(by show 5<=sizeLine;decide),fun p hp=>?_⟩
 have np:=cS tt3 hp
 refine ⟨_,rfl,hd,5,rfl,tt3.new hp,by decide,by decide,fun d t2 hd0 hd1=>?_⟩
 obtain ⟨mode,emo,hmode⟩:=u8 hd0 hd1
 refine ⟨p,_,d,.int mode,rfl,rfl,SqL.of (by rw [am np];exact ac),emo,?_⟩
 have k4:Kp hd H1 (upd (upd H3 p (.lst [.int 0,.int 0,.int 1,.int 2,.int 2])) hd (.lst [.int t2])):=(k3.new hp).trans Kp.tape
 have tt4:Tp (upd (upd H3 p (.lst [.int 0,.int 0,.int 1,.int 2,.int 2])) hd (.lst [.int t2])) hd:=⟨t2,ac⟩
 generalize upd (upd H3 p (.lst [.int 0,.int 0,.int 1,.int 2,.int 2])) hd (.lst [.int t2])=H4 at k4 tt4 ⊢
 refine ⟨_,rfl,hd,2,rfl,tt4,by decide,by decide,fun gr t3 _ _=>?_⟩
 have k5:Kp hd H1 (upd H4 hd (.lst [.int t3])):=k4.trans Kp.tape
 have tt5:Tp (upd H4 hd (.lst [.int t3])) hd:=⟨t3,ac⟩
 generalize upd H4 hd (.lst [.int t3])=H5 at k5 tt5 ⊢
 refine ⟨_,rfl,(by show 3<=sizeLine;decide),fun p hp=>?_⟩
 have np:=cS tt5 hp
 refine ⟨_,rfl,hd,3,rfl,tt5.new hp,by decide,by decide,fun d t4 hd0 hd1=>?_⟩
 obtain ⟨mm,emm,hmm3,hmm7⟩:=u7 hd0 hd1
 refine ⟨p,_,d,.int mm,rfl,rfl,SqL.of (by rw [am np];exact ac),emm,?_⟩
 have k6:Kp hd H1 (upd (upd H5 p (.lst [.int 3,.int 4,.int 7])) hd (.lst [.int t4])):=(k5.new hp).trans Kp.tape
 have tt6:Tp (upd (upd H5 p (.lst [.int 3,.int 4,.int 7])) hd (.lst [.int t4])) hd:=⟨t4,ac⟩
 generalize upd (upd H5 p (.lst [.int 3,.int 4,.int 7])) hd (.lst [.int t4])=H6 at k6 tt6 ⊢
 refine ⟨hd,mm,rfl,tt6,by omega,by omega,fun mo t5 hmo0 hmo1=>?_⟩
 have k7:Kp hd H1 (upd H6 hd (.lst [.int t5])):=k6.trans Kp.tape
 have tt7:Tp (upd H6 hd (.lst [.int t5])) hd:=⟨t5,ac⟩
 generalize upd H6 hd (.lst [.int t5])=H7 at k7 tt7 ⊢
 refine ⟨_,rfl,_,rfl,hd,few,rfl,tt7,fun sa ss xs H8 gsa hR hok k8 tt8=>?_⟩
 refine ⟨_,rfl,hd,10,rfl,tt8,by decide,by decide,fun nl ws H9 gnl hnl hN hnh k9 tt9=>?_⟩
 refine ⟨(by show 0<=sizeLine;decide),fun fl hfl=>?_⟩
 have k19:Kp hd H1 H9:=k7.trans (k8.trans k9)
 have S9:Same H H9:=fun b oo h=>k19 b oo (S1 b oo h) (ai h hhd)
 have s10:=ah hfl (.lst [])
 exact hread hd sa nl fl wh mode gr mo ss ws _ hok hN hw2 hw3 hmode hmo0 (by omega) (S9.free hfl) (ai gnl hfl) (S9.free hfl) (S9.trans s10) (SrtsAt.mono (ax s10) (SrtsAt.mono (k9.tk tt8) ⟨xs,gsa,hR⟩)) (s10 _ _ gnl) ac
theorem ig {α β:Type} {F:α->β->Prop}: ∀ {l:List α} {r:List β} {i:Nat} {a:α},Paired F l r->l[i]? =some a-> ∃ b,r[i]? =some b/\F a b
 | _,_,i,a,.nil,e=>by cases i <;> cases e
 | _,_,0,a,.cons h _,e=>⟨_,rfl,by cases e;exact h⟩
 | _,_,i+1,a,.cons _ t,e=>ig (i:=i) t e
theorem tO {K:PySem.W.Frag} {a:Addr} {xs:List V} {H1:Hp} (ha:H1 a=some (.tup xs)): ∀ i H,Same H1 H->i<xs.length->(Itt K a).go i H:=fun i H s h=>⟨xs,xs[i],SqT.of (s _ _ ha),List.getElem?_eq_getElem h⟩
theorem tM {K:PySem.W.Frag} {a:Addr} {xs:List V} {H1:Hp} (ha:H1 a=some (.tup xs)): ∀ H,Same H1 H->(Itt K a).stop xs.length H:=fun H s=>⟨xs,SqT.of (s _ _ ha),Nat.le_refl _⟩
theorem vE {K:PySem.W.Frag} {a:Addr} {xs:List V} {H1:Hp} (ha:H1 a=some (.tup xs)): ∀ i H v H',Same H1 H->(Itt K a).yld i H v H'->H'=H/\xs[i]? =some v:=fun i H v H' s hv=>⟨hv.1,by obtain ⟨rfl,hv⟩:=hv;exact hv xs (SqT.of (s _ _ ha))⟩
theorem uw {ss:List Srt} (nd:(ss.map Srt.name).Nodup) {a b:Srt} (ha:a∈ss) (hb:b∈ss) (e:a.name=b.name):a=b:=by
 obtain ⟨i,hi⟩:=List.getElem?_of_mem ha
 obtain ⟨j,hj⟩:=List.getElem?_of_mem hb
 have q1:(ss.map Srt.name)[i]? =some a.name:=by rw [List.getElem?_map,hi];rfl
 have q2:(ss.map Srt.name)[j]? =some a.name:=by rw [List.getElem?_map,hj,e];rfl
 have:=ff nd q1 q2
 subst this
 rw [hi]at hj
 exact Option.some.inj hj
theorem nv {α:Type} {J:It} {as:List α} {xs:List V} {A:α->V->Prop} {fr:List Nat} {tc:TT} {te:TE} {Z:St} {H1:Hp} {Q:VK} (hn:xs.length<=1000) (hP:Paired A as xs)
  (hgo: ∀ i H,Same H1 H->i<xs.length->J.go i H) (hst: ∀ H,Same H1 H->J.stop xs.length H) (hy: ∀ i H v H',Same H1 H->J.yld i H v H'->H'=H/\xs[i]? =some v)
  (c:α->Bool) (R:Hp->α->V->Prop) (mono: ∀ {H H':Hp} {a:α} {v:V},TK H H'->R H a v->R H' a v)
  (htc: ∀ a v H (k:Bool->Hp->Prop),a∈as->A a v->Same H1 H->k (c a) H->tc (some v::cc fr Z) H k)
  (hte: ∀ a v H (k:VK),a∈as->A a v->c a=true->Same H1 H->(∀ u H',Same H H'->R H' a u->k u H')->te (some v::cc fr Z) H k)
  (hd: ∀ p zs H',H1 p=none->Same H1 H'->H' p=some (.lst zs)->Paired (R H') (as.filter c) zs->Q (.ref p) H'):jW fr tc te Z J H1 Q:=by
 intro p hp
 refine ⟨fun i m zs H=>i<=xs.length/\m=xs.length-i/\Same H1 H/\H p=some (.lst zs)/\zs.length<=i/\Paired (R H) ((as.take i).filter c) zs,⟨_,Nat.zero_le _,rfl,ah hp _,ac,Nat.le_refl _,.nil⟩,?_⟩
 rintro i m zs H ⟨hi,hm,sm,gp,hz,hT⟩
 refine ⟨gp,?_⟩
 by_cases e:i=xs.length
 ·subst e
  rw [<- Paired.length hP,List.take_length]at hT
  exact .inl ⟨hst H sm,hd p zs H hp sm gp hT⟩
 ·have hlt:i<xs.length:=by omega
  refine .inr ⟨hgo i H sm hlt,aA (by omega),fun v H' hv=>?_⟩
  obtain ⟨rfl,hv2⟩:=hy i H v H' sm hv
  obtain ⟨a,ha,hA⟩:=aN hP hv2
  have etk:(as.take (i+1)).filter c=(as.take i).filter c++(if c a then [a]else []):=take_succ_filter c as i a ha
  refine htc a v _ _ (List.mem_of_getElem? ha) hA sm ?_
  by_cases hc:c a=true
  ·rw [if_pos hc]at etk
   show if c a=true then _ else _
   rw [if_pos hc]
   refine hte a v _ _ (List.mem_of_getElem? ha) hA hc sm fun u H2 s2 r=>?_
   have gp2:=s2 _ _ gp
   have tk:TK H2 (upd H2 p (.lst (zs++[u]))):=TK.lst gp2
   refine ⟨gp2,xs.length- (i+1),by omega,by omega,rfl,?_,ac,by rw [List.length_append];show zs.length+1<=i+1;omega,?_⟩
   ·intro b o hb
    rw [am (ai hb hp)]
    exact s2 _ _ (sm _ _ hb)
   ·rw [etk]
    exact Paired.snoc (Paired.mapP hT fun _ _ r=>mono ((ax s2).trans tk) r) (mono tk r)
  ·rw [if_neg hc,List.append_nil]at etk
   show if c a=true then _ else _
   rw [if_neg hc]
   exact ⟨xs.length- (i+1),by omega,by omega,rfl,sm,gp,by omega,by rw [etk];exact hT⟩
structure BkS (bk:Bk):Prop where
 few:bk.forms.length<=10
 nd:(bk.forms.map Frm.name).Nodup
 s4:bk.sorts.length<=4
 sd:(bk.sorts.map Srt.name).Nodup
 ws: ∀ s∈bk.sorts,s.downs.length<=3/\s.ups.length<=3/\(s.downs++s.ups).Nodup/\ ∀ x∈s.downs++s.ups,x.length<=1000
 fo: ∀ fr∈bk.forms,fr.own∈bk.sorts/\(∀ q∈fr.parts,q∈bk.sorts)/\fr.parts.length<=3/\fr.rules.map (fun r=>(r.pl,r.word))=ce fr.own fr.parts/\ ∀ r∈fr.rules,r.fm.wf/\r.fm.size<=15
theorem BookOk.s {bk:Bk} (h:BookOk bk):BkS bk:=by
 obtain ⟨mode,_,hf⟩:=h.fo
 refine ⟨h.few,h.nd,h.so.2.1,h.so.2.2.1,fun s hs=>⟨(h.so.2.2.2.2 s hs).2.2.1,(h.so.2.2.2.2 s hs).2.2.2.1,(h.so.2.2.2.2 s hs).1,fun x hx=>ba ((h.so.2.2.2.2 s hs).2.1 x hx)⟩,fun fr m=>?_⟩
 obtain ⟨h1,h2,h3,h4,h5⟩:=hf fr m
 refine ⟨h1,h2,h3,h4,fun r hr=>?_⟩
 obtain ⟨j,hj⟩:=List.getElem?_of_mem hr
 exact ⟨(h5 j r hj).1.wf,(h5 j r hj).2⟩
theorem gH {k:Int}: ∀ {qs:List Srt},(∀ q∈qs,q.downs.length<=3)->(bJ k qs).length<=3*qs.length
 | [],_=>Nat.le_refl _
 | q::r,h=>by
  have h1:=gH (k:=k+1) (qs:=r) fun x hx=>h x (List.mem_cons_of_mem _ hx)
  have h2:=h q List.mem_cons_self
  show (q.downs.map (fun x=>(k,x))++bJ (k+1) r).length<=_
  rw [List.length_append,List.length_map,List.length_cons]
  omega
theorem BkS.rules12 {bk:Bk} (h:BkS bk) {fr:Frm} (m:fr∈bk.forms):fr.rules.length<=12:=by
 obtain ⟨h1,h2,h3,h4,_⟩:=h.fo fr m
 have e:=congrArg List.length h4
 rw [List.length_map]at e
 have h5:=gH (k:=0) (qs:=fr.parts) fun q hq=>(h.ws q (h2 q hq)).1
 have h6:=(h.ws _ h1).2.1
 have h7:(ce fr.own fr.parts).length=fr.own.ups.length+ (bJ 0 fr.parts).length:=by
  unfold ce
  rw [List.length_append,List.length_map]
 omega
noncomputable def dn:Sp:=fun vs H Q _=> ∃ bv bk,vs=[bv]/\RepB H bk bv/\ ∀ fa fv,H fa=some (.tup fv)->RepFs H bk.forms fv->Q (.ref fa) H
noncomputable def cN:Sp:=fun vs H Q _=> ∃ v fr,vs=[v]/\RepF H fr v/\Q (.str fr.own.name) H
noncomputable def dl:Sp:=fun vs H Q _=> ∃ v fr,vs=[v]/\RepF H fr v/\ ∀ pa,H pa=some (.tup (bn fr.parts))->Q (.ref pa) H
noncomputable def ia:Sp:=fun vs H Q _=> ∃ bv bk nm fr,vs=[bv,.str nm]/\RepB H bk bv/\BkS bk/\fr∈bk.forms/\Frm.name fr=nm/\ ∀ v H',Same H H'->RepF H' fr v->Q v H'
theorem vj {l:List Frm} (nd:(l.map Frm.name).Nodup) {a b:Frm} (ha:a∈l) (hb:b∈l) (e:a.name=b.name):a=b:=by
 obtain ⟨i,hi⟩:=List.getElem?_of_mem ha
 obtain ⟨j,hj⟩:=List.getElem?_of_mem hb
 have q1:(l.map Frm.name)[i]? =some a.name:=by rw [List.getElem?_map,hi];rfl
 have q2:(l.map Frm.name)[j]? =some a.name:=by rw [List.getElem?_map,hj,e];rfl
 have:=ff nd q1 q2
 subst this
 rw [hi]at hj
 exact Option.some.inj hj
theorem pX:au ["book"] ["book"] (ag iT):=fsc
theorem ou (F:Fun K "forms_of" "forms_of" iT f fd):FnOk P w K mg base CX0 1 f fd ["book"] dn:=by
 refine F.ok pX (fun vs H Q E h=>?_) (fun cdv A outer s H vs Q E hr h=>?_)
 ·obtain ⟨bv,bk,rfl,_⟩:=h
  rfl
 obtain ⟨bv,bk,rfl,⟨a,sa,fa,fv,rfl,ha,_,hfa,hF⟩,q⟩:=h
 refine ⟨_,aj (aw (av ay (pv 0) ae (fun _ _=>rfl))),?_⟩
 exact ⟨_,rfl,a,_,2,_,rfl,rfl,SqT.of ha,aG (j:=2) rfl,q fa fv hfa hF⟩
theorem kj:au ["form"] ["form"] (ag eS):=fsc
theorem js (F:Fun K "sort_of_form" "sort_of_form" eS f fd):FnOk P w K mg base CX0 1 f fd ["form"] cN:=by
 refine F.ok kj (fun vs H Q E h=>?_) (fun cdv A outer s H vs Q E hr h=>?_)
 ·obtain ⟨v,fr,rfl,_⟩:=h
  rfl
 obtain ⟨v,fr,rfl,⟨a,pa,ra,rv,rfl,ha,_⟩,q⟩:=h
 refine ⟨_,aj (aw (av ay (pv 0) ae (fun _ _=>rfl))),?_⟩
 exact ⟨_,rfl,a,_,1,_,rfl,rfl,SqT.of ha,aG (j:=1) rfl,q⟩
theorem pV:au ["form"] ["form"] (ag iQ):=fsc
theorem om (F:Fun K "parts_of" "parts_of" iQ f fd):FnOk P w K mg base CX0 1 f fd ["form"] dl:=by
 refine F.ok pV (fun vs H Q E h=>?_) (fun cdv A outer s H vs Q E hr h=>?_)
 ·obtain ⟨v,fr,rfl,_⟩:=h
  rfl
 obtain ⟨v,fr,rfl,⟨a,pa,ra,rv,rfl,ha,hpa,_⟩,q⟩:=h
 refine ⟨_,aj (aw (av ay (pv 0) ae (fun _ _=>rfl))),?_⟩
 exact ⟨_,rfl,a,_,2,_,rfl,rfl,SqT.of ha,aG (j:=2) rfl,q pa hpa⟩
theorem l8:au ["book","name"] ["book","name"] (ag eB):=fsc
theorem lr (F:Fun K "form_named" "form_named" eB f fd)
  (GF:FnOk P w K mg base CX0 1 f2 fd2 ["book"] dn) (bF:Binds K fd2 ["book"] []) (kF:PySem.W.keepIn K (.ref f2)=true) (mF:mg "forms_of"=some (.ref f2)):FnOk P w K mg base CX0 2 f fd ["book","name"] ia:=by
 refine F.ok l8 (fun vs H Q E h=>?_) (fun cdv A outer s H vs Q E hr h=>?_)
 ·obtain ⟨bv,bk,nm,fr,rfl,_⟩:=h
  rfl
 obtain ⟨bv,bk,nm,fr,rfl,hB,hok,hf,hn,q⟩:=h
 refine ⟨_,aj (aw (av aM (iX (sc0:=ag eB) (N0:=["book","name"]) (ys:=["name"]) (fr:=[1]) rfl
   (bd (af GF hr rfl mF kF bF .nil al (aa (pv 0) ab))) rfl rfl
   cok
   (fun C s H ex=>aF bj (av (r:=gh K) ay (pv 0) ae (fun _ _=>rfl)) (pv 1) (aE _))
   (fun C s H ex=>pv 0)) ae (fun _ _=>rfl))),?_⟩
 refine ⟨_,rfl,bv,bk,rfl,hB,fun fa fv hfa hF=>?_⟩
 have h10:=hok.few
 have lF:=hF.len
 refine ⟨fa,rfl,⟨fv,SqT.of hfa⟩,?_⟩
 refine nv (by omega) hF (tO hfa) (tM hfa) (vE hfa) (fun fr=>decide (Frm.name fr=nm)) (fun H fr v=>RepF H fr v) (fun t h=>h.mono t) ?_ ?_ ?_
 ·rintro fr' v H' k _ ⟨a,pa,ra,rv,rfl,ha,_⟩ s' hk
  refine ⟨_,rfl,a,_,0,_,rfl,rfl,SqT.of (s' _ _ ha),bV,_,rfl,rfl,_,rfl,?_⟩
  have:decide (V.str fr'.name=V.str nm)=decide (fr'.name=nm):=by
   by_cases c:fr'.name=nm
   ·rw [decide_eq_true c,decide_eq_true (by rw [c])]
   ·rw [decide_eq_false c,decide_eq_false fun e=>c (V.str.inj e)]
  rw [this]
  exact hk
 ·rintro fr' v H' k _ hA _ s' hk
  exact ⟨_,rfl,hk _ _ (fun _ _ h=>h) (hA.mono (ax s'))⟩
 intro p zs H' hp s' gp hz
 cases hz0:bk.forms.filter (fun fr=>decide (Frm.name fr=nm))with
 | nil=>
  have:fr∈bk.forms.filter (fun fr=>decide (Frm.name fr=nm)):=List.mem_filter.mpr ⟨hf,decide_eq_true hn⟩
  rw [hz0]at this
  cases this
 | cons fr' rest=>
  rw [hz0]at hz
  cases hz with
  | @cons _ z _ _ hz1 _=>
   have hm:fr'∈bk.forms.filter (fun fr=>decide (Frm.name fr=nm)):=by rw [hz0];exact List.mem_cons_self
   obtain ⟨m1,m2⟩:=List.mem_filter.mp hm
   have:=vj hok.nd m1 hf ((of_decide_eq_true m2).trans hn.symm)
   subst this
   exact ⟨p,_,0,z,rfl,rfl,SqL.of gp,bV,q z H' s' hz1⟩
noncomputable def dQ:Sp:=fun vs H Q _=> ∃ bv bk,vs=[bv]/\RepB H bk bv/\ ∀ sa sv,H sa=some (.tup sv)->RepSs H bk.sorts sv->Q (.ref sa) H
noncomputable def eN:Sp:=fun vs H Q _=> ∃ bv bk nm s,vs=[bv,.str nm]/\RepB H bk bv/\BkS bk/\s∈bk.sorts/\Srt.name s=nm/\ ∀ v H',Same H H'->RepS H' s v->Q v H'
noncomputable def j9:Sp:=fun vs H Q _=> ∃ bv bk nm s,vs=[bv,.str nm]/\RepB H bk bv/\BkS bk/\s∈bk.sorts/\Srt.name s=nm/\ ∀ b H',Same H H'->H' b=some (.tup (List.map V.str (Srt.downs s)))->Q (.ref b) H'
noncomputable def rg:Sp:=fun vs H Q _=> ∃ bv bk nm s,vs=[bv,.str nm]/\RepB H bk bv/\BkS bk/\s∈bk.sorts/\Srt.name s=nm/\ ∀ b H',Same H H'->H' b=some (.tup (List.map V.str (Srt.ups s)))->Q (.ref b) H'
noncomputable def dR:Sp:=fun vs H Q _=> ∃ v fr,vs=[v]/\RepF H fr v/\ ∀ ra rv,H ra=some (.tup rv)->RepRs H fr.rules rv->Q (.ref ra) H
noncomputable def eG (r:Rul):List Key:=[.inl r.pl,.inr r.word]
noncomputable def ka:Sp:=fun vs H Q _=> ∃ v fr,vs=[v]/\RepF H fr v/\fr.rules.length<=12/\ ∀ d kvs H',H d=none->Same H H'->H' d=some (.dT kvs)->kvs.length<=12->(∀ r∈fr.rules,∃ x,cz kvs (eG r)=some x)->(∀ kv∈kvs,∃ r∈fr.rules,Rep H' r.fm kv.2)->Q (.ref d) H'
theorem oY {κ:Type} [DecidableEq κ] {kvs:List (κ×V)} {k:κ} {v:V} {kv:κ×V} (h:kv∈cW kvs k v):kv∈kvs\/kv.2=v:=by
 unfold cW at h
 split at h
 ·obtain ⟨p,hp,e⟩:=List.mem_map.mp h
  by_cases c:p.1=k
  ·rw [if_pos c]at e
   exact .inr (by rw [<- e])
  ·rw [if_neg c]at e
   exact .inl (by rw [<- e];exact hp)
 ·rcases List.mem_append.mp h with h | h
  ·exact .inl h
  ·have:kv=(k,v):=by simpa using h
   exact .inr (by rw [this])
theorem pT:au ["book"] ["book"] (ag iO):=fsc
theorem oi (F:Fun K "sorts_of" "sorts_of" iO f fd):FnOk P w K mg base CX0 1 f fd ["book"] dQ:=by
 refine F.ok pT (fun vs H Q E h=>?_) (fun cdv A outer s H vs Q E hr h=>?_)
 ·obtain ⟨bv,bk,rfl,_⟩:=h
  rfl
 obtain ⟨bv,bk,rfl,⟨a,sa,fa,fv,rfl,ha,⟨sx,hsa,hS⟩,_⟩,q⟩:=h
 refine ⟨_,aj (aw (av ay (pv 0) ae (fun _ _=>rfl))),?_⟩
 exact ⟨_,rfl,a,_,1,_,rfl,rfl,SqT.of ha,aG (j:=1) rfl,q sa sx hsa hS⟩
theorem lZ:au ["book","name"] ["book","name"] (ag el):=fsc
theorem lh (F:Fun K "sort_named" "sort_named" el f fd)
  (GF:FnOk P w K mg base CX0 1 f2 fd2 ["book"] dQ) (bF:Binds K fd2 ["book"] []) (kF:PySem.W.keepIn K (.ref f2)=true) (mF:mg "sorts_of"=some (.ref f2)):FnOk P w K mg base CX0 2 f fd ["book","name"] eN:=by
 refine F.ok lZ (fun vs H Q E h=>?_) (fun cdv A outer s H vs Q E hr h=>?_)
 ·obtain ⟨bv,bk,nm,fr,rfl,_⟩:=h
  rfl
 obtain ⟨bv,bk,nm,fr,rfl,hB,hok,hf,hn,q⟩:=h
 refine ⟨_,aj (aw (av aM (iX (sc0:=ag el) (N0:=["book","name"]) (ys:=["name"]) (fr:=[1]) rfl
   (bd (af GF hr rfl mF kF bF .nil al (aa (pv 0) ab))) rfl rfl
   cok
   (fun C s H ex=>aF bj (av (r:=gh K) ay (pv 0) ae (fun _ _=>rfl)) (pv 1) (aE _))
   (fun C s H ex=>pv 0)) ae (fun _ _=>rfl))),?_⟩
 refine ⟨_,rfl,bv,bk,rfl,hB,fun fa fv hfa hF=>?_⟩
 have h4:=hok.s4
 have lF:=hF.len
 refine ⟨fa,rfl,⟨fv,SqT.of hfa⟩,?_⟩
 refine nv (by omega) hF (tO hfa) (tM hfa) (vE hfa) (fun fr=>decide (Srt.name fr=nm)) (fun H fr v=>RepS H fr v) (fun t h=>h.mono t) ?_ ?_ ?_
 ·rintro sr v H' k _ ⟨a1,b1,c1,rfl,g1,_⟩ s' hk
  refine ⟨_,rfl,a1,_,0,.str sr.name,rfl,rfl,SqT.of (s' _ _ g1),bV,_,rfl,rfl,_,rfl,?_⟩
  rw [show decide (V.str sr.name=V.str nm)=decide (sr.name=nm)from decide_eq_decide.mpr ⟨fun e=>V.str.inj e,fun e=>by rw [e]⟩]
  exact hk
 ·rintro sr v H' k _ hR _ s' hk
  exact ⟨_,rfl,hk _ _ (fun _ _ h=>h) (hR.mono (ax s'))⟩
 ·intro p zs H' hp s' gp hz
  have hm:fr∈bk.sorts.filter fun fr=>decide (Srt.name fr=nm):=List.mem_filter.mpr ⟨hf,decide_eq_true hn⟩
  cases hfl:bk.sorts.filter fun fr=>decide (Srt.name fr=nm)with
  | nil=>rw [hfl]at hm;cases hm
  | cons x r=>
   rw [hfl]at hz
   cases hz with
   | @cons _ z _ zr hx _=>
    have hxm:x∈bk.sorts.filter fun fr=>decide (Srt.name fr=nm):=by rw [hfl];exact List.mem_cons_self
    have e:x=fr:=uw hok.sd (List.mem_filter.mp hxm).1 hf (by rw [of_decide_eq_true (List.mem_filter.mp hxm).2,hn])
    subst e
    exact ⟨p,_,0,z,rfl,rfl,SqL.of gp,bV,q z H' s' hx⟩
theorem uC:au ["book","sort"] ["book","sort"] (ag nX):=fsc
theorem sR (F:Fun K "downs_of" "downs_of" nX f fd)
  (GN:FnOk P w K mg base CX0 2 f2 fd2 ["book","name"] eN) (bN:Binds K fd2 ["book","name"] []) (kN:PySem.W.keepIn K (.ref f2)=true) (mN:mg "sort_named"=some (.ref f2)):FnOk P w K mg base CX0 3 f fd ["book","sort"] j9:=by
 refine F.ok uC (fun vs H Q E h=>?_) (fun cdv A outer s H vs Q E hr h=>?_)
 ·obtain ⟨bv,bk,nm,sr,rfl,_⟩:=h
  rfl
 obtain ⟨bv,bk,nm,sr,rfl,hB,hok,hs,hn,q⟩:=h
 refine ⟨_,aj (aw (av ay (af GN hr rfl mN kN bN .nil al (aa (pv 0) (aa (pv 1) ab))) ae (fun _ _=>rfl))),?_⟩
 refine ⟨_,rfl,_,rfl,bv,bk,nm,sr,rfl,hB,hok,hs,hn,fun v H' s' hR=>?_⟩
 obtain ⟨a,b,c,rfl,ha,hb,_⟩:=hR
 exact ⟨a,_,1,.ref b,rfl,rfl,SqT.of ha,aG (j:=1) rfl,q b H' s' hb⟩
theorem w8:au ["book","sort"] ["book","sort"] (ag vV):=fsc
theorem wj (F:Fun K "ups_of" "ups_of" vV f fd)
  (GN:FnOk P w K mg base CX0 2 f2 fd2 ["book","name"] eN) (bN:Binds K fd2 ["book","name"] []) (kN:PySem.W.keepIn K (.ref f2)=true) (mN:mg "sort_named"=some (.ref f2)):FnOk P w K mg base CX0 3 f fd ["book","sort"] rg:=by
 refine F.ok w8 (fun vs H Q E h=>?_) (fun cdv A outer s H vs Q E hr h=>?_)
 ·obtain ⟨bv,bk,nm,sr,rfl,_⟩:=h
  rfl
 obtain ⟨bv,bk,nm,sr,rfl,hB,hok,hs,hn,q⟩:=h
 refine ⟨_,aj (aw (av ay (af GN hr rfl mN kN bN .nil al (aa (pv 0) (aa (pv 1) ab))) ae (fun _ _=>rfl))),?_⟩
 refine ⟨_,rfl,_,rfl,bv,bk,nm,sr,rfl,hB,hok,hs,hn,fun v H' s' hR=>?_⟩
 obtain ⟨a,b,c,rfl,ha,hb,hc⟩:=hR
 exact ⟨a,_,2,.ref c,rfl,rfl,SqT.of ha,aG (j:=2) rfl,q c H' s' hc⟩
theorem pU:au ["form"] ["form"] (ag iP):=fsc
theorem oj (F:Fun K "rules_of" "rules_of" iP f fd):FnOk P w K mg base CX0 1 f fd ["form"] dR:=by
 refine F.ok pU (fun vs H Q E h=>?_) (fun cdv A outer s H vs Q E hr h=>?_)
 ·obtain ⟨v,fr,rfl,_⟩:=h
  rfl
 obtain ⟨v,fr,rfl,⟨a,pa,ra,rv,rfl,ha,hpa,hra,hR⟩,q⟩:=h
 refine ⟨_,aj (aw (av ay (pv 0) ae (fun _ _=>rfl))),?_⟩
 exact ⟨_,rfl,a,_,3,_,rfl,rfl,SqT.of ha,aG (j:=3) rfl,q ra rv hra hR⟩
noncomputable abbrev wM:List Str:=["form","found","at","word","formula"]
theorem scByKey:au wM ["form"] (ag ky):=fsc
theorem sU (F:Fun K "formulas_by_key" "formulas_by_key" ky f fd)
  (GR:FnOk P w K mg base CX0 1 f2 fd2 ["form"] dR) (bR:Binds K fd2 ["form"] []) (kR:PySem.W.keepIn K (.ref f2)=true) (mR:mg "rules_of"=some (.ref f2)):FnOk P w K mg base CX0 2 f fd ["form"] ka:=by
 refine F.ok scByKey (fun vs H Q E h=>?_) (fun cdv A outer s H vs Q E hr h=>?_)
 ·obtain ⟨v,fr,rfl,_⟩:=h
  rfl
 obtain ⟨v,fr,rfl,hF,h12,q⟩:=h
 have hu:=jg hr
 refine ⟨_,ad (aq (i:=1) scByKey.nd rfl (Or.inl rfl) iW)
  (ad (bQ PassesOwn.never rfl (bd (af GR hr rfl mR kR bR .nil al (aa (pv 0) ab)))
    (eC rfl (aU (aH (i:=2) scByKey.nd rfl (Or.inl rfl)) (aU (aH (i:=3) scByKey.nd rfl (Or.inl rfl)) (aU (aH (i:=4) scByKey.nd rfl (Or.inl rfl)) dj))))
   (aj (gi hu (pv 1) (aJ (aa (pv 2) (aa (pv 3) ab))) (pv 4) rfl)))
  (aj (aw (pv 1)))),?_⟩
 refine fun d hd=>?_
 have s0:=ah hd (.dT [])
 have g0:(upd H d (.dT [])) d=some (.dT []):=ac
 generalize upd H d (.dT [])=H0 at s0 g0 ⊢
 refine ⟨_,rfl,v,fr,rfl,hF.mono (ax s0),fun ra rv hra hR=>?_⟩
 refine ⟨ra,rfl,⟨rv,SqT.of hra⟩,?_⟩
 have lR:=hR.len
 have hra':=hra
 refine dk (xs:=rv) (fun i Z H'=>i<=rv.length/\ ∃ o2 o3 o4 kvs,Z=[some v,some (.ref d),o2,o3,o4]/\Same H H'/\H' ra=some (.tup rv)/\RepRs H' fr.rules rv/\H' d=some (.dT kvs)/\kvs.length<=i/\(∀ r∈fr.rules.take i,∃ x,cz kvs (eG r)=some x)/\ ∀ kv∈kvs,∃ r∈fr.rules,Rep H' r.fm kv.2)
  ⟨Nat.zero_le _,none,none,none,[],rfl,s0,hra,hR,g0,Nat.le_refl _,fun r h=>(by cases h),fun kv h=>(by cases h)⟩ (fun i Z H' _ h=>by obtain ⟨_,_,_,_,_,_,_,g,_⟩:=h;exact SqT.of g) ?_ ?_
 ·rintro i x Z H1 hx ⟨_,o2,o3,o4,kvs,rfl,S1,gra,hR1,gd,hl,hv,hall⟩
  have hil:i<rv.length:=(List.getElem?_eq_some_iff.mp hx).1
  obtain ⟨r,hr',a,u,rfl,ha,hu'⟩:=aN hR1 hx
  refine ⟨a,_,rfl,SqT.of ha,rfl,_,_,rfl,_,_,rfl,_,_,rfl,rfl,?_⟩
  refine ⟨_,rfl,_,rfl,_,rfl,_,rfl,(by show 2<=sizeLine;decide),fun t ht=>?_⟩
  have s2:=ah ht (.tup [.int r.pl,.str r.word])
  have g2:(upd H1 t (.tup [.int r.pl,.str r.word])) t=some (.tup ((eG r).map kV)):=ac
  generalize upd H1 t (.tup [.int r.pl,.str r.word])=H2 at s2 g2 ⊢
  refine ⟨d,_,rfl,DPut.t (s2 _ _ gd) g2 (aA (by omega)),?_⟩
  have tk:TK H1 (upd H2 d (.dT (cW kvs (eG r) u))):=fun b xs e=>by
   rw [am (fun z=>by rw [z,gd]at e;cases e)]
   exact s2 _ _ e
  refine ⟨hil,_,_,_,_,rfl,?_,tk _ _ gra,hR1.mono tk,ac,?_,?_,?_⟩
  ·intro y o h
   rw [am (ai h hd)]
   exact s2 _ _ (S1 _ _ h)
  ·have:=cx kvs (eG r) u
   omega
  ·intro r' hm
   rw [gc]
   by_cases c:eG r'=eG r
   ·rw [if_pos c];exact ⟨_,rfl⟩
   ·rw [if_neg c]
    rw [List.take_add_one,hr']at hm
    rcases List.mem_append.mp hm with h | h
    ·exact hv r' h
    ·have:r'=r:=by simpa using h
     exact absurd (by rw [this]) c
  ·intro kv hkv
   rcases oY hkv with h | h
   ·obtain ⟨r0,h1,h2⟩:=hall kv h
    exact ⟨r0,h1,h2.mono tk⟩
   ·exact ⟨r,List.mem_of_getElem? hr',by rw [h];exact hu'.mono tk⟩
 ·rintro Z H1 ⟨_,o2,o3,o4,kvs,rfl,S1,gra,hR1,gd,hl,hv,hall⟩
  rw [<- lR,List.take_length]at hv
  exact ⟨_,rfl,q d kvs H1 hd S1 gd (by omega) hv hall⟩
theorem rJ:au ["found"] ["found"] (ag kw):=fsc
theorem qo (F:Fun K "_law_whole" "_law_whole" kw f fd) (G:Gb mg):FnOk P w K mg base CX0 1 f fd ["found"] fq:=by
 refine F.ok rJ (fun vs H Q E h=>?_) (fun cdv A outer s H vs Q E hr h=>?_)
 ·obtain ⟨v,rfl,_⟩:=h
  rfl
 obtain ⟨v,rfl,hS,q⟩:=h
 refine ⟨_,aj (aw (cf (ao bo rfl G.isi (by decide +kernel) (aa (pv 0) (aa (bE (v:=.ty "int") rfl G.int (by decide +kernel) rfl) ab)))
  (cv (sj (ao bo rfl G.isi (by decide +kernel) (aa (pv 0) (aa (bE (v:=.ty "bool") rfl G.bool (by decide +kernel) rfl) ab))))))),?_⟩
 have e:=pA hS
 refine ⟨_,rfl,v,"int",rfl,hS,by simp,_,rfl,?_⟩
 refine bx (fun c=>?_) (fun c=>?_)
 ·rw [if_pos c]at e
  refine ⟨_,rfl,v,"bool",rfl,hS,by simp,_,rfl,?_⟩
  exact qb q e.symm
 ·rw [if_neg c]at e
  exact qb q e.symm
noncomputable def SameV (H:Hp):Nat->V->V->Prop
 | 0,_,_=>False
 | n+1,v,u=>(∃ x:Str,v=.str x/\u=.str x/\x.length<=1000)\/(∃ i:Int,v=.int i/\u=.int i)\/
  ∃ (c:Bool) (a b:Addr) (xs ys:List V),v=.ref a/\u=.ref b/\H a=some (eh c xs)/\H b=some (eh c ys)/\xs.length<=1000/\Paired (SameV H n) xs ys
theorem SameV.mono {H H':Hp} (s:Same H H'): ∀ {n:Nat} {v u:V},SameV H n v u->SameV H' n v u
 | 0,_,_,h=>h
 | n+1,_,_,h=>by
  rcases h with h | h | ⟨c,a,b,xs,ys,e1,e2,h1,h2,hl,hp⟩
  ·exact .inl h
  ·exact .inr (.inl h)
  ·exact .inr (.inr ⟨c,a,b,xs,ys,e1,e2,s _ _ h1,s _ _ h2,hl,Paired.mapP hp fun _ _ h=>SameV.mono s h⟩)
noncomputable def gM (n:Nat):Sp:=fun vs H Q _=> ∃ v u,vs=[v,u]/\SameV H n v u/\ ∀ H',Same H H'->Q (.bl true) H'
theorem pz {H:Hp} {c:Bool} {a:Addr} {xs:List V} (h:H a=some (eh c xs)):isV "tuple" H (.ref a)=c/\isV "list" H (.ref a)= !c/\isV "bool" H (.ref a)=false:=by
 cases c with
 | true=>
  have h':H a=some (.tup xs):=h
  simp only [isV,h']
  exact ⟨rfl,rfl,rfl⟩
 | false=>
  have h':H a=some (.lst xs):=h
  simp only [isV,h']
  exact ⟨rfl,rfl,rfl⟩
theorem ki {H:Hp} {c:Bool} {a:Addr} {xs:List V} (h:H a=some (eh c xs)):Sh H (.ref a):=by
 cases c with
 | true=>exact .inr (.inl ⟨xs,h⟩)
 | false=>exact .inl ⟨xs,h⟩
theorem vK {H:Hp} {c:Bool} {a:Addr} {xs:List V} (h:H a=some (eh c xs)):TL H (.ref a) true:=by
 cases c with
 | true=>exact .tup (show H a=some (.tup xs)from h)
 | false=>exact .lst (show H a=some (.lst xs)from h)
theorem re {K:PySem.W.Frag} {H:Hp} {c:Bool} {a:Addr} {xs:List V} (h:H a=some (eh c xs)):SqL K H a xs\/SqT K H a xs:=by
 cases c with
 | true=>exact .inr (SqT.of h)
 | false=>exact .inl (SqL.of h)
theorem vT:au ["found","due"] ["found","due"] (ag l9):=fsc
theorem sI {n:Nat} (F:Fun K "_law_same" "_law_same" l9 f fd) (G:Gb mg) (hlist:mg "list"=none) (hzip:mg "zip"=none)
  (GS:FnOk P w K mg base CX0 (n+2) f fd ["found","due"] (gM n)) (bS:Binds K fd ["found","due"] []) (mS:mg "_law_same"=some (.ref f))
  (GW:FnOk P w K mg base CX0 1 f2 fd2 ["found"] fq) (bW:Binds K fd2 ["found"] []) (kW:PySem.W.keepIn K (.ref f2)=true) (mW:mg "_law_whole"=some (.ref f2)):
  FnOk P w K mg base CX0 (n+3) f fd ["found","due"] (gM (n+1)):=by
 refine F.ok vT (fun vs H Q E h=>?_) (fun cdv A outer s H vs Q E hr h=>?_)
 ·obtain ⟨v,u,rfl,_⟩:=h
  rfl
 obtain ⟨v,u,rfl,hS,q⟩:=h
 have hr1:=hr.mono (show 1<=n+2 by omega)
 refine ⟨_,ad (aL (aT (ao qK rfl G.isi (by decide +kernel) (aa (pv 1) (aa (aJ (aa (bE (v:=.ty "tuple") rfl G.tuple (by decide +kernel) rfl) (aa (bE (v:=.ty "list") rfl hlist (by decide +kernel) rfl) ab))) ab))))
   (ad (aL (PW.pt (c6 (aF mj (ao bo rfl G.isi (by decide +kernel) (aa (pv 1) (aa (bE (v:=.ty "tuple") rfl G.tuple (by decide +kernel) rfl) ab))) (ao bo rfl G.isi (by decide +kernel) (aa (pv 0) (aa (bE (v:=.ty "tuple") rfl G.tuple (by decide +kernel) rfl) ab))) (aE _))
     (cD (aF mj (ao bo rfl G.isi (by decide +kernel) (aa (pv 1) (aa (bE (v:=.ty "list") rfl hlist (by decide +kernel) rfl) ab))) (ao bo rfl G.isi (by decide +kernel) (aa (pv 0) (aa (bE (v:=.ty "list") rfl hlist (by decide +kernel) rfl) ab))) (aE _)))))
    (aj (aw dg)) aC)
   (aj (aw (cf (bm bj (ao ar rfl G.len PySem.boot_len (aa (pv 0) ab)) (ao ar rfl G.len PySem.boot_len (aa (pv 1) ab)) (aE _))
    (cv (ao (ck rfl) rfl G.all (by decide +kernel) (aa (su (sc0:=ag l9) (N0:=["found","due"]) (ys:=[]) (fr:=[]) rfl (v5 rfl hzip (aa (pv 0) (aa (pv 1) ab))) rfl rfl
     ⟨rfl,by decide +kernel,by decide +kernel,by decide +kernel,by decide +kernel,by decide +kernel,by decide +kernel,rfl,by decide +kernel⟩ (fun C s H ex=>af GS hr rfl mS F.kp bS .nil al (aa (pv 0) (aa (pv 1) ab)))) ab)))))))
   aC)
  (ad (aL (aF sC (pv 1) fP (aE _)) (aj (aw (bm sC (pv 0) fP (aE _)))) aC)
  (ad (aL (aT (ao bo rfl G.isi (by decide +kernel) (aa (pv 1) (aa (bE (v:=.ty "bool") rfl G.bool (by decide +kernel) rfl) ab))))
   (aj (aw (cf (ao bo rfl G.isi (by decide +kernel) (aa (pv 0) (aa (bE (v:=.ty "bool") rfl G.bool (by decide +kernel) rfl) ab))) (cv (bm bj (pv 0) (pv 1) (aE _)))))) aC)
  (ad (aL (aT (ao bo rfl G.isi (by decide +kernel) (aa (pv 1) (aa (bE (v:=.ty "str") rfl G.str (by decide +kernel) rfl) ab))))
   (aj (aw (cf (ao bo rfl G.isi (by decide +kernel) (aa (pv 0) (aa (bE (v:=.ty "str") rfl G.str (by decide +kernel) rfl) ab))) (cv (bm bj (pv 0) (pv 1) (aE _)))))) aC)
  (aj (aw (cf (af GW hr1 rfl mW kW bW .nil al (aa (pv 0) ab)) (cv (bm bj (pv 0) (pv 1) (aE _))))))))),?_⟩
 refine ⟨_,rfl,(by show 2<=sizeLine;decide),fun p0 h0=>?_⟩
 have s0:=ah h0 (.tup [.ty "tuple",.ty "list"])
 have g0:(upd H p0 (.tup [.ty "tuple",.ty "list"])) p0=some (.tup [.ty "tuple",.ty "list"]):=ac
 generalize upd H p0 (.tup [.ty "tuple",.ty "list"])=H0 at s0 g0 ⊢
 have hS0:=SameV.mono s0 hS
 rcases hS0 with ⟨x,rfl,rfl,hx⟩ | ⟨i,rfl,rfl⟩ | ⟨c,a,b,xs,ys,rfl,rfl,ha,hb,hl,hp⟩
 ·refine ⟨_,p0,false,rfl,g0,.str x,_,rfl,?_⟩
  refine aX ⟨_,rfl,rfl,_,rfl,?_⟩
  rw [show decide (V.str x=V.non)=false from decide_eq_false fun e=>nomatch e]
  refine aX ⟨_,rfl,_,"bool",rfl,hx,by simp,_,rfl,?_⟩
  rw [show isV "bool" H0 (V.str x)=false from rfl]
  refine aX ⟨_,rfl,_,"str",rfl,hx,by simp,_,rfl,?_⟩
  rw [show isV "str" H0 (V.str x)=true from rfl]
  refine cX ⟨_,rfl,_,"str",rfl,hx,by simp,_,rfl,?_⟩
  rw [show isV "str" H0 (V.str x)=true from rfl]
  refine cX ⟨_,rfl,_,rfl,rfl,?_⟩
  rw [decide_eq_true rfl]
  exact q H0 s0
 ·refine ⟨_,p0,false,rfl,g0,.int i,_,rfl,?_⟩
  refine aX ⟨_,rfl,rfl,_,rfl,?_⟩
  rw [show decide (V.int i=V.non)=false from decide_eq_false fun e=>nomatch e]
  refine aX ⟨_,rfl,_,"bool",rfl,True.intro,by simp,_,rfl,?_⟩
  rw [show isV "bool" H0 (V.int i)=false from rfl]
  refine aX ⟨_,rfl,_,"str",rfl,True.intro,by simp,_,rfl,?_⟩
  rw [show isV "str" H0 (V.int i)=false from rfl]
  refine aX ⟨_,rfl,_,rfl,True.intro,_,rfl,?_⟩
  rw [show nE (V.int i)=true from rfl]
  refine cX ⟨_,rfl,_,rfl,rfl,?_⟩
  rw [decide_eq_true rfl]
  exact q H0 s0
 ·obtain ⟨a1,a2,_⟩:=pz ha
  obtain ⟨b1,b2,_⟩:=pz hb
  have hlen:xs.length=ys.length:=Paired.length hp
  refine ⟨_,p0,true,rfl,g0,vK hb,_,rfl,?_⟩
  refine cX ⟨_,rfl,_,"tuple",rfl,ki hb,by simp,_,rfl,_,"tuple",rfl,ki ha,by simp,rfl,_,rfl,?_⟩
  rw [a1,b1,decide_eq_true rfl]
  refine aX ⟨_,rfl,_,"list",rfl,ki hb,by simp,_,rfl,_,"list",rfl,ki ha,by simp,rfl,_,rfl,?_⟩
  rw [a2,b2,decide_eq_true rfl]
  refine aX ⟨_,rfl,a,xs,rfl,re ha,_,rfl,b,ys,rfl,re hb,rfl,_,rfl,?_⟩
  rw [hlen,decide_eq_true rfl]
  refine cX ⟨_,rfl,_,rfl,c,a,b,xs,ys,rfl,ha,hb,fun l hl0=>?_⟩
  refine ⟨fun i m zs H'=>i<=xs.length/\m=xs.length-i/\Same H0 H'/\H' l=some (.lst zs)/\zs=List.replicate i (.bl true),⟨_,Nat.zero_le _,rfl,ah hl0 _,ac,rfl⟩,?_⟩
  rintro i m zs H' ⟨hi,hm,sm,gl,rfl⟩
  refine ⟨gl,?_⟩
  by_cases e:i=xs.length
  ·refine .inl ⟨⟨xs,ys,sm _ _ ha,sm _ _ hb,e.symm,by omega⟩,l,List.replicate i true,rfl,SqL.of (by rw [List.map_replicate];exact gl),?_⟩
   rw [show (List.replicate i true).all id=true by simp]
   exact q H' (s0.trans sm)
  ·have hlt:i<xs.length:=by omega
   refine .inr ⟨⟨xs,ys,xs[i],ys[i],sm _ _ ha,sm _ _ hb,List.getElem?_eq_getElem hlt,List.getElem?_eq_getElem (by omega)⟩,aA (by rw [List.length_replicate];omega),?_⟩
   rintro _ _ ⟨T,x,y,fT,rfl,rfl,hxy⟩
   obtain ⟨ex,ey⟩:=hxy xs ys (sm _ _ ha) (sm _ _ hb)
   obtain ⟨y',ey',hs⟩:=ig hp ex
   rw [ey]at ey'
   cases ey'
   have sT:=sm.trans (ah fT (.tup [x,y]))
   refine ⟨T,x,y,rfl,ac,_,rfl,_,rfl,x,y,rfl,SameV.mono sT hs,fun H4 s4=>?_⟩
   have gl4:=s4 _ _ (ah fT (.tup [x,y]) _ _ gl)
   refine ⟨gl4,_,(by omega:xs.length- (i+1) <m),by omega,rfl,fun c' o h=>?_,ac,?_⟩
   ·rw [am (ai h hl0)]
    exact s4 _ _ (sT _ _ h)
   ·exact List.replicate_succ'.symm
theorem sJ:FnOk P w K mg base CX0 2 f fd ["found","due"] (gM 0):=by
 have no: ∀ vs H Q E,¬ gM 0 vs H Q E:=fun vs H Q E h=>by
  obtain ⟨v,u,_,h,_⟩:=h
  exact h
 exact ⟨fun vs H Q E h=>absurd h (no vs H Q E),fun A outer s H args us vs Q E _ _ _ _ h=>absurd h (no vs H Q E)⟩
theorem pe (F:Fun K "_law_same" "_law_same" l9 f fd) (G:Gb mg) (hlist:mg "list"=none) (hzip:mg "zip"=none) (bS:Binds K fd ["found","due"] []) (mS:mg "_law_same"=some (.ref f))
  (GW:FnOk P w K mg base CX0 1 f2 fd2 ["found"] fq) (bW:Binds K fd2 ["found"] []) (kW:PySem.W.keepIn K (.ref f2)=true) (mW:mg "_law_whole"=some (.ref f2)): ∀ n:Nat,FnOk P w K mg base CX0 (n+2) f fd ["found","due"] (gM n)
 | 0=>sJ
 | n+1=>sI F G hlist hzip (pe F G hlist hzip bS mS GW bW kW mW n) bS mS GW bW kW mW
theorem da {J:It} {α:Type} {as:List α} {A:α->V->Prop} {xs:List V} {fr:List Nat} {te:TE} {Z:St} {H1:Hp} {Q:VK} (hn:xs.length<=1000) (hP:Paired A as xs)
  (hgo: ∀ i H,Same H1 H->i<xs.length->J.go i H) (hst: ∀ H,Same H1 H->J.stop xs.length H) (hy: ∀ i H v H',Same H1 H->J.yld i H v H'->H'=H/\xs[i]? =some v)
  (R:Hp->α->V->Prop) (mono: ∀ {H H':Hp} {a:α} {v:V},TK H H'->R H a v->R H' a v)
  (hte: ∀ a v H (k:VK),a∈as->A a v->Same H1 H->(∀ u H',Same H H'->R H' a u->k u H')->te (some v::cc fr Z) H k)
  (hd: ∀ p zs H',H1 p=none->Same H1 H'->H' p=some (.lst zs)->Paired (R H') as zs->Q (.ref p) H'):eL fr te Z J H1 Q:=by
 intro p hp
 have hl:as.length=xs.length:=Paired.length hP
 refine ⟨fun i m zs H=>i<=xs.length/\m=xs.length-i/\Same H1 H/\H p=some (.lst zs)/\zs.length=i/\Paired (R H) (as.take i) zs,⟨_,Nat.zero_le _,rfl,ah hp _,ac,rfl,.nil⟩,?_⟩
 rintro i m zs H ⟨hi,hm,sm,gp,hz,hT⟩
 refine ⟨gp,?_⟩
 by_cases e:i=xs.length
 ·subst e
  rw [<- hl,List.take_length]at hT
  exact .inl ⟨hst H sm,hd p zs H hp sm gp hT⟩
 ·have hlt:i<xs.length:=by omega
  refine .inr ⟨hgo i H sm hlt,aA (by omega),fun v H' hv=>?_⟩
  obtain ⟨rfl,hv2⟩:=hy i H v H' sm hv
  obtain ⟨a,ha,hA⟩:=aN hP hv2
  refine hte a v _ _ (List.mem_of_getElem? ha) hA sm fun u H2 s2 r=>?_
  have gp2:=s2 _ _ gp
  have tk:TK H2 (upd H2 p (.lst (zs++[u]))):=TK.lst gp2
  refine ⟨gp2,xs.length- (i+1),by omega,by omega,rfl,?_,ac,by rw [List.length_append,hz];rfl,?_⟩
  ·intro b o hb
   rw [am (ai hb hp)]
   exact s2 _ _ (sm _ _ hb)
  ·rw [List.take_add_one,ha]
   exact Paired.snoc (Paired.mapP hT fun _ _ r=>mono ((ax s2).trans tk) r) (mono tk r)
theorem lC {α:Type} {J:It} {as:List α} {xs:List V} {A:α->V->Prop} {fr:List Nat} {tc:TT} {te:TE} {Z:St} {H1:Hp} {Q:VK} (hn:xs.length<=1000) (hP:Paired A as xs)
  (hgo: ∀ i H,Same H1 H->i<xs.length->J.go i H) (hst: ∀ H,Same H1 H->J.stop xs.length H) (hy: ∀ i H v H',Same H1 H->J.yld i H v H'->H'=H/\xs[i]? =some v)
  (c:α->Bool) (R:Hp->α->V->Prop) (mono: ∀ {H H':Hp} {a:α} {v:V},TK H H'->R H a v->R H' a v)
  (htc: ∀ a v H (k:Bool->Hp->Prop),a∈as->A a v->Same H1 H->(∀ H',Same H H'->k (c a) H')->tc (some v::cc fr Z) H k)
  (hte: ∀ a v H (k:VK),a∈as->A a v->c a=true->Same H1 H->(∀ u H',Same H H'->R H' a u->k u H')->te (some v::cc fr Z) H k)
  (hd: ∀ p zs H',H1 p=none->Same H1 H'->H' p=some (.lst zs)->Paired (R H') (as.filter c) zs->Q (.ref p) H'):jW fr tc te Z J H1 Q:=by
 intro p hp
 refine ⟨fun i m zs H=>i<=xs.length/\m=xs.length-i/\Same H1 H/\H p=some (.lst zs)/\zs.length<=i/\Paired (R H) ((as.take i).filter c) zs,⟨_,Nat.zero_le _,rfl,ah hp _,ac,Nat.le_refl _,.nil⟩,?_⟩
 rintro i m zs H ⟨hi,hm,sm,gp,hz,hT⟩
 refine ⟨gp,?_⟩
 by_cases e:i=xs.length
 ·subst e
  rw [<- Paired.length hP,List.take_length]at hT
  exact .inl ⟨hst H sm,hd p zs H hp sm gp hT⟩
 ·have hlt:i<xs.length:=by omega
  refine .inr ⟨hgo i H sm hlt,aA (by omega),fun v H' hv=>?_⟩
  obtain ⟨rfl,hv2⟩:=hy i H v H' sm hv
  obtain ⟨a,ha,hA⟩:=aN hP hv2
  have etk:(as.take (i+1)).filter c=(as.take i).filter c++(if c a then [a]else []):=by
   rw [List.take_add_one,ha,List.filter_append]
   congr 1
   show List.filter c [a]=_
   by_cases hc:c a=true
   ·rw [if_pos hc,List.filter_cons_of_pos hc];rfl
   ·rw [if_neg hc,List.filter_cons_of_neg hc];rfl
  refine htc a v _ _ (List.mem_of_getElem? ha) hA sm fun H0 s0=>?_
  have sm0:=sm.trans s0
  have gp0:=s0 _ _ gp
  by_cases hc:c a=true
  ·rw [if_pos hc]at etk
   rw [if_pos hc]
   refine hte a v _ _ (List.mem_of_getElem? ha) hA hc sm0 fun u H2 s2 r=>?_
   have gp2:=s2 _ _ gp0
   have tk:TK H2 (upd H2 p (.lst (zs++[u]))):=TK.lst gp2
   refine ⟨gp2,xs.length- (i+1),by omega,by omega,rfl,?_,ac,by rw [List.length_append];show zs.length+1<=i+1;omega,?_⟩
   ·intro b o hb
    rw [am (ai hb hp)]
    exact s2 _ _ (sm0 _ _ hb)
   ·rw [etk]
    exact Paired.snoc (Paired.mapP hT fun _ _ r=>mono ((ax (s0.trans s2)).trans tk) r) (mono tk r)
  ·rw [if_neg hc,List.append_nil]at etk
   rw [if_neg hc]
   exact ⟨xs.length- (i+1),by omega,by omega,rfl,sm0,gp0,by omega,by rw [etk];exact Paired.mapP hT fun _ _ r=>mono (ax s0) r⟩
theorem fD {K:PySem.W.Frag} {a:Addr} {xs:List V} {H1:Hp} (ha:H1 a=some (.lst xs)): ∀ i H,Same H1 H->i<xs.length->(Itl K a).go i H:=fun i H s h=>⟨xs,xs[i],SqL.of (s _ _ ha),List.getElem?_eq_getElem h⟩
theorem fC {K:PySem.W.Frag} {a:Addr} {xs:List V} {H1:Hp} (ha:H1 a=some (.lst xs)): ∀ H,Same H1 H->(Itl K a).stop xs.length H:=fun H s=>⟨xs,SqL.of (s _ _ ha),Nat.le_refl _⟩
theorem gS {K:PySem.W.Frag} {a:Addr} {xs:List V} {H1:Hp} (ha:H1 a=some (.lst xs)): ∀ i H v H',Same H1 H->(Itl K a).yld i H v H'->H'=H/\xs[i]? =some v:=fun i H v H' s hv=>⟨hv.1,by obtain ⟨rfl,hv⟩:=hv;exact hv xs (SqL.of (s _ _ ha))⟩
theorem cu {K:PySem.W.Frag} {a:Addr} {xs:List V} {H1:Hp} (ha:H1 a=some (.tup xs)): ∀ i H,Same H1 H->i<xs.length->(Itt K a).go i H:=fun i H s h=>⟨xs,xs[i],SqT.of (s _ _ ha),List.getElem?_eq_getElem h⟩
theorem cs {K:PySem.W.Frag} {a:Addr} {xs:List V} {H1:Hp} (ha:H1 a=some (.tup xs)): ∀ H,Same H1 H->(Itt K a).stop xs.length H:=fun H s=>⟨xs,SqT.of (s _ _ ha),Nat.le_refl _⟩
theorem cO {K:PySem.W.Frag} {a:Addr} {xs:List V} {H1:Hp} (ha:H1 a=some (.tup xs)): ∀ i H v H',Same H1 H->(Itt K a).yld i H v H'->H'=H/\xs[i]? =some v:=fun i H v H' s hv=>⟨hv.1,by obtain ⟨rfl,hv⟩:=hv;exact hv xs (SqT.of (s _ _ ha))⟩
theorem fH: ∀ ps:List Srt,Paired (fun (p:Srt) (v:V)=>v=.str p.name) ps (bn ps)
 | []=>.nil
 | _::r=>.cons rfl (fH r)
theorem dq {α:Type} {g:α->V}: ∀ {l:List α} {zs:List V},Paired (fun a v=>v=g a) l zs->zs=l.map g
 | _,_,.nil=>rfl
 | _,_,.cons h t=>by rw [h,dq t];rfl
theorem cF {J:It} {α:Type} {as:List α} {A:α->V->Prop} {xs:List V} {fr:List Nat} {te:TE} {Z:St} {H1:Hp} {Q:VK} (hn:xs.length<=1000) (hP:Paired A as xs)
  (hgo: ∀ i H,Same H1 H->i<xs.length->J.go i H) (hst: ∀ H,Same H1 H->J.stop xs.length H) (hy: ∀ i H v H',Same H1 H->J.yld i H v H'->H'=H/\xs[i]? =some v)
  (hte: ∀ a v H (k:VK),a∈as->A a v->Same H1 H->(∀ H',Same H H'->k (.bl true) H')->te (some v::cc fr Z) H k)
  (hd: ∀ p (bs:List Bool) H',bs.all id=true->H1 p=none->Same H1 H'->H' p=some (.lst (bs.map V.bl))->Q (.ref p) H'):eL fr te Z J H1 Q:=by
 refine da hn hP hgo hst hy (fun _ _ v=>v=.bl true) (fun _ h=>h) (fun a v H k ha hA s' hk=>hte a v H k ha hA s' fun H' s2=>hk _ H' s2 rfl) fun p zs H' hp s' g hz=>?_
 have e:=dq (g:=fun _=>V.bl true) hz
 refine hd p (as.map fun _=>true) H' ?_ hp s' ?_
 ·rw [List.all_map]
  exact List.all_eq_true.mpr fun _ _=>rfl
 ·rw [List.map_map,g,e]
  rfl
noncomputable def gW (fr:Frm):Fm->Prop
 | .own x=>x∈fr.own.downs++fr.own.ups
 | .part k x=> ∃ (j:Nat) (q:Srt),k=(j:Int)/\fr.parts[j]? =some q/\x∈q.downs++q.ups
 | _=>True
noncomputable def Fm.prt:Fm->List Int
 | .num _=>[]
 | .own _=>[]
 | .part k _=>[k]
 | .bin _ a b=>a.prt++b.prt
 | .whn a b c=>a.prt++(b.prt++c.prt)
noncomputable def Fm.lvl:Fm->Prop
 | .num _=>True
 | .own _=>False
 | .part _ _=>True
 | .bin op a b=>a.lvl/\b.lvl/\(op="times"-> ∀ k∈a.prt,k∉b.prt)
 | .whn a b c=>a.lvl/\b.lvl/\c.lvl
structure BkV (bk:Bk):Prop where
 s:BkS bk
 wh:bk.wheel=0\/(2<=bk.wheel/\bk.wheel<=10^30)
 s1:1<=bk.sorts.length
 f1:1<=bk.forms.length
 sw: ∀ s∈bk.sorts,be s.name=true/\ ∀ x∈s.downs++s.ups,be x=true
 fw: ∀ fr∈bk.forms,be fr.name=true
 rd: ∀ fr∈bk.forms,∀ r∈fr.rules,r.fm.wfp (gW fr)
 lv:bk.wheel=0->(∀ s∈bk.sorts,s.downs=[])/\ ∀ fr∈bk.forms,∀ r∈fr.rules,r.fm.lvl
noncomputable def ft:Sp:=fun vs H Q _=> ∃ (a:Addr) (xs:List V) (lo hi:Int),vs=[.ref a,.int lo,.int hi]/\H a=some (.tup xs)/\lo<=(xs.length:Int)/\(xs.length:Int)<=hi/\Q (.bl true) H
noncomputable def fL:Sp:=fun vs H Q _=> ∃ (a:Addr) (ws:List Str) (hi:Int),vs=[.ref a,.int hi]/\H a=some (.tup (ws.map V.str))/\(ws.length:Int)<=hi/\ws.length<=1000/\(∀ x∈ws,be x=true)/\ ∀ H',Same H H'->Q (.bl true) H'
noncomputable def jB:Sp:=fun vs H Q _=> ∃ n:Int,vs=[.int n]/\0<=n/\n<=10^30/\n≠1/\Q (.bl true) H
noncomputable def hU:Sp:=fun vs H Q _=> ∃ v r,vs=[v]/\RepR H r v/\be r.word=true/\ ∀ H',Same H H'->Q (.bl true) H'
noncomputable def hJ:Sp:=fun vs H Q _=> ∃ v s,vs=[v]/\RepS H s v/\be s.name=true/\(∀ x∈s.downs++s.ups,be x=true)/\s.downs.length<=3/\s.ups.length<=3/\ ∀ H',Same H H'->Q (.bl true) H'
noncomputable def h9:Sp:=fun vs H Q _=> ∃ v fr,vs=[v]/\RepF H fr v/\be fr.name=true/\be fr.own.name=true/\(∀ q∈fr.parts,be q.name=true)/\fr.parts.length<=3/\(∀ r∈fr.rules,be r.word=true)/\fr.rules.length<=12/\ ∀ H',Same H H'->Q (.bl true) H'
noncomputable def iK:Sp:=fun vs H Q _=> ∃ bv bk,vs=[bv]/\RepB H bk bv/\BkV bk/\ ∀ H',Same H H'->Q (.bl true) H'
noncomputable def gK:Sp:=fun vs H Q _=> ∃ bv bk,vs=[bv]/\RepB H bk bv/\Q (.int bk.wheel) H
theorem ni {H:Hp} {a:Addr} {xs:List V} (h:H a=some (.tup xs)):isV "tuple" H (.ref a)=true:=by simp only [isV,h];rfl
theorem dH: ∀ ws:List Str,Paired (fun (x:Str) (v:V)=>v=.str x) ws (ws.map V.str)
 | []=>.nil
 | _::r=>.cons rfl (dH r)
theorem uA:au ["thing","fewest","most"] ["thing","fewest","most"] (ag nV):=fsc
theorem sP (F:Fun K "is_row" "is_row" nV f fd) (G:Gb mg):FnOk P w K mg base CX0 1 f fd ["thing","fewest","most"] ft:=by
 refine F.ok uA (fun vs H Q E h=>?_) (fun cdv A outer s H vs Q E hr h=>?_)
 ·obtain ⟨a,xs,lo,hi,rfl,_⟩:=h
  rfl
 obtain ⟨a,xs,lo,hi,rfl,ha,h1,h2,q⟩:=h
 refine ⟨_,aj (aw (cf (ao bo rfl G.isi (by decide +kernel) (aa (pv 0) (aa (bE (v:=.ty "tuple") rfl G.tuple (by decide +kernel) rfl) ab)))
  (cv (iY jH jH (pv 1) (ao ar rfl G.len PySem.boot_len (aa (pv 0) ab)) (pv 2))))),?_⟩
 refine ⟨_,rfl,.ref a,"tuple",rfl,.inr (.inl ⟨xs,ha⟩),by simp,_,rfl,?_⟩
 rw [ni ha]
 refine cX ⟨_,rfl,_,rfl,a,xs,rfl,.inr (SqT.of ha),lo,(xs.length:Int),rfl,rfl,_,rfl,?_⟩
 rw [decide_eq_true h1]
 refine cX ⟨_,rfl,(xs.length:Int),hi,rfl,rfl,?_⟩
 exact qb q (decide_eq_true h2).symm
theorem nP:au ["thing","most"] ["thing","most"] (ag fu):=fsc
theorem mq (F:Fun K "is_row_of_words" "is_row_of_words" fu f fd) (G:Gb mg)
  (GR:FnOk P w K mg base CX0 1 f2 fd2 ["thing","fewest","most"] ft) (bR:Binds K fd2 ["thing","fewest","most"] []) (kR:PySem.W.keepIn K (.ref f2)=true) (mR:mg "is_row"=some (.ref f2))
  (GW:FnOk P w K mg base CX0 1 f3 fd3 ["thing"] gJ) (bW:Binds K fd3 ["thing"] []) (kW:PySem.W.keepIn K (.ref f3)=true) (mW:mg "is_word"=some (.ref f3)):
  FnOk P w K mg base CX0 2 f fd ["thing","most"] fL:=by
 refine F.ok nP (fun vs H Q E h=>?_) (fun cdv A outer s H vs Q E hr h=>?_)
 ·obtain ⟨a,ws,hi,rfl,_⟩:=h
  rfl
 obtain ⟨a,ws,hi,rfl,ha,h1,h2,hw,q⟩:=h
 refine ⟨_,aj (aw (cf (af GR hr rfl mR kR bR .nil al (aa (pv 0) (aa ae (aa (pv 1) ab))))
  (cv (ao (ck rfl) rfl G.all (by decide +kernel) (aa (br (sc0:=ag fu) (N0:=["thing","most"]) (ys:=[]) (fr:=[]) rfl (bd (pv 0)) rfl rfl
   cok (fun C s H ex=>af GW hr rfl mW kW bW .nil al (aa (pv 0) ab))) ab))))),?_⟩
 have hl:(ws.map V.str).length=ws.length:=List.length_map _
 refine ⟨_,rfl,_,rfl,a,_,0,hi,rfl,ha,by omega,by omega,true,rfl,cX ?_⟩
 refine ⟨_,rfl,a,rfl,⟨_,SqT.of ha⟩,?_⟩
 refine cF (by omega) (dH ws) (cu ha) (cs ha) (cO ha) ?_ ?_
 ·rintro x v H1 k hx rfl s1 hk
  exact ⟨_,rfl,_,rfl,ba (hw x hx),fun H2 s2=>by rw [show df (.str x)=true from hw x hx];exact hk H2 s2⟩
 ·intro p bs H1 hbs hp s1 g1
  exact ⟨p,bs,rfl,SqL.of g1,by rw [hbs];exact q H1 s1⟩
theorem pS:au ["book"] ["book"] (ag iN):=fsc
theorem og (F:Fun K "wheel_of" "wheel_of" iN f fd):FnOk P w K mg base CX0 1 f fd ["book"] gK:=by
 refine F.ok pS (fun vs H Q E h=>?_) (fun cdv A outer s H vs Q E hr h=>?_)
 ·obtain ⟨bv,bk,rfl,_⟩:=h
  rfl
 obtain ⟨bv,bk,rfl,⟨a,sa,fa,fv,rfl,ha,_⟩,q⟩:=h
 refine ⟨_,aj (aw (av ay (pv 0) ae (fun _ _=>rfl))),?_⟩
 exact ⟨_,rfl,a,_,0,_,rfl,rfl,SqT.of ha,bV,q⟩
theorem pW:au ["thing"] ["thing"] (ag iS):=fsc
theorem oq (F:Fun K "is_wheel" "is_wheel" iS f fd)
  (GI:FnOk P w K mg base CX0 2 f2 fd2 ["thing","lowest","highest"] iH) (bI:Binds K fd2 ["thing","lowest","highest"] []) (kI:PySem.W.keepIn K (.ref f2)=true) (mI:mg "is_whole_within"=some (.ref f2)):
  FnOk P w K mg base CX0 3 f fd ["thing"] jB:=by
 refine F.ok pW (fun vs H Q E h=>?_) (fun cdv A outer s H vs Q E hr h=>?_)
 ·obtain ⟨n,rfl,_⟩:=h
  rfl
 obtain ⟨n,rfl,h1,h2,h3,q⟩:=h
 refine ⟨_,aj (aw (cf (af GI hr rfl mI kI bI .nil al (aa (pv 0) (aa ae (aa (aB sB ae ae) ab)))) (cv (bm mj (pv 0) ae (aE _))))),?_⟩
 refine ⟨_,rfl,10,30,rfl,rfl,⟨by decide,by decide,by decide⟩,.int n,0,_,rfl,trivial,true,?_,?_⟩
 ·show V.bl (decide (0<=n)&&decide (n<=10^30))=V.bl true
  rw [decide_eq_true h1,decide_eq_true h2]
  rfl
 refine cX ⟨_,rfl,rfl,?_⟩
 exact qb q (by rw [decide_eq_false fun z=>h3 (V.int.inj z)];rfl)
theorem l3:au ["thing"] ["thing"] (ag fO):=fsc
theorem li (F:Fun K "has_rule_shape" "has_rule_shape" fO f fd)
  (GR:FnOk P w K mg base CX0 1 f2 fd2 ["thing","fewest","most"] ft) (bR:Binds K fd2 ["thing","fewest","most"] []) (kR:PySem.W.keepIn K (.ref f2)=true) (mR:mg "is_row"=some (.ref f2))
  (GW:FnOk P w K mg base CX0 1 f3 fd3 ["thing"] gJ) (bW:Binds K fd3 ["thing"] []) (kW:PySem.W.keepIn K (.ref f3)=true) (mW:mg "is_word"=some (.ref f3))
  (GH:FnOk P w K mg base CX0 1 f4 fd4 ["thing"] fq) (bH:Binds K fd4 ["thing"] []) (kH:PySem.W.keepIn K (.ref f4)=true) (mH:mg "is_whole"=some (.ref f4)):
  FnOk P w K mg base CX0 2 f fd ["thing"] hU:=by
 refine F.ok l3 (fun vs H Q E h=>?_) (fun cdv A outer s H vs Q E hr h=>?_)
 ·obtain ⟨v,r,rfl,_⟩:=h
  rfl
 obtain ⟨v,r,rfl,⟨a,u,rfl,ha,_⟩,hw,q⟩:=h
 refine ⟨_,aj (aw (cf (af GR hr rfl mR kR bR .nil al (aa (pv 0) (aa ae (aa ae ab))))
  (cf (af GH hr rfl mH kH bH .nil al (aa (av ay (pv 0) ae (fun _ _=>rfl)) ab))
  (cv (af GW hr rfl mW kW bW .nil al (aa (av ay (pv 0) ae (fun _ _=>rfl)) ab)))))),?_⟩
 refine ⟨_,rfl,a,_,3,3,rfl,ha,(by show (3:Int)<=3;decide),(by show (3:Int)<=3;decide),true,rfl,cX ?_⟩
 refine ⟨_,rfl,a,_,0,_,rfl,rfl,SqT.of ha,bV,_,rfl,trivial,true,rfl,cX ?_⟩
 exact ⟨_,rfl,a,_,1,.str r.word,rfl,rfl,SqT.of ha,aG (j:=1) rfl,_,rfl,ba hw,fun H' s'=>qb (q H' s') (show true=df (.str r.word)from hw.symm)⟩
theorem lY:au ["thing"] ["thing"] (ag fN):=fsc
theorem lg (F:Fun K "has_sort_shape" "has_sort_shape" fN f fd) {t3:Tok} (m3:mg "MOST_WORTHS"=some (.int 3 t3))
  (GR:FnOk P w K mg base CX0 1 f2 fd2 ["thing","fewest","most"] ft) (bR:Binds K fd2 ["thing","fewest","most"] []) (kR:PySem.W.keepIn K (.ref f2)=true) (mR:mg "is_row"=some (.ref f2))
  (GW:FnOk P w K mg base CX0 1 f3 fd3 ["thing"] gJ) (bW:Binds K fd3 ["thing"] []) (kW:PySem.W.keepIn K (.ref f3)=true) (mW:mg "is_word"=some (.ref f3))
  (GS:FnOk P w K mg base CX0 2 f4 fd4 ["thing","most"] fL) (bS:Binds K fd4 ["thing","most"] []) (kS:PySem.W.keepIn K (.ref f4)=true) (mS:mg "is_row_of_words"=some (.ref f4)):
  FnOk P w K mg base CX0 3 f fd ["thing"] hJ:=by
 refine F.ok lY (fun vs H Q E h=>?_) (fun cdv A outer s H vs Q E hr h=>?_)
 ·obtain ⟨v,r,rfl,_⟩:=h
  rfl
 obtain ⟨v,sr,rfl,⟨a,b,c,rfl,ha,hb,hc⟩,hn,hw,h1,h2,q⟩:=h
 have hr1:=hr.mono (show 1<=2 by decide)
 refine ⟨_,ad (aL (PW.pt (c6 (aY (aT (af GR hr1 rfl mR kR bR .nil al (aa (pv 0) (aa ae (aa ae ab))))))
   (cD (aY (aT (af GW hr1 rfl mW kW bW .nil al (aa (av ay (pv 0) ae (fun _ _=>rfl)) ab))))))) aK aC)
  (aj (aw (cf (af GS hr rfl mS kS bS .nil al (aa (av ay (pv 0) ae (fun _ _=>rfl)) (aa (cr (v:=.int 3) rfl m3 ⟨_,rfl⟩) ab)))
   (cv (af GS hr rfl mS kS bS .nil al (aa (av ay (pv 0) ae (fun _ _=>rfl)) (aa (cr (v:=.int 3) rfl m3 ⟨_,rfl⟩) ab))))))),?_⟩
 refine ⟨_,rfl,a,_,3,3,rfl,ha,(by show (3:Int)<=3;decide),(by show (3:Int)<=3;decide),true,rfl,aX ?_⟩
 refine ⟨_,rfl,a,_,0,.str sr.name,rfl,rfl,SqT.of ha,bV,_,rfl,ba hn,fun H1 s1=>⟨true,(show V.bl (be sr.name)=V.bl true by rw [hn]),aX ?_⟩⟩
 refine ⟨_,rfl,a,_,1,.ref b,rfl,rfl,SqT.of (s1 _ _ ha),aG (j:=1) rfl,b,sr.downs,3,rfl,s1 _ _ hb,by omega,by omega,fun x hx=>hw x (List.mem_append_left _ hx),fun H2 s2=>⟨true,rfl,cX ?_⟩⟩
 have S2:=s1.trans s2
 exact ⟨_,rfl,a,_,2,.ref c,rfl,rfl,SqT.of (S2 _ _ ha),aG (j:=2) rfl,c,sr.ups,3,rfl,S2 _ _ hc,by omega,by omega,fun x hx=>hw x (List.mem_append_right _ hx),fun H3 s3=>q H3 (S2.trans s3)⟩
theorem l7:au ["thing"] ["thing"] (ag eA):=fsc
theorem lp (F:Fun K "has_form_shape" "has_form_shape" eA f fd) (G:Gb mg) {t3:Tok} (m3:mg "MOST_PARTS"=some (.int 3 t3))
  (GR:FnOk P w K mg base CX0 1 f2 fd2 ["thing","fewest","most"] ft) (bR:Binds K fd2 ["thing","fewest","most"] []) (kR:PySem.W.keepIn K (.ref f2)=true) (mR:mg "is_row"=some (.ref f2))
  (GW:FnOk P w K mg base CX0 1 f3 fd3 ["thing"] gJ) (bW:Binds K fd3 ["thing"] []) (kW:PySem.W.keepIn K (.ref f3)=true) (mW:mg "is_word"=some (.ref f3))
  (GS:FnOk P w K mg base CX0 2 f4 fd4 ["thing","most"] fL) (bS:Binds K fd4 ["thing","most"] []) (kS:PySem.W.keepIn K (.ref f4)=true) (mS:mg "is_row_of_words"=some (.ref f4))
  (GO:FnOk P w K mg base CX0 1 f5 fd5 ["form"] cN) (bO:Binds K fd5 ["form"] []) (kO:PySem.W.keepIn K (.ref f5)=true) (mO:mg "sort_of_form"=some (.ref f5))
  (GP:FnOk P w K mg base CX0 1 f6 fd6 ["form"] dl) (bP:Binds K fd6 ["form"] []) (kP:PySem.W.keepIn K (.ref f6)=true) (mP:mg "parts_of"=some (.ref f6))
  (GU:FnOk P w K mg base CX0 1 f7 fd7 ["form"] dR) (bU:Binds K fd7 ["form"] []) (kU:PySem.W.keepIn K (.ref f7)=true) (mU:mg "rules_of"=some (.ref f7))
  (GT:FnOk P w K mg base CX0 2 f8 fd8 ["thing"] hU) (bT:Binds K fd8 ["thing"] []) (kT:PySem.W.keepIn K (.ref f8)=true) (mT:mg "has_rule_shape"=some (.ref f8)):
  FnOk P w K mg base CX0 3 f fd ["thing"] h9:=by
 refine F.ok l7 (fun vs H Q E h=>?_) (fun cdv A outer s H vs Q E hr h=>?_)
 ·obtain ⟨v,r,rfl,_⟩:=h
  rfl
 obtain ⟨v,fr,rfl,hF,hn,ho,hp,h3,hu,h12,q⟩:=h
 obtain ⟨a,pa,ra,rv,rfl,ha,hpa,hra,hR⟩:=id hF
 have hr1:=hr.mono (show 1<=2 by decide)
 refine ⟨_,ad (aL (PW.pt (c6 (aY (aT (af GR hr1 rfl mR kR bR .nil al (aa (pv 0) (aa ae (aa ae ab))))))
   (c6 (aY (aT (af GW hr1 rfl mW kW bW .nil al (aa (av ay (pv 0) ae (fun _ _=>rfl)) ab))))
   (cD (aY (aT (af GW hr1 rfl mW kW bW .nil al (aa (af GO hr1 rfl mO kO bO .nil al (aa (pv 0) ab)) ab)))))))) aK aC)
  (ad (aL (PW.pt (c6 (aY (aT (af GS hr rfl mS kS bS .nil al (aa (af GP hr1 rfl mP kP bP .nil al (aa (pv 0) ab)) (aa (cr (v:=.int 3) rfl m3 ⟨_,rfl⟩) ab)))))
   (cD (aY (aT (ao bo rfl G.isi (by decide +kernel) (aa (af GU hr1 rfl mU kU bU .nil al (aa (pv 0) ab)) (aa (bE (v:=.ty "tuple") rfl G.tuple (by decide +kernel) rfl) ab)))))))) aK aC)
  (aj (aw (ao (ck rfl) rfl G.all (by decide +kernel) (aa (br (sc0:=ag eA) (N0:=["thing"]) (ys:=[]) (fr:=[]) rfl (bd (af GU hr1 rfl mU kU bU .nil al (aa (pv 0) ab))) rfl rfl
   cok (fun C s H ex=>af GT hr rfl mT kT bT .nil al (aa (pv 0) ab))) ab))))),?_⟩
 refine ⟨_,rfl,a,_,4,4,rfl,ha,(by show (4:Int)<=4;decide),(by show (4:Int)<=4;decide),true,rfl,aX ?_⟩
 refine ⟨_,rfl,a,_,0,.str fr.name,rfl,rfl,SqT.of ha,bV,_,rfl,ba hn,fun H1 s1=>⟨true,(show V.bl (be fr.name)=V.bl true by rw [hn]),aX ?_⟩⟩
 refine ⟨_,rfl,_,fr,rfl,hF.mono (ax s1),_,rfl,ba ho,fun H2 s2=>⟨true,(show V.bl (be fr.own.name)=V.bl true by rw [ho]),aX ?_⟩⟩
 have S2:=s1.trans s2
 refine ⟨_,rfl,_,fr,rfl,hF.mono (ax S2),fun pb hpb=>?_⟩
 refine ⟨pb,fr.parts.map Srt.name,3,rfl,(by rw [hpb];unfold bn;rw [List.map_map];rfl),by rw [List.length_map];omega,by rw [List.length_map];omega,fun x hx=>?_,fun H3 s3=>⟨true,rfl,aX ?_⟩⟩
 ·obtain ⟨qq,hq,rfl⟩:=List.mem_map.mp hx
  exact hp qq hq
 have S3:=S2.trans s3
 refine ⟨_,rfl,_,fr,rfl,hF.mono (ax S3),fun rb rw' hrb hRb=>?_⟩
 refine ⟨_,"tuple",rfl,.inr (.inl ⟨_,hrb⟩),by simp,true,(by rw [ni hrb]),aX ?_⟩
 refine ⟨_,rfl,_,fr,rfl,hF.mono (ax S3),fun rb rw' hrb hRb=>?_⟩
 have lR:=hRb.len
 refine ⟨rb,rfl,⟨_,SqT.of hrb⟩,?_⟩
 refine cF (by omega) hRb (cu hrb) (cs hrb) (cO hrb) ?_ ?_
 ·rintro r v H4 k hr' hRr s4 hk
  exact ⟨_,rfl,v,r,rfl,hRr.mono (ax s4),hu r hr',hk⟩
 ·intro p bs H4 hbs hp4 s4 g4
  exact ⟨p,bs,rfl,SqL.of g4,by rw [hbs];exact q H4 (S3.trans s4)⟩
noncomputable def te3 (te:TE):TE:=fun Z H k=>match Z with
 | some x::r=> ∃ T v1 v2 v3,x=.ref T/\H T=some (.tup [v1,v2,v3])/\te (some v1::some v2::some v3::r) H k
 | _=>False
theorem vF {fr:List Nat} {te:TE} {Z:St} {J:It} {H1:Hp} {Q:VK} (h:eL fr (te3 te) Z J H1 Q):oP fr te Z J H1 Q:=h
theorem BkV.ruleWord {bk:Bk} (hok:BkV bk) {fr:Frm} (hfr:fr∈bk.forms) {r:Rul} (hr:r∈fr.rules):be r.word=true:=by
 obtain ⟨o1,o2,o3,o4,_⟩:=hok.s.fo fr hfr
 have hm:(r.pl,r.word)∈ce fr.own fr.parts:=by rw [<- o4];exact List.mem_map.mpr ⟨r,hr,rfl⟩
 unfold ce at hm
 rcases List.mem_append.mp hm with h | h
 ·obtain ⟨x,hx,e⟩:=List.mem_map.mp h
  rw [<- (Prod.mk.inj e).2]
  exact (hok.sw _ o1).2 x (List.mem_append_right _ hx)
 ·obtain ⟨_,_,q,hq,hd⟩:=iD h
  exact (hok.sw _ (o2 q hq)).2 _ (List.mem_append_left _ hd)
noncomputable def lM (K:PySem.W.Frag):Sp:=fun vs H Q _=> ∃ (a:Addr) (ws:List Str),vs=[.ref a]/\(H a=some (.lst (ws.map V.str))\/H a=some (.tup (ws.map V.str)))/\ws.Nodup/\ws.length<=1000/\Q (.bl true) H
theorem scHasShape:au ["thing","sorts_are_made"] ["thing"] (ag dW):=fsc
theorem mr (F:Fun K "has_shape" "has_shape" dW f fd) (G:Gb mg) {t4 t10:Tok} (m4:mg "MOST_SORTS"=some (.int 4 t4)) (m10:mg "MOST_FORMS"=some (.int 10 t10))
  (GR:FnOk P w K mg base CX0 1 f2 fd2 ["thing","fewest","most"] ft) (bR:Binds K fd2 ["thing","fewest","most"] []) (kR:PySem.W.keepIn K (.ref f2)=true) (mR:mg "is_row"=some (.ref f2))
  (GW:FnOk P w K mg base CX0 3 f3 fd3 ["thing"] jB) (bW:Binds K fd3 ["thing"] []) (kW:PySem.W.keepIn K (.ref f3)=true) (mW:mg "is_wheel"=some (.ref f3))
  (GO:FnOk P w K mg base CX0 1 f4 fd4 ["book"] gK) (bO:Binds K fd4 ["book"] []) (kO:PySem.W.keepIn K (.ref f4)=true) (mO:mg "wheel_of"=some (.ref f4))
  (GS:FnOk P w K mg base CX0 1 f5 fd5 ["book"] dQ) (bS:Binds K fd5 ["book"] []) (kS:PySem.W.keepIn K (.ref f5)=true) (mS:mg "sorts_of"=some (.ref f5))
  (GF:FnOk P w K mg base CX0 1 f6 fd6 ["book"] dn) (bF:Binds K fd6 ["book"] []) (kF:PySem.W.keepIn K (.ref f6)=true) (mF:mg "forms_of"=some (.ref f6))
  (GH:FnOk P w K mg base CX0 3 f7 fd7 ["thing"] hJ) (bH:Binds K fd7 ["thing"] []) (kH:PySem.W.keepIn K (.ref f7)=true) (mH:mg "has_sort_shape"=some (.ref f7))
  (GM:FnOk P w K mg base CX0 3 f8 fd8 ["thing"] h9) (bM:Binds K fd8 ["thing"] []) (kM:PySem.W.keepIn K (.ref f8)=true) (mM:mg "has_form_shape"=some (.ref f8)):
  FnOk P w K mg base CX0 4 f fd ["thing"] iK:=by
 refine F.ok scHasShape (fun vs H Q E h=>?_) (fun cdv A outer s H vs Q E hr h=>?_)
 ·obtain ⟨v,r,rfl,_⟩:=h
  rfl
 obtain ⟨bv,bk,rfl,hB,hok,q⟩:=h
 obtain ⟨a,sa,fa,fv,rfl,ha,_⟩:=id hB
 have hr1:=hr.mono (show 1<=3 by decide)
 refine ⟨_,ad (aL (PW.pt (c6 (aY (aT (af GR hr1 rfl mR kR bR .nil al (aa (pv 0) (aa ae (aa ae ab))))))
   (cD (aY (aT (af GW hr rfl mW kW bW .nil al (aa (af GO hr1 rfl mO kO bO .nil al (aa (pv 0) ab)) ab))))))) aK aC)
  (ad (aL (PW.pt (c6 (aY (aT (af GR hr1 rfl mR kR bR .nil al (aa (af GS hr1 rfl mS kS bS .nil al (aa (pv 0) ab)) (aa ae (aa (cr (v:=.int 4) rfl m4 ⟨_,rfl⟩) ab))))))
   (cD (aY (aT (af GR hr1 rfl mR kR bR .nil al (aa (af GF hr1 rfl mF kF bF .nil al (aa (pv 0) ab)) (aa ae (aa (cr (v:=.int 10) rfl m10 ⟨_,rfl⟩) ab))))))))) aK aC)
  (ad (aq (i:=1) scHasShape.nd rfl (Or.inl rfl) (ao (ck rfl) rfl G.all (by decide +kernel) (aa (br (sc0:=ag dW) (N0:=["thing","sorts_are_made"]) (ys:=[]) (fr:=[]) rfl (bd (af GS hr1 rfl mS kS bS .nil al (aa (pv 0) ab))) rfl rfl
   cok (fun C s H ex=>af GH hr rfl mH kH bH .nil al (aa (pv 0) ab))) ab)))
  (aj (aw (cf (pv 1) (cv (ao (ck rfl) rfl G.all (by decide +kernel) (aa (br (sc0:=ag dW) (N0:=["thing","sorts_are_made"]) (ys:=[]) (fr:=[]) rfl (bd (af GF hr1 rfl mF kF bF .nil al (aa (pv 0) ab))) rfl rfl
   cok (fun C s H ex=>af GM hr rfl mM kM bM .nil al (aa (pv 0) ab))) ab)))))))),?_⟩
 have h4:=hok.s.s4
 have h10:=hok.s.few
 have hs1:=hok.s1
 have hf1:=hok.f1
 have hwh:0<=bk.wheel/\bk.wheel<=10^30/\bk.wheel≠1:=by
  rcases hok.wh with e | ⟨e1,e2⟩
  ·rw [e];exact ⟨by decide,by decide,by decide⟩
  ·exact ⟨by omega,e2,by omega⟩
 refine ⟨_,rfl,a,_,3,3,rfl,ha,(by show (3:Int)<=3;decide),(by show (3:Int)<=3;decide),true,rfl,aX ?_⟩
 refine ⟨_,rfl,_,bk,rfl,hB,bk.wheel,rfl,hwh.1,hwh.2.1,hwh.2.2,true,rfl,aX ?_⟩
 refine ⟨_,rfl,_,bk,rfl,hB,fun sb sx hsb hS=>?_⟩
 have lS:=hS.len
 refine ⟨sb,sx,1,4,rfl,hsb,by omega,by omega,true,rfl,aX ?_⟩
 refine ⟨_,rfl,_,bk,rfl,hB,fun fb fx hfb hF=>?_⟩
 have lF:=hF.len
 refine ⟨fb,fx,1,10,rfl,hfb,by omega,by omega,true,rfl,aX ?_⟩
 refine ⟨_,rfl,_,bk,rfl,hB,fun sb sx hsb hS=>?_⟩
 have lS:=hS.len
 refine ⟨sb,rfl,⟨_,SqT.of hsb⟩,?_⟩
 refine cF (by omega) hS (cu hsb) (cs hsb) (cO hsb) ?_ ?_
 ·rintro sr v H1 k hsr hRs s1 hk
  obtain ⟨w1,w2⟩:=hok.sw sr hsr
  obtain ⟨d1,d2,_⟩:=hok.s.ws sr hsr
  exact ⟨_,rfl,v,sr,rfl,hRs.mono (ax s1),w1,w2,d1,d2,hk⟩
 intro p bs H1 hbs hp s1 g1
 refine ⟨p,bs,rfl,SqL.of g1,?_⟩
 rw [hbs]
 refine ⟨_,rfl,true,rfl,cX ?_⟩
 have hB1:=hB.mono (ax s1)
 refine ⟨_,rfl,_,bk,rfl,hB1,fun fb fx hfb hF=>?_⟩
 have lF:=hF.len
 refine ⟨fb,rfl,⟨_,SqT.of hfb⟩,?_⟩
 refine cF (by omega) hF (cu hfb) (cs hfb) (cO hfb) ?_ ?_
 ·rintro fr v H2 k hfr hRf s2 hk
  obtain ⟨o1,o2,o3,o4,_⟩:=hok.s.fo fr hfr
  refine ⟨_,rfl,v,fr,rfl,hRf.mono (ax s2),hok.fw fr hfr,(hok.sw _ o1).1,fun qq hq=>(hok.sw _ (o2 qq hq)).1,o3,fun r hr'=>?_,hok.s.rules12 hfr,hk⟩
  exact hok.ruleWord hfr hr'
 intro p2 bs2 H2 hbs2 hp2 s2 g2
 exact ⟨p2,bs2,rfl,SqL.of g2,by rw [hbs2];exact q H2 (s1.trans s2)⟩
theorem rF:au ["words"] ["words"] (ag km):=fsc
theorem qg (F:Fun K "are_unlike" "are_unlike" km f fd) (G:Gb mg) (hset:mg "set"=none):FnOk P w K mg base CX0 1 f fd ["words"] (lM K):=by
 refine F.ok rF (fun vs H Q E h=>?_) (fun cdv A outer s H vs Q E hr h=>?_)
 ·obtain ⟨v,r,rfl,_⟩:=h
  rfl
 obtain ⟨a,ws,rfl,ha,nd,hl,q⟩:=h
 refine ⟨_,aj (aw (bm bj (qd rfl rfl G.len rfl hset (pv 0)) (ao ar rfl G.len PySem.boot_len (aa (pv 0) ab)) (aE _))),?_⟩
 have hsq:SqL K H a (ws.map V.str)\/SqT K H a (ws.map V.str):=ha.imp SqL.of SqT.of
 refine ⟨_,rfl,a,ws,rfl,hsq,hl,_,rfl,a,_,rfl,hsq,rfl,?_⟩
 refine qb q (decide_eq_true ?_).symm
 rw [jM (by rw [List.nil_append];exact nd),List.nil_append,List.length_map]
noncomputable def iL:Sp:=fun vs H Q _=> ∃ bv bk,vs=[bv]/\RepB H bk bv/\BkV bk/\ ∀ H',Same H H'->Q (.bl true) H'
theorem gU (ws:List Str):(ws.map V.str).all fK=true:=by
 induction ws with
 | nil=>rfl
 | cons b r ih=>rw [List.map_cons,List.all_cons,ih];rfl
theorem jf {x:Str} {ws:List Str} (h:x∈ws):inV (.str x) (ws.map V.str)=true:=by
 induction ws with
 | nil=>cases h
 | cons b r ih=>
  have e:inV (.str x) ((b::r).map V.str)=(eqV (.str b) (.str x)||inV (.str x) (r.map V.str)):=rfl
  rw [e]
  rcases List.mem_cons.mp h with z | z
  ·subst z
   rw [show eqV (.str x) (.str x)=true by simp [eqV],Bool.true_or]
  ·rw [ih z,Bool.or_true]
noncomputable abbrev NHn:List Str:=["book","names","form"]
theorem scHasNames:au NHn ["book"] (ag cV):=fsc
theorem mw (F:Fun K "has_names" "has_names" cV f fd) (G:Gb mg)
  (GU:FnOk P w K mg base CX0 1 f2 fd2 ["words"] (lM K)) (bU:Binds K fd2 ["words"] []) (kU:PySem.W.keepIn K (.ref f2)=true) (mU:mg "are_unlike"=some (.ref f2))
  (GS:FnOk P w K mg base CX0 1 f3 fd3 ["book"] dQ) (bS:Binds K fd3 ["book"] []) (kS:PySem.W.keepIn K (.ref f3)=true) (mS:mg "sorts_of"=some (.ref f3))
  (GF:FnOk P w K mg base CX0 1 f4 fd4 ["book"] dn) (bF:Binds K fd4 ["book"] []) (kF:PySem.W.keepIn K (.ref f4)=true) (mF:mg "forms_of"=some (.ref f4))
  (GO:FnOk P w K mg base CX0 1 f5 fd5 ["form"] cN) (bO:Binds K fd5 ["form"] []) (kO:PySem.W.keepIn K (.ref f5)=true) (mO:mg "sort_of_form"=some (.ref f5))
  (GP:FnOk P w K mg base CX0 1 f6 fd6 ["form"] dl) (bP:Binds K fd6 ["form"] []) (kP:PySem.W.keepIn K (.ref f6)=true) (mP:mg "parts_of"=some (.ref f6)):
  FnOk P w K mg base CX0 2 f fd ["book"] iL:=by
 refine F.ok scHasNames (fun vs H Q E h=>?_) (fun cdv A outer s H vs Q E hr h=>?_)
 ·obtain ⟨v,r,rfl,_⟩:=h
  rfl
 obtain ⟨bv,bk,rfl,hB,hok,q⟩:=h
 refine ⟨_,ad (aq (i:=1) scHasNames.nd rfl (Or.inr rfl) (br (sc0:=ag cV) (N0:=NHn) (ys:=[]) (fr:=[]) rfl (bd (af GS hr rfl mS kS bS .nil al (aa (pv 0) ab))) rfl rfl
    cok (fun C s H ex=>av (r:=gh K) ay (pv 0) ae (fun _ _=>rfl))))
  (ad (aL (PW.pt (c6 (aY (aT (af GU hr rfl mU kU bU .nil al (aa (pv 1) ab))))
   (cD (aY (aT (af GU hr rfl mU kU bU .nil al (aa (br (sc0:=ag cV) (N0:=NHn) (ys:=[]) (fr:=[]) rfl (bd (af GF hr rfl mF kF bF .nil al (aa (pv 0) ab))) rfl rfl
    cok (fun C s H ex=>av (r:=gh K) ay (pv 0) ae (fun _ _=>rfl))) ab))))))) aK aC)
  (ad (aL (aY (aT (ao (ck rfl) rfl G.all (by decide +kernel) (aa (mi (sc0:=ag cV) (N0:=NHn) (ys:=[]) (fr:=[]) rfl (bd (af GS hr rfl mS kS bS .nil al (aa (pv 0) ab))) rfl rfl
    ⟨rfl,by decide +kernel,by decide +kernel,by decide +kernel,by decide +kernel,by decide +kernel,by decide +kernel,by decide +kernel,rfl,by decide +kernel⟩
    (fun C s H ex=>af GU hr rfl mU kU bU .nil al (aa (aB (r:=se K) ja (pv 1) (pv 2)) ab))) ab)))) aK aC)
  (ad (bQ PassesOwn.never rfl (bd (af GF hr rfl mF kF bF .nil al (aa (pv 0) ab))) (aH (i:=2) scHasNames.nd rfl (Or.inl rfl))
   (aj (aL (PW.pt (c6 (aF (r:=rIn K true) kZ (af GO hr rfl mO kO bO .nil al (aa (pv 2) ab)) (pv 1) (by with_unfolding_all rfl))
    (cD (aY (aT (ao (ck rfl) rfl G.all (by decide +kernel) (aa (br (sc0:=ag cV) (N0:=NHn) (ys:=["names"]) (fr:=[1]) rfl (bd (af GP hr rfl mP kP bP .nil al (aa (pv 2) ab))) rfl rfl
     cok (fun C s H ex=>bm (r:=rIn K false) fA (pv 0) (pv 1) (by with_unfolding_all rfl))) ab)))))))
    aK aC)))
  (aj (aw dg))))),?_⟩
 have h4:=hok.s.s4
 have h10:=hok.s.few
 refine ⟨_,rfl,_,bk,rfl,hB,fun sb sx hsb hS=>?_⟩
 have lS:=hS.len
 refine ⟨sb,rfl,⟨_,SqT.of hsb⟩,?_⟩
 refine da (by omega) hS (cu hsb) (cs hsb) (cO hsb) (fun _ s v=>v=.str (Srt.name s)) (fun _ h=>h) ?_ ?_
 ·rintro sr v Ha k hsr ⟨b,dc,uc,rfl,hb,_⟩ sa' hk
  exact ⟨_,rfl,b,_,0,.str sr.name,rfl,rfl,SqT.of (sa' _ _ hb),bV,hk _ Ha (Same.refl Ha) rfl⟩
 intro nl zs H1 hnl s1 g1 hz
 have ez:zs=(bk.sorts.map Srt.name).map V.str:=by rw [dq hz,List.map_map];rfl
 subst ez
 have hB1:=hB.mono (ax s1)
 refine ⟨_,rfl,nl,bk.sorts.map Srt.name,rfl,.inl g1,hok.s.sd,by rw [List.length_map];omega,true,rfl,aX ?_⟩
 refine ⟨_,rfl,_,bk,rfl,hB1,fun fb fx hfb hF=>?_⟩
 have lF:=hF.len
 refine ⟨fb,rfl,⟨_,SqT.of hfb⟩,?_⟩
 refine da (by omega) hF (cu hfb) (cs hfb) (cO hfb) (fun _ s v=>v=.str (Frm.name s)) (fun _ h=>h) ?_ ?_
 ·rintro fr v Ha k hfr ⟨b,pa,ra,rv,rfl,hb,_⟩ sa' hk
  exact ⟨_,rfl,b,_,0,.str fr.name,rfl,rfl,SqT.of (sa' _ _ hb),bV,hk _ Ha (Same.refl Ha) rfl⟩
 intro fl zs H2 hfl s2 g2 hz
 have ez:zs=(bk.forms.map Frm.name).map V.str:=by rw [dq hz,List.map_map];rfl
 subst ez
 refine ⟨fl,bk.forms.map Frm.name,rfl,.inl g2,hok.s.nd,by rw [List.length_map];omega,true,rfl,aX ?_⟩
 have S2:=s1.trans s2
 refine ⟨_,rfl,_,bk,rfl,hB.mono (ax S2),fun sb sx hsb hS=>?_⟩
 have lS:=hS.len
 refine ⟨sb,rfl,⟨_,SqT.of hsb⟩,?_⟩
 refine vF (cF (by omega) hS (cu hsb) (cs hsb) (cO hsb) ?_ ?_)
 ·rintro sr v Ha k hsr ⟨a,b,c,rfl,ha,hb,hc⟩ sa' hk
  obtain ⟨d1,d2,d3,_⟩:=hok.s.ws sr hsr
  have hw: ∀ H' (x:Addr),Same Ha H'->H' x=some (.tup ((sr.downs++sr.ups).map V.str))->(∃ (a:Addr) (ws:List Str),[V.ref x]=[.ref a]/\(H' a=some (.lst (ws.map V.str))\/H' a=some (.tup (ws.map V.str)))/\ws.Nodup/\ws.length<=1000/\k (.bl true) H'):=fun H' x s' hx=>
   ⟨x,_,rfl,.inr hx,d3,by rw [List.length_append];omega,hk H' s'⟩
  refine ⟨a,_,_,_,rfl,sa' _ _ ha,_,rfl,_,rfl,b,c,_,_,rfl,rfl,SqT.of (sa' _ _ hb),SqT.of (sa' _ _ hc),Nat.le_trans (m:=1000) (by rw [List.length_map,List.length_map];omega) (by decide),fun e=>?_,fun e1 e2=>?_,fun _ _ p hp=>?_⟩
  ·refine hw Ha c (Same.refl Ha) ?_
   rw [List.map_append,e,List.nil_append]
   exact sa' _ _ hc
  ·refine hw Ha b (Same.refl Ha) ?_
   rw [List.map_append,e2,List.append_nil]
   exact sa' _ _ hb
  ·refine hw _ p (ah hp _) ?_
   rw [List.map_append]
   exact ac
 intro p bs H3 hbs hp s3 g3
 refine ⟨p,bs,rfl,SqL.of g3,true,(by rw [hbs]),aX ?_⟩
 have S3:=S2.trans s3
 have gn3:=s3 _ _ (s2 _ _ g1)
 refine ⟨_,rfl,_,bk,rfl,hB.mono (ax S3),fun fb fx hfb hF=>?_⟩
 have lF:=hF.len
 refine ⟨fb,rfl,⟨_,SqT.of hfb⟩,?_⟩
 refine dk (xs:=fx) (fun i Z H'=> ∃ o2,Z=[some bv,some (.ref nl),o2]/\Same H3 H') ⟨none,rfl,Same.refl _⟩ (fun i Z H' _ ⟨_,_,s'⟩=>SqT.of (s' _ _ hfb)) ?_ ?_
 ·rintro i x Z H4 hx ⟨o2,rfl,s4⟩
  obtain ⟨fr,hfr,hRf⟩:=aN hF hx
  have hfm:=List.mem_of_getElem? hfr
  obtain ⟨o1,o2',o3,_⟩:=hok.s.fo fr hfm
  have hRf4:=hRf.mono (ax s4)
  refine ⟨_,rfl,_,fr,rfl,hRf4,_,rfl,nl,_,rfl,.inl (SqL.of (s4 _ _ gn3)),rfl,gU _,false,?_,aX ?_⟩
  ·show V.bl (!inV (.str fr.own.name) ((bk.sorts.map Srt.name).map V.str))=V.bl false
   rw [jf (List.mem_map.mpr ⟨_,o1,rfl⟩)]
   rfl
  refine ⟨_,rfl,_,fr,rfl,hRf4,fun pb hpb=>?_⟩
  have hpl:(bn fr.parts).length=fr.parts.length:=List.length_map _
  refine ⟨pb,rfl,⟨_,SqT.of hpb⟩,?_⟩
  refine cF (by omega) (fH fr.parts) (cu hpb) (cs hpb) (cO hpb) ?_ ?_
  ·rintro pr v H5 k hpr rfl s5 hk
   refine ⟨_,rfl,_,rfl,nl,_,rfl,.inl (SqL.of (s5 _ _ (s4 _ _ gn3))),rfl,gU _,?_⟩
   refine (show k (.bl (inV (.str pr.name) ((bk.sorts.map Srt.name).map V.str))) H5 from ?_)
   rw [jf (List.mem_map.mpr ⟨_,o2' pr hpr,rfl⟩)]
   exact hk H5 (Same.refl H5)
  ·intro p5 bs5 H5 hbs5 hp5 s5 g5
   exact ⟨p5,bs5,rfl,SqL.of g5,true,(by rw [hbs5]),aX ⟨_,rfl,s4.trans s5⟩⟩
 ·rintro Z H4 ⟨o2,rfl,s4⟩
  exact q H4 (S3.trans s4)
noncomputable def io (t:Int×Str):List Key:=[.inl t.1,.inr t.2]
theorem ox (x y z:V): ¬ (HT.sIx [x,y,z].length 0 none=0/\HT.sIx [x,y,z].length [x,y,z].length (some 2)=[x,y,z].length):=by
 rintro ⟨_,h⟩
 have h2:HT.sIx 3 3 (some 2)=3:=h
 exact absurd h2 (by decide)
theorem yg (x y z:V):c8 [x,y,z] none (some 2)=[x,y]:=rfl
noncomputable def lT:Sp:=fun vs H Q _=> ∃ v fr,vs=[v]/\RepF H fr v/\fr.rules.length<=12/\ ∀ p zs H',H p=none->Same H H'->H' p=some (.lst zs)->KsOf H' zs ((fr.rules.map fun r=>(r.pl,r.word)).map io)->Q (.ref p) H'
noncomputable def oU:Sp:=fun vs H Q _=> ∃ a ks,vs=[.ref a]/\H a=some (.tup (List.map kV ks))/\RK ks/\ ∀ p (i:Int) (x:Str),((ks=[.inr "own",.inr x]/\i= -1)\/ks=[.inr "part",.inl i,.inr x])->H p=none->Q (.ref p) (upd H p (.tup [.int i,.str x]))
noncomputable def lN:Sp:=fun vs H Q _=> ∃ (v:V) (fr:Frm) (i:Int) (q:Srt),vs=[v,.int i]/\RepF H fr v/\((i= -1/\q=fr.own)\/(0<=i/\fr.parts[i.toNat]? =some q))/\Q (.str (Srt.name q)) H
noncomputable def iG:Sp:=fun vs H Q _=> ∃ bv bk nm s,vs=[bv,.str nm]/\RepB H bk bv/\BkS bk/\s∈bk.sorts/\Srt.name s=nm/\ ∀ b H',Same H H'->H' b=some (.tup (List.map V.str (s.downs++s.ups)))->Q (.ref b) H'
theorem nN:au ["book","sort"] ["book","sort"] (ag gP):=fsc
theorem mn (F:Fun K "worths_of_sort" "worths_of_sort" gP f fd)
  (GD:FnOk P w K mg base CX0 3 f2 fd2 ["book","sort"] j9) (bD:Binds K fd2 ["book","sort"] []) (kD:PySem.W.keepIn K (.ref f2)=true) (mD:mg "downs_of"=some (.ref f2))
  (GU:FnOk P w K mg base CX0 3 f3 fd3 ["book","sort"] rg) (bU:Binds K fd3 ["book","sort"] []) (kU:PySem.W.keepIn K (.ref f3)=true) (mU:mg "ups_of"=some (.ref f3)):
  FnOk P w K mg base CX0 4 f fd ["book","sort"] iG:=by
 refine F.ok nN (fun vs H Q E h=>?_) (fun cdv A outer s H vs Q E hr h=>?_)
 ·obtain ⟨bv,bk,nm,sr,rfl,_⟩:=h
  rfl
 obtain ⟨bv,bk,nm,sr,rfl,hB,hok,hs,hn,q⟩:=h
 refine ⟨_,aj (aw (aB ja (af GD hr rfl mD kD bD .nil al (aa (pv 0) (aa (pv 1) ab))) (af GU hr rfl mU kU bU .nil al (aa (pv 0) (aa (pv 1) ab))))),?_⟩
 refine ⟨_,rfl,_,rfl,bv,bk,nm,sr,rfl,hB,hok,hs,hn,fun b H1 s1 hb=>?_⟩
 refine ⟨_,rfl,_,rfl,bv,bk,nm,sr,rfl,hB.mono (ax s1),hok,hs,hn,fun c H2 s2 hc=>?_⟩
 obtain ⟨d1,d2,_⟩:=hok.ws sr hs
 have hb2:=s2 _ _ hb
 have S2:=s1.trans s2
 refine ⟨b,c,_,_,rfl,rfl,SqT.of hb2,SqT.of hc,Nat.le_trans (m:=1000) (by rw [List.length_map,List.length_map];omega) (by decide),fun e=>?_,fun e1 e2=>?_,fun _ _ p hp=>?_⟩
 ·exact q c H2 S2 (by rw [List.map_append,e,List.nil_append];exact hc)
 ·exact q b H2 S2 (by rw [List.map_append,e2,List.append_nil];exact hb2)
 ·exact q p _ (S2.trans (ah hp _)) (by rw [List.map_append];exact ac)
theorem rK:au ["form"] ["form"] (ag iu):=fsc
theorem qt (F:Fun K "keys_of" "keys_of" iu f fd)
  (GU:FnOk P w K mg base CX0 1 f2 fd2 ["form"] dR) (bU:Binds K fd2 ["form"] []) (kU:PySem.W.keepIn K (.ref f2)=true) (mU:mg "rules_of"=some (.ref f2)):
  FnOk P w K mg base CX0 2 f fd ["form"] lT:=by
 refine F.ok rK (fun vs H Q E h=>?_) (fun cdv A outer s H vs Q E hr h=>?_)
 ·obtain ⟨bv,bk,rfl,_⟩:=h
  rfl
 obtain ⟨v,fr,rfl,hF,h12,q⟩:=h
 refine ⟨_,aj (aw (br (sc0:=ag iu) (N0:=["form"]) (ys:=[]) (fr:=[]) rfl (bd (af GU hr rfl mU kU bU .nil al (aa (pv 0) ab))) rfl rfl
   cok (fun C s H ex=>a7 (r:=xc K) nM (pv 0) bp (bh ae)))),?_⟩
 refine ⟨_,rfl,_,fr,rfl,hF,fun rb rv hrb hR=>?_⟩
 have lR:=hR.len
 refine ⟨rb,rfl,⟨_,SqT.of hrb⟩,?_⟩
 refine da (by omega) hR (cu hrb) (cs hrb) (cO hrb) (fun H r v=> ∃ b,v=.ref b/\H b=some (.tup ((io (r.pl,r.word)).map kV))) (fun t ⟨b,e,h⟩=>⟨b,e,t _ _ h⟩) ?_ ?_
 ·rintro r v H1 k hr' ⟨a,u,rfl,ha,_⟩ s1 hk
  refine ⟨_,rfl,2,rfl,a,_,rfl,SqT.of (s1 _ _ ha),ox _ _ _,fun p hp=>?_⟩
  rw [yg]
  exact hk _ _ (ah hp _) ⟨p,rfl,ac⟩
 intro p zs H1 hp s1 g1 hz
 refine q p zs H1 hp s1 g1 ?_
 have: ∀ {l:List Rul} {zs:List V},Paired (fun (r:Rul) v=> ∃ b,v=.ref b/\H1 b=some (.tup ((io (r.pl,r.word)).map kV))) l zs->KsOf H1 zs ((l.map fun r=>(r.pl,r.word)).map io):=by
  intro l zs h
  induction h with
  | nil=>exact .nil
  | cons a _ ih=>exact .cons a ih
 exact this hz
theorem uz:au ["reading"] ["reading"] (ag nU):=fsc
theorem sO (F:Fun K "key_of" "key_of" nU f fd):FnOk P w K mg base CX0 1 f fd ["reading"] oU:=by
 refine F.ok uz (fun vs H Q E h=>?_) (fun cdv A outer s H vs Q E hr h=>?_)
 ·obtain ⟨a,ks,rfl,_⟩:=h
  rfl
 obtain ⟨a,ks,rfl,ha,hk,q⟩:=h
 refine ⟨_,aj (aw (gj (aF bj (av ay (pv 0) ae (fun _ _=>rfl)) aP (aE _))
  (aJ (aa (ic eK ae) (aa (av ay (pv 0) ae (fun _ _=>rfl)) ab)))
  (aJ (aa (av ay (pv 0) ae (fun _ _=>rfl)) (aa (av ay (pv 0) ae (fun _ _=>rfl)) ab))))),?_⟩
 rcases hk with ⟨x,rfl,_⟩ | ⟨i,x,rfl,_⟩
 ·refine ⟨_,rfl,a,_,0,.str "own",rfl,rfl,SqT.of ha,bV,rfl,true,(by rw [decide_eq_true rfl]),cX ?_⟩
  refine ⟨1,rfl,_,rfl,a,_,1,.str x,rfl,rfl,SqT.of ha,aG (j:=1) rfl,(by show 2<=sizeLine;decide),fun p hp=>q p (-1) x (.inl ⟨rfl,rfl⟩) hp⟩
 ·refine ⟨_,rfl,a,_,0,.str "part",rfl,rfl,SqT.of ha,bV,rfl,false,(by rw [decide_eq_false (by decide +kernel)]),aX ?_⟩
  refine ⟨_,rfl,a,_,1,.int i,rfl,rfl,SqT.of ha,aG (j:=1) rfl,_,rfl,a,_,2,.str x,rfl,rfl,SqT.of ha,aG (j:=2) rfl,(by show 2<=sizeLine;decide),fun p hp=>q p i x (.inr rfl) hp⟩
theorem rG:au ["form","at"] ["form","at"] (ag ko):=fsc
theorem qi (F:Fun K "sort_at" "sort_at" ko f fd)
  (GO:FnOk P w K mg base CX0 1 f5 fd5 ["form"] cN) (bO:Binds K fd5 ["form"] []) (kO:PySem.W.keepIn K (.ref f5)=true) (mO:mg "sort_of_form"=some (.ref f5))
  (GP:FnOk P w K mg base CX0 1 f6 fd6 ["form"] dl) (bP:Binds K fd6 ["form"] []) (kP:PySem.W.keepIn K (.ref f6)=true) (mP:mg "parts_of"=some (.ref f6)):
  FnOk P w K mg base CX0 2 f fd ["form","at"] lN:=by
 refine F.ok rG (fun vs H Q E h=>?_) (fun cdv A outer s H vs Q E hr h=>?_)
 ·obtain ⟨v,fr,i,qq,rfl,_⟩:=h
  rfl
 obtain ⟨v,fr,i,qq,rfl,hF,hc,q⟩:=h
 refine ⟨_,aj (aw (gj (aF bj (pv 1) (ic eK ae) (aE _)) (af GO hr rfl mO kO bO .nil al (aa (pv 0) ab))
  (av ay (af GP hr rfl mP kP bP .nil al (aa (pv 0) ab)) (pv 1) (fun _ _=>rfl)))),?_⟩
 rcases hc with ⟨rfl,rfl⟩ | ⟨h0,hq⟩
 ·exact ⟨_,rfl,1,rfl,rfl,true,(by rw [decide_eq_true rfl]),cX ⟨_,rfl,v,fr,rfl,hF,q⟩⟩
 ·refine ⟨_,rfl,1,rfl,rfl,false,(by rw [decide_eq_false fun z=>by have:=V.int.inj z;omega]),aX ⟨_,rfl,v,fr,rfl,hF,fun pa hpa=>?_⟩⟩
  have e:(bn fr.parts)[i.toNat]? =some (.str qq.name):=by unfold bn;rw [List.getElem?_map,hq];rfl
  have e2:i=((i.toNat:Nat):Int):=by omega
  refine ⟨_,rfl,pa,_,i,.str qq.name,rfl,rfl,SqT.of hpa,?_,q⟩
  rw [e2]
  exact aG e
noncomputable def jD:Sp:=fun vs H Q _=> ∃ bv bk v fr,vs=[bv,v]/\RepB H bk bv/\BkS bk/\RepF H fr v/\fr∈bk.forms/\ ∀ p zs H',H p=none->Same H H'->H' p=some (.lst zs)->KsOf H' zs ((ce fr.own fr.parts).map io)->Q (.ref p) H'
noncomputable def iy (fr:Frm) (ks:List Key):Prop:=(∃ x:Str,ks=[.inr "own",.inr x]/\x∈fr.own.downs++fr.own.ups)\/ ∃ (j:Nat) (q:Srt) (x:Str),ks=[.inr "part",.inl (j:Int),.inr x]/\fr.parts[j]? =some q/\x∈q.downs++q.ups
noncomputable def lU:Sp:=fun vs H Q _=> ∃ bv bk v fr a ks,vs=[bv,v,.ref a]/\RepB H bk bv/\BkS bk/\RepF H fr v/\fr∈bk.forms/\H a=some (.tup (List.map kV ks))/\RK ks/\iy fr ks/\ ∀ H',Same H H'->Q (.bl true) H'
noncomputable def iM:Sp:=fun vs H Q _=> ∃ bv bk v fr,vs=[bv,v]/\RepB H bk bv/\BkV bk/\RepF H fr v/\fr∈bk.forms/\ ∀ H',Same H H'->Q (.bl true) H'
theorem xp {H:Hp} {xs ys:List V} {a b:List (List Key)} (h:KsOf H xs a) (g:KsOf H ys b):KsOf H (xs++ys) (a++b):=by
 induction h with
 | nil=>exact g
 | cons x _ ih=>exact .cons x ih
theorem pk {H:Hp} {xs:List V} {a:List (List Key)} (h:KsOf H xs a):xs.length=a.length:=Paired.length h
theorem fU {H:Hp} {α:Type} {g:α->List Key}: ∀ {l:List α} {zs:List V},Paired (fun (x:α) v=> ∃ b,v=.ref b/\H b=some (.tup ((g x).map kV))) l zs->KsOf H zs (l.map g)
 | _,_,.nil=>.nil
 | _,_,.cons a t=>.cons a (fU t)
theorem Tw.told {H:Hp} {fr:Frm}: ∀ {fm:Fm} {v:V} {vs out:List V} {rs:List (List Key)},Rep H fm v->fm.wfp (gW fr)->Tw H vs out rs->(∀ ks∈rs,iy fr ks)-> ∃ out' rs',Tw H (v::vs) out' rs'/\out'.length=fm.size+out.length/\ ∀ ks∈rs',iy fr ks
 | .num n,_,vs,out,rs,⟨a,rfl,ha⟩,_,t,h=>⟨_,_,.num ha (by simp) t,by show out.length+1=1+out.length;omega,h⟩
 | .own x,_,vs,out,rs,⟨a,rfl,ha⟩,hw,t,h=>⟨_,_,.rd (ks:=[.inr "own",.inr x]) ha (.inl ⟨x,rfl,ba hw.1⟩) t,by show out.length+1=1+out.length;omega,fun ks hk=>by
   rcases List.mem_cons.mp hk with e | e
   ·rw [e];exact .inl ⟨x,rfl,hw.2⟩
   ·exact h ks e⟩
 | .part k x,_,vs,out,rs,⟨a,rfl,ha⟩,hw,t,h=>⟨_,_,.rd (ks:=[.inr "part",.inl k,.inr x]) ha (.inr ⟨k,x,rfl,ba hw.1.2⟩) t,by show out.length+1=1+out.length;omega,fun ks hk=>by
   rcases List.mem_cons.mp hk with e | e
   ·obtain ⟨j,q,ej,hq,hx⟩:=hw.2
    rw [e,ej]
    exact .inr ⟨j,q,x,rfl,hq,hx⟩
   ·exact h ks e⟩
 | .bin op A B,_,vs,out,rs,⟨a,u,w,rfl,ha,r1,r2⟩,hw,t,h=>by
  obtain ⟨o1,s1,t1,l1,h1⟩:=Tw.told r2 hw.2.2 t h
  obtain ⟨o2,s2,t2,l2,h2⟩:=Tw.told r1 hw.2.1 t1 h1
  exact ⟨_,_,.inn ha (by rw [dZ hw.1];rfl) (dY hw.1) (by simp) t2,by rw [List.length_cons,l2,l1];show _=A.size+B.size+1+out.length;omega,h2⟩
 | .whn A B C,_,vs,out,rs,⟨a,u,w,z,rfl,ha,r1,r2,r3⟩,hw,t,h=>by
  obtain ⟨o0,s0,t0,l0,h0⟩:=Tw.told r3 hw.2.2 t h
  obtain ⟨o1,s1,t1,l1,h1⟩:=Tw.told r2 hw.2.1 t0 h0
  obtain ⟨o2,s2,t2,l2,h2⟩:=Tw.told r1 hw.1 t1 h1
  exact ⟨_,_,.inn ha (by rw [dA];rfl) (by decide +kernel) (by simp) t2,by rw [List.length_cons,l2,l1,l0];show _=A.size+B.size+C.size+1+out.length;omega,h2⟩
noncomputable abbrev wL:List Str:=["book","form","due","k","part"]
theorem scDueKeys:au wL ["book","form"] (ag eW):=fsc
theorem ow (F:Fun K "due_keys" "due_keys" eW f fd) (hen:mg "enumerate"=none)
  (GD:FnOk P w K mg base CX0 3 f2 fd2 ["book","sort"] j9) (bD:Binds K fd2 ["book","sort"] []) (kD:PySem.W.keepIn K (.ref f2)=true) (mD:mg "downs_of"=some (.ref f2))
  (GU:FnOk P w K mg base CX0 3 f3 fd3 ["book","sort"] rg) (bU:Binds K fd3 ["book","sort"] []) (kU:PySem.W.keepIn K (.ref f3)=true) (mU:mg "ups_of"=some (.ref f3))
  (GO:FnOk P w K mg base CX0 1 f5 fd5 ["form"] cN) (bO:Binds K fd5 ["form"] []) (kO:PySem.W.keepIn K (.ref f5)=true) (mO:mg "sort_of_form"=some (.ref f5))
  (GP:FnOk P w K mg base CX0 1 f6 fd6 ["form"] dl) (bP:Binds K fd6 ["form"] []) (kP:PySem.W.keepIn K (.ref f6)=true) (mP:mg "parts_of"=some (.ref f6)):
  FnOk P w K mg base CX0 4 f fd ["book","form"] jD:=by
 refine F.ok scDueKeys (fun vs H Q E h=>?_) (fun cdv A outer s H vs Q E hr h=>?_)
 ·obtain ⟨bv,bk,v,fr,rfl,_⟩:=h
  rfl
 obtain ⟨bv,bk,v,fr,rfl,hB,hok,hF,hfr,q⟩:=h
 have hr1:=hr.mono (show 1<=3 by decide)
 refine ⟨_,ad (dE (i:=2) (sc0:=ag eW) (N0:=wL) (ys:=[]) (fr:=[]) rfl scDueKeys.nd rfl (Or.inl rfl) (bd (af GU hr rfl mU kU bU .nil al (aa (pv 0) (aa (af GO hr1 rfl mO kO bO .nil al (aa (pv 1) ab)) ab)))) rfl rfl
    cok (fun C s H ex=>aJ (aa (ic eK ae) (aa (pv 0) ab))))
  (ad (bQ PassesOwn.never rfl (uK rfl hen (aa (af GP hr1 rfl mP kP bP .nil al (aa (pv 1) ab)) ab))
    (eC rfl (aU (aH (i:=3) scDueKeys.nd rfl (Or.inr rfl)) (aU (aH (i:=4) scDueKeys.nd rfl (Or.inl rfl)) dj)))
   (aj (cq (dF PySem.F.plainAttrs_list PySem.F.slot_list_extend PySem.F.type_list_extend fB (pv 2) (aa
    (br (sc0:=ag eW) (N0:=wL) (ys:=["k"]) (fr:=[3]) rfl (bd (af GD hr rfl mD kD bD .nil al (aa (pv 0) (aa (pv 4) ab)))) rfl rfl
     cok (fun C s H ex=>aJ (aa (pv 1) (aa (pv 0) ab)))) ab)))))
  (aj (aw (pv 2)))),?_⟩
 obtain ⟨o1,o2,o3,_⟩:=hok.fo fr hfr
 refine ⟨_,rfl,_,rfl,v,fr,rfl,hF,bv,bk,_,fr.own,rfl,hB,hok,o1,rfl,fun ub H1 s1 hub=>?_⟩
 have hl1:(fr.own.ups.map V.str).length=fr.own.ups.length:=List.length_map _
 obtain ⟨d1,d2,_⟩:=hok.ws _ o1
 refine ⟨ub,rfl,⟨_,SqT.of hub⟩,?_⟩
 refine da (by omega) (dH fr.own.ups) (cu hub) (cs hub) (cO hub) (fun H x v=> ∃ b,v=.ref b/\H b=some (.tup ((io (-1,x)).map kV))) (fun t ⟨b,e,h⟩=>⟨b,e,t _ _ h⟩) ?_ ?_
 ·rintro x v' H2 k hx rfl s2 hk
  exact ⟨1,rfl,_,rfl,(by show 2<=sizeLine;decide),fun p hp=>hk _ _ (ah hp _) ⟨p,rfl,ac⟩⟩
 intro d zs H2 hd s2 g2 hz
 have hdH:H d=none:=s1.free hd
 have S2:=s1.trans s2
 have hk2:KsOf H2 zs ((ce fr.own []).map io):=by
  have:=fU (g:=fun x=>io (-1,x)) hz
  unfold ce bJ
  rw [List.append_nil,List.map_map]
  exact this
 refine ⟨_,rfl,v,fr,rfl,hF.mono (ax S2),fun pb hpb=>?_⟩
 refine ⟨pb,_,rfl,hpb,?_⟩
 have hpl:(bn fr.parts).length=fr.parts.length:=List.length_map _
 refine tY (xs:=bn fr.parts) (fun i Z H'=> ∃ o3 o4 zs,Z=[some bv,some v,some (.ref d),o3,o4]/\Same H H'/\H' pb=some (.tup (bn fr.parts))/\H' d=some (.lst zs)/\KsOf H' zs ((ce fr.own (fr.parts.take i)).map io))
  ⟨none,none,zs,rfl,S2,hpb,g2,hk2⟩ (fun i Z H' _ ⟨_,_,_,_,_,h,_⟩=>h) ?_ ?_
 ·rintro i x T Z H3 hx hT ⟨o3',o4',zs,rfl,S3,gp3,gd3,hk3⟩
  unfold bn at hx
  rw [List.getElem?_map]at hx
  obtain ⟨qq,hqq,rfl⟩:=Option.map_eq_some_iff.mp hx
  have hqm:=o2 qq (List.mem_of_getElem? hqq)
  have s4:=ah hT (.tup [.int (i:Int),.str qq.name])
  have g4:(upd H3 T (.tup [.int (i:Int),.str qq.name])) T=some (.tup [.int (i:Int),.str qq.name]):=ac
  generalize upd H3 T (.tup [.int (i:Int),.str qq.name])=H4 at s4 g4 ⊢
  have S4:=S3.trans s4
  refine ⟨T,_,rfl,SqT.of g4,rfl,_,_,rfl,_,_,rfl,rfl,?_⟩
  refine ⟨_,rfl,.inl ⟨rfl,_,SqL.of (s4 _ _ gd3)⟩,_,rfl,_,rfl,bv,bk,_,qq,rfl,hB.mono (ax S4),hok,hqm,rfl,fun db H5 s5 hdb=>?_⟩
  obtain ⟨e1,e2,_⟩:=hok.ws _ hqm
  have hl5:(qq.downs.map V.str).length=qq.downs.length:=List.length_map _
  refine ⟨db,rfl,⟨_,SqT.of hdb⟩,?_⟩
  refine da (by omega) (dH qq.downs) (cu hdb) (cs hdb) (cO hdb) (fun H x v=> ∃ b,v=.ref b/\H b=some (.tup ((io ((i:Int),x)).map kV))) (fun t ⟨b,e,h⟩=>⟨b,e,t _ _ h⟩) ?_ ?_
  ·rintro x v' H6 k hx6 rfl s6 hk
   exact ⟨_,rfl,_,rfl,(by show 2<=sizeLine;decide),fun p hp=>hk _ _ (ah hp _) ⟨p,rfl,ac⟩⟩
  intro e ws H6 he s6 g6 hw
  have s36:=s4.trans (s5.trans s6)
  have gd6:=s36 _ _ gd3
  have hkw:KsOf H6 ws ((qq.downs.map fun x=>((i:Int),x)).map io):=by
   have:=fU (g:=fun x=>io ((i:Int),x)) hw
   rw [List.map_map]
   exact this
  have hk6:=L2.KsOf.mono hk3 fun b xs h=>s36 _ _ h
  have lz:=pk hk3
  have lw:=pk hkw
  have ltg:=gH (k:=0) (qs:=fr.parts.take i) fun s hs=>(hok.ws s (o2 s (List.mem_of_mem_take hs))).1
  have ltk:(fr.parts.take i).length<=fr.parts.length:=by rw [List.length_take];omega
  rw [List.length_map,List.length_map]at lw
  have ltt:(ce fr.own (fr.parts.take i)).length<=12:=by
   unfold ce
   rw [List.length_append,List.length_map]
   omega
  rw [List.length_map]at lz
  refine ⟨d,e,zs,ws,rfl,rfl,gd6,g6,Nat.le_trans (m:=1000) (by omega) (by decide),?_⟩
  have tk:TK H6 (upd H6 d (.lst (zs++ws))):=fun b xs h=>by rw [am (fun z=>by rw [z,gd6]at h;cases h)];exact h
  refine ⟨_,_,zs++ws,rfl,fun b o h=>?_,tk _ _ (s36 _ _ gp3),ac,?_⟩
  ·rw [am (ai h hdH)]
   exact s36 _ _ (S3 _ _ h)
  ·have et:ce fr.own (fr.parts.take (i+1))=ce fr.own (fr.parts.take i)++qq.downs.map (fun x=>((i:Int),x)):=by
    rw [List.take_add_one,hqq]
    unfold ce
    show _++bJ 0 (fr.parts.take i++[qq])=_
    have hil:i<fr.parts.length:=(List.getElem?_eq_some_iff.mp hqq).1
    rw [gX,<- List.append_assoc,List.length_take,Nat.min_eq_left (Nat.le_of_lt hil),Int.zero_add]
   rw [et,List.map_append]
   exact L2.KsOf.mono (xp hk6 hkw) tk
 ·rintro Z H3 ⟨o3',o4',zs,rfl,S3,gp3,gd3,hk3⟩
  rw [hpl,List.take_length]at hk3
  exact ⟨_,rfl,q d zs H3 hdH S3 gd3 hk3⟩
theorem fc {α β:Type} {F:α->β->Prop}: ∀ {l:List α} {r:List β},Paired F l r->Paired (fun b a=>F a b) r l
 | _,_,.nil=>.nil
 | _,_,.cons a t=>.cons a (fc t)
theorem uj: ∀ (rs acc:List (List Key)),(dd acc rs).length<=acc.length+rs.length
 | [],_=>Nat.le_refl _
 | k::r,acc=>by
  have:=uj r (if k∈acc then acc else acc++[k])
  show (dd (if k∈acc then acc else acc++[k]) r).length<=acc.length+ (r.length+1)
  split at this
  ·rename_i c
   rw [if_pos c];omega
  ·rename_i c
   rw [if_neg c]
   rw [List.length_append]at this
   have e:[k].length=1:=rfl
   omega
theorem qS {H:Hp} {ws out:List V} {rs:List (List Key)} (h:Tw H ws out rs):rs.length<=out.length:=by
 induction h with
 | nil=>exact Nat.le_refl _
 | rd _ _ _ ih=>exact Nat.succ_le_succ ih
 | num _ _ _ ih=>exact Nat.le_succ_of_le ih
 | inn _ _ _ _ _ ih=>exact Nat.le_succ_of_le ih
noncomputable abbrev xH:List Str:=["book","form","reading","key"]
theorem scIsTold:au xH ["book","form","reading"] (ag kx):=fsc
theorem qu (F:Fun K "is_told" "is_told" kx f fd) (G:Gb mg)
  (GK:FnOk P w K mg base CX0 1 f2 fd2 ["reading"] oU) (bK:Binds K fd2 ["reading"] []) (kK:PySem.W.keepIn K (.ref f2)=true) (mK:mg "key_of"=some (.ref f2))
  (GP:FnOk P w K mg base CX0 1 f6 fd6 ["form"] dl) (bP:Binds K fd6 ["form"] []) (kP:PySem.W.keepIn K (.ref f6)=true) (mP:mg "parts_of"=some (.ref f6))
  (GA:FnOk P w K mg base CX0 2 f3 fd3 ["form","at"] lN) (bA:Binds K fd3 ["form","at"] []) (kA:PySem.W.keepIn K (.ref f3)=true) (mA:mg "sort_at"=some (.ref f3))
  (GW:FnOk P w K mg base CX0 4 f4 fd4 ["book","sort"] iG) (bW:Binds K fd4 ["book","sort"] []) (kW:PySem.W.keepIn K (.ref f4)=true) (mW:mg "worths_of_sort"=some (.ref f4)):
  FnOk P w K mg base CX0 5 f fd ["book","form","reading"] lU:=by
 refine F.ok scIsTold (fun vs H Q E h=>?_) (fun cdv A outer s H vs Q E hr h=>?_)
 ·obtain ⟨bv,bk,v,fr,a,ks,rfl,_⟩:=h
  rfl
 obtain ⟨bv,bk,v,fr,a,ks,rfl,hB,hok,hF,hfr,ha,hrk,htd,q⟩:=h
 have hr1:=hr.mono (show 1<=4 by decide)
 have hr2:=hr.mono (show 2<=4 by decide)
 refine ⟨_,ad (aq (i:=3) scIsTold.nd rfl (Or.inl rfl) (af GK hr1 rfl mK kK bK .nil al (aa (pv 2) ab)))
  (aj (aw (cf (bm fI (av ay (pv 3) ae (fun _ _=>rfl)) (ao ar rfl G.len PySem.boot_len (aa (af GP hr1 rfl mP kP bP .nil al (aa (pv 1) ab)) ab)) (aE _))
   (cv (bm (r:=rIn K false) fA (av ay (pv 3) ae (fun _ _=>rfl)) (af GW hr rfl mW kW bW .nil al (aa (pv 0) (aa (af GA hr2 rfl mA kA bA .nil al (aa (pv 1) (aa (av ay (pv 3) ae (fun _ _=>rfl)) ab))) ab))) (by with_unfolding_all rfl)))))),?_⟩
 obtain ⟨o1,o2,o3,_⟩:=hok.fo fr hfr
 refine ⟨_,rfl,a,ks,rfl,ha,hrk,fun p i x hix hp=>?_⟩
 obtain ⟨qq,hq,hqm,hx,hlt⟩: ∃ qq,((i= -1/\qq=fr.own)\/(0<=i/\fr.parts[i.toNat]? =some qq))/\qq∈bk.sorts/\x∈qq.downs++qq.ups/\i< (fr.parts.length:Int):=by
  rcases htd with ⟨y,rfl,hy⟩ | ⟨j,q',y,rfl,hq',hy⟩
  ·rcases hix with ⟨e,rfl⟩ | e
   ·cases e
    exact ⟨fr.own,.inl ⟨rfl,rfl⟩,o1,hy,by omega⟩
   ·cases e
  ·rcases hix with ⟨e,rfl⟩ | e
   ·cases e
   ·cases e
    have hj:j<fr.parts.length:=(List.getElem?_eq_some_iff.mp hq').1
    exact ⟨q',.inr ⟨by omega,hq'⟩,o2 _ (List.mem_of_getElem? hq'),hy,by omega⟩
 have s1:=ah hp (.tup [.int i,.str x])
 have g1:(upd H p (.tup [.int i,.str x])) p=some (.tup [.int i,.str x]):=ac
 generalize upd H p (.tup [.int i,.str x])=H1 at s1 g1 ⊢
 have hF1:=hF.mono (ax s1)
 refine ⟨_,rfl,p,_,0,.int i,rfl,rfl,SqT.of g1,bV,_,rfl,v,fr,rfl,hF1,fun pb hpb=>?_⟩
 have hpl:(bn fr.parts).length=fr.parts.length:=List.length_map _
 refine ⟨pb,_,rfl,.inr (SqT.of hpb),i,_,rfl,rfl,true,?_,cX ?_⟩
 ·rw [hpl]
  exact congrArg V.bl (decide_eq_true hlt)
 refine ⟨_,rfl,p,_,1,.str x,rfl,rfl,SqT.of g1,aG (j:=1) rfl,?_⟩
 refine ⟨_,rfl,_,rfl,_,rfl,p,_,0,.int i,rfl,rfl,SqT.of g1,bV,v,fr,i,qq,rfl,hF1,hq,?_⟩
 refine ⟨bv,bk,_,qq,rfl,hB.mono (ax s1),hok,hqm,rfl,fun b H2 s2 hb=>?_⟩
 refine ⟨b,_,rfl,.inr (SqT.of hb),rfl,gU _,?_⟩
 refine qb (b:=true) (q H2 (s1.trans s2)) ?_
 show true=inV (.str x) ((qq.downs++qq.ups).map V.str)
 rw [jf hx]
noncomputable abbrev NHf:List Str:=["book","form","formula"]
theorem scHasForms:au NHf ["book","form"] (ag fz):=fsc
theorem mx (F:Fun K "has_formulas" "has_formulas" fz f fd) (G:Gb mg)
  (GB:FnOk P w K mg base CX0 2 f2 fd2 ["form"] ka) (bB:Binds K fd2 ["form"] []) (kB:PySem.W.keepIn K (.ref f2)=true) (mB:mg "formulas_by_key"=some (.ref f2))
  (GI:FnOk P w K mg base CX0 4 f3 fd3 ["thing"] rj) (bI:Binds K fd3 ["thing"] []) (kI:PySem.W.keepIn K (.ref f3)=true) (mI:mg "is_formula"=some (.ref f3))
  (GR:FnOk P w K mg base CX0 3 f4 fd4 ["formula"] jY) (bR:Binds K fd4 ["formula"] []) (kR:PySem.W.keepIn K (.ref f4)=true) (mR:mg "readings_of"=some (.ref f4))
  (GT:FnOk P w K mg base CX0 5 f5 fd5 ["book","form","reading"] lU) (bT:Binds K fd5 ["book","form","reading"] []) (kT:PySem.W.keepIn K (.ref f5)=true) (mT:mg "is_told"=some (.ref f5)):
  FnOk P w K mg base CX0 6 f fd ["book","form"] iM:=by
 refine F.ok scHasForms (fun vs H Q E h=>?_) (fun cdv A outer s H vs Q E hr h=>?_)
 ·obtain ⟨bv,bk,v,fr,rfl,_⟩:=h
  rfl
 obtain ⟨bv,bk,v,fr,rfl,hB,hok,hF,hfr,q⟩:=h
 have hr2:=hr.mono (show 2<=5 by decide)
 have hr3:=hr.mono (show 3<=5 by decide)
 have hr4:=hr.mono (show 4<=5 by decide)
 refine ⟨_,ad (bQ PassesOwn.never rfl (oZ (af GB hr2 rfl mB kB bB .nil al (aa (pv 1) ab))) (aH (i:=2) scHasForms.nd rfl (Or.inl rfl))
   (ad (aL (aY (aT (af GI hr4 rfl mI kI bI .nil al (aa (pv 2) ab)))) aK aC)
   (aj (aL (aY (aT (ao (ck rfl) rfl G.all (by decide +kernel) (aa (br (sc0:=ag fz) (N0:=NHf) (ys:=["book","form"]) (fr:=[0,1]) rfl (cY (af GR hr3 rfl mR kR bR .nil al (aa (pv 2) ab))) rfl rfl
    cok (fun C s H ex=>af GT hr rfl mT kT bT .nil al (aa (pv 1) (aa (pv 2) (aa (pv 0) ab))))) ab)))) aK aC))))
  (aj (aw dg)),?_⟩
 refine ⟨_,rfl,v,fr,rfl,hF,hok.s.rules12 hfr,fun d kvs H1 hd s1 g1 hl12 hv hall=>?_⟩
 refine ⟨d,kvs,rfl,.inl ⟨g1,fun o=>?_⟩⟩
 have gF:(upd H1 d (.frz o (.dT kvs))) d=some (.frz o (.dT kvs)):=ac
 have sF:Same H (upd H1 d (.frz o (.dT kvs))):=fun b u h=>by rw [am (ai h hd)];exact s1 _ _ h
 have tF:TK H1 (upd H1 d (.frz o (.dT kvs))):=fun b xs h=>by rw [am (fun z=>by rw [z,g1]at h;cases h)];exact h
 generalize upd H1 d (.frz o (.dT kvs))=HF at gF sF tF ⊢
 have hallF: ∀ kv∈kvs,∃ r∈fr.rules,Rep HF r.fm kv.2:=fun kv hkv=>by
  obtain ⟨r,hr',hR⟩:=hall kv hkv
  exact ⟨r,hr',hR.mono tF⟩
 refine tX (fun i Z H'=> ∃ o2,Z=[some bv,some v,o2]/\Same HF H') ⟨none,rfl,Same.refl _⟩ (fun i Z H' _ ⟨_,_,s'⟩=>s' _ _ gF) ?_ ?_
 ·rintro i kv Z H2 hkv ⟨o2,rfl,s2⟩
  obtain ⟨r,hr',hR⟩:=hallF kv (List.mem_of_getElem? hkv)
  obtain ⟨_,_,_,_,hwz⟩:=hok.s.fo fr hfr
  obtain ⟨hwf,h15⟩:=hwz r hr'
  refine ⟨_,rfl,kv.2,true,rfl,⟨_,.cons (hR.mono (ax s2)) hwf .nil,by omega⟩,fun H3 s3=>⟨true,rfl,aX ?_⟩⟩
  have S3:=s2.trans s3
  obtain ⟨out,rs,hTw,hol,htd⟩:=Tw.told (fr:=fr) (hR.mono (ax S3)) (hok.rd fr hfr r hr') Tw.nil (fun ks h=>by cases h)
  have hol:out.length=r.fm.size:=hol
  refine ⟨_,rfl,kv.2,out,rs,rfl,hTw,by omega,fun p ys H4 hp s4 g4 hks=>?_⟩
  have hl:=pk hks
  have h1:=uj rs []
  have h2:=qS hTw
  have e0:([]:List (List Key)).length=0:=rfl
  have S4:=S3.trans s4
  refine ⟨p,rfl,⟨_,SqL.of g4⟩,?_⟩
  refine cF (by omega) (fc hks) (fD g4) (fC g4) (gS g4) ?_ ?_
  ·rintro ks v' H5 k hk ⟨b,rfl,hb⟩ s5 hk5
   have S5:=sF.trans (S4.trans s5)
   exact ⟨_,rfl,_,rfl,_,rfl,bv,bk,v,fr,b,ks,rfl,hB.mono (ax S5),hok.s,hF.mono (ax S5),hfr,s5 _ _ hb,gV (P:=RK) (fun k h=>by cases h) hTw.rk ks hk,gV (P:=iy fr) (fun k h=>by cases h) htd ks hk,hk5⟩
  ·intro p5 bs H5 hbs hp5 s5 g5
   exact ⟨p5,bs,rfl,SqL.of g5,true,(by rw [hbs]),aX ⟨_,rfl,S4.trans s5⟩⟩
 ·rintro Z H2 ⟨o2,rfl,s2⟩
  exact q H2 (sF.trans s2)
noncomputable def hV:Sp:=fun vs H Q _=> ∃ v fm,vs=[v]/\Rep H fm v/\Fm.wf fm/\fm.size<=15/\ ∀ p (ns:List Int) H',H p=none->Same H H'->H' p=some (.lst (ns.map V.int))->ns.length<=15->(∀ n∈ns,n∈Fm.prt fm)->Q (.ref p) H'
noncomputable def lQ:Sp:=fun vs H Q _=> ∃ v fm,vs=[v]/\Rep H fm v/\Fm.wf fm/\fm.size<=15/\fm.lvl/\ ∀ H',Same H H'->Q (.bl true) H'
noncomputable def jC:Sp:=fun vs H Q _=> ∃ bv bk,vs=[bv]/\RepB H bk bv/\BkV bk/\bk.wheel=0/\ ∀ H',Same H H'->Q (.bl true) H'
theorem Tw.prt {H:Hp} {N:List Int}: ∀ {fm:Fm} {v:V} {vs out:List V} {rs:List (List Key)},Rep H fm v->fm.wf->(∀ k∈fm.prt,k∈N)->Tw H vs out rs->(∀ ks∈rs,∀ k x,ks=[.inr "part",.inl k,.inr x]->k∈N)-> ∃ out' rs',Tw H (v::vs) out' rs'/\out'.length=fm.size+out.length/\ ∀ ks∈rs',∀ k x,ks=[.inr "part",.inl k,.inr x]->k∈N
 | .num n,_,vs,out,rs,⟨a,rfl,ha⟩,_,_,t,h=>⟨_,_,.num ha (by simp) t,by show out.length+1=1+out.length;omega,h⟩
 | .own x,_,vs,out,rs,⟨a,rfl,ha⟩,hw,_,t,h=>⟨_,_,.rd (ks:=[.inr "own",.inr x]) ha (.inl ⟨x,rfl,ba hw⟩) t,by show out.length+1=1+out.length;omega,fun ks hk=>by
   rcases List.mem_cons.mp hk with e | e
   ·rw [e];intro k x z;cases z
   ·exact h ks e⟩
 | .part k x,_,vs,out,rs,⟨a,rfl,ha⟩,hw,hN,t,h=>⟨_,_,.rd (ks:=[.inr "part",.inl k,.inr x]) ha (.inr ⟨k,x,rfl,ba hw.2⟩) t,by show out.length+1=1+out.length;omega,fun ks hk=>by
   rcases List.mem_cons.mp hk with e | e
   ·rw [e];intro k' x' z;cases z;exact hN _ List.mem_cons_self
   ·exact h ks e⟩
 | .bin op A B,_,vs,out,rs,⟨a,u,w,rfl,ha,r1,r2⟩,hw,hN,t,h=>by
  obtain ⟨o1,s1,t1,l1,h1⟩:=Tw.prt r2 hw.2.2 (fun k hk=>hN k (List.mem_append_right _ hk)) t h
  obtain ⟨o2,s2,t2,l2,h2⟩:=Tw.prt r1 hw.2.1 (fun k hk=>hN k (List.mem_append_left _ hk)) t1 h1
  exact ⟨_,_,.inn ha (by rw [dZ hw.1];rfl) (dY hw.1) (by simp) t2,by rw [List.length_cons,l2,l1];show _=A.size+B.size+1+out.length;omega,h2⟩
 | .whn A B C,_,vs,out,rs,⟨a,u,w,z,rfl,ha,r1,r2,r3⟩,hw,hN,t,h=>by
  obtain ⟨o0,s0,t0,l0,h0⟩:=Tw.prt r3 hw.2.2 (fun k hk=>hN k (List.mem_append_right _ (List.mem_append_right _ hk))) t h
  obtain ⟨o1,s1,t1,l1,h1⟩:=Tw.prt r2 hw.2.1 (fun k hk=>hN k (List.mem_append_right _ (List.mem_append_left _ hk))) t0 h0
  obtain ⟨o2,s2,t2,l2,h2⟩:=Tw.prt r1 hw.1 (fun k hk=>hN k (List.mem_append_left _ hk)) t1 h1
  exact ⟨_,_,.inn ha (by rw [dA];rfl) (by decide +kernel) (by simp) t2,by rw [List.length_cons,l2,l1,l0];show _=A.size+B.size+C.size+1+out.length;omega,h2⟩
noncomputable def LvG (H:Hp) (u:V):Prop:= ∃ g:Fm,Rep H g u/\g.wf/\g.lvl/\g.size<=15
theorem Ts.lvl {H:Hp}: ∀ {fm:Fm} {v:V} {vs out:List V},Rep H fm v->fm.wf->fm.lvl->fm.size<=15->Ts H vs out->(∀ u∈out,LvG H u)-> ∃ out',Ts H (v::vs) out'/\out'.length=fm.size+out.length/\ ∀ u∈out',LvG H u
 | .num n,_,vs,out,R,w,l,z,t,h=>by
  obtain ⟨a,rfl,ha⟩:=id R
  refine ⟨_,.cons ha (by decide +kernel) (by simp) (by rw [show aS [.str "num",.int n]=[] by simp only [aS,fF];rfl];exact t),by show out.length+1=1+out.length;omega,fun u hu=>?_⟩
  rcases List.mem_cons.mp hu with e | e
  ·rw [e];exact ⟨_,R,w,l,z⟩
  ·exact h u e
 | .own x,_,vs,out,R,w,l,z,t,h=>l.elim
 | .part k x,_,vs,out,R,w,l,z,t,h=>by
  obtain ⟨a,rfl,ha⟩:=id R
  refine ⟨_,.cons ha (by decide +kernel) (by simp) (by rw [show aS [.str "part",.int k,.str x]=[] by simp only [aS,dB];rfl];exact t),by show out.length+1=1+out.length;omega,fun u hu=>?_⟩
  rcases List.mem_cons.mp hu with e | e
  ·rw [e];exact ⟨_,R,w,l,z⟩
  ·exact h u e
 | .bin op A B,_,vs,out,R,w,l,z,t,h=>by
  obtain ⟨a,u,v,rfl,ha,r1,r2⟩:=id R
  have z':A.size+B.size+1<=15:=z
  obtain ⟨o1,t1,l1,h1⟩:=Ts.lvl r2 w.2.2 l.2.1 (by omega) t h
  obtain ⟨o2,t2,l2,h2⟩:=Ts.lvl r1 w.2.1 l.1 (by omega) t1 h1
  refine ⟨_,.cons ha (dY w.1) (by simp) (by rw [show aS [.str op,u,v]=[u,v] by simp only [aS,dZ w.1];rfl];exact t2),by rw [List.length_cons,l2,l1];show _=A.size+B.size+1+out.length;omega,fun y hu=>?_⟩
  rcases List.mem_cons.mp hu with e | e
  ·rw [e];exact ⟨_,R,w,l,z⟩
  ·exact h2 y e
 | .whn A B C,_,vs,out,R,w,l,z,t,h=>by
  obtain ⟨a,u,v,x,rfl,ha,r1,r2,r3⟩:=id R
  have z':A.size+B.size+C.size+1<=15:=z
  obtain ⟨o0,t0,l0,h0⟩:=Ts.lvl r3 w.2.2 l.2.2 (by omega) t h
  obtain ⟨o1,t1,l1,h1⟩:=Ts.lvl r2 w.2.1 l.2.1 (by omega) t0 h0
  obtain ⟨o2,t2,l2,h2⟩:=Ts.lvl r1 w.1 l.1 (by omega) t1 h1
  refine ⟨_,.cons ha (by decide +kernel) (by simp) (by rw [show aS [.str "when",u,v,x]=[u,v,x] by simp only [aS,dA];rfl];exact t2),by rw [List.length_cons,l2,l1,l0];show _=A.size+B.size+C.size+1+out.length;omega,fun y hu=>?_⟩
  rcases List.mem_cons.mp hu with e | e
  ·rw [e];exact ⟨_,R,w,l,z⟩
  ·exact h2 y e
theorem pB {α:Type} {N:List Int}: ∀ {l:List α} {zs:List V},Paired (fun (_:α) (v:V)=> ∃ k,v=.int k/\k∈N) l zs-> ∃ ns:List Int,zs=ns.map V.int/\(∀ n∈ns,n∈N)/\ns.length=l.length
 | _,_,.nil=>⟨[],rfl,fun _ h=>(by cases h),rfl⟩
 | _,_,.cons ⟨k,e,hk⟩ t=>by
  obtain ⟨ns,e2,h2,h3⟩:=pB t
  refine ⟨k::ns,by rw [e,e2];rfl,fun n hn=>?_,by rw [List.length_cons,List.length_cons,h3]⟩
  rcases List.mem_cons.mp hn with z | z
  ·rw [z];exact hk
  ·exact h2 n z
theorem l5:au ["formula"] ["formula"] (ag er):=fsc
theorem lj (F:Fun K "parts_read" "parts_read" er f fd)
  (GR:FnOk P w K mg base CX0 3 f4 fd4 ["formula"] jY) (bR:Binds K fd4 ["formula"] []) (kR:PySem.W.keepIn K (.ref f4)=true) (mR:mg "readings_of"=some (.ref f4)):
  FnOk P w K mg base CX0 4 f fd ["formula"] hV:=by
 refine F.ok l5 (fun vs H Q E h=>?_) (fun cdv A outer s H vs Q E hr h=>?_)
 ·obtain ⟨v,fm,rfl,_⟩:=h
  rfl
 obtain ⟨v,fm,rfl,hR,hwf,h15,q⟩:=h
 refine ⟨_,aj (aw (iX (sc0:=ag er) (N0:=["formula"]) (ys:=[]) (fr:=[]) rfl (cY (af GR hr rfl mR kR bR .nil al (aa (pv 0) ab))) rfl rfl
   cok
   (fun C s H ex=>aF bj (av (r:=gh K) ay (pv 0) ae (fun _ _=>rfl)) aP (aE _))
   (fun C s H ex=>av (r:=gh K) ay (pv 0) ae (fun _ _=>rfl)))),?_⟩
 obtain ⟨out,rs,hTw,hol,hpt⟩:=Tw.prt (N:=fm.prt) hR hwf (fun k h=>h) Tw.nil (fun ks h=>by cases h)
 have hol:out.length=fm.size:=hol
 refine ⟨_,rfl,v,out,rs,rfl,hTw,by omega,fun p ys H1 hp s1 g1 hks=>?_⟩
 have hl:=pk hks
 have h1:=uj rs []
 have h2:=qS hTw
 have e0:([]:List (List Key)).length=0:=rfl
 refine ⟨p,rfl,⟨_,SqL.of g1⟩,?_⟩
 refine lC (by omega) (fc hks) (fD g1) (fC g1) (gS g1) (fun ks=>decide (ks.head?=some (.inr "part"))) (fun _ _ v=> ∃ k,v=.int k/\k∈fm.prt) (fun _ h=>h) ?_ ?_ ?_
 ·rintro ks v' H2 k hk ⟨b,rfl,hb⟩ s2 hk2
  rcases gV (P:=RK) (fun k h=>by cases h) hTw.rk ks hk with ⟨x,rfl,_⟩ | ⟨i,x,rfl,_⟩
  ·refine ⟨_,rfl,b,_,0,.str "own",rfl,rfl,SqT.of (s2 _ _ hb),bV,rfl,_,rfl,?_⟩
   rw [show decide (V.str "own"=V.str "part")=decide (([.inr "own",.inr x]:List Key).head?=some (.inr "part")) by rw [decide_eq_false (by decide +kernel),decide_eq_false (by intro z;exact absurd (Sum.inr.inj (Option.some.inj z)) (by decide +kernel))]]
   exact hk2 H2 (Same.refl H2)
  ·refine ⟨_,rfl,b,_,0,.str "part",rfl,rfl,SqT.of (s2 _ _ hb),bV,rfl,_,rfl,?_⟩
   rw [show decide (V.str "part"=V.str "part")=decide (([.inr "part",.inl i,.inr x]:List Key).head?=some (.inr "part"))from (decide_eq_true rfl).trans (decide_eq_true (show ([.inr "part",.inl i,.inr x]:List Key).head?=some (.inr "part")from rfl)).symm]
   exact hk2 H2 (Same.refl H2)
 ·rintro ks v' H2 k hk ⟨b,rfl,hb⟩ hc s2 hk2
  rcases gV (P:=RK) (fun k h=>by cases h) hTw.rk ks hk with ⟨x,rfl,_⟩ | ⟨i,x,rfl,_⟩
  ·exact absurd (Sum.inr.inj (Option.some.inj (of_decide_eq_true hc))) (by decide +kernel)
  ·exact ⟨_,rfl,b,_,1,.int i,rfl,rfl,SqT.of (s2 _ _ hb),aG (j:=1) rfl,hk2 _ H2 (Same.refl H2) ⟨i,rfl,gV (P:=fun ks=> ∀ k x,ks=[.inr "part",.inl k,.inr x]->k∈fm.prt) (fun k h=>by cases h) hpt _ hk i x rfl⟩⟩
 intro p2 zs H2 hp2 s2 g2 hz
 obtain ⟨ns,rfl,hns,hnl⟩:=pB hz
 have hfl:=List.length_filter_le (fun ks:List Key=>decide (ks.head?=some (.inr "part"))) (dd [] rs)
 exact q p2 ns H2 (s1.free hp2) (s1.trans s2) g2 (by omega) hns
theorem tR {n:Int} {ns:List Int} (h:n∉ns):inV (.int n) (ns.map V.int)=false:=by
 induction ns with
 | nil=>rfl
 | cons b r ih=>
  have e:inV (.int n) ((b::r).map V.int)=(eqV (.int b) (.int n)||inV (.int n) (r.map V.int)):=rfl
  rw [e,ih fun m=>h (List.mem_cons_of_mem _ m),Bool.or_false]
  have hn:b≠n:=fun z=>h (by rw [z];exact List.mem_cons_self)
  simp [eqV,hn]
theorem oC (ns:List Int):(ns.map V.int).all fK=true:=by
 induction ns with
 | nil=>rfl
 | cons b r ih=>rw [List.map_cons,List.all_cons,ih];rfl
theorem gm: ∀ ns:List Int,Paired (fun (x:Int) (v:V)=>v=.int x) ns (ns.map V.int)
 | []=>.nil
 | _::r=>.cons rfl (gm r)
theorem jP {J:It} {α:Type} {as:List α} {A:α->V->Prop} {xs:List V} {fr:List Nat} {te:TE} {Z:St} {H1:Hp} {Q:VK} (hn:xs.length<=1000) (hP:Paired A as xs)
  (hgo: ∀ i H,Same H1 H->i<xs.length->J.go i H) (hst: ∀ H,Same H1 H->J.stop xs.length H) (hy: ∀ i H v H',Same H1 H->J.yld i H v H'->H'=H/\xs[i]? =some v)
  (hte: ∀ a v H (k:VK),a∈as->A a v->Same H1 H->(∀ H',Same H H'->k (.bl false) H')->te (some v::cc fr Z) H k)
  (hd: ∀ p (bs:List Bool) H',bs.any id=false->H1 p=none->Same H1 H'->H' p=some (.lst (bs.map V.bl))->Q (.ref p) H'):eL fr te Z J H1 Q:=by
 refine da hn hP hgo hst hy (fun _ _ v=>v=.bl false) (fun _ h=>h) (fun a v H k ha hA s' hk=>hte a v H k ha hA s' fun H' s2=>hk _ H' s2 rfl) fun p zs H' hp s' g hz=>?_
 have e:=dq (g:=fun _=>V.bl false) hz
 refine hd p (as.map fun _=>false) H' ?_ hp s' ?_
 ·rw [List.any_map]
  exact List.any_eq_false.mpr fun _ _=>Bool.false_ne_true
 ·rw [List.map_map,g,e]
  rfl
theorem ve {d:Addr} {o:Obj} {kvs:List (List Key×V)} {H1:Hp} (h:H1 d=some (.frz o (.dT kvs))): ∀ i H,Same H1 H->i< (kvs.map (·.2)).length->(Itj d o).go i H:=fun i H s hi=>by
 rw [List.length_map]at hi
 exact ⟨kvs,kvs[i],s _ _ h,List.getElem?_eq_getElem hi⟩
theorem vd {d:Addr} {o:Obj} {kvs:List (List Key×V)} {H1:Hp} (h:H1 d=some (.frz o (.dT kvs))): ∀ H,Same H1 H->(Itj d o).stop (kvs.map (·.2)).length H:=fun H s=>⟨kvs,s _ _ h,by rw [List.length_map]⟩
theorem wu {d:Addr} {o:Obj} {kvs:List (List Key×V)} {H1:Hp} (h:H1 d=some (.frz o (.dT kvs))): ∀ i H v H',Same H1 H->(Itj d o).yld i H v H'->H'=H/\(kvs.map (·.2))[i]? =some v:=fun i H v H' s hv=>⟨hv.1,hv.2 kvs (s _ _ h)⟩
theorem ie {α:Type} (R:α->V->Prop) (g:α->V): ∀ {l:List α},(∀ a∈l,R a (g a))->Paired R l (l.map g)
 | [],_=>.nil
 | _::r,h=>.cons (h _ List.mem_cons_self) (ie R g fun a ha=>h a (List.mem_cons_of_mem _ ha))
noncomputable abbrev NLf:List Str:=["formula","one"]
theorem scLevelF:au NLf ["formula"] (ag ir):=fsc
theorem qr (F:Fun K "is_level_formula" "is_level_formula" ir f fd) (hany:mg "any"=none)
  (GT:FnOk P w K mg base CX0 2 f2 fd2 ["formula"] iI) (bT:Binds K fd2 ["formula"] []) (kT:PySem.W.keepIn K (.ref f2)=true) (mT:mg "tuples_of"=some (.ref f2))
  (GR:FnOk P w K mg base CX0 4 f4 fd4 ["formula"] hV) (bR:Binds K fd4 ["formula"] []) (kR:PySem.W.keepIn K (.ref f4)=true) (mR:mg "parts_read"=some (.ref f4)):
  FnOk P w K mg base CX0 5 f fd ["formula"] lQ:=by
 refine F.ok scLevelF (fun vs H Q E h=>?_) (fun cdv A outer s H vs Q E hr h=>?_)
 ·obtain ⟨v,fm,rfl,_⟩:=h
  rfl
 obtain ⟨v,fm,rfl,hR,hwf,h15,hlv,q⟩:=h
 have hr2:=hr.mono (show 2<=4 by decide)
 refine ⟨_,ad (bQ PassesOwn.never rfl (cY (af GT hr2 rfl mT kT bT .nil al (aa (pv 0) ab))) (aH (i:=1) scLevelF.nd rfl (Or.inr rfl))
   (ad (aL (aF bj (av ay (pv 1) ae (fun _ _=>rfl)) aP (aE _)) aK aC)
   (aj (aL (PW.pt (eY (aF bj (av ay (pv 1) ae (fun _ _=>rfl)) aP (aE _))
    (dD (aT (ao (nz rfl) rfl hany (by decide +kernel) (aa (br (sc0:=ag ir) (N0:=NLf) (ys:=["one"]) (fr:=[1]) rfl (cY (af GR hr rfl mR kR bR .nil al (aa (av ay (pv 1) ae (fun _ _=>rfl)) ab))) rfl rfl
     cok
     (fun C s H ex=>bm (r:=rIn K false) fA (pv 0) (af GR hr rfl mR kR bR .nil al (aa (av (r:=gh K) ay (pv 1) ae (fun _ _=>rfl)) ab)) (by with_unfolding_all rfl))) ab)))))) aK aC))))
  (aj (aw dg)),?_⟩
 obtain ⟨out,hTs,hol,hgood⟩:=Ts.lvl hR hwf hlv h15 Ts.nil (fun u h=>by cases h)
 have hol:out.length=fm.size:=hol
 refine ⟨_,rfl,v,out,rfl,hTs,by omega,fun p H1 s1 g1=>?_⟩
 refine ⟨p,rfl,⟨_,SqL.of g1⟩,?_⟩
 refine gx (xs:=out) (fun i Z H'=> ∃ o1,Z=[some v,o1]/\Same H1 H') ⟨none,rfl,Same.refl _⟩ (fun i Z H' _ ⟨_,_,s'⟩=>SqL.of (s' _ _ g1)) ?_ ?_
 ·rintro i u Z H2 hu ⟨o1,rfl,s2⟩
  obtain ⟨g,hRg,hwg,hlg,hsg⟩:=hgood u (List.mem_of_getElem? hu)
  have hRg2:Rep H2 g u:=hRg.mono (ax (s1.trans s2))
  cases g with
  | num n=>
   obtain ⟨a,rfl,ha⟩:=hRg2
   refine ⟨_,rfl,a,_,0,.str "num",rfl,rfl,SqT.of ha,bV,rfl,false,(by rw [decide_eq_false (by decide +kernel)]),aX ?_⟩
   refine ⟨_,rfl,a,_,0,.str "num",rfl,rfl,SqT.of ha,bV,rfl,false,(by rw [decide_eq_false (by decide +kernel)]),aX (aX ⟨_,rfl,s2⟩)⟩
  | own x=>exact hlg.elim
  | part k x=>
   obtain ⟨a,rfl,ha⟩:=hRg2
   refine ⟨_,rfl,a,_,0,.str "part",rfl,rfl,SqT.of ha,bV,rfl,false,(by rw [decide_eq_false (by decide +kernel)]),aX ?_⟩
   refine ⟨_,rfl,a,_,0,.str "part",rfl,rfl,SqT.of ha,bV,rfl,false,(by rw [decide_eq_false (by decide +kernel)]),aX (aX ⟨_,rfl,s2⟩)⟩
  | whn A B C=>
   obtain ⟨a,u1,u2,u3,rfl,ha,_⟩:=hRg2
   refine ⟨_,rfl,a,_,0,.str "when",rfl,rfl,SqT.of ha,bV,rfl,false,(by rw [decide_eq_false (by decide +kernel)]),aX ?_⟩
   refine ⟨_,rfl,a,_,0,.str "when",rfl,rfl,SqT.of ha,bV,rfl,false,(by rw [decide_eq_false (by decide +kernel)]),aX (aX ⟨_,rfl,s2⟩)⟩
  | bin op A B=>
   obtain ⟨a,u1,u2,rfl,ha,r1,r2⟩:=hRg2
   obtain ⟨ho,w1,w2⟩:=hwg
   have hz:A.size+B.size+1<=15:=hsg
   have hno:op≠"own":=fun z=>by rw [z]at ho;exact absurd ho (by decide +kernel)
   refine ⟨_,rfl,a,_,0,.str op,rfl,rfl,SqT.of ha,bV,rfl,false,(by rw [decide_eq_false fun z=>hno (V.str.inj z)]),aX ?_⟩
   by_cases ht:op="times"
   ·subst ht
    refine ⟨_,rfl,a,_,0,.str "times",rfl,rfl,SqT.of ha,bV,rfl,true,(by rw [decide_eq_true rfl]),cX ?_⟩
    refine ⟨_,rfl,a,_,1,u1,rfl,rfl,SqT.of ha,aG (j:=1) rfl,u1,A,rfl,r1,w1,by omega,fun p3 ns H3 hp3 s3 g3 hnl hns=>?_⟩
    refine ⟨p3,rfl,⟨_,SqL.of g3⟩,?_⟩
    refine jP (by rw [List.length_map];omega) (gm ns) (fD g3) (fC g3) (gS g3) ?_ ?_
    ·rintro n v' H4 k hn rfl s4 hk
     have s24:=s3.trans s4
     refine ⟨_,rfl,_,rfl,a,_,2,u2,rfl,rfl,SqT.of (s24 _ _ ha),aG (j:=2) rfl,u2,B,rfl,r2.mono (ax s24),w2,by omega,fun p5 ms H5 hp5 s5 g5 hml hms=>?_⟩
     refine ⟨p5,_,rfl,.inl (SqL.of g5),rfl,oC _,?_⟩
     refine (show k (.bl (inV (.int n) (ms.map V.int))) H5 from ?_)
     rw [tR fun hm=>hlg.2.2 rfl n (hns n hn) (hms n hm)]
     exact hk H5 s5
    ·intro p4 bs H4 hbs hp4 s4 g4
     exact ⟨p4,bs,rfl,SqL.of g4,false,(by rw [hbs]),aX ⟨_,rfl,s2.trans (s3.trans s4)⟩⟩
   ·refine ⟨_,rfl,a,_,0,.str op,rfl,rfl,SqT.of ha,bV,rfl,false,(by rw [decide_eq_false fun z=>ht (V.str.inj z)]),aX (aX ⟨_,rfl,s2⟩)⟩
 ·rintro Z H2 ⟨o1,rfl,s2⟩
  exact q H2 (s1.trans s2)
noncomputable abbrev NLv:List Str:=["book","form"]
theorem scIsLevel:au NLv ["book"] (ag eV):=fsc
theorem ot (F:Fun K "is_level" "is_level" eV f fd) (G:Gb mg) (hany:mg "any"=none)
  (GS:FnOk P w K mg base CX0 1 f2 fd2 ["book"] dQ) (bS:Binds K fd2 ["book"] []) (kS:PySem.W.keepIn K (.ref f2)=true) (mS:mg "sorts_of"=some (.ref f2))
  (GF:FnOk P w K mg base CX0 1 f3 fd3 ["book"] dn) (bF:Binds K fd3 ["book"] []) (kF:PySem.W.keepIn K (.ref f3)=true) (mF:mg "forms_of"=some (.ref f3))
  (GB:FnOk P w K mg base CX0 2 f4 fd4 ["form"] ka) (bB:Binds K fd4 ["form"] []) (kB:PySem.W.keepIn K (.ref f4)=true) (mB:mg "formulas_by_key"=some (.ref f4))
  (GL:FnOk P w K mg base CX0 5 f5 fd5 ["formula"] lQ) (bL:Binds K fd5 ["formula"] []) (kL:PySem.W.keepIn K (.ref f5)=true) (mL:mg "is_level_formula"=some (.ref f5)):
  FnOk P w K mg base CX0 6 f fd ["book"] jC:=by
 refine F.ok scIsLevel (fun vs H Q E h=>?_) (fun cdv A outer s H vs Q E hr h=>?_)
 ·obtain ⟨bv,bk,rfl,_⟩:=h
  rfl
 obtain ⟨bv,bk,rfl,hB,hok,hw0,q⟩:=h
 obtain ⟨hdn,hlv⟩:=hok.lv hw0
 have hr1:=hr.mono (show 1<=5 by decide)
 have hr2:=hr.mono (show 2<=5 by decide)
 refine ⟨_,ad (aL (aT (ao (nz rfl) rfl hany (by decide +kernel) (aa (mi (sc0:=ag eV) (N0:=NLv) (ys:=[]) (fr:=[]) rfl (bd (af GS hr1 rfl mS kS bS .nil al (aa (pv 0) ab))) rfl rfl
    ⟨rfl,by decide +kernel,by decide +kernel,by decide +kernel,by decide +kernel,by decide +kernel,by decide +kernel,by decide +kernel,rfl,by decide +kernel⟩
    (fun C s H ex=>bm jI (ao (r:=fun xs H Q=> ∃ p ys,xs=[.ref p]/\(SqL K H p ys\/SqT K H p ys)/\Q (.int ys.length) H) ar rfl G.len PySem.boot_len (aa (pv 1) ab)) ae (aE _))) ab))) aK aC)
  (ad (bQ PassesOwn.never rfl (bd (af GF hr1 rfl mF kF bF .nil al (aa (pv 0) ab))) (aH (i:=1) scIsLevel.nd rfl (Or.inl rfl))
   (aj (aL (aY (aT (ao (ck rfl) rfl G.all (by decide +kernel) (aa (br (sc0:=ag eV) (N0:=NLv) (ys:=[]) (fr:=[]) rfl (oZ (af GB hr2 rfl mB kB bB .nil al (aa (pv 1) ab))) rfl rfl
    cok (fun C s H ex=>af GL hr rfl mL kL bL .nil al (aa (pv 0) ab))) ab)))) aK aC)))
  (aj (aw dg))),?_⟩
 have h4:=hok.s.s4
 have h10:=hok.s.few
 refine ⟨_,rfl,_,bk,rfl,hB,fun sb sx hsb hS=>?_⟩
 have lS:=hS.len
 refine ⟨sb,rfl,⟨_,SqT.of hsb⟩,?_⟩
 refine vF (jP (by omega) hS (cu hsb) (cs hsb) (cO hsb) ?_ ?_)
 ·rintro sr v H1 k hsr ⟨a,b,c,rfl,ha,hb,hc⟩ s1 hk
  have hb1:=s1 _ _ hb
  rw [hdn sr hsr]at hb1
  exact ⟨a,_,_,_,rfl,s1 _ _ ha,_,rfl,b,_,rfl,.inr (SqT.of hb1),_,_,rfl,rfl,hk H1 (Same.refl H1)⟩
 intro p bs H1 hbs hp s1 g1
 refine ⟨p,bs,rfl,SqL.of g1,false,(by rw [hbs]),aX ?_⟩
 refine ⟨_,rfl,_,bk,rfl,hB.mono (ax s1),fun fb fx hfb hF=>?_⟩
 have lF:=hF.len
 refine ⟨fb,rfl,⟨_,SqT.of hfb⟩,?_⟩
 refine dk (xs:=fx) (fun i Z H'=> ∃ o1,Z=[some bv,o1]/\Same H1 H') ⟨none,rfl,Same.refl _⟩ (fun i Z H' _ ⟨_,_,s'⟩=>SqT.of (s' _ _ hfb)) ?_ ?_
 ·rintro i x Z H2 hx ⟨o1,rfl,s2⟩
  obtain ⟨fr,hfr,hRf⟩:=aN hF hx
  have hfm:=List.mem_of_getElem? hfr
  refine ⟨_,rfl,x,fr,rfl,hRf.mono (ax s2),hok.s.rules12 hfm,fun d kvs H3 hd s3 g3 hl12 hv hall=>?_⟩
  refine ⟨d,kvs,rfl,.inl ⟨g3,fun o=>?_⟩⟩
  have gF:(upd H3 d (.frz o (.dT kvs))) d=some (.frz o (.dT kvs)):=ac
  have sF:Same H2 (upd H3 d (.frz o (.dT kvs))):=fun b u h=>by rw [am (ai h hd)];exact s3 _ _ h
  have tF:TK H3 (upd H3 d (.frz o (.dT kvs))):=fun b xs h=>by rw [am (fun z=>by rw [z,g3]at h;cases h)];exact h
  generalize upd H3 d (.frz o (.dT kvs))=HF at gF sF tF ⊢
  have hallF: ∀ kv∈kvs,∃ r∈fr.rules,Rep HF r.fm kv.2:=fun kv hkv=>by
   obtain ⟨r,hr',hR⟩:=hall kv hkv
   exact ⟨r,hr',hR.mono tF⟩
  refine cF (A:=fun (kv:List Key×V) v=>v=kv.2) (by rw [List.length_map];omega) (ie (α:=List Key×V) (fun kv v=>v=kv.2) (fun kv=>kv.2) fun _ _=>rfl) (ve gF) (vd gF) (wu gF) ?_ ?_
  ·rintro kv v' H4 k hkv rfl s4 hk
   obtain ⟨r,hr',hR⟩:=hallF kv hkv
   obtain ⟨_,_,_,_,hwz⟩:=hok.s.fo fr hfm
   exact ⟨_,rfl,kv.2,r.fm,rfl,hR.mono (ax s4),(hwz r hr').1,(hwz r hr').2,hlv fr hfm r hr',hk⟩
  ·intro p4 bs4 H4 hbs4 hp4 s4 g4
   exact ⟨p4,bs4,rfl,SqL.of g4,true,(by rw [hbs4]),aX ⟨_,rfl,s2.trans (sF.trans s4)⟩⟩
 ·rintro Z H2 ⟨o1,rfl,s2⟩
  exact q H2 (s1.trans s2)
noncomputable def lL:Sp:=fun vs H Q _=> ∃ bv bk,vs=[bv]/\RepB H bk bv/\BkV bk/\ ∀ H',Same H H'->Q .non H'
noncomputable def lO:Sp:=fun vs H Q _=> ∃ bv bk fr r,vs=[bv,.str (Frm.name fr),.int (Rul.pl r),.str r.word]/\RepB H bk bv/\BkV bk/\fr∈bk.forms/\r∈fr.rules/\ ∀ v H',Same H H'->Rep H' r.fm v->Q v H'
theorem w6:au ["thing"] ["thing"] (ag rL):=fsc
theorem wg (F:Fun K "why_no_book" "why_no_book" rL f fd) (G:Gb mg)
  (GS:FnOk P w K mg base CX0 4 f2 fd2 ["thing"] iK) (bS:Binds K fd2 ["thing"] []) (kS:PySem.W.keepIn K (.ref f2)=true) (mS:mg "has_shape"=some (.ref f2))
  (GN:FnOk P w K mg base CX0 2 f3 fd3 ["book"] iL) (bN:Binds K fd3 ["book"] []) (kN:PySem.W.keepIn K (.ref f3)=true) (mN:mg "has_names"=some (.ref f3))
  (GF:FnOk P w K mg base CX0 1 f4 fd4 ["book"] dn) (bF:Binds K fd4 ["book"] []) (kF:PySem.W.keepIn K (.ref f4)=true) (mF:mg "forms_of"=some (.ref f4))
  (GK:FnOk P w K mg base CX0 2 f5 fd5 ["form"] lT) (bK:Binds K fd5 ["form"] []) (kK:PySem.W.keepIn K (.ref f5)=true) (mK:mg "keys_of"=some (.ref f5))
  (GD:FnOk P w K mg base CX0 4 f6 fd6 ["book","form"] jD) (bD:Binds K fd6 ["book","form"] []) (kD:PySem.W.keepIn K (.ref f6)=true) (mD:mg "due_keys"=some (.ref f6))
  (GH:FnOk P w K mg base CX0 6 f7 fd7 ["book","form"] iM) (bH:Binds K fd7 ["book","form"] []) (kH:PySem.W.keepIn K (.ref f7)=true) (mH:mg "has_formulas"=some (.ref f7))
  (GW:FnOk P w K mg base CX0 1 f8 fd8 ["book"] gK) (bW:Binds K fd8 ["book"] []) (kW:PySem.W.keepIn K (.ref f8)=true) (mW:mg "wheel_of"=some (.ref f8))
  (GL:FnOk P w K mg base CX0 6 f9 fd9 ["book"] jC) (bL:Binds K fd9 ["book"] []) (kL:PySem.W.keepIn K (.ref f9)=true) (mL:mg "is_level"=some (.ref f9)):
  FnOk P w K mg base CX0 7 f fd ["thing"] lL:=by
 refine F.ok w6 (fun vs H Q E h=>?_) (fun cdv A outer s H vs Q E hr h=>?_)
 ·obtain ⟨bv,bk,rfl,_⟩:=h
  rfl
 obtain ⟨bv,bk,rfl,hB,hok,q⟩:=h
 have hu:=jg hr
 have hu2:=Nat.lt_of_le_of_lt (Nat.add_le_add_left (show 1+1<=16 by decide) _) hu
 have hr1:=hr.mono (show 1<=6 by decide)
 have hr2:=hr.mono (show 2<=6 by decide)
 have hr4:=hr.mono (show 4<=6 by decide)
 refine ⟨_,ad (aL (aY (aT (af GS hr4 rfl mS kS bS .nil al (aa (pv 0) ab)))) aK aC)
  (ad (aL (aY (aT (af GN hr2 rfl mN kN bN .nil al (aa (pv 0) ab)))) aK aC)
  (ad (aL (aY (aT (ao (ck rfl) rfl G.all (by decide +kernel) (aa (br (sc0:=ag rL) (N0:=["thing"]) (ys:=["thing"]) (fr:=[0]) rfl (bd (af GF hr1 rfl mF kF bF .nil al (aa (pv 0) ab))) rfl rfl
    cok
    (fun C s H ex=>bm (r:=xk 1) (we hu2) (af GK hr2 rfl mK kK bK .nil al (aa (pv 0) ab)) (af GD hr4 rfl mD kD bD .nil al (aa (pv 1) (aa (pv 0) ab))) (aE _))) ab)))) aK aC)
  (ad (aL (aY (aT (ao (ck rfl) rfl G.all (by decide +kernel) (aa (br (sc0:=ag rL) (N0:=["thing"]) (ys:=["thing"]) (fr:=[0]) rfl (bd (af GF hr1 rfl mF kF bF .nil al (aa (pv 0) ab))) rfl rfl
    cok
    (fun C s H ex=>af GH hr rfl mH kH bH .nil al (aa (pv 1) (aa (pv 0) ab)))) ab)))) aK aC)
  (ad (aL (PW.pt (eY (aF bj (af GW hr1 rfl mW kW bW .nil al (aa (pv 0) ab)) ae (aE _)) (dD (aY (aT (af GL hr rfl mL kL bL .nil al (aa (pv 0) ab))))))) aK aC)
  (aj (aw fP)))))),?_⟩
 have h10:=hok.s.few
 refine ⟨_,rfl,bv,bk,rfl,hB,hok,fun H1 s1=>⟨true,rfl,aX ?_⟩⟩
 refine ⟨_,rfl,bv,bk,rfl,hB.mono (ax s1),hok,fun H2 s2=>⟨true,rfl,aX ?_⟩⟩
 have S2:=s1.trans s2
 have hB2:=hB.mono (ax S2)
 refine ⟨_,rfl,_,bk,rfl,hB2,fun fb fx hfb hF=>?_⟩
 have lF:=hF.len
 refine ⟨fb,rfl,⟨_,SqT.of hfb⟩,?_⟩
 refine cF (by omega) hF (cu hfb) (cs hfb) (cO hfb) ?_ ?_
 ·rintro fr v H3 k hfr hRf s3 hk
  refine ⟨_,rfl,v,fr,rfl,hRf.mono (ax s3),hok.s.rules12 hfr,fun p4 zs H4 hp4 s4 g4 hk4=>?_⟩
  have s34:=s3.trans s4
  refine ⟨_,rfl,_,rfl,bv,bk,v,fr,rfl,hB2.mono (ax s34),hok.s,hRf.mono (ax s34),hfr,fun p5 ys H5 hp5 s5 g5 hk5=>?_⟩
  have e:(fr.rules.map fun r=>(r.pl,r.word))=ce fr.own fr.parts:=(hok.s.fo fr hfr).2.2.2.1
  rw [e]at hk4
  exact ⟨p4,p5,zs,ys,rfl,rfl,s5 _ _ g4,g5,tK (L2.KsOf.mono hk4 fun b xs h=>s5 _ _ h) hk5,hk H5 (s4.trans s5)⟩
 intro p bs H3 hbs hp s3 g3
 refine ⟨p,bs,rfl,SqL.of g3,true,(by rw [hbs]),aX ?_⟩
 have S3:=S2.trans s3
 have hB3:=hB.mono (ax S3)
 refine ⟨_,rfl,_,bk,rfl,hB3,fun fb fx hfb hF=>?_⟩
 have lF:=hF.len
 refine ⟨fb,rfl,⟨_,SqT.of hfb⟩,?_⟩
 refine cF (by omega) hF (cu hfb) (cs hfb) (cO hfb) ?_ ?_
 ·rintro fr v H4 k hfr hRf s4 hk
  exact ⟨_,rfl,_,rfl,bv,bk,v,fr,rfl,hB3.mono (ax s4),hok,hRf.mono (ax s4),hfr,hk⟩
 intro p4 bs4 H4 hbs4 hp4 s4 g4
 refine ⟨p4,bs4,rfl,SqL.of g4,true,(by rw [hbs4]),aX ?_⟩
 have S4:=S3.trans s4
 have hB4:=hB.mono (ax S4)
 refine ⟨_,rfl,_,bk,rfl,hB4,rfl,_,rfl,?_⟩
 refine bx (fun c=>?_) (fun c=>aX (q H4 S4))
 have hw0:bk.wheel=0:=V.int.inj (of_decide_eq_true c)
 exact ⟨_,rfl,bv,bk,rfl,hB4,hok,hw0,fun H5 s5=>⟨true,rfl,aX (q H5 (S4.trans s5))⟩⟩
theorem scNeed:au ["thing","fault"] ["thing"] (ag rN):=fsc
theorem uT (F:Fun K "need_book" "need_book" rN f fd)
  (GY:FnOk P w K mg base CX0 7 f2 fd2 ["thing"] lL) (bY:Binds K fd2 ["thing"] []) (kY:PySem.W.keepIn K (.ref f2)=true) (mY:mg "why_no_book"=some (.ref f2)):
  FnOk P w K mg base CX0 8 f fd ["thing"] lL:=by
 refine F.ok scNeed (fun vs H Q E h=>?_) (fun cdv A outer s H vs Q E hr h=>?_)
 ·obtain ⟨bv,bk,rfl,_⟩:=h
  rfl
 obtain ⟨bv,bk,rfl,hB,hok,q⟩:=h
 refine ⟨_,ad (aq (i:=1) scNeed.nd rfl (Or.inl rfl) (af GY hr rfl mY kY bY .nil al (aa (pv 0) ab)))
  (aj (aL (aF kQ (pv 1) fP (aE _)) aK aC)),?_⟩
 exact ⟨_,rfl,bv,bk,rfl,hB,hok,fun H1 s1=>⟨_,rfl,rfl,false,(by rw [decide_eq_true rfl];rfl),aX (q H1 s1)⟩⟩
theorem Rep.sameV {H:Hp}: ∀ {f:Fm} {v u:V} {n:Nat},Rep H f v->Rep H f u->f.wf->f.size<=n->SameV H (n+1) v u
 | .num m,_,_,n,⟨a,e1,h1⟩,⟨b,e2,h2⟩,_,hs=>by
  obtain ⟨n,rfl⟩: ∃ k,n=k+1:=⟨n-1,by have:1<=n:=hs;omega⟩
  subst e1 e2
  exact .inr (.inr ⟨true,a,b,_,_,rfl,rfl,h1,h2,(by show 2<=1000;decide),.cons (.inl ⟨"num",rfl,rfl,by decide +kernel⟩) (.cons (.inr (.inl ⟨m,rfl,rfl⟩)) .nil)⟩)
 | .own x,_,_,n,⟨a,e1,h1⟩,⟨b,e2,h2⟩,hw,hs=>by
  obtain ⟨n,rfl⟩: ∃ k,n=k+1:=⟨n-1,by have:1<=n:=hs;omega⟩
  subst e1 e2
  have hx:=ba (show be x=true from hw)
  exact .inr (.inr ⟨true,a,b,_,_,rfl,rfl,h1,h2,(by show 2<=1000;decide),.cons (.inl ⟨"own",rfl,rfl,by decide +kernel⟩) (.cons (.inl ⟨x,rfl,rfl,by omega⟩) .nil)⟩)
 | .part k x,_,_,n,⟨a,e1,h1⟩,⟨b,e2,h2⟩,hw,hs=>by
  obtain ⟨n,rfl⟩: ∃ k,n=k+1:=⟨n-1,by have:1<=n:=hs;omega⟩
  subst e1 e2
  obtain ⟨_,hw⟩:(0<=k/\k<=2)/\be x=true:=hw
  have hx:=ba hw
  exact .inr (.inr ⟨true,a,b,_,_,rfl,rfl,h1,h2,(by show 3<=1000;decide),.cons (.inl ⟨"part",rfl,rfl,by decide +kernel⟩) (.cons (.inr (.inl ⟨k,rfl,rfl⟩)) (.cons (.inl ⟨x,rfl,rfl,by omega⟩) .nil))⟩)
 | .bin op A B,_,_,n,⟨a,u1,w1,e1,h1,rA,rB⟩,⟨b,u2,w2,e2,h2,rA',rB'⟩,hw,hs=>by
  have hs:A.size+B.size+1<=n:=hs
  obtain ⟨n,rfl⟩: ∃ k,n=k+1:=⟨n-1,by omega⟩
  subst e1 e2
  obtain ⟨ho,hA,hB⟩:op∈ops/\A.wf/\B.wf:=hw
  have hx:=dY ho
  exact .inr (.inr ⟨true,a,b,_,_,rfl,rfl,h1,h2,(by show 3<=1000;decide),.cons (.inl ⟨op,rfl,rfl,by omega⟩) (.cons (Rep.sameV rA rA' hA (by omega)) (.cons (Rep.sameV rB rB' hB (by omega)) .nil))⟩)
 | .whn A B C,_,_,n,⟨a,u1,w1,z1,e1,h1,rA,rB,rC⟩,⟨b,u2,w2,z2,e2,h2,rA',rB',rC'⟩,hw,hs=>by
  have hs:A.size+B.size+C.size+1<=n:=hs
  obtain ⟨n,rfl⟩: ∃ k,n=k+1:=⟨n-1,by omega⟩
  subst e1 e2
  obtain ⟨hA,hB,hC⟩:A.wf/\B.wf/\C.wf:=hw
  exact .inr (.inr ⟨true,a,b,_,_,rfl,rfl,h1,h2,(by show 4<=1000;decide),.cons (.inl ⟨"when",rfl,rfl,by decide +kernel⟩) (.cons (Rep.sameV rA rA' hA (by omega)) (.cons (Rep.sameV rB rB' hB (by omega)) (.cons (Rep.sameV rC rC' hC (by omega)) .nil)))⟩)
theorem fk {k:Int}: ∀ {qs:List Srt} {i:Int} {x:Str},(i,x)∈bJ k qs-> ∃ (j:Nat) (q:Srt),i=k+ (j:Int)/\qs[j]? =some q/\x∈q.downs
 | [],_,_,h=>by cases h
 | q::r,i,x,h=>by
  have h:(i,x)∈q.downs.map (fun x=>(k,x))++bJ (k+1) r:=h
  rcases List.mem_append.mp h with h | h
  ·obtain ⟨y,hy,e⟩:=List.mem_map.mp h
   cases e
   exact ⟨0,q,by omega,rfl,hy⟩
  ·obtain ⟨j,q',e,h1,h2⟩:=fk (k:=k+1) h
   exact ⟨j+1,q',by omega,h1,h2⟩
theorem jz {k:Int}: ∀ {qs:List Srt},(∀ q∈qs,q.downs.Nodup)->(bJ k qs).Nodup
 | [],_=>List.nodup_nil
 | q::r,h=>by
  show (q.downs.map (fun x=>(k,x))++bJ (k+1) r).Nodup
  refine List.nodup_append.mpr ⟨?_,jz fun x hx=>h x (List.mem_cons_of_mem _ hx),?_⟩
  ·have:=h q List.mem_cons_self
   exact List.Pairwise.map _ (fun a b (hab:a≠b) e=>hab (Prod.mk.inj e).2) this
  ·intro a ha b hb e
   subst e
   obtain ⟨y,hy,e⟩:=List.mem_map.mp ha
   subst e
   obtain ⟨j,_,e,_⟩:=fk hb
   omega
theorem BkS.tnd {bk:Bk} (h:BkS bk) {fr:Frm} (m:fr∈bk.forms):(fr.rules.map fun r=>(r.pl,r.word)).Nodup:=by
 obtain ⟨h1,h2,_,h4,_⟩:=h.fo fr m
 rw [h4]
 unfold ce
 refine List.nodup_append.mpr ⟨?_,jz fun q hq=>(List.nodup_append.mp (h.ws q (h2 q hq)).2.2.1).1,?_⟩
 ·have:=(List.nodup_append.mp (h.ws _ h1).2.2.1).2.1
  exact List.Pairwise.map _ (fun a b (hab:a≠b) e=>hab (Prod.mk.inj e).2) this
 ·intro a ha b hb e
  subst e
  obtain ⟨y,hy,e⟩:=List.mem_map.mp ha
  subst e
  obtain ⟨j,_,e,_⟩:=fk hb
  omega
theorem oW: ∀ {l:List Rul},(l.map fun r=>(r.pl,r.word)).Nodup-> ∀ {a b:Rul},a∈l->b∈l->eG a=eG b->a=b
 | [],_,_,_,ha,_,_=>by cases ha
 | r::l,nd,a,b,ha,hb,e=>by
  have e1:(a.pl,a.word)=(b.pl,b.word):=by
   unfold eG at e
   have h1:=(List.cons.inj e).1
   have h2:=(List.cons.inj (List.cons.inj e).2).1
   rw [Sum.inl.inj h1,Sum.inr.inj h2]
  have nd:((r.pl,r.word)::l.map fun r=>(r.pl,r.word)).Nodup:=nd
  obtain ⟨n1,n2⟩:=List.nodup_cons.mp nd
  rcases List.mem_cons.mp ha with ha | ha
  ·rcases List.mem_cons.mp hb with hb | hb
   ·rw [ha,hb]
   ·exact absurd (List.mem_map.mpr ⟨b,hb,by rw [<- e1,ha]⟩) n1
  ·rcases List.mem_cons.mp hb with hb | hb
   ·exact absurd (List.mem_map.mpr ⟨a,ha,by rw [e1,hb]⟩) n1
   ·exact oW n2 ha hb e
noncomputable def lV:Sp:=fun vs H Q _=> ∃ v fr,vs=[v]/\RepF H fr v/\fr.rules.length<=12/\(fr.rules.map fun r=>(r.pl,r.word)).Nodup/\ ∀ d kvs H',H d=none->Same H H'->H' d=some (.dT kvs)->(∀ r∈fr.rules,∃ x,cz kvs (eG r)=some x/\Rep H' r.fm x)->Q (.ref d) H'
noncomputable def eP:Sp:=fun vs H Q _=> ∃ bv bk,vs=[bv]/\RepB H bk bv/\BkV bk/\ ∀ H',Same H H'->Q (.bl true) H'
theorem qv (F:Fun K "formulas_by_key" "formulas_by_key" ky f fd)
  (GR:FnOk P w K mg base CX0 1 f2 fd2 ["form"] dR) (bR:Binds K fd2 ["form"] []) (kR:PySem.W.keepIn K (.ref f2)=true) (mR:mg "rules_of"=some (.ref f2)):FnOk P w K mg base CX0 2 f fd ["form"] lV:=by
 refine F.ok scByKey (fun vs H Q E h=>?_) (fun cdv A outer s H vs Q E hr h=>?_)
 ·obtain ⟨v,fr,rfl,_⟩:=h
  rfl
 obtain ⟨v,fr,rfl,hF,h12,hnd,q⟩:=h
 have hu:=jg hr
 refine ⟨_,ad (aq (i:=1) scByKey.nd rfl (Or.inl rfl) iW)
  (ad (bQ PassesOwn.never rfl (bd (af GR hr rfl mR kR bR .nil al (aa (pv 0) ab)))
    (eC rfl (aU (aH (i:=2) scByKey.nd rfl (Or.inl rfl)) (aU (aH (i:=3) scByKey.nd rfl (Or.inl rfl)) (aU (aH (i:=4) scByKey.nd rfl (Or.inl rfl)) dj))))
   (aj (gi hu (pv 1) (aJ (aa (pv 2) (aa (pv 3) ab))) (pv 4) rfl)))
  (aj (aw (pv 1)))),?_⟩
 refine fun d hd=>?_
 have s0:=ah hd (.dT [])
 have g0:(upd H d (.dT [])) d=some (.dT []):=ac
 generalize upd H d (.dT [])=H0 at s0 g0 ⊢
 refine ⟨_,rfl,v,fr,rfl,hF.mono (ax s0),fun ra rv hra hR=>?_⟩
 refine ⟨ra,rfl,⟨rv,SqT.of hra⟩,?_⟩
 have lR:=hR.len
 have hra':=hra
 refine dk (xs:=rv) (fun i Z H'=>i<=rv.length/\ ∃ o2 o3 o4 kvs,Z=[some v,some (.ref d),o2,o3,o4]/\Same H H'/\H' ra=some (.tup rv)/\RepRs H' fr.rules rv/\H' d=some (.dT kvs)/\kvs.length<=i/\(∀ r∈fr.rules.take i,∃ x,cz kvs (eG r)=some x/\Rep H' r.fm x)/\ ∀ kv∈kvs,∃ r∈fr.rules,Rep H' r.fm kv.2)
  ⟨Nat.zero_le _,none,none,none,[],rfl,s0,hra,hR,g0,Nat.le_refl _,fun r h=>(by cases h),fun kv h=>(by cases h)⟩ (fun i Z H' _ h=>by obtain ⟨_,_,_,_,_,_,_,g,_⟩:=h;exact SqT.of g) ?_ ?_
 ·rintro i x Z H1 hx ⟨_,o2,o3,o4,kvs,rfl,S1,gra,hR1,gd,hl,hv,hall⟩
  have hil:i<rv.length:=(List.getElem?_eq_some_iff.mp hx).1
  obtain ⟨r,hr',a,u,rfl,ha,hu'⟩:=aN hR1 hx
  refine ⟨a,_,rfl,SqT.of ha,rfl,_,_,rfl,_,_,rfl,_,_,rfl,rfl,?_⟩
  refine ⟨_,rfl,_,rfl,_,rfl,_,rfl,(by show 2<=sizeLine;decide),fun t ht=>?_⟩
  have s2:=ah ht (.tup [.int r.pl,.str r.word])
  have g2:(upd H1 t (.tup [.int r.pl,.str r.word])) t=some (.tup ((eG r).map kV)):=ac
  generalize upd H1 t (.tup [.int r.pl,.str r.word])=H2 at s2 g2 ⊢
  refine ⟨d,_,rfl,DPut.t (s2 _ _ gd) g2 (aA (by omega)),?_⟩
  have tk:TK H1 (upd H2 d (.dT (cW kvs (eG r) u))):=fun b xs e=>by
   rw [am (fun z=>by rw [z,gd]at e;cases e)]
   exact s2 _ _ e
  refine ⟨hil,_,_,_,_,rfl,?_,tk _ _ gra,hR1.mono tk,ac,?_,?_,?_⟩
  ·intro y o h
   rw [am (ai h hd)]
   exact s2 _ _ (S1 _ _ h)
  ·have:=cx kvs (eG r) u
   omega
  ·intro r' hm
   have hm2:=List.mem_of_mem_take hm
   rw [gc]
   by_cases c:eG r'=eG r
   ·rw [if_pos c]
    have e:=oW hnd hm2 (List.mem_of_getElem? hr') c
    subst e
    exact ⟨_,rfl,hu'.mono tk⟩
   ·rw [if_neg c]
    rw [List.take_add_one,hr']at hm
    rcases List.mem_append.mp hm with h | h
    ·obtain ⟨x,h1,h2⟩:=hv r' h
     exact ⟨x,h1,h2.mono tk⟩
    ·have:r'=r:=by simpa using h
     exact absurd (by rw [this]) c
  ·intro kv hkv
   rcases oY hkv with h | h
   ·obtain ⟨r0,h1,h2⟩:=hall kv h
    exact ⟨r0,h1,h2.mono tk⟩
   ·exact ⟨r,List.mem_of_getElem? hr',by rw [h];exact hu'.mono tk⟩
 ·rintro Z H1 ⟨_,o2,o3,o4,kvs,rfl,S1,gra,hR1,gd,hl,hv,hall⟩
  rw [<- lR,List.take_length]at hv
  exact ⟨_,rfl,q d kvs H1 hd S1 gd hv⟩
theorem rH:au ["book","form","at","word"] ["book","form","at","word"] (ag kq):=fsc
theorem qj (F:Fun K "rule_at" "rule_at" kq f fd)
  (GM:FnOk P w K mg base CX0 2 f2 fd2 ["book","name"] ia) (bM:Binds K fd2 ["book","name"] []) (kM:PySem.W.keepIn K (.ref f2)=true) (mM:mg "form_named"=some (.ref f2))
  (GB:FnOk P w K mg base CX0 2 f3 fd3 ["form"] lV) (bB:Binds K fd3 ["form"] []) (kB:PySem.W.keepIn K (.ref f3)=true) (mB:mg "formulas_by_key"=some (.ref f3)):
  FnOk P w K mg base CX0 3 f fd ["book","form","at","word"] lO:=by
 refine F.ok rH (fun vs H Q E h=>?_) (fun cdv A outer s H vs Q E hr h=>?_)
 ·obtain ⟨bv,bk,fr,r,rfl,_⟩:=h
  rfl
 obtain ⟨bv,bk,fr,r,rfl,hB,hok,hfr,hrr,q⟩:=h
 have hu:=jg hr
 refine ⟨_,aj (aw (gk hu (af GB hr rfl mB kB bB .nil al (aa (af GM hr rfl mM kM bM .nil al (aa (pv 0) (aa (pv 1) ab))) ab)) (aJ (aa (pv 2) (aa (pv 3) ab))) (fun _ _=>rfl))),?_⟩
 refine ⟨_,rfl,_,rfl,bv,bk,_,fr,rfl,hB,hok.s,hfr,rfl,fun v H1 s1 hRf=>?_⟩
 refine ⟨v,fr,rfl,hRf,hok.s.rules12 hfr,hok.s.tnd hfr,fun d kvs H2 hd s2 g2 hv=>?_⟩
 obtain ⟨x,hx,hR⟩:=hv r hrr
 refine ⟨_,rfl,_,rfl,(by show 2<=sizeLine;decide),fun t ht=>?_⟩
 have s3:=ah ht (.tup [.int r.pl,.str r.word])
 refine ⟨d,x,rfl,?_,q x _ (s1.trans (s2.trans s3)) (hR.mono (ax s3))⟩
 rw [<- hx]
 exact DGet.t (k:=eG r) (s3 _ _ g2) ac
noncomputable abbrev NRb:List Str:=["book","form","at","word","formula"]
theorem scRightB:au NRb ["book"] (ag kr):=fsc
theorem qk (F:Fun K "_law_right" "_law_right" kr f fd)
  (GY:FnOk P w K mg base CX0 7 f2 fd2 ["thing"] lL) (bY:Binds K fd2 ["thing"] []) (kY:PySem.W.keepIn K (.ref f2)=true) (mY:mg "why_no_book"=some (.ref f2))
  (GN:FnOk P w K mg base CX0 8 f3 fd3 ["thing"] lL) (bN:Binds K fd3 ["thing"] []) (kN:PySem.W.keepIn K (.ref f3)=true) (mN:mg "need_book"=some (.ref f3))
  (GA:FnOk P w K mg base CX0 3 f4 fd4 ["book","form","at","word"] lO) (bA:Binds K fd4 ["book","form","at","word"] []) (kA:PySem.W.keepIn K (.ref f4)=true) (mA:mg "rule_at"=some (.ref f4))
  (GS:FnOk P w K mg base CX0 18 f5 fd5 ["found","due"] (gM 16)) (bS:Binds K fd5 ["found","due"] []) (kS:PySem.W.keepIn K (.ref f5)=true) (mS:mg "_law_same"=some (.ref f5)):
  FnOk P w K mg base CX0 19 f fd ["book"] eP:=by
 refine F.ok scRightB (fun vs H Q E h=>?_) (fun cdv A outer s H vs Q E hr h=>?_)
 ·obtain ⟨bv,bk,rfl,_⟩:=h
  rfl
 obtain ⟨bv,bk,rfl,hB,hok,q⟩:=h
 have hr3:=hr.mono (show 3<=18 by decide)
 have hr7:=hr.mono (show 7<=18 by decide)
 have hr8:=hr.mono (show 8<=18 by decide)
 refine ⟨_,ad (aL (PW.pt (c6 (aF kQ (af GY hr7 rfl mY kY bY .nil al (aa (pv 0) ab)) fP (aE _)) (cD (aF kQ (af GN hr8 rfl mN kN bN .nil al (aa (pv 0) ab)) fP (aE _))))) aK aC)
  (ad (bQ PassesOwn.never rfl (bd (av ay (pv 0) ae (fun _ _=>rfl))) (aH (i:=1) scRightB.nd rfl (Or.inl rfl))
   (aj (bQ PassesOwn.never rfl (bd (av ay (pv 1) ae (fun _ _=>rfl)))
    (eC rfl (aU (aH (i:=2) scRightB.nd rfl (Or.inl rfl)) (aU (aH (i:=3) scRightB.nd rfl (Or.inl rfl)) (aU (aH (i:=4) scRightB.nd rfl (Or.inl rfl)) dj))))
    (aj (aL (aY (aT (af GS hr rfl mS kS bS .nil al (aa (af GA hr3 rfl mA kA bA .nil al (aa (pv 0) (aa (av ay (pv 1) ae (fun _ _=>rfl)) (aa (pv 2) (aa (pv 3) ab))))) (aa (pv 4) ab))))) aK aC)))))
  (aj (aw dg))),?_⟩
 refine ⟨_,rfl,bv,bk,rfl,hB,hok,fun H1 s1=>⟨rfl,false,(by rw [decide_eq_true rfl];rfl),aX ?_⟩⟩
 refine ⟨_,rfl,bv,bk,rfl,hB.mono (ax s1),hok,fun H2 s2=>⟨rfl,false,(by rw [decide_eq_true rfl];rfl),aX ?_⟩⟩
 have S2:=s1.trans s2
 have hB2:=hB.mono (ax S2)
 obtain ⟨a,sa,fa,fv,rfl,ha,_,hfa,hF⟩:=id hB2
 refine ⟨_,rfl,a,_,2,.ref fa,rfl,rfl,SqT.of ha,aG (j:=2) rfl,fa,rfl,⟨fv,SqT.of hfa⟩,?_⟩
 refine dk (xs:=fv) (fun i Z H'=> ∃ o1 o2 o3 o4,Z=[some (.ref a),o1,o2,o3,o4]/\Same H2 H') ⟨none,none,none,none,rfl,Same.refl _⟩ (fun i Z H' _ ⟨_,_,_,_,_,s'⟩=>SqT.of (s' _ _ hfa)) ?_ ?_
 ·rintro i x Z H3 hx ⟨o1,o2,o3,o4,rfl,s3⟩
  obtain ⟨fr,hfr,b,pa,ra,rv,rfl,hb,hpa,hra,hRr⟩:=aN hF hx
  have hfm:=List.mem_of_getElem? hfr
  refine ⟨_,rfl,b,_,3,.ref ra,rfl,rfl,SqT.of (s3 _ _ hb),aG (j:=3) rfl,ra,rfl,⟨rv,SqT.of (s3 _ _ hra)⟩,?_⟩
  refine dk (xs:=rv) (fun j Z H'=> ∃ o2 o3 o4,Z=[some (.ref a),some (.ref b),o2,o3,o4]/\Same H2 H') ⟨o2,o3,o4,rfl,s3⟩ (fun j Z H' _ ⟨_,_,_,_,s'⟩=>SqT.of (s' _ _ hra)) ?_ ?_
  ·rintro j y Z H4 hy ⟨o2,o3,o4,rfl,s4⟩
   obtain ⟨r,hr',c,u,rfl,hc,hu⟩:=aN hRr hy
   have hrm:=List.mem_of_getElem? hr'
   obtain ⟨hwf,h15⟩:=(hok.s.fo fr hfm).2.2.2.2 r hrm
   refine ⟨c,_,rfl,SqT.of (s4 _ _ hc),rfl,_,_,rfl,_,_,rfl,_,_,rfl,rfl,?_⟩
   refine ⟨_,rfl,_,rfl,b,_,0,.str fr.name,rfl,rfl,SqT.of (s4 _ _ hb),bV,_,rfl,_,rfl,.ref a,bk,fr,r,rfl,hB2.mono (ax s4),hok,hfm,hrm,fun v H5 s5 hR5=>?_⟩
   have s45:=s4.trans s5
   exact ⟨_,rfl,v,u,rfl,Rep.sameV hR5 (hu.mono (ax s45)) hwf h15,fun H6 s6=>⟨true,rfl,aX ⟨_,_,_,rfl,s45.trans s6⟩⟩⟩
  ·rintro Z H4 ⟨o2,o3,o4,rfl,s4⟩
   exact ⟨_,_,_,_,rfl,s4⟩
 ·rintro Z H3 ⟨o1,o2,o3,o4,rfl,s3⟩
  exact q H3 (S2.trans s3)
noncomputable def LvP (ρ:Fm->Prop) (H:Hp) (rs:List V):Prop:= ∀ v∈rs,∃ k x,Rep H (.part k x) v/\(Fm.part k x).wfp ρ
theorem LvP.mono {ρ:Fm->Prop} {H H':Hp} (t:TK H H') {rs:List V} (h:LvP ρ H rs):LvP ρ H' rs:=fun v hv=>by
 obtain ⟨k,x,r,w⟩:=h v hv
 exact ⟨k,x,r.mono t,w⟩
theorem LvP.leafs {ρ:Fm->Prop} {H:Hp} {rs:List V} (h:LvP ρ H rs):LvsP ρ H rs:=fun v hv=>by
 obtain ⟨k,x,r,w⟩:=h v hv
 exact ⟨_,r,w,rfl⟩
theorem ef {ρ:Fm->Prop} {S:Int->Prop} (hS: ∀ k x,ρ (.part k x)->S k): ∀ {f:Fm},f.wfp ρ-> ∀ k∈f.prt,S k
 | .num _,_,k,h=>by cases h
 | .own _,_,k,h=>by cases h
 | .part j x,w,k,h=>by rw [List.mem_singleton.mp h];exact hS j x w.2
 | .bin _ a b,w,k,h=>by
  rcases List.mem_append.mp h with h | h
  ·exact ef hS w.2.1 k h
  ·exact ef hS w.2.2 k h
 | .whn a b c,w,k,h=>by
  rcases List.mem_append.mp h with h | h
  ·exact ef hS w.1 k h
  ·rcases List.mem_append.mp h with h | h
   ·exact ef hS w.2.1 k h
   ·exact ef hS w.2.2 k h
theorem dh {ρ τ:Fm->Prop} (hS: ∀ f,ρ f->τ f): ∀ {f:Fm},f.wfp ρ->f.wfp τ
 | .num _,h=>h
 | .own _,h=>⟨h.1,hS _ h.2⟩
 | .part _ _,h=>⟨h.1,hS _ h.2⟩
 | .bin _ _ _,h=>⟨h.1,dh hS h.2.1,dh hS h.2.2⟩
 | .whn _ _ _,h=>⟨dh hS h.1,dh hS h.2.1,dh hS h.2.2⟩
theorem ng {ρ:Fm->Prop} (hno: ∀ x,¬ ρ (.own x)) {f:Fm} (w:f.wfp ρ) (h:f.size=1):f.lvl:=by
 cases f with
 | num _=>trivial
 | own x=>exact (hno x w.2).elim
 | part _ _=>trivial
 | bin _ a b=>have:=a.size_pos;have:a.size+b.size+1=1:=h;omega
 | whn a b c=>have:=a.size_pos;have:a.size+b.size+c.size+1=1:=h;omega
noncomputable def wZ (n:Nat) (ρ:Fm->Prop):Sp:=fun vs H Q _=> ∃ (tp rl sg:Addr) (rs:List V) (room:Int) (ss:List Str),vs=[.ref tp,.ref rl,.int room,.ref sg]/\Tp H tp/\rl≠tp/\sg≠tp/\H rl=some (.lst rs)/\rs.length<=1000/\LvP ρ H rs/\
 H sg=some (.lst (ss.map V.str))/\1<=ss.length/\ss.length<=1000/\(∀ x∈ss,x∈ops)/\1<=room/\room<=(n:Int)/\room<=1000/\ ∀ v f H',Rep H' f v->f.wfp ρ->f.lvl->(f.size:Int)<=2*room-1->Kp tp H H'->Tp H' tp->Q v H'
theorem gR (tp:Addr) (H:Hp) (o:HO):Kp tp H (upd H tp o):=fun b u h hb=>by rw [am hb];exact h
theorem jc {tp:Addr} {H H':Hp} (s:Same H H'):Kp tp H H':=fun b u h _=>s _ _ h
theorem vC {ρ:Fm->Prop} {H:Hp}: ∀ {rs:List V},LvP ρ H rs-> ∃ ks:List Int,Paired (fun (k:Int) v=> ∃ x,Rep H (.part k x) v/\(Fm.part k x).wfp ρ) ks rs
 | [],_=>⟨[],.nil⟩
 | v::r,h=>by
  obtain ⟨ks,hk⟩:=vC (rs:=r) fun u hu=>h u (List.mem_cons_of_mem _ hu)
  obtain ⟨k,x,hR,hw⟩:=h v List.mem_cons_self
  exact ⟨k::ks,.cons ⟨x,hR,hw⟩ hk⟩
theorem tJ {ρ:Fm->Prop} {S:Int->Prop} {H:Hp}: ∀ {ks:List Int} {zs:List V},Paired (fun (k:Int) v=> ∃ x,Rep H (.part k x) v/\(Fm.part k x).wfp ρ) ks zs->(∀ k∈ks,S k)->LvP (fun g=>ρ g/\ ∀ k x,g=.part k x->S k) H zs
 | _,_,.nil,_,v,hv=>by cases hv
 | _,_,.cons ⟨x,hR,hw⟩ t,hS,v,hv=>by
  rcases List.mem_cons.mp hv with e | e
  ·subst e
   exact ⟨_,x,hR,hw.1,hw.2,fun k y z=>by cases z;exact hS _ List.mem_cons_self⟩
  ·exact tJ t (fun k hk=>hS k (List.mem_cons_of_mem _ hk)) v e
theorem FnOk.exA {P:Program} {w:World} {K:PySem.W.Frag} {mg:Str->Option Value} {base:Heap} {CX:CXT} {k:Nat} {f:Addr} {fd:FuncData} {ps:List Str} {α:Type} {sp:α->Sp} (h: ∀ a,FnOk P w K mg base CX k f fd ps (sp a)):FnOk P w K mg base CX k f fd ps (fun vs H Q E=> ∃ a,sp a vs H Q E):=
 ⟨fun vs H Q E ⟨a,z⟩=>(h a).len vs H Q E z,fun A o s H args us vs Q E r e b v ⟨a,z⟩=>(h a).run A o s H args us vs Q E r e b v z⟩
noncomputable def hX (n:Nat):Sp:=fun vs H Q E=> ∃ ρ:Fm->Prop,(∀ x,¬ ρ (.own x))/\wZ n ρ vs H Q E
noncomputable def oS:Sp:=fun vs H Q E=> ∃ ρ:Fm->Prop,jZ ρ vs H Q E
noncomputable abbrev wK:List Str:=["tape","readings","room","signs","left","sign","one","cut","some","others","other"]
theorem scLvF:au wK ["tape","readings","room","signs"] (ag cU):=fsc
theorem uU {n:Nat} (F:Fun K "_law_level_formula" "_law_level_formula" cU f fd) (G:Gb mg)
  (GD:FnOk P w K mg base CX0 1 f2 fd2 ["tape","many"] ca) (bD:Binds K fd2 ["tape","many"] []) (kD:PySem.W.keepIn K (.ref f2)=true) (mD:mg "_law_digit"=some (.ref f2))
  (GL:FnOk P w K mg base CX0 3 f3 fd3 ["tape","readings"] oS) (bL:Binds K fd3 ["tape","readings"] []) (kL:PySem.W.keepIn K (.ref f3)=true) (mL:mg "_law_leaf"=some (.ref f3))
  (GS:FnOk P w K mg base CX0 (n+3) f fd ["tape","readings","room","signs"] (hX n)) (bS:Binds K fd ["tape","readings","room","signs"] []) (mS:mg "_law_level_formula"=some (.ref f)):
  FnOk P w K mg base CX0 (n+4) f fd ["tape","readings","room","signs"] (hX (n+1)):=by
 refine F.ok scLvF (fun vs H Q E h=>?_) (fun cdv A outer s H vs Q E hr h=>?_)
 ·obtain ⟨ρ,_,tp,rl,sg,rs,room,ss,rfl,_⟩:=h
  rfl
 obtain ⟨ρ,hno,tp,rl,sg,rs,room,ss,rfl,ht,n1,n2,hrl,hrs,hlv,hsg,hs1,hs2,hso,h1,h2,h3,q⟩:=h
 have hr1:=hr.mono (show 1<=n+3 by omega)
 have hr3:=hr.mono (show 3<=n+3 by omega)
 refine ⟨_,ad (aL (PW.pt (c6 (aF fI (pv 2) ae (aE _)) (cD (aF bj (af GD hr1 rfl mD kD bD .nil al (aa (pv 0) (aa ae ab))) ae (aE _)))))
   (aj (aw (af GL hr3 rfl mL kL bL .nil al (aa (pv 0) (aa (pv 1) ab))))) aC)
  (ad (aq (i:=4) scLvF.nd rfl (Or.inl rfl) (aB aW ae (af GD hr1 rfl mD kD bD .nil al (aa (pv 0) (aa (aB dL (pv 2) ae) ab)))))
  (ad (aq (i:=5) scLvF.nd rfl (Or.inl rfl) (av aM (pv 3) (af GD hr1 rfl mD kD bD .nil al (aa (pv 0) (aa (ao ar rfl G.len PySem.boot_len (aa (pv 3) ab)) ab))) (fun _ _=>rfl)))
  (ad (aL (aF mj (pv 5) aP (aE _))
   (ad (aq (i:=6) scLvF.nd rfl (Or.inl rfl) (af GS hr rfl mS F.kp bS .nil al (aa (pv 0) (aa (pv 1) (aa (pv 4) (aa (pv 3) ab))))))
   (aj (aw (aJ (aa (pv 5) (aa (pv 6) (aa (af GS hr rfl mS F.kp bS .nil al (aa (pv 0) (aa (pv 1) (aa (aB dL (pv 2) (pv 4)) (aa (pv 3) ab))))) ab))))))) aC)
  (ad (aq (i:=7) scLvF.nd rfl (Or.inr rfl) (af GD hr1 rfl mD kD bD .nil al (aa (pv 0) (aa ae ab))))
  (ad (me (i:=8) (sc0:=ag cU) (N0:=wK) (ys:=["cut"]) (fr:=[7]) rfl scLvF.nd rfl (Or.inl rfl) (cY (pv 1)) rfl rfl
    cok
    (fun C s H ex=>aF bj (av (r:=gh K) ay (pv 0) ae (fun _ _=>rfl)) (pv 1) (aE _)) (fun C s H ex=>pv 0))
  (ad (me (i:=9) (sc0:=ag cU) (N0:=wK) (ys:=["cut"]) (fr:=[7]) rfl scLvF.nd rfl (Or.inl rfl) (cY (pv 1)) rfl rfl
    cok
    (fun C s H ex=>aF mj (av (r:=gh K) ay (pv 0) ae (fun _ _=>rfl)) (pv 1) (aE _)) (fun C s H ex=>pv 0))
  (ad (aq (i:=6) scLvF.nd rfl (Or.inl rfl) (af GS hr rfl mS F.kp bS .nil al (aa (pv 0) (aa (pv 8) (aa (pv 4) (aa (pv 3) ab))))))
  (ad (aq (i:=10) scLvF.nd rfl (Or.inl rfl) (af GS hr rfl mS F.kp bS .nil al (aa (pv 0) (aa (pv 9) (aa (aB dL (pv 2) (pv 4)) (aa (pv 3) ab))))))
  (aj (aw (av aM (bf (aa (aJ (aa aP (aa (pv 6) (aa (pv 10) ab)))) (aa (aJ (aa aP (aa (pv 10) (aa (pv 6) ab)))) ab))) (af GD hr1 rfl mD kD bD .nil al (aa (pv 0) (aa ae ab))) (fun _ _=>rfl)))))))))))),?_⟩
 have hsl:(ss.map V.str).length=ss.length:=List.length_map _
 refine ⟨_,rfl,room,2,rfl,rfl,_,rfl,?_⟩
 refine bx (fun c=>cX ?_) (fun c=>?_)
 ·exact ⟨_,rfl,_,rfl,ρ,tp,rl,rs,rfl,ht,n1,hrl,hrs,hlv.leafs,fun v g H2 hR hw hz k2 t2=>q v g H2 hR hw (ng hno hw hz) (by rw [hz];omega) k2 t2⟩
 have hroom:2<=room:=by
  have: ¬ room<2:=fun z=>c (decide_eq_true z)
  omega
 refine ⟨_,rfl,tp,5,rfl,ht,by decide,by decide,fun d t d0 d1=>?_⟩
 have k1:Kp tp H (upd H tp (.lst [.int t])):=gR _ _ _
 have t1:Tp (upd H tp (.lst [.int t])) tp:=⟨t,ac⟩
 generalize upd H tp (.lst [.int t])=H1 at k1 t1 ⊢
 refine ⟨rfl,_,rfl,?_⟩
 refine bx (fun c1=>?_) (fun c1=>?_)
 ·exact ⟨_,rfl,_,rfl,ρ,tp,rl,rs,rfl,t1,n1,k1 _ _ hrl n1,hrs,(hlv.mono (k1.tk ht)).leafs,fun v g H2 hR hw hz k2 t2=>q v g H2 hR hw (ng hno hw hz) (by rw [hz];omega) (k1.trans k2) t2⟩
 refine ⟨_,rfl,_,rfl,room,1,rfl,rfl,tp,room-1,rfl,t1,by omega,by omega,fun d2 u2 e0 e1=>?_⟩
 have k2:=k1.trans (gR tp H1 (.lst [.int u2]))
 have t2:Tp (upd H1 tp (.lst [.int u2])) tp:=⟨u2,ac⟩
 generalize upd H1 tp (.lst [.int u2])=H2 at k2 t2 ⊢
 refine ⟨1,d2,rfl,rfl,?_⟩
 refine ⟨_,rfl,_,rfl,_,rfl,sg,_,rfl,.inl (SqL.of (k2 _ _ hsg n2)),tp,_,rfl,t2,by omega,by omega,fun d3 u3 g0 g1=>?_⟩
 have k3:=k2.trans (gR tp H2 (.lst [.int u3]))
 have t3:Tp (upd H2 tp (.lst [.int u3])) tp:=⟨u3,ac⟩
 generalize upd H2 tp (.lst [.int u3])=H3 at k3 t3 ⊢
 obtain ⟨sv,eat,eix⟩:=fj g0 g1
 rw [List.getElem?_map]at eix
 obtain ⟨sn,hsn,rfl⟩:=Option.map_eq_some_iff.mp eix
 have hop:=hso sn (List.mem_of_getElem? hsn)
 refine ⟨sg,_,_,_,rfl,rfl,SqL.of (k3 _ _ hsg n2),eat,?_⟩
 refine ⟨_,rfl,rfl,_,rfl,?_⟩
 have tp3:=k3.tk ht
 by_cases hne:sn="times"
 ·subst hne
  rw [show (!decide (V.str "times"=V.str "times"))=false by rw [decide_eq_true rfl];rfl]
  refine aX ?_
  refine ⟨_,rfl,tp,3,rfl,t3,by decide,by decide,fun d4 u4 _ _=>?_⟩
  have k4:=k3.trans (gR tp H3 (.lst [.int u4]))
  have t4:Tp (upd H3 tp (.lst [.int u4])) tp:=⟨u4,ac⟩
  generalize upd H3 tp (.lst [.int u4])=H4 at k4 t4 ⊢
  have hrl4:=k4 _ _ hrl n1
  obtain ⟨ks,hks⟩:=vC (hlv.mono (k4.tk ht))
  refine ⟨_,rfl,rl,rfl,⟨_,SqL.of hrl4⟩,?_⟩
  refine lC hrs hks (fD hrl4) (fC hrl4) (gS hrl4) (fun k=>decide (V.int k=V.int d4)) (fun H k v=> ∃ x,Rep H (.part k x) v/\(Fm.part k x).wfp ρ) (fun t ⟨x,hR,hw⟩=>⟨x,hR.mono t,hw⟩) ?_ ?_ ?_
  ·rintro k v Ha kk _ ⟨x,⟨b,rfl,hb⟩,_⟩ sa hk
   exact ⟨_,rfl,b,_,1,.int k,rfl,rfl,SqT.of (sa _ _ hb),aG (j:=1) rfl,_,rfl,rfl,_,rfl,hk Ha (Same.refl Ha)⟩
  ·rintro k v Ha kk _ ⟨x,hR,hw⟩ _ sa hk
   exact ⟨_,rfl,hk _ Ha (Same.refl Ha) ⟨x,hR.mono (ax sa),hw⟩⟩
  intro p5 zs H5 hp5 s5 gz hz
  have k5:=k4.trans (jc (tp:=tp) s5)
  have hrl5:=s5 _ _ hrl4
  refine ⟨_,rfl,rl,rfl,⟨_,SqL.of hrl5⟩,?_⟩
  refine lC hrs (Paired.mapP hks fun k v ⟨x,hR,hw⟩=>(⟨x,hR.mono (ax s5),hw⟩: ∃ x,Rep H5 (.part k x) v/\(Fm.part k x).wfp ρ)) (fD hrl5) (fC hrl5) (gS hrl5) (fun k=> !decide (V.int k=V.int d4)) (fun H k v=> ∃ x,Rep H (.part k x) v/\(Fm.part k x).wfp ρ) (fun t ⟨x,hR,hw⟩=>⟨x,hR.mono t,hw⟩) ?_ ?_ ?_
  ·rintro k v Ha kk _ ⟨x,⟨b,rfl,hb⟩,_⟩ sa hk
   exact ⟨_,rfl,b,_,1,.int k,rfl,rfl,SqT.of (sa _ _ hb),aG (j:=1) rfl,_,rfl,rfl,_,rfl,hk Ha (Same.refl Ha)⟩
  ·rintro k v Ha kk _ ⟨x,hR,hw⟩ _ sa hk
   exact ⟨_,rfl,hk _ Ha (Same.refl Ha) ⟨x,hR.mono (ax sa),hw⟩⟩
  intro p6 ys H6 hp6 s6 gy hy
  have k6:=k5.trans (jc (tp:=tp) s6)
  have ntp: ∀ {H':Hp} {b:Addr},Tp H' tp->H' b=none->b≠tp:=fun ⟨u,hu⟩ hb z=>by rw [z,hu]at hb;cases hb
  have t5:Tp H5 tp:=by obtain ⟨u,hu⟩:=t4;exact ⟨u,s5 _ _ hu⟩
  have t6:Tp H6 tp:=by obtain ⟨u,hu⟩:=t5;exact ⟨u,s6 _ _ hu⟩
  have n5:=ntp t4 hp5
  have n6:=ntp t5 hp6
  have lk:=Paired.length hks
  have lz:=Paired.length hz
  have ly:=Paired.length hy
  have lf1:=List.length_filter_le (fun k=>decide (V.int k=V.int d4)) ks
  have lf2:=List.length_filter_le (fun k=> !decide (V.int k=V.int d4)) ks
  have L1:LvP (fun g=>ρ g/\ ∀ k x,g=.part k x->k=d4) H6 zs:=(tJ (S:=fun k=>k=d4) hz fun k hk=>V.int.inj (of_decide_eq_true (List.mem_filter.mp hk).2)).mono (ax s6)
  have L2:LvP (fun g=>ρ g/\ ∀ k x,g=.part k x->k≠d4) H6 ys:=tJ (S:=fun k=>k≠d4) hy fun k hk z=>by
   have:=(List.mem_filter.mp hk).2
   rw [z,decide_eq_true rfl]at this
   cases this
  refine ⟨_,rfl,_,rfl,_,rfl,_,rfl,_,fun x h=>hno x h.1,tp,p5,sg,zs,1+d2,ss,rfl,t6,n5,n2,s6 _ _ gz,by omega,L1,k6 _ _ hsg n2,hs1,hs2,hso,by omega,by omega,by omega,fun v1 f1 H7 hR1 hw1 hl1 hz1 k7 t7=>?_⟩
  have k07:=k6.trans k7
  refine ⟨_,rfl,_,rfl,_,rfl,_,rfl,room,1+d2,rfl,rfl,_,rfl,_,fun x h=>hno x h.1,tp,p6,sg,ys,room- (1+d2),ss,rfl,t7,n6,n2,k7 _ _ gy n6,by omega,L2.mono (k7.tk t6),k07 _ _ hsg n2,hs1,hs2,hso,by omega,by omega,by omega,fun v2 f2 H8 hR2 hw2 hl2 hz2 k8 t8=>?_⟩
  have hR1':=hR1.mono (k8.tk t7)
  refine ⟨_,rfl,_,rfl,(by show 3<=sizeLine;decide),fun pa hpa=>?_⟩
  have s9:=ah hpa (.tup [.str "times",v1,v2])
  have g9:(upd H8 pa (.tup [.str "times",v1,v2])) pa=some (.tup [.str "times",v1,v2]):=ac
  generalize upd H8 pa (.tup [.str "times",v1,v2])=H9 at s9 g9 ⊢
  refine ⟨_,rfl,_,rfl,(by show 3<=sizeLine;decide),fun pb hpb=>?_⟩
  have s10:=ah hpb (.tup [.str "times",v2,v1])
  have g10:(upd H9 pb (.tup [.str "times",v2,v1])) pb=some (.tup [.str "times",v2,v1]):=ac
  generalize upd H9 pb (.tup [.str "times",v2,v1])=H10 at s10 g10 ⊢
  refine ⟨(by show 2<=sizeLine;decide),fun pl hpl=>?_⟩
  have s11:=ah hpl (.lst [.ref pa,.ref pb])
  have g11:(upd H10 pl (.lst [.ref pa,.ref pb])) pl=some (.lst [.ref pa,.ref pb]):=ac
  generalize upd H10 pl (.lst [.ref pa,.ref pb])=H11 at s11 g11 ⊢
  have S11:=s9.trans (s10.trans s11)
  have t11:Tp H11 tp:=by obtain ⟨u,hu⟩:=t8;exact ⟨u,S11 _ _ hu⟩
  have t10:Tp H10 tp:=by obtain ⟨u,hu⟩:=t8;exact ⟨u,s10 _ _ (s9 _ _ hu)⟩
  refine ⟨_,rfl,tp,2,rfl,t11,by decide,by decide,fun d5 u5 h50 h51=>?_⟩
  have k12:=gR tp H11 (.lst [.int u5])
  have t12:Tp (upd H11 tp (.lst [.int u5])) tp:=⟨u5,ac⟩
  generalize upd H11 tp (.lst [.int u5])=H12 at k12 t12 ⊢
  have kall:=k07.trans (k8.trans ((jc (tp:=tp) S11).trans k12))
  have T12:TK H8 H12:=fun b xs h=>k12.tk t11 _ _ (S11 _ _ h)
  have gl:=k12 _ _ g11 (ntp t10 hpl)
  have ga:=k12.tk t11 _ _ (s11 _ _ (s10 _ _ g9))
  have gb:=k12.tk t11 _ _ (s11 _ _ g10)
  have pr1:=ef (S:=fun k=>k=d4) (fun k x h=>h.2 k x rfl) hw1
  have pr2:=ef (S:=fun k=>k≠d4) (fun k x h=>h.2 k x rfl) hw2
  have W1:=dh (τ:=ρ) (fun f h=>h.1) hw1
  have W2:=dh (τ:=ρ) (fun f h=>h.1) hw2
  have hd5:d5=0\/d5=1:=by omega
  rcases hd5 with rfl | rfl
  ·refine ⟨pl,_,0,.ref pa,rfl,rfl,SqL.of gl,bV,q _ (.bin "times" f1 f2) H12 ⟨pa,v1,v2,rfl,ga,hR1'.mono T12,hR2.mono T12⟩ ⟨hop,W1,W2⟩ ⟨hl1,hl2,fun _ k a b=>pr2 k b (pr1 k a)⟩ ?_ kall t12⟩
   show ((f1.size+f2.size+1:Nat):Int)<=_
   omega
  ·refine ⟨pl,_,1,.ref pb,rfl,rfl,SqL.of gl,aG (j:=1) rfl,q _ (.bin "times" f2 f1) H12 ⟨pb,v2,v1,rfl,gb,hR2.mono T12,hR1'.mono T12⟩ ⟨hop,W2,W1⟩ ⟨hl2,hl1,fun _ k a b=>pr2 k a (pr1 k b)⟩ ?_ kall t12⟩
   show ((f2.size+f1.size+1:Nat):Int)<=_
   omega
 ·rw [show (!decide (V.str sn=V.str "times"))=true by rw [decide_eq_false fun z=>hne (V.str.inj z)];rfl]
  refine cX ?_
  refine ⟨_,rfl,_,rfl,_,rfl,_,rfl,ρ,hno,tp,rl,sg,rs,1+d2,ss,rfl,t3,n1,n2,k3 _ _ hrl n1,hrs,hlv.mono tp3,k3 _ _ hsg n2,hs1,hs2,hso,by omega,by omega,by omega,fun v1 f1 H4 hR1 hw1 hl1 hz1 k4 t4=>?_⟩
  have k04:=k3.trans k4
  refine ⟨_,rfl,_,rfl,_,rfl,_,rfl,_,rfl,_,rfl,room,1+d2,rfl,rfl,_,rfl,ρ,hno,tp,rl,sg,rs,room- (1+d2),ss,rfl,t4,n1,n2,k04 _ _ hrl n1,hrs,hlv.mono (k04.tk ht),k04 _ _ hsg n2,hs1,hs2,hso,by omega,by omega,by omega,fun v2 f2 H5 hR2 hw2 hl2 hz2 k5 t5=>⟨(by show 3<=sizeLine;decide),fun p hp=>?_⟩⟩
  have s6:=ah hp (.tup [.str sn,v1,v2])
  have k56:Kp tp H5 (upd H5 p (.tup [.str sn,v1,v2])):=jc s6
  refine q _ (.bin sn f1 f2) _ ⟨p,v1,v2,rfl,ac,hR1.mono ((k5.trans k56).tk t4),hR2.mono (ax s6)⟩ ⟨hop,hw1,hw2⟩ ⟨hl1,hl2,fun z=>absurd z hne⟩ ?_ (k04.trans (k5.trans k56)) ?_
  ·show ((f1.size+f2.size+1:Nat):Int)<=_
   omega
  ·obtain ⟨u,hu⟩:=t5
   exact ⟨u,s6 _ _ hu⟩
theorem uV:FnOk P w K mg base CX0 3 f fd ["tape","readings","room","signs"] (hX 0):=
 ⟨fun vs H Q E h=>by
  obtain ⟨ρ,_,tp,rl,sg,rs,room,ss,rfl,_⟩:=h
  rfl,fun A o s H args us vs Q E r e b v h=>by
  obtain ⟨ρ,hno,tp,rl,sg,rs,room,ss,_,_,_,_,_,_,_,_,_,_,_,h1,h2,_⟩:=h
  have h2:room<=0:=h2
  omega⟩
theorem sL (F:Fun K "_law_level_formula" "_law_level_formula" cU f fd) (G:Gb mg)
  (GD:FnOk P w K mg base CX0 1 f2 fd2 ["tape","many"] ca) (bD:Binds K fd2 ["tape","many"] []) (kD:PySem.W.keepIn K (.ref f2)=true) (mD:mg "_law_digit"=some (.ref f2))
  (GL:FnOk P w K mg base CX0 3 f3 fd3 ["tape","readings"] oS) (bL:Binds K fd3 ["tape","readings"] []) (kL:PySem.W.keepIn K (.ref f3)=true) (mL:mg "_law_leaf"=some (.ref f3))
  (bS:Binds K fd ["tape","readings","room","signs"] []) (mS:mg "_law_level_formula"=some (.ref f)): ∀ n:Nat,FnOk P w K mg base CX0 (n+3) f fd ["tape","readings","room","signs"] (hX n)
 | 0=>uV
 | n+1=>uU F G GD bD kD mD GL bL kL mL (sL F G GD bD kD mD GL bL kL mL bS mS n) bS mS
theorem eD {k:Int}: ∀ {qs:List Srt} {g:Fm},g∈bt k qs-> ∃ (j:Nat) (q:Srt) (x:Str),g=.part (k+ (j:Int)) x/\qs[j]? =some q/\x∈q.ups
 | [],_,h=>by cases h
 | q::r,g,h=>by
  have h:g∈q.ups.map (fun x=>Fm.part k x)++bt (k+1) r:=h
  rcases List.mem_append.mp h with h | h
  ·obtain ⟨x,hx,rfl⟩:=List.mem_map.mp h
   exact ⟨0,q,x,by rw [show k+ ((0:Nat):Int)=k by omega],rfl,hx⟩
  ·obtain ⟨j,q',x,e,h1,h2⟩:=eD (k:=k+1) h
   exact ⟨j+1,q',x,by rw [e,show k+1+ (j:Int)=k+ ((j+1:Nat):Int) by omega],h1,h2⟩
theorem pO {fr:Frm} {t:Int×Str} (h:t∈ce fr.own fr.parts):gW fr (tgF t):=by
 unfold ce at h
 rcases List.mem_append.mp h with h | h
 ·obtain ⟨x,hx,rfl⟩:=List.mem_map.mp h
  show gW fr (if (-1:Int) <0 then .own x else .part (-1) x)
  rw [if_pos (by decide)]
  exact List.mem_append_right _ hx
 ·obtain ⟨i,x⟩:=t
  obtain ⟨j,q,e,h1,h2⟩:=fk h
  have e:i=(j:Int):=by omega
  subst e
  show gW fr (if (j:Int) <0 then .own x else .part (j:Int) x)
  rw [if_neg (by omega)]
  exact ⟨j,q,rfl,h1,List.mem_append_left _ h2⟩
theorem rW {fr:Frm} {mode j:Int} {g:Fm} (h:g∈rds fr.own fr.parts mode j):gW fr g:=by
 unfold rds at h
 rcases List.mem_append.mp h with h | h
 ·rcases List.mem_append.mp h with h | h
  ·obtain ⟨x,hx,rfl⟩:=List.mem_map.mp h
   exact List.mem_append_left _ hx
  ·obtain ⟨i,q,x,rfl,h1,h2⟩:=eD h
   exact ⟨i,q,by omega,h1,List.mem_append_right _ h2⟩
 ·split at h
  ·obtain ⟨t,ht,rfl⟩:=List.mem_map.mp h
   refine pO ?_
   unfold dO at ht
   split at ht
   ·exact List.mem_of_mem_take ht
   ·exact ht
  ·cases h
theorem BookOk.v {bk:Bk} (h:BookOk bk):BkV bk:=by
 have h1:=h.so.1
 have h2:=h.more
 refine ⟨h.s,.inr h.wh,h.so.1,by omega,fun s hs=>⟨(h.so.2.2.2.1 s hs).1,(h.so.2.2.2.2 s hs).2.1⟩,fun fr hf=>(h.wd fr hf).1,fun fr hfr r hr=>?_,fun z=>?_⟩
 ·obtain ⟨mode,_,hf⟩:=h.fo
  obtain ⟨_,_,_,_,h5⟩:=hf fr hfr
  obtain ⟨j,hj⟩:=List.getElem?_of_mem hr
  exact dh (fun g hg=>rW hg) (h5 j r hj).1
 ·have:=h.wh.1
  omega
theorem BkV.one {bk:Bk} (h:BkV bk):BkV ⟨bk.wheel,bk.sorts,bk.forms.take 1⟩:=by
 have mem: ∀ {fr:Frm},fr∈bk.forms.take 1->fr∈bk.forms:=fun hf=>List.mem_of_mem_take hf
 have hf1:=h.f1
 refine ⟨⟨?_,?_,h.s.s4,h.s.sd,h.s.ws,fun fr hf=>h.s.fo fr (mem hf)⟩,h.wh,h.s1,?_,h.sw,fun fr hf=>h.fw fr (mem hf),fun fr hf=>h.rd fr (mem hf),fun z=>⟨(h.lv z).1,fun fr hf=>(h.lv z).2 fr (mem hf)⟩⟩
 ·show (bk.forms.take 1).length<=10
  rw [List.length_take]
  omega
 ·exact List.Nodup.sublist (List.Sublist.map _ (List.take_sublist _ _)) h.s.nd
 ·show 1<=(bk.forms.take 1).length
  rw [List.length_take]
  omega
noncomputable def cC:Srt:=⟨"lone",[],[]⟩
noncomputable def loneF:List Frm:=[⟨"lonely",cC,[],[]⟩,⟨"loneall",cC,[cC,cC,cC],[]⟩]
theorem BkV.lone (w:Int) (hw:w=0\/(2<=w/\w<=10^30)):BkV ⟨w,[cC],loneF⟩:=by
 have hall: ∀ {fr:Frm},fr∈loneF->fr.own=cC/\(∀ q∈fr.parts,q=cC)/\fr.parts.length<=3/\fr.rules=[]/\be fr.name=true/\ce fr.own fr.parts=[]:=by
  intro fr hf
  rcases List.mem_cons.mp hf with rfl | hf
  ·exact ⟨rfl,fun q hq=>(by cases hq),by decide,rfl,by decide +kernel,rfl⟩
  ·rw [List.mem_singleton.mp hf]
   refine ⟨rfl,fun q hq=>?_,by decide,rfl,by decide +kernel,rfl⟩
   simp only [List.mem_cons,List.not_mem_nil,or_false,or_self]at hq
   exact hq
 refine ⟨⟨(by show loneF.length<=10;decide),(by show (loneF.map Frm.name).Nodup;decide +kernel),(by show [cC].length<=4;decide),(by show ([cC].map Srt.name).Nodup;decide +kernel),fun s hs=>?_,fun fr hf=>?_⟩,hw,(by show 1<=[cC].length;decide),(by show 1<=loneF.length;decide),fun s hs=>?_,fun fr hf=>(hall hf).2.2.2.2.1,fun fr hf r hr=>?_,fun _=>⟨fun s hs=>?_,fun fr hf r hr=>?_⟩⟩
 ·rw [List.mem_singleton.mp hs]
  exact ⟨by decide,by decide,List.nodup_nil,fun x hx=>by cases hx⟩
 ·obtain ⟨a1,a2,a3,a4,_,a6⟩:=hall hf
  refine ⟨by rw [a1];exact List.mem_cons_self,fun q hq=>by rw [a2 q hq];exact List.mem_cons_self,a3,by rw [a4,a6];rfl,fun r hr=>?_⟩
  rw [a4]at hr
  cases hr
 ·rw [List.mem_singleton.mp hs]
  exact ⟨by decide +kernel,fun x hx=>by cases hx⟩
 ·rw [(hall hf).2.2.2.1]at hr
  cases hr
 ·rw [List.mem_singleton.mp hs]
  rfl
 ·rw [(hall hf).2.2.2.1]at hr
  cases hr
theorem BkV.more {bk:Bk} (h:BkV bk) (h4:bk.sorts.length<4) (hs: ∀ s∈bk.sorts,s.name≠"lone") (hf: ∀ fr∈bk.forms,fr.name≠"lonely"/\fr.name≠"loneall"):
  BkV ⟨bk.wheel,bk.sorts++[cC],bk.forms.take 8++loneF⟩:=by
 have L:=BkV.lone bk.wheel h.wh
 have mem: ∀ {fr:Frm},fr∈bk.forms.take 8->fr∈bk.forms:=fun hf=>List.mem_of_mem_take hf
 refine ⟨⟨?_,?_,?_,?_,?_,?_⟩,h.wh,?_,?_,?_,?_,?_,?_⟩
 ·show (bk.forms.take 8++loneF).length<=10
  rw [List.length_append,List.length_take]
  have:loneF.length=2:=rfl
  omega
 ·show ((bk.forms.take 8++loneF).map Frm.name).Nodup
  rw [List.map_append]
  refine List.nodup_append.mpr ⟨List.Nodup.sublist (List.Sublist.map _ (List.take_sublist _ _)) h.s.nd,L.s.nd,fun a ha b hb e=>?_⟩
  obtain ⟨fr,hfr,rfl⟩:=List.mem_map.mp ha
  have hb:b∈([("lonely":Str),"loneall"]:List Str):=hb
  rcases List.mem_cons.mp hb with z | z
  ·exact (hf fr (mem hfr)).1 (e.trans z)
  ·exact (hf fr (mem hfr)).2 (e.trans (List.mem_singleton.mp z))
 ·show (bk.sorts++[cC]).length<=4
  rw [List.length_append]
  have:[cC].length=1:=rfl
  omega
 ·show ((bk.sorts++[cC]).map Srt.name).Nodup
  rw [List.map_append]
  refine List.nodup_append.mpr ⟨h.s.sd,L.s.sd,fun a ha b hb e=>?_⟩
  obtain ⟨s,hss,rfl⟩:=List.mem_map.mp ha
  have hb:b∈([("lone":Str)]:List Str):=hb
  exact hs s hss (e.trans (List.mem_singleton.mp hb))
 ·intro s hm
  rcases List.mem_append.mp hm with z | z
  ·exact h.s.ws s z
  ·exact L.s.ws s z
 ·intro fr hm
  rcases List.mem_append.mp hm with z | z
  ·obtain ⟨a1,a2,a3⟩:=h.s.fo fr (mem z)
   exact ⟨List.mem_append_left _ a1,fun q hq=>List.mem_append_left _ (a2 q hq),a3⟩
  ·obtain ⟨a1,a2,a3⟩:=L.s.fo fr z
   exact ⟨List.mem_append_right _ a1,fun q hq=>List.mem_append_right _ (a2 q hq),a3⟩
 ·show 1<=(bk.sorts++[cC]).length
  rw [List.length_append]
  exact Nat.le_add_left _ _
 ·show 1<=(bk.forms.take 8++loneF).length
  rw [List.length_append]
  exact Nat.le_trans (show 1<=loneF.length by decide) (Nat.le_add_left _ _)
 ·intro s hm
  rcases List.mem_append.mp hm with z | z
  ·exact h.sw s z
  ·exact L.sw s z
 ·intro fr hm
  rcases List.mem_append.mp hm with z | z
  ·exact h.fw fr (mem z)
  ·exact L.fw fr z
 ·intro fr hm
  rcases List.mem_append.mp hm with z | z
  ·exact h.rd fr (mem z)
  ·exact L.rd fr z
 ·intro z0
  refine ⟨fun s hm=>?_,fun fr hm=>?_⟩
  ·rcases List.mem_append.mp hm with z | z
   ·exact (h.lv z0).1 s z
   ·exact (L.lv z0).1 s z
  ·rcases List.mem_append.mp hm with z | z
   ·exact (h.lv z0).2 fr (mem z)
   ·exact (L.lv z0).2 fr z
noncomputable def jA:Sp:=fun vs H Q _=> ∃ (tp:Addr) (u:Int),vs=[.ref tp,.int u]/\Tp H tp/\1<=u/\u<=3/\ ∀ a ss xs H',H' a=some (.tup xs)->RepSs H' ss xs->cB ss->ss.length<=3->(∀ s∈ss,Srt.downs s=[]/\1<=s.ups.length)->Kp tp H H'->Tp H' tp->Q (.ref a) H'
noncomputable abbrev NLs:List Str:=["tape","ups","many","names","words","sorts","k","turned"]
theorem scLvSorts:au NLs ["tape","ups"] (ag iR):=fsc
theorem on (F:Fun K "_law_level_sorts" "_law_level_sorts" iR f fd) (G:Gb mg) (GD:FnOk P w K mg base CX0 1 g gd ["tape","many"] ca) (bD:Binds K gd ["tape","many"] []) (kD:PySem.W.keepIn K (.ref g)=true) (mD:mg "_law_digit"=some (.ref g))
  (GN:FnOk P w K mg base CX0 2 f2 fd2 ["tape","many"] eQ) (bN:Binds K fd2 ["tape","many"] []) (kN:PySem.W.keepIn K (.ref f2)=true) (mN:mg "_law_names"=some (.ref f2)):
  FnOk P w K mg base CX0 3 f fd ["tape","ups"] jA:=by
 refine F.ok scLvSorts (fun vs H Q E h=>?_) (fun cdv A outer s H vs Q E hr h=>?_)
 ·obtain ⟨tp,c,rfl,_⟩:=h
  rfl
 obtain ⟨tp,u,rfl,hT,hu1,hu3,q⟩:=h
 have hr1:=hr.mono (show 1<=2 by decide)
 refine ⟨_,ad (aq (i:=2) scLvSorts.nd rfl (Or.inl rfl) (aB aW ae (af GD hr1 rfl mD kD bD .nil al (aa (pv 0) (aa ae ab)))))
  (ad (aq (i:=3) scLvSorts.nd rfl (Or.inl rfl) (af GN hr rfl mN kN bN .nil al (aa (pv 0) (aa (pv 2) ab))))
  (ad (aq (i:=4) scLvSorts.nd rfl (Or.inl rfl) (af GN hr rfl mN kN bN .nil al (aa (pv 0) (aa ae ab))))
  (ad (aq (i:=5) scLvSorts.nd rfl (Or.inl rfl) (bf ab))
  (ad (bQ PassesOwn.never rfl (bq rfl G.range (aa (pv 2) ab)) (aH (i:=6) scLvSorts.nd rfl (Or.inl rfl))
   (ad (aq (i:=7) scLvSorts.nd rfl (Or.inl rfl) (aB gQ (a7 cG (pv 4) (bh (pv 6)) bp) (a7 cG (pv 4) bp (bh (pv 6)))))
   (aj (cq (dF PySem.F.plainAttrs_list PySem.F.slot_list_append PySem.F.type_list_append bZ (pv 5) (aa (aJ (aa (av aM (pv 3) (pv 6) (fun _ _=>rfl))
    (aa (aJ ab)
    (aa (bg a8 rfl G.tuple (by decide +kernel) (aa (a7 cG (pv 7) bp (bh (aB aW ae (af GD hr1 rfl mD kD bD .nil al (aa (pv 0) (aa (pv 1) ab)))))) ab)) ab)))) ab))))))
  (aj (aw (bg a8 rfl G.tuple (by decide +kernel) (aa (pv 5) ab)))))))),?_⟩
 refine ⟨_,rfl,tp,3,rfl,hT,by decide,by decide,fun dm t1 hdm0 hdm1=>?_⟩
 have k1:Kp tp H (upd H tp (.lst [.int t1])):=Kp.tape
 have tt1:Tp (upd H tp (.lst [.int t1])) tp:=⟨t1,ac⟩
 generalize upd H tp (.lst [.int t1])=H2 at k1 tt1 ⊢
 refine ⟨1,_,rfl,rfl,?_⟩
 refine ⟨_,rfl,_,rfl,tp,_,rfl,tt1,by omega,by omega,fun nl ns H3 hnl hnlen hN hnne k2' tt2=>?_⟩
 have k2:=k1.trans k2'
 refine ⟨_,rfl,tp,6,rfl,tt2,by decide,by decide,fun wl ws H4 hwl hwlen hW hwne k3' tt3=>?_⟩
 have k3:=k2.trans k3'
 have hnl4:=k3' _ _ hnl hnne
 refine ⟨(by show 0<=sizeLine;decide),fun sl hsl=>?_⟩
 have hslt:=cS tt3 hsl
 have k4:Kp tp H (upd H4 sl (.lst [])):=k3.new hsl
 have tt4:=tt3.new (o:=.lst []) hsl
 have s4:=ah hsl (.lst [])
 have nsl:nl≠sl:=ai hnl4 hsl
 have wsl:wl≠sl:=ai hwl hsl
 have hnl5:=s4 _ _ hnl4
 have hwl5:=s4 _ _ hwl
 have hsl5:(upd H4 sl (.lst [])) sl=some (.lst []):=ac
 generalize upd H4 sl (.lst [])=H5 at k4 tt4 hnl5 hwl5 hsl5 ⊢
 obtain ⟨nLen,nNd,nWd⟩:=hN.ok (by omega)
 obtain ⟨wLen,wNd,wWd⟩:=hW.ok (by decide)
 have wLen6:ws.length=6:=wLen
 refine ⟨_,rfl,1+dm,rfl,by omega,by omega,?_⟩
 refine cL (fun i Z H'=> ∃ o6 o7 zs ss,Z=[some (.ref tp),some (.int u),some (.int (1+dm)),some (.ref nl),some (.ref wl),some (.ref sl),o6,o7]/\Kp tp H H'/\Tp H' tp/\H' nl=some (.lst (ns.map V.str))/\H' wl=some (.lst (ws.map V.str))/\H' sl=some (.lst zs)/\RepSs H' ss zs/\ss.length=i/\(∀ s∈ss,s.ok/\s.downs=[]/\1<=s.ups.length)/\ss.map Srt.name=ns.take i)
  ⟨none,none,[],[],rfl,k4,tt4,hnl5,hwl5,hsl5,.nil,rfl,fun s h=>(by cases h),rfl⟩ ?_ ?_
 ·rintro i Z H6 hi ⟨o6,o7,zs,ss,rfl,k6,tt6,hnl6,hwl6,hsl6,hR,hssl,hok,hnm⟩
  have hi3:i<3:=by omega
  refine ⟨_,rfl,_,rfl,0+ (i:Int),rfl,wl,_,rfl,SqL.of hwl6,fun p1 hp1=>?_⟩
  rw [gC (ws.map V.str) (by omega) (by rw [List.length_map];omega)]
  have hct:c8 (ws.map V.str) none (some (0+ (i:Int)))=(ws.map V.str).take (0+ (i:Int)).toNat:=dC (ws.map V.str) (by omega) (by rw [List.length_map];omega)
  have hn6:(0+ (i:Int)).toNat<=6:=by omega
  generalize hn:(0+ (i:Int)).toNat=n at hct hn6 ⊢
  have s1:=ah hp1 (.lst ((ws.map V.str).drop n))
  have g1:(upd H6 p1 (.lst ((ws.map V.str).drop n))) p1=some (.lst ((ws.map V.str).drop n)):=ac
  generalize upd H6 p1 (.lst ((ws.map V.str).drop n))=Ha at s1 g1 ⊢
  refine ⟨_,rfl,_,rfl,0+ (i:Int),rfl,wl,_,rfl,SqL.of (s1 _ _ hwl6),fun p2 hp2=>?_⟩
  rw [hct]
  have s2:=ah hp2 (.lst ((ws.map V.str).take n))
  have g2:(upd Ha p2 (.lst ((ws.map V.str).take n))) p2=some (.lst ((ws.map V.str).take n)):=ac
  generalize upd Ha p2 (.lst ((ws.map V.str).take n))=Hb at s2 g2 ⊢
  have lcat:((ws.map V.str).drop n).length+ ((ws.map V.str).take n).length<=12:=by rw [List.length_drop,List.length_take,List.length_map];omega
  refine ⟨p1,p2,_,_,rfl,rfl,s2 _ _ g1,g2,Nat.le_of_lt (aA (by omega)),fun p3 hp3=>?_⟩
  have e3:(ws.map V.str).drop n++(ws.map V.str).take n=(ws.drop n++ws.take n).map V.str:=by rw [List.map_append,List.map_drop,List.map_take]
  rw [e3]
  have lts:(ws.drop n++ws.take n).length=6:=by rw [List.length_append,List.length_drop,List.length_take];omega
  have hsok:=fun (v:Nat) (hv:v<=3) (hv1:1<=v) nm=>jx wNd wWd wLen6 n 0 v (by omega) hv (by omega) nm
  generalize ws.drop n++ws.take n=ts at lts hsok ⊢
  have s3:=ah hp3 (.lst (ts.map V.str))
  have g3:(upd Hb p3 (.lst (ts.map V.str))) p3=some (.lst (ts.map V.str)):=ac
  generalize upd Hb p3 (.lst (ts.map V.str))=Hc at s3 g3 ⊢
  have S9:Same H6 Hc:=s1.trans (s2.trans s3)
  have hslc:=S9 _ _ hsl6
  have hnlc:=S9 _ _ hnl6
  have hwlc:=S9 _ _ hwl6
  have kc:Kp tp H6 Hc:=jc S9
  have ttc:Tp Hc tp:=tt6.same S9
  have n3:=cS (tt6.same (s1.trans s2)) hp3
  refine ⟨_,rfl,.inl ⟨rfl,_,SqL.of hslc⟩,?_⟩
  obtain ⟨nm,enm⟩: ∃ nm,ns[i]? =some nm:=⟨ns[i]'(by omega),List.getElem?_eq_getElem (by omega)⟩
  have eat:atI (ns.map V.str) (0+ (i:Int))=some (V.str nm):=by
   rw [Int.zero_add]
   exact aG (by rw [List.getElem?_map,enm];rfl)
  refine ⟨_,rfl,_,rfl,nl,_,_,_,rfl,rfl,SqL.of hnlc,eat,?_⟩
  refine ⟨(by show 0<=sizeLine;decide),fun p5 hp5=>?_⟩
  have s5:=ah hp5 (.tup [])
  have g5:(upd Hc p5 (.tup [])) p5=some (.tup []):=ac
  generalize upd Hc p5 (.tup [])=Hd at s5 g5 ⊢
  have ttd:=ttc.same s5
  refine ⟨_,rfl,_,rfl,_,rfl,tp,u,rfl,ttd,by omega,by omega,fun du t5 hdu0 hdu1=>?_⟩
  have kd:Kp tp Hd (upd Hd tp (.lst [.int t5])):=gR _ _ _
  have tte:Tp (upd Hd tp (.lst [.int t5])) tp:=⟨t5,ac⟩
  generalize upd Hd tp (.lst [.int t5])=He at kd tte ⊢
  have g5e:=kd.tk ttd _ _ g5
  have g3e:=kd _ _ (s5 _ _ g3) n3
  refine ⟨1,du,rfl,rfl,1+du,rfl,p3,_,rfl,SqL.of g3e,fun p6 hp6=>?_⟩
  rw [dC (ts.map V.str) (by omega) (by rw [List.length_map];omega),<- List.map_take]
  have hv1:1<=(1+du).toNat:=by omega
  have hv3:(1+du).toNat<=3:=by omega
  generalize (1+du).toNat=v at hv1 hv3 ⊢
  have s6:=ah hp6 (.lst ((ts.take v).map V.str))
  have g6:(upd He p6 (.lst ((ts.take v).map V.str))) p6=some (.lst ((ts.take v).map V.str)):=ac
  generalize upd He p6 (.lst ((ts.take v).map V.str))=Hf at s6 g6 ⊢
  refine ⟨p6,_,rfl,.inl ⟨SqL.of g6,fun p7 hp7=>?_⟩⟩
  have s7:=ah hp7 (.tup ((ts.take v).map V.str))
  have g7:(upd Hf p7 (.tup ((ts.take v).map V.str))) p7=some (.tup ((ts.take v).map V.str)):=ac
  generalize upd Hf p7 (.tup ((ts.take v).map V.str))=Hg at s7 g7 ⊢
  refine ⟨(by show 3<=sizeLine;decide),fun p8 hp8=>?_⟩
  have s8:=ah hp8 (.tup [.str nm,.ref p5,.ref p7])
  have g8:(upd Hg p8 (.tup [.str nm,.ref p5,.ref p7])) p8=some (.tup [.str nm,.ref p5,.ref p7]):=ac
  generalize upd Hg p8 (.tup [.str nm,.ref p5,.ref p7])=Hh at s8 g8 ⊢
  have Sh8:Same He Hh:=s6.trans (s7.trans s8)
  have kh:Kp tp H6 Hh:=kc.trans ((jc (tp:=tp) s5).trans (kd.trans (jc Sh8)))
  have hslh:=kh _ _ hsl6 (Ne.symm (Ne.symm hslt))
  have hzl:zs.length=i:=by rw [<- hR.len];exact hssl
  refine ⟨sl,zs,.ref p8,rfl,rfl,hslh,aA (by omega),?_⟩
  have tk:TK Hh (upd Hh sl (.lst (zs++[.ref p8]))):=TK.lst hslh
  have eok:(⟨nm,[],ts.take v⟩:Srt).ok:=by
   have:=hsok v hv3 hv1 nm
   rw [List.take_zero,List.drop_zero]at this
   exact this
  refine ⟨_,_,zs++[.ref p8],ss++[⟨nm,[],ts.take v⟩],rfl,?_,?_,?_,?_,ac,?_,?_,?_,?_⟩
  ·intro b o hb hbn
   rw [am (ai (k3 _ _ hb hbn) hsl)]
   exact kh _ _ (k6 _ _ hb hbn) hbn
  ·obtain ⟨t9,e9⟩:=tte.same Sh8
   exact ⟨t9,by rw [am (Ne.symm hslt)];exact e9⟩
  ·rw [am nsl];exact kh _ _ hnl6 hnne
  ·rw [am wsl];exact kh _ _ hwl6 hwne
  ·exact Paired.snoc (hR.mono ((kh.tk tt6).trans tk)) ⟨p8,p5,p7,rfl,tk _ _ g8,tk _ _ (Sh8 _ _ g5e),tk _ _ (s8 _ _ g7)⟩
  ·rw [List.length_append,hssl];rfl
  ·intro s hs
   rw [List.mem_append,List.mem_singleton]at hs
   rcases hs with h | h
   ·exact hok s h
   ·subst h
    refine ⟨eok,rfl,?_⟩
    show 1<=(ts.take v).length
    rw [List.length_take]
    omega
  ·rw [List.map_append,hnm,List.map_singleton,List.take_add_one,enm]
   rfl
 ·rintro Z H6 ⟨o6,o7,zs,ss,rfl,k6,tt6,hnl6,hwl6,hsl6,hR,hssl,hok,hnm⟩
  refine ⟨_,rfl,sl,zs,rfl,.inl ⟨SqL.of hsl6,fun pt hpt=>?_⟩⟩
  refine q pt ss zs _ ac (hR.mono (TK.new hpt)) ⟨by omega,by omega,?_,?_,fun s hs=>(hok s hs).1⟩ (by omega) (fun s hs=>(hok s hs).2) (k6.new hpt) (tt6.new hpt)
  ·rw [hnm]
   exact nNd.sublist (List.take_sublist _ _)
  ·intro s hs
   have:s.name∈ss.map Srt.name:=List.mem_map.mpr ⟨s,hs,rfl⟩
   rw [hnm]at this
   have hm:=List.mem_of_mem_take this
   exact ⟨nWd _ hm,(hN.lone (by omega) _ hm).1⟩
noncomputable def vH (ss:List Srt) (fr:Frm):Prop:=fr.own∈ss/\(∀ q∈fr.parts,q∈ss)/\fr.parts.length<=3/\fr.rules.map (fun r=>(r.pl,r.word))=ce fr.own fr.parts/\ ∀ r∈fr.rules,r.fm.wfp (gW fr)/\r.fm.lvl/\r.fm.size<=15
theorem iC {k:Int}: ∀ {qs:List Srt},(∀ q∈qs,q.downs=[])->bJ k qs=[]
 | [],_=>rfl
 | q::r,h=>by
  show q.downs.map (fun x=>(k,x))++bJ (k+1) r=[]
  rw [h q List.mem_cons_self,iC fun x hx=>h x (List.mem_cons_of_mem _ hx)]
  rfl
theorem xb {H:Hp} {ss qs:List Srt} {zs:List V} (hok: ∀ s∈ss,s.ok) (hq: ∀ q∈qs,q∈ss) (hl:qs.length<=3) (h:Tups H ((bt 0 qs).map fmV) zs):LvP (fun g=>g∈bt 0 qs) H zs:=fun v hv=>by
 obtain ⟨ys,hy,hz⟩:=iZ h hv
 obtain ⟨f,hf,rfl⟩:=List.mem_map.mp hy
 have hf':=hf
 obtain ⟨k,x,rfl,h1,h2,q,h3,h4⟩:=iU hf
 have lf:jb (.part k x):=⟨⟨h1,by omega⟩,(hok q (hq q h3)).2.1 _ (List.mem_append_right _ h4)⟩
 exact ⟨k,x,(nc lf hz).1,mZ lf hf'⟩
theorem uG {fr:Frm} {g:Fm} (h:g∈bt 0 fr.parts):gW fr g:=by
 obtain ⟨j,q,x,rfl,h1,h2⟩:=eD h
 exact ⟨j,q,by omega,h1,List.mem_append_right _ h2⟩
theorem vY {qs:List Srt} (x:Str): ¬ Fm.own x∈bt 0 qs:=fun h=>by
 obtain ⟨j,q,y,e,_⟩:=eD h
 cases e
noncomputable def lvFor:List Stmt:=lB ((cH cA).getD 6 (.Pass ⟨0,0,0,0⟩))
noncomputable def jp (H:Hp) (sc sg hd sa nl fl:Addr) (st u gr mo:Int) (ss:List Srt) (ws:List Str) (i:Nat) (Z:St) (H':Hp):Prop:= ∃ o10 o11 o12 o13 o14 o15 o16 o17 o18 fv frs,
 Z=[some (.ref sc),some (.int st),some (.int u),some (.ref sg),some (.ref hd),some (.int gr),some (.int mo),some (.ref sa),some (.ref nl),some (.ref fl),o10,o11,o12,o13,o14,o15,o16,o17,o18]/\
 Same H H'/\SrtsAt H' sa ss/\H' nl=some (.lst (ws.map V.str))/\H' fl=some (.lst fv)/\RepFs H' frs fv/\frs.length=i/\frs.map Frm.name=ws.take i/\ ∀ fr∈frs,vH ss fr
noncomputable abbrev jt:List Str:=["script","start","ups","signs","head","grown","more","sorts","names","forms","k","tape","own","many","j","parts","readings","word","rules"]
theorem scLvB:au jt ["script","start","ups","signs"] (ag cA):=fsc
theorem tf {cdv:Value} {A:Around} {outer:List Env} {s:Shared} {H H0:Hp} {E:XK} (G:Gb mg)
  (GD:FnOk P w K mg base CX0 1 g gd ["tape","many"] ca) (bD:Binds K gd ["tape","many"] []) (kD:PySem.W.keepIn K (.ref g)=true) (mD:mg "_law_digit"=some (.ref g))
  (GL:FnOk P w K mg base CX0 11 f2 fd2 ["tape","readings","room","signs"] (hX 8)) (bL:Binds K fd2 ["tape","readings","room","signs"] []) (kL:PySem.W.keepIn K (.ref f2)=true) (mL:mg "_law_level_formula"=some (.ref f2))
  (hr:Room 11 (c7 CX0 P w K mg base jt "_law_level_book" (ag cA) f cdv A outer s H0 E).nox.A):
  ∃ t,PSs (c7 CX0 P w K mg base jt "_law_level_book" (ag cA) f cdv A outer s H0 E).nox (lvFor.drop 8) t/\
   ∀ (sc sg hd sa nl fl:Addr) (st u gr mo:Int) (ss:List Srt) (ws sgs:List Str),cB ss->(∀ s∈ss,s.downs=[])->ws.length=10->H fl=none->nl≠fl->H sg=some (.lst (sgs.map V.str))->1<=sgs.length->sgs.length<=1000->(∀ x∈sgs,x∈ops)->
   ∀ (D:eE) (i:Nat) (Z:St) (H2 H5:Hp) (tp oa pa rl:Addr) (o:Srt) (qs:List Srt) (ps rv:List V) (m:Int) (o14 o17 o18:Option V),jp H sc sg hd sa nl fl st u gr mo ss ws i Z H2->i<10->H2 tp=none->Same H2 H5->Tp H5 tp->o∈ss->RepS H5 o (.ref oa)->(∀ q∈qs,q∈ss)->qs.length<=3->H5 pa=some (.lst ps)->RepSs H5 qs ps->H5 rl=some (.lst rv)->Tups H5 ((bt 0 qs).map fmV) rv->pa≠tp->rl≠tp->
    (∀ Z' H',jp H sc sg hd sa nl fl st u gr mo ss ws (i+1) Z' H'->D.nx Z' H')->
    t D [some (.ref sc),some (.int st),some (.int u),some (.ref sg),some (.ref hd),some (.int gr),some (.int mo),some (.ref sa),some (.ref nl),some (.ref fl),some (.int (0+ (i:Int))),some (.ref tp),some (.ref oa),some (.int m),o14,some (.ref pa),some (.ref rl),o17,o18] H5:=by
 have hr1:=hr.mono (show 1<=11 by decide)
 refine ⟨_,ad (aq (i:=18) scLvB.nd rfl (Or.inl rfl) (bf ab))
  (ad (bQ PassesOwn.never rfl (bd (av ay (pv 12) ae (fun _ _=>rfl))) (aH (i:=17) scLvB.nd rfl (Or.inl rfl))
   (aj (cq (dF PySem.F.plainAttrs_list PySem.F.slot_list_append PySem.F.type_list_append bZ (pv 18) (aa
    (aJ (aa (ic eK ae) (aa (pv 17) (aa (af GL hr rfl mL kL bL .nil al (aa (pv 11) (aa (pv 16) (aa (aB aW ae (af GD hr1 rfl mD kD bD .nil al (aa (pv 11) (aa ae ab)))) (aa (pv 3) ab))))) ab)))) ab)))))
  (aj (cq (dF PySem.F.plainAttrs_list PySem.F.slot_list_append PySem.F.type_list_append bZ (pv 9) (aa
   (aJ (aa (av aM (pv 8) (pv 10) (fun _ _=>rfl)) (aa (av ay (pv 12) ae (fun _ _=>rfl))
    (aa (bg a8 rfl G.tuple (by decide +kernel) (aa
     (br (sc0:=ag cA) (N0:=jt) (ys:=[]) (fr:=[]) rfl (cY (pv 15)) rfl rfl
      cok
      (fun C s H ex=>av (r:=gh K) ay (pv 0) ae (fun _ _=>rfl))) ab))
    (aa (bg a8 rfl G.tuple (by decide +kernel) (aa (pv 18) ab)) ab))))) ab))))),?_⟩
 rintro sc sg hd sa nl fl st u gr mo ss ws sgs hok hdn hws hfl0 hnf hsg hsg1 hsg2 hops D i Z H2 H5 tp oa pa rl o qs ps rv m o14 o17 o18 ⟨o10,o11,o12,o13,o14',o15,o16,o17',o18',fv,frs,rfl,sm,hsa,gnl,gfl,hF,hfl,hnm,hfok⟩ hi htp s5 tt5 ho ⟨_,ob,oc,e,hoa,hob,hoc⟩ hqs hql gpa hPs grl hTr npt nrt hD
 cases e
 have lup:o.ups.length<=3:=(hok.2.2.2.2 o ho).2.2.2.1
 have lrv:rv.length<=9:=by
  have h1:=dy 0 qs fun s hs=>hok.2.2.2.2 s (hqs s hs)
  have h2:=hTr.len
  rw [List.length_map]at h2
  omega
 have S25:Same H H5:=sm.trans s5
 have nst:sg≠tp:=ai (sm _ _ hsg) htp
 refine ⟨(by show 0<=sizeLine;decide),fun ra hra=>?_⟩
 have nra:=cS tt5 hra
 have s6:=ah hra (.lst [])
 have g6:(upd H5 ra (.lst [])) ra=some (.lst []):=ac
 have tt6:=tt5.same s6
 generalize upd H5 ra (.lst [])=H6 at s6 g6 tt6 ⊢
 refine ⟨_,rfl,oa,_,2,.ref oc,rfl,rfl,SqT.of (s6 _ _ hoa),aG (j:=2) rfl,oc,rfl,⟨_,SqT.of (s6 _ _ hoc)⟩,?_⟩
 refine dk (xs:=o.ups.map V.str) (fun n Z H'=>n<=o.ups.length/\ ∃ o17 rvs rules,Z=[some (.ref sc),some (.int st),some (.int u),some (.ref sg),some (.ref hd),some (.int gr),some (.int mo),some (.ref sa),some (.ref nl),some (.ref fl),some (.int (0+ (i:Int))),some (.ref tp),some (.ref oa),some (.int m),o14,some (.ref pa),some (.ref rl),o17,some (.ref ra)]/\Kp tp H5 H'/\Tp H' tp/\H' ra=some (.lst rvs)/\RepRs H' rules rvs/\rules.map (fun r=>(r.pl,r.word))=(o.ups.take n).map (fun x=>((-1:Int),x))/\ ∀ r∈rules,r.fm.wfp (fun g=>g∈bt 0 qs)/\r.fm.lvl/\r.fm.size<=15)
  ⟨Nat.zero_le _,o17,[],[],rfl,Kp.refl.same s6,tt6,g6,.nil,rfl,fun r h=>(by cases h)⟩ (fun n Z H' _ h=>by obtain ⟨_,_,_,_,_,k,_⟩:=h;exact SqT.of (k.tk tt5 _ _ hoc)) ?_ ?_
 ·rintro n x Z H7 hx ⟨hn,o17,rvs,rules,rfl,k7,tt7,gra,hRr,hmap,hfm⟩
  have hlt:n<o.ups.length:=by
   have:=(List.getElem?_eq_some_iff.mp hx).1
   rw [List.length_map]at this
   exact this
  obtain ⟨wd,hwd,rfl⟩: ∃ wd,o.ups[n]? =some wd/\V.str wd=x:=by
   rw [List.getElem?_map]at hx
   cases he:o.ups[n]? with
   | none=>rw [he]at hx;cases hx
   | some t=>rw [he]at hx;exact ⟨t,rfl,Option.some.inj hx⟩
  have lrules:rules.length=n:=by
   have:=congrArg List.length hmap
   rw [List.length_map,List.length_map,List.length_take]at this
   omega
  have lrvs:rvs.length=n:=by rw [<- hRr.len];exact lrules
  refine ⟨_,rfl,.inl ⟨rfl,_,SqL.of gra⟩,1,rfl,_,rfl,_,rfl,_,rfl,_,rfl,tp,8,rfl,tt7,by decide,by decide,fun d t hd0 hd1=>⟨1,d,rfl,rfl,_,rfl,?_⟩⟩
  have k8:Kp tp H7 (upd H7 tp (.lst [.int t])):=Kp.tape
  have tt8:Tp (upd H7 tp (.lst [.int t])) tp:=⟨t,ac⟩
  generalize upd H7 tp (.lst [.int t])=H8 at k8 tt8 ⊢
  have k58:=k7.trans k8
  refine ⟨fun g=>g∈bt 0 qs,vY,tp,rl,sg,rv,1+d,sgs,rfl,tt8,nrt,nst,k58 _ _ grl nrt,by omega,xb hok.2.2.2.2 hqs hql (hTr.mono (k58.tk tt5)),k58 _ _ (S25 _ _ hsg) nst,hsg1,hsg2,hops,by omega,by omega,by omega,fun v fm H9 rp wf lv sz k9 tt9=>?_⟩
  have k79:Kp tp H7 H9:=k8.trans k9
  have gra9:=k79 _ _ gra nra
  refine ⟨(by show 3<=sizeLine;decide),fun p5 hp5=>?_⟩
  have s10:=ah hp5 (.tup [.int (-1),.str wd,v])
  have g10:(upd H9 p5 (.tup [.int (-1),.str wd,v])) p5=some (.tup [.int (-1),.str wd,v]):=ac
  have tt10:=tt9.same s10
  have gra10:=s10 _ _ gra9
  have e10:upd H9 p5 (.tup [.int (-1),.str wd,v])=upd H9 p5 (.tup [.int (-1),.str wd,v]):=rfl
  generalize upd H9 p5 (.tup [.int (-1),.str wd,v])=H10 at s10 g10 tt10 gra10 e10 ⊢
  have k710:Kp tp H7 H10:=k79.same s10
  refine ⟨ra,rvs,.ref p5,rfl,rfl,gra10,aA (by omega),?_⟩
  have tk:TK H10 (upd H10 ra (.lst (rvs++[.ref p5]))):=TK.lst gra10
  have tk7:TK H7 (upd H10 ra (.lst (rvs++[.ref p5]))):=(k710.tk tt7).trans tk
  refine ⟨hlt,_,rvs++[.ref p5],rules++[⟨-1,wd,fm⟩],rfl,?_,?_,ac,?_,?_,?_⟩
  ·intro b oo hb hbn
   rw [am (ai hb hra)]
   exact k710 _ _ (k7 _ _ hb hbn) hbn
  ·obtain ⟨t9,e9⟩:=tt10
   exact ⟨t9,by rw [am (Ne.symm nra)];exact e9⟩
  ·exact Paired.snoc (hRr.mono tk7) ⟨p5,v,rfl,tk _ _ g10,rp.mono ((ax s10).trans tk)⟩
  ·rw [List.map_append,hmap,List.take_add_one,hwd,List.map_append]
   rfl
  ·intro r hrr
   rw [List.mem_append,List.mem_singleton]at hrr
   rcases hrr with h | h
   ·exact hfm r h
   ·subst h
    exact ⟨wf,lv,by show fm.size<=15;omega⟩
 ·rintro Z H7 ⟨_,o17,rvs,rules,rfl,k7,tt7,gra,hRr,hmap,hfm⟩
  rw [List.length_map,List.take_length]at hmap
  have tk7:=k7.tk tt5
  have S27:Same H2 H7:=fun b oo h=>k7 b oo (s5 b oo h) (ai h htp)
  have gfl7:=S27 _ _ gfl
  obtain ⟨nm,enm⟩: ∃ nm,ws[i]? =some nm:=⟨ws[i]'(by omega),List.getElem?_eq_getElem (by omega)⟩
  have eat:atI (ws.map V.str) (0+ (i:Int))=some (V.str nm):=by
   rw [Int.zero_add]
   exact aG (by rw [List.getElem?_map,enm];rfl)
  refine ⟨_,rfl,.inl ⟨rfl,_,SqL.of gfl7⟩,?_⟩
  refine ⟨_,rfl,_,rfl,nl,_,_,_,rfl,rfl,SqL.of (S27 _ _ gnl),eat,_,rfl,oa,_,0,_,rfl,rfl,SqT.of (tk7 _ _ hoa),bV,_,rfl,pa,rfl,⟨_,SqL.of (k7 _ _ gpa npt)⟩,?_⟩
  have gpa7:=k7 _ _ gpa npt
  have lps:ps.length<=3:=by have:=hPs.len;omega
  have hPs7:RepSs H7 qs ps:=hPs.mono tk7
  refine da (as:=qs) (A:=RepS H7) (by omega) hPs7 (fD gpa7) (fC gpa7) (gS gpa7) (fun _ q v=>v=.str q.name) (fun _ h=>h) (fun q v H' k _ hq s' hk=>?_) fun pl zs H8 hpl s8 gpl hz=>?_
  ·obtain ⟨a,b,c,rfl,ha,_⟩:=hq
   exact ⟨_,rfl,a,_,0,_,rfl,rfl,SqT.of (s' _ _ ha),bV,hk _ _ (Same.refl _) rfl⟩
  have ez:zs=bn qs:=dq (g:=fun q:Srt=>V.str q.name) hz
  subst ez
  refine ⟨pl,_,rfl,.inl ⟨SqL.of gpl,fun pt hpt=>?_⟩⟩
  have s9:=ah hpt (.tup (bn qs))
  have g9:(upd H8 pt (.tup (bn qs))) pt=some (.tup (bn qs)):=ac
  generalize upd H8 pt (.tup (bn qs))=H9 at s9 g9 ⊢
  have gra9:=s9 _ _ (s8 _ _ gra)
  refine ⟨_,rfl,ra,_,rfl,.inl ⟨SqL.of gra9,fun rt hrt=>?_⟩⟩
  have s10:=ah hrt (.tup rvs)
  have g10:(upd H9 rt (.tup rvs)) rt=some (.tup rvs):=ac
  generalize upd H9 rt (.tup rvs)=H10 at s10 g10 ⊢
  refine ⟨(by show 4<=sizeLine;decide),fun p11 hp11=>?_⟩
  have s11:=ah hp11 (.tup [.str nm,.str o.name,.ref pt,.ref rt])
  have g11:(upd H10 p11 (.tup [.str nm,.str o.name,.ref pt,.ref rt])) p11=some (.tup [.str nm,.str o.name,.ref pt,.ref rt]):=ac
  generalize upd H10 p11 (.tup [.str nm,.str o.name,.ref pt,.ref rt])=H11 at s11 g11 ⊢
  have S711:Same H7 H11:=s8.trans (s9.trans (s10.trans s11))
  have S211:Same H2 H11:=S27.trans S711
  have gfl11:=S211 _ _ gfl
  have lfv:=hF.len
  refine ⟨fl,fv,.ref p11,rfl,rfl,gfl11,aA (by omega),?_⟩
  have tk:TK H11 (upd H11 fl (.lst (fv++[.ref p11]))):=TK.lst gfl11
  have tk2:TK H2 (upd H11 fl (.lst (fv++[.ref p11]))):=(ax S211).trans tk
  refine hD _ _ ⟨_,_,_,_,_,_,_,_,_,fv++[.ref p11],frs++[⟨nm,o,qs,rules⟩],rfl,?_,hsa.mono tk2,?_,ac,?_,?_,?_,?_⟩
  ·intro b oo h
   rw [am (ai h hfl0)]
   exact S211 _ _ (sm _ _ h)
  ·rw [am hnf]
   exact S211 _ _ gnl
  ·exact Paired.snoc (hF.mono tk2) ⟨p11,pt,rt,rvs,rfl,tk _ _ g11,tk _ _ (s11 _ _ (s10 _ _ g9)),tk _ _ (s11 _ _ g10),hRr.mono ((ax S711).trans tk)⟩
  ·rw [List.length_append,hfl];rfl
  ·rw [List.map_append,hnm,List.take_add_one,enm];rfl
  ·intro fr hfr
   rw [List.mem_append,List.mem_singleton]at hfr
   rcases hfr with h | h
   ·exact hfok fr h
   ·subst h
    refine ⟨ho,hqs,hql,?_,fun r hrr=>⟨dh (fun g hg=>uG (fr:=⟨nm,o,qs,rules⟩) hg) (hfm r hrr).1,(hfm r hrr).2⟩⟩
    show rules.map (fun r=>(r.pl,r.word))=ce o qs
    unfold ce
    rw [hmap,iC fun q hq=>hdn q (hqs q hq),List.append_nil]
theorem tm {cdv:Value} {A:Around} {outer:List Env} {s:Shared} {H H0:Hp} {E:XK} (G:Gb mg)
  (GD:FnOk P w K mg base CX0 1 g gd ["tape","many"] ca) (bD:Binds K gd ["tape","many"] []) (kD:PySem.W.keepIn K (.ref g)=true) (mD:mg "_law_digit"=some (.ref g))
  (GL:FnOk P w K mg base CX0 11 f2 fd2 ["tape","readings","room","signs"] (hX 8)) (bL:Binds K fd2 ["tape","readings","room","signs"] []) (kL:PySem.W.keepIn K (.ref f2)=true) (mL:mg "_law_level_formula"=some (.ref f2))
  (hr:Room 11 (c7 CX0 P w K mg base jt "_law_level_book" (ag cA) f cdv A outer s H0 E).nox.A):
  ∃ t,PSs (c7 CX0 P w K mg base jt "_law_level_book" (ag cA) f cdv A outer s H0 E).nox (lvFor.drop 5) t/\
   ∀ (sc sg hd sa nl fl:Addr) (st u gr mo:Int) (ss:List Srt) (ws sgs:List Str),cB ss->(∀ s∈ss,s.downs=[])->ws.length=10->H fl=none->nl≠fl->H sg=some (.lst (sgs.map V.str))->1<=sgs.length->sgs.length<=1000->(∀ x∈sgs,x∈ops)->
   ∀ (D:eE) (i:Nat) (Z:St) (H2 H5:Hp) (tp oa:Addr) (o:Srt) (m:Int) (o14 o15 o16 o17 o18:Option V),jp H sc sg hd sa nl fl st u gr mo ss ws i Z H2->i<10->H2 tp=none->Same H2 H5->Tp H5 tp->o∈ss->RepS H5 o (.ref oa)->0<=m->m<=3->
    (∀ Z' H',jp H sc sg hd sa nl fl st u gr mo ss ws (i+1) Z' H'->D.nx Z' H')->
    t D [some (.ref sc),some (.int st),some (.int u),some (.ref sg),some (.ref hd),some (.int gr),some (.int mo),some (.ref sa),some (.ref nl),some (.ref fl),some (.int (0+ (i:Int))),some (.ref tp),some (.ref oa),some (.int m),o14,o15,o16,o17,o18] H5:=by
 have hr1:=hr.mono (show 1<=11 by decide)
 obtain ⟨t3,ht3,hread3⟩:=tf (cdv:=cdv) (A:=A) (outer:=outer) (s:=s) (H:=H) (H0:=H0) (E:=E) (f:=f) G GD bD kD mD GL bL kL mL hr
 refine ⟨_,ad (dE (i:=15) (sc0:=ag cA) (N0:=jt) (ys:=["sorts","tape"]) (fr:=[7,11]) rfl scLvB.nd rfl (Or.inl rfl) (bq rfl G.range (aa (pv 13) ab)) rfl rfl
    cok
    (fun C s H ex=>av (r:=gh K) ay (pv 1) (af GD hr1 rfl mD kD bD .nil al (aa (pv 2) (aa (ao (r:=xh K) ar rfl G.len PySem.boot_len (aa (pv 1) ab)) ab))) (fun _ _=>rfl)))
  (ad (aq (i:=16) scLvB.nd rfl (Or.inl rfl) (bf ab))
  (ad (bQ PassesOwn.never rfl (bq rfl G.range (aa (pv 13) ab)) (aH (i:=14) scLvB.nd rfl (Or.inr rfl))
   (aj (cq (dF PySem.F.plainAttrs_list PySem.F.slot_list_extend PySem.F.type_list_extend fB (pv 16) (aa
    (br (sc0:=ag cA) (N0:=jt) (ys:=["j"]) (fr:=[14]) rfl
     (bd (av ay (av aM (pv 15) (pv 14) (fun _ _=>rfl)) ae (fun _ _=>rfl))) rfl rfl
     cok
     (fun C s H ex=>aJ (aa aP (aa (pv 1) (aa (pv 0) ab))))) ab))))) ht3)),?_⟩
 intro sc sg hd sa nl fl st u gr mo ss ws sgs hok hdn hws hfl0 hnf hsg hsg1 hsg2 hops D i Z H2 H5 tp oa o m o14 o15 o16 o17 o18 hB hi htp s5 tt5 ho hoR hm0 hm3 hD
 obtain ⟨xs,gsa,hR⟩:SrtsAt H5 sa ss:=by
  obtain ⟨_,_,_,_,_,_,_,_,_,_,_,_,_,h,_⟩:=hB
  exact h.mono (ax s5)
 have lxs:=hR.len
 refine ⟨_,rfl,m,rfl,by omega,by omega,?_⟩
 refine dr (n:=m.toNat) (R:=fun i v=>v=.int (0+i)) (by omega) jd fi gu
  (fun p n zs H'=>Kp tp H5 H'/\Tp H' tp/\H' p=some (.lst zs)/\p≠tp/\zs.length=n/\ ∃ qs,RepSs H5 qs zs/\ ∀ q∈qs,q∈ss) ?_ ?_ ?_ ?_
 ·intro p hp
  exact ⟨Kp.refl.new hp,tt5.new hp,ac,cS tt5 hp,rfl,[],.nil,fun q h=>by cases h⟩
 ·rintro p n zs H' ⟨_,_,gp,_,hl,_⟩
  exact ⟨gp,hl⟩
 ·rintro p n zs H' v k hp hn rfl ⟨k6,tt6,gp,hpn,hl,qs,hQ,hqs⟩ hk
  have tk6:=k6.tk tt5
  have h1:=hok.1
  refine ⟨_,rfl,_,rfl,_,rfl,sa,_,rfl,.inr (SqT.of (tk6 _ _ gsa)),tp,_,rfl,tt6,by omega,by have:=hok.2.1;omega,fun d t hd0 hd1=>?_⟩
  obtain ⟨x,ex,ex2⟩:=fj hd0 hd1
  obtain ⟨q,hq,hqx⟩:=aN hR ex2
  have k7:Kp tp H5 (upd H' tp (.lst [.int t])):=k6.trans Kp.tape
  have tk7:=k7.tk tt5
  refine ⟨sa,xs,d,x,rfl,rfl,SqT.of (tk7 _ _ gsa),ex,?_⟩
  have gp7:(upd H' tp (.lst [.int t])) p=some (.lst zs):=by rw [am hpn];exact gp
  refine hk _ _ gp7 ⟨?_,⟨t,?_⟩,ac,hpn,by rw [List.length_append,hl];rfl,qs++[q],Paired.snoc hQ hqx,?_⟩
  ·intro b' o' hb hbn
   rw [am (ai hb hp)]
   exact k7 _ _ hb hbn
  ·rw [am (Ne.symm hpn),ac]
  ·intro y hy
   rw [List.mem_append,List.mem_singleton]at hy
   rcases hy with h | rfl
   ·exact hqs y h
   ·exact List.mem_of_getElem? hq
 ·rintro pa zs H6 hpa ⟨k6,tt6,gpa,npt,hl,qs,hQ5,hqs⟩
  have hQ:=hQ5.mono (k6.tk tt5)
  have lq:=hQ.len
  have hql:qs.length<=3:=by omega
  refine ⟨(by show 0<=sizeLine;decide),fun rl hrl=>?_⟩
  have nrt:=cS tt6 hrl
  have nrp:pa≠rl:=ai gpa hrl
  have s7:=ah hrl (.lst [])
  have g7:(upd H6 rl (.lst [])) rl=some (.lst []):=ac
  have tt7:=tt6.same s7
  generalize upd H6 rl (.lst [])=H7 at s7 g7 tt7 ⊢
  refine ⟨_,rfl,m,rfl,by omega,by omega,?_⟩
  refine cL (fun n Z H'=> ∃ o14 rv,Z=[some (.ref sc),some (.int st),some (.int u),some (.ref sg),some (.ref hd),some (.int gr),some (.int mo),some (.ref sa),some (.ref nl),some (.ref fl),some (.int (0+ (i:Int))),some (.ref tp),some (.ref oa),some (.int m),o14,some (.ref pa),some (.ref rl),o17,o18]/\Same H6 H'/\H' rl=some (.lst rv)/\Tups H' ((bt 0 (qs.take n)).map fmV) rv)
   ⟨o14,[],rfl,s7,g7,.nil⟩ ?_ ?_
  ·rintro n Z H8 hn ⟨o14,rv,rfl,S8,grl,hT⟩
   have hn':n<qs.length:=by omega
   obtain ⟨sq,hsq⟩: ∃ sq,qs[n]? =some sq:=⟨qs[n],List.getElem?_eq_getElem hn'⟩
   obtain ⟨x,hx⟩: ∃ x,zs[n]? =some x:=⟨zs[n]'(by omega),List.getElem?_eq_getElem (by omega)⟩
   obtain ⟨sq',hsq',a,b,c,rfl,ha,hb,hc⟩:=aN hQ hx
   have eqq:sq'=sq:=Option.some.inj (hsq'.symm.trans hsq)
   subst eqq
   have eat:atI zs (0+ (n:Int))=some (.ref a):=by
    rw [Int.zero_add]
    exact aG hx
   have ld:sq'.ups.length<=3:=(hok.2.2.2.2 sq' (hqs sq' (List.mem_of_getElem? hsq))).2.2.2.1
   refine ⟨_,rfl,.inl ⟨rfl,_,SqL.of grl⟩,?_⟩
   refine ⟨_,rfl,_,rfl,pa,_,_,_,rfl,rfl,SqL.of (S8 _ _ gpa),eat,a,_,2,.ref c,rfl,rfl,SqT.of (S8 _ _ ha),aG (j:=2) rfl,c,rfl,⟨_,SqT.of (S8 _ _ hc)⟩,?_⟩
   refine ed (by rw [List.length_map];omega) (S8 _ _ hc) (fun v=>[.str "part",.int (0+ (n:Int)),v]) (fun v H k _ hk=>⟨_,rfl,_,rfl,(by show 3<=sizeLine;decide),fun p hp=>hk p hp⟩) fun pl vs H9 hpl s9 gpl hTw=>?_
   have ew:(sq'.ups.map V.str).map (fun v=>[V.str "part",V.int (0+ (n:Int)),v])=(sq'.ups.map fun x=>Fm.part (0+ (n:Int)) x).map fmV:=by rw [List.map_map,List.map_map];rfl
   rw [ew]at hTw
   have grl9:=s9 _ _ grl
   have lz:=hT.len
   have lw:=hTw.len
   have lt:=dy 0 (qs.take n) fun s hs=>hok.2.2.2.2 s (hqs s (List.mem_of_mem_take hs))
   rw [List.length_map]at lz
   rw [List.length_map,List.length_map]at lw
   rw [List.length_take]at lt
   refine ⟨rl,pl,rv,vs,rfl,rfl,grl9,gpl,Nat.le_of_lt (aA (by omega)),?_⟩
   have tk:TK H9 (upd H9 rl (.lst (rv++vs))):=TK.lst grl9
   have tk8:TK H8 (upd H9 rl (.lst (rv++vs))):=(ax s9).trans tk
   refine ⟨_,rv++vs,rfl,?_,ac,?_⟩
   ·intro y oo h
    rw [am (ai h hrl)]
    exact s9 _ _ (S8 _ _ h)
   ·rw [List.take_add_one,hsq]
    show Tups _ ((bt 0 (qs.take n++[sq'])).map fmV) _
    rw [ib,List.map_append]
    have e9:(0:Int) + ((qs.take n).length:Int)=0+ (n:Int):=by rw [List.length_take];omega
    rw [e9]
    exact (hT.mono tk8).append (hTw.mono tk)
  ·rintro Z H8 ⟨o14,rv,rfl,S8,grl,hT⟩
   rw [List.take_of_length_le (by omega)]at hT
   have k68:Kp tp H5 H8:=k6.same S8
   refine hread3 sc sg hd sa nl fl st u gr mo ss ws sgs hok hdn hws hfl0 hnf hsg hsg1 hsg2 hops D i _ H2 H8 tp oa pa rl o qs zs rv m _ _ _ hB hi htp (fun b oo h=>k68 b oo (s5 b oo h) (ai h htp)) (tt6.same S8) ho (hoR.mono (k68.tk tt5)) hqs hql (S8 _ _ gpa) (hQ.mono (ax S8)) grl hT npt nrt hD
theorem sY {d:Int} (h0:0<=d) (h1:d<3): ∃ m:Int,atI [V.int 2,.int 3,.int 5] d=some (.int m)/\2<=m/\m<=5:=by
 have h5:d=0\/d=1\/d=2:=by omega
 rcases h5 with h | h | h <;> subst h <;> exact ⟨_,rfl,by decide,by decide⟩
structure BkN (bk:Bk):Prop where
 v:BkV bk
 sn: ∀ s∈bk.sorts,s.name≠"lone"
 fn: ∀ fr∈bk.forms,fr.name≠"lonely"/\fr.name≠"loneall"
theorem BookOk.n {bk:Bk} (h:BookOk bk):BkN bk:=⟨h.v,fun s hs=>(h.so.2.2.2.1 s hs).2,fun fr hf=>(h.wd fr hf).2⟩
theorem u9 {ss:List Srt} {frs:List Frm} (hok:cB ss) (hdn: ∀ s∈ss,s.downs=[]) (few:frs.length<=10) (f1:1<=frs.length) (nd:(frs.map Frm.name).Nodup) (wd: ∀ fr∈frs,be fr.name=true/\fr.name≠"lonely"/\fr.name≠"loneall") (fo: ∀ fr∈frs,vH ss fr):BkN ⟨0,ss,frs⟩:=by
 refine ⟨⟨⟨few,nd,hok.2.1,hok.2.2.1,fun s hs=>?_,fun fr hf=>?_⟩,.inl rfl,hok.1,f1,fun s hs=>⟨(hok.2.2.2.1 s hs).1,(hok.2.2.2.2 s hs).2.1⟩,fun fr hf=>(wd fr hf).1,fun fr hf r hrr=>((fo fr hf).2.2.2.2 r hrr).1,fun _=>⟨hdn,fun fr hf r hrr=>((fo fr hf).2.2.2.2 r hrr).2.1⟩⟩,fun s hs=>(hok.2.2.2.1 s hs).2,fun fr hf=>(wd fr hf).2⟩
 ·obtain ⟨a,b,c,d,_⟩:=hok.2.2.2.2 s hs
  exact ⟨c,d,a,fun x hx=>ba (b x hx)⟩
 ·obtain ⟨a,b,c,d,e⟩:=fo fr hf
  exact ⟨a,b,c,d,fun r hrr=>⟨(e r hrr).1.wf,(e r hrr).2.2⟩⟩
noncomputable def lP (K:PySem.W.Frag):Sp:=fun vs H Q _=> ∃ (sc sg:Addr) (ns:List Int) (st u:Int) (sgs:List Str),vs=[.ref sc,.int st,.int u,.ref sg]/\SqL K H sc (ns.map V.int)/\ns.length<=63/\0<=st/\st<900/\1<=u/\u<=3/\H sg=some (.lst (sgs.map V.str))/\1<=sgs.length/\sgs.length<=1000/\(∀ x∈sgs,x∈ops)/\
 ∀ v bk H',RepB H' bk v->BkN bk->Same H H'->Q v H'
theorem tq {cdv:Value} {A:Around} {outer:List Env} {s:Shared} {H H0:Hp} {E:XK} (G:Gb mg)
  (GD:FnOk P w K mg base CX0 1 g gd ["tape","many"] ca) (bD:Binds K gd ["tape","many"] []) (kD:PySem.W.keepIn K (.ref g)=true) (mD:mg "_law_digit"=some (.ref g))
  (GL:FnOk P w K mg base CX0 11 f2 fd2 ["tape","readings","room","signs"] (hX 8)) (bL:Binds K fd2 ["tape","readings","room","signs"] []) (kL:PySem.W.keepIn K (.ref f2)=true) (mL:mg "_law_level_formula"=some (.ref f2))
  (hr:Room 11 (c7 CX0 P w K mg base jt "_law_level_book" (ag cA) f cdv A outer s H0 E).nox.A):
  ∃ t,PSs (c7 CX0 P w K mg base jt "_law_level_book" (ag cA) f cdv A outer s H0 E).nox (lvFor.drop 3) t/\
   ∀ (sc sg hd sa nl fl:Addr) (st u gr mo:Int) (ss:List Srt) (ws sgs:List Str),cB ss->(∀ s∈ss,s.downs=[])->ws.length=10->H fl=none->nl≠fl->H sg=some (.lst (sgs.map V.str))->1<=sgs.length->sgs.length<=1000->(∀ x∈sgs,x∈ops)->
   ∀ (D:eE) (i:Nat) (Z:St) (H2 H5:Hp) (tp oa:Addr) (o:Srt) (o13 o14 o15 o16 o17 o18:Option V),jp H sc sg hd sa nl fl st u gr mo ss ws i Z H2->i<10->H2 tp=none->Same H2 H5->Tp H5 tp->o∈ss->RepS H5 o (.ref oa)->
    (∀ Z' H',jp H sc sg hd sa nl fl st u gr mo ss ws (i+1) Z' H'->D.nx Z' H')->
    t D [some (.ref sc),some (.int st),some (.int u),some (.ref sg),some (.ref hd),some (.int gr),some (.int mo),some (.ref sa),some (.ref nl),some (.ref fl),some (.int (0+ (i:Int))),some (.ref tp),some (.ref oa),o13,o14,o15,o16,o17,o18] H5:=by
 have hr1:=hr.mono (show 1<=11 by decide)
 obtain ⟨t2,ht2,hread2⟩:=tm (cdv:=cdv) (A:=A) (outer:=outer) (s:=s) (H:=H) (H0:=H0) (E:=E) (f:=f) G GD bD kD mD GL bL kL mL hr
 refine ⟨_,ad (aq (i:=13) scLvB.nd rfl (Or.inl rfl) (av aM (bf (aa ae (aa ae (aa ae (aa ae (aa ae ab)))))) (af GD hr1 rfl mD kD bD .nil al (aa (pv 11) (aa ae ab))) (fun _ _=>rfl)))
  (ad (aL (PW.pt (c6 (aF bj (pv 10) ae (aE _)) (cD (PW.pt (eY (aF bj (pv 5) ae (aE _)) (dD (aF fI (pv 10) (ao ar rfl G.len PySem.boot_len (aa (pv 7) ab)) (aE _))))))))
   (aj (aq (i:=13) scLvB.nd rfl (Or.inl rfl) ae)) aC) ht2),?_⟩
 intro sc sg hd sa nl fl st u gr mo ss ws sgs hok hdn hws hfl0 hnf hsg hsg1 hsg2 hops D i Z H2 H5 tp oa o o13 o14 o15 o16 o17 o18 hB hi htp s5 tt5 ho hoR hD
 obtain ⟨xs,gsa,hR⟩:SrtsAt H5 sa ss:=by
  obtain ⟨_,_,_,_,_,_,_,_,_,_,_,_,_,h,_⟩:=hB
  exact h.mono (ax s5)
 refine ⟨(by show 5<=sizeLine;decide),fun p hp=>?_⟩
 have npt:=cS tt5 hp
 refine ⟨_,rfl,tp,5,rfl,tt5.new hp,by decide,by decide,fun d t hd0 hd1=>?_⟩
 obtain ⟨m,em,hm0,hm3⟩:=pi hd0 hd1
 refine ⟨p,_,d,.int m,rfl,rfl,SqL.of (by rw [am npt];exact ac),em,?_⟩
 have k6:Kp tp H5 (upd (upd H5 p (.lst [.int 2,.int 1,.int 3,.int 2,.int 0])) tp (.lst [.int t])):=(Kp.refl.new hp).trans Kp.tape
 have tt6:Tp (upd (upd H5 p (.lst [.int 2,.int 1,.int 3,.int 2,.int 0])) tp (.lst [.int t])) tp:=⟨t,ac⟩
 generalize upd (upd H5 p (.lst [.int 2,.int 1,.int 3,.int 2,.int 0])) tp (.lst [.int t])=H6 at k6 tt6 ⊢
 have s6:Same H2 H6:=fun b oo h=>k6 b oo (s5 b oo h) (ai h htp)
 have gsa6:=k6.tk tt5 _ _ gsa
 have hoR6:=hoR.mono (k6.tk tt5)
 have go:=fun (m:Int) (hm0:0<=m) (hm3:m<=3)=>hread2 sc sg hd sa nl fl st u gr mo ss ws sgs hok hdn hws hfl0 hnf hsg hsg1 hsg2 hops D i Z H2 H6 tp oa o m o14 o15 o16 o17 o18 hB hi htp s6 tt6 ho hoR6 hm0 hm3 hD
 refine ⟨_,rfl,rfl,_,rfl,?_⟩
 refine bx (fun c=>cX ?_) (fun c=>?_)
 ·exact go 0 (by decide) (by decide)
 refine ⟨_,rfl,rfl,_,rfl,?_⟩
 refine bx (fun c2=>?_) (fun c2=>aX ?_)
 ·refine ⟨_,rfl,_,rfl,sa,xs,rfl,.inr (SqT.of gsa6),_,_,rfl,rfl,_,rfl,?_⟩
  refine bx (fun c3=>?_) (fun c3=>?_)
  ·exact go 0 (by decide) (by decide)
  ·exact go m hm0 hm3
 ·exact go m hm0 hm3
theorem qp (F:Fun K "_law_level_book" "_law_level_book" cA f fd) (G:Gb mg)
  (GD:FnOk P w K mg base CX0 1 g gd ["tape","many"] ca) (bD:Binds K gd ["tape","many"] []) (kD:PySem.W.keepIn K (.ref g)=true) (mD:mg "_law_digit"=some (.ref g))
  (GL:FnOk P w K mg base CX0 11 f2 fd2 ["tape","readings","room","signs"] (hX 8)) (bL:Binds K fd2 ["tape","readings","room","signs"] []) (kL:PySem.W.keepIn K (.ref f2)=true) (mL:mg "_law_level_formula"=some (.ref f2))
  (GT:FnOk P w K mg base CX0 2 f3 fd3 ["script","k"] (jX K)) (bT:Binds K fd3 ["script","k"] []) (kT:PySem.W.keepIn K (.ref f3)=true) (mT:mg "_law_tape"=some (.ref f3))
  (GS:FnOk P w K mg base CX0 3 f4 fd4 ["tape","ups"] jA) (bS:Binds K fd4 ["tape","ups"] []) (kS:PySem.W.keepIn K (.ref f4)=true) (mS:mg "_law_level_sorts"=some (.ref f4))
  (GN:FnOk P w K mg base CX0 2 f5 fd5 ["tape","many"] eQ) (bN:Binds K fd5 ["tape","many"] []) (kN:PySem.W.keepIn K (.ref f5)=true) (mN:mg "_law_names"=some (.ref f5)):
  FnOk P w K mg base CX0 12 f fd ["script","start","ups","signs"] (lP K):=by
 refine F.ok scLvB (fun vs H Q E h=>?_) (fun cdv A outer s H vs Q E hr h=>?_)
 ·obtain ⟨sc,sg,ns,st,u,sgs,rfl,_⟩:=h
  rfl
 obtain ⟨sc,sg,ns,st,u,sgs,rfl,hS,hns,hst0,hst1,hu1,hu3,hsg,hsg1,hsg2,hops,q⟩:=h
 have hr1:=hr.mono (show 1<=11 by decide)
 have hr2:=hr.mono (show 2<=11 by decide)
 have hr3:=hr.mono (show 3<=11 by decide)
 obtain ⟨t1,ht1,hread1⟩:=tq (cdv:=cdv) (A:=A) (outer:=outer) (s:=s) (H:=H) (H0:=H) (E:=E) (f:=f) G GD bD kD mD GL bL kL mL hr
 refine ⟨_,ad (aq (i:=4) scLvB.nd rfl (Or.inl rfl) (af GT hr2 rfl mT kT bT .nil al (pac (pv 0) (pac (pv 1) ab))))
  (ad (aq (i:=5) scLvB.nd rfl (Or.inl rfl) (af GD hr1 rfl mD kD bD .nil al (pac (pv 4) (pac ae ab))))
  (ad (aq (i:=6) scLvB.nd rfl (Or.inl rfl) (af GD hr1 rfl mD kD bD .nil al (pac (pv 4) (pac (av aM (bf (pac ae (pac ae (pac ae ab)))) (af GD hr1 rfl mD kD bD .nil al (pac (pv 4) (pac ae ab))) (fun _ _=>rfl)) ab))))
  (ad (aq (i:=7) scLvB.nd rfl (Or.inr rfl) (af GS hr3 rfl mS kS bS .nil al (pac (pv 4) (pac (pv 2) ab))))
  (ad (aq (i:=8) scLvB.nd rfl (Or.inl rfl) (af GN hr2 rfl mN kN bN .nil al (pac (pv 4) (pac ae ab))))
  (ad (aq (i:=9) scLvB.nd rfl (Or.inl rfl) (bf ab))
  (ad (bQ PassesOwn.never rfl (bq rfl G.range (aa (ao (jR rfl) rfl G.min (by decide +kernel) (aa ae (aa (aB aW (ao ar rfl G.len PySem.boot_len (aa (pv 7) ab)) (pv 6)) ab))) ab)) (aH (i:=10) scLvB.nd rfl (Or.inl rfl))
   (ad (aq (i:=11) scLvB.nd rfl (Or.inr rfl) (af GT hr2 rfl mT kT bT .nil al (aa (pv 0) (aa (aB aW (aB aW (pv 1) ae) (pv 10)) ab))))
   (ad (aq (i:=12) scLvB.nd rfl (Or.inl rfl) (av ay (pv 7) (aB cE (pv 10) (ao ar rfl G.len PySem.boot_len (aa (pv 7) ab))) (fun _ _=>rfl)))
   (ad (aL (aF vA (pv 10) (ao ar rfl G.len PySem.boot_len (aa (pv 7) ab)) (aE _))
    (aj (aq (i:=12) scLvB.nd rfl (Or.inl rfl) (av ay (pv 7) (af GD hr1 rfl mD kD bD .nil al (aa (pv 11) (aa (ao ar rfl G.len PySem.boot_len (aa (pv 7) ab)) ab))) (fun _ _=>rfl)))) aC) ht1))))
  (aj (aw (aJ (aa ae (aa (pv 7) (aa (bg a8 rfl G.tuple (by decide +kernel) (aa (pv 9) ab)) ab)))))))))))),?_⟩
 refine ⟨_,rfl,_,rfl,sc,ns,st,rfl,hS,hns,hst0,by omega,fun hd t0 hhd=>?_⟩
 have S1:=ah hhd (.lst [.int t0])
 have tt1:Tp (upd H hd (.lst [.int t0])) hd:=⟨t0,ac⟩
 generalize upd H hd (.lst [.int t0])=H1 at S1 tt1 ⊢
 refine ⟨_,rfl,hd,2,rfl,tt1,by decide,by decide,fun gr t3 _ _=>?_⟩
 have k5:Kp hd H1 (upd H1 hd (.lst [.int t3])):=Kp.tape
 have tt5:Tp (upd H1 hd (.lst [.int t3])) hd:=⟨t3,ac⟩
 generalize upd H1 hd (.lst [.int t3])=H5 at k5 tt5 ⊢
 refine ⟨_,rfl,(by show 3<=sizeLine;decide),fun p hp=>?_⟩
 have np:=cS tt5 hp
 refine ⟨_,rfl,hd,3,rfl,tt5.new hp,by decide,by decide,fun d t4 hd0 hd1=>?_⟩
 obtain ⟨mm,emm,hmm3,hmm7⟩:=sY hd0 hd1
 refine ⟨p,_,d,.int mm,rfl,rfl,SqL.of (by rw [am np];exact ac),emm,?_⟩
 have k6:Kp hd H1 (upd (upd H5 p (.lst [.int 2,.int 3,.int 5])) hd (.lst [.int t4])):=(k5.new hp).trans Kp.tape
 have tt6:Tp (upd (upd H5 p (.lst [.int 2,.int 3,.int 5])) hd (.lst [.int t4])) hd:=⟨t4,ac⟩
 generalize upd (upd H5 p (.lst [.int 2,.int 3,.int 5])) hd (.lst [.int t4])=H6 at k6 tt6 ⊢
 refine ⟨hd,mm,rfl,tt6,by omega,by omega,fun mo t5 hmo0 hmo1=>?_⟩
 have k7:Kp hd H1 (upd H6 hd (.lst [.int t5])):=k6.trans Kp.tape
 have tt7:Tp (upd H6 hd (.lst [.int t5])) hd:=⟨t5,ac⟩
 generalize upd H6 hd (.lst [.int t5])=H7 at k7 tt7 ⊢
 refine ⟨_,rfl,_,rfl,hd,u,rfl,tt7,hu1,hu3,fun sa ss xs H8 gsa hR hok hs3 hss k8 tt8=>?_⟩
 refine ⟨_,rfl,hd,10,rfl,tt8,by decide,by decide,fun nl ws H9 gnl hnl hN hnh k9 tt9=>?_⟩
 refine ⟨(by show 0<=sizeLine;decide),fun fl hfl=>?_⟩
 have k19:Kp hd H1 H9:=k7.trans (k8.trans k9)
 have S9:Same H H9:=fun b oo h=>k19 b oo (S1 b oo h) (ai h hhd)
 have s10:=ah hfl (.lst [])
 have hfl0:=S9.free hfl
 have hnf:nl≠fl:=ai gnl hfl
 have S5:=S9.trans s10
 have tk810:TK H8 (upd H9 fl (.lst [])):=(k9.tk tt8).trans (ax s10)
 have gsa:=tk810 _ _ gsa
 have hR:=hR.mono tk810
 have gnl:=s10 _ _ gnl
 have gfl:(upd H9 fl (.lst [])) fl=some (.lst []):=ac
 generalize upd H9 fl (.lst [])=H10 at S5 gsa hR gnl gfl ⊢
 have hdn: ∀ s∈ss,s.downs=[]:=fun s hs=>(hss s hs).1
 obtain ⟨nLen,nNd,nWd⟩:=hN.ok (by decide)
 have nLone:=hN.lone (by decide)
 have lxs:=hR.len
 have l1:=hok.1
 have l4:=hok.2.1
 obtain ⟨n,en,hn1,hn2⟩: ∃ n:Int,(if (xs.length:Int) +mo<10 then (xs.length:Int) +mo else 10)=n/\(xs.length:Int)<=n/\n<=10:=⟨_,rfl,by split <;> omega,by split <;> omega⟩
 refine ⟨_,rfl,sa,xs,rfl,.inr (SqT.of gsa),_,rfl,_,_,rfl,rfl,_,_,rfl,?_⟩
 rw [en]
 refine ⟨n,rfl,by omega,by omega,?_⟩
 refine cL (fun i Z H'=>jp H sc sg hd sa nl fl st u gr mo ss ws i Z H')
  ⟨none,none,none,none,none,none,none,none,none,[],[],rfl,S5,⟨xs,gsa,hR⟩,gnl,gfl,.nil,rfl,rfl,fun _ h=>(by cases h)⟩ ?_ ?_
 ·intro i Z H6 hi hB
  have hB':=hB
  obtain ⟨o10,o11,o12,o13,o14,o15,o16,o17,o18,fv,frs,rfl,S6,hsa6,gnl6,gfl6,hF6,_⟩:=hB'
  obtain ⟨xs6,gsa6,hR6⟩:=hsa6
  have lx6:=hR6.len
  refine ⟨_,rfl,_,rfl,_,_,rfl,rfl,_,rfl,_,_,rfl,rfl,sc,ns,_,rfl,SqL.keep hS (fun oo h=>S6 _ _ h),hns,by omega,by omega,fun tp t0 htp=>?_⟩
  have s7:=ah htp (.lst [.int t0])
  have tt7:Tp (upd H6 tp (.lst [.int t0])) tp:=⟨t0,ac⟩
  generalize upd H6 tp (.lst [.int t0])=H7 at s7 tt7 ⊢
  have gsa7:=s7 _ _ gsa6
  have hR7:=hR6.mono (ax s7)
  have hm0:0<=(0+ (i:Int)) % (xs6.length:Int):=Int.emod_nonneg _ (by omega)
  have hm1:(0+ (i:Int)) % (xs6.length:Int) <xs6.length:=Int.emod_lt_of_pos _ (by omega)
  obtain ⟨x,ex,ex2⟩:=fj hm0 hm1
  obtain ⟨o,ho,hoR⟩:=aN hR7 ex2
  have hoR':=hoR
  obtain ⟨oa,_,_,rfl,_⟩:=hoR'
  refine ⟨_,rfl,_,rfl,_,rfl,sa,xs6,rfl,.inr (SqT.of gsa7),_,_,rfl,rfl,(by show (0:Int) <xs6.length;omega),sa,xs6,_,.ref oa,rfl,rfl,SqT.of gsa7,ex,?_⟩
  refine ⟨_,rfl,_,rfl,sa,xs6,rfl,.inr (SqT.of gsa7),_,_,rfl,rfl,_,rfl,?_⟩
  refine bx (fun c=>?_) (fun c=>?_)
  ·refine ⟨_,rfl,_,rfl,_,rfl,sa,xs6,rfl,.inr (SqT.of gsa7),tp,_,rfl,tt7,by omega,by omega,fun d t1 hd0 hd1=>?_⟩
   have k8:Kp tp H7 (upd H7 tp (.lst [.int t1])):=Kp.tape
   have tt8:Tp (upd H7 tp (.lst [.int t1])) tp:=⟨t1,ac⟩
   generalize upd H7 tp (.lst [.int t1])=H8 at k8 tt8 ⊢
   have tk8:=k8.tk tt7
   obtain ⟨x2,ey,ey2⟩:=fj hd0 hd1
   obtain ⟨o2,ho2,hoR2⟩:=aN hR7 ey2
   have hoR':=hoR2
   obtain ⟨oa2,_,_,rfl,_⟩:=hoR'
   refine ⟨sa,xs6,d,.ref oa2,rfl,rfl,SqT.of (tk8 _ _ gsa7),ey,?_⟩
   exact hread1 sc sg hd sa nl fl st u gr mo ss ws sgs hok hdn nLen hfl0 hnf hsg hsg1 hsg2 hops _ i _ H6 H8 tp oa2 o2 _ _ _ _ _ _ hB (by omega) htp (fun y oo h=>k8 y oo (s7 y oo h) (ai h htp)) tt8 (List.mem_of_getElem? ho2) (RepS.mono tk8 hoR2) (fun Z' H' h=>h)
  ·exact hread1 sc sg hd sa nl fl st u gr mo ss ws sgs hok hdn nLen hfl0 hnf hsg hsg1 hsg2 hops _ i _ H6 H7 tp oa o _ _ _ _ _ _ hB (by omega) htp s7 tt7 (List.mem_of_getElem? ho) hoR (fun Z' H' h=>h)
 ·rintro Z H6 ⟨o10,o11,o12,o13,o14,o15,o16,o17,o18,fv,frs,rfl,S6,hsa6,gnl6,gfl6,hF6,lfr,hnm,hfok⟩
  refine ⟨_,rfl,_,rfl,fl,fv,rfl,.inl ⟨SqL.of gfl6,fun fa hfa=>?_⟩⟩
  have s7:=ah hfa (.tup fv)
  have g7:(upd H6 fa (.tup fv)) fa=some (.tup fv):=ac
  generalize upd H6 fa (.tup fv)=H7 at s7 g7 ⊢
  refine ⟨(by show 3<=sizeLine;decide),fun pb hpb=>?_⟩
  have s8:=ah hpb (.tup [.int 0,.ref sa,.ref fa])
  have tk68:=ax (s7.trans s8)
  refine q (.ref pb) ⟨0,ss,frs⟩ _ ⟨pb,sa,fa,fv,rfl,ac,hsa6.mono tk68,s8 _ _ g7,hF6.mono tk68⟩ ?_ (S6.trans (s7.trans s8))
  refine u9 hok hdn (by omega) (by omega) ?_ (fun fr hfr=>?_) hfok
  ·rw [hnm]
   exact nNd.sublist (List.take_sublist _ _)
  ·have hm:fr.name∈ws:=List.mem_of_mem_take (i:=n.toNat) (by rw [<- hnm];exact List.mem_map_of_mem hfr)
   exact ⟨nWd _ hm,(nLone _ hm).2⟩
end My
namespace L2
open PySem PySem.Spec PyProof.Rows
noncomputable def xn:R2:=fun x y H Q=> ∃ a b xs ys,x=.ref a/\y=.ref b/\H a=some (.tup xs)/\H b=some (.tup ys)/\xs.length+ys.length<=sizeLine/\ ∀ p H',(∀ b o,H b=some o->H' b=some o)->H' p=some (.tup (xs++ys))->Q (.ref p) H'
theorem lc {X:Cx}:OpR X (binaryOp .Add) xn:=by
 intro pins s Z H x y v u Q I rx ry h
 obtain ⟨a,b,xs,ys,e1,e2,h1,h2,h3,q⟩:=h
 refine ja pins s Z H x y v u Q I rx ry ⟨a,b,xs,ys,e1,e2,SqT.of h1,SqT.of h2,h3,fun e=>q b H (fun _ _ h=>h) ?_,fun _ e=>q a H (fun _ _ h=>h) ?_,fun _ _ p hp=>q p _ (fun b o e=>by rw [am (ai e hp)];exact e) ac⟩
 ·rw [e];exact h2
 ·rw [e,List.append_nil];exact h1
noncomputable def xg (K:PySem.W.Frag):R2:=fun x y H Q=> ∃ a v,x=.ref a/\y=.int 3/\SqT K H a [v]/\ ∀ p,H p=none->Q (.ref p) (upd H p (.tup [v,v,v]))
theorem uO {X:Cx}:OpR X (binaryOp .Mult) (xg X.K):=by
 intro pins s Z H x y v u Q I rx ry h
 obtain ⟨a,z,e1,e2,h1,q⟩:=h
 exact uN pins s Z H x y v u Q I rx ry ⟨a,z,3,e1,e2,h1,.inr (.inr (.inr rfl)),fun e=>(by cases e),fun p hp _=>q p hp⟩
end L2
namespace My
open PySem L2
theorem jO (xs:List V) (n:Nat):c8 xs none (some (n:Int))=xs.take n:=by
 unfold c8
 rw [HT.sIx_nat,HT.sIx_none,List.drop_zero,Nat.sub_zero]
 by_cases h:n<=xs.length
 ·rw [Nat.min_eq_left h]
 ·rw [Nat.min_eq_right (by omega),List.take_length,List.take_of_length_le (by omega)]
theorem dz {α β:Type} {F:α->β->Prop}: ∀ {a c:List α} {b d:List β},Paired F a b->Paired F c d->Paired F (a++c) (b++d)
 | _,_,_,_,.nil,h=>h
 | _,_,_,_,.cons x t,h=>.cons x (dz t h)
noncomputable def oT (K:PySem.W.Frag):Sp:=fun vs H Q _=> ∃ (a:Addr) (ns:List Int),vs=[.ref a]/\SqL K H a (ns.map V.int)/\ns.length<=63/\ ∀ H',Q (.bl true) H'
noncomputable abbrev oO:List Str:=["script","book","level","one","lone","forms"]
theorem scLaw:au oO ["script"] (ag dU):=fsc
noncomputable def lawFor:List Stmt:=lB ((cH dU).getD 2 (.Pass ⟨0,0,0,0⟩))
theorem tE {cdv:Value} {A:Around} {outer:List Env} {s:Shared} {H0:Hp} {E:XK}
  (GR:FnOk P w K mg base CX0 19 f4 fd4 ["book"] eP) (bR:Binds K fd4 ["book"] []) (kR:PySem.W.keepIn K (.ref f4)=true) (mR:mg "_law_right"=some (.ref f4))
  (hr:Room 19 (c7 CX0 P w K mg base oO "law" (ag dU) f cdv A outer s H0 E).nox.A):
  ∃ t,PSs (c7 CX0 P w K mg base oO "law" (ag dU) f cdv A outer s H0 E).nox (lawFor.drop 4) t/\
   ∀ (D:eE) (o0 o1 o2:Option V) (b la fa:Addr) (bk:Bk) (lv fv:List V) (H3:Hp),RepB H3 bk (.ref b)->BkN bk->H3 la=some (.tup lv)->RepSs H3 [cC] lv->H3 fa=some (.tup fv)->RepFs H3 loneF fv->
    (∀ H',Same H3 H'->D.nx [o0,o1,o2,some (.ref b),some (.ref la),some (.ref fa)] H')->t D [o0,o1,o2,some (.ref b),some (.ref la),some (.ref fa)] H3:=by
 refine ⟨_,aj (aL (aY (aT (af GR hr rfl mR kR bR .nil al (aa (aJ (aa (av ay (pv 3) ae (fun _ _=>rfl)) (aa (pv 4) (aa (pv 5) ab)))) ab)))) aK aC),?_⟩
 intro D o0 o1 o2 b la fa bk lv fv H3 hB hN gla hl gfa hf q
 obtain ⟨b',sa,ga,gv,eb,hb,_⟩:=id hB
 cases eb
 refine ⟨_,rfl,b,_,0,.int bk.wheel,rfl,rfl,SqT.of hb,bV,_,rfl,_,rfl,(by show 3<=sizeLine;decide),fun p hp=>?_⟩
 have s4:=ah hp (.tup [.int bk.wheel,.ref la,.ref fa])
 have g4:(upd H3 p (.tup [.int bk.wheel,.ref la,.ref fa])) p=some (.tup [.int bk.wheel,.ref la,.ref fa]):=ac
 generalize upd H3 p (.tup [.int bk.wheel,.ref la,.ref fa])=H4 at s4 g4 ⊢
 exact ⟨.ref p,⟨bk.wheel,[cC],loneF⟩,rfl,⟨p,la,fa,fv,rfl,g4,⟨lv,s4 _ _ gla,hl.mono (ax s4)⟩,s4 _ _ gfa,hf.mono (ax s4)⟩,BkV.lone _ hN.v.wh,fun H5 s5=>⟨true,rfl,aX (q H5 (s4.trans s5))⟩⟩
theorem tD {cdv:Value} {A:Around} {outer:List Env} {s:Shared} {H0:Hp} {E:XK} (G:Gb mg)
  (GR:FnOk P w K mg base CX0 19 f4 fd4 ["book"] eP) (bR:Binds K fd4 ["book"] []) (kR:PySem.W.keepIn K (.ref f4)=true) (mR:mg "_law_right"=some (.ref f4))
  (hr:Room 19 (c7 CX0 P w K mg base oO "law" (ag dU) f cdv A outer s H0 E).nox.A):
  ∃ t,PSs (c7 CX0 P w K mg base oO "law" (ag dU) f cdv A outer s H0 E).nox (lawFor.drop 3) t/\
   ∀ (D:eE) (o0 o1 o2:Option V) (b la fa:Addr) (bk:Bk) (lv fv:List V) (H3:Hp),RepB H3 bk (.ref b)->BkN bk->H3 la=some (.tup lv)->RepSs H3 [cC] lv->H3 fa=some (.tup fv)->RepFs H3 loneF fv->
    (∀ H',Same H3 H'->D.nx [o0,o1,o2,some (.ref b),some (.ref la),some (.ref fa)] H')->t D [o0,o1,o2,some (.ref b),some (.ref la),some (.ref fa)] H3:=by
 obtain ⟨t,ht,hlast⟩:=tE (f:=f) (cdv:=cdv) (A:=A) (outer:=outer) (s:=s) (H0:=H0) (E:=E) GR bR kR mR hr
 refine ⟨_,ad (aL (PW.pt (eY (aF fI (ao ar rfl G.len PySem.boot_len (aa (av ay (pv 3) ae (fun _ _=>rfl)) ab)) ae (aE _))
   (dD (aY (aT (af GR hr rfl mR kR bR .nil al (aa (aJ (aa (av ay (pv 3) ae (fun _ _=>rfl)) (aa (aB lc (av ay (pv 3) ae (fun _ _=>rfl)) (pv 4)) (aa (aB lc (a7 kf (av ay (pv 3) ae (fun _ _=>rfl)) bp (bh ae)) (pv 5)) ab)))) ab))))))) aK aC) ht,?_⟩
 intro D o0 o1 o2 b la fa bk lv fv H3 hB hN gla hl gfa hf q
 obtain ⟨b',sa,ga,gv,eb,hb,⟨sx,hsa,hSs⟩,hga,hF⟩:=id hB
 cases eb
 have lF:=hF.len
 have lf:=hf.len
 have ll:=hl.len
 have lS:bk.sorts.length=sx.length:=hSs.len
 have hfew:=hN.v.s.few
 have h4s:=hN.v.s.s4
 have llo:[cC].length=1:=rfl
 have lfo:loneF.length=2:=rfl
 have go: ∀ H4,Same H3 H4->t D [o0,o1,o2,some (.ref b),some (.ref la),some (.ref fa)] H4:=fun H4 s4=>
  hlast D o0 o1 o2 b la fa bk lv fv H4 (hB.mono (ax s4)) hN (s4 _ _ gla) (hl.mono (ax s4)) (s4 _ _ gfa) (hf.mono (ax s4)) fun H' s'=>q H' (s4.trans s')
 refine ⟨_,rfl,b,_,1,.ref sa,rfl,rfl,SqT.of hb,aG (j:=1) rfl,sa,sx,rfl,.inr (SqT.of hsa),_,_,rfl,rfl,_,rfl,?_⟩
 refine bx (fun c=>?_) (fun _=>aX (go H3 (Same.refl _)))
 have c4:bk.sorts.length<4:=by
  have:=of_decide_eq_true c
  omega
 refine ⟨_,rfl,b,_,0,.int bk.wheel,rfl,rfl,SqT.of hb,bV,?_⟩
 refine ⟨_,rfl,b,_,1,.ref sa,rfl,rfl,SqT.of hb,aG (j:=1) rfl,_,rfl,sa,la,sx,lv,rfl,rfl,hsa,gla,Nat.le_of_lt (aA (by omega)),fun p5 H5 s5 g5=>?_⟩
 refine ⟨_,rfl,b,_,2,.ref ga,rfl,rfl,SqT.of (s5 _ _ hb),aG (j:=2) rfl,8,rfl,ga,gv,rfl,s5 _ _ hga,fun p6 H6 s6 g6=>?_⟩
 rw [show c8 gv none (some 8)=gv.take 8 from jO gv 8]at g6
 have S36:Same H3 H6:=fun b o h=>s6 _ _ (s5 _ _ h)
 refine ⟨_,rfl,p6,fa,_,fv,rfl,rfl,g6,S36 _ _ gfa,Nat.le_of_lt (aA (by rw [List.length_take];omega)),fun p7 H7 s7 g7=>?_⟩
 have S37:Same H3 H7:=fun b o h=>s7 _ _ (S36 _ _ h)
 refine ⟨(by show 3<=sizeLine;decide),fun p8 hp8=>?_⟩
 have s8:=ah hp8 (.tup [.int bk.wheel,.ref p5,.ref p7])
 have g8:(upd H7 p8 (.tup [.int bk.wheel,.ref p5,.ref p7])) p8=some (.tup [.int bk.wheel,.ref p5,.ref p7]):=ac
 generalize upd H7 p8 (.tup [.int bk.wheel,.ref p5,.ref p7])=H8 at s8 g8 ⊢
 have S38:=S37.trans s8
 have tk8:=ax S38
 exact ⟨.ref p8,⟨bk.wheel,bk.sorts++[cC],bk.forms.take 8++loneF⟩,rfl,⟨p8,p5,p7,_,rfl,g8,⟨_,s8 _ _ (s7 _ _ (s6 _ _ g5)),dz (hSs.mono tk8) (hl.mono tk8)⟩,s8 _ _ g7,dz (dG (hF.mono tk8) 8) (hf.mono tk8)⟩,hN.v.more c4 hN.sn hN.fn,fun H9 s9=>⟨true,rfl,aX (go H9 (S38.trans s9))⟩⟩
theorem tH {cdv:Value} {A:Around} {outer:List Env} {s:Shared} {H0:Hp} {E:XK} (G:Gb mg)
  (GR:FnOk P w K mg base CX0 19 f4 fd4 ["book"] eP) (bR:Binds K fd4 ["book"] []) (kR:PySem.W.keepIn K (.ref f4)=true) (mR:mg "_law_right"=some (.ref f4))
  (hr:Room 19 (c7 CX0 P w K mg base oO "law" (ag dU) f cdv A outer s H0 E).nox.A):
  ∃ t,PSs (c7 CX0 P w K mg base oO "law" (ag dU) f cdv A outer s H0 E).nox lawFor t/\
   ∀ (D:eE) (o0 o1 o2 o4 o5:Option V) (b:Addr) (bk:Bk) (H3:Hp),RepB H3 bk (.ref b)->BkN bk->
    (∀ H' o4 o5,Same H3 H'->D.nx [o0,o1,o2,some (.ref b),o4,o5] H')->t D [o0,o1,o2,some (.ref b),o4,o5] H3:=by
 obtain ⟨t,ht,htail⟩:=tD (f:=f) (cdv:=cdv) (A:=A) (outer:=outer) (s:=s) (H0:=H0) (E:=E) G GR bR kR mR hr
 refine ⟨_,ad (aL (PW.pt (c6 (aY (aT (af GR hr rfl mR kR bR .nil al (aa (pv 3) ab))))
   (cD (aY (aT (af GR hr rfl mR kR bR .nil al (aa (aB lc (a7 kf (pv 3) bp (bh ae)) (aJ (aa (a7 kf (av ay (pv 3) ae (fun _ _=>rfl)) bp (bh ae)) ab))) ab))))))) aK aC)
  (ad (aq (i:=4) scLaw.nd rfl (Or.inl rfl) (aJ (pac (aJ (pac aP (pac (aJ ab) (pac (aJ ab) ab)))) ab)))
  (ad (aq (i:=5) scLaw.nd rfl (Or.inl rfl) (aJ (pac (aJ (pac aP (pac aP (pac (aJ ab) (pac (aJ ab) ab))))) (pac (aJ (pac aP (pac aP (pac (aB uO (aJ (pac aP ab)) ae) (pac (aJ ab) ab))))) ab)))) ht)),?_⟩
 intro D o0 o1 o2 o4 o5 b bk H3 hB hN q
 refine ⟨_,rfl,.ref b,bk,rfl,hB,hN.v,fun H4 s4=>⟨true,rfl,aX ?_⟩⟩
 obtain ⟨b',sa,ga,gv,eb,hb,hSA,hga,hF⟩:=id hB
 cases eb
 refine ⟨_,rfl,2,rfl,b,_,rfl,s4 _ _ hb,fun p5 H5 s5 g5=>?_⟩
 rw [show c8 [V.int bk.wheel,.ref sa,.ref ga] none (some 2)=[V.int bk.wheel,.ref sa]from rfl]at g5
 refine ⟨_,rfl,b,_,2,.ref ga,rfl,rfl,SqT.of (s5 _ _ (s4 _ _ hb)),aG (j:=2) rfl,1,rfl,ga,gv,rfl,s5 _ _ (s4 _ _ hga),fun p6 H6 s6 g6=>?_⟩
 rw [show c8 gv none (some 1)=gv.take 1 from jO gv 1]at g6
 refine ⟨(by show 1<=sizeLine;decide),fun p7 hp7=>?_⟩
 have s7:=ah hp7 (.tup [.ref p6])
 have g7:(upd H6 p7 (.tup [.ref p6])) p7=some (.tup [.ref p6]):=ac
 generalize upd H6 p7 (.tup [.ref p6])=H7 at s7 g7 ⊢
 refine ⟨p5,p7,_,_,rfl,rfl,s7 _ _ (s6 _ _ g5),g7,(by show 3<=sizeLine;decide),fun p8 H8 s8 g8=>?_⟩
 have S38:Same H3 H8:=fun b o h=>s8 _ _ (s7 _ _ (s6 _ _ (s5 _ _ (s4 _ _ h))))
 have tk8:=ax S38
 refine ⟨.ref p8,⟨bk.wheel,bk.sorts,bk.forms.take 1⟩,rfl,⟨p8,sa,p6,gv.take 1,rfl,g8,hSA.mono tk8,s8 _ _ (s7 _ _ g6),dG (hF.mono tk8) 1⟩,hN.v.one,fun H9 s9=>⟨true,rfl,aX ?_⟩⟩
 have S39:=S38.trans s9
 clear g5 g6 g7 g8 s5 s6 s7 s8 s4
 refine ⟨(by show 0<=sizeLine;decide),fun a1 ha1=>?_⟩
 have t1:=ah ha1 (.tup [])
 have e1:(upd H9 a1 (.tup [])) a1=some (.tup []):=ac
 generalize upd H9 a1 (.tup [])=I1 at t1 e1 ⊢
 refine ⟨(by show 0<=sizeLine;decide),fun a2 ha2=>?_⟩
 have t2:=ah ha2 (.tup [])
 have e2:(upd I1 a2 (.tup [])) a2=some (.tup []):=ac
 generalize upd I1 a2 (.tup [])=I2 at t2 e2 ⊢
 refine ⟨(by show 3<=sizeLine;decide),fun a3 ha3=>?_⟩
 have t3:=ah ha3 (.tup [.str "lone",.ref a1,.ref a2])
 have e3:(upd I2 a3 (.tup [.str "lone",.ref a1,.ref a2])) a3=some (.tup [.str "lone",.ref a1,.ref a2]):=ac
 generalize upd I2 a3 (.tup [.str "lone",.ref a1,.ref a2])=I3 at t3 e3 ⊢
 refine ⟨(by show 1<=sizeLine;decide),fun la hla=>?_⟩
 have t4:=ah hla (.tup [.ref a3])
 have e4:(upd I3 la (.tup [.ref a3])) la=some (.tup [.ref a3]):=ac
 generalize upd I3 la (.tup [.ref a3])=I4 at t4 e4 ⊢
 have hl:RepSs I4 [cC] [.ref a3]:=.cons ⟨a3,a1,a2,rfl,t4 _ _ e3,t4 _ _ (t3 _ _ (t2 _ _ e1)),t4 _ _ (t3 _ _ e2)⟩ .nil
 have T4:=t1.trans (t2.trans (t3.trans t4))
 clear t1 t2 t3 t4 e1 e2 e3
 refine ⟨(by show 0<=sizeLine;decide),fun b1 hb1=>?_⟩
 have t1:=ah hb1 (.tup [])
 have e1:(upd I4 b1 (.tup [])) b1=some (.tup []):=ac
 generalize upd I4 b1 (.tup [])=J1 at t1 e1 ⊢
 refine ⟨(by show 0<=sizeLine;decide),fun b2 hb2=>?_⟩
 have t2:=ah hb2 (.tup [])
 have e2:(upd J1 b2 (.tup [])) b2=some (.tup []):=ac
 generalize upd J1 b2 (.tup [])=J2 at t2 e2 ⊢
 refine ⟨(by show 4<=sizeLine;decide),fun b3 hb3=>?_⟩
 have t3:=ah hb3 (.tup [.str "lonely",.str "lone",.ref b1,.ref b2])
 have e3:(upd J2 b3 (.tup [.str "lonely",.str "lone",.ref b1,.ref b2])) b3=some (.tup [.str "lonely",.str "lone",.ref b1,.ref b2]):=ac
 generalize upd J2 b3 (.tup [.str "lonely",.str "lone",.ref b1,.ref b2])=J3 at t3 e3 ⊢
 refine ⟨(by show 1<=sizeLine;decide),fun b4 hb4=>?_⟩
 have t4:=ah hb4 (.tup [.str "lone"])
 have e4':(upd J3 b4 (.tup [.str "lone"])) b4=some (.tup [.str "lone"]):=ac
 generalize upd J3 b4 (.tup [.str "lone"])=J4 at t4 e4' ⊢
 refine ⟨b4,.str "lone",rfl,rfl,SqT.of e4',fun b5 hb5=>?_⟩
 have t5:=ah hb5 (.tup [.str "lone",.str "lone",.str "lone"])
 have e5:(upd J4 b5 (.tup [.str "lone",.str "lone",.str "lone"])) b5=some (.tup [.str "lone",.str "lone",.str "lone"]):=ac
 generalize upd J4 b5 (.tup [.str "lone",.str "lone",.str "lone"])=J5 at t5 e5 ⊢
 refine ⟨(by show 0<=sizeLine;decide),fun b6 hb6=>?_⟩
 have t6:=ah hb6 (.tup [])
 have e6:(upd J5 b6 (.tup [])) b6=some (.tup []):=ac
 generalize upd J5 b6 (.tup [])=J6 at t6 e6 ⊢
 refine ⟨(by show 4<=sizeLine;decide),fun b7 hb7=>?_⟩
 have t7:=ah hb7 (.tup [.str "loneall",.str "lone",.ref b5,.ref b6])
 have e7:(upd J6 b7 (.tup [.str "loneall",.str "lone",.ref b5,.ref b6])) b7=some (.tup [.str "loneall",.str "lone",.ref b5,.ref b6]):=ac
 generalize upd J6 b7 (.tup [.str "loneall",.str "lone",.ref b5,.ref b6])=J7 at t7 e7 ⊢
 refine ⟨(by show 2<=sizeLine;decide),fun fa hfa=>?_⟩
 have t8:=ah hfa (.tup [.ref b3,.ref b7])
 have e8:(upd J7 fa (.tup [.ref b3,.ref b7])) fa=some (.tup [.ref b3,.ref b7]):=ac
 generalize upd J7 fa (.tup [.ref b3,.ref b7])=J8 at t8 e8 ⊢
 have T38:=t4.trans (t5.trans (t6.trans (t7.trans t8)))
 have hf:RepFs J8 loneF [.ref b3,.ref b7]:=.cons ⟨b3,b1,b2,[],rfl,T38 _ _ e3,T38 _ _ (t3 _ _ (t2 _ _ e1)),T38 _ _ (t3 _ _ e2),.nil⟩
  (.cons ⟨b7,b5,b6,[],rfl,t8 _ _ e7,t8 _ _ (t7 _ _ (t6 _ _ e5)),t8 _ _ (t7 _ _ e6),.nil⟩ .nil)
 have T48:Same I4 J8:=t1.trans (t2.trans (t3.trans T38))
 have S:Same H3 J8:=S39.trans (T4.trans T48)
 exact htail D o0 o1 o2 b la fa bk _ _ J8 (hB.mono (ax S)) hN (T48 _ _ e4) (hl.mono (ax T48)) e8 hf fun H' s'=>q H' _ _ (S.trans s')
theorem wk (F:Fun K "law" "law" dU f fd) (G:Gb mg)
  (GB:FnOk P w K mg base CX0 6 f2 fd2 ["script","start","few"] (rn K)) (bB:Binds K fd2 ["script","start","few"] []) (kB:PySem.W.keepIn K (.ref f2)=true) (mB:mg "_law_book"=some (.ref f2))
  (GL:FnOk P w K mg base CX0 12 f3 fd3 ["script","start","ups","signs"] (lP K)) (bL:Binds K fd3 ["script","start","ups","signs"] []) (kL:PySem.W.keepIn K (.ref f3)=true) (mL:mg "_law_level_book"=some (.ref f3))
  (GR:FnOk P w K mg base CX0 19 f4 fd4 ["book"] eP) (bR:Binds K fd4 ["book"] []) (kR:PySem.W.keepIn K (.ref f4)=true) (mR:mg "_law_right"=some (.ref f4)):
  FnOk P w K mg base CX0 20 f fd ["script"] (oT K):=by
 refine F.ok scLaw (fun vs H Q E h=>?_) (fun cdv A outer s H vs Q E hr h=>?_)
 ·obtain ⟨a,ns,rfl,_⟩:=h
  rfl
 obtain ⟨a,ns,rfl,hS,hlen,q⟩:=h
 have hr6:=hr.mono (show 6<=19 by decide)
 have hr12:=hr.mono (show 12<=19 by decide)
 obtain ⟨t,ht,hbody⟩:=tH (f:=f) (cdv:=cdv) (A:=A) (outer:=outer) (s:=s) (H0:=H) (E:=E) G GR bR kR mR hr
 refine ⟨_,ad (aq (i:=1) scLaw.nd rfl (Or.inl rfl) (af GB hr6 rfl mB kB bB .nil al (aa (pv 0) (aa ae (aa dg ab)))))
  (ad (aq (i:=2) scLaw.nd rfl (Or.inl rfl) (af GL hr12 rfl mL kL bL .nil al (aa (pv 0) (aa ae (aa ae (aa (bf (pac aP (pac aP (pac aP (pac aP (pac aP ab)))))) ab))))))
  (ad (bQ PassesOwn.never rfl (cY (bf (aa (pv 1) (aa (pv 2) (aa (pv 1) ab))))) (aH (i:=3) scLaw.nd rfl (Or.inl rfl)) ht)
  (aj (aw dg)))),?_⟩
 refine ⟨_,rfl,a,ns,0,false,rfl,hS,hlen,by decide,by decide,fun bv bk H1 hB hok s1=>?_⟩
 have hN:=hok.n
 refine ⟨_,rfl,(by show 5<=sizeLine;decide),fun sg hsg=>?_⟩
 have s2:=ah hsg (.lst [.str "plus",.str "less",.str "times",.str "least",.str "most"])
 have g2:(upd H1 sg (.lst [.str "plus",.str "less",.str "times",.str "least",.str "most"])) sg=some (.lst (([("plus":Str),"less","times","least","most"]:List Str).map V.str)):=ac
 generalize upd H1 sg (.lst [.str "plus",.str "less",.str "times",.str "least",.str "most"])=H2 at s2 g2 ⊢
 have S2:=s1.trans s2
 refine ⟨a,sg,ns,11,3,_,rfl,S2.seq hS,hlen,by decide,by decide,by decide,by decide,g2,by decide,by decide,fun x hx=>by revert x;decide +kernel,fun lv bl H3 hB3 hN3 s3=>?_⟩
 have hB':=hB.mono (ax (s2.trans s3))
 obtain ⟨b1,_,_,_,rfl,_⟩:=id hB
 obtain ⟨b2,_,_,_,rfl,_⟩:=id hB3
 refine ⟨_,rfl,_,rfl,_,rfl,(by show 3<=sizeLine;decide),fun p4 hp4=>?_⟩
 have s4:=ah hp4 (.lst [.ref b1,.ref b2,.ref b1])
 have g4:(upd H3 p4 (.lst [.ref b1,.ref b2,.ref b1])) p4=some (.lst [.ref b1,.ref b2,.ref b1]):=ac
 generalize upd H3 p4 (.lst [.ref b1,.ref b2,.ref b1])=H4 at s4 g4 ⊢
 have hB1:=hB'.mono (ax s4)
 have hB2:=hB3.mono (ax s4)
 refine ⟨p4,rfl,⟨_,SqL.of g4⟩,?_⟩
 refine gx (xs:=[.ref b1,.ref b2,.ref b1]) (fun i Z H'=> ∃ o3 o4 o5,Z=[some (.ref a),some (.ref b1),some (.ref b2),o3,o4,o5]/\Same H4 H') ⟨none,none,none,rfl,Same.refl _⟩ (fun i Z H' _ h=>by obtain ⟨_,_,_,_,s'⟩:=h;exact SqL.of (s' _ _ g4)) ?_ ?_
 ·rintro i x Z H5 hx ⟨o3,o4,o5,rfl,s5⟩
  have hm:=List.mem_of_getElem? hx
  have hx':x=.ref b1\/x=.ref b2:=by
   simp only [List.mem_cons,List.not_mem_nil,or_false]at hm
   rcases hm with h | h | h
   ·exact .inl h
   ·exact .inr h
   ·exact .inl h
  rcases hx' with rfl | rfl
  ·exact hbody _ _ _ _ _ _ b1 bk H5 (hB1.mono (ax s5)) hN fun H' o4 o5 s'=>⟨_,_,_,rfl,s5.trans s'⟩
  ·exact hbody _ _ _ _ _ _ b2 bl H5 (hB2.mono (ax s5)) hN3 fun H' o4 o5 s'=>⟨_,_,_,rfl,s5.trans s'⟩
 ·rintro Z H5 ⟨o3,o4,o5,rfl,s5⟩
  exact q _
theorem vn {P:Program} {w:World} {K:PySem.W.Frag} {aD:Addr} {h1 h2 h3 h4 h5 h6:Int} {t1 t2 t3 t4 t5 t6 u1 u2 u3 u4 u5 u6:Tok} {ep:Nat}
  (lD:K.lookup aD=some ⟨.type "dict",none,.dict #[⟨h1,.str "plus" t1,.int 2 u1⟩,⟨h2,.str "less" t2,.int 2 u2⟩,⟨h3,.str "times" t3,.int 2 u3⟩,⟨h4,.str "least" t4,.int 2 u4⟩,⟨h5,.str "most" t5,.int 2 u5⟩,⟨h6,.str "when" t6,.int 3 u6⟩] ep,#[]⟩)
  (e1:h1=hashStr w "plus") (e2:h2=hashStr w "less") (e3:h3=hashStr w "times") (e4:h4=hashStr w "least") (e5:h5=hashStr w "most") (e6:h6=hashStr w "when") (nD:(aD==sysModules)=false):qL P w K aD gw:=by
 refine ⟨nD,fun h X=>⟨[(.inr "plus",.int 2 u1),(.inr "less",.int 2 u2),(.inr "times",.int 2 u3),(.inr "least",.int 2 u4),(.inr "most",.int 2 u5),(.inr "when",.int 3 u6)],?_,?_⟩⟩
 ·exact .cons ⟨rfl,_,rfl⟩ (.cons ⟨rfl,_,rfl⟩ (.cons ⟨rfl,_,rfl⟩ (.cons ⟨rfl,_,rfl⟩ (.cons ⟨rfl,_,rfl⟩ (.cons ⟨rfl,_,rfl⟩ .nil)))))
 ·refine ⟨_,_,_,X _ _ lD,⟨rfl,rfl,rfl⟩,rfl,?_,?_,by dsimp only [List.map];decide +kernel⟩
  ·intro e he
   simp only [List.mem_toArray,List.mem_cons,List.not_mem_nil,or_false]at he
   rcases he with rfl | rfl | rfl | rfl | rfl | rfl
   ·exact ⟨.inr "plus",bG "plus" t1,e1⟩
   ·exact ⟨.inr "less",bG "less" t2,e2⟩
   ·exact ⟨.inr "times",bG "times" t3,e3⟩
   ·exact ⟨.inr "least",bG "least" t4,e4⟩
   ·exact ⟨.inr "most",bG "most" t5,e5⟩
   ·exact ⟨.inr "when",bG "when" t6,e6⟩
  ·exact .cons (bG "plus" t1) rfl (.cons (bG "less" t2) rfl (.cons (bG "times" t3) rfl (.cons (bG "least" t4) rfl (.cons (bG "most" t5) rfl (.cons (bG "when" t6) rfl .nil)))))
theorem bc {α:Type} {l:List α} (h:l.length=1): ∃ a,l=[a]:=by
 match l,h with
 | [a],_=>exact ⟨a,rfl⟩
theorem cp {α:Type} {l:List α} (h:l.length=2): ∃ a b,l=[a,b]:=by
 match l,h with
 | [a,b],_=>exact ⟨a,b,rfl⟩
theorem jn {α:Type} {l:List α} (h:l.length=3): ∃ a b c,l=[a,b,c]:=by
 match l,h with
 | [a,b,c],_=>exact ⟨a,b,c,rfl⟩
theorem oK {α:Type} {l:List α} (h:l.length=4): ∃ a b c d,l=[a,b,c,d]:=by
 match l,h with
 | [a,b,c,d],_=>exact ⟨a,b,c,d,rfl⟩
theorem wE {α:Type} {l:List α} (h:l.length=5): ∃ a b c d e,l=[a,b,c,d,e]:=by
 match l,h with
 | [a,b,c,d,e],_=>exact ⟨a,b,c,d,e,rfl⟩
theorem wD {α:Type} {l:List α} (h:l.length=6): ∃ a b c d e f,l=[a,b,c,d,e,f]:=by
 match l,h with
 | [a,b,c,d,e,f],_=>exact ⟨a,b,c,d,e,f,rfl⟩
theorem rV {K:PySem.W.Frag} {aR:Addr} {od:Option Addr} {sl:Array (Option Value)} {t1 t2:Tok} {m:Nat} (l:K.lookup aR=some ⟨.type "tuple",od,.seq #[.str "own" t1,.str "part" t2] m,sl⟩): ∀ H,SqT K H aR [.str "own",.str "part"]:=
 fun H=>.inr ⟨_,_,_,l,rfl,rfl,(show 2<=sizeLine by decide),.cons ⟨_,rfl⟩ (.cons ⟨_,rfl⟩ .nil)⟩
/-- what is told of a def -/
structure Df (K:PySem.W.Frag) (nm:Str) (st:Stmt) (f:Addr) (fd:FuncData):Prop where
 a:PySem.W.nsIn K mainGlobals nm=some (some (.ref f))
 k:PySem.W.keepIn K (.ref f)=true
 F:Fun K nm nm st f fd
theorem Df.m {K:PySem.W.Frag} {nm:Str} {st:Stmt} {f:Addr} {fd:FuncData} {h:Heap} {mg:Str->Option Value} (d:Df K nm st f fd) (X:K.In h) (G:h.Ns mainGlobals mg):mg nm=some (.ref f):=PySem.W.mg_of X G d.a
theorem Df.of {K:PySem.W.Frag} {nm:Str} {st:Stmt} {f:Addr} {oc:Value} {od an:Option Addr} {osl:Array (Option Value)} {kV doc pm cdv ct:Value} (a:PySem.W.nsIn K mainGlobals nm=some (some (.ref f))) (k:PySem.W.keepIn K (.ref f)=true)
  (l:K.lookup f=some ⟨oc,od,.func (PySem.W.fnOf nm nm (gB st) (cH st) (ag st) .none kV doc pm an cdv ct),osl⟩) (c:PySem.W.codeIn K cdv nm=true):Df K nm st f (PySem.W.fnOf nm nm (gB st) (cH st) (ag st) .none kV doc pm an cdv ct):=
 ⟨a,k,⟨⟨oc,od,kV,doc,pm,an,cdv,ct,osl,rfl,l,c⟩,k⟩⟩
theorem all_mk {l:PySem.W.OpenLaw} {w:World} {K:PySem.W.Frag} {h:Heap} {mg:Str->Option Value} {fa aD aR f1 f2 f3 f4 f5 f6 f7 f8 f9 f10 f11 f12 f13 f14 f15 f16 f17 f18 f19 f20 f21 f22 f23 f24 f25 f26 f27 f28 f29 f30 f31 f32 f33 f34 f35 f36 f37 f38 f39 f40 f41 f42 f43 f44 f45 f46 f47 f48 f49 f50 f51 f52 f53 f54 f55 f56 f57 f58 f59 f60:Addr} {r1 r2 r3 r4 r5 r6 r7 r8 r9 r10 r11 r12 r13 r14 r15 r16 r17 r18 r19 r20 r21 r22 r23 r24 r25 r26 r27 r28 r29 r30 r31 r32 r33 r34 r35 r36 r37 r38 r39 r40 r41 r42 r43 r44 r45 r46 r47 r48 r49 r50 r51 r52 r53 r54 r55 r56 r57 r58 r59 r60:FuncData} (X:K.In h) (G:h.Ns mainGlobals mg) (hfa:mg "law"=some (.ref fa))
  {odR:Option Addr} {slR:Array (Option Value)} {w1 w2 t1 t2 t3 t4 t5 t6 u1 u2 u3 u4 u5 u6 q1 q2 q3 q4 q5 q6 q7 q8:Tok} {h1 h2 h3 h4 h5 h6:Int} {ep mR:Nat}
  (d1:Df K "is_whole" nQ f1 r1)
  (d2:Df K "is_whole_within" kl f2 r2)
  (d3:Df K "is_word" oV f3 r3)
  (d4:Df K "is_formula" rQ f4 r4)
  (d5:Df K "is_head" rP f5 r5)
  (d6:Df K "inner_of" nW f6 r6)
  (d7:Df K "tuples_of" kn f7 r7)
  (d8:Df K "readings_of" nS f8 r8)
  (d9:Df K "why_no_book" rL f9 r9)
  (d10:Df K "need_book" rN f10 r10)
  (d11:Df K "rule_at" kq f11 r11)
  (d12:Df K "wheel_of" iN f12 r12)
  (d13:Df K "sorts_of" iO f13 r13)
  (d14:Df K "forms_of" iT f14 r14)
  (d15:Df K "sort_named" el f15 r15)
  (d16:Df K "form_named" eB f16 r16)
  (d17:Df K "downs_of" nX f17 r17)
  (d18:Df K "ups_of" vV f18 r18)
  (d19:Df K "worths_of_sort" gP f19 r19)
  (d20:Df K "sort_of_form" eS f20 r20)
  (d21:Df K "parts_of" iQ f21 r21)
  (d22:Df K "rules_of" iP f22 r22)
  (d23:Df K "keys_of" iu f23 r23)
  (d24:Df K "key_of" nU f24 r24)
  (d25:Df K "sort_at" ko f25 r25)
  (d26:Df K "formulas_by_key" ky f26 r26)
  (d27:Df K "due_keys" eW f27 r27)
  (d28:Df K "has_shape" dW f28 r28)
  (d29:Df K "is_row" nV f29 r29)
  (d30:Df K "is_row_of_words" fu f30 r30)
  (d31:Df K "is_wheel" iS f31 r31)
  (d32:Df K "has_sort_shape" fN f32 r32)
  (d33:Df K "has_form_shape" eA f33 r33)
  (d34:Df K "has_rule_shape" fO f34 r34)
  (d35:Df K "has_names" cV f35 r35)
  (d36:Df K "are_unlike" km f36 r36)
  (d37:Df K "has_formulas" fz f37 r37)
  (d38:Df K "is_told" kx f38 r38)
  (d39:Df K "is_level" eV f39 r39)
  (d40:Df K "is_level_formula" ir f40 r40)
  (d41:Df K "parts_read" er f41 r41)
  (d42:Df K "_law_cell_at" rR f42 r42)
  (d43:Df K "_law_tape" rM f43 r43)
  (d44:Df K "_law_digit" nY f44 r44)
  (d45:Df K "_law_names" eU f45 r45)
  (d46:Df K "_law_number" ku f46 r46)
  (d47:Df K "_law_leaf" rO f47 r47)
  (d48:Df K "_law_formula" dX f48 r48)
  (d49:Df K "_law_sorts" nR f49 r49)
  (d50:Df K "_law_targets" eR f50 r50)
  (d51:Df K "_law_readings" dw f51 r51)
  (d52:Df K "_law_form" nT f52 r52)
  (d53:Df K "_law_book" eF f53 r53)
  (d54:Df K "_law_whole" kw f54 r54)
  (d55:Df K "_law_same" l9 f55 r55)
  (d56:Df K "_law_level_formula" cU f56 r56)
  (d57:Df K "_law_level_sorts" iR f57 r57)
  (d58:Df K "_law_level_book" cA f58 r58)
  (d59:Df K "_law_right" kr f59 r59)
  (d60:Df K "law" dU f60 r60)
  (z1:PySem.W.nsIn K mainGlobals "isinstance"=some none)
  (z2:PySem.W.nsIn K mainGlobals "int"=some none)
  (z3:PySem.W.nsIn K mainGlobals "bool"=some none)
  (z4:PySem.W.nsIn K mainGlobals "str"=some none)
  (z5:PySem.W.nsIn K mainGlobals "tuple"=some none)
  (z6:PySem.W.nsIn K mainGlobals "len"=some none)
  (z7:PySem.W.nsIn K mainGlobals "all"=some none)
  (z8:PySem.W.nsIn K mainGlobals "range"=some none)
  (z9:PySem.W.nsIn K mainGlobals "max"=some none)
  (z10:PySem.W.nsIn K mainGlobals "min"=some none)
  (z11:PySem.W.nsIn K mainGlobals "list"=some none)
  (z12:PySem.W.nsIn K mainGlobals "zip"=some none)
  (z13:PySem.W.nsIn K mainGlobals "set"=some none)
  (z14:PySem.W.nsIn K mainGlobals "any"=some none)
  (z15:PySem.W.nsIn K mainGlobals "enumerate"=some none)
  (i1:PySem.W.nsIn K mainGlobals "MOST_LETTERS"=some (some (.int 8 q1)))
  (i2:PySem.W.nsIn K mainGlobals "MOST_TUPLES"=some (some (.int 15 q2)))
  (i3:PySem.W.nsIn K mainGlobals "MOST_NUM"=some (some (.int 999999 q3)))
  (i4:PySem.W.nsIn K mainGlobals "MOST_PART"=some (some (.int 2 q4)))
  (i5:PySem.W.nsIn K mainGlobals "MOST_SORTS"=some (some (.int 4 q5)))
  (i6:PySem.W.nsIn K mainGlobals "MOST_WORTHS"=some (some (.int 3 q6)))
  (i7:PySem.W.nsIn K mainGlobals "MOST_FORMS"=some (some (.int 10 q7)))
  (i8:PySem.W.nsIn K mainGlobals "MOST_PARTS"=some (some (.int 3 q8)))
  (aI:PySem.W.nsIn K mainGlobals "INNER_COUNTS"=some (some (.ref aD)))
  (lD:K.lookup aD=some ⟨.type "dict",none,.dict #[⟨h1,.str "plus" t1,.int 2 u1⟩,⟨h2,.str "less" t2,.int 2 u2⟩,⟨h3,.str "times" t3,.int 2 u3⟩,⟨h4,.str "least" t4,.int 2 u4⟩,⟨h5,.str "most" t5,.int 2 u5⟩,⟨h6,.str "when" t6,.int 3 u6⟩] ep,#[]⟩)
  (e1:h1=hashStr w "plus")    (e2:h2=hashStr w "less")    (e3:h3=hashStr w "times")    (e4:h4=hashStr w "least")    (e5:h5=hashStr w "most")    (e6:h6=hashStr w "when")
  (nD:(aD==sysModules)=false)
  (aQ:PySem.W.nsIn K mainGlobals "READINGS"=some (some (.ref aR))) (lR:K.lookup aR=some ⟨.type "tuple",odR,.seq #[.str "own" w1,.str "part" w2] mR,slR⟩):
  ∃ fd:FuncData,(∀ (s:Shared) (v:Value),BindsTo s fd ⟨[v],[]⟩ [("script",v)])/\ ∀ base:Heap,K.In base->base.Ns mainGlobals mg->FnOk l.prog w K mg base CX0 20 fa fd ["script"] (oT K):=by
 have e:=hfa.symm.trans (d60.m X G)
 cases e
 have b1:=d1.F.binds (ps:=["thing"]) fun _ _ _ _ _ _ us hl=>by obtain ⟨x,rfl⟩:=bc hl;rfl
 have m1:=d1.m X G
 have b2:=d2.F.binds (ps:=["thing","lowest","highest"]) fun _ _ _ _ _ _ us hl=>by obtain ⟨x,y,z,rfl⟩:=jn hl;rfl
 have m2:=d2.m X G
 have b3:=d3.F.binds (ps:=["thing"]) fun _ _ _ _ _ _ us hl=>by obtain ⟨x,rfl⟩:=bc hl;rfl
 have m3:=d3.m X G
 have b4:=d4.F.binds (ps:=["thing"]) fun _ _ _ _ _ _ us hl=>by obtain ⟨x,rfl⟩:=bc hl;rfl
 have m4:=d4.m X G
 have b5:=d5.F.binds (ps:=["thing"]) fun _ _ _ _ _ _ us hl=>by obtain ⟨x,rfl⟩:=bc hl;rfl
 have m5:=d5.m X G
 have b6:=d6.F.binds (ps:=["formula"]) fun _ _ _ _ _ _ us hl=>by obtain ⟨x,rfl⟩:=bc hl;rfl
 have m6:=d6.m X G
 have b7:=d7.F.binds (ps:=["formula"]) fun _ _ _ _ _ _ us hl=>by obtain ⟨x,rfl⟩:=bc hl;rfl
 have m7:=d7.m X G
 have b8:=d8.F.binds (ps:=["formula"]) fun _ _ _ _ _ _ us hl=>by obtain ⟨x,rfl⟩:=bc hl;rfl
 have m8:=d8.m X G
 have b9:=d9.F.binds (ps:=["thing"]) fun _ _ _ _ _ _ us hl=>by obtain ⟨x,rfl⟩:=bc hl;rfl
 have m9:=d9.m X G
 have b10:=d10.F.binds (ps:=["thing"]) fun _ _ _ _ _ _ us hl=>by obtain ⟨x,rfl⟩:=bc hl;rfl
 have m10:=d10.m X G
 have b11:=d11.F.binds (ps:=["book","form","at","word"]) fun _ _ _ _ _ _ us hl=>by obtain ⟨x,y,z,u,rfl⟩:=oK hl;rfl
 have m11:=d11.m X G
 have b12:=d12.F.binds (ps:=["book"]) fun _ _ _ _ _ _ us hl=>by obtain ⟨x,rfl⟩:=bc hl;rfl
 have m12:=d12.m X G
 have b13:=d13.F.binds (ps:=["book"]) fun _ _ _ _ _ _ us hl=>by obtain ⟨x,rfl⟩:=bc hl;rfl
 have m13:=d13.m X G
 have b14:=d14.F.binds (ps:=["book"]) fun _ _ _ _ _ _ us hl=>by obtain ⟨x,rfl⟩:=bc hl;rfl
 have m14:=d14.m X G
 have b15:=d15.F.binds (ps:=["book","name"]) fun _ _ _ _ _ _ us hl=>by obtain ⟨x,y,rfl⟩:=cp hl;rfl
 have m15:=d15.m X G
 have b16:=d16.F.binds (ps:=["book","name"]) fun _ _ _ _ _ _ us hl=>by obtain ⟨x,y,rfl⟩:=cp hl;rfl
 have m16:=d16.m X G
 have b17:=d17.F.binds (ps:=["book","sort"]) fun _ _ _ _ _ _ us hl=>by obtain ⟨x,y,rfl⟩:=cp hl;rfl
 have m17:=d17.m X G
 have b18:=d18.F.binds (ps:=["book","sort"]) fun _ _ _ _ _ _ us hl=>by obtain ⟨x,y,rfl⟩:=cp hl;rfl
 have m18:=d18.m X G
 have b19:=d19.F.binds (ps:=["book","sort"]) fun _ _ _ _ _ _ us hl=>by obtain ⟨x,y,rfl⟩:=cp hl;rfl
 have m19:=d19.m X G
 have b20:=d20.F.binds (ps:=["form"]) fun _ _ _ _ _ _ us hl=>by obtain ⟨x,rfl⟩:=bc hl;rfl
 have m20:=d20.m X G
 have b21:=d21.F.binds (ps:=["form"]) fun _ _ _ _ _ _ us hl=>by obtain ⟨x,rfl⟩:=bc hl;rfl
 have m21:=d21.m X G
 have b22:=d22.F.binds (ps:=["form"]) fun _ _ _ _ _ _ us hl=>by obtain ⟨x,rfl⟩:=bc hl;rfl
 have m22:=d22.m X G
 have b23:=d23.F.binds (ps:=["form"]) fun _ _ _ _ _ _ us hl=>by obtain ⟨x,rfl⟩:=bc hl;rfl
 have m23:=d23.m X G
 have b24:=d24.F.binds (ps:=["reading"]) fun _ _ _ _ _ _ us hl=>by obtain ⟨x,rfl⟩:=bc hl;rfl
 have m24:=d24.m X G
 have b25:=d25.F.binds (ps:=["form","at"]) fun _ _ _ _ _ _ us hl=>by obtain ⟨x,y,rfl⟩:=cp hl;rfl
 have m25:=d25.m X G
 have b26:=d26.F.binds (ps:=["form"]) fun _ _ _ _ _ _ us hl=>by obtain ⟨x,rfl⟩:=bc hl;rfl
 have m26:=d26.m X G
 have b27:=d27.F.binds (ps:=["book","form"]) fun _ _ _ _ _ _ us hl=>by obtain ⟨x,y,rfl⟩:=cp hl;rfl
 have m27:=d27.m X G
 have b28:=d28.F.binds (ps:=["thing"]) fun _ _ _ _ _ _ us hl=>by obtain ⟨x,rfl⟩:=bc hl;rfl
 have m28:=d28.m X G
 have b29:=d29.F.binds (ps:=["thing","fewest","most"]) fun _ _ _ _ _ _ us hl=>by obtain ⟨x,y,z,rfl⟩:=jn hl;rfl
 have m29:=d29.m X G
 have b30:=d30.F.binds (ps:=["thing","most"]) fun _ _ _ _ _ _ us hl=>by obtain ⟨x,y,rfl⟩:=cp hl;rfl
 have m30:=d30.m X G
 have b31:=d31.F.binds (ps:=["thing"]) fun _ _ _ _ _ _ us hl=>by obtain ⟨x,rfl⟩:=bc hl;rfl
 have m31:=d31.m X G
 have b32:=d32.F.binds (ps:=["thing"]) fun _ _ _ _ _ _ us hl=>by obtain ⟨x,rfl⟩:=bc hl;rfl
 have m32:=d32.m X G
 have b33:=d33.F.binds (ps:=["thing"]) fun _ _ _ _ _ _ us hl=>by obtain ⟨x,rfl⟩:=bc hl;rfl
 have m33:=d33.m X G
 have b34:=d34.F.binds (ps:=["thing"]) fun _ _ _ _ _ _ us hl=>by obtain ⟨x,rfl⟩:=bc hl;rfl
 have m34:=d34.m X G
 have b35:=d35.F.binds (ps:=["book"]) fun _ _ _ _ _ _ us hl=>by obtain ⟨x,rfl⟩:=bc hl;rfl
 have m35:=d35.m X G
 have b36:=d36.F.binds (ps:=["words"]) fun _ _ _ _ _ _ us hl=>by obtain ⟨x,rfl⟩:=bc hl;rfl
 have m36:=d36.m X G
 have b37:=d37.F.binds (ps:=["book","form"]) fun _ _ _ _ _ _ us hl=>by obtain ⟨x,y,rfl⟩:=cp hl;rfl
 have m37:=d37.m X G
 have b38:=d38.F.binds (ps:=["book","form","reading"]) fun _ _ _ _ _ _ us hl=>by obtain ⟨x,y,z,rfl⟩:=jn hl;rfl
 have m38:=d38.m X G
 have b39:=d39.F.binds (ps:=["book"]) fun _ _ _ _ _ _ us hl=>by obtain ⟨x,rfl⟩:=bc hl;rfl
 have m39:=d39.m X G
 have b40:=d40.F.binds (ps:=["formula"]) fun _ _ _ _ _ _ us hl=>by obtain ⟨x,rfl⟩:=bc hl;rfl
 have m40:=d40.m X G
 have b41:=d41.F.binds (ps:=["formula"]) fun _ _ _ _ _ _ us hl=>by obtain ⟨x,rfl⟩:=bc hl;rfl
 have m41:=d41.m X G
 have b42:=d42.F.binds (ps:=["script","k"]) fun _ _ _ _ _ _ us hl=>by obtain ⟨x,y,rfl⟩:=cp hl;rfl
 have m42:=d42.m X G
 have b43:=d43.F.binds (ps:=["script","k"]) fun _ _ _ _ _ _ us hl=>by obtain ⟨x,y,rfl⟩:=cp hl;rfl
 have m43:=d43.m X G
 have b44:=d44.F.binds (ps:=["tape","many"]) fun _ _ _ _ _ _ us hl=>by obtain ⟨x,y,rfl⟩:=cp hl;rfl
 have m44:=d44.m X G
 have b45:=d45.F.binds (ps:=["tape","many"]) fun _ _ _ _ _ _ us hl=>by obtain ⟨x,y,rfl⟩:=cp hl;rfl
 have m45:=d45.m X G
 have b46:=d46.F.binds (ps:=["tape"]) fun _ _ _ _ _ _ us hl=>by obtain ⟨x,rfl⟩:=bc hl;rfl
 have m46:=d46.m X G
 have b47:=d47.F.binds (ps:=["tape","readings"]) fun _ _ _ _ _ _ us hl=>by obtain ⟨x,y,rfl⟩:=cp hl;rfl
 have m47:=d47.m X G
 have b48:=d48.F.binds (ps:=["tape","readings"]) fun _ _ _ _ _ _ us hl=>by obtain ⟨x,y,rfl⟩:=cp hl;rfl
 have m48:=d48.m X G
 have b49:=d49.F.binds (ps:=["tape","few"]) fun _ _ _ _ _ _ us hl=>by obtain ⟨x,y,rfl⟩:=cp hl;rfl
 have m49:=d49.m X G
 have b50:=d50.F.binds (ps:=["sorts","own","parts"]) fun _ _ _ _ _ _ us hl=>by obtain ⟨x,y,z,rfl⟩:=jn hl;rfl
 have m50:=d50.m X G
 have b51:=d51.F.binds (ps:=["sorts","own","parts","mode","j"]) fun _ _ _ _ _ _ us hl=>by obtain ⟨x,y,z,u,v,rfl⟩:=wE hl;rfl
 have m51:=d51.m X G
 have b52:=d52.F.binds (ps:=["tape","sorts","name","own","parts","mode"]) fun _ _ _ _ _ _ us hl=>by obtain ⟨x,y,z,u,v,w,rfl⟩:=wD hl;rfl
 have m52:=d52.m X G
 have b53:=d53.F.binds (ps:=["script","start","few"]) fun _ _ _ _ _ _ us hl=>by obtain ⟨x,y,z,rfl⟩:=jn hl;rfl
 have m53:=d53.m X G
 have b54:=d54.F.binds (ps:=["found"]) fun _ _ _ _ _ _ us hl=>by obtain ⟨x,rfl⟩:=bc hl;rfl
 have m54:=d54.m X G
 have b55:=d55.F.binds (ps:=["found","due"]) fun _ _ _ _ _ _ us hl=>by obtain ⟨x,y,rfl⟩:=cp hl;rfl
 have m55:=d55.m X G
 have b56:=d56.F.binds (ps:=["tape","readings","room","signs"]) fun _ _ _ _ _ _ us hl=>by obtain ⟨x,y,z,u,rfl⟩:=oK hl;rfl
 have m56:=d56.m X G
 have b57:=d57.F.binds (ps:=["tape","ups"]) fun _ _ _ _ _ _ us hl=>by obtain ⟨x,y,rfl⟩:=cp hl;rfl
 have m57:=d57.m X G
 have b58:=d58.F.binds (ps:=["script","start","ups","signs"]) fun _ _ _ _ _ _ us hl=>by obtain ⟨x,y,z,u,rfl⟩:=oK hl;rfl
 have m58:=d58.m X G
 have b59:=d59.F.binds (ps:=["book"]) fun _ _ _ _ _ _ us hl=>by obtain ⟨x,rfl⟩:=bc hl;rfl
 have m59:=d59.m X G
 have Gb0:Gb mg:=⟨PySem.W.mg_none_of X G z1,PySem.W.mg_none_of X G z2,PySem.W.mg_none_of X G z3,PySem.W.mg_none_of X G z4,PySem.W.mg_none_of X G z5,PySem.W.mg_none_of X G z6,PySem.W.mg_none_of X G z7,PySem.W.mg_none_of X G z8,PySem.W.mg_none_of X G z9,PySem.W.mg_none_of X G z10⟩
 have D:qL l.prog w K aD gw:=vn lD e1 e2 e3 e4 e5 e6 nD
 have mI:=PySem.W.mg_of X G aI
 have mQ:=PySem.W.mg_of X G aQ
 have hR:=rV lR
 have v11:=PySem.W.mg_none_of X G z11
 have v12:=PySem.W.mg_none_of X G z12
 have v13:=PySem.W.mg_none_of X G z13
 have v14:=PySem.W.mg_none_of X G z14
 have v15:=PySem.W.mg_none_of X G z15
 have j1:=PySem.W.mg_of X G i1
 have j2:=PySem.W.mg_of X G i2
 have j3:=PySem.W.mg_of X G i3
 have j4:=PySem.W.mg_of X G i4
 have j5:=PySem.W.mg_of X G i5
 have j6:=PySem.W.mg_of X G i6
 have j7:=PySem.W.mg_of X G i7
 have j8:=PySem.W.mg_of X G i8
 have F60:=d60.F
 obtain ⟨_,_,kV,dc,pm,an,cd,ct,_,rfl,_,_⟩:=d60.F.ex
 refine ⟨PySem.W.fnOf "law" "law" (gB dU) (cH dU) (ag dU) .none kV dc pm an cd ct,fun s v=>.of_eq rfl,fun base _ _=>?_⟩
 have g_whole:=sG (P:=l.prog) (w:=w) (mg:=mg) (base:=base) d1.F Gb0
 have g_within:=qf d2.F g_whole b1 d1.k m1
 have g_word:=uR (P:=l.prog) (w:=w) (mg:=mg) (base:=base) d3.F Gb0 j1
 have g_head:=uW d5.F Gb0 mI D j3 j4 g_within b2 d2.k m2 g_word b3 d3.k m3
 have g_inner:=sQ (base:=base) d6.F mI D
 have g_form:=uX d4.F j2 g_head b5 d5.k m5 g_inner b6 d6.k m6
 have g_tuples:=qh d7.F g_inner b6 d6.k m6
 have g_reads:=sK d8.F v11 mQ hR g_tuples b7 d7.k m7
 have g_wheelOf:=og (P:=l.prog) (w:=w) (mg:=mg) (base:=base) d12.F
 have g_sortsOf:=oi (P:=l.prog) (w:=w) (mg:=mg) (base:=base) d13.F
 have g_forms:=ou (P:=l.prog) (w:=w) (mg:=mg) (base:=base) d14.F
 have g_sortN:=lh d15.F g_sortsOf b13 d13.k m13
 have g_formN:=lr d16.F g_forms b14 d14.k m14
 have g_downs:=sR d17.F g_sortN b15 d15.k m15
 have g_ups:=wj d18.F g_sortN b15 d15.k m15
 have g_worths:=mn d19.F g_downs b17 d17.k m17 g_ups b18 d18.k m18
 have g_sortf:=js (P:=l.prog) (w:=w) (mg:=mg) (base:=base) d20.F
 have g_parts:=om (P:=l.prog) (w:=w) (mg:=mg) (base:=base) d21.F
 have g_rules:=oj (P:=l.prog) (w:=w) (mg:=mg) (base:=base) d22.F
 have g_keys:=qt d23.F g_rules b22 d22.k m22
 have g_keyOf:=sO (P:=l.prog) (w:=w) (mg:=mg) (base:=base) d24.F
 have g_sortAt:=qi d25.F g_sortf b20 d20.k m20 g_parts b21 d21.k m21
 have g_byKey:=sU d26.F g_rules b22 d22.k m22
 have g_byKey2:=qv d26.F g_rules b22 d22.k m22
 have g_due:=ow d27.F v15 g_downs b17 d17.k m17 g_ups b18 d18.k m18 g_sortf b20 d20.k m20 g_parts b21 d21.k m21
 have g_row:=sP (P:=l.prog) (w:=w) (mg:=mg) (base:=base) d29.F Gb0
 have g_rowW:=mq d30.F Gb0 g_row b29 d29.k m29 g_word b3 d3.k m3
 have g_wheel:=oq d31.F g_within b2 d2.k m2
 have g_ruleS:=li d34.F g_row b29 d29.k m29 g_word b3 d3.k m3 g_whole b1 d1.k m1
 have g_sortS:=lg d32.F j6 g_row b29 d29.k m29 g_word b3 d3.k m3 g_rowW b30 d30.k m30
 have g_formS:=lp d33.F Gb0 j8 g_row b29 d29.k m29 g_word b3 d3.k m3 g_rowW b30 d30.k m30 g_sortf b20 d20.k m20 g_parts b21 d21.k m21 g_rules b22 d22.k m22 g_ruleS b34 d34.k m34
 have g_shape:=mr d28.F Gb0 j5 j7 g_row b29 d29.k m29 g_wheel b31 d31.k m31 g_wheelOf b12 d12.k m12 g_sortsOf b13 d13.k m13 g_forms b14 d14.k m14 g_sortS b32 d32.k m32 g_formS b33 d33.k m33
 have g_unlike:=qg (P:=l.prog) (w:=w) (mg:=mg) (base:=base) d36.F Gb0 v13
 have g_hasN:=mw d35.F Gb0 g_unlike b36 d36.k m36 g_sortsOf b13 d13.k m13 g_forms b14 d14.k m14 g_sortf b20 d20.k m20 g_parts b21 d21.k m21
 have g_told:=qu d38.F Gb0 g_keyOf b24 d24.k m24 g_parts b21 d21.k m21 g_sortAt b25 d25.k m25 g_worths b19 d19.k m19
 have g_hasF:=mx d37.F Gb0 g_byKey b26 d26.k m26 g_form b4 d4.k m4 g_reads b8 d8.k m8 g_told b38 d38.k m38
 have g_partsR:=lj d41.F g_reads b8 d8.k m8
 have g_levelF:=qr d40.F v14 g_tuples b7 d7.k m7 g_partsR b41 d41.k m41
 have g_level:=ot d39.F Gb0 v14 g_sortsOf b13 d13.k m13 g_forms b14 d14.k m14 g_byKey b26 d26.k m26 g_levelF b40 d40.k m40
 have g_why:=wg d9.F Gb0 g_shape b28 d28.k m28 g_hasN b35 d35.k m35 g_forms b14 d14.k m14 g_keys b23 d23.k m23 g_due b27 d27.k m27 g_hasF b37 d37.k m37 g_wheelOf b12 d12.k m12 g_level b39 d39.k m39
 have g_need:=uT d10.F g_why b9 d9.k m9
 have g_ruleAt:=qj d11.F g_formN b16 d16.k m16 g_byKey2 b26 d26.k m26
 have g_cell:=uY (P:=l.prog) (w:=w) (base:=base) d42.F Gb0
 have g_tape:=uS d43.F g_cell b42 d42.k m42
 have g_digit:=sS (P:=l.prog) (w:=w) (mg:=mg) (base:=base) d44.F
 have g_names:=qm d45.F Gb0 g_digit b44 d44.k m44
 have g_number:=ql d46.F g_digit b44 d44.k m44
 have g_leaf:=fun ρ=>sN (ρ:=ρ) d47.F Gb0 g_digit b44 d44.k m44 g_number b46 d46.k m46
 have g_formula:=fun ρ=>my (ρ:=ρ) d48.F Gb0 g_digit b44 d44.k m44 (g_leaf ρ) b47 d47.k m47
 have g_sorts:=sH d49.F Gb0 g_digit b44 d44.k m44 g_names b45 d45.k m45
 have g_targets:=oh (P:=l.prog) (w:=w) (mg:=mg) (base:=base) d50.F Gb0
 have g_lread:=lm d51.F Gb0 g_targets b50 d50.k m50
 have g_lform:=sM d52.F Gb0 g_targets b50 d50.k m50 g_lread b51 d51.k m51 g_formula b48 d48.k m48
 have g_book:=uZ d53.F Gb0 g_digit b44 d44.k m44 g_lform b52 d52.k m52 g_tape b43 d43.k m43 g_sorts b49 d49.k m49 g_names b45 d45.k m45
 have g_lwhole:=qo (P:=l.prog) (w:=w) (mg:=mg) (base:=base) d54.F Gb0
 have g_same:=pe d55.F Gb0 v11 v12 b55 m55 g_lwhole b54 d54.k m54 16
 have g_leafA:=FnOk.exA g_leaf
 have g_lvF:=sL d56.F Gb0 g_digit b44 d44.k m44 g_leafA b47 d47.k m47 b56 m56 8
 have g_lvS:=on d57.F Gb0 g_digit b44 d44.k m44 g_names b45 d45.k m45
 have g_lvB:=qp d58.F Gb0 g_digit b44 d44.k m44 g_lvF b56 d56.k m56 g_tape b43 d43.k m43 g_lvS b57 d57.k m57 g_names b45 d45.k m45
 have g_right:=qk d59.F g_why b9 d9.k m9 g_need b10 d10.k m10 g_ruleAt b11 d11.k m11 g_same b55 d55.k m55
 exact wk F60 Gb0 g_book b53 d53.k m53 g_lvB b58 d58.k m58 g_right b59 d59.k m59
theorem walk {l:PySem.W.OpenLaw} {q:Program} {loose:List Str} {XP:(Str->Option Value)->Heap->Prop} {YP:World->Heap->Prop} {d:DefRec} {K:Params->PySem.W.Frag} (hn:l.most=some 63) (hdf:d.params.defaults=[])
  (hY: ∀ (w:World) (h:Heap),YP w h->(K w.params).In h)
  (F: ∀ (w:World) (mg:Str->Option Value) (fa:Addr) (h:Heap),(K w.params).In h->h.Ns mainGlobals mg->mg d.name=some (.ref fa)->
   ∃ fd:FuncData,(∀ (s:Shared) (u:Value),BindsTo s fd ⟨[u],[]⟩ [("script",u)])/\ ∀ base:Heap,(K w.params).In base->base.Ns mainGlobals mg->FnOk l.prog w (K w.params) mg base CX0 20 fa fd ["script"] (oT (K w.params))):
  PySem.W.WalkO q loose XP YP l.row.toRowW d [] (fun f vs=>PySem.call f vs):=
 L2.walk_of (n:=63) (k:=20) (x:="script") (CX:=fun _=>CX0) (sp:=fun w=>oT (K w.params)) hn (by decide) hdf ⟨rfl,by decide,by decide⟩ hY F (fun _ _ a ns hl _ hS=>⟨a,ns,rfl,hS,hl,fun _=>rfl⟩) fun _ _ _ _ _ z=>z
end My
open PySem PySem.W PyProof.Rows
set_option maxRecDepth 100000 in
set_option maxHeartbeats 0 in
theorem PySem.Challenge.cw_boughworth_k08_books_let_by_holds : PySem.Challenge.rw_boughworth_k08_books_let_by.Holds := by
 refine My.parts.c My.parts.a0 My.parts.a1 My.parts.e0 My.parts.e1 My.parts.b0 My.parts.b1 ?_
 delta My.parts
 dsimp only
 k_fill
 refine My.walk (l:=PySem.Challenge.rw_boughworth_k08_books_let_by) rfl rfl (fun w h Y=>PySem.W.kIn_of Y) ?F
 case F=>
  intro w mg fa h KX G hmg
  refine' My.all_mk KX G hmg ?d1 ?d2 ?d3 ?d4 ?d5 ?d6 ?d7 ?d8 ?d9 ?d10 ?d11 ?d12 ?d13 ?d14 ?d15 ?d16 ?d17 ?d18 ?d19 ?d20 ?d21 ?d22 ?d23 ?d24 ?d25 ?d26 ?d27 ?d28 ?d29 ?d30 ?d31 ?d32 ?d33 ?d34 ?d35 ?d36 ?d37 ?d38 ?d39 ?d40 ?d41 ?d42 ?d43 ?d44 ?d45 ?d46 ?d47 ?d48 ?d49 ?d50 ?d51 ?d52 ?d53 ?d54 ?d55 ?d56 ?d57 ?d58 ?d59 ?d60 ?z1 ?z2 ?z3 ?z4 ?z5 ?z6 ?z7 ?z8 ?z9 ?z10 ?z11 ?z12 ?z13 ?z14 ?z15 ?i1 ?i2 ?i3 ?i4 ?i5 ?i6 ?i7 ?i8 ?aI ?lD ?e1 ?e2 ?e3 ?e4 ?e5 ?e6 ?nD ?aQ ?lR
  (case d1=>exact My.Df.of (by k_is) (by k_is) (by k_is) (by k_is))
  (case d2=>exact My.Df.of (by k_is) (by k_is) (by k_is) (by k_is))
  (case d3=>exact My.Df.of (by k_is) (by k_is) (by k_is) (by k_is))
  (case d4=>exact My.Df.of (by k_is) (by k_is) (by k_is) (by k_is))
  (case d5=>exact My.Df.of (by k_is) (by k_is) (by k_is) (by k_is))
  (case d6=>exact My.Df.of (by k_is) (by k_is) (by k_is) (by k_is))
  (case d7=>exact My.Df.of (by k_is) (by k_is) (by k_is) (by k_is))
  (case d8=>exact My.Df.of (by k_is) (by k_is) (by k_is) (by k_is))
  (case d9=>exact My.Df.of (by k_is) (by k_is) (by k_is) (by k_is))
  (case d10=>exact My.Df.of (by k_is) (by k_is) (by k_is) (by k_is))
  (case d11=>exact My.Df.of (by k_is) (by k_is) (by k_is) (by k_is))
  (case d12=>exact My.Df.of (by k_is) (by k_is) (by k_is) (by k_is))
  (case d13=>exact My.Df.of (by k_is) (by k_is) (by k_is) (by k_is))
  (case d14=>exact My.Df.of (by k_is) (by k_is) (by k_is) (by k_is))
  (case d15=>exact My.Df.of (by k_is) (by k_is) (by k_is) (by k_is))
  (case d16=>exact My.Df.of (by k_is) (by k_is) (by k_is) (by k_is))
  (case d17=>exact My.Df.of (by k_is) (by k_is) (by k_is) (by k_is))
  (case d18=>exact My.Df.of (by k_is) (by k_is) (by k_is) (by k_is))
  (case d19=>exact My.Df.of (by k_is) (by k_is) (by k_is) (by k_is))
  (case d20=>exact My.Df.of (by k_is) (by k_is) (by k_is) (by k_is))
  (case d21=>exact My.Df.of (by k_is) (by k_is) (by k_is) (by k_is))
  (case d22=>exact My.Df.of (by k_is) (by k_is) (by k_is) (by k_is))
  (case d23=>exact My.Df.of (by k_is) (by k_is) (by k_is) (by k_is))
  (case d24=>exact My.Df.of (by k_is) (by k_is) (by k_is) (by k_is))
  (case d25=>exact My.Df.of (by k_is) (by k_is) (by k_is) (by k_is))
  (case d26=>exact My.Df.of (by k_is) (by k_is) (by k_is) (by k_is))
  (case d27=>exact My.Df.of (by k_is) (by k_is) (by k_is) (by k_is))
  (case d28=>exact My.Df.of (by k_is) (by k_is) (by k_is) (by k_is))
  (case d29=>exact My.Df.of (by k_is) (by k_is) (by k_is) (by k_is))
  (case d30=>exact My.Df.of (by k_is) (by k_is) (by k_is) (by k_is))
  (case d31=>exact My.Df.of (by k_is) (by k_is) (by k_is) (by k_is))
  (case d32=>exact My.Df.of (by k_is) (by k_is) (by k_is) (by k_is))
  (case d33=>exact My.Df.of (by k_is) (by k_is) (by k_is) (by k_is))
  (case d34=>exact My.Df.of (by k_is) (by k_is) (by k_is) (by k_is))
  (case d35=>exact My.Df.of (by k_is) (by k_is) (by k_is) (by k_is))
  (case d36=>exact My.Df.of (by k_is) (by k_is) (by k_is) (by k_is))
  (case d37=>exact My.Df.of (by k_is) (by k_is) (by k_is) (by k_is))
  (case d38=>exact My.Df.of (by k_is) (by k_is) (by k_is) (by k_is))
  (case d39=>exact My.Df.of (by k_is) (by k_is) (by k_is) (by k_is))
  (case d40=>exact My.Df.of (by k_is) (by k_is) (by k_is) (by k_is))
  (case d41=>exact My.Df.of (by k_is) (by k_is) (by k_is) (by k_is))
  (case d42=>exact My.Df.of (by k_is) (by k_is) (by k_is) (by k_is))
  (case d43=>exact My.Df.of (by k_is) (by k_is) (by k_is) (by k_is))
  (case d44=>exact My.Df.of (by k_is) (by k_is) (by k_is) (by k_is))
  (case d45=>exact My.Df.of (by k_is) (by k_is) (by k_is) (by k_is))
  (case d46=>exact My.Df.of (by k_is) (by k_is) (by k_is) (by k_is))
  (case d47=>exact My.Df.of (by k_is) (by k_is) (by k_is) (by k_is))
  (case d48=>exact My.Df.of (by k_is) (by k_is) (by k_is) (by k_is))
  (case d49=>exact My.Df.of (by k_is) (by k_is) (by k_is) (by k_is))
  (case d50=>exact My.Df.of (by k_is) (by k_is) (by k_is) (by k_is))
  (case d51=>exact My.Df.of (by k_is) (by k_is) (by k_is) (by k_is))
  (case d52=>exact My.Df.of (by k_is) (by k_is) (by k_is) (by k_is))
  (case d53=>exact My.Df.of (by k_is) (by k_is) (by k_is) (by k_is))
  (case d54=>exact My.Df.of (by k_is) (by k_is) (by k_is) (by k_is))
  (case d55=>exact My.Df.of (by k_is) (by k_is) (by k_is) (by k_is))
  (case d56=>exact My.Df.of (by k_is) (by k_is) (by k_is) (by k_is))
  (case d57=>exact My.Df.of (by k_is) (by k_is) (by k_is) (by k_is))
  (case d58=>exact My.Df.of (by k_is) (by k_is) (by k_is) (by k_is))
  (case d59=>exact My.Df.of (by k_is) (by k_is) (by k_is) (by k_is))
  (case d60=>exact My.Df.of (by k_is) (by k_is) (by k_is) (by k_is))
  (case z1=>k_is)
  (case z2=>k_is)
  (case z3=>k_is)
  (case z4=>k_is)
  (case z5=>k_is)
  (case z6=>k_is)
  (case z7=>k_is)
  (case z8=>k_is)
  (case z9=>k_is)
  (case z10=>k_is)
  (case z11=>k_is)
  (case z12=>k_is)
  (case z13=>k_is)
  (case z14=>k_is)
  (case z15=>k_is)
  (case i1=>k_is)
  (case i2=>k_is)
  (case i3=>k_is)
  (case i4=>k_is)
  (case i5=>k_is)
  (case i6=>k_is)
  (case i7=>k_is)
  (case i8=>k_is)
  (case aI=>k_is)
  (case lD=>k_is)
  (case e1=>first | rfl | k_is)
  (case e2=>first | rfl | k_is)
  (case e3=>first | rfl | k_is)
  (case e4=>first | rfl | k_is)
  (case e5=>first | rfl | k_is)
  (case e6=>first | rfl | k_is)
  (case nD=>first | rfl | decide | k_is)
  (case aQ=>k_is)
  (case lR=>k_is)
