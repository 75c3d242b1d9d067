import PyProof.Rows.All
import Wide.All
import OpenK.AllK
import Wide.FinOn
import Lean
import PyProof.EqAt
import PyProof.EqKinds
import PyProof.TupleCall
import PyProof.TupleKey
import PyProof.DictKeyH
import PyProof.SumWalk
import KE.KDictList
import PyProof.NeKinds
import PyProof.Draws
import PyProof.ZipIter
import PyProof.ListMulRoad
import KE.RegKIsAll
import OpenK.KOwn
import PyProof.EnumMake
import PyProof.Rows.StrNews
import Flt.Sum
import PyProof.FitsBits
import PyProof.DictTable
import KE.KItemsList
import PyProof.StrCalls6
import PyProof.ToksMono
import PyProof.StrLawsReplace
import PyProof.StrLawsJoin
import PyProof.Rows.StrSplitJoin
import PyProof.DictValues
import PyProof.DictWalks
import KE.KRevIter
import PyProof.DictItems
import KE.KPairComp
import KE.KLam
import KE.IntBitsLaws
import PyProof.Rows.SortPure
import KE.KSortKey
import KE.KMinKey
import PyProof.MinMaxWalk
import PyProof.SeqI3
import PyProof.WalkInts
import PySem.Challenge.RW_boughworth_k22_trees_listed
set_option Elab.async false
set_option linter.all false
set_option bootstrap.genMatcherCode false
set_option compiler.extract_closed false
set_option genSizeOfSpec false
set_option maxRecDepth 100000
set_option maxHeartbeats 4000000
def yO:=@PySem.wpAny_bind
def yP:=@List.length_map
def yQ:=@PySem.Heap.get?_push_of_some
def yR:=@PySem.wpAny_pure
def yS:=@List.mem_append_right
def yT:=@List.mem_cons_self
def yU:=@if_neg
def yV:=@Nat.le_refl
def yW:=@if_pos
def yX:=@List.getElem?_eq_some_iff
def yY:=@List.mem_cons_of_mem
def yZ:=@List.length_append
def y0:=@List.mem_singleton
def y1:=@List.size_toArray
def y2:=@PySem.Heap.lt_size
def y3:=@List.mem_of_getElem?
def y4:=@List.getElem?_eq_getElem
def y6:=@PySem.Heap.get?_push_size
def y8:=@List.mem_append
def y9:=@Nat.zero_le
def za:=@List.mem_cons
def zb:=@PyProof.Rows.wpS_bind
def zc:=@Nat.le_trans
def zd:=@List.mem_map
def ze:=@PySem.Paired.length
def zf:=@of_decide_eq_true
def zg:=@Bool.false_eq_true
def zh:=@PyProof.Rows.wpS_pure
def zi:=@Nat.ne_of_lt
def zj:=@Option.some.inj
def zm:=@List.append_assoc
def zn:=@List.length_cons
def zo:=@List.getElem?_map
def zp:=@Bool.false_ne_true
def zq:=@decide_eq_true
def zw:=@PySem.PassesOwn.never
def zx:=@List.mem_append_left
def zy:=@List.append_nil
def zz:=@List.take_add_one
def zA:=@Nat.lt_of_lt_of_le
def zB:=@List.length_take
def zC:=@PySem.boot_len
def zD:=@List.cons.inj
def zE:=@List.map_append
def zF:=@PySem.F.plainAttrs_list
def zG:=@List.take_length
def zH:=@Array.toList_append
def zI:=@List.mem_range
def zJ:=@List.drop_eq_getElem_cons
def zK:=@decide_eq_false
def zL:=@PySem.W.mg_none_of
def zM:=@Bool.and_eq_true
def zN:=@List.mem_filter
def zO:=@List.map_map
def zP:=@PySem.wpAny_holding
def zQ:=@List.map_cons
def zR:=@Nat.le_of_lt
def zS:=@PySem.W.mg_of
def zT:=@Ne.symm
def zU:=@List.mem_flatMap
def zV:=@Array.length_toList
def zW:=@List.take_of_length_le
def zX:=@if_false
def zY:=@PySem.wpAny_callSpecial?_slot
def zZ:=@PySem.wpAny_newObj_type
def Aa:=@List.getElem?_append_right
def Ab:=@List.filterMap_cons
def Ac:=@PySem.wpAny_mono
def Ad:=@List.nodup_cons
def Ae:=@List.not_mem_nil
def Af:=@Option.map_eq_some_iff
def Ag:=@PySem.F.slot_list_append
def Ah:=@PySem.F.type_list_append
def Ai:=@PyProof.Rows.callWith_type1
def Aj:=@List.forIn_cons
def Ak:=@List.pairwise_append
def Al:=@List.getElem?_append_left
def Am:=@Int.emod_lt_of_pos
def An:=@PyProof.Rows.wpS_forRange
def Ao:=@PySem.W.kia_one
def Ap:=@PySem.wpAny_call_entry
def Aq:=@PySem.wpAny_isInstance
def Ar:=@List.take_append_drop
def As:=@Nat.ne_of_gt
def At:=@List.length_range
def Au:=@List.flatMap_cons
def Av:=@PySem.Calls.spliced_cons
def Aw:=@PySem.Heap.size_push
def Ax:=@List.mem_of_mem_take
def Ay:=@List.length_drop
def Az:=@List.all_eq_true
def AA:=@List.getElem?_zip_eq_some
def AB:=@PySem.Heap.SameBut.update
def AC:=@PySem.wpAny_field
def AD:=@Array.getElem?_toList
def AE:=@List.mem_iff_getElem?
def AF:=@Bool.not_true
def AG:=@Nat.lt_irrefl
def AH:=@Int.emod_nonneg
def AI:=@PySem.F.slot_dict_keyiterator_next
def AJ:=@PySem.W.hideAll_none
def AK:=@Nat.pow_le_pow_right
def AL:=@Array.toList_extract
def AM:=@if_true
def AN:=@PySem.Calls.spliced_nil
def AO:=@List.take_sublist
def AQ:=@PySem.F.slot_tuple_iterator_next
def AR:=@Nat.lt_succ_of_lt
def AS:=@List.pairwise_map
def AT:=@List.map_congr_left
def AU:=@Int.le_refl
def AV:=@PyProof.Rows.slot_tuple_getitem
def AW:=@List.getElem?_eq_none
def AX:=@PySem.wpAny_Call_Name_kw
def AY:=@Nat.lt_of_le_of_lt
def AZ:=@Nat.lt_succ_self
def A0:=@PySem.wpAny_seqItems
def A3:=@PySem.Paired.snoc
def A4:=@PySem.wpAny_typeNameOfWhole_keyiter
def A5:=@PySem.wpAny_truthy_bool
def A6:=@decide_eq_true_eq
def A7:=@PySem.wpAny_rule
def A8:=@List.find?_cons
def A9:=@Nat.not_lt_zero
def Ba:=@List.reverse_append
def Bb:=@PySem.Calls.callWith_builtin
def Bc:=@Nat.zero_add
def Bd:=@Nat.add_assoc
def Be:=@List.any_eq_true
def Bf:=@List.flatMap_nil
def Bg:=@List.forIn_nil
def Bh:=@List.nodup_nil
def Bi:=@PySem.F.slot_dict_get
def Bj:=@List.length_filter_le
def Bl:=@PySem.wpAny_passesOwn
def Bm:=@List.range_succ
def Bo:=@Nat.min_eq_left
def Bp:=@PySem.codeAny_builtin
def Bq:=@Int.toNat_natCast
def Br:=@PySem.wpAny_newFunctionEnv
def Bs:=@Array.toList_push
def Bt:=@PySem.wpAny_call
def Bu:=@PySem.wpAny_comprehension_free
def Bv:=@PySem.wpAny_attempt
def Bw:=@PySem.wpAny_typeNameOf_keyiter
def Bx:=@PySem.F.slot_list_extend
def By:=@PySem.F.type_list_extend
def Bz:=@beq_eq_false_iff_ne
def BA:=@PySem.mem_of_lookup
def BB:=@List.flatMap_append
def BC:=@PyProof.Rows.wpS_mono
def BD:=@Array.forIn_toList
def BE:=@PySem.W.of_hideAll
def BF:=@List.getElem?_set_self
def BG:=@PySem.codeAny_compStart_list
def BH:=@PySem.wpAny_setField_rec
def BI:=@Int.zero_add
def BJ:=@PySem.wpAny_execs_nil
def BK:=@List.length_nil
def BL:=@PySem.F.slot_zip_next
def BM:=@List.singleton_append
def BN:=@PySem.sizeLine_eq
def BO:=@PySem.Calls.evalArgs_plain
def BP:=@Nat.not_lt
def BQ:=@List.take_zero
def BR:=@PySem.codeAny_call_builtin
def BS:=@Nat.mul_le_mul_right
def BU:=@Array.perm_iff_toList_perm
def BV:=@Array.toList_reverse
def BW:=@List.getD_eq_getElem?_getD
def BX:=@PySem.wpAny_typeOf
def BY:=@Nat.sub_self
def BZ:=@List.mem_reverse
def B0:=@List.getElem_mem
def B3:=@decide_eq_decide
def B4:=@getElem?_pos
def B5:=@decide_false
def B6:=@Array.getElem?_eq_getElem
def B7:=@List.pairwise_iff_getElem
def B8:=@PySem.W.hideAll_get
def B9:=@List.getElem?_range
def Ca:=@PySem.F.args_dict_keyiterator_next_1
def Cb:=@List.mem_map_of_mem
def Cc:=@List.getElem_of_mem
def Cd:=@PySem.wpAny_standAt
def Ce:=@PySem.F.args_tuple_add_2
def Cf:=@PySem.F.entry_dict_keyiterator_next
def Cg:=@PySem.wpAny_specialOf
def Ch:=@List.of_mem_zip
def Ci:=@PySem.wpAny_pyIter_tuple
def Cj:=@PySem.tupleKind_room_in1
def Ck:=@PySem.Obj.data_mapFields
def Cm:=@PySem.F.args_tuple_iterator_next_1
def Cn:=@PySem.Code.quiet_builtin
def Co:=@PySem.F.entry_tuple_add
def Cp:=@PySem.F.args_dict_get_3
def Cq:=@PySem.F.plainAttrs_dict
def Cr:=@List.getElem?_cons_succ
def Cs:=@Nat.add_sub_cancel_left
def Ct:=@PyProof.Rows.F.plain_set_update_loop
def Cu:=@decide_true
def Cv:=@PySem.F.entry_tuple_iterator_next
def Cw:=@PySem.wpAny_pyIter_list
def Cy:=@PySem.F.slot_tuple_add
def Cz:=@Option.isSome_map
def CA:=@PySem.F.entry_dict_get
def CC:=@List.ext_getElem?
def CD:=@Bool.not_eq_true'
def CF:=@List.reverse_perm
def CG:=@List.nodup_append
def CH:=@PyProof.Rows.K_mirror_equal
def CI:=@PySem.isSubtype_tuple_tuple
def CJ:=@PySem.Heap.get?_update_self
def CL:=@PySem.wpAny_isOneOf_keyiter
def CM:=@List.perm_append_comm
def CN:=@List.pairwise_flatMap
def CO:=@List.pairwise_reverse
def CP:=@PyProof.Rows.callWith_builtin1
def CQ:=@Nat.le_of_not_lt
def CS:=@PyProof.Rows.wpS_modify
def CT:=@Prod.mk.inj
def CU:=@List.getElem?_set_ne
def CV:=@Array.toArray_toList
def CW:=@or_false
def CY:=@List.getElem?_of_mem
def CZ:=@List.eq_nil_of_length_eq_zero
def C0:=@PySem.Around.under_plainId
def C1:=@Bool.and_eq_true_iff
def C2:=@Bool.eq_iff_iff
def C3:=@Option.map_some
def C4:=@PySem.codeAny_mono
def C5:=@Nat.le_of_eq
def C6:=@Int.le_trans
def C7:=@Prod.ext
def C8:=@PySem.wpAny_tupleItemsOf
def C9:=@List.mem_filterMap
def Da:=@List.filterMap_map
def Db:=@PySem.wpAny_fieldsOf
def Dc:=@PySem.wpAny_setField
def Dd:=@List.drop_zero
def De:=@Nat.eq_zero_or_pos
def Dg:=@Sum.inr.inj
def Dh:=@PySem.wpAny_dictEntries
def Di:=@Nat.le_succ
def Dj:=@PyProof.Rows.wpS_get
def Dk:=@PySem.eval_ListComp
def Dl:=@PySem.wpAny_onRaise
def Dm:=@List.map_take
def Do:=@List.take_nil
def Dp:=@PyProof.Rows.listUpdate_at
def Dq:=@beq_self_eq_true
def Dr:=@PySem.wpAny_execs_cons
def Dt:=@PySem.noFill_tuple_add
def Du:=@List.lookup_cons
def Dv:=@PySem.take_succ_filter
def Dw:=@List.filter_cons
def Dx:=@PyProof.Rows.wpS_lift
def Dy:=@List.ext_getElem
def Dz:=@PySem.call_meetsIn
def DA:=@beq_iff_eq
def DB:=@Nat.sub_zero
def DC:=@Nat.add_zero
def DD:=@Int.le_of_lt
def DE:=@PySem.wpAny_dictEpoch
def DF:=@Int.natCast_mul
def DG:=@Sum.inl.inj
def DH:=@PySem.wpAny_of_eq
namespace My
open PySem PySem.W PySem.Calls PyProof.Rows
theorem with_hl {P R Q:Prop} (hl:P) (hc:R) (main:Q):Q:=main
structure Parts (Q:Prop):Type where
 {P1:Prop}
 {P2:Prop}
 {P3:Prop}
 {W:Prop}
 a:P1
 g:P2
 b:P3
 c:P1->P2->P3->W->Q
noncomputable def yC (_:Params):Obj:={cls:=Value.type "tuple",data:=Data.seq #[]}
noncomputable def yB (_:Params):Obj:={cls:=Value.none,data:=Data.fields #[]}
noncomputable def yA (_:Params):Obj:={cls:=Value.type "code",data:=Data.fields #[Value.str (Str.ofString "<module>") 182,Value.str (Str.ofString "<module>") 183,Value.str (Str.ofString "/claim/cut.py") 184,Value.int 1 0,Value.int 0 0,Value.int 0 0,Value.int 0 0,Value.int 0 0,Value.ref 11,Value.bool false,Value.int 181 0,Value.ref 12,Value.none,Value.none,Value.none,Value.none,Value.int 185 0,Value.int 1 0,Value.str (Str.ofString "/claim/cut.py") 186]}
noncomputable def yz (_:Params):Obj:={cls:=Value.type "frame",slots:= #[some (Value.ref 13),some (Value.ref 3),some (Value.ref 3),none,some (Value.str (Str.ofString "__main__") 164),none,some (Value.ref 0)]}
noncomputable def xN (P:Params):BT:=(BT.node (boot_o_0 P) (BT.node (boot_o_1 P) (BT.node (boot_o_3 P) (BT.node (boot_o_7 P) BT.nil BT.nil) (BT.node (yC P) BT.nil BT.nil)) (BT.node (boot_o_5 P) (BT.node (boot_o_9 P) BT.nil BT.nil) (BT.node (yA P) BT.nil BT.nil))) (BT.node (boot_o_2 P) (BT.node (boot_o_4 P) (BT.node (boot_o_8 P) BT.nil BT.nil) (BT.node (yB P) BT.nil BT.nil)) (BT.node (boot_o_6 P) (BT.node (boot_o_10 P) BT.nil BT.nil) (BT.node (yz P) BT.nil BT.nil))))
noncomputable def wz (p:Program):Env:={scope:=p.main.scope,locals:=mainNs,globals:=mainNs,cells:=[],code:=.ref 13,frame:=some 14}
noncomputable abbrev hC (p:Program):Code:=.body (behindTheImports p) (wz p)
noncomputable def hSt (w:World) (os:OsState):SharedT:=⟨xN w.params,15,{},#[],{},187,os⟩
abbrev lD:Pos:=⟨0,0,0,0⟩
noncomputable abbrev xO (p:Program):Thread:=piecesOf (behindTheImports p) (wz p) (hC p) lD [topFrame lD]
noncomputable abbrev sA (p:Program) (n:Nat) (w:World) (os:OsState):Option (Flow×SharedT×Code×Pos):=PySem.W.Fast.tw10110043849684766642 PySem.W.Fast.tw14364793385576792824 p w 11 (some (.ref 6)) 1 n (hSt w os) (xO p)
theorem yD {p:Program} {w:World} {n₀:Nat} {ann:Option Value} (s:Shared) (c:Code) (pos:Pos):topRun treeTable p w n₀ ann 2 s ⟨doneF .next,c,pos,[topFrame lD]⟩=some s:=by
 obtain ⟨h,g,d,t,o⟩:=s
 kernel_rfl
theorem xP (P:Params):((boot_heap P).isNs mainGlobals&&(#[]:Array GenState).size==0,(boot_heap P).objs.size,(boot_heap P).nsMap mainGlobals "__annotations__")=(true,11,some (.ref 6)):=by kernel_rfl
theorem left_of {p q:Program} {loose:List Str} {Xt:Shared->Bool} {α:Type} {Yf:Shared->α} {Ya:World->α} {N n:Nat} {g0:Bool} {posE:Pos}
  (e:opening p=plainProg p.main.scope.names) (hN:Nat.ble 600 N=true) (f: ∀ s,fenceModules? p s=some s) (le:Nat.ble (12+ (1+ (n+2))) N=true)
  (pre: ∀ (w:World) (os:OsState),topGo treeTable p w 11 (some (.ref 6)) 12 ⟨boot_heap w.params,#[],boot_drawn,boot_toks,os⟩ (topStub p)=some ((hSt w os).abs,⟨denote treeTable (hC p),hC p,lD,[topFrame lD]⟩))
  (block: ∀ (w:World) (os:OsState),segRun treeTable p w 11 (some (.ref 6)) 1 1 (hSt w os).abs (blockOf (behindTheImports p) (wz p) (hC p) lD [topFrame lD])=some (.next,(hSt w os).abs,hC p,lD))
  (runA: ∀ (w:World) (os:OsState),(sA p n w os).map (λr=>(r.1,r.2.2,(staticsOk (importedModules p.main.body) (boot_heap w.params) r.2.1.abs.heap&&namesBound p r.2.1.abs.heap&&gensDone r.2.1.abs&&laidKept (boot_heap w.params) r.2.1.abs.heap),(openSeen q loose (importedModules p.main.body) Xt g0 r.2.1.abs).1,Yf r.2.1.abs))=some (.next,(hC p,posE),true,(openGood q loose).1,Ya w))
  (runE: ∀ (w:World) (os:OsState),(sA p n w os).map (λr=>((openSeen q loose (importedModules p.main.body) Xt g0 r.2.1.abs).2.1,(openSeen q loose (importedModules p.main.body) Xt g0 r.2.1.abs).2.2.1))=some ((openGood q loose).2.1,(openGood q loose).2.2.1))
  (runB: ∀ (w:World) (os:OsState),(sA p n w os).map (λr=>(openSeen q loose (importedModules p.main.body) Xt g0 r.2.1.abs).2.2.2)=some (openGood q loose).2.2.2):LeftO p q loose Xt Yf Ya N g0:=by
 intro w
 obtain ⟨⟨h,gs,d,k,os⟩,e1,e'⟩:=Af.mp (boot_open e hN f w)
 obtain ⟨rfl,rfl,rfl,rfl⟩:h=boot_heap w.params/\gs= #[]/\d=boot_drawn/\k=boot_toks:=by simpa using e'
 obtain ⟨z1,z2,z3⟩:_/\_/\_:=by simpa only [Prod.mk.injEq]using xP w.params
 have E:segRunT treeTable p w 11 (some (.ref 6)) 1 n (hSt w os) (xO p)=sA p n w os:=by
  unfold sA
  rw [<- PySem.W.Fast.te10110043849684766642,<- PySem.W.Fast.te14364793385576792824]
 have A:=runA w os
 have B:=runB w os
 have E2:=runE w os
 obtain ⟨⟨fl,x,c,pos⟩,r1,r2⟩:=Af.mp A
 simp only [Prod.mk.injEq]at r2
 obtain ⟨rfl,⟨rfl,rfl⟩,l1,l2a,yb⟩:=r2
 have l2e:((openSeen q loose (importedModules p.main.body) Xt g0 x.abs).2.1,(openSeen q loose (importedModules p.main.body) Xt g0 x.abs).2.2.1)=((openGood q loose).2.1,(openGood q loose).2.2.1):=by rw [r1]at E2;exact zj E2
 have l2d:(openSeen q loose (importedModules p.main.body) Xt g0 x.abs).2.2.2=(openGood q loose).2.2.2:=by rw [r1]at B;exact zj B
 have l2:openSeen q loose (importedModules p.main.body) Xt g0 x.abs=openGood q loose:=C7 l2a (C7 (CT l2e).1 (C7 (CT l2e).2 l2d))
 have s1:=segRun_of (E.trans r1)
 have t1:=piece_app (rest:=[]) s1 (piece_nil (yD x.abs _ _))
 rw [zy]at t1
 have t3:=go_top (pre w os) (piece_block (block w os) t1)
 have r:=topRun_mono (N- (12+ (1+ (n+2)))) _ _ _ _ t3
 rw [show 12+ (1+ (n+2)) + (N- (12+ (1+ (n+2))))=N by have:=Nat.le_of_ble_eq_true le;omega]at r
 have t:topFrom treeTable p w N ⟨boot_heap w.params,#[],boot_drawn,boot_toks,os⟩=some x.abs:=by
  unfold topFrom
  dsimp only
  rw [z1,z2,z3,r]
  show (match staticsOk _ _ _&&namesBound _ _&&gensDone _&&laidKept _ _ with | true=>_ | false=>_)=_
  rw [l1]
 unfold openEnds
 rw [e1]
 change Option.map _ (topFrom treeTable p w N _)=_
 rw [t]
 exact congrArg some (C7 l2 yb)
end My
open PySem PySem.W PyProof.Rows in
set_option maxHeartbeats 0 in
noncomputable def My.parts:My.Parts PySem.Challenge.rw_boughworth_k22_trees_listed.Holds:=by
 apply My.Parts.mk
 case c=>
  intro ha he hb hW
  w_on;o_law
  apply My.with_hl
  case main=>
   k_head;(case hw=>w_witness2)
  case hc=>exact hW
  case hl=>
   refine My.left_of (n:=5500) (posE:=⟨318,0,334,15⟩) ?e ?hN ?f ?le ?pre ?block ha he hb
   case e=>kernel_rfl
   case hN=>decide
   case f=>intro s;kernel_rfl
   case le=>decide
   case pre=>(intro w os;kernel_rfl)
   case block=>(intro w os;kernel_rfl)
 case a=>(intro w os;kernel_rfl)
 case g=>(intro w os;kernel_rfl)
 case b=>(intro w os;kernel_rfl)
namespace PySem
section
variable {prog:Program} {w:World} {K K2:Type} [DecidableEq K] [DecidableEq K2] {knd:KeyKind prog w K} {kn2:KeyKind prog w K2}
def IsPairKey (knd:KeyKind prog w K) (kn2:KeyKind prog w K2) (h:Heap) (p:List K×K2) (a:Addr):Prop:=
 ∃ o items n b v,h.get? a=some o/\o.cls=.type "tuple"/\o.data=.seq items n/\items.toList=[.ref b,v]/\IsTupleKey knd h p.1 b/\kn2.is p.2 v=true
noncomputable def iE (knd:KeyKind prog w K) (kn2:KeyKind prog w K2) (p:List K×K2):Int:=reduceHash (Builtin.Tuple.tupleHashOf [tupleKeyHash knd p.1,kn2.hash p.2])
variable {A:Around} {E:Value->Shared->Prop} {s:Shared}
theorem IsPairKey.typeIs {p:List K×K2} {a:Addr} (x:IsPairKey knd kn2 s.heap p a):s.TypeIs (.ref a) "tuple":=by
 obtain ⟨o,_,_,_,_,e,c,_⟩:=x
 exact ⟨o,e,c⟩
theorem IsPairKey.inj {h:Heap} {p q:List K×K2} {a:Addr} (x:IsPairKey knd kn2 h p a) (y:IsPairKey knd kn2 h q a):p=q:=by
 obtain ⟨o,i,n,b,v,e,_,d,t,k,m⟩:=x
 obtain ⟨o',i',n',b',v',e',_,d',t',k',m'⟩:=y
 rw [e]at e';cases e'
 rw [d]at d';cases d'
 rw [t]at t'
 have h1:b=b'/\v=v':=by simpa using t'
 obtain ⟨rfl,rfl⟩:=h1
 exact C7 (k.inj k') (kn2.inj _ _ _ m m')
theorem IsPairKey.keeps {h h':Heap} {p:List K×K2} {a d:Addr} {o:Obj} {es ep} (x:IsPairKey knd kn2 h p a) (ho:h.get? d=some o) (hd:o.data=.dict es ep) (hs:Heap.SameBut d h h'):IsPairKey knd kn2 h' p a:=by
 obtain ⟨o',i,n,b,v,e,c,dt,t,k,m⟩:=x
 refine ⟨o',i,n,b,v,?_,c,dt,t,k.keeps ho hd hs,m⟩
 have ne:a≠d:=λz=>by
  subst z
  rw [ho]at e;cases e
  rw [hd]at dt;cases dt
 rw [<- e]
 exact hs.2 a ne
theorem fD {p:List K×K2} {a:Addr} {Q:Int->Shared->Prop} (hu:A.units+8<cLine) (hk:IsPairKey knd kn2 s.heap p a) (h:Q (iE knd kn2 p) {s with toks:=s.toks+ (p.1.length+1+1+1)}):
  wpAny (model prog w) A (pyHash (.ref a)) Q E s:=by
 have hT:=hk.typeIs
 obtain ⟨o,items,n,b,v,ho,_,hd,hi,hb,hv⟩:=hk
 unfold pyHash
 first | unfold pyHashByItsType | skip
 first | refine yO (wpAny_cRoomFor_or (.inr (by lia)) ?_) | skip
 refine yO (Cg hT F.slot_tuple_hash.lookup ?_)
 show wpAny _ _ (if (some (Value.builtin "tuple.__hash__")==some Value.none)=true then _ else _) Q E s
 rw [yU (by rw [beq_builtin_none];exact zp)]
 refine yO (Cg hT F.slot_tuple_hash.lookup ?_)
 show wpAny _ _ (callSpecialIfBoundUnlessNone? (.ref a) "__hash__" _ >>= _) Q E s
 refine yO (wpAny_callSpecialIfBoundUnlessNone?_slot hT F.slot_tuple_hash (Ap F.slot_tuple_hash hT F.entry_tuple_hash ?_ (F.args_tuple_hash_1 _)))
 show wpAny _ _ (Builtin.Tuple.tupleItemsOf (.ref a) >>= _) _ _ s
 refine yO (C8 ho hd ?_)
 refine yO ?_
 rw [<- BD,hi,Aj]
 refine yO (yO (wpAny_pyHash_tuple (by show _<cLine;simp;lia) hb ?_))
 refine yR ?_
 show wpAny _ _ (forIn [v] #[tupleKeyHash knd p.1] _) _ _ _
 rw [Aj]
 refine yO (yO (kn2.pyHash hv ?_))
 refine yR ?_
 show wpAny _ _ (forIn [] _ _) _ _ _
 rw [Bg]
 refine yR ?_
 show wpAny _ _ (retInt (Builtin.Tuple.tupleHashOf [tupleKeyHash knd p.1,kn2.hash p.2])) _ _ _
 refine wpAny_ret_mkInt ?_
 generalize hz:Builtin.Tuple.tupleHashOf [tupleKeyHash knd p.1,kn2.hash p.2]=z
 show wpAny _ _ (if (decide (-(2:Int) ^63<=z)&&decide (z<2^63))=true then _ else _) Q E _
 unfold iE reduceHash at h
 rw [hz]at h
 by_cases hr:(decide (-(2:Int) ^63<=z)&&decide (z<2^63))=true
 ·rw [yW hr]
  rw [yW hr]at h
  exact yR (by simpa [Bd]using h)
 ·rw [yU hr]
  rw [yU hr]at h
  exact yO (A7 (yR (by simpa [Bd]using h)))
theorem kX (m:Nat) {ks:List K} {a:Addr} {Q:Bool->Shared->Prop} (hk:IsTupleKey knd s.heap ks a) (h:Q true s):wpAny (model prog w) A (eqIsQuiet (m+1) (.ref a)) Q E s:=by
 have hT:=hk.typeIs
 obtain ⟨o,items,n,ho,_,hd,hi⟩:=hk
 unfold eqIsQuiet
 refine yO (Cg hT F.slot_tuple_eq.lookup ?_)
 show wpAny _ _ (isInstance (.ref a) (.type "tuple") >>= _) _ _ s
 refine yO (Aq hT CI ?_)
 simp only [AF,zg,zX]
 refine yO (A0 ho hd (yO ?_))
 show wpAny _ _ (forIn items _ _) _ _ s
 rw [<- BD]
 refine wpAny_forIn_list _ (λrest r s'=>r.1=none/\s'=s/\ ∀ v∈rest,carriedByValue v=true) _ ?_ ?_ _ _ ⟨rfl,rfl,hi.byValue⟩
 ·rintro v rest r s' ⟨hr,rfl,hall⟩
  rw [eqIsQuiet_byValue _ (hall v yT)]
  refine yO (yR ?_)
  simp only [AF,zg,zX]
  exact yR ⟨rfl,rfl,λu hu'=>hall u (yY _ hu')⟩
 ·rintro ⟨r1,r2⟩ s' ⟨hr,rfl,_⟩
  simp only at hr
  subst hr
  exact yR h
theorem dM {p:List K×K2} {a:Addr} {Q:Bool->Shared->Prop} (hk:IsPairKey knd kn2 s.heap p a) (h:Q true s):wpAny (model prog w) A (eqIsQuiet 8 (.ref a)) Q E s:=by
 have hT:=hk.typeIs
 obtain ⟨o,items,n,b,v,ho,_,hd,hi,hb,hv⟩:=hk
 unfold eqIsQuiet
 refine yO (Cg hT F.slot_tuple_eq.lookup ?_)
 show wpAny _ _ (isInstance (.ref a) (.type "tuple") >>= _) _ _ s
 refine yO (Aq hT CI ?_)
 simp only [AF,zg,zX]
 refine yO (A0 ho hd ?_)
 refine yO ?_
 show wpAny _ _ (forIn items _ _) _ _ s
 rw [<- BD,hi,Aj]
 refine yO (yO (kX 6 hb ?_))
 simp only [AF,zg,zX]
 refine yR ?_
 show wpAny _ _ (forIn [v] (none,()) _) _ _ _
 rw [Aj,eqIsQuiet_byValue _ (kn2.byValue _ _ hv)]
 refine yO (yO (yR ?_))
 simp only [AF,zg,zX]
 refine yR ?_
 show wpAny _ _ (forIn [] _ _) _ _ _
 rw [Bg]
 exact yR (yR h)
theorem kf {p q:List K×K2} {a b:Addr} {R:Fin->Shared->Prop} (hu:A.units+4<cLine) (hx:IsPairKey knd kn2 s.heap p a) (hy:IsPairKey knd kn2 s.heap q b) (h:R (.done (.ret (.bool (decide (p=q))))) s):
  wpAny (model prog w) A (Builtin.«tuple.__eq__» ⟨[.ref a,.ref b],[]⟩) R E s:=by
 have hTb:=hy.typeIs
 obtain ⟨oa,xs,na,a1,v1,hoa,_,hda,hia,hka,hva⟩:=hx
 obtain ⟨ob,ys,nb,b1,v2,hob,_,hdb,hib,hkb,hvb⟩:=hy
 show wpAny _ _ (isInstance (.ref b) (.type "tuple") >>= _) _ _ s
 refine yO (Aq hTb CI ?_)
 simp only [AF,zg,zX]
 refine yO (C8 hoa hda (yO (C8 hob hdb (yO ?_))))
 have hs:xs.size=ys.size:=by rw [<- zV,<- zV,hia,hib];rfl
 rw [hia,hib]
 show wpAny _ _ (forIn [(Value.ref a1,Value.ref b1),(v1,v2)] (none,()) _) _ _ _
 rw [Aj]
 refine yO (yO (wpAny_eqBool_tuple (by lia) hka hkb ?_))
 by_cases h1:p.1=q.1
 ·rw [zq h1]
  simp only [AF,zg,zX]
  refine yR ?_
  show wpAny _ _ (forIn [(v1,v2)] (none,()) _) _ _ _
  rw [Aj]
  refine yO (yO (kn2.eqBool (a:=p.2) (b:=q.2) hva hvb ?_))
  by_cases h2:p.2=q.2
  ·rw [zq h2]
   simp only [AF,zg,zX]
   refine yR ?_
   show wpAny _ _ (forIn [] _ _) _ _ _
   rw [Bg]
   rw [zq (C7 h1 h2)]at h
   refine yR (yR ?_)
   show R (.done (.ret (.bool (xs.size==ys.size)))) s
   rw [hs,Dq]
   exact h
  ·rw [zK h2]
   simp only [Bool.not_false,AM]
   rw [zK λe=>h2 (congrArg Prod.snd e)]at h
   exact yO (yR (yR (yR (yR h))))
 ·rw [zK h1]
  simp only [Bool.not_false,AM]
  rw [zK λe=>h1 (congrArg Prod.fst e)]at h
  exact yO (yR (yR (yR (yR h))))
theorem fE {p q:List K×K2} {a b:Addr} {Q:Bool->Shared->Prop} (hu:A.units+8<cLine) (hx:IsPairKey knd kn2 s.heap p a) (hy:IsPairKey knd kn2 s.heap q b) (h:Q (decide (p=q)) s):
  wpAny (model prog w) A (eqBool (.ref a) (.ref b)) Q E s:=by
 unfold eqBool
 try with_reducible refine zP ?_
 show wpAny _ _ (if (Value.ref a==Value.ref b)=true then _ else _) Q E s
 by_cases hab:(Value.ref a==Value.ref b)=true
 ·rw [yW hab]
  have e:a=b:=by have:=eq_of_beq hab;injection this
  subst e
  obtain rfl:=hx.inj hy
  exact yO (A7 (yR (by simpa using h)))
 ·rw [yU hab]
  exact yO (wpAny_richCompare_same_room (op:=.Eq) hx.typeIs hy.typeIs F.slot_tuple_eq
   (Ap F.slot_tuple_eq hx.typeIs F.entry_tuple_eq (kf (by simp;lia) hx hy ⟨_,rfl,(λe=>nomatch e),A5 h⟩) (F.args_tuple_eq_2 _ _)) (by lia))
end
noncomputable def cT {prog:Program} {w:World} {K K2:Type} [DecidableEq K] [DecidableEq K2] (knd:KeyKind prog w K) (kn2:KeyKind prog w K2):HeapKind prog w (List K×K2) where
 is:=IsPairKey knd kn2
 hash:=iE knd kn2
 draws:=λp=>p.1.length+1+1+1
 room:=λA=>A.units+8<cLine
 inj:=λhx hy=>hx.inj hy
 keeps:=λx ho hd hs=>x.keeps ho hd hs
 pyHash:=λhu hk h=>fD hu hk h
 eqBool:=λhu hx hy h=>fE hu hx hy h
 quiet:=λhk h=>dM hk h
end PySem
namespace L2
open PySem PySem.Spec PyProof.Rows
abbrev Key:=Sum Int Str
noncomputable def jw:Key->Value->Bool
 | .inl k,v=>Value.isInt k v
 | .inr x,v=>Value.isStrOf x v
noncomputable def yw (w:World):Key->Int
 | .inl k=>hashInt k
 | .inr x=>hashStr w x
theorem bh: ∀ {k:Key} {v:Value},jw k v=true->(∃ i t,k=Sum.inl i/\v=Value.int i t)\/(∃ x t,k=Sum.inr x/\v=Value.str x t)
 | .inl i,v,h=>by
  obtain ⟨t,e⟩:=Value.isInt_shape (k:=i) (v:=v) h
  exact .inl ⟨i,t,rfl,e⟩
 | .inr x,v,h=>by
  obtain ⟨t,e⟩:=Value.isStrOf_shape (x:=x) (v:=v) h
  exact .inr ⟨x,t,rfl,e⟩
theorem pU (i:Int) (t:Tok):jw (.inl i) (.int i t)=true:=by simp [jw,Value.isInt]
theorem pS (x:Str) (t:Tok):jw (.inr x) (.str x t)=true:=by simp [jw,Value.isStrOf]
theorem wv (a b:Int):decide ((Sum.inl a:Key)=Sum.inl b)=(a==b):=by
 by_cases e:a=b
 ·subst e;simp
 ·have h: ¬ (Sum.inl a:Key)=Sum.inl b:=λq=>e (DG q)
  rw [zK h]
  exact (Bz.mpr e).symm
theorem wq (a b:Str):decide ((Sum.inr a:Key)=Sum.inr b)=decide (a=b):=by
 by_cases e:a=b
 ·subst e;simp
 ·have h: ¬ (Sum.inr a:Key)=Sum.inr b:=λq=>e (Dg q)
  rw [zK h,zK e]
theorem wu (a:Int) (b:Str):decide ((Sum.inl a:Key)=Sum.inr b)=false:=zK (λq=>nomatch q)
theorem wt (a:Str) (b:Int):decide ((Sum.inr a:Key)=Sum.inl b)=false:=zK (λq=>nomatch q)
noncomputable def aK (prog:Program) (w:World):PySem.KeyKind prog w Key where
 is:=jw
 hash:=yw w
 inj:=λv a b ha hb=>by
  rcases bh ha with ⟨i,t,rfl,rfl⟩ | ⟨x,t,rfl,rfl⟩
  ·rcases bh hb with ⟨j,u,rfl,e⟩ | ⟨y,u,rfl,e⟩
   ·injection e with e1 _;rw [e1]
   ·exact nomatch e
  ·rcases bh hb with ⟨j,u,rfl,e⟩ | ⟨y,u,rfl,e⟩
   ·exact nomatch e
   ·injection e with e1 _;rw [e1]
 byValue:=λk v h=>by
  rcases bh h with ⟨i,t,rfl,rfl⟩ | ⟨x,t,rfl,rfl⟩ <;> rfl
 pyHash:=λhv h=>by
  rcases bh hv with ⟨i,t,rfl,rfl⟩ | ⟨x,t,rfl,rfl⟩
  ·exact wpAny_pyHash_int h
  ·exact wpAny_pyHash_str h
 eqBool:=λhu hv h=>by
  rcases bh hu with ⟨i,t,rfl,rfl⟩ | ⟨x,t,rfl,rfl⟩
  ·rcases bh hv with ⟨j,u,rfl,rfl⟩ | ⟨y,u,rfl,rfl⟩
   ·rw [wv]at h;exact wpAny_eqBool_int h
   ·rw [wu]at h;exact SeqAt.EqAt.int_str i t y u _ _ _ _ h
  ·rcases bh hv with ⟨j,u,rfl,rfl⟩ | ⟨y,u,rfl,rfl⟩
   ·rw [wt]at h;exact SeqAt.EqAt.str_int x t j u _ _ _ _ h
   ·rw [wq]at h;exact wpAny_eqBool_str h
 «strs» :=λk x t v h=>by
  rcases bh h with ⟨i,u,rfl,e⟩ | ⟨y,u,rfl,e⟩
  ·exact nomatch e
  ·injection e with e1 _
   subst e1
   cases v <;> rfl
theorem lp (prog:Program) (w:World) (i:Int) (t:Tok):(aK prog w).is (.inl i) (.int i t)=true:=pU i t
theorem lm (prog:Program) (w:World) (x:Str) (t:Tok):(aK prog w).is (.inr x) (.str x t)=true:=pS x t
inductive V where
 | non | bl (b:Bool) | int (i:Int) | str (x:Str) | byt (b:Array UInt8) | flt (b:UInt64) | ref (a:Addr) | ty (n:String)
 deriving DecidableEq
noncomputable def RelV:V->Value->Prop
 | .non,u=>u=Value.none
 | .bl b,u=>u=Value.bool b
 | .int i,u=> ∃ t,u=Value.int i t
 | .str x,u=> ∃ t,u=Value.str x t
 | .byt b,u=> ∃ t,u=Value.bytes b t
 | .flt b,u=> ∃ t,u=Value.float b t
 | .ref a,u=>u=Value.ref a
 | .ty n,u=>u=Value.type n
noncomputable abbrev Vals:List V->List Value->Prop:=Paired RelV
theorem Vals.length {xs:List V} {us:List Value} (r:Vals xs us):xs.length=us.length:=ze r
theorem Vals.get: ∀ {xs:List V} {us:List Value} {i:Nat} {x:V},Vals xs us->xs[i]? =some x-> ∃ u,us[i]? =some u/\RelV x u
 | _,_,_,_,.nil,e=>by simp at e
 | _,_,0,_,.cons r _,e=>by simp at e;subst e;exact ⟨_,rfl,r⟩
 | _,_,i+1,x,.cons _ t,e=>by
  obtain ⟨u,h1,h2⟩:=Vals.get (i:=i) (x:=x) t (by simpa using e)
  exact ⟨u,by simpa using h1,h2⟩
theorem Vals.set {x:V} {u:Value} (r:RelV x u): ∀ {xs:List V} {us:List Value} (i:Nat),Vals xs us->Vals (xs.set i x) (us.set i u)
 | _,_,_,.nil=>.nil
 | _,_,0,.cons _ t=>.cons r t
 | _,_,i+1,.cons q t=>.cons q (Vals.set r i t)
theorem Vals.append: ∀ {xs ys:List V} {us ws:List Value},Vals xs us->Vals ys ws->Vals (xs++ys) (us++ws)
 | _,_,_,_,.nil,s=>s
 | _,_,_,_,.cons r t,s=>.cons r (Vals.append t s)
theorem Vals.take: ∀ {xs:List V} {us:List Value} (n:Nat),Vals xs us->Vals (xs.take n) (us.take n)
 | _,_,0,_=>.nil
 | _,_,_+1,.nil=>.nil
 | _,_,n+1,.cons r t=>.cons r (Vals.take n t)
theorem Vals.drop: ∀ {xs:List V} {us:List Value} (n:Nat),Vals xs us->Vals (xs.drop n) (us.drop n)
 | _,_,0,r=>r
 | _,_,_+1,.nil=>.nil
 | _,_,n+1,.cons _ t=>Vals.drop n t
theorem Vals.none_of: ∀ {xs:List V} {us:List Value} {i:Nat},Vals xs us->xs[i]? =none->us[i]? =none:=λ{xs us i} r e=>by
 have h1:=r.length
 have h2:xs.length<=i:=List.getElem?_eq_none_iff.mp e
 exact List.getElem?_eq_none_iff.mpr (by lia)
noncomputable def RelO:Option V->Option Value->Prop
 | some v,some u=>RelV v u
 | none,none=>True
 | _,_=>False
noncomputable def KV {κ:Type}:List (κ×V)->List (κ×Value)->Prop:=Paired λ(p:κ×V) (q:κ×Value)=>p.1=q.1/\RelV p.2 q.2
noncomputable def kV:Key->V
 | .inl i=>.int i
 | .inr x=>.str x
inductive HO where
 /-- a list -/
 | lst (xs:List V)
 /-- a tuple (never changes) -/
 | tup (xs:List V)
 /-- a dict whose keys are ints and texts; one whose keys are tuples of ints and texts (the empty one is both) -/
 | dK (kvs:List (Key×V)) | dT (kvs:List (List Key×V)) | dP (kvs:List ((List Key×Key)×V))
 /-- a set of ints: its members, its size -/
 | set (S:Int->Bool) (n:Nat)
 /-- an instance of the class at C, its dict at dx, its attributes -/
 | ins (C dx:Addr) (fs:List (Str×V))
 /-- the dict of the instance at x -/
 | own (x:Addr)
 /-- the dict of an exception -/
 | xd (fs:List (Str×V))
 /-- a bound method, f of x -/
 | met (f x:Addr)
 /-- a range object lo, lo + 1, .. below hi -/
 | rng (lo hi:Int)
 /-- a thing that is known to the object (the script; a dict while a loop walks it): read, never written while it is so -/
 | frz (o:Obj) (u:HO)
 /-- a code object's table -/
 | tbl (ps:Array Value)
 /-- any other thing, by what is true of its one object (a def of one's own: SetO a S n := HO.ext λh => ..) -/
 | ext (φ:Heap->Prop)
abbrev Hp:=Addr->Option HO
noncomputable def upd (H:Hp) (a:Addr) (o:HO):Hp:=λb=>if b=a then some o else H b
theorem ad {H:Hp} {a:Addr} {o:HO}:upd H a o a=some o:=by unfold upd;rw [yW rfl]
theorem ak {H:Hp} {a b:Addr} {o:HO} (h:b≠a):upd H a o b=H b:=by unfold upd;rw [yU h]
theorem cX {H:Hp} {a:Addr} {o u:HO}:upd (upd H a o) a u=upd H a u:=by
 funext b;unfold upd;split <;> rfl
theorem on {H:Hp} {a b:Addr} {o u:HO} (h:H a=some o) (h':H b=some u) (d:o≠u):a≠b:=by
 intro e;subst e;rw [h]at h';exact d (zj h')
theorem aj {H:Hp} {a b:Addr} {o:HO} (h:H a=some o) (h':H b=none):a≠b:=by
 intro e;subst e;rw [h]at h';cases h'
section
variable (P:Program) (w:World)
noncomputable def ObjOk (H:Hp) (h:Heap) (a:Addr):HO->Prop
 | .lst xs=>xs.length<=sizeLine/\ ∃ (its:List Value) (n:Nat),Vals xs its/\h.get? a=some {cls:=.type "list",data:=.seq its.toArray n}
 | .tup xs=>xs.length<=sizeLine/\ ∃ its:List Value,Vals xs its/\IsTup h a its.toArray
 | .dK kvs=>kvs.length<=sizeLine/\(a==sysModules)=false/\ ∃ vs,KV kvs vs/\h.DictOf (aK P w) a vs
 | .dT kvs=>kvs.length<=sizeLine/\(a==sysModules)=false/\ ∃ xs:List (List Key×Addr×Value),
   Paired (λ(p:List Key×V) (q:List Key×Addr×Value)=>p.1=q.1/\H q.2.1=some (.tup (p.1.map kV))/\RelV p.2 q.2.2) kvs xs/\
   ∃ o es ep,h.get? a=some o/\o.ExactDict/\o.data=.dict es ep/\es.toList=xs.map (entryOfKey (tupleKind (aK P w)))/\(xs.map (·.1)).Nodup
 | .dP kvs=>kvs.length<=sizeLine/\(a==sysModules)=false/\ ∃ xs:List ((List Key×Key)×Addr×Value),
   Paired (λ(p:(List Key×Key)×V) (q:(List Key×Key)×Addr×Value)=>p.1=q.1/\(∃ b,H q.2.1=some (.tup [.ref b,kV p.1.2])/\H b=some (.tup (p.1.1.map kV)))/\RelV p.2 q.2.2) kvs xs/\
   ∃ o es ep,h.get? a=some o/\o.ExactDict/\o.data=.dict es ep/\es.toList=xs.map (entryOfKey (cT (aK P w) (aK P w)))/\(xs.map (·.1)).Nodup
 | .set S n=>h.SetOf (intKind P w) a S n
 | .ins C dx fs=>H dx=some (.own a)/\fs.length<=1000/\dx≠a/\h.get? a=some (PySem.W.instObj C dx)/\
   ∃ mA,h.Ns1 dx mA/\(∀ f,RelO (fs.lookup f) (mA f))/\PySem.Within mA (fs.map (·.1))
 | .own _=> ∃ o,h.get? a=some o
 | .xd fs=> ∃ mA,h.Ns1 a mA/\ ∀ f,RelO (fs.lookup f) (mA f)
 | .rng lo hi=> ∃ t u v,h.get? a=some {cls:=.type "range",data:=.fields #[.int lo t,.int hi u,.int 1 v]}
 | .frz o u=>h.get? a=some o/\ObjOk H h a u
 | .tbl ps=>h.get? a=some {cls:=.none,data:=.fields ps}
 | .met f x=>h.get? a=some (PySem.W.methodObj (.ref f) (.ref x))
 | .ext φ=>φ h/\(∃ o,h.get? a=some o)/\ ∀ h1 h2:Heap,φ h1->(∀ o,h1.get? a=some o->h2.get? a=some o)->φ h2
def HOk (H:Hp) (h:Heap):Prop:= ∀ a o,H a=some o->ObjOk P w H h a o
end
section
variable {P:Program} {w:World} {H H':Hp} {h h':Heap} {a:Addr} {o:HO}
theorem ObjOk.lt (x:ObjOk P w H h a o):a<h.objs.size:=by
 cases o with
 | lst xs=>obtain ⟨_,_,_,_,e⟩:=x;exact y2 e
 | tup xs=>obtain ⟨_,_,_,p⟩:=x;exact p.lt
 | dK kvs=>obtain ⟨_,_,_,_,o,_,_,e,_⟩:=x;exact y2 e
 | dT kvs=>obtain ⟨_,_,_,_,o,_,_,e,_⟩:=x;exact y2 e
 | dP kvs=>obtain ⟨_,_,_,_,o,_,_,e,_⟩:=x;exact y2 e
 | set S n=>obtain ⟨o,_,_,_,e,_⟩:=x;exact y2 e
 | ins C dx fs=>obtain ⟨_,_,_,e,_⟩:=x;exact y2 e
 | own y=>obtain ⟨_,e⟩:=x;exact y2 e
 | xd fs=>obtain ⟨_,⟨_,_,_,e,_⟩,_⟩:=x;exact y2 e
 | rng lo hi=>obtain ⟨_,_,_,e⟩:=x;exact y2 e
 | frz ob u=>obtain ⟨e,_⟩:=x;exact y2 e
 | tbl ps=>exact y2 (show h.get? a=some _ from x)
 | met f y=>exact y2 (show h.get? a=some _ from x)
 | ext φ=>obtain ⟨_,⟨_,e⟩,_⟩:=x;exact y2 e
theorem Paired.mapP {α β:Type} {F G:α->β->Prop}: ∀ {l₁:List α} {l₂:List β},Paired F l₁ l₂->(∀ a b,F a b->G a b)->Paired G l₁ l₂
 | _,_,.nil,_=>.nil
 | _,_,.cons r t,f=>.cons (f _ _ r) (Paired.mapP t f)
theorem ObjOk.stay (x:ObjOk P w H h a o) (k: ∀ b u,(b=a\/H b=some (.own a))->h.get? b=some u->h'.get? b=some u)
  (ho: ∀ b,H b=some (.own a)->H' b=some (.own a)) (ht: ∀ b xs,H b=some (.tup xs)->H' b=some (.tup xs)):ObjOk P w H' h' a o:=by
 induction o with
 | lst xs=>obtain ⟨z,its,n,r,e⟩:=x;exact ⟨z,its,n,r,k _ _ (.inl rfl) e⟩
 | tup xs=>obtain ⟨z,its,r,ob,e,c⟩:=x;exact ⟨z,its,r,ob,k _ _ (.inl rfl) e,c⟩
 | dK kvs=>obtain ⟨z,y,vs,r,ob,es,ep,e,c⟩:=x;exact ⟨z,y,vs,r,ob,es,ep,k _ _ (.inl rfl) e,c⟩
 | dT kvs=>
  obtain ⟨z,y,xs,r,ob,es,ep,e,c⟩:=x
  exact ⟨z,y,xs,Paired.mapP r λp q z=>⟨z.1,ht _ _ z.2.1,z.2.2⟩,ob,es,ep,k _ _ (.inl rfl) e,c⟩
 | dP kvs=>
  obtain ⟨z,y,xs,r,ob,es,ep,e,c⟩:=x
  exact ⟨z,y,xs,Paired.mapP r λp q z=>⟨z.1,let ⟨b,e1,e2⟩:=z.2.1;⟨b,ht _ _ e1,ht _ _ e2⟩,z.2.2⟩,ob,es,ep,k _ _ (.inl rfl) e,c⟩
 | set S n=>obtain ⟨ob,es,ep,t,e,c⟩:=x;exact ⟨ob,es,ep,t,k _ _ (.inl rfl) e,c⟩
 | ins C dx fs=>
  obtain ⟨d,z,ne,e,mA,⟨od,es,ep,e2,c⟩,r⟩:=x
  exact ⟨ho _ d,z,ne,k _ _ (.inl rfl) e,mA,⟨od,es,ep,k _ _ (.inr d) e2,c⟩,r⟩
 | own y=>obtain ⟨ob,e⟩:=x;exact ⟨ob,k _ _ (.inl rfl) e⟩
 | xd fs=>obtain ⟨mA,⟨od,es,ep,e,c⟩,r⟩:=x;exact ⟨mA,⟨od,es,ep,k _ _ (.inl rfl) e,c⟩,r⟩
 | rng lo hi=>obtain ⟨t,u,v,e⟩:=x;exact ⟨t,u,v,k _ _ (.inl rfl) e⟩
 | frz ob u ih=>obtain ⟨e,q⟩:=x;exact ⟨k _ _ (.inl rfl) e,ih q⟩
 | tbl ps=>
  have e:h.get? a=some {cls:=.none,data:=.fields ps}:=x
  show h'.get? a=some {cls:=.none,data:=.fields ps}
  exact k a _ (.inl rfl) e
 | met f y=>
  have e:h.get? a=some (PySem.W.methodObj (.ref f) (.ref y)):=x
  show h'.get? a=some (PySem.W.methodObj (.ref f) (.ref y))
  exact k a _ (.inl rfl) e
 | ext φ=>obtain ⟨p,⟨o,e⟩,st⟩:=x;exact ⟨st _ _ p λo q=>k _ _ (.inl rfl) q,⟨o,k _ _ (.inl rfl) e⟩,st⟩
theorem HOk.lt (x:HOk P w H h) (e:H a=some o):a<h.objs.size:=(x a o e).lt
theorem HOk.fresh (x:HOk P w H h) (e:h.objs.size<=a):H a=none:=by
 cases q:H a with
 | none=>rfl
 | some u=>exact absurd (zA (x.lt q) e) (AG _)
theorem HOk.kept (x:HOk P w H h) (k: ∀ b u,h.get? b=some u->h'.get? b=some u):HOk P w H h':=λa o e=>
 (x a o e).stay (λb u _ q=>k b u q) (λ_ q=>q) λ_ _ q=>q
theorem HOk.laid (x:HOk P w H h) (k: ∀ b u,h.get? b=some u->h'.get? b=some u) (hp:h.objs.size<=a) (new:ObjOk P w (upd H a o) h' a o):HOk P w (upd H a o) h':=λb u e=>by
 have hn:=x.fresh hp
 by_cases hb:b=a
 ·subst hb;rw [ad]at e;cases e;exact new
 ·rw [ak hb]at e
  exact (x b u e).stay (λc v _ q=>k c v q) (λc q=>by rw [ak (aj q hn)];exact q) λc xs q=>by rw [ak (aj q hn)];exact q
end
def Rd (H:Hp) (a:Addr) (u:HO):Prop:=H a=some u\/ ∃ o,H a=some (.frz o u)
theorem Rd.ok {P:Program} {w:World} {H:Hp} {h:Heap} {a:Addr} {u:HO} (r:Rd H a u) (x:HOk P w H h):ObjOk P w H h a u:=by
 rcases r with r | ⟨o,r⟩
 ·exact x a u r
 ·obtain ⟨_,q⟩:=x a _ r
  exact q
noncomputable def Mut:Option HO->Prop
 | some (.lst _)=>True
 | some (.dK _)=>True
 | some (.dT _)=>True
 | some (.dP _)=>True
 | some (.set _ _)=>True
 | some (.ins _ _ _)=>True
 | some (.ext _)=>True
 | _=>False
section
variable {P:Program} {w:World} {H:Hp} {h h':Heap} {x e:Addr} {o':HO}
theorem HOk.write (ok:HOk P w H h) (mu:Mut (H x)) (he:e=x\/H e=some (.own x)) (k: ∀ b u,b≠e->h.get? b=some u->h'.get? b=some u) (heo: ∃ u,h'.get? e=some u)
  (new:ObjOk P w (upd H x o') h' x o'):HOk P w (upd H x o') h':=λb u q=>by
 have nown: ∀ c y,H c=some (.own y)->c≠x:=λc y r z=>by subst z;rw [r]at mu;exact mu
 have ntup: ∀ c xs,H c=some (.tup xs)->c≠x:=λc xs r z=>by subst z;rw [r]at mu;exact mu
 by_cases hb:b=x
 ·subst hb;rw [ad]at q;cases q;exact new
 ·rw [ak hb]at q
  by_cases hbe:b=e
  ·have q':H b=some (.own x):=by
    rcases he with z | z
    ·exact absurd (hbe.trans z) hb
    ·rw [hbe];exact z
   rw [q]at q';cases q'
   obtain ⟨v,hv⟩:=heo
   exact ⟨v,by rw [hbe];exact hv⟩
  ·refine (ok b u q).stay (λc v hc r=>k c v ?_ r) (λc r=>by rw [ak (nown c b r)];exact r) λc xs r=>by rw [ak (ntup c xs r)];exact r
   rcases hc with rfl | hc
   ·exact hbe
   ·rintro rfl
    rcases he with z | z
    ·exact nown c b hc z
    ·rw [hc]at z;cases z;exact hb rfl
end
structure Un (fs ex:List Addr) (H H':Hp) (h h':Heap):Prop where
 keep: ∀ b o,h.get? b=some o->H b=none->b∉fs->b∉ex->h'.get? b=some o
 slot: ∀ b o,h.get? b=some o->H b=none->b∈fs->b∉ex-> ∃ sl,h'.get? b=some {o with slots:=sl}
 free: ∀ b o,h.get? b=some o->H b=none->b∉ex->H' b=none
 there: ∀ b o,h.get? b=some o->b∉ex-> ∃ o',h'.get? b=some o'
 tups: ∀ b xs,H b=some (.tup xs)->H' b=some (.tup xs)
 frzs: ∀ b o u,H b=some (.frz o u)->H' b=some (.frz o u)
 tbls: ∀ b ps,H b=some (.tbl ps)-> ∃ more,H' b=some (.tbl (ps++more))
section
variable {fs fs' ex ex':List Addr} {H H1 H2:Hp} {h h1 h2 h':Heap} {a x e:Addr} {o:HO}
theorem Un.any (u:Un fs ex H H1 h h1) {b:Addr} {ob:Obj} (q:h.get? b=some ob) (n:H b=none) (hx:b∉ex): ∃ sl,h1.get? b=some {ob with slots:=sl}:=by
 by_cases hb:b∈fs
 ·exact u.slot b ob q n hb hx
 ·exact ⟨ob.slots,u.keep b ob q n hb hx⟩
theorem Un.kept (k: ∀ b u,h.get? b=some u->h'.get? b=some u):Un fs ex H H h h':=
 ⟨λb ob q _ _ _=>k b ob q,λb ob q _ _ _=>⟨ob.slots,k b ob q⟩,λ_ _ _ n _=>n,λb ob q _=>⟨ob,k b ob q⟩,λ_ _ q=>q,λ_ _ _ q=>q,λ_ ps q=>⟨#[],by rw [q];simp⟩⟩
theorem Un.refl:Un fs ex H H h h:=Un.kept λ_ _ q=>q
theorem Un.laid (k: ∀ b u,h.get? b=some u->h'.get? b=some u) (hp:h.objs.size<=a) (hn:H a=none):Un fs ex H (upd H a o) h h' where
 keep:=λb u q _ _ _=>k b u q
 slot:=λb u q _ _ _=>⟨u.slots,k b u q⟩
 free:=λb u q n _=>by rw [ak (zi (zA (y2 q) hp))];exact n
 there:=λb u q _=>⟨u,k b u q⟩
 tups:=λb xs q=>by rw [ak (aj q hn)];exact q
 frzs:=λb u xs q=>by rw [ak (aj q hn)];exact q
 tbls:=λb ps q=>⟨#[],by rw [ak (aj q hn),q];simp⟩
theorem Un.write (mu:Mut (H x)) (he:e=x\/H e=some (.own x)) (k: ∀ b u,b≠e->h.get? b=some u->h'.get? b=some u) (heo: ∃ u,h'.get? e=some u):Un fs ex H (upd H x o) h h':=by
 have hx: ∀ b,H b=none->b≠x:=λb n z=>by subst z;rw [n]at mu;exact mu
 have hb: ∀ b,H b=none->b≠e:=λb n z=>by
  subst z
  rcases he with r | r
  ·exact hx b n r
  ·rw [n]at r;cases r
 have hm: ∀ b u,H b=some u-> ¬ Mut (some u)->b≠x:=λb u q nm z=>by subst z;rw [q]at mu;exact nm mu
 refine ⟨λb u q n _ _=>k b u (hb b n) q,λb u q n _ _=>⟨u.slots,k b u (hb b n) q⟩,λb u q n _=>by rw [ak (hx b n)];exact n,λb u q _=>?_,
  λb xs q=>by rw [ak (hm b _ q λz=>z)];exact q,λb u xs q=>by rw [ak (hm b _ q λz=>z)];exact q,λb ps q=>⟨#[],by rw [ak (hm b _ q λz=>z),q];simp⟩⟩
 by_cases hbe:b=e
 ·subst hbe;exact heo
 ·exact ⟨u,k b u hbe q⟩
end
noncomputable def trk (h:Heap) (H:Hp):List Addr:=(List.range h.objs.size).filter λa=>(H a).isSome
noncomputable def iO (h:Heap) (H:Hp):Heap:=PySem.W.hideAll h (trk h H)
theorem pX (h:Heap) (H:Hp):(iO h H).objs.size=h.objs.size:=PySem.W.hideAll_size _ _
theorem sy {h:Heap} {H:Hp} {b:Addr} {o:Obj} (e:h.get? b=some o) (n:H b=none):(iO h H).get? b=some o:=
 B8 _ e λhm=>by
  have q:(H b).isSome=true:=(zN.mp hm).2
  rw [n]at q;simp at q
theorem uq {h:Heap} {H:Hp} {b:Addr} {o:Obj} (e:(iO h H).get? b=some o):h.get? b=some o/\H b=none:=by
 have e':h.get? b=some o:=BE (trk h H) e
 refine ⟨e',?_⟩
 cases q:H b with
 | none=>rfl
 | some x=>
  have hm:b∈trk h H:=zN.mpr ⟨zI.mpr (y2 e'),by simp [q]⟩
  have z:(iO h H).get? b=none:=AJ (trk h H) hm
  rw [z]at e;cases e
structure Mod (K:W.Frag) (mg:Str->Option Value) (base:Heap):Prop where
 kin:K.In base
 glob:base.Ns mainGlobals mg
 blt: ∃ mb,base.Ns builtinsNs mb/\ ∀ x:Str,x≠"__name__"->mb x=bootBuiltins x
 nolimit:base.NoLimit
structure Cx where
 prog:Program
 w:World
 K:PySem.W.Frag
 mg:Str->Option Value
 base:Heap
 A:Around
 N:List Str
 s₀:Shared
 H₀:Hp
 env:Env
 outer:List Env
 stack:List Env
 ex:List Addr
 fn:Str->Bool
 calm:Bool
 pn:List (Addr×Obj)
 xe:Value->Shared->Prop
noncomputable def frs (l:List Env):List Addr:=l.filterMap (·.frame)
noncomputable abbrev Cx.fs (X:Cx):List Addr:=frs X.outer
def Vis (sc:Scope) (x:Str):Prop:=sc.names.lookup x=some .local\/sc.names.lookup x=some .cell\/sc.names.lookup x=some .free
def Loc (sc:Scope) (x:Str):Prop:=sc.names.lookup x=some .local\/sc.names.lookup x=some .cell
def yJ (env:Env) (h:Heap) (m:Str->Option Value) (x:Str) (u:Value):Prop:=
 (env.kindOf x=some .local/\m x=some u)\/((env.kindOf x=some .cell\/env.kindOf x=some .free)/\ ∃ c,env.cells.lookup x=some c/\h.IsCell c (some u))
structure Cx.Ok (X:Cx):Prop where
 mod:Mod X.K X.mg X.base
 kind:X.env.scope.kind=.function
 glob:X.env.globals=mainGlobals
 blt:X.env.builtins=builtinsNs
 above:X.s₀.heap.objs.size<=X.env.locals
 inj: ∀ x y c,X.env.cells.lookup x=some c->X.env.cells.lookup y=some c->x=y
 has: ∀ x,(X.env.kindOf x=some .cell\/X.env.kindOf x=some .free)-> ∃ c,X.env.cells.lookup x=some c
 cab: ∀ x c,X.fn x=true->X.env.cells.lookup x=some c->X.s₀.heap.objs.size<=c
 hd:X.calm=true->X.A.handled=none
 frames:X.A.frames=some X.stack
 stk:X.stack=X.outer\/(X.stack=X.env::X.outer/\X.env.frame=some X.env.locals)
 exf: ∀ b∈X.ex,b≠X.env.locals/\ ∀ x c,X.env.cells.lookup x=some c->c≠b
 bs: ∀ b o,X.base.get? b=some o->X.s₀.heap.get? b=some o/\X.H₀ b=none
 bsz:X.base.objs.size<=X.s₀.heap.objs.size
 noex: ∀ b o,X.base.get? b=some o->b∉X.ex
 exfs: ∀ b∈X.ex,b∉X.fs
 funs:X.s₀.heap.FunFrames X.base X.outer
 frf: ∀ b∈X.fs,X.H₀ b=none
structure Inv (X:Cx) (pins:List (Addr×Obj)) (U:List (Option V)) (H:Hp) (s:Shared):Prop where
 ok:X.Ok
 os:s.os=X.s₀.os
 bare:AllBare s.gens
 base:Un X.fs X.ex X.H₀ H X.s₀.heap s.heap
 loc: ∃ m,s.heap.Ns X.env.locals m/\ ∀ (i:Nat) (x:Str) (v:V),X.N[i]? =some x->U[i]? =some (some v)->Vis X.env.scope x-> ∃ u,RelV v u/\yJ X.env s.heap m x u
 cell: ∀ x c,X.env.cells.lookup x=some c-> ∃ v,s.heap.IsCell c v
 free:H X.env.locals=none
 freeC: ∀ x c,X.env.cells.lookup x=some c->H c=none
 pin: ∀ p∈X.pn++pins,s.heap.get? p.1=some p.2/\H p.1=none/\p.1≠X.env.locals/\p.1∉X.fs/\ ∀ v,p.2.data≠ .cell v
 hok:HOk X.prog X.w H s.heap
 len:U.length=X.N.length
section
variable {X:Cx} {pins:List (Addr×Obj)} {U:List (Option V)} {H H':Hp} {s:Shared} {h':Heap}
theorem Cx.Ok.nofr (ok:X.Ok) {b:Addr} {o:Obj} (e:X.base.get? b=some o):b∉X.fs:=λhb=>by
 have:=(ok.funs.mem hb).1
 rw [e]at this;cases this
theorem Inv.bs (I:Inv X pins U H s): ∀ b o,X.base.get? b=some o->s.heap.get? b=some o/\H b=none:=λb o e=>
 ⟨I.base.keep b o (I.ok.bs b o e).1 (I.ok.bs b o e).2 (I.ok.nofr e) (I.ok.noex b o e),I.base.free b o (I.ok.bs b o e).1 (I.ok.bs b o e).2 (I.ok.noex b o e)⟩
theorem Inv.bk (I:Inv X pins U H s): ∀ b o,X.base.get? b=some o->s.heap.get? b=some o:=λb o e=>(I.bs b o e).1
theorem Inv.mod (I:Inv X pins U H s):Mod X.K X.mg X.base:=I.ok.mod
theorem Inv.kIn (I:Inv X pins U H s):X.K.In s.heap:=I.ok.mod.kin.keeps I.bk
theorem Inv.lt (I:Inv X pins U H s):X.env.locals<s.heap.objs.size:=let ⟨_,hn,_⟩:=I.loc;hn.lt
theorem Inv.sz (I:Inv X pins U H s):X.s₀.heap.objs.size<=s.heap.objs.size:=zc I.ok.above (zR I.lt)
theorem Inv.nofs (I:Inv X pins U H s) {a:Addr} (h:s.heap.objs.size<=a):a∉X.fs:=λhb=>by
 obtain ⟨_,o,ho,_⟩:=I.ok.funs.mem hb
 exact absurd (zA (y2 ho) (zc I.sz h)) (AG _)
theorem Inv.cne (I:Inv X pins U H s): ∀ x c,X.env.cells.lookup x=some c->c≠X.env.locals:=λx c e z=>by
 obtain ⟨v,o,ho,hd⟩:=I.cell x c e
 obtain ⟨m,⟨o',es,ep,ho',hd',_⟩,_⟩:=I.loc
 rw [z,ho']at ho;cases ho;rw [hd']at hd;cases hd
theorem Inv.funs (I:Inv X pins U H s):s.heap.FunFrames X.base X.outer:=by
 have all: ∀ (l:List Env),(∀ b∈frs l,b∈X.fs)->X.s₀.heap.FunFrames X.base l->s.heap.FunFrames X.base l:=by
  intro l
  induction l with
  | nil=>intro _ _;trivial
  | cons env r ih=>
   intro hs hl
   obtain ⟨hk,⟨L,o,hf,hn,ho,hd⟩,hr⟩:=hl
   have hL:L∈X.fs:=hs L (by unfold frs;rw [Ab,hf];exact yT)
   obtain ⟨sl,e⟩:=I.base.slot L o ho (I.ok.frf L hL) hL λz=>I.ok.exfs L z hL
   exact ⟨hk,⟨L,_,hf,hn,e,hd⟩,ih (λb hb=>hs b (by unfold frs;rw [Ab,hf];exact yY _ hb)) hr⟩
 exact all X.outer (λ_ hb=>hb) I.ok.funs
theorem Inv.stack (I:Inv X pins U H s):s.heap.FunFrames X.base X.stack:=by
 rcases I.ok.stk with e | ⟨e,hf⟩
 ·rw [e];exact I.funs
 ·rw [e]
  obtain ⟨m,hn,_⟩:=I.loc
  refine .cons (by rw [I.ok.kind];decide) hf hn ?_ I.funs
  exact Heap.get?_none_of_le (zc I.ok.bsz I.ok.above)
theorem Inv.stkSub (I:Inv X pins U H s): ∀ b∈frs X.stack,b∈X.env.locals::X.fs:=λb hb=>by
 rcases I.ok.stk with e | ⟨e,hf⟩
 ·rw [e]at hb;exact yY _ hb
 ·rw [e]at hb
  unfold frs at hb
  rw [Ab,hf]at hb
  exact hb
theorem Inv.stkFree (I:Inv X pins U H s): ∀ b∈frs X.stack,H b=none:=λb hb=>by
 rcases za.mp (I.stkSub b hb)with e | hb
 ·rw [e];exact I.free
 ·obtain ⟨_,o,ho,_⟩:=I.ok.funs.mem hb
  exact I.base.free b o ho (I.ok.frf b hb) λz=>I.ok.exfs b z hb
theorem Inv.step {g':Array GenState} {t':Nat} {d':Drawn} {ch:List Addr} (I:Inv X pins U H s)
  (hch: ∀ b∈ch,(b∈X.ex\/X.s₀.heap.objs.size<=b)/\b≠X.env.locals/\(∀ x c,X.env.cells.lookup x=some c->c≠b)/\ ∀ p∈X.pn++pins,p.1≠b)
  (keep: ∀ b o,b≠X.env.locals->b∉X.fs->b∉ch->s.heap.get? b=some o->H b=none->h'.get? b=some o)
  (slot: ∀ b o,b≠X.env.locals->b∈X.fs->b∉ch->s.heap.get? b=some o->H b=none-> ∃ sl,h'.get? b=some {o with slots:=sl}) (free: ∀ b o,b∉ch->s.heap.get? b=some o->H b=none->H' b=none)
  (there: ∀ b o,b∉ch->s.heap.get? b=some o-> ∃ o',h'.get? b=some o')
  (tups: ∀ b xs,H b=some (.tup xs)->H' b=some (.tup xs)) (frzs: ∀ b o u,H b=some (.frz o u)->H' b=some (.frz o u)) (tbls: ∀ b ps,H b=some (.tbl ps)-> ∃ more,H' b=some (.tbl (ps++more)))
  (ns: ∀ m,s.heap.Ns X.env.locals m->h'.Ns X.env.locals m) (hok:HOk X.prog X.w H' h') (hg:AllBare g'):
  Inv X pins U H' {s with heap:=h',gens:=g',drawn:=d',toks:=t'}:=by
 have neL: ∀ b o,X.s₀.heap.get? b=some o->b≠X.env.locals:=λb o e=>zi (zA (y2 e) I.ok.above)
 have neC: ∀ b o,X.s₀.heap.get? b=some o->b∉X.ex->b∉ch:=λb o e hx hb=>by
  rcases (hch b hb).1 with z | z
  ·exact hx z
  ·exact absurd (zA (y2 e) z) (AG _)
 have cellK: ∀ x c,X.env.cells.lookup x=some c-> ∀ v,s.heap.IsCell c v->h'.IsCell c v:=λx c e v ⟨o,ho,hd⟩=>by
  have nch:c∉ch:=λz=>(hch c z).2.2.1 x c e rfl
  by_cases hc:c∈X.fs
  ·obtain ⟨sl,q⟩:=slot c o (I.cne x c e) hc nch ho (I.freeC x c e)
   exact ⟨_,q,hd⟩
  ·exact ⟨o,keep c o (I.cne x c e) hc nch ho (I.freeC x c e),hd⟩
 refine ⟨I.ok,I.os,hg,⟨λb o e n hb hx=>?_,λb o e n hb hx=>?_,λb o e n hx=>?_,λb o e hx=>?_,λb xs e=>tups b xs (I.base.tups b xs e),λb o xs e=>frzs b o xs (I.base.frzs b o xs e),λb ps e=>?_⟩,?_,λx c e=>?_,?_,λx c e=>?_,λp hp=>?_,hok,I.len⟩
 ·exact keep b o (neL b o e) hb (neC b o e hx) (I.base.keep b o e n hb hx) (I.base.free b o e n hx)
 ·obtain ⟨sl,e1⟩:=I.base.slot b o e n hb hx
  obtain ⟨sl',e2⟩:=slot b _ (neL b o e) hb (neC b o e hx) e1 (I.base.free b o e n hx)
  exact ⟨sl',e2⟩
 ·obtain ⟨o',e1⟩:=I.base.there b o e hx
  exact free b o' (neC b o e hx) e1 (I.base.free b o e n hx)
 ·obtain ⟨o',e1⟩:=I.base.there b o e hx
  exact there b o' (neC b o e hx) e1
 ·obtain ⟨m1,e1⟩:=I.base.tbls b ps e
  obtain ⟨m2,e2⟩:=tbls b _ e1
  exact ⟨m1++m2,by rw [e2,Array.append_assoc]⟩
 ·obtain ⟨m,hn,hl⟩:=I.loc
  refine ⟨m,ns m hn,λi x v e1 e2 e3=>?_⟩
  obtain ⟨u,r,l⟩:=hl i x v e1 e2 e3
  refine ⟨u,r,?_⟩
  rcases l with l | ⟨k,c,e,z⟩
  ·exact .inl l
  ·exact .inr ⟨k,c,e,cellK x c e _ z⟩
 ·obtain ⟨v,z⟩:=I.cell x c e
  exact ⟨v,cellK x c e v z⟩
 ·obtain ⟨m,⟨o,_,_,ho,_⟩,_⟩:=I.loc
  exact free _ o (λz=>(hch _ z).2.1 rfl) ho I.free
 ·obtain ⟨v,o,ho,hd⟩:=I.cell x c e
  exact free c o (λz=>(hch c z).2.2.1 x c e rfl) ho (I.freeC x c e)
 ·obtain ⟨e,n,ne,nf,d⟩:=I.pin p hp
  have nch:p.1∉ch:=λz=>(hch p.1 z).2.2.2 p hp rfl
  exact ⟨keep p.1 p.2 ne nf nch e n,free p.1 p.2 nch e n,ne,nf,d⟩
theorem Inv.un {t':Nat} (I:Inv X pins U H s) (u:Un X.fs [] H H' s.heap h') (hok:HOk X.prog X.w H' h'):Inv X pins U H' {s with heap:=h',toks:=t'}:=by
 obtain ⟨m,⟨o,es,ep,ho,r⟩,_⟩:=id I.loc
 obtain ⟨sl,hL⟩:=u.any ho I.free (by simp)
 exact I.step (g':=s.gens) (d':=s.drawn) (ch:=[]) (λ_ z=>nomatch z) (λb o _ hb _ e n=>u.keep b o e n hb (by simp)) (λb o _ hb _ e n=>u.slot b o e n hb (by simp)) (λb o _ e n=>u.free b o e n (by simp)) (λb o _ e=>u.there b o e (by simp)) u.tups u.frzs u.tbls (λm' hm=>by
  obtain ⟨o',es',ep',ho',r'⟩:=hm
  rw [ho]at ho';cases ho'
  exact ⟨_,es',ep',hL,r'⟩) hok I.bare
theorem Inv.call {g':Array GenState} {t':Nat} {d':Drawn} {ch:List Addr} (I:Inv X pins U H s) (u:Un (frs X.stack) ch H H' s.heap h') (hok:HOk X.prog X.w H' h') (hg:AllBare g')
  (hch: ∀ b∈ch,(b∈X.ex\/X.s₀.heap.objs.size<=b)/\b≠X.env.locals/\(∀ x c,X.env.cells.lookup x=some c->c≠b)/\ ∀ p∈X.pn++pins,p.1≠b):
  Inv X pins U H' {s with heap:=h',gens:=g',drawn:=d',toks:=t'}:=by
 obtain ⟨m,⟨o,es,ep,ho,r⟩,_⟩:=id I.loc
 obtain ⟨sl,hL⟩:=u.any ho I.free λz=>(hch _ z).2.1 rfl
 exact I.step (ch:=ch) hch (λb o hL hb hc e n=>u.keep b o e n (λz=>(za.mp (I.stkSub b z)).elim hL hb) hc) (λb o _ _ hc e n=>u.any e n hc) (λb o hc e n=>u.free b o e n hc) (λb o hc e=>u.there b o e hc) u.tups u.frzs u.tbls (λm' hm=>by
  obtain ⟨o',es',ep',ho',r'⟩:=hm
  rw [ho]at ho';cases ho'
  exact ⟨_,es',ep',hL,r'⟩) hok hg
theorem Inv.turned {t':Nat} {it:Addr} (I:Inv X pins U H s) (k: ∀ b o,b≠it->s.heap.get? b=some o->h'.get? b=some o) (hn:H it=none) (hL:it≠X.env.locals)
  (h1:it∈X.ex\/X.s₀.heap.objs.size<=it) (h2: ∀ x c,X.env.cells.lookup x=some c->c≠it) (h3: ∀ p∈X.pn++pins,p.1≠it):Inv X pins U H {s with heap:=h',toks:=t'}:=by
 have nit: ∀ b u,H b=some u->b≠it:=λb u e z=>by rw [z,hn]at e;cases e
 refine I.step (g':=s.gens) (d':=s.drawn) (ch:=[it]) (λb hb=>?_) (λb o _ _ hc e _=>k b o (λz=>hc (by simp [z])) e) (λb o _ _ hc e _=>⟨o.slots,k b o (λz=>hc (by simp [z])) e⟩) (λ_ _ _ _ n=>n)
  (λb o hc e=>⟨o,k b o (λz=>hc (by simp [z])) e⟩) (λ_ _ e=>e) (λ_ _ _ e=>e) (λb ps e=>⟨#[],by rw [e];simp⟩) (λm hm=>?_) (λb u e=>?_) I.bare
 ·have e:b=it:=by simpa using hb
  subst e
  exact ⟨h1,hL,h2,h3⟩
 ·obtain ⟨o,es,ep,ho,r⟩:=hm
  exact ⟨o,es,ep,k _ o (zT hL) ho,r⟩
 ·refine (I.hok b u e).stay (λc v hc q=>k c v ?_ q) (λ_ q=>q) λ_ _ q=>q
  rcases hc with z | z
  ·rw [z];exact nit b u e
  ·exact nit c _ z
theorem Inv.tok (I:Inv X pins U H s) (t:Nat):Inv X pins U H {s with toks:=t}:=I.un (h':=s.heap) (t':=t) Un.refl I.hok
theorem Inv.kept {t':Nat} (I:Inv X pins U H s) (k: ∀ b u,s.heap.get? b=some u->h'.get? b=some u):Inv X pins U H {s with heap:=h',toks:=t'}:=I.un (Un.kept k) (I.hok.kept k)
theorem Inv.laid {a:Addr} {o:HO} {t':Nat} (I:Inv X pins U H s) (k: ∀ b u,s.heap.get? b=some u->h'.get? b=some u) (hp:s.heap.objs.size<=a) (new:ObjOk X.prog X.w (upd H a o) h' a o):
  Inv X pins U (upd H a o) {s with heap:=h',toks:=t'}:=I.un (Un.laid k hp (I.hok.fresh hp)) (I.hok.laid k hp new)
theorem Inv.write {x e:Addr} {o:HO} {t':Nat} (I:Inv X pins U H s) (mu:Mut (H x)) (he:e=x\/H e=some (.own x)) (k: ∀ b u,b≠e->s.heap.get? b=some u->h'.get? b=some u) (heo: ∃ u,h'.get? e=some u)
  (new:ObjOk X.prog X.w (upd H x o) h' x o):Inv X pins U (upd H x o) {s with heap:=h',toks:=t'}:=I.un (Un.write mu he k heo) (I.hok.write mu he k heo new)
theorem Inv.pins_of {pins':List (Addr×Obj)} (I:Inv X pins U H s) (h: ∀ p∈pins',s.heap.get? p.1=some p.2/\H p.1=none/\p.1≠X.env.locals/\p.1∉X.fs/\ ∀ v,p.2.data≠ .cell v):Inv X pins' U H s:=
 ⟨I.ok,I.os,I.bare,I.base,I.loc,I.cell,I.free,I.freeC,λp hp=>(y8.mp hp).elim (λz=>I.pin p (zx _ z)) (h p),I.hok,I.len⟩
theorem fU {N:List Str} (hN:N.Nodup) {i j:Nat} {x:Str} (a:N[i]? =some x) (b:N[j]? =some x):i=j:=by
 obtain ⟨h1,e1⟩:=yX.mp a
 obtain ⟨h2,e2⟩:=yX.mp b
 exact (List.getElem_inj hN).mp (e1.trans e2.symm)
theorem jm {M:Model} {A:Around} {E:Value->Shared->Prop} {i:Nat} {x:Str} {v:V} {u:Value} {Q:Unit->Shared->Prop} (I:Inv X pins U H s) (hN:X.N.Nodup) (hi:X.N[i]? =some x) (hx:Loc X.env.scope x) (r:RelV v u)
  (h: ∀ s',Inv X pins (U.set i (some v)) H s'->(∃ a,Heap.SameBut a s.heap s'.heap/\(a=X.env.locals\/X.env.cells.lookup x=some a))->Q () s') (hf:X.fn x=true\/X.env.scope.names.lookup x=some .local:=by first | exact .inl rfl | exact .inr rfl | assumption):wpAny M A (storeName X.env x u) Q E s:=by
 obtain ⟨m,hn,hl⟩:=id I.loc
 have hcls:(X.env.scope.kind== .class||(X.env.scope.kind== .module&&X.env.locals !=X.env.globals))=false:=by rw [I.ok.kind];rfl
 have hiU:i<U.length:=by rw [I.len];exact (yX.mp hi).1
 have cne:=I.cne
 have tracked: ∀ {a:Addr} {h':Heap},(∃ o,s.heap.get? a=some o/\H a=none)->Heap.SameBut a s.heap h'->HOk X.prog X.w H h':=λ{a h'} ha hs b ob e=>by
  obtain ⟨_,_,hfree⟩:=ha
  refine (I.hok b ob e).stay (λc w' hc q=>(hs.2 c ?_).trans q) (λ_ q=>q) λ_ _ q=>q
  rintro rfl
  rcases hc with rfl | hc
  ·rw [hfree]at e;cases e
  ·rw [hfree]at hc;cases hc
 rcases hx with hk | hk
 ·refine wpAny_storeName_local hk hn (λh' hn' hs=>?_) hcls
  obtain ⟨oL,_,_,hoL,_⟩:=id hn
  refine h _ ⟨I.ok,I.os,I.bare,⟨λb o e n hb hx=>?_,λb o e n hb hx=>?_,I.base.free,λb o e hx=>?_,I.base.tups,I.base.frzs,I.base.tbls⟩,⟨_,hn',λj y v' e1 e2 e3=>?_⟩,λy c e=>?_,I.free,I.freeC,λp hp=>?_,tracked ⟨oL,hoL,I.free⟩ hs,by simpa using I.len⟩ ⟨_,hs,.inl rfl⟩
  ·exact (hs.2 b (zi (zA (y2 e) I.ok.above))).trans (I.base.keep b o e n hb hx)
  ·obtain ⟨sl,e1⟩:=I.base.slot b o e n hb hx
   exact ⟨sl,(hs.2 b (zi (zA (y2 e) I.ok.above))).trans e1⟩
  ·obtain ⟨o',e1⟩:=I.base.there b o e hx
   exact ⟨o',(hs.2 b (zi (zA (y2 e) I.ok.above))).trans e1⟩
  ·by_cases hj:j=i
   ·subst hj
    rw [hi]at e1;cases e1
    rw [BF hiU]at e2
    cases e2
    exact ⟨u,r,.inl ⟨hk,by simp⟩⟩
   ·rw [CU (zT hj)]at e2
    obtain ⟨u',r',q⟩:=hl j y v' e1 e2 e3
    refine ⟨u',r',?_⟩
    rcases q with ⟨k,e⟩ | ⟨k,c,e,z⟩
    ·refine .inl ⟨k,?_⟩
     have:y≠x:=λe=>hj (fU hN e1 (e▸hi))
     simp [this,e]
    ·exact .inr ⟨k,c,e,z.sameBut hs (cne y c e)⟩
  ·obtain ⟨w',z⟩:=I.cell y c e
   exact ⟨w',z.sameBut hs (cne y c e)⟩
  ·obtain ⟨e,n,ne,nf,d⟩:=I.pin p hp
   exact ⟨(hs.2 p.1 ne).trans e,n,ne,nf,d⟩
 ·have hfn:X.fn x=true:=by
   rcases hf with z | z
   ·exact z
   ·rw [z]at hk;cases hk
  obtain ⟨c,hc⟩:=I.ok.has x (.inl hk)
  obtain ⟨w',z⟩:=I.cell x c hc
  refine wpAny_storeName_cell I.ok.kind hk hc z (λh' hc' hs=>?_)
  obtain ⟨oc,hoc,hocd⟩:=id z
  refine h {s with heap:=h'} ⟨I.ok,I.os,I.bare,⟨λb o e n hb hx=>?_,λb o e n hb hx=>?_,I.base.free,λb o e hx=>?_,I.base.tups,I.base.frzs,I.base.tbls⟩,⟨m,hn.sameBut hs (zT (cne x c hc)),λj y v' e1 e2 e3=>?_⟩,λy c' e=>?_,I.free,I.freeC,λp hp=>?_,tracked ⟨oc,hoc,I.freeC x c hc⟩ hs,by simpa using I.len⟩ ⟨c,hs,.inr hc⟩
  ·exact (hs.2 b (zi (zA (y2 e) (I.ok.cab x c hfn hc)))).trans (I.base.keep b o e n hb hx)
  ·obtain ⟨sl,e1⟩:=I.base.slot b o e n hb hx
   exact ⟨sl,(hs.2 b (zi (zA (y2 e) (I.ok.cab x c hfn hc)))).trans e1⟩
  ·obtain ⟨o',e1⟩:=I.base.there b o e hx
   exact ⟨o',(hs.2 b (zi (zA (y2 e) (I.ok.cab x c hfn hc)))).trans e1⟩
  ·by_cases hj:j=i
   ·subst hj
    rw [hi]at e1;cases e1
    rw [BF hiU]at e2
    cases e2
    exact ⟨u,r,.inr ⟨.inl hk,c,hc,hc'⟩⟩
   ·rw [CU (zT hj)]at e2
    obtain ⟨u',r',q⟩:=hl j y v' e1 e2 e3
    refine ⟨u',r',?_⟩
    rcases q with q | ⟨k,c',e,z'⟩
    ·exact .inl q
    ·refine .inr ⟨k,c',e,z'.sameBut hs ?_⟩
     rintro rfl
     exact hj (fU hN e1 (I.ok.inj _ _ _ e hc▸hi))
  ·by_cases hcc:c'=c
   ·subst hcc;exact ⟨_,hc'⟩
   ·obtain ⟨w2,z2⟩:=I.cell y c' e
    exact ⟨w2,z2.sameBut hs hcc⟩
  ·obtain ⟨e,n,ne,nf,d⟩:=I.pin p hp
   refine ⟨(hs.2 p.1 ?_).trans e,n,ne,nf,d⟩
   intro q
   rw [q,hoc]at e
   have q':oc=p.2:=zj e
   exact d w' (by rw [<- q'];exact hocd)
theorem dQ {M:Model} {A:Around} {E:Value->Shared->Prop} {i:Nat} {x:Str} {v:V} {u:Value} {Q:Unit->Shared->Prop} (I:Inv X pins U H s) (hN:X.N.Nodup) (hi:X.N[i]? =some x) (hx:Loc X.env.scope x) (r:RelV v u)
  (h: ∀ s',Inv X pins (U.set i (some v)) H s'->Q () s') (hf:X.fn x=true\/X.env.scope.names.lookup x=some .local:=by first | exact .inl rfl | exact .inr rfl | assumption):wpAny M A (storeName X.env x u) Q E s:=
 jm I hN hi hx r (λs' I' _=>h s' I') hf
theorem Inv.call' {s':Shared} {ch:List Addr} (I:Inv X pins U H s) (ho:s'.os=s.os) (u:Un (frs X.stack) ch H H' s.heap s'.heap) (hok:HOk X.prog X.w H' s'.heap) (hg:AllBare s'.gens)
  (hch: ∀ b∈ch,(b∈X.ex\/X.s₀.heap.objs.size<=b)/\b≠X.env.locals/\(∀ x c,X.env.cells.lookup x=some c->c≠b)/\ ∀ p∈X.pn++pins,p.1≠b):Inv X pins U H' s':=by
 obtain ⟨h',g',d',t',o'⟩:=s'
 have e:o'=s.os:=ho
 subst e
 exact I.call (g':=g') (t':=t') (d':=d') u hok hg hch
end
abbrev XK:=Value->Option Addr->Hp->Prop
abbrev St:=List (Option V)
abbrev VK:=V->Hp->Prop
abbrev TE:=St->Hp->VK->Prop
abbrev TT:=St->Hp->(Bool->Hp->Prop)->Prop
abbrev TA:=St->Hp->(List V->Hp->Prop)->Prop
structure eW where
 nx:St->Hp->Prop
 rt:VK
 bk:St->Hp->Prop:=λ_ _=>False
 ct:St->Hp->Prop:=λ_ _=>False
abbrev TS:=eW->St->Hp->Prop
inductive EP (X:Cx) (pins:List (Addr×Obj)) (U:St) (Q:VK) (u:Value) (s':Shared):Prop
 | mk: ∀ v H',(Inv X pins U H' s')->(RelV v u)->(Q v H')->EP X pins U Q u s'
def TP (X:Cx) (pins:List (Addr×Obj)) (U:St) (Q:Bool->Hp->Prop) (b:Bool) (s':Shared):Prop:= ∃ H',Inv X pins U H' s'/\Q b H'
inductive AP (X:Cx) (pins:List (Addr×Obj)) (U:St) (Q:List V->Hp->Prop) (us:List Value) (s':Shared):Prop
 | mk: ∀ vs H',(Inv X pins U H' s')->(Vals vs us)->(Q vs H')->AP X pins U Q us s'
def SP (X:Cx) (pins:List (Addr×Obj)) (D:eW) (f:Flow) (s':Shared):Prop:=
 match f with
 | .next=> ∃ U' H',Inv X pins U' H' s'/\D.nx U' H'
 | .brk=> ∃ U' H',Inv X pins U' H' s'/\D.bk U' H'
 | .cont=> ∃ U' H',Inv X pins U' H' s'/\D.ct U' H'
 | .ret u=> ∃ v U' H',Inv X pins U' H' s'/\RelV v u/\D.rt v H'
def PE (X:Cx) (e:Expr) (t:TE):Prop:=
 ∀ (pins:List (Addr×Obj)) (s:Shared) (U:St) (H:Hp) (Q:VK),Inv X pins U H s->t U H Q->wpAny (model X.prog X.w) X.A (eval e X.env) (EP X pins U Q) X.xe s
def PT (X:Cx) (e:Expr) (t:TT):Prop:=
 ∀ (pins:List (Addr×Obj)) (s:Shared) (U:St) (H:Hp) (Q:Bool->Hp->Prop),Inv X pins U H s->t U H Q->wpAny (model X.prog X.w) X.A (isTrue e X.env (eval e X.env)) (TP X pins U Q) X.xe s
def PW (X:Cx) (e:Expr) (t:TT):Prop:=
 ∀ (whole:Sem Value) (pins:List (Addr×Obj)) (s:Shared) (U:St) (H:Hp) (Q:Bool->Hp->Prop),Inv X pins U H s->t U H Q->wpAny (model X.prog X.w) X.A (isTrue e X.env whole) (TP X pins U Q) X.xe s
theorem PW.pt {X:Cx} {e:Expr} {t:TT} (h:PW X e t):PT X e t:=h _
def PA (X:Cx) (es:List Expr) (t:TA):Prop:=
 ∀ (pos:Pos) (pins:List (Addr×Obj)) (s:Shared) (U:St) (H:Hp) (Q:List V->Hp->Prop),Inv X pins U H s->t U H Q->wpAny (model X.prog X.w) X.A (spliced (backTo pos (starEach es X.env))) (AP X pins U Q) X.xe s
def PS (X:Cx) (st:Stmt) (t:TS):Prop:=
 ∀ (pins:List (Addr×Obj)) (s:Shared) (U:St) (H:Hp) (D:eW),Inv X pins U H s->t D U H->wpAny (model X.prog X.w) X.A (exec st X.env) (SP X pins D) X.xe s
def PSs (X:Cx) (st:List Stmt) (t:TS):Prop:=
 ∀ (pins:List (Addr×Obj)) (s:Shared) (U:St) (H:Hp) (D:eW),Inv X pins U H s->t D U H->wpAny (model X.prog X.w) X.A (execs st X.env) (SP X pins D) X.xe s
theorem thn {α:Type} {t:Sem α} {Q Q':α->Shared->Prop} {M:Model} {A:Around} {E:Value->Shared->Prop} {s:Shared} (h:wpAny M A t Q E s) (hQ: ∀ a s,Q a s->Q' a s):wpAny M A t Q' E s:=Ac h hQ λ_ _ x=>x
section
variable {X:Cx}
theorem bin {a b:Expr} {ta tb:TE} (ha:PE X a ta) (hb:PE X b tb) {pins:List (Addr×Obj)} {s:Shared} {U:St} {H:Hp} {R:V->V->Hp->Prop} (I:Inv X pins U H s) (h:ta U H λx H1=>tb U H1 λy H2=>R x y H2)
  {α:Type} {Q:α->Shared->Prop} {f:Value->Value->Sem α}
  (hf: ∀ v u s2 x y H2,Inv X pins U H2 s2->RelV x v->RelV y u->R x y H2->wpAny (model X.prog X.w) X.A (f v u) Q X.xe s2):
  wpAny (model X.prog X.w) X.A (eval a X.env) (λv s₁=>wpAny (model X.prog X.w) X.A (eval b X.env) (λu s₂=>wpAny (model X.prog X.w) X.A (f v u) Q X.xe s₂) X.xe s₁) X.xe s:=by
 refine thn (ha pins s U H _ I h) λv s1 ⟨x,H1,I1,r1,q1⟩=>?_
 refine thn (hb pins s1 U H1 _ I1 q1) λu s2 ⟨y,H2,I2,r2,q2⟩=>?_
 exact hf v u s2 x y H2 I2 r1 r2 q2
inductive tJ (i:Nat) (U:St) (H:Hp) (Q:VK):Prop
 | mk: ∀ v,(U[i]? =some (some v))->(Q v H)->tJ i U H Q
def tC (v:V):TE:=λ_ H Q=>Q v H
theorem v3 {i:Nat} {x:Str} {pos:Pos} (hN:X.N[i]? =some x) (hv:Vis X.env.scope x) (hd:(x==("__debug__":Str))=false:=by decide) (hcd:(x==("__classdict__":Str))=false:=by decide):PE X (.Name x pos) (tJ i):=by
 intro pins s U H Q I h
 obtain ⟨v,e,h⟩:=h
 obtain ⟨m,hn,hl⟩:=I.loc
 obtain ⟨u,r,l⟩:=hl i x v hN e hv
 have fin:EP X pins U Q u s:=⟨v,H,I,r,h⟩
 rcases l with ⟨hk,hm⟩ | ⟨hk,c,hc,hcell⟩
 ·exact wpAny_Name (wpAny_loadName_local I.ok.kind hk hn hm fin) hd
 ·rcases hk with hk | hk
  ·exact wpAny_Name (wpAny_loadName_cell I.ok.kind hk hc hcell fin) hd
  ·exact wpAny_Name (wpAny_loadName_free I.ok.kind hk hc hcell fin hcd) hd
theorem af {i j pos}:PE X (.Constant (.int i) j pos) (tC (.int i)):=λ_ _ _ H _ I h=>wpAny_Constant_int ⟨.int i,H,I.tok _,⟨_,rfl⟩,h⟩
theorem fR {b j pos}:PE X (.Constant (.bool b) j pos) (tC (.bl b)):=λ_ _ _ H _ I h=>Constant_bool ⟨.bl b,H,I,rfl,h⟩
theorem cC {j pos}:PE X (.Constant .none j pos) (tC .non):=λ_ _ _ H _ I h=>Constant_none ⟨.non,H,I,rfl,h⟩
theorem br {x j pos}:PE X (.Constant (.str x) j pos) (tC (.str x)):=λ_ _ _ H _ I h=>Calls.Constant_str ⟨.str x,H,I.tok _,⟨_,rfl⟩,h⟩
def Gl (X:Cx) (x:Str):Prop:=X.env.kindOf x=some .globalImplicit
theorem fY {E:Value->Shared->Prop} {pins:List (Addr×Obj)} {s:Shared} {U:St} {H:Hp} {x:Str} {u:Value} {pos:Pos} {Q:Value->Shared->Prop} (I:Inv X pins U H s) (hg:Gl X x) (hm:X.mg x=some u) (h:Q u s)
  (hd:(x==("__debug__":Str))=false:=by decide):wpAny (model X.prog X.w) X.A (eval (.Name x pos) X.env) Q E s:=
 Calls.Name_function_global I.ok.kind hg (Calls.loadGlobal_global (by rw [I.ok.glob];exact I.mod.glob.keeps I.bk) hm h) hd
theorem cV {E:Value->Shared->Prop} {pins:List (Addr×Obj)} {s:Shared} {U:St} {H:Hp} {x:Str} {u:Value} {pos:Pos} {Q:Value->Shared->Prop} (I:Inv X pins U H s) (hg:Gl X x) (hm:X.mg x=none) (hv:bootBuiltins x=some u) (h:Q u s)
  (hn:x≠"__name__":=by decide) (hd:(x==("__debug__":Str))=false:=by decide):wpAny (model X.prog X.w) X.A (eval (.Name x pos) X.env) Q E s:=by
 obtain ⟨mb,h1,h2⟩:=I.mod.blt
 exact Calls.Name_function_global I.ok.kind hg (Calls.loadGlobal_builtin (by rw [I.ok.glob];exact I.mod.glob.keeps I.bk) hm (by rw [I.ok.blt];exact h1.keeps I.bk) ((h2 x hn).trans hv) h) hd
theorem bf {x:Str} {v:V} {u:Value} {pos:Pos} (hg:Gl X x) (hm:X.mg x=some u) (r:RelV v u) (hd:(x==("__debug__":Str))=false:=by decide):PE X (.Name x pos) (tC v):=
 λ_ _ _ H _ I h=>fY I hg hm ⟨v,H,I,r,h⟩ hd
theorem fQ {x:Str} {v:V} {u:Value} {pos:Pos} (hg:Gl X x) (hm:X.mg x=none) (hv:bootBuiltins x=some u) (r:RelV v u) (hn:x≠"__name__":=by decide) (hd:(x==("__debug__":Str))=false:=by decide):PE X (.Name x pos) (tC v):=
 λ_ _ _ H _ I h=>cV I hg hm hv ⟨v,H,I,r,h⟩ hn hd
noncomputable def t2I (ta tb:TE) (k:Int->Int->Hp->Prop):St->Hp->Prop:=λU H=>ta U H λx H1=>tb U H1 λy H2=> ∃ i j,x=.int i/\y=.int j/\k i j H2
variable {a b:Expr} {ta tb:TE} {pos:Pos}
def PC (X:Cx) (op:CmpOp) (a b:Expr) (t:TE):Prop:=
 ∀ (pins:List (Addr×Obj)) (s:Shared) (U:St) (H:Hp) (Q:VK),Inv X pins U H s->t U H Q->
  wpAny (model X.prog X.w) X.A (eval a X.env) (λv s₁=>wpAny (model X.prog X.w) X.A (eval b X.env) (λu s₂=>wpAny (model X.prog X.w) X.A (compareOp op v u) (EP X pins U Q) X.xe s₂) X.xe s₁) X.xe s
theorem rO (b:Expr) {op:CmpOp} (h:op≠ .In) (h2:op≠ .NotIn):behindInMarks op b=false:=by
 have e1:(op==CmpOp.In)=false:=by cases op <;> first | rfl | exact absurd rfl h
 have e2:(op==CmpOp.NotIn)=false:=by cases op <;> first | rfl | exact absurd rfl h2
 cases b <;> simp [behindInMarks,e1,e2]
def vK (p:Int->Int->Bool) (ta tb:TE):TE:=λU H Q=>t2I ta tb (λi j H2=>Q (.bl (p i j)) H2) U H
noncomputable abbrev tGt:TE->TE->TE:=vK λi j=>decide (j<i)
noncomputable abbrev yp:TE->TE->TE:=vK λi j=>decide (i=j)
theorem rA {op:CmpOp} {p:Int->Int->Bool} (ha:PE X a ta) (hb:PE X b tb)
  (rule: ∀ (i j:Int) (t u:Tok) (Q:Value->Shared->Prop) (s:Shared),Q (.bool (p i j)) s->wpAny (model X.prog X.w) X.A (compareOp op (.int i t) (.int j u)) Q X.xe s):PC X op a b (vK p ta tb):=by
 intro pins s U H Q I h
 refine bin ha hb I h λv u s2 x y H2 I2 rx ry q=>?_
 obtain ⟨i,j,rfl,rfl,q⟩:=q
 obtain ⟨t,rfl⟩:=rx
 obtain ⟨t',rfl⟩:=ry
 exact rule i j t t' _ s2 ⟨.bl _,H2,I2,rfl,q⟩
theorem xw (ha:PE X a ta) (hb:PE X b tb):PC X .Gt a b (tGt ta tb):=rA ha hb λ_ _ _ _ _ _ h=>gt_int h
theorem fi (ha:PE X a ta) (hb:PE X b tb):PC X .Eq a b (yp ta tb):=rA ha hb λ_ _ _ _ _ _ h=>eq_int (by rw [Bool.beq_eq_decide_eq];exact h)
inductive rBl  (x:V) (H1:Hp) (Q:(Bool->Hp->Prop)):Prop
 | mk: ∀ c,(x=.bl c)->(Q c H1)->rBl x H1 Q
def tB (t:TE):TT:=λU H Q=>t U H λx H1=>rBl x H1 Q
theorem dB {op:CmpOp} {t:TE} (h:PC X op a b t) (h1:behindInMarks op b=false:=by first | exact rO _ (by decide) (by decide) | rfl):PT X (.Compare a [op] [b] pos) (tB t):=by
 intro pins s U H Q I hw
 refine wpAny_isTrue_Compare1 (thn (h pins s U H _ I hw) λv s1 h1=>thn h1 λu s2 h2=>thn h2 λc s3 ⟨x,H1,I1,r1,q1⟩=>?_) h1
 obtain ⟨d,rfl,q⟩:=q1
 cases r1
 exact A5 ⟨H1,I1,q⟩
theorem fh {e:Expr} {t:TE} (h:PE X e t) (he: ∀ whole,isTrue e X.env whole=(do let v <- whole;standAt e.pos;holding [v] (truthy v)):=by intro _;rfl):PT X e (tB t):=by
 intro pins s U H Q I hw
 refine isTrue_plain (thn (h pins s U H _ I hw) λv s1 ⟨x,H1,I1,r1,q1⟩=>?_) (he _)
 obtain ⟨d,rfl,q⟩:=q1
 cases r1
 exact A5 ⟨H1,I1,q⟩
variable {tA tB':TT} {rest:List Expr}
def yr (t u:TT):TT:=λU H Q=>t U H λc H1=>if c=true then u U H1 Q else Q false H1
def tOr (t u:TT):TT:=λU H Q=>t U H λc H1=>if c=true then Q true H1 else u U H1 Q
def yl (t:TT):TT:=λU H Q=>t U H λc H1=>Q (!c) H1
theorem gY (ha:PT X a tA):PW X (.BoolOp .And [a] pos) tA:=by
 intro wh pins s U H Q I h
 refine isTrue_and (thn (ha pins s U H Q I h) λc s1 e=>?_)
 cases c with
 | true=>exact isTrue_and_nil e
 | false=>exact e
theorem gA (ha:PT X a tA):PW X (.BoolOp .Or [a] pos) tA:=by
 intro wh pins s U H Q I h
 refine isTrue_or (thn (ha pins s U H Q I h) λc s1 e=>?_)
 cases c with
 | false=>exact isTrue_or_nil e
 | true=>exact e
theorem j5 (ha:PT X a tA) (hb:PW X (.BoolOp .And (b::rest) pos) tB'):PW X (.BoolOp .And (a::b::rest) pos) (yr tA tB'):=by
 intro wh pins s U H Q I h
 refine isTrue_and (thn (ha pins s U H _ I h) λc s1 ⟨H1,I1,q1⟩=>?_)
 cases c with
 | true=>exact hb wh pins s1 U H1 Q I1 q1
 | false=>exact ⟨H1,I1,q1⟩
theorem eX (ha:PT X a tA) (hb:PW X (.BoolOp .Or (b::rest) pos) tB'):PW X (.BoolOp .Or (a::b::rest) pos) (tOr tA tB'):=by
 intro wh pins s U H Q I h
 refine isTrue_or (thn (ha pins s U H _ I h) λc s1 ⟨H1,I1,q1⟩=>?_)
 cases c with
 | true=>exact ⟨H1,I1,q1⟩
 | false=>exact hb wh pins s1 U H1 Q I1 q1
theorem iB (ha:PT X a tA):PT X (.UnaryOp .Not a pos) (yl tA):=by
 intro pins s U H Q I h
 exact isTrue_not (ha pins s U H (λc H1=>Q (!c) H1) I h)
def xg (ta tb:TE):TE:=λU H Q=>ta U H λx H1=> ∃ c,x=.bl c/\if c=true then tb U H1 Q else Q (.bl false) H1
def yk (ta tb:TE):TE:=λU H Q=>ta U H λx H1=> ∃ c,x=.bl c/\if c=true then Q (.bl true) H1 else tb U H1 Q
theorem mG {op} {t:TE} (h:PE X a t):PE X (.BoolOp op [a] pos) t:=λpins s U H Q I hw=>BoolOp_one (h pins s U H Q I hw)
theorem rq (ha:PE X a ta) (hb:PE X (.BoolOp .And (b::rest) pos) tb):PE X (.BoolOp .And (a::b::rest) pos) (xg ta tb):=by
 intro pins s U H Q I h
 refine BoolOp_and (thn (ha pins s U H _ I h) λv s1 ⟨x,H1,I1,r1,q1⟩=>?_)
 obtain ⟨c,rfl,q1⟩:=q1
 cases r1
 refine A5 ?_
 cases c with
 | true=>exact hb pins s1 U H1 Q I1 q1
 | false=>exact ⟨.bl false,H1,I1,rfl,q1⟩
theorem xu (ha:PE X a ta) (hb:PE X (.BoolOp .Or (b::rest) pos) tb):PE X (.BoolOp .Or (a::b::rest) pos) (yk ta tb):=by
 intro pins s U H Q I h
 refine BoolOp_or (thn (ha pins s U H _ I h) λv s1 ⟨x,H1,I1,r1,q1⟩=>?_)
 obtain ⟨c,rfl,q1⟩:=q1
 cases r1
 refine A5 ?_
 cases c with
 | false=>exact hb pins s1 U H1 Q I1 q1
 | true=>exact ⟨.bl true,H1,I1,rfl,q1⟩
def tIf (t:TT) (ta tb:TE):TE:=λU H Q=>t U H λc H1=>if c=true then ta U H1 Q else tb U H1 Q
theorem kZ {c:Expr} (hc:PT X c tA) (ha:PE X a ta) (hb:PE X b tb):PE X (.IfExp c a b pos) (tIf tA ta tb):=by
 intro pins s U H Q I h
 refine wpAny_IfExp (thn (hc pins s U H _ I h) λd s1 ⟨H1,I1,q1⟩=>?_)
 cases d with
 | true=>exact ha pins s1 U H1 Q I1 q1
 | false=>exact hb pins s1 U H1 Q I1 q1
end
def SqL (K:W.Frag) (H:Hp) (a:Addr) (xs:List V):Prop:=
 Rd H a (.lst xs)\/
  ∃ (o:Obj) (its:Array Value) (n:Nat),K.lookup a=some o/\o.cls=.type "list"/\o.dict=none/\o.data=.seq its n/\its.size<=sizeLine/\Vals xs its.toList
def SqT (K:W.Frag) (H:Hp) (a:Addr) (xs:List V):Prop:=
 Rd H a (.tup xs)\/
  ∃ (o:Obj) (its:Array Value) (n:Nat),K.lookup a=some o/\o.cls=.type "tuple"/\o.data=.seq its n/\its.size<=sizeLine/\Vals xs its.toList
noncomputable def yH:Value->Option V
 | .none=>some .non
 | .bool b=>some (.bl b)
 | .int i _=>some (.int i)
 | .str x _=>some (.str x)
 | .bytes b _=>some (.byt b)
 | .float b _=>some (.flt b)
 | .ref a=>some (.ref a)
 | .type n=>some (.ty n)
 | _=>none
theorem RelV.abs {x:V} {u:Value} (r:RelV x u):yH u=some x:=by
 cases x with
 | non=>cases r;rfl
 | bl _=>cases r;rfl
 | int _=>obtain ⟨t,rfl⟩:=r;rfl
 | str _=>obtain ⟨t,rfl⟩:=r;rfl
 | byt _=>obtain ⟨t,rfl⟩:=r;rfl
 | flt _=>obtain ⟨t,rfl⟩:=r;rfl
 | ref _=>cases r;rfl
 | ty _=>cases r;rfl
theorem RelV.inj {x y:V} {u:Value} (r:RelV x u) (q:RelV y u):x=y:=zj (r.abs.symm.trans q.abs)
theorem Vals.inj: ∀ {xs ys:List V} {us:List Value},Vals xs us->Vals ys us->xs=ys
 | _,_,_,.nil,.nil=>rfl
 | _,_,_,.cons r t,.cons r' t'=>by rw [r.inj r',Vals.inj t t']
section
variable {X:Cx} {pins:List (Addr×Obj)} {U:St} {H:Hp} {s:Shared} {a:Addr} {xs ys:List V}
theorem SqL.of {K:W.Frag} (h:H a=some (.lst xs)):SqL K H a xs:=.inl (.inl h)
theorem SqT.of {K:W.Frag} (h:H a=some (.tup xs)):SqT K H a xs:=.inl (.inl h)
theorem Inv.list (I:Inv X pins U H s) (h:SqL X.K H a xs): ∃ its:List Value,Vals xs its/\PlainL s.heap a its.toArray/\xs.length<=sizeLine:=by
 rcases h with h | ⟨o,its,n,hk,hc,hd,hs,hz,r⟩
 ·obtain ⟨z,its,n,r,e⟩:=h.ok I.hok
  exact ⟨its,r,⟨_,n,e,rfl,rfl,rfl⟩,z⟩
 ·refine ⟨its.toList,r,⟨o,n,I.kIn a o hk,hc,hd,by simpa using hs⟩,?_⟩
  have e:=r.length
  simp only [zV]at e
  lia
theorem Inv.tuple (I:Inv X pins U H s) (h:SqT X.K H a xs): ∃ its:List Value,Vals xs its/\IsTup s.heap a its.toArray/\xs.length<=sizeLine:=by
 rcases h with h | ⟨o,its,n,hk,hc,hs,hz,r⟩
 ·obtain ⟨z,its,r,p⟩:=h.ok I.hok
  exact ⟨its,r,p,z⟩
 ·refine ⟨its.toList,r,⟨o,I.kIn a o hk,hc,n,by simpa using hs⟩,?_⟩
  have e:=r.length
  simp only [zV]at e
  lia
theorem Inv.list_inj (I:Inv X pins U H s) (h:SqL X.K H a xs) (h':SqL X.K H a ys):xs=ys:=by
 obtain ⟨its,r,⟨o,n,e,_,_,d⟩,_⟩:=I.list h
 obtain ⟨its',r',⟨o',n',e',_,_,d'⟩,_⟩:=I.list h'
 rw [e]at e';cases e'
 rw [d]at d'
 injection d' with d1 _
 have:its=its':=by simpa using congrArg Array.toList d1
 subst this
 exact r.inj r'
theorem Inv.tuple_inj (I:Inv X pins U H s) (h:SqT X.K H a xs) (h':SqT X.K H a ys):xs=ys:=by
 obtain ⟨its,r,⟨o,e,_,n,d⟩,_⟩:=I.tuple h
 obtain ⟨its',r',⟨o',e',_,n',d'⟩,_⟩:=I.tuple h'
 rw [e]at e';cases e'
 rw [d]at d'
 injection d' with d1 _
 have:its=its':=by simpa using congrArg Array.toList d1
 subst this
 exact r.inj r'
end
noncomputable abbrev Cx.wish (X:Cx) (E:Value->Shared->Prop):Cx:={X with xe:=E}
noncomputable abbrev Cx.nox (X:Cx):Cx:=X.wish λ_ _=>False
theorem Cx.Ok.wish {X:Cx} (ok:X.Ok) (E:Value->Shared->Prop):(X.wish E).Ok:=
 ⟨ok.mod,ok.kind,ok.glob,ok.blt,ok.above,ok.inj,ok.has,ok.cab,ok.hd,ok.frames,ok.stk,ok.exf,ok.bs,ok.bsz,ok.noex,ok.exfs,ok.funs,ok.frf⟩
theorem Cx.Ok.unwish {X:Cx} {E:Value->Shared->Prop} (ok:(X.wish E).Ok):X.Ok:=
 ⟨ok.mod,ok.kind,ok.glob,ok.blt,ok.above,ok.inj,ok.has,ok.cab,ok.hd,ok.frames,ok.stk,ok.exf,ok.bs,ok.bsz,ok.noex,ok.exfs,ok.funs,ok.frf⟩
section
variable {X:Cx} {pins:List (Addr×Obj)} {U:St} {H:Hp} {s:Shared} {E:Value->Shared->Prop}
theorem Inv.wish (I:Inv X pins U H s) (E:Value->Shared->Prop):Inv (X.wish E) pins U H s:=⟨I.ok.wish E,I.os,I.bare,I.base,I.loc,I.cell,I.free,I.freeC,I.pin,I.hok,I.len⟩
theorem Inv.unwish (I:Inv (X.wish E) pins U H s):Inv X pins U H s:=⟨I.ok.unwish,I.os,I.bare,I.base,I.loc,I.cell,I.free,I.freeC,I.pin,I.hok,I.len⟩
theorem SP.unwish {D:eW} {f:Flow} {s':Shared} (h:SP (X.wish E) pins D f s'):SP X pins D f s':=by
 cases f with
 | next=>obtain ⟨U',H',I,q⟩:=h;exact ⟨U',H',I.unwish,q⟩
 | brk=>obtain ⟨U',H',I,q⟩:=h;exact ⟨U',H',I.unwish,q⟩
 | cont=>obtain ⟨U',H',I,q⟩:=h;exact ⟨U',H',I.unwish,q⟩
 | ret u=>obtain ⟨v,U',H',I,r,q⟩:=h;exact ⟨v,U',H',I.unwish,r,q⟩
theorem PSs.nox {st:List Stmt} {t:TS} (h:PSs X.nox st t):PSs X st t:=λpins s U H D I hw=>
 Ac (h pins s U H D (I.wish _) hw) (λ_ _ q=>q.unwish) λ_ _ z=>False.elim z
end
section
variable {X:Cx} {st:Stmt} {rest:List Stmt} {t u:TS} {e:Expr} {te:TE} {pos:Pos}
def u6:TS:=λD U H=>D.nx U H
def yi (t u:TS):TS:=λD U H=>t {D with nx:=u D} U H
theorem aM:PSs X [] u6:=λ_ _ U H _ I h=>BJ ⟨U,H,I,h⟩
theorem ah (h1:PS X st t) (h2:PSs X rest u):PSs X (st::rest) (yi t u):=by
 intro pins s U H D I h
 refine Dr (thn (h1 pins s U H {D with nx:=u D} I h) λf s1 q=>?_)
 cases f with
 | next=>
  obtain ⟨U',H',I',q⟩:=q
  exact h2 pins s1 U' H' D I' q
 | ret v=>exact q
 | brk=>exact q
 | cont=>exact q
theorem al (h1:PS X st t):PSs X [st] t:=by
 intro pins s U H D I h
 refine Dr (thn (h1 pins s U H D I h) λf s1 q=>?_)
 cases f with
 | next=>exact BJ q
 | ret v=>exact q
 | brk=>exact q
 | cont=>exact q
theorem Inv.quiet {pins:List (Addr×Obj)} {U:St} {H:Hp} {s:Shared} (I:Inv X pins U H s):interactive X.env=false:=by simp [interactive,I.ok.kind]
def xa (te:TE):TS:=λD U H=>te U H λ_ H1=>D.nx U H1
theorem bT (he:PE X e te) (hs:swapsWith e none pos.line X.env=pure false:=by rfl):PS X (.Expr e pos) (xa te):=by
 intro pins s U H D I h
 exact wpAny_Expr_any (thn (he pins s U H _ I h) λv s1 ⟨x,H1,I1,r1,q1⟩=>⟨U,H1,I1,q1⟩) I.quiet hs
def yj (te:TE):TS:=λD U H=>te U H D.rt
theorem aH (he:PE X e te):PS X (.Return (some e) pos) (yj te):=by
 intro pins s U H D I h
 exact wpAny_Return_some (thn (he pins s U H _ I h) λv s1 ⟨x,H1,I1,r1,q1⟩=>⟨x,U,H1,I1,r1,q1⟩)
def yn (c:TT) (t u:TS):TS:=λD U H=>c U H λb H1=>if b=true then t D U H1 else u D U H1
theorem a8 {c:Expr} {a b:List Stmt} {tc:TT} (hc:PT X c tc) (ha:PSs X a t) (hb:PSs X b u):PS X (.If c a b pos) (yn tc t u):=by
 intro pins s U H D I h
 refine wpAny_If (thn (hc pins s U H _ I h) λd s1 ⟨H1,I1,q1⟩=>?_)
 cases d with
 | true=>exact ha pins s1 U H1 D I1 q1
 | false=>exact hb pins s1 U H1 D I1 q1
def vE:TS:=λ_ _ _=>False
theorem dj {sts:List Stmt}:PSs X sts vE:=λ_ _ _ _ _ _ h=>h.elim
end
abbrev TG:=V->St->Hp->(St->Hp->Prop)->Prop
abbrev TGs:=List V->St->Hp->(St->Hp->Prop)->Prop
def PG (X:Cx) (target:Expr) (t:TG):Prop:=
 ∀ (pins:List (Addr×Obj)) (s:Shared) (U:St) (H:Hp) (v:V) (u:Value) (Q:St->Hp->Prop),Inv X pins U H s->RelV v u->t v U H Q->
  wpAny (model X.prog X.w) X.A (assign target X.env u) (λ_ s'=> ∃ U' H',Inv X pins U' H' s'/\Q U' H') X.xe s
def PGs (X:Cx) (ts:List Expr) (t:TGs):Prop:=
 ∀ (pins:List (Addr×Obj)) (s:Shared) (U:St) (H:Hp) (vs:List V) (us:List Value) (Q:St->Hp->Prop),Inv X pins U H s->Vals vs us->t vs U H Q->
  wpAny (model X.prog X.w) X.A (assignInOrder ((assignEach ts X.env).map (·.2)) us) (λ_ s'=> ∃ U' H',Inv X pins U' H' s'/\Q U' H') X.xe s
abbrev wK:=V->V->V->Hp->(Hp->Prop)->Prop
def xW (X:Cx) (t:wK):Prop:=
 ∀ (pins:List (Addr×Obj)) (s:Shared) (U:St) (H:Hp) (o i v:V) (ov iv u:Value) (Q:Hp->Prop),Inv X pins U H s->RelV o ov->RelV i iv->RelV v u->t o i v H Q->
  wpAny (model X.prog X.w) X.A (setItem ov iv u) (λ_ s'=> ∃ H',Inv X pins U H' s'/\Q H') X.xe s
section
variable {X:Cx} {pos:Pos}
noncomputable def fc (i:Nat):TG:=λv U H Q=>Q (U.set i (some v)) H
theorem aw {i:Nat} {x:Str} (hN:X.N.Nodup) (hi:X.N[i]? =some x) (hx:Loc X.env.scope x) (hf:X.fn x=true\/X.env.scope.names.lookup x=some .local:=by first | exact .inl rfl | exact .inr rfl | assumption):PG X (.Name x pos) (fc i):=by
 intro pins s U H v u Q I r h
 exact wpAny_assign_Name (dQ I hN hi hx r (λs' I'=>⟨_,H,I',h⟩) hf)
noncomputable def wA:TGs:=λvs U H Q=>vs=[]/\Q U H
inductive jA (t:TG) (u:TGs) (vs:List V) (U:St) (H:Hp) (Q:(St->Hp->Prop)):Prop
 | mk: ∀ v r,(vs=v::r)->(t v U H λU' H'=>u r U' H' Q)->jA t u vs U H Q
theorem bU:PGs X [] wA:=by
 intro pins s U H vs us Q I r h
 obtain ⟨e,h⟩:=h
 subst e
 cases r
 exact assignInOrder_nil ⟨U,H,I,h⟩
theorem aJ {e:Expr} {es:List Expr} {t:TG} {u:TGs} (h1:PG X e t) (h2:PGs X es u)
  (hs:(assignEach (e::es) X.env).map (·.2)=assign e X.env::(assignEach es X.env).map (·.2):=by rfl):PGs X (e::es) (jA t u):=by
 intro pins s U H vs us Q I r h
 obtain ⟨v,vr,e1,h⟩:=h
 subst e1
 cases r with
 | cons r rr=>
  rw [hs]
  refine assignInOrder_cons (thn (h1 pins s U H _ _ _ I r h) λ_ s1 ⟨U1,H1,I1,q1⟩=>?_)
  exact h2 pins s1 U1 H1 _ _ Q I1 rr q1
inductive uD (K:W.Frag) (n:Nat) (t:TGs) (v:V) (U:St) (H:Hp) (Q:(St->Hp->Prop)):Prop
 | mk: ∀ a xs,(v=.ref a)->(SqT K H a xs)->(xs.length=n)->(t xs U H Q)->uD K n t v U H Q
theorem cu {es:List Expr} {k:Nat} {t:TGs} {n:Nat} (hc:X.calm=true) (h:PGs X es t)
  (hn:(assignEach es X.env).length=n:=by rfl) (hst:(assignEach es X.env).findIdx? (·.1)=none:=by rfl):PG X (.Tuple es k pos) (uD X.K n t):=by
 intro pins s U H v u Q I r hw
 obtain ⟨a,xs,e1,hq,hl,hw⟩:=hw
 subst e1
 cases r
 obtain ⟨its,rv,ht,hz⟩:=I.tuple hq
 refine assign_Tuple_tuple (I.ok.hd hc) ht (by simp [hn,<- hl,rv.length]) hst λh' hx=>?_
 have I1:Inv X pins U H {s with heap:=h'}:=I.kept (t':=s.toks) λb o e=>hx b o (zi (y2 e)) e
 exact h pins _ U H xs _ Q I1 (by simpa using rv) hw
noncomputable def yE (to ti:TE) (t:wK):TG:=λv U H Q=>to U H λo H1=>ti U H1 λi H2=>t o i v H2 λH3=>Q U H3
theorem vZ {o i:Expr} {to ti:TE} {t:wK} (ho:PE X o to) (hi:PE X i ti) (hs:xW X t)
  (ha: ∀ v,assign (.Subscript o i pos) X.env v=(do
   let ov <- holding [v] (eval o X.env)
   let iv <- holding [v,ov] (eval i X.env)
   standAt pos
   holding [v,ov,iv] (setItem ov iv v)
   release [v,ov,iv] []):=by intro _;rfl):PG X (.Subscript o i pos) (yE to ti t):=by
 intro pins s U H v u Q I r h
 rw [ha]
 refine yO (zP (thn (ho pins s U H _ I h) λov s1 ⟨x,H1,I1,r1,q1⟩=>?_))
 refine yO (zP (thn (hi pins s1 U H1 _ I1 q1) λiv s2 ⟨y,H2,I2,r2,q2⟩=>?_))
 refine yO (Cd (yO (zP (thn (hs pins s2 U H2 x y v ov iv u _ I2 r1 r2 r q2) λ_ s3 ⟨H3,I3,q3⟩=>?_))))
 exact wpAny_release ⟨U,H3,I3,q3⟩
def tP (te:TE) (g:TG):TS:=λD U H=>te U H λx H1=>g x U H1 D.nx
theorem qZ {tg e:Expr} {te:TE} {g:TG} (he:PE X e te) (hg:PG X tg g) (hs:swapsWithSole [tg] e pos.line X.env=pure false:=by rfl) (hw:swappedStores [tg] e X.env=pure none:=by rfl)
  (h1:(assignEach [tg] X.env).map (·.2)=[assign tg X.env]:=by rfl):PS X (.Assign [tg] e pos) (tP te g):=by
 intro pins s U H D I h
 refine wpAny_Assign_stores (thn (he pins s U H _ I h) λv s1 ⟨x,H1,I1,r1,q1⟩=>?_) hs hw
 rw [h1]
 exact thn (hg pins s1 U H1 x v _ I1 r1 q1) λ_ s2 q=>q
theorem ao {i:Nat} {x:Str} {e:Expr} {te:TE} {pos':Pos} (hN:X.N.Nodup) (hi:X.N[i]? =some x) (hx:Loc X.env.scope x) (he:PE X e te) (hs:swapsWith e (some (.Name x pos')) pos.line X.env=pure false:=by rfl) (hf:X.fn x=true\/X.env.scope.names.lookup x=some .local:=by first | exact .inl rfl | exact .inr rfl | assumption):
  PS X (.Assign [.Name x pos'] e pos) (tP te (fc i)):=by
 intro pins s U H D I h
 refine wpAny_Assign_Name (thn (he pins s U H _ I h) λv s1 ⟨y,H1,I1,r1,q1⟩=>?_) hs
 exact dQ I1 hN hi hx r1 (λs2 I2=>⟨_,H1,I2,q1⟩) hf
end
section
variable {X:Cx} {pos:Pos}
inductive l8 (c:TT) (tb:TS) (D:eW) (U:St) (H:Hp):Prop
 | mk: ∀ (W:Nat->St->Hp->Prop),((∃ m,W m U H))->(∀ m U H,W m U H->c U H λb H1=>if b=true then ∃ N:St->Hp->Prop,(∀ U' H',N U' H'-> ∃ m',m'<m/\W m' U' H')/\tb {D with nx:=N,ct:=N,bk:=D.nx} U H1 else D.nx U H1)->l8 c tb D U H
theorem kY {c:Expr} {body:List Stmt} {tc:TT} {tb:TS} (hp:PassesOwn (model X.prog X.w) X.A X.env X.xe) (hc:PT X c tc) (hb:PSs X body tb):PS X (.While c body [] pos) (l8 tc tb):=by
 intro pins s U H D I h
 obtain ⟨W,⟨m0,w0⟩,turn⟩:=h
 refine wpAny_While (codeAny_whileLoop (λn s'=> ∃ U' H',Inv X pins U' H' s'/\W n U' H') ?_ m0 ⟨U,H,I,w0⟩)
 rintro n s1 ⟨U1,H1,I1,w1⟩
 refine Bl hp (thn (hc pins s1 U1 H1 _ I1 (turn n U1 H1 w1)) λb s2 ⟨H2,I2,q2⟩=>?_)
 cases b with
 | true=>
  obtain ⟨N,hN,q2⟩:=q2
  rw [yW rfl]
  refine Bl hp (thn (hb pins s2 U1 H2 _ I2 q2) λf s3 q3=>?_)
  cases f with
  | next=>
   obtain ⟨U3,H3,I3,n3⟩:=q3
   obtain ⟨m',hm,w3⟩:=hN U3 H3 n3
   exact ⟨m',hm,U3,H3,I3,w3⟩
  | cont=>
   obtain ⟨U3,H3,I3,n3⟩:=q3
   obtain ⟨m',hm,w3⟩:=hN U3 H3 n3
   exact ⟨m',hm,U3,H3,I3,w3⟩
  | brk=>exact q3
  | ret v=>exact q3
 | false=>
  rw [yU zp]
  exact BJ ⟨U1,H2,I2,q2⟩
end
structure It where
 go:Nat->Hp->Prop
 yld:Nat->Hp->V->Hp->Prop
 stop:Nat->Hp->Prop
def fC (X:Cx) (pins:List (Addr×Obj)) (H:Hp) (b:Addr):Prop:=
 H b=none/\b≠X.env.locals/\b∉X.fs/\(b∈X.ex\/X.s₀.heap.objs.size<=b)/\(∀ x c,X.env.cells.lookup x=some c->c≠b)/\ ∀ p∈X.pn++pins,p.1≠b
theorem Inv.fpOk {X:Cx} {pins:List (Addr×Obj)} {U:St} {H H':Hp} {s:Shared} {b:Addr} (I:Inv X pins U H s) (hb:s.heap.objs.size<=b) (hn:H' b=none):fC X pins H' b:=by
 refine ⟨hn,As (zA I.lt hb),I.nofs hb,.inr (zc I.sz hb),λx c e z=>?_,λp hp z=>?_⟩
 ·obtain ⟨v,q⟩:=I.cell x c e
  exact absurd (zA q.lt (by rw [z];exact hb)) (AG _)
 ·exact absurd (zA (y2 (I.pin p hp).1) (by rw [z];exact hb)) (AG _)
structure qg (P:Program) (w:World) (K:W.Frag) (tg:Expr) (J:It) (fp:List Addr) (it:Addr) (tn:Nat->Heap->Prop):Prop where
 mem:it∈fp
 obj: ∀ i h,tn i h-> ∀ b∈fp,∃ o,h.get? b=some o/\ ∀ v,o.data≠ .cell v
 keep: ∀ i h h',tn i h->(∀ b∈fp,∀ o,h.get? b=some o->h'.get? b=some o)->tn i h'
 item: ∀ (X:Cx),X.prog=P->X.w=w->X.K=K->X.calm=true-> ∀ (i:Nat) (pins:List (Addr×Obj)) (s:Shared) (U:St) (H:Hp) (E:Value->Shared->Prop),Inv X pins U H s->(∀ b∈fp,fC X pins H b)->tn i s.heap->J.go i H->
  wpAny (model P w) X.A (pyNext (.ref it)) (λr s1=> ∃ u,r=some u/\
   wpAny (model P w) X.A (letOwnedTupleGo tg (.ref it) u) (λ_ s2=> ∃ x H',Inv X pins U H' s2/\RelV x u/\J.yld i H x H'/\tn (i+1) s2.heap/\ ∀ b∈fp,H' b=none) E s1) E s
 done: ∀ (X:Cx),X.prog=P->X.w=w->X.K=K->X.calm=true-> ∀ (i:Nat) (pins:List (Addr×Obj)) (s:Shared) (U:St) (H:Hp) (E:Value->Shared->Prop),Inv X pins U H s->(∀ b∈fp,fC X pins H b)->tn i s.heap->J.stop i H->
  wpAny (model P w) X.A (pyNext (.ref it)) (λr s1=>r=none/\Inv X pins U H s1) E s
 self: ∀ (A:Around) (i:Nat) (s:Shared) (Q:Value->Shared->Prop) (E:Value->Shared->Prop),tn i s.heap->Q (.ref it) s->wpAny (model P w) A (pyIter (.ref it)) Q E s
abbrev TI:=St->Hp->(It->Hp->Prop)->Prop
inductive PIE (X:Cx) (pins:List (Addr×Obj)) (U:St) (tg:Expr) (R:It->Hp->Prop) (itv:Value) (s2:Shared):Prop
 | mk: ∀ (it:Addr) (fp:List Addr) (tn:Nat->Heap->Prop) (J:It) (H':Hp),(itv=.ref it)->(Inv X pins U H' s2)->(qg X.prog X.w X.K tg J fp it tn)->(tn 0 s2.heap)->((∀ b∈fp,fC X pins H' b))->(R J H')->PIE X pins U tg R itv s2
def PI (X:Cx) (tg iter:Expr) (wi:TI):Prop:=
 ∀ (pins:List (Addr×Obj)) (s:Shared) (U:St) (H:Hp) (R:It->Hp->Prop),Inv X pins U H s->wi U H R->
  wpAny (model X.prog X.w) X.A (eval iter X.env) (λv s1=>wpAny (model X.prog X.w) X.A (pyIter v) (PIE X pins U tg R) X.xe s1) X.xe s
theorem ox {M:Model} {A:Around} {E:Value->Shared->Prop} {s:Shared} {tg:Expr} {it:Addr} {u:Value} {o:Obj} {n:String} {vs:Array Value} {Q:Unit->Shared->Prop} (ho:s.heap.get? it=some o) (hc:o.cls=.type n) (hd:o.data=.fields vs)
  (hn:["enumerate","zip","dict_itemiterator","dict_reverseitemiterator","odict_iterator","itertools.zip_longest","itertools.pairwise"].contains n=false) (hQ:Q () s):wpAny M A (letOwnedTupleGo tg (.ref it) u) Q E s:=by
 unfold letOwnedTupleGo
 cases tg <;> first
  | exact yR hQ
  | (cases u <;> first
    | exact yR hQ
    | (refine yO (wpAny_load ho ?_)
       rw [hc,hd]
       show wpAny M A (if (["enumerate","zip","dict_itemiterator","dict_reverseitemiterator","odict_iterator","itertools.zip_longest","itertools.pairwise"].contains n&&vs[0]? ==some (rawInt _))=true then _ else _) Q E s
       rw [yU (by intro h;rw [hn,Bool.false_and]at h;cases h)]
       exact yR hQ))
noncomputable def Itl (K:W.Frag) (a:Addr):It:=
 ⟨λi H=> ∃ xs x,SqL K H a xs/\xs[i]? =some x,λi H x H'=>H'=H/\ ∀ xs,SqL K H a xs->xs[i]? =some x,λi H=> ∃ xs,SqL K H a xs/\xs.length<=i⟩
noncomputable def Itt (K:W.Frag) (a:Addr):It:=
 ⟨λi H=> ∃ xs x,SqT K H a xs/\xs[i]? =some x,λi H x H'=>H'=H/\ ∀ xs,SqT K H a xs->xs[i]? =some x,λi H=> ∃ xs,SqT K H a xs/\xs.length<=i⟩
noncomputable def Itr (lo:Int) (n:Nat):It:=⟨λi _=>i<n,λi H x H'=>H'=H/\x=.int (lo+i),λi _=>n<=i⟩
theorem oR {P:Program} {w:World} {K:W.Frag} {tg:Expr} (a it:Addr):qg P w K tg (Itl K a) [it] it (λi h=>h.IsListIter it a i) where
 mem:=by simp
 obj:=λi h st b hb=>by
  have e:b=it:=by simpa using hb
  subst e
  obtain ⟨o,e,c,d⟩:=st
  exact ⟨o,e,λv z=>by rw [d]at z;cases z⟩
 keep:=λi h h' st k=>st.at λo e=>k it (by simp) o e
 item:=by
  intro X hP hw hK hc i pins s U H E I hf st hg
  subst hP hw hK
  obtain ⟨xs,x,hq,hx⟩:=hg
  obtain ⟨its,rv,p,hz⟩:=I.list hq
  obtain ⟨u,hu,ru⟩:=rv.get hx
  obtain ⟨f0,f1,f2,f3,f4,f5⟩:=hf it (by simp)
  refine wpAny_pyNext_list_item st p.isList (x:=u) (by simpa using hu) λh' st' sb=>?_
  have I1:Inv X pins U H {s with heap:=h'}:=I.turned (t':=s.toks) (λb o hb e=>(sb.2 b hb).trans e) f0 f1 f3 f4 f5
  obtain ⟨o,e,c,d⟩:=id st'
  exact ⟨u,rfl,ox (s:={s with heap:=h'}) e c d (by decide) ⟨x,H,I1,ru,⟨rfl,λys hy=>by rw [I.list_inj hy hq];exact hx⟩,st',λb hb=>(hf b hb).1⟩⟩
 done:=by
  intro X hP hw hK hc i pins s U H E I hf st hg
  subst hP hw hK
  obtain ⟨xs,hq,hx⟩:=hg
  obtain ⟨its,rv,p,hz⟩:=I.list hq
  obtain ⟨f0,f1,f2,f3,f4,f5⟩:=hf it (by simp)
  have hl:=rv.length
  exact wpAny_pyNext_list_end (I.ok.hd hc) st p.isList (by simp;lia) λh' eb=>⟨rfl,I.turned (t':=s.toks) (λb o hb e=>eb b o hb e) f0 f1 f3 f4 f5⟩
 self:=λ_ _ _ _ _ st h=>wpAny_pyIter_listiter st h
theorem lY {P:Program} {w:World} {K:W.Frag} {tg:Expr} (a it:Addr):qg P w K tg (Itt K a) [it] it (λi h=>h.IsTupleIter it a i) where
 mem:=by simp
 obj:=λi h st b hb=>by
  have e:b=it:=by simpa using hb
  subst e
  obtain ⟨o,e,c,d⟩:=st
  exact ⟨o,e,λv z=>by rw [d]at z;cases z⟩
 keep:=λi h h' st k=>st.at λo e=>k it (by simp) o e
 item:=by
  intro X hP hw hK hc i pins s U H E I hf st hg
  subst hP hw hK
  obtain ⟨xs,x,hq,hx⟩:=hg
  obtain ⟨its,rv,p,hz⟩:=I.tuple hq
  obtain ⟨u,hu,ru⟩:=rv.get hx
  obtain ⟨f0,f1,f2,f3,f4,f5⟩:=hf it (by simp)
  refine wpAny_pyNext_tuple_item st (show s.heap.IsTuple a its.toArray from p) (x:=u) (by simpa using hu) λh' st' sb=>?_
  have I1:Inv X pins U H {s with heap:=h'}:=I.turned (t':=s.toks) (λb o hb e=>(sb.2 b hb).trans e) f0 f1 f3 f4 f5
  obtain ⟨o,e,c,d⟩:=id st'
  exact ⟨u,rfl,ox (s:={s with heap:=h'}) e c d (by decide) ⟨x,H,I1,ru,⟨rfl,λys hy=>by rw [I.tuple_inj hy hq];exact hx⟩,st',λb hb=>(hf b hb).1⟩⟩
 done:=by
  intro X hP hw hK hc i pins s U H E I hf st hg
  subst hP hw hK
  obtain ⟨xs,hq,hx⟩:=hg
  obtain ⟨its,rv,p,hz⟩:=I.tuple hq
  obtain ⟨f0,f1,f2,f3,f4,f5⟩:=hf it (by simp)
  have hl:=rv.length
  exact wpAny_pyNext_tuple_end (I.ok.hd hc) st (show s.heap.IsTuple a its.toArray from p) (by simp;lia) λh' eb=>⟨rfl,I.turned (t':=s.toks) (λb o hb e=>eb b o hb e) f0 f1 f3 f4 f5⟩
 self:=λ_ _ _ _ _ st h=>wpAny_pyIter_tupleiter st h
theorem lZ {P:Program} {w:World} {K:W.Frag} {tg:Expr} (it:Addr) (lo:Int) (n:Nat):qg P w K tg (Itr lo n) [it] it (λi h=>IsRangeIter h it (lo+ (i:Nat) *1) ((n:Int) - (i:Nat)) 1) where
 mem:=by simp
 obj:=λi h st b hb=>by
  have e:b=it:=by simpa using hb
  subst e
  exact ⟨_,st,λv z=>by
   have z':Data.fields _=Data.cell v:=z
   cases z'⟩
 keep:=λi h h' st k=>k it (by simp) _ st
 item:=by
  intro X hP hw hK hc i pins s U H E I hf st hg
  subst hP hw hK
  obtain ⟨f0,f1,f2,f3,f4,f5⟩:=hf it (by simp)
  have W:=Walks.range (prog:=X.prog) (w:=X.w) (I.ok.hd hc) it lo 1 n
  refine W.item i s _ _ hg st λv h' tk hv st' kk=>?_
  obtain ⟨t,rfl⟩:=hv
  have I1:Inv X pins U H {s with heap:=h',toks:=tk}:=I.turned (λb o hb e=>kk b o (by simpa using hb) e) f0 f1 f3 f4 f5
  refine ⟨_,rfl,ox (s:={s with heap:=h',toks:=tk}) (n:="range_iterator") st' rfl rfl (by decide) ⟨.int (lo+i),H,I1,⟨t,?_⟩,⟨rfl,rfl⟩,st',λb hb=>(hf b hb).1⟩⟩
  rw [Int.mul_one]
 done:=by
  intro X hP hw hK hc i pins s U H E I hf st hg
  subst hP hw hK
  obtain ⟨f0,f1,f2,f3,f4,f5⟩:=hf it (by simp)
  exact wpAny_pyNext_range_end (I.ok.hd hc) st (by have:n<=i:=hg;lia) λh' eb=>⟨rfl,I.turned (t':=s.toks) (λb o hb e=>eb b o hb e) f0 f1 f3 f4 f5⟩
 self:=λ_ _ _ _ _ st h=>wpAny_pyIter_rangeiter st h
section
variable {X:Cx} {tg:Expr}
noncomputable def xM (K:W.Frag) (tl:TE):TI:=λU H R=>tl U H λx H1=> ∃ a,x=.ref a/\(∃ xs,SqL K H1 a xs)/\R (Itl K a) H1
noncomputable def yy (K:W.Frag) (tl:TE):TI:=λU H R=>tl U H λx H1=> ∃ a,x=.ref a/\(∃ xs,SqT K H1 a xs)/\R (Itt K a) H1
theorem be {l:Expr} {tl:TE} (hl:PE X l tl):PI X tg l (xM X.K tl):=by
 intro pins s U H R I h
 refine thn (hl pins s U H _ I h) λv s1 ⟨x,H1,I1,r1,q1⟩=>?_
 obtain ⟨a,e,⟨xs,hq⟩,q⟩:=q1
 subst e
 cases r1
 obtain ⟨its,rv,p,hz⟩:=I1.list hq
 refine Cw p.isList ?_
 refine ⟨s1.heap.objs.size,[s1.heap.objs.size],_,_,H1,rfl,I1.kept (t':=s1.toks) λb o e=>yQ _ e,oR a _,⟨_,y6 _ rfl,rfl,rfl⟩,λb hb=>?_,q⟩
 have e:b=s1.heap.objs.size:=by simpa using hb
 subst e
 exact I1.fpOk (yV _) (I1.hok.fresh (yV _))
theorem ce {l:Expr} {tl:TE} (hl:PE X l tl):PI X tg l (yy X.K tl):=by
 intro pins s U H R I h
 refine thn (hl pins s U H _ I h) λv s1 ⟨x,H1,I1,r1,q1⟩=>?_
 obtain ⟨a,e,⟨xs,hq⟩,q⟩:=q1
 subst e
 cases r1
 obtain ⟨its,rv,p,hz⟩:=I1.tuple hq
 refine Ci (show s1.heap.IsTuple a its.toArray from p) ?_
 refine ⟨s1.heap.objs.size,[s1.heap.objs.size],_,_,H1,rfl,I1.kept (t':=s1.toks) λb o e=>yQ _ e,lY a _,⟨_,y6 _ rfl,rfl,rfl⟩,λb hb=>?_,q⟩
 have e:b=s1.heap.objs.size:=by simpa using hb
 subst e
 exact I1.fpOk (yV _) (I1.hok.fresh (yV _))
theorem kW {pins:List (Addr×Obj)} {U:St} {H:Hp} {s:Shared} {R:It->Hp->Prop} {E:Value->Shared->Prop} {lo hi:Int} {t u v:Tok} {tk:Nat} (I:Inv X pins U H s) (h1: -(2^62)<=lo) (h2:lo<2^62) (h3: -(2^62)<=hi) (h4:hi<2^62)
  (q:R (Itr lo (hi-lo).toNat) H):wpAny (model X.prog X.w) X.A (pyIter (.ref s.heap.objs.size)) (PIE X pins U tg R) E {s with heap:=s.heap.push {cls:=.type "range",data:=.fields #[.int lo t,.int hi u,.int 1 v]},toks:=tk}:=by
 refine wpAny_pyIter_range (IsRange.new ..) (small_one h1 h2 h3 h4) ?_
 have I1:Inv X pins U H {s with heap:=s.heap.push {cls:=.type "range",data:=.fields #[.int lo t,.int hi u,.int 1 v]},toks:=tk}:=I.kept λb o e=>yQ _ e
 refine ⟨(s.heap.push {cls:=.type "range",data:=.fields #[.int lo t,.int hi u,.int 1 v]}).objs.size,[(s.heap.push {cls:=.type "range",data:=.fields #[.int lo t,.int hi u,.int 1 v]}).objs.size],_,_,H,rfl,
  I1.kept (t':=tk) λb o e=>yQ _ e,lZ _ lo (hi-lo).toNat,?_,λb hb=>?_,q⟩
 ·have e1:lo+ ((0:Nat):Int) *1=lo:=by simp
  have e2:(((hi-lo).toNat:Nat):Int) - ((0:Nat):Int)=Builtin.Range.rangeSize lo hi 1:=by rw [rangeSize_one];split <;> lia
  show IsRangeIter _ _ (lo+ ((0:Nat):Int) *1) ((((hi-lo).toNat:Nat):Int) - ((0:Nat):Int)) 1
  rw [e1,e2]
  exact y6 _ rfl
 ·have e:b=(s.heap.push {cls:=.type "range",data:=.fields #[.int lo t,.int hi u,.int 1 v]}).objs.size:=by simpa using hb
  subst e
  exact I1.fpOk (yV _) (I1.hok.fresh (yV _))
noncomputable def xL (ta:TA):TI:=λU H R=>ta U H λvs H1=> ∃ j:Int,vs=[.int j]/\ -(2^62)<=j/\j<2^62/\R (Itr 0 j.toNat) H1
noncomputable def xK (ta:TA):TI:=λU H R=>ta U H λvs H1=> ∃ i j:Int,vs=[.int i,.int j]/\(-(2^62)<=i/\i<2^62/\ -(2^62)<=j/\j<2^62)/\R (Itr i (j-i).toNat) H1
theorem bt {a:Expr} {ta:TA} {p pos:Pos} (hg:Gl X "range") (hm:X.mg "range"=none) (ha:PA X [a] ta) (hs:starEach [a] X.env=[(false,eval a X.env)]:=by rfl):PI X tg (.Call (.Name "range" p) [a] [] pos) (xL ta):=by
 intro pins s U H R I h
 refine Call_ (cV I hg hm boot_range (Ai (thn (ha pos pins s U H _ I h) λus s1 ⟨vs,H1,I1,r1,q1⟩=>?_) hs rfl))
 obtain ⟨j,e,q1,q2,q⟩:=q1
 subst e
 cases r1 with
 | cons r rr=>
  cases rr
  obtain ⟨t,rfl⟩:=r
  exact call_range_1 (kW I1 (by lia) (by lia) q1 q2 (by simpa using q))
theorem eM {a b:Expr} {ta:TA} {p pos:Pos} (hg:Gl X "range") (hm:X.mg "range"=none) (ha:PA X [a,b] ta) (hs:starEach [a,b] X.env=[(false,eval a X.env),(false,eval b X.env)]:=by rfl) (hs2:starEach [b] X.env=[(false,eval b X.env)]:=by rfl):
  PI X tg (.Call (.Name "range" p) [a,b] [] pos) (xK ta):=by
 intro pins s U H R I h
 refine Call_ (cV I hg hm boot_range (Ai (thn (ha pos pins s U H _ I h) λus s1 ⟨vs,H1,I1,r1,q1⟩=>?_) (by rw [hs,hs2]) (by rw [hs2];rfl)))
 obtain ⟨i,j,e,⟨q1,q2,q3,q4⟩,q⟩:=q1
 subst e
 cases r1 with
 | cons r rr=>
  cases rr with
  | cons r' rr=>
   cases rr
   obtain ⟨t,rfl⟩:=r
   obtain ⟨t',rfl⟩:=r'
   exact call_range_2 (kW I1 q1 q2 q3 q4 q)
def yo (wi:TI) (g:TG) (tb:TS):TS:=λD U H=>wi U H λJ H1=> ∃ W:Nat->Nat->St->Hp->Prop,(∃ m,W 0 m U H1)/\ ∀ i m U H,W i m U H->
 (J.stop i H/\D.nx U H)\/(J.go i H/\ ∃ N:St->Hp->Prop,(∀ U' H',N U' H'-> ∃ m',m'<m/\W (i+1) m' U' H')/\ ∀ x H',J.yld i H x H'->g x U H' λU2 H2=>tb {D with nx:=N,ct:=N,bk:=D.nx} U2 H2)
noncomputable def j7 (fp:List Addr) (h:Heap):List (Addr×Obj):=fp.filterMap λb=>(h.get? b).map λo=>(b,o)
theorem a7 {fp:List Addr} {h:Heap} {b:Addr} {o:Obj} (hb:b∈fp) (e:h.get? b=some o):(b,o)∈j7 fp h:=C9.mpr ⟨b,hb,by rw [e];rfl⟩
theorem pI {fp:List Addr} {h:Heap} {p:Addr×Obj} (hp:p∈j7 fp h):p.1∈fp/\h.get? p.1=some p.2:=by
 obtain ⟨b,hb,e⟩:=C9.mp hp
 cases q:h.get? b with
 | none=>rw [q]at e;cases e
 | some o=>
  rw [q]at e
  have e':(b,o)=p:=zj e
  subst e'
  exact ⟨hb,q⟩
theorem Inv.pinned {pins:List (Addr×Obj)} {U:St} {H:Hp} {s:Shared} {fp:List Addr} (I:Inv X pins U H s) (hf: ∀ b∈fp,fC X pins H b) (ho: ∀ b∈fp,∃ o,s.heap.get? b=some o/\ ∀ v,o.data≠ .cell v):Inv X (pins++j7 fp s.heap) U H s:=
 I.pins_of λp hp=>(y8.mp hp).elim (λz=>I.pin p (yS _ z)) λz=>by
  obtain ⟨hb,e⟩:=pI z
  obtain ⟨f0,f1,f2,_⟩:=hf p.1 hb
  obtain ⟨o,e',d⟩:=ho p.1 hb
  rw [e]at e';cases e'
  exact ⟨e,f0,f1,f2,d⟩
theorem Inv.unpinned {pins pl:List (Addr×Obj)} {U:St} {H:Hp} {s:Shared} (I:Inv X (pins++pl) U H s):Inv X pins U H s:=I.pins_of λp hp=>I.pin p (yS _ (zx _ hp))
theorem aU {iter:Expr} {body:List Stmt} {wi:TI} {g:TG} {tb:TS} {pos:Pos} (hp:PassesOwn (model X.prog X.w) X.A X.env X.xe) (hc:X.calm=true) (hi:PI X tg iter wi) (hg:PG X tg g) (hb:PSs X body tb)
  (hs: ∀ x,foldedSetIterable iter X.env x=pure x:=by intro _;rfl):PS X (.For tg iter body [] pos) (yo wi g tb):=by
 intro pins s U H D I h
 refine wpAny_For (thn (hi pins s U H _ I h) λv s1 h1=>thn h1 λitv s2 h2=>?_) hs
 obtain ⟨it,fp,tn,J,H2,e,I2,T,st2,f2,W,⟨m0,w0⟩,turn⟩:=h2
 subst e
 have stat: ∀ {H':Hp},(∀ b∈fp,H' b=none)-> ∀ b∈fp,fC X pins H' b:=λhn b hb=>⟨hn b hb,(f2 b hb).2⟩
 refine codeAny_forLoop_any (λn s'=> ∃ i U' H',Inv X pins U' H' s'/\tn i s'.heap/\(∀ b∈fp,H' b=none)/\W i n U' H') ?_ m0 ⟨0,U,H2,I2,st2,λb hb=>(f2 b hb).1,w0⟩
 rintro n s3 ⟨i,U3,H3,I3,st3,fr3,w3⟩
 rcases turn i n U3 H3 w3 with ⟨stop,qn⟩ | ⟨go,N,hN,step⟩
 ·refine Bl hp (thn (T.done X rfl rfl rfl hc i pins s3 U3 H3 X.xe I3 (stat fr3) st3 stop) λr s4 ⟨hr,I4⟩=>?_)
  subst hr
  exact BJ ⟨U3,H3,I4,qn⟩
 ·refine Bl hp (thn (T.item X rfl rfl rfl hc i pins s3 U3 H3 X.xe I3 (stat fr3) st3 go) λr s4 ⟨u,hr,h4⟩=>?_)
  subst hr
  refine Bl hp (thn h4 λ_ s5 ⟨x,H5,I5,r5,y5,st5,fr5⟩=>?_)
  have I5':=I5.pinned (stat fr5) (T.obj _ _ st5)
  refine Bl hp (thn (hg _ s5 U3 H5 x u _ I5' r5 (step x H5 y5)) λ_ s6 ⟨U6,H6,I6,q6⟩=>?_)
  refine Bl hp (thn (hb _ s6 U6 H6 _ I6 q6) λf s7 q7=>?_)
  have again: ∀ {U7:St} {H7:Hp},Inv X (pins++j7 fp s5.heap) U7 H7 s7->N U7 H7-> ∃ m,m<n/\ ∃ i U' H',Inv X pins U' H' s7/\tn i s7.heap/\(∀ b∈fp,H' b=none)/\W i m U' H':=λ{U7 H7} I7 n7=>by
   obtain ⟨m',hm,w7⟩:=hN U7 H7 n7
   refine ⟨m',hm,i+1,U7,H7,I7.unpinned,T.keep _ _ _ st5 λb hb o e=>(I7.pin (b,o) (yS _ (yS _ (a7 hb e)))).1,λb hb=>?_,w7⟩
   obtain ⟨o,e,d⟩:=T.obj _ _ st5 b hb
   exact (I7.pin (b,o) (yS _ (yS _ (a7 hb e)))).2.1
  cases f with
  | next=>obtain ⟨U7,H7,I7,n7⟩:=q7;exact again I7 n7
  | cont=>obtain ⟨U7,H7,I7,n7⟩:=q7;exact again I7 n7
  | brk=>obtain ⟨U7,H7,I7,q7⟩:=q7;exact ⟨U7,H7,I7.unpinned,q7⟩
  | ret v=>obtain ⟨x7,U7,H7,I7,r7,q7⟩:=q7;exact ⟨x7,U7,H7,I7.unpinned,r7,q7⟩
end
theorem bL {K:W.Frag} {a:Addr} {xs:List V} {g:TG} {tb:TS} {D:eW} {U:St} {H:Hp} (Pv:Nat->St->Hp->Prop) (h0:Pv 0 U H) (hl: ∀ i U H,i<=xs.length->Pv i U H->SqL K H a xs)
  (hs: ∀ i x U H,xs[i]? =some x->Pv i U H->g x U H λU2 H2=>tb {D with nx:=Pv (i+1),ct:=Pv (i+1),bk:=D.nx} U2 H2) (hd: ∀ U H,Pv xs.length U H->D.nx U H):
  ∃ W:Nat->Nat->St->Hp->Prop,(∃ m,W 0 m U H)/\ ∀ i m U H,W i m U H->
   ((Itl K a).stop i H/\D.nx U H)\/((Itl K a).go i H/\ ∃ N:St->Hp->Prop,(∀ U' H',N U' H'-> ∃ m',m'<m/\W (i+1) m' U' H')/\ ∀ x H',(Itl K a).yld i H x H'->g x U H' λU2 H2=>tb {D with nx:=N,ct:=N,bk:=D.nx} U2 H2):=by
 refine ⟨λi m U H=>m=xs.length-i/\i<=xs.length/\Pv i U H,⟨xs.length,by simp,y9 _,h0⟩,?_⟩
 rintro i m U H ⟨rfl,hi,p⟩
 have q:=hl i U H hi p
 by_cases hlt:i<xs.length
 ·refine .inr ⟨⟨xs,xs[i],q,by simp [hlt]⟩,Pv (i+1),λU' H' p'=>⟨xs.length- (i+1),by lia,rfl,hlt,p'⟩,λx H' y=>?_⟩
  obtain ⟨e,y⟩:=y
  subst e
  exact hs i x U _ (y xs q) p
 ·have e:i=xs.length:=by lia
  subst e
  exact .inl ⟨⟨xs,q,yV _⟩,hd U H p⟩
theorem cL {K:W.Frag} {a:Addr} {xs:List V} {g:TG} {tb:TS} {D:eW} {U:St} {H:Hp} (Pv:Nat->St->Hp->Prop) (h0:Pv 0 U H) (hl: ∀ i U H,i<=xs.length->Pv i U H->SqT K H a xs)
  (hs: ∀ i x U H,xs[i]? =some x->Pv i U H->g x U H λU2 H2=>tb {D with nx:=Pv (i+1),ct:=Pv (i+1),bk:=D.nx} U2 H2) (hd: ∀ U H,Pv xs.length U H->D.nx U H):
  ∃ W:Nat->Nat->St->Hp->Prop,(∃ m,W 0 m U H)/\ ∀ i m U H,W i m U H->
   ((Itt K a).stop i H/\D.nx U H)\/((Itt K a).go i H/\ ∃ N:St->Hp->Prop,(∀ U' H',N U' H'-> ∃ m',m'<m/\W (i+1) m' U' H')/\ ∀ x H',(Itt K a).yld i H x H'->g x U H' λU2 H2=>tb {D with nx:=N,ct:=N,bk:=D.nx} U2 H2):=by
 refine ⟨λi m U H=>m=xs.length-i/\i<=xs.length/\Pv i U H,⟨xs.length,by simp,y9 _,h0⟩,?_⟩
 rintro i m U H ⟨rfl,hi,p⟩
 have q:=hl i U H hi p
 by_cases hlt:i<xs.length
 ·refine .inr ⟨⟨xs,xs[i],q,by simp [hlt]⟩,Pv (i+1),λU' H' p'=>⟨xs.length- (i+1),by lia,rfl,hlt,p'⟩,λx H' y=>?_⟩
  obtain ⟨e,y⟩:=y
  subst e
  exact hs i x U _ (y xs q) p
 ·have e:i=xs.length:=by lia
  subst e
  exact .inl ⟨⟨xs,q,yV _⟩,hd U H p⟩
theorem bV {lo:Int} {n:Nat} {g:TG} {tb:TS} {D:eW} {U:St} {H:Hp} (Pv:Nat->St->Hp->Prop) (h0:Pv 0 U H)
  (hs: ∀ i U H,i<n->Pv i U H->g (.int (lo+i)) U H λU2 H2=>tb {D with nx:=Pv (i+1),ct:=Pv (i+1),bk:=D.nx} U2 H2) (hd: ∀ U H,Pv n U H->D.nx U H):
  ∃ W:Nat->Nat->St->Hp->Prop,(∃ m,W 0 m U H)/\ ∀ i m U H,W i m U H->
   ((Itr lo n).stop i H/\D.nx U H)\/((Itr lo n).go i H/\ ∃ N:St->Hp->Prop,(∀ U' H',N U' H'-> ∃ m',m'<m/\W (i+1) m' U' H')/\ ∀ x H',(Itr lo n).yld i H x H'->g x U H' λU2 H2=>tb {D with nx:=N,ct:=N,bk:=D.nx} U2 H2):=by
 refine ⟨λi m U H=>m=n-i/\i<=n/\Pv i U H,⟨n,by simp,y9 _,h0⟩,?_⟩
 rintro i m U H ⟨rfl,hi,p⟩
 by_cases hlt:i<n
 ·refine .inr ⟨hlt,Pv (i+1),λU' H' p'=>⟨n- (i+1),by lia,rfl,hlt,p'⟩,λx H' y=>?_⟩
  obtain ⟨e,y⟩:=y
  subst e y
  exact hs i U _ hlt p
 ·have e:i=n:=by lia
  subst e
  exact .inl ⟨yV _,hd U H p⟩
theorem qj {c:TT} {tb:TS} {D:eW} {U:St} {H:Hp} (Pv:St->Hp->Prop) (μ:St->Hp->Nat) (h0:Pv U H)
  (hs: ∀ U H,Pv U H->c U H λb H1=>if b=true then tb {D with nx:=λU' H'=>Pv U' H'/\μ U' H'<μ U H,ct:=λU' H'=>Pv U' H'/\μ U' H'<μ U H,bk:=D.nx} U H1 else D.nx U H1)
  (mono: ∀ U H Q Q',(∀ b H1,Q b H1->Q' b H1)->c U H Q->c U H Q'):l8 c tb D U H:=by
 refine ⟨λm U H=>m=μ U H/\Pv U H,⟨_,rfl,h0⟩,?_⟩
 rintro m U H ⟨rfl,p⟩
 refine mono U H _ _ (λb H1 q=>?_) (hs U H p)
 cases b with
 | true=>exact ⟨_,λU' H' ⟨p',l⟩=>⟨_,l,rfl,p'⟩,q⟩
 | false=>exact q
abbrev R2:=V->V->Hp->VK->Prop
def OpR (X:Cx) (f:Value->Value->Sem Value) (r:R2):Prop:=
 ∀ (pins:List (Addr×Obj)) (s:Shared) (U:St) (H:Hp) (x y:V) (v u:Value) (Q:VK),Inv X pins U H s->RelV x v->RelV y u->r x y H Q->
  wpAny (model X.prog X.w) X.A (f v u) (EP X pins U Q) X.xe s
def UnR (X:Cx) (f:Value->Sem Value) (r:V->Hp->VK->Prop):Prop:=
 ∀ (pins:List (Addr×Obj)) (s:Shared) (U:St) (H:Hp) (x:V) (v:Value) (Q:VK),Inv X pins U H s->RelV x v->r x H Q->
  wpAny (model X.prog X.w) X.A (f v) (EP X pins U Q) X.xe s
def cG (X:Cx) (f:Value) (r:List V->Hp->VK->Prop):Prop:=
 ∀ (pins:List (Addr×Obj)) (s:Shared) (U:St) (H:Hp) (xs:List V) (us:List Value) (Q:VK),Inv X pins U H s->Vals xs us->r xs H Q->
  wpAny (model X.prog X.w) X.A (call f us) (EP X pins U Q) X.xe s
def yI (X:Cx) (r:V->Hp->(Bool->Hp->Prop)->Prop):Prop:=
 ∀ (pins:List (Addr×Obj)) (s:Shared) (U:St) (H:Hp) (x:V) (v:Value) (Q:Bool->Hp->Prop),Inv X pins U H s->RelV x v->r x H Q->
  wpAny (model X.prog X.w) X.A (truthy v) (TP X pins U Q) X.xe s
def tOp (r:R2) (ta tb:TE):TE:=λU H Q=>ta U H λx H1=>tb U H1 λy H2=>r x y H2 Q
def tUn (r:V->Hp->VK->Prop) (ta:TE):TE:=λU H Q=>ta U H λx H1=>r x H1 Q
inductive rI (C:Int->Int->Prop) (g:Int->Int->V) (x:V) (y:V) (H:Hp) (Q:VK):Prop
 | mk: ∀ i j,(x=.int i)->(y=.int j)->(C i j)->(Q (g i j) H)->rI C g x y H Q
inductive rI0 (g:Int->Int->V) (x:V) (y:V) (H:Hp) (Q:VK):Prop
 | mk: ∀ i j,(x=.int i)->(y=.int j)->(Q (g i j) H)->rI0 g x y H Q
inductive rU (g:Int->V) (x:V) (H:Hp) (Q:VK):Prop
 | mk: ∀ i,(x=.int i)->(Q (g i) H)->rU g x H Q
section
variable {X:Cx} {a b c:Expr} {ta tb tc:TE} {pos:Pos}
theorem wJ (ha:PE X a ta) (hb:PE X b tb) {pins:List (Addr×Obj)} {s:Shared} {U:St} {H:Hp} {R:V->V->Hp->Prop} (I:Inv X pins U H s)
  (h:ta U H λx H1=>tb U H1 λy H2=>R x y H2) {Q:Value->Shared->Prop} {f:Value->Value->Sem Value}
  (hf: ∀ v u s2 x y H2,Inv X pins U H2 s2->RelV x v->RelV y u->R x y H2->wpAny (model X.prog X.w) X.A (f v u) Q X.xe s2):
  wpAny (model X.prog X.w) X.A (eval a X.env) (λv s₁=>wpAny (model X.prog X.w) X.A (eval b X.env) (λu s₂=>wpAny (model X.prog X.w) X.A (f v u) Q X.xe s₂) X.xe s₁) X.xe s:=by
 refine thn (ha pins s U H _ I h) λv s1 ⟨x,H1,I1,r1,q1⟩=>?_
 refine thn (hb pins s1 U H1 _ I1 q1) λu s2 ⟨y,H2,I2,r2,q2⟩=>?_
 exact hf v u s2 x y H2 I2 r1 r2 q2
theorem aq {op:Operator} {r:R2} (ho:OpR X (binaryOp op) r) (ha:PE X a ta) (hb:PE X b tb):PE X (.BinOp a op b pos) (tOp r ta tb):=by
 intro pins s U H Q I h
 exact wpAny_BinOp (wJ ha hb I h λv u s2 x y H2 I2 rx ry q=>ho pins s2 U H2 x y v u Q I2 rx ry q)
theorem vg {op:UnaryOp} {r:V->Hp->VK->Prop} (ho:UnR X (unaryOp op) r) (ha:PE X a ta):PE X (.UnaryOp op a pos) (tUn r ta):=by
 intro pins s U H Q I h
 exact UnaryOp_ (thn (ha pins s U H _ I h) λv s1 ⟨x,H1,I1,r1,q1⟩=>ho pins s1 U H1 x v Q I1 r1 q1)
theorem opI {f:Value->Value->Sem Value} {C:Int->Int->Prop} {g:Int->Int->Int}
  (rule: ∀ (i j:Int) (t u:Tok) (s:Shared) (Q:Value->Shared->Prop) (E:Value->Shared->Prop),C i j->Q (.int (g i j) s.toks) {s with toks:=s.toks+1}->wpAny (model X.prog X.w) X.A (f (.int i t) (.int j u)) Q E s):
  OpR X f (rI C λi j=>.int (g i j)):=by
 intro pins s U H x y v u Q I rx ry h
 obtain ⟨i,j,rfl,rfl,hc,q⟩:=h
 obtain ⟨t,rfl⟩:=rx
 obtain ⟨t',rfl⟩:=ry
 exact rule i j t t' s _ _ hc ⟨.int (g i j),H,I.tok _,⟨_,rfl⟩,q⟩
theorem xy {f:Value->Value->Sem Value} {g:Int->Int->Int}
  (rule: ∀ (i j:Int) (t u:Tok) (s:Shared) (Q:Value->Shared->Prop) (E:Value->Shared->Prop),Q (.int (g i j) s.toks) {s with toks:=s.toks+1}->wpAny (model X.prog X.w) X.A (f (.int i t) (.int j u)) Q E s):
  OpR X f (rI0 λi j=>.int (g i j)):=by
 intro pins s U H x y v u Q I rx ry h
 obtain ⟨i,j,rfl,rfl,q⟩:=h
 obtain ⟨t,rfl⟩:=rx
 obtain ⟨t',rfl⟩:=ry
 exact rule i j t t' s _ _ ⟨.int (g i j),H,I.tok _,⟨_,rfl⟩,q⟩
theorem v6 {f:Value->Value->Sem Value} {g:Int->Int->Bool}
  (rule: ∀ (i j:Int) (t u:Tok) (s:Shared) (Q:Value->Shared->Prop) (E:Value->Shared->Prop),Q (.bool (g i j)) s->wpAny (model X.prog X.w) X.A (f (.int i t) (.int j u)) Q E s):
  OpR X f (rI0 λi j=>.bl (g i j)):=by
 intro pins s U H x y v u Q I rx ry h
 obtain ⟨i,j,rfl,rfl,q⟩:=h
 obtain ⟨t,rfl⟩:=rx
 obtain ⟨t',rfl⟩:=ry
 exact rule i j t t' s _ _ ⟨.bl (g i j),H,I,rfl,q⟩
def yM (i j:Int):Prop:=0<j/\j<1073741824
def yL (i j:Int):Prop:=0<=j/\j<=1000000/\i.natAbs<2^64
def CMul (i j:Int):Prop:=(-(2^64) <i/\i<2^64)\/(-(2^64) <j/\j<2^64)
theorem CMul.ok {i j:Int} (h:CMul i j):IntMulOk i j:=by
 rcases h with ⟨h1,h2⟩ | ⟨h1,h2⟩
 ·exact .of_left (intBits_le_64 h1 h2)
 ·exact .of_right (intBits_le_64 h1 h2)
theorem aQ:OpR X (binaryOp .Add) (rI0 λi j=>.int (i+j)):=xy λ_ _ _ _ _ _ _ q=>add_int q
theorem cx:OpR X (binaryOp .Sub) (rI0 λi j=>.int (i-j)):=xy λ_ _ _ _ _ _ _ q=>sub_int q
theorem cD:OpR X (binaryOp .Mult) (rI CMul λi j=>.int (i*j)):=opI λ_ _ _ _ _ _ _ hc q=>mul_int q hc.ok
theorem eO:OpR X (binaryOp .FloorDiv) (rI yM λi j=>.int (i/j)):=opI λi j _ _ _ _ _ hc q=>by
 have h1:(0:Int) <j:=hc.1
 have h2:j<1073741824:=hc.2
 exact floordiv_int (by lia) (by rw [Int.fdiv_eq_ediv_of_nonneg i (by lia)];exact q) (.inl (PyProof.noPylong_small (by lia)))
theorem bQ:OpR X (binaryOp .Mod) (rI (λ_ j=>0<j) λi j=>.int (i%j)):=opI λi j _ _ _ _ _ hc q=>by
 have h1:(0:Int) <j:=hc
 exact mod_int' (by lia) (by rw [Int.fmod_eq_emod_of_nonneg i (by lia)];exact q)
theorem v4:OpR X (binaryOp .Pow) (rI yL λi j=>.int (i^j.toNat)):=opI λ_ _ _ _ _ _ _ hc q=>pow_int_small hc.1 hc.2.1 hc.2.2 q
theorem unI {f:Value->Sem Value} {g:Int->Int}
  (rule: ∀ (i:Int) (t:Tok) (s:Shared) (Q:Value->Shared->Prop) (E:Value->Shared->Prop),Q (.int (g i) s.toks) {s with toks:=s.toks+1}->wpAny (model X.prog X.w) X.A (f (.int i t)) Q E s):
  UnR X f (rU λi=>.int (g i)):=by
 intro pins s U H x v Q I rx h
 obtain ⟨i,rfl,q⟩:=h
 obtain ⟨t,rfl⟩:=rx
 exact rule i t s _ _ ⟨.int (g i),H,I.tok _,⟨_,rfl⟩,q⟩
theorem qt:UnR X (unaryOp .USub) (rU λi=>.int (-i)):=unI λ_ _ _ _ _ q=>neg_int q
end
noncomputable def xi:V->V->Bool
 | .non,.non=>true | .non,.int _=>true | .int _,.non=>true | .non,.bl _=>true | .bl _,.non=>true | .non,.str _=>true | .str _,.non=>true
 | .int _,.int _=>true | .bl _,.bl _=>true | .str _,.str _=>true | .byt _,.byt _=>true
 | .int _,.str _=>true | .str _,.int _=>true | .bl _,.str _=>true | .str _,.bl _=>true
 | _,_=>false
def rEq:R2:=λx y H Q=>xi x y=true/\Q (.bl (decide (x=y))) H
def rNe:R2:=λx y H Q=>xi x y=true/\Q (.bl (!decide (x=y))) H
theorem oF {i j:Int}:decide (V.int i=V.int j)=(i==j):=by
 rw [C2]
 simp
theorem sM {i j:Bool}:decide (V.bl i=V.bl j)=(i==j):=by
 rw [C2]
 simp
theorem oE {i j:Str}:decide (V.str i=V.str j)=(i==j):=by
 rw [C2]
 simp
theorem oG {i j:Array UInt8}:decide (V.byt i=V.byt j)=(i.toList==j.toList):=by
 rw [C2]
 cases i
 cases j
 simp
section
variable {X:Cx} {a b c:Expr} {ta tb tc:TE} {pos:Pos}
theorem aT {pins:List (Addr×Obj)} {U:St} {H:Hp} {s:Shared} {Q:VK} {k k':Bool} (I:Inv X pins U H s) (q:Q (.bl k) H) (e:k=k'):EP X pins U Q (.bool k') s:=by
 subst e
 exact ⟨.bl k,H,I,rfl,q⟩
theorem cU:OpR X (compareOp .Eq) rEq:=by
 intro pins s U H x y v u Q I rx ry h
 obtain ⟨hs,q⟩:=h
 cases x with
 | non=>
  cases rx
  cases y with
  | non=>cases ry;exact PySem.EqNone.eq_none_none (aT I q (by simp))
  | bl j=>cases ry;exact PySem.EqNone.eq_none_bool (aT I q (by simp))
  | int j=>obtain ⟨t',rfl⟩:=ry;exact PySem.EqNone.eq_none_int (aT I q (by simp))
  | str j=>obtain ⟨t',rfl⟩:=ry;exact PySem.EqNone.eq_none_str (aT I q (by simp))
  | _=>exact absurd (show false=true from hs) zp
 | bl i=>
  cases rx
  cases y with
  | non=>cases ry;exact PySem.EqNone.eq_bool_none (aT I q (by simp))
  | bl j=>cases ry;exact eq_bool (aT I q sM)
  | str j=>obtain ⟨t',rfl⟩:=ry;exact PySem.EqMixed.eq_bool_str (aT I q (by simp))
  | _=>exact absurd (show false=true from hs) zp
 | int i=>
  obtain ⟨t,rfl⟩:=rx
  cases y with
  | non=>cases ry;exact PySem.EqNone.eq_int_none (aT I q (by simp))
  | int j=>obtain ⟨t',rfl⟩:=ry;exact eq_int (aT I q oF)
  | str j=>obtain ⟨t',rfl⟩:=ry;exact PySem.EqMixed.eq_int_str (aT I q (by simp))
  | _=>exact absurd (show false=true from hs) zp
 | str i=>
  obtain ⟨t,rfl⟩:=rx
  cases y with
  | non=>cases ry;exact PySem.EqNone.eq_str_none (aT I q (by simp))
  | bl j=>cases ry;exact PySem.EqMixed.eq_str_bool (aT I q (by simp))
  | int j=>obtain ⟨t',rfl⟩:=ry;exact PySem.EqMixed.eq_str_int (aT I q (by simp))
  | str j=>obtain ⟨t',rfl⟩:=ry;exact eq_str (aT I q oE)
  | _=>exact absurd (show false=true from hs) zp
 | byt i=>
  obtain ⟨t,rfl⟩:=rx
  cases y with
  | byt j=>obtain ⟨t',rfl⟩:=ry;exact PySem.W.eq_bytes (aT I q oG)
  | _=>exact absurd (show false=true from hs) zp
 | _=>cases y <;> exact absurd (show false=true from hs) zp
theorem fS:OpR X (compareOp .NotEq) rNe:=by
 intro pins s U H x y v u Q I rx ry h
 obtain ⟨hs,q⟩:=h
 cases x with
 | non=>
  cases rx
  cases y with
  | non=>cases ry;exact PySem.EqNone.ne_none_none (aT I q (by simp))
  | bl j=>cases ry;exact PySem.EqNone.ne_none_bool (aT I q (by simp))
  | int j=>obtain ⟨t',rfl⟩:=ry;exact PySem.EqNone.ne_none_int (aT I q (by simp))
  | str j=>obtain ⟨t',rfl⟩:=ry;exact PySem.EqNone.ne_none_str (aT I q (by simp))
  | _=>exact absurd (show false=true from hs) zp
 | bl i=>
  cases rx
  cases y with
  | non=>cases ry;exact PySem.EqNone.ne_bool_none (aT I q (by simp))
  | bl j=>cases ry;exact ne_bool (aT I q (congrArg not sM))
  | str j=>obtain ⟨t',rfl⟩:=ry;exact PySem.EqMixed.ne_bool_str (aT I q (by simp))
  | _=>exact absurd (show false=true from hs) zp
 | int i=>
  obtain ⟨t,rfl⟩:=rx
  cases y with
  | non=>cases ry;exact PySem.EqNone.ne_int_none (aT I q (by simp))
  | int j=>obtain ⟨t',rfl⟩:=ry;exact ne_int (aT I q (congrArg not oF))
  | str j=>obtain ⟨t',rfl⟩:=ry;exact PySem.EqMixed.ne_int_str (aT I q (by simp))
  | _=>exact absurd (show false=true from hs) zp
 | str i=>
  obtain ⟨t,rfl⟩:=rx
  cases y with
  | non=>cases ry;exact PySem.EqNone.ne_str_none (aT I q (by simp))
  | bl j=>cases ry;exact PySem.EqMixed.ne_str_bool (aT I q (by simp))
  | int j=>obtain ⟨t',rfl⟩:=ry;exact PySem.EqMixed.ne_str_int (aT I q (by simp))
  | str j=>obtain ⟨t',rfl⟩:=ry;exact ne_str (aT I q (congrArg not oE))
  | _=>exact absurd (show false=true from hs) zp
 | byt i=>
  obtain ⟨t,rfl⟩:=rx
  cases y with
  | byt j=>obtain ⟨t',rfl⟩:=ry;exact PySem.W.ne_bytes (aT I q (congrArg not oG))
  | _=>exact absurd (show false=true from hs) zp
 | _=>cases y <;> exact absurd (show false=true from hs) zp
theorem ju:OpR X (compareOp .Lt) (rI0 λi j=>.bl (decide (i<j))):=v6 λ_ _ _ _ _ _ _ q=>lt_int q
theorem eZ:OpR X (compareOp .Gt) (rI0 λi j=>.bl (decide (j<i))):=v6 λ_ _ _ _ _ _ _ q=>gt_int q
theorem xx:OpR X (compareOp .GtE) (rI0 λi j=>.bl (decide (j<=i))):=v6 λ_ _ _ _ _ _ _ q=>ge_int q
theorem ki:OpR X (compareOp .Is) (λx y H Q=>y=.non/\Q (.bl (decide (x=.non))) H):=by
 intro pins s U H x y v u Q I rx ry h
 obtain ⟨rfl,q⟩:=h
 cases ry
 refine is_none_gen (aT I q ?_)
 cases x <;> first
  | (cases rx;rfl)
  | (obtain ⟨t,rfl⟩:=rx;rfl)
theorem aG (b:Expr) {op:CmpOp} (h:op≠ .In:=by decide) (h2:op≠ .NotIn:=by decide):behindInMarks op b=false:=by
 have e1:(op==CmpOp.In)=false:=by cases op <;> first | rfl | exact absurd rfl h
 have e2:(op==CmpOp.NotIn)=false:=by cases op <;> first | rfl | exact absurd rfl h2
 cases b <;> simp [behindInMarks,e1,e2]
theorem cJ {op:CmpOp} {r:R2} (ho:OpR X (compareOp op) r) (ha:PE X a ta) (hb:PE X b tb) (hm:behindInMarks op b=false):PE X (.Compare a [op] [b] pos) (tOp r ta tb):=by
 intro pins s U H Q I h
 exact wpAny_Compare1 (wJ ha hb I h λv u s2 x y H2 I2 rx ry q=>ho pins s2 U H2 x y v u Q I2 rx ry q) hm
def wY (t:TE):TT:=λU H Q=>t U H λx H'=>rBl x H' Q
theorem aF {op:CmpOp} {r:R2} (ho:OpR X (compareOp op) r) (ha:PE X a ta) (hb:PE X b tb) (hm:behindInMarks op b=false):PT X (.Compare a [op] [b] pos) (wY (tOp r ta tb)):=by
 intro pins s U H Q I h
 refine wpAny_isTrue_Compare1 (thn (ha pins s U H _ I h) λv s1 ⟨x,H1,I1,r1,q1⟩=>thn (hb pins s1 U H1 _ I1 q1) λu s2 ⟨y,H2,I2,r2,q2⟩=>
  thn (ho pins s2 U H2 x y v u _ I2 r1 r2 q2) λc s3 ⟨z,H3,I3,r3,k,e,q3⟩=>?_) hm
 subst e
 cases r3
 exact A5 ⟨H3,I3,q3⟩
def xU (K:W.Frag) (x:V) (H:Hp) (k:Bool):Prop:=
 match x with
 | .non=>k=false
 | .bl b=>k=b
 | .int i=>k=(i !=0)
 | .str y=>y.length<=sizeLine/\k=((y.length:Int)!=0)
 | .byt y=>y.size<=sizeLine/\k=((y.size:Int)!=0)
 | .ref p=>(∃ xs,SqL K H p xs/\k= !xs.isEmpty)\/(∃ xs,SqT K H p xs/\k= !xs.isEmpty)\/ ∃ kvs,H p=some (.dK kvs)/\k= !kvs.isEmpty
 | _=>False
theorem nn {κ:Type} {kvs:List (κ×V)} {vs:List (κ×Value)} (r:KV kvs vs):(!vs.isEmpty)= !kvs.isEmpty:=by
 cases r <;> rfl
theorem iN {xs:List V} {its:List Value} (r:Vals xs its):(!its.toArray.isEmpty)= !xs.isEmpty:=by
 cases r <;> simp
theorem gC:(sizeLine:Nat) <2^63:=by rw [BN];decide
theorem vC:yI X (λx H Q=> ∃ k,xU X.K x H k/\Q k H):=by
 intro pins s U H x v Q I rx h
 obtain ⟨k,e,q⟩:=h
 have hl:=gC
 have hs:sizeLine=16777216:=BN
 cases x with
 | non=>
  cases rx
  have e':k=false:=e
  subst e'
  exact truthy_none ⟨H,I,q⟩
 | bl b=>
  cases rx
  have e':k=b:=e
  subst e'
  exact A5 ⟨H,I,q⟩
 | int i=>
  obtain ⟨t,rfl⟩:=rx
  have e':k=(i !=0):=e
  subst e'
  exact PySem.P.truthy_int ⟨H,I,q⟩
 | str y=>
  obtain ⟨t,rfl⟩:=rx
  obtain ⟨hy,e'⟩:y.length<=sizeLine/\k=((y.length:Int)!=0):=e
  subst e'
  exact PySem.P.truthy_str (by lia) ⟨H,I.tok _,q⟩
 | byt y=>
  obtain ⟨t,rfl⟩:=rx
  obtain ⟨hy,e'⟩:y.size<=sizeLine/\k=((y.size:Int)!=0):=e
  subst e'
  exact PySem.W.truthy_bytes (by lia) ⟨H,I.tok _,q⟩
 | ref p=>
  cases rx
  have e':(∃ xs,SqL X.K H p xs/\k= !xs.isEmpty)\/(∃ xs,SqT X.K H p xs/\k= !xs.isEmpty)\/ ∃ kvs,H p=some (.dK kvs)/\k= !kvs.isEmpty:=e
  rcases e' with ⟨xs,hx,e'⟩ | ⟨xs,hx,e'⟩ | ⟨kvs,hx,e'⟩
  ·subst e'
   obtain ⟨its,r,pl,hz⟩:=I.list hx
   have hlen:=r.length
   exact wpAny_truthy_list pl.isList (by simp only [y1];lia) ⟨H,I.tok _,by rw [iN r];exact q⟩
  ·subst e'
   obtain ⟨its,r,pl,hz⟩:=I.tuple hx
   have hlen:=r.length
   exact truthy_tuple pl (by simp only [y1];lia) ⟨H,I.tok _,by rw [iN r];exact q⟩
  ·subst e'
   obtain ⟨hz,hS,vs,r,m⟩:kvs.length<=sizeLine/\(p==sysModules)=false/\ ∃ vs,KV kvs vs/\s.heap.DictOf (aK X.prog X.w) p vs:=I.hok p _ hx
   have hlen:kvs.length=vs.length:=ze r
   exact wpAny_truthy_dict hS m (by lia) ⟨H,I.tok _,by rw [nn r];exact q⟩
 | _=>exact (show False from e).elim
theorem qY (ha:PE X a ta) (he: ∀ whole,isTrue a X.env whole=(do let v <- whole;standAt a.pos;holding [v] (truthy v))):
  PT X a (λU H Q=>ta U H λx H'=> ∃ k,xU X.K x H' k/\Q k H'):=by
 intro pins s U H Q I h
 exact isTrue_plain (thn (ha pins s U H _ I h) λv s1 ⟨x,H1,I1,r1,q1⟩=>vC pins s1 U H1 x v Q I1 r1 q1) (he _)
theorem fq:OpR X (binaryOp .Add) (λx y H Q=> ∃ i j,x=.str i/\y=.str j/\i.length+j.length<=sizeLine/\Q (.str (i++j)) H):=by
 intro pins s U H x y v u Q I rx ry h
 obtain ⟨i,j,rfl,rfl,hz,q⟩:=h
 obtain ⟨t,rfl⟩:=rx
 obtain ⟨t',rfl⟩:=ry
 exact add_str (λt' tk=>⟨.str (i++j),H,I.tok _,⟨_,rfl⟩,q⟩) hz
theorem fG {x:V} {us:List Value} (r:Vals [x] us): ∃ u,us=[u]/\RelV x u:=by
 cases r with
 | cons r1 r2=>cases r2;exact ⟨_,rfl,r1⟩
theorem je {x y:V} {us:List Value} (r:Vals [x,y] us): ∃ u w',us=[u,w']/\RelV x u/\RelV y w':=by
 cases r with
 | cons r1 r2=>
  cases r2 with
  | cons r3 r4=>cases r4;exact ⟨_,_,rfl,r1,r3⟩
theorem gF (hc:X.calm=true):cG X (.builtin "max") (λxs H Q=> ∃ i j,xs=[.int i,.int j]/\Q (.int (if j>i then j else i)) H):=by
 intro pins s U H xs us Q I r h
 obtain ⟨i,j,rfl,q⟩:=h
 obtain ⟨u,w',rfl,⟨t,rfl⟩,⟨t',rfl⟩⟩:=je r
 refine max_two_ints (I.ok.hd hc) λh' tk k=>⟨_,H,I.kept k,?_,q⟩
 by_cases hj:j>i
 ·rw [yW hj,yW hj];exact ⟨_,rfl⟩
 ·rw [yU hj,yU hj];exact ⟨_,rfl⟩
theorem jH (hc:X.calm=true):cG X (.builtin "min") (λxs H Q=> ∃ i j,xs=[.int i,.int j]/\Q (.int (if j<i then j else i)) H):=by
 intro pins s U H xs us Q I r h
 obtain ⟨i,j,rfl,q⟩:=h
 obtain ⟨u,w',rfl,⟨t,rfl⟩,⟨t',rfl⟩⟩:=je r
 refine min_two_ints (I.ok.hd hc) λh' tk k=>⟨_,H,I.kept k,?_,q⟩
 by_cases hj:j<i
 ·rw [yW hj,yW hj];exact ⟨_,rfl⟩
 ·rw [yU hj,yU hj];exact ⟨_,rfl⟩
theorem du:cG X (.type "int") (λxs H Q=>(∃ i,xs=[.int i]/\Q (.int i) H)\/ ∃ k,xs=[.bl k]/\Q (.int (if k then 1 else 0)) H):=by
 intro pins s U H xs us Q I r h
 rcases h with ⟨i,rfl,q⟩ | ⟨k,rfl,q⟩
 ·obtain ⟨u,rfl,t,rfl⟩:=fG r
  exact call_int_int ⟨.int i,H,I,⟨_,rfl⟩,q⟩
 ·obtain ⟨u,rfl,r1⟩:=fG r
  cases r1
  exact call_int_bool ⟨.int (if k then 1 else 0),H,I.tok _,⟨_,rfl⟩,q⟩
end
structure ObjM (h:Heap) (x dx C:Addr) (mA:Str->Option Value):Prop where
 obj:h.get? x=some (PySem.W.instObj C dx)
 ns:h.Ns1 dx mA
 ne:dx≠x
theorem pN {h:Heap} {dx:Addr} {mA:Str->Option Value} (n:h.Ns1 dx mA): ∃ od,h.get? dx=some od/\ ∀ name,PySem.W.lookIn name od=some (mA name):=by
 obtain ⟨o,es,ep,ho,hd,hk,_,hm⟩:=n
 refine ⟨o,ho,λname=>?_⟩
 have e:=hm name
 unfold nsFind findBy at e
 rw [<- Array.find?_toList]at e
 unfold PySem.W.lookIn
 rw [hd]
 dsimp only
 split
 ·rename_i y q
  rw [q]at e
  exact congrArg some e
 ·rename_i q
  rw [q]at e
  have a:es.toList.any (·.refKey)=false:=by
   rw [List.any_eq_false]
   intro y hy
   obtain ⟨z,t,hkey⟩:=hk y (Array.mem_toList_iff.mp hy)
   simp [DictEntry.refKey,hkey]
  have a': ¬ es.toList.any (·.refKey)=true:=by rw [a];exact zp
  rw [yU a']
  exact congrArg some e
theorem ObjM.look {h:Heap} {x dx C:Addr} {mA:Str->Option Value} (I:ObjM h x dx C mA): ∃ od,PySem.W.InstAt h x (PySem.W.instObj C dx) C (some od)/\ ∀ name,PySem.W.lookIn name od=some (mA name):=
 let ⟨od,ho,hl⟩:=pN I.ns
 ⟨od,⟨I.obj,rfl,rfl,ho⟩,hl⟩
theorem RelO.some_of {v:V} {o:Option Value} (r:RelO (some v) o): ∃ u,o=some u/\RelV v u:=by
 cases o with
 | none=>exact (show False from r).elim
 | some u=>exact ⟨u,rfl,r⟩
section
variable {P:Program} {w:World} {H H':Hp} {h h':Heap} {a C dx:Addr} {fs fs':List (Str×V)}
theorem uB (hok:HOk P w H h) (e:H a=some (.ins C dx fs)): ∃ mA,ObjM h a dx C mA/\(∀ f,RelO (fs.lookup f) (mA f))/\PySem.Within mA (fs.map (·.1))/\fs.length<=1000/\H dx=some (.own a):=by
 obtain ⟨d,z,ne,ob,mA,n,r,q⟩:=(show ObjOk P w H h a (.ins C dx fs)from hok a _ e)
 exact ⟨mA,⟨ob,n,ne⟩,r,q,z,d⟩
end
structure Cls (K:W.Frag) (C:Addr):Prop where
 pg:PySem.W.plainGet K C Str.empty=true
 hd:PySem.W.hasDictIn K C=true
 po:PySem.W.plainOver K C=true
 sa:PySem.W.findIn K (.ref C) "__setattr__"=some (some (.builtin "object.__setattr__"))
theorem Cls.get {K:W.Frag} {C:Addr} (c:Cls K C) (f:Str):PySem.W.plainGet K C f=true:=c.pg
section
variable {X:Cx} {pins:List (Addr×Obj)} {U:St} {H:Hp} {s:Shared} {A:Around} {E:Value->Shared->Prop} {Q:Value->Shared->Prop} {c:Value} {b:Bool}
inductive gj (K:W.Frag) (H:Hp):V->Value->Prop where
 | non:gj K H .non (.type "NoneType")
 | bl (x:Bool):gj K H (.bl x) (.type "bool")
 | int (i:Int):gj K H (.int i) (.type "int")
 | str (x:Str):gj K H (.str x) (.type "str")
 | flt (x:UInt64):gj K H (.flt x) (.type "float")
 | lst {a:Addr} {xs:List V} (e:H a=some (.lst xs)):gj K H (.ref a) (.type "list")
 | frz {a:Addr} {o:Obj} {xs:List V} (e:H a=some (.frz o (.lst xs))):gj K H (.ref a) (.type "list")
 | tup {a:Addr} {xs:List V} (e:H a=some (.tup xs)):gj K H (.ref a) (.type "tuple")
 | dK {a:Addr} {kvs:List (Key×V)} (e:H a=some (.dK kvs)):gj K H (.ref a) (.type "dict")
 | dT {a:Addr} {kvs:List (List Key×V)} (e:H a=some (.dT kvs)):gj K H (.ref a) (.type "dict")
 | ins {a C dx:Addr} {fs:List (Str×V)} (e:H a=some (.ins C dx fs)) (cl:Cls K C) (ha:PySem.W.findIn K (.ref C) "__class__"=some (some (.builtin "object.__class__")))
   (hn:PySem.W.specialIn K (.builtin "object.__class__") "__get__"=some (some (.builtin "getset_descriptor.__get__"))) (htk:PySem.W.takesIn K (.builtin "object.__class__")=some true)
   (hm:PySem.W.mroIn K C (.type "object")=some true):gj K H (.ref a) (.ref C)
theorem pV {x:V} {u t:Value} (I:Inv X pins U H s) (rx:RelV x u) (ty:gj X.K H x t) (e:PySem.W.kitOne X.K t c=some b) (h: ∀ tk,Q (.bool b) {s with toks:=tk}):
  wpAny (model X.prog X.w) A (call (.builtin "isinstance") [u,c]) Q E s:=by
 cases ty with
 | non=>cases (show u=Value.none from rx);exact Ao PySem.W.kitx_none I.kIn True.intro e (λz=>nomatch z) h
 | bl y=>cases (show u=Value.bool y from rx);exact Ao PySem.W.kitx_bool I.kIn True.intro e (λz=>nomatch z) h
 | int i=>obtain ⟨t,q⟩:=(show ∃ t,u=Value.int i t from rx);cases q;exact Ao PySem.W.kitx_int I.kIn True.intro e (λz=>nomatch z) h
 | str y=>obtain ⟨t,q⟩:=(show ∃ t,u=Value.str y t from rx);cases q;exact Ao PySem.W.kitx_str I.kIn True.intro e (λz=>nomatch z) h
 | flt y=>obtain ⟨t,q⟩:=(show ∃ t,u=Value.float y t from rx);cases q;exact Ao PySem.W.kitx_float I.kIn True.intro e (λz=>nomatch z) h
 | @lst a xs ea=>
  cases (show u=Value.ref a from rx)
  obtain ⟨_,_,n,_,h1⟩:=(show ObjOk X.prog X.w H s.heap a (.lst xs)from I.hok a _ ea)
  exact Ao PySem.W.kitx_list I.kIn ⟨_,h1,rfl⟩ e (λz=>nomatch z) h
 | @frz a ob xs ea=>
  cases (show u=Value.ref a from rx)
  obtain ⟨_,_,_,n,_,h1⟩:=(show ObjOk X.prog X.w H s.heap a (.frz ob (.lst xs))from I.hok a _ ea)
  exact Ao PySem.W.kitx_list I.kIn ⟨_,h1,rfl⟩ e (λz=>nomatch z) h
 | @tup a xs ea=>
  cases (show u=Value.ref a from rx)
  obtain ⟨_,_,_,p⟩:=(show ObjOk X.prog X.w H s.heap a (.tup xs)from I.hok a _ ea)
  obtain ⟨o,h1,h2,_⟩:=p
  exact Ao PySem.W.kitx_tuple I.kIn ⟨o,h1,h2⟩ e (λz=>nomatch z) h
 | @dK a kvs ea=>
  cases (show u=Value.ref a from rx)
  obtain ⟨_,_,vs,_,p⟩:=(show ObjOk X.prog X.w H s.heap a (.dK kvs)from I.hok a _ ea)
  obtain ⟨o,es,ep,h1,h2,_⟩:=p
  exact Ao PySem.W.kitx_dict I.kIn ⟨o,h1,h2.1⟩ e (λz=>nomatch z) h
 | @dT a kvs ea=>
  cases (show u=Value.ref a from rx)
  obtain ⟨_,_,xs,_,o,es,ep,h1,h2,_⟩:=(show ObjOk X.prog X.w H s.heap a (.dT kvs)from I.hok a _ ea)
  exact Ao PySem.W.kitx_dict I.kIn ⟨o,h1,h2.1⟩ e (λz=>nomatch z) h
 | @ins a C dx fs ea cl ha hn htk hm=>
  cases (show u=Value.ref a from rx)
  obtain ⟨mA,O,_⟩:=uB I.hok ea
  obtain ⟨od,J,_⟩:=O.look
  exact Ao (PySem.W.kitx_own (cl.get _) cl.hd ha hn htk hm) I.kIn J e (λz=>nomatch z) h
end
structure Room (k:Nat) (A:Around):Prop where
 hd:A.handled=none
 dp:A.depth+3*k+5<recursionLimit
 un:A.units+16*k+200<cLine
 gd:A.guards=some []
theorem Room.mono {j k:Nat} {A:Around} (r:Room k A) (h:j<=k):Room j A:=⟨r.hd,by have:=r.dp;lia,by have:=r.un;lia,r.gd⟩
theorem Room.deeper {k:Nat} {A:Around} (r:Room (k+1) A) (env:Env):Room k (A.deeper env):=
 ⟨r.hd,by have:=r.dp;show A.depth+1+3*k+5<_;lia,by have:=r.un;show A.units+3+16*k+200<_;lia,r.gd⟩
theorem Room.in1 {k:Nat} {A:Around} (r:Room (k+1) A):Room k A.in1:=
 ⟨r.hd,by have:=r.dp;show A.depth+3*k+5<_;lia,by have:=r.un;show A.units+1+16*k+200<_;lia,r.gd⟩
theorem Room.depth {k:Nat} {A:Around} (r:Room k A):A.depth<recursionLimit:=by have:=r.dp;lia
theorem Room.units {k:Nat} {A:Around} (r:Room k A):A.units+64<cLine:=by have:=r.un;lia
theorem Room.units0 {k:Nat} {A:Around} (r:Room k A):A.units<cLine:=by have:=r.un;lia
def ym:TA:=λ_ H Q=>Q [] H
def u7 (ta:TE) (tr:TA):TA:=λU H Q=>ta U H λx H1=>tr U H1 λxs H2=>Q (x::xs) H2
section
variable {X:Cx} {e:Expr} {es:List Expr} {te:TE} {t:TA} {pos:Pos}
theorem ae:PA X [] ym:=λ_ _ _ _ H Q I h=>AN ⟨[],H,I,.nil,h⟩
theorem aa (ha:PE X e te) (hr:PA X es t) (hs:starEach (e::es) X.env=(false,eval e X.env)::starEach es X.env:=by rfl):PA X (e::es) (u7 te t):=by
 intro pos pins s U H Q I h
 rw [hs]
 show wpAny _ _ (spliced ((false,eval e X.env)::backTo pos (starEach es X.env))) _ _ s
 refine Av (thn (ha pins s U H _ I h) λu s1 ⟨x,H1,I1,r1,q1⟩=>?_)
 exact thn (hr pos pins s1 U H1 _ I1 q1) λus s2 ⟨xs,H2,I2,r2,q2⟩=>⟨x::xs,H2,I2,.cons r1 r2,q2⟩
def yg (t:TA):TE:=λU H Q=>t U H λxs H1=>xs.length<=sizeLine/\ ∀ p,H1 p=none->Q (.ref p) (upd H1 p (.tup xs))
def w8 (t:TA):TE:=λU H Q=>t U H λxs H1=>xs.length<=sizeLine/\ ∀ p,H1 p=none->Q (.ref p) (upd H1 p (.lst xs))
theorem aN {x1} (h:PA X es t):PE X (.Tuple es x1 pos) (yg t):=by
 intro pins s U H Q I hq
 refine wpAny_Tuple_spliced (thn (h pos pins s U H _ I hq) λus s1 ⟨xs,H1,I1,r,z,q⟩=>⟨by rw [<- r.length];exact z,?_⟩)
 have hf:H1 s1.heap.objs.size=none:=I1.hok.fresh (yV _)
 refine ⟨.ref s1.heap.objs.size,upd H1 s1.heap.objs.size (.tup xs),I1.laid (t':=s1.toks) (λb u e=>yQ _ e) (yV _) ?_,rfl,q _ hf⟩
 exact ⟨z,us,r,⟨_,y6 _ rfl,rfl,_,rfl⟩⟩
theorem aX (h:PA X es t):PE X (.List es pos) (w8 t):=by
 intro pins s U H Q I hq
 refine wpAny_List_spliced (thn (h pos pins s U H _ I hq) λus s1 ⟨xs,H1,I1,r,z,q⟩=>⟨by rw [<- r.length];exact z,?_⟩)
 have hf:H1 s1.heap.objs.size=none:=I1.hok.fresh (yV _)
 refine ⟨.ref s1.heap.objs.size,upd H1 s1.heap.objs.size (.lst xs),I1.laid (t':=s1.toks) (λb u e=>yQ _ e) (yV _) ?_,rfl,q _ hf⟩
 exact ⟨z,us,0,r,y6 _ rfl⟩
end
abbrev Sp:=List V->Hp->VK->XK->Prop
abbrev CXT:=List Env->Hp->Shared->XK->Value->Shared->Prop
structure tG (P:Program) (w:World) (K:W.Frag) (mg:Str->Option Value) (base:Heap) (A:Around) (outer:List Env) (s:Shared) (H:Hp):Prop where
 frames:A.frames=some outer
 mod:Mod K mg base
 bs: ∀ b o,base.get? b=some o->s.heap.get? b=some o/\H b=none
 bsz:base.objs.size<=s.heap.objs.size
 funs:s.heap.FunFrames base outer
 frf: ∀ b∈frs outer,H b=none
 hok:HOk P w H s.heap
 bare:AllBare s.gens
inductive CE (outer:List Env) (P:Program) (w:World) (H:Hp) (s:Shared) (Q:VK) (u:Value) (s':Shared):Prop
 | mk: ∀ v H',(s'.os=s.os)->(AllBare s'.gens)->(Un (frs outer) [] H H' s.heap s'.heap)->(HOk P w H' s'.heap)->(RelV v u)->(Q v H')->CE outer P w H s Q u s'
def CR (CX:CXT) (outer:List Env) (P:Program) (w:World) (H:Hp) (s:Shared) (Q:VK) (E:XK) (r:Result) (s':Shared):Prop:=
 match r with
 | .ok (.ret u)=>CE outer P w H s Q u s'
 | .ok _=>False
 | .error e=>CX outer H s E e s'
structure FnOk (P:Program) (w:World) (K:W.Frag) (mg:Str->Option Value) (base:Heap) (CX:CXT) (k:Nat) (f:Addr) (fd:FuncData) (ps:List Str) (sp:Sp):Prop where
 len: ∀ vs H Q E,sp vs H Q E->vs.length=ps.length
 run: ∀ (A:Around) (outer:List Env) (s:Shared) (H:Hp) (args:Args) (us:List Value) (vs:List V) (Q:VK) (E:XK),Room k A->tG P w K mg base A outer s H->BindsTo s fd args (ps.zip us)->Vals vs us->sp vs H Q E->
  codeAny (model P w) A (.call (.ref f) args) (CR CX outer P w H s Q E) s
section
variable {X:Cx} {pins:List (Addr×Obj)} {U:St} {H:Hp} {s s':Shared}
theorem Inv.env0 (I:Inv X pins U H s):tG X.prog X.w X.K X.mg X.base X.A X.stack s H:=
 ⟨I.ok.frames,I.ok.mod,I.bs,zc I.ok.bsz I.sz,I.stack,I.stkFree,I.hok,I.bare⟩
theorem Inv.after {Q:VK} {u:Value} (I:Inv X pins U H s) (h:CE X.stack X.prog X.w H s Q u s'):EP X pins U Q u s':=by
 obtain ⟨v,H',os,bare,un,hok,r,q⟩:=h
 obtain ⟨hh,g,d,t,os'⟩:=s'
 obtain rfl:os'=s.os:=os
 exact ⟨v,H',I.call (h':=hh) (g':=g) (d':=d) (t':=t) (ch:=[]) un hok bare (λb z=>absurd z (by simp)),r,q⟩
end
def qF (sp:Sp) (dvs:List V) (E:XK) (t:TA):TE:=λU H Q=>t U H λvs H1=>sp (vs++dvs) H1 Q E
def Binds (K:W.Frag) (fd:FuncData) (ps:List Str) (ds:List Value):Prop:=
 ∀ (s:Shared) (us:List Value),K.In s.heap->(us++ds).length=ps.length->BindsTo s fd ⟨us,[]⟩ (ps.zip (us++ds))
theorem Binds.all {K:W.Frag} {fd:FuncData} {ps:List Str} (h: ∀ us:List Value,us.length=ps.length->bindArgs fd ⟨us,[]⟩=pure (ps.zip us)):Binds K fd ps []:=λs us _ hl=>by
 rw [zy]at hl ⊢
 exact .of_eq (h us hl)
def iY (CX:CXT) (X:Cx) (E:XK):Prop:= ∀ (pins:List (Addr×Obj)) (U:St) (H:Hp) (s:Shared) (e:Value) (s':Shared),Inv X pins U H s->CX X.stack H s E e s'->X.xe e s'
structure Cl (P:Program) (w:World) (K:W.Frag) (mg:Str->Option Value) (base:Heap) (CX:CXT) (k:Nat) (f:Addr) (fd:FuncData) (ps:List Str) (sp:Sp) (x:Str):Prop where
 F:FnOk P w K mg base CX k f fd ps sp
 b:Binds K fd ps []
 c:W.keepIn K (.ref f)=true
 m:mg x=some (.ref f)
section
variable {X:Cx} {CX:CXT} {k:Nat} {f C:Addr} {fd:FuncData} {ps:List Str} {sp:Sp} {dvs:List V} {ds:List Value} {E:XK} {x m:Str} {p pos apos:Pos} {e o:Expr} {es:List Expr} {ta:TE} {t:TA}
theorem vU {pins:List (Addr×Obj)} {U:St} {H:Hp} {s:Shared} {Q:VK} {us:List Value} {vs:List V} (F:FnOk X.prog X.w X.K X.mg X.base CX k f fd ps sp) (hr:Room k X.A) (hb:Binds X.K fd ps ds) (hd:Vals dvs ds) (hx:iY CX X E)
  (I:Inv X pins U H s) (r:Vals vs us) (h:sp (vs++dvs) H Q E):wpAny (model X.prog X.w) X.A (call (.ref f) us) (EP X pins U Q) X.xe s:=by
 have r2:Vals (vs++dvs) (us++ds):=r.append hd
 have hl:(us++ds).length=ps.length:=by rw [<- r2.length];exact F.len _ _ _ _ h
 refine Bt (C4 (F.run X.A X.stack s H ⟨us,[]⟩ (us++ds) (vs++dvs) Q E hr I.env0 (hb s us I.kIn hl) r2 h) λr s' hq=>?_)
 cases r with
 | error e=>exact hx pins U H s e s' I hq
 | ok fl=>
  cases fl with
  | ret u=>exact I.after hq
  | next=>exact False.elim hq
  | brk=>exact False.elim hq
  | cont=>exact False.elim hq
theorem j9 (F:FnOk X.prog X.w X.K X.mg X.base CX k f fd ps sp) (hr:Room k X.A) (hg:Gl X x) (hm:X.mg x=some (.ref f)) (hk:PySem.W.keepIn X.K (.ref f)=true) (hb:Binds X.K fd ps ds) (hd:Vals dvs ds) (hx:iY CX X E)
  (ha:PA X (e::es) t) (hdb:(x==("__debug__":Str))=false:=by decide) (he:starEach (e::es) X.env=(false,eval e X.env)::starEach es X.env:=by rfl) (hpl:(backTo pos (starEach es X.env)).any (·.1)=false:=by rfl):
  PE X (.Call (.Name x p) (e::es) [] pos) (qF sp dvs E t):=by
 intro pins s U H Q I h
 refine AX (fY I hg hm ?_ hdb)
 refine PySem.W.callWith_K (h₀:=X.base) I.ok.mod.kin hk (thn (ha pos pins s U H _ I h) λus s1 ⟨vs,H1,I1,r,q⟩=>⟨I1.kIn,?_⟩) he hpl
 exact vU F hr hb hd hx I1 r q
end
structure aI (N P:List Str) (sc:Scope):Prop where
 kind:sc.kind=.function
 co:sc.isCoroutine=false
 gen:sc.isGenerator=false
 nd:N.Nodup
 pre:N.take P.length=P
 par: ∀ x∈P,sc.names.lookup x=some .local\/sc.names.lookup x=some .cell
 nofree: ∀ y∈sc.names,y.2≠ .free
theorem fsc {N P:List Str} {sc:Scope} (kind_:sc.kind=.function:=by rfl) (co_:sc.isCoroutine=false:=by rfl) (gen_:sc.isGenerator=false:=by rfl) (nd_:N.Nodup:=by decide +kernel) (pre_:N.take P.length=P:=by rfl) (par_: ∀ x∈P,sc.names.lookup x=some .local\/sc.names.lookup x=some .cell:=by decide +kernel) (nofree_: ∀ y∈sc.names,y.2≠ .free:=by decide +kernel):aI N P sc:=⟨kind_,co_,gen_,nd_,pre_,par_,nofree_⟩
theorem jI {kindOf:Str->Option NameKind} {x:Str}: ∀ {binds:List (Str×Value)} {m:Str->Option Value},(∀ v,(x,v)∉binds)->bindL kindOf binds m x=m x
 | [],_,_=>rfl
 | (n,v)::r,m,h=>by
  unfold bindL
  rw [jI λw hw=>h w (yY _ hw)]
  split
  ·have:x≠n:=by rintro rfl;exact h v yT
   simp [this]
  ·rfl
theorem jK {kindOf:Str->Option NameKind} {x:Str}: ∀ {binds:List (Str×Value)} {m:Str->Option Value},(∀ v,(x,v)∉binds)->bindC kindOf binds m x=m x
 | [],_,_=>rfl
 | (n,v)::r,m,h=>by
  unfold bindC
  rw [jK λw hw=>h w (yY _ hw)]
  split
  ·rfl
  ·have:x≠n:=by rintro rfl;exact h v yT
   simp [this]
theorem jJ {kindOf:Str->Option NameKind} {x:Str} {v:Value}: ∀ {P:List Str} {vs:List Value} {i:Nat} {m:Str->Option Value},P.Nodup->P[i]? =some x->vs[i]? =some v->kindOf x=some .local->
  bindL kindOf (P.zip vs) m x=some v
 | [],_,_,_,_,h,_,_=>by simp at h
 | _::_,[],_,_,_,_,h,_=>by simp at h
 | p::P,w::vs,0,m,nd,h1,h2,hk=>by
  simp at h1 h2;subst h1;subst h2
  show bindL kindOf ((p,w)::P.zip vs) m p=_
  unfold bindL
  rw [jI λv hv=>(Ad.mp nd).1 (Ch hv).1,yW hk]
  simp
 | p::P,w::vs,i+1,m,nd,h1,h2,hk=>by
  show bindL kindOf ((p,w)::P.zip vs) m x=_
  unfold bindL
  exact jJ (i:=i) (Ad.mp nd).2 (by simpa using h1) (by simpa using h2) hk
theorem jL {kindOf:Str->Option NameKind} {x:Str} {v:Value}: ∀ {P:List Str} {vs:List Value} {i:Nat} {m:Str->Option Value},P.Nodup->P[i]? =some x->vs[i]? =some v->kindOf x≠some .local->
  bindC kindOf (P.zip vs) m x=some v
 | [],_,_,_,_,h,_,_=>by simp at h
 | _::_,[],_,_,_,_,h,_=>by simp at h
 | p::P,w::vs,0,m,nd,h1,h2,hk=>by
  simp at h1 h2;subst h1;subst h2
  show bindC kindOf ((p,w)::P.zip vs) m p=_
  unfold bindC
  rw [jK λv hv=>(Ad.mp nd).1 (Ch hv).1,yU hk]
  simp
 | p::P,w::vs,i+1,m,nd,h1,h2,hk=>by
  show bindC kindOf ((p,w)::P.zip vs) m x=_
  unfold bindC
  exact jL (i:=i) (Ad.mp nd).2 (by simpa using h1) (by simpa using h2) hk
noncomputable def start (N:List Str) (vs:List V):St:=vs.map some++List.replicate (N.length-vs.length) none
noncomputable def dq (CX:CXT) (P:Program) (w:World) (K:W.Frag) (mg:Str->Option Value) (base:Heap) (N:List Str) (qual:Str) (scope:Scope) (f:Addr) (cd:Value) (A:Around) (outer:List Env) (s:Shared) (H:Hp) (E:XK):Cx where
 prog:=P
 w:=w
 K:=K
 mg:=mg
 base:=base
 A:=A.deeper (envOfC qual scope s.heap.objs.size f cd)
 N:=N
 s₀:=s
 H₀:=H
 env:=envOfC qual scope s.heap.objs.size f cd
 outer:=outer
 stack:=envOfC qual scope s.heap.objs.size f cd::outer
 ex:=[]
 calm:=true
 fn:=λ_=>true
 pn:=[]
 xe:=λe s'=>wpAny (model P w) (A.deeper (envOfC qual scope s.heap.objs.size f cd)) (leaving (envOfC qual scope s.heap.objs.size f cd) e) (λ_ s''=>CX outer H s E e s'') (λe' s''=>CX outer H s E e' s'') s'
theorem lU {sc:Scope} {n:Nat} {x:Str} (h:sc.names.lookup x=some .cell): ∃ c,(cellsFrom n sc.names []).lookup x=some c:=by
 have q:=PySem.W.cellsFrom_some sc.names n [] (.inl h)
 exact Option.isSome_iff_exists.mp q
theorem pW {CX:CXT} {P:Program} {w:World} {K:W.Frag} {mg:Str->Option Value} {base:Heap} {N ps:List Str} {qual:Str} {scope:Scope} {f:Addr} {cd:Value} {A:Around} {outer:List Env} {s s1:Shared} {H:Hp} {E:XK} {us:List Value} {vs:List V}
  (S:aI N ps scope) (hd:A.handled=none) (e0:tG P w K mg base A outer s H) (hl:vs.length=ps.length) (r:Vals vs us)
  (x:InCallC s s.heap.objs.size (bindL (envOfC qual scope s.heap.objs.size f cd).kindOf (ps.zip us) λ_=>none) (cellsFrom (s.heap.objs.size+1) scope.names []) (bindC (envOfC qual scope s.heap.objs.size f cd).kindOf (ps.zip us) λ_=>none) s1):
  Inv (dq CX P w K mg base N qual scope f cd A outer s H E) [] (start N vs) H s1:=by
 have hpl:ps.length<=N.length:=by have:=congrArg List.length S.pre;rw [zB]at this;lia
 obtain ⟨h1,tk,rfl,hk⟩:=x.done
 have noA: ∀ b:Addr,b∉(dq CX P w K mg base N qual scope f cd A outer s H E).ex:=λb z=>absurd (show b∈([]:List Addr)from z) (by simp)
 refine ⟨⟨e0.mod,S.kind,rfl,rfl,yV _,λy z c h1 h2=>?_,λy hy=>?_,λy c _ h=>?_,λ_=>hd,Around.frames_deeper e0.frames,.inr ⟨rfl,rfl⟩,λb z=>absurd z (noA b),e0.bs,e0.bsz,λb _ _=>noA b,λb z=>absurd z (noA b),e0.funs,e0.frf⟩,
  rfl,e0.bare,Un.kept hk,⟨_,x.toInCall.ns,λi y v h1 h2 h3=>?_⟩,λy c h=>⟨_,x.cell y c h⟩,e0.hok.fresh (yV _),λy c h=>?_,λp hp=>absurd (show p∈([]:List (Addr×Obj))from hp) (by simp),e0.hok.kept hk,?_⟩
 ·exact name_of_addr x.apart (BA h1) (BA h2)
 ·have hy:scope.names.lookup y=some .cell\/scope.names.lookup y=some .free:=hy
  rcases hy with hy | hy
  ·exact lU hy
  ·exact absurd rfl (S.nofree _ (BA hy))
 ·exact zR (x.above y c (BA h))
 ·have hi:i<vs.length:=by
   unfold start at h2
   by_cases hi:i<vs.length
   ·exact hi
   ·rw [Aa (by simpa using hi)]at h2
    rw [List.getElem?_replicate]at h2
    split at h2 <;> cases h2
  have ha:vs[i]? =some v:=by
   unfold start at h2
   rw [Al (by simpa using hi),zo]at h2
   cases e:vs[i]? with
   | none=>rw [e]at h2;cases h2
   | some a=>rw [e]at h2;cases h2;rfl
  obtain ⟨u,hu,rv⟩:=r.get ha
  have hp:ps[i]? =some y:=by
   rw [<- S.pre,List.getElem?_take_of_lt (by lia)];exact h1
  have ndP:ps.Nodup:=by rw [<- S.pre];exact S.nd.sublist (AO _ _)
  refine ⟨u,rv,?_⟩
  rcases S.par y (y3 hp)with k | k
  ·exact .inl ⟨k,jJ ndP hp hu k⟩
  ·obtain ⟨c,e⟩:=lU (n:=s.heap.objs.size+1) k
   refine .inr ⟨.inl k,c,e,?_⟩
   have q:=x.cell y c e
   rw [jL ndP hp hu (by show scope.names.lookup y≠_;rw [k];decide)]at q
   exact q
 ·exact e0.hok.fresh (zR (x.above y c (BA h)))
 ·unfold start
  show _=N.length
  rw [yZ,yP,List.length_replicate]
  lia
theorem sE {CX:CXT} {P:Program} {w:World} {K:W.Frag} {mg:Str->Option Value} {base:Heap} {k:Nat} {f:Addr} {name qual:Str} {params:Arguments} {body:List Stmt} {scope:Scope} {dV kV doc pm cdv ct oc:Value} {an od:Option Addr}
  {osl:Array (Option Value)} {N ps:List Str} {sp:Sp} (lk:K.lookup f=some ⟨oc,od,.func (PySem.W.fnOf name qual params body scope dV kV doc pm an cdv ct),osl⟩) (hcd:PySem.W.codeIn K cdv qual=true) (S:aI N ps scope)
  (len: ∀ vs H Q E,sp vs H Q E->vs.length=ps.length)
  (hbody: ∀ (A:Around) (outer:List Env) (s:Shared) (H:Hp) (vs:List V) (Q:VK) (E:XK),Room k (A.deeper (envOfC qual scope s.heap.objs.size f cdv))->sp vs H Q E->
   ∃ t,PSs (dq CX P w K mg base N qual scope f cdv A outer s H E) body t/\t {nx:=λ_ H'=>Q .non H',rt:=Q} (start N vs) H):
  FnOk P w K mg base CX (k+1) f (PySem.W.fnOf name qual params body scope dV kV doc pm an cdv ct) ps sp:=by
 refine ⟨len,λA outer s H args us vs Q E hr e0 hb r hsp=>?_⟩
 have hl:=len _ _ _ _ hsp
 have KX:K.In s.heap:=e0.mod.kin.keeps λb o e=>(e0.bs b o e).1
 have lim:s.heap.NoLimit:=e0.mod.nolimit.keeps λb o e=>(e0.bs b o e).1
 have hkind: ∀ y∈ps.zip us,scope.names.lookup y.1=some .local\/(scope.names.lookup y.1=some .cell/\((cellsFrom (s.heap.objs.size+1) scope.names []).lookup y.1).isSome=true):=λ⟨n,v⟩ hy=>by
  rcases S.par n (Ch hy).1 with q | q
  ·exact .inl q
  ·exact .inr ⟨q,PySem.W.cellsFrom_some _ _ _ (.inl q)⟩
 refine codeAny_call_function hr.depth (KX _ _ lk) rfl S.co S.gen rfl (PySem.W.codeRec_of KX hcd) (hb _ _ _ _ ?_)
 refine wpAny_newFunctionEnv_cells S.kind hkind λenv he s1 x=>?_
 subst he
 refine ⟨lim.keeps x.toInCall.keep,codeAny_func ?_⟩
 obtain ⟨t,ht,hq⟩:=hbody A outer s H vs Q E (hr.deeper _) hsp
 have I:Inv (dq CX P w K mg base N qual scope f cdv A outer s H E) [] (start N vs) H s1:=pW S hr.hd e0 hl r x
 refine Ac (ht [] s1 (start N vs) H _ I hq) (λfl s' hs=>?_) λe s' hs=>hs
 have fin: ∀ {U':St} {H':Hp} {v:V} {u:Value},Inv (dq CX P w K mg base N qual scope f cdv A outer s H E) [] U' H' s'->RelV v u->Q v H'->CE outer P w H s Q u s':=
  λ{U' H' v u} J rv q=>⟨v,H',J.os,J.bare,J.base,J.hok,rv,q⟩
 cases fl with
 | ret u=>
  obtain ⟨v,U',H',J,rv,q⟩:=hs
  exact fin J rv q
 | next=>
  obtain ⟨U',H',J,q⟩:=hs
  exact fin (v:=V.non) (u:=Value.none) J rfl q
 | brk=>
  obtain ⟨_,_,_,q⟩:=hs
  exact False.elim q
 | cont=>
  obtain ⟨_,_,_,q⟩:=hs
  exact False.elim q
section
variable {X:Cx} {x:Str} {p pos:Pos} {e:Expr} {es:List Expr} {t:TA} {id T:String} {r:List V->Hp->VK->Prop}
def tCB (r:List V->Hp->VK->Prop) (t:TA):TE:=λU H Q=>t U H λvs H1=>r vs H1 Q
theorem ax (hc:cG X (.builtin id) r) (hg:Gl X x) (hm:X.mg x=none) (hv:bootBuiltins x=some (.builtin id)) (ha:PA X (e::es) t) (hn:x≠"__name__":=by decide) (hdb:(x==("__debug__":Str))=false:=by decide)
  (he:starEach (e::es) X.env=(false,eval e X.env)::starEach es X.env:=by rfl) (hpl:(backTo pos (starEach es X.env)).any (·.1)=false:=by rfl):PE X (.Call (.Name x p) (e::es) [] pos) (tCB r t):=by
 intro pins s U H Q I h
 refine AX (cV I hg hm hv ?_ hn hdb)
 exact CP (thn (ha pos pins s U H _ I h) λus s1 ⟨vs,H1,I1,r1,q1⟩=>hc pins s1 U H1 vs us Q I1 r1 q1) he hpl
theorem bd (hc:cG X (.type T) r) (hg:Gl X x) (hm:X.mg x=none) (hv:bootBuiltins x=some (.type T)) (ha:PA X (e::es) t) (hn:x≠"__name__":=by decide) (hdb:(x==("__debug__":Str))=false:=by decide)
  (he:starEach (e::es) X.env=(false,eval e X.env)::starEach es X.env:=by rfl) (hpl:(backTo pos (starEach es X.env)).any (·.1)=false:=by rfl):PE X (.Call (.Name x p) (e::es) [] pos) (tCB r t):=by
 intro pins s U H Q I h
 refine AX (cV I hg hm hv ?_ hn hdb)
 exact Ai (thn (ha pos pins s U H _ I h) λus s1 ⟨vs,H1,I1,r1,q1⟩=>hc pins s1 U H1 vs us Q I1 r1 q1) he hpl
end
end L2
namespace HT
open PySem PyProof.Rows
section
variable {prog:Program} {w:World} {A:Around} {E:Value->Shared->Prop} {s:Shared}
theorem cat_tup {t b:Addr} {vs ws:List Value} {Q:Value->Shared->Prop} (ht:IsTup s.heap t vs.toArray) (hb:IsTup s.heap b ws.toArray) (hv:vs≠[])
  (h1:ws=[]->Q (.ref t) s) (h2:ws≠[]->Q (.ref s.heap.objs.size) {s with heap:=s.heap.push {cls:=.type "tuple",data:=.seq (vs++ws).toArray}})
  (hsz:vs.length+ws.length<=sizeLine):wpAny (model prog w) A (binaryOp .Add (.ref t) (.ref b)) Q E s:=by
 obtain ⟨⟨cls,dd,data,sl⟩,ho,hc,n,hd⟩:=id ht
 obtain ⟨⟨cls2,dd2,data2,sl2⟩,ho2,hc2,n2,hd2⟩:=id hb
 simp only at hc hd hc2 hd2
 subst hc hd hc2 hd2
 have e:vs.toArray++ws.toArray=(vs++ws).toArray:=by simp
 by_cases hw:ws=[]
 ·exact concat_meets ⟨_,ho,rfl⟩ ⟨_,ho2,rfl⟩ Dt seq_tuple_add Cy Co (Ce _ _)
   (tuple_addW1 t b vs.toArray ws.toArray n n2 dd dd2 sl sl2 (by simpa using hv) (by simp [hw])) ⟨ho,ho2,h1 hw⟩
 ·refine concat_meets ⟨_,ho,rfl⟩ ⟨_,ho2,rfl⟩ Dt seq_tuple_add Cy Co (Ce _ _)
   (tuple_addW2 t b vs.toArray ws.toArray n n2 dd dd2 sl sl2 (by simpa using hv) (by simpa using hw) (by rw [y1,y1];exact hsz)) ⟨ho,ho2,?_⟩
  rw [e]
  exact h2 hw
noncomputable def sIx (n d:Nat):Option Int->Nat
 | none=>d
 | some v=>if v<0 then (v+ (n:Int)).toNat else min v.toNat n
theorem sIx_none (n d:Nat):sIx n d none=d:=rfl
theorem sIx_nat (n d k:Nat):sIx n d (some (k:Int))=min k n:=by
 show (if (k:Int) <0 then ((k:Int) + (n:Int)).toNat else min (k:Int).toNat n)=min k n
 rw [yU (by lia),Bq]
theorem vT (n d:Nat) (hd:d<=n) (o:Option Int):sIx n d o<=n:=by
 cases o with
 | none=>exact hd
 | some v=>
  show (if v<0 then (v+ (n:Int)).toNat else min v.toNat n)<=n
  by_cases hv:v<0
  ·rw [yW hv];lia
  ·rw [yU hv];exact Nat.min_le_right _ _
theorem oI (v:Int) (n d:Nat):(if v<0 then max (v+ (n:Int)) 0 else min v (n:Int))=((sIx n d (some v):Nat):Int):=by
 show (if v<0 then max (v+ (n:Int)) 0 else min v (n:Int))=(((if v<0 then (v+ (n:Int)).toNat else min v.toNat n):Nat):Int)
 by_cases hv:v<0
 ·simp only [yW hv];lia
 ·simp only [yU hv];lia
theorem nC (lo hi:Option Int) (n:Nat):Builtin.Slice.sliceAdjust lo hi 1 (n:Int)=(((sIx n 0 lo:Nat):Int),((sIx n n hi:Nat):Int)):=by
 have h1: ¬ ((1:Int) <0):=by lia
 unfold Builtin.Slice.sliceAdjust
 simp only [h1,zX]
 refine C7 ?_ ?_
 ·cases lo with
  | none=>rfl
  | some v=>exact oI v n 0
 ·cases hi with
  | none=>rfl
  | some v=>exact oI v n n
theorem mD (i j:Nat):Builtin.Slice.slicePlaces (i:Int) (j:Int) 1=j-i:=by
 unfold Builtin.Slice.slicePlaces
 have h1:(1:Int) >0:=by lia
 simp only [h1,AM,Int.ediv_one]
 split <;> lia
theorem iq {v:Value} {o:Option Int} {Q:Option Int->Shared->Prop} (p:IsPart v o) (h:Q o s):wpAny (model prog w) A (Builtin.Slice.slicePartIndex v) Q E s:=by
 cases p with
 | none=>exact slicePart_none h
 | int i t=>exact slicePart_int h
theorem dh {sl:Addr} {vl vu:Value} {lo hi:Option Int} {n:Nat} {Q:Int×Int×Nat->Shared->Prop} (hs:s.heap.IsSliceOf sl vl vu .none) (pl:IsPart vl lo) (pu:IsPart vu hi)
  (h:Q (((sIx n 0 lo:Nat):Int),1,sIx n n hi-sIx n 0 lo) s):wpAny (model prog w) A (Builtin.Slice.sliceApplied (.ref sl) (pure (n:Int))) Q E s:=by
 obtain ⟨os,hos,hcs,hds⟩:=id hs
 unfold Builtin.Slice.sliceApplied Builtin.Slice.sliceFields
 refine yO (yO (AC hos hds (x:=vl) rfl (yO (AC hos hds (x:=vu) rfl (yO (AC hos hds (x:=.none) rfl (yR ?_)))))))
 refine yO (slicePart_none ?_)
 show wpAny _ _ (if ((1:Int)==0)=true then _ else _) _ _ s
 rw [yU (by decide)]
 refine yO (iq pl (yO (iq pu (yO (yR ?_)))))
 show wpAny _ _ (match Builtin.Slice.sliceAdjust lo hi 1 (n:Int)with | (lo,hi)=>pure (lo,(1:Int),Builtin.Slice.slicePlaces lo hi 1)) _ _ s
 rw [nC lo hi n]
 show wpAny _ _ (pure (((sIx n 0 lo:Nat):Int),(1:Int),Builtin.Slice.slicePlaces ((sIx n 0 lo:Nat):Int) ((sIx n n hi:Nat):Int) 1)) _ _ s
 rw [mD]
 exact yR h
theorem q9 (xs:Array Value) (i k:Nat):((List.range k).filterMap λ(m:Nat)=>xs[((i:Int) + (m:Int) *1).toNat]?).toArray=((xs.toList.drop i).take k).toArray:=by
 have e:(λ(m:Nat)=>xs[((i:Int) + (m:Int) *1).toNat]?)=λm=>xs[i+m]? :=by
  funext m
  have:((i:Int) + (m:Int) *1).toNat=i+m:=by lia
  rw [this]
 rw [e]
 have:=pick_run xs i k
 rw [Da]at this
 have e2:((λx=>xs[x]?)∘λx=>i+x)=λm=>xs[i+m]? :=rfl
 rw [e2]at this
 rw [this]
theorem getItem_tuple_cut {t sl:Addr} {items:Array Value} {vl vu:Value} {lo hi:Option Int} {Q:Value->Shared->Prop} (ht:IsTup s.heap t items) (hs:s.heap.IsSliceOf sl vl vu .none) (pl:IsPart vl lo) (pu:IsPart vu hi)
  (hw: ¬ (sIx items.size 0 lo=0/\sIx items.size items.size hi=items.size))
  (h:Q (.ref s.heap.objs.size) {s with heap:=s.heap.push {cls:=.type "tuple",data:=.seq ((items.toList.drop (sIx items.size 0 lo)).take (sIx items.size items.size hi-sIx items.size 0 lo)).toArray}})
  (hsz:items.size<=sizeLine):wpAny (model prog w) A (getItem (.ref t) (.ref sl)) Q E s:=by
 have htake:sizeOk (.seq ((items.toList.drop (sIx items.size 0 lo)).take (sIx items.size items.size hi-sIx items.size 0 lo)).toArray):=by
  show ((items.toList.drop (sIx items.size 0 lo)).take (sIx items.size items.size hi-sIx items.size 0 lo)).toArray.size<=sizeLine
  rw [y1,zB,Ay,zV]
  lia
 have hj:sIx items.size items.size hi<=items.size:=vT _ _ (yV _) hi
 obtain ⟨os,hos,hcs,hds⟩:=id hs
 have hTs:s.TypeIs (.ref sl) "slice":=⟨os,hos,hcs⟩
 unfold getItem
 try with_reducible refine zP ?_
 first | refine yO (yR ?_) | skip
 refine yO (wpAny_sequenceKey ht.typeIs (by decide) ?_)
 refine yO (zY (name:=Str.ofString "__getitem__") ht.typeIs AV
  (Ap AV ht.typeIs entry_tuple_getitem ?_ (args_tuple_getitem _ _)))
 show wpAny _ _ (Builtin.Tuple.tupleItemsOf (.ref t) >>= _) _ _ s
 refine yO (tupleItemsOf_ ht ?_)
 refine yO (BX hTs ?_)
 rw [yW (by decide)]
 refine yO (dh hs pl pu ?_)
 have hno: ¬ ((((sIx items.size 0 lo:Nat):Int)==0&&(1:Int)==1&&(sIx items.size items.size hi-sIx items.size 0 lo)==items.size)=true):=by
  intro q
  rw [zM,zM]at q
  have q1:((sIx items.size 0 lo:Nat):Int)=0:=eq_of_beq q.1.1
  have q2:sIx items.size items.size hi-sIx items.size 0 lo=items.size:=eq_of_beq q.2
  exact hw ⟨by lia,by lia⟩
 show wpAny _ _ (if (((sIx items.size 0 lo:Nat):Int)==0&&(1:Int)==1&&(sIx items.size items.size hi-sIx items.size 0 lo)==items.size)=true then _ else _) _ _ s
 rw [yU hno,q9]
 first
  | exact yO (m:=Builtin.Tuple.tupleExact _) (zZ (yR ⟨_,rfl,yR h⟩) htake)
  | exact yO (m:=Builtin.Tuple.tupleExact _) (zZ (yO (yR (yR ⟨_,rfl,yR h⟩))) htake)
  | exact yO (yO (m:=Builtin.Tuple.tupleExact _) (zZ (yR (yR ⟨_,rfl,yR h⟩)) htake))
  | exact yO (yO (m:=Builtin.Tuple.tupleExact _) (zZ (yR ⟨_,rfl,yR h⟩) htake))
end
end HT
namespace L2
open PySem PySem.Spec PyProof.Rows
abbrev TO:=St->Hp->(Option Int->Hp->Prop)->Prop
def PO (X:Cx) (e:Option Expr) (t:TO):Prop:=
 ∀ (pins:List (Addr×Obj)) (s:Shared) (U:St) (H:Hp) (Q:Option Int->Hp->Prop),Inv X pins U H s->t U H Q->
  wpAny (model X.prog X.w) X.A (evalPart e X.env) (λu s'=> ∃ o H',Inv X pins U H' s'/\IsPart u o/\Q o H') X.xe s
noncomputable def tK:TO:=λ_ H Q=>Q none H
inductive vb  (x:V) (H1:Hp) (Q:(Option Int->Hp->Prop)):Prop
 | mk: ∀ i,(x=.int i)->(Q (some i) H1)->vb x H1 Q
noncomputable def w6 (t:TE):TO:=λU H Q=>t U H λx H1=>vb x H1 Q
section
variable {X:Cx} {e:Expr} {te:TE} {lo hi:Option Expr} {tl th:TO} {pos p2:Pos}
theorem bp:PO X none tK:=by
 intro pins s U H Q I h
 rw [evalPart_none]
 exact yR ⟨none,H,I,.none,h⟩
theorem a9 (h:PE X e te):PO X (some e) (w6 te):=by
 intro pins s U H Q I hw
 rw [evalPart_some]
 refine thn (h pins s U H _ I hw) λu s1 ⟨x,H1,I1,r1,q1⟩=>?_
 obtain ⟨i,rfl,q⟩:=q1
 obtain ⟨t,rfl⟩:=r1
 exact ⟨some i,H1,I1,.int i t,q⟩
def SlR (X:Cx) (r:V->Option Int->Option Int->Hp->VK->Prop):Prop:=
 ∀ (pins:List (Addr×Obj)) (s:Shared) (U:St) (H:Hp) (x:V) (v vl vu:Value) (lo hi:Option Int) (sl:Addr) (Q:VK),Inv X pins U H s->RelV x v->s.heap.IsSliceOf sl vl vu .none->IsPart vl lo->IsPart vu hi->r x lo hi H Q->
  ∃ T id,typeLookup (.type T) "__getitem__"=pure (some (.builtin id))/\s.TypeIs v T/\wpAny (model X.prog X.w) X.A (getItem v (.ref sl)) (EP X pins U Q) X.xe s
def tSl (r:V->Option Int->Option Int->Hp->VK->Prop) (te:TE) (tl th:TO):TE:=λU H Q=>te U H λx H1=>tl U H1 λl H2=>th U H2 λu H3=>r x l u H3 Q
theorem aZ {r:V->Option Int->Option Int->Hp->VK->Prop} (hr:SlR X r) (he:PE X e te) (hl:PO X lo tl) (hu:PO X hi th):PE X (.Subscript e (.Slice lo hi none p2) pos) (tSl r te tl th):=by
 intro pins s U H Q I h
 refine Subscript_ (thn (he pins s U H _ I h) λv s1 ⟨x,H1,I1,r1,q1⟩=>?_)
 refine wpAny_Slice (thn (hl pins s1 U H1 _ I1 q1) λvl s2 ⟨l,H2,I2,pl,q2⟩=>thn (hu pins s2 U H2 _ I2 q2) λvu s3 ⟨u,H3,I3,pu,q3⟩=>?_)
 rw [evalPart_none]
 refine yR ?_
 have I4:Inv X pins U H3 {s3 with heap:=s3.heap.push {cls:=.type "slice",data:=.fields #[vl,vu,.none]}}:=I3.kept (t':=s3.toks) λb ob q=>yQ _ q
 obtain ⟨T,id,hT,ht,hg⟩:=hr pins {s3 with heap:=s3.heap.push {cls:=.type "slice",data:=.fields #[vl,vu,.none]}} U H3 x v vl vu l u s3.heap.objs.size Q I4 r1 (Heap.IsSliceOf.new ..) pl pu q3
 show wpAny (model X.prog X.w) X.A (subscriptTail e (.Slice lo hi none p2) v (.ref s3.heap.objs.size)) (EP X pins U Q) X.xe {s3 with heap:=s3.heap.push {cls:=.type "slice",data:=.fields #[vl,vu,.none]}}
 exact tail_any (ops:=[.ref s3.heap.objs.size,v]) ht hT hg (by with_unfolding_all rfl)
noncomputable def cA (xs:List V) (lo hi:Option Int):List V:=(xs.drop (HT.sIx xs.length 0 lo)).take (HT.sIx xs.length xs.length hi-HT.sIx xs.length 0 lo)
theorem gR (xs:List V) (lo hi:Option Int):(cA xs lo hi).length<=xs.length:=by
 unfold cA
 rw [zB,Ay]
 lia
inductive xk (K:W.Frag) (x:V) (lo:Option Int) (hi:Option Int) (H:Hp) (Q:VK):Prop
 | mk: ∀ a xs,(x=.ref a)->(SqT K H a xs)->(¬ (HT.sIx xs.length 0 lo=0/\HT.sIx xs.length xs.length hi=xs.length))->(∀ p,H p=none->Q (.ref p) (upd H p (.tup (cA xs lo hi))))->xk K x lo hi H Q
theorem vO:SlR X (xk X.K):=by
 intro pins s U H x v vl vu lo hi sl Q I rx hs pl pu h
 obtain ⟨a,xs,rfl,hx,hw,q⟩:=h
 cases rx
 obtain ⟨its,r,ht,hz⟩:=I.tuple hx
 have hlen:its.toArray.size=xs.length:=by rw [y1];exact r.length.symm
 refine ⟨"tuple",_,PyProof.Rows.slot_tuple_getitem.lookup,ht.typeIs,?_⟩
 refine HT.getItem_tuple_cut ht hs pl pu (by rw [hlen];exact hw) ?_ (by rw [hlen];exact hz)
 rw [hlen]
 refine ⟨.ref s.heap.objs.size,_,I.laid (t':=s.toks) (o:=.tup (cA xs lo hi)) (λb ob q=>yQ _ q) (yV _) ?_,rfl,q _ (I.hok.fresh (yV _))⟩
 exact ⟨zc (gR xs lo hi) hz,_,(r.drop (HT.sIx xs.length 0 lo)).take (HT.sIx xs.length xs.length hi-HT.sIx xs.length 0 lo),IsTup.new _ _⟩
inductive vd (K:W.Frag) (x:V) (y:V) (H:Hp) (Q:VK):Prop
 | mk: ∀ a b xs ys,(x=.ref a)->(y=.ref b)->(SqT K H a xs)->(SqT K H b ys)->(xs≠[])->(xs.length+ys.length<=sizeLine)->((ys=[]->Q (.ref a) H))->((ys≠[]-> ∀ p,H p=none->Q (.ref p) (upd H p (.tup (xs++ys)))))->vd K x y H Q
theorem Vals.nil_iff {xs:List V} {us:List Value} (r:Vals xs us):us=[]↔xs=[]:=by
 cases r with
 | nil=>simp
 | cons _ _=>simp
theorem ug:OpR X (binaryOp .Add) (vd X.K):=by
 intro pins s U H x y v u Q I rx ry h
 obtain ⟨a,b,xs,ys,rfl,rfl,ha,hb,hx,hz,q1,q2⟩:=h
 cases rx
 cases ry
 obtain ⟨its,r1,p1,_⟩:=I.tuple ha
 obtain ⟨its2,r2,p2,_⟩:=I.tuple hb
 refine HT.cat_tup p1 p2 (λz=>hx (r1.nil_iff.mp z)) (λz=>⟨.ref a,H,I,rfl,q1 (r2.nil_iff.mp z)⟩) (λz=>?_) (by rw [<- r1.length,<- r2.length];exact hz)
 refine ⟨.ref s.heap.objs.size,_,I.laid (t':=s.toks) (o:=.tup (xs++ys)) (λb ob q=>yQ _ q) (yV _) ?_,rfl,q2 (λw=>z (r2.nil_iff.mpr w)) _ (I.hok.fresh (yV _))⟩
 exact ⟨by rw [yZ];exact hz,_,r1.append r2,IsTup.new _ _⟩
end
noncomputable def ixN (n:Nat) (i:Int):Option Nat:=if 0<=i then (if i<n then some i.toNat else none)else if -(n:Int)<=i then some (i+n).toNat else none
noncomputable def atI {α:Type} (xs:List α) (i:Int):Option α:=(ixN xs.length i).bind λj=>xs[j]?
theorem ou {n:Nat} {i:Int} {j:Nat} (h:ixN n i=some j):seqIndex? i n=some j/\j<n/\ -(n:Int)<=i/\i<n:=by
 unfold ixN at h
 by_cases h0:0<=i
 ·rw [yW h0]at h
  by_cases h1:i<n
  ·rw [yW h1]at h
   have e:i.toNat=j:=zj h
   exact ⟨by rw [seqIndex_of h0 h1,e],by lia,by lia,h1⟩
  ·rw [yU h1]at h;cases h
 ·rw [yU h0]at h
  by_cases h1: -(n:Int)<=i
  ·rw [yW h1]at h
   have e:(i+n).toNat=j:=zj h
   exact ⟨by rw [seqIndex_neg (by lia) h1,e],by lia,h1,by lia⟩
  ·rw [yU h1]at h;cases h
theorem kG {α:Type} {xs:List α} {i:Int} {v:α} (h:atI xs i=some v): ∃ j,seqIndex? i xs.length=some j/\xs[j]? =some v/\j<xs.length/\ -(xs.length:Int)<=i/\i<xs.length:=by
 unfold atI at h
 cases e:ixN xs.length i with
 | none=>rw [e]at h;cases h
 | some j=>
  rw [e]at h
  obtain ⟨h1,h2,h3,h4⟩:=ou e
  exact ⟨j,h1,h,h2,h3,h4⟩
theorem aE {α:Type} {xs:List α} {j:Nat} {v:α} (h:xs[j]? =some v):atI xs (j:Int)=some v:=by
 have hj:j<xs.length:=(yX.mp h).1
 have e:ixN xs.length (j:Int)=some j:=by
  unfold ixN
  rw [yW (by lia),yW (by lia)];simp
 unfold atI;rw [e];exact h
def uU (b:Expr):Prop:= ∀ o i,subscripted b false o i=operate [o,i] (getItem o i)
def IxR (X:Cx) (r:R2):Prop:=
 ∀ (value slice:Expr) (pins:List (Addr×Obj)) (s:Shared) (U:St) (H:Hp) (x y:V) (v u:Value) (Q:VK),Inv X pins U H s->RelV x v->RelV y u->r x y H Q->
  subscripted slice false v u=operate [v,u] (getItem v u)->wpAny (model X.prog X.w) X.A (subscriptTail value slice v u) (EP X pins U Q) X.xe s
def MtR (X:Cx) (id:String) (r:V->List V->Hp->VK->Prop):Prop:=
 ∀ (pins:List (Addr×Obj)) (s:Shared) (U:St) (H:Hp) (x:V) (xs:List V) (v:Value) (us:List Value) (Q:VK),Inv X pins U H s->RelV x v->Vals xs us->r x xs H Q->
  wpAny (model X.prog X.w) X.A (call (.builtin id) (v::us)) (EP X pins U Q) X.xe s
section
variable {X:Cx} {a b:Expr} {ta tb:TE} {pos:Pos}
theorem au {r:R2} (hr:IxR X r) (ha:PE X a ta) (hb:PE X b tb) (hs:uU b):PE X (.Subscript a b pos) (tOp r ta tb):=by
 intro pins s U H Q I h
 exact Subscript_ (wJ ha hb I h λv u s2 x y H2 I2 rx ry q=>hr a b pins s2 U H2 x y v u Q I2 rx ry q (hs _ _))
inductive cf (K:W.Frag) (x:V) (y:V) (H:Hp) (Q:VK):Prop
 | mk: ∀ p xs i v,(x=.ref p)->(y=.int i)->(SqL K H p xs)->(atI xs i=some v)->(Q v H)->cf K x y H Q
inductive aS (K:W.Frag) (x:V) (y:V) (H:Hp) (Q:VK):Prop
 | mk: ∀ p xs i v,(x=.ref p)->(y=.int i)->(SqT K H p xs)->(atI xs i=some v)->(Q v H)->aS K x y H Q
inductive xq  (x:V) (y:V) (H:Hp) (Q:VK):Prop
 | mk: ∀ z i c,(x=.str z)->(y=.int i)->(z.length<=sizeLine)->(atI z.cps.toList i=some c)->(Q (.str ⟨#[c]⟩) H)->xq x y H Q
theorem aR:IxR X (cf X.K):=by
 intro value slice pins s U H x y v u Q I rx ry h hs
 obtain ⟨p,xs,i,z,rfl,rfl,hq,he,q⟩:=h
 cases rx
 obtain ⟨t,rfl⟩:=ry
 obtain ⟨its,r,pl,hz⟩:=I.list hq
 obtain ⟨j,h1,h2,h3,h4,h5⟩:=kG he
 obtain ⟨w,ew,rw'⟩:=r.get h2
 have hl:=r.length
 have hn:=gC
 have fin:EP X pins U Q w s:=⟨z,H,I,rw',q⟩
 by_cases h0:0<=i
 ·have hj:i.toNat=j:=by
   rw [seqIndex_of h0 h5]at h1
   exact zj h1
  exact item_listR pl.isList h0 (by lia) (by rw [hj];simpa using ew) fin hs
 ·have hj:(i+ (its.toArray.size:Int)).toNat=j:=by
   rw [seqIndex_neg (by lia) h4]at h1
   rw [y1,<- hl]
   exact zj h1
  exact subscriptTail_builtinR (x:=w) pl.isList.typeIs slot_list_getitem.lookup
   (wpAny_getItem_list_neg (Q:=λr s'=>r=w/\EP X pins U Q r s') pl.isList (by lia) (by rw [y1] <;> lia) (by lia) (by rw [hj];simpa using ew) ⟨rfl,fin⟩) hs
theorem aA:IxR X (aS X.K):=by
 intro value slice pins s U H x y v u Q I rx ry h hs
 obtain ⟨p,xs,i,z,rfl,rfl,hq,he,q⟩:=h
 cases rx
 obtain ⟨t,rfl⟩:=ry
 obtain ⟨its,r,pl,hz⟩:=I.tuple hq
 obtain ⟨j,h1,h2,h3,h4,h5⟩:=kG he
 obtain ⟨w,ew,rw'⟩:=r.get h2
 have hl:=r.length
 have hn:=gC
 have fin:EP X pins U Q w s:=⟨z,H,I,rw',q⟩
 exact subscriptTail_builtinR (x:=w) pl.typeIs slot_tuple_getitem.lookup
  (getItem_tuple (j:=j) (Q:=λr s'=>r=w/\EP X pins U Q r s') pl (by lia) (by lia) (by rw [y1,<- hl];exact h1) (by simpa using ew) ⟨rfl,fin⟩) hs
theorem nj:IxR X xq:=by
 intro value slice pins s U H x y v u Q I rx ry h hs
 obtain ⟨z,i,c,rfl,rfl,hz,he,q⟩:=h
 obtain ⟨t,rfl⟩:=rx
 obtain ⟨t',rfl⟩:=ry
 obtain ⟨j,h1,h2,h3,h4,h5⟩:=kG he
 have hl:z.cps.toList.length=z.length:=by simp [Str.length]
 rw [hl]at h1 h4 h5
 have hn:=gC
 exact tail_any (typeIs_str s z t) slot_str_getitem.lookup (getItem_str (c:=c) (by
  have e1:decide (i< -(2^63:Int))=false:=zK (by lia)
  have e2:decide (i≥2^63)=false:=zK (by lia)
  rw [e1,e2,Bool.or_false]) (by rw [h1];simpa using h2) ⟨.str ⟨#[c]⟩,H,I.tok _,⟨_,rfl⟩,q⟩) hs
theorem ni (its:List Value) (n j:Nat) (u:Value):Obj.mapSeq (·.setIfInBounds j u) {cls:=.type "list",data:=.seq its.toArray n}={cls:=.type "list",data:=.seq (its.set j u).toArray n}:=by
 simp [Obj.mapSeq]
theorem Inv.lst {pins:List (Addr×Obj)} {U:St} {H:Hp} {s:Shared} {p:Addr} {xs:List V} (I:Inv X pins U H s) (h:H p=some (.lst xs)):
  ∃ (its:List Value) (n:Nat),Vals xs its/\s.heap.get? p=some {cls:=.type "list",data:=.seq its.toArray n}/\xs.length<=sizeLine:=by
 obtain ⟨z,its,n,r,e⟩:=I.hok p _ h
 exact ⟨its,n,r,e,z⟩
theorem Inv.lstUpd {pins:List (Addr×Obj)} {U:St} {H:Hp} {s:Shared} {p:Addr} {xs ys:List V} {its its':List Value} {n n':Nat} {f:Obj->Obj} (I:Inv X pins U H s) (h:H p=some (.lst xs))
  (ho:s.heap.get? p=some {cls:=.type "list",data:=.seq its.toArray n}) (hf:f {cls:=.type "list",data:=.seq its.toArray n}={cls:=.type "list",data:=.seq its'.toArray n'}) (r:Vals ys its') (hz:ys.length<=sizeLine) (t:Nat):
  Inv X pins U (upd H p (.lst ys)) {s with heap:=s.heap.update p f,toks:=t}:=by
 have e:(s.heap.update p f).get? p=some {cls:=.type "list",data:=.seq its'.toArray n'}:=by
  rw [CJ f ho (by rw [hf] <;> rfl),hf]
 refine I.write (x:=p) (e:=p) (by rw [h];trivial) (.inl rfl) (λb u hb q=>(Heap.get?_update_other _ _ (zT hb)).trans q) ⟨_,e⟩ ?_
 exact ⟨hz,its',n',r,e⟩
inductive u9  (o:V) (i:V) (v:V) (H:Hp) (Q:(Hp->Prop)):Prop
 | mk: ∀ p xs k j,(o=.ref p)->(i=.int k)->(H p=some (.lst xs))->(ixN xs.length k=some j)->(Q (upd H p (.lst (xs.set j v))))->u9 o i v H Q
theorem qJ:xW X u9:=by
 intro pins s U H o i v ov iv u Q I ro ri rv h
 obtain ⟨p,xs,k,j,rfl,rfl,hp,hj,q⟩:=h
 cases ro
 obtain ⟨t,rfl⟩:=ri
 obtain ⟨its,n,r,ho,hz⟩:=I.lst hp
 obtain ⟨h1,h2,h3,h4⟩:=ou hj
 have hl:=r.length
 have hn:=gC
 have I':Inv X pins U (upd H p (.lst (xs.set j v))) {s with heap:=s.heap.update p (Obj.mapSeq (·.setIfInBounds j u))}:=
  I.lstUpd hp ho (ni its n j u) (r.set rv j) (by rw [List.length_set];exact hz) s.toks
 by_cases h0:0<=k
 ·have hk:k.toNat=j:=by
   rw [seqIndex_of h0 h4]at h1
   exact zj h1
  exact PySem.W.ki_setAt ho h0 (by lia) (by rw [y1,<- hl];exact h4) (by rw [hk];exact ⟨_,I',q⟩)
 ·have hk:(k+ (its.toArray.size:Int)).toNat=j:=by
   rw [seqIndex_neg (by lia) h3]at h1
   rw [y1,<- hl]
   exact zj h1
  exact PySem.W.ki_setBack ho (by lia) (by rw [y1,<- hl];exact h3) (by lia) (by rw [hk];exact ⟨_,I',q⟩)
theorem jV (lo hi:Option Int) (n:Nat):(sliceBounds lo hi none n).1=((HT.sIx n 0 lo:Nat):Int)/\(sliceBounds lo hi none n).2.1=((HT.sIx n n hi:Nat):Int)/\(sliceBounds lo hi none n).2.2=1:=by
 refine ⟨?_,?_,rfl⟩
 ·cases lo with
  | none=>simp [sliceBounds,HT.sIx]
  | some i=>
   simp only [sliceBounds,HT.sIx,Option.getD_none,show (1:Int) >0 by decide,AM]
   by_cases h:i<0
   ·simp only [h,AM] <;> lia
   ·simp only [h,zX] <;> lia
 ·cases hi with
  | none=>simp [sliceBounds,HT.sIx]
  | some i=>
   simp only [sliceBounds,HT.sIx,Option.getD_none,show (1:Int) >0 by decide,AM]
   by_cases h:i<0
   ·simp only [h,AM] <;> lia
   ·simp only [h,zX] <;> lia
theorem i7 (its:List Value) (lo hi:Option Int):slicePick its.toArray lo hi none=((its.drop (HT.sIx its.length 0 lo)).take (HT.sIx its.length its.length hi-HT.sIx its.length 0 lo)).toArray:=by
 obtain ⟨h1,h2,h3⟩:=jV lo hi its.toArray.size
 unfold slicePick
 rw [h1,h2,h3]
 simp only [sliceRange_one,pick_run,y1] <;> rfl
inductive xn (K:W.Frag) (x:V) (lo:Option Int) (hi:Option Int) (H:Hp) (Q:VK):Prop
 | mk: ∀ a xs,(x=.ref a)->(SqL K H a xs)->(∀ p,H p=none->Q (.ref p) (upd H p (.lst (cA xs lo hi))))->xn K x lo hi H Q
theorem cH:SlR X (xn X.K):=by
 intro pins s U H x v vl vu lo hi sl Q I rx hs pl pu h
 obtain ⟨a,xs,rfl,hx,q⟩:=h
 cases rx
 obtain ⟨its,r,ht,hz⟩:=I.list hx
 have hlen:=r.length
 refine ⟨"list",_,slot_list_getitem.lookup,ht.isList.typeIs,?_⟩
 refine wpAny_getItem_list_slice ht.isList hs pl pu .none (by simp) ?_ (by rw [y1] <;> lia)
 rw [i7,<- hlen]
 refine ⟨.ref s.heap.objs.size,_,I.laid (t':=s.toks) (o:=.lst (cA xs lo hi)) (λb ob q=>yQ _ q) (yV _) ?_,rfl,q _ (I.hok.fresh (yV _))⟩
 exact ⟨zc (gR xs lo hi) hz,_,0,(r.drop (HT.sIx xs.length 0 lo)).take (HT.sIx xs.length xs.length hi-HT.sIx xs.length 0 lo),y6 _ rfl⟩
inductive cr (K:W.Frag) (xs:List V) (H:Hp) (Q:VK):Prop
 | mk: ∀ p ys,(xs=[.ref p])->((SqL K H p ys\/SqT K H p ys))->(Q (.int ys.length) H)->cr K xs H Q
theorem av:cG X (.builtin "len") (cr X.K):=by
 intro pins s U H xs us Q I r h
 obtain ⟨p,ys,rfl,hq,q⟩:=h
 obtain ⟨u,rfl,rx⟩:=fG r
 cases rx
 have hn:=gC
 rcases hq with hq | hq
 ·obtain ⟨its,r',pl,hz⟩:=I.list hq
  have hlen:=r'.length
  exact Calls.call_len_list pl.isList (by simp only [y1] <;> lia) ⟨.int ys.length,H,I.tok _,⟨s.toks+1,by rw [y1,hlen]⟩,q⟩
 ·obtain ⟨its,r',pl,hz⟩:=I.tuple hq
  have hlen:=r'.length
  exact len_tuple pl (by simp only [y1] <;> lia) ⟨.int ys.length,H,I.tok _,⟨s.toks+1,by rw [y1,hlen]⟩,q⟩
inductive j4 (K:W.Frag) (xs:List V) (H:Hp) (Q:VK):Prop
 | mk: ∀ p ys,(xs=[.ref p])->((SqL K H p ys\/SqT K H p ys))->(∀ l,H l=none->Q (.ref l) (upd H l (.lst ys)))->j4 K xs H Q
theorem kD:cG X (.type "list") (j4 X.K):=by
 intro pins s U H xs us Q I r h
 obtain ⟨p,ys,rfl,hq,q⟩:=h
 obtain ⟨u,rfl,rx⟩:=fG r
 cases rx
 have fin: ∀ (its:List Value),Vals ys its->ys.length<=sizeLine-> ∀ (h':Heap) (c':Nat),(∀ b o',s.heap.get? b=some o'->h'.get? b=some o')->
   h'.get? s.heap.objs.size=some {cls:=.type "list",dict:=none,data:=.seq its.toArray c',slots:= #[]}->EP X pins U Q (.ref s.heap.objs.size) {s with heap:=h'}:=λits r' hz h' c' kp e=>
  ⟨.ref s.heap.objs.size,_,I.laid (t':=s.toks) kp (yV _) (show ObjOk X.prog X.w _ h' _ (.lst ys)from ⟨hz,its,c',r',e⟩),rfl,q _ (I.hok.fresh (yV _))⟩
 rcases hq with hq | hq
 ·obtain ⟨its,r',pl,hz⟩:=I.list hq
  have hlen:=r'.length
  obtain ⟨o,ho,hc,n,hd⟩:=pl.isList
  exact call_list_seq p (.inl rfl) ho hc hd (λh' c' kp e=>fin its r' hz h' c' kp e) (by simp only [y1] <;> lia)
 ·obtain ⟨its,r',pl,hz⟩:=I.tuple hq
  have hlen:=r'.length
  obtain ⟨o,ho,hc,n,hd⟩:=pl
  exact call_list_seq p (.inr rfl) ho hc hd (λh' c' kp e=>fin its r' hz h' c' kp e) (by simp only [y1] <;> lia)
inductive dA (K:W.Frag) (xs:List V) (H:Hp) (Q:VK):Prop
 | mk: ∀ p ys,(xs=[.ref p])->(((SqL K H p ys/\ ∀ l,H l=none->Q (.ref l) (upd H l (.tup ys)))\/(SqT K H p ys/\Q (.ref p) H)))->dA K xs H Q
theorem bC:cG X (.type "tuple") (dA X.K):=by
 intro pins s U H xs us Q I r h
 obtain ⟨p,ys,rfl,h⟩:=h
 obtain ⟨u,rfl,rx⟩:=fG r
 cases rx
 rcases h with ⟨hq,q⟩ | ⟨hq,q⟩
 ·obtain ⟨its,r',pl,hz⟩:=I.list hq
  have hlen:=r'.length
  refine call_tuple_list pl.isList (λh' kp=>?_) (by simp only [y1] <;> lia)
  have I1:Inv X pins U H {s with heap:=h'}:=I.kept (t':=s.toks) kp
  have I2:Inv X pins U (upd H h'.objs.size (.tup ys)) {s with heap:=h'.push {cls:=.type "tuple",data:=.seq its.toArray}}:=
   I1.laid (t':=s.toks) (λb o e=>yQ _ e) (yV _) (show ObjOk X.prog X.w _ _ _ (.tup ys)from ⟨hz,its,r',IsTup.new _ _⟩)
  exact ⟨.ref h'.objs.size,_,I2,rfl,q _ (I1.hok.fresh (yV _))⟩
 ·obtain ⟨its,r',pl,hz⟩:=I.tuple hq
  exact call_tuple_same pl ⟨.ref p,H,I,rfl,q⟩
def tyV (K:W.Frag) (T:String) (x:V) (H:Hp):Prop:=match x with
 | .str _=>T="str"
 | .int _=>T="int"
 | .ref p=>(T="list"/\ ∃ xs,SqL K H p xs)\/(T="tuple"/\ ∃ o,K.lookup p=some o/\o.cls=.type "tuple"/\o.dict=none)\/
   (T="dict"/\((∃ kvs,H p=some (.dK kvs))\/ ∃ kvs,H p=some (.dT kvs)))\/(T="set"/\ ∃ S n,H p=some (.set S n))
 | _=>False
theorem qu {pins:List (Addr×Obj)} {U:St} {H:Hp} {s:Shared} {T:String} {x:V} {v:Value} (I:Inv X pins U H s) (r:RelV x v) (ty:tyV X.K T x H):
  s.TypeIs v T/\ ∀ a,v=.ref a-> ∃ ob,s.heap.get? a=some ob/\ob.dict=none:=by
 cases x with
 | str z=>
  obtain ⟨t,rfl⟩:=r
  cases (show T="str" from ty)
  exact ⟨typeIs_str s z t,λ_ e=>nomatch e⟩
 | int i=>
  obtain ⟨t,rfl⟩:=r
  cases (show T="int" from ty)
  exact ⟨typeIs_int s i t,λ_ e=>nomatch e⟩
 | ref p=>
  cases r
  rcases ty with ⟨rfl,xs,hq⟩ | ⟨rfl,o,hk,hc,hd⟩ | ⟨rfl,hk⟩ | ⟨rfl,S,n,hk⟩
  ·obtain ⟨its,_,pl,_⟩:=I.list hq
   refine ⟨pl.isList.typeIs,λa e=>?_⟩
   cases e
   obtain ⟨o,n,e,c,hd,_⟩:=pl
   exact ⟨o,e,hd⟩
  ·refine ⟨⟨o,I.kIn p o hk,hc⟩,λa e=>?_⟩
   cases e
   exact ⟨o,I.kIn _ o hk,hd⟩
  ·have z: ∃ o,s.heap.get? p=some o/\o.ExactDict:=by
    rcases hk with ⟨kvs,hk⟩ | ⟨kvs,hk⟩
    ·obtain ⟨_,_,_,_,o,_,_,e,ex,_⟩:=I.hok p _ hk
     exact ⟨o,e,ex⟩
    ·obtain ⟨_,_,_,_,o,_,_,e,ex,_⟩:=I.hok p _ hk
     exact ⟨o,e,ex⟩
   obtain ⟨o,e,ex⟩:=z
   refine ⟨⟨o,e,ex.1⟩,λa e2=>?_⟩
   cases e2
   exact ⟨o,e,ex.2.1⟩
  ·obtain ⟨o,_,_,_,e,ex,_⟩:=I.hok p _ hk
   refine ⟨⟨o,e,ex.1⟩,λa e2=>?_⟩
   cases e2
   exact ⟨o,e,ex.2.1⟩
 | _=>exact False.elim ty
def yq (K:W.Frag) (T:String) (r:V->List V->Hp->VK->Prop) (to:TE):TE:=λU H Q=>to U H λx H1=>tyV K T x H1/\r x [] H1 Q
def tBM (K:W.Frag) (T:String) (r:V->List V->Hp->VK->Prop) (to:TE) (t:TA):TE:=λU H Q=>to U H λx H1=>tyV K T x H1/\t U H1 λxs H2=>r x xs H2 Q
variable {o e:Expr} {es:List Expr} {to:TE} {t:TA} {name:Str} {apos cpos:Pos} {T id:String} {r:V->List V->Hp->VK->Prop}
theorem rn (pa:PlainAttrs T) (slot:Slot T name id) (hty:typeOf (.builtin id)=pure (.type "method_descriptor")) (hm:MtR X id r) (ho:PE X o to)
  (hbase:attributeBase o name X.env (eval o X.env)=eval o X.env:=by rfl) (hline:(apos.endLine==cpos.line)=true:=by rfl):PE X (.Call (.Attribute o name apos) [] [] cpos) (yq X.K T r to):=by
 intro pins s U H Q I h
 refine wpAny_Call_method0_late hbase hline (thn (ho pins s U H _ I h) λv s1 ⟨x,H1,I1,r1,ty,q1⟩=>?_)
 obtain ⟨h1,h2⟩:=qu I1 r1 ty
 exact ⟨T,id,pa,slot,hty,h1,h2,Bb rfl (PySem.evalArgs_none (hm pins s1 U H1 x [] v [] Q I1 r1 .nil q1))⟩
theorem dJ (pa:PlainAttrs T) (slot:Slot T name id) (hty:typeOf (.builtin id)=pure (.type "method_descriptor")) (hm:MtR X id r) (ho:PE X o to) (ha:PA X (e::es) t)
  (hbase:attributeBase o name X.env (eval o X.env)=eval o X.env:=by rfl)
  (hfew:((backTo cpos (starEach (e::es) X.env)).all (λx=> !x.1)&&(backToKw cpos (keywordEach [] X.env)).all (λx=>x.1.isSome)
   &&decide ((e::es).length+ ([]:List Keyword).length+ (if ([]:List Keyword).isEmpty then 0 else 1) <30))=true:=by rfl)
  (hline:(apos.endLine==cpos.line)=true:=by rfl) (hs:starEach (e::es) X.env=(false,eval e X.env)::starEach es X.env:=by rfl) (hplain:(backTo cpos (starEach es X.env)).any (·.1)=false:=by rfl):
  PE X (.Call (.Attribute o name apos) (e::es) [] cpos) (tBM X.K T r to t):=by
 intro pins s U H Q I h
 refine wpAny_Call_method_late hbase hfew hline rfl (thn (ho pins s U H _ I h) λv s1 ⟨x,H1,I1,r1,ty,q1⟩=>?_)
 obtain ⟨h1,h2⟩:=qu I1 r1 ty
 refine ⟨T,id,pa,slot,hty,h1,h2,?_⟩
 have hA:=ha cpos pins s1 U H1 _ I1 q1
 rw [hs]at hA ⊢
 refine Bb (by show (false||(backTo cpos (starEach es X.env)).any (·.1))=false;rw [hplain] <;> rfl) (BO ?_)
 exact thn hA λus s2 ⟨vs,H2,I2,r2,q2⟩=>hm pins s2 U H2 x vs v us Q I2 r1 r2 q2
end
def MtM (X:Cx) (id:String) (r:V->List V->Hp->VK->Prop):Prop:=
 ∀ (pins:List (Addr×Obj)) (s:Shared) (U:St) (H:Hp) (x:V) (xs:List V) (v:Value) (us:List Value) (Q:VK),Inv X pins U H s->RelV x v->Vals xs us->r x xs H Q->
  wpAny (model X.prog X.w) X.A (call (.builtin id) (v::us)) (EP X pins U Q) X.xe s
theorem Vals.one: ∀ {x:V} {us:List Value},Vals [x] us-> ∃ u,us=[u]/\RelV x u
 | _,_,.cons r .nil=>⟨_,rfl,r⟩
theorem Vals.two: ∀ {x y:V} {us:List Value},Vals [x,y] us-> ∃ u v,us=[u,v]/\RelV x u/\RelV y v
 | _,_,_,.cons r (.cons q .nil)=>⟨_,_,rfl,r,q⟩
theorem Vals.zero: ∀ {us:List Value},Vals [] us->us=[]
 | _,.nil=>rfl
theorem Vals.dropLast {xs:List V} {us:List Value} (h:Vals xs us):Vals xs.dropLast us.dropLast:=by
 induction h with
 | nil=>exact .nil
 | cons r t ih=>
  cases t with
  | nil=>exact .nil
  | cons q t'=>exact .cons r ih
theorem nr {α:Type} (l:List α):l.eraseIdx (l.length-1)=l.dropLast:=by
 induction l with
 | nil=>rfl
 | cons a r ih=>
  cases r with
  | nil=>rfl
  | cons b r=>
   have e:(a::b::r).length-1=((b::r).length-1) +1:=by
    have h1:(a::b::r).length=r.length+2:=rfl
    have h2:(b::r).length=r.length+1:=rfl
    lia
   rw [e,List.eraseIdx_cons_succ,ih]
   all_goals rfl
section
variable {X:Cx} {pins:List (Addr×Obj)} {U:St} {H:Hp} {s:Shared} {l b:Addr} {xs ys zs:List V}
theorem Inv.lset {its its':List Value} {n:Nat} {f:Array Value->Array Value} {t':Nat} (I:Inv X pins U H s) (hH:H l=some (.lst xs))
  (e:s.heap.get? l=some {cls:=.type "list",data:=.seq its.toArray n}) (hf:f its.toArray=its'.toArray) (hv:Vals ys its') (hz:ys.length<=sizeLine):
  Inv X pins U (upd H l (.lst ys)) {s with heap:=s.heap.update l (Obj.mapSeq f),toks:=t'}:=by
 have q:=PySem.IsL.update e f
 rw [hf]at q
 refine I.write (x:=l) (e:=l) (by rw [hH];exact trivial) (.inl rfl) (λb' u hb hu=>(Heap.get?_update_other s.heap (Obj.mapSeq f) (zT hb)).trans hu) ⟨_,q⟩ ?_
 exact ⟨hz,its',_,hv,q⟩
theorem Inv.lnew {its:List Value} {t':Nat} (I:Inv X pins U H s) (hv:Vals ys its) (hz:ys.length<=sizeLine):
  Inv X pins U (upd H s.heap.objs.size (.lst ys)) {s with heap:=s.heap.push {cls:=.type "list",data:=.seq its.toArray},toks:=t'}:=
 I.laid (λ_ _ q=>yQ _ q) (yV _) ⟨hz,its,0,hv,y6 _ rfl⟩
theorem Inv.fresh (I:Inv X pins U H s):H s.heap.objs.size=none:=I.hok.fresh (yV _)
theorem Inv.lstM (I:Inv X pins U H s) (hH:H l=some (.lst xs)):xs.length<=sizeLine/\ ∃ (its:List Value) (n:Nat),Vals xs its/\xs.length=its.length/\s.heap.get? l=some {cls:=.type "list",data:=.seq its.toArray n}:=by
 obtain ⟨z,its,n,r,e⟩:=I.hok l _ hH
 exact ⟨z,its,n,r,r.length,e⟩
theorem rN {n:Nat} (h:n<=sizeLine):Builtin.List.listTooLong n=false:=by
 unfold Builtin.List.listTooLong
 exact zK (by lia)
end
section
variable {X:Cx}
inductive nZ  (x:V) (vs:List V) (H:Hp) (Q:VK):Prop
 | mk: ∀ l xs y,(x=.ref l)->(vs=[y])->(H l=some (.lst xs))->(xs.length<sizeLine)->(Q .non (upd H l (.lst (xs++[y]))))->nZ x vs H Q
theorem bu:MtM X "list.append" nZ:=by
 intro pins s U H x vs v us Q I rx rv h
 obtain ⟨l,xs,y,rfl,rfl,hH,hz,q⟩:=h
 cases rx
 obtain ⟨u,rfl,ru⟩:=rv.one
 obtain ⟨z,its,n,r,hl,e⟩:=I.lstM hH
 refine call_meets F.slot_list_append ⟨_,e,rfl⟩ F.entry_list_append (F.args_list_append_2 _ _) (PySem.list_append l its.toArray n u (by rw [y1];lia)) ⟨e,?_⟩
 refine ⟨.non,_,I.lset (its':=its++[u]) hH e (by simp) (r.append (.cons ru .nil)) ?_,rfl,q⟩
 rw [yZ,List.length_singleton]
 lia
inductive nY  (x:V) (vs:List V) (H:Hp) (Q:VK):Prop
 | mk: ∀ l b xs zs,(x=.ref l)->(vs=[.ref b])->(H l=some (.lst xs))->(H b=some (.lst zs))->(xs.length+zs.length<=sizeLine)->(Q .non (upd H l (.lst (xs++zs))))->nY x vs H Q
theorem eQ:MtM X "list.extend" nY:=by
 intro pins s U H x vs v us Q I rx rv h
 obtain ⟨l,b,xs,zs,rfl,rfl,hH,hB,hz,q⟩:=h
 cases rx
 obtain ⟨u,rfl,ru⟩:=rv.one
 cases ru
 obtain ⟨z,its,n,r,hl,e⟩:=I.lstM hH
 obtain ⟨z2,its2,n2,r2,hl2,e2⟩:=I.lstM hB
 have hsz:its.toArray.size+its2.toArray.size<=sizeLine:=by rw [y1,y1];lia
 have hlong: ¬ (!its.toArray.isEmpty&&Builtin.List.listTooLong (its.toArray.size+its2.toArray.size))=true:=by
  rw [rN hsz,Bool.and_false]
  exact zp
 refine call_meets F.slot_list_extend ⟨_,e,rfl⟩ F.entry_list_extend (F.args_list_extend_2 _ _)
  (AutoSeq1.list_extend_list_list_0 l its.toArray n b its2.toArray n2 hlong (by rw [y1];lia) (by lia)) ⟨e,e2,?_⟩
 refine ⟨.non,_,I.lset (its':=its++its2) hH e (by simp) (r.append r2) ?_,rfl,q⟩
 rw [yZ]
 lia
inductive xp  (x:V) (vs:List V) (H:Hp) (Q:VK):Prop
 | mk: ∀ l xs y,(x=.ref l)->(vs=[])->(H l=some (.lst xs))->(xs[xs.length-1]? =some y)->(Q y (upd H l (.lst xs.dropLast)))->xp x vs H Q
theorem wj:MtM X "list.pop" xp:=by
 intro pins s U H x vs v us Q I rx rv h
 obtain ⟨l,xs,y,rfl,rfl,hH,hy,q⟩:=h
 cases rx
 have hus:=rv.zero
 subst hus
 obtain ⟨z,its,n,r,hl,e⟩:=I.lstM hH
 obtain ⟨u,hu,ru⟩:=r.get hy
 have hy':its.toArray[its.toArray.size-1]? =some u:=by
  show its.toArray[its.length-1]? =some u
  rw [<- AD,<- hl]
  exact hu
 refine call_meets F.slot_list_pop ⟨_,e,rfl⟩ F.entry_list_pop (F.args_list_pop_1 _) (MeetsSeq.list_pop_last l its.toArray n u hy' (by rw [y1];lia)) ⟨e,?_⟩
 refine ⟨y,_,I.lset (its':=its.dropLast) hH e ?_ r.dropLast ?_,ru,q⟩
 ·show its.toArray.eraseIdxIfInBounds (its.toArray.size-1)=its.dropLast.toArray
  rw [y1,List.eraseIdxIfInBounds_toArray,nr]
 ·rw [List.length_dropLast]
  lia
noncomputable def vX:V->List V->Hp->VK->Prop:=λx vs H Q=> ∃ l xs,x=.ref l/\vs=[]/\H l=some (.lst xs)/\Q .non (upd H l (.lst []))
theorem rT:MtM X "list.clear" vX:=by
 intro pins s U H x vs v us Q I rx rv h
 obtain ⟨l,xs,rfl,rfl,hH,q⟩:=h
 cases rx
 have hus:=rv.zero
 subst hus
 obtain ⟨z,its,n,r,hl,e⟩:=I.lstM hH
 refine call_meets F.slot_list_clear ⟨_,e,rfl⟩ F.entry_list_clear (F.args_list_clear_1 _) (AutoSeq1.list_clear_list_0 l its.toArray n (by rw [y1];lia)) ⟨e,?_⟩
 exact ⟨.non,_,I.lset (its':=[]) (ys:=[]) hH e rfl .nil (y9 _),rfl,q⟩
inductive xt  (x:V) (y:V) (H:Hp) (Q:VK):Prop
 | mk: ∀ l b xs zs,(x=.ref l)->(y=.ref b)->(H l=some (.lst xs))->(H b=some (.lst zs))->(xs.length+zs.length<=sizeLine)->(∀ p,H p=none->Q (.ref p) (upd H p (.lst (xs++zs))))->xt x y H Q
theorem iF:OpR X (binaryOp .Add) xt:=by
 intro pins s U H x y v u Q I rx ry h
 obtain ⟨l,b,xs,zs,rfl,rfl,hH,hB,hz,q⟩:=h
 cases rx
 cases ry
 obtain ⟨z,its,n,r,hl,e⟩:=I.lstM hH
 obtain ⟨z2,its2,n2,r2,hl2,e2⟩:=I.lstM hB
 refine PySem.P.add_list e e2 ?_ (by rw [y1,y1];lia)
 have ea:its.toArray++its2.toArray=(its++its2).toArray:=by simp
 rw [ea]
 exact ⟨.ref _,_,I.lnew (t':=s.toks) (r.append r2) (by rw [yZ];lia),rfl,q _ I.fresh⟩
end
section
variable {κ:Type} [DecidableEq κ]
noncomputable def bG (kvs:List (κ×V)) (k:κ):Option V:=(kvs.find? λkv=>decide (kv.1=k)).map (·.2)
noncomputable def bH (kvs:List (κ×V)) (k:κ) (v:V):List (κ×V):=
 if (kvs.any λkv=>decide (kv.1=k))=true then kvs.map (λkv=>if kv.1=k then (kv.1,v)else kv)else kvs++[(k,v)]
theorem bD {p:κ×V} {r:List (κ×V)} {k:κ} (e:p.1=k):bG (p::r) k=some p.2:=by simp [bG,A8,e]
theorem bE {p:κ×V} {r:List (κ×V)} {k:κ} (e: ¬ p.1=k):bG (p::r) k=bG r k:=by simp [bG,A8,e]
theorem cM (k:κ): ∀ kvs:List (κ×V),(kvs.any λkv=>decide (kv.1=k))=(bG kvs k).isSome
 | []=>rfl
 | p::r=>by
  rw [List.any_cons]
  by_cases e:p.1=k
  ·simp only [bD e,zq e,Bool.true_or,Option.isSome_some]
  ·rw [bE e,zK e,Bool.false_or];exact cM k r
theorem kL (k j:κ) (y:V): ∀ kvs:List (κ×V),bG (kvs.map λkv=>if kv.1=k then (kv.1,y)else kv) j=(bG kvs j).map λx=>if j=k then y else x
 | []=>rfl
 | p::r=>by
  have ih:=kL k j y r
  rw [zQ]
  by_cases h:p.1=k
  ·rw [yW h]
   by_cases e:p.1=j
   ·rw [bD (p:=(p.1,y)) e,bD e,C3,yW (e.symm.trans h)]
   ·rw [bE (p:=(p.1,y)) e,bE e,ih]
  ·rw [yU h]
   by_cases e:p.1=j
   ·rw [bD (p:=p) e,bD e,C3,yU (λz=>h (e.trans z))]
   ·rw [bE (p:=p) e,bE e,ih]
theorem jf (k j:κ) (y:V): ∀ kvs:List (κ×V),bG kvs k=none->bG (kvs++[(k,y)]) j=if j=k then some y else bG kvs j
 | [],_=>by
  by_cases e:k=j
  ·rw [yW e.symm];exact bD (p:=(k,y)) e
  ·rw [yU (λz=>e z.symm)];exact bE (p:=(k,y)) e
 | p::r,hn=>by
  rw [List.cons_append]
  have hk: ¬ p.1=k:=λz=>by rw [bD z]at hn;cases hn
  rw [bE hk]at hn
  have ih:=jf k j y r hn
  by_cases e:p.1=j
  ·rw [bD e,bD e,yU (λz=>hk (e.trans z))]
  ·rw [bE e,bE e,ih]
theorem ck (kvs:List (κ×V)) (k j:κ) (y:V):bG (bH kvs k y) j=if j=k then some y else bG kvs j:=by
 unfold bH
 by_cases a:(kvs.any λkv=>decide (kv.1=k))=true
 ·rw [yW a,kL]
  rw [cM]at a
  by_cases e:j=k
  ·obtain ⟨x,hx⟩:=Option.isSome_iff_exists.mp a
   rw [yW e,e,hx,C3,yW rfl]
  ·rw [yU e]
   cases bG kvs j with
   | none=>rfl
   | some x=>rw [C3,yU e]
 ·rw [yU a]
  refine jf k j y kvs ?_
  rw [cM]at a
  cases q:bG kvs k with
  | none=>rfl
  | some x=>rw [q]at a;exact (a rfl).elim
theorem bx (kvs:List (κ×V)) (k:κ) (v:V):(bH kvs k v).length<=kvs.length+1:=by
 unfold bH
 split
 ·rw [yP];lia
 ·rw [yZ,zn,BK];lia
theorem RelO.isSome_eq {o:Option V} {u:Option Value} (r:RelO o u):o.isSome=u.isSome:=by
 cases o with
 | none=>cases u with
  | none=>rfl
  | some _=>exact (show False from r).elim
 | some _=>cases u with
  | none=>exact (show False from r).elim
  | some _=>rfl
theorem RelO.getD {o:Option V} {u:Option Value} {d:V} {d':Value} (r:RelO o u) (rd:RelV d d'):RelV (o.getD d) (u.getD d'):=by
 cases o with
 | none=>cases u with
  | none=>exact rd
  | some _=>exact (show False from r).elim
 | some _=>cases u with
  | none=>exact (show False from r).elim
  | some _=>exact r
theorem KV.val {kvs:List (κ×V)} {vs:List (κ×Value)} (r:KV kvs vs) (k:κ):RelO (bG kvs k) (valueAt vs k):=by
 unfold KV at r
 induction r with
 | nil=>exact True.intro
 | @cons p q ps qs h t ih=>
  obtain ⟨h1,h2⟩:=h
  by_cases e:p.1=k
  ·have e':q.1=k:=h1.symm.trans e
   have b:valueAt (q::qs) k=some q.2:=by simp [valueAt,A8,e']
   rw [bD e,b];exact h2
  ·have e': ¬ q.1=k:=λz=>e (h1.trans z)
   have b:valueAt (q::qs) k=valueAt qs k:=by simp [valueAt,A8,e']
   rw [bE e,b];exact ih
theorem KV.any {kvs:List (κ×V)} {vs:List (κ×Value)} (r:KV kvs vs) (k:κ):(kvs.any λkv=>decide (kv.1=k))=vs.any λkv=>decide (kv.1=k):=by
 unfold KV at r
 induction r with
 | nil=>rfl
 | cons h t ih=>rw [List.any_cons,List.any_cons,ih,h.1]
theorem KV.repl {kvs:List (κ×V)} {vs:List (κ×Value)} (r:KV kvs vs) (k:κ) {y:V} {u:Value} (ry:RelV y u):
  KV (kvs.map λkv=>if kv.1=k then (kv.1,y)else kv) (vs.map λkv=>if kv.1=k then (kv.1,u)else kv):=by
 unfold KV at r ⊢
 induction r with
 | nil=>exact .nil
 | @cons p q ps qs h t ih=>
  rw [zQ,zQ]
  refine .cons ?_ ih
  obtain ⟨h1,h2⟩:=h
  by_cases e:p.1=k
  ·rw [yW e,yW (h1.symm.trans e)];exact ⟨h1,ry⟩
  ·rw [yU e,yU (λz=>e (h1.trans z))];exact ⟨h1,h2⟩
theorem KV.put {kvs:List (κ×V)} {vs:List (κ×Value)} (r:KV kvs vs) (k:κ) {y:V} {u:Value} (ry:RelV y u):KV (bH kvs k y) (stored vs k u):=by
 unfold bH stored
 rw [r.any k]
 by_cases e:(vs.any λkv=>decide (kv.1=k))=true
 ·rw [yW e,yW e];exact r.repl k ry
 ·rw [yU e,yU e];exact A3 r ⟨rfl,ry⟩
theorem KV.length {kvs:List (κ×V)} {vs:List (κ×Value)} (r:KV kvs vs):kvs.length=vs.length:=ze r
end
theorem jx {P:Program} {w:World} {k:Key} {u:Value} (r:RelV (kV k) u):(aK P w).is k u=true:=by
 cases k with
 | inl i=>obtain ⟨t,e⟩:=(show ∃ t,u=Value.int i t from r);subst e;exact lp P w i t
 | inr x=>obtain ⟨t,e⟩:=(show ∃ t,u=Value.str x t from r);subst e;exact lm P w x t
theorem jy {P:Program} {w:World}: ∀ {ks:List Key} {us:List Value},Vals (ks.map kV) us->ItemsAre (aK P w) ks us
 | [],_,r=>by rw [List.map_nil]at r;cases r;exact .nil
 | k::ks,_,r=>by
  rw [zQ]at r
  cases r with
  | cons h t=>exact .cons (jx h) (jy t)
noncomputable abbrev KT (H:Hp):List (List Key×V)->List (List Key×Addr×Value)->Prop:=Paired λp q=>p.1=q.1/\H q.2.1=some (.tup (p.1.map kV))/\RelV p.2 q.2.2
theorem KT.val {H:Hp} {kvs:List (List Key×V)} {xs:List (List Key×Addr×Value)} (r:KT H kvs xs) (k:List Key):RelO (bG kvs k) ((atKey xs k).map (·.2)):=by
 induction r with
 | nil=>exact True.intro
 | @cons p q ps qs h t ih=>
  obtain ⟨h1,_,h2⟩:=h
  by_cases e:p.1=k
  ·have e':q.1=k:=h1.symm.trans e
   have b:atKey (q::qs) k=some q.2:=by simp [atKey,A8,e']
   rw [bD e,b];exact h2
  ·have e': ¬ q.1=k:=λz=>e (h1.trans z)
   have b:atKey (q::qs) k=atKey qs k:=by simp [atKey,A8,e']
   rw [bE e,b];exact ih
theorem KT.repl {H:Hp} {kvs:List (List Key×V)} {xs:List (List Key×Addr×Value)} (r:KT H kvs xs) (k:List Key) {y:V} {u:Value} (ry:RelV y u):
  KT H (kvs.map λkv=>if kv.1=k then (kv.1,y)else kv) (xs.map (putAt k u)):=by
 induction r with
 | nil=>exact .nil
 | @cons p q ps qs h t ih=>
  rw [zQ,zQ]
  refine .cons ?_ ih
  obtain ⟨h1,h2,h3⟩:=h
  unfold putAt
  by_cases e:p.1=k
  ·rw [yW e,yW (h1.symm.trans e)];exact ⟨h1,h2,ry⟩
  ·rw [yU e,yU (λz=>e (h1.trans z))];exact ⟨h1,h2,h3⟩
theorem KT.put {H:Hp} {kvs:List (List Key×V)} {xs:List (List Key×Addr×Value)} (r:KT H kvs xs) (k:List Key) {b:Addr} {y:V} {u:Value} (hb:H b=some (.tup (k.map kV))) (ry:RelV y u):
  KT H (bH kvs k y) (storedH xs k b u):=by
 have e:(kvs.any λkv=>decide (kv.1=k))=(atKey xs k).isSome:=by
  rw [cM,(r.val k).isSome_eq,Cz]
 unfold bH storedH
 rw [e]
 by_cases q:(atKey xs k).isSome=true
 ·rw [yW q,yW q];exact r.repl k ry
 ·rw [yU q,yU q];exact A3 r ⟨rfl,hb,ry⟩
theorem KT.keeps {H H':Hp} {kvs:List (List Key×V)} {xs:List (List Key×Addr×Value)} (r:KT H kvs xs) (ht: ∀ b ys,H b=some (.tup ys)->H' b=some (.tup ys)):KT H' kvs xs:=
 Paired.mapP r λ_ _ z=>⟨z.1,ht _ _ z.2.1,z.2.2⟩
noncomputable abbrev KP (H:Hp):List ((List Key×Key)×V)->List ((List Key×Key)×Addr×Value)->Prop:=Paired λp q=>p.1=q.1/\(∃ c,H q.2.1=some (.tup [.ref c,kV p.1.2])/\H c=some (.tup (p.1.1.map kV)))/\RelV p.2 q.2.2
theorem KP.val {H:Hp} {kvs:List ((List Key×Key)×V)} {xs:List ((List Key×Key)×Addr×Value)} (r:KP H kvs xs) (k:List Key×Key):RelO (bG kvs k) ((atKey xs k).map (·.2)):=by
 induction r with
 | nil=>exact True.intro
 | @cons p q ps qs h t ih=>
  obtain ⟨h1,_,h2⟩:=h
  by_cases e:p.1=k
  ·have e':q.1=k:=h1.symm.trans e
   have b:atKey (q::qs) k=some q.2:=by simp [atKey,A8,e']
   rw [bD e,b];exact h2
  ·have e': ¬ q.1=k:=λz=>e (h1.trans z)
   have b:atKey (q::qs) k=atKey qs k:=by simp [atKey,A8,e']
   rw [bE e,b];exact ih
theorem KP.repl {H:Hp} {kvs:List ((List Key×Key)×V)} {xs:List ((List Key×Key)×Addr×Value)} (r:KP H kvs xs) (k:List Key×Key) {y:V} {u:Value} (ry:RelV y u):
  KP H (kvs.map λkv=>if kv.1=k then (kv.1,y)else kv) (xs.map (putAt k u)):=by
 induction r with
 | nil=>exact .nil
 | @cons p q ps qs h t ih=>
  rw [zQ,zQ]
  refine .cons ?_ ih
  obtain ⟨h1,h2,h3⟩:=h
  unfold putAt
  by_cases e:p.1=k
  ·rw [yW e,yW (h1.symm.trans e)];exact ⟨h1,h2,ry⟩
  ·rw [yU e,yU (λz=>e (h1.trans z))];exact ⟨h1,h2,h3⟩
theorem KP.put {H:Hp} {kvs:List ((List Key×Key)×V)} {xs:List ((List Key×Key)×Addr×Value)} (r:KP H kvs xs) (k:List Key×Key) {b:Addr} {y:V} {u:Value} (hb: ∃ c,H b=some (.tup [.ref c,kV k.2])/\H c=some (.tup (k.1.map kV))) (ry:RelV y u):
  KP H (bH kvs k y) (storedH xs k b u):=by
 have e:(kvs.any λkv=>decide (kv.1=k))=(atKey xs k).isSome:=by
  rw [cM,(r.val k).isSome_eq,Cz]
 unfold bH storedH
 rw [e]
 by_cases q:(atKey xs k).isSome=true
 ·rw [yW q,yW q];exact r.repl k ry
 ·rw [yU q,yU q];exact A3 r ⟨rfl,hb,ry⟩
theorem KP.keeps {H H':Hp} {kvs:List ((List Key×Key)×V)} {xs:List ((List Key×Key)×Addr×Value)} (r:KP H kvs xs) (ht: ∀ b ys,H b=some (.tup ys)->H' b=some (.tup ys)):KP H' kvs xs:=
 Paired.mapP r λ_ _ z=>⟨z.1,let ⟨c,e1,e2⟩:=z.2.1;⟨c,ht _ _ e1,ht _ _ e2⟩,z.2.2⟩
section
variable {P:Program} {w:World} {H:Hp} {h:Heap} {a:Addr}
theorem qV {u:HO} (ok:HOk P w H h) (e:Rd H a u):ObjOk P w H h a u:=e.ok ok
theorem jC {kvs:List (Key×V)} (ok:HOk P w H h) (e:Rd H a (.dK kvs)):kvs.length<=sizeLine/\(a==sysModules)=false/\ ∃ vs,KV kvs vs/\h.DictOf (aK P w) a vs:=
 show ObjOk P w H h a (.dK kvs)from qV ok e
theorem vn {kvs:List (Key×V)} (ok:HOk P w H h) (e:H a=some (.dK kvs)):kvs.length<=sizeLine/\(a==sysModules)=false/\ ∃ vs,KV kvs vs/\h.DictOf (aK P w) a vs:=jC ok (.inl e)
theorem fy {ks:List Key} (ok:HOk P w H h) (e:H a=some (.tup (ks.map kV))):(tupleKind (aK P w)).is h ks a:=by
 obtain ⟨_,its,r,o,h1,h2,n,h3⟩:=(show ObjOk P w H h a (.tup (ks.map kV))from ok a _ e)
 exact ⟨o,its.toArray,n,h1,h2,h3,by simpa using jy r⟩
theorem jB {kvs:List (List Key×V)} (ok:HOk P w H h) (e:Rd H a (.dT kvs)):kvs.length<=sizeLine/\(a==sysModules)=false/\
  ∃ xs,KT H kvs xs/\h.DictOfH (tupleKind (aK P w)) a xs:=by
 obtain ⟨z,y,xs,r,o,es,ep,h1,h2,h3,h4,h5⟩:=(show ObjOk P w H h a (.dT kvs)from qV ok e)
 refine ⟨z,y,xs,r,o,es,ep,h1,h2,h3,h4,λx hx=>?_,h5⟩
 have all: ∀ {l:List (List Key×V)} {m:List (List Key×Addr×Value)},KT H l m-> ∀ x∈m,(tupleKind (aK P w)).is h x.1 x.2.1:=by
  intro l m q
  induction q with
  | nil=>intro x hx;exact nomatch hx
  | @cons p q ps qs hq t ih=>
   intro x hx
   rcases za.mp hx with e | hx
   ·subst e
    exact fy ok (by rw [<- hq.1];exact hq.2.1)
   ·exact ih x hx
 exact all r x hx
theorem vj {kvs:List (List Key×V)} (ok:HOk P w H h) (e:H a=some (.dT kvs)):kvs.length<=sizeLine/\(a==sysModules)=false/\
  ∃ xs,KT H kvs xs/\h.DictOfH (tupleKind (aK P w)) a xs:=jB ok (.inl e)
theorem eR {k:List Key×Key} (ok:HOk P w H h) (e: ∃ c,H a=some (.tup [.ref c,kV k.2])/\H c=some (.tup (k.1.map kV))):(cT (aK P w) (aK P w)).is h k a:=by
 obtain ⟨c,e1,e2⟩:=e
 obtain ⟨_,its,r,o,h1,h2,n,h3⟩:=(show ObjOk P w H h a (.tup [.ref c,kV k.2])from ok a _ e1)
 obtain ⟨u,v,rfl,ru,rv⟩:=r.two
 cases (show u=Value.ref c from ru)
 exact ⟨o,_,n,c,v,h1,h2,h3,by simp,fy ok e2,jx rv⟩
theorem lG {kvs:List ((List Key×Key)×V)} (ok:HOk P w H h) (e:Rd H a (.dP kvs)):kvs.length<=sizeLine/\(a==sysModules)=false/\
  ∃ xs,KP H kvs xs/\h.DictOfH (cT (aK P w) (aK P w)) a xs:=by
 obtain ⟨z,y,xs,r,o,es,ep,h1,h2,h3,h4,h5⟩:=(show ObjOk P w H h a (.dP kvs)from qV ok e)
 refine ⟨z,y,xs,r,o,es,ep,h1,h2,h3,h4,λx hx=>?_,h5⟩
 have all: ∀ {l:List ((List Key×Key)×V)} {m:List ((List Key×Key)×Addr×Value)},KP H l m-> ∀ x∈m,(cT (aK P w) (aK P w)).is h x.1 x.2.1:=by
  intro l m q
  induction q with
  | nil=>intro x hx;exact nomatch hx
  | @cons p q ps qs hq t ih=>
   intro x hx
   rcases za.mp hx with e | hx
   ·subst e
    rw [<- hq.1];exact eR ok hq.2.1
   ·exact ih x hx
 exact all r x hx
theorem vm {kvs:List ((List Key×Key)×V)} (ok:HOk P w H h) (e:H a=some (.dP kvs)):kvs.length<=sizeLine/\(a==sysModules)=false/\
  ∃ xs,KP H kvs xs/\h.DictOfH (cT (aK P w) (aK P w)) a xs:=lG ok (.inl e)
end
def DGet (H:Hp) (a:Addr) (y:V) (r:Option V):Prop:=
 (∃ kvs k,Rd H a (.dK kvs)/\y=kV k/\r=bG kvs k)\/(∃ kvs k b,Rd H a (.dT kvs)/\y=.ref b/\H b=some (.tup (k.map kV))/\r=bG kvs k)\/
 ∃ kvs k b,Rd H a (.dP kvs)/\y=.ref b/\(∃ c,H b=some (.tup [.ref c,kV k.2])/\H c=some (.tup (k.1.map kV)))/\r=bG kvs k
def DPut (H:Hp) (a:Addr) (y v:V) (H':Hp):Prop:=
 (∃ kvs k,H a=some (.dK kvs)/\y=kV k/\kvs.length<sizeLine/\H'=upd H a (.dK (bH kvs k v)))\/
 (∃ kvs k b,H a=some (.dT kvs)/\y=.ref b/\H b=some (.tup (k.map kV))/\kvs.length<sizeLine/\H'=upd H a (.dT (bH kvs k v)))\/
 ∃ kvs k b,H a=some (.dP kvs)/\y=.ref b/\(∃ c,H b=some (.tup [.ref c,kV k.2])/\H c=some (.tup (k.1.map kV)))/\kvs.length<sizeLine/\H'=upd H a (.dP (bH kvs k v))
theorem DGet.k {H:Hp} {a:Addr} {kvs:List (Key×V)} {k:Key} (e:H a=some (.dK kvs)):DGet H a (kV k) (bG kvs k):=.inl ⟨kvs,k,.inl e,rfl,rfl⟩
theorem DGet.p {H:Hp} {a b c:Addr} {kvs:List ((List Key×Key)×V)} {t:List Key} {k:Key} (e:H a=some (.dP kvs)) (eb:H b=some (.tup [.ref c,kV k])) (ec:H c=some (.tup (t.map kV))):DGet H a (.ref b) (bG kvs (t,k)):=.inr (.inr ⟨kvs,(t,k),b,.inl e,rfl,⟨c,eb,ec⟩,rfl⟩)
theorem DPut.k {H:Hp} {a:Addr} {kvs:List (Key×V)} {k:Key} {v:V} (e:H a=some (.dK kvs)) (hl:kvs.length<sizeLine):DPut H a (kV k) v (upd H a (.dK (bH kvs k v))):=.inl ⟨kvs,k,e,rfl,hl,rfl⟩
theorem DPut.t {H:Hp} {a b:Addr} {kvs:List (List Key×V)} {k:List Key} {v:V} (e:H a=some (.dT kvs)) (eb:H b=some (.tup (k.map kV))) (hl:kvs.length<sizeLine):
  DPut H a (.ref b) v (upd H a (.dT (bH kvs k v))):=.inr (.inl ⟨kvs,k,b,e,rfl,eb,hl,rfl⟩)
theorem DPut.p {H:Hp} {a b c:Addr} {kvs:List ((List Key×Key)×V)} {t:List Key} {k:Key} {v:V} (e:H a=some (.dP kvs)) (eb:H b=some (.tup [.ref c,kV k])) (ec:H c=some (.tup (t.map kV))) (hl:kvs.length<sizeLine):
  DPut H a (.ref b) v (upd H a (.dP (bH kvs (t,k) v))):=.inr (.inr ⟨kvs,(t,k),b,e,rfl,⟨c,eb,ec⟩,hl,rfl⟩)
section
variable {X:Cx} {pins:List (Addr×Obj)} {U:St} {H:Hp} {s:Shared} {a:Addr} {y v:V} {u r:Value} {o:Option V} {A:Around} {E:Value->Shared->Prop}
theorem Inv.big (I:Inv X pins U H s):sysModules<s.heap.objs.size:=by
 have h:mainGlobals<s.heap.objs.size:=(I.mod.glob.keeps I.bk).lt
 exact Nat.lt_trans (by decide) h
theorem qb {Q:Value->Shared->Prop} (hu:A.units+16<cLine) (I:Inv X pins U H s) (g:DGet H a y (some v)) (ry:RelV y u) (h: ∀ w' s',Inv X pins U H s'->RelV v w'->Q w' s'):
  wpAny (model X.prog X.w) A (getItem (.ref a) u) Q E s:=by
 rcases g with ⟨kvs,k,e,ey,l⟩ | ⟨kvs,k,b,e,ey,eb,l⟩ | ⟨kvs,k,b,e,ey,eb,l⟩
 ·subst ey
  obtain ⟨z,hd,vs,rel,dd⟩:=jC I.hok e
  obtain ⟨w',hw,rw'⟩:=RelO.some_of (v:=v) (o:=valueAt vs k) (by rw [l];exact rel.val k)
  exact wpAny_getItem_of (jx ry) dd.mapOf hw (h w' _ (I.tok _) rw')
 ·subst ey
  cases (show u=Value.ref b from ry)
  obtain ⟨z,hd,xs,rel,dd⟩:=jB I.hok e
  obtain ⟨w',hw,rw'⟩:=RelO.some_of (v:=v) (o:=(atKey xs k).map (·.2)) (by rw [l];exact rel.val k)
  obtain ⟨p,hp,hp2⟩:=Af.mp hw
  refine wpAny_getItem_heap (Cj (by lia)) (fy I.hok eb) dd hp ?_
  rw [hp2]
  exact h w' _ (I.tok _) rw'
 ·subst ey
  cases (show u=Value.ref b from ry)
  obtain ⟨z,hd,xs,rel,dd⟩:=lG I.hok e
  obtain ⟨w',hw,rw'⟩:=RelO.some_of (v:=v) (o:=(atKey xs k).map (·.2)) (by rw [l];exact rel.val k)
  obtain ⟨p,hp,hp2⟩:=Af.mp hw
  refine wpAny_getItem_heap (show _+8<cLine by show A.units+1+8<cLine;lia) (eR I.hok eb) dd hp ?_
  rw [hp2]
  exact h w' _ (I.tok _) rw'
theorem uM {Q:Value->Shared->Prop} (hu:A.units+16<cLine) (I:Inv X pins U H s) (g:DGet H a y o) (ry:RelV y u) (h: ∀ s',Inv X pins U H s'->Q (.bool (!o.isSome)) s'):
  wpAny (model X.prog X.w) A (compareOp .NotIn u (.ref a)) Q E s:=by
 rcases g with ⟨kvs,k,e,ey,l⟩ | ⟨kvs,k,b,e,ey,eb,l⟩ | ⟨kvs,k,b,e,ey,eb,l⟩
 ·subst ey
  obtain ⟨z,hd,vs,rel,dd⟩:=jC I.hok e
  refine wpAny_notIn_of (jx ry) hd dd.mapOf ?_
  rw [<- (rel.val k).isSome_eq,<- l]
  exact h _ (I.tok _)
 ·subst ey
  cases (show u=Value.ref b from ry)
  obtain ⟨z,hd,xs,rel,dd⟩:=jB I.hok e
  refine wpAny_notIn_heap (Cj (by lia)) (fy I.hok eb) hd dd ?_
  have q:=(rel.val k).isSome_eq
  rw [Cz]at q
  rw [<- q,<- l]
  exact h _ (I.tok _)
 ·subst ey
  cases (show u=Value.ref b from ry)
  obtain ⟨z,hd,xs,rel,dd⟩:=lG I.hok e
  refine wpAny_notIn_heap (show _+8<cLine by show A.units+1+8<cLine;lia) (eR I.hok eb) hd dd ?_
  have q:=(rel.val k).isSome_eq
  rw [Cz]at q
  rw [<- q,<- l]
  exact h _ (I.tok _)
theorem gf {h':Heap} {t':Nat} {ob:HO} (I:Inv X pins U H s) (mu:Mut (H a)) (hs:Heap.SameBut a s.heap h') (he: ∃ q,h'.get? a=some q) (new:ObjOk X.prog X.w (upd H a ob) h' a ob):
  Inv X pins U (upd H a ob) {s with heap:=h',toks:=t'}:=
 I.write (x:=a) (e:=a) mu (.inl rfl) (λb q hb z=>(hs.2 b hb).trans z) he new
theorem wD {P:Program} {w:World} {H':Hp} {h':Heap} {kvs:List (Key×V)} {vs:List (Key×Value)} (z:kvs.length<=sizeLine) (hd:(a==sysModules)=false) (rel:KV kvs vs) (dd:h'.DictOf (aK P w) a vs):
  ObjOk P w H' h' a (.dK kvs):=⟨z,hd,vs,rel,dd⟩
theorem qa {H':Hp} {Q:Unit->Shared->Prop} (hu:A.units+16<cLine) (I:Inv X pins U H s) (g:DPut H a y v H') (ry:RelV y u) (rv:RelV v r) (h: ∀ s',Inv X pins U H' s'->Q () s'):
  wpAny (model X.prog X.w) A (setItem (.ref a) u r) Q E s:=by
 rcases g with ⟨kvs,k,e,ey,l,eH⟩ | ⟨kvs,k,b,e,ey,eb,l,eH⟩ | ⟨kvs,k,b,e,ey,eb,l,eH⟩
 ·subst ey eH
  obtain ⟨z,hd,vs,rel,dd⟩:=vn I.hok e
  have hz:vs.length<=sizeLine:=by rw [<- rel.length];exact z
  have hl:(bH kvs k v).length<=sizeLine:=by have:=bx kvs k v;lia
  refine wpAny_setItem_pairs (hsz:=hz) (jx ry) dd λh' dd' hs=>h _ ?_
  have he: ∃ q,h'.get? a=some q:=let ⟨q,_,_,hq,_⟩:=dd';⟨q,hq⟩
  exact gf I (by rw [e];exact True.intro) hs he (wD hl hd (rel.put k rv) dd')
 ·subst ey eH
  cases (show u=Value.ref b from ry)
  obtain ⟨z,hd,xs,rel,dd⟩:=vj I.hok e
  have hz:xs.length<=sizeLine:=by rw [<- ze rel];exact z
  have hl:(bH kvs k v).length<=sizeLine:=by have:=bx kvs k v;lia
  refine wpAny_setItem_heap (hsz:=hz) (Cj (by lia)) (fy I.hok eb) dd λh' dd' hs=>h _ ?_
  obtain ⟨q,es,ep,hq,h2,h3,h4,_,h5⟩:=dd'
  refine gf I (by rw [e];exact True.intro) hs ⟨q,hq⟩ ⟨hl,hd,_,(rel.put k eb rv).keeps λc ys ec=>?_,q,es,ep,hq,h2,h3,h4,h5⟩
  rw [ak (on ec e (λz=>nomatch z))]
  exact ec
 ·subst ey eH
  cases (show u=Value.ref b from ry)
  obtain ⟨z,hd,xs,rel,dd⟩:=vm I.hok e
  have hz:xs.length<=sizeLine:=by rw [<- ze rel];exact z
  have hl:(bH kvs k v).length<=sizeLine:=by have:=bx kvs k v;lia
  refine wpAny_setItem_heap (hsz:=hz) (show _+8<cLine by show A.units+1+8<cLine;lia) (eR I.hok eb) dd λh' dd' hs=>h _ ?_
  obtain ⟨q,es,ep,hq,h2,h3,h4,_,h5⟩:=dd'
  refine gf I (by rw [e];exact True.intro) hs ⟨q,hq⟩ ⟨hl,hd,_,(rel.put k eb rv).keeps λc ys ec=>?_,q,es,ep,hq,h2,h3,h4,h5⟩
  rw [ak (on ec e (λz=>nomatch z))]
  exact ec
end
def xY (i:Expr):Prop:= ∀ ov iv,subscripted i false ov iv=operate [ov,iv] (getItem ov iv)
theorem tQ {prog:Program} {w:World} {A:Around} {E:Value->Shared->Prop} {s:Shared} {env:Env} {value slice:Expr} {pos:Pos} {T id:String} {Q:Value->Shared->Prop}
  (hl:typeLookup (.type T) "__getitem__"=pure (some (.builtin id))) (hs:xY slice)
  (h:wpAny (model prog w) A (eval value env) (λo s₁=>wpAny (model prog w) A (eval slice env) (λi s₂=>s₂.TypeIs o T/\wpAny (model prog w) A (getItem o i) Q E s₂) E s₁) E s):
  wpAny (model prog w) A (eval (.Subscript value slice pos) env) Q E s:=by
 refine Subscript_ (Ac h (λo s₁ h₁=>Ac h₁ (λi s₂ h₂=>?_) λ_ _ x=>x) λ_ _ x=>x)
 obtain ⟨hT,h₂⟩:=h₂
 unfold subscriptTail
 refine yO ?_
 rw [getitemInPython_of_ne hT.not_modules]
 refine yO (Cg hT hl ?_)
 have fin:wpAny (model prog w) A (subscripted slice false o i) (λr s₃=>wpAny (model prog w) A (letTemporaryGo value o r >>= λ_=>pure r) Q E s₃) E s₂:=by
  rw [hs o i]
  exact wpAny_operating (Ac h₂ (λr s₃ h₃=>yO (wpAny_letTemporaryGo (yR h₃))) λ_ _ x=>x)
 first
  | exact yR (yO fin)
  | exact yO (yR (yO fin))
  | exact yO fin
theorem lI {X:Cx} {pins:List (Addr×Obj)} {U:St} {H:Hp} {s:Shared} {a:Addr} {y:V} {o:Option V} (I:Inv X pins U H s) (g:DGet H a y o):s.TypeIs (.ref a) "dict":=by
 rcases g with ⟨kvs,k,e,_,_⟩ | ⟨kvs,k,b,e,_,_,_⟩ | ⟨kvs,k,b,e,_,_,_⟩
 ·obtain ⟨_,_,vs,_,dd⟩:=jC I.hok e
  exact dd.typeIs
 ·obtain ⟨_,_,xs,_,dd⟩:=jB I.hok e
  exact dd.typeIs
 ·obtain ⟨_,_,xs,_,dd⟩:=lG I.hok e
  exact dd.typeIs
def xf (td ty:TE):TE:=λU H Q=>td U H λx H1=>ty U H1 λy H2=> ∃ a v,x=.ref a/\DGet H2 a y (some v)/\Q v H2
def tN (ty td:TE):TE:=λU H Q=>ty U H λy H1=>td U H1 λx H2=> ∃ a o,x=.ref a/\DGet H2 a y o/\Q (.bl (!o.isSome)) H2
def xj (td ty tv:TE):TS:=λD U H=>tv U H λv H1=>td U H1 λx H2=>ty U H2 λy H3=> ∃ a H4,x=.ref a/\DPut H3 a y v H4/\D.nx U H4
section
variable {X:Cx} {o i e value:Expr} {pos pos' tpos:Pos} {td ty tv:TE}
theorem bJ (hu:X.A.units+16<cLine) (ho:PE X o td) (hi:PE X i ty) (hs:xY i):PE X (.Subscript o i pos) (xf td ty):=by
 intro pins s U H Q I h
 refine tQ PySem.F.slot_dict_getitem.lookup hs (thn (ho pins s U H _ I h) λu s1 ⟨x,H1,I1,rx,q1⟩=>thn (hi pins s1 U H1 _ I1 q1) λiv s2 ⟨y,H2,I2,ry,a,v,ex,g,q2⟩=>?_)
 subst ex
 obtain rfl:u=Value.ref a:=rx
 exact ⟨lI I2 g,qb hu I2 g ry λw' s3 I3 rw'=>⟨v,H2,I3,rw',q2⟩⟩
theorem pz (hu:X.A.units+16<cLine) (hi:PE X i ty) (ho:PE X o td):PC X .NotIn i o (tN ty td):=by
 intro pins s U H Q I h
 refine thn (hi pins s U H _ I h) λiv s1 ⟨y,H1,I1,ry,q1⟩=>thn (ho pins s1 U H1 _ I1 q1) λu s2 ⟨x,H2,I2,rx,a,ov,ex,g,q2⟩=>?_
 subst ex
 obtain rfl:u=Value.ref a:=rx
 exact uM hu I2 g ry λs3 I3=>⟨.bl (!ov.isSome),H2,I3,rfl,q2⟩
theorem cy (hu:X.A.units+16<cLine) (ho:PE X o td) (hi:PE X i ty) (hv:PE X value tv) (hs:swapsWith value (some (.Subscript o i pos')) pos.line X.env=pure false):
  PS X (.Assign [.Subscript o i pos'] value pos) (xj td ty tv):=by
 intro pins s U H D I h
 refine wpAny_Assign_Subscript (thn (hv pins s U H _ I h) λr s1 ⟨v,H1,I1,rv,q1⟩=>thn (ho pins s1 U H1 _ I1 q1) λu s2 ⟨x,H2,I2,rx,q2⟩=>thn (hi pins s2 U H2 _ I2 q2) λiv s3 ⟨y,H3,I3,ry,a,H4,ex,g,q3⟩=>?_) hs
 subst ex
 obtain rfl:u=Value.ref a:=rx
 exact qa hu I3 g ry rv λs4 I4=>⟨U,H4,I4,q3⟩
end
theorem sK {P:Program} {w:World} {H:Hp} (h:Heap) (hb:sysModules<h.objs.size):ObjOk P w H (h.push {cls:=.type "dict",data:=.dict #[]}) h.objs.size (.dK []):=
 ⟨y9 _,Bz.mpr (zT (zi hb)),[],.nil,Heap.DictOf.new h⟩
theorem sG {P:Program} {w:World} {H:Hp} (h:Heap) (hb:sysModules<h.objs.size):ObjOk P w H (h.push {cls:=.type "dict",data:=.dict #[]}) h.objs.size (.dT []):=
 ⟨y9 _,Bz.mpr (zT (zi hb)),[],.nil,_,#[],0,y6 _ rfl,⟨rfl,rfl,rfl⟩,rfl,rfl,Bh⟩
def vI:TE:=λ_ H Q=> ∀ p,H p=none->Q (.ref p) (upd H p (.dK []))
section
variable {X:Cx} {pos:Pos}
theorem ed:PE X (.Dict [] [] pos) vI:=λpins s U H Q I h=>
 wpAny_Dict_empty ⟨.ref s.heap.objs.size,_,I.laid (a:=s.heap.objs.size) (o:=.dK []) (t':=s.toks) (λ_ _ q=>yQ _ q) (yV _) (sK s.heap I.big),rfl,h _ (I.hok.fresh (yV _))⟩
end
structure M2 (X:Cx) (o:Expr) (m:Str) (apos:Pos) (e f:Expr) (cpos:Pos):Prop where
 base:attributeBase o m X.env (eval o X.env)=eval o X.env
 few:((backTo cpos (starEach [e,f] X.env)).all (λx=> !x.1)&&(backToKw cpos (keywordEach [] X.env)).all (λx=>x.1.isSome)
  &&decide (([e,f]:List Expr).length+ ([]:List Keyword).length+ (if ([]:List Keyword).isEmpty then 0 else 1) <30))=true
 line:(apos.endLine==cpos.line)=true
 trees:backTo cpos (starEach [e,f] X.env)=[(false,eval e X.env),(false,eval f X.env)]
def IsD (H:Hp) (a:Addr):Prop:=(∃ kvs,Rd H a (.dK kvs))\/ ∃ kvs,Rd H a (.dT kvs)
theorem wx {X:Cx} {pins:List (Addr×Obj)} {U:St} {H:Hp} {s:Shared} {a:Addr} (I:Inv X pins U H s) (d:IsD H a):
  s.TypeIs (.ref a) "dict"/\(∀ b,Value.ref a=.ref b-> ∃ ob,s.heap.get? b=some ob/\ob.dict=none)/\(a==sysModules)=false:=by
 rcases d with ⟨kvs,e⟩ | ⟨kvs,e⟩
 ·obtain ⟨_,hd,vs,_,dd⟩:=jC I.hok e
  refine ⟨dd.typeIs,λb q=>?_,hd⟩
  cases q
  obtain ⟨ob,_,_,h1,h2,_⟩:=dd
  exact ⟨ob,h1,h2.2.1⟩
 ·obtain ⟨_,hd,xs,_,dd⟩:=jB I.hok e
  refine ⟨dd.typeIs,λb q=>?_,hd⟩
  cases q
  obtain ⟨ob,_,_,h1,h2,_⟩:=dd
  exact ⟨ob,h1,h2.2.1⟩
section
variable {X:Cx} {pins:List (Addr×Obj)} {U:St} {H:Hp} {s:Shared} {a:Addr} {y d:V} {u r:Value} {o:Option V} {A:Around} {E:Value->Shared->Prop}
theorem sN {Q:Value->Shared->Prop} (hu:A.units+16<cLine) (I:Inv X pins U H s) (g:DGet H a y o) (ry:RelV y u) (rd:RelV d r) (h: ∀ w' s',Inv X pins U H s'->RelV (o.getD d) w'->Q w' s'):
  wpAny (model X.prog X.w) A (call (.builtin "dict.get") [.ref a,u,r]) Q E s:=by
 rcases g with ⟨kvs,k,e,ey,l⟩ | ⟨kvs,k,b,e,ey,eb,l⟩ | ⟨kvs,k,b,e,ey,eb,l⟩
 ·subst ey
  obtain ⟨z,hd,vs,rel,dd⟩:=jC I.hok e
  refine Dz Bi dd.typeIs CA (Cp _ _ _) (meets_dict_get_default (aK X.prog X.w) a (jx ry) hd r) ⟨_,dd.mapOf,h _ _ (I.tok _) ?_⟩
  rw [l]
  exact (rel.val k).getD rd
 ·subst ey
  cases (show u=Value.ref b from ry)
  obtain ⟨z,hd,xs,rel,dd⟩:=jB I.hok e
  refine Dz Bi dd.typeIs CA (Cp _ _ _) (meetsH_dict_get_default (tupleKind (aK X.prog X.w)) a b hd r) ⟨Cj (by lia),k,xs,fy I.hok eb,dd,h _ _ (I.tok _) ?_⟩
  rw [l]
  exact (rel.val k).getD rd
 ·subst ey
  cases (show u=Value.ref b from ry)
  obtain ⟨z,hd,xs,rel,dd⟩:=lG I.hok e
  refine Dz Bi dd.typeIs CA (Cp _ _ _) (meetsH_dict_get_default (cT (aK X.prog X.w) (aK X.prog X.w)) a b hd r) ⟨(show _+8<cLine by show A.units+1+8<cLine;lia),k,xs,eR I.hok eb,dd,h _ _ (I.tok _) ?_⟩
  rw [l]
  exact (rel.val k).getD rd
end
def vJ (td ty tx:TE):TE:=λU H Q=>td U H λx H1=> ∃ a,x=.ref a/\IsD H1 a/\ty U H1 λy H2=>tx U H2 λz H3=> ∃ o,DGet H3 a y o/\Q (o.getD z) H3
section
variable {X:Cx} {o e f:Expr} {apos cpos:Pos} {td ty tx:TE}
theorem rh (hu:X.A.units+16<cLine) (ho:PE X o td) (he:PE X e ty) (hf:PE X f tx) (m:M2 X o "get" apos e f cpos):PE X (.Call (.Attribute o "get" apos) [e,f] [] cpos) (vJ td ty tx):=by
 intro pins s U H Q I h
 refine wpAny_Call_method m.base m.few m.line Cq Bi PySem.F.type_dict_get (thn (ho pins s U H _ I h) λu s1 ⟨x,H1,I1,rx,a,ex,d,q1⟩=>?_)
 subst ex
 obtain rfl:u=Value.ref a:=rx
 obtain ⟨t1,t2,_⟩:=wx I1 d
 refine ⟨t1,t2,?_⟩
 rw [m.trees]
 refine Bb rfl (BO (Av (thn (he pins s1 U H1 _ I1 q1) λiv s2 ⟨y,H2,I2,ry,q2⟩=>
  Av (thn (hf pins s2 U H2 _ I2 q2) λfv s3 ⟨z,H3,I3,rz,ov,g,q3⟩=>AN ?_))))
 exact sN hu I3 g ry rz λw' s4 I4 rw'=>⟨_,H3,I4,rw',q3⟩
end
end L2
namespace Att
open PySem PySem.W PySem.Calls PyProof.Rows
theorem gT {P:Params} {h:Heap}: ∀ (ns:List Int) (vs:List Value),WellAll P h vs (ns.map WData.int)->IntsAre vs ns:=by
 intro ns
 induction ns with
 | nil=>
  intro vs w
  rw [List.map_nil]at w
  cases w
  exact .nil
 | cons n ns ih=>
  intro vs w
  rw [zQ]at w
  cases w with
  | cons a b=>
   cases a
   exact .cons _ _ (ih _ b)
theorem oW {l:OpenLaw} {n:Nat} (hn:l.most=some n) {P:Params} {h:Heap} {args:List WData} {vals:List Value}
  (hpre:l.row.toRowW.claim.pre args=true) (hwl:WellAll P h vals args):
  ∃ a vs ns,vals=[Value.ref a]/\args=[WData.list (ns.map WData.int)]/\h.get? a=some {cls:=.type "list",data:=.seq vs.toArray}/\IntsAre vs ns/\ns.length<=n:=by
 have hsh:WShape.hasAll [] args [.list .int]=true:=(pre_splitW hpre).1
 have hc:l.pre.holds [] {args:=args}=true:=(pre_splitW hpre).2
 obtain ⟨d,r,rfl,h1,h2⟩:=hasAllW_cons hsh
 obtain rfl:=hasAllW_nil h2
 obtain ⟨xs,rfl,h3⟩:=hasW_list h1
 obtain ⟨ns,rfl⟩:=items_int h3
 have hlen:ns.length<=n:=by
  unfold OpenLaw.pre at hc
  have h4:(WTm.not (.lt (.lit (.int (n:Int))) (.len (.arg 0)))).holds [] {args:=[.list (ns.map .int)]}=true:=by
   have h4:=(holds_andW hc).1
   rw [hn]at h4
   exact h4
  have h5:=condW_of h4 (w_not (w_lt w_lit (w_len_list (w_arg rfl))))
  rw [yP]at h5
  refine CQ λq=>?_
  have q':(n:Int) < ((ns.length:Nat):Int):=by lia
  first
   | (rw [zq q']at h5;exact absurd h5 (by decide))
   | (simp at h5;lia)
 cases hwl with
 | cons w1 w2=>
  cases w2
  cases w1 with
  | list ho hall=>exact ⟨_,_,ns,rfl,rfl,ho,gT ns _ hall,hlen⟩
theorem pj (l:OpenLaw) (args:List WData):l.row.toRowW.claim.post args (.bool true) args=true:=
 postW_of (r:=l.row.toRowW) (X:=(true==true))
  (show WShape.has [] (.bool true) .bool=true by first | rfl | decide | simp [WShape.has,WShape.arms,WShape.armsAll])
  (show (WTm.eq .res (.lit (.bool true))).value [] {args:=args,res:=some (.bool true),after:=args}=some (.bool (true==true))from w_eq_bool (w_res rfl) w_lit) rfl
theorem attach_call {l:OpenLaw} {n:Nat} {q:Program} {loose:List Str} {XP:(Str->Option Value)->Heap->Prop} {YP:World->Heap->Prop} {d:DefRec}
  (hn:l.most=some n) (hdf:d.params.defaults=[])
  (call: ∀ (w:World) (s₀ s₁:Shared) (mg mb:Str->Option Value) (fa:Addr) (o:Obj) (pm cd doc:Value) (a:Addr) (vs:List Value) (ns:List Int),
   Ground q loose [] XP w s₀ mg mb s₁.heap->YP w s₁.heap->
   s₁.heap.get? fa=some o->o.data=.func (docDef d.name d.params d.body d.scope pm cd doc)->s₁.heap.CodeRec cd d.name->mg d.name=some (.ref fa)->
   s₁.heap.get? a=some {cls:=.type "list",data:=.seq vs.toArray}->IntsAre vs ns->ns.length<=n->s₁.gens= #[]->
   codeAny (model l.prog w) callerA (.call (.ref fa) ⟨[.ref a],[]⟩) (λr s'=>r=.ok (.ret (.bool true))/\OldK s₁.heap s'.heap/\s'.os=s₁.os/\AllBare s'.gens) s₁):
  WalkO q loose XP YP l.row.toRowW d [] (λf vs=>PySem.call f vs):=by
 intro w s₀ s₁ mg mb G Y fa o pm cd doc dV kV ho hd hcd hD hmg hg args vals as hpre hlay hrd hwl hlo
 obtain rfl:dV=.none:=Dflts.none hD hdf
 obtain rfl:kV=.none:=Dflts.noKw hD
 obtain ⟨a,vs,ns,rfl,rfl,hobj,hints,hlen⟩:=oW hn hpre hwl
 refine enter_call (C4 (call w s₀ s₁ mg mb fa o pm cd doc a vs ns G Y ho (fd_plain hd) hcd hmg hobj hints hlen hg) λr s' hq=>?_)
 obtain ⟨rfl,h2,h3,h4⟩:=hq
 exact ⟨.inl ⟨.bool true,.bool true,[],rfl,λ_=>rfl,.bool true,pj l _,λ_=>⟨List.Pairwise.nil,λ_ hm=>(nomatch hm)⟩⟩,h2,h3,h4⟩
end Att
namespace L2
open PySem PySem.Spec PyProof.Rows
theorem jd: ∀ {vs:List Value} {ns:List Int},IntsAre vs ns->Vals (ns.map V.int) vs
 | _,_,.nil=>.nil
 | _,_,.cons n t h=>.cons ⟨t,rfl⟩ (jd h)
noncomputable def gb (s:Stmt):Arguments:=match s with
 | .FunctionDef _ a _ _ _ _ _ _ _ _=>a
 | _=>{posonlyargs:=[],args:=[],vararg:=none,kwonlyargs:=[],kw_defaults:=[],kwarg:=none,defaults:=[]}
noncomputable def bW (s:Stmt):List Stmt:=match s with
 | .FunctionDef _ _ b _ _ _ _ _ _ _=>b
 | _=>[]
noncomputable def am (s:Stmt):Scope:=match s with
 | .FunctionDef _ _ _ _ _ _ sc _ _ _=>sc
 | _=>{kind:=.function,names:=[],isGenerator:=false,isCoroutine:=false}
noncomputable abbrev CX0:CXT:=λ_ _ _ _ _ _=>False
noncomputable abbrev E0:XK:=λ_ _ _=>False
theorem rC {X:Cx}:iY CX0 X E0:=λ_ _ _ _ _ _ _ h=>h.elim
section
variable {X:Cx} {CX:CXT} {k:Nat} {f C:Addr} {fd:FuncData} {ps:List Str} {sp:Sp} {E:XK} {x:Str} {p pos:Pos} {e:Expr} {es:List Expr} {t:TA}
theorem rm (G:Cl X.prog X.w X.K X.mg X.base CX k f fd ps sp x) (hr:Room k X.A) (hx:iY CX X E) (ha:PA X (e::es) t) (hg:Gl X x:=by rfl) (hdb:(x==("__debug__":Str))=false:=by decide) (he:starEach (e::es) X.env=(false,eval e X.env)::starEach es X.env:=by rfl) (hpl:(backTo pos (starEach es X.env)).any (·.1)=false:=by rfl):
  PE X (.Call (.Name x p) (e::es) [] pos) (qF sp [] E t):=j9 G.F hr hg G.m G.c G.b .nil hx ha hdb he hpl
theorem pcl (G:Cl X.prog X.w X.K X.mg X.base CX0 k f fd ps sp x) (hr:Room k X.A) (ha:PA X (e::es) t) (hg:Gl X x:=by rfl) (hdb:(x==("__debug__":Str))=false:=by decide) (he:starEach (e::es) X.env=(false,eval e X.env)::starEach es X.env:=by rfl) (hpl:(backTo pos (starEach es X.env)).any (·.1)=false:=by rfl):
  PE X (.Call (.Name x p) (e::es) [] pos) (qF sp [] E0 t):=rm G hr rC ha hg hdb he hpl
end
structure Fun (K:W.Frag) (x qual:Str) (st:Stmt) (f:Addr) (fd:FuncData):Prop where
 ex: ∃ (oc:Value) (od:Option Addr) (kV doc pm:Value) (an:Option Addr) (cdv ct:Value) (osl:Array (Option Value)),
  fd=PySem.W.fnOf x qual (gb st) (bW st) (am st) .none kV doc pm an cdv ct/\K.lookup f=some ⟨oc,od,.func fd,osl⟩/\PySem.W.codeIn K cdv qual=true
 kp:W.keepIn K (.ref f)=true
section
variable {P:Program} {w:World} {K:W.Frag} {mg:Str->Option Value} {base:Heap}
theorem Fun.ok {x qual:Str} {st:Stmt} {f:Addr} {fd:FuncData} {N ps:List Str} {k:Nat} {sp:Sp} (F:Fun K x qual st f fd) (S:aI N ps (am st)) (len: ∀ vs H Q E,sp vs H Q E->vs.length=ps.length)
  (hbody: ∀ (cdv:Value) (A:Around) (outer:List Env) (s:Shared) (H:Hp) (vs:List V) (Q:VK) (E:XK),Room k (A.deeper (envOfC qual (am st) s.heap.objs.size f cdv))->sp vs H Q E->
   ∃ t,PSs (dq CX0 P w K mg base N qual (am st) f cdv A outer s H E).nox (bW st) t/\t {nx:=λ_ H'=>Q .non H',rt:=Q} (start N vs) H):FnOk P w K mg base CX0 (k+1) f fd ps sp:=by
 obtain ⟨oc,od,kV,doc,pm,an,cdv,ct,osl,rfl,lk,hcd⟩:=F.ex
 refine sE lk hcd S len λA outer s H vs Q E hr hsp=>?_
 obtain ⟨t,h,q⟩:=hbody cdv A outer s H vs Q E hr hsp
 exact ⟨t,h.nox,q⟩
theorem Fun.binds {x qual:Str} {st:Stmt} {f:Addr} {fd:FuncData} {ps:List Str} (F:Fun K x qual st f fd)
  (h: ∀ (kV doc pm:Value) (an:Option Addr) (cdv ct:Value) (us:List Value),us.length=ps.length->bindArgs (PySem.W.fnOf x qual (gb st) (bW st) (am st) .none kV doc pm an cdv ct) ⟨us,[]⟩=pure (ps.zip us)):Binds K fd ps []:=by
 obtain ⟨oc,od,kV,doc,pm,an,cdv,ct,osl,rfl,lk,hcd⟩:=F.ex
 exact .all (h kV doc pm an cdv ct)
end
theorem dL {A:Around} {k:Nat} (hr:Room k A):A.units+16<cLine:=AY (Nat.add_le_add_left (by decide:16<=64) _) hr.units
theorem ay {n:Nat} (h:n<=1000):n<sizeLine:=AY h (by decide)
section
variable {X:Cx}
theorem pv (i:Nat) {x:Str} {pos:Pos} (hN:X.N[i]? =some x:=by rfl) (hv:Vis X.env.scope x:=by first | exact Or.inl rfl | exact Or.inr (Or.inl rfl) | exact Or.inr (Or.inr rfl)) (hd:(x==("__debug__":Str))=false:=by decide)
  (hcd:(x==("__classdict__":Str))=false:=by decide):PE X (.Name x pos) (tJ i):=v3 hN hv hd hcd
end
theorem cE {A B:Prop} (h:B):if false=true then A else B:=by
 rw [yU zp]
 exact h
theorem bB {A B:Prop} (h:A):if true=true then A else B:=by
 rw [yW rfl]
 exact h
theorem bO {c A B:Prop} [Decidable c] (h1:c->A) (h2: ¬ c->B):if c then A else B:=by
 by_cases h:c
 ·rw [yW h]
  exact h1 h
 ·rw [yU h]
  exact h2 h
def Same (H H':Hp):Prop:= ∀ b o,H b=some o->H' b=some o
theorem Same.refl (H:Hp):Same H H:=λ_ _ h=>h
theorem Same.trans {H H1 H2:Hp} (a:Same H H1) (b:Same H1 H2):Same H H2:=λc o h=>b c o (a c o h)
theorem Same.free {H H':Hp} (e:Same H H') {l:Addr} (h:H' l=Option.none):H l=Option.none:=by
 cases q:H l with
 | none=>rfl
 | some o=>
  rw [e l o q]at h
  cases h
section
variable {κ:Type} [DecidableEq κ]
theorem qp {kvs:List (κ×V)} {k:κ} (h:bG kvs k=none): ¬ k∈kvs.map (·.1):=by
 intro m
 obtain ⟨p,hp,e⟩:=zd.mp m
 have q:(kvs.any λkv=>decide (kv.1=k))=true:=Be.mpr ⟨p,hp,zq e⟩
 rw [cM,h]at q
 exact absurd q (by simp)
theorem nL {kvs:List (κ×V)} {k:κ} {v:V} (h:bG kvs k=some v):k∈kvs.map (·.1):=by
 have q:(kvs.any λkv=>decide (kv.1=k))=true:=by
  rw [cM,h]
  all_goals rfl
 obtain ⟨p,hp,e⟩:=Be.mp q
 exact zd.mpr ⟨p,hp,zf e⟩
end
section
variable {X:Cx}
theorem rD:OpR X (compareOp .Is) (λx y H Q=> ∃ a b,x=.bl a/\y=.bl b/\Q (.bl (a==b)) H):=by
 intro pins s U H x y v u Q I rx ry h
 obtain ⟨a,b,rfl,rfl,q⟩:=h
 cases rx
 cases ry
 exact PyProof.Rows.is_bool (aT I q rfl)
theorem sP:cG X (.builtin "isinstance") (λxs H Q=> ∃ x T t b,xs=[x,.ty T]/\gj X.K H x t/\PySem.W.kitOne X.K t (.type T)=some b/\Q (.bl b) H):=by
 intro pins s U H xs us Q I r h
 obtain ⟨x,T,t,b,rfl,ty,e,q⟩:=h
 obtain ⟨u,w',rfl,ru,rw'⟩:=je r
 cases (show w'=Value.type T from rw')
 exact pV I ru ty e λtk=>⟨.bl b,H,I.tok tk,rfl,q⟩
end
noncomputable def Itw (n:Nat) (R:Nat->V->Prop):It:=⟨λi _=>i<n,λi H x H'=>H'=H/\R i x,λi _=>i=n⟩
theorem lX {P:Program} {w:World} {K:W.Frag} {tg:Expr} (it:Addr) (n:Nat) (Pv:Nat->Value->Prop) (tn:Nat->Heap->Prop) (R:Nat->V->Prop)
  (hW: ∀ A:Around,A.handled=none->Walks P w A it [it] [it] n Pv tn)
  (hobj: ∀ i h,tn i h-> ∃ (o:Obj) (nm:String) (vs:Array Value),h.get? it=some o/\o.cls=.type nm/\o.data=.fields vs/\
   ["enumerate","zip","dict_itemiterator","dict_reverseitemiterator","odict_iterator","itertools.zip_longest","itertools.pairwise"].contains nm=false)
  (hP: ∀ i v,Pv i v-> ∃ x,RelV x v/\R i x)
  (hself: ∀ (A:Around) (i:Nat) (s:Shared) (Q:Value->Shared->Prop) (E:Value->Shared->Prop),tn i s.heap->Q (.ref it) s->wpAny (model P w) A (pyIter (.ref it)) Q E s):qg P w K tg (Itw n R) [it] it tn where
 mem:=by simp
 obj:=λi h st b hb=>by
  have e:b=it:=by simpa using hb
  subst e
  obtain ⟨o,nm,vs,e,_,d,_⟩:=hobj i h st
  exact ⟨o,e,λv z=>by rw [d]at z;cases z⟩
 keep:=λi h h' st k=>(hW callerA rfl).frame i h h' st λb hb o e=>k b hb o e
 item:=by
  intro X hP' hw hK hc i pins s U H E I hf st hg
  subst hP' hw hK
  obtain ⟨f0,f1,f2,f3,f4,f5⟩:=hf it (by simp)
  refine (hW X.A (I.ok.hd hc)).item i s _ _ hg st λv h' tk hv st' kk=>?_
  obtain ⟨x,rx,qx⟩:=hP i v hv
  have I1:Inv X pins U H {s with heap:=h',toks:=tk}:=I.turned (λb o hb e=>kk b o (by simpa using hb) e) f0 f1 f3 f4 f5
  obtain ⟨o,nm,vs,e,c,d,ne⟩:=hobj _ _ st'
  exact ⟨v,rfl,ox (s:={s with heap:=h',toks:=tk}) e c d ne ⟨x,H,I1,rx,⟨rfl,qx⟩,st',λb hb=>(hf b hb).1⟩⟩
 done:=by
  intro X hP' hw hK hc i pins s U H E I hf st hg
  subst hP' hw hK
  obtain ⟨f0,f1,f2,f3,f4,f5⟩:=hf it (by simp)
  have hg':i=n:=hg
  subst hg'
  exact (hW X.A (I.ok.hd hc)).done s _ _ st λh' tk kk=>⟨rfl,I.turned (t':=tk) (λb o hb e=>kk b o (by simpa using hb) e) f0 f1 f3 f4 f5⟩
 self:=hself
theorem sD {n:Nat} {R:Nat->V->Prop} {g:TG} {tb:TS} {D:eW} {U:St} {H:Hp} (Pv:Nat->St->Hp->Prop) (h0:Pv 0 U H)
  (hs: ∀ i x U H,i<n->R i x->Pv i U H->g x U H λU2 H2=>tb {D with nx:=Pv (i+1),ct:=Pv (i+1),bk:=D.nx} U2 H2) (hd: ∀ U H,Pv n U H->D.nx U H):
  ∃ W:Nat->Nat->St->Hp->Prop,(∃ m,W 0 m U H)/\ ∀ i m U H,W i m U H->
   ((Itw n R).stop i H/\D.nx U H)\/((Itw n R).go i H/\ ∃ N:St->Hp->Prop,(∀ U' H',N U' H'-> ∃ m',m'<m/\W (i+1) m' U' H')/\ ∀ x H',(Itw n R).yld i H x H'->g x U H' λU2 H2=>tb {D with nx:=N,ct:=N,bk:=D.nx} U2 H2):=by
 refine ⟨λi m U H=>i<=n/\m=n-i/\Pv i U H,⟨n,y9 _,by simp,h0⟩,?_⟩
 rintro i m U H ⟨hi,hm,p⟩
 by_cases e:i=n
 ·subst e
  exact .inl ⟨rfl,hd U H p⟩
 ·have hlt:i<n:=by lia
  refine .inr ⟨hlt,Pv (i+1),λU' H' p'=>⟨n- (i+1),by lia,by lia,rfl,p'⟩,?_⟩
  rintro x H' ⟨rfl,r⟩
  exact hs i x U H' hlt r p
section
variable {X:Cx} {tg:Expr}
noncomputable def xJ (ta:TA):TI:=λU H R=>ta U H λvs H1=> ∃ i j c:Int,vs=[.int i,.int j,.int c]/\(-(2^40)<=i/\i<2^40/\ -(2^40)<=j/\j<2^40/\0<c/\c<2^20)/\
 R (Itw (Builtin.Range.rangeSize i j c).toNat λk v=>v=.int (i+k*c)) H1
theorem mq {a b c:Int} (h1: -(2^40)<=a) (h2:a<2^40) (h3: -(2^40)<=b) (h4:b<2^40) (h5:0<c) (h6:c<2^20):Builtin.Range.small a b c=true:=by
 have hz:Builtin.Range.rangeSize a b c<=2^41/\0<=Builtin.Range.rangeSize a b c:=by
  unfold Builtin.Range.rangeSize
  rw [yW h5]
  split
  ·have e1:(b-a-1) /c<=b-a-1:=Int.ediv_le_self _ (by lia)
   have e2:0<=(b-a-1) /c:=Int.ediv_nonneg (by lia) (by lia)
   lia
  ·lia
 unfold Builtin.Range.small
 simp only [Builtin.Range.rangeFitsLong,zM,Bool.or_eq_true,A6,DA,show c>0 from h5,AM]
 lia
theorem pk {a b c:Expr} {ta:TA} {p pos:Pos} (hg:Gl X "range") (hm:X.mg "range"=none) (ha:PA X [a,b,c] ta) (hs:starEach [a,b,c] X.env=[(false,eval a X.env),(false,eval b X.env),(false,eval c X.env)]:=by rfl)
  (hs2:starEach [b,c] X.env=[(false,eval b X.env),(false,eval c X.env)]:=by rfl):PI X tg (.Call (.Name "range" p) [a,b,c] [] pos) (xJ ta):=by
 intro pins s U H R I h
 refine Call_ (cV I hg hm boot_range (Ai (thn (ha pos pins s U H _ I h) λus s1 ⟨vs,H1,I1,r1,q1⟩=>?_) (by rw [hs,hs2]) (by rw [hs2];rfl)))
 obtain ⟨i,j,c,e,⟨q1,q2,q3,q4,q5,q6⟩,q⟩:=q1
 subst e
 cases r1 with
 | cons r rr=>
  cases rr with
  | cons r' rr=>
   cases rr with
   | cons r'' rr=>
    cases rr
    obtain ⟨t,rfl⟩:=r
    obtain ⟨t',rfl⟩:=r'
    obtain ⟨t'',rfl⟩:=r''
    refine call_range_3 (by lia) ?_ (Or.inl (PyProof.noPylong_small (by lia)))
    refine wpAny_pyIter_range (IsRange.new ..) (mq q1 q2 q3 q4 q5 q6) ?_
    have I2:Inv X pins U H1 {s1 with heap:=s1.heap.push {cls:=.type "range",data:=.fields #[.int i t,.int j t',.int c t'']}}:=I1.kept (t':=s1.toks) λb o e=>yQ _ e
    have hn:0<=Builtin.Range.rangeSize i j c:=by
     unfold Builtin.Range.rangeSize
     rw [yW q5]
     split
     ·have:=Int.ediv_nonneg (a:=j-i-1) (b:=c) (by lia) (by lia)
      lia
     ·lia
    refine ⟨(s1.heap.push {cls:=.type "range",data:=.fields #[.int i t,.int j t',.int c t'']}).objs.size,[(s1.heap.push {cls:=.type "range",data:=.fields #[.int i t,.int j t',.int c t'']}).objs.size],_,_,H1,rfl,
     I2.kept (t':=s1.toks) λb o e=>yQ _ e,
     lX _ (Builtin.Range.rangeSize i j c).toNat _ _ (λk v=>v=.int (i+k*c)) (λA hA=>Walks.range hA _ i c _) (λk h st=>⟨_,"range_iterator",_,st,rfl,rfl,by decide⟩) (λk v hv=>?_) (λ_ _ _ _ _ st h=>wpAny_pyIter_rangeiter st h),?_,λb hb=>?_,q⟩
    ·obtain ⟨tt,rfl⟩:=hv
     exact ⟨.int (i+k*c),⟨tt,rfl⟩,rfl⟩
    ·show IsRangeIter _ _ (i+ ((0:Nat):Int) *c) (((Builtin.Range.rangeSize i j c).toNat:Int) - ((0:Nat):Int)) c
     have e1:i+ ((0:Nat):Int) *c=i:=by simp
     have e2:(((Builtin.Range.rangeSize i j c).toNat:Nat):Int) - ((0:Nat):Int)=Builtin.Range.rangeSize i j c:=by lia
     rw [e1,e2]
     exact y6 _ rfl
    ·have e:b=(s1.heap.push {cls:=.type "range",data:=.fields #[.int i t,.int j t',.int c t'']}).objs.size:=by simpa using hb
     subst e
     exact I2.fpOk (yV _) I2.fresh
end
theorem fZ {α β:Type} {f:α->β->Sem (ForInStep β)} (g:β->α->β): ∀ {l:List α} (c:β),(∀ x∈l,∀ c,f x c=pure (.yield (g c x)))->forIn l c f=pure (l.foldl g c)
 | [],c,_=>rfl
 | x::l,c,h=>by
  have hx:=h x yT c
  rw [Aj,hx,pure_bind]
  exact fZ g (g c x) λy hy=>h y (yY _ hy)
noncomputable def bM (cells:List (Str×Addr)) (c:List (Str×Addr)) (x:Str×NameKind):List (Str×Addr):=
 if x.2=.free then (match cells.lookup x.1 with | some a=>(x.1,a)::c | none=>c)else c
noncomputable def bo (cells:List (Str×Addr)) (names:List (Str×NameKind)):List (Str×Addr):=names.foldl (bM cells) []
theorem bZ {scope:Scope} {env:Env} (h: ∀ x∈scope.names,x.2=.free-> ∃ c,env.cells.lookup x.1=some c):closureFor scope env=pure (bo env.cells scope.names):=by
 simp only [closureFor]
 rw [fZ (bM env.cells) [] (λx hx c=>by
  obtain ⟨n,kind⟩:=x
  by_cases hk:kind=.free
  ·subst hk
   obtain ⟨a,ha⟩:=h _ hx rfl
   simp only [bM,AM,Dq,cellOf,ha,pure_bind]
  ·have hb:(kind==NameKind.free)=false:=by simpa using hk
   simp only [bM,hb,hk,zg,zX])]
 rfl
theorem iU {cells:List (Str×Addr)}: ∀ {names:List (Str×NameKind)} {acc:List (Str×Addr)},(∀ p∈acc,cells.lookup p.1=some p.2)-> ∀ p∈names.foldl (bM cells) acc,cells.lookup p.1=some p.2
 | [],_,h=>h
 | x::r,acc,h=>by
  refine iU (names:=r) (acc:=bM cells acc x) ?_
  intro p hp
  unfold bM at hp
  split at hp
  ·split at hp
   ·rename_i a ha
    rcases za.mp hp with e | e
    ·subst e
     exact ha
    ·exact h p e
   ·exact h p hp
  ·exact h p hp
theorem iV {cells:List (Str×Addr)}: ∀ {names:List (Str×NameKind)} {acc:List (Str×Addr)} {p:Str×Addr},p∈acc->p∈names.foldl (bM cells) acc
 | [],_,_,h=>h
 | x::r,acc,p,h=>by
  refine iV (names:=r) (acc:=bM cells acc x) ?_
  unfold bM
  split
  ·split
   ·exact yY _ h
   ·exact h
  ·exact h
theorem lR {cells:List (Str×Addr)} {n:Str} {c:Addr} (hc:cells.lookup n=some c): ∀ {names:List (Str×NameKind)} {acc:List (Str×Addr)},(n,NameKind.free)∈names->(n,c)∈names.foldl (bM cells) acc
 | [],_,h=>by simp at h
 | x::r,acc,h=>by
  rcases za.mp h with e | e
  ·subst e
   refine iV (names:=r) ?_
   simp [bM,hc]
  ·exact lR hc (names:=r) e
theorem mem_of_lookup {α β:Type} [BEq α] [LawfulBEq α] {k:α} {v:β}: ∀ {l:List (α×β)},l.lookup k=some v->(k,v)∈l
 | [],h=>by simp at h
 | (a,b)::r,h=>by
  rw [Du]at h
  split at h
  ·rename_i e
   have:=eq_of_beq e
   subst this
   cases h
   exact yT
  ·exact yY _ (mem_of_lookup h)
theorem fb {α β:Type} [BEq α] [LawfulBEq α] {k:α} {v:β}: ∀ {l:List (α×β)},(k,v)∈l-> ∃ v',l.lookup k=some v'
 | [],h=>by simp at h
 | (a,b)::r,h=>by
  rw [Du]
  split
  ·exact ⟨b,rfl⟩
  ·rename_i e
   rcases za.mp h with q | q
   ·cases q
    simp at e
   ·exact fb q
theorem bz {cells:List (Str×Addr)} {names:List (Str×NameKind)} {n:Str} {c:Addr} (h:(bo cells names).lookup n=some c):cells.lookup n=some c:=
 iU (names:=names) (acc:=[]) (by simp) (n,c) (mem_of_lookup h)
theorem bK {cells:List (Str×Addr)} {names:List (Str×NameKind)} {n:Str} {c:Addr} (hc:cells.lookup n=some c) (h:(n,NameKind.free)∈names):(bo cells names).lookup n=some c:=by
 obtain ⟨c',e⟩:=fb (lR hc (acc:=[]) h)
 have:=bz e
 rw [hc]at this
 cases this
 exact e
noncomputable def aY (sc0 scope:Scope):List (Str×NameKind):=
 scope.names.map λ(n,k)=>if (k== .free&&sc0.kind== .function&&sc0.names.lookup n==some .cell)then (n,.cell)else (n,k)
structure gL (sc0:Scope) (N0:List Str) (scope:Scope) (x:Str) (ys:List Str) (fr:List Nat):Prop where
 kind:scope.kind=.function
 nocell: ∀ y∈scope.names,y.2≠ .cell
 loc: ∀ y∈scope.names,y.2=.local->scope.names.lookup y.1=some .local
 xl:(aY sc0 scope).lookup x=some .local
 free: ∀ y∈scope.names,y.2=.free->sc0.names.lookup y.1=some .cell
 nd:(x::ys).Nodup
 len:ys.length=fr.length
 sl: ∀ q∈ys.zip fr,N0[q.2]? =some q.1/\sc0.names.lookup q.1=some .cell/\(aY sc0 scope).lookup q.1=some .cell
theorem cok {sc0:Scope} {N0:List Str} {scope:Scope} {x:Str} {ys:List Str} {fr:List Nat} (kind_:scope.kind=.function:=by rfl) (nocell_: ∀ y∈scope.names,y.2≠ .cell:=by decide +kernel) (loc_: ∀ y∈scope.names,y.2=.local->scope.names.lookup y.1=some .local:=by decide +kernel) (xl_:(aY sc0 scope).lookup x=some .local:=by decide +kernel) (free_: ∀ y∈scope.names,y.2=.free->sc0.names.lookup y.1=some .cell:=by decide +kernel) (nd_:(x::ys).Nodup:=by decide +kernel) (len_:ys.length=fr.length:=by rfl) (sl_: ∀ q∈ys.zip fr,N0[q.2]? =some q.1/\sc0.names.lookup q.1=some .cell/\(aY sc0 scope).lookup q.1=some .cell:=by decide +kernel):gL sc0 N0 scope x ys fr:=⟨kind_,nocell_,loc_,xl_,free_,nd_,len_,sl_⟩
noncomputable def bi (X:Cx) (x:Str) (ys:List Str) (scope:Scope) (C:Addr) (s:Shared) (H:Hp) (ex:List Addr):Cx:=
 {X with N:=x::ys,s₀:=s,H₀:=H,env:=compEnvC scope (bo X.env.cells scope.names) C X.env,outer:=X.stack,stack:=X.stack,ex:=ex,fn:=λ_=>false,pn:=[],xe:=λ_ _=>False}
section
variable {prog:Program} {w:World} {A:Around} {R:Result->Shared->Prop} {s:Shared}
theorem fe {elt target iter:Expr} {scope:Scope} {pos:Pos} {it acc:Value} {env:Env} (I:Nat->Shared->Prop)
  (turn: ∀ n s,I n s->wpAny (model prog w) A (pyNext it) (λr s₁=>match r with
   | none=>R (.ok .next) s₁
   | some v=>wpAny (model prog w) A (letOwnedTupleGo target it v) (λ_ s₁'=>wpAny (model prog w) A (assign target env v) (λ_ s₂=>wpAny (model prog w) A (eval elt env) (λx s₃=>
     wpAny (model prog w) A (call (.builtin "list.append") [acc,x]) (λ_ s₄=> ∃ m,m<n/\I m s₄) (λ_ _=>False) s₃) (λ_ _=>False) s₂) (λ_ _=>False) s₁') (λ_ _=>False) s₁) (λ_ _=>False) s)
  (n:Nat) (h:I n s):codeAny (model prog w) A (.compLoop (.ListComp elt [⟨target,iter,[],0⟩] scope pos) 0 it acc env) R s:=by
 refine codeAny_loop rfl I (λn s hI=>?_) n h
 show wpAny _ _ ((compTurn (.ListComp elt [⟨target,iter,[],0⟩] scope pos) 0 it acc env).onRaise (λx=>do noteFrame x env;theTreesLotGoes x)) _ _ s
 refine wpAny_noted ?_
 rw [compTurn_list1]
 refine wpAny_noRaise ?_
 refine yO (Cd (yO (Ac (turn n s hI) (λr s₁ h₁=>?_) λ_ _ h'=>h')))
 cases r with
 | none=>exact yR h₁
 | some v=>
  refine yO (Ac h₁ (λ_ s₁' h₁'=>?_) λ_ _ h'=>h')
  exact yO (Ac h₁' (λ_ s₂ h₂=>yO (yO (Ac h₂ (λx s₃ h₃=>yO (Ac h₃
   (λ_ s₄ h₄=>yR (yR ⟨rfl,h₄⟩)) λ_ _ h'=>h')) λ_ _ h'=>h'))) λ_ _ h'=>h')
end
noncomputable def bg (fr:List Nat) (U:St):St:=fr.map λj=>(U[j]?).join
def ig (fr:List Nat) (te:TE) (U:St) (J:It) (H1:Hp) (Q:VK):Prop:=
 ∀ p,H1 p=none-> ∃ W:Nat->Nat->List V->Hp->Prop,(∃ m,W 0 m [] (upd H1 p (.lst [])))/\ ∀ i m ys H,W i m ys H->H p=some (.lst ys)/\
  ((J.stop i H/\Q (.ref p) H)\/(J.go i H/\ys.length<sizeLine/\ ∀ x H',J.yld i H x H'->te (some x::bg fr U) H' λv H2=>
   H2 p=some (.lst ys)/\ ∃ m',m'<m/\W (i+1) m' (ys++[v]) (upd H2 p (.lst (ys++[v])))))
def qE (wi:TI) (fr:List Nat) (te:TE):TE:=λU H Q=>wi U H λJ H1=>ig fr te U J H1 Q
section
variable {X:Cx} {x:Str} {px pos fpos:Pos} {iter elt:Expr} {scope sc0:Scope} {N0 ys:List Str} {fr:List Nat} {wi:TI} {te:TE} {pins:List (Addr×Obj)} {U:St} {H:Hp} {s:Shared}
theorem jD {use:Option (Value->Sem Unit)} {Qv:Value->Shared->Prop} {Q:VK} (hcalm:X.calm=true) (hi:PI X (.Name x px) iter wi) (hsc:X.env.scope=sc0) (hN:X.N=N0) (ok:gL sc0 N0 scope x ys fr)
  (hE: ∀ C s H ex,PE (bi X x ys scope C s H ex) elt te) (I:Inv X pins U H s) (h:qE wi fr te U H Q) (hs: ∀ v,foldedSetIterable iter X.env v=pure v)
  (fin: ∀ (p C:Addr) (H':Hp) (s':Shared) (m:Str->Option Value),Inv X pins U H' s'->s'.heap.Ns C m->H' C=none->C≠X.env.locals->X.s₀.heap.objs.size<=C->(∀ y c,X.env.cells.lookup y=some c->c≠C)->(∀ q∈X.pn++pins,q.1≠C)->Q (.ref p) H'->
   compPost (model X.prog X.w) X.A X.xe use Qv (.ref p) C (.ok .next) s'):
  wpAny (model X.prog X.w) X.A (comprehension (.ListComp elt [⟨.Name x px,iter,[],0⟩] scope pos) scope X.env fpos (newList []) false (eval iter X.env) use) Qv X.xe s:=by
 subst hsc hN
 have hkof: ∀ y,X.env.kindOf y=X.env.scope.names.lookup y:=λy=>rfl
 have hfree: ∀ y∈scope.names,y.2=.free-> ∃ c,X.env.cells.lookup y.1=some c:=λy hy e=>I.ok.has y.1 (.inl (ok.free y hy e))
 refine Bu (gs:=[]) rfl hs (bZ hfree) ok.kind ok.loc (thn (hi pins s U H _ I h) λv s1 h1=>thn h1 λitv s2 h2=>?_)
 obtain ⟨it,fp,tn,J,H2,e,I2,T,st2,f2,hp⟩:=h2
 subst e
 refine zZ (Br ok.nocell (by intro y hy;simp at hy) (λh₁ hns₁ hsb₁=>?_) ok.kind)
 dsimp only at hns₁ hsb₁ ⊢
 have I3:Inv X pins U (upd H2 s2.heap.objs.size (.lst [])) {s2 with heap:=s2.heap.push {cls:=.type "list",data:=.seq ([]:List Value).toArray}}:=
  I2.lnew (its:=[]) (ys:=[]) (t':=s2.toks) .nil (y9 _)
 have hf2: ∀ b∈fp,b<s2.heap.objs.size:=λb hb=>by
  obtain ⟨o,e,_⟩:=T.obj _ _ st2 b hb
  exact y2 e
 have hps:s2.heap.objs.size< (s2.heap.push {cls:=.type "list",data:=.seq ([]:List Value).toArray}).objs.size:=by rw [Aw];exact AZ _
 have W0:=hp s2.heap.objs.size I2.fresh
 have st3:tn 0 (s2.heap.push {cls:=.type "list",data:=.seq ([]:List Value).toArray}):=T.keep _ _ _ st2 λb hb o e=>yQ _ e
 generalize hpp:s2.heap.objs.size=p at I3 W0 hf2 hps ⊢
 generalize hh3:(s2.heap.push {cls:=.type "list",data:=.seq ([]:List Value).toArray})=h3 at I3 hns₁ hsb₁ hps st3 ⊢
 generalize hH3:upd H2 p (.lst [])=H3 at I3 W0
 have hold: ∀ b o,h3.get? b=some o->h₁.get? b=some o:=λb o e=>hsb₁.extBut b o (zi (y2 e)) (yQ _ e)
 have fH3: ∀ b∈fp,H3 b=none:=λb hb=>by
  rw [<- hH3,ak (zi (hf2 b hb))]
  exact (f2 b hb).1
 have hclos: ∀ y c,(bo X.env.cells scope.names).lookup y=some c->X.env.cells.lookup y=some c:=λy c e=>bz e
 have hcell3: ∀ y c,X.env.cells.lookup y=some c->c<h3.objs.size:=λy c e=>by
  obtain ⟨v,o,ho,_⟩:=I3.cell y c e
  exact y2 ho
 have hlt3:X.env.locals<h3.objs.size:=I3.lt
 have Yok:(bi X x ys scope h3.objs.size {s2 with heap:=h3} H3 fp).Ok:={
  mod:=I.ok.mod
  kind:=ok.kind
  glob:=I.ok.glob
  blt:=I.ok.blt
  above:=yV _
  inj:=λy z c e1 e2=>I.ok.inj y z c (hclos _ _ e1) (hclos _ _ e2)
  has:=λy hk=>by
   have hfr:(y,NameKind.free)∈scope.names:=by
    have hm: ∃ k,(aY X.env.scope scope).lookup y=some k/\(k=.cell\/k=.free):=by
     rcases hk with hk | hk
     ·exact ⟨_,hk,.inl rfl⟩
     ·exact ⟨_,hk,.inr rfl⟩
    obtain ⟨k,hk,hkk⟩:=hm
    have hmem:=mem_of_lookup hk
    unfold aY at hmem
    obtain ⟨⟨n,k0⟩,hn,en⟩:=zd.mp hmem
    dsimp only at en
    split at en
    ·rename_i hc
     simp only [zM]at hc
     have hk0:k0=.free:=by simpa using hc.1.1
     cases en
     rw [<- hk0]
     exact hn
    ·cases en
     rcases hkk with e | e
     ·exact absurd e (ok.nocell _ hn)
     ·rw [<- e]
      exact hn
   obtain ⟨c,hc⟩:=hfree _ hfr rfl
   exact ⟨c,bK hc hfr⟩
  cab:=λy c hf _=>by cases hf
  hd:=I.ok.hd
  frames:=I.ok.frames
  stk:=.inl rfl
  exf:=λb hb=>⟨λe=>absurd (hf2 b hb) (by rw [e];exact BP.mpr (zR hps)),λy c e=>(f2 b hb).2.2.2.2.1 y c (hclos _ _ e)⟩
  bs:=λb o e=>⟨(I3.bs b o e).1,(I3.bs b o e).2⟩
  bsz:=zc I.ok.bsz I3.sz
  noex:=λb o e hb=>by
   rcases (f2 b hb).2.2.2.1 with q | q
   ·exact I.ok.noex b o e q
   ·have h1:b<X.base.objs.size:=y2 e
    exact absurd h1 (BP.mpr (zc I.ok.bsz q))
  exfs:=λb hb hm=>by
   rcases za.mp (I3.stkSub b hm)with q | q
   ·exact (f2 b hb).2.1 q
   ·exact (f2 b hb).2.2.1 q
  funs:=I3.stack
  frf:=I3.stkFree}
 have IY:Inv (bi X x ys scope h3.objs.size {s2 with heap:=h3} H3 fp) [] (none::bg fr U) H3 {s2 with heap:=h₁,toks:=s2.toks+ ([]:List (Str×Value)).length}:={
  ok:=Yok
  os:=rfl
  bare:=I2.bare
  base:=Un.kept hold
  loc:=by
   refine ⟨_,hns₁,λi y v hy hv hvis=>?_⟩
   cases i with
   | zero=>cases hv
   | succ j=>
    have hy':ys[j]? =some y:=hy
    have hv':(bg fr U)[j]? =some (some v):=hv
    unfold bg at hv'
    rw [zo]at hv'
    obtain ⟨i0,hi0,hv0⟩:=Af.mp hv'
    have hz:(y,i0)∈ys.zip fr:=by
     refine AE.mpr ⟨j,?_⟩
     rw [AA]
     exact ⟨hy',hi0⟩
    obtain ⟨hn,hk,hk2⟩:=ok.sl _ hz
    have hU:U[i0]? =some (some v):=by
     cases e:U[i0]? with
     | none=>rw [e]at hv0;cases hv0
     | some o=>
      rw [e]at hv0
      rw [show o=some v from hv0]
    obtain ⟨m,hm,hl⟩:=I3.loc
    obtain ⟨u,ru,lk⟩:=hl i0 y v hn hU (.inr (.inl hk))
    refine ⟨u,ru,.inr ⟨.inl hk2,?_⟩⟩
    rcases lk with ⟨a,_⟩ | ⟨_,c,hc,hcell⟩
    ·have a':X.env.scope.names.lookup y=some .local:=a
     have hk':X.env.scope.names.lookup y=some .cell:=hk
     rw [hk']at a'
     cases a'
    ·have hfr:(y,NameKind.free)∈scope.names:=by
      have hmem:=mem_of_lookup hk2
      unfold aY at hmem
      obtain ⟨⟨n,k0⟩,hn0,en⟩:=zd.mp hmem
      dsimp only at en
      split at en
      ·rename_i hc0
       simp only [zM]at hc0
       have hk0:k0=.free:=by simpa using hc0.1.1
       cases en
       rw [<- hk0]
       exact hn0
      ·cases en
       exact absurd rfl (ok.nocell _ hn0)
     exact ⟨c,bK hc hfr,hcell.keeps hold⟩
  cell:=λy c e=>by
   obtain ⟨v,hv⟩:=I3.cell y c (hclos _ _ e)
   exact ⟨v,hv.keeps hold⟩
  free:=I3.fresh
  freeC:=λy c e=>I3.freeC y c (hclos _ _ e)
  pin:=λq hq=>by cases hq
  hok:=I3.hok.kept hold
  len:=by
   show (none::bg fr U).length=(x::ys).length
   rw [zn,zn,ok.len]
   unfold bg
   rw [yP]}
 have hxl:(bi X x ys scope h3.objs.size {s2 with heap:=h3} H3 fp).env.scope.names.lookup x=some .local:=ok.xl
 have pgx:PG (bi X x ys scope h3.objs.size {s2 with heap:=h3} H3 fp) (.Name x px) (fc 0):=aw (i:=0) ok.nd rfl (.inl hxl) (.inr hxl)
 have pel:=hE h3.objs.size {s2 with heap:=h3} H3 fp
 obtain ⟨W,⟨m0,w0⟩,turn⟩:=W0
 have stat: ∀ {H':Hp},(∀ b∈fp,H' b=none)-> ∀ b∈fp,fC (bi X x ys scope h3.objs.size {s2 with heap:=h3} H3 fp) [] H' b:=λhn b hb=>
  ⟨hn b hb,(Yok.exf b hb).1,Yok.exfs b hb,.inl hb,(Yok.exf b hb).2,λq hq=>by cases hq⟩
 have loop:codeAny (model X.prog X.w) X.A (.compLoop (.ListComp elt [⟨.Name x px,iter,[],0⟩] scope pos) 0 (.ref it) (.ref p) (compEnvC scope (bo X.env.cells scope.names) h3.objs.size X.env))
   (compPost (model X.prog X.w) X.A X.xe use Qv (.ref p) h3.objs.size) {s2 with heap:=h₁,toks:=s2.toks+ ([]:List (Str×Value)).length}:=by
  refine fe (λn s'=> ∃ i zs v0 H',Inv (bi X x ys scope h3.objs.size {s2 with heap:=h3} H3 fp) [] (v0::bg fr U) H' s'/\tn i s'.heap/\(∀ b∈fp,H' b=none)/\W i n zs H') ?_ m0
   ⟨0,[],none,H3,IY,T.keep _ _ _ st3 λb hb o e=>hold b o e,fH3,w0⟩
  rintro n s5 ⟨i,zs,v0,H5,I5,st5,fr5,w5⟩
  obtain ⟨hacc,turn5⟩:=turn i n zs H5 w5
  rcases turn5 with ⟨stop,qn⟩ | ⟨go,hlen,step⟩
  ·refine thn (T.done (bi X x ys scope h3.objs.size {s2 with heap:=h3} H3 fp) rfl rfl rfl hcalm i [] s5 _ H5 _ I5 (stat fr5) st5 stop) λr s6 ⟨hr,I6⟩=>?_
   subst hr
   obtain ⟨m6,n6,_⟩:=I6.loc
   refine fin p h3.objs.size H5 s6 m6 (I3.call' I6.os I6.base I6.hok I6.bare λb hb=>⟨(f2 b hb).2.2.2.1,(f2 b hb).2.1,(f2 b hb).2.2.2.2.1,(f2 b hb).2.2.2.2.2⟩) n6 I6.free (As hlt3) I3.sz (λy c e=>zi (hcell3 y c e)) (λq hq=>?_) qn
   exact zi (y2 (I3.pin q hq).1)
  ·refine thn (T.item (bi X x ys scope h3.objs.size {s2 with heap:=h3} H3 fp) rfl rfl rfl hcalm i [] s5 _ H5 _ I5 (stat fr5) st5 go) λr s6 ⟨u,hr,h6⟩=>?_
   subst hr
   refine thn h6 λ_ s7 ⟨xv,H7,I7,r7,y7,st7,fr7⟩=>?_
   have I7':=I7.pinned (stat fr7) (T.obj _ _ st7)
   refine thn (pgx _ s7 _ H7 xv u (λU' H'=>U'=some xv::bg fr U/\H'=H7) I7' r7 ⟨rfl,rfl⟩) λ_ s8 ⟨U8,H8,I8,e8,e8'⟩=>?_
   subst e8 e8'
   refine thn (pel _ s8 _ H8 _ I8 (step xv H8 y7)) λyv s9 ⟨v9,H9,I9,r9,hp9,m',hm',w9⟩=>?_
   refine thn (bu _ s9 _ H9 (.ref p) [v9] (.ref p) [yv] (λ_ H'=>H'=upd H9 p (.lst (zs++[v9]))) I9 rfl (.cons r9 .nil) ⟨p,zs,v9,rfl,rfl,hp9,hlen,rfl⟩) λ_ s10 ⟨_,H10,I10,_,e10⟩=>?_
   subst e10
   refine ⟨m',hm',i+1,zs++[v9],some xv,_,I10.unpinned,T.keep _ _ _ st7 λb hb o e=>(I10.pin (b,o) (yS _ (yS _ (a7 hb e)))).1,λb hb=>?_,w9⟩
   obtain ⟨o,e,d⟩:=T.obj _ _ st7 b hb
   exact (I10.pin (b,o) (yS _ (yS _ (a7 hb e)))).2.1
 exact BG loop (T.self X.A 0 _ _ _ (T.keep _ _ _ st3 λb hb o e=>hold b o e) loop)
theorem cI (hcalm:X.calm=true) (hi:PI X (.Name x px) iter wi) (hsc:X.env.scope=sc0) (hN:X.N=N0) (ok:gL sc0 N0 scope x ys fr)
  (hE: ∀ C s H ex,PE (bi X x ys scope C s H ex) elt te) (hs: ∀ v,foldedSetIterable iter X.env v=pure v:=by intro _;rfl):
  PE X (.ListComp elt [⟨.Name x px,iter,[],0⟩] scope pos) (qE wi fr te):=by
 intro pins s U H Q I h
 rw [Dk]
 refine jD (use:=none) (Qv:=EP X pins U Q) (Q:=Q) hcalm hi hsc hN ok hE I h hs λp C H' s' m I' hn h0 h1 h2 h3 h4 q=>?_
 refine ⟨m,hn,λh' sb=>⟨.ref p,H',I'.turned (t':=s'.toks) (λb o hb e=>sb.extBut b o hb e) h0 (zT (zT h1)) (.inr h2) h3 h4,rfl,q⟩⟩
theorem eL {i:Nat} {y:Str} {py spos:Pos} (hcalm:X.calm=true) (hnd:X.N.Nodup) (hiN:X.N[i]? =some y) (hy:Loc X.env.scope y) (hi:PI X (.Name x px) iter wi) (hsc:X.env.scope=sc0) (hN:X.N=N0) (ok:gL sc0 N0 scope x ys fr)
  (hE: ∀ C s H ex,PE (bi X x ys scope C s H ex) elt te) (hsw:swapsWith (.ListComp elt [⟨.Name x px,iter,[],0⟩] scope pos) (some (.Name y py)) spos.line X.env=pure true:=by rfl)
  (hs: ∀ v,foldedSetIterable iter X.env v=pure v:=by intro _;rfl) (hf:X.fn y=true\/X.env.scope.names.lookup y=some .local:=by first | exact .inl rfl | exact .inr rfl | assumption):
  PS X (.Assign [.Name y py] (.ListComp elt [⟨.Name x px,iter,[],0⟩] scope pos) spos) (tP (qE wi fr te) (fc i)):=by
 intro pins s U H D I h
 rw [exec_Assign_Name_used _ _ _ _ hsw]
 refine yO (Cd (yO ?_))
 show wpAny _ X.A (do let _ <- comprehension (.ListComp elt [⟨.Name x px,iter,[],0⟩] scope pos) scope X.env _ (newList []) false (eval iter X.env) (some (assign (.Name y py) X.env))) _ _ s
 refine yO (thn (jD (use:=some (assign (.Name y py) X.env)) (Qv:=λ_ s'=>SP X pins D .next s') (Q:=λv H'=>D.nx (U.set i (some v)) H') hcalm hi hsc hN ok hE I h hs λp C H' s' m I' hn h0 h1 h2 h3 h4 q=>?_) λ_ s' hq=>yR (yR hq))
 show wpAny _ X.A (assign (.Name y py) X.env (.ref p)) _ _ s'
 refine wpAny_assign_Name (jm (v:=.ref p) I' hnd hiN hy rfl (λs'' I'' ⟨a,sb,ha⟩=>?_) hf)
 have hCa:C≠a:=by
  rcases ha with e | e
  ·rw [e];exact h1
  ·exact (h3 y a e).symm
 refine ⟨m,hn.sameBut sb hCa,λh' sb'=>⟨_,H',I''.turned (t':=s''.toks) (λb o hb e=>sb'.extBut b o hb e) h0 h1 (.inr h2) h3 h4,q⟩⟩
theorem eS {n:Nat} {J:It} {H1:Hp} {Q:VK} {R:Nat->V->Prop} (hn:n<=1000) (hgo: ∀ i H,i<n->J.go i H) (hstop: ∀ H,J.stop n H) (hy: ∀ i H v H',J.yld i H v H'->H'=H/\R i v)
  (Pv:Addr->Nat->List V->Hp->Prop) (h0: ∀ p,H1 p=none->Pv p 0 [] (upd H1 p (.lst []))) (hl: ∀ p i zs H,Pv p i zs H->H p=some (.lst zs)/\zs.length=i)
  (hs: ∀ p i zs H v (k:VK),H1 p=none->i<n->R i v->Pv p i zs H->(∀ u H2,H2 p=some (.lst zs)->Pv p (i+1) (zs++[u]) (upd H2 p (.lst (zs++[u])))->k u H2)->te (some v::bg fr U) H k)
  (hd: ∀ p zs H,H1 p=none->Pv p n zs H->Q (.ref p) H):ig fr te U J H1 Q:=by
 intro p hp
 refine ⟨λi m zs H=>i<=n/\m=n-i/\Pv p i zs H,⟨n,y9 _,by simp,h0 p hp⟩,?_⟩
 rintro i m zs H ⟨hi,hm,q⟩
 obtain ⟨hp',hz⟩:=hl p i zs H q
 refine ⟨hp',?_⟩
 by_cases e:i=n
 ·subst e
  exact .inl ⟨hstop H,hd p zs H hp q⟩
 ·have hlt:i<n:=by lia
  refine .inr ⟨hgo i H hlt,ay (by lia),λv H' hv=>?_⟩
  obtain ⟨rfl,r⟩:=hy i H v H' hv
  refine hs p i zs H' v _ hp hlt r q λu H2 a b=>?_
  exact ⟨a,n- (i+1),by lia,by lia,rfl,b⟩
theorem iK {lo:Int} {n:Nat}: ∀ i H,i<n->(Itr lo n).go i H:=λ_ _ h=>h
theorem dl {lo:Int} {n:Nat}: ∀ H,(Itr lo n).stop n H:=λ_=>yV n
theorem hU {lo:Int} {n:Nat}: ∀ i H v H',(Itr lo n).yld i H v H'->H'=H/\v=.int (lo+i):=λ_ _ _ _ h=>h
end
section
variable {X:Cx} {e k:Expr} {te tk:TE} {pos p2:Pos}
theorem eD: ∀ (ix:List Nat) {xs:List V} {us:List Value},Vals xs us->Vals (ix.filterMap (xs[·]?)) (ix.filterMap (us[·]?))
 | [],_,_,_=>.nil
 | i::r,xs,us,h=>by
  rw [Ab,Ab]
  cases ex:xs[i]? with
  | none=>
   rw [h.none_of ex]
   exact eD r h
  | some x=>
   obtain ⟨u,eu,ru⟩:=h.get ex
   rw [eu]
   exact .cons ru (eD r h)
noncomputable def dR (n:Nat) (c:Int):List Nat:=sliceRange (sliceBounds none none (some c) n).1 (sliceBounds none none (some c) n).2.1 (sliceBounds none none (some c) n).2.2
noncomputable def dg (xs:List V) (c:Int):List V:=(dR xs.length c).filterMap (xs[·]?)
theorem mC {α:Type} (xs:List α):(List.range xs.length).filterMap (xs[·]?)=xs:=by
 induction xs with
 | nil=>rfl
 | cons x r ih=>
  rw [zn,List.range_succ_eq_map,Ab,Da]
  show x::List.filterMap ((λj=>(x::r)[j]?)∘Nat.succ) (List.range r.length)=x::r
  congr 1
theorem l9 (n:Nat):dR n 1=List.range n:=by
 unfold dR sliceBounds sliceRange
 simp only [Option.getD_some,show (1:Int) >0 by decide,AM]
 by_cases h:n=0
 ·subst h
  rfl
 ·rw [yW (by lia)]
  have e:(((n:Int) -0+1-1) /1).toNat=n:=by rw [Int.ediv_one];lia
  rw [e]
  conv=>rhs;rw [<- List.map_id (List.range n)]
  apply AT
  intro k hk
  show (0+1* (k:Int)).toNat=k
  lia
theorem oS (xs:List V):dg xs 1=xs:=by
 unfold dg
 rw [l9]
 exact mC xs
theorem me (n:Nat):dR n (-1)=(List.range n).map λk=>n-1-k:=by
 unfold dR sliceBounds sliceRange
 simp only [Option.getD_some,show ¬ ((-1:Int) >0) by decide,zX]
 by_cases h:n=0
 ·subst h
  rfl
 ·rw [yW (by lia)]
  have e:(((n:Int) -1- -1- -1-1) / (- -1)).toNat=n:=by
   rw [show (- -1:Int)=1 by decide,Int.ediv_one];lia
  rw [e]
  apply AT
  intro k hk
  have:=zI.mp hk
  show ((n:Int) -1+ -1* (k:Int)).toNat=n-1-k
  lia
theorem qT {α:Type} (xs:List α):((List.range xs.length).map λk=>xs.length-1-k).filterMap (xs[·]?)=xs.reverse:=by
 apply CC
 intro i
 have hall:((List.range xs.length).map λk=>xs.length-1-k).filterMap (xs[·]?)=(List.range xs.length).filterMap λk=>xs[xs.length-1-k]? :=by
  rw [Da]
  rfl
 rw [hall]
 have hsome: ∀ (l:List Nat),(∀ k∈l,k<xs.length)-> ∀ j:Nat,(l.filterMap λk=>xs[xs.length-1-k]?)[j]? =l[j]?.bind λk=>xs[xs.length-1-k]? :=by
  intro l
  induction l with
  | nil=>intro _ j;rfl
  | cons a r ih=>
   intro hl j
   have ha:=hl a yT
   have hx:xs[xs.length-1-a]? =some xs[xs.length-1-a]:=y4 (by lia)
   rw [Ab,hx]
   cases j with
   | zero=>simp [hx]
   | succ j=>
    rw [Cr,Cr]
    exact ih (λk hk=>hl k (yY _ hk)) j
 rw [hsome _ (λk hk=>zI.mp hk) i]
 by_cases hi:i<xs.length
 ·rw [B9 hi,List.getElem?_reverse hi]
  rfl
 ·rw [AW (by simpa using hi),AW (by simpa using hi)]
  rfl
theorem oU (xs:List V):dg xs (-1)=xs.reverse:=by
 unfold dg
 rw [me]
 exact qT xs
def wZ (K:W.Frag) (te tk:TE):TE:=λU H Q=>te U H λx H1=>tk U H1 λy H2=> ∃ a xs c,x=.ref a/\y=.int c/\SqL K H2 a xs/\c≠0/\ ∀ p,H2 p=none->Q (.ref p) (upd H2 p (.lst (dg xs c)))
theorem n0 (he:PE X e te) (hk:PE X k tk):PE X (.Subscript e (.Slice none none (some k) p2) pos) (wZ X.K te tk):=by
 intro pins s U H Q I h
 refine Subscript_ (thn (he pins s U H _ I h) λv s1 ⟨x,H1,I1,r1,q1⟩=>?_)
 refine wpAny_Slice ?_
 rw [evalPart_none,evalPart_some]
 refine yR (yR ?_)
 refine thn (hk pins s1 U H1 _ I1 q1) λvk s3 ⟨y,H3,I3,ry,a,xs,c,ex,ey,hq,hc,q⟩=>?_
 subst ex ey
 obtain ⟨t,rfl⟩:=ry
 cases r1
 have I4:Inv X pins U H3 {s3 with heap:=s3.heap.push {cls:=.type "slice",data:=.fields #[.none,.none,.int c t]}}:=I3.kept (t':=s3.toks) λb ob q=>yQ _ q
 obtain ⟨its,r,ht,hz⟩:=I4.list hq
 have hlen:=r.length
 have hpick:slicePick its.toArray none none (some c)=((dR xs.length c).filterMap (its[·]?)).toArray:=by
  unfold slicePick dR
  rw [y1,hlen]
  simp
 have hle:(dg xs c).length<=sizeLine:=by
  have h1:=slicePick_size_le its.toArray none none (some c)
  rw [hpick,y1,y1]at h1
  have h2:=(eD (dR xs.length c) r).length
  unfold dg
  lia
 show wpAny (model X.prog X.w) X.A (subscriptTail e (.Slice none none (some k) p2) (.ref a) (.ref s3.heap.objs.size)) (EP X pins U Q) X.xe {s3 with heap:=s3.heap.push {cls:=.type "slice",data:=.fields #[.none,.none,.int c t]}}
 refine tail_any (ops:=[.ref a,.ref s3.heap.objs.size]) ht.isList.typeIs slot_list_getitem.lookup (wpAny_getItem_list_slice ht.isList (Heap.IsSliceOf.new ..) .none .none (.int c t) (by simpa using hc) ?_ (by rw [y1];lia)) (by with_unfolding_all rfl)
 rw [hpick]
 refine ⟨.ref (s3.heap.push {cls:=.type "slice",data:=.fields #[.none,.none,.int c t]}).objs.size,_,I4.laid (t':=s3.toks) (o:=.lst (dg xs c)) (λb ob q=>yQ _ q) (yV _) ?_,rfl,q _ I4.fresh⟩
 exact ⟨hle,_,0,eD _ r,y6 _ rfl⟩
inductive xm  (x:V) (lo:Option Int) (hi:Option Int) (H:Hp) (Q:VK):Prop
 | mk: ∀ z,(x=.str z)->(z.length<=sizeLine)->(Q (.str (Txt.slice z lo hi)) H)->xm x lo hi H Q
theorem jW:SlR X xm:=by
 intro pins s U H x v vl vu lo hi sl Q I rx hs pl pu h
 obtain ⟨z,rfl,hz,q⟩:=h
 obtain ⟨t,rfl⟩:=rx
 refine ⟨"str",_,F.slot_str_getitem.lookup,typeIs_str _ _ _,?_⟩
 have go: ∀ (l u:Option (Int×Tok)),vl=partValue l->vu=partValue u->lo=l.map (·.1)->hi=u.map (·.1)->wpAny (model X.prog X.w) X.A (getItem (.str z t) (.ref sl)) (EP X pins U Q) X.xe s:=by
  intro l u e1 e2 e3 e4
  subst e1 e2 e3 e4
  refine wpAny_getItem_str_slice (l:=l) (u:=u) (st:=none) hs rfl ?_
  exact post_val_or_str ⟨zc (Txt.slice_le z _ _) hz,λt' k=>⟨.str (Txt.slice z (l.map (·.1)) (u.map (·.1))),H,I.tok k,⟨t',rfl⟩,q⟩⟩
 cases pl with
 | none=>
  cases pu with
  | none=>exact go none none rfl rfl rfl rfl
  | int j tj=>exact go none (some (j,tj)) rfl rfl rfl rfl
 | int i ti=>
  cases pu with
  | none=>exact go (some (i,ti)) none rfl rfl rfl rfl
  | int j tj=>exact go (some (i,ti)) (some (j,tj)) rfl rfl rfl rfl
open PySem.AutoSeq1 (wpAny_loadPart')in
end
noncomputable def om:Expr->Bool
 | .Starred _ _=>false
 | _=>true
theorem i6 {e:Expr} {es:List Expr} {env:Env} (h:om e=true):starEach (e::es) env=(false,eval e env)::starEach es env:=by
 cases e <;> first | rfl | cases h
theorem pac {X:Cx} {e:Expr} {es:List Expr} {te:TE} {t:TA} (ha:PE X e te) (hr:PA X es t) (h:om e=true:=by rfl):PA X (e::es) (u7 te t):=aa ha hr (i6 h)
noncomputable def nv:Const->Option V
 | .str x=>some (.str x)
 | .int i=>some (.int i)
 | .bool b=>some (.bl b)
 | .none=>some .non
 | _=>none
noncomputable def gh:List Expr->Option (List V)
 | []=>some []
 | .Constant c _ _::r=>(match nv c,gh r with | some v,some vs=>some (v::vs) | _,_=>none)
 | _::_=>none
theorem rj {X:Cx} {c:Const} {j:Nat} {pos:Pos} {v:V} (h:nv c=some v):PE X (.Constant c j pos) (tC v):=by
 cases c with
 | str x=>cases h;exact br
 | int i=>cases h;exact af
 | bool b=>cases h;exact fR
 | none=>cases h;exact cC
 | _=>cases h
theorem jt {X:Cx}: ∀ {es:List Expr} {vs:List V},gh es=some vs->PA X es (λ_ H Q=>Q vs H)
 | [],vs,h=>by
  cases h
  exact ae
 | e::r,vs,h=>by
  cases e with
  | Constant c j pos=>
   simp only [gh]at h
   cases hc:nv c with
   | none=>rw [hc]at h;cases h
   | some v=>
    cases hr:gh r with
    | none=>rw [hc,hr]at h;cases h
    | some ws=>
     rw [hc,hr]at h
     cases h
     exact pac (rj hc) (jt hr)
  | _=>cases h
theorem ue {X:Cx} {i:Nat} {x:Str} {es:List Expr} {vs:List V} {pos p pos':Pos} (hN:X.N.Nodup) (hi:X.N[i]? =some x) (hx:Loc X.env.scope x) (hf:X.fn x=true\/X.env.scope.names.lookup x=some .local) (h:gh es=some vs):
  PS X (.Assign [.Name x pos'] (.List es p) pos) (tP (w8 (λ_ H Q=>Q vs H)) (fc i)):=
 ao hN hi hx (aX (jt h)) rfl hf
section
variable {X:Cx}
noncomputable def jQ:List Int->Int
 | []=>0
 | n::r=>n+jQ r
end
end L2
namespace HT
open PySem PyProof.Rows
section
variable {prog:Program} {w:World} {A:Around} {s:Shared} {E:Value->Shared->Prop} {d j:Addr} {ks:List Value} {i ep:Nat}
def DEs (h:Heap) (d:Addr) (ks:List Value) (ep:Nat):Prop:= ∃ o es,h.get? d=some o/\o.ExactDict/\o.data=.dict es ep/\es.toList.map (·.key)=ks
theorem DEs.type (m:DEs s.heap d ks ep):s.TypeIs (.ref d) "dict":=by
 obtain ⟨o,_,ho,hc,_⟩:=m
 exact ⟨o,ho,hc.1⟩
theorem DEs.keeps {h h':Heap} (m:DEs h d ks ep) (k: ∀ o,h.get? d=some o->h'.get? d=some o):DEs h' d ks ep:=by
 obtain ⟨o,es,ho,r⟩:=m
 exact ⟨o,es,k o ho,r⟩
theorem DEs.lt {h:Heap} (m:DEs h d ks ep):d<h.objs.size:=by
 obtain ⟨o,es,ho,_⟩:=m
 exact y2 ho
theorem gw {es:Array DictEntry} (e:es.toList.map (·.key)=ks):es.size=ks.length:=by
 rw [<- e,yP,zV]
theorem sv {Q:Value->Shared->Prop} (lo:(d==sysModules)=false) (m:DEs s.heap d ks ep)
  (q:Q (.ref s.heap.objs.size) {s with heap:=s.heap.push {cls:=.type "dict_keyiterator",data:=.fields #[.ref d,.int 0 0,.int ks.length 0,.int ep 0]}}):wpAny (model prog w) A (pyIter (.ref d)) Q E s:=by
 have ty:=m.type
 obtain ⟨o,es,ho,hc,hdat,hk⟩:=m
 refine wpAny_pyIter_slot ty PySem.F.slot_dict_iter (Ap PySem.F.slot_dict_iter ty PySem.F.entry_dict_iter ?_ (PySem.F.args_dict_iter_1 _))
 unfold Builtin.«dict.__iter__» Builtin.Dict.dictSlotNone
 refine yO (yO (wpAny_notOrdered_dict ty ?_))
 refine yR (show wpAny _ _ (Builtin.Dict.showsAll d >>= _) _ _ s from ?_)
 unfold Builtin.Dict.showsAll
 rw [yU (by rw [lo];exact zp)]
 refine yO (yR (yO (Dh ho hdat (yO (DE ho hdat ?_)))))
 refine yO (zZ (yR ⟨_,rfl,"dict_keyiterator",_,⟨_,y6 _ rfl,rfl⟩,PySem.F.slot_dict_keyiterator_next.lookup,?_⟩))
 simpa [rawInt,gw hk]using q
theorem rP {x:Value} {Q:Option Value->Shared->Prop} (st:s.heap.IsKeyIter j d i ks.length ep) (m:DEs s.heap d ks ep) (hx:ks[i]? =some x)
  (q: ∀ h',h'.IsKeyIter j d (i+1) ks.length ep->Heap.SameBut j s.heap h'->Q (some x) {s with heap:=h'}):wpAny (model prog w) A (pyNext (.ref j)) Q E s:=by
 have ty:=st.typeIs
 obtain ⟨o,ho,hc,hd⟩:=id st
 obtain ⟨od,es,hod,hcd,hdd,hk⟩:=m
 have hz:=gw hk
 have hlt:i<ks.length:=(yX.mp hx).1
 have hes:i<es.size:=by lia
 have hkey:es[i].key=x:=by
  have e1:(es.toList.map (·.key))[i]? =some x:=by rw [hk];exact hx
  rw [zo,AD,B6 hes]at e1
  exact zj e1
 unfold pyNext
 refine yO (Bv (zY (name:=Str.ofString "__next__") ty AI (Ap AI ty Cf ?_ (Ca _))))
 refine yO (yR (yO (yO ?_)))
 first | refine yO (A4 ty (yR (yO (Db ho hd ?_)))) | refine yO (Bw ty (yR (yO (Db ho hd ?_))))
 have own:Builtin.Dict_items.ownsTuple "dict_keyiterator"=false:=by decide
 simp only [own,zg,zX]
 refine (show wpAny _ _ (if (Value.ref d==Value.none)=true then _ else _) _ _ s from ?_)
 rw [yU λb0:(Value.ref d==Value.none)=true=>zp b0]
 refine yO (yR (yO (Dh hod hdd ?_)))
 rw [yU (by rw [hz];simp)]
 refine yO (yR (yO (DE hod hdd ?_)))
 rw [yU (by simp)]
 refine yR ?_
 simp only [show ¬ ((i:Int) <0)from by lia,zX,Bq,B6 hes]
 refine yO ?_
 first | refine yO (A4 ty (yR (yO (CL ty ?_)))) | refine yO (Bw ty (yR (yO (CL ty ?_))))
 refine (show wpAny _ _ (setField (.ref j) 1 (rawInt ((i:Int) +1)) >>= _) _ _ s from ?_)
 refine yO (Dc ho hd (by simp) ?_)
 have st':(s.heap.update j (Obj.mapFields (·.setIfInBounds 1 (rawInt ((i:Int) +1))))).IsKeyIter j d (i+1) ks.length ep:=by
  refine ⟨_,CJ _ ho (Obj.isFreed_of_fields (Ck hd _)),(Obj.cls_mapFields ..).trans hc,?_⟩
  rw [Ck hd];simp [rawInt]
 refine yO (zP (yO (CL (s:={s with heap:=s.heap.update j (Obj.mapFields (·.setIfInBounds 1 (rawInt ((i:Int) +1))))}) st'.typeIs ?_)))
 refine (show wpAny _ _ (pure es[i].key) _ _ _ from ?_)
 rw [hkey]
 exact yR (yR ⟨_,rfl,yR (q _ st' (AB ..))⟩)
theorem uL {Q:Option Value->Shared->Prop} (hh:A.handled=none) (st:s.heap.IsKeyIter j d i ks.length ep) (m:DEs s.heap d ks ep) (hx:ks.length<=i)
  (q: ∀ h',Heap.ExtBut j s.heap h'->Q none {s with heap:=h'}):wpAny (model prog w) A (pyNext (.ref j)) Q E s:=by
 have ty:=st.typeIs
 obtain ⟨o,ho,hc,hd⟩:=id st
 obtain ⟨od,es,hod,hcd,hdd,hk⟩:=m
 have hz:=gw hk
 unfold pyNext
 refine yO (Bv (zY (name:=Str.ofString "__next__") ty AI (Ap AI ty Cf ?_ (Ca _))))
 refine yO (yR (yO (yO ?_)))
 first | refine yO (A4 ty (yR (yO (Db ho hd ?_)))) | refine yO (Bw ty (yR (yO (Db ho hd ?_))))
 have own:Builtin.Dict_items.ownsTuple "dict_keyiterator"=false:=by decide
 simp only [own,zg,zX]
 refine (show wpAny _ _ (if (Value.ref d==Value.none)=true then _ else _) _ _ s from ?_)
 rw [yU λb0:(Value.ref d==Value.none)=true=>zp b0]
 refine yO (yR (yO (Dh hod hdd ?_)))
 rw [yU (by rw [hz];simp)]
 refine yO (yR (yO (DE hod hdd ?_)))
 rw [yU (by simp)]
 refine yR ?_
 have hge:es.size<=i:=by lia
 simp only [show ¬ ((i:Int) <0)from by lia,zX,Bq,Array.getElem?_eq_none hge]
 refine yO ?_
 first | refine yO (A4 ty (yR ?_)) | refine yO (Bw ty (yR ?_))
 refine (show wpAny _ _ (setField (.ref j) 0 .none >>= _) _ _ s from yO (Dc ho hd (by simp) ?_))
 refine (show wpAny _ _ (newExc (.type "StopIteration") [] >>= _) _ _ _ from yO ?_)
 simp only [newExc,newTuple]
 refine yO (zZ (yO (m:=firstArgMember _ _) (DH (a:=Value.none) (by first | rfl | (simp only [firstArgMember];rfl)) (zZ ?_ (by size_fits)))) (by size_fits))
 simp only [raiseNew]
 refine yO (wpAny_handled ?_)
 rw [show A.in1.handled=none from hh]
 refine (yO (yR (wpAny_throw (?_))))
 refine yO (Aq (T:="StopIteration") (b:=true) ⟨_,y6 _ rfl,rfl⟩ isSubtype_stop (yR (q _ ?_)))
 exact ((AB ..).extBut.push _).push _
theorem oK (hh:A.handled=none) (hne:d≠j):Walks prog w A j [j,d] [j] ks.length (λi v=>ks[i]? =some v) (λi h=>h.IsKeyIter j d i ks.length ep/\DEs h d ks ep) where
 sub:=λb hb=>by rw [y0.mp hb];exact yT
 frame:=λ_ _ _ st k=>⟨st.1.at λo e=>k j (by simp) o e,st.2.keeps λo e=>k d (by simp) o e⟩
 item:=λi s Q E hi st hQ=>by
  have hx:ks[i]? =some ks[i]:=y4 hi
  refine rP st.1 st.2 hx λh' st' sb=>?_
  exact hQ _ h' s.toks hx ⟨st',st.2.keeps λo e=>sb.extBut d o hne e⟩ λb o hb e=>sb.extBut b o (λz=>hb (by rw [z];exact yT)) e
 done:=λs Q E st hQ=>uL hh st.1 st.2 (yV _) λh' eb=>hQ h' s.toks λb o hb e=>eb b o (λz=>hb (by rw [z];exact yT)) e
 self:=λ_ _ _ _ st hQ=>wpAny_pyIter_keyiter st.1 hQ
theorem src_des (lo:(d==sysModules)=false):PySem.W.KdlSrc prog w "dict" d d ks.length (λi v=>ks[i]? =some v) (λh=>DEs h d ks ep) where
 type:=λ_ m=>m.type
 there:=λ_ m=>⟨m.lt,m.lt⟩
 keep:=λ_ _ m k=>m.keeps λo e=>k d (.inl rfl) o e
 notList:=by decide
 notTuple:=by decide
 hint:=λ_ _ _ _ m q=>PySem.W.kdl_hint_dict m.type q
 iter:=λ_ _ hh m=>⟨_,_,λ_ _ q=>sv lo m q,oK hh (zi m.lt),⟨⟨_,y6 _ rfl,rfl,rfl⟩,m.keeps λo e=>yQ _ e⟩⟩
end
end HT
namespace L2
open PySem PySem.Spec PyProof.Rows
section
variable {X:Cx}
noncomputable def KsOf (H:Hp):List V->List (List Key)->Prop:=Paired λy ks=> ∃ b,y=.ref b/\H b=some (.tup (ks.map kV))
theorem KsOf.mono {H H':Hp} {ys:List V} {kss:List (List Key)} (h:KsOf H ys kss) (t: ∀ b xs,H b=some (.tup xs)->H' b=some (.tup xs)):KsOf H' ys kss:=
 Paired.mapP h λ_ _ ⟨b,e,hb⟩=>⟨b,e,t _ _ hb⟩
theorem sf {H:Hp} {kvs:List (List Key×V)} {xs:List (List Key×Addr×Value)} (r:KT H kvs xs):KsOf H (xs.map λq=>V.ref q.2.1) (kvs.map (·.1)):=by
 induction r with
 | nil=>exact .nil
 | cons h _ ih=>exact .cons ⟨_,rfl,h.2.1⟩ ih
theorem nA (hc:X.calm=true):cG X (.type "list") (λxs H Q=> ∃ a kvs,xs=[.ref a]/\H a=some (.dT kvs)/\ ∀ p ys,H p=none->KsOf H ys (kvs.map (·.1))->Q (.ref p) (upd H p (.lst ys))):=by
 intro pins s U H xs us Q I r h
 obtain ⟨a,kvs,rfl,ha,q⟩:=h
 obtain ⟨u,rfl,ru⟩:=fG r
 cases ru
 obtain ⟨hz,lo,ys,kt,o,es,ep,h1,h2,h3,h4,h5⟩:=(show ObjOk X.prog X.w H s.heap a (.dT kvs)from I.hok a _ ha)
 have hm:HT.DEs s.heap a (ys.map λq=>Value.ref q.2.1) ep:=by
  refine ⟨o,es,h1,h2,h3,?_⟩
  rw [h4,zO]
  rfl
 have hl:ys.length=kvs.length:=(ze kt).symm
 refine PySem.W.kdl_call (HT.src_des lo) (I.ok.hd hc) hm (by rw [yP];lia) λh' tk acc c' kp e hi=>?_
 obtain ⟨i1,i2⟩:=hi
 have hacc:acc.toList=ys.map λq=>Value.ref q.2.1:=by
  refine CC λi=>?_
  rw [AD]
  cases hv:acc[i]? with
  | some v=>exact (i2 i v hv).symm
  | none=>
   have:acc.size<=i:=Array.getElem?_eq_none_iff.mp hv
   exact (AW (by rw [<- i1];exact this)).symm
 have rv:Vals (ys.map λq=>V.ref q.2.1) (ys.map λq=>Value.ref q.2.1):=by
  clear kt h4 h5 hl i1 i2 hacc hm
  induction ys with
  | nil=>exact .nil
  | cons y r ih=>exact .cons rfl ih
 refine ⟨.ref s.heap.objs.size,_,I.laid (t':=tk) (o:=.lst (ys.map λq=>V.ref q.2.1)) kp (yV _) ?_,rfl,q _ _ (I.hok.fresh (yV _)) (sf kt)⟩
 refine ⟨by rw [yP];lia,_,c',rv,?_⟩
 rw [<- hacc,CV]
 exact e
end
section
variable {X:Cx}
theorem pA (hu:X.A.units<cLine):OpR X (compareOp .NotEq) (λx y H Q=> ∃ a b xs,x=.ref a/\y=.ref b/\SqL X.K H a xs/\SqL X.K H b []/\Q (.bl (!xs.isEmpty)) H):=by
 intro pins s U H x y v u Q I rx ry h
 obtain ⟨a,b,xs,rfl,rfl,ha,hb,q⟩:=h
 cases rx
 cases ry
 obtain ⟨its,r,pl,_⟩:=I.list ha
 obtain ⟨its2,r2,pl2,_⟩:=I.list hb
 cases r2
 cases r with
 | nil=>exact SeqAt.RcNeAt.lists (e:=λ_=>true) pl.isList pl2.isList rfl hu (λj h1 _=>absurd h1 (A9 _)) X.prog X.w X.xe _ ⟨.bl _,H,I,rfl,q⟩
 | cons r1 t=>exact SeqAt.RcNeAt.lists_lengths pl.isList pl2.isList (by simp) hu X.prog X.w X.xe _ ⟨.bl _,H,I,rfl,q⟩
instance yN (ks:List Key) (kss:List (List Key)):Decidable (ks∈kss):=decidable_of_iff (kss.any (λl=>decide (l=ks))=true) ⟨λh=>by
  obtain ⟨x,hx,e⟩:=Be.mp h
  rw [<- zf e]
  exact hx,λh=>Be.mpr ⟨ks,h,zq rfl⟩⟩
end
end L2
namespace HT
open PySem PyProof.Rows
section
variable {prog:Program} {w:World} {A:Around} {s:Shared} {E:Value->Shared->Prop} {j t:Addr} {i:Nat} {items:Array Value}
theorem sH {x:Value} {Q:Value->Shared->Prop} (st:s.heap.IsTupleIter j t i) (ht:s.heap.IsTuple t items) (hx:items[i]? =some x)
  (q: ∀ h',h'.IsTupleIter j t (i+1)->Heap.SameBut j s.heap h'->Q x {s with heap:=h'}):wpAny (model prog w) A (Builtin.SmallTypes.nextOf (.ref j)) Q E s:=by
 have ty:=st.typeIs
 obtain ⟨o,ho,hc,hd⟩:=id st
 obtain ⟨ol,hol,_,nl,hdl⟩:=ht
 unfold Builtin.SmallTypes.nextOf
 refine yO (zY (name:=Str.ofString "__next__") ty AQ (Ap AQ ty Cv ?_ (Cm _)))
 refine (show wpAny _ _ (field (.ref j) 0 >>= _) _ _ s from yO (AC ho hd (x:=.ref t) rfl ?_))
 refine (show wpAny _ _ (if (Value.ref t==Value.none)=true then _ else _) _ _ s from ?_)
 rw [yU λb0:(Value.ref t==Value.none)=true=>zp b0]
 refine (show wpAny _ _ (field (.ref j) 1 >>= _) _ _ s from yO (AC ho hd (x:=.int i 0) rfl ?_))
 refine (show wpAny _ _ (seqItems? (.ref t) >>= _) _ _ s from yO (A0 hol hdl ?_))
 simp only [Bq,hx]
 refine yO (Dc ho hd (by simp) (yR ⟨x,rfl,yR (q _ ⟨_,CJ _ ho (Obj.isFreed_of_fields (Ck hd _)),(Obj.cls_mapFields ..).trans hc,?_⟩ (AB ..))⟩))
 rw [Ck hd];simp [rawInt]
theorem lE {Q:Value->Shared->Prop} (hh:A.handled=none) (st:s.heap.IsTupleIter j t i) (ht:s.heap.IsTuple t items) (hx:items[i]? =none)
  (q: ∀ h' e,Heap.ExtBut j s.heap h'->(∃ o,h'.get? e=some o/\o.cls=.type "StopIteration")->E (.ref e) {s with heap:=h'}):wpAny (model prog w) A (Builtin.SmallTypes.nextOf (.ref j)) Q E s:=by
 have ty:=st.typeIs
 obtain ⟨o,ho,hc,hd⟩:=id st
 obtain ⟨ol,hol,_,nl,hdl⟩:=ht
 unfold Builtin.SmallTypes.nextOf
 refine yO (zY (name:=Str.ofString "__next__") ty AQ (Ap AQ ty Cv ?_ (Cm _)))
 refine (show wpAny _ _ (field (.ref j) 0 >>= _) _ _ s from yO (AC ho hd (x:=.ref t) rfl ?_))
 refine (show wpAny _ _ (if (Value.ref t==Value.none)=true then _ else _) _ _ s from ?_)
 rw [yU λb0:(Value.ref t==Value.none)=true=>zp b0]
 refine (show wpAny _ _ (field (.ref j) 1 >>= _) _ _ s from yO (AC ho hd (x:=.int i 0) rfl ?_))
 refine (show wpAny _ _ (seqItems? (.ref t) >>= _) _ _ s from yO (A0 hol hdl ?_))
 simp only [Bq,hx]
 refine yO (A7 (yO (Dc ho hd (by simp) (show wpAny _ _ (newExc (.type "StopIteration") [] >>= _) _ _ _ from yO ?_))))
 simp only [newExc,newTuple]
 refine yO (zZ (yO (m:=firstArgMember _ _) (DH (a:=Value.none) (by first | rfl | (simp only [firstArgMember];rfl)) (zZ ?_ (by size_fits)))) (by size_fits))
 simp only [raiseNew]
 refine yO (wpAny_handled ?_)
 rw [show A.in1.handled=none from hh]
 exact yO (yR (wpAny_throw (q _ _ (((AB ..).extBut.push _).push _) ⟨_,y6 _ rfl,rfl⟩)))
def SIter (c:Bool) (h:Heap) (j l:Addr) (i:Nat):Prop:=if c=true then h.IsTupleIter j l i else h.IsListIter j l i
def SSeq (c:Bool) (h:Heap) (l:Addr) (items:Array Value):Prop:=if c=true then h.IsTuple l items else h.IsList l items
theorem SIter.obj {c:Bool} {h:Heap} {l:Addr} (x:SIter c h j l i): ∃ o,h.get? j=some o/\ ∀ v,o.data≠ .cell v:=by
 cases c with
 | true=>obtain ⟨o,e,_,d⟩:=(show h.IsTupleIter j l i from x);exact ⟨o,e,λv z=>by rw [d]at z;cases z⟩
 | false=>obtain ⟨o,e,_,d⟩:=(show h.IsListIter j l i from x);exact ⟨o,e,λv z=>by rw [d]at z;cases z⟩
theorem SIter.at {c:Bool} {h h':Heap} {l:Addr} (x:SIter c h j l i) (k: ∀ o,h.get? j=some o->h'.get? j=some o):SIter c h' j l i:=by
 cases c with
 | true=>obtain ⟨o,e,r⟩:=(show h.IsTupleIter j l i from x);exact (show h'.IsTupleIter j l i from ⟨o,k o e,r⟩)
 | false=>obtain ⟨o,e,r⟩:=(show h.IsListIter j l i from x);exact (show h'.IsListIter j l i from ⟨o,k o e,r⟩)
theorem SSeq.at {c:Bool} {h h':Heap} {l:Addr} (x:SSeq c h l items) (k: ∀ o,h.get? l=some o->h'.get? l=some o):SSeq c h' l items:=by
 cases c with
 | true=>obtain ⟨o,e,r⟩:=(show h.IsTuple l items from x);exact (show h'.IsTuple l items from ⟨o,k o e,r⟩)
 | false=>obtain ⟨o,e,r⟩:=(show h.IsList l items from x);exact (show h'.IsList l items from ⟨o,k o e,r⟩)
theorem draws_seq (c:Bool) (hh:A.handled=none) (j l:Addr) (hne:l≠j) (items:Array Value):
  Draws prog w A j [j,l] items.size (λi v=>items[i]? =some v) (λi h=>SIter c h j l i/\SSeq c h l items) where
 live:=λ_ _ st=>let ⟨o,e,_⟩:=st.1.obj;⟨o,e⟩
 frame:=λ_ _ _ st k=>⟨st.1.at λo e=>k j (by simp) o e,st.2.at λo e=>k l (by simp) o e⟩
 item:=λi s Q E hi st hQ=>by
  have hx:items[i]? =some items[i]:=B6 hi
  cases c with
  | true=>exact sH st.1 st.2 hx λh' st' sb=>hQ _ h' s.toks hx ⟨st',st.2.at λo e=>sb.extBut l o hne e⟩ sb
  | false=>exact wpAny_nextOf_list_item st.1 st.2 hx λh' st' sb=>hQ _ h' s.toks hx ⟨st',st.2.at λo e=>sb.extBut l o hne e⟩ sb
 done:=λs Q E st hE=>by
  cases c with
  | true=>exact lE hh st.1 st.2 (by simp) hE
  | false=>exact wpAny_nextOf_list_end hh st.1 st.2 (by simp) hE
end
structure ZAp (z TI TO i1 i2:Addr) (f1 f2:List Addr):Prop where
 tz:TI≠z
 oz:TO≠z
 a1z:i1≠z
 a2z:i2≠z
 to:TI≠TO
 t1:TI≠i1
 t2:TI≠i2
 o1:TO≠i1
 o2:TO≠i2
 ii:i1≠i2
 z1:z∉f1
 z2:z∉f2
 p1:TO∉f1
 p2:TO∉f2
 q1:i2∉f1
 q2:i1∉f2
section
variable {prog:Program} {w:World} {A:Around} {s:Shared} {E:Value->Shared->Prop} {z TI TO i1 i2:Addr} {f1 f2:List Addr} {n1 n2 k:Nat} {P1 P2:Nat->Value->Prop} {S1 S2:Nat->Heap->Prop} {a b:Value}
theorem qi {Q:Value->Shared->Prop} (D1:Draws prog w A i1 f1 n1 P1 S1) (D2:Draws prog w A i2 f2 n2 P2 S2) (D:ZAp z TI TO i1 i2 f1 f2)
  (hz:IsZip s.heap z TI TO .none) (hTI:IsPair s.heap TI (.ref i1) (.ref i2)) (hTO:IsPair s.heap TO a b) (st1:S1 k s.heap) (st2:S2 k s.heap) (k1:k<n1) (k2:k<n2)
  (q: ∀ x y h' tk,P1 k x->P2 k y->IsZip h' z TI TO (rawInt s.heap.objs.size)->IsPair h' TO x y->S1 (k+1) h'->S2 (k+1) h'->IsPair h' s.heap.objs.size x y->
   (∀ c o,c≠z->c≠TO->c≠i1->c≠i2->s.heap.get? c=some o->h'.get? c=some o)->Q (.ref s.heap.objs.size) {s with heap:=h',toks:=tk}):
  wpAny (model prog w) A (Builtin.«zip.__next__» ⟨[.ref z],[]⟩) (λfin s'=> ∃ v,fin=.done (.ret v)/\Q v s') E s:=by
 refine (show wpAny _ _ (field (.ref z) 2 >>= _) _ _ _ from yO (AC hz rfl (x:=.bool false) rfl ?_))
 refine (show wpAny _ _ (field (.ref z) 3 >>= _) _ _ _ from yO (AC hz rfl (x:=.ref TI) rfl (yO (A0 hTI rfl ?_))))
 refine (show wpAny _ _ (Builtin.SmallTypes.ownedTupleIsFree (.ref z) >>= _) _ _ _ from yO ?_)
 unfold Builtin.SmallTypes.ownedTupleIsFree
 refine yO (AC hz rfl (x:=.none) rfl (yR ?_))
 simp only [AM]
 refine yO (A7 (yO (AC hz rfl (x:=.ref TO) rfl (yO (BH hz (by simp) λg1 zz1 sb1=>?_)))))
 replace zz1:IsZip g1 z TI TO .ellipsis:=zz1
 refine yO ?_
 simp only [List.zipIdx_cons,List.zipIdx_nil,Aj,Bg]
 refine yO (yO (Dl (show wpAny _ _ (Builtin.SmallTypes.nextOf (.ref i1) >>= _) _ _ _ from ?_)))
 refine yO (D1.item k _ _ _ k1 (D1.frame k s.heap g1 st1 λc hc o e=>sb1.extBut c o (λx=>D.z1 (x▸hc)) e) λx g2 tk2 hx s1' sb2=>yR ?_)
 have to2:IsPair g2 TO a b:=sb2.extBut _ _ D.o1 (sb1.extBut _ _ D.oz hTO)
 refine yO (A0 to2 rfl (yO (wpAny_updateSeq_pair to2 λg3 to3 sb3=>?_)))
 replace to3:IsPair g3 TO x b:=to3
 refine yO (wpAny_letGo (yR ?_))
 refine yO (yO (Dl (show wpAny _ _ (Builtin.SmallTypes.nextOf (.ref i2) >>= _) _ _ _ from ?_)))
 refine yO (D2.item k _ _ _ k2 (D2.frame k s.heap g3 st2 λc hc o e=>?_) λy g4 tk4 hy s2' sb4=>yR ?_)
 ·exact sb3.extBut c o (λx=>D.p2 (x▸hc)) (sb2.extBut c o (λx=>D.q2 (x▸hc)) (sb1.extBut c o (λx=>D.z2 (x▸hc)) e))
 have to4:IsPair g4 TO x b:=sb4.extBut _ _ D.o2 to3
 refine yO (A0 to4 rfl (yO (wpAny_updateSeq_pair to4 λg5 to5 sb5=>?_)))
 replace to5:IsPair g5 TO x y:=to5
 refine yO (wpAny_letGo (yR (yR ?_)))
 refine yO (A0 to5 rfl (yO (wpAny_newTuple ?_)))
 have sz:g5.objs.size=s.heap.objs.size:=by rw [sb5.1,sb4.1,sb3.1,sb2.1,sb1.1]
 have zz5:IsZip g5 z TI TO .ellipsis:=sb5.extBut _ _ D.oz.symm (sb4.extBut _ _ D.a2z.symm (sb3.extBut _ _ D.oz.symm (sb2.extBut _ _ D.a1z.symm zz1)))
 have kk5: ∀ c o,c≠z->c≠TO->c≠i1->c≠i2->s.heap.get? c=some o->g5.get? c=some o:=λc o c1 c2 c3 c4 e=>
  sb5.extBut c o c2 (sb4.extBut c o c4 (sb3.extBut c o c2 (sb2.extBut c o c3 (sb1.extBut c o c1 e))))
 have zlt:z<g5.objs.size:=y2 zz5
 refine (show wpAny _ _ (Builtin.SmallTypes.ownedTupleHandOut (.ref z) (.ref g5.objs.size) >>= _) _ _ _ from yO ?_)
 unfold Builtin.SmallTypes.ownedTupleHandOut
 have zz6:IsZip (g5.push {cls:=.type "tuple",data:=.seq #[x,y]}) z TI TO .ellipsis:=yQ _ zz5
 refine yO (BH zz6 (by simp) λg7 zz7 sb7=>?_)
 replace zz7:IsZip g7 z TI TO (rawInt g5.objs.size):=zz7
 refine BH zz7 (by simp) λg8 zz8 sb8=>?_
 replace zz8:IsZip g8 z TI TO (rawInt g5.objs.size):=zz8
 have up: ∀ c o,c≠z->g5.get? c=some o->g8.get? c=some o:=λc o c1 e=>sb8.extBut c o c1 (sb7.extBut c o c1 (yQ _ e))
 have tt8:IsPair g8 g5.objs.size x y:=sb8.extBut _ _ (As zlt) (sb7.extBut _ _ (As zlt) (y6 _ rfl))
 rw [sz]at zz8 tt8
 refine yR ⟨_,rfl,(show Q (.ref g5.objs.size) _ from ?_)⟩
 rw [sz]
 refine q x y g8 _ hx hy zz8 (up _ _ D.oz to5) ?_ ?_ tt8 λc o c1 c2 c3 c4 e=>up c o c1 (kk5 c o c1 c2 c3 c4 e)
 ·refine D1.frame (k+1) g2 g8 s1' λc hc o e=>up c o (λx=>D.z1 (x▸hc)) (sb5.extBut c o (λx=>D.p1 (x▸hc)) (sb4.extBut c o (λx=>D.q1 (x▸hc)) (sb3.extBut c o (λx=>D.p1 (x▸hc)) e)))
 ·exact D2.frame (k+1) g4 g8 s2' λc hc o e=>up c o (λx=>D.z2 (x▸hc)) (sb5.extBut c o (λx=>D.p2 (x▸hc)) e)
theorem kH {Q:Fin->Shared->Prop} (D1:Draws prog w A i1 f1 n1 P1 S1) (D:ZAp z TI TO i1 i2 f1 f2)
  (hz:IsZip s.heap z TI TO .none) (hTI:IsPair s.heap TI (.ref i1) (.ref i2)) (hTO:IsPair s.heap TO a b) (st1:S1 n1 s.heap)
  (q: ∀ h' e,(∀ c o,c≠z->c≠TO->c≠i1->c≠i2->s.heap.get? c=some o->h'.get? c=some o)->(∃ o,h'.get? e=some o/\o.cls=.type "StopIteration")->E (.ref e) {s with heap:=h'}):
  wpAny (model prog w) A (Builtin.«zip.__next__» ⟨[.ref z],[]⟩) Q E s:=by
 refine (show wpAny _ _ (field (.ref z) 2 >>= _) _ _ _ from yO (AC hz rfl (x:=.bool false) rfl ?_))
 refine (show wpAny _ _ (field (.ref z) 3 >>= _) _ _ _ from yO (AC hz rfl (x:=.ref TI) rfl (yO (A0 hTI rfl ?_))))
 refine (show wpAny _ _ (Builtin.SmallTypes.ownedTupleIsFree (.ref z) >>= _) _ _ _ from yO ?_)
 unfold Builtin.SmallTypes.ownedTupleIsFree
 refine yO (AC hz rfl (x:=.none) rfl (yR ?_))
 simp only [AM]
 refine yO (A7 (yO (AC hz rfl (x:=.ref TO) rfl (yO (BH hz (by simp) λg1 zz1 sb1=>?_)))))
 replace zz1:IsZip g1 z TI TO .ellipsis:=zz1
 refine yO ?_
 simp only [List.zipIdx_cons,List.zipIdx_nil,Aj,Bg]
 refine yO (yO (Dl (show wpAny _ _ (Builtin.SmallTypes.nextOf (.ref i1) >>= _) _ _ _ from ?_)))
 refine yO (D1.done _ _ _ (D1.frame n1 s.heap g1 st1 λc hc o e=>sb1.extBut c o (λx=>D.z1 (x▸hc)) e) λg2 e eb2 he=>?_)
 obtain ⟨oe,hoe,hce⟩:=he
 have zz2:IsZip g2 z TI TO .ellipsis:=eb2 _ _ D.a1z.symm zz1
 have ez:e≠z:=λx=>by subst x;rw [zz2]at hoe;cases hoe;simp at hce
 exact BH zz2 (by simp) λg3 _ sb3=>q g3 e (λc o c1 _ c3 _ x=>sb3.extBut c o c1 (eb2 c o c3 (sb1.extBut c o c1 x))) ⟨oe,sb3.extBut _ _ ez hoe,hce⟩
theorem next_zip {Q:Option Value->Shared->Prop} (D1:Draws prog w A.in1 i1 f1 n1 P1 S1) (D2:Draws prog w A.in1 i2 f2 n2 P2 S2) (D:ZAp z TI TO i1 i2 f1 f2)
  (hz:IsZip s.heap z TI TO .none) (hTI:IsPair s.heap TI (.ref i1) (.ref i2)) (hTO:IsPair s.heap TO a b) (st1:S1 k s.heap) (st2:S2 k s.heap) (k1:k<n1) (k2:k<n2)
  (q: ∀ x y h' tk,P1 k x->P2 k y->IsZip h' z TI TO (rawInt s.heap.objs.size)->IsPair h' TO x y->S1 (k+1) h'->S2 (k+1) h'->IsPair h' s.heap.objs.size x y->
   (∀ c o,c≠z->c≠TO->c≠i1->c≠i2->s.heap.get? c=some o->h'.get? c=some o)->Q (some (.ref s.heap.objs.size)) {s with heap:=h',toks:=tk}):
  wpAny (model prog w) A (pyNext (.ref z)) Q E s:=by
 have ty:s.TypeIs (.ref z) "zip":=⟨_,hz,rfl⟩
 unfold pyNext
 exact yO (Bv (zY (name:=Str.ofString "__next__") ty BL (Ap BL ty PySem.F.entry_zip_next
  (qi D1 D2 D hz hTI hTO st1 st2 k1 k2 λx y h' tk a0 b0 a1 a2 a3 a4 a5 a6=>yR (q x y h' tk a0 b0 a1 a2 a3 a4 a5 a6)) (PySem.F.args_zip_next_1 _))))
theorem end_zip {Q:Option Value->Shared->Prop} (D1:Draws prog w A.in1 i1 f1 n1 P1 S1) (D:ZAp z TI TO i1 i2 f1 f2)
  (hz:IsZip s.heap z TI TO .none) (hTI:IsPair s.heap TI (.ref i1) (.ref i2)) (hTO:IsPair s.heap TO a b) (st1:S1 n1 s.heap)
  (q: ∀ h',(∀ c o,c≠z->c≠TO->c≠i1->c≠i2->s.heap.get? c=some o->h'.get? c=some o)->Q none {s with heap:=h'}):wpAny (model prog w) A (pyNext (.ref z)) Q E s:=by
 have ty:s.TypeIs (.ref z) "zip":=⟨_,hz,rfl⟩
 unfold pyNext
 refine yO (Bv (zY (name:=Str.ofString "__next__") ty BL (Ap BL ty PySem.F.entry_zip_next
  (kH D1 D hz hTI hTO st1 λh' e kk he=>?_) (PySem.F.args_zip_next_1 _))))
 obtain ⟨o,ho,hc⟩:=he
 exact yO (Aq (T:="StopIteration") (b:=true) ⟨o,ho,hc⟩ isSubtype_stop (yR (q _ kk)))
end
section
variable {prog:Program} {w:World} {A:Around} {s:Shared} {E:Value->Shared->Prop}
noncomputable def tIt (l:Addr):Obj:={cls:=.type "tuple_iterator",data:=.fields #[.ref l,.int 0 0]}
noncomputable def zG2 (h:Heap) (l1 l2:Addr):Heap:=(h.push (tIt l1)).push (tIt l2)
noncomputable def zG3 (h:Heap) (l1 l2:Addr):Heap:=(zG2 h l1 l2).push {cls:=.type "tuple",data:=.seq #[.ref h.objs.size,.ref (h.push (tIt l1)).objs.size]}
noncomputable def zG4 (h:Heap) (l1 l2:Addr):Heap:=(zG3 h l1 l2).push {cls:=.type "tuple",data:=.seq #[.none,.none]}
noncomputable def zG5 (h:Heap) (l1 l2:Addr):Heap:=(zG4 h l1 l2).push {cls:=.type "zip",data:=.fields #[.none,.bool false,.bool false,.ref (zG2 h l1 l2).objs.size,.ref (zG3 h l1 l2).objs.size]}
theorem qh (l1 l2:Addr) (xs ys:Array Value):Meets (Builtin.«zip.__new__» ⟨[.type "zip",.ref l1,.ref l2],[]⟩)
  (λ_ R s=>s.heap.IsTuple l1 xs/\s.heap.IsTuple l2 ys/\R (.ok (.ret (.ref (zG4 s.heap l1 l2).objs.size))) {s with heap:=zG5 s.heap l1 l2}):=
 .of_wp λprog w A R s h=>by
  obtain ⟨hp,g,d,tk,os⟩:=s
  obtain ⟨a1,a2,h⟩:=h
  have sub:=sub_zip
  have b1:Heap.IsTuple (Shared.heap ⟨hp,g,d,tk,os⟩) l1 xs:=a1
  have b2:Heap.IsTuple (Shared.heap ⟨hp.push {cls:=.type "tuple_iterator",data:=.fields #[.ref l1,.int 0 0]},g,d,tk,os⟩) l2 ys:=Heap.IsTuple.push a2 _
  wp_walk using Ci b1,Ci b2
  exact ⟨_,rfl,h⟩
theorem call_zipS {c:Bool} {l1 l2:Addr} {xs ys:Array Value} {Q:Value->Shared->Prop} (a1:SSeq c s.heap l1 xs) (a2:SSeq c s.heap l2 ys)
  (q: ∀ h',IsZip h' (s.heap.objs.size+4) (s.heap.objs.size+2) (s.heap.objs.size+3) .none->IsPair h' (s.heap.objs.size+2) (.ref s.heap.objs.size) (.ref (s.heap.objs.size+1))->
   IsPair h' (s.heap.objs.size+3) .none .none->SIter c h' s.heap.objs.size l1 0->SIter c h' (s.heap.objs.size+1) l2 0->
   (∀ b o,s.heap.get? b=some o->h'.get? b=some o)->Q (.ref (s.heap.objs.size+4)) {s with heap:=h'}):wpAny (model prog w) A (call (.type "zip") [.ref l1,.ref l2]) Q E s:=by
 cases c with
 | false=>exact call_zip_2 a1 a2 λh' b1 b2 b3 b4 b5 _ b7=>q h' b1 b2 b3 b4 b5 b7
 | true=>
  refine callType_new PySem.F.called_zip (by decide) (PySem.F.typeCall_zip_2 _ _) (PySem.F.newCall_zip_2 _ _) (λobj=>PySem.F.args_object_init_3 obj _ _) PySem.F.entry_zip_new (qh l1 l2 xs ys) ⟨a1,a2,?_⟩
  have z1:(s.heap.push (tIt l1)).objs.size=s.heap.objs.size+1:=Aw ..
  have z2:(zG2 s.heap l1 l2).objs.size=s.heap.objs.size+2:=by unfold zG2;rw [Aw,z1]
  have z3:(zG3 s.heap l1 l2).objs.size=s.heap.objs.size+3:=by unfold zG3;rw [Aw,z2]
  have z4:(zG4 s.heap l1 l2).objs.size=s.heap.objs.size+4:=by unfold zG4;rw [Aw,z3]
  have g5:(zG5 s.heap l1 l2).get? (zG4 s.heap l1 l2).objs.size=some {cls:=.type "zip",data:=.fields #[.none,.bool false,.bool false,.ref (zG2 s.heap l1 l2).objs.size,.ref (zG3 s.heap l1 l2).objs.size]}:=y6 _ rfl
  have g4:(zG5 s.heap l1 l2).get? (zG3 s.heap l1 l2).objs.size=some {cls:=.type "tuple",data:=.seq #[.none,.none]}:=yQ _ (y6 _ rfl)
  have g3:(zG5 s.heap l1 l2).get? (zG2 s.heap l1 l2).objs.size=some {cls:=.type "tuple",data:=.seq #[.ref s.heap.objs.size,.ref (s.heap.push (tIt l1)).objs.size]}:=yQ _ (yQ _ (y6 _ rfl))
  have g2:(zG5 s.heap l1 l2).get? (s.heap.push (tIt l1)).objs.size=some (tIt l2):=yQ _ (yQ _ (yQ _ (y6 _ rfl)))
  have g1:(zG5 s.heap l1 l2).get? s.heap.objs.size=some (tIt l1):=yQ _ (yQ _ (yQ _ (yQ _ (y6 _ rfl))))
  show _/\_
  rw [z2,z3,z4]at g5
  rw [z1,z2]at g3
  rw [z3]at g4
  rw [z1]at g2
  rw [z4]
  exact ⟨⟨_,g5,rfl⟩,q _ g5 g3 g4 (show Heap.IsTupleIter _ _ _ _ from ⟨_,g1,rfl,rfl⟩) (show Heap.IsTupleIter _ _ _ _ from ⟨_,g2,rfl,rfl⟩) λb o x=>
   yQ _ (yQ _ (yQ _ (yQ _ (yQ _ x))))⟩
end
end HT
namespace L2
open PySem PySem.Spec PyProof.Rows
noncomputable def ff (c:Bool) (xs:List V):HO:=if c=true then .tup xs else .lst xs
theorem kR {c:Bool} {xs ys:List V} (h:ff c xs=ff c ys):xs=ys:=by
 cases c with
 | true=>exact HO.tup.inj h
 | false=>exact HO.lst.inj h
theorem Inv.seqS {X:Cx} {pins:List (Addr×Obj)} {U:St} {H:Hp} {s:Shared} {c:Bool} {a:Addr} {xs:List V} (I:Inv X pins U H s) (h:H a=some (ff c xs)): ∃ its:List Value,Vals xs its/\HT.SSeq c s.heap a its.toArray/\xs.length<=sizeLine:=by
 cases c with
 | true=>obtain ⟨its,r,p,z⟩:=I.tuple (SqT.of (K:=X.K) h);exact ⟨its,r,p,z⟩
 | false=>obtain ⟨its,r,p,z⟩:=I.list (SqL.of (K:=X.K) h);exact ⟨its,r,p.isList,z⟩
noncomputable def Itz (c:Bool) (l1 l2:Addr):It:=
 ⟨λi H=> ∃ xs ys x y,H l1=some (ff c xs)/\H l2=some (ff c ys)/\xs[i]? =some x/\ys[i]? =some y,
  λi H v H'=> ∃ T x y,H T=none/\v=.ref T/\H'=upd H T (.tup [x,y])/\ ∀ xs ys,H l1=some (ff c xs)->H l2=some (ff c ys)->xs[i]? =some x/\ys[i]? =some y,
  λi H=> ∃ xs ys,H l1=some (ff c xs)/\H l2=some (ff c ys)/\xs.length=i/\ys.length=i⟩
def ZAt (c:Bool) (z TI TO i1 i2 l1 l2:Addr) (i:Nat) (h:Heap):Prop:=IsZip h z TI TO .none/\IsPair h TI (.ref i1) (.ref i2)/\(∃ a b,IsPair h TO a b)/\HT.SIter c h i1 l1 i/\HT.SIter c h i2 l2 i
theorem fp5 {z TI TO i1 i2 b:Addr} (h:b∈[z,TI,TO,i1,i2]):b=z\/b=TI\/b=TO\/b=i1\/b=i2:=by simpa using h
theorem qy {P:Program} {w:World} {K:W.Frag} {es:List Expr} {kk:Nat} {tpos:Pos} (c:Bool) (z TI TO i1 i2 l1 l2:Addr) (nd:[z,TI,TO,i1,i2].Nodup):
  qg P w K (.Tuple es kk tpos) (Itz c l1 l2) [z,TI,TO,i1,i2] z (ZAt c z TI TO i1 i2 l1 l2):=by
 simp only [Ad,za,Ae,CW,not_or,Bh,and_true]at nd
 obtain ⟨⟨n1,n2,n3,n4⟩,⟨n5,n6,n7⟩,⟨n8,n9⟩,n10,_⟩:=nd
 have ap: ∀ {X:Cx} {pins:List (Addr×Obj)} {H:Hp} {xs ys:List V},(∀ b∈[z,TI,TO,i1,i2],fC X pins H b)->H l1=some (ff c xs)->H l2=some (ff c ys)->
   HT.ZAp z TI TO i1 i2 [i1,l1] [i2,l2]/\l1≠i1/\l2≠i2:=by
  intro X pins H xs ys hf h1 h2
  have a: ∀ b∈[z,TI,TO,i1,i2],b≠l1/\b≠l2:=λb hb=>⟨(aj h1 (hf b hb).1).symm,(aj h2 (hf b hb).1).symm⟩
  have az:=a z (by simp)
  have aO:=a TO (by simp)
  have a1:=a i1 (by simp)
  have a2:=a i2 (by simp)
  refine ⟨⟨zT n1,zT n2,zT n3,zT n4,n5,n6,n7,n8,n9,n10,?_,?_,?_,?_,?_,?_⟩,zT a1.1,zT a2.2⟩ <;> simp only [za,Ae,CW,not_or]
  ·exact ⟨n3,az.1⟩
  ·exact ⟨n4,az.2⟩
  ·exact ⟨n8,aO.1⟩
  ·exact ⟨n9,aO.2⟩
  ·exact ⟨zT n10,a2.1⟩
  ·exact ⟨n10,a1.2⟩
 refine ⟨by simp,λi h st b hb=>?_,λi h h' st k=>?_,?_,?_,λ_ _ _ _ _ st h=>wpAny_pyIter_zip st.1 h⟩
 ·obtain ⟨h1,h2,⟨a,b',h3⟩,h4,h5⟩:=st
  rcases fp5 hb with rfl | rfl | rfl | rfl | rfl
  ·exact ⟨_,h1,λv e=>nomatch e⟩
  ·exact ⟨_,h2,λv e=>nomatch e⟩
  ·exact ⟨_,h3,λv e=>nomatch e⟩
  ·exact h4.obj
  ·exact h5.obj
 ·obtain ⟨h1,h2,⟨a,b',h3⟩,h4,h5⟩:=st
  exact ⟨k z (by simp) _ h1,k TI (by simp) _ h2,⟨a,b',k TO (by simp) _ h3⟩,h4.at λo e=>k i1 (by simp) o e,h5.at λo e=>k i2 (by simp) o e⟩
 ·intro X hP hw hK hc i pins s U H E I hf st hg
  subst hP hw hK
  obtain ⟨xs,ys,x,y,hx,hy,ex,ey⟩:=hg
  obtain ⟨its1,r1,q1,_⟩:=I.seqS hx
  obtain ⟨its2,r2,q2,_⟩:=I.seqS hy
  obtain ⟨u,hu,ru⟩:=r1.get ex
  obtain ⟨v,hv,rv⟩:=r2.get ey
  obtain ⟨z0,t0,⟨a,b,o0⟩,s1,s2⟩:=st
  obtain ⟨D,e1,e2⟩:=ap hf hx hy
  refine HT.next_zip (HT.draws_seq (A:=X.A.in1) c (I.ok.hd hc) i1 l1 e1 its1.toArray) (HT.draws_seq (A:=X.A.in1) c (I.ok.hd hc) i2 l2 e2 its2.toArray) D z0 t0 o0 ⟨s1,q1⟩ ⟨s2,q2⟩
   (by rw [y1];exact (yX.mp hu).1) (by rw [y1];exact (yX.mp hv).1) λx' y' h' tk px py z1 o1 t1 t2 pr kk=>?_
  have ex':x'=u:=by
   have p1:its1[i]? =some x':=by simpa using px
   rw [hu]at p1;exact (zj p1).symm
  have ey':y'=v:=by
   have p1:its2[i]? =some y':=by simpa using py
   rw [hv]at p1;exact (zj p1).symm
  subst ex' ey'
  refine ⟨_,rfl,wpAny_letOwnedTupleGo_zip z1 λh'' z2 sb=>?_⟩
  have lt: ∀ {b:Addr} {ob:Obj},s.heap.get? b=some ob->b≠s.heap.objs.size:=λe=>zi (y2 e)
  have fT:H s.heap.objs.size=none:=I.hok.fresh (yV _)
  have keep: ∀ b ob,b∉[z,TO,i1,i2]->s.heap.get? b=some ob->h''.get? b=some ob:=λb ob hb e=>by
   simp only [za,Ae,CW,not_or]at hb
   exact sb.extBut b ob hb.1 (kk b ob hb.1 hb.2.1 hb.2.2.1 hb.2.2.2 e)
  have sub: ∀ b,b∈[z,TO,i1,i2]->b∈[z,TI,TO,i1,i2]:=λb hb=>by
   simp only [za,Ae,CW]at hb ⊢
   rcases hb with h | h | h | h
   ·exact .inl h
   ·exact .inr (.inr (.inl h))
   ·exact .inr (.inr (.inr (.inl h)))
   ·exact .inr (.inr (.inr (.inr h)))
  have trk: ∀ b uo,H b=some uo->b∉[z,TO,i1,i2]:=λb uo e hb=>by rw [(hf b (sub b hb)).1]at e;cases e
  have ptT:IsPair h'' s.heap.objs.size x' y':=sb.extBut _ _ (zT (lt z0)) pr
  have I2:Inv X pins U (upd H s.heap.objs.size (.tup [x,y])) {s with heap:=h'',toks:=tk}:=by
   refine I.step (g':=s.gens) (d':=s.drawn) (ch:=[z,TO,i1,i2]) (λb hb=>?_) (λb ob _ _ hb e _=>keep b ob hb e) (λb ob _ _ hb e _=>⟨ob.slots,keep b ob hb e⟩) (λb ob hb e n=>by rw [ak (lt e)];exact n)
    (λb ob hb e=>⟨ob,keep b ob hb e⟩) (λb zs e=>by rw [ak (aj e fT)];exact e) (λb ob uo e=>by rw [ak (aj e fT)];exact e) (λb ps e=>⟨#[],by rw [ak (aj e fT),e];simp⟩) (λm hm=>?_) (λb uo e=>?_) I.bare
   ·obtain ⟨_,f1,_,f3,f4,f5⟩:=hf b (sub b hb)
    exact ⟨f3,f1,f4,f5⟩
   ·obtain ⟨ob,es',ep,ho,r⟩:=hm
    exact ⟨ob,es',ep,keep _ ob (λhb=>(hf _ (sub _ hb)).2.1 rfl) ho,r⟩
   ·by_cases hb:b=s.heap.objs.size
    ·subst hb
     rw [ad]at e
     cases e
     exact ⟨by show 2<=sizeLine;decide,[x',y'],.cons ru (.cons rv .nil),_,ptT,rfl,_,rfl⟩
    ·rw [ak hb]at e
     refine (I.hok b uo e).stay (λc' v' hc' q=>keep c' v' ?_ q) (λc' q=>by rw [ak (aj q fT)];exact q) λc' zs q=>by rw [ak (aj q fT)];exact q
     rcases hc' with h | h
     ·rw [h];exact trk b uo e
     ·exact trk c' _ h
  refine ⟨.ref s.heap.objs.size,_,I2,rfl,⟨_,x,y,fT,rfl,rfl,λxs' ys' h1 h2=>?_⟩,⟨z2,sb.extBut _ _ (zT n1) (kk _ _ (zT n1) n5 n6 n7 t0),⟨_,_,sb.extBut _ _ (zT n2) o1⟩,t1.1.at λo e=>sb.extBut _ o (zT n3) e,t2.1.at λo e=>sb.extBut _ o (zT n4) e⟩,λb hb=>?_⟩
  ·rw [hx]at h1
   rw [hy]at h2
   rw [<- kR (zj h1),<- kR (zj h2)]
   exact ⟨ex,ey⟩
  ·have hb': ∃ ob,s.heap.get? b=some ob:=by
    rcases fp5 hb with rfl | rfl | rfl | rfl | rfl
    ·exact ⟨_,z0⟩
    ·exact ⟨_,t0⟩
    ·exact ⟨_,o0⟩
    ·obtain ⟨ob,e,_⟩:=s1.obj;exact ⟨ob,e⟩
    ·obtain ⟨ob,e,_⟩:=s2.obj;exact ⟨ob,e⟩
   obtain ⟨ob,e⟩:=hb'
   rw [ak (lt e)]
   exact (hf b hb).1
 ·intro X hP hw hK hc i pins s U H E I hf st hg
  subst hP hw hK
  obtain ⟨xs,ys,hx,hy,l,l'⟩:=hg
  obtain ⟨its1,r1,q1,_⟩:=I.seqS hx
  obtain ⟨z0,t0,⟨a,b,o0⟩,s1,s2⟩:=st
  obtain ⟨D,e1,e2⟩:=ap hf hx hy
  have hi:i=its1.toArray.size:=by rw [y1,<- l];exact r1.length
  rw [hi]at s1
  refine HT.end_zip (HT.draws_seq (A:=X.A.in1) c (I.ok.hd hc) i1 l1 e1 its1.toArray) D z0 t0 o0 ⟨s1,q1⟩ λh' kk=>⟨rfl,?_⟩
  have keep: ∀ b ob,b∉[z,TO,i1,i2]->s.heap.get? b=some ob->h'.get? b=some ob:=λb ob hb e=>by
   simp only [za,Ae,CW,not_or]at hb
   exact kk b ob hb.1 hb.2.1 hb.2.2.1 hb.2.2.2 e
  have sub: ∀ b,b∈[z,TO,i1,i2]->b∈[z,TI,TO,i1,i2]:=λb hb=>by
   simp only [za,Ae,CW]at hb ⊢
   rcases hb with h | h | h | h
   ·exact .inl h
   ·exact .inr (.inr (.inl h))
   ·exact .inr (.inr (.inr (.inl h)))
   ·exact .inr (.inr (.inr (.inr h)))
  have trk: ∀ b uo,H b=some uo->b∉[z,TO,i1,i2]:=λb uo e hb=>by rw [(hf b (sub b hb)).1]at e;cases e
  refine I.step (g':=s.gens) (d':=s.drawn) (t':=s.toks) (ch:=[z,TO,i1,i2]) (λb hb=>?_) (λb ob _ _ hb e _=>keep b ob hb e) (λb ob _ _ hb e _=>⟨ob.slots,keep b ob hb e⟩) (λb ob hb e n=>n)
   (λb ob hb e=>⟨ob,keep b ob hb e⟩) (λb zs e=>e) (λb ob uo e=>e) (λb ps e=>⟨#[],by rw [e];simp⟩) (λm hm=>?_) (λb uo e=>?_) I.bare
  ·obtain ⟨_,f1,_,f3,f4,f5⟩:=hf b (sub b hb)
   exact ⟨f3,f1,f4,f5⟩
  ·obtain ⟨ob,es',ep,ho,r⟩:=hm
   exact ⟨ob,es',ep,keep _ ob (λhb=>(hf _ (sub _ hb)).2.1 rfl) ho,r⟩
  ·refine (I.hok b uo e).stay (λc' v' hc' q=>keep c' v' ?_ q) (λ_ q=>q) λ_ _ q=>q
   rcases hc' with h | h
   ·rw [h];exact trk b uo e
   ·exact trk c' _ h
noncomputable def yx (ta:TA):TI:=λU H R=>ta U H λvs H1=> ∃ c l1 l2 xs ys,vs=[.ref l1,.ref l2]/\H1 l1=some (ff c xs)/\H1 l2=some (ff c ys)/\R (Itz c l1 l2) H1
theorem vY {X:Cx} {es:List Expr} {kk:Nat} {tpos:Pos} {a b:Expr} {ta:TA} {p pos:Pos} (hg:Gl X "zip") (hm:X.mg "zip"=none) (ha:PA X [a,b] ta) (hs:starEach [a,b] X.env=[(false,eval a X.env),(false,eval b X.env)]:=by rfl) (hs2:starEach [b] X.env=[(false,eval b X.env)]:=by rfl):
  PI X (.Tuple es kk tpos) (.Call (.Name "zip" p) [a,b] [] pos) (yx ta):=by
 intro pins s U H R I h
 refine Call_ (cV I hg hm (show bootBuiltins "zip"=some (.type "zip") by decide +kernel) (Ai (thn (ha pos pins s U H _ I h) λus s1 ⟨vs,H1,I1,r1,q1⟩=>?_) (by rw [hs,hs2]) (by rw [hs2];rfl)))
 obtain ⟨c,l1,l2,xs,ys,rfl,hx,hy,q⟩:=q1
 obtain ⟨u,v,rfl,ru,rv⟩:=je r1
 cases (show u=Value.ref l1 from ru)
 cases (show v=Value.ref l2 from rv)
 obtain ⟨its1,_,e1,_⟩:=I1.seqS hx
 obtain ⟨its2,_,e2,_⟩:=I1.seqS hy
 refine HT.call_zipS e1 e2 λh' a1 a2 a3 a4 a5 kp=>?_
 have I2:Inv X pins U H1 {s1 with heap:=h'}:=I1.kept (t':=s1.toks) kp
 refine wpAny_pyIter_zip a1 ?_
 refine ⟨s1.heap.objs.size+4,[s1.heap.objs.size+4,s1.heap.objs.size+2,s1.heap.objs.size+3,s1.heap.objs.size,s1.heap.objs.size+1],_,_,H1,rfl,I2,qy c _ _ _ _ _ l1 l2 (by simp),⟨a1,a2,⟨_,_,a3⟩,a4,a5⟩,λb hb=>?_,q⟩
 have hb':s1.heap.objs.size<=b:=by rcases fp5 hb with rfl | rfl | rfl | rfl | rfl <;> lia
 exact I1.fpOk hb' (I1.hok.fresh hb')
structure hX (sc0:Scope) (N0:List Str) (scope:Scope) (x x2:Str) (ys:List Str) (fr:List Nat):Prop where
 kind:scope.kind=.function
 nocell: ∀ y∈scope.names,y.2≠ .cell
 loc: ∀ y∈scope.names,y.2=.local->scope.names.lookup y.1=some .local
 xl:(aY sc0 scope).lookup x=some .local
 xl2:(aY sc0 scope).lookup x2=some .local
 free: ∀ y∈scope.names,y.2=.free->sc0.names.lookup y.1=some .cell
 nd:(x::x2::ys).Nodup
 len:ys.length=fr.length
 sl: ∀ q∈ys.zip fr,N0[q.2]? =some q.1/\sc0.names.lookup q.1=some .cell/\(aY sc0 scope).lookup q.1=some .cell
noncomputable def aV (X:Cx) (x x2:Str) (ys:List Str) (scope:Scope) (C:Addr) (s:Shared) (H:Hp) (ex:List Addr):Cx:=
 {X with N:=x::x2::ys,s₀:=s,H₀:=H,env:=compEnvC scope (bo X.env.cells scope.names) C X.env,outer:=X.stack,stack:=X.stack,ex:=ex,fn:=λ_=>false,pn:=[],xe:=λ_ _=>False}
def nQ (fr:List Nat) (te:TE) (U:St) (J:It) (H1:Hp) (Q:VK):Prop:=
 ∀ p,H1 p=none-> ∃ W:Nat->Nat->List V->Hp->Prop,(∃ m,W 0 m [] (upd H1 p (.lst [])))/\ ∀ i m ys H,W i m ys H->H p=some (.lst ys)/\
  ((J.stop i H/\Q (.ref p) H)\/(J.go i H/\ys.length<sizeLine/\ ∀ x H',J.yld i H x H'-> ∃ T v1 v2,x=.ref T/\H' T=some (.tup [v1,v2])/\te (some v1::some v2::bg fr U) H' λv H2=>
   H2 p=some (.lst ys)/\ ∃ m',m'<m/\W (i+1) m' (ys++[v]) (upd H2 p (.lst (ys++[v])))))
def qD (wi:TI) (fr:List Nat) (te:TE):TE:=λU H Q=>wi U H λJ H1=>nQ fr te U J H1 Q
section
variable {X:Cx} {x x2:Str} {px px2 tpos pos fpos:Pos} {kk:Nat} {iter elt:Expr} {scope sc0:Scope} {N0 ys:List Str} {fr:List Nat} {wi:TI} {te:TE} {pins:List (Addr×Obj)} {U:St} {H:Hp} {s:Shared}
theorem ny {use:Option (Value->Sem Unit)} {Qv:Value->Shared->Prop} {Q:VK} (hcalm:X.calm=true) (hi:PI X (.Tuple [.Name x px,.Name x2 px2] kk tpos) iter wi) (hsc:X.env.scope=sc0) (hN:X.N=N0) (ok:hX sc0 N0 scope x x2 ys fr)
  (hE: ∀ C s H ex,PE (aV X x x2 ys scope C s H ex) elt te) (I:Inv X pins U H s) (h:qD wi fr te U H Q) (hs: ∀ v,foldedSetIterable iter X.env v=pure v)
  (fin: ∀ (p C:Addr) (H':Hp) (s':Shared) (m:Str->Option Value),Inv X pins U H' s'->s'.heap.Ns C m->H' C=none->C≠X.env.locals->X.s₀.heap.objs.size<=C->(∀ y c,X.env.cells.lookup y=some c->c≠C)->(∀ q∈X.pn++pins,q.1≠C)->Q (.ref p) H'->
   compPost (model X.prog X.w) X.A X.xe use Qv (.ref p) C (.ok .next) s'):
  wpAny (model X.prog X.w) X.A (comprehension (.ListComp elt [⟨.Tuple [.Name x px,.Name x2 px2] kk tpos,iter,[],0⟩] scope pos) scope X.env fpos (newList []) false (eval iter X.env) use) Qv X.xe s:=by
 subst hsc hN
 have hkof: ∀ y,X.env.kindOf y=X.env.scope.names.lookup y:=λy=>rfl
 have hfree: ∀ y∈scope.names,y.2=.free-> ∃ c,X.env.cells.lookup y.1=some c:=λy hy e=>I.ok.has y.1 (.inl (ok.free y hy e))
 refine Bu (gs:=[]) rfl hs (bZ hfree) ok.kind ok.loc (thn (hi pins s U H _ I h) λv s1 h1=>thn h1 λitv s2 h2=>?_)
 obtain ⟨it,fp,tn,J,H2,e,I2,T,st2,f2,hp⟩:=h2
 subst e
 refine zZ (Br ok.nocell (by intro y hy;simp at hy) (λh₁ hns₁ hsb₁=>?_) ok.kind)
 dsimp only at hns₁ hsb₁ ⊢
 have I3:Inv X pins U (upd H2 s2.heap.objs.size (.lst [])) {s2 with heap:=s2.heap.push {cls:=.type "list",data:=.seq ([]:List Value).toArray}}:=
  I2.lnew (its:=[]) (ys:=[]) (t':=s2.toks) .nil (y9 _)
 have hf2: ∀ b∈fp,b<s2.heap.objs.size:=λb hb=>by
  obtain ⟨o,e,_⟩:=T.obj _ _ st2 b hb
  exact y2 e
 have hps:s2.heap.objs.size< (s2.heap.push {cls:=.type "list",data:=.seq ([]:List Value).toArray}).objs.size:=by rw [Aw];exact AZ _
 have W0:=hp s2.heap.objs.size I2.fresh
 have st3:tn 0 (s2.heap.push {cls:=.type "list",data:=.seq ([]:List Value).toArray}):=T.keep _ _ _ st2 λb hb o e=>yQ _ e
 generalize hpp:s2.heap.objs.size=p at I3 W0 hf2 hps ⊢
 generalize hh3:(s2.heap.push {cls:=.type "list",data:=.seq ([]:List Value).toArray})=h3 at I3 hns₁ hsb₁ hps st3 ⊢
 generalize hH3:upd H2 p (.lst [])=H3 at I3 W0
 have hold: ∀ b o,h3.get? b=some o->h₁.get? b=some o:=λb o e=>hsb₁.extBut b o (zi (y2 e)) (yQ _ e)
 have fH3: ∀ b∈fp,H3 b=none:=λb hb=>by
  rw [<- hH3,ak (zi (hf2 b hb))]
  exact (f2 b hb).1
 have hclos: ∀ y c,(bo X.env.cells scope.names).lookup y=some c->X.env.cells.lookup y=some c:=λy c e=>bz e
 have hcell3: ∀ y c,X.env.cells.lookup y=some c->c<h3.objs.size:=λy c e=>by
  obtain ⟨v,o,ho,_⟩:=I3.cell y c e
  exact y2 ho
 have hlt3:X.env.locals<h3.objs.size:=I3.lt
 have Yok:(aV X x x2 ys scope h3.objs.size {s2 with heap:=h3} H3 fp).Ok:={
  mod:=I.ok.mod
  kind:=ok.kind
  glob:=I.ok.glob
  blt:=I.ok.blt
  above:=yV _
  inj:=λy z c e1 e2=>I.ok.inj y z c (hclos _ _ e1) (hclos _ _ e2)
  has:=λy hk=>by
   have hfr:(y,NameKind.free)∈scope.names:=by
    have hm: ∃ k,(aY X.env.scope scope).lookup y=some k/\(k=.cell\/k=.free):=by
     rcases hk with hk | hk
     ·exact ⟨_,hk,.inl rfl⟩
     ·exact ⟨_,hk,.inr rfl⟩
    obtain ⟨k,hk,hkk⟩:=hm
    have hmem:=mem_of_lookup hk
    unfold aY at hmem
    obtain ⟨⟨n,k0⟩,hn,en⟩:=zd.mp hmem
    dsimp only at en
    split at en
    ·rename_i hc
     simp only [zM]at hc
     have hk0:k0=.free:=by simpa using hc.1.1
     cases en
     rw [<- hk0]
     exact hn
    ·cases en
     rcases hkk with e | e
     ·exact absurd e (ok.nocell _ hn)
     ·rw [<- e]
      exact hn
   obtain ⟨c,hc⟩:=hfree _ hfr rfl
   exact ⟨c,bK hc hfr⟩
  cab:=λy c hf _=>by cases hf
  hd:=I.ok.hd
  frames:=I.ok.frames
  stk:=.inl rfl
  exf:=λb hb=>⟨λe=>absurd (hf2 b hb) (by rw [e];exact BP.mpr (zR hps)),λy c e=>(f2 b hb).2.2.2.2.1 y c (hclos _ _ e)⟩
  bs:=λb o e=>⟨(I3.bs b o e).1,(I3.bs b o e).2⟩
  bsz:=zc I.ok.bsz I3.sz
  noex:=λb o e hb=>by
   rcases (f2 b hb).2.2.2.1 with q | q
   ·exact I.ok.noex b o e q
   ·have h1:b<X.base.objs.size:=y2 e
    exact absurd h1 (BP.mpr (zc I.ok.bsz q))
  exfs:=λb hb hm=>by
   rcases za.mp (I3.stkSub b hm)with q | q
   ·exact (f2 b hb).2.1 q
   ·exact (f2 b hb).2.2.1 q
  funs:=I3.stack
  frf:=I3.stkFree}
 have IY:Inv (aV X x x2 ys scope h3.objs.size {s2 with heap:=h3} H3 fp) [] (none::none::bg fr U) H3 {s2 with heap:=h₁,toks:=s2.toks+ ([]:List (Str×Value)).length}:={
  ok:=Yok
  os:=rfl
  bare:=I2.bare
  base:=Un.kept hold
  loc:=by
   refine ⟨_,hns₁,λi y v hy hv hvis=>?_⟩
   match i,hy,hv with
   | 0,_,hv=>cases hv
   | 1,_,hv=>cases hv
   | j+2,hy,hv=>
    have hy':ys[j]? =some y:=hy
    have hv':(bg fr U)[j]? =some (some v):=hv
    unfold bg at hv'
    rw [zo]at hv'
    obtain ⟨i0,hi0,hv0⟩:=Af.mp hv'
    have hz:(y,i0)∈ys.zip fr:=by
     refine AE.mpr ⟨j,?_⟩
     rw [AA]
     exact ⟨hy',hi0⟩
    obtain ⟨hn,hk,hk2⟩:=ok.sl _ hz
    have hU:U[i0]? =some (some v):=by
     cases e:U[i0]? with
     | none=>rw [e]at hv0;cases hv0
     | some o=>
      rw [e]at hv0
      rw [show o=some v from hv0]
    obtain ⟨m,hm,hl⟩:=I3.loc
    obtain ⟨u,ru,lk⟩:=hl i0 y v hn hU (.inr (.inl hk))
    refine ⟨u,ru,.inr ⟨.inl hk2,?_⟩⟩
    rcases lk with ⟨a,_⟩ | ⟨_,c,hc,hcell⟩
    ·have a':X.env.scope.names.lookup y=some .local:=a
     have hk':X.env.scope.names.lookup y=some .cell:=hk
     rw [hk']at a'
     cases a'
    ·have hfr:(y,NameKind.free)∈scope.names:=by
      have hmem:=mem_of_lookup hk2
      unfold aY at hmem
      obtain ⟨⟨n,k0⟩,hn0,en⟩:=zd.mp hmem
      dsimp only at en
      split at en
      ·rename_i hc0
       simp only [zM]at hc0
       have hk0:k0=.free:=by simpa using hc0.1.1
       cases en
       rw [<- hk0]
       exact hn0
      ·cases en
       exact absurd rfl (ok.nocell _ hn0)
     exact ⟨c,bK hc hfr,hcell.keeps hold⟩
  cell:=λy c e=>by
   obtain ⟨v,hv⟩:=I3.cell y c (hclos _ _ e)
   exact ⟨v,hv.keeps hold⟩
  free:=I3.fresh
  freeC:=λy c e=>I3.freeC y c (hclos _ _ e)
  pin:=λq hq=>by cases hq
  hok:=I3.hok.kept hold
  len:=by
   show (none::none::bg fr U).length=(x::x2::ys).length
   rw [zn,zn,zn,zn,ok.len]
   unfold bg
   rw [yP]}
 have hxl:(aV X x x2 ys scope h3.objs.size {s2 with heap:=h3} H3 fp).env.scope.names.lookup x=some .local:=ok.xl
 have hxl2:(aV X x x2 ys scope h3.objs.size {s2 with heap:=h3} H3 fp).env.scope.names.lookup x2=some .local:=ok.xl2
 have pgx:PG (aV X x x2 ys scope h3.objs.size {s2 with heap:=h3} H3 fp) (.Tuple [.Name x px,.Name x2 px2] kk tpos) (uD X.K 2 (jA (fc 0) (jA (fc 1) wA))):=
  cu hcalm (aJ (aw (i:=0) ok.nd rfl (.inl hxl) (.inr hxl)) (aJ (aw (i:=1) ok.nd rfl (.inl hxl2) (.inr hxl2)) bU))
 have pel:=hE h3.objs.size {s2 with heap:=h3} H3 fp
 obtain ⟨W,⟨m0,w0⟩,turn⟩:=W0
 have stat: ∀ {H':Hp},(∀ b∈fp,H' b=none)-> ∀ b∈fp,fC (aV X x x2 ys scope h3.objs.size {s2 with heap:=h3} H3 fp) [] H' b:=λhn b hb=>
  ⟨hn b hb,(Yok.exf b hb).1,Yok.exfs b hb,.inl hb,(Yok.exf b hb).2,λq hq=>by cases hq⟩
 have loop:codeAny (model X.prog X.w) X.A (.compLoop (.ListComp elt [⟨.Tuple [.Name x px,.Name x2 px2] kk tpos,iter,[],0⟩] scope pos) 0 (.ref it) (.ref p) (compEnvC scope (bo X.env.cells scope.names) h3.objs.size X.env))
   (compPost (model X.prog X.w) X.A X.xe use Qv (.ref p) h3.objs.size) {s2 with heap:=h₁,toks:=s2.toks+ ([]:List (Str×Value)).length}:=by
  refine fe (λn s'=> ∃ i zs v0 w0 H',Inv (aV X x x2 ys scope h3.objs.size {s2 with heap:=h3} H3 fp) [] (v0::w0::bg fr U) H' s'/\tn i s'.heap/\(∀ b∈fp,H' b=none)/\W i n zs H') ?_ m0
   ⟨0,[],none,none,H3,IY,T.keep _ _ _ st3 λb hb o e=>hold b o e,fH3,w0⟩
  rintro n s5 ⟨i,zs,v0,wv0,H5,I5,st5,fr5,w5⟩
  obtain ⟨hacc,turn5⟩:=turn i n zs H5 w5
  rcases turn5 with ⟨stop,qn⟩ | ⟨go,hlen,step⟩
  ·refine thn (T.done (aV X x x2 ys scope h3.objs.size {s2 with heap:=h3} H3 fp) rfl rfl rfl hcalm i [] s5 _ H5 _ I5 (stat fr5) st5 stop) λr s6 ⟨hr,I6⟩=>?_
   subst hr
   obtain ⟨m6,n6,_⟩:=I6.loc
   refine fin p h3.objs.size H5 s6 m6 (I3.call' I6.os I6.base I6.hok I6.bare λb hb=>⟨(f2 b hb).2.2.2.1,(f2 b hb).2.1,(f2 b hb).2.2.2.2.1,(f2 b hb).2.2.2.2.2⟩) n6 I6.free (As hlt3) I3.sz (λy c e=>zi (hcell3 y c e)) (λq hq=>?_) qn
   exact zi (y2 (I3.pin q hq).1)
  ·refine thn (T.item (aV X x x2 ys scope h3.objs.size {s2 with heap:=h3} H3 fp) rfl rfl rfl hcalm i [] s5 _ H5 _ I5 (stat fr5) st5 go) λr s6 ⟨u,hr,h6⟩=>?_
   subst hr
   refine thn h6 λ_ s7 ⟨xv,H7,I7,r7,y7,st7,fr7⟩=>?_
   have I7':=I7.pinned (stat fr7) (T.obj _ _ st7)
   obtain ⟨T7,v1,v2,eT,hT7,step7⟩:=step xv H7 y7
   refine thn (pgx _ s7 _ H7 xv u (λU' H'=>U'=some v1::some v2::bg fr U/\H'=H7) I7' r7 ⟨T7,[v1,v2],eT,SqT.of hT7,rfl,v1,[v2],rfl,v2,[],rfl,rfl,rfl,rfl⟩) λ_ s8 ⟨U8,H8,I8,e8,e8'⟩=>?_
   subst e8 e8'
   refine thn (pel _ s8 _ H8 _ I8 step7) λyv s9 ⟨v9,H9,I9,r9,hp9,m',hm',w9⟩=>?_
   refine thn (bu _ s9 _ H9 (.ref p) [v9] (.ref p) [yv] (λ_ H'=>H'=upd H9 p (.lst (zs++[v9]))) I9 rfl (.cons r9 .nil) ⟨p,zs,v9,rfl,rfl,hp9,hlen,rfl⟩) λ_ s10 ⟨_,H10,I10,_,e10⟩=>?_
   subst e10
   refine ⟨m',hm',i+1,zs++[v9],some v1,some v2,_,I10.unpinned,T.keep _ _ _ st7 λb hb o e=>(I10.pin (b,o) (yS _ (yS _ (a7 hb e)))).1,λb hb=>?_,w9⟩
   obtain ⟨o,e,d⟩:=T.obj _ _ st7 b hb
   exact (I10.pin (b,o) (yS _ (yS _ (a7 hb e)))).2.1
 exact BG loop (T.self X.A 0 _ _ _ (T.keep _ _ _ st3 λb hb o e=>hold b o e) loop)
theorem lh (hcalm:X.calm=true) (hi:PI X (.Tuple [.Name x px,.Name x2 px2] kk tpos) iter wi) (hsc:X.env.scope=sc0) (hN:X.N=N0) (ok:hX sc0 N0 scope x x2 ys fr)
  (hE: ∀ C s H ex,PE (aV X x x2 ys scope C s H ex) elt te) (hs: ∀ v,foldedSetIterable iter X.env v=pure v:=by intro _;rfl):
  PE X (.ListComp elt [⟨.Tuple [.Name x px,.Name x2 px2] kk tpos,iter,[],0⟩] scope pos) (qD wi fr te):=by
 intro pins s U H Q I h
 rw [Dk]
 refine ny (use:=none) (Qv:=EP X pins U Q) (Q:=Q) hcalm hi hsc hN ok hE I h hs λp C H' s' m I' hn h0 h1 h2 h3 h4 q=>?_
 refine ⟨m,hn,λh' sb=>⟨.ref p,H',I'.turned (t':=s'.toks) (λb o hb e=>sb.extBut b o hb e) h0 (zT (zT h1)) (.inr h2) h3 h4,rfl,q⟩⟩
end
section
variable {prog:Program} {w:World} {A:Around} {R:Result->Shared->Prop} {s:Shared}
theorem eB {elt target iter cnd:Expr} {scope:Scope} {pos:Pos} {it acc:Value} {env:Env} (I:Nat->Shared->Prop)
  (turn: ∀ n s,I n s->wpAny (model prog w) A (pyNext it) (λr s₁=>match r with
   | none=>R (.ok .next) s₁
   | some v=>wpAny (model prog w) A (letOwnedTupleGo target it v) (λ_ s₁'=>wpAny (model prog w) A (assign target env v) (λ_ s₂=>wpAny (model prog w) A (isTrue cnd env (eval cnd env)) (λok s₃=>
     if ok=true then wpAny (model prog w) A (eval elt env) (λx s₄=>
      wpAny (model prog w) A (call (.builtin "list.append") [acc,x]) (λ_ s₅=> ∃ m,m<n/\I m s₅) (λ_ _=>False) s₄) (λ_ _=>False) s₃
     else ∃ m,m<n/\I m s₃) (λ_ _=>False) s₂) (λ_ _=>False) s₁') (λ_ _=>False) s₁) (λ_ _=>False) s)
  (n:Nat) (h:I n s):codeAny (model prog w) A (.compLoop (.ListComp elt [⟨target,iter,[cnd],0⟩] scope pos) 0 it acc env) R s:=by
 refine codeAny_loop rfl I (λn s hI=>?_) n h
 show wpAny _ _ ((compTurn (.ListComp elt [⟨target,iter,[cnd],0⟩] scope pos) 0 it acc env).onRaise (λx=>do noteFrame x env;theTreesLotGoes x)) _ _ s
 refine wpAny_noted ?_
 rw [compTurn_list]
 refine wpAny_noRaise ?_
 refine yO (Cd (yO (Ac (turn n s hI) (λr s₁ h₁=>?_) λ_ _ h'=>h')))
 cases r with
 | none=>exact yR h₁
 | some v=>
  refine yO (Ac h₁ (λ_ s₁' h₁'=>?_) λ_ _ h'=>h')
  refine yO (Ac h₁' (λ_ s₂ h₂=>yO (Ac (wpAny_tests_one h₂) (λok s₃ h₃=>?_) λ_ _ h'=>h')) λ_ _ h'=>h')
  cases ok with
  | false=>exact yR ⟨rfl,h₃⟩
  | true=>
   exact yO (yO (Ac h₃ (λx s₄ h₄=>yO (Ac h₄ (λ_ s₅ h₅=>yR (yR ⟨rfl,h₅⟩)) λ_ _ h'=>h')) λ_ _ h'=>h'))
end
def nO (fr:List Nat) (tc:TT) (te:TE) (U:St) (J:It) (H1:Hp) (Q:VK):Prop:=
 ∀ p,H1 p=none-> ∃ W:Nat->Nat->List V->Hp->Prop,(∃ m,W 0 m [] (upd H1 p (.lst [])))/\ ∀ i m ys H,W i m ys H->H p=some (.lst ys)/\
  ((J.stop i H/\Q (.ref p) H)\/(J.go i H/\ys.length<sizeLine/\ ∀ x H',J.yld i H x H'->tc (some x::bg fr U) H' λb H2=>if b=true then te (some x::bg fr U) H2 λv H3=>
   H3 p=some (.lst ys)/\ ∃ m',m'<m/\W (i+1) m' (ys++[v]) (upd H3 p (.lst (ys++[v])))else ∃ m',m'<m/\W (i+1) m' ys H2))
def qC (wi:TI) (fr:List Nat) (tc:TT) (te:TE):TE:=λU H Q=>wi U H λJ H1=>nO fr tc te U J H1 Q
section
variable {X:Cx} {x:Str} {px pos fpos:Pos} {iter elt cnd:Expr} {scope sc0:Scope} {N0 ys:List Str} {fr:List Nat} {wi:TI} {tc:TT} {te:TE} {pins:List (Addr×Obj)} {U:St} {H:Hp} {s:Shared}
theorem nw {use:Option (Value->Sem Unit)} {Qv:Value->Shared->Prop} {Q:VK} (hcalm:X.calm=true) (hi:PI X (.Name x px) iter wi) (hsc:X.env.scope=sc0) (hN:X.N=N0) (ok:gL sc0 N0 scope x ys fr)
  (hT: ∀ C s H ex,PT (bi X x ys scope C s H ex) cnd tc) (hE: ∀ C s H ex,PE (bi X x ys scope C s H ex) elt te) (I:Inv X pins U H s) (h:qC wi fr tc te U H Q) (hs: ∀ v,foldedSetIterable iter X.env v=pure v)
  (fin: ∀ (p C:Addr) (H':Hp) (s':Shared) (m:Str->Option Value),Inv X pins U H' s'->s'.heap.Ns C m->H' C=none->C≠X.env.locals->X.s₀.heap.objs.size<=C->(∀ y c,X.env.cells.lookup y=some c->c≠C)->(∀ q∈X.pn++pins,q.1≠C)->Q (.ref p) H'->
   compPost (model X.prog X.w) X.A X.xe use Qv (.ref p) C (.ok .next) s'):
  wpAny (model X.prog X.w) X.A (comprehension (.ListComp elt [⟨.Name x px,iter,[cnd],0⟩] scope pos) scope X.env fpos (newList []) false (eval iter X.env) use) Qv X.xe s:=by
 subst hsc hN
 have hkof: ∀ y,X.env.kindOf y=X.env.scope.names.lookup y:=λy=>rfl
 have hfree: ∀ y∈scope.names,y.2=.free-> ∃ c,X.env.cells.lookup y.1=some c:=λy hy e=>I.ok.has y.1 (.inl (ok.free y hy e))
 refine Bu (gs:=[]) rfl hs (bZ hfree) ok.kind ok.loc (thn (hi pins s U H _ I h) λv s1 h1=>thn h1 λitv s2 h2=>?_)
 obtain ⟨it,fp,tn,J,H2,e,I2,T,st2,f2,hp⟩:=h2
 subst e
 refine zZ (Br ok.nocell (by intro y hy;simp at hy) (λh₁ hns₁ hsb₁=>?_) ok.kind)
 dsimp only at hns₁ hsb₁ ⊢
 have I3:Inv X pins U (upd H2 s2.heap.objs.size (.lst [])) {s2 with heap:=s2.heap.push {cls:=.type "list",data:=.seq ([]:List Value).toArray}}:=
  I2.lnew (its:=[]) (ys:=[]) (t':=s2.toks) .nil (y9 _)
 have hf2: ∀ b∈fp,b<s2.heap.objs.size:=λb hb=>by
  obtain ⟨o,e,_⟩:=T.obj _ _ st2 b hb
  exact y2 e
 have hps:s2.heap.objs.size< (s2.heap.push {cls:=.type "list",data:=.seq ([]:List Value).toArray}).objs.size:=by rw [Aw];exact AZ _
 have W0:=hp s2.heap.objs.size I2.fresh
 have st3:tn 0 (s2.heap.push {cls:=.type "list",data:=.seq ([]:List Value).toArray}):=T.keep _ _ _ st2 λb hb o e=>yQ _ e
 generalize hpp:s2.heap.objs.size=p at I3 W0 hf2 hps ⊢
 generalize hh3:(s2.heap.push {cls:=.type "list",data:=.seq ([]:List Value).toArray})=h3 at I3 hns₁ hsb₁ hps st3 ⊢
 generalize hH3:upd H2 p (.lst [])=H3 at I3 W0
 have hold: ∀ b o,h3.get? b=some o->h₁.get? b=some o:=λb o e=>hsb₁.extBut b o (zi (y2 e)) (yQ _ e)
 have fH3: ∀ b∈fp,H3 b=none:=λb hb=>by
  rw [<- hH3,ak (zi (hf2 b hb))]
  exact (f2 b hb).1
 have hclos: ∀ y c,(bo X.env.cells scope.names).lookup y=some c->X.env.cells.lookup y=some c:=λy c e=>bz e
 have hcell3: ∀ y c,X.env.cells.lookup y=some c->c<h3.objs.size:=λy c e=>by
  obtain ⟨v,o,ho,_⟩:=I3.cell y c e
  exact y2 ho
 have hlt3:X.env.locals<h3.objs.size:=I3.lt
 have Yok:(bi X x ys scope h3.objs.size {s2 with heap:=h3} H3 fp).Ok:={
  mod:=I.ok.mod
  kind:=ok.kind
  glob:=I.ok.glob
  blt:=I.ok.blt
  above:=yV _
  inj:=λy z c e1 e2=>I.ok.inj y z c (hclos _ _ e1) (hclos _ _ e2)
  has:=λy hk=>by
   have hfr:(y,NameKind.free)∈scope.names:=by
    have hm: ∃ k,(aY X.env.scope scope).lookup y=some k/\(k=.cell\/k=.free):=by
     rcases hk with hk | hk
     ·exact ⟨_,hk,.inl rfl⟩
     ·exact ⟨_,hk,.inr rfl⟩
    obtain ⟨k,hk,hkk⟩:=hm
    have hmem:=mem_of_lookup hk
    unfold aY at hmem
    obtain ⟨⟨n,k0⟩,hn,en⟩:=zd.mp hmem
    dsimp only at en
    split at en
    ·rename_i hc
     simp only [zM]at hc
     have hk0:k0=.free:=by simpa using hc.1.1
     cases en
     rw [<- hk0]
     exact hn
    ·cases en
     rcases hkk with e | e
     ·exact absurd e (ok.nocell _ hn)
     ·rw [<- e]
      exact hn
   obtain ⟨c,hc⟩:=hfree _ hfr rfl
   exact ⟨c,bK hc hfr⟩
  cab:=λy c hf _=>by cases hf
  hd:=I.ok.hd
  frames:=I.ok.frames
  stk:=.inl rfl
  exf:=λb hb=>⟨λe=>absurd (hf2 b hb) (by rw [e];exact BP.mpr (zR hps)),λy c e=>(f2 b hb).2.2.2.2.1 y c (hclos _ _ e)⟩
  bs:=λb o e=>⟨(I3.bs b o e).1,(I3.bs b o e).2⟩
  bsz:=zc I.ok.bsz I3.sz
  noex:=λb o e hb=>by
   rcases (f2 b hb).2.2.2.1 with q | q
   ·exact I.ok.noex b o e q
   ·have h1:b<X.base.objs.size:=y2 e
    exact absurd h1 (BP.mpr (zc I.ok.bsz q))
  exfs:=λb hb hm=>by
   rcases za.mp (I3.stkSub b hm)with q | q
   ·exact (f2 b hb).2.1 q
   ·exact (f2 b hb).2.2.1 q
  funs:=I3.stack
  frf:=I3.stkFree}
 have IY:Inv (bi X x ys scope h3.objs.size {s2 with heap:=h3} H3 fp) [] (none::bg fr U) H3 {s2 with heap:=h₁,toks:=s2.toks+ ([]:List (Str×Value)).length}:={
  ok:=Yok
  os:=rfl
  bare:=I2.bare
  base:=Un.kept hold
  loc:=by
   refine ⟨_,hns₁,λi y v hy hv hvis=>?_⟩
   cases i with
   | zero=>cases hv
   | succ j=>
    have hy':ys[j]? =some y:=hy
    have hv':(bg fr U)[j]? =some (some v):=hv
    unfold bg at hv'
    rw [zo]at hv'
    obtain ⟨i0,hi0,hv0⟩:=Af.mp hv'
    have hz:(y,i0)∈ys.zip fr:=by
     refine AE.mpr ⟨j,?_⟩
     rw [AA]
     exact ⟨hy',hi0⟩
    obtain ⟨hn,hk,hk2⟩:=ok.sl _ hz
    have hU:U[i0]? =some (some v):=by
     cases e:U[i0]? with
     | none=>rw [e]at hv0;cases hv0
     | some o=>
      rw [e]at hv0
      rw [show o=some v from hv0]
    obtain ⟨m,hm,hl⟩:=I3.loc
    obtain ⟨u,ru,lk⟩:=hl i0 y v hn hU (.inr (.inl hk))
    refine ⟨u,ru,.inr ⟨.inl hk2,?_⟩⟩
    rcases lk with ⟨a,_⟩ | ⟨_,c,hc,hcell⟩
    ·have a':X.env.scope.names.lookup y=some .local:=a
     have hk':X.env.scope.names.lookup y=some .cell:=hk
     rw [hk']at a'
     cases a'
    ·have hfr:(y,NameKind.free)∈scope.names:=by
      have hmem:=mem_of_lookup hk2
      unfold aY at hmem
      obtain ⟨⟨n,k0⟩,hn0,en⟩:=zd.mp hmem
      dsimp only at en
      split at en
      ·rename_i hc0
       simp only [zM]at hc0
       have hk0:k0=.free:=by simpa using hc0.1.1
       cases en
       rw [<- hk0]
       exact hn0
      ·cases en
       exact absurd rfl (ok.nocell _ hn0)
     exact ⟨c,bK hc hfr,hcell.keeps hold⟩
  cell:=λy c e=>by
   obtain ⟨v,hv⟩:=I3.cell y c (hclos _ _ e)
   exact ⟨v,hv.keeps hold⟩
  free:=I3.fresh
  freeC:=λy c e=>I3.freeC y c (hclos _ _ e)
  pin:=λq hq=>by cases hq
  hok:=I3.hok.kept hold
  len:=by
   show (none::bg fr U).length=(x::ys).length
   rw [zn,zn,ok.len]
   unfold bg
   rw [yP]}
 have hxl:(bi X x ys scope h3.objs.size {s2 with heap:=h3} H3 fp).env.scope.names.lookup x=some .local:=ok.xl
 have pgx:PG (bi X x ys scope h3.objs.size {s2 with heap:=h3} H3 fp) (.Name x px) (fc 0):=aw (i:=0) ok.nd rfl (.inl hxl) (.inr hxl)
 have pel:=hE h3.objs.size {s2 with heap:=h3} H3 fp
 have ptl:=hT h3.objs.size {s2 with heap:=h3} H3 fp
 obtain ⟨W,⟨m0,w0⟩,turn⟩:=W0
 have stat: ∀ {H':Hp},(∀ b∈fp,H' b=none)-> ∀ b∈fp,fC (bi X x ys scope h3.objs.size {s2 with heap:=h3} H3 fp) [] H' b:=λhn b hb=>
  ⟨hn b hb,(Yok.exf b hb).1,Yok.exfs b hb,.inl hb,(Yok.exf b hb).2,λq hq=>by cases hq⟩
 have loop:codeAny (model X.prog X.w) X.A (.compLoop (.ListComp elt [⟨.Name x px,iter,[cnd],0⟩] scope pos) 0 (.ref it) (.ref p) (compEnvC scope (bo X.env.cells scope.names) h3.objs.size X.env))
   (compPost (model X.prog X.w) X.A X.xe use Qv (.ref p) h3.objs.size) {s2 with heap:=h₁,toks:=s2.toks+ ([]:List (Str×Value)).length}:=by
  refine eB (λn s'=> ∃ i zs v0 H',Inv (bi X x ys scope h3.objs.size {s2 with heap:=h3} H3 fp) [] (v0::bg fr U) H' s'/\tn i s'.heap/\(∀ b∈fp,H' b=none)/\W i n zs H') ?_ m0
   ⟨0,[],none,H3,IY,T.keep _ _ _ st3 λb hb o e=>hold b o e,fH3,w0⟩
  rintro n s5 ⟨i,zs,v0,H5,I5,st5,fr5,w5⟩
  obtain ⟨hacc,turn5⟩:=turn i n zs H5 w5
  rcases turn5 with ⟨stop,qn⟩ | ⟨go,hlen,step⟩
  ·refine thn (T.done (bi X x ys scope h3.objs.size {s2 with heap:=h3} H3 fp) rfl rfl rfl hcalm i [] s5 _ H5 _ I5 (stat fr5) st5 stop) λr s6 ⟨hr,I6⟩=>?_
   subst hr
   obtain ⟨m6,n6,_⟩:=I6.loc
   refine fin p h3.objs.size H5 s6 m6 (I3.call' I6.os I6.base I6.hok I6.bare λb hb=>⟨(f2 b hb).2.2.2.1,(f2 b hb).2.1,(f2 b hb).2.2.2.2.1,(f2 b hb).2.2.2.2.2⟩) n6 I6.free (As hlt3) I3.sz (λy c e=>zi (hcell3 y c e)) (λq hq=>?_) qn
   exact zi (y2 (I3.pin q hq).1)
  ·refine thn (T.item (bi X x ys scope h3.objs.size {s2 with heap:=h3} H3 fp) rfl rfl rfl hcalm i [] s5 _ H5 _ I5 (stat fr5) st5 go) λr s6 ⟨u,hr,h6⟩=>?_
   subst hr
   refine thn h6 λ_ s7 ⟨xv,H7,I7,r7,y7,st7,fr7⟩=>?_
   have I7':=I7.pinned (stat fr7) (T.obj _ _ st7)
   refine thn (pgx _ s7 _ H7 xv u (λU' H'=>U'=some xv::bg fr U/\H'=H7) I7' r7 ⟨rfl,rfl⟩) λ_ s8 ⟨U8,H8,I8,e8,e8'⟩=>?_
   subst e8 e8'
   refine thn (ptl _ s8 _ H8 _ I8 (step xv H8 y7)) λbb s8' ⟨H8',I8',hb⟩=>?_
   cases bb with
   | false=>
    obtain ⟨m',hm',w9⟩:=hb
    refine ⟨m',hm',i+1,zs,some xv,_,I8'.unpinned,T.keep _ _ _ st7 λb hb o e=>(I8'.pin (b,o) (yS _ (yS _ (a7 hb e)))).1,λb hb=>?_,w9⟩
    obtain ⟨o,e,d⟩:=T.obj _ _ st7 b hb
    exact (I8'.pin (b,o) (yS _ (yS _ (a7 hb e)))).2.1
   | true=>
   refine thn (pel _ s8' _ H8' _ I8' hb) λyv s9 ⟨v9,H9,I9,r9,hp9,m',hm',w9⟩=>?_
   refine thn (bu _ s9 _ H9 (.ref p) [v9] (.ref p) [yv] (λ_ H'=>H'=upd H9 p (.lst (zs++[v9]))) I9 rfl (.cons r9 .nil) ⟨p,zs,v9,rfl,rfl,hp9,hlen,rfl⟩) λ_ s10 ⟨_,H10,I10,_,e10⟩=>?_
   subst e10
   refine ⟨m',hm',i+1,zs++[v9],some xv,_,I10.unpinned,T.keep _ _ _ st7 λb hb o e=>(I10.pin (b,o) (yS _ (yS _ (a7 hb e)))).1,λb hb=>?_,w9⟩
   obtain ⟨o,e,d⟩:=T.obj _ _ st7 b hb
   exact (I10.pin (b,o) (yS _ (yS _ (a7 hb e)))).2.1
 exact BG loop (T.self X.A 0 _ _ _ (T.keep _ _ _ st3 λb hb o e=>hold b o e) loop)
theorem lg (hcalm:X.calm=true) (hi:PI X (.Name x px) iter wi) (hsc:X.env.scope=sc0) (hN:X.N=N0) (ok:gL sc0 N0 scope x ys fr)
  (hT: ∀ C s H ex,PT (bi X x ys scope C s H ex) cnd tc) (hE: ∀ C s H ex,PE (bi X x ys scope C s H ex) elt te) (hs: ∀ v,foldedSetIterable iter X.env v=pure v:=by intro _;rfl):
  PE X (.ListComp elt [⟨.Name x px,iter,[cnd],0⟩] scope pos) (qC wi fr tc te):=by
 intro pins s U H Q I h
 rw [Dk]
 refine nw (use:=none) (Qv:=EP X pins U Q) (Q:=Q) hcalm hi hsc hN ok hT hE I h hs λp C H' s' m I' hn h0 h1 h2 h3 h4 q=>?_
 refine ⟨m,hn,λh' sb=>⟨.ref p,H',I'.turned (t':=s'.toks) (λb o hb e=>sb.extBut b o hb e) h0 (zT (zT h1)) (.inr h2) h3 h4,rfl,q⟩⟩
end
end L2
namespace My
open PySem L2
variable {P:Program} {w:World} {K:W.Frag} {mg:Str->Option Value} {base:Heap} {C CB D0 D1 D10 D11 D12 D13 D14 D15 D16 D2 D3 D4 D5 D6 D7 D8 D9 c f f2 f3 f4 f5 f6 f7 g tbA:Addr} {fd fd2 fd3 fd4 fd5 fd6 fd7 gd:FuncData}
noncomputable def i9 (c:Nat):Bool:=decide (97<=c/\c<=122)
noncomputable def cj (x:Str):Bool:=decide (1<=x.length)&&decide (x.length<=8)&&x.cps.toList.all i9
def ops:List Str:=["plus","less","times","least","most"]
inductive Fm where
 | num (n:Int)
 | own (x:Str)
 | part (k:Int) (x:Str)
 | bin (op:Str) (a b:Fm)
 | whn (a b c:Fm)
noncomputable def Fm.size:Fm->Nat
 | .num _=>1
 | .own _=>1
 | .part _ _=>1
 | .bin _ a b=>a.size+b.size+1
 | .whn a b c=>a.size+b.size+c.size+1
noncomputable def Rep (H:Hp):Fm->V->Prop
 | .num n,v=> ∃ a,v=.ref a/\H a=some (.tup [.str "num",.int n])
 | .own x,v=> ∃ a,v=.ref a/\H a=some (.tup [.str "own",.str x])
 | .part k x,v=> ∃ a,v=.ref a/\H a=some (.tup [.str "part",.int k,.str x])
 | .bin op A B,v=> ∃ a u w,v=.ref a/\H a=some (.tup [.str op,u,w])/\Rep H A u/\Rep H B w
 | .whn A B C,v=> ∃ a u w z,v=.ref a/\H a=some (.tup [.str "when",u,w,z])/\Rep H A u/\Rep H B w/\Rep H C z
def TK (H H':Hp):Prop:= ∀ a xs,H a=some (.tup xs)->H' a=some (.tup xs)
theorem TK.trans {H H1 H2:Hp} (a:TK H H1) (b:TK H1 H2):TK H H2:=λc o h=>b c o (a c o h)
theorem TK.upd {H:Hp} {p:Addr} {o:HO} (h: ∀ xs,H p≠some (.tup xs)):TK H (upd H p o):=λa xs e=>by
 by_cases q:a=p
 ·subst q
  exact absurd e (h xs)
 ·rw [ak q]
  exact e
theorem TK.lst {H:Hp} {p:Addr} {o:HO} {ys:List V} (h:H p=some (.lst ys)):TK H (L2.upd H p o):=TK.upd λxs e=>by rw [h]at e;cases e
theorem TK.new {H:Hp} {p:Addr} {o:HO} (h:H p=none):TK H (L2.upd H p o):=TK.upd λxs e=>by rw [h]at e;cases e
theorem Rep.mono {H H':Hp} (t:TK H H'): ∀ {f:Fm} {v:V},Rep H f v->Rep H' f v
 | .num _,_,⟨a,e,h⟩=>⟨a,e,t _ _ h⟩
 | .own _,_,⟨a,e,h⟩=>⟨a,e,t _ _ h⟩
 | .part _ _,_,⟨a,e,h⟩=>⟨a,e,t _ _ h⟩
 | .bin _ _ _,_,⟨a,u,w,e,h,r1,r2⟩=>⟨a,u,w,e,t _ _ h,Rep.mono t r1,Rep.mono t r2⟩
 | .whn _ _ _,_,⟨a,u,w,z,e,h,r1,r2,r3⟩=>⟨a,u,w,z,e,t _ _ h,Rep.mono t r1,Rep.mono t r2,Rep.mono t r3⟩
noncomputable def isV (T:String) (H:Hp) (v:V):Bool:=match v with
 | .bl _=>T=="bool"||T=="int"
 | .int _=>T=="int"
 | .str _=>T=="str"
 | .ref a=>(match H a with | some (.lst _)=>T=="list" | some (.tup _)=>T=="tuple" | some (.dK _)=>T=="dict" | _=>false)
 | _=>false
noncomputable def Sh (H:Hp):V->Prop
 | .non=>True
 | .bl _=>True
 | .int _=>True
 | .str x=>x.length<=1000
 | .ref a=>(∃ xs,H a=some (.lst xs))\/(∃ xs,H a=some (.tup xs))\/ ∃ kvs,H a=some (.dK kvs)
 | _=>False
section
variable {X:Cx}
theorem ux (K:W.Frag) (t T:String) (ht:t∈["NoneType","bool","int","str","list","tuple","dict"]) (hT:T∈["bool","int","str","list","tuple","dict"]):
  PySem.W.kitOne K (.type t) (.type T)=some (t==T||(t=="bool"&&T=="int")):=by
 simp only [za,Ae,CW]at ht hT
 rcases ht with rfl | rfl | rfl | rfl | rfl | rfl | rfl <;> rcases hT with rfl | rfl | rfl | rfl | rfl | rfl <;> first | rfl | (with_unfolding_all rfl) | (with_unfolding_all decide)
theorem gi:cG X (.builtin "isinstance") (λxs H Q=> ∃ x T,xs=[x,.ty T]/\Sh H x/\T∈["bool","int","str","list","tuple","dict"]/\Q (.bl (isV T H x)) H):=by
 intro pins s U H xs us Q I r h
 obtain ⟨x,T,rfl,hs,hT,q⟩:=h
 have go: ∀ t,gj X.K H x (.type t)->t∈["NoneType","bool","int","str","list","tuple","dict"]->isV T H x=(t==T||(t=="bool"&&T=="int"))->wpAny (model X.prog X.w) X.A (call (.builtin "isinstance") us) (EP X pins U Q) X.xe s:=by
  intro t ty ht e
  refine sP pins s U H _ us Q I r ⟨x,T,.type t,_,rfl,ty,ux X.K t T ht hT,?_⟩
  rw [<- e]
  exact q
 have hTT:=hT
 simp only [za,Ae,CW]at hTT
 cases x with
 | non=>exact go _ .non (by simp) (by rcases hTT with rfl | rfl | rfl | rfl | rfl | rfl <;> rfl)
 | bl b=>exact go _ (.bl b) (by simp) (by rcases hTT with rfl | rfl | rfl | rfl | rfl | rfl <;> rfl)
 | int i=>exact go _ (.int i) (by simp) (by rcases hTT with rfl | rfl | rfl | rfl | rfl | rfl <;> rfl)
 | str z=>exact go _ (.str z) (by simp) (by rcases hTT with rfl | rfl | rfl | rfl | rfl | rfl <;> rfl)
 | ref a=>
  rcases hs with ⟨ys,e⟩ | ⟨ys,e⟩ | ⟨ys,e⟩
  ·exact go _ (.lst e) (by simp) (by simp only [isV,e];rcases hTT with rfl | rfl | rfl | rfl | rfl | rfl <;> rfl)
  ·exact go _ (.tup e) (by simp) (by simp only [isV,e];rcases hTT with rfl | rfl | rfl | rfl | rfl | rfl <;> rfl)
  ·exact go _ (.dK e) (by simp) (by simp only [isV,e];rcases hTT with rfl | rfl | rfl | rfl | rfl | rfl <;> rfl)
 | byt _=>exact hs.elim
 | flt _=>exact hs.elim
 | ty _=>exact hs.elim
end
def top (i:Nat):Stmt:=PySem.Challenge.pw_boughworth_k22_trees_listed.main.body.getD i (.Pass ⟨0,0,0,0⟩)
abbrev ir:Stmt:=top 21
abbrev iz:Stmt:=top 22
abbrev dW:Stmt:=top 23
abbrev iu:Stmt:=top 24
abbrev fM:Stmt:=top 27
abbrev qN:Stmt:=top 28
abbrev jY:Stmt:=top 29
abbrev dY:Stmt:=top 30
abbrev eK:Stmt:=top 31
abbrev jp:Stmt:=top 32
abbrev fN:Stmt:=top 33
abbrev fP:Stmt:=top 34
abbrev dZ:Stmt:=top 35
abbrev qR:Stmt:=top 37
abbrev qP:Stmt:=top 38
abbrev mz:Stmt:=top 39
abbrev dX:Stmt:=top 40
abbrev jZ:Stmt:=top 41
abbrev qQ:Stmt:=top 42
abbrev di:Stmt:=top 43
abbrev mw:Stmt:=top 44
abbrev dU:Stmt:=top 45
abbrev cP:Stmt:=top 46
abbrev my:Stmt:=top 47
abbrev dH:Stmt:=top 48
abbrev iw:Stmt:=top 49
abbrev j1:Stmt:=top 50
abbrev j0:Stmt:=top 51
abbrev iy:Stmt:=top 52
abbrev qO:Stmt:=top 53
abbrev fO:Stmt:=top 54
abbrev mx:Stmt:=top 55
structure Gb (mg:Str->Option Value):Prop where
 isi:mg "isinstance"=none
 int:mg "int"=none
 bool:mg "bool"=none
 str:mg "str"=none
 tuple:mg "tuple"=none
 len:mg "len"=none
 all:mg "all"=none
 range:mg "range"=none
 max:mg "max"=none
 min:mg "min"=none
theorem ai {H:Hp} {p:Addr} (h:H p=none) (o:HO):Same H (upd H p o):=λb u q=>by rw [ak (aj q h)];exact q
theorem db {α:Type} {x:α} {r:List α}:atI (x::r) 0=some x:=aE (j:=0) rfl
theorem yG {α:Type} {x y:α} {r:List α}:atI (x::y::r) 1=some y:=aE (j:=1) rfl
theorem yF {α:Type} {x y z:α} {r:List α}:atI (x::y::z::r) 2=some z:=aE (j:=2) rfl
def Kp (tp:Addr) (H H':Hp):Prop:= ∀ b o,H b=some o->b≠tp->H' b=some o
theorem Kp.refl {tp:Addr} {H:Hp}:Kp tp H H:=λ_ _ h _=>h
theorem Kp.trans {tp:Addr} {H H1 H2:Hp} (a:Kp tp H H1) (b:Kp tp H1 H2):Kp tp H H2:=λc o h n=>b c o (a c o h n) n
theorem Kp.same {tp:Addr} {H H1 H2:Hp} (a:Kp tp H H1) (b:Same H1 H2):Kp tp H H2:=λc o h n=>b c o (a c o h n)
theorem Kp.tape {tp:Addr} {H:Hp} {o:HO}:Kp tp H (upd H tp o):=λb u h n=>by rw [ak n];exact h
theorem Kp.new {tp p:Addr} {H H1:Hp} {o:HO} (a:Kp tp H H1) (h:H1 p=none):Kp tp H (upd H1 p o):=a.same (ai h _)
def Tp (H:Hp) (tp:Addr):Prop:= ∃ t:Int,H tp=some (.lst [.int t])
theorem Kp.tk {tp:Addr} {H H':Hp} (a:Kp tp H H') (t:Tp H tp):TK H H':=λb xs h=>a b _ h λe=>by
 obtain ⟨t,ht⟩:=t
 subst e
 rw [ht]at h
 cases h
theorem Tp.new {H:Hp} {tp p:Addr} {o:HO} (t:Tp H tp) (h:H p=none):Tp (upd H p o) tp:=by
 obtain ⟨t,ht⟩:=t
 exact ⟨t,by rw [ak (aj ht h)];exact ht⟩
inductive jU (K:W.Frag) (vs:List V) (H:Hp) (Q:VK) (E_:XK):Prop
 | mk: ∀ (a:Addr) (ns:List Int) (k:Int),(vs=[.ref a,.int k])->(SqL K H a (ns.map V.int))->(ns.length<=63)->(0<=k)->(∀ c:Int,Q (.int c) H)->jU K vs H Q E_
inductive ij (K:W.Frag) (vs:List V) (H:Hp) (Q:VK) (E_:XK):Prop
 | mk: ∀ (a:Addr) (ns:List Int) (k:Int),(vs=[.ref a,.int k])->(SqL K H a (ns.map V.int))->(ns.length<=63)->(0<=k)->(k<1000)->(∀ p t,H p=none->Q (.ref p) (upd H p (.lst [.int t])))->ij K vs H Q E_
inductive cc  (vs:List V) (H:Hp) (Q:VK) (E_:XK):Prop
 | mk: ∀ (tp:Addr) (m:Int),(vs=[.ref tp,.int m])->(Tp H tp)->(0<m)->(m<1073741824)->(∀ d t:Int,0<=d->d<m->Q (.int d) (upd H tp (.lst [.int t])))->cc vs H Q E_
inductive fJ  (vs:List V) (H:Hp) (Q:VK) (E_:XK):Prop
 | mk: ∀ tp,(vs=[.ref tp])->(Tp H tp)->(∀ (n:Int) H',-999999<=n->n<=999999->Kp tp H H'->Tp H' tp->Q (.int n) H')->fJ vs H Q E_
theorem vS:aI ["script","k"] ["script","k"] (am qR):=fsc
theorem ul (F:Fun K "_law_cell_at" "_law_cell_at" qR f fd) (G:Gb mg):FnOk P w K mg base CX0 1 f fd ["script","k"] (jU K):=by
 refine F.ok vS (λvs H Q E h=>?_) (λcdv A outer s H vs Q E hr h=>?_)
 ·obtain ⟨a,ns,k,rfl,_⟩:=h
  rfl
 obtain ⟨a,ns,k,rfl,hS,hl,hk,q⟩:=h
 refine ⟨_,ah (a8 (aF ju (pv 1) (ax (r:=cr K) av rfl G.len zC (aa (pv 0) ae)) (aG _)) (al (aH (au (r:=cf K) aR (pv 0) (pv 1) (λ_ _=>rfl)))) aM) (al (aH af)),?_⟩
 refine ⟨_,rfl,_,rfl,a,_,rfl,.inl hS,_,_,rfl,rfl,_,rfl,?_⟩
 refine bO (λc=>?_) (λc=>?_)
 ·have c':k< (((ns.map V.int).length:Nat):Int):=zf c
  rw [yP]at c'
  have hk':k.toNat<ns.length:=by lia
  have e:atI (ns.map V.int) k=some (V.int ns[k.toNat]):=by
   have ek:k=((k.toNat:Nat):Int):=by lia
   have q:atI (ns.map V.int) ((k.toNat:Nat):Int)=some (V.int ns[k.toNat]):=aE (by rw [zo,y4 hk'] <;> rfl)
   rw [<- ek]at q
   exact q
  exact ⟨_,rfl,_,rfl,a,_,k,_,rfl,rfl,hS,e,q _⟩
 ·exact q 0
theorem scTape:aI ["script","k","cell","p","one","two","three","four"] ["script","k"] (am qP):=fsc
theorem uj (F:Fun K "_law_tape" "_law_tape" qP f fd) (GC:Cl P w K mg base CX0 1 g gd ["script","k"] (jU K) "_law_cell_at"):
  FnOk P w K mg base CX0 2 f fd ["script","k"] (ij K):=by
 refine F.ok scTape (λvs H Q E h=>?_) (λcdv A outer s H vs Q E hr h=>?_)
 ·obtain ⟨a,ns,k,rfl,_⟩:=h
  rfl
 obtain ⟨a,ns,k,rfl,hS,hl,hk,hk2,q⟩:=h
 refine ⟨_,ah (ao (i:=2) scTape.nd rfl (Or.inl rfl) (pcl GC hr (aa (pv 0) (aa (pv 1) ae))))
  (ah (a8 (aF cU (aq bQ (pv 2) af) af (aG _)) (al (aH (aX (aa (aq eO (pv 2) af) ae)))) aM)
  (ah (ao (i:=3) scTape.nd rfl (Or.inl rfl) af)
  (ah (ao (i:=4) scTape.nd rfl (Or.inl rfl) (aq bQ (aq aQ (aq aQ (aq cD (aq bQ (pv 2) (pv 3)) af) (aq cD af (pv 1))) af) (pv 3)))
  (ah (ao (i:=5) scTape.nd rfl (Or.inl rfl) (aq bQ (aq aQ (aq aQ (aq cD (pv 4) (pv 4)) (aq cD af (pv 1))) (pv 4)) (pv 3)))
  (ah (ao (i:=6) scTape.nd rfl (Or.inl rfl) (aq bQ (aq aQ (aq cD (pv 5) (pv 5)) (pv 4)) (pv 3)))
  (ah (ao (i:=7) scTape.nd rfl (Or.inl rfl) (aq bQ (aq aQ (aq cD (pv 6) (pv 6)) (pv 5)) (pv 3)))
  (al (aH (aX (aa (aq aQ (aq cD (aq aQ (aq cD (aq aQ (aq cD (pv 4) (pv 3)) (pv 5)) (pv 3)) (pv 6)) (pv 3)) (pv 7)) ae)))))))))),?_⟩
 refine ⟨_,rfl,_,rfl,a,ns,k,rfl,hS,hl,hk,λc=>?_⟩
 refine ⟨_,rfl,_,_,rfl,rfl,(by show (0:Int) <2;decide),rfl,_,rfl,?_⟩
 refine bO (λ_=>?_) (λ_=>?_)
 ·exact ⟨_,rfl,_,_,rfl,rfl,⟨by decide,by decide⟩,(by show 1<=sizeLine;decide),λp hp=>q p _ hp⟩
 have hp0:(0:Int) <2305843009213693951:=by decide
 have mm: ∀ x:Int,-(2^64) <x%2305843009213693951/\x%2305843009213693951<2^64:=λx=>by
  have h1:=AH x (show (2305843009213693951:Int)≠0 by decide)
  have h2:=Am x hp0
  lia
 have hkk: -(2^64) <k/\k<2^64:=by lia
 have hpp:(-(2^64):Int) <2305843009213693951/\(2305843009213693951:Int) <2^64:=by decide
 refine ⟨_,rfl,_,rfl,_,_,rfl,rfl,hp0,_,_,rfl,rfl,.inl (mm _),_,rfl,_,_,rfl,rfl,.inr hkk,_,_,rfl,rfl,_,_,rfl,rfl,_,rfl,_,_,rfl,rfl,hp0,?_⟩
 refine ⟨_,rfl,_,rfl,_,_,rfl,rfl,.inl (mm _),_,rfl,_,_,rfl,rfl,.inr hkk,_,_,rfl,rfl,_,rfl,_,_,rfl,rfl,_,rfl,_,_,rfl,rfl,hp0,?_⟩
 refine ⟨_,rfl,_,rfl,_,_,rfl,rfl,.inl (mm _),_,rfl,_,_,rfl,rfl,_,rfl,_,_,rfl,rfl,hp0,?_⟩
 refine ⟨_,rfl,_,rfl,_,_,rfl,rfl,.inl (mm _),_,rfl,_,_,rfl,rfl,_,rfl,_,_,rfl,rfl,hp0,?_⟩
 refine ⟨_,rfl,_,rfl,_,_,rfl,rfl,.inr hpp,_,rfl,_,_,rfl,rfl,_,rfl,_,_,rfl,rfl,.inr hpp,_,rfl,_,_,rfl,rfl,_,rfl,_,_,rfl,rfl,.inr hpp,_,rfl,_,_,rfl,rfl,(by show 1<=sizeLine;decide),λp hp=>q p _ hp⟩
theorem scDigit:aI ["tape","many","found"] ["tape","many"] (am mz):=fsc
theorem rL (F:Fun K "_law_digit" "_law_digit" mz f fd):FnOk P w K mg base CX0 1 f fd ["tape","many"] cc:=by
 refine F.ok scDigit (λvs H Q E h=>?_) (λcdv A outer s H vs Q E hr h=>?_)
 ·obtain ⟨tp,m,rfl,_⟩:=h
  rfl
 obtain ⟨tp,m,rfl,⟨t,ht⟩,hm,hm2,q⟩:=h
 refine ⟨_,ah (ao (i:=2) scDigit.nd rfl (Or.inl rfl) (aq bQ (au (r:=cf K) aR (pv 0) af (λ_ _=>rfl)) (pv 1)))
  (ah (qZ (aq eO (au (r:=cf K) aR (pv 0) af (λ_ _=>rfl)) (pv 1)) (vZ (pv 0) af qJ))
  (al (aH (pv 2)))),?_⟩
 refine ⟨_,rfl,tp,_,0,_,rfl,rfl,SqL.of ht,db,_,rfl,_,_,rfl,rfl,hm,?_⟩
 refine ⟨_,rfl,tp,_,0,_,rfl,rfl,SqL.of ht,db,_,rfl,_,_,rfl,rfl,⟨hm,hm2⟩,?_⟩
 refine ⟨_,rfl,tp,_,0,0,rfl,rfl,ht,rfl,?_⟩
 exact ⟨_,rfl,q (t%m) (t/m) (AH _ (by lia)) (Am _ hm)⟩
theorem scNumber:aI ["tape","way"] ["tape"] (am jZ):=fsc
theorem pC (F:Fun K "_law_number" "_law_number" jZ f fd) (GD:Cl P w K mg base CX0 1 g gd ["tape","many"] cc "_law_digit"):
  FnOk P w K mg base CX0 2 f fd ["tape"] fJ:=by
 refine F.ok scNumber (λvs H Q E h=>?_) (λcdv A outer s H vs Q E hr h=>?_)
 ·obtain ⟨tp,rfl,_⟩:=h
  rfl
 obtain ⟨tp,rfl,hT,q⟩:=h
 refine ⟨_,ah (ao (i:=1) scNumber.nd rfl (Or.inl rfl) (pcl GD hr (aa (pv 0) (aa af ae))))
  (ah (a8 (aF ju (pv 1) af (aG _)) (al (aH (pv 1))) aM)
  (al (aH (au (r:=cf K) aR (aX (aa (vg qt af) (aa (aq cx (pcl GD hr (aa (pv 0) (aa af ae))) af)
   (aa (aq cx (pcl GD hr (aa (pv 0) (aa af ae))) af) ae)))) (aq cx (pv 1) af) (λ_ _=>rfl))))),?_⟩
 refine ⟨_,rfl,tp,6,rfl,hT,by decide,by decide,λd t h0 h1=>?_⟩
 refine ⟨_,rfl,_,_,rfl,rfl,_,rfl,?_⟩
 refine bO (λc=>?_) (λc=>?_)
 ·exact ⟨_,rfl,q d _ (by lia) (by lia) Kp.tape ⟨t,ad⟩⟩
 have c':3<=d:=by
  rcases Int.lt_or_le d 3 with z | z
  ·exact absurd (zq z) c
  ·exact z
 refine ⟨_,rfl,_,rfl,tp,1001,rfl,⟨t,ad⟩,by decide,by decide,λd2 t2 h20 h21=>?_⟩
 refine ⟨_,_,rfl,rfl,_,rfl,tp,1999999,rfl,⟨t2,ad⟩,by decide,by decide,λd3 t3 h30 h31=>?_⟩
 refine ⟨_,_,rfl,rfl,(by show 3<=sizeLine;decide),λp hp=>?_⟩
 rw [cX,cX]at hp ⊢
 have hd:d=3\/d=4\/d=5:=by lia
 have fin: ∀ n:Int,-999999<=n->n<=999999->Q (.int n) (upd (upd H tp (.lst [.int t3])) p (.lst [.int (-1),.int (d2-500),.int (d3-999999)])):=λn h1 h2=>
  q n _ h1 h2 (Kp.tape.new hp) (Tp.new ⟨t3,ad⟩ hp)
 rcases hd with rfl | rfl | rfl
 ·exact ⟨_,rfl,_,_,rfl,rfl,p,_,0,_,rfl,rfl,SqL.of ad,db,fin _ (by lia) (by lia)⟩
 ·exact ⟨_,rfl,_,_,rfl,rfl,p,_,1,_,rfl,rfl,SqL.of ad,yG,fin _ (by lia) (by lia)⟩
 ·exact ⟨_,rfl,_,_,rfl,rfl,p,_,2,_,rfl,rfl,SqL.of ad,yF,fin _ (by lia) (by lia)⟩
theorem kE {α:Type} {xs:List α} {d:Int} (h0:0<=d) (h1:d<xs.length): ∃ x,atI xs d=some x/\xs[d.toNat]? =some x:=by
 have hk:d.toNat<xs.length:=by lia
 have ek:d=((d.toNat:Nat):Int):=by lia
 have q:atI xs ((d.toNat:Nat):Int)=some xs[d.toNat]:=aE (y4 hk)
 rw [<- ek]at q
 exact ⟨_,q,y4 hk⟩
theorem jo (z:Str) {j:Int} (h0:0<=j) (h1:j<=z.length):((Txt.slice z none (some j)).length:Int)=j:=by
 rcases PyProof.Rows.slice_ns_cases z j h0 with ⟨_,h⟩ | ⟨h,_⟩
 ·exact h
 ·lia
noncomputable def letters:Str:="abcdefghijklmnopqrstuvwxyz"
theorem lr:letters.cps.toList.all i9=true:=by decide +kernel
theorem gP:letters.length=26:=by decide +kernel
theorem pO {d:Int} (h0:0<=d) (h1:d<26): ∃ c,atI letters.cps.toList d=some c/\i9 c=true:=by
 have hl:letters.cps.toList.length=26:=by decide +kernel
 obtain ⟨c,e,e2⟩:=kE (xs:=letters.cps.toList) h0 (by rw [hl];lia)
 exact ⟨c,e,Az.mp lr c (y3 e2)⟩
theorem uS (x y:Str):(x++y).length=x.length+y.length:=by
 show (x.cps++y.cps).size=_
 rw [Array.size_append]
 rfl
def names13:List Str:=["own","up","down","min","max","of","top","form","sort","wheel","book","tree","ok"]
theorem aneq:(Txt.slice "aneqoubi" none (some 7)).length=7/\(Txt.slice "aneqoubi" none (some 7)).cps.toList.all i9=true:=by decide +kernel
theorem oD:("eyzmopq":Str).length=7:=by decide +kernel
theorem Tp.same {H H':Hp} {tp:Addr} (t:Tp H tp) (s:Same H H'):Tp H' tp:=by
 obtain ⟨t0,e⟩:=t
 exact ⟨t0,s _ _ e⟩
noncomputable def lu (d:Int):Nat:=(atI letters.cps.toList d).getD 0
noncomputable def dv (tu:Int):Str:=(⟨#[lu tu]⟩:Str)++Txt.slice "aneqoubi" none (some 7)
noncomputable def nm0 (tu:Int) (i:Nat):Str:=if (0+ (i:Int)) <8 then Txt.slice (dv tu) none (some (0+ (i:Int) +1))else (⟨#[lu ((tu+1) %26)]⟩:Str)++Txt.slice (dv tu) none (some (0+ (i:Int) -8))
noncomputable def nm1 (tu:Int) (i:Nat):Str:=((names13)[((tu+ (0+ (i:Int))) %13).toNat]?).getD ""
noncomputable def nm2 (tu:Int) (i:Nat):Str:=(⟨#[lu ((tu+ (0+ (i:Int))) %26)]⟩:Str)++Txt.slice "eyzmopq" none (some ((tu+3* (0+ (i:Int))) %8))
noncomputable def fV (way:Nat) (tu:Int) (i:Nat):Str:=if way=0 then nm0 tu i else if way=1 then nm1 tu i else nm2 tu i
def NamesAre (m:Nat) (ws:List Str):Prop:= ∃ (way tu:Nat) (back:Bool),way<3/\tu<26/\ws=(if back=true then ((List.range m).map (fV way tu)).reverse else (List.range m).map (fV way tu))
inductive fK  (vs:List V) (H:Hp) (Q:VK) (E_:XK):Prop
 | mk: ∀ tp m,(vs=[.ref tp,.int m])->(Tp H tp)->(0<=m)->(m<=13)->(∀ l (ws:List Str) H',H' l=some (.lst (ws.map V.str))->(ws.length:Int)=m->NamesAre m.toNat ws->l≠tp->Kp tp H H'->Tp H' tp->Q (.ref l) H')->fK vs H Q E_
theorem ko {d:Int} (h0:0<=d) (h1:d<26):atI letters.cps.toList d=some (lu d):=by
 obtain ⟨c,e,_⟩:=pO h0 h1
 unfold lu
 rw [e]
 rfl
theorem qH (tu:Int):(dv tu).length=8:=by unfold dv;rw [uS,aneq.1];rfl
theorem scNamesX:aI ["tape","many","letters","way","turn","back","stem","names","words"] ["tape","many"] (am dX):=fsc
theorem pE (F:Fun K "_law_names" "_law_names" dX f fd) (G:Gb mg) (GD:Cl P w K mg base CX0 1 g gd ["tape","many"] cc "_law_digit"):
  FnOk P w K mg base CX0 2 f fd ["tape","many"] fK:=by
 refine F.ok scNamesX (λvs H Q E h=>?_) (λcdv A outer s H vs Q E hr h=>?_)
 ·obtain ⟨tp,m,rfl,_⟩:=h
  rfl
 obtain ⟨tp,m,rfl,hT,hm0,hm1,q⟩:=h
 obtain ⟨t,ht,hread⟩: ∃ t,PSs (dq CX0 P w K mg base ["tape","many","letters","way","turn","back","stem","names","words"] "_law_names" (am dX) f cdv A outer s H E).nox ((bW dX).drop 5) t/\
   ∀ (b:Int) (l:Addr) (way tu:Nat) (H2:Hp) (o2 o3 o4 o6 o8:Option V),(b=1\/b= -1)->way<3->tu<26->H2 l=some (.lst (((List.range m.toNat).map (fV way tu)).map V.str))->Kp tp H H2->Tp H2 tp->
    t {nx:=λ_ H'=>Q .non H',rt:=Q} [some (.ref tp),some (.int m),o2,o3,o4,some (.int b),o6,some (.ref l),o8] H2:=by
  refine ⟨_,al (aH (n0 (pv 7) (pv 5))),λb l way tu H2 o2 o3 o4 o6 o8 hb hw1 hw2 hl k2 t2=>?_⟩
  have hlen:(((List.range m.toNat).map (fV way tu)).length:Int)=m:=by rw [yP,At];lia
  refine ⟨_,rfl,_,rfl,l,_,b,rfl,rfl,SqL.of hl,by lia,λp hp=>?_⟩
  have hpt:p≠tp:=λe=>by
   obtain ⟨t0,e0⟩:=t2
   subst e
   rw [e0]at hp
   cases hp
  rcases hb with rfl | rfl
  ·rw [oS]
   exact q p _ _ ad hlen ⟨way,tu,false,hw1,hw2,rfl⟩ hpt (k2.new hp) (t2.new hp)
  ·rw [oU,<- List.map_reverse]
   exact q p _ _ ad (by rw [List.length_reverse];exact hlen) ⟨way,tu,true,hw1,hw2,rfl⟩ hpt (k2.new hp) (t2.new hp)
 have cw: ∀ {te:TE} {fr:List Nat} {U:St} {H2:Hp} {Q2:VK} (g:Nat->Str),(∀ (i:Nat) (H3:Hp) (k:VK),(i:Int) <m->k (.str (g i)) H3->te (some (.int (0+i))::bg fr U) H3 k)->
   (∀ p,H2 p=none->Q2 (.ref p) (upd H2 p (.lst (((List.range m.toNat).map g).map V.str))))->ig fr te U (Itr 0 m.toNat) H2 Q2:=by
  intro te fr U H2 Q2 g hs hd
  refine eS (n:=m.toNat) (R:=λi v=>v=.int (0+i)) (by lia) iK dl hU
   (λp i zs H'=>H'=upd H2 p (.lst zs)/\zs=((List.range i).map g).map V.str) (λp hp=>⟨rfl,rfl⟩) ?_ ?_ ?_
  ·rintro p i zs H' ⟨rfl,rfl⟩
   exact ⟨ad,by rw [yP,yP,At]⟩
  ·rintro p i zs H' v k hp hi rfl ⟨rfl,rfl⟩ hk
   exact hs i _ k (by lia) (hk (.str (g i)) _ ad ⟨cX,by rw [Bm];simp⟩)
  ·rintro p zs H' hp ⟨rfl,rfl⟩
   exact hd p hp
 refine ⟨_,ah (ao (i:=2) scNamesX.nd rfl (Or.inr rfl) br)
  (ah (ao (i:=3) scNamesX.nd rfl (Or.inl rfl) (pcl GD hr (aa (pv 0) (aa af ae))))
  (ah (ao (i:=4) scNamesX.nd rfl (Or.inr rfl) (pcl GD hr (aa (pv 0) (aa af ae))))
  (ah (ao (i:=5) scNamesX.nd rfl (Or.inl rfl) (aq cx af (aq cD af (pcl GD hr (aa (pv 0) (aa af ae))))))
  (ah (a8 (aF cU (pv 3) af (aG _))
   (ah (ao (i:=6) scNamesX.nd rfl (Or.inr rfl) (aq fq (au nj (pv 2) (pv 4) (λ_ _=>rfl)) (aZ jW br bp (a9 af))))
   (al (eL (i:=7) (sc0:=am dX) (N0:=["tape","many","letters","way","turn","back","stem","names","words"]) (ys:=["letters","stem","turn"]) (fr:=[2,6,4]) rfl scNamesX.nd rfl (Or.inl rfl) (bt rfl G.range (aa (pv 1) ae)) rfl rfl
    cok
    (λC s H ex=>kZ (aF ju (pv 0) af (aG _)) (aZ jW (pv 2) bp (a9 (aq aQ (pv 0) af)))
     (aq fq (au nj (pv 1) (aq bQ (aq aQ (pv 3) af) af) (λ_ _=>rfl)) (aZ jW (pv 2) bp (a9 (aq cx (pv 0) af))))))))
   (al (a8 (aF cU (pv 3) af (aG _))
    (@ah _ _ _ _ _ (@ue _ 8 _ _ (names13.map V.str) _ _ _ scNamesX.nd rfl (Or.inr rfl) (Or.inl rfl) rfl)
    (al (eL (i:=7) (sc0:=am dX) (N0:=["tape","many","letters","way","turn","back","stem","names","words"]) (ys:=["turn","words"]) (fr:=[4,8]) rfl scNamesX.nd rfl (Or.inl rfl) (bt rfl G.range (aa (pv 1) ae)) rfl rfl
     cok
     (λC s H ex=>au (r:=cf K) aR (pv 2) (aq bQ (aq aQ (pv 1) (pv 0)) af) (λ_ _=>rfl)))))
    (al (eL (i:=7) (sc0:=am dX) (N0:=["tape","many","letters","way","turn","back","stem","names","words"]) (ys:=["letters","turn"]) (fr:=[2,4]) rfl scNamesX.nd rfl (Or.inl rfl) (bt rfl G.range (aa (pv 1) ae)) rfl rfl
     cok
     (λC s H ex=>aq fq (au nj (pv 1) (aq bQ (aq aQ (pv 2) (pv 0)) af) (λ_ _=>rfl)) (aZ jW br bp (a9 (aq bQ (aq aQ (pv 2) (aq cD af (pv 0))) af)))))))))
  ht)))),?_⟩
 refine ⟨_,rfl,tp,3,rfl,hT,by decide,by decide,λwy t1 hw0 hw1=>?_⟩
 refine ⟨_,rfl,tp,26,rfl,⟨t1,ad⟩,by decide,by decide,λtu t2 htu0 htu1=>?_⟩
 rw [cX]
 refine ⟨_,rfl,tp,2,rfl,⟨t2,ad⟩,by decide,by decide,λbk t3 hb0 hb1=>?_⟩
 rw [cX]
 refine ⟨2,_,rfl,rfl,.inl ⟨by decide,by decide⟩,1,_,rfl,rfl,?_⟩
 have hb:(1-2*bk=1\/1-2*bk= -1):=by lia
 have k3:Kp tp H (upd H tp (.lst [.int t3])):=Kp.tape
 have tt3:Tp (upd H tp (.lst [.int t3])) tp:=⟨t3,ad⟩
 generalize upd H tp (.lst [.int t3])=H3 at k3 tt3 ⊢
 have l26:(letters.length:Int)=26:=by rw [gP];rfl
 have lsz:letters.length<=sizeLine:=by rw [gP];exact zR (ay (by decide))
 refine ⟨_,rfl,rfl,_,rfl,?_⟩
 refine bO (λc=>?_) (λc=>?_)
 ·-- stems
  have hwy:wy=0:=V.int.inj (zf c)
  have ec0:=ko htu0 htu1
  refine ⟨_,rfl,_,rfl,letters,tu,lu tu,rfl,rfl,lsz,ec0,7,rfl,"aneqoubi",rfl,(by decide +kernel),_,_,rfl,rfl,?_,?_⟩
  ·rw [aneq.1]
   show 1+7<=sizeLine
   exact zR (ay (by decide))
  have zl:=qH tu
  have zsz:(dv tu).length<=sizeLine:=by rw [zl];exact zR (ay (by decide))
  refine ⟨_,rfl,m,rfl,by lia,by lia,?_⟩
  refine cw (nm0 tu) ?_ ?_
  ·intro i H4 k hi hk
   refine ⟨_,rfl,_,_,rfl,rfl,_,rfl,?_⟩
   refine bO (λci=>?_) (λci=>?_)
   ·have ci':(0+ (i:Int)) <8:=zf ci
    refine ⟨_,rfl,_,rfl,_,_,rfl,rfl,_,rfl,dv tu,rfl,zsz,?_⟩
    unfold nm0 at hk
    rw [yW ci']at hk
    exact hk
   ·have ci': ¬ (0+ (i:Int)) <8:=λy=>ci (zq y)
    have ec1:=ko (d:=(tu+1) %26) (AH _ (by decide)) (Am _ (by decide))
    have e:=jo (dv tu) (j:=0+ (i:Int) -8) (by lia) (by rw [zl];lia)
    unfold nm0 at hk
    rw [yU ci']at hk
    refine ⟨_,rfl,_,rfl,_,_,rfl,rfl,_,_,rfl,rfl,(by show (0:Int) <26;decide),letters,_,lu ((tu+1) %26),rfl,rfl,lsz,ec1,_,rfl,_,rfl,_,_,rfl,rfl,_,rfl,dv tu,rfl,zsz,_,_,rfl,rfl,?_,hk⟩
    show 1+ (Txt.slice (dv tu) none (some (0+ (i:Int) -8))).length<=sizeLine
    exact zR (ay (by lia))
  ·intro p hp
   have etu:((tu.toNat:Nat):Int)=tu:=by lia
   refine hread (1-2*bk) p 0 tu.toNat _ _ _ _ _ _ hb (by decide) (by lia) ?_ (k3.new hp) (tt3.new hp)
   rw [etu]
   exact ad
 ·refine ⟨_,rfl,rfl,_,rfl,?_⟩
  refine bO (λc2=>?_) (λc2=>?_)
  ·-- written words
   refine ⟨(by show 13<=sizeLine;decide),λpw hpw=>?_⟩
   refine ⟨_,rfl,m,rfl,by lia,by lia,?_⟩
   have s4:Same H3 (upd H3 pw (.lst (names13.map V.str))):=ai hpw _
   have g4:(upd H3 pw (.lst (names13.map V.str))) pw=some (.lst (names13.map V.str)):=ad
   have k4:Kp tp H (upd H3 pw (.lst (names13.map V.str))):=k3.same s4
   have tt4:Tp (upd H3 pw (.lst (names13.map V.str))) tp:=tt3.new hpw
   generalize upd H3 pw (.lst (names13.map V.str))=H4 at s4 g4 k4 tt4 ⊢
   refine eS (n:=m.toNat) (R:=λi v=>v=.int (0+i)) (by lia) iK dl hU
    (λp i zs H'=>H'=upd H4 p (.lst zs)/\H4 p=none/\zs=((List.range i).map (nm1 tu)).map V.str) (λp hp=>⟨rfl,hp,rfl⟩) ?_ ?_ ?_
   ·rintro p i zs H' ⟨rfl,_,rfl⟩
    exact ⟨ad,by rw [yP,yP,At]⟩
   ·rintro p i zs H' v k hp hi rfl ⟨rfl,hp4,rfl⟩ hk
    have h1:=AH (tu+ (0+ (i:Int))) (show (13:Int)≠0 by decide)
    have h2:=Am (tu+ (0+ (i:Int))) (show (0:Int) <13 by decide)
    obtain ⟨xv,ex,ex2⟩:=kE (xs:=names13.map V.str) h1 (by rw [yP];exact h2)
    have exv:xv=.str (nm1 tu i):=by
     rw [zo]at ex2
     unfold nm1
     cases hx:names13[((tu+ (0+ (i:Int))) %13).toNat]? with
     | none=>rw [hx]at ex2;cases ex2
     | some y=>rw [hx]at ex2;exact (zj ex2).symm
    subst exv
    have g5:(upd H4 p (.lst (((List.range i).map (nm1 tu)).map V.str))) pw=some (.lst (names13.map V.str)):=by rw [ak (aj g4 hp4)];exact g4
    refine ⟨_,rfl,_,rfl,_,rfl,_,_,rfl,rfl,_,_,rfl,rfl,(by show (0:Int) <13;decide),pw,_,_,_,rfl,rfl,SqL.of g5,ex,?_⟩
    exact hk _ _ ad ⟨cX,hp4,by rw [Bm];simp⟩
   ·rintro p zs H' hp ⟨rfl,hp4,rfl⟩
    have etu:((tu.toNat:Nat):Int)=tu:=by lia
    refine hread (1-2*bk) p 1 tu.toNat _ _ _ _ _ _ hb (by decide) (by lia) ?_ (k4.new hp4) (tt4.new hp4)
    rw [etu]
    exact ad
  ·-- a letter and a tail
   refine ⟨_,rfl,m,rfl,by lia,by lia,?_⟩
   refine cw (nm2 tu) ?_ ?_
   ·intro i H4 k hi hk
    have ec1:=ko (d:=(tu+ (0+ (i:Int))) %26) (AH _ (by decide)) (Am _ (by decide))
    have h1:=AH (tu+3* (0+ (i:Int))) (show (8:Int)≠0 by decide)
    have h2:=Am (tu+3* (0+ (i:Int))) (show (0:Int) <8 by decide)
    have e:=jo "eyzmopq" (j:=(tu+3* (0+ (i:Int))) %8) h1 (by rw [oD];lia)
    refine ⟨_,rfl,_,rfl,_,rfl,_,_,rfl,rfl,_,_,rfl,rfl,(by show (0:Int) <26;decide),letters,_,lu ((tu+ (0+ (i:Int))) %26),rfl,rfl,lsz,ec1,_,rfl,_,rfl,3,_,rfl,rfl,.inl ⟨by decide,by decide⟩,_,_,rfl,rfl,_,_,rfl,rfl,(by show (0:Int) <8;decide),_,rfl,"eyzmopq",rfl,(by rw [oD];exact zR (ay (by decide))),_,_,rfl,rfl,?_,hk⟩
    ·show 1+ (Txt.slice "eyzmopq" none (some ((tu+3* (0+ (i:Int))) %8))).length<=sizeLine
     exact zR (ay (by lia))
   ·intro p hp
    have etu:((tu.toNat:Nat):Int)=tu:=by lia
    refine hread (1-2*bk) p 2 tu.toNat _ _ _ _ _ _ hb (by decide) (by lia) ?_ (k3.new hp) (tt3.new hp)
    rw [etu]
    exact ad
theorem eA (xs:List V) {j:Int} (h0:0<=j) (h1:j<=xs.length):cA xs none (some j)=xs.take j.toNat:=by
 have ej:j=((j.toNat:Nat):Int):=by lia
 have e:HT.sIx xs.length xs.length (some j)=j.toNat:=by
  rw [ej,HT.sIx_nat]
  lia
 unfold cA
 rw [e,HT.sIx_none,Dd,DB]
theorem iS (xs:List V) {j:Int} (h0:0<=j) (h1:j<=xs.length):cA xs (some j) none=xs.drop j.toNat:=by
 have ej:j=((j.toNat:Nat):Int):=by lia
 have e:HT.sIx xs.length 0 (some j)=j.toNat:=by
  rw [ej,HT.sIx_nat]
  lia
 unfold cA
 rw [e,HT.sIx_none]
 apply zW
 rw [Ay]
 lia
theorem vM {xs:List V} {j:Nat} (h:j+2<=xs.length): ∃ a x y b,xs=a++x::y::b/\a.length=j/\xs.take j=a/\xs.drop (j+2)=b:=by
 refine ⟨xs.take j,xs[j],xs[j+1],xs.drop (j+2),?_,by rw [zB];lia,rfl,rfl⟩
 rw [<- zJ (by lia),<- zJ (by lia),Ar]
theorem vL {xs:List V} {j:Nat} (h:j+3<=xs.length): ∃ a x y z b,xs=a++x::y::z::b/\a.length=j/\xs.take j=a/\xs.drop (j+3)=b:=by
 refine ⟨xs.take j,xs[j],xs[j+1],xs[j+2],xs.drop (j+3),?_,by rw [zB];lia,rfl,rfl⟩
 rw [<- zJ (by lia),<- zJ (by lia),<- zJ (by lia),Ar]
theorem iX {a b:List V} {x:V} {d:Int} (h:d=(a.length:Int)):atI (a++x::b) d=some x:=by
 subst h
 exact aE (by rw [Aa (yV _),BY];rfl)
theorem wX {A B R:Prop} {c1 c2:Bool} (hr:(if c2=true then A else B)->R) (h1:c1=true->c2=true->A) (h2: ¬ (c1=true/\c2=true)->B):if c1=true then R else (if false=true then A else B):=by
 cases c1 with
 | true=>
  rw [yW rfl]
  apply hr
  cases c2 with
  | true=>rw [yW rfl];exact h1 rfl rfl
  | false=>exact cE (h2 λz=>zp z.2)
 | false=>exact cE (cE (h2 λz=>zp z.1))
noncomputable def Fm.wfp (ρ:Fm->Prop):Fm->Prop
 | .num n=> -999999<=n/\n<=999999
 | .own x=>cj x=true/\ρ (.own x)
 | .part k x=>((0<=k/\k<=2)/\cj x=true)/\ρ (.part k x)
 | .bin op a b=>op∈ops/\a.wfp ρ/\b.wfp ρ
 | .whn a b c=>a.wfp ρ/\b.wfp ρ/\c.wfp ρ
inductive FsP (ρ:Fm->Prop) (H:Hp):List V->Nat->Prop where
 | nil:FsP ρ H [] 0
 | cons {v:V} {f:Fm} {vs:List V} {n:Nat}:Rep H f v->f.wfp ρ->FsP ρ H vs n->FsP ρ H (v::vs) (f.size+n)
theorem FsP.append {ρ:Fm->Prop} {H:Hp} {xs ys:List V} {m n:Nat} (a:FsP ρ H xs m) (b:FsP ρ H ys n):FsP ρ H (xs++ys) (m+n):=by
 induction a with
 | nil=>rw [Bc];exact b
 | cons r w _ ih=>rw [Bd];exact .cons r w ih
theorem FsP.split {ρ:Fm->Prop} {H:Hp}: ∀ {xs ys:List V} {n:Nat},FsP ρ H (xs++ys) n-> ∃ a b,FsP ρ H xs a/\FsP ρ H ys b/\n=a+b
 | [],ys,n,h=>⟨0,n,.nil,h,by lia⟩
 | x::r,ys,n,h=>by
  cases h with
  | cons rp wf t=>
   obtain ⟨a,b,h1,h2,e⟩:=FsP.split t
   exact ⟨_,b,.cons rp wf h1,h2,by lia⟩
theorem FsP.mono {ρ:Fm->Prop} {H H':Hp} (t:TK H H') {xs:List V} {n:Nat} (h:FsP ρ H xs n):FsP ρ H' xs n:=by
 induction h with
 | nil=>exact .nil
 | cons r w _ ih=>exact .cons (r.mono t) w ih
def LvsP (ρ:Fm->Prop) (H:Hp) (rs:List V):Prop:= ∀ v∈rs,∃ f,Rep H f v/\f.wfp ρ/\f.size=1
theorem LvsP.mono {ρ:Fm->Prop} {H H':Hp} (t:TK H H') {rs:List V} (h:LvsP ρ H rs):LvsP ρ H' rs:=λv hv=>by
 obtain ⟨f,r,w,s⟩:=h v hv
 exact ⟨f,r.mono t,w,s⟩
inductive jS (ρ:Fm->Prop) (vs:List V) (H:Hp) (Q:VK) (E_:XK):Prop
 | mk: ∀ tp rl rs,(vs=[.ref tp,.ref rl])->(Tp H tp)->(rl≠tp)->(H rl=some (.lst rs))->(rs.length<=1000)->(LvsP ρ H rs)->(∀ v f H',Rep H' f v->f.wfp ρ->f.size=1->Kp tp H H'->Tp H' tp->Q v H')->jS ρ vs H Q E_
inductive dy (ρ:Fm->Prop) (vs:List V) (H:Hp) (Q:VK) (E_:XK):Prop
 | mk: ∀ tp rl rs,(vs=[.ref tp,.ref rl])->(Tp H tp)->(rl≠tp)->(H rl=some (.lst rs))->(rs.length<=1000)->(LvsP ρ H rs)->(∀ v f H',Rep H' f v->f.wfp ρ->f.size<=15->Kp tp H H'->Tp H' tp->Q v H')->dy ρ vs H Q E_
theorem tT:aI ["tape","readings"] ["tape","readings"] (am qQ):=fsc
theorem rK {ρ:Fm->Prop} (F:Fun K "_law_leaf" "_law_leaf" qQ f fd) (G:Gb mg) (GD:Cl P w K mg base CX0 1 g gd ["tape","many"] cc "_law_digit")
  (GN:Cl P w K mg base CX0 2 f2 fd2 ["tape"] fJ "_law_number"):
  FnOk P w K mg base CX0 3 f fd ["tape","readings"] (jS ρ):=by
 refine F.ok tT (λvs H Q E h=>?_) (λcdv A outer s H vs Q E hr h=>?_)
 ·obtain ⟨tp,rl,rs,rfl,_⟩:=h
  rfl
 obtain ⟨tp,rl,rs,rfl,hT,hne,hrl,hlen,hL,q⟩:=h
 have hr1:=hr.mono (show 1<=2 by decide)
 refine ⟨_,ah (a8 (PW.pt (j5 (aF eZ (ax (r:=cr K) av rfl G.len zC (aa (pv 1) ae)) af (aG _))
   (gY (aF ju (pcl GD hr1 (aa (pv 0) (aa af ae))) af (aG _)))))
   (al (aH (au (r:=cf K) aR (pv 1) (pcl GD hr1 (aa (pv 0) (aa (ax (r:=cr K) av rfl G.len zC (aa (pv 1) ae)) ae))) (λ_ _=>rfl)))) aM)
  (al (aH (aN (aa br (aa (pcl GN hr (aa (pv 0) ae)) ae))))),?_⟩
 have num: ∀ H1,Kp tp H H1->Tp H1 tp->(tJ 0 ([some (V.ref tp),some (.ref rl)]:St) H1 λv H1=>fJ [v] H1 (λx H2=>[V.str "num",x].length<=sizeLine/\ ∀ p,H2 p=none->Q (.ref p) (upd H2 p (.tup [V.str "num",x]))) E0):=λH1 k1 t1=>by
  refine ⟨_,rfl,tp,rfl,t1,λn H2 h1 h2 k2 t2=>⟨(by show 2<=sizeLine;decide),λp hp=>?_⟩⟩
  exact q _ (.num n) _ ⟨p,rfl,ad⟩ ⟨h1,h2⟩ rfl ((k1.trans k2).new hp) (t2.new hp)
 refine ⟨_,rfl,rl,rs,rfl,.inl (SqL.of hrl),_,_,rfl,rfl,_,rfl,?_⟩
 refine bO (λc=>?_) (λc=>?_)
 ·have c':0<rs.length:=by have:=zf c;lia
  refine ⟨_,rfl,tp,4,rfl,hT,by decide,by decide,λd t h0 h1=>?_⟩
  refine ⟨_,_,rfl,rfl,_,rfl,?_⟩
  refine bO (λc2=>?_) (λc2=>?_)
  ·have h2:(upd H tp (.lst [.int t])) rl=some (.lst rs):=by rw [ak hne];exact hrl
   refine ⟨_,rfl,_,rfl,_,rfl,rl,rs,rfl,.inl (SqL.of h2),tp,_,rfl,⟨t,ad⟩,by lia,by lia,λd2 t2 h20 h21=>?_⟩
   rw [cX]
   have h3:(upd H tp (.lst [.int t2])) rl=some (.lst rs):=by rw [ak hne];exact hrl
   obtain ⟨x,ex,ex2⟩:=kE (xs:=rs) h20 h21
   obtain ⟨fm,r,wf,sz⟩:=hL x (y3 ex2)
   have k2:Kp tp H (upd H tp (.lst [.int t2])):=Kp.tape
   exact ⟨rl,rs,d2,x,rfl,rfl,SqL.of h3,ex,q x fm _ (r.mono (k2.tk hT)) wf sz k2 ⟨t2,ad⟩⟩
  ·exact num _ Kp.tape ⟨t,ad⟩
 ·exact num _ Kp.refl hT
theorem uF {H:Hp} {a b:List V} {x y:V} {n:Nat} (h:FsP ρ H (a++x::y::b) n): ∃ A B,Rep H A x/\Rep H B y/\A.wfp ρ/\B.wfp ρ/\ ∃ m1 m2,FsP ρ H a m1/\FsP ρ H b m2/\n=m1+ (A.size+ (B.size+m2)):=by
 obtain ⟨m1,r,h1,h2,e⟩:=h.split
 cases h2 with
 | cons ra wa h3=>
  cases h3 with
  | cons rb wb h4=>exact ⟨_,_,ra,rb,wa,wb,m1,_,h1,h4,e⟩
theorem uE {H:Hp} {a b:List V} {x y z:V} {n:Nat} (h:FsP ρ H (a++x::y::z::b) n): ∃ A B C,Rep H A x/\Rep H B y/\Rep H C z/\A.wfp ρ/\B.wfp ρ/\C.wfp ρ/\ ∃ m1 m2,FsP ρ H a m1/\FsP ρ H b m2/\n=m1+ (A.size+ (B.size+ (C.size+m2))):=by
 obtain ⟨m1,r,h1,h2,e⟩:=h.split
 cases h2 with
 | cons ra wa h3=>
  cases h3 with
  | cons rb wb h4=>
   cases h4 with
   | cons rc wc h5=>exact ⟨_,_,_,ra,rb,rc,wa,wb,wc,m1,_,h1,h5,e⟩
theorem scFormulaP:aI ["tape","readings","many","j","stack","way","sign"] ["tape","readings"] (am di):=fsc
theorem lj (F:Fun K "_law_formula" "_law_formula" di f fd) (G:Gb mg) (GD:Cl P w K mg base CX0 1 g gd ["tape","many"] cc "_law_digit")
  (GL:Cl P w K mg base CX0 3 f2 fd2 ["tape","readings"] (jS ρ) "_law_leaf"):
  FnOk P w K mg base CX0 4 f fd ["tape","readings"] (dy ρ):=by
 refine F.ok scFormulaP (λvs H Q E h=>?_) (λcdv A outer s H vs Q E hr h=>?_)
 ·obtain ⟨tp,rl,rs,rfl,_⟩:=h
  rfl
 obtain ⟨tp,rl,rs,rfl,hT,hne,hrl,hlen,hL,q⟩:=h
 have hr1:=hr.mono (show 1<=3 by decide)
 obtain ⟨t,ht,hread⟩: ∃ t,PSs (dq CX0 P w K mg base ["tape","readings","many","j","stack","way","sign"] "_law_formula" (am di) f cdv A outer s H E).nox ((bW di).drop 2) t/\
   ∀ (m:Int) (H2:Hp),1<=m->m<=8->Kp tp H H2->Tp H2 tp->t {nx:=λ_ H'=>Q .non H',rt:=Q} [some (.ref tp),some (.ref rl),some (.int m),none,none,none,none] H2:=by
  refine ⟨_,ah (eL (i:=4) (sc0:=am di) (N0:=["tape","readings","many","j","stack","way","sign"]) (ys:=["tape","readings"]) (fr:=[0,1]) rfl scFormulaP.nd rfl (Or.inl rfl) (bt rfl G.range (aa (pv 2) ae)) rfl rfl
    cok
    (λC s H ex=>pcl GL hr (aa (pv 1) (aa (pv 2) ae))))
   (ah (kY zw (aF eZ (ax (r:=cr K) av rfl G.len zC (aa (pv 4) ae)) af (aG _))
    (ah (ao (i:=5) scFormulaP.nd rfl (Or.inl rfl) (pcl GD hr1 (aa (pv 0) (aa af ae))))
    (al (a8 (PW.pt (j5 (aF cU (pv 5) af (aG _)) (gY (aF eZ (ax (r:=cr K) av rfl G.len zC (aa (pv 4) ae)) af (aG _)))))
     (ah (ao (i:=3) scFormulaP.nd rfl (Or.inl rfl) (pcl GD hr1 (aa (pv 0) (aa (aq cx (ax (r:=cr K) av rfl G.len zC (aa (pv 4) ae)) af) ae))))
     (al (ao (i:=4) scFormulaP.nd rfl (Or.inl rfl) (aq iF (aq iF (aZ cH (pv 4) bp (a9 (pv 3)))
      (aX (aa (aN (aa br (aa (au (r:=cf K) aR (pv 4) (pv 3) (λ_ _=>rfl)) (aa (au (r:=cf K) aR (pv 4) (aq aQ (pv 3) af) (λ_ _=>rfl)) (aa (au (r:=cf K) aR (pv 4) (aq aQ (pv 3) af) (λ_ _=>rfl)) ae))))) ae)))
      (aZ cH (pv 4) (a9 (aq aQ (pv 3) af)) bp)))))
     (ah (ao (i:=3) scFormulaP.nd rfl (Or.inl rfl) (pcl GD hr1 (aa (pv 0) (aa (aq cx (ax (r:=cr K) av rfl G.len zC (aa (pv 4) ae)) af) ae))))
     (ah (ao (i:=6) scFormulaP.nd rfl (Or.inl rfl) (au (r:=cf K) aR (aX (aa br (aa br (aa br (aa br (aa br ae)))))) (aq bQ (pv 5) af) (λ_ _=>rfl)))
     (al (ao (i:=4) scFormulaP.nd rfl (Or.inl rfl) (aq iF (aq iF (aZ cH (pv 4) bp (a9 (pv 3)))
      (aX (aa (aN (aa (pv 6) (aa (au (r:=cf K) aR (pv 4) (pv 3) (λ_ _=>rfl)) (aa (au (r:=cf K) aR (pv 4) (aq aQ (pv 3) af) (λ_ _=>rfl)) ae)))) ae)))
      (aZ cH (pv 4) (a9 (aq aQ (pv 3) af)) bp))))))))))
   (al (aH (au (r:=cf K) aR (pv 4) af (λ_ _=>rfl))))),λm H2 hm1 hm8 k2 tt2=>?_⟩
  have tpn: ∀ {p:Addr} {Hx:Hp},Tp Hx tp->Hx p=none->p≠tp:=λt hp e=>by
   obtain ⟨t0,e0⟩:=t
   subst e
   rw [e0]at hp
   cases hp
  refine ⟨_,rfl,m,rfl,by lia,by lia,?_⟩
  refine eS (n:=m.toNat) (R:=λi v=>v=.int (0+i)) (by lia) iK dl hU
   (λp i zs H'=>Kp tp H H'/\Tp H' tp/\H' p=some (.lst zs)/\p≠tp/\zs.length=i/\FsP ρ H' zs i) ?_ ?_ ?_ ?_
  ·intro p hp
   exact ⟨k2.new hp,tt2.new hp,ad,tpn tt2 hp,rfl,.nil⟩
  ·rintro p i zs H' ⟨_,_,h,_,e,_⟩
   exact ⟨h,e⟩
  ·rintro p i zs H' v k hp hi rfl ⟨k3,t3,hz,hpn,hzl,hf⟩ hk
   have hrl':H' rl=some (.lst rs):=k3 _ _ hrl hne
   refine ⟨_,rfl,_,rfl,tp,rl,rs,rfl,t3,hne,hrl',hlen,hL.mono (k3.tk hT),λv f H3 rp wf sz k4 t4=>?_⟩
   refine hk v H3 (k4 _ _ hz hpn) ⟨?_,?_,ad,hpn,by rw [yZ,hzl];rfl,?_⟩
   ·intro b o hb hne'
    have hbp:b≠p:=λe=>by
     subst e
     have:=k2 b o hb hne'
     rw [hp]at this
     cases this
    rw [ak hbp]
    exact k4 _ _ (k3 _ _ hb hne') hne'
   ·obtain ⟨t0,e0⟩:=t4
    exact ⟨t0,by rw [ak (zT hpn)];exact e0⟩
   ·have tk:TK H3 (upd H3 p (.lst (zs++[v]))):=TK.lst (k4 _ _ hz hpn)
    have e1:FsP ρ H3 zs i:=hf.mono (k4.tk t3)
    have e2:=e1.append (FsP.cons rp wf .nil)
    rw [sz]at e2
    exact e2.mono tk
  ·rintro p zs H' hp ⟨k3,t3,hz,hpn,hzl,hf⟩
   refine qj (λU H'=> ∃ (sl:Addr) (ws:List V) (n:Nat) (j wy sg:Option V),U=[some (.ref tp),some (.ref rl),some (.int m),j,some (.ref sl),wy,sg]/\H' sl=some (.lst ws)/\sl≠tp/\1<=ws.length/\ws.length<=8/\
     FsP ρ H' ws n/\n+ws.length<=16/\Kp tp H H'/\Tp H' tp)
    (λU H'=>match U with | [_,_,_,_,some (.ref sl),_,_]=>(match H' sl with | some (.lst ws)=>ws.length | _=>0) | _=>0)
    ⟨p,zs,m.toNat,none,none,none,rfl,hz,hpn,by lia,by lia,hf,by lia,k3,t3⟩ ?_ ?_
   ·rintro U H3 ⟨sl,ws,n,j,wy,sg,rfl,hsl,hsn,hw1,hw8,hfs,hsz,k4,t4⟩
    refine ⟨_,rfl,sl,ws,rfl,.inl (SqL.of hsl),_,_,rfl,rfl,_,rfl,?_⟩
    refine bO (λc=>?_) (λc=>?_)
    ·have c':1<ws.length:=by have:=zf c;lia
     refine ⟨_,rfl,tp,6,rfl,t4,by decide,by decide,λwy t5 hw0 hw6=>?_⟩
     have k5:Kp tp H3 (upd H3 tp (.lst [.int t5])):=Kp.tape
     have tt5:Tp (upd H3 tp (.lst [.int t5])) tp:=⟨t5,ad⟩
     have hsl5:=k5 _ _ hsl hsn
     have hfs5:=hfs.mono (k5.tk t4)
     have k5':=k4.trans k5
     generalize upd H3 tp (.lst [.int t5])=H5 at k5 tt5 hsl5 hfs5 k5' ⊢
     refine ⟨_,rfl,rfl,_,rfl,?_⟩
     refine wX (c2:=decide (2< (ws.length:Int))) (λh=>⟨_,rfl,sl,ws,rfl,.inl (SqL.of hsl5),_,_,rfl,rfl,_,rfl,h⟩) (λ_ cw=>?_) (λ_=>?_)
     ·-- when
      have cw':2<ws.length:=by have:=zf cw;lia
      refine ⟨_,rfl,_,rfl,sl,ws,rfl,.inl (SqL.of hsl5),_,_,rfl,rfl,tp,_,rfl,tt5,by lia,by lia,λjj t6 hj0 hj1=>?_⟩
      have k6:Kp tp H5 (upd H5 tp (.lst [.int t6])):=Kp.tape
      have tt6:Tp (upd H5 tp (.lst [.int t6])) tp:=⟨t6,ad⟩
      have hsl6:=k6 _ _ hsl5 hsn
      have hfs6:=hfs5.mono (k6.tk tt5)
      have k6':=k5'.trans k6
      generalize upd H5 tp (.lst [.int t6])=H6 at k6 tt6 hsl6 hfs6 k6' ⊢
      obtain ⟨a,x,y,z,b,ew,ea,etk,edr⟩:=vL (xs:=ws) (j:=jj.toNat) (by lia)
      have ej:jj=(a.length:Int):=by lia
      obtain ⟨A,B,C,ra,rb,rc,wa,wb,wc,m1,m2,f1,f2,en⟩:=uE (ew▸hfs6)
      have hlw:ws.length=a.length+3+b.length:=by rw [ew];simp;lia
      refine ⟨_,rfl,_,rfl,jj,rfl,sl,ws,rfl,SqL.of hsl6,λp1 hp1=>?_⟩
      rw [eA ws hj0 (by lia),etk]
      have s1:Same H6 (upd H6 p1 (.lst a)):=ai hp1 _
      have g1:(upd H6 p1 (.lst a)) p1=some (.lst a):=ad
      generalize upd H6 p1 (.lst a)=H7 at s1 g1 ⊢
      have hsl7:=s1 _ _ hsl6
      refine ⟨_,rfl,_,rfl,sl,ws,jj,x,rfl,rfl,SqL.of hsl7,ew▸iX ej,_,rfl,_,rfl,_,_,rfl,rfl,sl,ws,jj+1,y,rfl,rfl,SqL.of hsl7,?_,_,rfl,_,rfl,_,_,rfl,rfl,sl,ws,jj+2,z,rfl,rfl,SqL.of hsl7,?_,(by show 4<=sizeLine;decide),λp2 hp2=>?_⟩
      ·rw [ew,show a++x::y::z::b=(a++[x])++y::z::b by simp]
       exact iX (by simp;lia)
      ·rw [ew,show a++x::y::z::b=(a++[x,y])++z::b by simp]
       exact iX (by simp;lia)
      have s2:Same H7 (upd H7 p2 (.tup [.str "when",x,y,z])):=ai hp2 _
      have g2:(upd H7 p2 (.tup [.str "when",x,y,z])) p2=some (.tup [.str "when",x,y,z]):=ad
      generalize upd H7 p2 (.tup [.str "when",x,y,z])=H8 at s2 g2 ⊢
      refine ⟨(by show 1<=sizeLine;decide),λp3 hp3=>?_⟩
      have s3:Same H8 (upd H8 p3 (.lst [.ref p2])):=ai hp3 _
      have g3:(upd H8 p3 (.lst [.ref p2])) p3=some (.lst [.ref p2]):=ad
      generalize upd H8 p3 (.lst [.ref p2])=H9 at s3 g3 ⊢
      refine ⟨p1,p3,a,_,rfl,rfl,s3 _ _ (s2 _ _ g1),g3,zR (ay (by simp;lia)),λp4 hp4=>?_⟩
      have s4:Same H9 (upd H9 p4 (.lst (a++[.ref p2]))):=ai hp4 _
      have g4:(upd H9 p4 (.lst (a++[.ref p2]))) p4=some (.lst (a++[.ref p2])):=ad
      generalize upd H9 p4 (.lst (a++[.ref p2]))=H10 at s4 g4 ⊢
      have s7:Same H7 H10:=s2.trans (s3.trans s4)
      refine ⟨_,rfl,_,rfl,_,_,rfl,rfl,jj+3,rfl,sl,ws,rfl,SqL.of (s7 _ _ hsl7),λp5 hp5=>?_⟩
      rw [iS ws (by lia) (by lia),show (jj+3).toNat=jj.toNat+3 by lia,edr]
      have s5:Same H10 (upd H10 p5 (.lst b)):=ai hp5 _
      have g5:(upd H10 p5 (.lst b)) p5=some (.lst b):=ad
      generalize upd H10 p5 (.lst b)=H11 at s5 g5 ⊢
      refine ⟨p4,p5,_,b,rfl,rfl,s5 _ _ g4,g5,zR (ay (by simp;lia)),λp6 hp6=>?_⟩
      have s6:Same H6 H11:=s1.trans (s7.trans s5)
      have st:Same H6 (upd H11 p6 (.lst (a++[.ref p2]++b))):=s6.trans (ai hp6 _)
      have tk:TK H6 (upd H11 p6 (.lst (a++[.ref p2]++b))):=λc xs h=>st _ _ h
      have g2':(upd H11 p6 (.lst (a++[.ref p2]++b))) p2=some (.tup [.str "when",x,y,z]):=(ai hp6 _) _ _ (s5 _ _ (s4 _ _ (s3 _ _ g2)))
      have tt7:Tp (upd H11 p6 (.lst (a++[.ref p2]++b))) tp:=by obtain ⟨t0,e0⟩:=tt6;exact ⟨t0,st _ _ e0⟩
      refine ⟨⟨p6,_,m1+ ((Fm.whn A B C).size+0) +m2,_,_,_,rfl,ad,?_,by simp;lia,by simp;lia,?_,?_,k6'.same st,tt7⟩,?_⟩
      ·intro e
       obtain ⟨t0,e0⟩:=tt6
       have:=s6 _ _ e0
       rw [<- e,hp6]at this
       cases this
      ·exact ((f1.mono tk).append (FsP.cons (f:=.whn A B C) ⟨p2,x,y,z,rfl,g2',ra.mono tk,rb.mono tk,rc.mono tk⟩ ⟨wa,wb,wc⟩ .nil)).append (f2.mono tk)
      ·show m1+ ((A.size+B.size+C.size+1) +0) +m2+ (a++[V.ref p2]++b).length<=16
       simp
       lia
      ·show (match (upd H11 p6 (.lst (a++[.ref p2]++b))) p6 with | some (.lst ws)=>ws.length | _=>0) < (match H3 sl with | some (.lst ws)=>ws.length | _=>0)
       rw [ad,hsl]
       simp
       lia
     ·-- one of the five signs
      refine ⟨_,rfl,_,rfl,sl,ws,rfl,.inl (SqL.of hsl5),_,_,rfl,rfl,tp,_,rfl,tt5,by lia,by lia,λjj t6 hj0 hj1=>?_⟩
      have k6:Kp tp H5 (upd H5 tp (.lst [.int t6])):=Kp.tape
      have tt6:Tp (upd H5 tp (.lst [.int t6])) tp:=⟨t6,ad⟩
      have hsl6:=k6 _ _ hsl5 hsn
      have hfs6:=hfs5.mono (k6.tk tt5)
      have k6':=k5'.trans k6
      generalize upd H5 tp (.lst [.int t6])=H6 at k6 tt6 hsl6 hfs6 k6' ⊢
      refine ⟨(by show 5<=sizeLine;decide),λp0 hp0=>?_⟩
      have s0:Same H6 (upd H6 p0 (.lst [.str "plus",.str "less",.str "times",.str "least",.str "most"])):=ai hp0 _
      have g0:(upd H6 p0 (.lst [.str "plus",.str "less",.str "times",.str "least",.str "most"])) p0=some (.lst [.str "plus",.str "less",.str "times",.str "least",.str "most"]):=ad
      generalize upd H6 p0 (.lst [.str "plus",.str "less",.str "times",.str "least",.str "most"])=H6b at s0 g0 ⊢
      obtain ⟨op,hop,hopm⟩: ∃ op,atI [V.str "plus",.str "less",.str "times",.str "least",.str "most"] (wy%5)=some (.str op)/\op∈ops:=by
       have h1:=AH wy (show (5:Int)≠0 by decide)
       have h2:=Am wy (show (0:Int) <5 by decide)
       have h5:wy%5=0\/wy%5=1\/wy%5=2\/wy%5=3\/wy%5=4:=by lia
       rcases h5 with h | h | h | h | h <;> rw [h]
       ·exact ⟨"plus",rfl,by simp [ops]⟩
       ·exact ⟨"less",rfl,by simp [ops]⟩
       ·exact ⟨"times",rfl,by simp [ops]⟩
       ·exact ⟨"least",rfl,by simp [ops]⟩
       ·exact ⟨"most",rfl,by simp [ops]⟩
      refine ⟨_,rfl,_,_,rfl,rfl,(by show (0:Int) <5;decide),p0,_,_,_,rfl,rfl,SqL.of g0,hop,?_⟩
      obtain ⟨a,x,y,b,ew,ea,etk,edr⟩:=vM (xs:=ws) (j:=jj.toNat) (by lia)
      have ej:jj=(a.length:Int):=by lia
      obtain ⟨A,B,ra,rb,wa,wb,m1,m2,f1,f2,en⟩:=uF (ew▸hfs6)
      have hlw:ws.length=a.length+2+b.length:=by rw [ew];simp;lia
      have hsl6b:=s0 _ _ hsl6
      refine ⟨_,rfl,_,rfl,jj,rfl,sl,ws,rfl,SqL.of hsl6b,λp1 hp1=>?_⟩
      rw [eA ws hj0 (by lia),etk]
      have s1:Same H6b (upd H6b p1 (.lst a)):=ai hp1 _
      have g1:(upd H6b p1 (.lst a)) p1=some (.lst a):=ad
      generalize upd H6b p1 (.lst a)=H7 at s1 g1 ⊢
      have hsl7:=s1 _ _ hsl6b
      refine ⟨_,rfl,_,rfl,_,rfl,sl,ws,jj,x,rfl,rfl,SqL.of hsl7,ew▸iX ej,_,rfl,_,rfl,_,_,rfl,rfl,sl,ws,jj+1,y,rfl,rfl,SqL.of hsl7,?_,(by show 3<=sizeLine;decide),λp2 hp2=>?_⟩
      ·rw [ew,show a++x::y::b=(a++[x])++y::b by simp]
       exact iX (by simp;lia)
      have s2:Same H7 (upd H7 p2 (.tup [.str op,x,y])):=ai hp2 _
      have g2:(upd H7 p2 (.tup [.str op,x,y])) p2=some (.tup [.str op,x,y]):=ad
      generalize upd H7 p2 (.tup [.str op,x,y])=H8 at s2 g2 ⊢
      refine ⟨(by show 1<=sizeLine;decide),λp3 hp3=>?_⟩
      have s3:Same H8 (upd H8 p3 (.lst [.ref p2])):=ai hp3 _
      have g3:(upd H8 p3 (.lst [.ref p2])) p3=some (.lst [.ref p2]):=ad
      generalize upd H8 p3 (.lst [.ref p2])=H9 at s3 g3 ⊢
      refine ⟨p1,p3,a,_,rfl,rfl,s3 _ _ (s2 _ _ g1),g3,zR (ay (by simp;lia)),λp4 hp4=>?_⟩
      have s4:Same H9 (upd H9 p4 (.lst (a++[.ref p2]))):=ai hp4 _
      have g4:(upd H9 p4 (.lst (a++[.ref p2]))) p4=some (.lst (a++[.ref p2])):=ad
      generalize upd H9 p4 (.lst (a++[.ref p2]))=H10 at s4 g4 ⊢
      have s7:Same H7 H10:=s2.trans (s3.trans s4)
      refine ⟨_,rfl,_,rfl,_,_,rfl,rfl,jj+2,rfl,sl,ws,rfl,SqL.of (s7 _ _ hsl7),λp5 hp5=>?_⟩
      rw [iS ws (by lia) (by lia),show (jj+2).toNat=jj.toNat+2 by lia,edr]
      have s5:Same H10 (upd H10 p5 (.lst b)):=ai hp5 _
      have g5:(upd H10 p5 (.lst b)) p5=some (.lst b):=ad
      generalize upd H10 p5 (.lst b)=H11 at s5 g5 ⊢
      refine ⟨p4,p5,_,b,rfl,rfl,s5 _ _ g4,g5,zR (ay (by simp;lia)),λp6 hp6=>?_⟩
      have s6:Same H6 H11:=s0.trans (s1.trans (s7.trans s5))
      have st:Same H6 (upd H11 p6 (.lst (a++[.ref p2]++b))):=s6.trans (ai hp6 _)
      have tk:TK H6 (upd H11 p6 (.lst (a++[.ref p2]++b))):=λc xs h=>st _ _ h
      have g2':(upd H11 p6 (.lst (a++[.ref p2]++b))) p2=some (.tup [.str op,x,y]):=(ai hp6 _) _ _ (s5 _ _ (s4 _ _ (s3 _ _ g2)))
      have tt7:Tp (upd H11 p6 (.lst (a++[.ref p2]++b))) tp:=by obtain ⟨t0,e0⟩:=tt6;exact ⟨t0,st _ _ e0⟩
      refine ⟨⟨p6,_,m1+ ((Fm.bin op A B).size+0) +m2,_,_,_,rfl,ad,?_,by simp;lia,by simp;lia,?_,?_,k6'.same st,tt7⟩,?_⟩
      ·intro e
       obtain ⟨t0,e0⟩:=tt6
       have:=s6 _ _ e0
       rw [<- e,hp6]at this
       cases this
      ·exact ((f1.mono tk).append (FsP.cons (f:=.bin op A B) ⟨p2,x,y,rfl,g2',ra.mono tk,rb.mono tk⟩ ⟨hopm,wa,wb⟩ .nil)).append (f2.mono tk)
      ·show m1+ ((A.size+B.size+1) +0) +m2+ (a++[V.ref p2]++b).length<=16
       simp
       lia
      ·show (match (upd H11 p6 (.lst (a++[.ref p2]++b))) p6 with | some (.lst ws)=>ws.length | _=>0) < (match H3 sl with | some (.lst ws)=>ws.length | _=>0)
       rw [ad,hsl]
       simp
       lia
    ·have c':ws.length=1:=by
      have: ¬ (1:Int) < (ws.length:Int):=λz=>c (zq z)
      lia
     obtain ⟨x,ex⟩:=List.length_eq_one_iff.mp c'
     subst ex
     cases hfs with
     | cons rp wf f2=>
      cases f2
      refine ⟨_,rfl,sl,_,0,x,rfl,rfl,SqL.of hsl,db,q x _ H3 rp wf (by simp at hsz;lia) k4 t4⟩
   ·rintro U H3 Q1 Q2 hq ⟨y,e1,p,ys,e2,h2,i,j,e3,e4,k,e5,h⟩
    exact ⟨y,e1,p,ys,e2,h2,i,j,e3,e4,k,e5,hq _ _ h⟩
 refine ⟨_,ah (ao (i:=2) scFormulaP.nd rfl (Or.inl rfl) (aq aQ af (pcl GD hr1 (aa (pv 0) (aa af ae)))))
  (ah (a8 (aF cU (pcl GD hr1 (aa (pv 0) (aa af ae))) af (aG _)) (al (ao (i:=2) scFormulaP.nd rfl (Or.inl rfl) af)) aM) ht),?_⟩
 refine ⟨_,rfl,tp,4,rfl,hT,by decide,by decide,λd1 t1 h10 h11=>?_⟩
 refine ⟨1,_,rfl,rfl,?_⟩
 refine ⟨_,rfl,tp,16,rfl,⟨t1,ad⟩,by decide,by decide,λd2 t2 h20 h21=>?_⟩
 rw [cX]
 refine ⟨rfl,_,rfl,?_⟩
 refine bO (λc9=>?_) (λc9=>?_)
 ·exact hread 8 _ (by decide) (by decide) Kp.tape ⟨t2,ad⟩
 ·exact hread (1+d1) _ (by lia) (by lia) Kp.tape ⟨t2,ad⟩
noncomputable def ndB:List Str->Bool
 | []=>true
 | x::r=> !(r.any λy=>x.cps.toList==y.cps.toList)&&ndB r
theorem rR: ∀ {l:List Str},ndB l=true->l.Nodup
 | [],_=>Bh
 | x::r,h=>by
  unfold ndB at h
  rw [zM]at h
  refine Ad.mpr ⟨λm=>?_,rR h.2⟩
  have h1:=h.1
  rw [CD,List.any_eq_false]at h1
  exact h1 x m (by simp)
theorem pL:((List.range 3).all λway=>(List.range 26).all λtu=>ndB ((List.range 13).map (fV way tu))&&((List.range 13).map (fV way tu)).all cj)=true:=by
 decide +kernel
theorem v8:((List.range 3).all λway=>(List.range 26).all λtu=>((List.range 13).map (fV way tu)).all λx=> !(x.cps.toList==("nosuch":Str).cps.toList))=true:=by
 decide +kernel
theorem NamesAre.no {m:Nat} {ws:List Str} (h:NamesAre m ws) (hm:m<=13): ∀ x∈ws,x≠"nosuch":=by
 obtain ⟨way,tu,back,h1,h2,e⟩:=h
 have a:=v8
 rw [Az]at a
 have a:=a way (zI.mpr h1)
 rw [Az]at a
 have a:=Az.mp (a tu (zI.mpr h2))
 have sub:((List.range m).map (fV way tu)).Sublist ((List.range 13).map (fV way tu)):=List.Sublist.map _ (List.range_sublist.mpr hm)
 have wd: ∀ x∈(List.range m).map (fV way tu),x≠"nosuch":=λx hx z=>by
  have:=a x (sub.subset hx)
  rw [z]at this
  revert this
  decide +kernel
 cases back with
 | false=>
  rw [yU (by decide)]at e
  subst e
  exact wd
 | true=>
  rw [yW rfl]at e
  subst e
  exact λx hx=>wd x (BZ.mp hx)
theorem NamesAre.ok {m:Nat} {ws:List Str} (h:NamesAre m ws) (hm:m<=13):ws.length=m/\ws.Nodup/\ ∀ x∈ws,cj x=true:=by
 obtain ⟨way,tu,back,h1,h2,e⟩:=h
 have a:=pL
 rw [Az]at a
 have a:=a way (zI.mpr h1)
 rw [Az]at a
 have a:=a tu (zI.mpr h2)
 rw [zM]at a
 have n13:=rR a.1
 have w13:=Az.mp a.2
 have sub:((List.range m).map (fV way tu)).Sublist ((List.range 13).map (fV way tu)):=List.Sublist.map _ (List.range_sublist.mpr hm)
 have nd:=n13.sublist sub
 have wd: ∀ x∈(List.range m).map (fV way tu),cj x=true:=λx hx=>w13 x (sub.subset hx)
 have ln:((List.range m).map (fV way tu)).length=m:=by rw [yP,At]
 cases back with
 | false=>
  rw [yU (by decide)]at e
  subst e
  exact ⟨ln,nd,wd⟩
 | true=>
  rw [yW rfl]at e
  subst e
  exact ⟨by rw [List.length_reverse];exact ln,(CF _).nodup_iff.mpr nd,λx hx=>wd x (BZ.mp hx)⟩
structure Srt where
 name:Str
 downs:List Str
 ups:List Str
inductive RepS (H:Hp) (s:Srt) (v:V):Prop
 | mk: ∀ a b c,(v=.ref a)->(H a=some (.tup [.str s.name,.ref b,.ref c]))->(H b=some (.tup (s.downs.map V.str)))->(H c=some (.tup (s.ups.map V.str)))->RepS H s v
theorem RepS.mono {H H':Hp} (t:TK H H') {s:Srt} {v:V}:RepS H s v->RepS H' s v:=λ⟨a,b,c,e,h1,h2,h3⟩=>⟨a,b,c,e,t _ _ h1,t _ _ h2,t _ _ h3⟩
def Srt.ok (s:Srt):Prop:=(s.downs++s.ups).Nodup/\(∀ x∈s.downs++s.ups,cj x=true)/\s.downs.length<=3/\s.ups.length<=3/\1<=s.downs.length+s.ups.length
def RepSs (H:Hp) (ss:List Srt) (vs:List V):Prop:=Paired (RepS H) ss vs
theorem RepSs.mono {H H':Hp} (t:TK H H') {ss:List Srt} {vs:List V} (h:RepSs H ss vs):RepSs H' ss vs:=Paired.mapP h λ_ _ r=>r.mono t
theorem RepSs.len {H:Hp} {ss:List Srt} {vs:List V} (h:RepSs H ss vs):ss.length=vs.length:=ze h
theorem aD {α β:Type} {F:α->β->Prop}: ∀ {l:List α} {r:List β} {i:Nat} {b:β},Paired F l r->r[i]? =some b-> ∃ a,l[i]? =some a/\F a b
 | _,_,i,b,.nil,e=>by cases i <;> cases e
 | _,_,0,b,.cons h _,e=>⟨_,rfl,by cases e;exact h⟩
 | _,_,i+1,b,.cons _ t,e=>aD (i:=i) t e
def cz (ss:List Srt):Prop:=1<=ss.length/\ss.length<=4/\(ss.map Srt.name).Nodup/\(∀ s∈ss,cj s.name=true/\s.name≠"nosuch")/\ ∀ s∈ss,s.ok
theorem oQ {ws:List Str} (n:ws.Nodup) (w: ∀ x∈ws,cj x=true) (hl:ws.length=6) (k d u:Nat) (hd:d<=3) (hu:u<=3) (h1:1<=d+u) (nm:Str):
  (Srt.mk nm ((ws.drop k++ws.take k).take d) (((ws.drop k++ws.take k).drop d).take u)).ok:=by
 have nt:(ws.drop k++ws.take k).Nodup:=by
  have:(ws.drop k++ws.take k).Perm (ws.take k++ws.drop k):=CM
  rw [Ar]at this
  exact this.nodup_iff.mpr n
 have mt: ∀ x∈ws.drop k++ws.take k,cj x=true:=λx hx=>by
  rw [y8]at hx
  rcases hx with h | h
  ·exact w x (List.mem_of_mem_drop h)
  ·exact w x (Ax h)
 have lt:(ws.drop k++ws.take k).length=6:=by rw [yZ,Ay,zB];lia
 generalize ws.drop k++ws.take k=ts at nt mt lt
 have sub:(ts.take d++(ts.drop d).take u).Sublist ts:=by
  have:=Ar d ts
  conv=>rhs;rw [<- this]
  exact List.Sublist.append (List.Sublist.refl _) (AO _ _)
 refine ⟨nt.sublist sub,λx hx=>mt x (sub.subset hx),?_,?_,?_⟩
 ·show (ts.take d).length<=3
  rw [zB];lia
 ·show ((ts.drop d).take u).length<=3
  rw [zB];lia
 ·show 1<=(ts.take d).length+ ((ts.drop d).take u).length
  rw [zB,zB,Ay];lia
inductive jR  (vs:List V) (H:Hp) (Q:VK) (E_:XK):Prop
 | mk: ∀ tp c,(vs=[.ref tp,.bl c])->(Tp H tp)->(∀ a ss xs H',H' a=some (.tup xs)->RepSs H' ss xs->cz ss->Kp tp H H'->Tp H' tp->Q (.ref a) H')->jR vs H Q E_
theorem xI (k:Bool): ∃ m:Int,atI [V.int 3,V.int 4] (if k then 1 else 0)=some (.int m)/\3<=m/\m<=4:=by
 cases k
 ·exact ⟨3,rfl,by decide,by decide⟩
 ·exact ⟨4,rfl,by decide,by decide⟩
theorem rW {d u:Int} (hd:0<=d) (hu:0<=u) (hu3:u<=3): ∃ u1:Int,(if (if decide (V.int d=V.int 0)=true then (1:Int)else 0) >u then (if decide (V.int d=V.int 0)=true then (1:Int)else 0)else u)=u1/\0<=u1/\u1<=3/\1<=d+u1:=by
 refine ⟨_,rfl,?_⟩
 by_cases c:d=0
 ·subst c
  rw [yW (zq rfl)]
  split <;> lia
 ·rw [yU (λe=>c (V.int.inj (zf e)))]
  split <;> lia
theorem dN {H:Hp} {tp p:Addr} (t:Tp H tp) (hp:H p=none):p≠tp:=λe=>by
 obtain ⟨t0,e0⟩:=t
 subst e
 rw [e0]at hp
 cases hp
theorem uO (xs:List V) {a b:Nat} (h:a+b<=xs.length):cA xs (some (a:Int)) (some ((a:Int) + (b:Int)))=(xs.drop a).take b:=by
 unfold cA
 rw [show ((a:Int) + (b:Int))=((a+b:Nat):Int) by lia,HT.sIx_nat,HT.sIx_nat,Bo h,Bo (by lia),Cs]
theorem scSorts:aI ["tape","few","many","names","words","sorts","k","most","downs","ups","turned"] ["tape","few"] (am mw):=fsc
theorem rG (F:Fun K "_law_sorts" "_law_sorts" mw f fd) (G:Gb mg) (GD:Cl P w K mg base CX0 1 g gd ["tape","many"] cc "_law_digit")
  (GN:Cl P w K mg base CX0 2 f2 fd2 ["tape","many"] fK "_law_names"):
  FnOk P w K mg base CX0 3 f fd ["tape","few"] jR:=by
 refine F.ok scSorts (λvs H Q E h=>?_) (λcdv A outer s H vs Q E hr h=>?_)
 ·obtain ⟨tp,c,rfl,_⟩:=h
  rfl
 obtain ⟨tp,few,rfl,hT,q⟩:=h
 have hr1:=hr.mono (show 1<=2 by decide)
 refine ⟨_,ah (ao (i:=2) scSorts.nd rfl (Or.inl rfl) (aq aQ af (pcl GD hr1 (aa (pv 0) (aa
    (au (r:=cf K) aR (aX (aa af (aa af ae))) (bd du rfl G.int (by decide +kernel) (aa (cJ cU (pcl GD hr1 (aa (pv 0) (aa af ae))) af (aG _)) ae)) (λ_ _=>rfl)) ae)))))
  (ah (ao (i:=3) scSorts.nd rfl (Or.inl rfl) (pcl GN hr (aa (pv 0) (aa (pv 2) ae))))
  (ah (ao (i:=4) scSorts.nd rfl (Or.inl rfl) (pcl GN hr (aa (pv 0) (aa af ae))))
  (ah (ao (i:=5) scSorts.nd rfl (Or.inl rfl) (aX ae))
  (ah (aU zw rfl (bt rfl G.range (aa (pv 2) ae)) (aw (i:=6) scSorts.nd rfl (Or.inl rfl))
   (ah (ao (i:=7) scSorts.nd rfl (Or.inl rfl) (au (r:=cf K) aR (aX (aa af (aa af ae))) (bd du rfl G.int (by decide +kernel) (aa (cJ cU (pcl GD hr1 (aa (pv 0) (aa af ae))) af (aG _)) ae)) (λ_ _=>rfl)))
   (ah (ao (i:=8) scSorts.nd rfl (Or.inl rfl) (pcl GD hr1 (aa (pv 0) (aa (pv 7) ae))))
   (ah (ao (i:=9) scSorts.nd rfl (Or.inl rfl) (ax (gF rfl) rfl G.max (by decide +kernel) (aa (pcl GD hr1 (aa (pv 0) (aa (pv 7) ae)))
    (aa (bd du rfl G.int (by decide +kernel) (aa (cJ cU (pv 8) af (aG _)) ae)) ae))))
   (ah (a8 (PW.pt (j5 (fh (pv 1)) (gY (aF eZ (aq cD (pv 8) (pv 9)) af (aG _))))) (al (ao (i:=9) scSorts.nd rfl (Or.inl rfl) (aq eO af (pv 8)))) aM)
   (ah (ao (i:=10) scSorts.nd rfl (Or.inl rfl) (aq iF (aZ cH (pv 4) (a9 (aq bQ (pv 6) af)) bp) (aZ cH (pv 4) bp (a9 (aq bQ (pv 6) af)))))
   (al (bT (dJ zF Ag Ah bu (pv 5) (aa (aN (aa (au (r:=cf K) aR (pv 3) (pv 6) (λ_ _=>rfl))
    (aa (bd (r:=dA K) bC rfl G.tuple (by decide +kernel) (aa (aZ cH (pv 10) bp (a9 (pv 8))) ae))
    (aa (bd (r:=dA K) bC rfl G.tuple (by decide +kernel) (aa (aZ cH (pv 10) (a9 (pv 8)) (a9 (aq aQ (pv 8) (pv 9)))) ae)) ae)))) ae))))))))))
  (al (aH (bd (r:=dA K) bC rfl G.tuple (by decide +kernel) (aa (pv 5) ae)))))))),?_⟩
 refine ⟨_,rfl,(by show 2<=sizeLine;decide),λp0 hp0=>?_⟩
 refine ⟨_,rfl,tp,8,rfl,hT.new hp0,by decide,by decide,λd0 t0 _ _=>⟨rfl,?_⟩⟩
 obtain ⟨m0,em0,hm3,hm4⟩:=xI (decide (V.int d0=V.int 5))
 refine .inr ⟨_,rfl,p0,_,_,_,rfl,rfl,SqL.of (by rw [ak (dN hT hp0)];exact ad),em0,?_⟩
 have k0:Kp tp H (upd (upd H p0 (.lst [.int 3,.int 4])) tp (.lst [.int t0])):=(Kp.refl.new hp0).trans Kp.tape
 have tt0:Tp (upd (upd H p0 (.lst [.int 3,.int 4])) tp (.lst [.int t0])) tp:=⟨t0,ad⟩
 generalize upd (upd H p0 (.lst [.int 3,.int 4])) tp (.lst [.int t0])=H1 at k0 tt0 ⊢
 refine ⟨tp,_,rfl,tt0,by lia,by lia,λdm t1 hdm0 hdm1=>?_⟩
 have k1:Kp tp H (upd H1 tp (.lst [.int t1])):=k0.trans Kp.tape
 have tt1:Tp (upd H1 tp (.lst [.int t1])) tp:=⟨t1,ad⟩
 generalize upd H1 tp (.lst [.int t1])=H2 at k1 tt1 ⊢
 refine ⟨1,_,rfl,rfl,?_⟩
 refine ⟨_,rfl,_,rfl,tp,_,rfl,tt1,by lia,by lia,λnl ns H3 hnl hnlen hN hnne k2' tt2=>?_⟩
 have k2:=k1.trans k2'
 refine ⟨_,rfl,tp,6,rfl,tt2,by decide,by decide,λwl ws H4 hwl hwlen hW hwne k3' tt3=>?_⟩
 have k3:=k2.trans k3'
 have hnl4:=k3' _ _ hnl hnne
 refine ⟨(by show 0<=sizeLine;decide),λsl hsl=>?_⟩
 have hslt:=dN tt3 hsl
 have k4:Kp tp H (upd H4 sl (.lst [])):=k3.new hsl
 have tt4:=tt3.new (o:=.lst []) hsl
 have s4:=ai hsl (.lst [])
 have nsl:nl≠sl:=aj hnl4 hsl
 have wsl:wl≠sl:=aj hwl hsl
 have hnl5:=s4 _ _ hnl4
 have hwl5:=s4 _ _ hwl
 have hsl5:(upd H4 sl (.lst [])) sl=some (.lst []):=ad
 generalize upd H4 sl (.lst [])=H5 at k4 tt4 hnl5 hwl5 hsl5 ⊢
 obtain ⟨nLen,nNd,nWd⟩:=hN.ok (by lia)
 have nNo:=hN.no (by lia)
 obtain ⟨wLen,wNd,wWd⟩:=hW.ok (by decide)
 have wLen6:ws.length=6:=wLen
 refine ⟨_,rfl,1+dm,rfl,by lia,by lia,?_⟩
 refine bV (λi U H'=> ∃ o6 o7 o8 o9 o10 zs ss,U=[some (.ref tp),some (.bl few),some (.int (1+dm)),some (.ref nl),some (.ref wl),some (.ref sl),o6,o7,o8,o9,o10]/\Kp tp H H'/\Tp H' tp/\H' nl=some (.lst (ns.map V.str))/\H' wl=some (.lst (ws.map V.str))/\H' sl=some (.lst zs)/\RepSs H' ss zs/\ss.length=i/\(∀ s∈ss,s.ok)/\ss.map Srt.name=ns.take i)
  ⟨none,none,none,none,none,[],[],rfl,k4,tt4,hnl5,hwl5,hsl5,.nil,rfl,λs h=>(by cases h),rfl⟩ ?_ ?_
 ·rintro i U H6 hi ⟨o6,o7,o8,o9,o10,zs,ss,rfl,k6,tt6,hnl6,hwl6,hsl6,hR,hssl,hok,hnm⟩
  refine ⟨(by show 2<=sizeLine;decide),λp0 hp0=>?_⟩
  refine ⟨_,rfl,tp,8,rfl,tt6.new hp0,by decide,by decide,λd0 t0 _ _=>⟨rfl,?_⟩⟩
  obtain ⟨m1,em1,hm3,hm4⟩:=xI (decide (V.int d0=V.int 5))
  refine .inr ⟨_,rfl,p0,_,_,_,rfl,rfl,SqL.of (by rw [ak (dN tt6 hp0)];exact ad),em1,?_⟩
  have k7:Kp tp H6 (upd (upd H6 p0 (.lst [.int 3,.int 4])) tp (.lst [.int t0])):=(Kp.refl.new hp0).trans Kp.tape
  have tt7:Tp (upd (upd H6 p0 (.lst [.int 3,.int 4])) tp (.lst [.int t0])) tp:=⟨t0,ad⟩
  generalize upd (upd H6 p0 (.lst [.int 3,.int 4])) tp (.lst [.int t0])=H7 at k7 tt7 ⊢
  refine ⟨_,rfl,_,rfl,tp,_,rfl,tt7,by lia,by lia,λd t2 hd0 hd1=>?_⟩
  have k8:Kp tp H6 (upd H7 tp (.lst [.int t2])):=k7.trans Kp.tape
  have tt8:Tp (upd H7 tp (.lst [.int t2])) tp:=⟨t2,ad⟩
  generalize upd H7 tp (.lst [.int t2])=H8 at k8 tt8 ⊢
  refine ⟨_,rfl,_,rfl,tp,_,rfl,tt8,by lia,by lia,λu t3 hu0 hu1=>?_⟩
  have k9:Kp tp H6 (upd H8 tp (.lst [.int t3])):=k8.trans Kp.tape
  have tt9:Tp (upd H8 tp (.lst [.int t3])) tp:=⟨t3,ad⟩
  generalize upd H8 tp (.lst [.int t3])=H9 at k9 tt9 ⊢
  obtain ⟨u1,eu1,hu10,hu13,hdu⟩:=rW (d:=d) (u:=u) hd0 hu0 (by lia)
  refine ⟨_,rfl,rfl,.inr ⟨_,rfl,_,_,rfl,?_⟩⟩
  rw [eu1]
  refine ⟨_,rfl,few,rfl,?_⟩
  refine wX (c2:=decide (3<d*u1)) (λh=>⟨_,rfl,_,rfl,_,_,rfl,rfl,.inl ⟨by lia,by lia⟩,_,_,rfl,rfl,_,rfl,h⟩) (λ_ c=>?A) (λ_=>?B)
  case' A=>
   have c':3<d*u1:=zf c
   have hdp:0<d:=by
    rcases (show d=0\/0<d by lia)with h | h
    ·subst h;lia
    ·exact h
   refine ⟨_,rfl,3,d,rfl,rfl,⟨hdp,by lia⟩,?_⟩
   obtain ⟨v,hv,ev⟩: ∃ v:Int,(0<=v/\v<=3/\1<=d+v)/\V.int (3/d)=V.int v:=by
    refine ⟨3/d,?_,rfl⟩
    rcases (show d=1\/d=2\/d=3 by lia)with h | h | h <;> subst h <;> decide
   rw [ev]
  case' B=>
   have hv:0<=u1/\u1<=3/\1<=d+u1:=⟨hu10,hu13,hdu⟩
   generalize u1=v at hv ⊢
  all_goals
   have hwl9:=k9 _ _ hwl6 hwne
   have hnl9:=k9 _ _ hnl6 hnne
   have hsl9:=k9 _ _ hsl6 hslt
   have hkk0:0<=(0+ (i:Int)) %6:=AH _ (by decide)
   have hkk1:(0+ (i:Int)) %6<6:=Am _ (by decide)
   refine ⟨_,rfl,_,rfl,_,_,rfl,rfl,(by show (0:Int) <6;decide),_,rfl,wl,_,rfl,SqL.of hwl9,λp1 hp1=>?_⟩
   rw [iS (ws.map V.str) hkk0 (by rw [yP];lia)]
   have hn6:((0+ (i:Int)) %6).toNat<=6:=by lia
   have hct:cA (ws.map V.str) none (some ((0+ (i:Int)) %6))=(ws.map V.str).take ((0+ (i:Int)) %6).toNat:=eA (ws.map V.str) hkk0 (by rw [yP];lia)
   generalize hn:((0+ (i:Int)) %6).toNat=n at hct hn6 ⊢
   have s1:=ai hp1 (.lst ((ws.map V.str).drop n))
   have g1:(upd H9 p1 (.lst ((ws.map V.str).drop n))) p1=some (.lst ((ws.map V.str).drop n)):=ad
   generalize upd H9 p1 (.lst ((ws.map V.str).drop n))=Ha at s1 g1 ⊢
   refine ⟨_,rfl,_,rfl,_,_,rfl,rfl,(by show (0:Int) <6;decide),_,rfl,wl,_,rfl,SqL.of (s1 _ _ hwl9),λp2 hp2=>?_⟩
   rw [hct]
   have s2:=ai hp2 (.lst ((ws.map V.str).take n))
   have g2:(upd Ha p2 (.lst ((ws.map V.str).take n))) p2=some (.lst ((ws.map V.str).take n)):=ad
   generalize upd Ha p2 (.lst ((ws.map V.str).take n))=Hb at s2 g2 ⊢
   have lcat:((ws.map V.str).drop n).length+ ((ws.map V.str).take n).length<=12:=by rw [Ay,zB,yP];lia
   refine ⟨p1,p2,_,_,rfl,rfl,s2 _ _ g1,g2,zR (ay (by lia)),λp3 hp3=>?_⟩
   have e3:(ws.map V.str).drop n++(ws.map V.str).take n=(ws.drop n++ws.take n).map V.str:=by rw [zE,List.map_drop,Dm]
   rw [e3]
   have lts:(ws.drop n++ws.take n).length=6:=by rw [yZ,Ay,zB];lia
   have hsok:=λnm=>oQ wNd wWd wLen6 n d.toNat v.toNat (by lia) (by lia) (by lia) nm
   generalize ws.drop n++ws.take n=ts at lts hsok ⊢
   have s3:=ai hp3 (.lst (ts.map V.str))
   have g3:(upd Hb p3 (.lst (ts.map V.str))) p3=some (.lst (ts.map V.str)):=ad
   generalize upd Hb p3 (.lst (ts.map V.str))=Hc at s3 g3 ⊢
   have S9:Same H9 Hc:=s1.trans (s2.trans s3)
   have hslc:=S9 _ _ hsl9
   have hnlc:=S9 _ _ hnl9
   have hwlc:=S9 _ _ hwl9
   have kc:Kp tp H6 Hc:=k9.same S9
   have ttc:Tp Hc tp:=tt9.same S9
   refine ⟨_,rfl,.inl ⟨rfl,_,SqL.of hslc⟩,?_⟩
   obtain ⟨nm,enm⟩: ∃ nm,ns[i]? =some nm:=⟨ns[i]'(by lia),y4 (by lia)⟩
   have eat:atI (ns.map V.str) (0+ (i:Int))=some (V.str nm):=by
    rw [BI]
    exact aE (by rw [zo,enm];rfl)
   refine ⟨_,rfl,_,rfl,nl,_,_,_,rfl,rfl,SqL.of hnlc,eat,?_⟩
   refine ⟨_,rfl,_,rfl,d,rfl,p3,_,rfl,SqL.of g3,λp4 hp4=>?_⟩
   rw [eA (ts.map V.str) hd0 (by rw [yP];lia),<- Dm]
   have s4:=ai hp4 (.lst ((ts.take d.toNat).map V.str))
   have g4:(upd Hc p4 (.lst ((ts.take d.toNat).map V.str))) p4=some (.lst ((ts.take d.toNat).map V.str)):=ad
   generalize upd Hc p4 (.lst ((ts.take d.toNat).map V.str))=Hd at s4 g4 ⊢
   refine ⟨p4,_,rfl,.inl ⟨SqL.of g4,λp5 hp5=>?_⟩⟩
   have s5:=ai hp5 (.tup ((ts.take d.toNat).map V.str))
   have g5:(upd Hd p5 (.tup ((ts.take d.toNat).map V.str))) p5=some (.tup ((ts.take d.toNat).map V.str)):=ad
   generalize upd Hd p5 (.tup ((ts.take d.toNat).map V.str))=He at s5 g5 ⊢
   refine ⟨_,rfl,_,rfl,d,rfl,_,rfl,_,rfl,_,_,rfl,rfl,_,rfl,p3,_,rfl,SqL.of (s5 _ _ (s4 _ _ g3)),λp6 hp6=>?_⟩
   have ecm:cA (ts.map V.str) (some d) (some (d+v))=((ts.drop d.toNat).take v.toNat).map V.str:=by
    have:=uO (ts.map V.str) (a:=d.toNat) (b:=v.toNat) (by rw [yP];lia)
    rw [show ((d.toNat:Nat):Int)=d by lia,show ((v.toNat:Nat):Int)=v by lia]at this
    rw [this,Dm,List.map_drop]
   rw [ecm]
   have s6:=ai hp6 (.lst (((ts.drop d.toNat).take v.toNat).map V.str))
   have g6:(upd He p6 (.lst (((ts.drop d.toNat).take v.toNat).map V.str))) p6=some (.lst (((ts.drop d.toNat).take v.toNat).map V.str)):=ad
   generalize upd He p6 (.lst (((ts.drop d.toNat).take v.toNat).map V.str))=Hf at s6 g6 ⊢
   refine ⟨p6,_,rfl,.inl ⟨SqL.of g6,λp7 hp7=>?_⟩⟩
   have s7:=ai hp7 (.tup (((ts.drop d.toNat).take v.toNat).map V.str))
   have g7:(upd Hf p7 (.tup (((ts.drop d.toNat).take v.toNat).map V.str))) p7=some (.tup (((ts.drop d.toNat).take v.toNat).map V.str)):=ad
   generalize upd Hf p7 (.tup (((ts.drop d.toNat).take v.toNat).map V.str))=Hg at s7 g7 ⊢
   refine ⟨(by show 3<=sizeLine;decide),λp8 hp8=>?_⟩
   have s8:=ai hp8 (.tup [.str nm,.ref p5,.ref p7])
   have g8:(upd Hg p8 (.tup [.str nm,.ref p5,.ref p7])) p8=some (.tup [.str nm,.ref p5,.ref p7]):=ad
   generalize upd Hg p8 (.tup [.str nm,.ref p5,.ref p7])=Hh at s8 g8 ⊢
   have Sc:Same Hc Hh:=s4.trans (s5.trans (s6.trans (s7.trans s8)))
   have hslh:=Sc _ _ hslc
   have hzl:zs.length=i:=by rw [<- hR.len];exact hssl
   refine ⟨sl,zs,.ref p8,rfl,rfl,hslh,ay (by lia),?_⟩
   have tk:TK Hh (upd Hh sl (.lst (zs++[.ref p8]))):=TK.lst hslh
   have kh:Kp tp H6 Hh:=kc.same Sc
   refine ⟨_,_,_,_,_,zs++[.ref p8],ss++[⟨nm,ts.take d.toNat,(ts.drop d.toNat).take v.toNat⟩],rfl,?_,?_,?_,?_,ad,?_,?_,?_,?_⟩
   ·intro b o hb hbn
    rw [ak (aj (k3 _ _ hb hbn) hsl)]
    exact kh _ _ (k6 _ _ hb hbn) hbn
   ·obtain ⟨t9,e9⟩:=ttc.same Sc
    exact ⟨t9,by rw [ak (zT hslt)];exact e9⟩
   ·rw [ak nsl];exact Sc _ _ hnlc
   ·rw [ak wsl];exact Sc _ _ hwlc
   ·exact A3 (hR.mono ((kh.tk tt6).trans tk)) ⟨p8,p5,p7,rfl,tk _ _ g8,tk _ _ (s8 _ _ (s7 _ _ (s6 _ _ g5))),tk _ _ (s8 _ _ g7)⟩
   ·rw [yZ,hssl];rfl
   ·intro s hs
    rw [y8,y0]at hs
    rcases hs with h | h
    ·exact hok s h
    ·subst h;exact hsok nm
   ·rw [zE,hnm,List.map_singleton,zz,enm]
    rfl
 ·rintro U H6 ⟨o6,o7,o8,o9,o10,zs,ss,rfl,k6,tt6,hnl6,hwl6,hsl6,hR,hssl,hok,hnm⟩
  refine ⟨_,rfl,sl,zs,rfl,.inl ⟨SqL.of hsl6,λpt hpt=>?_⟩⟩
  refine q pt ss zs _ ad (hR.mono (TK.new hpt)) ⟨by lia,by lia,?_,?_,hok⟩ (k6.new hpt) (tt6.new hpt)
  ·rw [hnm]
   exact nNd.sublist (AO _ _)
  ·intro s hs
   have hm:s.name∈ns:=Ax (i:=(1+dm).toNat) (by rw [<- hnm];exact Cb hs)
   exact ⟨nWd _ hm,nNo _ hm⟩
def sW (H:Hp) (ys:List V) (z:V):Prop:= ∃ a,z=.ref a/\H a=some (.tup ys)
def Tups (H:Hp) (yss:List (List V)) (zs:List V):Prop:=Paired (sW H) yss zs
theorem Tups.mono {H H':Hp} (t:TK H H') {yss:List (List V)} {zs:List V} (h:Tups H yss zs):Tups H' yss zs:=Paired.mapP h λ_ _ ⟨a,e,g⟩=>⟨a,e,t _ _ g⟩
theorem Tups.len {H:Hp} {yss:List (List V)} {zs:List V} (h:Tups H yss zs):yss.length=zs.length:=ze h
theorem Tups.append {H:Hp}: ∀ {a c:List (List V)} {b d:List V},Tups H a b->Tups H c d->Tups H (a++c) (b++d)
 | _,_,_,_,.nil,h=>h
 | _,_,_,_,.cons x t,h=>.cons x (Tups.append t h)
theorem aL {H H':Hp} (s:Same H H'):TK H H':=λa xs h=>s _ _ h
theorem eU {K:W.Frag} {a:Addr} {xs:List V} {fr:List Nat} {te:TE} {U:St} {H1:Hp} {Q:VK} (hn:xs.length<=1000) (ha:H1 a=some (.tup xs)) (g:V->List V)
  (hte: ∀ v H k,v∈xs->(∀ p,H p=none->k (.ref p) (upd H p (.tup (g v))))->te (some v::bg fr U) H k)
  (hd: ∀ p zs H',H1 p=none->Same H1 H'->H' p=some (.lst zs)->Tups H' (xs.map g) zs->Q (.ref p) H'):ig fr te U (Itt K a) H1 Q:=by
 intro p hp
 refine ⟨λi m zs H=>i<=xs.length/\m=xs.length-i/\Same H1 H/\H p=some (.lst zs)/\zs.length=i/\Tups H ((xs.take i).map g) zs,⟨_,y9 _,rfl,ai hp _,ad,rfl,.nil⟩,?_⟩
 rintro i m zs H ⟨hi,hm,sm,gp,hz,hT⟩
 refine ⟨gp,?_⟩
 by_cases e:i=xs.length
 ·subst e
  rw [zG]at hT
  exact .inl ⟨⟨xs,SqT.of (sm _ _ ha),yV _⟩,hd p zs H hp sm gp hT⟩
 ·have hlt:i<xs.length:=by lia
  refine .inr ⟨⟨xs,xs[i],SqT.of (sm _ _ ha),y4 hlt⟩,ay (by lia),λv H' hv=>?_⟩
  obtain ⟨rfl,hv⟩:=hv
  have hv:=hv xs (SqT.of (sm _ _ ha))
  refine hte v _ _ (y3 hv) λq hq=>?_
  have s2:=ai hq (.tup (g v))
  have gq:(upd H' q (.tup (g v))) q=some (.tup (g v)):=ad
  generalize upd H' q (.tup (g v))=H2 at s2 gq ⊢
  have gp2:=s2 _ _ gp
  have tk:TK H2 (upd H2 p (.lst (zs++[.ref q]))):=TK.lst gp2
  refine ⟨gp2,xs.length- (i+1),by lia,by lia,rfl,?_,ad,by rw [yZ,hz];rfl,?_⟩
  ·intro b o hb
   rw [ak (aj hb hp)]
   exact s2 _ _ (sm _ _ hb)
  ·rw [zz,hv,zE]
   exact A3 (hT.mono ((aL s2).trans tk)) ⟨q,rfl,tk _ _ gq⟩
theorem ef {α β:Type} {F:α->β->Prop}: ∀ {l:List α} {r:List β},Paired F l r-> ∀ n,Paired F (l.take n) (r.take n)
 | _,_,.nil,n=>by rw [Do,Do];exact .nil
 | _,_,.cons h t,0=>.nil
 | _,_,.cons h t,n+1=>.cons h (ef t n)
noncomputable def cB (k:Int):List Srt->List (Int×Str)
 | []=>[]
 | q::r=>q.downs.map (λx=>(k,x))++cB (k+1) r
noncomputable def dO (o:Srt) (qs:List Srt):List (Int×Str):=o.ups.map (λx=>(-1,x))++cB 0 qs
noncomputable def tgV (t:Int×Str):List V:=[.int t.1,.str t.2]
theorem ie (k:Int): ∀ (qs:List Srt),(∀ s∈qs,s.ok)->(cB k qs).length<=3*qs.length:=by
 intro qs
 induction qs generalizing k with
 | nil=>intro _;exact yV _
 | cons q r ih=>
  intro h
  have h1:=ih (k+1) λs hs=>h s (yY _ hs)
  have h2:=(h q yT).2.2.1
  unfold cB
  rw [yZ,yP,zn]
  lia
theorem kM (k:Int): ∀ (qs:List Srt) (q:Srt),cB k (qs++[q])=cB k qs++q.downs.map (λx=>(k+qs.length,x)):=by
 intro qs
 induction qs generalizing k with
 | nil=>intro q;show q.downs.map (λx=>(k,x))++[]=_;rw [zy];show _=q.downs.map (λx=>(k+ ((0:Nat):Int),x));rw [show k+ ((0:Nat):Int)=k by lia]
 | cons r rs ih=>
  intro q
  show r.downs.map _++cB (k+1) (rs++[q])=(r.downs.map _++cB (k+1) rs)++_
  rw [ih,zm]
  have:k+1+ (rs.length:Int)=k+ ((r::rs).length:Int):=by rw [zn];lia
  rw [this]
def TabOk (H:Hp) (kvs:List (Key×V)) (ss:List Srt):Prop:= ∀ s∈ss,∃ a b c,bG kvs (.inr s.name)=some (.ref a)/\H a=some (.tup [.ref b,.ref c])/\H b=some (.tup (s.downs.map V.str))/\H c=some (.tup (s.ups.map V.str))
theorem TabOk.mono {H H':Hp} (t:TK H H') {kvs:List (Key×V)} {ss:List Srt} (h:TabOk H kvs ss):TabOk H' kvs ss:=λs hs=>by
 obtain ⟨a,b,c,e,h1,h2,h3⟩:=h s hs
 exact ⟨a,b,c,e,t _ _ h1,t _ _ h2,t _ _ h3⟩
theorem TabOk.put {H:Hp} {kvs:List (Key×V)} {ss:List Srt} {i:Nat} {s:Srt} {a b c:Addr} (nd:(ss.map Srt.name).Nodup) (hs:ss[i]? =some s) (h:TabOk H kvs (ss.take i))
  (h1:H a=some (.tup [.ref b,.ref c])) (h2:H b=some (.tup (s.downs.map V.str))) (h3:H c=some (.tup (s.ups.map V.str))):TabOk H (bH kvs (.inr s.name) (.ref a)) (ss.take (i+1)):=by
 intro x hx
 rw [zz,hs,y8]at hx
 rcases hx with hx | hx
 ·obtain ⟨a',b',c',e,r⟩:=h x hx
  refine ⟨a',b',c',?_,r⟩
  rw [ck,yU]
  ·exact e
  ·intro z
   have z:x.name=s.name:=Dg z
   obtain ⟨j,hj⟩:=CY hx
   have hji:j<i:=by
    have:=(yX.mp hj).1
    rw [zB]at this
    lia
   rw [List.getElem?_take,yW hji]at hj
   have q1:(ss.map Srt.name)[j]? =some s.name:=by rw [zo,hj,<- z];rfl
   have q2:(ss.map Srt.name)[i]? =some s.name:=by rw [zo,hs];rfl
   have:=fU nd q1 q2
   lia
 ·have hx:x=s:=by simpa using hx
  subst hx
  exact ⟨a,b,c,by rw [ck,yW rfl],h1,h2,h3⟩
def SrtsAt (H:Hp) (a:Addr) (ss:List Srt):Prop:= ∃ xs,H a=some (.tup xs)/\RepSs H ss xs
theorem SrtsAt.mono {H H':Hp} (t:TK H H') {a:Addr} {ss:List Srt}:SrtsAt H a ss->SrtsAt H' a ss:=λ⟨xs,h,r⟩=>⟨xs,t _ _ h,r.mono t⟩
inductive eE  (vs:List V) (H:Hp) (Q:VK) (E_:XK):Prop
 | mk: ∀ sa pa ss o qs,(vs=[.ref sa,.str (Srt.name o),.ref pa])->(SrtsAt H sa ss)->(cz ss)->(o∈ss)->(H pa=some (.tup (qs.map λq=>V.str (Srt.name q))))->((∀ q∈qs,q∈ss))->(qs.length<=3)->(∀ p zs H',H p=none->Same H H'->H' p=some (.lst zs)->Tups H' ((dO o qs).map tgV) zs->Q (.ref p) H')->eE vs H Q E_
theorem scTargets:aI ["sorts","own","parts","table","name","downs","ups","found","k"] ["sorts","own","parts"] (am dU):=fsc
theorem mL (F:Fun K "_law_targets" "_law_targets" dU f fd) (G:Gb mg):
  FnOk P w K mg base CX0 1 f fd ["sorts","own","parts"] eE:=by
 refine F.ok scTargets (λvs H Q E h=>?_) (λcdv A outer s H vs Q E hr h=>?_)
 ·obtain ⟨sa,pa,ss,o,qs,rfl,_⟩:=h
  rfl
 obtain ⟨sa,pa,ss,o,qs,rfl,⟨xs,hsa,hR⟩,hok,ho,hpa,hqs,hql,q⟩:=h
 have hu:=dL hr
 refine ⟨_,ah (ao (i:=3) scTargets.nd rfl (Or.inl rfl) ed)
  (ah (aU zw rfl (ce (pv 0)) (cu rfl (aJ (aw (i:=4) scTargets.nd rfl (Or.inl rfl)) (aJ (aw (i:=5) scTargets.nd rfl (Or.inl rfl)) (aJ (aw (i:=6) scTargets.nd rfl (Or.inl rfl)) bU))))
   (al (cy hu (pv 3) (pv 4) (aN (aa (pv 5) (aa (pv 6) ae))) rfl)))
  (ah (eL (i:=7) (sc0:=am dU) (N0:=["sorts","own","parts","table","name","downs","ups","found","k"]) (ys:=[]) (fr:=[]) rfl scTargets.nd rfl (Or.inl rfl)
    (ce (au (r:=aS K) aA (bJ hu (pv 3) (pv 1) (λ_ _=>rfl)) af (λ_ _=>rfl))) rfl rfl
    cok
    (λC s H ex=>aN (aa (vg qt af) (aa (pv 0) ae))))
  (ah (aU zw rfl (bt rfl G.range (aa (ax (r:=cr K) av rfl G.len zC (aa (pv 2) ae)) ae)) (aw (i:=8) scTargets.nd rfl (Or.inr rfl))
   (al (bT (dJ zF Bx By eQ (pv 7) (aa
    (cI (sc0:=am dU) (N0:=["sorts","own","parts","table","name","downs","ups","found","k"]) (ys:=["k"]) (fr:=[8]) rfl
     (ce (au (r:=aS K) aA (bJ hu (pv 3) (au (r:=aS K) aA (pv 2) (pv 8) (λ_ _=>rfl)) (λ_ _=>rfl)) af (λ_ _=>rfl))) rfl rfl
     cok
     (λC s H ex=>aN (aa (pv 1) (aa (pv 0) ae)))) ae)))))
  (al (aH (pv 7)))))),?_⟩
 refine λtd htd=>?_
 have s0:=ai htd (.dK [])
 have g0:(upd H td (.dK [])) td=some (.dK []):=ad
 generalize upd H td (.dK [])=H0 at s0 g0 ⊢
 have hlen:=hR.len
 refine ⟨_,rfl,sa,rfl,⟨xs,SqT.of (s0 _ _ hsa)⟩,?_⟩
 refine cL (xs:=xs) (λi U H'=>i<=xs.length/\ ∃ o4 o5 o6 kvs,U=[some (.ref sa),some (.str o.name),some (.ref pa),some (.ref td),o4,o5,o6,none,none]/\Same H H'/\H' td=some (.dK kvs)/\kvs.length<=i/\TabOk H' kvs (ss.take i))
  ⟨y9 _,none,none,none,[],rfl,s0,g0,yV _,λs hs=>(by cases hs)⟩ (λi U H' _ h=>by obtain ⟨_,_,_,_,_,_,sm,_⟩:=h;exact SqT.of (sm _ _ hsa)) ?_ ?_
 ·rintro i x U H1 hx ⟨hi,o4,o5,o6,kvs,rfl,sm,gd,hl,hT⟩
  have hlt:i<xs.length:=(yX.mp hx).1
  obtain ⟨sr,hsr,a,b,c,rfl,ha,hb,hc⟩:=aD hR hx
  refine ⟨a,_,rfl,SqT.of (sm _ _ ha),rfl,_,_,rfl,_,_,rfl,_,_,rfl,rfl,?_⟩
  refine ⟨_,rfl,_,rfl,(by show 2<=sizeLine;decide),λpt hpt=>?_⟩
  have s1:=ai hpt (.tup [.ref b,.ref c])
  have g1:(upd H1 pt (.tup [.ref b,.ref c])) pt=some (.tup [.ref b,.ref c]):=ad
  generalize upd H1 pt (.tup [.ref b,.ref c])=H2 at s1 g1 ⊢
  have gd2:=s1 _ _ gd
  have S2:Same H H2:=sm.trans s1
  refine ⟨_,rfl,_,rfl,td,_,rfl,DPut.k (k:=.inr sr.name) gd2 (ay (by have:=hok.2.1;lia)),?_⟩
  have tk:TK H2 (upd H2 td (.dK (bH kvs (.inr sr.name) (.ref pt)))):=TK.upd λys e=>by rw [gd2]at e;cases e
  refine ⟨hlt,_,_,_,_,rfl,?_,ad,?_,?_⟩
  ·intro y oo h
   rw [ak (aj h htd)]
   exact S2 _ _ h
  ·have:=bx kvs (.inr sr.name) (.ref pt)
   lia
  ·exact TabOk.put hok.2.2.1 hsr (hT.mono ((aL s1).trans tk)) (tk _ _ g1) (tk _ _ (S2 _ _ hb)) (tk _ _ (S2 _ _ hc))
 ·rintro U H1 ⟨_,o4,o5,o6,kvs,rfl,sm,gd,hl,hT⟩
  rw [<- hlen,zG]at hT
  obtain ⟨a,b,c,eo,ha,hb,hc⟩:=hT o ho
  refine ⟨_,rfl,_,rfl,td,.ref a,rfl,(by rw [<- eo];exact DGet.k (k:=.inr o.name) gd),a,_,1,.ref c,rfl,rfl,SqT.of ha,aE (j:=1) rfl,c,rfl,⟨_,SqT.of hc⟩,?_⟩
  have lo:o.ups.length<=3:=(hok.2.2.2.2 o ho).2.2.2.1
  refine eU (by rw [yP];lia) hc (λv=>[.int (-1),v]) (λv H k _ hk=>⟨1,rfl,_,rfl,(by show 2<=sizeLine;decide),λp hp=>hk p hp⟩) λfl zs H2 hfl s2 gfl hTz=>?_
  have ez:(o.ups.map V.str).map (λv=>[V.int (-1),v])=(o.ups.map λx=>((-1:Int),x)).map tgV:=by rw [zO,zO];rfl
  rw [ez]at hTz
  have S2:Same H H2:=sm.trans s2
  have hfl0:H fl=none:=sm.free hfl
  have gd2:=s2 _ _ gd
  have hT2:=hT.mono (aL s2)
  have dfl:fl≠td:=zT (aj gd hfl)
  have hlp:(qs.map λq=>V.str (Srt.name q)).length=qs.length:=yP _
  refine ⟨_,rfl,pa,_,rfl,.inr (SqT.of (S2 _ _ hpa)),_,rfl,by lia,by lia,?_⟩
  refine bV (λi U H'=> ∃ o8 zs,U=[some (.ref sa),some (.str o.name),some (.ref pa),some (.ref td),o4,o5,o6,some (.ref fl),o8]/\Same H H'/\H' td=some (.dK kvs)/\TabOk H' kvs ss/\H' fl=some (.lst zs)/\
    Tups H' ((o.ups.map (λx=>((-1:Int),x))++cB 0 (qs.take i)).map tgV) zs)
   ⟨none,zs,rfl,S2,gd2,hT2,gfl,by rw [BQ];show Tups H2 ((_++[]).map tgV) zs;rw [zy];exact hTz⟩ ?_ ?_
  ·rintro i U H3 hi ⟨o8,zs3,rfl,S3,gd3,hT3,gfl3,hTz3⟩
   have hi':i<qs.length:=by lia
   obtain ⟨sq,hsq⟩: ∃ sq,qs[i]? =some sq:=⟨qs[i],y4 hi'⟩
   obtain ⟨a,b,c,eq,ha,hb,hc⟩:=hT3 sq (hqs sq (y3 hsq))
   have eat:atI (qs.map λq=>V.str (Srt.name q)) (0+ (i:Int))=some (V.str sq.name):=by
    rw [BI]
    exact aE (by rw [zo,hsq];rfl)
   refine ⟨_,rfl,.inl ⟨rfl,_,SqL.of gfl3⟩,?_⟩
   refine ⟨_,rfl,_,rfl,_,rfl,pa,_,_,_,rfl,rfl,SqT.of (S3 _ _ hpa),eat,td,.ref a,rfl,(by rw [<- eq];exact DGet.k (k:=.inr sq.name) gd3),a,_,0,.ref b,rfl,rfl,SqT.of ha,db,b,rfl,⟨_,SqT.of hb⟩,?_⟩
   have ld:sq.downs.length<=3:=(hok.2.2.2.2 sq (hqs sq (y3 hsq))).2.2.1
   refine eU (by rw [yP];lia) hb (λv=>[.int (0+ (i:Int)),v]) (λv H k _ hk=>⟨_,rfl,_,rfl,(by show 2<=sizeLine;decide),λp hp=>hk p hp⟩) λpl ws H4 hpl s4 gpl hTw=>?_
   have ew:(sq.downs.map V.str).map (λv=>[V.int (0+ (i:Int)),v])=(sq.downs.map λx=>(0+ (i:Int),x)).map tgV:=by rw [zO,zO];rfl
   rw [ew]at hTw
   have gfl4:=s4 _ _ gfl3
   have lz:=hTz3.len
   have lw:=hTw.len
   have lt:=ie 0 (qs.take i) λs hs=>hok.2.2.2.2 s (hqs s (Ax hs))
   rw [yP,yZ,yP]at lz
   rw [yP,yP]at lw
   rw [zB]at lt
   refine ⟨fl,pl,zs3,ws,rfl,rfl,gfl4,gpl,zR (ay (by lia)),?_⟩
   have tk:TK H4 (upd H4 fl (.lst (zs3++ws))):=TK.lst gfl4
   have tk3:TK H3 (upd H4 fl (.lst (zs3++ws))):=(aL s4).trans tk
   refine ⟨_,zs3++ws,rfl,?_,?_,hT3.mono tk3,ad,?_⟩
   ·intro y oo h
    rw [ak (aj h hfl0)]
    exact s4 _ _ (S3 _ _ h)
   ·rw [ak (zT dfl)]
    exact s4 _ _ gd3
   ·rw [zz,hsq]
    show Tups _ ((_++cB 0 (qs.take i++[sq])).map tgV) _
    rw [kM,<- zm,zE]
    have e9:(0:Int) + ((qs.take i).length:Int)=0+ (i:Int):=by rw [zB];lia
    rw [e9]
    exact (hTz3.mono tk3).append (hTw.mono tk)
  ·rintro U H3 ⟨o8,zs3,rfl,S3,gd3,hT3,gfl3,hTz3⟩
   have e9:qs.take (((qs.map λq=>V.str (Srt.name q)).length:Int)).toNat=qs:=by rw [hlp];exact zW (by lia)
   rw [e9]at hTz3
   exact ⟨_,rfl,q fl zs3 H3 hfl0 S3 gfl3 hTz3⟩
noncomputable def cq (k:Int):List Srt->List Fm
 | []=>[]
 | q::r=>q.ups.map (λx=>Fm.part k x)++cq (k+1) r
noncomputable def tgF (t:Int×Str):Fm:=if t.1<0 then .own t.2 else .part t.1 t.2
noncomputable def dG (o:Srt) (qs:List Srt) (mode j:Int):List (Int×Str):=if mode=2 then (dO o qs).take j.toNat else dO o qs
noncomputable def rds (o:Srt) (qs:List Srt) (mode j:Int):List Fm:=(o.downs.map Fm.own++cq 0 qs)++(if mode>0 then (dG o qs mode j).map tgF else [])
noncomputable def fmV:Fm->List V
 | .own x=>[.str "own",.str x]
 | .part k x=>[.str "part",.int k,.str x]
 | _=>[]
theorem fg (k:Int): ∀ (qs:List Srt),(∀ s∈qs,s.ok)->(cq k qs).length<=3*qs.length:=by
 intro qs
 induction qs generalizing k with
 | nil=>intro _;exact yV _
 | cons q r ih=>
  intro h
  have h1:=ih (k+1) λs hs=>h s (yY _ hs)
  have h2:=(h q yT).2.2.2.1
  unfold cq
  rw [yZ,yP,zn]
  lia
theorem kU (k:Int): ∀ (qs:List Srt) (q:Srt),cq k (qs++[q])=cq k qs++q.ups.map (λx=>Fm.part (k+qs.length) x):=by
 intro qs
 induction qs generalizing k with
 | nil=>intro q;show q.ups.map (λx=>Fm.part k x)++[]=_;rw [zy];show _=q.ups.map (λx=>Fm.part (k+ ((0:Nat):Int)) x);rw [show k+ ((0:Nat):Int)=k by lia]
 | cons r rs ih=>
  intro q
  show r.ups.map _++cq (k+1) (rs++[q])=(r.ups.map _++cq (k+1) rs)++_
  rw [ih,zm]
  have:k+1+ (rs.length:Int)=k+ ((r::rs).length:Int):=by rw [zn];lia
  rw [this]
theorem ic {ss:List Srt} {o:Srt} {qs:List Srt} (hok: ∀ s∈ss,s.ok) (ho:o∈ss) (hq: ∀ q∈qs,q∈ss) (hl:qs.length<=3):(dO o qs).length<=12:=by
 have h1:=ie 0 qs λs hs=>hok s (hq s hs)
 have h2:=(hok o ho).2.2.2.1
 unfold dO
 rw [yZ,yP]
 lia
theorem jg (o:Srt) (qs:List Srt) (mode j:Int):(dG o qs mode j).length<=(dO o qs).length:=by
 unfold dG
 by_cases c:mode=2
 ·rw [yW c,zB];exact Nat.min_le_right _ _
 ·rw [yU c];exact yV _
inductive dS  (vs:List V) (H:Hp) (Q:VK) (E_:XK):Prop
 | mk: ∀ sa pa ss o qs mode j,(vs=[.ref sa,.str (Srt.name o),.ref pa,.int mode,.int j])->(SrtsAt H sa ss)->(cz ss)->(o∈ss)->(H pa=some (.tup (qs.map λq=>V.str (Srt.name q))))->((∀ q∈qs,q∈ss))->(qs.length<=3)->(0<=j)->(j<=(dO o qs).length)->(∀ p zs H',H p=none->Same H H'->H' p=some (.lst zs)->Tups H' ((rds o qs mode j).map fmV) zs->Q (.ref p) H')->dS vs H Q E_
theorem ww {z u:V} (k:Bool):atI [z,u] (if k then 1 else 0)=some (if k then u else z):=by cases k <;> rfl
theorem scLReadings:aI ["sorts","own","parts","mode","j","table","name","downs","ups","word","found","k","targets","at"] ["sorts","own","parts","mode","j"] (am cP):=fsc
theorem kj (F:Fun K "_law_readings" "_law_readings" cP f fd) (G:Gb mg) (GT:Cl P w K mg base CX0 1 g gd ["sorts","own","parts"] eE "_law_targets"):
  FnOk P w K mg base CX0 2 f fd ["sorts","own","parts","mode","j"] dS:=by
 refine F.ok scLReadings (λvs H Q E h=>?_) (λcdv A outer s H vs Q E hr h=>?_)
 ·obtain ⟨sa,pa,ss,o,qs,mode,j,rfl,_⟩:=h
  rfl
 obtain ⟨sa,pa,ss,o,qs,mode,j,rfl,⟨xs,hsa,hR⟩,hok,ho,hpa,hqs,hql,hj0,hj1,q⟩:=h
 have hu:=dL hr
 refine ⟨_,ah (ao (i:=5) scLReadings.nd rfl (Or.inl rfl) ed)
  (ah (aU zw rfl (ce (pv 0)) (cu rfl (aJ (aw (i:=6) scLReadings.nd rfl (Or.inl rfl)) (aJ (aw (i:=7) scLReadings.nd rfl (Or.inl rfl)) (aJ (aw (i:=8) scLReadings.nd rfl (Or.inl rfl)) bU))))
   (al (cy hu (pv 5) (pv 6) (aN (aa (pv 7) (aa (pv 8) ae))) rfl)))
  (ah (eL (i:=10) (sc0:=am cP) (N0:=["sorts","own","parts","mode","j","table","name","downs","ups","word","found","k","targets","at"]) (ys:=[]) (fr:=[]) rfl scLReadings.nd rfl (Or.inl rfl)
    (ce (au (r:=aS K) aA (bJ hu (pv 5) (pv 1) (λ_ _=>rfl)) af (λ_ _=>rfl))) rfl rfl
    cok
    (λC s H ex=>aN (aa br (aa (pv 0) ae))))
  (ah (aU zw rfl (bt rfl G.range (aa (ax (r:=cr K) av rfl G.len zC (aa (pv 2) ae)) ae)) (aw (i:=11) scLReadings.nd rfl (Or.inr rfl))
   (al (bT (dJ zF Bx By eQ (pv 10) (aa
    (cI (sc0:=am cP) (N0:=["sorts","own","parts","mode","j","table","name","downs","ups","word","found","k","targets","at"]) (ys:=["k"]) (fr:=[11]) rfl
     (ce (au (r:=aS K) aA (bJ hu (pv 5) (au (r:=aS K) aA (pv 2) (pv 11) (λ_ _=>rfl)) (λ_ _=>rfl)) af (λ_ _=>rfl))) rfl rfl
     cok
     (λC s H ex=>aN (aa br (aa (pv 1) (aa (pv 0) ae))))) ae)))))
  (ah (ao (i:=12) scLReadings.nd rfl (Or.inl rfl) (pcl GT hr (aa (pv 0) (aa (pv 1) (aa (pv 2) ae)))))
  (ah (a8 (aF cU (pv 3) af (aG _)) (al (ao (i:=12) scLReadings.nd rfl (Or.inl rfl) (aZ cH (pv 12) bp (a9 (pv 4))))) aM)
  (ah (aU zw rfl (be (pv 12)) (cu rfl (aJ (aw (i:=13) scLReadings.nd rfl (Or.inl rfl)) (aJ (aw (i:=9) scLReadings.nd rfl (Or.inl rfl)) bU)))
   (al (a8 (aF eZ (pv 3) af (aG _))
    (al (bT (dJ zF Ag Ah bu (pv 10) (aa
     (au (r:=cf K) aR (aX (aa (aN (aa br (aa (pv 13) (aa (pv 9) ae)))) (aa (aN (aa br (aa (pv 9) ae))) ae)))
      (bd du rfl G.int (by decide +kernel) (aa (cJ ju (pv 13) af (aG _)) ae)) (λ_ _=>rfl)) ae)))) aM)))
  (al (aH (pv 10))))))))),?_⟩
 refine λtd htd=>?_
 have s0:=ai htd (.dK [])
 have g0:(upd H td (.dK [])) td=some (.dK []):=ad
 generalize upd H td (.dK [])=H0 at s0 g0 ⊢
 have hlen:=hR.len
 refine ⟨_,rfl,sa,rfl,⟨xs,SqT.of (s0 _ _ hsa)⟩,?_⟩
 refine cL (xs:=xs) (λi U H'=>i<=xs.length/\ ∃ o4 o5 o6 kvs,U=[some (.ref sa),some (.str o.name),some (.ref pa),some (.int mode),some (.int j),some (.ref td),o4,o5,o6,none,none,none,none,none]/\Same H H'/\H' td=some (.dK kvs)/\kvs.length<=i/\TabOk H' kvs (ss.take i))
  ⟨y9 _,none,none,none,[],rfl,s0,g0,yV _,λs hs=>(by cases hs)⟩ (λi U H' _ h=>by obtain ⟨_,_,_,_,_,_,sm,_⟩:=h;exact SqT.of (sm _ _ hsa)) ?_ ?_
 ·rintro i x U H1 hx ⟨hi,o4,o5,o6,kvs,rfl,sm,gd,hl,hT⟩
  have hlt:i<xs.length:=(yX.mp hx).1
  obtain ⟨sr,hsr,a,b,c,rfl,ha,hb,hc⟩:=aD hR hx
  refine ⟨a,_,rfl,SqT.of (sm _ _ ha),rfl,_,_,rfl,_,_,rfl,_,_,rfl,rfl,?_⟩
  refine ⟨_,rfl,_,rfl,(by show 2<=sizeLine;decide),λpt hpt=>?_⟩
  have s1:=ai hpt (.tup [.ref b,.ref c])
  have g1:(upd H1 pt (.tup [.ref b,.ref c])) pt=some (.tup [.ref b,.ref c]):=ad
  generalize upd H1 pt (.tup [.ref b,.ref c])=H2 at s1 g1 ⊢
  have gd2:=s1 _ _ gd
  have S2:Same H H2:=sm.trans s1
  refine ⟨_,rfl,_,rfl,td,_,rfl,DPut.k (k:=.inr sr.name) gd2 (ay (by have:=hok.2.1;lia)),?_⟩
  have tk:TK H2 (upd H2 td (.dK (bH kvs (.inr sr.name) (.ref pt)))):=TK.upd λys e=>by rw [gd2]at e;cases e
  refine ⟨hlt,_,_,_,_,rfl,?_,ad,?_,?_⟩
  ·intro y oo h
   rw [ak (aj h htd)]
   exact S2 _ _ h
  ·have:=bx kvs (.inr sr.name) (.ref pt)
   lia
  ·exact TabOk.put hok.2.2.1 hsr (hT.mono ((aL s1).trans tk)) (tk _ _ g1) (tk _ _ (S2 _ _ hb)) (tk _ _ (S2 _ _ hc))
 ·rintro U H1 ⟨_,o4,o5,o6,kvs,rfl,sm,gd,hl,hT⟩
  rw [<- hlen,zG]at hT
  obtain ⟨a,b,c,eo,ha,hb,hc⟩:=hT o ho
  refine ⟨_,rfl,_,rfl,td,.ref a,rfl,(by rw [<- eo];exact DGet.k (k:=.inr o.name) gd),a,_,0,.ref b,rfl,rfl,SqT.of ha,db,b,rfl,⟨_,SqT.of hb⟩,?_⟩
  have lo:o.downs.length<=3:=(hok.2.2.2.2 o ho).2.2.1
  refine eU (by rw [yP];lia) hb (λv=>[.str "own",v]) (λv H k _ hk=>⟨_,rfl,(by show 2<=sizeLine;decide),λp hp=>hk p hp⟩) λfl zs H2 hfl s2 gfl hTz=>?_
  have ez:(o.downs.map V.str).map (λv=>[V.str "own",v])=(o.downs.map Fm.own).map fmV:=by rw [zO,zO];rfl
  rw [ez]at hTz
  have S2:Same H H2:=sm.trans s2
  have hfl0:H fl=none:=sm.free hfl
  have gd2:=s2 _ _ gd
  have hT2:=hT.mono (aL s2)
  have dfl:fl≠td:=zT (aj gd hfl)
  have hlp:(qs.map λq=>V.str (Srt.name q)).length=qs.length:=yP _
  refine ⟨_,rfl,pa,_,rfl,.inr (SqT.of (S2 _ _ hpa)),_,rfl,by lia,by lia,?_⟩
  refine bV (λi U H'=> ∃ o8 zs,U=[some (.ref sa),some (.str o.name),some (.ref pa),some (.int mode),some (.int j),some (.ref td),o4,o5,o6,none,some (.ref fl),o8,none,none]/\Same H H'/\H' td=some (.dK kvs)/\TabOk H' kvs ss/\H' fl=some (.lst zs)/\
    Tups H' ((o.downs.map Fm.own++cq 0 (qs.take i)).map fmV) zs)
   ⟨none,zs,rfl,S2,gd2,hT2,gfl,by rw [BQ];show Tups H2 ((_++[]).map fmV) zs;rw [zy];exact hTz⟩ ?_ ?_
  ·rintro i U H3 hi ⟨o8,zs3,rfl,S3,gd3,hT3,gfl3,hTz3⟩
   have hi':i<qs.length:=by lia
   obtain ⟨sq,hsq⟩: ∃ sq,qs[i]? =some sq:=⟨qs[i],y4 hi'⟩
   obtain ⟨a,b,c,eq,ha,hb,hc⟩:=hT3 sq (hqs sq (y3 hsq))
   have eat:atI (qs.map λq=>V.str (Srt.name q)) (0+ (i:Int))=some (V.str sq.name):=by
    rw [BI]
    exact aE (by rw [zo,hsq];rfl)
   refine ⟨_,rfl,.inl ⟨rfl,_,SqL.of gfl3⟩,?_⟩
   refine ⟨_,rfl,_,rfl,_,rfl,pa,_,_,_,rfl,rfl,SqT.of (S3 _ _ hpa),eat,td,.ref a,rfl,(by rw [<- eq];exact DGet.k (k:=.inr sq.name) gd3),a,_,1,.ref c,rfl,rfl,SqT.of ha,aE (j:=1) rfl,c,rfl,⟨_,SqT.of hc⟩,?_⟩
   have ld:sq.ups.length<=3:=(hok.2.2.2.2 sq (hqs sq (y3 hsq))).2.2.2.1
   refine eU (by rw [yP];lia) hc (λv=>[.str "part",.int (0+ (i:Int)),v]) (λv H k _ hk=>⟨_,rfl,_,rfl,(by show 3<=sizeLine;decide),λp hp=>hk p hp⟩) λpl ws H4 hpl s4 gpl hTw=>?_
   have ew:(sq.ups.map V.str).map (λv=>[V.str "part",V.int (0+ (i:Int)),v])=(sq.ups.map λx=>Fm.part (0+ (i:Int)) x).map fmV:=by rw [zO,zO];rfl
   rw [ew]at hTw
   have gfl4:=s4 _ _ gfl3
   have lz:=hTz3.len
   have lw:=hTw.len
   have lt:=fg 0 (qs.take i) λs hs=>hok.2.2.2.2 s (hqs s (Ax hs))
   rw [yP,yZ,yP]at lz
   rw [yP,yP]at lw
   rw [zB]at lt
   refine ⟨fl,pl,zs3,ws,rfl,rfl,gfl4,gpl,zR (ay (by lia)),?_⟩
   have tk:TK H4 (upd H4 fl (.lst (zs3++ws))):=TK.lst gfl4
   have tk3:TK H3 (upd H4 fl (.lst (zs3++ws))):=(aL s4).trans tk
   refine ⟨_,zs3++ws,rfl,?_,?_,hT3.mono tk3,ad,?_⟩
   ·intro y oo h
    rw [ak (aj h hfl0)]
    exact s4 _ _ (S3 _ _ h)
   ·rw [ak (zT dfl)]
    exact s4 _ _ gd3
   ·rw [zz,hsq]
    show Tups _ ((_++cq 0 (qs.take i++[sq])).map fmV) _
    rw [kU,<- zm,zE]
    have e9:(0:Int) + ((qs.take i).length:Int)=0+ (i:Int):=by rw [zB];lia
    rw [e9]
    exact (hTz3.mono tk3).append (hTw.mono tk)
  ·rintro U H3 ⟨o8,zs3,rfl,S3,gd3,hT3,gfl3,hTz3⟩
   have e9:qs.take (((qs.map λq=>V.str (Srt.name q)).length:Int)).toNat=qs:=by rw [hlp];exact zW (by lia)
   rw [e9]at hTz3
   have lt12:=ic hok.2.2.2.2 ho hqs hql
   have l12:zs3.length<=12:=by
    have lt:=fg 0 qs λs hs=>hok.2.2.2.2 s (hqs s hs)
    have lz:=hTz3.len
    rw [yP,yZ,yP]at lz
    lia
   refine ⟨_,rfl,_,rfl,_,rfl,sa,pa,ss,o,qs,rfl,⟨xs,S3 _ _ hsa,hR.mono (aL S3)⟩,hok,ho,S3 _ _ hpa,hqs,hql,λtl zt H4 htl s4 gtl hTt=>?_⟩
   have S4:Same H H4:=S3.trans s4
   have gfl4:=s4 _ _ gfl3
   have hTz4:=hTz3.mono (aL s4)
   have nft:fl≠tl:=aj gfl3 htl
   refine ⟨_,rfl,rfl,_,rfl,?_⟩
   refine bO (λc=>?A) (λc=>?B)
   case' A=>
    have cm:mode=2:=V.int.inj (zf c)
    have lzt:zt.length=(dO o qs).length:=by rw [<- hTt.len,yP]
    refine ⟨_,rfl,_,rfl,j,rfl,tl,zt,rfl,SqL.of gtl,λtl2 htl2=>?_⟩
    rw [eA zt hj0 (by lia)]
    have hsel:Tups H4 ((dG o qs mode j).map tgV) (zt.take j.toNat):=by
     unfold dG
     rw [yW cm,Dm]
     exact ef hTt _
    have s5:=ai htl2 (.lst (zt.take j.toNat))
    have gt:(upd H4 tl2 (.lst (zt.take j.toNat))) tl2=some (.lst (zt.take j.toNat)):=ad
    have nft2:fl≠tl2:=aj gfl4 htl2
    have gfl5:=s5 _ _ gfl4
    have hTz5:=hTz4.mono (aL s5)
    have hsel5:=hsel.mono (aL s5)
    have S5:Same H (upd H4 tl2 (.lst (zt.take j.toNat))):=S4.trans s5
    generalize upd H4 tl2 (.lst (zt.take j.toNat))=H5 at gt gfl5 hTz5 hsel5 S5 ⊢
    generalize zt.take j.toNat=zu at gt hsel5
    generalize tl2=tx at gt nft2 ⊢
   case' B=>
    have cm: ¬ mode=2:=λe=>c (zq (by rw [e]))
    have hsel5:Tups H4 ((dG o qs mode j).map tgV) zt:=by
     unfold dG
     rw [yU cm]
     exact hTt
    have gt:=gtl
    have nft2:=nft
    have gfl5:=gfl4
    have hTz5:=hTz4
    have S5:=S4
    generalize H4=H5 at gt gfl5 hTz5 hsel5 S5 ⊢
    generalize zt=zu at gt hsel5
    generalize tl=tx at gt nft2 ⊢
   all_goals
    have ltg:(dG o qs mode j).length<=12:=zc (jg o qs mode j) lt12
    have lzu:zu.length=(dG o qs mode j).length:=by rw [<- hsel5.len,yP]
    have hrd:rds o qs mode j=(o.downs.map Fm.own++cq 0 qs)++(if mode>0 then (dG o qs mode j).map tgF else []):=rfl
    generalize dG o qs mode j=tg at ltg lzu hrd hsel5
    have e0:(if mode>0 then (tg.take 0).map tgF else [])=[]:=by split <;> rfl
    refine ⟨_,rfl,tx,rfl,⟨zu,SqL.of gt⟩,?_⟩
    refine bL (xs:=zu) (λi U H'=>i<=zu.length/\ ∃ o9 zs o13,U=[some (.ref sa),some (.str o.name),some (.ref pa),some (.int mode),some (.int j),some (.ref td),o4,o5,o6,o9,some (.ref fl),o8,some (.ref tx),o13]/\Same H H'/\H' tx=some (.lst zu)/\Tups H' (tg.map tgV) zu/\H' fl=some (.lst zs)/\zs.length<=12+i/\
      Tups H' (((o.downs.map Fm.own++cq 0 qs)++(if mode>0 then (tg.take i).map tgF else [])).map fmV) zs)
     ⟨y9 _,none,zs3,none,rfl,S5,gt,hsel5,gfl5,l12,by rw [e0,zy];exact hTz5⟩ (λi U H' _ h=>by obtain ⟨_,_,_,_,_,_,gg,_⟩:=h;exact SqL.of gg) ?_ ?_
    ·rintro i x U H6 hx ⟨hi,o9,zs6,o13,rfl,S6,gt6,hsel6,gfl6,l6,hT6⟩
     have hlt:i<zu.length:=(yX.mp hx).1
     obtain ⟨ys,hys,a,rfl,ha⟩:=aD hsel6 hx
     obtain ⟨t,ht,rfl⟩: ∃ t,tg[i]? =some t/\tgV t=ys:=by
      rw [zo]at hys
      cases he:tg[i]? with
      | none=>rw [he]at hys;cases hys
      | some t=>rw [he]at hys;exact ⟨t,rfl,zj hys⟩
     refine ⟨a,_,rfl,SqT.of ha,rfl,_,_,rfl,_,_,rfl,rfl,?_⟩
     refine ⟨_,rfl,_,_,rfl,rfl,_,rfl,?_⟩
     refine bO (λcm=>?_) (λcm=>?_)
     ·have cm':mode>0:=zf cm
      refine ⟨_,rfl,.inl ⟨rfl,_,SqL.of gfl6⟩,?_⟩
      refine ⟨_,rfl,_,rfl,(by show 3<=sizeLine;decide),λp1 hp1=>?_⟩
      have s1:=ai hp1 (.tup [.str "part",.int t.1,.str t.2])
      have g1:(upd H6 p1 (.tup [.str "part",.int t.1,.str t.2])) p1=some (.tup [.str "part",.int t.1,.str t.2]):=ad
      generalize upd H6 p1 (.tup [.str "part",.int t.1,.str t.2])=H7 at s1 g1 ⊢
      refine ⟨_,rfl,(by show 2<=sizeLine;decide),λp2 hp2=>?_⟩
      have s2:=ai hp2 (.tup [.str "own",.str t.2])
      have g2:(upd H7 p2 (.tup [.str "own",.str t.2])) p2=some (.tup [.str "own",.str t.2]):=ad
      generalize upd H7 p2 (.tup [.str "own",.str t.2])=H8 at s2 g2 ⊢
      refine ⟨(by show 2<=sizeLine;decide),λp3 hp3=>?_⟩
      have s3:=ai hp3 (.lst [.ref p1,.ref p2])
      have g3:(upd H8 p3 (.lst [.ref p1,.ref p2])) p3=some (.lst [.ref p1,.ref p2]):=ad
      generalize upd H8 p3 (.lst [.ref p1,.ref p2])=H9 at s3 g3 ⊢
      have S69:Same H6 H9:=s1.trans (s2.trans s3)
      refine ⟨_,rfl,_,_,rfl,rfl,.inr ⟨_,rfl,p3,_,_,_,rfl,rfl,SqL.of g3,ww _,?_⟩⟩
      have gfl9:=S69 _ _ gfl6
      refine ⟨fl,zs6,_,rfl,rfl,gfl9,ay (by lia),?_⟩
      have hz:sW H9 (fmV (tgF t)) (if decide (t.1<0)=true then .ref p2 else .ref p1):=by
       by_cases cn:t.1<0
       ·rw [yW (zq cn)]
        unfold tgF
        rw [yW cn]
        exact ⟨p2,rfl,s3 _ _ g2⟩
       ·rw [yU (λe=>cn (zf e))]
        unfold tgF
        rw [yU cn]
        exact ⟨p1,rfl,s3 _ _ (s2 _ _ g1)⟩
      generalize (if decide (t.1<0)=true then V.ref p2 else .ref p1)=zv at hz ⊢
      have tk:TK H9 (upd H9 fl (.lst (zs6++[zv]))):=TK.lst gfl9
      have tk6:TK H6 (upd H9 fl (.lst (zs6++[zv]))):=(aL S69).trans tk
      refine ⟨hlt,_,zs6++[zv],_,rfl,?_,?_,hsel6.mono tk6,ad,by rw [yZ];show zs6.length+1<=_;lia,?_⟩
      ·intro y oo h
       rw [ak (aj h hfl0)]
       exact S69 _ _ (S6 _ _ h)
      ·rw [ak (zT nft2)]
       exact S69 _ _ gt6
      ·rw [yW cm']at hT6 ⊢
       rw [zz,ht]
       show Tups _ ((_++(tg.take i++[t]).map tgF).map fmV) _
       rw [zE (f:=tgF),<- zm,zE (f:=fmV)]
       obtain ⟨az,ez,gz⟩:=hz
       exact A3 (hT6.mono tk6) ⟨az,ez,tk _ _ gz⟩
     ·have cm': ¬ mode>0:=λe=>cm (zq e)
      refine ⟨hlt,_,zs6,_,rfl,S6,gt6,hsel6,gfl6,by lia,?_⟩
      rw [yU cm']at hT6 ⊢
      exact hT6
    ·rintro U H6 ⟨_,o9,zs6,o13,rfl,S6,gt6,hsel6,gfl6,l6,hT6⟩
     rw [zW (by lia),<- hrd]at hT6
     exact ⟨_,rfl,q fl zs6 H6 hfl0 S6 gfl6 hT6⟩
structure Rul where
 pl:Int
 word:Str
 fm:Fm
structure Frm where
 name:Str
 own:Srt
 parts:List Srt
 rules:List Rul
inductive RepR (H:Hp) (r:Rul) (v:V):Prop
 | mk: ∀ a u,(v=.ref a)->(H a=some (.tup [.int r.pl,.str r.word,u]))->(Rep H r.fm u)->RepR H r v
theorem RepR.mono {H H':Hp} (t:TK H H') {r:Rul} {v:V}:RepR H r v->RepR H' r v:=λ⟨a,u,e,h,p⟩=>⟨a,u,e,t _ _ h,p.mono t⟩
def RepRs (H:Hp) (rs:List Rul) (vs:List V):Prop:=Paired (RepR H) rs vs
theorem RepRs.mono {H H':Hp} (t:TK H H') {rs:List Rul} {vs:List V} (h:RepRs H rs vs):RepRs H' rs vs:=Paired.mapP h λ_ _ r=>r.mono t
theorem RepRs.len {H:Hp} {rs:List Rul} {vs:List V} (h:RepRs H rs vs):rs.length=vs.length:=ze h
noncomputable def bN (qs:List Srt):List V:=qs.map λq=>V.str (Srt.name q)
inductive RepF (H:Hp) (fr:Frm) (v:V):Prop
 | mk: ∀ a pa ra rv,(v=.ref a)->(H a=some (.tup [.str fr.name,.str fr.own.name,.ref pa,.ref ra]))->(H pa=some (.tup (bN fr.parts)))->(H ra=some (.tup rv))->(RepRs H fr.rules rv)->RepF H fr v
theorem RepF.mono {H H':Hp} (t:TK H H') {fr:Frm} {v:V}:RepF H fr v->RepF H' fr v:=λ⟨a,pa,ra,rv,e,h1,h2,h3,h4⟩=>⟨a,pa,ra,rv,e,t _ _ h1,t _ _ h2,t _ _ h3,h4.mono t⟩
def oJ (o:Srt) (qs:List Srt) (mode:Int) (rules:List Rul):Prop:=rules.map (λr=>(r.pl,r.word))=dO o qs/\ ∀ (j:Nat) r,rules[j]? =some r->r.fm.wfp (λf=>f∈rds o qs mode j)/\r.fm.size<=15
noncomputable def ku:Fm->Prop
 | .own x=>cj x=true
 | .part k x=>(0<=k/\k<=2)/\cj x=true
 | _=>False
theorem l7 {k:Int}: ∀ {qs:List Srt} {t:Int×Str},t∈cB k qs->k<=t.1/\t.1<k+qs.length/\ ∃ q∈qs,t.2∈q.downs:=by
 intro qs
 induction qs generalizing k with
 | nil=>intro t h;cases h
 | cons q r ih=>
  intro t h
  unfold cB at h
  rw [y8]at h
  rcases h with h | h
  ·obtain ⟨x,hx,rfl⟩:=zd.mp h
   exact ⟨AU _,by rw [zn];show k<_;lia,q,yT,hx⟩
  ·obtain ⟨h1,h2,q',h3,h4⟩:=ih h
   exact ⟨by lia,by rw [zn];lia,q',yY _ h3,h4⟩
theorem mB {k:Int}: ∀ {qs:List Srt} {f:Fm},f∈cq k qs-> ∃ j x,f=.part j x/\k<=j/\j<k+qs.length/\ ∃ q∈qs,x∈q.ups:=by
 intro qs
 induction qs generalizing k with
 | nil=>intro t h;cases h
 | cons q r ih=>
  intro t h
  unfold cq at h
  rw [y8]at h
  rcases h with h | h
  ·obtain ⟨x,hx,rfl⟩:=zd.mp h
   exact ⟨k,x,rfl,AU _,by rw [zn];lia,q,yT,hx⟩
  ·obtain ⟨j,x,e,h1,h2,q',h3,h4⟩:=ih h
   exact ⟨j,x,e,by lia,by rw [zn];lia,q',yY _ h3,h4⟩
theorem qA {ss:List Srt} {o:Srt} {qs:List Srt} (hok: ∀ s∈ss,s.ok) (ho:o∈ss) (hq: ∀ q∈qs,q∈ss) (hl:qs.length<=3) {t:Int×Str} (ht:t∈dO o qs):ku (tgF t):=by
 unfold dO at ht
 rw [y8]at ht
 unfold tgF
 rcases ht with h | h
 ·obtain ⟨x,hx,rfl⟩:=zd.mp h
  rw [yW (show ((-1:Int),x).1<0 from (by decide:(-1:Int) <0))]
  exact (hok o ho).2.1 x (yS _ hx)
 ·obtain ⟨h1,h2,q,h3,h4⟩:=l7 h
  rw [yU (by lia)]
  exact ⟨⟨h1,by lia⟩,(hok q (hq q h3)).2.1 _ (zx _ h4)⟩
theorem qU {ss:List Srt} {o:Srt} {qs:List Srt} {mode j:Int} (hok: ∀ s∈ss,s.ok) (ho:o∈ss) (hq: ∀ q∈qs,q∈ss) (hl:qs.length<=3) {f:Fm} (hf:f∈rds o qs mode j):ku f:=by
 unfold rds at hf
 rw [y8,y8]at hf
 rcases hf with (h | h) | h
 ·obtain ⟨x,hx,rfl⟩:=zd.mp h
  exact (hok o ho).2.1 x (zx _ hx)
 ·obtain ⟨k,x,rfl,h1,h2,q,h3,h4⟩:=mB h
  exact ⟨⟨h1,by lia⟩,(hok q (hq q h3)).2.1 _ (yS _ h4)⟩
 ·by_cases c:mode>0
  ·rw [yW c]at h
   obtain ⟨t,ht,rfl⟩:=zd.mp h
   refine qA hok ho hq hl ?_
   unfold dG at ht
   by_cases c2:mode=2
   ·rw [yW c2]at ht;exact Ax ht
   ·rw [yU c2]at ht;exact ht
  ·rw [yU c]at h;cases h
theorem mI {α β:Type} {F:α->β->Prop}: ∀ {l:List α} {r:List β} {b:β},Paired F l r->b∈r-> ∃ a∈l,F a b:=λ{l r b} h m=>by
 obtain ⟨i,hi⟩:=CY m
 obtain ⟨a,ha,f⟩:=aD h hi
 exact ⟨a,y3 ha,f⟩
theorem rY {H:Hp} {f:Fm} {v:V} (hl:ku f) (h:sW H (fmV f) v):Rep H f v/\f.size=1:=by
 obtain ⟨a,rfl,ha⟩:=h
 cases f with
 | own x=>exact ⟨⟨a,rfl,ha⟩,rfl⟩
 | part k x=>exact ⟨⟨a,rfl,ha⟩,rfl⟩
 | num n=>exact hl.elim
 | bin op x y=>exact hl.elim
 | whn x y z=>exact hl.elim
theorem rX {ρ:Fm->Prop} {f:Fm} (hl:ku f) (h:ρ f):f.wfp ρ:=by
 cases f with
 | own x=>exact ⟨hl,h⟩
 | part k x=>exact ⟨hl,h⟩
 | num n=>exact hl.elim
 | bin op x y=>exact hl.elim
 | whn x y z=>exact hl.elim
theorem tX {H:Hp} {ss:List Srt} {o:Srt} {qs:List Srt} {mode j:Int} {zs:List V} (hok: ∀ s∈ss,s.ok) (ho:o∈ss) (hq: ∀ q∈qs,q∈ss) (hl:qs.length<=3) (h:Tups H ((rds o qs mode j).map fmV) zs):LvsP (λf=>f∈rds o qs mode j) H zs:=λv hv=>by
 obtain ⟨ys,hy,hz⟩:=mI h hv
 obtain ⟨f,hf,rfl⟩:=zd.mp hy
 have lf:=qU hok ho hq hl hf
 obtain ⟨r,s⟩:=rY lf hz
 exact ⟨f,r,rX lf hf,s⟩
theorem tY {ss:List Srt} {o:Srt} {qs:List Srt} {mode j:Int} (hok: ∀ s∈ss,s.ok) (ho:o∈ss) (hq: ∀ q∈qs,q∈ss) (hl:qs.length<=3):(rds o qs mode j).length<=24:=by
 have h1:=fg 0 qs λs hs=>hok s (hq s hs)
 have h2:=(hok o ho).2.2.1
 have h3:=ic hok ho hq hl
 have h4:=jg o qs mode j
 unfold rds
 rw [yZ,yZ,yP]
 by_cases c:mode>0
 ·rw [yW c,yP];lia
 ·rw [yU c];show _+0<=24;lia
inductive eG  (vs:List V) (H:Hp) (Q:VK) (E_:XK):Prop
 | mk: ∀ tp sa pa ss nm o qs mode,(vs=[.ref tp,.ref sa,.str nm,.str (Srt.name o),.ref pa,.int mode])->(Tp H tp)->(SrtsAt H sa ss)->(cz ss)->(o∈ss)->(H pa=some (.tup (bN qs)))->((∀ q∈qs,q∈ss))->(qs.length<=3)->(∀ v rules H',RepF H' ⟨nm,o,qs,rules⟩ v->oJ o qs mode rules->Kp tp H H'->Tp H' tp->Q v H')->eG vs H Q E_
theorem scLForm:aI ["tape","sorts","name","own","parts","mode","rules","targets","j","readings"] ["tape","sorts","name","own","parts","mode"] (am my):=fsc
theorem rJ (F:Fun K "_law_form" "_law_form" my f fd) (G:Gb mg) (GT:Cl P w K mg base CX0 1 g gd ["sorts","own","parts"] eE "_law_targets")
  (GR:Cl P w K mg base CX0 2 f2 fd2 ["sorts","own","parts","mode","j"] dS "_law_readings")
  (GF: ∀ ρ,FnOk P w K mg base CX0 4 f3 fd3 ["tape","readings"] (dy ρ)) (bF:Binds K fd3 ["tape","readings"] []) (kF:W.keepIn K (.ref f3)=true) (mF:mg "_law_formula"=some (.ref f3)):
  FnOk P w K mg base CX0 5 f fd ["tape","sorts","name","own","parts","mode"] eG:=by
 have GF':FnOk P w K mg base CX0 4 f3 fd3 ["tape","readings"] (λvs H Q E=> ∃ ρ,dy ρ vs H Q E):=⟨λvs H Q E ⟨ρ,h⟩=>(GF ρ).len vs H Q E h,λA outer s H args us vs Q E hr he hb hv ⟨ρ,h⟩=>(GF ρ).run A outer s H args us vs Q E hr he hb hv h⟩
 refine F.ok scLForm (λvs H Q E h=>?_) (λcdv A outer s H vs Q E hr h=>?_)
 ·obtain ⟨tp,sa,pa,ss,nm,o,qs,mode,rfl,_⟩:=h
  rfl
 obtain ⟨tp,sa,pa,ss,nm,o,qs,mode,rfl,hT,hsa,hok,ho,hpa,hqs,hql,q⟩:=h
 refine ⟨_,ah (ao (i:=6) scLForm.nd rfl (Or.inl rfl) (aX ae))
  (ah (ao (i:=7) scLForm.nd rfl (Or.inl rfl) (pcl GT (hr.mono (show 1<=4 by decide)) (aa (pv 1) (aa (pv 3) (aa (pv 4) ae)))))
  (ah (aU zw rfl (bt rfl G.range (aa (ax (r:=cr K) av rfl G.len zC (aa (pv 7) ae)) ae)) (aw (i:=8) scLForm.nd rfl (Or.inl rfl))
   (ah (ao (i:=9) scLForm.nd rfl (Or.inl rfl) (pcl GR (hr.mono (show 2<=4 by decide)) (aa (pv 1) (aa (pv 3) (aa (pv 4) (aa (pv 5) (aa (pv 8) ae)))))))
   (al (bT (dJ zF Ag Ah bu (pv 6) (aa
    (aN (aa (au (r:=aS K) aA (au (r:=cf K) aR (pv 7) (pv 8) (λ_ _=>rfl)) af (λ_ _=>rfl)) (aa (au (r:=aS K) aA (au (r:=cf K) aR (pv 7) (pv 8) (λ_ _=>rfl)) af (λ_ _=>rfl))
     (aa (j9 GF' hr rfl mF kF bF .nil rC (aa (pv 0) (aa (pv 9) ae))) ae)))) ae))))))
  (al (aH (aN (aa (pv 2) (aa (pv 3) (aa (pv 4) (aa (bd (r:=dA K) bC rfl G.tuple (by decide +kernel) (aa (pv 6) ae)) ae))))))))),?_⟩
 refine ⟨(by show 0<=sizeLine;decide),λrl hrl=>?_⟩
 have s0:=ai hrl (.lst [])
 have g0:(upd H rl (.lst [])) rl=some (.lst []):=ad
 have nrt:=dN hT hrl
 have t0:=hT.new (o:=.lst []) hrl
 generalize upd H rl (.lst [])=H0 at s0 g0 t0 ⊢
 refine ⟨_,rfl,_,rfl,_,rfl,sa,pa,ss,o,qs,rfl,hsa.mono (aL s0),hok,ho,s0 _ _ hpa,hqs,hql,λtl zt H1 htl s1 gtl hTt=>?_⟩
 have S1:Same H H1:=s0.trans s1
 have grl1:=s1 _ _ g0
 have tt1:=t0.same s1
 have ntt:tl≠tp:=dN t0 htl
 have nrl:rl≠tl:=aj g0 htl
 have lt12:=ic hok.2.2.2.2 ho hqs hql
 have lzt:zt.length=(dO o qs).length:=by rw [<- hTt.len,yP]
 refine ⟨_,rfl,tl,zt,rfl,.inl (SqL.of gtl),_,rfl,by lia,by lia,?_⟩
 refine bV (λi U H'=> ∃ o8 o9 rv rules,U=[some (.ref tp),some (.ref sa),some (.str nm),some (.str o.name),some (.ref pa),some (.int mode),some (.ref rl),some (.ref tl),o8,o9]/\Kp tp H H'/\Tp H' tp/\H' tl=some (.lst zt)/\Tups H' ((dO o qs).map tgV) zt/\
   H' rl=some (.lst rv)/\RepRs H' rules rv/\rules.map (λr=>(r.pl,r.word))=(dO o qs).take i/\ ∀ (j:Nat) r,rules[j]? =some r->r.fm.wfp (λf=>f∈rds o qs mode j)/\r.fm.size<=15)
  ⟨none,none,[],[],rfl,Kp.refl.same S1,tt1,gtl,hTt,grl1,.nil,rfl,λj r h=>by cases h⟩ ?_ ?_
 ·rintro i U H2 hi ⟨o8,o9,rv,rules,rfl,k2,tt2,gtl2,hTt2,grl2,hRr,hmap,hfm⟩
  have hi':i< (dO o qs).length:=by lia
  have tk2:=k2.tk hT
  have lrules:rules.length=i:=by
   have:=congrArg List.length hmap
   rw [yP,zB]at this
   lia
  have lrv:rv.length=i:=by rw [<- hRr.len];exact lrules
  refine ⟨_,rfl,_,rfl,_,rfl,_,rfl,_,rfl,sa,pa,ss,o,qs,mode,0+ (i:Int),rfl,hsa.mono tk2,hok,ho,tk2 _ _ hpa,hqs,hql,by lia,by lia,λrdl zr H3 hrdl s3 grdl hTr=>?_⟩
  have tt3:=tt2.same s3
  have grl3:=s3 _ _ grl2
  have gtl3:=s3 _ _ gtl2
  have hTt3:=hTt2.mono (aL s3)
  have nrdt:rdl≠tp:=dN tt2 hrdl
  obtain ⟨t,ht⟩: ∃ t,(dO o qs)[i]? =some t:=⟨(dO o qs)[i],y4 hi'⟩
  obtain ⟨x,hx⟩: ∃ x,zt[i]? =some x:=⟨zt[i]'(by lia),y4 (by lia)⟩
  obtain ⟨ys,hys,a,rfl,ha⟩:=aD hTt3 hx
  have eys:ys=tgV t:=by
   rw [zo,ht]at hys
   exact (zj hys).symm
  subst eys
  have eat:atI zt (0+ (i:Int))=some (.ref a):=by
   rw [BI]
   exact aE hx
  refine ⟨_,rfl,.inl ⟨rfl,_,SqL.of grl3⟩,?_⟩
  refine ⟨_,rfl,_,rfl,tl,_,_,_,rfl,rfl,SqL.of gtl3,eat,a,_,0,.int t.1,rfl,rfl,SqT.of ha,db,?_⟩
  refine ⟨_,rfl,_,rfl,tl,_,_,_,rfl,rfl,SqL.of gtl3,eat,a,_,1,.str t.2,rfl,rfl,SqT.of ha,aE (j:=1) rfl,?_⟩
  have lzr:zr.length<=24:=by
   rw [<- hTr.len,yP]
   exact tY hok.2.2.2.2 ho hqs hql
  refine ⟨_,rfl,_,rfl,λfm=>fm∈rds o qs mode (0+ (i:Int)),tp,rdl,zr,rfl,tt3,nrdt,grdl,by lia,tX hok.2.2.2.2 ho hqs hql hTr,λv fm H4 rp wf sz k4 tt4=>?_⟩
  have k24:Kp tp H2 H4:=(Kp.refl.same s3).trans k4
  have grl4:=k24 _ _ grl2 nrt
  have gtl4:=k24 _ _ gtl2 ntt
  refine ⟨(by show 3<=sizeLine;decide),λp5 hp5=>?_⟩
  have s5:=ai hp5 (.tup [.int t.1,.str t.2,v])
  have g5:(upd H4 p5 (.tup [.int t.1,.str t.2,v])) p5=some (.tup [.int t.1,.str t.2,v]):=ad
  have tt5:=tt4.same s5
  generalize upd H4 p5 (.tup [.int t.1,.str t.2,v])=H5 at s5 g5 tt5 ⊢
  have k25:Kp tp H2 H5:=k24.same s5
  have grl5:=s5 _ _ grl4
  refine ⟨rl,rv,.ref p5,rfl,rfl,grl5,ay (by lia),?_⟩
  have tk:TK H5 (upd H5 rl (.lst (rv++[.ref p5]))):=TK.lst grl5
  have tk26:TK H2 (upd H5 rl (.lst (rv++[.ref p5]))):=(k25.tk tt2).trans tk
  refine ⟨_,_,rv++[.ref p5],rules++[⟨t.1,t.2,fm⟩],rfl,?_,?_,?_,hTt2.mono tk26,ad,?_,?_,?_⟩
  ·intro b oo hb hbn
   rw [ak (aj hb hrl)]
   exact k25 _ _ (k2 _ _ hb hbn) hbn
  ·obtain ⟨t9,e9⟩:=tt5
   exact ⟨t9,by rw [ak (zT nrt)];exact e9⟩
  ·rw [ak (zT nrl)]
   exact s5 _ _ gtl4
  ·exact A3 (hRr.mono tk26) ⟨p5,v,rfl,tk _ _ g5,rp.mono ((aL s5).trans tk)⟩
  ·rw [zE,hmap,zz,ht]
   rfl
  ·intro j r hj
   by_cases c:j<i
   ·rw [Al (by lia)]at hj
    exact hfm j r hj
   ·rw [Aa (by lia),lrules]at hj
    have hji:j=i:=by
     by_cases c2:j=i
     ·exact c2
     ·have:j-i≠0:=by lia
      rw [AW (by show 1<=j-i;lia)]at hj
      cases hj
    subst hji
    rw [BY]at hj
    have:r=⟨t.1,t.2,fm⟩:=(zj hj).symm
    subst this
    rw [BI]at wf
    exact ⟨wf,sz⟩
 ·rintro U H2 ⟨o8,o9,rv,rules,rfl,k2,tt2,gtl2,hTt2,grl2,hRr,hmap,hfm⟩
  have tk2:=k2.tk hT
  rw [zW (by lia)]at hmap
  refine ⟨_,rfl,_,rfl,_,rfl,_,rfl,rl,rv,rfl,.inl ⟨SqL.of grl2,λp3 hp3=>?_⟩⟩
  have s3:=ai hp3 (.tup rv)
  have g3:(upd H2 p3 (.tup rv)) p3=some (.tup rv):=ad
  generalize upd H2 p3 (.tup rv)=H3 at s3 g3 ⊢
  refine ⟨(by show 4<=sizeLine;decide),λp4 hp4=>?_⟩
  have s4:=ai hp4 (.tup [.str nm,.str o.name,.ref pa,.ref p3])
  refine q (.ref p4) rules _ ⟨p4,pa,p3,rv,rfl,ad,s4 _ _ (s3 _ _ (tk2 _ _ hpa)),s4 _ _ g3,hRr.mono (aL (s3.trans s4))⟩ ⟨hmap,hfm⟩ (k2.same (s3.trans s4)) (tt2.same (s3.trans s4))
structure Bk where
 wheel:Int
 sorts:List Srt
 forms:List Frm
def RepFs (H:Hp) (fs:List Frm) (vs:List V):Prop:=Paired (RepF H) fs vs
theorem RepFs.mono {H H':Hp} (t:TK H H') {fs:List Frm} {vs:List V} (h:RepFs H fs vs):RepFs H' fs vs:=Paired.mapP h λ_ _ r=>r.mono t
theorem RepFs.len {H:Hp} {fs:List Frm} {vs:List V} (h:RepFs H fs vs):fs.length=vs.length:=ze h
inductive RepB (H:Hp) (b:Bk) (v:V):Prop
 | mk: ∀ a sa fa fv,(v=.ref a)->(H a=some (.tup [.int b.wheel,.ref sa,.ref fa]))->(SrtsAt H sa b.sorts)->(H fa=some (.tup fv))->(RepFs H b.forms fv)->RepB H b v
theorem RepB.mono {H H':Hp} (t:TK H H') {b:Bk} {v:V}:RepB H b v->RepB H' b v:=λ⟨a,sa,fa,fv,e,h1,h2,h3,h4⟩=>⟨a,sa,fa,fv,e,t _ _ h1,h2.mono t,t _ _ h3,h4.mono t⟩
def vz (ss:List Srt) (mode:Int) (fr:Frm):Prop:=fr.own∈ss/\(∀ q∈fr.parts,q∈ss)/\fr.parts.length<=3/\oJ fr.own fr.parts mode fr.rules
structure BookOk (b:Bk):Prop where
 so:cz b.sorts
 wh:2<=b.wheel/\b.wheel<=10^30
 few:b.forms.length<=10
 more:b.sorts.length<=b.forms.length
 nd:(b.forms.map Frm.name).Nodup
 wd: ∀ fr∈b.forms,cj fr.name=true
 fo: ∃ mode:Int,(mode=0\/mode=1\/mode=2)/\ ∀ fr∈b.forms,vz b.sorts mode fr
 nil: ∃ fr,fr∈b.forms/\fr.parts=[]
theorem SqL.keep {K:W.Frag} {H H':Hp} {a:Addr} {xs:List V} (h:SqL K H a xs) (k: ∀ o,H a=some o->H' a=some o):SqL K H' a xs:=by
 rcases h with (h | ⟨o,h⟩) | h
 ·exact .inl (.inl (k _ h))
 ·exact .inl (.inr ⟨o,k _ h⟩)
 ·exact .inr h
theorem gX {H:Hp} {ss:List Srt} {xs:List V} (h:RepSs H ss xs) {d:Int} (h0:0<=d) (h1:d<xs.length): ∃ q a b c,ss[d.toNat]? =some q/\atI xs d=some (.ref a)/\H a=some (.tup [.str (Srt.name q),b,c]):=by
 obtain ⟨x,ex,ex2⟩:=kE h0 h1
 obtain ⟨q,hq,a,b,c,rfl,ha,_⟩:=aD h ex2
 exact ⟨q,a,.ref b,.ref c,hq,ex,ha⟩
inductive mn (K:W.Frag) (vs:List V) (H:Hp) (Q:VK) (E_:XK):Prop
 | mk: ∀ (sc:Addr) (ns:List Int) (st:Int) (few:Bool),(vs=[.ref sc,.int st,.bl few])->(SqL K H sc (ns.map V.int))->(ns.length<=63)->(0<=st)->(st<900)->(∀ v bk H',RepB H' bk v->BookOk bk->Same H H'->Q v H')->mn K vs H Q E_
noncomputable def uH (s:Stmt):List Stmt:=match s with
 | .For _ _ b _ _=>b
 | _=>[]
noncomputable def bkFor:List Stmt:=uH ((bW dH).getD 8 (.Pass ⟨0,0,0,0⟩))
inductive jN (H:Hp) (sc hd sa nl fl:Addr) (st wh mode gr mo:Int) (few:Bool) (ss:List Srt) (ws:List Str) (i:Nat) (U:St) (H':Hp):Prop
 | mk: ∀ o11 o12 o13 o14 o15 fv frs,(U=[some (.ref sc),some (.int st),some (.bl few),some (.ref hd),some (.int wh),some (.int mode),some (.int gr),some (.int mo),some (.ref sa),some (.ref nl),some (.ref fl),o11,o12,o13,o14,o15])->(Same H H')->(SrtsAt H' sa ss)->(H' nl=some (.lst (ws.map V.str)))->(H' fl=some (.lst fv))->(RepFs H' frs fv)->(frs.length=i)->(frs.map Frm.name=ws.take i)->((∀ fr∈frs,vz ss mode fr))->((∀ k,k<i->k<ss.length->(frs[k]?).map Frm.own=ss[k]?))->(∀ fr,frs[0]? =some fr->fr.parts=[])->jN H sc hd sa nl fl st wh mode gr mo few ss ws i U H'
theorem qI {α:Type} {l:List α} {x y:α} {j:Nat} (h:(l++[x])[j]? =some y):(j<l.length/\l[j]? =some y)\/(j=l.length/\y=x):=by
 by_cases c:j<l.length
 ·rw [Al c]at h
  exact .inl ⟨c,h⟩
 ·rw [Aa (by lia)]at h
  by_cases c2:j-l.length=0
  ·rw [c2]at h
   exact .inr ⟨by lia,(zj h).symm⟩
  ·rw [AW (by show 1<=j-l.length;lia)]at h
   cases h
abbrev gS:List Str:=["script","start","few","head","wheel","mode","grown","more","sorts","names","forms","k","tape","own","many","parts"]
theorem scBook:aI gS ["script","start","few"] (am dH):=fsc
theorem sS {cdv:Value} {A:Around} {outer:List Env} {s:Shared} {H H0:Hp} {E:XK} (G:Gb mg)
  (GD:Cl P w K mg base CX0 1 g gd ["tape","many"] cc "_law_digit")
  (GF:Cl P w K mg base CX0 5 f2 fd2 ["tape","sorts","name","own","parts","mode"] eG "_law_form")
  (hr:Room 5 (dq CX0 P w K mg base gS "_law_book" (am dH) f cdv A outer s H0 E).nox.A):
  ∃ t,PSs (dq CX0 P w K mg base gS "_law_book" (am dH) f cdv A outer s H0 E).nox (bkFor.drop 5) t/\
   ∀ (sc hd sa nl fl:Addr) (st wh mode gr mo:Int) (few:Bool) (ss:List Srt) (ws:List Str),cz ss->ws.length=10->H fl=none->nl≠fl-> ∀ (D:eW) (i:Nat) (U:St) (H2 H5:Hp) (tp:Addr) (o:Srt) (m:Int) (o15:Option V),jN H sc hd sa nl fl st wh mode gr mo few ss ws i U H2->i<10->H2 tp=none->Same H2 H5->Tp H5 tp->o∈ss->(i<ss.length->ss[i]? =some o)->0<=m->m<=3->(i=0->m=0)->
    (∀ U' H',jN H sc hd sa nl fl st wh mode gr mo few ss ws (i+1) U' H'->D.nx U' H')->
    t D [some (.ref sc),some (.int st),some (.bl few),some (.ref hd),some (.int wh),some (.int mode),some (.int gr),some (.int mo),some (.ref sa),some (.ref nl),some (.ref fl),some (.int (0+ (i:Int))),some (.ref tp),some (.str o.name),some (.int m),o15] H5:=by
 have hr1:=hr.mono (show 1<=5 by decide)
 refine ⟨_,ah (ao (i:=15) scBook.nd rfl (Or.inl rfl) (bd (r:=dA K) bC rfl G.tuple (by decide +kernel) (aa
   (cI (sc0:=am dH) (N0:=gS) (ys:=["sorts","tape"]) (fr:=[8,12]) rfl (bt rfl G.range (aa (pv 14) ae)) rfl rfl
    cok
    (λC s H ex=>au (r:=aS K) aA (au (r:=aS K) aA (pv 1) (pcl GD hr1 (aa (pv 2) (aa (ax (r:=cr K) av rfl G.len zC (aa (pv 1) ae)) ae))) (λ_ _=>rfl)) af (λ_ _=>rfl))) ae)))
  (al (bT (dJ zF Ag Ah bu (pv 10) (aa
   (pcl GF hr (aa (pv 12) (aa (pv 8) (aa (au (r:=cf K) aR (pv 9) (pv 11) (λ_ _=>rfl)) (aa (pv 13) (aa (pv 15) (aa (pv 5) ae))))))) ae)))),?_⟩
 rintro sc hd sa nl fl st wh mode gr mo few ss ws hok hws hfl0 hnf D i U H2 H5 tp o m o15 ⟨o11,o12,o13,o14,o15',fv,frs,rfl,sm,hsa,gnl,gfl,hF,hfl,hnm,hfok,hown,hnil⟩ hi htp s5 tt5 ho hoi hm0 hm3 hmi hD
 obtain ⟨xs,gsa,hR⟩:=hsa.mono (aL s5)
 have lxs:=hR.len
 refine ⟨_,rfl,m,rfl,by lia,by lia,?_⟩
 refine eS (n:=m.toNat) (R:=λi v=>v=.int (0+i)) (by lia) iK dl hU
  (λp n zs H'=>Kp tp H5 H'/\Tp H' tp/\H' p=some (.lst zs)/\p≠tp/\ ∃ qs,zs=bN qs/\qs.length=n/\ ∀ q∈qs,q∈ss) ?_ ?_ ?_ ?_
 ·intro p hp
  exact ⟨Kp.refl.new hp,tt5.new hp,ad,dN tt5 hp,[],rfl,rfl,λq h=>by cases h⟩
 ·rintro p n zs H' ⟨_,_,gp,_,qs,rfl,hl,_⟩
  exact ⟨gp,by unfold bN;rw [yP];exact hl⟩
 ·rintro p n zs H' v k hp hn rfl ⟨k6,tt6,gp,hpn,qs,rfl,hl,hqs⟩ hk
  have tk6:=k6.tk tt5
  have h1:=hok.1
  refine ⟨_,rfl,_,rfl,_,rfl,sa,_,rfl,.inr (SqT.of (tk6 _ _ gsa)),tp,_,rfl,tt6,by lia,by have:=hok.2.1;lia,λd t hd0 hd1=>?_⟩
  obtain ⟨q,a,b,c,hq,eat,ha⟩:=gX hR hd0 hd1
  have k7:Kp tp H5 (upd H' tp (.lst [.int t])):=k6.trans Kp.tape
  have tk7:=k7.tk tt5
  refine ⟨sa,xs,d,.ref a,rfl,rfl,SqT.of (tk7 _ _ gsa),eat,a,_,0,_,rfl,rfl,SqT.of (tk7 _ _ ha),db,?_⟩
  have gp7:(upd H' tp (.lst [.int t])) p=some (.lst (bN qs)):=by rw [ak hpn];exact gp
  refine hk _ _ gp7 ⟨?_,⟨t,?_⟩,ad,hpn,qs++[q],?_,?_,?_⟩
  ·intro b' o' hb hbn
   rw [ak (aj hb hp)]
   exact k7 _ _ hb hbn
  ·rw [ak (zT hpn),ad]
  ·unfold bN;rw [zE];rfl
  ·rw [yZ,hl];rfl
  ·intro x hx
   rw [y8,y0]at hx
   rcases hx with h | rfl
   ·exact hqs x h
   ·exact y3 hq
 ·rintro p zs H6 hp ⟨k6,tt6,gp,hpn,qs,rfl,hl,hqs⟩
  refine ⟨p,_,rfl,.inl ⟨SqL.of gp,λpa hpa=>?_⟩⟩
  have s7:=ai hpa (.tup (bN qs))
  have g7:(upd H6 pa (.tup (bN qs))) pa=some (.tup (bN qs)):=ad
  have tt7:=tt6.same s7
  generalize upd H6 pa (.tup (bN qs))=H7 at s7 g7 tt7 ⊢
  have k27:Kp tp H2 H7:=((Kp.refl.same s5).trans k6).same s7
  have S27:Same H2 H7:=λb oo h=>k27 b oo h (aj h htp)
  have gfl7:=S27 _ _ gfl
  obtain ⟨nm,enm⟩: ∃ nm,ws[i]? =some nm:=⟨ws[i]'(by lia),y4 (by lia)⟩
  have eat:atI (ws.map V.str) (0+ (i:Int))=some (V.str nm):=by
   rw [BI]
   exact aE (by rw [zo,enm];rfl)
  refine ⟨_,rfl,.inl ⟨rfl,_,SqL.of gfl7⟩,?_⟩
  refine ⟨_,rfl,_,rfl,_,rfl,_,rfl,nl,_,_,_,rfl,rfl,SqL.of (S27 _ _ gnl),eat,_,rfl,_,rfl,_,rfl,tp,sa,pa,ss,nm,o,qs,mode,rfl,tt7,hsa.mono (aL S27),hok,ho,g7,hqs,by lia,λv rules H8 rf rok k8 tt8=>?_⟩
  have S28:Same H2 H8:=λb oo h=>k8 b oo (S27 b oo h) (aj h htp)
  have gfl8:=S28 _ _ gfl
  have lfv:=hF.len
  refine ⟨fl,fv,v,rfl,rfl,gfl8,ay (by lia),?_⟩
  have tk:TK H8 (upd H8 fl (.lst (fv++[v]))):=TK.lst gfl8
  have tk2:TK H2 (upd H8 fl (.lst (fv++[v]))):=(aL S28).trans tk
  refine hD _ _ ⟨_,_,_,_,_,fv++[v],frs++[⟨nm,o,qs,rules⟩],rfl,?_,hsa.mono tk2,?_,ad,?_,?_,?_,?_,?_,?_⟩
  ·intro b oo h
   rw [ak (aj h hfl0)]
   exact S28 _ _ (sm _ _ h)
  ·rw [ak hnf]
   exact S28 _ _ gnl
  ·exact A3 (hF.mono tk2) (rf.mono tk)
  ·rw [yZ,hfl];rfl
  ·rw [zE,hnm,zz,enm];rfl
  ·intro fr hfr
   rw [y8,y0]at hfr
   rcases hfr with h | rfl
   ·exact hfok fr h
   ·exact ⟨ho,hqs,by show qs.length<=3;lia,rok⟩
  ·intro k hk hks
   by_cases c:k<i
   ·rw [Al (by lia)]
    exact hown k c hks
   ·have:k=i:=by lia
    subst this
    rw [Aa (by lia),hfl,BY]
    show some o=_
    rw [hoi hks]
  ·intro fr hfr
   rcases qI hfr with ⟨h,e⟩ | ⟨h,e⟩
   ·exact hnil fr e
   ·subst e
    have:qs.length=0:=by rw [hl,hmi (by lia)];rfl
    exact CZ this
theorem uv {d:Int} (h0:0<=d) (h1:d<5): ∃ m:Int,atI [V.int 2,.int 1,.int 3,.int 2,.int 0] d=some (.int m)/\0<=m/\m<=3:=by
 have h5:d=0\/d=1\/d=2\/d=3\/d=4:=by lia
 rcases h5 with h | h | h | h | h <;> subst h <;> exact ⟨_,rfl,by decide,by decide⟩
theorem uu {d:Int} (h0:0<=d) (h1:d<5): ∃ m:Int,atI [V.int 0,.int 0,.int 1,.int 2,.int 2] d=some (.int m)/\(m=0\/m=1\/m=2):=by
 have h5:d=0\/d=1\/d=2\/d=3\/d=4:=by lia
 rcases h5 with h | h | h | h | h <;> subst h <;> exact ⟨_,rfl,by decide⟩
theorem ut {d:Int} (h0:0<=d) (h1:d<3): ∃ m:Int,atI [V.int 3,.int 4,.int 7] d=some (.int m)/\3<=m/\m<=7:=by
 have h5:d=0\/d=1\/d=2:=by lia
 rcases h5 with h | h | h <;> subst h <;> exact ⟨_,rfl,by decide,by decide⟩
theorem qk {z d:Int} (hz0:0<=z) (hz1:z<1000) (h0:0<=d) (h1:d<6): ∃ m:Int,atI [V.int 2,.int 7,.int 10,.int 97,.int (10^ (30:Int).toNat),.int (2+z)] d=some (.int m)/\2<=m/\m<=10^30:=by
 have e:(10:Int) ^ (30:Int).toNat=10^30:=rfl
 have b:(2000:Int)<=10^30:=by decide +kernel
 have h5:d=0\/d=1\/d=2\/d=3\/d=4\/d=5:=by lia
 rcases h5 with h | h | h | h | h | h <;> subst h
 ·exact ⟨2,rfl,by lia,by lia⟩
 ·exact ⟨7,rfl,by lia,by lia⟩
 ·exact ⟨10,rfl,by lia,by lia⟩
 ·exact ⟨97,rfl,by lia,by lia⟩
 ·exact ⟨_,rfl,by rw [e];lia,by rw [e];lia⟩
 ·exact ⟨_,rfl,by lia,by lia⟩
theorem sT {cdv:Value} {A:Around} {outer:List Env} {s:Shared} {H H0:Hp} {E:XK} (G:Gb mg)
  (GD:Cl P w K mg base CX0 1 g gd ["tape","many"] cc "_law_digit")
  (GF:Cl P w K mg base CX0 5 f2 fd2 ["tape","sorts","name","own","parts","mode"] eG "_law_form")
  (hr:Room 5 (dq CX0 P w K mg base gS "_law_book" (am dH) f cdv A outer s H0 E).nox.A):
  ∃ t,PSs (dq CX0 P w K mg base gS "_law_book" (am dH) f cdv A outer s H0 E).nox (bkFor.drop 3) t/\
   ∀ (sc hd sa nl fl:Addr) (st wh mode gr mo:Int) (few:Bool) (ss:List Srt) (ws:List Str),cz ss->ws.length=10->H fl=none->nl≠fl-> ∀ (D:eW) (i:Nat) (U:St) (H2 H5:Hp) (tp:Addr) (o:Srt) (o14 o15:Option V),jN H sc hd sa nl fl st wh mode gr mo few ss ws i U H2->i<10->H2 tp=none->Same H2 H5->Tp H5 tp->o∈ss->(i<ss.length->ss[i]? =some o)->
    (∀ U' H',jN H sc hd sa nl fl st wh mode gr mo few ss ws (i+1) U' H'->D.nx U' H')->
    t D [some (.ref sc),some (.int st),some (.bl few),some (.ref hd),some (.int wh),some (.int mode),some (.int gr),some (.int mo),some (.ref sa),some (.ref nl),some (.ref fl),some (.int (0+ (i:Int))),some (.ref tp),some (.str o.name),o14,o15] H5:=by
 have hr1:=hr.mono (show 1<=5 by decide)
 obtain ⟨t2,ht2,hread2⟩:=sS (cdv:=cdv) (A:=A) (outer:=outer) (s:=s) (H:=H) (H0:=H0) (E:=E) (f:=f) G GD GF hr
 refine ⟨_,ah (ao (i:=14) scBook.nd rfl (Or.inl rfl) (au (r:=cf K) aR (aX (aa af (aa af (aa af (aa af (aa af ae)))))) (pcl GD hr1 (aa (pv 12) (aa af ae))) (λ_ _=>rfl)))
  (ah (a8 (PW.pt (eX (aF cU (pv 11) af (aG _)) (gA (PW.pt (j5 (aF cU (pv 6) af (aG _)) (gY (aF ju (pv 11) (ax (r:=cr K) av rfl G.len zC (aa (pv 8) ae)) (aG _))))))))
   (al (ao (i:=14) scBook.nd rfl (Or.inl rfl) af)) aM) ht2),?_⟩
 intro sc hd sa nl fl st wh mode gr mo few ss ws hok hws hfl0 hnf D i U H2 H5 tp o o14 o15 hB hi htp s5 tt5 ho hoi hD
 obtain ⟨xs,gsa,hR⟩:SrtsAt H5 sa ss:=by
  obtain ⟨_,_,_,_,_,_,_,_,_,h,_⟩:=hB
  exact h.mono (aL s5)
 refine ⟨(by show 5<=sizeLine;decide),λp hp=>?_⟩
 have npt:=dN tt5 hp
 refine ⟨_,rfl,tp,5,rfl,tt5.new hp,by decide,by decide,λd t hd0 hd1=>?_⟩
 obtain ⟨m,em,hm0,hm3⟩:=uv hd0 hd1
 refine ⟨p,_,d,.int m,rfl,rfl,SqL.of (by rw [ak npt];exact ad),em,?_⟩
 have k6:Kp tp H5 (upd (upd H5 p (.lst [.int 2,.int 1,.int 3,.int 2,.int 0])) tp (.lst [.int t])):=(Kp.refl.new hp).trans Kp.tape
 have tt6:Tp (upd (upd H5 p (.lst [.int 2,.int 1,.int 3,.int 2,.int 0])) tp (.lst [.int t])) tp:=⟨t,ad⟩
 generalize upd (upd H5 p (.lst [.int 2,.int 1,.int 3,.int 2,.int 0])) tp (.lst [.int t])=H6 at k6 tt6 ⊢
 have s6:Same H2 H6:=λb oo h=>k6 b oo (s5 b oo h) (aj h htp)
 have gsa6:=k6.tk tt5 _ _ gsa
 refine ⟨_,rfl,rfl,_,rfl,?_⟩
 refine bO (λc=>bB ?_) (λc=>?_)
 ·exact hread2 sc hd sa nl fl st wh mode gr mo few ss ws hok hws hfl0 hnf D i U H2 H6 tp o 0 o15 hB hi htp s6 tt6 ho hoi (by decide) (by decide) (λ_=>rfl) hD
 have hne:i=0->m=0:=λe=>by
  subst e
  exact absurd (zq rfl) c
 refine ⟨_,rfl,rfl,_,rfl,?_⟩
 refine bO (λc2=>?_) (λc2=>cE ?_)
 ·refine ⟨_,rfl,_,rfl,sa,xs,rfl,.inr (SqT.of gsa6),_,_,rfl,rfl,_,rfl,?_⟩
  refine bO (λc3=>?_) (λc3=>?_)
  ·exact hread2 sc hd sa nl fl st wh mode gr mo few ss ws hok hws hfl0 hnf D i U H2 H6 tp o 0 o15 hB hi htp s6 tt6 ho hoi (by decide) (by decide) (λ_=>rfl) hD
  ·exact hread2 sc hd sa nl fl st wh mode gr mo few ss ws hok hws hfl0 hnf D i U H2 H6 tp o m o15 hB hi htp s6 tt6 ho hoi hm0 hm3 hne hD
 ·exact hread2 sc hd sa nl fl st wh mode gr mo few ss ws hok hws hfl0 hnf D i U H2 H6 tp o m o15 hB hi htp s6 tt6 ho hoi hm0 hm3 hne hD
theorem uR {cdv:Value} {A:Around} {outer:List Env} {s:Shared} {H:Hp} {Q:VK} {E:XK} {sc:Addr} {ns:List Int} {st:Int} {few:Bool} (G:Gb mg)
  (GD:Cl P w K mg base CX0 1 g gd ["tape","many"] cc "_law_digit")
  (GF:Cl P w K mg base CX0 5 f2 fd2 ["tape","sorts","name","own","parts","mode"] eG "_law_form")
  (GT:Cl P w K mg base CX0 2 f3 fd3 ["script","k"] (ij K) "_law_tape")
  (hS:SqL K H sc (ns.map V.int)) (hns:ns.length<=63) (hst0:0<=st) (hst1:st<900) (q: ∀ v bk H',RepB H' bk v->BookOk bk->Same H H'->Q v H')
  (hr:Room 5 (dq CX0 P w K mg base gS "_law_book" (am dH) f cdv A outer s H E).nox.A):
  ∃ t,PSs (dq CX0 P w K mg base gS "_law_book" (am dH) f cdv A outer s H E).nox ((bW dH).drop 8) t/\
   ∀ (hd sa nl fl:Addr) (wh mode gr mo:Int) (ss:List Srt) (ws:List Str) (H5:Hp),cz ss->NamesAre 10 ws->2<=wh->wh<=10^30->(mode=0\/mode=1\/mode=2)->0<=mo->mo<=7->H fl=none->nl≠fl->H fl=none->
    Same H H5->SrtsAt H5 sa ss->H5 nl=some (.lst (ws.map V.str))->H5 fl=some (.lst [])->
    t {nx:=λ_ H'=>Q .non H',rt:=Q} [some (.ref sc),some (.int st),some (.bl few),some (.ref hd),some (.int wh),some (.int mode),some (.int gr),some (.int mo),some (.ref sa),some (.ref nl),some (.ref fl),none,none,none,none,none] H5:=by
 have hr1:=hr.mono (show 1<=5 by decide)
 have hr2:=hr.mono (show 2<=5 by decide)
 obtain ⟨t1,ht1,hread1⟩:=sT (cdv:=cdv) (A:=A) (outer:=outer) (s:=s) (H:=H) (H0:=H) (E:=E) (f:=f) G GD GF hr
 refine ⟨_,ah (aU zw rfl (bt rfl G.range (aa (ax (jH rfl) rfl G.min (by decide +kernel) (aa af (aa (aq aQ (ax (r:=cr K) av rfl G.len zC (aa (pv 8) ae)) (pv 7)) ae))) ae)) (aw (i:=11) scBook.nd rfl (Or.inl rfl))
   (ah (ao (i:=12) scBook.nd rfl (Or.inr rfl) (pcl GT hr2 (aa (pv 0) (aa (aq aQ (aq aQ (pv 1) af) (pv 11)) ae))))
   (ah (ao (i:=13) scBook.nd rfl (Or.inl rfl) (au (r:=aS K) aA (au (r:=aS K) aA (pv 8) (aq bQ (pv 11) (ax (r:=cr K) av rfl G.len zC (aa (pv 8) ae))) (λ_ _=>rfl)) af (λ_ _=>rfl)))
   (ah (a8 (aF xx (pv 11) (ax (r:=cr K) av rfl G.len zC (aa (pv 8) ae)) (aG _))
    (al (ao (i:=13) scBook.nd rfl (Or.inl rfl) (au (r:=aS K) aA (au (r:=aS K) aA (pv 8) (pcl GD hr1 (aa (pv 12) (aa (ax (r:=cr K) av rfl G.len zC (aa (pv 8) ae)) ae))) (λ_ _=>rfl)) af (λ_ _=>rfl)))) aM) ht1))))
  (al (aH (aN (aa (pv 4) (aa (pv 8) (aa (bd (r:=dA K) bC rfl G.tuple (by decide +kernel) (aa (pv 10) ae)) ae)))))),?_⟩
 intro hd sa nl fl wh mode gr mo ss ws H5 hok hN hw2 hw3 hmode hmo0 hmo7 hfl0 hnf _ S5 hsa gnl gfl
 obtain ⟨nLen,nNd,nWd⟩:=hN.ok (by decide)
 obtain ⟨xs,gsa,hR⟩:=hsa
 have lxs:=hR.len
 have l1:=hok.1
 have l4:=hok.2.1
 obtain ⟨n,en,hn1,hn2⟩: ∃ n:Int,(if (xs.length:Int) +mo<10 then (xs.length:Int) +mo else 10)=n/\(xs.length:Int)<=n/\n<=10:=⟨_,rfl,by split <;> lia,by split <;> lia⟩
 refine ⟨_,rfl,sa,xs,rfl,.inr (SqT.of gsa),_,rfl,_,_,rfl,rfl,_,_,rfl,?_⟩
 rw [en]
 refine ⟨n,rfl,by lia,by lia,?_⟩
 refine bV (λi U H'=>jN H sc hd sa nl fl st wh mode gr mo few ss ws i U H')
  ⟨none,none,none,none,none,[],[],rfl,S5,⟨xs,gsa,hR⟩,gnl,gfl,.nil,rfl,rfl,λ_ h=>(by cases h),λk h=>(by lia),λfr h=>(by cases h)⟩ ?_ ?_
 ·intro i U H6 hi hB
  have hB':=hB
  obtain ⟨o11,o12,o13,o14,o15,fv,frs,rfl,S6,hsa6,gnl6,gfl6,hF6,_⟩:=hB'
  obtain ⟨xs6,gsa6,hR6⟩:=hsa6
  have lx6:=hR6.len
  refine ⟨_,rfl,_,rfl,_,_,rfl,rfl,_,rfl,_,_,rfl,rfl,sc,ns,_,rfl,SqL.keep hS (λoo h=>S6 _ _ h),hns,by lia,by lia,λtp t0 htp=>?_⟩
  have s7:=ai htp (.lst [.int t0])
  have tt7:Tp (upd H6 tp (.lst [.int t0])) tp:=⟨t0,ad⟩
  generalize upd H6 tp (.lst [.int t0])=H7 at s7 tt7 ⊢
  have gsa7:=s7 _ _ gsa6
  have hR7:=hR6.mono (aL s7)
  have hm0:0<=(0+ (i:Int)) % (xs6.length:Int):=AH _ (by lia)
  have hm1:(0+ (i:Int)) % (xs6.length:Int) <xs6.length:=Am _ (by lia)
  obtain ⟨o,a,b,c,ho,eat,ha⟩:=gX hR7 hm0 hm1
  refine ⟨_,rfl,_,rfl,_,rfl,sa,xs6,rfl,.inr (SqT.of gsa7),_,_,rfl,rfl,(by show (0:Int) <xs6.length;lia),sa,xs6,_,.ref a,rfl,rfl,SqT.of gsa7,eat,a,_,0,_,rfl,rfl,SqT.of ha,db,?_⟩
  refine ⟨_,rfl,_,rfl,sa,xs6,rfl,.inr (SqT.of gsa7),_,_,rfl,rfl,_,rfl,?_⟩
  refine bO (λc=>?_) (λc=>?_)
  ·have c':(xs6.length:Int)<=0+ (i:Int):=zf c
   refine ⟨_,rfl,_,rfl,_,rfl,sa,xs6,rfl,.inr (SqT.of gsa7),tp,_,rfl,tt7,by lia,by lia,λd t1 hd0 hd1=>?_⟩
   have k8:Kp tp H7 (upd H7 tp (.lst [.int t1])):=Kp.tape
   have tt8:Tp (upd H7 tp (.lst [.int t1])) tp:=⟨t1,ad⟩
   generalize upd H7 tp (.lst [.int t1])=H8 at k8 tt8 ⊢
   have tk8:=k8.tk tt7
   obtain ⟨o2,a2,b2,c2,ho2,eat2,ha2⟩:=gX hR7 hd0 hd1
   refine ⟨sa,xs6,d,.ref a2,rfl,rfl,SqT.of (tk8 _ _ gsa7),eat2,a2,_,0,_,rfl,rfl,SqT.of (tk8 _ _ ha2),db,?_⟩
   exact hread1 sc hd sa nl fl st wh mode gr mo few ss ws hok nLen hfl0 hnf _ i _ H6 H8 tp o2 _ _ hB (by lia) htp (λy oo h=>k8 y oo (s7 y oo h) (aj h htp)) tt8 (y3 ho2) (λh=>by lia) (λU' H' h=>h)
  ·have c': ¬ (xs6.length:Int)<=0+ (i:Int):=λe=>c (zq e)
   have ei:((0+ (i:Int)) % (xs6.length:Int)).toNat=i:=by
    rw [Int.emod_eq_of_lt (by lia) (by lia)]
    lia
   rw [ei]at ho
   exact hread1 sc hd sa nl fl st wh mode gr mo few ss ws hok nLen hfl0 hnf _ i _ H6 H7 tp o _ _ hB (by lia) htp s7 tt7 (y3 ho) (λ_=>ho) (λU' H' h=>h)
 ·rintro U H6 ⟨o11,o12,o13,o14,o15,fv,frs,rfl,S6,hsa6,gnl6,gfl6,hF6,lfr,hnm,hfok,hown,hnil⟩
  refine ⟨_,rfl,_,rfl,_,rfl,fl,fv,rfl,.inl ⟨SqL.of gfl6,λfa hfa=>?_⟩⟩
  have s7:=ai hfa (.tup fv)
  have g7:(upd H6 fa (.tup fv)) fa=some (.tup fv):=ad
  generalize upd H6 fa (.tup fv)=H7 at s7 g7 ⊢
  refine ⟨(by show 3<=sizeLine;decide),λpb hpb=>?_⟩
  have s8:=ai hpb (.tup [.int wh,.ref sa,.ref fa])
  have tk68:=aL (s7.trans s8)
  refine q (.ref pb) ⟨wh,ss,frs⟩ _ ⟨pb,sa,fa,fv,rfl,ad,hsa6.mono tk68,s8 _ _ g7,hF6.mono tk68⟩ ?_ (S6.trans (s7.trans s8))
  refine ⟨hok,⟨hw2,hw3⟩,?_,?_,?_,?_,⟨mode,hmode,hfok⟩,?_⟩
  ·show frs.length<=10
   lia
  ·show ss.length<=frs.length
   lia
  ·show (frs.map Frm.name).Nodup
   rw [hnm]
   exact nNd.sublist (AO _ _)
  ·intro fr hfr
   refine nWd _ (Ax (i:=n.toNat) ?_)
   rw [<- hnm]
   exact Cb hfr
  ·have l0:0<frs.length:=by have:=hok.1;lia
   exact ⟨frs[0],B0 l0,hnil _ (y4 l0)⟩
theorem um (F:Fun K "_law_book" "_law_book" dH f fd) (G:Gb mg)
  (GD:Cl P w K mg base CX0 1 g gd ["tape","many"] cc "_law_digit")
  (GF:Cl P w K mg base CX0 5 f2 fd2 ["tape","sorts","name","own","parts","mode"] eG "_law_form")
  (GT:Cl P w K mg base CX0 2 f3 fd3 ["script","k"] (ij K) "_law_tape")
  (GS:Cl P w K mg base CX0 3 f4 fd4 ["tape","few"] jR "_law_sorts")
  (GN:Cl P w K mg base CX0 2 f5 fd5 ["tape","many"] fK "_law_names"):
  FnOk P w K mg base CX0 6 f fd ["script","start","few"] (mn K):=by
 refine F.ok scBook (λvs H Q E h=>?_) (λcdv A outer s H vs Q E hr h=>?_)
 ·obtain ⟨sc,ns,st,few,rfl,_⟩:=h
  rfl
 obtain ⟨sc,ns,st,few,rfl,hS,hns,hst0,hst1,q⟩:=h
 have hr1:=hr.mono (show 1<=5 by decide)
 have hr2:=hr.mono (show 2<=5 by decide)
 have hr3:=hr.mono (show 3<=5 by decide)
 obtain ⟨t,ht,hread⟩:=uR (cdv:=cdv) (A:=A) (outer:=outer) (s:=s) (H:=H) (Q:=Q) (E:=E) (f:=f) (few:=few) G GD GF GT hS hns hst0 hst1 q hr
 refine ⟨_,ah (ao (i:=3) scBook.nd rfl (Or.inl rfl) (pcl GT hr2 (pac (pv 0) (pac (pv 1) ae))))
  (ah (ao (i:=4) scBook.nd rfl (Or.inl rfl) (au (r:=cf K) aR (aX (pac af (pac af (pac af (pac af (pac (aq v4 af af) (pac (aq aQ af (pcl GD hr1 (pac (pv 3) (pac af ae)))) ae)))))))
   (pcl GD hr1 (pac (pv 3) (pac af ae))) (λ_ _=>rfl)))
  (ah (ao (i:=5) scBook.nd rfl (Or.inl rfl) (au (r:=cf K) aR (aX (pac af (pac af (pac af (pac af (pac af ae)))))) (pcl GD hr1 (pac (pv 3) (pac af ae))) (λ_ _=>rfl)))
  (ah (ao (i:=6) scBook.nd rfl (Or.inl rfl) (pcl GD hr1 (pac (pv 3) (pac af ae))))
  (ah (ao (i:=7) scBook.nd rfl (Or.inl rfl) (pcl GD hr1 (pac (pv 3) (pac (au (r:=cf K) aR (aX (pac af (pac af (pac af ae)))) (pcl GD hr1 (pac (pv 3) (pac af ae))) (λ_ _=>rfl)) ae))))
  (ah (ao (i:=8) scBook.nd rfl (Or.inr rfl) (pcl GS hr3 (pac (pv 3) (pac (pv 2) ae))))
  (ah (ao (i:=9) scBook.nd rfl (Or.inl rfl) (pcl GN hr2 (pac (pv 3) (pac af ae))))
  (ah (ao (i:=10) scBook.nd rfl (Or.inl rfl) (aX ae)) ht))))))),?_⟩
 refine ⟨_,rfl,_,rfl,sc,ns,st,rfl,hS,hns,hst0,by lia,λhd t0 hhd=>?_⟩
 have S1:=ai hhd (.lst [.int t0])
 have tt1:Tp (upd H hd (.lst [.int t0])) hd:=⟨t0,ad⟩
 generalize upd H hd (.lst [.int t0])=H1 at S1 tt1 ⊢
 refine ⟨10,30,rfl,rfl,⟨by decide,by decide,by decide +kernel⟩,?_⟩
 refine ⟨_,rfl,hd,1000,rfl,tt1,by decide,by decide,λz t1 hz0 hz1=>⟨2,z,rfl,rfl,?_⟩⟩
 have k2:Kp hd H1 (upd H1 hd (.lst [.int t1])):=Kp.tape
 have tt2:Tp (upd H1 hd (.lst [.int t1])) hd:=⟨t1,ad⟩
 generalize upd H1 hd (.lst [.int t1])=H2 at k2 tt2 ⊢
 refine ⟨(by show 6<=sizeLine;decide),λp hp=>?_⟩
 have np:=dN tt2 hp
 refine ⟨_,rfl,hd,6,rfl,tt2.new hp,by decide,by decide,λd t2 hd0 hd1=>?_⟩
 obtain ⟨wh,ewh,hw2,hw3⟩:=qk hz0 hz1 hd0 hd1
 refine ⟨p,_,d,.int wh,rfl,rfl,SqL.of (by rw [ak np];exact ad),ewh,?_⟩
 have k3:Kp hd H1 (upd (upd H2 p (.lst [.int 2,.int 7,.int 10,.int 97,.int (10^ (30:Int).toNat),.int (2+z)])) hd (.lst [.int t2])):=(k2.new hp).trans Kp.tape
 have tt3:Tp (upd (upd H2 p (.lst [.int 2,.int 7,.int 10,.int 97,.int (10^ (30:Int).toNat),.int (2+z)])) hd (.lst [.int t2])) hd:=⟨t2,ad⟩
 generalize upd (upd H2 p (.lst [.int 2,.int 7,.int 10,.int 97,.int (10^ (30:Int).toNat),.int (2+z)])) hd (.lst [.int t2])=H3 at k3 tt3 ⊢
 refine ⟨(by show 5<=sizeLine;decide),λp hp=>?_⟩
 have np:=dN tt3 hp
 refine ⟨_,rfl,hd,5,rfl,tt3.new hp,by decide,by decide,λd t2 hd0 hd1=>?_⟩
 obtain ⟨mode,emo,hmode⟩:=uu hd0 hd1
 refine ⟨p,_,d,.int mode,rfl,rfl,SqL.of (by rw [ak np];exact ad),emo,?_⟩
 have k4:Kp hd H1 (upd (upd H3 p (.lst [.int 0,.int 0,.int 1,.int 2,.int 2])) hd (.lst [.int t2])):=(k3.new hp).trans Kp.tape
 have tt4:Tp (upd (upd H3 p (.lst [.int 0,.int 0,.int 1,.int 2,.int 2])) hd (.lst [.int t2])) hd:=⟨t2,ad⟩
 generalize upd (upd H3 p (.lst [.int 0,.int 0,.int 1,.int 2,.int 2])) hd (.lst [.int t2])=H4 at k4 tt4 ⊢
 refine ⟨_,rfl,hd,2,rfl,tt4,by decide,by decide,λgr t3 _ _=>?_⟩
 have k5:Kp hd H1 (upd H4 hd (.lst [.int t3])):=k4.trans Kp.tape
 have tt5:Tp (upd H4 hd (.lst [.int t3])) hd:=⟨t3,ad⟩
 generalize upd H4 hd (.lst [.int t3])=H5 at k5 tt5 ⊢
 refine ⟨_,rfl,(by show 3<=sizeLine;decide),λp hp=>?_⟩
 have np:=dN tt5 hp
 refine ⟨_,rfl,hd,3,rfl,tt5.new hp,by decide,by decide,λd t4 hd0 hd1=>?_⟩
 obtain ⟨mm,emm,hmm3,hmm7⟩:=ut hd0 hd1
 refine ⟨p,_,d,.int mm,rfl,rfl,SqL.of (by rw [ak np];exact ad),emm,?_⟩
 have k6:Kp hd H1 (upd (upd H5 p (.lst [.int 3,.int 4,.int 7])) hd (.lst [.int t4])):=(k5.new hp).trans Kp.tape
 have tt6:Tp (upd (upd H5 p (.lst [.int 3,.int 4,.int 7])) hd (.lst [.int t4])) hd:=⟨t4,ad⟩
 generalize upd (upd H5 p (.lst [.int 3,.int 4,.int 7])) hd (.lst [.int t4])=H6 at k6 tt6 ⊢
 refine ⟨hd,mm,rfl,tt6,by lia,by lia,λmo t5 hmo0 hmo1=>?_⟩
 have k7:Kp hd H1 (upd H6 hd (.lst [.int t5])):=k6.trans Kp.tape
 have tt7:Tp (upd H6 hd (.lst [.int t5])) hd:=⟨t5,ad⟩
 generalize upd H6 hd (.lst [.int t5])=H7 at k7 tt7 ⊢
 refine ⟨_,rfl,_,rfl,hd,few,rfl,tt7,λsa ss xs H8 gsa hR hok k8 tt8=>?_⟩
 refine ⟨_,rfl,hd,10,rfl,tt8,by decide,by decide,λnl ws H9 gnl hnl hN hnh k9 tt9=>?_⟩
 refine ⟨(by show 0<=sizeLine;decide),λfl hfl=>?_⟩
 have k19:Kp hd H1 H9:=k7.trans (k8.trans k9)
 have S9:Same H H9:=λb oo h=>k19 b oo (S1 b oo h) (aj h hhd)
 have s10:=ai hfl (.lst [])
 exact hread hd sa nl fl wh mode gr mo ss ws _ hok hN hw2 hw3 hmode hmo0 (by lia) (S9.free hfl) (aj gnl hfl) (S9.free hfl) (S9.trans s10) (SrtsAt.mono (aL s10) (SrtsAt.mono (k9.tk tt8) ⟨xs,gsa,hR⟩)) (s10 _ _ gnl) ad
noncomputable def bX (nm:Str):List Frm->Option Frm
 | []=>none
 | f::r=>match bX nm r with
  | some x=>some x
  | none=>if f.name=nm then some f else none
theorem fu (nm:Str) (f:Frm): ∀ l:List Frm,bX nm (l++[f])=if f.name=nm then some f else bX nm l
 | []=>by show (if f.name=nm then some f else none)=_;rfl
 | g::r=>by
  show (match bX nm (r++[f])with | some x=>some x | none=>if g.name=nm then some g else none)=_
  rw [fu nm f r]
  by_cases c:f.name=nm
  ·rw [yW c,yW c]
  ·rw [yU c,yU c];rfl
theorem lx {nm:Str} {f:Frm}: ∀ {l:List Frm},(l.map Frm.name).Nodup->f∈l->f.name=nm->bX nm l=some f
 | [],_,h,_=>by cases h
 | g::r,nd,h,e=>by
  rw [zQ,Ad]at nd
  have none_of: ∀ {l:List Frm},nm∉l.map Frm.name->bX nm l=none:=by
   intro l
   induction l with
   | nil=>intro _;rfl
   | cons x t ih=>
    intro hn
    rw [zQ,za,not_or]at hn
    show (match bX nm t with | some x=>some x | none=>if x.name=nm then some x else none)=none
    rw [ih hn.2]
    exact yU (λz=>hn.1 z.symm)
  rcases za.mp h with rfl | h
  ·show (match bX nm r with | some x=>some x | none=>if f.name=nm then some f else none)=some f
   rw [none_of (by rw [<- e];exact nd.1)]
   exact yW e
  ·show (match bX nm r with | some x=>some x | none=>if g.name=nm then some g else none)=some f
   rw [lx nd.2 h e]
def xX (H:Hp) (o:Option Frm) (v:V):Prop:=match o with
 | none=>v=.non
 | some f=>RepF H f v
inductive fL  (vs:List V) (H:Hp) (Q:VK) (E_:XK):Prop
 | mk: ∀ bv bk nm,(vs=[bv,.str nm])->(RepB H bk bv)->(bk.forms.length<=1000)->(∀ v,xX H (bX nm bk.forms) v->Q v H)->fL vs H Q E_
theorem gO {α β:Type} {F:α->β->Prop}: ∀ {l:List α} {r:List β} {i:Nat} {a:α},Paired F l r->l[i]? =some a-> ∃ b,r[i]? =some b/\F a b
 | _,_,i,a,.nil,e=>by cases i <;> cases e
 | _,_,0,a,.cons h _,e=>⟨_,rfl,by cases e;exact h⟩
 | _,_,i+1,a,.cons _ t,e=>gO (i:=i) t e
theorem el {K:W.Frag} {a:Addr} {xs:List V} {H1:Hp} (ha:H1 a=some (.lst xs)): ∀ i H,Same H1 H->i<xs.length->(Itl K a).go i H:=λi H s h=>⟨xs,xs[i],SqL.of (s _ _ ha),y4 h⟩
theorem eh {K:W.Frag} {a:Addr} {xs:List V} {H1:Hp} (ha:H1 a=some (.lst xs)): ∀ H,Same H1 H->(Itl K a).stop xs.length H:=λH s=>⟨xs,SqL.of (s _ _ ha),yV _⟩
theorem gQ {K:W.Frag} {a:Addr} {xs:List V} {H1:Hp} (ha:H1 a=some (.lst xs)): ∀ i H v H',Same H1 H->(Itl K a).yld i H v H'->H'=H/\xs[i]? =some v:=λi H v H' s hv=>⟨hv.1,by obtain ⟨rfl,hv⟩:=hv;exact hv xs (SqL.of (s _ _ ha))⟩
theorem su {K:W.Frag} {a:Addr} {xs:List V} {H1:Hp} (ha:H1 a=some (.tup xs)): ∀ i H,Same H1 H->i<xs.length->(Itt K a).go i H:=λi H s h=>⟨xs,xs[i],SqT.of (s _ _ ha),y4 h⟩
theorem sk {K:W.Frag} {a:Addr} {xs:List V} {H1:Hp} (ha:H1 a=some (.tup xs)): ∀ H,Same H1 H->(Itt K a).stop xs.length H:=λH s=>⟨xs,SqT.of (s _ _ ha),yV _⟩
theorem vi {K:W.Frag} {a:Addr} {xs:List V} {H1:Hp} (ha:H1 a=some (.tup xs)): ∀ i H v H',Same H1 H->(Itt K a).yld i H v H'->H'=H/\xs[i]? =some v:=λi H v H' s hv=>⟨hv.1,by obtain ⟨rfl,hv⟩:=hv;exact hv xs (SqT.of (s _ _ ha))⟩
noncomputable def aW:List Nat->Nat
 | []=>0
 | n::r=>n+aW r
theorem fH: ∀ ms:List Nat,jQ (ms.map λm=>((m:Nat):Int))=(aW ms:Int)
 | []=>rfl
 | m::r=>by
  show (m:Int) +jQ (r.map λm=>((m:Nat):Int))=((m+aW r:Nat):Int)
  rw [fH r]
  lia
theorem cQ (ps:List Srt):(bN ps).length=ps.length:=yP _
theorem lO {α:Type} {J:It} {as:List α} {xs:List V} {A:α->V->Prop} {fr:List Nat} {tc:TT} {te:TE} {U:St} {H1:Hp} {Q:VK} (hn:xs.length<=1000) (hP:Paired A as xs)
  (hgo: ∀ i H,Same H1 H->i<xs.length->J.go i H) (hst: ∀ H,Same H1 H->J.stop xs.length H) (hy: ∀ i H v H',Same H1 H->J.yld i H v H'->H'=H/\xs[i]? =some v)
  (c:α->Bool) (R:Hp->α->V->Prop) (mono: ∀ {H H':Hp} {a:α} {v:V},TK H H'->R H a v->R H' a v)
  (htc: ∀ a v H (k:Bool->Hp->Prop),a∈as->A a v->Same H1 H->k (c a) H->tc (some v::bg fr U) H k)
  (hte: ∀ a v H (k:VK),a∈as->A a v->c a=true->Same H1 H->(∀ u H',Same H H'->R H' a u->k u H')->te (some v::bg fr U) H k)
  (hd: ∀ p zs H',H1 p=none->Same H1 H'->H' p=some (.lst zs)->Paired (R H') (as.filter c) zs->Q (.ref p) H'):nO fr tc te U J H1 Q:=by
 intro p hp
 refine ⟨λi m zs H=>i<=xs.length/\m=xs.length-i/\Same H1 H/\H p=some (.lst zs)/\zs.length<=i/\Paired (R H) ((as.take i).filter c) zs,⟨_,y9 _,rfl,ai hp _,ad,yV _,.nil⟩,?_⟩
 rintro i m zs H ⟨hi,hm,sm,gp,hz,hT⟩
 refine ⟨gp,?_⟩
 by_cases e:i=xs.length
 ·subst e
  rw [<- ze hP,zG]at hT
  exact .inl ⟨hst H sm,hd p zs H hp sm gp hT⟩
 ·have hlt:i<xs.length:=by lia
  refine .inr ⟨hgo i H sm hlt,ay (by lia),λv H' hv=>?_⟩
  obtain ⟨rfl,hv2⟩:=hy i H v H' sm hv
  obtain ⟨a,ha,hA⟩:=aD hP hv2
  have etk:(as.take (i+1)).filter c=(as.take i).filter c++(if c a then [a]else []):=Dv c as i a ha
  refine htc a v _ _ (y3 ha) hA sm ?_
  by_cases hc:c a=true
  ·rw [yW hc]at etk
   show if c a=true then _ else _
   rw [yW hc]
   refine hte a v _ _ (y3 ha) hA hc sm λu H2 s2 r=>?_
   have gp2:=s2 _ _ gp
   have tk:TK H2 (upd H2 p (.lst (zs++[u]))):=TK.lst gp2
   refine ⟨gp2,xs.length- (i+1),by lia,by lia,rfl,?_,ad,by rw [yZ];show zs.length+1<=i+1;lia,?_⟩
   ·intro b o hb
    rw [ak (aj hb hp)]
    exact s2 _ _ (sm _ _ hb)
   ·rw [etk]
    exact A3 (Paired.mapP hT λ_ _ r=>mono ((aL s2).trans tk) r) (mono tk r)
  ·rw [yU hc,zy]at etk
   show if c a=true then _ else _
   rw [yU hc]
   exact ⟨xs.length- (i+1),by lia,by lia,rfl,sm,gp,by lia,by rw [etk];exact hT⟩
theorem eN {α:Type} {h:α->V}: ∀ {l:List α} {r:List V},Paired (λ(a:α) (v:V)=>v=h a) l r->r=l.map h
 | _,_,.nil=>rfl
 | _,_,.cons a t=>by rw [a,eN t];rfl
inductive eI  (vs:List V) (H:Hp) (Q:VK) (E_:XK):Prop
 | mk: ∀ bv bk,(vs=[bv])->(RepB H bk bv)->(∀ fa fv,H fa=some (.tup fv)->RepFs H bk.forms fv->Q (.ref fa) H)->eI vs H Q E_
inductive dw  (vs:List V) (H:Hp) (Q:VK) (E_:XK):Prop
 | mk: ∀ v fr,(vs=[v])->(RepF H fr v)->(Q (.str fr.own.name) H)->dw vs H Q E_
inductive eF  (vs:List V) (H:Hp) (Q:VK) (E_:XK):Prop
 | mk: ∀ v fr,(vs=[v])->(RepF H fr v)->(∀ pa,H pa=some (.tup (bN fr.parts))->Q (.ref pa) H)->eF vs H Q E_
theorem oZ:aI ["book"] ["book"] (am iz):=fsc
theorem mT (F:Fun K "forms_of" "forms_of" iz f fd):FnOk P w K mg base CX0 1 f fd ["book"] eI:=by
 refine F.ok oZ (λvs H Q E h=>?_) (λcdv A outer s H vs Q E hr h=>?_)
 ·obtain ⟨bv,bk,rfl,_⟩:=h
  rfl
 obtain ⟨bv,bk,rfl,⟨a,sa,fa,fv,rfl,ha,_,hfa,hF⟩,q⟩:=h
 refine ⟨_,al (aH (au (r:=aS K) aA (pv 0) af (λ_ _=>rfl))),?_⟩
 exact ⟨_,rfl,a,_,2,_,rfl,rfl,SqT.of ha,aE (j:=2) rfl,q fa fv hfa hF⟩
theorem jX:aI ["form"] ["form"] (am dW):=fsc
theorem i8 (F:Fun K "sort_of_form" "sort_of_form" dW f fd):FnOk P w K mg base CX0 1 f fd ["form"] dw:=by
 refine F.ok jX (λvs H Q E h=>?_) (λcdv A outer s H vs Q E hr h=>?_)
 ·obtain ⟨v,fr,rfl,_⟩:=h
  rfl
 obtain ⟨v,fr,rfl,⟨a,pa,ra,rv,rfl,ha,_⟩,q⟩:=h
 refine ⟨_,al (aH (au (r:=aS K) aA (pv 0) af (λ_ _=>rfl))),?_⟩
 exact ⟨_,rfl,a,_,1,_,rfl,rfl,SqT.of ha,aE (j:=1) rfl,q⟩
theorem oY:aI ["form"] ["form"] (am iu):=fsc
theorem mP (F:Fun K "parts_of" "parts_of" iu f fd):FnOk P w K mg base CX0 1 f fd ["form"] eF:=by
 refine F.ok oY (λvs H Q E h=>?_) (λcdv A outer s H vs Q E hr h=>?_)
 ·obtain ⟨v,fr,rfl,_⟩:=h
  rfl
 obtain ⟨v,fr,rfl,⟨a,pa,ra,rv,rfl,ha,hpa,_⟩,q⟩:=h
 refine ⟨_,al (aH (au (r:=aS K) aA (pv 0) af (λ_ _=>rfl))),?_⟩
 exact ⟨_,rfl,a,_,2,_,rfl,rfl,SqT.of ha,aE (j:=2) rfl,q pa hpa⟩
end My
namespace L2
open PySem PySem.Spec PyProof.Rows
section
variable {X:Cx}
theorem rF:OpR X (binaryOp .Add) (λx y H Q=> ∃ a b xs ys,x=.ref a/\y=.ref b/\SqT X.K H a xs/\SqT X.K H b ys/\xs.length+ys.length<=sizeLine/\(xs=[]->Q (.ref b) H)/\(xs≠[]->ys=[]->Q (.ref a) H)/\
  (xs≠[]->ys≠[]-> ∀ p,H p=none->Q (.ref p) (upd H p (.tup (xs++ys))))):=by
 intro pins s U H x y v u Q I rx ry h
 obtain ⟨a,b,xs,ys,rfl,rfl,ha,hb,hz,q0,q1,q2⟩:=h
 by_cases hx:xs=[]
 ·subst hx
  cases rx
  cases ry
  obtain ⟨its,r1,p1,_⟩:=I.tuple ha
  obtain ⟨its2,r2,p2,_⟩:=I.tuple hb
  cases r1
  obtain ⟨⟨cls,dd,data,sl⟩,ho,hc,n,hd⟩:=id p1
  obtain ⟨⟨cls2,dd2,data2,sl2⟩,ho2,hc2,n2,hd2⟩:=id p2
  simp only at hc hd hc2 hd2
  subst hc hd hc2 hd2
  exact concat_meets ⟨_,ho,rfl⟩ ⟨_,ho2,rfl⟩ Dt seq_tuple_add Cy Co (Ce _ _)
   (tuple_addW0 a b #[] its2.toArray n n2 dd dd2 sl sl2 rfl) ⟨ho,ho2,⟨.ref b,H,I,rfl,q0 rfl⟩⟩
 ·exact ug pins s U H _ _ v u Q I rx ry ⟨a,b,xs,ys,rfl,rfl,ha,hb,hx,hz,q1 hx,q2 hx⟩
end
section
variable {base G h h':Heap}
theorem kl {env:Env} {r:List Env} {L:Addr} (hf:env.frame=some L):L∈frs (env::r):=by
 unfold frs;rw [Ab,hf];exact yT
theorem fW {env:Env} {r:List Env} {b:Addr} (hb:b∈frs r):b∈frs (env::r):=by
 unfold frs;rw [Ab]
 cases env.frame with
 | none=>exact hb
 | some L=>exact yY _ hb
theorem cK: ∀ {l:List Env},h.FunFrames base l->(∀ b∈frs l,G.get? b=none)->h.FunFrames G l
 | [],_,_=>trivial
 | _::_,⟨hk,⟨L,o,hf,_,ho,hd⟩,hr⟩,hg=>⟨hk,⟨L,o,hf,hg L (kl hf),ho,hd⟩,cK hr λb hb=>hg b (fW hb)⟩
end
inductive Rec (h:Heap) (x C T:Addr):Prop
 | mk (oe:Obj) (vs:Array Value) (oT:Obj) (ts:Array Value) (he:h.get? x=some oe) (hc:oe.cls=.ref C) (hd:oe.data=.fields vs) (h1:vs[1]? =some (.ref T)) (ne:T≠x)
   (hT:h.get? T=some oT) (hdT:oT.data=.fields ts) (h3:ts[3]? =some .none):Rec h x C T
structure LeftF (l:List Env) (x C:Addr) (hs:List Addr) (h h':Heap):Prop where
 keep: ∀ b o,b≠x->b∉hs->b∉frs l->h.get? b=some o->h'.get? b=some o
 slot: ∀ b o,b∈frs l->h.get? b=some o-> ∃ sl,h'.get? b=some {o with slots:=sl}
 rc: ∃ T,Rec h' x C T/\(T∈hs\/h.get? T=none)
section
variable {base h h':Heap} {l:List Env} {x C:Addr} {hs:List Addr}
theorem LeftF.of (hl:h.FunFrames base l) (hL:(PySem.W.hideAll h (x::(hs++frs l))).Left l x (.ref C) h h'):LeftF l x C hs h h':=by
 obtain ⟨a1,_,⟨oe,vs,T,oT,ts,he,hc,hd,h1,hn,hTe,hT,hdT,h3⟩,a4⟩:=hL
 have slot: ∀ b o,b∈frs l->h.get? b=some o-> ∃ sl,h'.get? b=some {o with slots:=sl}:=λb o hb e=>by
  obtain ⟨_,o',ho',hnf⟩:=hl.mem hb
  rw [e]at ho';cases ho'
  exact a4 b o e hnf
 refine ⟨λb o n1 n2 n3 e=>a1 b o (B8 _ e λz=>?_),slot,T,.mk oe vs oT ts he hc hd h1 hTe hT hdT h3,?_⟩
 ·rcases za.mp z with z | z
  ·exact n1 z
  ·rcases y8.mp z with z | z
   ·exact n2 z
   ·exact n3 z
 ·cases q:h.get? T with
  | none=>exact .inr rfl
  | some o=>
   refine .inl ?_
   by_cases z:T∈x::(hs++frs l)
   ·rcases za.mp z with z | z
    ·exact absurd z hTe
    ·rcases y8.mp z with z | z
     ·exact z
     ·obtain ⟨_,o',ho',hnf⟩:=hl.mem z
      obtain ⟨sl,e2⟩:=slot T o' z ho'
      rw [hT]at e2
      cases e2
      exact absurd hdT (hnf ts)
   ·rw [B8 _ q z]at hn;cases hn
end
section
variable {M:Model} {A:Around} {E:Value->Shared->Prop} {s:Shared} {base:Heap} {env:Env} {outer:List Env} {L x C T:Addr} {Q:Unit->Shared->Prop}
theorem lv {oe:Obj} {vs:Array Value} (hfr:A.frames=some (env::outer)) (hl:s.heap.FunFrames base (env::outer)) (hf:env.frame=some L) (he:s.heap.get? x=some oe) (hc:oe.cls=.ref C)
  (hd:oe.data=.fields vs) (h1:vs[1]? =some .none) (k: ∀ h',LeftF (env::outer) x C [] s.heap h'->Q () {s with heap:=h'}):wpAny M A (leaving env (.ref x)) Q E s:=
 wpAny_leaving_first (base:=PySem.W.hideAll s.heap (x::([]++frs (env::outer)))) hfr (cK hl λb hb=>AJ _ (yY _ hb)) hf he (λ_ _ e=>BE _ e)
  (AJ _ yT) hd h1 λh' z=>k h' (.of hl (hc▸z))
end
theorem ObjOk.there {P:Program} {w:World} {H:Hp} {h:Heap} {a:Addr} {o:HO} (x:ObjOk P w H h a o): ∃ ob,h.get? a=some ob:=by
 cases o with
 | lst xs=>obtain ⟨_,_,_,_,e⟩:=x;exact ⟨_,e⟩
 | tup xs=>obtain ⟨_,_,_,ob,e,_⟩:=x;exact ⟨_,e⟩
 | dK kvs=>obtain ⟨_,_,_,_,o,_,_,e,_⟩:=x;exact ⟨_,e⟩
 | set S n=>obtain ⟨o,_,_,_,e,_⟩:=x;exact ⟨_,e⟩
 | ins C dx fs=>obtain ⟨_,_,_,e,_⟩:=x;exact ⟨_,e⟩
 | own y=>exact x
 | xd fs=>obtain ⟨_,⟨_,_,_,e,_⟩,_⟩:=x;exact ⟨_,e⟩
 | rng lo hi=>obtain ⟨_,_,_,e⟩:=x;exact ⟨_,e⟩
 | frz ob u=>obtain ⟨e,_⟩:=x;exact ⟨_,e⟩
 | tbl ps=>exact ⟨_,show h.get? a=some _ from x⟩
 | met f y=>exact ⟨_,show h.get? a=some _ from x⟩
 | ext φ=>obtain ⟨_,e,_⟩:=x;exact e
 | _=>obtain ⟨_,_,_,_,o,_,_,e,_⟩:=x;exact ⟨_,e⟩
theorem HOk.none_of {P:Program} {w:World} {H:Hp} {h:Heap} {a:Addr} (x:HOk P w H h) (e:h.get? a=none):H a=none:=by
 cases q:H a with
 | none=>rfl
 | some u=>obtain ⟨ob,z⟩:=(x a u q).there;rw [e]at z;cases z
inductive CX1 (P:Program) (w:World) (C:Addr) (outer:List Env) (H:Hp) (s:Shared) (E:XK) (e:Value) (s':Shared):Prop
 | mk (x T:Addr) (H':Hp) (he:e=.ref x) (os:s'.os=s.os) (bare:AllBare s'.gens) (un:Un (frs outer) [] H H' s.heap s'.heap) (hok:HOk P w H' s'.heap)
   (rc:Rec s'.heap x C T) (nx:s.heap.get? x=none) (nT:s.heap.get? T=none) (fx:H' x=none) (fT:H' T=none) (q:E (.ref C) none H'):CX1 P w C outer H s E e s'
section
variable {P:Program} {w:World} {K:W.Frag} {mg:Str->Option Value} {base:Heap} {N:List Str} {qual:Str} {scope:Scope} {f:Addr} {cd:Value} {A:Around} {outer:List Env} {s:Shared} {H:Hp} {E:XK} {C:Addr}
theorem uI {CX:CXT} {pins:List (Addr×Obj)} {U:St} {H1:Hp} {s1:Shared} {x:Addr} {hs:List Addr} {h':Heap} (J:Inv (dq CX P w K mg base N qual scope f cd A outer s H E) pins U H1 s1)
  (fx:H1 x=none) (nx:s.heap.get? x=none) (hh: ∀ T∈hs,H1 T=none/\s.heap.get? T=none) (L:LeftF (envOfC qual scope s.heap.objs.size f cd::outer) x C hs s1.heap h') (q:E (.ref C) none H1):
  CX1 P w C outer H s E (.ref x) {s1 with heap:=h'}:=by
 obtain ⟨T,rc,hT⟩:=L.rc
 have B:Un (frs outer) [] H H1 s.heap s1.heap:=J.base
 have nx': ∀ b o,s.heap.get? b=some o->b≠x:=λb o e z=>by rw [z,nx]at e;cases e
 have nh': ∀ b o,s.heap.get? b=some o->b∉hs:=λb o e z=>by rw [(hh b z).2]at e;cases e
 have nfr: ∀ b o,s.heap.get? b=some o->b∉frs outer->b∉frs (envOfC qual scope s.heap.objs.size f cd::outer):=λb o e nb z=>by
  rcases za.mp (J.stkSub b z)with z | z
  ·have:b<s.heap.objs.size:=y2 e
   rw [show b=s.heap.objs.size from z]at this
   exact AG _ this
  ·exact nb z
 refine .mk x T H1 rfl J.os J.bare ⟨λb o e n hb hx=>?_,λb o e n hb hx=>?_,B.free,λb o e hx=>?_,B.tups,B.frzs,B.tbls⟩ (λa o e=>?_) rc nx ?_ fx ?_ q
 ·exact L.keep b o (nx' b o e) (nh' b o e) (nfr b o e hb) (B.keep b o e n hb hx)
 ·obtain ⟨sl,e1⟩:=B.slot b o e n hb hx
  obtain ⟨sl',e2⟩:=L.slot b _ (fW hb) e1
  exact ⟨sl',e2⟩
 ·obtain ⟨o1,e1⟩:=B.there b o e hx
  by_cases hb:b∈frs (envOfC qual scope s.heap.objs.size f cd::outer)
  ·obtain ⟨sl',e2⟩:=L.slot b _ hb e1
   exact ⟨_,e2⟩
  ·exact ⟨o1,L.keep b o1 (nx' b o e) (nh' b o e) hb e1⟩
 ·have tr: ∀ b u,H1 b=some u-> ∀ v,s1.heap.get? b=some v->h'.get? b=some v:=λb u e1 v e2=>
   L.keep b v (λz=>by rw [z,fx]at e1;cases e1) (λz=>by rw [(hh b z).1]at e1;cases e1) (λz=>by rw [J.stkFree b z]at e1;cases e1) e2
  refine (J.hok a o e).stay (λb u hb e2=>?_) (λ_ z=>z) λ_ _ z=>z
  rcases hb with z | z
  ·rw [z]at e2 ⊢;exact tr a o e u e2
  ·exact tr b _ z u e2
 ·rcases hT with z | z
  ·exact (hh T z).2
  ·cases r:s.heap.get? T with
   | none=>rfl
   | some o=>obtain ⟨o1,e1⟩:=B.there T o r (by simp);rw [z]at e1;cases e1
 ·rcases hT with z | z
  ·exact (hh T z).1
  ·exact J.hok.none_of z
theorem pZ {CX:CXT} {pins:List (Addr×Obj)} {U:St} {H1:Hp} {s1:Shared} {x:Addr} {vs:List Value} {h':Heap} (I:Inv (dq CX P w K mg base N qual scope f cd A outer s H E) pins U H1 s1)
  (m:s1.heap.MadeExcOf h' x (.ref C) vs) (q:E (.ref C) none H1) (hi: ∀ e s',CX1 P w C outer H s E e s'->CX outer H s E e s':=by exact λ_ _ z=>z):(dq CX P w K mg base N qual scope f cd A outer s H E).xe (.ref x) {s1 with heap:=h'}:=by
 have J:Inv (dq CX P w K mg base N qual scope f cd A outer s H E) pins U H1 {s1 with heap:=h'}:=I.kept (t':=s1.toks) m.keeps
 obtain ⟨t,e,_,_⟩:=m.there
 have nx:s.heap.get? x=none:=by
  cases r:s.heap.get? x with
  | none=>rfl
  | some o=>obtain ⟨o1,e1⟩:=I.base.there x o r (by intro z;cases z);rw [m.new]at e1;cases e1
 exact lv (base:=base) J.ok.frames J.stack rfl e rfl rfl rfl λh2 L=>hi _ _ (uI J (I.hok.none_of m.new) nx (λ_ z=>absurd z (by simp)) L q)
end
section
open PySem.W (excIn tailIn nsOkIn nsIn)
theorem uJ {K:W.Frag} {h:Heap} {C:Addr} {bmB:List Value} {newId:String} (X:K.In h) (q:excIn K C bmB newId=true): ∃ bm N nm qn bs hd sn sub ab col dd k0 k1 k2 k3 k5 mN,
  h.get? C=some (excClassObj nm qn C N bs bm hd sn sub ab col dd k0 k1 k2 k3 k5 newId)/\(h.Ns N mN/\mN "__init__"=none)/\OwnTail h bmB bm:=by
 unfold excIn at q
 split at q
 case h_2=>cases q
 case h_1 dd c sl ho=>
  split at q
  case h_2=>cases q
  case h_1 C' bm k0 k1 k2 k3 n k5 hm hs=>
   rw [zM,zM,zM,zM,zM]at q
   obtain ⟨⟨⟨⟨⟨q1,q2⟩,q3⟩,q4⟩,q5⟩,q6⟩:=q
   have e1:C'=C:=DA.mp q1
   have e2:n=newId:=DA.mp q2
   have e3:c.hasDel=false:=by rw [CD]at q3;exact q3
   have hob:=X _ _ ho
   have hsl:sl= #[k0,k1,k2,k3,some (.builtin n),k5]:=Array.toList_inj.mp hs
   have hcd:c={name:=c.name,bases:=c.bases,mro:=.ref C::bm,ns:=c.ns,qualname:=c.qualname,hasDict:=c.hasDict,slotNames:=c.slotNames,subclasses:=c.subclasses,abstract:=c.abstract,collection:=c.collection,hasDel:=false}:=by
    rw [<- e3,<- e1,<- hm]
   rw [hsl,hcd,e2]at hob
   exact ⟨bm,_,_,_,_,_,_,_,_,_,_,_,_,_,_,_,_,hob,⟨Heap.Ns.of_isNs (PySem.W.isNs_of_in X q5),PySem.W.nsMap_none_of_in X q5 (DA.mp q6)⟩,PySem.W.tail_of_in X q4⟩
variable {X:Cx} {C:Addr} {x:Str} {np cpos pos:Pos} {e:Expr} {es:List Expr} {t:TA} {E:XK} {bmB:List Value} {newId initId:String}
def vD (C:Addr) (E:XK) (t:TA):TS:=λ_ U H=>t U H λvs H1=>vs.length<=sizeLine/\E (.ref C) none H1
theorem pi {B:String} (hc:X.calm=true) (hg:Gl X x) (hm:X.mg x=some (.ref C)) (q:excIn X.K C bmB newId=true) (FB:ExcBaseFacts B newId initId bmB)
  (hx: ∀ (pins:List (Addr×Obj)) (U:St) (H:Hp) (s:Shared) (h':Heap) (y:Addr) (vs:List Value),Inv X pins U H s->s.heap.MadeExcOf h' y (.ref C) vs->E (.ref C) none H->X.xe (.ref y) {s with heap:=h'})
  (ha:PA X (e::es) t) (hdb:(x==("__debug__":Str))=false:=by decide) (he:starEach (e::es) X.env=(false,eval e X.env)::starEach es X.env:=by rfl) (hpl:(backTo cpos (starEach es X.env)).any (·.1)=false:=by rfl):
  PS X (.Raise (some (.Call (.Name x np) (e::es) [] cpos)) none pos) (vD C E t):=by
 intro pins s U H D I h
 obtain ⟨bm,N,nm,qn,bs,hd,sn,sub,ab,col,dd,k0,k1,k2,k3,k5,mN,hC,⟨hN,hni⟩,T⟩:=uJ I.ok.mod.kin q
 refine wpAny_Raise_call_subT (nm:=nm) (q:=qn) (N:=N) (bs:=bs) (bm:=bm) (hdct:=hd) (sn:=sn) (sub:=sub) (ab:=ab) (col:=col) (dd:=dd) (k0:=k0) (k1:=k1) (k2:=k2) (k3:=k3) (k5:=k5) FB (mN:=mN)
  (T.hasType FB.hasBase) (I.ok.hd hc) ?_ hni (fY I hg hm ⟨rfl,?_⟩ hdb)
 ·rw [he];exact hpl
 have hp:=ha cpos pins s U H _ I h
 rw [he]at hp ⊢
 refine BO (thn hp λus s1 ⟨vs,H1,I1,r,z,w⟩=>?_)
 exact ⟨rfl,by rw [<- r.length];exact z,I1.bk _ _ hC,hN.keeps I1.bk,T.keeps I1.bk,λh' y m=>hx pins U H1 s1 h' y us I1 m w⟩
end
theorem Fun.okG {CX:CXT} {P:Program} {w:World} {K:W.Frag} {mg:Str->Option Value} {base:Heap} {x qual:Str} {st:Stmt} {f:Addr} {fd:FuncData} {N ps:List Str} {k:Nat} {sp:Sp} (F:Fun K x qual st f fd) (S:aI N ps (am st))
  (len: ∀ vs H Q E,sp vs H Q E->vs.length=ps.length)
  (hbody: ∀ (cdv:Value) (A:Around) (outer:List Env) (s:Shared) (H:Hp) (vs:List V) (Q:VK) (E:XK),Room k (A.deeper (envOfC qual (am st) s.heap.objs.size f cdv))->sp vs H Q E->
   ∃ t,PSs (dq CX P w K mg base N qual (am st) f cdv A outer s H E) (bW st) t/\t {nx:=λ_ H'=>Q .non H',rt:=Q} (start N vs) H):FnOk P w K mg base CX (k+1) f fd ps sp:=by
 obtain ⟨oc,od,kV,doc,pm,an,cdv,ct,osl,rfl,lk,hcd⟩:=F.ex
 exact sE lk hcd S len λA outer s H vs Q E hr hsp=>hbody cdv A outer s H vs Q E hr hsp
open PySem.W (findIn specialIn takesIn mroIn clsIn Looks)
def ExAt (x C:Addr) (h:Heap):Prop:= ∃ oe vs,h.get? x=some oe/\oe.cls=.ref C/\oe.data=.fields vs
noncomputable def ExO (x C:Addr):HO:=.ext (ExAt x C)
theorem ExAt.type {M:Model} {h:Heap} {x C:Addr} (p:ExAt x C h):Looks M h (typeOf (.ref x)) (.ref C):=by
 obtain ⟨oe,_,e,c,_⟩:=p
 exact c▸(Looks.ld e).andThen .now
structure ExC (K:W.Frag) (C:Addr):Prop where
 ga:findIn K (.ref C) "__getattribute__"=some (some (.builtin "BaseException.__getattribute__"))
 gno:findIn K (.ref C) "__getattr__"=some none
 cls:findIn K (.ref C) "__class__"=some (some (.builtin "object.__class__"))
 get:specialIn K (.builtin "object.__class__") "__get__"=some (some (.builtin "getset_descriptor.__get__"))
 tk:takesIn K (.builtin "object.__class__")=some true
 ob:mroIn K C (.type "object")=some true
 ba:mroIn K C (.type "BaseException")=some true
 is:(clsIn K C).isSome=true
section
variable {prog:Program} {w:World} {A:Around} {E:Value->Shared->Prop} {K:W.Frag} {x C:Addr}
open PySem.Builtin PySem.Builtin.ObjectAttr PySem.Builtin.Getset_descriptor PySem.W
theorem uK {M:Model} {h:Heap} (X:K.In h) (Z:ExC K C):Looks M h (find (.ref x) (.ref C) "__class__") (.bind (.builtin "getset_descriptor.__get__") (.builtin "object.__class__")):=
 (looks_findIn X Z.cls).andThen ((show Looks M h (getOf (some (.builtin "object.__class__"))) (some (.builtin "getset_descriptor.__get__"))from looks_specialIn X Z.get).andThen
  ((show Looks M h (dataDescriptor? (some (.builtin "object.__class__")) (some (.builtin "getset_descriptor.__get__"))) (some (.builtin "getset_descriptor.__get__",.builtin "object.__class__"))from (looks_takesIn X Z.tk).andThen .now).andThen (Looks.tag .now)))
theorem kB {s:Shared} {tp:Value} {R:Result->Shared->Prop} (X:K.In s.heap) (Z:ExC K C) (p:ExAt x C s.heap) (h:R (.ok (.ret (.ref C))) s):
  codeAny (model prog w) A (.call (.builtin "getset_descriptor.__get__") ⟨[.builtin "object.__class__",.ref x,tp],[]⟩) R s:=by
 obtain ⟨hh,g,dr,t,os⟩:=s
 have L0:=p.type (M:=model prog w)
 have L1:=looks_mroIn (M:=model prog w) X Z.ob
 refine BR KF.slot_gs.plain KF.entry_gs (KF.slot_gs.check _ _ _ _ _ _ _ _ KF.type_class (KF.args_gs _ _ _) ?_)
 unfold Builtin.«getset_descriptor.__get__» descrGet
 rw [dga_obj]
 refine yO (yR ?_)
 unfold descrGetter descrCheckInstance descrNameAndClass isInstance
 simp only [KF.owner_class]
 repeat lk
 refine ⟨Cn _ (by decide +kernel),Bp KF.entry_class ?_⟩
 unfold Builtin.«object.__class__» shownTypeOf
 repeat lk
 exact h
theorem sF {s:Shared} {tk:Tok} {Q:Fin->Shared->Prop} (X:K.In s.heap) (Z:ExC K C) (p:ExAt x C s.heap) (h:Q (.done (.ret (.ref C))) s):
  wpAny (model prog w) A (Builtin.«object.__getattribute__» ⟨[.ref x,.str "__class__" tk],[]⟩) Q E s:=by
 obtain ⟨hh,g,dr,t,os⟩:=s
 have L0:=p.type (M:=model prog w)
 have L1:=uK (M:=model prog w) (x:=x) X Z
 unfold Builtin.«object.__getattribute__»
 refine yO (yR ?_)
 refine yO (yR ?_)
 refine yO (L0.at ?_)
 refine yO (L1.at ?_)
 show wpAny _ _ (bindTo _ _ _ _) _ _ _
 unfold bindTo
 refine yO (zP (Bt (kB X Z p (yR h))))
theorem xT {s:Shared} {tk:Tok} {R:Result->Shared->Prop} (X:K.In s.heap) (Z:ExC K C) (p:ExAt x C s.heap) (h:R (.ok (.ret (.ref C))) s):
  codeAny (model prog w) A (.call (.builtin "BaseException.__getattribute__") ⟨[.ref x,.str "__class__" tk],[]⟩) R s:=by
 refine BR PySem.F.attr_ValueError.ga.plain PySem.F.entry_bexc_ga ?_
 have L0:=p.type (M:=model prog w)
 have L2:Looks (model prog w) s.heap (isInstance (.ref x) (.type "BaseException")) true:=L0.andThen (looks_mroIn X Z.ba)
 have hk:builtinKind "BaseException.__getattribute__"=some .slot:=by decide +kernel
 have hsp:splitId "BaseException.__getattribute__"=some ("BaseException","__getattribute__"):=by decide +kernel
 have ha:=PySem.F.args_bexc_ga (.ref x) (.str "__class__" tk)
 simp only [checkBuiltinCall,hk,hsp]
 refine yO (L2.at ?_)
 rw [yU (by decide)]
 repeat (first | exact sF X Z p h | wp_step)
theorem nq {s:Shared} {Q:Option Value->Shared->Prop} (X:K.In s.heap) (Z:ExC K C) (p:ExAt x C s.heap) (h:Q (some (.ref C)) {s with toks:=s.toks+1}):wpAny (model prog w) A (getAttr? (.ref x) "__class__") Q E s:=by
 obtain ⟨hh,g,d,t,os⟩:=s
 have L0:=p.type (M:=model prog w)
 have L1:=looks_findIn (M:=model prog w) X Z.ga
 have L2:Looks (model prog w) hh (typeLookup (.ref C) "__getattr__") none:=looks_findIn X Z.gno
 unfold getAttr? getAttrBy? getAttrBy
 refine yO (wpAny_mkText (yO (Bv (zP (yO (L0.at (yO (L1.at ?_))))))))
 have hn0:(Value.builtin "BaseException.__getattribute__"==Value.builtin "object.__getattribute__")=false:=by decide +kernel
 have hne:(onTheHeap (Value.ref C)&&Value.builtin "BaseException.__getattribute__"==Value.builtin "object.__getattribute__")=false:=by rw [hn0];rfl
 simp only [hne]
 rw [yU (by decide)]
 unfold getAttrByItsOwn hookBefore callGetattribute boundAndCalled
 rw [yW (show onTheHeap (Value.ref C)=true from rfl)]
 refine yO (Looks.at (h:=hh) L2 (yO (Bv (zP ?_))))
 rw [yU (by decide),PySem.F.attr_ValueError.ga.bind (.ref x)]
 exact yO (yR (Bt (xT (s:=⟨hh,g,d,t+1,os⟩) X Z p (yR (yR h)))))
theorem iT {M:Model} {h:Heap} (X:K.In h) (e:(clsIn K C).isSome=true):Looks M h (isType (.ref C)) true:=by
 unfold clsIn at e
 split at e
 case h_1 c' d' cd' sl' ho=>
  intro A' Q' E' s' k q
  unfold isType loadHead
  exact yO (wpAny_loadPart (k _ _ (X _ _ ho)) (yR q))
 case h_2=>cases e
theorem lC (Z:ExC K C):KitX K (.ref x) (.ref C) (ExAt x C) where
 ty:=λ_ _ _ p=>p.type
 it:=λ_ _ X _=>iT X Z.is
 ne:=λh tp dd its n sl X htp=>by
  have e:=Z.is
  refine Bool.eq_false_iff.mpr λq=>?_
  have e2:C=tp:=Value.ref.inj (DA.mp q)
  subst e2
  unfold clsIn at e
  split at e
  case h_1 ho=>cases (X _ _ ho).symm.trans htp
  case h_2=>cases e
 ca:=λX p k=>nq X Z p k
theorem p9 {M:Model} {s:Shared} {CB:Addr} {Q:Bool->Shared->Prop} (X:K.In s.heap) (p:ExAt x C s.heap) (m1:mroIn K C (.ref CB)=some true) (m2:mroIn K CB (.type "BaseException")=some true)
  (ty:typeIn K (.ref CB)=some (.type "type")) (is:(clsIn K CB).isSome=true) (hq:Q true s):wpAny M A (excMatches (.ref x) (.ref CB)) Q E s:=by
 obtain ⟨h,g,d,t,os⟩:=s
 have L0:=p.type (M:=M)
 have L1:Looks M h (isInstance (.ref CB) (.type "tuple")) false:=(looks_typeIn X ty).andThen (Looks.of_pure tc_notTuple)
 have L2:Looks M h (isExcClass (.ref CB)) true:=(iT X is).andThen (looks_mroIn X m2)
 have L3:=looks_mroIn (M:=M) X m1
 unfold excMatches
 refine yO (L1.at ?_)
 simp only [zg,zX]
 refine yO (yR ?_)
 rw [Aj]
 refine yO (yO (yO (L2.at ?_)))
 simp only [AF,zg,zX]
 refine yR ?_
 show wpAny _ _ (forIn [] _ _) _ _ _
 rw [Bg]
 refine yR (yO (L0.at ?_))
 rw [Aj]
 refine yO (yO (yO (L3.at ?_)))
 simp only [AM]
 exact yR (yR (yR hq))
end
section
variable {X:Cx}
theorem lV:cG X (.builtin "isinstance") (λxs H Q=> ∃ x C y c b,xs=[.ref x,y]/\H x=some (ExO x C)/\ExC X.K C/\(∀ u,RelV y u->u=c)/\PySem.W.kitOne X.K (.ref C) c=some b/\Q (.bl b) H):=by
 intro pins s U H xs us Q I r h
 obtain ⟨x,C,y,c,b,rfl,hx,Z,rc,e,q⟩:=h
 obtain ⟨u,w',rfl,ru,rw'⟩:=je r
 cases (show u=Value.ref x from ru)
 cases rc w' rw'
 have p:ExAt x C s.heap:=(show ObjOk X.prog X.w H s.heap x (ExO x C)from I.hok x _ hx).1
 exact Ao (lC Z) I.kIn p e (λz=>nomatch z) λtk=>⟨.bl b,H,I.tok tk,rfl,q⟩
theorem qf:cG X (.builtin "isinstance") (λxs H Q=> ∃ (x C p:Addr) (Ds:List Addr) (b:Bool),xs=[.ref x,.ref p]/\H x=some (ExO x C)/\ExC X.K C/\H p=some (.tup (Ds.map V.ref))/\PySem.W.kitAny X.K (.ref C) (Ds.map Value.ref)=some b/\Q (.bl b) H):=by
 intro pins s U H xs us Q I r h
 obtain ⟨x,C,p,Ds,b,rfl,hx,Z,hp,e,q⟩:=h
 obtain ⟨u,w',rfl,ru,rw'⟩:=je r
 cases (show u=Value.ref x from ru)
 cases (show w'=Value.ref p from rw')
 have pe:ExAt x C s.heap:=(show ObjOk X.prog X.w H s.heap x (ExO x C)from I.hok x _ hx).1
 obtain ⟨_,its,rv,o,h1,h2,n,h3⟩:=(show ObjOk X.prog X.w H s.heap p (.tup (Ds.map V.ref))from I.hok p _ hp)
 have all: ∀ (l:List Addr) (us:List Value),Vals (l.map V.ref) us->us=l.map Value.ref:=by
  intro l
  induction l with
  | nil=>intro us r;cases r;rfl
  | cons a l ih=>intro us r;cases r with | cons r1 r2=>rw [show _=Value.ref a from r1,ih _ r2];rfl
 cases all Ds its rv
 obtain ⟨c,d,dt,sl⟩:=o
 simp only at h2 h3
 subst h2 h3
 exact PySem.W.kia_tup (lC Z) I.kIn pe h1 e (λz=>nomatch z) λtk=>⟨.bl b,H,I.tok tk,rfl,q⟩
end
open PySem.W (findIn specialIn takesIn mroIn clsIn typeIn Looks)
structure Fl (P:Program) (w:World) (C:Addr) (stack:List Env) (H:Hp) (h₀:Heap) (x T:Addr) (H':Hp) (h:Heap):Prop where
 un:Un (frs stack) [] H H' h₀ h
 hok:HOk P w H' h
 rc:Rec h x C T
 nx:h₀.get? x=none
 nT:h₀.get? T=none
 fx:H' x=none
 fT:H' T=none
section
variable {P:Program} {w:World} {C:Addr} {stack:List Env} {H H':Hp} {h₀ h h' base:Heap} {x T:Addr}
theorem Fl.left (F:Fl P w C stack H h₀ x T H' h) (fr: ∀ b∈frs stack,H' b=none) (L:LeftF stack x C [T] h h'): ∃ T',Fl P w C stack H h₀ x T' H' h':=by
 obtain ⟨T',rc,hT⟩:=L.rc
 have nx': ∀ b o,h₀.get? b=some o->b≠x:=λb o e z=>by rw [z,F.nx]at e;cases e
 have nT': ∀ b o,h₀.get? b=some o->b∉[T]:=λb o e z=>by rw [y0.mp z,F.nT]at e;cases e
 refine ⟨T',⟨λb o e n hb hx=>?_,λb o e n hb hx=>?_,F.un.free,λb o e hx=>?_,F.un.tups,F.un.frzs,F.un.tbls⟩,λa o e=>?_,rc,F.nx,?_,F.fx,?_⟩
 ·exact L.keep b o (nx' b o e) (nT' b o e) hb (F.un.keep b o e n hb hx)
 ·obtain ⟨sl,e1⟩:=F.un.slot b o e n hb hx
  obtain ⟨sl',e2⟩:=L.slot b _ hb e1
  exact ⟨sl',e2⟩
 ·obtain ⟨o1,e1⟩:=F.un.there b o e hx
  by_cases hb:b∈frs stack
  ·obtain ⟨sl',e2⟩:=L.slot b _ hb e1
   exact ⟨_,e2⟩
  ·exact ⟨o1,L.keep b o1 (nx' b o e) (nT' b o e) hb e1⟩
 ·have tr: ∀ b u,H' b=some u-> ∀ v,h.get? b=some v->h'.get? b=some v:=λb u e1 v e2=>
   L.keep b v (λz=>by rw [z,F.fx]at e1;cases e1) (λz=>by rw [y0.mp z,F.fT]at e1;cases e1) (λz=>by rw [fr b z]at e1;cases e1) e2
  refine (F.hok a o e).stay (λb u hb e2=>?_) (λ_ z=>z) λ_ _ z=>z
  rcases hb with z | z
  ·rw [z]at e2 ⊢;exact tr a o e u e2
  ·exact tr b _ z u e2
 ·rcases hT with z | z
  ·rw [y0.mp z];exact F.nT
  ·cases r:h₀.get? T' with
   | none=>rfl
   | some o=>obtain ⟨o1,e1⟩:=F.un.there T' o r (by simp);rw [z]at e1;cases e1
 ·rcases hT with z | z
  ·rw [y0.mp z];exact F.fT
  ·exact F.hok.none_of z
theorem Fl.track (F:Fl P w C stack H h₀ x T H' h):Un (frs stack) [] H (upd H' x (ExO x C)) h₀ h/\HOk P w (upd H' x (ExO x C)) h:=by
 have ne: ∀ b o,h₀.get? b=some o->b≠x:=λb o e z=>by rw [z,F.nx]at e;cases e
 have nt: ∀ b u,H' b=some u->b≠x:=λb u e z=>by rw [z,F.fx]at e;cases e
 refine ⟨⟨F.un.keep,F.un.slot,λb o e n hx=>?_,F.un.there,λb xs e=>?_,λb o u e=>?_,λb ps e=>?_⟩,λa o e=>?_⟩
 ·rw [ak (ne b o e)];exact F.un.free b o e n hx
 ·rw [ak (nt _ _ (F.un.tups b xs e))];exact F.un.tups b xs e
 ·rw [ak (nt _ _ (F.un.frzs b o u e))];exact F.un.frzs b o u e
 ·obtain ⟨m,e1⟩:=F.un.tbls b ps e
  exact ⟨m,by rw [ak (nt _ _ e1)];exact e1⟩
 ·by_cases z:a=x
  ·subst z
   rw [ad]at e
   cases e
   obtain ⟨oe,vs,oT,ts,he,hc,hd,_,_,_,_,_⟩:=F.rc
   exact ⟨⟨oe,vs,he,hc,hd⟩,⟨oe,he⟩,λh1 h2 ⟨o1,v1,a1,a2,a3⟩ k=>⟨o1,v1,k o1 a1,a2,a3⟩⟩
  ·rw [ak z]at e
   exact (F.hok a o e).stay (λb u _ q=>q) (λb q=>by rw [ak (nt _ _ q)];exact q) λb xs q=>by rw [ak (nt _ _ q)];exact q
end
theorem Rec.traced {h G:Heap} {x C T:Addr} (r:Rec h x C T) (hG:G.get? T=none): ∃ a0,h.TracedW G x (.ref C) a0:=by
 obtain ⟨oe,vs,oT,ts,he,hc,hd,h1,ne,hT,hdT,h3⟩:=r
 have hsz:1<vs.size:=(Array.getElem?_eq_some_iff.mp h1).1
 exact ⟨vs[0],oe,vs,T,oT,ts,he,⟨hc,by simp [Nat.lt_trans Nat.zero_lt_one hsz]⟩,hd,h1,hG,ne,hT,hdT,h3⟩
section
variable {M:Model} {A:Around} {E:Value->Shared->Prop} {s:Shared} {base:Heap} {env:Env} {outer:List Env} {L x C T:Addr}
theorem pK {Q:Unit->Shared->Prop} (hfr:A.frames=some (env::outer)) (hl:s.heap.FunFrames base (env::outer)) (hf:env.frame=some L) (r:Rec s.heap x C T)
  (k: ∀ h',LeftF (env::outer) x C [T] s.heap h'->Q () {s with heap:=h'}):
  wpAny M A (noteFrame (.ref x) env) (λ_ s₂=>wpAny M A (setFlight (.ref x) none) Q E s₂) E s:=by
 have gone: ∀ b,b∈x::([T]++frs (env::outer))->(PySem.W.hideAll s.heap (x::([T]++frs (env::outer)))).get? b=none:=λb hb=>AJ _ hb
 obtain ⟨a0,tr⟩:=r.traced (G:=PySem.W.hideAll s.heap (x::([T]++frs (env::outer)))) (gone T (yY _ (by simp)))
 refine wpAny_noteFrame_onW hfr (cK hl λb hb=>gone b (yY _ (yS _ hb))) hf tr (λ_ _ e=>BE _ e) (gone x yT) λh2 N2=>?_
 obtain ⟨n1,n2,n3,n4⟩:=N2
 refine wpAny_setFlight_noneW (s:={s with heap:=h2}) n1 n2 n3 λh3 m1 m2 m3 m4=>k h3 (.of hl ⟨m1,m2,?_,λb o e nf=>?_⟩)
 ·obtain ⟨oe,vs,T2,oT,ts,he,⟨hc,_⟩,hd,h1,hn,hTe,hT,hdT,h3⟩:=m3
  exact ⟨oe,vs,T2,oT,ts,he,hc,hd,h1,hn,hTe,hT,hdT,h3⟩
 ·obtain ⟨sl,e2⟩:=n4 b o e nf
  exact ⟨sl,m4 b _ e2 nf⟩
theorem qK {Q:Unit->Shared->Prop} (hl:s.heap.FunFrames base (env::outer)) (r:Rec s.heap x C T) (k: ∀ h',LeftF (env::outer) x C [T] s.heap h'->Q () {s with heap:=h'}):
  wpAny M A (setFlight (.ref x) none) Q E s:=by
 have gone: ∀ b,b∈x::([T]++frs (env::outer))->(PySem.W.hideAll s.heap (x::([T]++frs (env::outer)))).get? b=none:=λb hb=>AJ _ hb
 obtain ⟨a0,tr⟩:=r.traced (G:=PySem.W.hideAll s.heap (x::([T]++frs (env::outer)))) (gone T (yY _ (by simp)))
 refine wpAny_setFlight_noneW (λ_ _ e=>BE _ e) (cK hl λb hb=>gone b (yY _ (yS _ hb))) tr λh3 m1 m2 m3 m4=>k h3 (.of hl ⟨m1,m2,?_,λb o e nf=>⟨o.slots,m4 b _ e nf⟩⟩)
 obtain ⟨oe,vs,T2,oT,ts,he,⟨hc,_⟩,hd,h1,hn,hTe,hT,hdT,h3⟩:=m3
 exact ⟨oe,vs,T2,oT,ts,he,hc,hd,h1,hn,hTe,hT,hdT,h3⟩
end
open PySem.W (findIn specialIn takesIn mroIn clsIn typeIn Looks)
noncomputable def Cx.marked (X:Cx) (e:Value):Cx:={X with A:=X.A.mark (some e),calm:=false,xe:=λ_ _=>False}
section
variable {X:Cx} {pins:List (Addr×Obj)} {U:St} {H:Hp} {s:Shared} {e:Value}
theorem Inv.mark (I:Inv X pins U H s) (e:Value):Inv (X.marked e) pins U H s:=
 ⟨⟨I.ok.mod,I.ok.kind,I.ok.glob,I.ok.blt,I.ok.above,I.ok.inj,I.ok.has,I.ok.cab,λh=>Bool.noConfusion (show false=true from h),I.ok.frames,I.ok.stk,I.ok.exf,I.ok.bs,I.ok.bsz,I.ok.noex,I.ok.exfs,I.ok.funs,I.ok.frf⟩,
  I.os,I.bare,I.base,I.loc,I.cell,I.free,I.freeC,I.pin,I.hok,I.len⟩
theorem Inv.unmark (ok:X.Ok) (I:Inv (X.marked e) pins U H s):Inv X pins U H s:=⟨ok,I.os,I.bare,I.base,I.loc,I.cell,I.free,I.freeC,I.pin,I.hok,I.len⟩
theorem oP {M:Model} {A:Around} {E:Value->Shared->Prop} {i:Nat} {n:Str} {pos:Pos} {Q:Unit->Shared->Prop} (I:Inv X pins U H s) (hN:X.N.Nodup) (hi:X.N[i]? =some n) (hk:X.env.scope.names.lookup n=some .local)
  (h: ∀ s',Inv X pins (U.set i none) H s'->Q () s'):wpAny M A (do bindName X.env n .none;unbindBehindTheSuite X.env n pos) Q E s:=by
 have hcls:(X.env.scope.kind== .class||(X.env.scope.kind== .module&&X.env.locals !=X.env.globals))=false:=by rw [I.ok.kind];rfl
 have hiU:i<U.length:=by rw [I.len];exact (yX.mp hi).1
 refine yO (wpAny_bindName (dQ I hN hi (.inl hk) (v:=.non) rfl (λs1 I1=>?_) (.inr hk)))
 unfold unbindBehindTheSuite
 refine Dl ?_
 obtain ⟨m,hn,hl⟩:=id I1.loc
 obtain ⟨u,_,lk⟩:=hl i n .non hi (by rw [BF hiU]) (.inl hk)
 have hv:m n=some u:=by
  rcases lk with ⟨_,z⟩ | ⟨z,_⟩
  ·exact z
  ·have z:X.env.scope.names.lookup n=some .cell\/X.env.scope.names.lookup n=some .free:=z
   rw [hk]at z
   rcases z with z | z <;> cases z
 refine wpAny_unbindName_local hk hn hv hcls λh' u' hn' hs=>?_
 have ne: ∀ b o,X.s₀.heap.get? b=some o->b≠X.env.locals:=λb o e=>zi (zA (y2 e) I.ok.above)
 have cne:=I1.cne
 refine h _ ⟨I.ok,I1.os,I1.bare,⟨λb o e n hb hx=>(hs.2 b (ne b o e)).trans (I1.base.keep b o e n hb hx),λb o e n hb hx=>?_,I1.base.free,λb o e hx=>?_,I1.base.tups,I1.base.frzs,I1.base.tbls⟩,
  ⟨_,hn',λj y v' e1 e2 e3=>?_⟩,λy c e=>?_,I1.free,I1.freeC,λp hp=>?_,λb o e=>?_,by simpa using I.len⟩
 ·obtain ⟨sl,e1⟩:=I1.base.slot b o e n hb hx
  exact ⟨sl,(hs.2 b (ne b o e)).trans e1⟩
 ·obtain ⟨o',e1⟩:=I1.base.there b o e hx
  exact ⟨o',(hs.2 b (ne b o e)).trans e1⟩
 ·by_cases hj:j=i
  ·subst hj
   rw [BF hiU]at e2
   cases e2
  ·have e4:(U.set i (some V.non))[j]? =some (some v'):=by
    rw [CU (zT hj)]at e2 ⊢;exact e2
   obtain ⟨u',r',q⟩:=hl j y v' e1 e4 e3
   refine ⟨u',r',?_⟩
   rcases q with ⟨k,e⟩ | ⟨k,c,e,z⟩
   ·refine .inl ⟨k,?_⟩
    have:y≠n:=λe=>hj (fU hN e1 (e▸hi))
    simp [this,e]
   ·exact .inr ⟨k,c,e,z.sameBut hs (cne y c e)⟩
 ·obtain ⟨w',z⟩:=I1.cell y c e
  exact ⟨w',z.sameBut hs (cne y c e)⟩
 ·obtain ⟨e,n,ne,nf,d⟩:=I1.pin p hp
  exact ⟨(hs.2 p.1 ne).trans e,n,ne,nf,d⟩
 ·refine (I1.hok b o e).stay (λc w' hc q=>(hs.2 c ?_).trans q) (λ_ q=>q) λ_ _ q=>q
  rintro rfl
  have fr:=I1.free
  rcases hc with rfl | hc
  ·rw [fr]at e;cases e
  ·rw [fr]at hc;cases hc
end
structure CaC (K:W.Frag) (C CB:Addr):Prop where
 m1:mroIn K C (.ref CB)=some true
 m2:mroIn K CB (.type "BaseException")=some true
 ty:typeIn K (.ref CB)=some (.type "type")
 is:(clsIn K CB).isSome=true
section
variable {X:Cx}
theorem uC {pins:List (Addr×Obj)} {U:St} {H H':Hp} {s s1:Shared} {C CB x T:Addr} {D:eW} {cb n:Str} {np hp:Pos} {b₀:Stmt} {suite:List Stmt} {rest:List ExceptHandler} {i:Nat} {ts:TS}
  (I:Inv X pins U H s) (F:Fl X.prog X.w C X.stack H s.heap x T H' s1.heap) (os:s1.os=s.os) (bare:AllBare s1.gens) (hst:X.stack=X.env::X.outer) (hfr:X.env.frame=some X.env.locals)
  (hN:X.N.Nodup) (hi:X.N[i]? =some n) (hk:X.env.scope.names.lookup n=some .local) (hg:Gl X cb) (hm:X.mg cb=some (.ref CB)) (Z:CaC X.K C CB)
  (hs:PSs (X.marked (.ref x)) (b₀::suite) ts) (q:ts {nx:=λU' H3=>D.nx (U'.set i none) H3,rt:=λ_ _=>False} (U.set i (some (.ref x))) (upd H' x (ExO x C))) (hd:(cb==("__debug__":Str))=false:=by decide):
  wpAny (model X.prog X.w) X.A (noteFrame (.ref x) X.env) (λ_ s₂=>wpAny (model X.prog X.w) X.A (setFlight (.ref x) none) (λ_ s₃=>
   wpAny (model X.prog X.w) X.A (handleBy (.ref x) X.env (.ExceptHandler (some (.Name cb np)) (some n) (b₀::suite) hp::rest)) (SP X pins D) X.xe s₃) X.xe s₂) X.xe s1:=by
 have fr: ∀ b∈frs X.stack,H' b=none:=λb hb=>by
  obtain ⟨_,o,e,_⟩:=I.stack.mem hb
  exact F.un.free b o e (I.stkFree b hb) (by simp)
 have nil: ∀ b∈([]:List Addr),(b∈X.ex\/X.s₀.heap.objs.size<=b)/\b≠X.env.locals/\(∀ x c,X.env.cells.lookup x=some c->c≠b)/\ ∀ p∈X.pn++pins,p.1≠b:=λb z=>absurd z (by simp)
 have J1:Inv X pins U H' s1:=I.call' (ch:=[]) os F.un F.hok bare nil
 have hff:=J1.ok.frames
 have hfs:=J1.stack
 rw [hst]at hff hfs
 refine pK (base:=X.base) hff hfs hfr F.rc λh3 L3=>?_
 rw [<- hst]at L3
 obtain ⟨T3,F3⟩:=F.left fr L3
 have J3:Inv X pins U H' {s1 with heap:=h3}:=I.call' (ch:=[]) os F3.un F3.hok bare nil
 have p3:ExAt x C h3:=by obtain ⟨oe,vs,oT,ts,he,hc,hd,_,_,_,_,_⟩:=F3.rc;exact ⟨oe,vs,he,hc,hd⟩
 refine wpAny_handleBy_cons (codeAny_handlers_test (fY (X:=X.marked (.ref x)) (J3.mark (.ref x)) hg hm ?_ hd)) (by intro q;cases q)
 refine p9 J3.kIn p3 Z.m1 Z.m2 Z.ty Z.is (codeAny_handlers_suite_as ?_)
 have hfs3:=J3.stack
 rw [hst]at hfs3
 refine qK (base:=X.base) hfs3 F3.rc λh4 L4=>?_
 rw [<- hst]at L4
 obtain ⟨T4,F4⟩:=F3.left fr L4
 obtain ⟨un4,hok4⟩:=F4.track
 have J4:Inv X pins U (upd H' x (ExO x C)) {s1 with heap:=h4}:=I.call' (ch:=[]) os un4 hok4 bare nil
 refine dQ (v:=.ref x) J4 hN hi (.inl hk) rfl (λs5 J5=>?_) (.inr hk)
 refine Ac (hs pins s5 _ _ _ (J5.mark (.ref x)) q) (λf s6 z=>?_) λ_ _ z=>False.elim z
 cases f with
 | next=>
  obtain ⟨U6,H6,I6,q6⟩:=z
  exact oP (I6.unmark J5.ok) hN hi hk λs7 I7=>⟨_,_,I7,q6⟩
 | ret v=>obtain ⟨_,_,_,_,_,z⟩:=z;exact False.elim z
 | brk=>obtain ⟨_,_,_,z⟩:=z;exact False.elim z
 | cont=>obtain ⟨_,_,_,z⟩:=z;exact False.elim z
def yh (sp:Sp) (C:Addr) (t:TA) (j i:Nat) (ts:TS):TS:=λD U H=>t U H λvs H1=>sp vs H1 (λv H2=>D.nx (U.set j (some v)) H2) λ_ _ H2=> ∀ x,H2 x=none->
 ts {nx:=λU' H3=>D.nx (U'.set i none) H3,rt:=λ_ _=>False} (U.set i (some (.ref x))) (upd H2 x (ExO x C))
theorem ud {C CB f:Addr} {fd:FuncData} {ps:List Str} {sp:Sp} {k i j:Nat} {fn y cb n:Str} {e:Expr} {es:List Expr} {t:TA} {ts:TS} {p py cp ap np hp tp:Pos} {b₀:Stmt} {suite:List Stmt} {rest:List ExceptHandler}
  (hxe: ∀ e s,X.xe e s->False) (hst:X.stack=X.env::X.outer) (hfr:X.env.frame=some X.env.locals) (hN:X.N.Nodup)
  (F:FnOk X.prog X.w X.K X.mg X.base (CX1 X.prog X.w C) k f fd ps sp) (hr:Room k X.A) (hgf:Gl X fn) (hmf:X.mg fn=some (.ref f)) (hkf:PySem.W.keepIn X.K (.ref f)=true) (hb:Binds X.K fd ps []) (ha:PA X (e::es) t)
  (hj:X.N[j]? =some y) (hy:Loc X.env.scope y) (hi:X.N[i]? =some n) (hk:X.env.scope.names.lookup n=some .local) (hg:Gl X cb) (hm:X.mg cb=some (.ref CB)) (Z:CaC X.K C CB)
  (hs: ∀ x,PSs (X.marked (.ref x)) (b₀::suite) ts) (hd:(cb==("__debug__":Str))=false:=by decide) (hdb:(fn==("__debug__":Str))=false:=by decide)
  (hsw:swapsWith (.Call (.Name fn p) (e::es) [] cp) (some (.Name y py)) ap.line X.env=pure false:=by rfl) (hf:X.fn y=true\/X.env.scope.names.lookup y=some .local:=by first | exact .inl rfl | exact .inr rfl | assumption)
  (he:starEach (e::es) X.env=(false,eval e X.env)::starEach es X.env:=by rfl) (hpl:(backTo cp (starEach es X.env)).any (·.1)=false:=by rfl):
  PS X (.Try [.Assign [.Name y py] (.Call (.Name fn p) (e::es) [] cp) ap] (.ExceptHandler (some (.Name cb np)) (some n) (b₀::suite) hp::rest) [] [] tp) (yh sp C t j i ts):=by
 intro pins s U H D I h
 refine wpAny_Try_except (Dr (wpAny_Assign_Name ?_ hsw))
 refine AX (fY I hgf hmf ?_ hdb)
 refine PySem.W.callWith_K (h₀:=X.base) I.ok.mod.kin hkf (Ac (ha cp pins s U H _ I h) (λus s1 ⟨vs,H1,I1,r,q⟩=>⟨I1.kIn,?_⟩) λe s z=>(hxe e s z).elim) he hpl
 have hl:(us++[]).length=ps.length:=by rw [zy,<- r.length];exact F.len _ _ _ _ q
 have hb':=hb s1 us I1.kIn hl
 rw [zy]at hb'
 refine Bt (C4 (F.run X.A X.stack s1 H1 ⟨us,[]⟩ us vs _ _ hr I1.env0 hb' r q) λr2 s2 hq=>?_)
 cases r2 with
 | error e2=>
  obtain ⟨x,T,H2,rfl,os,bare,un,hok,rc,nx,nT,fx,fT,q2⟩:=hq
  exact uC I1 ⟨un,hok,rc,nx,nT,fx,fT⟩ os bare hst hfr hN hi hk hg hm Z (hs x) (q2 x fx) hd
 | ok fl=>
  cases fl with
  | ret u=>
   obtain ⟨v,H2,I2,r2,q2⟩:=I1.after hq
   exact dQ I2 hN hj hy r2 (λs3 I3=>BJ (BJ ⟨_,_,I3,q2⟩)) hf
  | next=>exact False.elim hq
  | brk=>exact False.elim hq
  | cont=>exact False.elim hq
end
section
variable {X:Cx} {x x2:Str} {px px2 tpos pos fpos:Pos} {kk:Nat} {iter elt:Expr} {scope sc0:Scope} {N0 ys:List Str} {fr:List Nat} {wi:TI} {te:TE}
inductive qX (K:W.Frag) (x:V) (y:V) (H:Hp) (Q:VK):Prop
 | mk: ∀ a b xs ys,(x=.ref a)->(y=.ref b)->(SqT K H a xs)->(SqT K H b ys)->(xs.length+ys.length<=sizeLine)->((xs=[]->Q (.ref b) H))->((xs≠[]->ys=[]->Q (.ref a) H))->((xs≠[]->ys≠[]-> ∀ p,H p=none->Q (.ref p) (upd H p (.tup (xs++ys)))))->qX K x y H Q
theorem rE:OpR X (binaryOp .Add) (qX X.K):=by
 intro pins s U H x y v u Q I rx ry h
 obtain ⟨a,b,xs,ys,e1,e2,h1,h2,h3,q1,q2,q3⟩:=h
 exact rF pins s U H x y v u Q I rx ry ⟨a,b,xs,ys,e1,e2,h1,h2,h3,q1,q2,q3⟩
end
theorem ee {G:V->V->Prop} {R:Value->Value->Prop} (hG: ∀ v u x y,G v u->RelV v x->RelV u y->R x y): ∀ {xs ys:List V} {us ws:List Value},Paired G xs ys->Vals xs us->Vals ys ws->
  us.length=ws.length/\ ∀ j (h1:j<us.length) (h2:j<ws.length),R us[j] ws[j]
 | _,_,_,_,.nil,.nil,.nil=>⟨rfl,λj h _=>absurd h (A9 _)⟩
 | _,_,_,_,.cons g p,.cons r1 r,.cons s1 s=>by
  obtain ⟨l,h⟩:=ee hG p r s
  refine ⟨by simp [l],λj h1 h2=>?_⟩
  cases j with
  | zero=>exact hG _ _ _ _ g r1 s1
  | succ j=>exact h j (Nat.lt_of_succ_lt_succ h1) (Nat.lt_of_succ_lt_succ h2)
end L2
namespace HT
open PySem PyProof.Rows
section
variable {prog:Program} {w:World} {A:Around} {s:Shared} {E:Value->Shared->Prop}
theorem getItem_tuple_all {t sl:Addr} {items:Array Value} {vl vu:Value} {lo hi:Option Int} {Q:Value->Shared->Prop} (ht:IsTup s.heap t items) (hs:s.heap.IsSliceOf sl vl vu .none) (pl:IsPart vl lo) (pu:IsPart vu hi)
  (i1:sIx items.size 0 lo=0) (i2:sIx items.size items.size hi=items.size) (h:Q (.ref t) s):wpAny (model prog w) A (getItem (.ref t) (.ref sl)) Q E s:=by
 obtain ⟨os,hos,hcs,hds⟩:=id hs
 have hTs:s.TypeIs (.ref sl) "slice":=⟨os,hos,hcs⟩
 unfold getItem
 try with_reducible refine zP ?_
 first | refine yO (yR ?_) | skip
 refine yO (wpAny_sequenceKey ht.typeIs (by decide) (yO (zY (name:=Str.ofString "__getitem__") ht.typeIs AV
  (Ap AV ht.typeIs entry_tuple_getitem ?_ (args_tuple_getitem _ _)))))
 refine (show wpAny _ _ (Builtin.Tuple.tupleItemsOf (.ref t) >>= _) _ _ s from yO (tupleItemsOf_ ht (yO (BX hTs ?_))))
 rw [yW (by decide)]
 refine yO (dh hs pl pu ?_)
 rw [i1,i2]
 refine (show wpAny _ _ (if (((0:Nat):Int)==0&&(1:Int)==1&&(items.size-0)==items.size)=true then _ else _) _ _ s from ?_)
 rw [yW (by simp)]
 refine yO (m:=Builtin.Tuple.tupleIsExact _) ?_
 unfold Builtin.Tuple.tupleIsExact
 refine yO (BX ht.typeIs (yR ?_))
 rw [yW (by decide)]
 exact yO (A7 (yR ⟨_,rfl,yR h⟩))
end
end HT
namespace L2
open PySem PySem.Spec PyProof.Rows
section
variable {X:Cx}
inductive xo  (x:V) (lo:Option Int) (hi:Option Int) (H:Hp) (Q:VK):Prop
 | mk: ∀ a xs,(x=.ref a)->(H a=some (.tup xs))->(∀ p H',(∀ b o,H b=some o->H' b=some o)->H' p=some (.tup (cA xs lo hi))->Q (.ref p) H')->xo x lo hi H Q
theorem eJ:SlR X xo:=by
 intro pins s U H x v vl vu lo hi sl Q I rx hs pl pu h
 obtain ⟨a,xs,ex,hx,q⟩:=h
 by_cases hw:HT.sIx xs.length 0 lo=0/\HT.sIx xs.length xs.length hi=xs.length
 ·subst ex
  cases rx
  obtain ⟨its,r,ht,hz⟩:=I.tuple (SqT.of (K:=X.K) hx)
  have hl:=r.length
  refine ⟨"tuple",_,PyProof.Rows.slot_tuple_getitem.lookup,ht.typeIs,HT.getItem_tuple_all ht hs pl pu (by rw [y1,<- hl];exact hw.1) (by rw [y1,<- hl];exact hw.2) ⟨.ref a,H,I,rfl,q a H (λ_ _ h=>h) ?_⟩⟩
  rw [hx]
  unfold cA
  rw [hw.1,hw.2,Dd,DB,zG]
 ·exact vO pins s U H x v vl vu lo hi sl Q I rx hs pl pu ⟨a,xs,ex,SqT.of hx,hw,λp hp=>q p _ (λb o e=>by rw [ak (aj e hp)];exact e) ad⟩
theorem kg:OpR X (binaryOp .Mult) (rI IntMulOk λi j=>.int (i*j)):=opI λ_ _ _ _ _ _ _ hc q=>mul_int q hc
theorem gM: ∀ (ns:List Int) (a:Int),PySem.W.Num.sumInts a (ns.map PySem.W.WData.int)=some (.int (a+jQ ns))
 | [],a=>by show some (PySem.W.WData.int a)=some (.int (a+0));rw [Int.add_zero]
 | n::r,a=>by
  have fold: ∀ (r:List Int) (b:Int),PySem.W.Num.foldFrom PySem.W.Num.add (.int b) (r.map PySem.W.WData.int)=some (.int (b+jQ r)):=by
   intro r
   induction r with
   | nil=>intro b;show some (PySem.W.WData.int b)=some (.int (b+0));rw [Int.add_zero]
   | cons m r ih=>
    intro b
    show PySem.W.Num.foldFrom PySem.W.Num.add (.int (b+m)) (r.map PySem.W.WData.int)=some (.int (b+ (m+jQ r)))
    rw [ih,Int.add_assoc]
  show (if (PySem.W.Num.fitsLong n&&PySem.W.Num.fitsLong (a+n))=true then PySem.W.Num.sumInts (a+n) (r.map PySem.W.WData.int)else PySem.W.Num.foldFrom PySem.W.Num.add (.int (a+n)) (r.map PySem.W.WData.int))=some (.int (a+ (n+jQ r)))
  split
  ·rw [gM r,Int.add_assoc]
  ·rw [fold,Int.add_assoc]
theorem gE (hc:X.calm=true):cG X (.builtin "sum") (λxs H Q=> ∃ (p:Addr) (ns:List Int),xs=[.ref p]/\SqL X.K H p (ns.map V.int)/\Q (.int (jQ ns)) H):=by
 intro pins s U H xs us Q I r h
 obtain ⟨p,ns,rfl,hq,q⟩:=h
 obtain ⟨u,rfl,ru⟩:=fG r
 cases ru
 obtain ⟨its,rv,pl,hz⟩:=I.list hq
 have hl:=pl.isList
 have hlt:p<s.heap.objs.size:=by obtain ⟨_,e,_⟩:=hl;exact y2 e
 have hlen:its.length=ns.length:=by have:=rv.length;rw [yP]at this;lia
 refine PySem.Flt.call_sum_walkF (xs:=ns.map PySem.W.WData.int) (r:=.int (jQ ns)) (by rw [gM,BI]) (Cw hl ?_)
 have W:=Walks.toS (Walks.list (prog:=X.prog) (w:=X.w) (A:=X.A.in1) (I.ok.hd hc) s.heap.objs.size p (zi hlt) its.toArray)
 rw [show its.toArray.size=(ns.map PySem.W.WData.int).length by rw [y1,yP];exact hlen]at W
 refine ⟨s.heap.objs.size,[s.heap.objs.size,p],[s.heap.objs.size],_,_,_,rfl,W,⟨⟨_,y6 _ rfl,rfl,rfl⟩,hl.push _⟩,λb hb=>?_,λi v hP=>?_,λs' v hv hm=>?_⟩
 ·show b< (s.heap.push _).objs.size
  rw [Aw]
  rcases za.mp hb with e | e
  ·rw [e];exact AZ _
  ·rw [y0.mp e];exact AR hlt
 ·have hv:its[i]? =some v:=by simpa using hP
  have hi:i<ns.length:=by
   have:=(yX.mp hv).1
   lia
  have hx:(ns.map V.int)[i]? =some (V.int ns[i]):=by rw [zo,y4 hi] <;> rfl
  obtain ⟨u,eu,ru⟩:=rv.get hx
  rw [hv]at eu
  cases eu
  obtain ⟨t,rfl⟩:=ru
  exact ⟨.int ns[i],by rw [zo,y4 hi] <;> rfl,.int _ t⟩
 ·cases hv
  obtain ⟨hh,g,d,tk,os⟩:=s'
  obtain rfl:g=s.gens:=hm.gens
  obtain rfl:d=s.drawn:=hm.drawn
  obtain rfl:os=s.os:=hm.os
  refine ⟨.int _,H,I.kept (t':=tk) (h':=hh) λb o e=>hm.heap b o (λz=>?_) (yQ _ e),⟨_,rfl⟩,q⟩
  rw [y0.mp z]at e
  exact absurd (y2 e) (AG _)
theorem lH {P:Program} {w:World} {H:Hp} (h:Heap) (hb:sysModules<h.objs.size):ObjOk P w H (h.push {cls:=.type "dict",data:=.dict #[]}) h.objs.size (.dP []):=
 ⟨y9 _,Bz.mpr (zT (zi hb)),[],.nil,_,#[],0,y6 _ rfl,⟨rfl,rfl,rfl⟩,rfl,rfl,Bh⟩
def vH:TE:=λ_ H Q=> ∀ p,H p=none->Q (.ref p) (upd H p (.dP []))
theorem lc {pos:Pos}:PE X (.Dict [] [] pos) vH:=λpins s U H Q I h=>
 wpAny_Dict_empty ⟨.ref s.heap.objs.size,_,I.laid (a:=s.heap.objs.size) (o:=.dP []) (t':=s.toks) (λ_ _ q=>yQ _ q) (yV _) (lH s.heap I.big),rfl,h _ (I.hok.fresh (yV _))⟩
def vG (tk tv:TE):TE:=λU H Q=> ∀ p,H p=none->tk U (upd H p (.dT [])) λx H1=>tv U H1 λy H2=> ∃ b ks,x=.ref b/\H2 b=some (.tup (List.map kV ks))/\H2 p=some (.dT [])/\Q (.ref p) (upd H2 p (.dT [(ks,y)]))
theorem rg {pos:Pos} {k v:Expr} {tk tv:TE} (hu:X.A.units+16<cLine) (hk:PE X k tk) (hv:PE X v tv):PE X (.Dict [some k] [v] pos) (vG tk tv):=by
 intro pins s U H Q I q
 have hn:=I.hok.fresh (yV s.heap.objs.size)
 have I1:=I.laid (a:=s.heap.objs.size) (o:=.dT []) (h':=s.heap.push {cls:=.type "dict",data:=.dict #[]}) (t':=s.toks) (λ_ _ q=>yQ _ q) (yV _) (sG s.heap I.big)
 rw [arm_eval_Dict,zip_pairTrees [some k] [v] X.env pos rfl rfl,dictDisplay_pairs (pairTrees [some k] [v] X.env pos) (by intro z;cases z) (show 1<17 by decide)]
 refine yO (Cd (yO ?_))
 unfold subDict
 refine yO (wpAny_alloc (yO (zP ?_)))
 rw [yW (show (pairTrees [some k] [v] X.env pos).length<=15 by show 1<=15;decide)]
 refine yO (pairTrees_cons_walk (thn (hk pins _ U _ _ I1 (q _ hn)) λu s1 ⟨x,H1,I2,rx,q1⟩=>thn (hv pins s1 U H1 _ I2 q1) λw2 s2 ⟨y,H2,I3,ry,b,ks,ex,hb,hp,q2⟩=>pairTrees_nil_walk ?_))
 subst ex
 cases rx
 refine zP ?_
 rw [Aj]
 obtain ⟨z,hd,xs,rel,dd⟩:=vj I3.hok hp
 cases rel
 refine yO (yO (yO (wpAny_dictSet_heap (hsz:=y9 _) (knd:=tupleKind (aK X.prog X.w)) (show X.A.units<cLine by lia) (fy I3.hok hb) dd λh' dd' hs=>yR ?_)))
 refine (show wpAny _ _ (forIn [] PUnit.unit _) _ _ _ from ?_)
 rw [Bg]
 refine yR (yR (yR (yR ⟨.ref s.heap.objs.size,_,?_,rfl,q2⟩)))
 obtain ⟨ob,es,ep,hq,h2,h3,h4,_,h5⟩:=dd'
 refine gf I3 (by rw [hp];exact True.intro) hs ⟨ob,hq⟩ ⟨(by show 1<=sizeLine;decide),hd,_,(KT.put (kvs:=[]) .nil ks hb ry).keeps λc ys ec=>?_,ob,es,ep,hq,h2,h3,h4,h5⟩
 rw [ak (on ec hp (λz=>nomatch z))]
 exact ec
theorem Inv.grow {pins:List (Addr×Obj)} {U:St} {H H':Hp} {s:Shared} {h':Heap} {t':Nat} (I:Inv X pins U H s) (k: ∀ b u,s.heap.get? b=some u->h'.get? b=some u) (ag: ∀ b,b<s.heap.objs.size->H' b=H b)
  (new: ∀ b o,s.heap.objs.size<=b->H' b=some o->ObjOk X.prog X.w H' h' b o):Inv X pins U H' {s with heap:=h',toks:=t'}:=by
 have lt: ∀ b o,H b=some o->b<s.heap.objs.size:=λb o e=>by
  by_cases c:b<s.heap.objs.size
  ·exact c
  ·rw [I.hok.fresh (CQ c)]at e;cases e
 have up: ∀ b o,H b=some o->H' b=some o:=λb o e=>by rw [ag b (lt b o e)];exact e
 refine I.un (t':=t') ⟨λb o e _ _ _=>k b o e,λb o e _ _ _=>⟨o.slots,k b o e⟩,λb o e n _=>?_,λb o e _=>⟨o,k b o e⟩,λb xs e=>up _ _ e,λb o u e=>up _ _ e,λb ps e=>⟨#[],by rw [up _ _ e,Array.append_empty]⟩⟩ λb o e=>?_
 ·rw [ag b (y2 e)];exact n
 ·by_cases c:b<s.heap.objs.size
  ·rw [ag b c]at e
   exact (I.hok b o e).stay (λc v _ q=>k c v q) (λc q=>up _ _ q) λc zs q=>up _ _ q
  ·exact new b o (CQ c) e
def tLi (to:TE):TE:=λU H Q=>to U H λx H1=> ∃ a kvs,x=.ref a/\H1 a=some (.dK kvs)/\ ∀ p zs H2,H1 p=none->(∀ b o,H1 b=some o->H2 b=some o)->H2 p=some (.lst zs)->
 Paired (λ(kv:Key×V) z=> ∃ T,z=.ref T/\H2 T=some (.tup [kV kv.1,kv.2])) kvs zs->Q (.ref p) H2
theorem xH {P:Program} {w:World} {k:Key} {u:Value} (h:(aK P w).is k u=true):RelV (kV k) u:=by
 rcases bh h with ⟨i,t,rfl,rfl⟩ | ⟨x,t,rfl,rfl⟩
 ·exact ⟨t,rfl⟩
 ·exact ⟨t,rfl⟩
theorem vh: ∀ {kvs:List (Key×V)} {vs:List (Key×Value)} {j:Nat} {k:Key} {u:Value},KV kvs vs->vs[j]? =some (k,u)-> ∃ v,kvs[j]? =some (k,v)/\RelV v u
 | _,_,j,_,_,.nil,e=>by cases j <;> cases e
 | _,_,0,_,_,.cons (a:=p) h _,e=>by cases e;obtain ⟨k',v⟩:=p;obtain ⟨rfl,r⟩:=h;exact ⟨v,rfl,r⟩
 | _,_,j+1,_,_,.cons _ t,e=>vh (j:=j) t e
noncomputable def gH (n:Nat) (H:Hp) (as:List Nat) (kvs:List (Key×V)):Hp:=λ(b:Nat)=>if b<n then H b else if b=n+1 then some (.lst (as.map V.ref))else (kvs[as.idxOf b]?).map λkv=>.tup [kV kv.1,kv.2]
theorem sB {n b:Nat} {H:Hp} {as:List Nat} {kvs:List (Key×V)} (h:b<n):gH n H as kvs b=H b:=yW h
theorem xR {n:Nat} {H:Hp} {as:List Nat} {kvs:List (Key×V)}:gH n H as kvs (n+1)=some (.lst (as.map V.ref)):=by
 unfold gH
 rw [yU (by lia),yW rfl]
theorem xQ {n b:Nat} {H:Hp} {as:List Nat} {kvs:List (Key×V)} (h1:n<=b) (h2:b≠n+1):gH n H as kvs b=(kvs[as.idxOf b]?).map λkv=>.tup [kV kv.1,kv.2]:=by
 unfold gH
 rw [yU (by lia),yU h2]
theorem jc: ∀ as:List Addr,Vals (as.map V.ref) (as.map Value.ref)
 | []=>.nil
 | _::r=>.cons rfl (jc r)
theorem oh {α β:Type} {F:α->β->Prop}: ∀ {l:List α} {r:List β},l.length=r.length->(∀ (i:Nat) a b,l[i]? =some a->r[i]? =some b->F a b)->Paired F l r
 | [],[],_,_=>.nil
 | [],_::_,h,_=>by cases h
 | _::_,[],h,_=>by cases h
 | a::l,b::r,h,g=>.cons (g 0 a b rfl rfl) (oh (Nat.succ.inj h) λi x y e1 e2=>g (i+1) x y e1 e2)
theorem j8 {o:Expr} {to:TE} {p pos apos cpos:Pos} (hc:X.calm=true) (hg:Gl X "list") (hm:X.mg "list"=none) (ho:PE X o to)
  (hbase:attributeBase o "items" X.env (eval o X.env)=eval o X.env:=by rfl) (hline:(apos.endLine==cpos.line)=true:=by rfl):
  PE X (.Call (.Name "list" p) [.Call (.Attribute o "items" apos) [] [] cpos] [] pos) (tLi to):=by
 intro pins s U H Q I h
 refine Call_ (cV I hg hm (show bootBuiltins "list"=some (.type "list") by decide +kernel) (Ai (Av ?_) rfl rfl))
 refine wpAny_Call_method0_late hbase hline (thn (ho pins s U H _ I h) λv s1 ⟨x,H1,I1,r1,a,kvs,ex,ha,q1⟩=>?_)
 subst ex
 cases r1
 obtain ⟨hz,lo,vs,rel,dd⟩:=vn I1.hok ha
 have hl:kvs.length=vs.length:=ze rel
 obtain ⟨ob,es,ep,e1,e2,e3,e4⟩:=id dd
 refine ⟨"dict","dict.items",Cq,PySem.F.slot_dict_items,PySem.F.type_dict_items,dd.typeIs,(λb e=>?_),Bb rfl (PySem.evalArgs_none (Dz PySem.F.slot_dict_items dd.typeIs PySem.F.entry_dict_items (PySem.F.args_dict_items_1 _) (meets_dict_items (aK X.prog X.w) a lo) ⟨⟨vs,dd⟩,?_⟩))⟩
 ·cases e
  exact ⟨ob,e1,e2.2.1⟩
 refine AN ?_
 have kp0: ∀ b o,s1.heap.get? b=some o->(s1.heap.push {cls:=.type "dict_items",data:=.fields #[.ref a]}).get? b=some o:=λb o e=>yQ _ e
 refine PySem.W.kdx_call (knd:=aK X.prog X.w) (kvs:=vs) (ep:=ep) (d:=a) (I.ok.hd hc) ⟨_,y6 _ rfl,rfl,rfl⟩ ⟨ob,es,kp0 _ _ e1,e2,e3,e4⟩ (by rw [<- hl];exact hz) λh' tk acc c as kp e las G hacc=>?_
 have hsz:(s1.heap.push {cls:=.type "dict_items",data:=.fields #[.ref a]}).objs.size=s1.heap.objs.size+1:=Aw ..
 rw [hsz]at e G ⊢
 have nd:as.Nodup:=List.Pairwise.imp (λh=>zi h) G.rise
 have big: ∀ b∈as,s1.heap.objs.size+1<b:=G.above
 generalize hn:s1.heap.objs.size=n at e G big hsz ⊢
 have up: ∀ b o,H1 b=some o->gH n H1 as kvs b=some o:=λb o e=>by
  by_cases c:b<s1.heap.objs.size
  ·rw [sB (by rw [<- hn];exact c)];exact e
  ·rw [I1.hok.fresh (CQ c)]at e;cases e
 refine ⟨.ref (n+1),gH n H1 as kvs,I1.grow (t':=tk) (λb o z=>kp b o (kp0 b o z)) (λb hb=>sB (by rw [<- hn];exact hb)) λb o hb he=>?_,rfl,q1 _ (as.map V.ref) _ (I1.hok.fresh (by rw [hn];exact Di _)) up xR ?_⟩
 ·by_cases c:b=n+1
  ·subst c
   rw [xR]at he
   cases he
   refine ⟨by rw [yP,las,<- hl];exact hz,as.map Value.ref,c,jc as,?_⟩
   rw [<- hacc,CV];exact e
  ·rw [xQ (by rw [<- hn];exact hb) c]at he
   cases hk:kvs[as.idxOf b]? with
   | none=>rw [hk]at he;cases he
   | some kv=>
    rw [hk]at he
    cases he
    have hi:as.idxOf b<as.length:=by rw [las,<- hl];exact (yX.mp hk).1
    obtain ⟨key,k,u,e5,e6,e7⟩:=G.pairs (as.idxOf b) b (by rw [y4 hi,List.getElem_idxOf])
    obtain ⟨v,e8,rv⟩:=vh rel e5
    rw [hk]at e8
    cases e8
    exact ⟨(by show 2<=sizeLine;decide),[key,u],.cons (xH e6) (.cons rv .nil),_,e7,rfl,_,rfl⟩
 ·refine oh (by rw [yP,las];exact hl) λi kv z h1 h2=>?_
  rw [zo]at h2
  cases hb:as[i]? with
  | none=>rw [hb]at h2;cases h2
  | some b=>
   rw [hb]at h2
   cases h2
   have hbm:=big b (y3 hb)
   have hi:=yX.mp hb
   refine ⟨b,rfl,?_⟩
   rw [xQ (zR (Nat.lt_of_succ_lt hbm)) (As hbm)]
   have:as.idxOf b=i:=by rw [<- hi.2];exact nd.idxOf_getElem i hi.1
   rw [this,h1];rfl
end
end L2
namespace My
open PySem L2
theorem eV {J:It} {α:Type} {as:List α} {A:α->V->Prop} {xs:List V} {fr:List Nat} {te:TE} {U:St} {H1:Hp} {Q:VK} (hn:xs.length<=1000) (hP:Paired A as xs)
  (hgo: ∀ i H,Same H1 H->i<xs.length->J.go i H) (hst: ∀ H,Same H1 H->J.stop xs.length H) (hy: ∀ i H v H',i<xs.length->Same H1 H->J.yld i H v H'->H'=H/\xs[i]? =some v)
  (R:Hp->α->V->Prop) (mono: ∀ {H H':Hp} {a:α} {v:V},TK H H'->R H a v->R H' a v)
  (hte: ∀ a v H (k:VK),a∈as->A a v->Same H1 H->(∀ u H',Same H H'->R H' a u->k u H')->te (some v::bg fr U) H k)
  (hd: ∀ p zs H',H1 p=none->Same H1 H'->H' p=some (.lst zs)->Paired (R H') as zs->Q (.ref p) H'):ig fr te U J H1 Q:=by
 intro p hp
 have hl:as.length=xs.length:=ze hP
 refine ⟨λi m zs H=>i<=xs.length/\m=xs.length-i/\Same H1 H/\H p=some (.lst zs)/\zs.length=i/\Paired (R H) (as.take i) zs,⟨_,y9 _,rfl,ai hp _,ad,rfl,.nil⟩,?_⟩
 rintro i m zs H ⟨hi,hm,sm,gp,hz,hT⟩
 refine ⟨gp,?_⟩
 by_cases e:i=xs.length
 ·subst e
  rw [<- hl,zG]at hT
  exact .inl ⟨hst H sm,hd p zs H hp sm gp hT⟩
 ·have hlt:i<xs.length:=by lia
  refine .inr ⟨hgo i H sm hlt,ay (by lia),λv H' hv=>?_⟩
  obtain ⟨rfl,hv2⟩:=hy i H v H' hlt sm hv
  obtain ⟨a,ha,hA⟩:=aD hP hv2
  refine hte a v _ _ (y3 ha) hA sm λu H2 s2 r=>?_
  have gp2:=s2 _ _ gp
  have tk:TK H2 (upd H2 p (.lst (zs++[u]))):=TK.lst gp2
  refine ⟨gp2,xs.length- (i+1),by lia,by lia,rfl,?_,ad,by rw [yZ,hz];rfl,?_⟩
  ·intro b o hb
   rw [ak (aj hb hp)]
   exact s2 _ _ (sm _ _ hb)
  ·rw [zz,ha]
   exact A3 (Paired.mapP hT λ_ _ r=>mono ((aL s2).trans tk) r) (mono tk r)
noncomputable def aP (fr:Frm):List Str:=fr.parts.map Srt.name
noncomputable def Rf (bk:Bk):Nat->List Str->Nat->Nat
 | 0,_,_=>0
 | _+1,[],t=>if t=0 then 1 else 0
 | f+1,[s],t=>if t=0 then 0 else aW ((bk.forms.filter λfr=>decide (fr.own.name=s)).map λfr=>Rf bk f (aP fr) (t-1))
 | f+1,s::s'::r,t=>aW ((List.range (t-1)).map λj=>Rf bk f [s] (j+1) *Rf bk f (s'::r) (t- (j+1)))
def Few (bk:Bk):Prop:=bk.forms.length<=10/\ ∀ fr∈bk.forms,fr.parts.length<=3
theorem bP {α:Type} {f g:α->Nat}: ∀ {l:List α},(∀ x∈l,f x=g x)->aW (l.map f)=aW (l.map g)
 | [],_=>rfl
 | a::r,h=>by
  show f a+aW (r.map f)=g a+aW (r.map g)
  rw [h a yT,bP λx hx=>h x (yY _ hx)]
theorem gI {bk:Bk} (hk:Few bk): ∀ (f g:Nat) (row:List Str) (t:Nat),4*t+row.length<f->4*t+row.length<g->Rf bk f row t=Rf bk g row t:=by
 intro f
 induction f with
 | zero=>intro g row t h;lia
 | succ f ih=>
  intro g row t h1 h2
  obtain ⟨g,rfl⟩: ∃ k,g=k+1:=⟨g-1,by lia⟩
  match row with
  | []=>rfl
  | [s]=>
   show (if t=0 then 0 else _)=(if t=0 then 0 else _)
   by_cases c:t=0
   ·rw [yW c,yW c]
   ·rw [yU c,yU c]
    refine bP λfr hfr=>?_
    have h3:=hk.2 fr (zN.mp hfr).1
    have hl:(aP fr).length=fr.parts.length:=yP _
    have h1':4*t+1<f+1:=h1
    have h2':4*t+1<g+1:=h2
    exact ih g (aP fr) (t-1) (by lia) (by lia)
  | s::s'::r=>
   refine bP λj hj=>?_
   have hj':=zI.mp hj
   have h1':4*t+ (r.length+1+1) <f+1:=h1
   have h2':4*t+ (r.length+1+1) <g+1:=h2
   rw [ih g [s] (j+1) (by show 4* (j+1) +1<f;lia) (by show 4* (j+1) +1<g;lia),ih g (s'::r) (t- (j+1)) (by show 4* (t- (j+1)) + (r.length+1) <f;lia) (by show 4* (t- (j+1)) + (r.length+1) <g;lia)]
noncomputable def Rn (bk:Bk) (row:List Str) (t:Nat):Nat:=Rf bk (4*t+row.length+1) row t
theorem nD (bk:Bk) (t:Nat):Rn bk [] t=if t=0 then 1 else 0:=rfl
theorem fB {bk:Bk} (hk:Few bk) (s:Str) (t:Nat):Rn bk [s] t=if t=0 then 0 else aW ((bk.forms.filter λfr=>decide (fr.own.name=s)).map λfr=>Rn bk (aP fr) (t-1)):=by
 show (if t=0 then 0 else _)=_
 by_cases c:t=0
 ·rw [yW c,yW c]
 ·rw [yU c,yU c]
  refine bP λfr hfr=>?_
  have h3:=hk.2 fr (zN.mp hfr).1
  have hl:(aP fr).length=fr.parts.length:=yP _
  exact gI hk _ _ _ _ (by show 4* (t-1) + (aP fr).length<4*t+1;lia) (by lia)
theorem gk {bk:Bk} (hk:Few bk) (s s':Str) (r:List Str) (t:Nat):Rn bk (s::s'::r) t=aW ((List.range (t-1)).map λj=>Rn bk [s] (j+1) *Rn bk (s'::r) (t- (j+1))):=by
 refine bP λj hj=>?_
 have hj':=zI.mp hj
 rw [gI hk _ (4* (j+1) +[s].length+1) [s] (j+1) (by show 4* (j+1) +1<4*t+ (r.length+1+1);lia) (by lia),
  gI hk _ (4* (t- (j+1)) + (s'::r).length+1) (s'::r) (t- (j+1)) (by show 4* (t- (j+1)) + (r.length+1) <4*t+ (r.length+1+1);lia) (by lia)]
 rfl
noncomputable def Rl (bk:Bk):List Str->Nat->Nat
 | [],l=>if l=0 then 1 else 0
 | s::r,l=>aW ((List.range l).map λj=>Rn bk [s] (j+1) *Rl bk r (l- (j+1)))
theorem jh {α:Type} {f:α->Nat}: ∀ {l:List α},(∀ x∈l,f x=0)->aW (l.map f)=0
 | [],_=>rfl
 | a::r,h=>by
  show f a+aW (r.map f)=0
  rw [h a yT,jh λx hx=>h x (yY _ hx)]
theorem cN: ∀ (a b:List Nat),aW (a++b)=aW a+aW b
 | [],b=>by show aW b=0+aW b;lia
 | x::a,b=>by show x+aW (a++b)=x+aW a+aW b;rw [cN a b];lia
theorem vt {bk:Bk} (hk:Few bk): ∀ (row:List Str) (t:Nat),Rl bk row t=Rn bk row t
 | [],t=>rfl
 | [s],t=>by
  show aW ((List.range t).map λj=>Rn bk [s] (j+1) * (if t- (j+1)=0 then 1 else 0))=_
  cases t with
  | zero=>rw [fB hk,yW rfl];rfl
  | succ t=>
   rw [Bm,zE,cN,jh λj hj=>by
    have:=zI.mp hj
    rw [yU (by lia),Nat.mul_zero]]
   show 0+ (Rn bk [s] (t+1) * (if t+1- (t+1)=0 then 1 else 0) +0)=_
   rw [BY,yW rfl]
   lia
 | s::s'::r,t=>by
  rw [gk hk]
  show aW ((List.range t).map λj=>Rn bk [s] (j+1) *Rl bk (s'::r) (t- (j+1)))=_
  cases t with
  | zero=>rfl
  | succ t=>
   rw [Bm,zE,cN]
   show _+ (Rn bk [s] (t+1) *Rl bk (s'::r) (t+1- (t+1)) +0)=_
   rw [BY,show Rl bk (s'::r) 0=0 from rfl,Nat.mul_zero]
   show _=aW ((List.range t).map λj=>Rn bk [s] (j+1) *Rn bk (s'::r) (t+1- (j+1)))
   rw [bP λj _=>by rw [vt hk (s'::r) (t+1- (j+1))]]
   lia
theorem gV {α:Type} {f:α->Nat} {B:Nat}: ∀ {l:List α},(∀ x∈l,f x<=B)->aW (l.map f)<=l.length*B
 | [],_=>y9 _
 | a::r,h=>by
  show f a+aW (r.map f)<=(r.length+1) *B
  have h1:=h a yT
  have h2:=gV (l:=r) λx hx=>h x (yY _ hx)
  rw [Nat.succ_mul]
  lia
theorem xV {bk:Bk} (hk:Few bk): ∀ (t:Nat) (row:List Str),t<=24->row.length<=3->Rn bk row t<=24^ (row.length-1) *5760^t:=by
 intro t
 induction t using Nat.strongRecOn with
 | ind t iht=>
  intro row ht
  induction row with
  | nil=>
   intro _
   rw [nD]
   split
   ·subst_vars;decide
   ·exact y9 _
  | cons s r ihr=>
   intro hl
   match r,hl,ihr with
   | [],_,_=>
    rw [fB hk]
    by_cases c:t=0
    ·rw [yW c];exact y9 _
    ·rw [yU c]
     have h1:=gV (B:=24^2*5760^ (t-1)) (l:=bk.forms.filter λfr=>decide (fr.own.name=s)) (f:=λfr=>Rn bk (aP fr) (t-1)) λfr hfr=>by
      have h3:=hk.2 fr (zN.mp hfr).1
      have hl:(aP fr).length=fr.parts.length:=yP _
      refine zc (iht (t-1) (by lia) (aP fr) (by lia) (by lia)) (BS _ (AK (by decide) (by lia)))
     have h2:(bk.forms.filter λfr=>decide (fr.own.name=s)).length<=10:=zc (Bj _ _) hk.1
     have h3:(bk.forms.filter λfr=>decide (fr.own.name=s)).length* (24^2*5760^ (t-1))<=10* (24^2*5760^ (t-1)):=BS _ h2
     have h4:10* (24^2*5760^ (t-1))=5760^t:=by
      obtain ⟨k,rfl⟩: ∃ k,t=k+1:=⟨t-1,by lia⟩
      rw [Nat.add_sub_cancel,show 5760^ (k+1)=5760^k*5760 from Nat.pow_succ _ _,<- Nat.mul_assoc,Nat.mul_comm (5760^k)]
     show _<=24^0*5760^t
     rw [Nat.pow_zero,Nat.one_mul]
     lia
   | s'::r,hl,ihr=>
    rw [gk hk]
    have hlr:r.length+1<=2:=by have:r.length+1+1<=3:=hl;lia
    have h1:=gV (B:=24^r.length*5760^t) (l:=List.range (t-1)) (f:=λj=>Rn bk [s] (j+1) *Rn bk (s'::r) (t- (j+1))) λj hj=>by
     have hj':=zI.mp hj
     have a:=iht (j+1) (by lia) [s] (by lia) (by show 1<=3;decide)
     have b:=iht (t- (j+1)) (by lia) (s'::r) (by lia) (by show r.length+1<=3;lia)
     have a':Rn bk [s] (j+1)<=5760^ (j+1):=by
      have:24^ ([s].length-1) *5760^ (j+1)=5760^ (j+1):=Nat.one_mul _
      lia
     refine zc (Nat.mul_le_mul a' b) ?_
     show 5760^ (j+1) * (24^r.length*5760^ (t- (j+1)))<=_
     rw [Nat.mul_left_comm,<- Nat.pow_add,show j+1+ (t- (j+1))=t by lia]
     exact yV _
    rw [At]at h1
    refine zc h1 ?_
    show _<=24^ (r.length+1) *5760^t
    rw [Nat.pow_succ,Nat.mul_comm (24^r.length) 24,Nat.mul_assoc]
    exact BS _ (by lia)
theorem jM {bk:Bk} (hk:Few bk) {t:Nat} {row:List Str} (ht:t<=24) (hl:row.length<=3):Rn bk row t<2^400:=by
 refine AY (xV hk t row ht hl) (AY (Nat.mul_le_mul (AK (n:=24) (by decide) (show row.length-1<=2 by lia)) (AK (n:=5760) (by decide) ht)) (by decide +kernel))
theorem mX {a b:Nat} (ha:a<2^2000) (hb:b<2^2000):IntMulOk (a:Int) (b:Int):=by
 have e:(2000:Nat)<=2^20:=by decide
 refine IntMulOk.of_bits (zc (PyProof.Rows.intBits_le (k:=2000) ?_) e) (zc (PyProof.Rows.intBits_le (k:=2000) ?_) e)
 ·rw [Int.natAbs_natCast];exact ha
 ·rw [Int.natAbs_natCast];exact hb
end My
namespace L2
open PySem PySem.Spec PyProof.Rows
section
variable {X:Cx} {o e f:Expr} {td ty tx:TE} {apos cpos:Pos}
def tO (td ty tx:TE):TE:=λU H Q=>td U H λx H1=> ∃ a kvs,x=.ref a/\H1 a=some (.dP kvs)/\ty U H1 λy H2=>tx U H2 λz H3=> ∃ o,DGet H3 a y o/\Q (o.getD z) H3
theorem dk (hu:X.A.units+16<cLine) (ho:PE X o td) (he:PE X e ty) (hf:PE X f tx) (m:M2 X o "get" apos e f cpos):PE X (.Call (.Attribute o "get" apos) [e,f] [] cpos) (tO td ty tx):=by
 intro pins s U H Q I h
 refine wpAny_Call_method m.base m.few m.line Cq Bi PySem.F.type_dict_get (thn (ho pins s U H _ I h) λu s1 ⟨x,H1,I1,rx,a,kvs,ex,ha,q1⟩=>?_)
 subst ex
 obtain rfl:u=Value.ref a:=rx
 obtain ⟨_,_,_,_,ob,_,_,h1,h2,_⟩:=(show ObjOk X.prog X.w H1 s1.heap a (.dP kvs)from I1.hok a _ ha)
 refine ⟨⟨ob,h1,h2.1⟩,(λb z=>by cases z;exact ⟨ob,h1,h2.2.1⟩),?_⟩
 rw [m.trees]
 refine Bb rfl (BO (Av (thn (he pins s1 U H1 _ I1 q1) λiv s2 ⟨y,H2,I2,ry,q2⟩=>
  Av (thn (hf pins s2 U H2 _ I2 q2) λfv s3 ⟨z,H3,I3,rz,ov,g,q3⟩=>AN ?_))))
 exact sN hu I3 g ry rz λw' s4 I4 rw'=>⟨_,H3,I4,rw',q3⟩
end
end L2
namespace My
open PySem L2
structure BkW (bk:Bk):Prop where
 so:cz bk.sorts
 few:bk.forms.length<=10
 fo: ∀ fr∈bk.forms,fr.own∈bk.sorts/\(∀ q∈fr.parts,q∈bk.sorts)/\fr.parts.length<=3
theorem BookOk.w {bk:Bk} (h:BookOk bk):BkW bk:=by
 obtain ⟨mode,_,hf⟩:=h.fo
 exact ⟨h.so,h.few,λfr m=>⟨(hf fr m).1,(hf fr m).2.1,(hf fr m).2.2.1⟩⟩
theorem BkW.two {bk:Bk} (h:BkW bk):Few bk:=⟨h.few,λfr m=>(h.fo fr m).2.2⟩
noncomputable def rk (row:List Str):List Key:=row.map λx=>(Sum.inr x:Key)
theorem dI (row:List Str):(rk row).map kV=row.map V.str:=by
 unfold rk
 rw [zO];rfl
theorem iA: ∀ {a b:List Str},rk a=rk b->a=b
 | [],[],_=>rfl
 | [],_::_,h=>by cases h
 | _::_,[],h=>by cases h
 | x::a,y::b,h=>by
  have h:(Sum.inr x:Key)::rk a=Sum.inr y::rk b:=h
  rw [List.cons.injEq]at h
  rw [iA h.2,Dg h.1]
theorem gB (fr:Frm):bN fr.parts=(aP fr).map V.str:=by
 unfold aP
 rw [zO];rfl
def RowIn (bk:Bk) (row:List Str):Prop:=row=[]\/(∃ s,s∈bk.sorts/\row=[Srt.name s])\/ ∃ fr k,fr∈bk.forms/\k< (aP fr).length/\row=(aP fr).drop k
theorem RowIn.len {bk:Bk} (hk:BkW bk) {row:List Str} (h:RowIn bk row):row.length<=3:=by
 rcases h with rfl | ⟨s,_,rfl⟩ | ⟨fr,k,hf,_,rfl⟩
 ·exact y9 _
 ·show 1<=3;decide
 ·have:=(hk.fo fr hf).2.2
  have hl:(aP fr).length=fr.parts.length:=yP _
  rw [Ay];lia
theorem RowIn.form {bk:Bk} {fr:Frm} (h:fr∈bk.forms):RowIn bk (aP fr):=by
 cases hl:aP fr with
 | nil=>exact .inl rfl
 | cons x r=>exact .inr (.inr ⟨fr,0,h,by rw [hl];exact Nat.succ_pos _,by rw [hl];rfl⟩)
theorem RowIn.split {bk:Bk} (hk:BkW bk) {s s':Str} {r:List Str} (h:RowIn bk (s::s'::r)):RowIn bk [s]/\RowIn bk (s'::r):=by
 rcases h with h | ⟨_,_,h⟩ | ⟨fr,k,hf,hl,h⟩
 ·cases h
 ·cases h
 ·have e:=zJ hl
  rw [<- h]at e
  have e1:=(zD e).1
  have e2:=(zD e).2
  refine ⟨?_,.inr (.inr ⟨fr,k+1,hf,?_,e2⟩)⟩
  ·have hm:s∈aP fr:=by rw [e1];exact B0 hl
   obtain ⟨q,hq,hqn⟩:=zd.mp hm
   exact .inr (.inl ⟨q,(hk.fo fr hf).2.1 q hq,by rw [hqn]⟩)
  ·have:=congrArg List.length e2
   rw [Ay,zn]at this
   lia
theorem RowIn.no {bk:Bk} (hk:BkW bk): ¬ RowIn bk ["nosuch"]:=by
 rintro (h | ⟨s,hs,h⟩ | ⟨fr,k,hf,hl,h⟩)
 ·cases h
 ·have:=(zD h).1
  exact (hk.so.2.2.2.1 s hs).2 this.symm
 ·have e:=zJ hl
  rw [<- h]at e
  have hm:("nosuch":Str)∈aP fr:=by rw [(zD e).1];exact B0 hl
  obtain ⟨q,hq,hqn⟩:=zd.mp hm
  exact (hk.so.2.2.2.1 q ((hk.fo fr hf).2.1 q hq)).2 hqn
def wN (bk:Bk) (RS:List (List Str)):Prop:= ∀ row,RowIn bk row↔row∈RS
theorem pQ (kvs:List (List Key×V)) (k:List Key) (v:V):(bH kvs k v).map (·.1)=if k∈kvs.map (·.1)then kvs.map (·.1)else kvs.map (·.1)++[k]:=by
 unfold bH
 have e:(kvs.any λkv=>decide (kv.1=k))=true↔k∈kvs.map (·.1):=by
  rw [Be,zd]
  constructor
  ·rintro ⟨kv,h1,h2⟩;exact ⟨kv,h1,zf h2⟩
  ·rintro ⟨kv,h1,h2⟩;exact ⟨kv,h1,zq h2⟩
 by_cases c:k∈kvs.map (·.1)
 ·rw [yW (e.mpr c),yW c,zO]
  refine AT λkv _=>?_
  show (if kv.1=k then (kv.1,v)else kv).1=kv.1
  split <;> rfl
 ·rw [yU (λz=>c (e.mp z)),yU c,zE];rfl
def RowsAt (H:Hp) (d:Addr) (RS:List (List Str)):Prop:= ∃ kvs,H d=some (.dT kvs)/\kvs.map (·.1)=RS.map rk
theorem RowsAt.put {H:Hp} {d b:Addr} {RS:List (List Str)} {row:List Str} {v:V} (h:RowsAt H d RS) (hb:H b=some (.tup (row.map V.str))) (hl:RS.length<=900):
  ∃ H' RS',DPut H d (.ref b) v H'/\(∀ a,a≠d->H' a=H a)/\RowsAt H' d RS'/\(∀ x∈RS,x∈RS')/\row∈RS'/\(∀ x∈RS',x∈RS\/x=row)/\RS'.length<=RS.length+1:=by
 obtain ⟨kvs,hd,hk⟩:=h
 have lk:kvs.length=RS.length:=by have:=congrArg List.length hk;rw [yP,yP]at this;exact this
 refine ⟨_,if rk row∈kvs.map (·.1)then RS else RS++[row],DPut.t hd (k:=rk row) (by rw [dI];exact hb) (ay (by lia)),λa ha=>ak ha,⟨_,ad,?_⟩,?_⟩
 ·rw [pQ]
  split
  ·exact hk
  ·rw [hk,zE];rfl
 ·by_cases c:rk row∈kvs.map (·.1)
  ·rw [yW c]
   refine ⟨λx hx=>hx,?_,λx hx=>.inl hx,Di _⟩
   rw [hk]at c
   obtain ⟨x,hx,e⟩:=zd.mp c
   rw [<- iA e];exact hx
  ·rw [yU c]
   refine ⟨λx hx=>zx _ hx,yS _ yT,λx hx=>?_,by rw [yZ];exact yV _⟩
   rcases y8.mp hx with h | h
   ·exact .inl h
   ·exact .inr (by simpa using h)
inductive gm  (vs:List V) (H:Hp) (Q:VK) (E_:XK):Prop
 | mk: ∀ bv bk,(vs=[bv])->(RepB H bk bv)->(∀ sa sx,H sa=some (.tup sx)->RepSs H bk.sorts sx->Q (.ref sa) H)->gm vs H Q E_
inductive il  (vs:List V) (H:Hp) (Q:VK) (E_:XK):Prop
 | mk: ∀ bv bk,(vs=[bv])->(RepB H bk bv)->(BkW bk)->(∀ p ys RS H',H p=none->Same H H'->H' p=some (.lst ys)->KsOf H' ys (List.map rk RS)->wN bk RS->RS.length<=40->Q (.ref p) H')->il vs H Q E_
theorem oX:aI ["book"] ["book"] (am ir):=fsc
theorem mO (F:Fun K "sorts_of" "sorts_of" ir f fd):FnOk P w K mg base CX0 1 f fd ["book"] gm:=by
 refine F.ok oX (λvs H Q E h=>?_) (λcdv A outer s H vs Q E hr h=>?_)
 ·obtain ⟨bv,bk,rfl,_⟩:=h
  rfl
 obtain ⟨bv,bk,rfl,⟨a,sa,fa,fv,rfl,ha,⟨sx,hsa,hS⟩,_⟩,q⟩:=h
 refine ⟨_,al (aH (au (r:=aS K) aA (pv 0) af (λ_ _=>rfl))),?_⟩
 exact ⟨_,rfl,a,_,1,_,rfl,rfl,SqT.of ha,aE (j:=1) rfl,q sa sx hsa hS⟩
abbrev uV:List Str:=["book","rows","name","downs","ups","form","start"]
theorem scRowsOf:aI uV ["book"] (am jY):=fsc
theorem lJ (xs:List V) (k:Nat):cA xs (some (k:Int)) none=xs.drop k:=by
 unfold cA
 rw [HT.sIx_nat,HT.sIx_none,zW (by rw [Ay];lia)]
 by_cases c:k<=xs.length
 ·rw [Bo c]
 ·rw [Nat.min_eq_right (by lia),List.drop_length,List.drop_eq_nil_of_le (by lia)]
theorem pB (F:Fun K "rows_of" "rows_of" jY f fd) (G:Gb mg) (hlist:mg "list"=none)
  (GS:Cl P w K mg base CX0 1 f2 fd2 ["book"] gm "sorts_of")
  (GF:Cl P w K mg base CX0 1 f3 fd3 ["book"] eI "forms_of")
  (GP:Cl P w K mg base CX0 1 f4 fd4 ["form"] eF "parts_of"):FnOk P w K mg base CX0 2 f fd ["book"] il:=by
 refine F.ok scRowsOf (λvs H Q E h=>?_) (λcdv A outer s H vs Q E hr h=>?_)
 ·obtain ⟨bv,bk,rfl,_⟩:=h
  rfl
 obtain ⟨bv,bk,rfl,hB,hok,q⟩:=h
 have hu:=dL hr
 refine ⟨_,ah (ao (i:=1) scRowsOf.nd rfl (Or.inl rfl) (rg hu (aN ae) fR))
  (ah (aU zw rfl (ce (pcl GS hr (aa (pv 0) ae)))
    (cu rfl (aJ (aw (i:=2) scRowsOf.nd rfl (Or.inl rfl)) (aJ (aw (i:=3) scRowsOf.nd rfl (Or.inl rfl)) (aJ (aw (i:=4) scRowsOf.nd rfl (Or.inl rfl)) bU))))
    (al (cy hu (pv 1) (aN (aa (pv 2) ae)) fR rfl)))
  (ah (aU zw rfl (ce (pcl GF hr (aa (pv 0) ae))) (aw (i:=5) scRowsOf.nd rfl (Or.inl rfl))
    (al (aU zw rfl (bt rfl G.range (aa (ax (r:=cr K) av rfl G.len zC (aa (pcl GP hr (aa (pv 5) ae)) ae)) ae)) (aw (i:=6) scRowsOf.nd rfl (Or.inl rfl))
     (al (cy hu (pv 1) (aZ eJ (pcl GP hr (aa (pv 5) ae)) (a9 (pv 6)) bp) fR rfl)))))
  (al (aH (bd (nA rfl) rfl hlist (by decide +kernel) (aa (pv 1) ae)))))),?_⟩
 refine λd hd=>⟨(by show 0<=sizeLine;decide),λe0 he0=>?_⟩
 have s0:=ai hd (.dT [])
 have g0:(upd H d (.dT [])) d=some (.dT []):=ad
 generalize upd H d (.dT [])=H0 at s0 g0 he0 ⊢
 have s1:=ai he0 (.tup [])
 have g1:(upd H0 e0 (.tup [])) e0=some (.tup []):=ad
 have gd1:=s1 _ _ g0
 generalize upd H0 e0 (.tup [])=H1 at s1 g1 gd1 ⊢
 refine ⟨e0,[],rfl,g1,gd1,?_⟩
 have hd1: ∀ y o,H y=some o->(upd H1 d (.dT [([],.bl true)])) y=some o:=λy o h=>by
  rw [ak (aj h hd)];exact s1 _ _ (s0 _ _ h)
 have hr1:RowsAt (upd H1 d (.dT [([],.bl true)])) d [[]]:=⟨_,ad,rfl⟩
 generalize upd H1 d (.dT [([],.bl true)])=H2 at hd1 hr1 ⊢
 have S2:Same H H2:=hd1
 refine ⟨_,rfl,bv,bk,rfl,hB.mono (aL S2),λsa sx hsa hS=>?_⟩
 have lS:=hS.len
 have h4:=hok.so.2.1
 refine ⟨sa,rfl,⟨sx,SqT.of hsa⟩,?_⟩
 refine cL (xs:=sx) (λi U H'=>i<=sx.length/\ ∃ o2 o3 o4 RS,U=[some bv,some (.ref d),o2,o3,o4,none,none]/\Same H H'/\(∀ b xs,H2 b=some (.tup xs)->H' b=some (.tup xs))/\RowsAt H' d RS/\RS.length<=1+i/\[]∈RS/\(∀ s∈bk.sorts.take i,[Srt.name s]∈RS)/\ ∀ row∈RS,RowIn bk row)
  ⟨y9 _,none,none,none,[[]],rfl,S2,λ_ _ h=>h,hr1,yV _,yT,λs h=>(by cases h),λrow h=>.inl (by simpa using h)⟩ (λi U H' _ h=>by obtain ⟨_,_,_,_,_,_,_,tk,_⟩:=h;exact SqT.of (tk _ _ hsa)) ?_ ?_
 ·rintro i x U H3 hx ⟨hi,o2,o3,o4,RS,rfl,S3,tk3,hR3,hl3,he3,hs3,hin3⟩
  have hil:i<sx.length:=(yX.mp hx).1
  obtain ⟨sr,hsr,a,b,c,rfl,ha,hb,hc⟩:=aD hS hx
  refine ⟨a,_,rfl,SqT.of (tk3 _ _ ha),rfl,_,_,rfl,_,_,rfl,_,_,rfl,rfl,?_⟩
  refine ⟨_,rfl,_,rfl,(by show 1<=sizeLine;decide),λkt hkt=>?_⟩
  have s4:=ai hkt (.tup [.str sr.name])
  have g4:(upd H3 kt (.tup [.str sr.name])) kt=some (.tup [.str sr.name]):=ad
  have hR4:RowsAt (upd H3 kt (.tup [.str sr.name])) d RS:=by obtain ⟨kvs,e1,e2⟩:=hR3;exact ⟨kvs,s4 _ _ e1,e2⟩
  generalize upd H3 kt (.tup [.str sr.name])=H4 at s4 g4 hR4 ⊢
  obtain ⟨H5,RS5,hp,hne,hR5,hsub,hm5,hor,hl5⟩:=hR4.put (row:=[sr.name]) (v:=.bl true) g4 (by lia)
  refine ⟨d,H5,rfl,hp,hil,_,_,_,RS5,rfl,?_,?_,hR5,by lia,hsub _ he3,?_,?_⟩
  ·intro y o h
   rw [hne y (aj h hd)]
   exact s4 _ _ (S3 _ _ h)
  ·intro b' xs h
   have hb':=s4 _ _ (tk3 _ _ h)
   rw [hne b' (λz=>by obtain ⟨kvs,e1,_⟩:=hR4;rw [z,e1]at hb';cases hb')]
   exact hb'
  ·intro s hs
   rw [zz,hsr]at hs
   rcases y8.mp hs with h | h
   ·exact hsub _ (hs3 s h)
   ·have:s=sr:=by simpa using h
    rw [this];exact hm5
  ·intro row hrow
   rcases hor row hrow with h | rfl
   ·exact hin3 row h
   ·exact .inr (.inl ⟨sr,y3 hsr,rfl⟩)
 rintro U H3 ⟨_,o2,o3,o4,RS,rfl,S3,_,hR3,hl3,he3,hs3,hin3⟩
 rw [<- lS,zG]at hs3
 refine ⟨_,rfl,bv,bk,rfl,hB.mono (aL S3),λfa fv hfa hF=>?_⟩
 have lF:=hF.len
 have h10:=hok.few
 refine ⟨fa,rfl,⟨fv,SqT.of hfa⟩,?_⟩
 refine cL (xs:=fv) (λj U H'=>j<=fv.length/\ ∃ o5 o6 RS,U=[some bv,some (.ref d),o2,o3,o4,o5,o6]/\Same H H'/\(∀ b xs,H3 b=some (.tup xs)->H' b=some (.tup xs))/\RowsAt H' d RS/\RS.length<=5+3*j/\[]∈RS/\(∀ s∈bk.sorts,[Srt.name s]∈RS)/\(∀ fr∈bk.forms.take j,∀ k,k< (aP fr).length->(aP fr).drop k∈RS)/\ ∀ row∈RS,RowIn bk row)
  ⟨y9 _,none,none,RS,rfl,S3,λ_ _ h=>h,hR3,by lia,he3,hs3,λfr h=>(by cases h),hin3⟩ (λj U H' _ h=>by obtain ⟨_,_,_,_,_,_,tk,_⟩:=h;exact SqT.of (tk _ _ hfa)) ?_ ?_
 ·rintro j x U H4 hx ⟨hj,o5,o6,RS4,rfl,S4,tk4,hR4,hl4,he4,hs4,hf4,hin4⟩
  have hjl:j<fv.length:=(yX.mp hx).1
  obtain ⟨fr,hfr,hRF⟩:=aD hF hx
  have hfm:=y3 hfr
  have hp3:=(hok.fo fr hfm).2.2
  have hnl:(aP fr).length=fr.parts.length:=yP _
  refine ⟨_,rfl,x,fr,rfl,hRF.mono (λb xs h=>tk4 b xs h),λpa hpa=>⟨pa,_,rfl,.inr (SqT.of hpa),_,rfl,?_,?_,?_⟩⟩
  ·rw [cQ];lia
  ·rw [cQ];lia
  rw [cQ,Bq]
  refine bV (λi U H'=>i<=fr.parts.length/\ ∃ o6 RS,U=[some bv,some (.ref d),o2,o3,o4,some x,o6]/\Same H H'/\(∀ b xs,H4 b=some (.tup xs)->H' b=some (.tup xs))/\RowsAt H' d RS/\RS.length<=5+3*j+i/\(∀ y∈RS4,y∈RS)/\(∀ k,k<i->(aP fr).drop k∈RS)/\ ∀ row∈RS,RowIn bk row)
   ⟨y9 _,o6,RS4,rfl,S4,λ_ _ h=>h,hR4,by lia,λ_ h=>h,λk h=>absurd h (A9 _),hin4⟩ ?_ ?_
  ·rintro i U H5 hi ⟨_,o6',RS5,rfl,S5,tk5,hR5,hl5,hsub5,hk5,hin5⟩
   refine ⟨_,rfl,_,rfl,x,fr,rfl,hRF.mono (λb xs h=>tk5 b xs (tk4 b xs h)),λpa2 hpa2=>?_⟩
   refine ⟨_,rfl,_,rfl,pa2,_,rfl,hpa2,λkt H6 s6 g6=>?_⟩
   rw [show (0+ (i:Int))=((i:Nat):Int) by lia,lJ,gB,<- List.map_drop]at g6
   have hR6:RowsAt H6 d RS5:=by obtain ⟨kvs,e1,e2⟩:=hR5;exact ⟨kvs,s6 _ _ e1,e2⟩
   obtain ⟨H7,RS7,hp,hne,hR7,hsub,hm7,hor,hl7⟩:=hR6.put (row:=(aP fr).drop i) (v:=.bl true) g6 (by lia)
   refine ⟨d,H7,rfl,hp,hi,_,RS7,rfl,?_,?_,hR7,by lia,λy h=>hsub _ (hsub5 _ h),?_,?_⟩
   ·intro y o h
    rw [hne y (aj h hd)]
    exact s6 _ _ (S5 _ _ h)
   ·intro b' xs h
    have hb':=s6 _ _ (tk5 _ _ h)
    rw [hne b' (λz=>by obtain ⟨kvs,e1,_⟩:=hR6;rw [z,e1]at hb';cases hb')]
    exact hb'
   ·intro k hk
    by_cases c:k<i
    ·exact hsub _ (hk5 k c)
    ·have:k=i:=by lia
     subst this
     exact hm7
   ·intro row hrow
    rcases hor row hrow with h | rfl
    ·exact hin5 row h
    ·exact .inr (.inr ⟨fr,i,hfm,by lia,rfl⟩)
  ·rintro U H5 ⟨_,o6',RS5,rfl,S5,tk5,hR5,hl5,hsub5,hk5,hin5⟩
   refine ⟨hjl,_,_,RS5,rfl,S5,λb xs h=>tk5 b xs (tk4 b xs h),hR5,by lia,hsub5 _ he4,λs hs=>hsub5 _ (hs4 s hs),?_,hin5⟩
   intro fr' hfr' k hk
   rw [zz,hfr]at hfr'
   rcases y8.mp hfr' with h | h
   ·exact hsub5 _ (hf4 fr' h k hk)
   ·have:fr'=fr:=by simpa using h
    subst this
    exact hk5 k (by lia)
 ·rintro U H4 ⟨_,o5,o6,RS4,rfl,S4,_,⟨kvs,gd,hk⟩,hl4,he4,hs4,hf4,hin4⟩
  rw [<- lF,zG]at hf4
  refine ⟨_,rfl,d,kvs,rfl,gd,λp ys hp hK=>?_⟩
  rw [hk]at hK
  have s5:=ai hp (.lst ys)
  refine q p ys RS4 _ (S4.free hp) (S4.trans s5) ad (hK.mono λb xs h=>s5 _ _ h) (λrow=>⟨?_,hin4 row⟩) (by lia)
  rintro (rfl | ⟨s,hs,rfl⟩ | ⟨fr,k,hf,hkl,rfl⟩)
  ·exact he4
  ·exact hs4 s hs
  ·exact hf4 fr hf k hkl
section
variable {X:Cx}
theorem fj (hu:X.A.units<cLine):OpR X (compareOp .Eq) (λx y H Q=> ∃ a b xs,x=.ref a/\y=.ref b/\SqT X.K H a xs/\SqT X.K H b []/\Q (.bl xs.isEmpty) H):=by
 intro pins s U H x y v u Q I rx ry h
 obtain ⟨a,b,xs,rfl,rfl,ha,hb,q⟩:=h
 cases rx
 cases ry
 obtain ⟨its,r,ht,_⟩:=I.tuple ha
 obtain ⟨its2,r2,ht2,_⟩:=I.tuple hb
 cases r2
 refine SeqAt.eq_tupleAt (e:=λ_=>true) ht ht2 hu (λj _ h2=>absurd h2 (A9 _)) ⟨.bl _,H,I,?_,q⟩
 cases r with
 | nil=>rfl
 | cons r1 t=>simp [RelV]
end
theorem lQ {J:It} {α:Type} {as:List α} {A:α->V->Prop} {xs:List V} {fr:List Nat} {te:TE} {U:St} {H1:Hp} {Q:VK} (hn:xs.length<=1000) (hP:Paired A as xs)
  (hgo: ∀ i H,Same H1 H->i<xs.length->J.go i H) (hst: ∀ H,Same H1 H->J.stop xs.length H) (hy: ∀ i H v H',Same H1 H->J.yld i H v H'->H'=H/\xs[i]? =some v)
  (R:Hp->α->V->Prop) (mono: ∀ {H H':Hp} {a:α} {v:V},TK H H'->R H a v->R H' a v)
  (hte: ∀ a v H (k:VK),a∈as->A a v->Same H1 H-> ∃ T v1 v2,v=.ref T/\H T=some (.tup [v1,v2])/\((∀ u H',Same H H'->R H' a u->k u H')->te (some v1::some v2::bg fr U) H k))
  (hd: ∀ p zs H',H1 p=none->Same H1 H'->H' p=some (.lst zs)->Paired (R H') as zs->Q (.ref p) H'):nQ fr te U J H1 Q:=by
 intro p hp
 have hl:as.length=xs.length:=ze hP
 refine ⟨λi m zs H=>i<=xs.length/\m=xs.length-i/\Same H1 H/\H p=some (.lst zs)/\zs.length=i/\Paired (R H) (as.take i) zs,⟨_,y9 _,rfl,ai hp _,ad,rfl,.nil⟩,?_⟩
 rintro i m zs H ⟨hi,hm,sm,gp,hz,hT⟩
 refine ⟨gp,?_⟩
 by_cases e:i=xs.length
 ·subst e
  rw [<- hl,zG]at hT
  exact .inl ⟨hst H sm,hd p zs H hp sm gp hT⟩
 ·have hlt:i<xs.length:=by lia
  refine .inr ⟨hgo i H sm hlt,ay (by lia),λv H' hv=>?_⟩
  obtain ⟨rfl,hv2⟩:=hy i H v H' sm hv
  obtain ⟨a,ha,hA⟩:=aD hP hv2
  obtain ⟨T,v1,v2,e1,e2,go⟩:=hte a v _ _ (y3 ha) hA sm
  refine ⟨T,v1,v2,e1,e2,go λu H2 s2 r=>?_⟩
  have gp2:=s2 _ _ gp
  have tk:TK H2 (upd H2 p (.lst (zs++[u]))):=TK.lst gp2
  refine ⟨gp2,xs.length- (i+1),by lia,by lia,rfl,?_,ad,by rw [yZ,hz];rfl,?_⟩
  ·intro b o hb
   rw [ak (aj hb hp)]
   exact s2 _ _ (sm _ _ hb)
  ·rw [zz,ha]
   exact A3 (Paired.mapP hT λ_ _ r=>mono ((aL s2).trans tk) r) (mono tk r)
def WK (H:Hp) (t:Nat) (fr:Frm) (z:V):Prop:= ∃ T b pa,z=.ref T/\H T=some (.tup [.str fr.name,.ref b])/\H b=some (.tup [.ref pa,.int (t:Int)])/\H pa=some (.tup ((aP fr).map V.str))
theorem WK.mono {H H':Hp} (k:TK H H') {t:Nat} {fr:Frm} {z:V}:WK H t fr z->WK H' t fr z:=λ⟨T,b,pa,e,h1,h2,h3⟩=>⟨T,b,pa,e,k _ _ h1,k _ _ h2,k _ _ h3⟩
def CK (H:Hp) (s:Str) (r:List Str) (t:Nat) (j:Nat) (z:V):Prop:= ∃ T a b c d,z=.ref T/\H T=some (.tup [.ref a,.ref b])/\H a=some (.tup [.ref c,.int ((j+1:Nat):Int)])/\H c=some (.tup [.str s])/\
 H b=some (.tup [.ref d,.int ((t- (j+1):Nat):Int)])/\H d=some (.tup (r.map V.str))
theorem CK.mono {H H':Hp} (k:TK H H') {s:Str} {r:List Str} {t j:Nat} {z:V}:CK H s r t j z->CK H' s r t j z:=λ⟨T,a,b,c,d,e,h1,h2,h3,h4,h5⟩=>⟨T,a,b,c,d,e,k _ _ h1,k _ _ h2,k _ _ h3,k _ _ h4,k _ _ h5⟩
noncomputable def oi (bk:Bk) (s:Str):List Frm:=bk.forms.filter λfr=>decide (fr.own.name=s)
inductive cO  (vs:List V) (H:Hp) (Q:VK) (E_:XK):Prop
 | mk: ∀ bv bk ra s t,(vs=[bv,.ref ra,.int ((t:Nat):Int)])->(RepB H bk bv)->(BkW bk)->(H ra=some (.tup [.str s]))->(∀ p zs H',H p=none->Same H H'->H' p=some (.lst zs)->Paired (WK H' (t-1)) (if t=0 then []else oi bk s) zs->Q (.ref p) H')->cO vs H Q E_
inductive ip  (vs:List V) (H:Hp) (Q:VK) (E_:XK):Prop
 | mk: ∀ ra s r t,(vs=[.ref ra,.int ((t:Nat):Int)])->(H ra=some (.tup (.str s::List.map V.str r)))->(t<=24)->(∀ p zs H',H p=none->Same H H'->H' p=some (.lst zs)->Paired (CK H' s r t) (List.range (t-1)) zs->Q (.ref p) H')->ip vs H Q E_
theorem mr:aI ["book","row","total"] ["book","row","total"] (am eK):=fsc
theorem li (F:Fun K "forms_with_keys" "forms_with_keys" eK f fd)
  (GF:Cl P w K mg base CX0 1 f2 fd2 ["book"] eI "forms_of")
  (GS:Cl P w K mg base CX0 1 f3 fd3 ["form"] dw "sort_of_form")
  (GP:Cl P w K mg base CX0 1 f4 fd4 ["form"] eF "parts_of"):FnOk P w K mg base CX0 2 f fd ["book","row","total"] cO:=by
 refine F.ok mr (λvs H Q E h=>?_) (λcdv A outer s H vs Q E hr h=>?_)
 ·obtain ⟨bv,bk,ra,s,t,rfl,_⟩:=h
  rfl
 obtain ⟨bv,bk,ra,sn,t,rfl,hB,hok,hra,q⟩:=h
 refine ⟨_,ah (a8 (dB (fi (pv 2) af)) (al (aH (aX ae))) aM)
  (al (aH (lg (sc0:=am eK) (N0:=["book","row","total"]) (ys:=["row","total"]) (fr:=[1,2]) rfl (ce (pcl GF hr (aa (pv 0) ae))) rfl rfl
    cok
    (λC s H ex=>aF cU (pcl GS hr (aa (pv 0) ae)) (au (r:=aS K) aA (pv 1) af (λ_ _=>rfl)) (aG _))
    (λC s H ex=>aN (aa (au (r:=aS K) aA (pv 0) af (λ_ _=>rfl)) (aa (aN (aa (pcl GP hr (aa (pv 0) ae)) (aa (aq cx (pv 2) af) ae))) ae)))))),?_⟩
 refine ⟨_,rfl,_,_,rfl,rfl,_,rfl,?_⟩
 refine bO (λc=>?_) (λc=>?_)
 ·have t0:t=0:=by have:=zf c;lia
  subst t0
  refine ⟨(by show 0<=sizeLine;decide),λp hp=>q p [] _ hp (ai hp _) ad ?_⟩
  rw [yW rfl];exact .nil
 ·have t0: ¬ t=0:=λz=>c (by rw [z];rfl)
  rw [yU t0]at q
  refine ⟨_,rfl,bv,bk,rfl,hB,λfa fv hfa hF=>?_⟩
  have lF:=hF.len
  have h10:=hok.few
  refine ⟨fa,rfl,⟨fv,SqT.of hfa⟩,?_⟩
  refine lO (by lia) hF (su hfa) (sk hfa) (vi hfa) (λfr=>decide (fr.own.name=sn)) (λH fr z=>WK H (t-1) fr z) (λk h=>h.mono k) ?_ ?_ ?_
  ·rintro fr v H' k _ hRF s' hk
   refine ⟨_,rfl,v,fr,rfl,hRF.mono (aL s'),_,rfl,ra,_,0,.str sn,rfl,rfl,SqT.of (s' _ _ hra),aE (j:=0) rfl,rfl,_,rfl,?_⟩
   rw [show decide (V.str fr.own.name=V.str sn)=decide (fr.own.name=sn)from B3.mpr ⟨λe=>V.str.inj e,λe=>by rw [e]⟩]
   exact hk
  ·rintro fr v H' k _ hRF _ s' hk
   have hRF':=hRF.mono (aL s')
   have hRF2:=hRF'
   obtain ⟨b,pa,ra',rv,rfl,hb,hpa,_⟩:=hRF2
   refine ⟨_,rfl,b,_,0,.str fr.name,rfl,rfl,SqT.of hb,aE (j:=0) rfl,_,rfl,_,fr,rfl,hRF',λpa2 hpa2=>?_⟩
   refine ⟨_,rfl,_,_,rfl,rfl,(by show 2<=sizeLine;decide),λp1 hp1=>?_⟩
   rw [show (V.int (((t:Nat):Int) -1))=V.int ((t-1:Nat):Int)from congrArg V.int (show ((t:Nat):Int) -1=((t-1:Nat):Int) by lia)]
   have s1:=ai hp1 (.tup [.ref pa2,.int ((t-1:Nat):Int)])
   have g1:(upd H' p1 (.tup [.ref pa2,.int ((t-1:Nat):Int)])) p1=some (.tup [.ref pa2,.int ((t-1:Nat):Int)]):=ad
   generalize upd H' p1 (.tup [.ref pa2,.int ((t-1:Nat):Int)])=H1 at s1 g1 ⊢
   refine ⟨(by show 2<=sizeLine;decide),λp2 hp2=>?_⟩
   have s2:=ai hp2 (.tup [.str fr.name,.ref p1])
   exact hk _ _ (s1.trans s2) ⟨p2,p1,pa2,rfl,ad,s2 _ _ g1,by rw [<- gB];exact s2 _ _ (s1 _ _ hpa2)⟩
  ·intro p zs H' hp s' gp hz
   exact q p zs H' hp s' gp hz
theorem qM:aI ["row","total"] ["row","total"] (am jp):=fsc
theorem uN (x:V) (r:List V):cA (x::r) none (some 1)=[x]:=by
 unfold cA
 rw [HT.sIx_none,show (HT.sIx (x::r).length (x::r).length (some 1))=min 1 (x::r).length from HT.sIx_nat _ _ 1,zn,Bo (by lia)]
 rfl
theorem uk (F:Fun K "cuts_of" "cuts_of" jp f fd) (G:Gb mg):FnOk P w K mg base CX0 1 f fd ["row","total"] ip:=by
 refine F.ok qM (λvs H Q E h=>?_) (λcdv A outer s H vs Q E hr h=>?_)
 ·obtain ⟨ra,s,r,t,rfl,_⟩:=h
  rfl
 obtain ⟨ra,sn,r,t,rfl,hra,ht,q⟩:=h
 refine ⟨_,al (aH (cI (sc0:=am jp) (N0:=["row","total"]) (ys:=["row","total"]) (fr:=[0,1]) rfl (eM rfl G.range (aa af (aa (pv 1) ae))) rfl rfl
    cok
    (λC s H ex=>aN (aa (aN (aa (aZ eJ (pv 1) bp (a9 af)) (aa (pv 0) ae))) (aa (aN (aa (aZ eJ (pv 1) (a9 af) bp) (aa (aq cx (pv 2) (pv 0)) ae))) ae))))),?_⟩
 refine ⟨_,rfl,1,_,rfl,⟨by decide,by decide,by lia,by lia⟩,?_⟩
 have en:(((t:Nat):Int) -1).toNat=t-1:=by lia
 rw [en]
 have hx: ∀ i,i<t-1->((List.range (t-1)).map λj=>V.int ((j+1:Nat):Int))[i]? =some (V.int ((i+1:Nat):Int)):=λi hi=>by
  rw [zo,B9 hi];rfl
 have hl:((List.range (t-1)).map λj=>V.int ((j+1:Nat):Int)).length=t-1:=by rw [yP,At]
 have hP:Paired (λ(j:Nat) (v:V)=>v=V.int ((j+1:Nat):Int)) (List.range (t-1)) ((List.range (t-1)).map λj=>V.int ((j+1:Nat):Int)):=by
  generalize List.range (t-1)=l
  induction l with
  | nil=>exact .nil
  | cons a r ih=>exact .cons rfl ih
 refine eV (by lia) hP (λi H _ h=>iK i H (by lia)) (λH _=>by rw [hl];exact dl H) (λi H v H' hi _ h=>?_) (λH j z=>CK H sn r t j z) (λk h=>h.mono k) ?_ ?_
 ·refine ⟨h.1,?_⟩
  rw [hx i (by lia),h.2]
  exact congrArg (λx=>some (V.int x)) (show ((i+1:Nat):Int)=1+ (i:Int) by lia)
 ·intro j v H1 k hj hv s1 hk
  subst hv
  have hj':=zI.mp hj
  have hra1:=s1 _ _ hra
  refine ⟨_,rfl,1,rfl,ra,_,rfl,hra1,λpc H2 s2 g2=>?_⟩
  rw [uN]at g2
  refine ⟨_,rfl,(by show 2<=sizeLine;decide),λpa hpa=>?_⟩
  have s3:=ai hpa (.tup [.ref pc,.int ((j+1:Nat):Int)])
  have g3:(upd H2 pa (.tup [.ref pc,.int ((j+1:Nat):Int)])) pa=some (.tup [.ref pc,.int ((j+1:Nat):Int)]):=ad
  generalize upd H2 pa (.tup [.ref pc,.int ((j+1:Nat):Int)])=H3 at s3 g3 ⊢
  refine ⟨_,rfl,1,rfl,ra,_,rfl,s3 _ _ (s2 _ _ hra1),λpd H4 s4 g4=>?_⟩
  rw [show cA (V.str sn::r.map V.str) (some 1) none=r.map V.str from lJ _ 1]at g4
  refine ⟨_,rfl,_,rfl,_,_,rfl,rfl,(by show 2<=sizeLine;decide),λpb hpb=>?_⟩
  rw [show (V.int (((t:Nat):Int) - ((j+1:Nat):Int)))=V.int ((t- (j+1):Nat):Int)from congrArg V.int (show ((t:Nat):Int) - ((j+1:Nat):Int)=((t- (j+1):Nat):Int) by lia)]
  have s5:=ai hpb (.tup [.ref pd,.int ((t- (j+1):Nat):Int)])
  have g5:(upd H4 pb (.tup [.ref pd,.int ((t- (j+1):Nat):Int)])) pb=some (.tup [.ref pd,.int ((t- (j+1):Nat):Int)]):=ad
  generalize upd H4 pb (.tup [.ref pd,.int ((t- (j+1):Nat):Int)])=H5 at s5 g5 ⊢
  refine ⟨(by show 2<=sizeLine;decide),λpT hpT=>?_⟩
  have s6:=ai hpT (.tup [.ref pa,.ref pb])
  exact hk _ _ (Same.trans s2 (s3.trans (Same.trans s4 (s5.trans s6)))) ⟨pT,pa,pb,pc,pd,rfl,ad,s6 _ _ (s5 _ _ (s4 _ _ g3)),s6 _ _ (s5 _ _ (s4 _ _ (s3 _ _ g2))),s6 _ _ g5,s6 _ _ (s5 _ _ g4)⟩
 ·intro p zs H' hp s' gp hz
  exact q p zs H' hp s' gp hz
def i5 (bk:Bk) (kvs:List ((List Key×Key)×V)) (t:Nat):Prop:= ∀ row k,RowIn bk row->k<t->bG kvs (rk row,Sum.inl ((k:Nat):Int))=some (.int ((Rn bk row k:Nat):Int))
inductive gu  (vs:List V) (H:Hp) (Q:VK) (E_:XK):Prop
 | mk: ∀ bv bk d ra row t kvs,(vs=[bv,.ref d,.ref ra,.int ((t:Nat):Int)])->(RepB H bk bv)->(BkW bk)->(H d=some (.dP kvs))->(H ra=some (.tup (List.map V.str row)))->(RowIn bk row)->(t<=24)->(i5 bk kvs t)->(∀ H',Same H H'->Q (.int ((Rn bk row t:Nat):Int)) H')->gu vs H Q E_
theorem we (ms:List Nat):(ms.map λm=>((m:Nat):Int)).map V.int=ms.map λm=>V.int ((m:Nat):Int):=by rw [zO];rfl
theorem ph:aI ["book","counts","row","total"] ["book","counts","row","total"] (am dY):=fsc
theorem mU (F:Fun K "count_of" "count_of" dY f fd) (G:Gb mg) (hsum:mg "sum"=none)
  (GW:Cl P w K mg base CX0 2 f2 fd2 ["book","row","total"] cO "forms_with_keys")
  (GC:Cl P w K mg base CX0 1 f3 fd3 ["row","total"] ip "cuts_of"):FnOk P w K mg base CX0 3 f fd ["book","counts","row","total"] gu:=by
 refine F.ok ph (λvs H Q E h=>?_) (λcdv A outer s H vs Q E hr h=>?_)
 ·obtain ⟨bv,bk,d,ra,row,t,kvs,rfl,_⟩:=h
  rfl
 obtain ⟨bv,bk,d,ra,row,t,kvs,rfl,hB,hok,hd,hra,hin,ht,hcnt,q⟩:=h
 have hu:=dL hr
 have hr1:=hr.mono (show 1<=2 by decide)
 have hfew:=hok.two
 refine ⟨_,ah (a8 (aF (fj hr.units0) (pv 2) (aN ae) (aG _)) (al (aH (kZ (dB (fi (pv 3) af)) af af))) aM)
  (ah (a8 (dB (fi (ax (r:=cr K) av rfl G.len zC (aa (pv 2) ae)) af))
   (al (aH (ax (gE rfl) rfl hsum (by decide +kernel) (aa (lh (sc0:=am dY) (N0:=["book","counts","row","total"]) (ys:=["counts"]) (fr:=[1]) rfl (be (pcl GW hr (aa (pv 0) (aa (pv 2) (aa (pv 3) ae))))) rfl rfl
    ⟨rfl,by decide +kernel,by decide +kernel,by decide +kernel,by decide +kernel,by decide +kernel,by decide +kernel,rfl,by decide +kernel⟩
    (λC s H ex=>bJ hu (pv 2) (pv 1) (λ_ _=>rfl))) ae)))) aM)
  (al (aH (ax (gE rfl) rfl hsum (by decide +kernel) (aa (lh (sc0:=am dY) (N0:=["book","counts","row","total"]) (ys:=["counts"]) (fr:=[1]) rfl (be (pcl GC hr1 (aa (pv 2) (aa (pv 3) ae)))) rfl rfl
    ⟨rfl,by decide +kernel,by decide +kernel,by decide +kernel,by decide +kernel,by decide +kernel,by decide +kernel,rfl,by decide +kernel⟩
    (λC s H ex=>aq kg (bJ hu (pv 2) (pv 0) (λ_ _=>rfl)) (bJ hu (pv 2) (pv 1) (λ_ _=>rfl)))) ae))))),?_⟩
 refine ⟨_,rfl,(by show 0<=sizeLine;decide),λe0 he0=>?_⟩
 have s0:=ai he0 (.tup [])
 have g0:(upd H e0 (.tup [])) e0=some (.tup []):=ad
 generalize upd H e0 (.tup [])=H0 at s0 g0 ⊢
 have hra0:=s0 _ _ hra
 have hd0:=s0 _ _ hd
 refine ⟨ra,e0,_,rfl,rfl,SqT.of hra0,SqT.of g0,_,rfl,?_⟩
 match row,hin,hra0,q with
 | [],hin,hra0,q=>
  refine bB ⟨_,rfl,_,_,rfl,rfl,_,rfl,?_⟩
  rw [nD]at q
  refine bO (λc=>?_) (λc=>?_)
  ·have:t=0:=by have:=zf c;lia
   rw [yW this]at q
   exact q H0 s0
  ·have: ¬ t=0:=λz=>c (by rw [z];rfl)
   rw [yU this]at q
   exact q H0 s0
 | [sn],hin,hra0,q=>
  refine cE ⟨_,rfl,ra,_,rfl,.inr (SqT.of hra0),_,_,rfl,rfl,_,rfl,bB ?_⟩
  refine ⟨_,rfl,_,rfl,_,rfl,bv,bk,ra,sn,t,rfl,hB.mono (aL s0),hok,hra0,λp zs H1 hp s1 gp hz=>?_⟩
  refine ⟨p,rfl,⟨_,SqL.of gp⟩,?_⟩
  have lz:=ze hz
  have lz10:zs.length<=10:=by
   rw [<- lz]
   split
   ·exact y9 _
   ·exact zc (Bj _ _) hok.few
  have hd1:=s1 _ _ hd0
  refine lQ (by lia) hz (el gp) (eh gp) (gQ gp) (λ_ fr v=>v=.int ((Rn bk (aP fr) (t-1):Nat):Int)) (λ_ h=>h) ?_ ?_
  ·rintro fr v H2 k hfr ⟨T,b,pa,rfl,h1,h2,h3⟩ s2
   refine ⟨T,_,_,rfl,s2 _ _ h1,λhk=>?_⟩
   have t0: ¬ t=0:=λz=>by rw [yW z]at hfr;cases hfr
   rw [yU t0]at hfr
   have hfm:=(zN.mp hfr).1
   refine ⟨_,rfl,_,rfl,d,.int ((Rn bk (aP fr) (t-1):Nat):Int),rfl,?_,hk _ _ (λ_ _ h=>h) rfl⟩
   rw [<- hcnt (aP fr) (t-1) (RowIn.form hfm) (by lia)]
   exact DGet.p (s2 _ _ hd1) (k:=Sum.inl (((t-1:Nat)):Int)) (s2 _ _ h2) (by rw [dI];exact s2 _ _ h3)
  ·intro p2 ws H2 hp2 s2 g2 hw
   have ew:=eN hw
   subst ew
   refine ⟨p2,((if t=0 then []else oi bk sn).map λfr=>Rn bk (aP fr) (t-1)).map λm=>((m:Nat):Int),rfl,SqL.of ?_,?_⟩
   ·rw [g2,we,zO];rfl
   ·rw [fH]
    rw [fB hfew]at q
    by_cases c:t=0
    ·rw [yW c]at q ⊢
     exact q H2 (s0.trans (s1.trans s2))
    ·rw [yU c]at q ⊢
     exact q H2 (s0.trans (s1.trans s2))
 | sn::s2n::r,hin,hra0,q=>
  refine cE ⟨_,rfl,ra,_,rfl,.inr (SqT.of hra0),_,_,rfl,rfl,_,rfl,?_⟩
  refine bO (λc=>?_) (λ_=>?_)
  ·exfalso
   have c':=zf c
   rw [yP]at c'
   have:((r.length+1+1:Nat):Int)=1:=c'
   lia
  obtain ⟨hin1,hin2⟩:=hin.split hok
  have l1:=hin1.len hok
  have l2:=hin2.len hok
  refine ⟨_,rfl,_,rfl,ra,sn,s2n::r,t,rfl,hra0,ht,λp zs H1 hp s1 gp hz=>?_⟩
  refine ⟨p,rfl,⟨_,SqL.of gp⟩,?_⟩
  have lz:=ze hz
  rw [At]at lz
  have hd1:=s1 _ _ hd0
  refine lQ (by lia) hz (el gp) (eh gp) (gQ gp) (λ_ j v=>v=.int ((Rn bk [sn] (j+1) *Rn bk (s2n::r) (t- (j+1)):Nat):Int)) (λ_ h=>h) ?_ ?_
  ·rintro j v H2 k hj ⟨T,a,b,c,d2,rfl,h1,h2,h3,h4,h5⟩ s2
   have hj':=zI.mp hj
   refine ⟨T,_,_,rfl,s2 _ _ h1,λhk=>?_⟩
   refine ⟨_,rfl,_,rfl,d,.int ((Rn bk [sn] (j+1):Nat):Int),rfl,?_,?_⟩
   ·rw [<- hcnt [sn] (j+1) hin1 (by lia)]
    exact DGet.p (s2 _ _ hd1) (k:=Sum.inl (((j+1:Nat)):Int)) (s2 _ _ h2) (s2 _ _ h3)
   refine ⟨_,rfl,_,rfl,d,.int ((Rn bk (s2n::r) (t- (j+1)):Nat):Int),rfl,?_,?_⟩
   ·rw [<- hcnt (s2n::r) (t- (j+1)) hin2 (by lia)]
    exact DGet.p (s2 _ _ hd1) (k:=Sum.inl (((t- (j+1):Nat)):Int)) (s2 _ _ h4) (by rw [dI];exact s2 _ _ h5)
   have b1:=jM hfew (t:=j+1) (row:=[sn]) (by lia) (by lia)
   have b2:=jM hfew (t:=t- (j+1)) (row:=s2n::r) (by lia) (by lia)
   have p400:(2:Nat) ^400<=2^2000:=AK (by decide) (by decide)
   refine ⟨_,_,rfl,rfl,mX (zA b1 p400) (zA b2 p400),hk _ _ (λ_ _ h=>h) ?_⟩
   exact congrArg V.int (DF _ _).symm
  ·intro p2 ws H2 hp2 s2 g2 hw
   have ew:=eN hw
   subst ew
   refine ⟨p2,((List.range (t-1)).map λj=>Rn bk [sn] (j+1) *Rn bk (s2n::r) (t- (j+1))).map λm=>((m:Nat):Int),rfl,SqL.of ?_,?_⟩
   ·rw [g2,we,zO];rfl
   ·rw [fH,<- gk hfew]
    exact q H2 (s0.trans (s1.trans s2))
def nF (bk:Bk) (kvs:List ((List Key×Key)×V)):Prop:= ∀ k v,bG kvs k=some v-> ∃ row,RowIn bk row/\k.1=rk row
inductive mf  (vs:List V) (H:Hp) (Q:VK) (E_:XK):Prop
 | mk: ∀ bv bk n,(vs=[bv,.int ((n:Nat):Int)])->(RepB H bk bv)->(BkW bk)->(n<=24)->(∀ d kvs H',H d=none->Same H H'->H' d=some (.dP kvs)->i5 bk kvs (n+1)->nF bk kvs->kvs.length<=1000->Q (.ref d) H')->mf vs H Q E_
abbrev xZ:List Str:=["book","size","rows","counts","total","row"]
theorem scUpTo:aI xZ ["book","size"] (am qN):=fsc
theorem uh (F:Fun K "counts_up_to" "counts_up_to" qN f fd) (G:Gb mg)
  (GR:Cl P w K mg base CX0 2 f2 fd2 ["book"] il "rows_of")
  (GC:Cl P w K mg base CX0 3 f3 fd3 ["book","counts","row","total"] gu "count_of"):FnOk P w K mg base CX0 4 f fd ["book","size"] mf:=by
 refine F.ok scUpTo (λvs H Q E h=>?_) (λcdv A outer s H vs Q E hr h=>?_)
 ·obtain ⟨bv,bk,n,rfl,_⟩:=h
  rfl
 obtain ⟨bv,bk,n,rfl,hB,hok,hn,q⟩:=h
 have hu:=dL hr
 have hr2:=hr.mono (show 2<=3 by decide)
 refine ⟨_,ah (ao (i:=2) scUpTo.nd rfl (Or.inl rfl) (pcl GR hr2 (aa (pv 0) ae)))
  (ah (ao (i:=3) scUpTo.nd rfl (Or.inl rfl) lc)
  (ah (aU zw rfl (bt rfl G.range (aa (aq aQ (pv 1) af) ae)) (aw (i:=4) scUpTo.nd rfl (Or.inl rfl))
   (al (aU zw rfl (be (pv 2)) (aw (i:=5) scUpTo.nd rfl (Or.inl rfl))
    (al (cy hu (pv 3) (aN (aa (pv 5) (aa (pv 4) ae))) (pcl GC hr (aa (pv 0) (aa (pv 3) (aa (pv 5) (aa (pv 4) ae))))) rfl)))))
  (al (aH (pv 3))))),?_⟩
 refine ⟨_,rfl,bv,bk,rfl,hB,hok,λrl ys RS H1 hrl s1 gr1 hK1 hRS hl40=>?_⟩
 have lK:ys.length=RS.length:=by have:=ze hK1;rw [yP]at this;exact this
 refine λd hd=>?_
 have s2:=ai hd (.dP [])
 have g2:(upd H1 d (.dP [])) d=some (.dP []):=ad
 have hd0:H d=none:=s1.free hd
 have nrd:rl≠d:=λz=>by rw [<- z,gr1]at hd;cases hd
 have gr2:=s2 _ _ gr1
 have hK2:KsOf (upd H1 d (.dP [])) ys (RS.map rk):=hK1.mono λb xs h=>s2 _ _ h
 have S2:Same H (upd H1 d (.dP [])):=s1.trans s2
 generalize upd H1 d (.dP [])=H2 at s2 g2 gr2 hK2 S2 ⊢
 refine ⟨_,rfl,_,_,rfl,rfl,_,rfl,?_,?_,?_⟩
 ·show -(2^62)<=((n:Nat):Int) +1
  lia
 ·show ((n:Nat):Int) +1<2^62
  lia
 rw [show (((n:Nat):Int) +1).toNat=n+1 by lia]
 refine bV (λi U H'=>i<=n+1/\ ∃ o4 o5 kvs,U=[some bv,some (.int ((n:Nat):Int)),some (.ref rl),some (.ref d),o4,o5]/\Same H H'/\H' rl=some (.lst ys)/\KsOf H' ys (RS.map rk)/\H' d=some (.dP kvs)/\i5 bk kvs i/\nF bk kvs/\kvs.length<=40*i)
  ⟨y9 _,none,none,[],rfl,S2,gr2,hK2,g2,λ_ k _ h=>absurd h (A9 _),λk v h=>(by cases h),yV _⟩ ?_ ?_
 ·rintro i U H3 hi ⟨_,o4,o5,kvs,rfl,S3,gr3,hK3,g3,hc3,hin3,hl3⟩
  rw [BI]
  refine ⟨_,rfl,rl,rfl,⟨_,SqL.of gr3⟩,?_⟩
  refine bL (xs:=ys) (λj U H'=>j<=ys.length/\ ∃ o5 kvs,U=[some bv,some (.int ((n:Nat):Int)),some (.ref rl),some (.ref d),some (.int ((i:Nat):Int)),o5]/\Same H H'/\H' rl=some (.lst ys)/\KsOf H' ys (RS.map rk)/\H' d=some (.dP kvs)/\i5 bk kvs i/\(∀ row∈RS.take j,bG kvs (rk row,Sum.inl ((i:Nat):Int))=some (.int ((Rn bk row i:Nat):Int)))/\nF bk kvs/\kvs.length<=40*i+j)
   ⟨y9 _,o5,kvs,rfl,S3,gr3,hK3,g3,hc3,λrow h=>(by cases h),hin3,hl3⟩ (λj U H' _ h=>by obtain ⟨_,_,_,_,_,g,_⟩:=h;exact SqL.of g) ?_ ?_
  ·rintro j x U H4 hx ⟨_,o5',kv4,rfl,S4,gr4,hK4,g4,hc4,hr4,hin4,hl4⟩
   have hjl:j<ys.length:=(yX.mp hx).1
   obtain ⟨ks,hks,b,rfl,hb⟩:=gO hK4 hx
   rw [zo]at hks
   obtain ⟨row,hrow,rfl⟩: ∃ row,RS[j]? =some row/\ks=rk row:=by
    cases h:RS[j]? with
    | none=>rw [h]at hks;cases hks
    | some row=>rw [h]at hks;exact ⟨row,rfl,(zj hks).symm⟩
   have hrm:=y3 hrow
   have hrin:RowIn bk row:=(hRS row).mpr hrm
   refine ⟨_,rfl,_,rfl,_,rfl,_,rfl,bv,bk,d,b,row,i,kv4,rfl,hB.mono (aL S4),hok,g4,by rw [<- dI];exact hb,hrin,by lia,hc4,λH5 s5=>?_⟩
   refine ⟨_,rfl,_,rfl,_,rfl,(by show 2<=sizeLine;decide),λkt hkt=>?_⟩
   have s6:=ai hkt (.tup [.ref b,.int ((i:Nat):Int)])
   have g6:(upd H5 kt (.tup [.ref b,.int ((i:Nat):Int)])) kt=some (.tup [.ref b,.int ((i:Nat):Int)]):=ad
   have S6:Same H4 (upd H5 kt (.tup [.ref b,.int ((i:Nat):Int)])):=Same.trans s5 s6
   generalize upd H5 kt (.tup [.ref b,.int ((i:Nat):Int)])=H6 at s6 g6 S6 ⊢
   have gd6:=S6 _ _ g4
   refine ⟨d,_,rfl,DPut.p gd6 (k:=Sum.inl ((i:Nat):Int)) g6 (S6 _ _ hb) (ay (by lia)),hjl,_,_,rfl,?_,?_,?_,ad,?_,?_,?_,?_⟩
   ·intro y o h
    rw [ak (aj h hd0)]
    exact S6 _ _ (S4 _ _ h)
   ·rw [ak nrd];exact S6 _ _ gr4
   ·refine hK4.mono λb' xs h=>?_
    have h':=S6 _ _ h
    rw [ak (λz=>by rw [z,gd6]at h';cases h')];exact h'
   ·intro row' k hin' hk
    rw [ck,yU (λz=>by have:=(CT z).2;have:=DG this;lia)]
    exact hc4 row' k hin' hk
   ·intro row' hr'
    rw [ck]
    by_cases c:row'=row
    ·subst c
     rw [yW rfl]
    ·rw [yU (λz=>c (iA (CT z).1))]
     rw [zz,hrow]at hr'
     rcases y8.mp hr' with h | h
     ·exact hr4 row' h
     ·exact absurd (by simpa using h) c
   ·intro k v hv
    rw [ck]at hv
    by_cases c:k=(rk row,Sum.inl ((i:Nat):Int))
    ·exact ⟨row,hrin,by rw [c]⟩
    ·rw [yU c]at hv
     exact hin4 k v hv
   ·have:=bx kv4 (rk row,Sum.inl ((i:Nat):Int)) (.int ((Rn bk row i:Nat):Int))
    lia
  ·rintro U H4 ⟨_,o5',kv4,rfl,S4,gr4,hK4,g4,hc4,hr4,hin4,hl4⟩
   rw [lK,zG]at hr4
   refine ⟨hi,_,_,kv4,rfl,S4,gr4,hK4,g4,λrow k hin' hk=>?_,hin4,by lia⟩
   by_cases c:k<i
   ·exact hc4 row k hin' c
   ·have:k=i:=by lia
    subst this
    exact hr4 row ((hRS row).mp hin')
 ·rintro U H3 ⟨_,o4,o5,kvs,rfl,S3,gr3,hK3,g3,hc3,hin3,hl3⟩
  exact ⟨_,rfl,q d kvs H3 hd0 S3 g3 hc3 hin3 (by lia)⟩
structure BkG (b:Bk):Prop where
 so:cz b.sorts
 few:b.forms.length<=10
 nd:(b.forms.map Frm.name).Nodup
 wd: ∀ fr∈b.forms,cj fr.name=true
 ok: ∀ fr∈b.forms,fr.own∈b.sorts/\(∀ q∈fr.parts,q∈b.sorts)/\fr.parts.length<=3
theorem BkG.w {bk:Bk} (h:BkG bk):BkW bk:=⟨h.so,h.few,h.ok⟩
theorem BookOk.g {bk:Bk} (h:BookOk bk):BkG bk:=⟨h.so,h.few,h.nd,h.wd,h.w.fo⟩
inductive Th where
 | tup (l:List Th)
 | str (x:Str)
 | lst
 | dic
 | non
 | int (i:Int)
 | bl (b:Bool)
noncomputable def RepH (H:Hp):Nat->Th->V->Prop
 | 0,_,_=>False
 | n+1,.tup l,v=> ∃ a vs,v=.ref a/\H a=some (.tup vs)/\Paired (RepH H n) l vs
 | _+1,.str x,v=>v=.str x/\x.length<=1000
 | _+1,.lst,v=> ∃ a xs,v=.ref a/\H a=some (.lst xs)
 | _+1,.dic,v=> ∃ a,v=.ref a/\H a=some (.dK [])
 | _+1,.non,v=>v=.non
 | _+1,.int i,v=>v=.int i
 | _+1,.bl b,v=>v=.bl b
theorem RepH.same {H H':Hp} (s:Same H H'): ∀ {n:Nat} {t:Th} {v:V},RepH H n t v->RepH H' n t v
 | 0,_,_,h=>h.elim
 | n+1,.tup _,_,⟨a,vs,e,h1,h2⟩=>⟨a,vs,e,s _ _ h1,Paired.mapP h2 λ_ _ r=>RepH.same s r⟩
 | _+1,.str _,_,h=>h
 | _+1,.lst,_,⟨a,xs,e,h⟩=>⟨a,xs,e,s _ _ h⟩
 | _+1,.dic,_,⟨a,e,h⟩=>⟨a,e,s _ _ h⟩
 | _+1,.non,_,h=>h
 | _+1,.int _,_,h=>h
 | _+1,.bl _,_,h=>h
theorem RepH.up {H:Hp}: ∀ {n:Nat} {t:Th} {v:V},RepH H n t v->RepH H (n+1) t v
 | 0,_,_,h=>h.elim
 | n+1,.tup _,_,⟨a,vs,e,h1,h2⟩=>⟨a,vs,e,h1,Paired.mapP h2 λ_ _ r=>RepH.up r⟩
 | _+1,.str _,_,h=>h
 | _+1,.lst,_,h=>h
 | _+1,.dic,_,h=>h
 | _+1,.non,_,h=>h
 | _+1,.int _,_,h=>h
 | _+1,.bl _,_,h=>h
theorem RepH.le {H:Hp} {n m:Nat} {t:Th} {v:V} (h:RepH H n t v) (l:n<=m):RepH H m t v:=by
 induction l with
 | refl=>exact h
 | step _ ih=>exact ih.up
theorem RepH.sh {H:Hp}: ∀ {n:Nat} {t:Th} {v:V},RepH H n t v->Sh H v
 | 0,_,_,h=>h.elim
 | n+1,.tup _,_,⟨a,vs,e,h1,h2⟩=>by subst e;exact .inr (.inl ⟨vs,h1⟩)
 | _+1,.str _,_,h=>by obtain ⟨rfl,h⟩:=h;exact h
 | _+1,.lst,_,⟨a,xs,e,h⟩=>by subst e;exact .inl ⟨xs,h⟩
 | _+1,.dic,_,⟨a,e,h⟩=>by subst e;exact .inr (.inr ⟨[],h⟩)
 | _+1,.non,_,h=>by subst h;exact True.intro
 | _+1,.int _,_,h=>by subst h;exact True.intro
 | _+1,.bl _,_,h=>by subst h;exact True.intro
noncomputable def Th.isTup:Th->Bool
 | .tup _=>true
 | _=>false
noncomputable def Th.isStr:Th->Bool
 | .str _=>true
 | _=>false
theorem RepH.isTup {H:Hp}: ∀ {n:Nat} {t:Th} {v:V},RepH H n t v->isV "tuple" H v=t.isTup
 | 0,_,_,h=>h.elim
 | n+1,.tup _,_,⟨a,vs,e,h1,h2⟩=>by subst e;simp only [isV,h1];rfl
 | _+1,.str _,_,h=>by obtain ⟨rfl,h⟩:=h;rfl
 | _+1,.lst,_,⟨a,xs,e,h⟩=>by subst e;simp only [isV,h];rfl
 | _+1,.dic,_,⟨a,e,h⟩=>by subst e;simp only [isV,h];rfl
 | _+1,.non,_,h=>by subst h;rfl
 | _+1,.int _,_,h=>by subst h;rfl
 | _+1,.bl _,_,h=>by subst h;rfl
theorem RepH.isStr {H:Hp}: ∀ {n:Nat} {t:Th} {v:V},RepH H n t v->isV "str" H v=t.isStr
 | 0,_,_,h=>h.elim
 | n+1,.tup _,_,⟨a,vs,e,h1,h2⟩=>by subst e;simp only [isV,h1];rfl
 | _+1,.str _,_,h=>by obtain ⟨rfl,h⟩:=h;rfl
 | _+1,.lst,_,⟨a,xs,e,h⟩=>by subst e;simp only [isV,h];rfl
 | _+1,.dic,_,⟨a,e,h⟩=>by subst e;simp only [isV,h];rfl
 | _+1,.non,_,h=>by subst h;rfl
 | _+1,.int _,_,h=>by subst h;rfl
 | _+1,.bl _,_,h=>by subst h;rfl
noncomputable def bA (c:Th->Option (Srt×Nat)):List Th->List Srt->Option Nat
 | [],[]=>some 0
 | t::r,q::qs=>match c t with
  | some (s,k)=>if s.name=q.name then (bA c r qs).map (k+ ·)else none
  | none=>none
 | _,_=>none
noncomputable def wF (bk:Bk) (c:Th->Option (Srt×Nat)):Th->Option (Srt×Nat)
 | .tup [.str nm,.tup l]=>match bX nm bk.forms with
  | some fr=>(bA c l fr.parts).map λk=>(fr.own,k+1)
  | none=>none
 | _=>none
noncomputable def chk (bk:Bk):Nat->Th->Option (Srt×Nat)
 | 0,_=>none
 | n+1,t=>wF bk (chk bk n) t
theorem fA {c d:Th->Option (Srt×Nat)}: ∀ {l:List Th} {qs:List Srt},(∀ t∈l,c t=d t)->bA c l qs=bA d l qs
 | [],[],_=>rfl
 | [],_::_,_=>rfl
 | _::_,[],_=>rfl
 | t::r,q::qs,h=>by
  show (match c t with | some (s,k)=>if s.name=q.name then (bA c r qs).map (k+ ·)else none | none=>none)=(match d t with | some (s,k)=>if s.name=q.name then (bA d r qs).map (k+ ·)else none | none=>none)
  rw [h t yT,fA λu hu=>h u (yY _ hu)]
theorem eg {α β:Type} {F:α->β->Prop}: ∀ {l:List α} {r:List β} {a:α},Paired F l r->a∈l-> ∃ b,F a b
 | _,_,a,.cons h t,m=>by
  rcases za.mp m with rfl | m
  ·exact ⟨_,h⟩
  ·exact eg t m
theorem fz {H:Hp} {bk:Bk}: ∀ {n m:Nat} {t:Th} {v:V},RepH H n t v->n<=m->chk bk m t=chk bk n t
 | 0,_,_,_,h,_=>h.elim
 | n+1,0,_,_,_,hm=>by lia
 | n+1,m+1,t,v,h,hm=>by
  show wF bk (chk bk m) t=wF bk (chk bk n) t
  cases t with
  | tup l=>
   obtain ⟨a,vs,e,h1,h2⟩:=h
   match l with
   | []=>rfl
   | [_]=>cases ‹Th› <;> rfl
   | [.str nm,.tup l2]=>
    show (match bX nm bk.forms with | some fr=>(bA (chk bk m) l2 fr.parts).map λk=>(fr.own,k+1) | none=>none)=(match bX nm bk.forms with | some fr=>(bA (chk bk n) l2 fr.parts).map λk=>(fr.own,k+1) | none=>none)
    cases bX nm bk.forms with
    | none=>rfl
    | some fr=>
     have hc: ∀ u∈l2,chk bk m u=chk bk n u:=by
      intro u hu
      cases h2 with
      | cons _ t2=>
       cases t2 with
       | @cons _ b2 _ _ x _=>
        cases n with
        | zero=>exact x.elim
        | succ n=>
         obtain ⟨a2,vs2,e2,g1,g2⟩:=x
         obtain ⟨b,hb⟩:=eg g2 hu
         rw [fz hb (show n<=m by lia),fz hb (show n<=n+1 by lia)]
     show (bA (chk bk m) l2 fr.parts).map _=(bA (chk bk n) l2 fr.parts).map _
     rw [fA hc]
   | [.str _,.str _]=>rfl
   | [.str _,.lst]=>rfl
   | [.str _,.dic]=>rfl
   | [.str _,.non]=>rfl
   | [.str _,.int _]=>rfl
   | [.str _,.bl _]=>rfl
   | [.tup _,_]=>rfl
   | [.lst,_]=>rfl
   | [.dic,_]=>rfl
   | [.non,_]=>rfl
   | [.int _,_]=>rfl
   | [.bl _,_]=>rfl
   | .str _::y::_::_=>cases y <;> rfl
   | .tup _::_::_::_=>rfl
   | .lst::_::_::_=>rfl
   | .dic::_::_::_=>rfl
   | .non::_::_::_=>rfl
   | .int _::_::_::_=>rfl
   | .bl _::_::_::_=>rfl
  | str _=>rfl
  | lst=>rfl
  | dic=>rfl
  | non=>rfl
  | int _=>rfl
  | bl _=>rfl
noncomputable def nod (x:Str) (ps:List Th):Th:=.tup [.str x,.tup ps]
noncomputable def Gf (bk:Bk):Nat->List Str->Nat->List (List Th)
 | 0,_,_=>[]
 | _+1,[],t=>if t=0 then [[]]else []
 | f+1,[s],t=>if t=0 then []else (bk.forms.filter λfr=>decide (fr.own.name=s)).flatMap λfr=>(Gf bk f (aP fr) (t-1)).map λps=>[nod fr.name ps]
 | f+1,s::s'::r,t=>(List.range (t-1)).flatMap λj=>(Gf bk f [s] (j+1)).flatMap λa=>(Gf bk f (s'::r) (t- (j+1))).map λo=>a++o
theorem iI {α β:Type} {f:α->List β}: ∀ {l:List α},(l.flatMap f).length=aW (l.map λa=>(f a).length)
 | []=>rfl
 | a::l=>by
  rw [Au,yZ,iI]
  rfl
theorem kr {α β γ:Type} {g:α->β->γ} {m:List β}: ∀ {l:List α},(l.flatMap λa=>m.map (g a)).length=l.length*m.length
 | []=>by rw [Bf,BK,BK,Nat.zero_mul]
 | a::l=>by
  rw [Au,yZ,kr,yP,zn,Nat.succ_mul,Nat.add_comm]
theorem wn (bk:Bk): ∀ (f:Nat) (row:List Str) (t:Nat),(Gf bk f row t).length=Rf bk f row t:=by
 intro f
 induction f with
 | zero=>intro row t;rfl
 | succ f ih=>
  intro row t
  match row with
  | []=>
   show (if t=0 then [[]]else ([]:List (List Th))).length=if t=0 then 1 else 0
   by_cases c:t=0
   ·rw [yW c,yW c];rfl
   ·rw [yU c,yU c];rfl
  | [s]=>
   show (if t=0 then []else _:List (List Th)).length=if t=0 then 0 else _
   by_cases c:t=0
   ·rw [yW c,yW c];rfl
   ·rw [yU c,yU c,iI]
    exact bP λfr _=>by rw [yP,ih]
  | s::s'::r=>
   show (List.flatMap _ _).length=aW _
   rw [iI]
   exact bP λj _=>by rw [kr,ih,ih]
theorem cW {α β:Type} {f g:α->List β}: ∀ {l:List α},(∀ a∈l,f a=g a)->l.flatMap f=l.flatMap g
 | [],_=>rfl
 | a::l,h=>by
  rw [Au,Au,h a yT,cW λx hx=>h x (yY _ hx)]
theorem gK {bk:Bk} (hk:Few bk): ∀ (f g:Nat) (row:List Str) (t:Nat),4*t+row.length<f->4*t+row.length<g->Gf bk f row t=Gf bk g row t:=by
 intro f
 induction f with
 | zero=>intro g row t h;lia
 | succ f ih=>
  intro g row t h1 h2
  obtain ⟨g,rfl⟩: ∃ k,g=k+1:=⟨g-1,by lia⟩
  match row with
  | []=>rfl
  | [s]=>
   show (if t=0 then []else _)=(if t=0 then []else _)
   by_cases c:t=0
   ·rw [yW c,yW c]
   ·rw [yU c,yU c]
    refine cW λfr hfr=>?_
    have h3:=hk.2 fr (zN.mp hfr).1
    have hl:(aP fr).length=fr.parts.length:=yP _
    have h1':4*t+1<f+1:=h1
    have h2':4*t+1<g+1:=h2
    rw [ih g (aP fr) (t-1) (by lia) (by lia)]
  | s::s'::r=>
   refine cW λj hj=>?_
   have hj':=zI.mp hj
   have h1':4*t+ (r.length+1+1) <f+1:=h1
   have h2':4*t+ (r.length+1+1) <g+1:=h2
   rw [ih g [s] (j+1) (by show 4* (j+1) +1<f;lia) (by show 4* (j+1) +1<g;lia),ih g (s'::r) (t- (j+1)) (by show 4* (t- (j+1)) + (r.length+1) <f;lia) (by show 4* (t- (j+1)) + (r.length+1) <g;lia)]
noncomputable def Gn (bk:Bk) (row:List Str) (t:Nat):List (List Th):=Gf bk (4*t+row.length+1) row t
theorem gJ (bk:Bk) (row:List Str) (t:Nat):(Gn bk row t).length=Rn bk row t:=wn ..
theorem wR {bk:Bk} (hk:Few bk) (s:Str) {t:Nat} (ht:t≠0):Gn bk [s] t=(bk.forms.filter λfr=>decide (fr.own.name=s)).flatMap λfr=>(Gn bk (aP fr) (t-1)).map λps=>[nod fr.name ps]:=by
 show (if t=0 then []else _)=_
 rw [yU ht]
 refine cW λfr hfr=>?_
 have h3:=hk.2 fr (zN.mp hfr).1
 have hl:(aP fr).length=fr.parts.length:=yP _
 rw [gK hk _ (4* (t-1) + (aP fr).length+1) _ _ (by show 4* (t-1) + (aP fr).length<4*t+1;lia) (by lia)]
 rfl
theorem uW {bk:Bk} (hk:Few bk) (s s':Str) (r:List Str) (t:Nat):Gn bk (s::s'::r) t=(List.range (t-1)).flatMap λj=>(Gn bk [s] (j+1)).flatMap λa=>(Gn bk (s'::r) (t- (j+1))).map λo=>a++o:=by
 refine cW λj hj=>?_
 have hj':=zI.mp hj
 rw [gK hk _ (4* (j+1) +[s].length+1) [s] (j+1) (by show 4* (j+1) +1<4*t+ (r.length+1+1);lia) (by lia),
  gK hk _ (4* (t- (j+1)) + (s'::r).length+1) (s'::r) (t- (j+1)) (by show 4* (t- (j+1)) + (r.length+1) <4*t+ (r.length+1+1);lia) (by lia)]
 rfl
theorem lT {c:Th->Option (Srt×Nat)}: ∀ {l m:List Th} {q p:List Srt} {a b:Nat},bA c l q=some a->bA c m p=some b->bA c (l++m) (q++p)=some (a+b)
 | [],m,[],p,a,b,h1,h2=>by
  cases h1
  rw [Bc]
  exact h2
 | [],m,_::_,p,a,b,h1,h2=>by cases h1
 | _::_,m,[],p,a,b,h1,h2=>by cases h1
 | t::l,m,s::q,p,a,b,h1,h2=>by
  have h1:(match c t with | some (z,k)=>if z.name=s.name then (bA c l q).map (k+ ·)else none | none=>none)=some a:=h1
  show (match c t with | some (z,k)=>if z.name=s.name then (bA c (l++m) (q++p)).map (k+ ·)else none | none=>none)=some (a+b)
  cases hc:c t with
  | none=>rw [hc]at h1;cases h1
  | some zk=>
   obtain ⟨z,k⟩:=zk
   rw [hc]at h1
   have h1:(if z.name=s.name then (bA c l q).map (k+ ·)else none)=some a:=h1
   show (if z.name=s.name then (bA c (l++m) (q++p)).map (k+ ·)else none)=some (a+b)
   by_cases e:z.name=s.name
   ·rw [yW e]at h1 ⊢
    obtain ⟨a',h3,h4⟩:=Af.mp h1
    rw [lT h3 h2,<- h4,Bd]
    rfl
   ·rw [yU e]at h1;cases h1
theorem nz {bk:Bk} (hl: ∀ fr∈bk.forms,bX fr.name bk.forms=some fr): ∀ (f:Nat) (row:List Str) (t:Nat) (ts:List Th),ts∈Gf bk f row t-> ∀ (ps:List Srt),ps.map Srt.name=row-> ∀ n,t<=n->bA (chk bk n) ts ps=some t:=by
 intro f
 induction f with
 | zero=>intro row t ts h;cases h
 | succ f ih=>
  intro row t ts h ps hp n hn
  match row,h with
  | [],h=>
   have h:ts∈(if t=0 then [[]]else []):=h
   by_cases c:t=0
   ·rw [yW c]at h
    rw [y0.mp h,c,List.map_eq_nil_iff.mp hp]
    rfl
   ·rw [yU c]at h;cases h
  | [s],h=>
   have h:ts∈(if t=0 then []else _):=h
   by_cases c:t=0
   ·rw [yW c]at h;cases h
   ·rw [yU c]at h
    obtain ⟨fr,h1,h2⟩:=zU.mp h
    obtain ⟨us,h3,rfl⟩:=zd.mp h2
    obtain ⟨h4,h5⟩:=zN.mp h1
    obtain ⟨q,rfl⟩: ∃ q,ps=[q]:=List.length_eq_one_iff.mp (by rw [<- yP (f:=Srt.name),hp];rfl)
    have hq:q.name=s:=by injection hp
    obtain ⟨n,rfl⟩: ∃ k,n=k+1:=⟨n-1,by lia⟩
    have e1:chk bk (n+1) (nod fr.name us)=some (fr.own,t-1+1):=by
     show (match bX fr.name bk.forms with | some fr=>(bA (chk bk n) us fr.parts).map λk=>(fr.own,k+1) | none=>none)=_
     rw [hl fr h4]
     show (bA (chk bk n) us fr.parts).map (λk=>(fr.own,k+1))=_
     rw [ih _ _ _ h3 fr.parts rfl n (by lia)]
     rfl
    show (match chk bk (n+1) (nod fr.name us)with | some (z,k)=>if z.name=q.name then (bA (chk bk (n+1)) [] []).map (k+ ·)else none | none=>none)=some t
    rw [e1]
    show (if fr.own.name=q.name then (some 0).map (t-1+1+ ·)else none)=some t
    rw [yW ((zf h5).trans hq.symm)]
    show some (t-1+1+0)=some t
    congr 1
    lia
  | s::s'::r,h=>
   obtain ⟨j,h1,h2⟩:=zU.mp h
   obtain ⟨a,h3,h4⟩:=zU.mp h2
   obtain ⟨o,h5,rfl⟩:=zd.mp h4
   have h1:=zI.mp h1
   match ps,hp with
   | q::qs,hp=>
    injection hp with e1 e2
    have:=lT (ih _ _ _ h3 [q] (by rw [<- e1];rfl) n (by lia)) (ih _ _ _ h5 qs e2 n (by lia))
    rw [show j+1+ (t- (j+1))=t by lia]at this
    exact this
theorem dC {bk:Bk} {f t:Nat} {s:Str} {ts:List Th} (h:ts∈Gf bk f [s] t): ∃ x ps,ts=[nod x ps]:=by
 cases f with
 | zero=>cases h
 | succ f=>
  have h:ts∈(if t=0 then []else _):=h
  by_cases c:t=0
  ·rw [yW c]at h;cases h
  ·rw [yU c]at h
   obtain ⟨fr,h1,h2⟩:=zU.mp h
   obtain ⟨us,h3,rfl⟩:=zd.mp h2
   exact ⟨_,_,rfl⟩
theorem xz {bk:Bk} (hl: ∀ fr∈bk.forms,bX fr.name bk.forms=some fr) (hd:(bk.forms.map Frm.name).Nodup): ∀ (f:Nat) (row:List Str) (t:Nat),(∀ x∈row,∃ q:Srt,q.name=x)->(Gf bk f row t).Pairwise (· ≠ ·):=by
 intro f
 induction f with
 | zero=>intro row t _;exact .nil
 | succ f ih=>
  intro row t hrow
  match row with
  | []=>
   show (if t=0 then [[]]else ([]:List (List Th))).Pairwise _
   by_cases c:t=0
   ·rw [yW c];exact List.pairwise_singleton ..
   ·rw [yU c];exact .nil
  | [s]=>
   show (if t=0 then []else _:List (List Th)).Pairwise _
   by_cases c:t=0
   ·rw [yW c];exact .nil
   ·rw [yU c]
    refine CN.mpr ⟨λfr hfr=>?_,?_⟩
    ·refine AS.mpr ((ih _ _ λx hx=>?_).imp λ{a b} hab e=>?_)
     ·obtain ⟨q,_,rfl⟩:=zd.mp hx
      exact ⟨q,rfl⟩
     ·injection e with e _
      injection e with e
      injection e with _ e
      injection e with e _
      injection e with e
      exact hab e
    ·have:=List.Pairwise.filter (λfr=>decide (fr.own.name=s)) (AS.mp hd)
     refine this.imp λ{a b} hab x hx y hy e=>?_
     obtain ⟨us,_,rfl⟩:=zd.mp hx
     obtain ⟨us',_,rfl⟩:=zd.mp hy
     injection e with e _
     injection e with e
     injection e with e _
     injection e with e
     exact hab e
  | s::s'::r=>
   obtain ⟨q,hq⟩:=hrow s yT
   refine CN.mpr ⟨λj hj=>?_,?_⟩
   ·refine CN.mpr ⟨λa ha=>?_,?_⟩
    ·exact AS.mpr ((ih _ _ λx hx=>hrow x (yY _ hx)).imp λ{x y} hxy e=>hxy (List.append_cancel_left e))
    ·refine (ih [s] (j+1) λx hx=>hrow x (by rw [y0.mp hx];exact yT)).imp_of_mem λ{a b} ha hb hab x hx y hy e=>?_
     obtain ⟨o,_,rfl⟩:=zd.mp hx
     obtain ⟨o',_,rfl⟩:=zd.mp hy
     obtain ⟨n1,p1,rfl⟩:=dC ha
     obtain ⟨n2,p2,rfl⟩:=dC hb
     injection e with e _
     exact hab (by rw [e])
   ·refine List.Pairwise.imp_of_mem ?_ (List.nodup_range (n:=t-1))
    intro i j hi hj hij x hx y hy e
    obtain ⟨a,h1,h2⟩:=zU.mp hx
    obtain ⟨o,_,rfl⟩:=zd.mp h2
    obtain ⟨b,h3,h4⟩:=zU.mp hy
    obtain ⟨o',_,rfl⟩:=zd.mp h4
    obtain ⟨n1,p1,rfl⟩:=dC h1
    obtain ⟨n2,p2,rfl⟩:=dC h3
    injection e with e _
    have c1:=nz hl _ _ _ _ h1 [q] (by rw [<- hq];rfl) (i+j+2) (by lia)
    have c2:=nz hl _ _ _ _ h3 [q] (by rw [<- hq];rfl) (i+j+2) (by lia)
    rw [e,c2]at c1
    injection c1 with c1
    lia
end My
namespace L2
open PySem PySem.Spec PyProof.Rows
def kN (fr:List Nat) (tc:TT) (te:TE) (U:St) (J:It) (H1:Hp) (Q:VK):Prop:=
 ∀ p,H1 p=none-> ∃ W:Nat->Nat->List V->Hp->Prop,(∃ m,W 0 m [] (upd H1 p (.lst [])))/\ ∀ i m ys H,W i m ys H->H p=some (.lst ys)/\
  ((J.stop i H/\Q (.ref p) H)\/(J.go i H/\ys.length<sizeLine/\ ∀ x H',J.yld i H x H'-> ∃ T v1 v2,x=.ref T/\H' T=some (.tup [v1,v2])/\tc (some v1::some v2::bg fr U) H' λb H2=>if b=true then te (some v1::some v2::bg fr U) H2 λv H3=>
   H3 p=some (.lst ys)/\ ∃ m',m'<m/\W (i+1) m' (ys++[v]) (upd H3 p (.lst (ys++[v])))else ∃ m',m'<m/\W (i+1) m' ys H2))
def nR (wi:TI) (fr:List Nat) (tc:TT) (te:TE):TE:=λU H Q=>wi U H λJ H1=>kN fr tc te U J H1 Q
section
variable {X:Cx} {x x2:Str} {px px2 tpos pos fpos:Pos} {kk:Nat} {iter elt cnd:Expr} {scope sc0:Scope} {N0 ys:List Str} {fr:List Nat} {wi:TI} {tc:TT} {te:TE} {pins:List (Addr×Obj)} {U:St} {H:Hp} {s:Shared}
theorem lN {use:Option (Value->Sem Unit)} {Qv:Value->Shared->Prop} {Q:VK} (hcalm:X.calm=true) (hi:PI X (.Tuple [.Name x px,.Name x2 px2] kk tpos) iter wi) (hsc:X.env.scope=sc0) (hN:X.N=N0) (ok:hX sc0 N0 scope x x2 ys fr)
  (hT: ∀ C s H ex,PT (aV X x x2 ys scope C s H ex) cnd tc) (hE: ∀ C s H ex,PE (aV X x x2 ys scope C s H ex) elt te) (I:Inv X pins U H s) (h:nR wi fr tc te U H Q) (hs: ∀ v,foldedSetIterable iter X.env v=pure v)
  (fin: ∀ (p C:Addr) (H':Hp) (s':Shared) (m:Str->Option Value),Inv X pins U H' s'->s'.heap.Ns C m->H' C=none->C≠X.env.locals->X.s₀.heap.objs.size<=C->(∀ y c,X.env.cells.lookup y=some c->c≠C)->(∀ q∈X.pn++pins,q.1≠C)->Q (.ref p) H'->
   compPost (model X.prog X.w) X.A X.xe use Qv (.ref p) C (.ok .next) s'):
  wpAny (model X.prog X.w) X.A (comprehension (.ListComp elt [⟨.Tuple [.Name x px,.Name x2 px2] kk tpos,iter,[cnd],0⟩] scope pos) scope X.env fpos (newList []) false (eval iter X.env) use) Qv X.xe s:=by
 subst hsc hN
 have hkof: ∀ y,X.env.kindOf y=X.env.scope.names.lookup y:=λy=>rfl
 have hfree: ∀ y∈scope.names,y.2=.free-> ∃ c,X.env.cells.lookup y.1=some c:=λy hy e=>I.ok.has y.1 (.inl (ok.free y hy e))
 refine Bu (gs:=[]) rfl hs (bZ hfree) ok.kind ok.loc (thn (hi pins s U H _ I h) λv s1 h1=>thn h1 λitv s2 h2=>?_)
 obtain ⟨it,fp,tn,J,H2,e,I2,T,st2,f2,hp⟩:=h2
 subst e
 refine zZ (Br ok.nocell (by intro y hy;simp at hy) (λh₁ hns₁ hsb₁=>?_) ok.kind)
 dsimp only at hns₁ hsb₁ ⊢
 have I3:Inv X pins U (upd H2 s2.heap.objs.size (.lst [])) {s2 with heap:=s2.heap.push {cls:=.type "list",data:=.seq ([]:List Value).toArray}}:=
  I2.lnew (its:=[]) (ys:=[]) (t':=s2.toks) .nil (y9 _)
 have hf2: ∀ b∈fp,b<s2.heap.objs.size:=λb hb=>by
  obtain ⟨o,e,_⟩:=T.obj _ _ st2 b hb
  exact y2 e
 have hps:s2.heap.objs.size< (s2.heap.push {cls:=.type "list",data:=.seq ([]:List Value).toArray}).objs.size:=by rw [Aw];exact AZ _
 have W0:=hp s2.heap.objs.size I2.fresh
 have st3:tn 0 (s2.heap.push {cls:=.type "list",data:=.seq ([]:List Value).toArray}):=T.keep _ _ _ st2 λb hb o e=>yQ _ e
 generalize hpp:s2.heap.objs.size=p at I3 W0 hf2 hps ⊢
 generalize hh3:(s2.heap.push {cls:=.type "list",data:=.seq ([]:List Value).toArray})=h3 at I3 hns₁ hsb₁ hps st3 ⊢
 generalize hH3:upd H2 p (.lst [])=H3 at I3 W0
 have hold: ∀ b o,h3.get? b=some o->h₁.get? b=some o:=λb o e=>hsb₁.extBut b o (zi (y2 e)) (yQ _ e)
 have fH3: ∀ b∈fp,H3 b=none:=λb hb=>by
  rw [<- hH3,ak (zi (hf2 b hb))]
  exact (f2 b hb).1
 have hclos: ∀ y c,(bo X.env.cells scope.names).lookup y=some c->X.env.cells.lookup y=some c:=λy c e=>bz e
 have hcell3: ∀ y c,X.env.cells.lookup y=some c->c<h3.objs.size:=λy c e=>by
  obtain ⟨v,o,ho,_⟩:=I3.cell y c e
  exact y2 ho
 have hlt3:X.env.locals<h3.objs.size:=I3.lt
 have Yok:(aV X x x2 ys scope h3.objs.size {s2 with heap:=h3} H3 fp).Ok:={
  mod:=I.ok.mod
  kind:=ok.kind
  glob:=I.ok.glob
  blt:=I.ok.blt
  above:=yV _
  inj:=λy z c e1 e2=>I.ok.inj y z c (hclos _ _ e1) (hclos _ _ e2)
  has:=λy hk=>by
   have hfr:(y,NameKind.free)∈scope.names:=by
    have hm: ∃ k,(aY X.env.scope scope).lookup y=some k/\(k=.cell\/k=.free):=by
     rcases hk with hk | hk
     ·exact ⟨_,hk,.inl rfl⟩
     ·exact ⟨_,hk,.inr rfl⟩
    obtain ⟨k,hk,hkk⟩:=hm
    have hmem:=mem_of_lookup hk
    unfold aY at hmem
    obtain ⟨⟨n,k0⟩,hn,en⟩:=zd.mp hmem
    dsimp only at en
    split at en
    ·rename_i hc
     simp only [zM]at hc
     have hk0:k0=.free:=by simpa using hc.1.1
     cases en
     rw [<- hk0]
     exact hn
    ·cases en
     rcases hkk with e | e
     ·exact absurd e (ok.nocell _ hn)
     ·rw [<- e]
      exact hn
   obtain ⟨c,hc⟩:=hfree _ hfr rfl
   exact ⟨c,bK hc hfr⟩
  cab:=λy c hf _=>by cases hf
  hd:=I.ok.hd
  frames:=I.ok.frames
  stk:=.inl rfl
  exf:=λb hb=>⟨λe=>absurd (hf2 b hb) (by rw [e];exact BP.mpr (zR hps)),λy c e=>(f2 b hb).2.2.2.2.1 y c (hclos _ _ e)⟩
  bs:=λb o e=>⟨(I3.bs b o e).1,(I3.bs b o e).2⟩
  bsz:=zc I.ok.bsz I3.sz
  noex:=λb o e hb=>by
   rcases (f2 b hb).2.2.2.1 with q | q
   ·exact I.ok.noex b o e q
   ·have h1:b<X.base.objs.size:=y2 e
    exact absurd h1 (BP.mpr (zc I.ok.bsz q))
  exfs:=λb hb hm=>by
   rcases za.mp (I3.stkSub b hm)with q | q
   ·exact (f2 b hb).2.1 q
   ·exact (f2 b hb).2.2.1 q
  funs:=I3.stack
  frf:=I3.stkFree}
 have IY:Inv (aV X x x2 ys scope h3.objs.size {s2 with heap:=h3} H3 fp) [] (none::none::bg fr U) H3 {s2 with heap:=h₁,toks:=s2.toks+ ([]:List (Str×Value)).length}:={
  ok:=Yok
  os:=rfl
  bare:=I2.bare
  base:=Un.kept hold
  loc:=by
   refine ⟨_,hns₁,λi y v hy hv hvis=>?_⟩
   match i,hy,hv with
   | 0,_,hv=>cases hv
   | 1,_,hv=>cases hv
   | j+2,hy,hv=>
    have hy':ys[j]? =some y:=hy
    have hv':(bg fr U)[j]? =some (some v):=hv
    unfold bg at hv'
    rw [zo]at hv'
    obtain ⟨i0,hi0,hv0⟩:=Af.mp hv'
    have hz:(y,i0)∈ys.zip fr:=by
     refine AE.mpr ⟨j,?_⟩
     rw [AA]
     exact ⟨hy',hi0⟩
    obtain ⟨hn,hk,hk2⟩:=ok.sl _ hz
    have hU:U[i0]? =some (some v):=by
     cases e:U[i0]? with
     | none=>rw [e]at hv0;cases hv0
     | some o=>
      rw [e]at hv0
      rw [show o=some v from hv0]
    obtain ⟨m,hm,hl⟩:=I3.loc
    obtain ⟨u,ru,lk⟩:=hl i0 y v hn hU (.inr (.inl hk))
    refine ⟨u,ru,.inr ⟨.inl hk2,?_⟩⟩
    rcases lk with ⟨a,_⟩ | ⟨_,c,hc,hcell⟩
    ·have a':X.env.scope.names.lookup y=some .local:=a
     have hk':X.env.scope.names.lookup y=some .cell:=hk
     rw [hk']at a'
     cases a'
    ·have hfr:(y,NameKind.free)∈scope.names:=by
      have hmem:=mem_of_lookup hk2
      unfold aY at hmem
      obtain ⟨⟨n,k0⟩,hn0,en⟩:=zd.mp hmem
      dsimp only at en
      split at en
      ·rename_i hc0
       simp only [zM]at hc0
       have hk0:k0=.free:=by simpa using hc0.1.1
       cases en
       rw [<- hk0]
       exact hn0
      ·cases en
       exact absurd rfl (ok.nocell _ hn0)
     exact ⟨c,bK hc hfr,hcell.keeps hold⟩
  cell:=λy c e=>by
   obtain ⟨v,hv⟩:=I3.cell y c (hclos _ _ e)
   exact ⟨v,hv.keeps hold⟩
  free:=I3.fresh
  freeC:=λy c e=>I3.freeC y c (hclos _ _ e)
  pin:=λq hq=>by cases hq
  hok:=I3.hok.kept hold
  len:=by
   show (none::none::bg fr U).length=(x::x2::ys).length
   rw [zn,zn,zn,zn,ok.len]
   unfold bg
   rw [yP]}
 have hxl:(aV X x x2 ys scope h3.objs.size {s2 with heap:=h3} H3 fp).env.scope.names.lookup x=some .local:=ok.xl
 have hxl2:(aV X x x2 ys scope h3.objs.size {s2 with heap:=h3} H3 fp).env.scope.names.lookup x2=some .local:=ok.xl2
 have pgx:PG (aV X x x2 ys scope h3.objs.size {s2 with heap:=h3} H3 fp) (.Tuple [.Name x px,.Name x2 px2] kk tpos) (uD X.K 2 (jA (fc 0) (jA (fc 1) wA))):=
  cu hcalm (aJ (aw (i:=0) ok.nd rfl (.inl hxl) (.inr hxl)) (aJ (aw (i:=1) ok.nd rfl (.inl hxl2) (.inr hxl2)) bU))
 have ptl:=hT h3.objs.size {s2 with heap:=h3} H3 fp
 have pel:=hE h3.objs.size {s2 with heap:=h3} H3 fp
 obtain ⟨W,⟨m0,w0⟩,turn⟩:=W0
 have stat: ∀ {H':Hp},(∀ b∈fp,H' b=none)-> ∀ b∈fp,fC (aV X x x2 ys scope h3.objs.size {s2 with heap:=h3} H3 fp) [] H' b:=λhn b hb=>
  ⟨hn b hb,(Yok.exf b hb).1,Yok.exfs b hb,.inl hb,(Yok.exf b hb).2,λq hq=>by cases hq⟩
 have loop:codeAny (model X.prog X.w) X.A (.compLoop (.ListComp elt [⟨.Tuple [.Name x px,.Name x2 px2] kk tpos,iter,[cnd],0⟩] scope pos) 0 (.ref it) (.ref p) (compEnvC scope (bo X.env.cells scope.names) h3.objs.size X.env))
   (compPost (model X.prog X.w) X.A X.xe use Qv (.ref p) h3.objs.size) {s2 with heap:=h₁,toks:=s2.toks+ ([]:List (Str×Value)).length}:=by
  refine eB (λn s'=> ∃ i zs v0 w0 H',Inv (aV X x x2 ys scope h3.objs.size {s2 with heap:=h3} H3 fp) [] (v0::w0::bg fr U) H' s'/\tn i s'.heap/\(∀ b∈fp,H' b=none)/\W i n zs H') ?_ m0
   ⟨0,[],none,none,H3,IY,T.keep _ _ _ st3 λb hb o e=>hold b o e,fH3,w0⟩
  rintro n s5 ⟨i,zs,v0,wv0,H5,I5,st5,fr5,w5⟩
  obtain ⟨hacc,turn5⟩:=turn i n zs H5 w5
  rcases turn5 with ⟨stop,qn⟩ | ⟨go,hlen,step⟩
  ·refine thn (T.done (aV X x x2 ys scope h3.objs.size {s2 with heap:=h3} H3 fp) rfl rfl rfl hcalm i [] s5 _ H5 _ I5 (stat fr5) st5 stop) λr s6 ⟨hr,I6⟩=>?_
   subst hr
   obtain ⟨m6,n6,_⟩:=I6.loc
   refine fin p h3.objs.size H5 s6 m6 (I3.call' I6.os I6.base I6.hok I6.bare λb hb=>⟨(f2 b hb).2.2.2.1,(f2 b hb).2.1,(f2 b hb).2.2.2.2.1,(f2 b hb).2.2.2.2.2⟩) n6 I6.free (As hlt3) I3.sz (λy c e=>zi (hcell3 y c e)) (λq hq=>?_) qn
   exact zi (y2 (I3.pin q hq).1)
  ·refine thn (T.item (aV X x x2 ys scope h3.objs.size {s2 with heap:=h3} H3 fp) rfl rfl rfl hcalm i [] s5 _ H5 _ I5 (stat fr5) st5 go) λr s6 ⟨u,hr,h6⟩=>?_
   subst hr
   refine thn h6 λ_ s7 ⟨xv,H7,I7,r7,y7,st7,fr7⟩=>?_
   have I7':=I7.pinned (stat fr7) (T.obj _ _ st7)
   obtain ⟨T7,v1,v2,eT,hT7,step7⟩:=step xv H7 y7
   refine thn (pgx _ s7 _ H7 xv u (λU' H'=>U'=some v1::some v2::bg fr U/\H'=H7) I7' r7 ⟨T7,[v1,v2],eT,SqT.of hT7,rfl,v1,[v2],rfl,v2,[],rfl,rfl,rfl,rfl⟩) λ_ s8 ⟨U8,H8,I8,e8,e8'⟩=>?_
   subst e8 e8'
   refine thn (ptl _ s8 _ H8 _ I8 step7) λbb s8' ⟨H8',I8',hb⟩=>?_
   cases bb with
   | false=>
    obtain ⟨m',hm',w9⟩:=hb
    refine ⟨m',hm',i+1,zs,some v1,some v2,_,I8'.unpinned,T.keep _ _ _ st7 λb hb o e=>(I8'.pin (b,o) (yS _ (yS _ (a7 hb e)))).1,λb hb=>?_,w9⟩
    obtain ⟨o,e,d⟩:=T.obj _ _ st7 b hb
    exact (I8'.pin (b,o) (yS _ (yS _ (a7 hb e)))).2.1
   | true=>
   refine thn (pel _ s8' _ H8' _ I8' hb) λyv s9 ⟨v9,H9,I9,r9,hp9,m',hm',w9⟩=>?_
   refine thn (bu _ s9 _ H9 (.ref p) [v9] (.ref p) [yv] (λ_ H'=>H'=upd H9 p (.lst (zs++[v9]))) I9 rfl (.cons r9 .nil) ⟨p,zs,v9,rfl,rfl,hp9,hlen,rfl⟩) λ_ s10 ⟨_,H10,I10,_,e10⟩=>?_
   subst e10
   refine ⟨m',hm',i+1,zs++[v9],some v1,some v2,_,I10.unpinned,T.keep _ _ _ st7 λb hb o e=>(I10.pin (b,o) (yS _ (yS _ (a7 hb e)))).1,λb hb=>?_,w9⟩
   obtain ⟨o,e,d⟩:=T.obj _ _ st7 b hb
   exact (I10.pin (b,o) (yS _ (yS _ (a7 hb e)))).2.1
 exact BG loop (T.self X.A 0 _ _ _ (T.keep _ _ _ st3 λb hb o e=>hold b o e) loop)
theorem js (hcalm:X.calm=true) (hi:PI X (.Tuple [.Name x px,.Name x2 px2] kk tpos) iter wi) (hsc:X.env.scope=sc0) (hN:X.N=N0) (ok:hX sc0 N0 scope x x2 ys fr)
  (hT: ∀ C s H ex,PT (aV X x x2 ys scope C s H ex) cnd tc) (hE: ∀ C s H ex,PE (aV X x x2 ys scope C s H ex) elt te) (hs: ∀ v,foldedSetIterable iter X.env v=pure v:=by intro _;rfl):
  PE X (.ListComp elt [⟨.Tuple [.Name x px,.Name x2 px2] kk tpos,iter,[cnd],0⟩] scope pos) (nR wi fr tc te):=by
 intro pins s U H Q I h
 rw [Dk]
 refine lN (use:=none) (Qv:=EP X pins U Q) (Q:=Q) hcalm hi hsc hN ok hT hE I h hs λp C H' s' m I' hn h0 h1 h2 h3 h4 q=>?_
 refine ⟨m,hn,λh' sb=>⟨.ref p,H',I'.turned (t':=s'.toks) (λb o hb e=>sb.extBut b o hb e) h0 (zT (zT h1)) (.inr h2) h3 h4,rfl,q⟩⟩
end
end L2
namespace My
open PySem L2
abbrev NN:=List (Nat×Nat)
noncomputable def toK (D:NN):List (Key×V):=D.map λq=>((Sum.inl ((q.1:Nat):Int):Key),V.int ((q.2:Nat):Int))
noncomputable def lkN:NN->Nat->Option Nat
 | [],_=>none
 | q::r,l=>if q.1=l then some q.2 else lkN r l
noncomputable def iQ (D:NN) (l:Nat):Bool:=D.any λq=>decide (q.1=l)
noncomputable def j6 (D:NN) (l m:Nat):NN:=if iQ D l=true then D.map (λq=>if q.1=l then (q.1,m)else q)else D++[(l,m)]
noncomputable def SG (g:Nat->Nat) (D:NN):Nat:=aW (D.map λq=>q.2*g q.1)
theorem inl_inj {a b:Nat}:((Sum.inl ((a:Nat):Int):Key)=Sum.inl ((b:Nat):Int))↔a=b:=⟨λh=>Int.ofNat.inj (DG h),λh=>by rw [h]⟩
theorem nN: ∀ (D:NN) (l:Nat),bG (toK D) (Sum.inl ((l:Nat):Int))=(lkN D l).map λm=>V.int ((m:Nat):Int)
 | [],_=>rfl
 | q::r,l=>by
  by_cases c:q.1=l
  ·rw [show toK (q::r)=((Sum.inl ((q.1:Nat):Int):Key),V.int ((q.2:Nat):Int))::toK r from rfl,bD (inl_inj.mpr c)]
   unfold lkN
   rw [yW c];rfl
  ·rw [show toK (q::r)=((Sum.inl ((q.1:Nat):Int):Key),V.int ((q.2:Nat):Int))::toK r from rfl,bE (λz=>c (inl_inj.mp z)),nN r l]
   unfold lkN
   rw [yU c]
   cases r <;> rfl
theorem tI (D:NN) (l m:Nat):bH (toK D) (Sum.inl ((l:Nat):Int)) (.int ((m:Nat):Int))=toK (j6 D l m):=by
 unfold bH j6
 have e:((toK D).any λkv=>decide (kv.1=Sum.inl ((l:Nat):Int)))=iQ D l:=by
  unfold toK iQ
  rw [List.any_map]
  refine congrArg (λf=>D.any f) (funext λq=>?_)
  exact B3.mpr inl_inj
 rw [e]
 cases iQ D l with
 | false=>
  rw [yU (by decide),yU (by decide)]
  unfold toK
  rw [zE];rfl
 | true=>
  rw [yW rfl,yW rfl]
  unfold toK
  rw [zO,zO]
  refine AT λq _=>?_
  show (if (Sum.inl ((q.1:Nat):Int):Key)=Sum.inl ((l:Nat):Int)then _ else _)=_
  show _=((Sum.inl (((if q.1=l then (q.1,m)else q).1:Nat):Int):Key),V.int (((if q.1=l then (q.1,m)else q).2:Nat):Int))
  by_cases c:q.1=l
  ·rw [yW (inl_inj.mpr c),yW c]
  ·rw [yU (λz=>c (inl_inj.mp z)),yU c]
theorem iP (D:NN) (l:Nat):iQ D l=true↔l∈D.map (·.1):=by
 unfold iQ
 rw [Be,zd]
 constructor
 ·rintro ⟨q,h1,h2⟩;exact ⟨q,h1,zf h2⟩
 ·rintro ⟨q,h1,h2⟩;exact ⟨q,h1,zq h2⟩
theorem jq (D:NN) (l m:Nat):(j6 D l m).map (·.1)=if l∈D.map (·.1)then D.map (·.1)else D.map (·.1)++[l]:=by
 unfold j6
 by_cases c:l∈D.map (·.1)
 ·rw [yW ((iP D l).mpr c),yW c,zO]
  refine AT λq _=>?_
  show (if q.1=l then (q.1,m)else q).1=q.1
  split <;> rfl
 ·rw [yU (λz=>c ((iP D l).mp z)),yU c,zE];rfl
theorem uc {D:NN} {l m:Nat} (h:(D.map (·.1)).Nodup):((j6 D l m).map (·.1)).Nodup:=by
 rw [jq]
 split
 ·exact h
 ·rename_i c
  rw [CG]
  refine ⟨h,Ad.mpr ⟨λz=>(by cases z),Bh⟩,λa ha b hb e=>c ?_⟩
  have hbl:b=l:=by simpa using hb
  rw [<- hbl,<- e];exact ha
theorem wL (g:Nat->Nat) (l m:Nat): ∀ {D:NN},(D.map (·.1)).Nodup->SG g (j6 D l m) + (lkN D l).getD 0*g l=SG g D+m*g l:=by
 have rep: ∀ {D:NN},(D.map (·.1)).Nodup->iQ D l=true->SG g (D.map λq=>if q.1=l then (q.1,m)else q) + (lkN D l).getD 0*g l=SG g D+m*g l:=by
  intro D
  induction D with
  | nil=>intro _ h;cases h
  | cons q r ih=>
   intro hn hh
   have hn':=Ad.mp (show (q.1::r.map (·.1)).Nodup from hn)
   by_cases c:q.1=l
   ·have hno: ¬ l∈r.map (·.1):=by rw [<- c];exact hn'.1
    have hsame:(r.map λq=>if q.1=l then (q.1,m)else q)=r:=by
     have: ∀ x∈r,(if x.1=l then (x.1,m)else x)=x:=λx hx=>yU λe=>hno (zd.mpr ⟨x,hx,e⟩)
     rw [AT this];exact List.map_id _
    rw [zQ,hsame,yW c]
    unfold lkN
    rw [yW c]
    show (m*g q.1+SG g r) +q.2*g l=(q.2*g q.1+SG g r) +m*g l
    rw [c];lia
   ·have hh':iQ r l=true:=by
     rw [iP]at hh ⊢
     rcases za.mp (show l∈q.1::r.map (·.1)from hh)with e | e
     ·exact absurd e.symm c
     ·exact e
    have:=ih hn'.2 hh'
    rw [zQ,yU c]
    unfold lkN
    rw [yU c]
    show (q.2*g q.1+SG g (r.map λq=>if q.1=l then (q.1,m)else q)) + (lkN r l).getD 0*g l=(q.2*g q.1+SG g r) +m*g l
    lia
 have lkno: ∀ {D:NN},iQ D l=false->lkN D l=none:=by
  intro D
  induction D with
  | nil=>intro _;rfl
  | cons q r ih=>
   intro h
   have h:(decide (q.1=l)||iQ r l)=false:=h
   rw [Bool.or_eq_false_iff]at h
   unfold lkN
   rw [yU (of_decide_eq_false h.1)]
   exact ih h.2
 intro D hn
 unfold j6
 cases c:iQ D l with
 | true=>rw [yW rfl];exact rep hn c
 | false=>
  rw [yU (by decide),lkno c]
  show aW ((D++[(l,m)]).map _) +0*g l=_
  rw [zE,cN]
  show SG g D+ (m*g l+0) +0*g l=_
  lia
theorem rQ: ∀ (n:Nat) (l:List Nat),l.Nodup->(∀ x∈l,x<n)->l.length<=n:=by
 intro n
 induction n with
 | zero=>intro l _ h;cases l with
  | nil=>exact yV _
  | cons a r=>exact absurd (h a yT) (A9 _)
 | succ n ih=>
  intro l hn h
  have h1:=ih (l.filter λx=>decide (x≠n)) (hn.sublist (List.filter_sublist)) λx hx=>by
   have:=zN.mp hx
   have h2:=h x this.1
   have h3:x≠n:=zf this.2
   lia
  have h2:l.length<=(l.filter λx=>decide (x≠n)).length+1:=by
   clear h ih h1
   induction l with
   | nil=>exact y9 _
   | cons a r ih2=>
    have hn':=Ad.mp hn
    by_cases c:a=n
    ·have:(r.filter λx=>decide (x≠n))=r:=List.filter_eq_self.mpr λx hx=>zq λe=>hn'.1 (by rw [c,<- e];exact hx)
     rw [Dw,yU (by rw [A6];exact λz=>z c),this]
     exact yV _
    ·rw [Dw,yW (zq c)]
     have:=ih2 hn'.2
     rw [zn,zn];lia
  lia
noncomputable def qG (N:Nat->Nat) (g:Nat->Nat) (q:Nat×Nat):Nat:=q.2*aW ((List.range q.1).map λf=>N (f+1) *g (q.1- (f+1)))
theorem wM {D:NN} {q:Nat×Nat} (h:q∈D):q.2<=SG (λ_=>1) D:=by
 unfold SG
 induction D with
 | nil=>cases h
 | cons a r ih=>
  show q.2<=a.2*1+aW (r.map _)
  rcases za.mp h with rfl | h
  ·lia
  ·have:=ih h
   lia
theorem jk {α:Type} {f g:α->Nat}: ∀ {l:List α},(∀ x∈l,f x<=g x)->aW (l.map f)<=aW (l.map g)
 | [],_=>yV _
 | a::r,h=>by
  show f a+aW (r.map f)<=g a+aW (r.map g)
  have h1:=h a yT
  have h2:=jk (l:=r) λx hx=>h x (yY _ hx)
  lia
theorem ji {α:Type} {f:α->Nat} (B:Nat): ∀ (l:List α),aW (l.map λx=>f x*B)=aW (l.map f) *B
 | []=>(Nat.zero_mul _).symm
 | a::r=>by
  show f a*B+aW (r.map λx=>f x*B)=(f a+aW (r.map f)) *B
  rw [ji B r,Nat.add_mul]
theorem pM {N:Nat->Nat} {B:Nat} (hN: ∀ k,k<=24->N k<=B) {D:NN} (hD: ∀ q∈D,q.1<=24):aW (D.map (qG N λ_=>1))<=SG (λ_=>1) D* (24*B):=by
 unfold SG
 rw [<- ji]
 refine jk λq hq=>?_
 show q.2*_<=q.2*1* (24*B)
 rw [Nat.mul_one]
 refine Nat.mul_le_mul_left _ (zc (gV (B:=B) λf hf=>?_) ?_)
 ·have:=zI.mp hf
  rw [Nat.mul_one]
  exact hN _ (by have:=hD q hq;lia)
 ·rw [At];exact BS _ (hD q hq)
theorem jE {J:It} {α:Type} {as:List α} {A:α->V->Prop} {xs:List V} {fr:List Nat} {tc:TT} {te:TE} {U:St} {H1:Hp} {Q:VK} (hn:xs.length<=1000) (hP:Paired A as xs)
  (hgo: ∀ i H,Same H1 H->i<xs.length->J.go i H) (hst: ∀ H,Same H1 H->J.stop xs.length H) (hy: ∀ i H v H',Same H1 H->J.yld i H v H'->H'=H/\xs[i]? =some v) (c:α->Bool)
  (R:Hp->α->V->Prop) (mono: ∀ {H H':Hp} {a:α} {v:V},TK H H'->R H a v->R H' a v)
  (hte: ∀ a v H,a∈as->A a v->Same H1 H-> ∃ T v1 v2,v=.ref T/\H T=some (.tup [v1,v2])/\(∀ k:Bool->Hp->Prop,k (c a) H->tc (some v1::some v2::bg fr U) H k)/\
   (c a=true-> ∀ k:VK,(∀ u H',Same H H'->R H' a u->k u H')->te (some v1::some v2::bg fr U) H k))
  (hd: ∀ p zs H',H1 p=none->Same H1 H'->H' p=some (.lst zs)->Paired (R H') (as.filter c) zs->Q (.ref p) H'):kN fr tc te U J H1 Q:=by
 intro p hp
 have hl:as.length=xs.length:=ze hP
 refine ⟨λi m zs H=>i<=xs.length/\m=xs.length-i/\Same H1 H/\H p=some (.lst zs)/\zs.length<=i/\Paired (R H) ((as.take i).filter c) zs,⟨_,y9 _,rfl,ai hp _,ad,yV _,.nil⟩,?_⟩
 rintro i m zs H ⟨hi,hm,sm,gp,hz,hT⟩
 refine ⟨gp,?_⟩
 by_cases e:i=xs.length
 ·subst e
  rw [<- hl,zG]at hT
  exact .inl ⟨hst H sm,hd p zs H hp sm gp hT⟩
 ·have hlt:i<xs.length:=by lia
  refine .inr ⟨hgo i H sm hlt,ay (by lia),λv H' hv=>?_⟩
  obtain ⟨rfl,hv2⟩:=hy i H v H' sm hv
  obtain ⟨a,ha,hA⟩:=aD hP hv2
  have etk:(as.take (i+1)).filter c=(as.take i).filter c++(if c a then [a]else []):=Dv c as i a ha
  obtain ⟨T,v1,v2,e1,e2,g1,g2⟩:=hte a v _ (y3 ha) hA sm
  refine ⟨T,v1,v2,e1,e2,g1 _ ?_⟩
  by_cases hc:c a=true
  ·rw [yW hc]at etk
   show if c a=true then _ else _
   rw [yW hc]
   refine g2 hc _ λu H2 s2 r=>?_
   have gp2:=s2 _ _ gp
   have tk:TK H2 (upd H2 p (.lst (zs++[u]))):=TK.lst gp2
   refine ⟨gp2,xs.length- (i+1),by lia,by lia,rfl,?_,ad,by rw [yZ];show zs.length+1<=i+1;lia,?_⟩
   ·intro b o hb
    rw [ak (aj hb hp)]
    exact s2 _ _ (sm _ _ hb)
   ·rw [etk]
    exact A3 (Paired.mapP hT λ_ _ r=>mono ((aL s2).trans tk) r) (mono tk r)
  ·rw [yU hc,zy]at etk
   show if c a=true then _ else _
   rw [yU hc]
   exact ⟨xs.length- (i+1),by lia,by lia,rfl,sm,gp,by lia,by rw [etk];exact hT⟩
def LC (bk:Bk) (H:Hp) (cl:Addr) (n:Nat):Prop:= ∃ ds:List V,H cl=some (.lst ds)/\ds.length=n/\ ∀ k,1<=k->k<n-> ∃ d kvs,ds[k]? =some (.ref d)/\H d=some (.dK kvs)/\ ∀ s∈bk.sorts,bG kvs (Sum.inr (Srt.name s))=some (.int ((Rn bk [s.name] k:Nat):Int))
theorem LC.keep {bk:Bk} {H H':Hp} {cl:Addr} {n:Nat} (s:Same H H') (h:LC bk H cl n):LC bk H' cl n:=by
 obtain ⟨ds,e,l,g⟩:=h
 refine ⟨ds,s _ _ e,l,λk h1 h2=>?_⟩
 obtain ⟨d,kvs,g1,g2,g3⟩:=g k h1 h2
 exact ⟨d,kvs,g1,s _ _ g2,g3⟩
def RWt (H:Hp) (q:Nat×Nat) (z:V):Prop:= ∃ T,z=.ref T/\H T=some (.tup [.int ((q.1:Nat):Int),.int ((q.2:Nat):Int)])
inductive jT  (vs:List V) (H:Hp) (Q:VK) (E_:XK):Prop
 | mk: ∀ cl pa bk nms n t,(vs=[.ref cl,.ref pa,.int ((t:Nat):Int)])->(BkW bk)->(LC bk H cl n)->(H pa=some (.tup (List.map V.str nms)))->((∀ x∈nms,∃ s,s∈bk.sorts/\Srt.name s=x))->(nms.length<=3)->(t<n)->(t<=24)->(n<=100)->(∀ H',Same H H'->Q (.int ((Rn bk nms t:Nat):Int)) H')->jT vs H Q E_
abbrev sZ:List Str:=["counts","parts","size","rows","name","longer","left","many","first"]
theorem scLRows:aI sZ ["counts","parts","size"] (am j0):=fsc
theorem rH (F:Fun K "_law_rows" "_law_rows" j0 f fd) (G:Gb mg) (hlist:mg "list"=none) (hsum:mg "sum"=none):FnOk P w K mg base CX0 1 f fd ["counts","parts","size"] jT:=by
 refine F.ok scLRows (λvs H Q E h=>?_) (λcdv A outer s H vs Q E hr h=>?_)
 ·obtain ⟨cl,pa,bk,nms,n,t,rfl,_⟩:=h
  rfl
 obtain ⟨cl,pa,bk,nms,n,t,rfl,hok,hLC,hpa,hnm,hl3,htn,ht24,hn100,q⟩:=h
 have hu:=dL hr
 have hfew:=hok.two
 refine ⟨_,ah (ao (i:=3) scLRows.nd rfl (Or.inl rfl) (aX (aa (aN (aa (pv 2) (aa af ae))) ae)))
  (ah (aU zw rfl (ce (pv 1)) (aw (i:=4) scLRows.nd rfl (Or.inl rfl))
   (ah (ao (i:=5) scLRows.nd rfl (Or.inl rfl) ed)
   (ah (aU zw rfl (be (pv 3)) (cu rfl (aJ (aw (i:=6) scLRows.nd rfl (Or.inl rfl)) (aJ (aw (i:=7) scLRows.nd rfl (Or.inl rfl)) bU)))
    (al (aU zw rfl (eM rfl G.range (aa af (aa (aq aQ (pv 6) af) ae))) (aw (i:=8) scLRows.nd rfl (Or.inl rfl))
     (al (a8 (dB (xw (bJ hu (au (r:=cf K) aR (pv 0) (pv 8) (λ_ _=>rfl)) (pv 4) (λ_ _=>rfl)) af))
      (al (cy hu (pv 5) (aq cx (pv 6) (pv 8)) (aq aQ (rh hu (pv 5) (aq cx (pv 6) (pv 8)) af ⟨rfl,rfl,rfl,rfl⟩) (aq kg (pv 7) (bJ hu (au (r:=cf K) aR (pv 0) (pv 8) (λ_ _=>rfl)) (pv 4) (λ_ _=>rfl)))) rfl)) aM)))))
   (al (ao (i:=3) scLRows.nd rfl (Or.inl rfl) (j8 rfl rfl hlist (pv 5)))))))
  (al (aH (ax (gE rfl) rfl hsum (by decide +kernel) (aa (js (sc0:=am j0) (N0:=sZ) (ys:=[]) (fr:=[]) rfl (be (pv 3)) rfl rfl
    ⟨rfl,by decide +kernel,by decide +kernel,by decide +kernel,by decide +kernel,by decide +kernel,by decide +kernel,rfl,by decide +kernel⟩
    (λC s H ex=>dB (fi (pv 0) af)) (λC s H ex=>pv 1)) ae))))),?_⟩
 refine ⟨_,rfl,(by show 2<=sizeLine;decide),λt0 ht0=>?_⟩
 have s0:=ai ht0 (.tup [.int ((t:Nat):Int),.int 1])
 have g0:(upd H t0 (.tup [.int ((t:Nat):Int),.int 1])) t0=some (.tup [.int ((t:Nat):Int),.int 1]):=ad
 generalize upd H t0 (.tup [.int ((t:Nat):Int),.int 1])=H0 at s0 g0 ⊢
 refine ⟨(by show 1<=sizeLine;decide),λrl hrl=>?_⟩
 have s1:=ai hrl (.lst [.ref t0])
 have g1:(upd H0 rl (.lst [.ref t0])) rl=some (.lst [.ref t0]):=ad
 have S1:Same H (upd H0 rl (.lst [.ref t0])):=s0.trans s1
 have g01:=s1 _ _ g0
 generalize upd H0 rl (.lst [.ref t0])=H1 at s1 g1 S1 g01 ⊢
 refine ⟨_,rfl,pa,rfl,⟨_,SqT.of (S1 _ _ hpa)⟩,?_⟩
 have hlV:(nms.map V.str).length=nms.length:=yP _
 refine cL (xs:=nms.map V.str) (λi U H'=>i<=nms.length/\ ∃ o4 o5 o6 o7 o8 rl zs D,U=[some (.ref cl),some (.ref pa),some (.int ((t:Nat):Int)),some (.ref rl),o4,o5,o6,o7,o8]/\Same H H'/\H' rl=some (.lst zs)/\Paired (RWt H') D zs/\
   SG (Rl bk (nms.drop i)) D=Rl bk nms t/\(∀ q∈D,q.1<=t)/\D.length<=25/\SG (λ_=>1) D<=2^ (410*i))
  ⟨y9 _,none,none,none,none,none,rl,_,[(t,1)],rfl,S1,g1,.cons ⟨t0,rfl,g01⟩ .nil,?_,?_,by show 1<=25;decide,by show 1*1+0<=1;decide⟩
  (λi U H' _ h=>by obtain ⟨_,_,_,_,_,_,_,_,_,_,sm,_⟩:=h;exact SqT.of (sm _ _ hpa)) ?_ ?_
 ·show 1*Rl bk nms t+0=Rl bk nms t
  lia
 ·intro q hq
  have:q=(t,1):=by simpa using hq
  rw [this];exact yV _
 ·rintro i x U H2 hx ⟨hi,o4,o5,o6,o7,o8,rl2,zs,D,rfl,S2,gr2,hD,hSG,hle,hl25,hmass⟩
  rw [zo]at hx
  obtain ⟨nm,hnmi,rfl⟩: ∃ nm,nms[i]? =some nm/\x=.str nm:=by
   cases h:nms[i]? with
   | none=>rw [h]at hx;cases hx
   | some nm=>rw [h]at hx;exact ⟨nm,rfl,(zj hx).symm⟩
  have hil:i<nms.length:=(yX.mp hnmi).1
  obtain ⟨sr,hsr,hsrn⟩:=hnm nm (y3 hnmi)
  have hrest:nms.drop i=nm::nms.drop (i+1):=by
   have h:=yX.mp hnmi
   rw [zJ h.1,h.2]
  have lz:D.length=zs.length:=ze hD
  refine λld hld=>?_
  have s3:=ai hld (.dK [])
  have g3:(upd H2 ld (.dK [])) ld=some (.dK []):=ad
  have hld0:H ld=none:=S2.free hld
  have nrl:rl2≠ld:=λz=>by rw [<- z,gr2]at hld;cases hld
  have S3:Same H2 (upd H2 ld (.dK [])):=s3
  generalize upd H2 ld (.dK [])=H3 at s3 g3 S3 ⊢
  refine ⟨_,rfl,rl2,rfl,⟨_,SqL.of (S3 _ _ gr2)⟩,?_⟩
  have hLCof: ∀ H',Kp ld H3 H'->LC bk H' cl n:=λH' kp=>by
   obtain ⟨ds,e,ln,gg⟩:=hLC
   refine ⟨ds,kp _ _ (S3 _ _ (S2 _ _ e)) (aj e hld0),ln,λk h1 h2=>?_⟩
   obtain ⟨d,kvs,e1,e2,e3⟩:=gg k h1 h2
   exact ⟨d,kvs,e1,kp _ _ (S3 _ _ (S2 _ _ e2)) (aj e2 hld0),e3⟩
  refine bL (xs:=zs) (λj U H'=>j<=zs.length/\ ∃ o6 o7 o8 D2,U=[some (.ref cl),some (.ref pa),some (.int ((t:Nat):Int)),some (.ref rl2),some (.str nm),some (.ref ld),o6,o7,o8]/\Kp ld H3 H'/\H' ld=some (.dK (toK D2))/\(D2.map (·.1)).Nodup/\(∀ q∈D2,q.1<=t)/\
    ∀ g,SG g D2=aW ((D.take j).map (qG (Rn bk [nm]) g)))
   ⟨y9 _,o6,o7,o8,[],rfl,Kp.refl,g3,Bh,λq h=>(by cases h),λg=>rfl⟩ (λj U H' _ h=>by obtain ⟨_,_,_,_,_,_,kp,_⟩:=h;exact SqL.of (kp _ _ (S3 _ _ gr2) nrl)) ?_ ?_
  ·rintro j x U H4 hx ⟨hj,o6',o7',o8',D2,rfl,k4,g4,hnd,hle4,hsg4⟩
   have hjl:j<zs.length:=(yX.mp hx).1
   obtain ⟨qq,hqq,T,rfl,hT⟩:=aD hD hx
   obtain ⟨l,m⟩:=qq
   have hqm:=y3 hqq
   have hlt:l<=t:=hle _ hqm
   have hmle:m<=2^ (410*i):=zc (wM hqm) hmass
   have nT:T≠ld:=λz=>by have:=S3 _ _ hT;rw [z,g3]at this;cases this
   have hT4:=k4 _ _ (S3 _ _ hT) nT
   refine ⟨T,_,rfl,SqT.of hT4,rfl,_,_,rfl,_,_,rfl,rfl,?_⟩
   refine ⟨_,rfl,_,_,rfl,rfl,1,_,rfl,⟨by decide,by decide,?_,?_⟩,?_⟩
   ·show -(2^62)<=((l:Nat):Int) +1
    lia
   ·show ((l:Nat):Int) +1<2^62
    lia
   rw [show (((l:Nat):Int) +1-1).toNat=l by lia]
   refine bV (λk U H'=>k<=l/\ ∃ o8 D3,U=[some (.ref cl),some (.ref pa),some (.int ((t:Nat):Int)),some (.ref rl2),some (.str nm),some (.ref ld),some (.int ((l:Nat):Int)),some (.int ((m:Nat):Int)),o8]/\Kp ld H3 H'/\H' ld=some (.dK (toK D3))/\(D3.map (·.1)).Nodup/\(∀ q∈D3,q.1<=t)/\
     ∀ g,SG g D3=SG g D2+m*aW ((List.range k).map λf=>Rn bk [nm] (f+1) *g (l- (f+1))))
    ⟨y9 _,o8',D2,rfl,k4,g4,hnd,hle4,λg=>by show SG g D2=SG g D2+m*0;lia⟩ ?_ ?_
   ·rintro k U H5 hk ⟨_,o8'',D3,rfl,k5,g5,hnd5,hle5,hsg5⟩
    rw [show (1+ (k:Int))=((k+1:Nat):Int) by lia]
    obtain ⟨ds,e1,e2,e3⟩:=hLCof H5 k5
    obtain ⟨dd,kvs,e4,e5,e6⟩:=e3 (k+1) (by lia) (by lia)
    have eval:=e6 sr hsr
    rw [hsrn]at eval
    have hget:DGet H5 dd (.str nm) (some (.int ((Rn bk [nm] (k+1):Nat):Int))):=by rw [<- eval];exact DGet.k (k:=Sum.inr nm) e5
    have hat:atI ds (((k+1:Nat)):Int)=some (.ref dd):=aE e4
    refine ⟨_,rfl,_,rfl,cl,_,_,.ref dd,rfl,rfl,SqL.of e1,hat,_,rfl,dd,_,rfl,hget,_,_,rfl,rfl,_,rfl,?_⟩
    have hsucc: ∀ g:Nat->Nat,aW ((List.range (k+1)).map λf=>Rn bk [nm] (f+1) *g (l- (f+1)))=aW ((List.range k).map λf=>Rn bk [nm] (f+1) *g (l- (f+1))) +Rn bk [nm] (k+1) *g (l- (k+1)):=λg=>by
     rw [Bm,zE,cN]
     show _+ (_+0)=_
     rw [DC]
    refine bO (λc=>?_) (λc=>?_)
    ·have hN:=jM hfew (t:=k+1) (row:=[nm]) (by lia) (by show 1<=3;decide)
     have p400:(2:Nat) ^400<=2^2000:=AK (by decide) (by decide)
     have pm:(2:Nat) ^ (410*i) <2^2000:=Nat.pow_lt_pow_right (by decide) (by lia)
     refine ⟨_,rfl,ld,rfl,.inl ⟨_,.inl g5⟩,_,rfl,_,rfl,_,_,rfl,rfl,?_⟩
     rw [show (V.int (((l:Nat):Int) - ((k+1:Nat):Int)))=V.int ((l- (k+1):Nat):Int)from congrArg V.int (show ((l:Nat):Int) - ((k+1:Nat):Int)=((l- (k+1):Nat):Int) by lia)]
     refine ⟨_,DGet.k (k:=Sum.inl ((l- (k+1):Nat):Int)) g5,_,rfl,_,rfl,_,rfl,cl,_,_,.ref dd,rfl,rfl,SqL.of e1,hat,_,rfl,dd,_,rfl,hget,_,_,rfl,rfl,mX (AY hmle pm) (zA hN p400),?_⟩
     rw [nN]
     have esum: ∀ o:Option Nat,(o.map λm=>V.int ((m:Nat):Int)).getD (.int 0)=V.int ((o.getD 0:Nat):Int):=λo=>by cases o <;> rfl
     rw [esum]
     refine ⟨_,_,rfl,rfl,_,rfl,_,rfl,_,rfl,_,_,rfl,rfl,?_⟩
     rw [show (V.int (((l:Nat):Int) - ((k+1:Nat):Int)))=V.int ((l- (k+1):Nat):Int)from congrArg V.int (show ((l:Nat):Int) - ((k+1:Nat):Int)=((l- (k+1):Nat):Int) by lia)]
     rw [show (V.int ((((lkN D3 (l- (k+1))).getD 0:Nat):Int) + (((m:Nat):Int) * ((Rn bk [nm] (k+1):Nat):Int))))=V.int (((lkN D3 (l- (k+1))).getD 0+m*Rn bk [nm] (k+1):Nat):Int)from congrArg V.int (show (((lkN D3 (l- (k+1))).getD 0:Nat):Int) + ((m:Nat):Int) * ((Rn bk [nm] (k+1):Nat):Int)=_ by rw [Int.natCast_add,DF])]
     have hD3:D3.length<=25:=by
      have:=rQ 25 (D3.map (·.1)) hnd5 λx hx=>by obtain ⟨q,h1,h2⟩:=zd.mp hx;have:=hle5 q h1;lia
      rw [yP]at this;exact this
     have hlk:(toK D3).length=D3.length:=yP _
     refine ⟨ld,_,rfl,DPut.k (k:=Sum.inl ((l- (k+1):Nat):Int)) g5 (ay (by lia)),hk,_,j6 D3 (l- (k+1)) ((lkN D3 (l- (k+1))).getD 0+m*Rn bk [nm] (k+1)),rfl,?_,by rw [ad,tI],uc hnd5,?_,?_⟩
     ·intro b o hb hne
      rw [ak hne];exact k5 b o hb hne
     ·intro q hq
      have hmem:q.1∈(j6 D3 (l- (k+1)) ((lkN D3 (l- (k+1))).getD 0+m*Rn bk [nm] (k+1))).map (·.1):=Cb hq
      rw [jq]at hmem
      have hcase:q.1∈D3.map (·.1)\/q.1=l- (k+1):=by
       split at hmem
       ·exact .inl hmem
       ·rcases y8.mp hmem with h | h
        ·exact .inl h
        ·exact .inr (by simpa using h)
      rcases hcase with h | h
      ·obtain ⟨q',h1,h2⟩:=zd.mp h
       rw [<- h2];exact hle5 q' h1
      ·lia
     ·intro g
      have:=wL g (l- (k+1)) ((lkN D3 (l- (k+1))).getD 0+m*Rn bk [nm] (k+1)) hnd5
      rw [Nat.add_mul]at this
      rw [hsucc g,Nat.mul_add,<- Nat.mul_assoc,<- Bd,<- hsg5 g]
      lia
    ·refine ⟨hk,_,D3,rfl,k5,g5,hnd5,hle5,λg=>?_⟩
     have hz:Rn bk [nm] (k+1)=0:=by
      by_cases z:Rn bk [nm] (k+1)=0
      ·exact z
      ·exact absurd (zq (show (0:Int) < ((Rn bk [nm] (k+1):Nat):Int) by lia)) c
     rw [hsucc g,hz,Nat.zero_mul,DC]
     exact hsg5 g
   ·rintro U H5 ⟨_,o8'',D3,rfl,k5,g5,hnd5,hle5,hsg5⟩
    refine ⟨hjl,_,_,_,D3,rfl,k5,g5,hnd5,hle5,λg=>?_⟩
    rw [hsg5 g,hsg4 g,zz,hqq,zE,cN]
    show _+_=_+ (qG (Rn bk [nm]) g (l,m) +0)
    rw [DC];rfl
  ·rintro U H4 ⟨_,o6',o7',o8',D2,rfl,k4,g4,hnd,hle4,hsg4⟩
   rw [<- lz,zG]at hsg4
   refine ⟨_,rfl,ld,_,rfl,g4,λp zs2 H5 hp s5 gp hz2=>?_⟩
   have hK4: ∀ b o,H b=some o->H4 b=some o:=λb o h=>k4 _ _ (S3 _ _ (S2 _ _ h)) (aj h hld0)
   have hD2:D2.length<=25:=by
    have:=rQ 25 (D2.map (·.1)) hnd λx hx=>by obtain ⟨q,h1,h2⟩:=zd.mp hx;have:=hle4 q h1;lia
    rw [yP]at this;exact this
   have hPz:Paired (RWt H5) D2 zs2:=by
    unfold toK at hz2
    clear hsg4 hle4 hnd g4 hD2 gp
    induction D2 generalizing zs2 with
    | nil=>cases hz2;exact .nil
    | cons q r ih=>
     rw [zQ]at hz2
     cases hz2 with
     | cons a b=>exact .cons a (ih _ b)
   refine ⟨hil,_,_,_,_,_,p,zs2,D2,rfl,λb o h=>s5 _ _ (hK4 b o h),gp,hPz,?_,hle4,hD2,?_⟩
   ·rw [hsg4,<- hSG,hrest]
    unfold SG
    rfl
   ·rw [hsg4]
    refine zc (pM (B:=2^400) (λk hk=>zR (jM hfew hk (by show 1<=3;decide))) λq hq=>zc (hle q hq) ht24) ?_
    refine zc (Nat.mul_le_mul hmass (show 24*2^400<=2^410 by decide +kernel)) ?_
    rw [<- Nat.pow_add]
    exact AK (by decide) (by lia)
 ·rintro U H2 ⟨_,o4,o5,o6,o7,o8,rl2,zs,D,rfl,S2,gr2,hD,hSG,hle,hl25,hmass⟩
  rw [hlV,List.drop_length]at hSG
  have lz:D.length=zs.length:=ze hD
  refine ⟨_,rfl,rl2,rfl,⟨_,SqL.of gr2⟩,?_⟩
  refine jE (by lia) hD (el gr2) (eh gr2) (gQ gr2) (λq=>decide (q.1=0)) (λ_ q v=>v=.int ((q.2:Nat):Int)) (λ_ h=>h) ?_ ?_
  ·rintro q v H3 hq ⟨T,rfl,hT⟩ s3
   refine ⟨T,_,_,rfl,s3 _ _ hT,λk hk=>⟨_,rfl,_,_,rfl,rfl,_,rfl,?_⟩,λ_ k hk=>⟨_,rfl,hk _ _ (λ_ _ h=>h) rfl⟩⟩
   rw [show (λ(i j:Int)=>decide (i=j)) ((q.1:Nat):Int) 0=decide (q.1=0)from B3.mpr ⟨λe=>by have e:((q.1:Nat):Int)=0:=e;lia,λe=>by show ((q.1:Nat):Int)=0;lia⟩]
   exact hk
  ·intro p ws H3 hp s3 gp hw
   have ew:=eN hw
   subst ew
   refine ⟨p,((D.filter λq=>decide (q.1=0)).map (·.2)).map λm=>((m:Nat):Int),rfl,SqL.of ?_,?_⟩
   ·rw [gp,we,zO];rfl
   ·rw [fH]
    have hfin:aW ((D.filter λq=>decide (q.1=0)).map (·.2))=SG (Rl bk []) D:=by
     clear hSG hle hl25 hmass hD lz gp hw
     unfold SG
     induction D with
     | nil=>rfl
     | cons q r ih=>
      rw [Dw]
      show _=q.2* (if q.1=0 then 1 else 0) +aW _
      by_cases c:q.1=0
      ·rw [yW (zq c),yW c,Nat.mul_one,<- ih];rfl
      ·rw [yU (by rw [A6];exact c),yU c,Nat.mul_zero,Bc,<- ih]
    rw [hfin,hSG,vt hfew]
    exact q H3 (S2.trans s3)
def KP (H:Hp) (q:List Str×Nat) (v:V):Prop:= ∃ b c,v=.ref b/\H b=some (.tup [.ref c,.int ((q.2:Nat):Int)])/\H c=some (.tup (q.1.map V.str))
theorem KP.mono {H H':Hp} (k:TK H H') {q:List Str×Nat} {v:V}:KP H q v->KP H' q v:=λ⟨b,c,e,h1,h2⟩=>⟨b,c,e,k _ _ h1,k _ _ h2⟩
noncomputable def Bn (bk:Bk):List Str->Nat->List (List Str×Nat)
 | [],_=>[]
 | [s],t=>((if t=0 then []else oi bk s).filter λfr=>decide (0<Rn bk (aP fr) (t-1))).map λfr=>(aP fr,t-1)
 | s::s'::r,t=>(List.range (t-1)).flatMap λj=>if 0<Rn bk [s] (j+1) *Rn bk (s'::r) (t- (j+1))then [([s],j+1),(s'::r,t- (j+1))]else []
inductive gW  (vs:List V) (H:Hp) (Q:VK) (E_:XK):Prop
 | mk: ∀ ra,(vs=[.ref ra,.int 0])->(∀ p H',H p=none->Same H H'->H' p=some (.lst [])->Q (.ref p) H')->gW vs H Q E_
def vN (a b:Sp):Sp:=λvs H Q E=>a vs H Q E\/b vs H Q E
theorem FnOk.or {P:Program} {w:World} {K:W.Frag} {mg:Str->Option Value} {base:Heap} {k:Nat} {f:Addr} {fd:FuncData} {ps:List Str} {a b:Sp} (F:FnOk P w K mg base CX0 k f fd ps a) (G:FnOk P w K mg base CX0 k f fd ps b):FnOk P w K mg base CX0 k f fd ps (vN a b):=
 ⟨λvs H Q E h=>h.elim (F.len vs H Q E) (G.len vs H Q E),λA outer s H args us vs Q E hr he hb hv h=>h.elim (F.run A outer s H args us vs Q E hr he hb hv) (G.run A outer s H args us vs Q E hr he hb hv)⟩
inductive gv  (vs:List V) (H:Hp) (Q:VK) (E_:XK):Prop
 | mk: ∀ bv bk d kvs v row t,(vs=[bv,.ref d,v])->(RepB H bk bv)->(BkW bk)->(H d=some (.dP kvs))->(KP H (row,t) v)->(RowIn bk row)->(t<=24)->((row=[]->t=0))->(i5 bk kvs t)->(∀ p zs H',H p=none->Same H H'->H' p=some (.lst zs)->Paired (KP H') (Bn bk row t) zs->Q (.ref p) H')->gv vs H Q E_
theorem cR {α β γ:Type} {F:β->γ->Prop} (g:α->β): ∀ {l:List α} {r:List γ},Paired (λa c=>F (g a) c) l r->Paired F (l.map g) r
 | _,_,.nil=>.nil
 | _,_,.cons h t=>.cons h (cR g t)
theorem cv {α β:Type} {F:α->β->Prop}: ∀ {l m:List α} {r q:List β},Paired F l r->Paired F m q->Paired F (l++m) (r++q)
 | _,_,_,_,.nil,h=>h
 | _,_,_,_,.cons a t,h=>.cons a (cv t h)
theorem rM (F:Fun K "cuts_of" "cuts_of" jp f fd) (G:Gb mg):FnOk P w K mg base CX0 1 f fd ["row","total"] gW:=by
 refine F.ok qM (λvs H Q E h=>?_) (λcdv A outer s H vs Q E hr h=>?_)
 ·obtain ⟨ra,rfl,_⟩:=h
  rfl
 obtain ⟨ra,rfl,q⟩:=h
 refine ⟨_,al (aH (cI (sc0:=am jp) (N0:=["row","total"]) (ys:=["row","total"]) (fr:=[0,1]) rfl (eM rfl G.range (aa af (aa (pv 1) ae))) rfl rfl
    cok
    (λC s H ex=>aN (aa (aN (aa (aZ eJ (pv 1) bp (a9 af)) (aa (pv 0) ae))) (aa (aN (aa (aZ eJ (pv 1) (a9 af) bp) (aa (aq cx (pv 2) (pv 0)) ae))) ae))))),?_⟩
 refine ⟨_,rfl,1,_,rfl,⟨by decide,by decide,by decide,by decide⟩,?_⟩
 refine eV (as:=([]:List Nat)) (A:=λ_ _=>True) (xs:=[]) (by decide) .nil (λi H _ h=>absurd h (A9 _)) (λH _=>dl H) (λi H v H' hi=>absurd hi (A9 _)) (λ_ _ _=>True) (λ_ h=>h) (λj v H1 k hj=>absurd hj Ae) ?_
 intro p zs H' hp s' gp hz
 cases hz
 exact q p H' hp s' gp
abbrev NBe:List Str:=["book","counts","key","found","first","rest"]
theorem scBeneath:aI NBe ["book","counts","key"] (am fP):=fsc
theorem ow (m:Nat):(V.bl (decide (0< ((m:Nat):Int))))=.bl (decide (0<m)):=congrArg V.bl (B3.mpr ⟨λ(e:(0:Int) < ((m:Nat):Int))=>by lia,λe=>show (0:Int) < ((m:Nat):Int) by lia⟩)
theorem mV (F:Fun K "keys_beneath" "keys_beneath" fP f fd) (G:Gb mg)
  (GW:Cl P w K mg base CX0 2 f2 fd2 ["book","row","total"] cO "forms_with_keys")
  (GC:Cl P w K mg base CX0 1 f3 fd3 ["row","total"] (vN ip gW) "cuts_of"):FnOk P w K mg base CX0 3 f fd ["book","counts","key"] gv:=by
 refine F.ok scBeneath (λvs H Q E h=>?_) (λcdv A outer s H vs Q E hr h=>?_)
 ·obtain ⟨bv,bk,d,kvs,v,row,t,rfl,_⟩:=h
  rfl
 obtain ⟨bv,bk,d,kvs,v,row,t,rfl,hB,hok,hd,⟨kb,kc,rfl,hkb,hkc⟩,hin,ht,hn0,hcnt,q⟩:=h
 have hu:=dL hr
 have hr1:=hr.mono (show 1<=2 by decide)
 refine ⟨_,ah (a8 (dB (fi (ax (r:=cr K) av rfl G.len zC (aa (au (r:=aS K) aA (pv 2) af (λ_ _=>rfl)) ae)) af))
   (al (aH (js (sc0:=am fP) (N0:=NBe) (ys:=["counts"]) (fr:=[1]) rfl (be (pcl GW hr (aa (pv 0) (aa (au (r:=aS K) aA (pv 2) af (λ_ _=>rfl)) (aa (au (r:=aS K) aA (pv 2) af (λ_ _=>rfl)) ae))))) rfl rfl
    ⟨rfl,by decide +kernel,by decide +kernel,by decide +kernel,by decide +kernel,by decide +kernel,by decide +kernel,rfl,by decide +kernel⟩
    (λC s H ex=>aF eZ (bJ hu (pv 2) (pv 1) (λ_ _=>rfl)) af (aG _)) (λC s H ex=>pv 1)))) aM)
  (ah (ao (i:=3) scBeneath.nd rfl (Or.inl rfl) (aX ae))
  (ah (aU zw rfl (be (pcl GC hr1 (aa (au (r:=aS K) aA (pv 2) af (λ_ _=>rfl)) (aa (au (r:=aS K) aA (pv 2) af (λ_ _=>rfl)) ae)))) (cu rfl (aJ (aw (i:=4) scBeneath.nd rfl (Or.inl rfl)) (aJ (aw (i:=5) scBeneath.nd rfl (Or.inl rfl)) bU)))
   (al (a8 (aF eZ (aq kg (bJ hu (pv 1) (pv 4) (λ_ _=>rfl)) (bJ hu (pv 1) (pv 5) (λ_ _=>rfl))) af (aG _))
    (ah (bT (dJ zF Ag Ah bu (pv 3) (aa (pv 4) ae)))
    (al (bT (dJ zF Ag Ah bu (pv 3) (aa (pv 5) ae))))) aM)))
  (al (aH (pv 3))))),?_⟩
 have k0:atI [V.ref kc,.int ((t:Nat):Int)] 0=some (.ref kc):=rfl
 have k1:atI [V.ref kc,.int ((t:Nat):Int)] 1=some (.int ((t:Nat):Int)):=rfl
 refine ⟨_,rfl,kb,_,0,.ref kc,rfl,rfl,SqT.of hkb,k0,kc,_,rfl,.inr (SqT.of hkc),_,_,rfl,rfl,_,rfl,?_⟩
 match row,hin,hkc,hn0,q with
 | [],hin,hkc,hn0,q=>
  cases hn0 rfl
  refine cE ⟨(by show 0<=sizeLine;decide),λp hp=>?_⟩
  have s1:=ai hp (.lst [])
  have g1:(upd H p (.lst [])) p=some (.lst []):=ad
  generalize upd H p (.lst [])=H1 at s1 g1 ⊢
  refine ⟨_,rfl,kb,_,0,.ref kc,rfl,rfl,SqT.of (s1 _ _ hkb),k0,_,rfl,kb,_,1,_,rfl,rfl,SqT.of (s1 _ _ hkb),k1,.inr ⟨kc,rfl,λl H2 hl s2 g2=>?_⟩⟩
  refine ⟨l,rfl,⟨_,SqL.of g2⟩,?_⟩
  refine bL (xs:=[]) (λj U H'=>U=[some bv,some (.ref d),some (.ref kb),some (.ref p),none,none]/\H'=H2) ⟨rfl,rfl⟩ (λj U H' _ h=>by rw [h.2];exact SqL.of g2) (λi x U H' hx=>by cases hx) ?_
  rintro U H3 ⟨rfl,rfl⟩
  exact ⟨_,rfl,q p [] H3 hp (s1.trans s2) (s2 _ _ g1) .nil⟩
 | [sn],hin,hkc,hn0,q=>
  refine bB ?_
  refine ⟨_,rfl,_,rfl,kb,_,0,.ref kc,rfl,rfl,SqT.of hkb,k0,_,rfl,kb,_,1,_,rfl,rfl,SqT.of hkb,k1,bv,bk,kc,sn,t,rfl,hB,hok,hkc,λp zs H1 hp s1 gp hz=>?_⟩
  refine ⟨p,rfl,⟨_,SqL.of gp⟩,?_⟩
  have lz:=ze hz
  have lz10:zs.length<=10:=by
   rw [<- lz]
   split
   ·exact y9 _
   ·exact zc (Bj _ _) hok.few
  refine jE (by lia) hz (el gp) (eh gp) (gQ gp) (λfr=>decide (0<Rn bk (aP fr) (t-1))) (λH fr v=>KP H (aP fr,t-1) v) (λk h=>h.mono k) ?_ ?_
  ·rintro fr v H2 hfr ⟨T,b,pa,rfl,h1,h2,h3⟩ s2
   have t0: ¬ t=0:=λz=>by rw [yW z]at hfr;cases hfr
   rw [yU t0]at hfr
   have hfm:=(zN.mp hfr).1
   refine ⟨T,_,_,rfl,s2 _ _ h1,λk hk=>?_,λ_ k hk=>⟨_,rfl,hk _ _ (λ_ _ h=>h) ⟨b,pa,rfl,s2 _ _ h2,s2 _ _ h3⟩⟩⟩
   refine ⟨_,rfl,_,rfl,d,.int ((Rn bk (aP fr) (t-1):Nat):Int),rfl,?_,_,_,rfl,rfl,?_⟩
   ·rw [<- hcnt (aP fr) (t-1) (RowIn.form hfm) (by lia)]
    exact DGet.p (s2 _ _ (s1 _ _ hd)) (k:=Sum.inl (((t-1:Nat)):Int)) (s2 _ _ h2) (by rw [dI];exact s2 _ _ h3)
   rw [ow]
   exact ⟨_,rfl,hk⟩
  ·intro p2 ws H2 hp2 s2 g2 hw
   exact q p2 ws H2 (s1.free hp2) (s1.trans s2) g2 (cR _ hw)
 | sn::s2n::r,hin,hkc,hn0,q=>
  refine bO (λc=>?_) (λ_=>?_)
  ·exfalso
   have c':=zf c
   rw [yP]at c'
   have:((r.length+1+1:Nat):Int)=1:=c'
   lia
  obtain ⟨hin1,hin2⟩:=hin.split hok
  have l1:=hin1.len hok
  have l2:=hin2.len hok
  refine ⟨(by show 0<=sizeLine;decide),λp hp=>?_⟩
  have s1:=ai hp (.lst [])
  have g1:(upd H p (.lst [])) p=some (.lst []):=ad
  generalize upd H p (.lst [])=H1 at s1 g1 ⊢
  refine ⟨_,rfl,kb,_,0,.ref kc,rfl,rfl,SqT.of (s1 _ _ hkb),k0,_,rfl,kb,_,1,_,rfl,rfl,SqT.of (s1 _ _ hkb),k1,.inl ⟨kc,sn,s2n::r,t,rfl,s1 _ _ hkc,ht,λl zs H2 hl s2 g2 hz=>?_⟩⟩
  refine ⟨l,rfl,⟨_,SqL.of g2⟩,?_⟩
  have lz:=ze hz
  rw [At]at lz
  have npl:l≠p:=λz=>by rw [z,g1]at hl;cases hl
  refine bL (xs:=zs) (λj U H'=>j<=zs.length/\ ∃ o4 o5 ws,U=[some bv,some (.ref d),some (.ref kb),some (.ref p),o4,o5]/\Same H H'/\H' l=some (.lst zs)/\TK H2 H'/\H' p=some (.lst ws)/\ws.length<=2*j/\
    Paired (KP H') ((List.range j).flatMap λj=>if 0<Rn bk [sn] (j+1) *Rn bk (s2n::r) (t- (j+1))then [([sn],j+1),(s2n::r,t- (j+1))]else []) ws)
   ⟨y9 _,none,none,[],rfl,s1.trans s2,g2,λ_ _ h=>h,s2 _ _ g1,yV _,.nil⟩ (λj U H' _ h=>by obtain ⟨_,_,_,_,_,_,g,_⟩:=h;exact SqL.of g) ?_ ?_
  ·rintro j x U H3 hx ⟨_,o4,o5,ws,rfl,S3,gl3,tk3,gp3,hl3,hP3⟩
   have hjl:j<zs.length:=(yX.mp hx).1
   obtain ⟨j',hj',hck⟩:=aD hz hx
   rw [B9 (by lia)]at hj'
   cases hj'
   obtain ⟨T,a,b,c,d2,rfl,h1,h2,h3,h4,h5⟩:=hck.mono tk3
   have hd3:=S3 _ _ hd
   have b1:=jM hok.two (t:=j+1) (row:=[sn]) (by lia) (by lia)
   have b2:=jM hok.two (t:=t- (j+1)) (row:=s2n::r) (by lia) (by lia)
   have p400:(2:Nat) ^400<=2^2000:=AK (by decide) (by decide)
   refine ⟨T,_,rfl,SqT.of h1,rfl,_,_,rfl,_,_,rfl,rfl,?_⟩
   refine ⟨_,rfl,_,rfl,d,.int ((Rn bk [sn] (j+1):Nat):Int),rfl,?_,_,rfl,_,rfl,d,.int ((Rn bk (s2n::r) (t- (j+1)):Nat):Int),rfl,?_,_,_,rfl,rfl,mX (zA b1 p400) (zA b2 p400),_,_,rfl,rfl,?_⟩
   ·rw [<- hcnt [sn] (j+1) hin1 (by lia)]
    exact DGet.p hd3 (k:=Sum.inl (((j+1:Nat)):Int)) h2 h3
   ·rw [<- hcnt (s2n::r) (t- (j+1)) hin2 (by lia)]
    exact DGet.p hd3 (k:=Sum.inl (((t- (j+1):Nat)):Int)) h4 (by rw [dI];exact h5)
   rw [show (((Rn bk [sn] (j+1):Nat):Int) * ((Rn bk (s2n::r) (t- (j+1)):Nat):Int))=((Rn bk [sn] (j+1) *Rn bk (s2n::r) (t- (j+1)):Nat):Int)from (DF _ _).symm,ow]
   refine ⟨_,rfl,?_⟩
   have er:List.range (j+1)=List.range j++[j]:=Bm
   by_cases hc:0<Rn bk [sn] (j+1) *Rn bk (s2n::r) (t- (j+1))
   ·rw [zq hc]
    refine bB ⟨_,rfl,.inl ⟨rfl,_,SqL.of gp3⟩,_,rfl,p,_,_,rfl,rfl,gp3,ay (by lia),?_⟩
    have tk4:TK H3 (upd H3 p (.lst (ws++[.ref a]))):=TK.lst gp3
    have k4:Kp p H3 (upd H3 p (.lst (ws++[.ref a]))):=λb o h n=>by rw [ak n];exact h
    have g4:(upd H3 p (.lst (ws++[.ref a]))) p=some (.lst (ws++[.ref a])):=ad
    generalize upd H3 p (.lst (ws++[.ref a]))=H4 at tk4 k4 g4 ⊢
    refine ⟨_,rfl,.inl ⟨rfl,_,SqL.of g4⟩,_,rfl,p,_,_,rfl,rfl,g4,ay (by rw [yZ];show ws.length+1<=1000;lia),?_⟩
    have tk5:TK H4 (upd H4 p (.lst (ws++[.ref a]++[.ref b]))):=TK.lst g4
    have tk6:=tk4.trans tk5
    refine ⟨hjl,_,_,_,rfl,λy o h=>?_,?_,tk3.trans tk6,ad,?_,?_⟩
    ·have hy:y≠p:=aj h hp
     rw [ak hy]
     exact k4 _ _ (S3 _ _ h) hy
    ·rw [ak npl]
     exact k4 _ _ gl3 npl
    ·rw [yZ,yZ]
     show ws.length+1+1<=2* (j+1)
     lia
    ·rw [er,BB,Au,Bf,zy,yW hc]
     rw [zm]at tk6 ⊢
     exact cv (Paired.mapP hP3 λ_ _ h=>h.mono tk6) (.cons ⟨a,c,rfl,tk6 _ _ h2,tk6 _ _ h3⟩ (.cons ⟨b,d2,rfl,tk6 _ _ h4,tk6 _ _ h5⟩ .nil))
   ·rw [zK hc]
    refine cE ⟨hjl,_,_,ws,rfl,S3,gl3,tk3,gp3,by lia,?_⟩
    rw [er,BB,Au,Bf,zy,yU hc,zy]
    exact hP3
  ·rintro U H3 ⟨_,o4,o5,ws,rfl,S3,gl3,tk3,gp3,hl3,hP3⟩
   rw [<- lz]at hP3
   exact ⟨_,rfl,q p ws H3 hp S3 gp3 hP3⟩
end My
namespace L2
open PySem PySem.Spec PyProof.Rows
section
variable {X:Cx}
noncomputable def wO (H:Hp):List V->List (List Key×Key)->Prop:=Paired λy k=> ∃ b c,y=.ref b/\H b=some (.tup [.ref c,kV k.2])/\H c=some (.tup (k.1.map kV))
end
noncomputable def AlkT (H:Hp):Nat->V->V->Prop
 | 0,v,u=>(∃ z,v=.str z/\u=.str z)\/ ∃ i,v=.int i/\u=.int i
 | n+1,v,u=>((∃ z,v=.str z/\u=.str z)\/ ∃ i,v=.int i/\u=.int i)\/ ∃ a b xs ys,v=.ref a/\u=.ref b/\H a=some (.tup xs)/\H b=some (.tup ys)/\Paired (AlkT H n) xs ys
theorem AlkT.eqAt {X:Cx} {pins:List (Addr×Obj)} {U:St} {H:Hp} {s:Shared} (I:Inv X pins U H s): ∀ (n:Nat) {A:Around} {v u:V} {x y:Value},A.units+n<cLine->AlkT H n v u->RelV v x->RelV u y->SeqAt.EqAt A s x y true:=by
 have leaf: ∀ {A:Around} {v u:V} {x y:Value},((∃ z,v=.str z/\u=.str z)\/ ∃ i,v=.int i/\u=.int i)->RelV v x->RelV u y->SeqAt.EqAt A s x y true:=by
  rintro A v u x y (⟨z,rfl,rfl⟩ | ⟨i,rfl,rfl⟩) r1 r2
  ·obtain ⟨t1,rfl⟩:=(show ∃ t,x=Value.str z t from r1)
   obtain ⟨t2,rfl⟩:=(show ∃ t,y=Value.str z t from r2)
   simpa using SeqAt.EqAt.str_str (A:=A) (s:=s) z t1 z t2
  ·obtain ⟨t1,rfl⟩:=(show ∃ t,x=Value.int i t from r1)
   obtain ⟨t2,rfl⟩:=(show ∃ t,y=Value.int i t from r2)
   simpa using SeqAt.EqAt.int_int (A:=A) (s:=s) i t1 i t2
 intro n
 induction n with
 | zero=>intro A v u x y _ h r1 r2;exact leaf h r1 r2
 | succ n ih=>
  intro A v u x y hu h r1 r2
  rcases h with h | ⟨a,b,xs,ys,rfl,rfl,ha,hb,hp⟩
  ·exact leaf h r1 r2
  ·cases (show x=Value.ref a from r1)
   cases (show y=Value.ref b from r2)
   by_cases hab:a=b
   ·subst hab;exact SeqAt.EqAt.same _
   obtain ⟨its,r,p,_⟩:=I.seqS (c:=true) ha
   obtain ⟨its2,r2,p2,_⟩:=I.seqS (c:=true) hb
   have hu1:A.in1.units+n<cLine:=by show A.units+1+n<cLine;lia
   obtain ⟨hl,hj⟩:=ee (R:=λx y=>SeqAt.EqAt A.in1 s x y true) (λv u x y g q1 q2=>ih hu1 g q1 q2) hp r r2
   have:=SeqAt.RcAt.tuples (e:=λ_=>true) p p2 (by lia:A.units<cLine) (λj h1 h2=>by simpa using hj j (by simpa using h1) (by simpa using h2))
   rw [show ((List.range (min its.toArray.size its2.toArray.size)).all (λ_=>true)&&its.toArray.size==its2.toArray.size)=true by simp [hl]]at this
   exact SeqAt.EqAt.of_refs hab this
end L2
namespace HT
open PySem PyProof.Rows
noncomputable def ins {K:Type} [DecidableEq K] (u:List K):List K->List K
 | []=>u
 | k::r=>ins (if k∈u then u else u++[k]) r
theorem SetOf.keep {prog:Program} {w:World} {K:Type} [DecidableEq K] {knd:KeyKind prog w K} {h h':Heap} {a:Addr} {S:K->Bool} {n:Nat} (H:Heap.SetOf knd h a S n) (k: ∀ o,h.get? a=some o->h'.get? a=some o):Heap.SetOf knd h' a S n:=by
 obtain ⟨o,es,ep,t,h1,h2⟩:=H
 exact ⟨o,es,ep,t,k o h1,h2⟩
theorem SetOf.cong {prog:Program} {w:World} {K:Type} [DecidableEq K] {knd:KeyKind prog w K} {h:Heap} {a:Addr} {S S':K->Bool} {n n':Nat} (H:Heap.SetOf knd h a S n) (e: ∀ k,S k=S' k) (en:n=n'):Heap.SetOf knd h a S' n':=by
 have:S=S':=funext e
 subst this
 subst en
 exact H
theorem kQ {prog:Program} {w:World} {A:Around} {R:Result->Shared->Prop} {I:Addr} {fp wr:List Addr} {G:Array GenState->Array GenState->Prop} {P:Nat->Value->Prop} {St:Nat->Shared->Prop} {K:Type} [DecidableEq K] {knd:KeyKind prog w K} {n:Nat}
  (W:WalksS prog w A.in1 I fp wr G n P St) (S:Addr) (hS:S∉fp) (val:List K) (hl:val.length=n) (hP: ∀ i v,P i v-> ∃ k,val[i]? =some k/\knd.is k v=true/\v.scannable=true) (hn:n+1<scanBound):
  ∀ (k i:Nat) (s:Shared) (u:List K),n-i=k->i<=n->St i s->Heap.SetOf knd s.heap S (λk'=>decide (k'∈u)) u.length->u.length<=i->
   (∀ s',Moved (S::wr) G s s'->Heap.SetOf knd s'.heap S (λk'=>decide (k'∈ins u (val.drop i))) (ins u (val.drop i)).length->R (.ok (.ret .none)) s')->
   codeAny (model prog w) A (.builtin "set.update.loop" {pos:=[.ref S,.ref I]}) R s:=by
 intro k
 induction k with
 | zero=>
  intro i s u hk hi hst hset hu hR
  have e:i=n:=by lia
  subst e
  refine Bp F.entry_set_update_loop ?_
  rw [C0 Ct]
  refine yO (W.done s _ _ hst λs' mv=>?_)
  have hd:val.drop i=[]:=List.drop_eq_nil_of_le (by lia)
  refine yR (hR s' (mv.mono λb hb=>yY _ hb) ?_)
  rw [hd]
  exact SetOf.keep hset λo ho=>mv.heap S o (λhb=>hS (W.sub S hb)) ho
 | succ k ih=>
  intro i s u hk hi hst hset hu hR
  refine Bp F.entry_set_update_loop ?_
  rw [C0 Ct]
  refine yO (W.item i s _ _ (by lia) hst λv s' hv st' mv=>?_)
  obtain ⟨x,hx,hkx,hsc⟩:=hP i v hv
  have hset':=SetOf.keep hset λo ho=>mv.heap S o (λhb=>hS (W.sub S hb)) ho
  have hd:val.drop i=x::val.drop (i+1):=by
   obtain ⟨hlt,hx'⟩:=yX.mp hx
   rw [zJ hlt,hx']
  refine yO (zP (zP (yO (knd.pyHash hkx (wpAny_setAddHashed_of hkx hsc hset' (by lia) λh' sb so=>?_)))))
  refine yR ⟨plainId_quiet Ct _,?_⟩
  refine ih (i+1) _ (if x∈u then u else u++[x]) (by lia) (by lia) ?_ ?_ ?_ ?_
  ·exact W.frame (i+1) s' h' (s'.toks+1) st' (Di _) λb hb o ho=>(sb.2 b (λz=>hS (z▸hb))).trans ho
  ·refine SetOf.cong so (λk'=>?_) ?_
   ·by_cases c:x∈u
    ·rw [yW c]
     by_cases c2:k'=x
     ·subst c2;simp [c]
     ·simp [c2]
    ·rw [yU c]
     simp
   ·by_cases c:x∈u
    ·rw [yW c,yW (zq c)]
    ·rw [yU c,yU (by rw [zK c];exact zp),yZ];rfl
  ·split
   ·lia
   ·rw [yZ];show u.length+1<=_;lia
  ·intro s2 mv2 hs2
   refine hR s2 ?_ (by rw [hd];exact hs2)
   refine Moved.trans W.gtrans (Moved.then_heap (mv.mono λb hb=>yY _ hb) (Di _) λb o hb ho=>(sb.2 b (λz=>hb (z▸yT))).trans ho) mv2
theorem call_setS {prog:Program} {w:World} {A:Around} {E:Value->Shared->Prop} {s:Shared} {l:Addr} {items:Array Value} {K:Type} [DecidableEq K] {knd:KeyKind prog w K} {val:List K} {Q:Value->Shared->Prop} (hh:A.handled=none)
  (hL:s.heap.IsList l items) (hl:val.length=items.size) (hP: ∀ (i:Nat) (v:Value),items[i]? =some v-> ∃ k,val[i]? =some k/\knd.is k v=true/\v.scannable=true) (hn:items.size+1<scanBound)
  (q: ∀ (h':Heap) (tk:Nat),Heap.SetOf knd h' s.heap.objs.size (λk'=>decide (k'∈ins [] val)) (ins [] val).length->(∀ b o,b<s.heap.objs.size->s.heap.get? b=some o->h'.get? b=some o)->
   Q (.ref s.heap.objs.size) {s with heap:=h',toks:=tk}):
  wpAny (model prog w) A (call (.type "set") [.ref l]) Q E s:=by
 refine Bt (codeAny_of_tree ?_)
 refine yR ⟨Cn _ (by decide +kernel),Bp F.entry_type_call ?_⟩
 rw [Around.under_plain (weight_type_call_type _ _ _) rfl]
 obtain ⟨c,tl,em⟩:=F.called_set.mro
 unfold Builtin.«type.__call__»
 simp only [F.called_set.notType,zg,zX,F.called_set.canCreate,F.typeCall_set_1,F.called_set.made,pure_bind,em,List.isEmpty_cons]
 refine yO (zP (Bt (code_set_new_1 _ λled=>?_)))
 generalize ho0:({cls:=Value.type "set",data:=Data.set #[] 0 (SetTable.fresh 0 0 led)}:Obj)=o0
 have hset0:Heap.SetOf knd (s.heap.push o0) s.heap.objs.size (λk'=>decide (k'∈([]:List K))) 0:=by
  subst ho0
  exact SetOf.cong ((setObjOf_fresh (knd:=knd) led).setOf (y6 _ rfl) (by decide)) (λk=>by simp) rfl
 have hty:Shared.TypeIs {s with heap:=s.heap.push o0} (.ref s.heap.objs.size) "set":=hset0.typeIs
 refine yO (Aq hty F.called_set.sub ?_)
 simp only [AF,zg,zX]
 refine yO (zP (zY hty F.called_set.init (Bt (BR (by decide +kernel) F.entry_set_init (check_set_init_1 hty ?_)))))
 unfold Builtin.«set.__init__»
 simp only [noKeywords,List.isEmpty_nil,AM,pure_bind]
 refine yO (show wpAny _ _ (typeNameOfCut 200 (.ref s.heap.objs.size)) _ _ _ from yO (yO (BX hty (yR (yR ?_)))))
 refine yO (DH (show checkCount _ 0 1 1=pure ()from rfl) ?_)
 refine yO (yR ?_)
 have hload:(s.heap.push o0).get? s.heap.objs.size=some o0:=by subst ho0;exact y6 _ rfl
 refine yO (show wpAny _ _ (setUsed s.heap.objs.size) _ _ _ from yO (yO (wpAny_load' hload ?_)))
 subst ho0
 refine yR (yR ?_)
 refine yO (?_:wpAny _ _ (Builtin.Frozenset.updateFrom "set.__init__" s.heap.objs.size (.ref l)) _ _ _)
 have hL':=hL.push {cls:=Value.type "set",data:=Data.set #[] 0 (SetTable.fresh 0 0 led)}
 have htyl:Shared.TypeIs {s with heap:=s.heap.push {cls:=Value.type "set",data:=Data.set #[] 0 (SetTable.fresh 0 0 led)}} (.ref l) "list":=Heap.IsList.typeIs hL'
 unfold Builtin.Frozenset.updateFrom
 refine yO (show wpAny _ _ (Builtin.Frozenset.isAnySet (.ref l)) _ _ _ from yO (Aq htyl F.sub_list_set (Aq htyl F.sub_list_frozenset ?_)))
 refine yO (BX htyl ?_)
 refine yO (Cw hL' ?_)
 refine yO (wpAny_runValue ?_)
 have hsz:(s.heap.push {cls:=Value.type "set",data:=Data.set #[] 0 (SetTable.fresh 0 0 led)}).objs.size=s.heap.objs.size+1:=Aw _ _
 have hlt:l<s.heap.objs.size:=by
  obtain ⟨o,ho,_⟩:=hL
  exact y2 ho
 clear hload hty htyl
 dsimp only
 generalize hh1:s.heap.push {cls:=Value.type "set",data:=Data.set #[] 0 (SetTable.fresh 0 0 led)}=h1 at hset0 hL' hsz ⊢
 have hold: ∀ b o,s.heap.get? b=some o->h1.get? b=some o:=λb o e=>by rw [<- hh1];exact yQ _ e
 have hno:s.heap.objs.size∉[h1.objs.size,l]:=λhm=>by
  rw [hsz]at hm
  rcases za.mp hm with z | z
  ·exact absurd z (zi (AZ _))
  ·rcases za.mp z with z | z
   ·exact absurd z (As hlt)
   ·cases z
 refine kQ (knd:=knd) (Walks.toS (Walks.list (show A.in1.in1.in1.handled=none from hh) h1.objs.size l (by rw [hsz];exact zi (AR hlt)) items)) s.heap.objs.size hno val hl hP hn items.size 0 _ [] rfl (y9 _)
  ⟨⟨_,y6 _ rfl,rfl,rfl⟩,hL'.push _⟩ (SetOf.keep hset0 λo ho=>yQ _ ho) (y9 _) λs' mv hs=>?_
 obtain ⟨h',g',d',tk',os'⟩:=s'
 have e1:g'=s.gens:=mv.gens
 have e2:d'=s.drawn:=mv.drawn
 have e3:os'=s.os:=mv.os
 subst e1 e2 e3
 refine yR (yR (yR (q h' tk' hs λb o hb ho=>mv.heap b o (λhm=>?_) (yQ _ (hold b o ho)))))
 rw [hsz]at hm
 rcases za.mp hm with z | z
 ·exact absurd z (zi hb)
 ·rcases za.mp z with z | z
  ·exact absurd z (zi (AR hb))
  ·cases z
theorem call_setT {prog:Program} {w:World} {A:Around} {E:Value->Shared->Prop} {s:Shared} {l:Addr} {items:Array Value} {K:Type} [DecidableEq K] {knd:KeyKind prog w K} {val:List K} {Q:Value->Shared->Prop} (hh:A.handled=none)
  (hL:s.heap.IsTuple l items) (hl:val.length=items.size) (hP: ∀ (i:Nat) (v:Value),items[i]? =some v-> ∃ k,val[i]? =some k/\knd.is k v=true/\v.scannable=true) (hn:items.size+1<scanBound)
  (q: ∀ (h':Heap) (tk:Nat),Heap.SetOf knd h' s.heap.objs.size (λk'=>decide (k'∈ins [] val)) (ins [] val).length->(∀ b o,b<s.heap.objs.size->s.heap.get? b=some o->h'.get? b=some o)->
   Q (.ref s.heap.objs.size) {s with heap:=h',toks:=tk}):
  wpAny (model prog w) A (call (.type "set") [.ref l]) Q E s:=by
 refine Bt (codeAny_of_tree ?_)
 refine yR ⟨Cn _ (by decide +kernel),Bp F.entry_type_call ?_⟩
 rw [Around.under_plain (weight_type_call_type _ _ _) rfl]
 obtain ⟨c,tl,em⟩:=F.called_set.mro
 unfold Builtin.«type.__call__»
 simp only [F.called_set.notType,zg,zX,F.called_set.canCreate,F.typeCall_set_1,F.called_set.made,pure_bind,em,List.isEmpty_cons]
 refine yO (zP (Bt (code_set_new_1 _ λled=>?_)))
 generalize ho0:({cls:=Value.type "set",data:=Data.set #[] 0 (SetTable.fresh 0 0 led)}:Obj)=o0
 have hset0:Heap.SetOf knd (s.heap.push o0) s.heap.objs.size (λk'=>decide (k'∈([]:List K))) 0:=by
  subst ho0
  exact SetOf.cong ((setObjOf_fresh (knd:=knd) led).setOf (y6 _ rfl) (by decide)) (λk=>by simp) rfl
 have hty:Shared.TypeIs {s with heap:=s.heap.push o0} (.ref s.heap.objs.size) "set":=hset0.typeIs
 refine yO (Aq hty F.called_set.sub ?_)
 simp only [AF,zg,zX]
 refine yO (zP (zY hty F.called_set.init (Bt (BR (by decide +kernel) F.entry_set_init (check_set_init_1 hty ?_)))))
 unfold Builtin.«set.__init__»
 simp only [noKeywords,List.isEmpty_nil,AM,pure_bind]
 refine yO (show wpAny _ _ (typeNameOfCut 200 (.ref s.heap.objs.size)) _ _ _ from yO (yO (BX hty (yR (yR ?_)))))
 refine yO (DH (show checkCount _ 0 1 1=pure ()from rfl) ?_)
 refine yO (yR ?_)
 have hload:(s.heap.push o0).get? s.heap.objs.size=some o0:=by subst ho0;exact y6 _ rfl
 refine yO (show wpAny _ _ (setUsed s.heap.objs.size) _ _ _ from yO (yO (wpAny_load' hload ?_)))
 subst ho0
 refine yR (yR ?_)
 refine yO (?_:wpAny _ _ (Builtin.Frozenset.updateFrom "set.__init__" s.heap.objs.size (.ref l)) _ _ _)
 have hL':=hL.push {cls:=Value.type "set",data:=Data.set #[] 0 (SetTable.fresh 0 0 led)}
 have htyl:Shared.TypeIs {s with heap:=s.heap.push {cls:=Value.type "set",data:=Data.set #[] 0 (SetTable.fresh 0 0 led)}} (.ref l) "tuple":=Heap.IsTuple.typeIs hL'
 unfold Builtin.Frozenset.updateFrom
 refine yO (show wpAny _ _ (Builtin.Frozenset.isAnySet (.ref l)) _ _ _ from yO (Aq htyl F.sub_tuple_set (Aq htyl F.sub_tuple_frozenset ?_)))
 refine yO (BX htyl ?_)
 refine yO (Ci hL' ?_)
 refine yO (wpAny_runValue ?_)
 have hsz:(s.heap.push {cls:=Value.type "set",data:=Data.set #[] 0 (SetTable.fresh 0 0 led)}).objs.size=s.heap.objs.size+1:=Aw _ _
 have hlt:l<s.heap.objs.size:=by
  obtain ⟨o,ho,_⟩:=hL
  exact y2 ho
 clear hload hty htyl
 dsimp only
 generalize hh1:s.heap.push {cls:=Value.type "set",data:=Data.set #[] 0 (SetTable.fresh 0 0 led)}=h1 at hset0 hL' hsz ⊢
 have hold: ∀ b o,s.heap.get? b=some o->h1.get? b=some o:=λb o e=>by rw [<- hh1];exact yQ _ e
 have hno:s.heap.objs.size∉[h1.objs.size,l]:=λhm=>by
  rw [hsz]at hm
  rcases za.mp hm with z | z
  ·exact absurd z (zi (AZ _))
  ·rcases za.mp z with z | z
   ·exact absurd z (As hlt)
   ·cases z
 refine kQ (knd:=knd) (Walks.toS (Walks.tuple (show A.in1.in1.in1.handled=none from hh) h1.objs.size l (by rw [hsz];exact zi (AR hlt)) items)) s.heap.objs.size hno val hl hP hn items.size 0 _ [] rfl (y9 _)
  ⟨⟨_,y6 _ rfl,rfl,rfl⟩,hL'.push _⟩ (SetOf.keep hset0 λo ho=>yQ _ ho) (y9 _) λs' mv hs=>?_
 obtain ⟨h',g',d',tk',os'⟩:=s'
 have e1:g'=s.gens:=mv.gens
 have e2:d'=s.drawn:=mv.drawn
 have e3:os'=s.os:=mv.os
 subst e1 e2 e3
 refine yR (yR (yR (q h' tk' hs λb o hb ho=>mv.heap b o (λhm=>?_) (yQ _ (hold b o ho)))))
 rw [hsz]at hm
 rcases za.mp hm with z | z
 ·exact absurd z (zi hb)
 ·rcases za.mp z with z | z
  ·exact absurd z (zi (AR hb))
  ·cases z
end HT
namespace L2
open PySem
section
variable {X:Cx}
def tL (K:W.Frag) (te:TE):TE:=λU H Q=>te U H λx H1=> ∃ (a:Addr) (xs:List Str),x=.ref a/\(SqL K H1 a (xs.map V.str)\/SqT K H1 a (xs.map V.str))/\xs.length<=1000/\Q (.int ((HT.ins [] xs).length:Int)) H1
theorem kJ {xs:List Str} {its:List Value} (r:Vals (xs.map V.str) its): ∀ (i:Nat) (v:Value),its.toArray[i]? =some v-> ∃ k,xs[i]? =some k/\(∃ t,v=.str k t):=by
 induction xs generalizing its with
 | nil=>cases r;intro i v h;simp at h
 | cons x l ih=>
  cases r with
  | cons r1 r2=>
   intro i v h
   rw [List.getElem?_toArray]at h
   cases i with
   | zero=>
    cases h
    obtain ⟨t,e⟩:=r1
    exact ⟨x,rfl,t,e⟩
   | succ i=>exact ih r2 i v (by rw [List.getElem?_toArray];exact h)
theorem pp {e:Expr} {p1 p2 p3 p4:Pos} {te:TE} (hcalm:X.calm=true) (gl:Gl X "len") (ml:X.mg "len"=none) (gs:Gl X "set") (ms:X.mg "set"=none) (he:PE X e te)
  (h1:starEach [.Call (.Name "set" p2) [e] [] p3] X.env=[(false,eval (.Call (.Name "set" p2) [e] [] p3) X.env)]:=by rfl) (h2:starEach [e] X.env=[(false,eval e X.env)]:=by rfl):
  PE X (.Call (.Name "len" p1) [.Call (.Name "set" p2) [e] [] p3] [] p4) (tL X.K te):=by
 intro pins s U H Q I h
 refine AX (cV I gl ml zC ?_)
 refine CP ?_ h1 rfl
 rw [h1]
 refine Av (AX (cV I gs ms (show bootBuiltins "set"=some (.type "set") by decide +kernel) (Ai ?_ h2 rfl)))
 rw [h2]
 refine Av (thn (he pins s U H _ I h) λu s1 ⟨x,H1,I1,r1,q1⟩=>AN ?_)
 obtain ⟨a,xs,rfl,hq,hx,q⟩:=q1
 cases r1
 have hh:X.A.handled=none:=I1.ok.hd hcalm
 have fin: ∀ (h':Heap) (tk:Nat),Heap.SetOf (strKind X.prog X.w) h' s1.heap.objs.size (λk'=>decide (k'∈HT.ins [] xs)) (HT.ins [] xs).length->(∀ b o,b<s1.heap.objs.size->s1.heap.get? b=some o->h'.get? b=some o)->
   wpAny (model X.prog X.w) X.A (call (Value.builtin "len") [.ref s1.heap.objs.size]) (EP X pins U Q) X.xe {s1 with heap:=h',toks:=tk}:=λh' tk hs k=>by
  obtain ⟨o,es,ep,t,g1,g2,g3,_,_,g4,g5,g6⟩:=hs
  refine call_len_set g1 g2 g3 g5 (Int.lt_trans (Int.ofNat_lt.mpr g4) (by decide)) ?_
  rw [g6]
  exact ⟨.int _,H1,I1.kept λb o e=>k b o (y2 e) e,⟨_,rfl⟩,q⟩
 have hmem: ∀ {its:List Value},Vals (xs.map V.str) its-> ∀ (i:Nat) (v:Value),its.toArray[i]? =some v-> ∃ k,xs[i]? =some k/\(strKind X.prog X.w).is k v=true/\v.scannable=true:=λr' i v hv=>by
  obtain ⟨k,e1,t,rfl⟩:=kJ r' i v hv
  exact ⟨k,e1,strKind_is _ _ _ _,rfl⟩
 have hsz: ∀ {its:List Value},Vals (xs.map V.str) its->xs.length=its.toArray.size:=λr'=>by
  rw [y1,<- r'.length,yP]
 have hb: ∀ {its:List Value},Vals (xs.map V.str) its->its.toArray.size+1<scanBound:=λr'=>by
  rw [<- hsz r']
  exact AY (Nat.succ_le_succ hx) (by decide)
 rcases hq with hq | hq
 ·obtain ⟨its,r',pl,hz⟩:=I1.list hq
  exact HT.call_setS (knd:=strKind X.prog X.w) (val:=xs) hh pl.isList (hsz r') (hmem r') (hb r') λh' tk hs k=>AN (fin h' tk hs k)
 ·obtain ⟨its,r',pl,hz⟩:=I1.tuple hq
  obtain ⟨o,ho,hc,n,hd⟩:=pl
  exact HT.call_setT (knd:=strKind X.prog X.w) (val:=xs) hh ⟨o,ho,hc,n,hd⟩ (hsz r') (hmem r') (hb r') λh' tk hs k=>AN (fin h' tk hs k)
theorem jz {K:Type} [DecidableEq K]: ∀ {l u:List K},(u++l).Nodup->HT.ins u l=u++l
 | [],u,_=>(zy u).symm
 | x::r,u,h=>by
  have hx:x∉u:=λm=>(CG.mp h).2.2 x m x yT rfl
  show HT.ins (if x∈u then u else u++[x]) r=_
  rw [yU hx,jz (by rw [zm];exact h),zm]
  rfl
end
end L2
namespace L2
open PySem PySem.Spec PyProof.Rows
def yu (n:Nat):R2:=λx y H Q=> ∃ a b xs ys,x=.ref a/\y=.ref b/\H a=some (.lst xs)/\H b=some (.lst ys)/\Paired (AlkT H n) xs ys/\Q (.bl true) H
theorem v5 {X:Cx} {n:Nat} (hu:X.A.units+ (n+1) <cLine):OpR X (compareOp .Eq) (yu n):=by
 intro pins s U H x y v u Q I rx ry h
 obtain ⟨a,b,xs,ys,rfl,rfl,ha,hb,hp,q⟩:=h
 cases rx
 cases ry
 obtain ⟨its,r,p,_⟩:=I.seqS (c:=false) ha
 obtain ⟨its2,r2,p2,_⟩:=I.seqS (c:=false) hb
 have hu1:X.A.in1.units+n<cLine:=by show X.A.units+1+n<cLine;lia
 obtain ⟨hl,hj⟩:=ee (R:=λx y=>SeqAt.EqAt X.A.in1 s x y true) (λv u x y g q1 q2=>AlkT.eqAt I n hu1 g q1 q2) hp r r2
 refine SeqAt.RcAt.lists (e:=λ_=>true) p p2 (by simpa using hl) (by lia) (λj h1 h2=>by simpa using hj j (by simpa using h1) (by simpa using h2)) X.prog X.w X.xe _ ⟨.bl true,H,I,?_,q⟩
 show Value.bool _=Value.bool true
 simp
structure lW (ps ys:List Str) (sc:Scope):Prop where
 kind:sc.kind=.function
 co:sc.isCoroutine=false
 gen:sc.isGenerator=false
 nd:(ps++ys).Nodup
 par: ∀ x∈ps,sc.names.lookup x=some .local
 fre: ∀ y∈ys,sc.names.lookup y=some .free
 has: ∀ y∈sc.names,y.2=.free->y.1∈ys
 nocell: ∀ y∈sc.names,y.2≠ .cell
noncomputable def vp (P:Program) (w:World) (K:W.Frag) (mg:Str->Option Value) (base:Heap) (N:List Str) (qual:Str) (scope:Scope) (fl:Addr) (cd:Value) (cl:List (Str×Addr)) (A:Around) (outer:List Env) (s:Shared) (H:Hp):Cx where
 prog:=P
 w:=w
 K:=K
 mg:=mg
 base:=base
 A:=A.deeper (PySem.W.envX qual scope s.heap.objs.size fl cd cl)
 N:=N
 s₀:=s
 H₀:=H
 env:=PySem.W.envX qual scope s.heap.objs.size fl cd cl
 outer:=outer
 stack:=PySem.W.envX qual scope s.heap.objs.size fl cd cl::outer
 ex:=[]
 calm:=true
 fn:=λ_=>false
 pn:=[]
 xe:=λ_ _=>False
theorem fX {α β:Type} [BEq α] [LawfulBEq α] {k:α} {v:β}: ∀ {l:List (α×β)},(l.map (·.1)).Nodup->(k,v)∈l->l.lookup k=some v
 | [],_,h=>by cases h
 | (a,b)::r,nd,h=>by
  rw [zQ,Ad]at nd
  rw [Du]
  rcases za.mp h with e | e
  ·cases e
   simp
  ·have ne:(k==a)=false:=Bz.mpr λz=>nd.1 (by rw [<- z];exact zd.mpr ⟨(k,v),e,rfl⟩)
   rw [ne]
   exact fX nd.2 e
theorem hZ {ps:List Str} {us:List Value} {i:Nat} {x:Str} {u:Value} (nd:ps.Nodup) (h1:ps[i]? =some x) (h2:us[i]? =some u):(ps.zip us).reverse.lookup x=some u:=by
 refine fX ?_ (BZ.mpr (AE.mpr ⟨i,by rw [AA];exact ⟨h1,h2⟩⟩))
 rw [List.map_reverse]
 refine CO.mpr (List.Pairwise.imp (λh=>zT h) (show List.Pairwise (· ≠ ·) _ from ?_))
 have:(ps.zip us).map (·.1)=ps.take us.length:=by
  clear nd h1 h2
  induction ps generalizing us with
  | nil=>simp
  | cons p r ih=>
   cases us with
   | nil=>simp
   | cons w t=>simp [ih]
 rw [this]
 exact nd.sublist (AO _ _)
section
variable {X:Cx} {pins:List (Addr×Obj)} {U:St} {H:Hp} {s:Shared}
noncomputable def dF (X:Cx) (H:Hp) (s:Shared):Heap:=PySem.W.hideAll s.heap (trk s.heap H++frs X.stack)
theorem dE {b:Addr} {o:Obj} (e:s.heap.get? b=some o) (n:H b=none) (nf:b∉frs X.stack):(dF X H s).get? b=some o:=
 B8 _ e λhm=>by
  rcases y8.mp hm with z | z
  ·have q:(H b).isSome=true:=(zN.mp z).2
   rw [n]at q;simp at q
  ·exact nf z
theorem pJ {b:Addr} {o:Obj} (e:(dF X H s).get? b=some o):s.heap.get? b=some o/\H b=none:=by
 have e1:=BE _ e
 refine ⟨e1,?_⟩
 cases q:H b with
 | none=>rfl
 | some u=>
  have hm:b∈trk s.heap H++frs X.stack:=zx _ (zN.mpr ⟨zI.mpr (y2 e1),by rw [q];rfl⟩)
  rw [show (dF X H s).get? b=none from AJ _ hm]at e
  cases e
theorem oC {h b1 b2:Heap}: ∀ {l:List Env},h.FunFrames b1 l->(∀ b∈frs l,b2.get? b=none)->h.FunFrames b2 l
 | [],_,_=>trivial
 | env::r,⟨hk,⟨L,o,hf,_,ho,hd⟩,hr⟩,hn=>by
  have hL:L∈frs (env::r):=by unfold frs;rw [Ab,hf];exact yT
  exact ⟨hk,⟨L,o,hf,hn L hL,ho,hd⟩,oC hr λb hb=>hn b (by unfold frs;rw [Ab,hf];exact yY _ hb)⟩
theorem Inv.nostk (I:Inv X pins U H s) {b:Addr} {o:Obj} (e:X.base.get? b=some o):b∉frs X.stack:=λhb=>by
 have:=(I.stack.mem hb).1
 rw [e]at this
 cases this
theorem Inv.inB (I:Inv X pins U H s): ∀ b o,X.base.get? b=some o->(dF X H s).get? b=some o:=λb o e=>dE (I.bs b o e).1 (I.bs b o e).2 (I.nostk e)
theorem Inv.envB (I:Inv X pins U H s):tG X.prog X.w X.K X.mg (dF X H s) X.A X.stack s H:=
 ⟨I.ok.frames,⟨I.mod.kin.keeps I.inB,I.mod.glob.keeps I.inB,let ⟨mb,h1,h2⟩:=I.mod.blt;⟨mb,h1.keeps I.inB,h2⟩,I.mod.nolimit.keeps I.inB⟩,λb o e=>pJ e,C5 (PySem.W.hideAll_size _ _),
  oC I.stack λb hb=>AJ _ (yS _ hb),I.stkFree,I.hok,I.bare⟩
theorem tU {k:Nat} {f:Addr} {fd:FuncData} {ps:List Str} {sp:Sp} {Q:VK} {us:List Value} {vs:List V} (F:FnOk X.prog X.w X.K X.mg (dF X H s) CX0 k f fd ps sp) (hr:Room k X.A) (hb:Binds X.K fd ps [])
  (I:Inv X pins U H s) (r:Vals vs us) (h:sp vs H Q E0):wpAny (model X.prog X.w) X.A (call (.ref f) us) (EP X pins U Q) X.xe s:=by
 have hl:(us++[]).length=ps.length:=by rw [zy,<- r.length];exact F.len _ _ _ _ h
 have hbd:=hb s us I.kIn hl
 rw [zy]at hbd
 refine Bt (C4 (F.run X.A X.stack s H ⟨us,[]⟩ us vs Q E0 hr I.envB hbd r h) λrr s' hq=>?_)
 cases rr with
 | error e=>exact hq.elim
 | ok f0=>
  cases f0 with
  | ret u=>exact I.after hq
  | next=>exact False.elim hq
  | brk=>exact False.elim hq
  | cont=>exact False.elim hq
end
def vw (base:Heap) (cl:List (Str×Addr)) (ys:List Str) (cs:List V) (fl c':Addr) (nm qual:Str) (params:Arguments) (body:Expr) (scope:Scope):Prop:=
 (∃ pm ctv,base.get? fl=some (PySem.W.kla_obj nm qual params body scope cl pm c' ctv))/\(∀ x c,cl.lookup x=some c-> ∃ v,base.IsCell c v)/\(∀ x y c,cl.lookup x=some c->cl.lookup y=some c->x=y)/\
 (∀ (j:Nat) (y:Str),ys[j]? =some y-> ∃ c v u,cs[j]? =some v/\cl.lookup y=some c/\base.IsCell c (some u)/\RelV v u)/\cs.length=ys.length
structure iZ (sc0:Scope) (N:List Str) (scope:Scope) (ys:List Str) (fr:List Nat):Prop where
 free: ∀ y∈scope.names,y.2=.free->sc0.names.lookup y.1=some .cell
 len:ys.length=fr.length
 sl: ∀ q∈ys.zip fr,N[q.2]? =some q.1/\sc0.names.lookup q.1=some .cell/\(q.1,NameKind.free)∈scope.names
noncomputable def eC (c':Addr) (oc:Obj):HO:=.ext λh=>h.get? c'=some oc
def cZ (oc:Obj) (qual:Str):Prop:= ∃ vc tq,oc.data=.fields vc/\vc[1]? =some (.str qual tq)
section
variable {X:Cx} {pins:List (Addr×Obj)} {U:St} {H:Hp} {s:Shared}
theorem wo {ys:List Str} {fr:List Nat} {cs:List V} {scope:Scope} {fl c':Addr} {nm qual:Str} {params:Arguments} {body:Expr} {pm ctv:Value} (I:Inv X pins U H s) (ok:iZ X.env.scope X.N scope ys fr) (hcs:bg fr U=cs.map some)
  (hfl:s.heap.get? fl=some (PySem.W.kla_obj nm qual params body scope (bo X.env.cells scope.names) pm c' ctv)) (nfl:H fl=none) (nof1:fl∉frs X.stack) (hfn: ∀ x,X.fn x=true):
  vw (dF X H s) (bo X.env.cells scope.names) ys cs fl c' nm qual params body scope:=by
 have nocell: ∀ {x:Str} {c:Addr},X.env.cells.lookup x=some c->c∉frs X.stack:=λ{x c} e hm=>by
  rcases za.mp (I.stkSub c hm)with z | z
  ·exact I.cne x c e z
  ·obtain ⟨_,o,ho,_⟩:=I.ok.funs.mem z
   exact absurd (zA (y2 ho) (I.ok.cab x c (hfn x) e)) (AG _)
 have cellB: ∀ x c v,X.env.cells.lookup x=some c->s.heap.IsCell c v->(dF X H s).IsCell c v:=λx c v e hc=>by
  have nf:=nocell e
  obtain ⟨o,ho,hd⟩:=hc
  exact ⟨o,dE ho (I.freeC x c e) nf,hd⟩
 refine ⟨⟨pm,ctv,dE hfl nfl nof1⟩,λx c e=>?_,λx y c e1 e2=>I.ok.inj x y c (bz e1) (bz e2),λj y hj=>?_,?_⟩
 ·have e':=bz e
  obtain ⟨v,hv⟩:=I.cell x c e'
  exact ⟨v,cellB x c v e' hv⟩
 ·have hjl:j<fr.length:=by rw [<- ok.len];exact (yX.mp hj).1
  have hi0:fr[j]? =some fr[j]:=y4 hjl
  have hz:(y,fr[j])∈ys.zip fr:=AE.mpr ⟨j,by rw [AA];exact ⟨hj,hi0⟩⟩
  obtain ⟨hn,hk,hm⟩:=ok.sl _ hz
  have hc0:(bg fr U)[j]? =some ((U[fr[j]]?).join):=by unfold bg;rw [zo,hi0];rfl
  rw [hcs,zo]at hc0
  cases hcj:cs[j]? with
  | none=>rw [hcj]at hc0;cases hc0
  | some v=>
   rw [hcj]at hc0
   have hU:U[fr[j]]? =some (some v):=by
    cases e:U[fr[j]]? with
    | none=>rw [e]at hc0;cases hc0
    | some o=>rw [e]at hc0;rw [show o=some v from (zj hc0).symm]
   obtain ⟨m,_,hl⟩:=I.loc
   obtain ⟨u,ru,lk⟩:=hl _ y v hn hU (.inr (.inl hk))
   rcases lk with ⟨a,_⟩ | ⟨_,c,hc,hcell⟩
   ·have a':X.env.scope.names.lookup y=some .local:=a
    rw [show X.env.scope.names.lookup y=some .cell from hk]at a'
    cases a'
   ·exact ⟨c,v,u,rfl,bK hc hm,cellB y c _ hc hcell,ru⟩
 ·have:=congrArg List.length hcs
  unfold bg at this
  rw [yP,yP]at this
  rw [ok.len]
  exact this.symm
end
def sX (h:Heap) (mg:Str->Option Value) (nm:Str) (c Pt:Addr):Prop:=(∃ a o fd,mg nm=some (.ref a)/\h.get? a=some o/\o.data=.func fd/\fd.code=.ref c)/\PySem.W.CodeHd h c Pt
theorem pP {P:Program} {w:World} {K:W.Frag} {mg mb:Str->Option Value} {k:Nat} {fa a c Pt:Addr} {fd:FuncData} {x nm:Str} {sp:Sp} {s₁:Shared} {vs:List Value} {ns:List Int}
  (KX:K.In s₁.heap) (hns:s₁.heap.Ns mainGlobals mg) (hb:s₁.heap.Ns builtinsNs mb) (hbb: ∀ x:Str,x≠"__name__"->mb x=bootBuiltins x) (hlim:s₁.heap.NoLimit) (hg:s₁.gens= #[])
  (ha:s₁.heap.get? a=some {cls:=.type "list",data:=.seq vs.toArray}) (hi:IntsAre vs ns) (hl:ns.length<=sizeLine) (hr:Room k callerA)
  (hC:PySem.W.CodeHd s₁.heap c Pt) (hP:s₁.heap.get? Pt=some (PySem.W.tabObj #[])) (hB:s₁.heap.BuiltinsAt mg Pt) (hKt:K.lookup Pt=none)
  (F: ∀ base:Heap,K.In base->base.Ns mainGlobals mg->PySem.W.CodeHd base c Pt->base.BuiltinsAt mg Pt->FnOk P w K mg base CX0 k fa fd [x] sp) (hbind: ∀ (s:Shared) (u:Value),BindsTo s fd ⟨[u],[]⟩ [(x,u)])
  (hsp: ∀ H:Hp,H Pt=some (.tbl #[])->SqL K H a (ns.map V.int)->sp [.ref a] H (λv _=>v=.bl true) E0):
  codeAny (model P w) callerA (.call (.ref fa) ⟨[.ref a],[]⟩) (λr s'=>r=.ok (.ret (.bool true))/\OldK s₁.heap s'.heap/\s'.os=s₁.os/\AllBare s'.gens) s₁:=by
 have rv:=jd hi
 have lenV:=hi.length
 have haP:a≠Pt:=λz=>by rw [z,hP]at ha;cases ha
 have core: ∀ H:Hp,H Pt=some (.tbl #[])->SqL K H a (ns.map V.int)->HOk P w H s₁.heap->(∀ b,H b≠none->b=a\/b=Pt)->(H a≠none->K.lookup a=none)->(∀ u,H a=some u-> ∃ xs,u=.frz {cls:=.type "list",data:=.seq vs.toArray} (.lst xs))->
   codeAny (model P w) callerA (.call (.ref fa) ⟨[.ref a],[]⟩) (λr s'=>r=.ok (.ret (.bool true))/\OldK s₁.heap s'.heap/\s'.os=s₁.os/\AllBare s'.gens) s₁:=by
  intro H hH hS hok hA hK hfr
  have un0: ∀ {b:Addr} {o:Obj},s₁.heap.get? b=some o->o≠{cls:=.type "list",data:=.seq vs.toArray}->o≠PySem.W.tabObj #[]->H b=none:=λ{b o} e n1 n2=>by
   cases q:H b with
   | none=>rfl
   | some u=>
    rcases hA b (by rw [q];simp)with z | z
    ·subst z;rw [ha]at e;exact absurd (zj e).symm n1
    ·subst z;rw [hP]at e;exact absurd (zj e).symm n2
  have inB: ∀ {b:Addr} {o:Obj},s₁.heap.get? b=some o->H b=none->(iO s₁.heap H).get? b=some o:=λe n=>sy e n
  have dictB: ∀ {b:Addr} {m:Str->Option Value},s₁.heap.Ns b m->(iO s₁.heap H).Ns b m:=λ{b m} ⟨o,es,ep,e,d,r⟩=>⟨o,es,ep,inB e (un0 e (λz=>by rw [z]at d;cases d) (λz=>by rw [z]at d;cases d)),d,r⟩
  have hKb:K.In (iO s₁.heap H):=λb o e=>inB (KX b o e) (by
   cases q:H b with
   | none=>rfl
   | some u=>
    rcases hA b (by rw [q];simp)with z | z
    ·subst z;rw [hK (by rw [q];simp)]at e;cases e
    ·subst z;rw [hKt]at e;cases e)
  have hCb:PySem.W.CodeHd (iO s₁.heap H) c Pt:=by
   obtain ⟨o,vs',file,tf,flags,tg,inF,text,tt,e1,e2,r⟩:=hC
   exact ⟨o,vs',file,tf,flags,tg,inF,text,tt,inB e1 (un0 e1 (λz=>by rw [z]at e2;exact absurd e2 (by simp)) (λz=>by rw [z]at e2;exact absurd e2 (by simp))),e2,r⟩
  have hBb:(iO s₁.heap H).BuiltinsAt mg Pt:=by
   obtain ⟨bm,o,b1,b2,b3,b4,b5,b6,r⟩:=hB
   exact ⟨bm,o,b1,b2,b3,b4,inB b5 (un0 b5 (λz=>by rw [z]at b6;exact absurd b6 (by simp)) (λz=>by rw [z]at b6;exact absurd b6 (by simp))),b6,r⟩
  have hM:Mod K mg (iO s₁.heap H):=⟨hKb,dictB hns,⟨mb,dictB hb,hbb⟩,let ⟨mc,h1,h2⟩:=hlim;⟨mc,dictB h1,h2⟩⟩
  have e0:tG P w K mg (iO s₁.heap H) callerA [] s₁ H:=⟨rfl,hM,λb o e=>uq e,C5 (pX _ _),trivial,λb hb=>absurd (show b∈([]:List Addr)from hb) (by simp),hok,.of_eq hg⟩
  refine C4 ((F _ hKb (dictB hns) hCb hBb).run callerA [] s₁ H ⟨[.ref a],[]⟩ [.ref a] [.ref a] _ _ hr e0 (hbind s₁ (.ref a)) (.cons rfl .nil) (hsp H hH hS)) λr s' h=>?_
  cases r with
  | error e=>exact h.elim
  | ok fl=>
   cases fl with
   | next=>exact False.elim h
   | brk=>exact False.elim h
   | cont=>exact False.elim h
   | ret u=>
    obtain ⟨v,H',os,bare,un,hok',r',q⟩:=h
    have q':v=.bl true:=q
    subst q'
    obtain rfl:u=Value.bool true:=r'
    have tab: ∃ more:Array Value,s'.heap.get? Pt=some (PySem.W.tabObj (#[]++more)):=by
     obtain ⟨more,e⟩:=un.tbls Pt _ hH
     exact ⟨more,(show ObjOk P w H' s'.heap Pt (.tbl (#[]++more))from hok' Pt _ e)⟩
    have old: ∀ b o,b≠Pt->s₁.heap.get? b=some o->s'.heap.get? b=some o:=λb o hbP e=>by
     cases q:H b with
     | none=>exact un.keep b o e q (by intro z;exact absurd (show b∈([]:List Addr)from z) (by simp)) (by simp)
     | some u=>
      rcases hA b (by rw [q];simp)with z | z
      ·subst z
       obtain ⟨xs,rfl⟩:=hfr u q
       obtain ⟨e1,_⟩:=hok' b _ (un.frzs b _ _ q)
       rw [ha]at e
       rw [<- zj e]
       exact e1
      ·exact absurd z hbP
    obtain ⟨more,ht⟩:=tab
    refine ⟨rfl,⟨λb o e=>?_,λb o e=>?_⟩,os,bare⟩
    ·by_cases hbP:b=Pt
     ·subst hbP
      rw [hP]at e
      cases e
      obtain ⟨oc,vs',file,tf,flags,tg,inF,text,tt,e1,e2,e3,e4,_⟩:=hC
      exact .inr (.inl ⟨⟨c,oc,vs',e1,e2,e3,e4⟩,rfl,#[],more,rfl,ht⟩)
     ·exact .inl (old b o hbP e)
    ·by_cases hbP:b=Pt
     ·subst hbP;exact ⟨_,ht⟩
     ·exact ⟨o,old b o hbP e⟩
 cases hk:K.lookup a with
 | some o=>
  have e:=KX a o hk
  rw [ha]at e
  cases e
  refine core (λb=>if b=Pt then some (.tbl #[])else none) (yW rfl) (.inr ⟨_,vs.toArray,_,hk,rfl,rfl,rfl,by rw [y1,lenV];exact hl,by simpa using rv⟩) (λb u z=>?_) (λb z=>?_) (λz=>absurd (yU haP) z) λu z=>?_
  ·by_cases hb:b=Pt
   ·have z':=(yW hb).symm.trans z
    cases z'
    subst hb
    exact hP
   ·have z':=(yU hb).symm.trans z
    cases z'
  ·by_cases hb:b=Pt
   ·exact .inr hb
   ·exact absurd (yU hb) z
  ·have z':=(yU haP).symm.trans z
   cases z'
 | none=>
  have hPa: ¬ Pt=a:=λz=>haP z.symm
  refine core (λb=>if b=a then some (.frz {cls:=.type "list",data:=.seq vs.toArray} (.lst (ns.map V.int)))else if b=Pt then some (.tbl #[])else none) (by rw [yU hPa,yW rfl]) (.inl (.inr ⟨{cls:=.type "list",data:=.seq vs.toArray},yW rfl⟩)) (λb u z=>?_) (λb z=>?_) (λ_=>hk) λu z=>?_
  ·by_cases hb:b=a
   ·have z':=(yW hb).symm.trans z
    cases z'
    subst hb
    exact ⟨ha,by rw [yP];exact hl,vs,_,rv,ha⟩
   ·have z':=(yU hb).symm.trans z
    by_cases hb2:b=Pt
    ·have z2:=(yW hb2).symm.trans z'
     cases z2
     subst hb2
     exact hP
    ·have z2:=(yU hb2).symm.trans z'
     cases z2
  ·by_cases hb:b=a
   ·exact .inl hb
   ·by_cases hb2:b=Pt
    ·exact .inr hb2
    ·exact absurd (by rw [yU hb,yU hb2]) z
  ·have z':=(yW rfl).symm.trans z
   cases z'
   exact ⟨_,rfl⟩
theorem walk_ofT {l:PySem.W.OpenLaw} {n k:Nat} {q:Program} {loose:List Str} {XP:(Str->Option Value)->Heap->Prop} {YP:World->Heap->Prop} {d:DefRec} {K:Params->PySem.W.Frag} {sp:World->Addr->Sp} {x nm:Str}
  (hn:l.most=some n) (hn2:n<=sizeLine) (hdf:d.params.defaults=[]) (hr:Room k callerA) (hY: ∀ (w:World) (h:Heap),YP w h->(K w.params).In h) (hrec: ∃ e∈recsOf q,e.name=nm) (hKt: ∀ w:World,PySem.W.noTabs (K w.params)=true)
  (F: ∀ (w:World) (mg:Str->Option Value) (fa c Pt:Addr) (h:Heap),(K w.params).In h->h.Ns mainGlobals mg->mg d.name=some (.ref fa)->sX h mg nm c Pt->
   ∃ fd:FuncData,(∀ (s:Shared) (u:Value),BindsTo s fd ⟨[u],[]⟩ [(x,u)])/\ ∀ base:Heap,(K w.params).In base->base.Ns mainGlobals mg->PySem.W.CodeHd base c Pt->base.BuiltinsAt mg Pt->FnOk l.prog w (K w.params) mg base CX0 k fa fd [x] (sp w Pt))
  (hsp: ∀ (w:World) (Pt:Addr) (H:Hp) (a:Addr) (ns:List Int),ns.length<=n->H Pt=some (.tbl #[])->SqL (K w.params) H a (ns.map V.int)->sp w Pt [.ref a] H (λv _=>v=.bl true) E0):
  PySem.W.WalkO q loose XP YP l.row.toRowW d [] (λf vs=>PySem.call f vs):=by
 refine Att.attach_call hn hdf λw s₀ s₁ mg mb fa o pm cd doc a vs ns G Y ho hd hcd hmg hobj hints hlen hg=>?_
 have KX:=hY w _ Y
 obtain ⟨e,he,rfl⟩:=hrec
 obtain ⟨a1,o1,fd1,c,Pt,t1,t2,t3,t4,t5,t6⟩:=G.T.tab e he
 have hC:=PySem.W.CodeHd.of t5 t6
 obtain ⟨fd,hb,hF⟩:=F w mg fa c Pt _ KX G.T.g hmg ⟨⟨a1,o1,fd1,t1,t2,t3,t4⟩,hC⟩
 obtain ⟨bm,ob,b1,b2,b3,b4,b5,b6⟩:=G.T.bmain
 have hP:s₁.heap.get? Pt=some (PySem.W.tabObj #[]):=t6.2
 have n1:bm≠mainGlobals:=λz=>by
  obtain ⟨og,es,ep,e1,e2,_⟩:=G.T.g
  rw [z,e1]at b3
  cases b3
  rw [e2]at b6
  cases b6
 have n2:bm≠Pt:=λz=>by
  rw [z,hP]at b3
  cases b3
  cases b4
 have hB:s₁.heap.BuiltinsAt mg Pt:=⟨bm,ob,b1,b2,n1,n2,b3,b4,b5,b6⟩
 have hKn:(K w.params).lookup Pt=none:=by
  cases q':(K w.params).lookup Pt with
  | none=>rfl
  | some ok=>
   have e1:=KX _ _ q'
   rw [hP]at e1
   have e2:=zj e1
   have h2:=Az.mp (hKt w) (Pt,ok) (PySem.W.mem_of_lookupK q')
   subst e2
   exact absurd (show false=true from h2) zp
 exact pP (nm:=e.name) KX G.T.g G.T.b G.T.builtins G.T.nolimit hg hobj hints (zc hlen hn2) hr hC hP hB hKn hF hb λH h1 h2=>hsp w Pt H a ns hlen h1 h2
theorem Fun.okC {P:Program} {w:World} {K:W.Frag} {mg:Str->Option Value} {base:Heap} {x qual:Str} {st:Stmt} {f:Addr} {fd:FuncData} {N ps:List Str} {k:Nat} {sp:Sp} (F:Fun K x qual st f fd) (S:aI N ps (am st)) (len: ∀ vs H Q E,sp vs H Q E->vs.length=ps.length)
  (hbody: ∀ (A:Around) (outer:List Env) (s:Shared) (H:Hp) (vs:List V) (Q:VK) (E:XK),Room k (A.deeper (envOfC qual (am st) s.heap.objs.size f fd.code))->sp vs H Q E->
   ∃ t,PSs (dq CX0 P w K mg base N qual (am st) f fd.code A outer s H E).nox (bW st) t/\t {nx:=λ_ H'=>Q .non H',rt:=Q} (start N vs) H):FnOk P w K mg base CX0 (k+1) f fd ps sp:=by
 obtain ⟨oc,od,kV,doc,pm,an,cdv,ct,osl,rfl,lk,hcd⟩:=F.ex
 refine sE lk hcd S len λA outer s H vs Q E hr hsp=>?_
 obtain ⟨t,h,q⟩:=hbody A outer s H vs Q E hr hsp
 exact ⟨t,h.nox,q⟩
noncomputable abbrev Cx.at (X:Cx) (A:Around):Cx:={X with A:=A}
section
variable {X:Cx} {pins:List (Addr×Obj)} {U:St} {H:Hp} {s:Shared} {A:Around}
theorem Inv.at (I:Inv X pins U H s) (hf:A.frames=X.A.frames) (hh:A.handled=X.A.handled):Inv (X.at A) pins U H s:=
 ⟨⟨I.ok.mod,I.ok.kind,I.ok.glob,I.ok.blt,I.ok.above,I.ok.inj,I.ok.has,I.ok.cab,λc=>hh.trans (I.ok.hd c),hf.trans I.ok.frames,I.ok.stk,I.ok.exf,I.ok.bs,I.ok.bsz,I.ok.noex,I.ok.exfs,I.ok.funs,I.ok.frf⟩,I.os,I.bare,I.base,I.loc,I.cell,I.free,I.freeC,I.pin,I.hok,I.len⟩
theorem Inv.unat (I:Inv (X.at A) pins U H s) (hf:A.frames=X.A.frames) (hh:A.handled=X.A.handled):Inv X pins U H s:=
 ⟨⟨I.ok.mod,I.ok.kind,I.ok.glob,I.ok.blt,I.ok.above,I.ok.inj,I.ok.has,I.ok.cab,λc=>hh.symm.trans (I.ok.hd c),hf.symm.trans I.ok.frames,I.ok.stk,I.ok.exf,I.ok.bs,I.ok.bsz,I.ok.noex,I.ok.exfs,I.ok.funs,I.ok.frf⟩,I.os,I.bare,I.base,I.loc,I.cell,I.free,I.freeC,I.pin,I.hok,I.len⟩
theorem Inv.own {own own':List (Addr×Obj)} {h':Heap} {t':Nat} (I:Inv X (pins++own) U H s) (hf: ∀ p∈own,fC X pins H p.1) (hk: ∀ b o,(∀ p∈own,p.1≠b)->s.heap.get? b=some o->h'.get? b=some o)
  (ho: ∀ p∈own',(∃ q∈own,q.1=p.1)/\h'.get? p.1=some p.2/\ ∀ v,p.2.data≠ .cell v):Inv X (pins++own') U H {s with heap:=h',toks:=t'}:=by
 have I0:Inv X pins U H s:=I.unpinned
 have mem: ∀ {b:Addr},b∈own.map (·.1)-> ∃ p∈own,p.1=b:=λhb=>zd.mp hb
 have keep: ∀ b o,b∉own.map (·.1)->s.heap.get? b=some o->h'.get? b=some o:=λb o hb e=>hk b o (λp hp z=>hb (zd.mpr ⟨p,hp,z⟩)) e
 have trk: ∀ b uo,H b=some uo->b∉own.map (·.1):=λb uo e hb=>by
  obtain ⟨p,hp,rfl⟩:=mem hb
  rw [(hf p hp).1]at e;cases e
 have I1:Inv X pins U H {s with heap:=h',toks:=t'}:=by
  refine I0.step (g':=s.gens) (d':=s.drawn) (ch:=own.map (·.1)) (λb hb=>?_) (λb o _ _ hb e _=>keep b o hb e) (λb o _ _ hb e _=>⟨o.slots,keep b o hb e⟩) (λb o hb e n=>n)
   (λb o hb e=>⟨o,keep b o hb e⟩) (λb zs e=>e) (λb o uo e=>e) (λb ps e=>⟨#[],by rw [e];simp⟩) (λm hm=>?_) (λb uo e=>?_) I0.bare
  ·obtain ⟨p,hp,rfl⟩:=mem hb
   obtain ⟨_,f1,_,f3,f4,f5⟩:=hf p hp
   exact ⟨f3,f1,f4,f5⟩
  ·obtain ⟨o,es',ep,ho',r⟩:=hm
   refine ⟨o,es',ep,keep _ o (λhb=>?_) ho',r⟩
   obtain ⟨p,hp,e⟩:=mem hb
   exact (hf p hp).2.1 e
  ·refine (I0.hok b uo e).stay (λc' v' hc' q=>keep c' v' ?_ q) (λ_ q=>q) λ_ _ q=>q
   rcases hc' with h | h
   ·rw [h];exact trk b uo e
   ·exact trk c' _ h
 refine I1.pins_of λp hp=>?_
 rcases y8.mp hp with hp | hp
 ·exact I1.pin p (yS _ hp)
 ·obtain ⟨⟨q,hq,e⟩,h1,h2⟩:=ho p hp
  obtain ⟨f0,f1,f2,_⟩:=hf q hq
  rw [e]at f0 f1 f2
  exact ⟨h1,f0,f1,f2,h2⟩
theorem Inv.fpPin {own:List (Addr×Obj)} (I:Inv X (pins++own) U H s) {p:Addr×Obj} (hp:p∈own):s.heap.get? p.1=some p.2/\H p.1=none:=by
 have:=I.pin p (yS _ (yS _ hp))
 exact ⟨this.1,this.2.1⟩
theorem Inv.ownNew {own:List (Addr×Obj)} {h':Heap} {t':Nat} {n:Addr} {o:Obj} (I:Inv X (pins++own) U H s) (hk: ∀ b ob,s.heap.get? b=some ob->h'.get? b=some ob) (hn:s.heap.objs.size<=n) (ho:h'.get? n=some o) (hd: ∀ v,o.data≠ .cell v):
  Inv X (pins++(own++[(n,o)])) U H {s with heap:=h',toks:=t'}/\fC X pins H n:=by
 have I1:Inv X (pins++own) U H {s with heap:=h',toks:=t'}:=I.kept hk
 have f:=(I.unpinned).fpOk hn (I.hok.fresh hn)
 refine ⟨?_,f⟩
 rw [<- zm]
 refine I1.pins_of λp hp=>?_
 rcases y8.mp hp with hp | hp
 ·exact I1.pin p (yS _ hp)
 ·rw [y0.mp hp]
  exact ⟨ho,f.1,f.2.1,f.2.2.1,hd⟩
end
end L2
namespace SM
open PySem PyProof.Rows
abbrev Pd:=Array (Nat×Nat×Nat)
structure SB (a:Array Keyed) (p:Pd) (t:SortSt):Prop where
 pm:(arrOf t).Perm a
 kd:kindOf t=oneType'
 fl:failedOf t=none
 pd:pendingOf t=p
theorem SB.sz {a p t} (h:SB a p t):(arrOf t).size=a.size:=h.pm.size_eq
theorem SB.set {a p t} (h:SB a p t) {x:Array Keyed} (q:x.Perm (arrOf t)):SB a p (setArr t x):=⟨q.trans h.pm,h.kd,h.fl,h.pd⟩
def Up (x:Array Keyed) (l h:Nat):Prop:= ∀ i j,l<=i->i<=j->j<h->K x i<=K x j
def Dn (x:Array Keyed) (l h:Nat):Prop:= ∀ i j,l<=i->i<=j->j<h->K x j<=K x i
def Out (l h:Nat) (x y:Array Keyed):Prop:= ∀ k,k<l\/h<=k->y[k]? =x[k]?
theorem Out.refl {l h x}:Out l h x x:=λ_ _=>rfl
theorem Out.trans {l h x y z} (a:Out l h x y) (b:Out l h y z):Out l h x z:=λk q=>(b k q).trans (a k q)
theorem Out.le {l h l' h' x y} (a:Out l h x y) (e1:l'<=l) (e2:h<=h'):Out l' h' x y:=λk q=>a k (by lia)
theorem Out.K {l h x y} (a:Out l h x y) {k:Nat} (q:k<l\/h<=k):K y k=K x k:=K_congr (a k q)
theorem gZ {x:Array Keyed} {i j l h:Nat} (e:j<=x.size) (e1:l<=i) (e2:j<=h):Out l h x (mirror x i j ((j-i) /2)):=λk q=>by
 rw [getElem?_mirror_all e,yU (by lia)]
theorem uf {x:Array Keyed} {s d l h:Nat} (e:s<x.size) (e0:d<=s) (e1:l<=s-d) (e2:s<h):Out l h x (bubble x s d):=λk q=>by
 rw [getElem?_bubble e d e0,yU (by lia),yU (by lia)]
section
variable {P:Program} {w:World} {A:Around} {E:Value->Shared->Prop} {s:Shared} {a:Array Keyed} {p:Pd}
theorem vq {t:SortSt} (h:SB a p t) (hk:IntKeys a) {i:Nat} (hi:i<a.size): ∃ u q,(arrOf t)[i]? =some (.int (K (arrOf t) i) u,q):=by
 have e:i< (arrOf t).size:=by rw [h.sz];exact hi
 obtain ⟨n,u,hn⟩:=hk (arrOf t)[i] ((BU.mp h.pm).mem_iff.mp (by simp))
 have e1:(arrOf t)[i]? =some (arrOf t)[i]:=B4 _ i e
 refine ⟨u,(arrOf t)[i].2,?_⟩
 have e2:(arrOf t)[i]=(.int n u,(arrOf t)[i].2):=C7 hn rfl
 have e3:K (arrOf t) i=n:=by unfold K;rw [e1,e2];rfl
 rw [e1,e3]
 exact congrArg some e2
theorem kP {t:SortSt} {i j:Nat} {Q:Option Bool->SortSt->Prop} (h:SB a p t) (hk:IntKeys a) (hi:i<a.size) (hj:j<a.size) (q:Q (some (decide (K (arrOf t) i<K (arrOf t) j))) t):wpS (model P w) A E s (ltAt' i j) Q t:=by
 obtain ⟨u,x,e1⟩:=vq h hk hi
 obtain ⟨v,y,e2⟩:=vq h hk hj
 exact wpS_ltAt h.kd e1 e2 q
noncomputable def ups (lo b m:Nat):StateT SortSt Sem AscSt:=
 forIn [b:m] ((none,b):AscSt) λ_ c=>do
  let x <- ltAt' (lo+c.snd) (lo+c.snd-1)
  match x with
  | some y=>if y=true then pure (ForInStep.done (none,c.snd))else pure (ForInStep.yield (none,c.snd+1))
  | _=>pure (ForInStep.done (some none,c.snd))
noncomputable def nu (lo n m:Nat):StateT SortSt Sem (Option Nat):=do
 reverseSlice' lo (lo+n)
 let c <- ups lo n m
 match c.fst with
 | some r=>pure r
 | none=>pure (some c.snd)
noncomputable def dns (lo n m:Nat):StateT SortSt Sem DescSt:=
 forIn [n:m] ((none,n,0):DescSt) λ_ c=>do
  let x <- ltAt' (lo+c.snd.fst) (lo+c.snd.fst-1)
  match x with
  | some y=>
   if y=true then
    if c.snd.snd>0 then do
     reverseSlice' (lo+c.snd.fst- (c.snd.snd+1)) (lo+c.snd.fst)
     pure (ForInStep.yield (none,c.snd.fst+1,0))
    else pure (ForInStep.yield (none,c.snd.fst+1,0))
   else do
    let x <- ltAt' (lo+c.snd.fst-1) (lo+c.snd.fst)
    match x with
    | some z=>
     if z=true then pure (ForInStep.done (none,c.snd.fst,c.snd.snd))
     else pure (ForInStep.yield (none,c.snd.fst+1,c.snd.snd+1))
    | _=>pure (ForInStep.done (some none,c.snd.fst,c.snd.snd))
  | _=>pure (ForInStep.done (some none,c.snd.fst,c.snd.snd))
noncomputable def sI (lo n m:Nat):StateT SortSt Sem (Option Nat):=do
 liftM (rule "list.sort.descending-run")
 let c <- dns lo (n+1) m
 match c.fst with
 | some r=>pure r
 | none=>
  if c.snd.snd>0 then do
   reverseSlice' (lo+c.snd.fst- (c.snd.snd+1)) (lo+c.snd.fst)
   nu lo c.snd.fst m
  else nu lo c.snd.fst m
theorem vV (lo m:Nat):countRun' lo m=(do
  let c <- ups lo 1 m
  match c.fst with
  | some r=>pure r
  | none=>
   if (c.snd==m)=true then pure (some c.snd)
   else if c.snd>1 then do
    let x <- ltAt' lo (lo+c.snd-1)
    match x with
    | some y=>if y=true then pure (some c.snd)else do
      reverseSlice' lo (lo+c.snd)
      sI lo c.snd m
    | _=>pure none
   else sI lo c.snd m):=by
 rw [countRun'_eq]
 refine congrArg (bind (ups lo 1 m)) (funext λc=>?_)
 obtain ⟨r,n⟩:=c
 have te: ∀ {n':Nat} {k:AscSt->StateT SortSt Sem (Option Nat)},(∀ c,k c=match c.fst with | some r=>pure r | none=>pure (some c.snd))->(bind (reverseSlice' lo (lo+n')) λ_=>bind (ups lo n' m) k)=nu lo n' m:=λh=>congrArg (bind _) (funext λ_=>congrArg (bind _) (funext h))
 have de: ∀ {k:DescSt->StateT SortSt Sem (Option Nat)},(∀ c,k c=match c.fst with
   | some r=>pure r
   | none=>if c.snd.snd>0 then do reverseSlice' (lo+c.snd.fst- (c.snd.snd+1)) (lo+c.snd.fst);nu lo c.snd.fst m else nu lo c.snd.fst m)->(bind (liftM (rule "list.sort.descending-run")) λ_=>bind (dns lo (n+1) m) k)=sI lo n m:=λh=>congrArg (bind _) (funext λ_=>congrArg (bind _) (funext h))
 cases r with
 | some r=>rfl
 | none=>
  dsimp only
  split
  ·rfl
  ·split
   ·refine congrArg (bind _) (funext λx=>?_)
    cases x with
    | none=>rfl
    | some y=>
     dsimp only
     split
     ·rfl
     ·refine congrArg (bind _) (funext λ_=>de λc2=>?_)
      obtain ⟨r2,n2,q2⟩:=c2
      cases r2 with
      | some r2=>rfl
      | none=>
       dsimp only
       split
       ·exact congrArg (bind _) (funext λ_=>te λc3=>by obtain ⟨r3,n3⟩:=c3;cases r3 <;> rfl)
       ·exact te λc3=>by obtain ⟨r3,n3⟩:=c3;cases r3 <;> rfl
   ·refine de λc2=>?_
    obtain ⟨r2,n2,q2⟩:=c2
    cases r2 with
    | some r2=>rfl
    | none=>
     dsimp only
     split
     ·exact congrArg (bind _) (funext λ_=>te λc3=>by obtain ⟨r3,n3⟩:=c3;cases r3 <;> rfl)
     ·exact te λc3=>by obtain ⟨r3,n3⟩:=c3;cases r3 <;> rfl
theorem nH {t:SortSt} {i j:Nat} {Q:Unit->SortSt->Prop} (q:Q () (setArr t (mirror (arrOf t) i j ((j-i) /2)))):wpS (model P w) A E s (reverseSlice' i j) Q t:=by
 rw [reverseSlice'_eq]
 exact CS q
theorem uY {t:SortSt} {lo b m:Nat} {Q:AscSt->SortSt->Prop} (hk:IntKeys a) (hm:lo+m<=a.size) (hb:1<=b) (hbm:b<=m) (hB:SB a p t) (hs:Up (arrOf t) lo (lo+b))
  (q: ∀ n,b<=n->n<=m->Up (arrOf t) lo (lo+n)->(n=m\/K (arrOf t) (lo+n) <K (arrOf t) (lo+n-1))->Q (none,n) t):wpS (model P w) A E s (ups lo b m) Q t:=by
 unfold ups
 refine An (I:=λx c t'=>t'=t/\c=(none,x)/\Up (arrOf t) lo (lo+x)) ?_ ?_ ⟨rfl,rfl,hs⟩
 ·rintro x c t' h1 h2 ⟨rfl,rfl,hs'⟩
  dsimp only
  refine zb (kP hB hk (by lia) (by lia) ?_)
  by_cases hl:K (arrOf t') (lo+x) <K (arrOf t') (lo+x-1)
  ·simp only [hl,Cu,AM]
   exact zh (q x h1 (by lia) hs' (.inr hl))
  ·simp only [hl,B5,zg,zX]
   refine zh ⟨rfl,rfl,λi j hi hij hj=>?_⟩
   by_cases hx:j<lo+x
   ·exact hs' i j hi hij hx
   ·have e:j=lo+x:=by lia
    subst e
    by_cases e:i=lo+x
    ·rw [e];exact AU _
    ·exact C6 (hs' i (lo+x-1) hi (by lia) (by lia)) (Int.not_lt.mp hl)
 ·rintro c t' ⟨rfl,rfl,hs'⟩
  have e:max b m=m:=by lia
  rw [e]at hs' ⊢
  exact q m hbm (yV _) hs' (.inl rfl)
theorem vx {x:Array Keyed} {i j:Nat} (e:j<=x.size) (k:Nat):K (mirror x i j ((j-i) /2)) k=if i<=k/\k<j then K x (i+j-1-k)else K x k:=K_mirror e k
theorem ql {t:SortSt} {lo n m:Nat} {Q:Option Nat->SortSt->Prop} (hk:IntKeys a) (hm:lo+m<=a.size) (h1:1<=n) (hn:n<=m) (hB:SB a p t) (hs:Dn (arrOf t) lo (lo+n))
  (q: ∀ n' t',SB a p t'->1<=n'->n'<=m->Up (arrOf t') lo (lo+n')->Out lo (lo+m) (arrOf t) (arrOf t')->Q (some n') t'):wpS (model P w) A E s (nu lo n m) Q t:=by
 unfold nu
 have hz:lo+n<=(arrOf t).size:=by rw [hB.sz];lia
 refine zb (nH ?_)
 have hB':=hB.set (mirror_perm (arrOf t) lo (lo+n) ((lo+n-lo) /2))
 refine zb (uY hk hm h1 hn hB' (λi j hi hij hj=>?_) λn' e1 e2 hs' _=>zh (q n' _ hB' (by lia) e2 hs' (gZ hz (yV _) (by lia))))
 show K (mirror (arrOf t) lo (lo+n) _) i<=K (mirror (arrOf t) lo (lo+n) _) j
 rw [vx hz,vx hz,yW (by lia),yW (by lia)]
 exact hs _ _ (by lia) (by lia) (by lia)
theorem wW {t:SortSt} {lo n m:Nat} {Q:DescSt->SortSt->Prop} (hk:IntKeys a) (hm:lo+m<=a.size) (h1:1<=n) (hn:n<=m) (hB:SB a p t) (hs:Dn (arrOf t) lo (lo+n))
  (q: ∀ n' e t',SB a p t'->n<=n'->n'<=m->Dn (arrOf t') lo (lo+n')->e+1<=n'->(∀ i,lo+n'- (e+1)<=i->i<lo+n'->K (arrOf t') i=K (arrOf t') (lo+n'-1))->Out lo (lo+m) (arrOf t) (arrOf t')->Q (none,n',e) t'):wpS (model P w) A E s (dns lo n m) Q t:=by
 unfold dns
 refine An (I:=λx c t'=> ∃ e,c=(none,x,e)/\SB a p t'/\Dn (arrOf t') lo (lo+x)/\e+1<=x/\(∀ i,lo+x- (e+1)<=i->i<lo+x->K (arrOf t') i=K (arrOf t') (lo+x-1))/\Out lo (lo+m) (arrOf t) (arrOf t')) ?_ ?_ ⟨0,rfl,hB,hs,by lia,λi e1 e2=>by congr 1;lia,Out.refl⟩
 ·rintro x c t' h2 h3 ⟨e,rfl,hB',hs',he,heq,ho⟩
  dsimp only
  have hz:lo+x<=(arrOf t').size:=by rw [hB'.sz];lia
  refine zb (kP hB' hk (by lia) (by lia) ?_)
  by_cases hl:K (arrOf t') (lo+x) <K (arrOf t') (lo+x-1)
  ·simp only [hl,Cu,AM]
   have nx: ∀ y:Array Keyed,(∀ k,K y k=K (arrOf t') k)->Dn y lo (lo+ (x+1)):=λy ky i j hi hij hj=>by
    rw [ky,ky]
    by_cases hx:j<lo+x
    ·exact hs' i j hi hij hx
    ·have e:j=lo+x:=by lia
     subst e
     by_cases e:i=lo+x
     ·rw [e];exact AU _
     ·exact C6 (DD hl) (hs' i (lo+x-1) hi (by lia) (by lia))
   by_cases h0:e>0
   ·rw [yW h0]
    exact zb (nH (zh ⟨0,rfl,hB'.set (mirror_perm _ _ _ _),nx _ (CH hz heq),by lia,λi e1 e2=>by congr 1;lia,ho.trans (gZ hz (by lia) (by lia))⟩))
   ·rw [yU h0]
    exact zh ⟨0,rfl,hB',nx _ (λ_=>rfl),by lia,λi e1 e2=>by congr 1;lia,ho⟩
  ·simp only [hl,B5,zg,zX]
   refine zb (kP hB' hk (by lia) (by lia) ?_)
   by_cases hg:K (arrOf t') (lo+x-1) <K (arrOf t') (lo+x)
   ·simp only [hg,Cu,AM]
    exact zh (q x e t' hB' h2 (by lia) hs' he heq ho)
   ·simp only [hg,B5,zg,zX]
    have ex:K (arrOf t') (lo+x)=K (arrOf t') (lo+x-1):=by lia
    refine zh ⟨e+1,rfl,hB',λi j hi hij hj=>?_,by lia,λi e1 e2=>?_,ho⟩
    ·by_cases hx:j<lo+x
     ·exact hs' i j hi hij hx
     ·have e:j=lo+x:=by lia
      subst e
      by_cases e:i=lo+x
      ·rw [e];exact AU _
      ·rw [ex];exact hs' i (lo+x-1) hi (by lia) (by lia)
    ·have e3:lo+ (x+1) -1=lo+x:=by lia
     rw [e3]
     by_cases e4:i=lo+x
     ·rw [e4]
     ·rw [ex];exact heq i (by lia) (by lia)
 ·rintro c t' ⟨e,rfl,hB',hs',he,heq,ho⟩
  have e3:max n m=m:=by lia
  rw [e3]at hs' he heq ⊢
  exact q m e t' hB' hn (yV _) hs' he heq ho
theorem qo {t:SortSt} {lo n m:Nat} {Q:Option Nat->SortSt->Prop} (hk:IntKeys a) (hm:lo+m<=a.size) (hn:n+1<=m) (hB:SB a p t) (hs:Dn (arrOf t) lo (lo+ (n+1)))
  (q: ∀ n' t',SB a p t'->1<=n'->n'<=m->Up (arrOf t') lo (lo+n')->Out lo (lo+m) (arrOf t) (arrOf t')->Q (some n') t'):wpS (model P w) A E s (sI lo n m) Q t:=by
 unfold sI
 refine zb (Dx (A7 ⟨rfl,?_⟩))
 refine zb (wW hk hm (by lia) hn hB hs λn' e t' hB' e1 e2 hs' he heq ho=>?_)
 dsimp only
 have hz:lo+n'<=(arrOf t').size:=by rw [hB'.sz];lia
 by_cases h0:e>0
 ·rw [yW h0]
  refine zb (nH (ql hk hm (by lia) e2 (hB'.set (mirror_perm _ _ _ _)) (λi j hi hij hj=>?_) λn2 t2 b1 b2 b3 b4 b5=>q n2 t2 b1 b2 b3 b4 ((ho.trans (gZ hz (by lia) (by lia))).trans b5)))
  show K (mirror (arrOf t') _ _ _) j<=K (mirror (arrOf t') _ _ _) i
  rw [CH hz heq,CH hz heq]
  exact hs' i j hi hij hj
 ·rw [yU h0]
  exact ql hk hm (by lia) e2 hB' hs' λn2 t2 b1 b2 b3 b4 b5=>q n2 t2 b1 b2 b3 b4 (ho.trans b5)
theorem wU {t:SortSt} {lo m:Nat} {Q:Option Nat->SortSt->Prop} (hk:IntKeys a) (hm:lo+m<=a.size) (h1:1<=m) (hB:SB a p t)
  (q: ∀ n t',SB a p t'->1<=n->n<=m->Up (arrOf t') lo (lo+n)->Out lo (lo+m) (arrOf t) (arrOf t')->Q (some n) t'):wpS (model P w) A E s (countRun' lo m) Q t:=by
 rw [vV]
 refine zb (uY hk hm (yV 1) h1 hB (λi j hi hij hj=>by rw [show i=j by lia];exact AU _) λn e1 e2 hs hor=>?_)
 dsimp only
 by_cases hn:n=m
 ·rw [yW (by simpa using hn)]
  exact zh (q n t hB e1 e2 hs Out.refl)
 ·rw [yU (by simpa using hn)]
  have hl:=hor.resolve_left hn
  by_cases hg:n>1
  ·rw [yW hg]
   refine zb (kP hB hk (by lia) (by lia) ?_)
   by_cases hr:K (arrOf t) lo<K (arrOf t) (lo+n-1)
   ·simp only [hr,Cu,AM]
    exact zh (q n t hB e1 e2 hs Out.refl)
   ·simp only [hr,B5,zg,zX]
    have hz:lo+n<=(arrOf t).size:=by rw [hB.sz];lia
    have heq: ∀ k,lo<=k->k<lo+n->K (arrOf t) k=K (arrOf t) (lo+n-1):=λk k1 k2=>by
     have a1:=hs lo k (yV _) k1 k2
     have a2:=hs k (lo+n-1) k1 (by lia) (by lia)
     lia
    refine zb (nH (qo hk hm (by lia) (hB.set (mirror_perm _ _ _ _)) (λi j hi hij hj=>?_) λn2 t2 b1 b2 b3 b4 b5=>q n2 t2 b1 b2 b3 b4 ((gZ hz (yV _) (by lia)).trans b5)))
    show K (mirror (arrOf t) _ _ _) j<=K (mirror (arrOf t) _ _ _) i
    rw [CH hz heq,CH hz heq]
    by_cases hx:j<lo+n
    ·rw [heq i hi (by lia),heq j (by lia) hx];exact AU _
    ·have e:j=lo+n:=by lia
     subst e
     by_cases e:i=lo+n
     ·rw [e];exact AU _
     ·rw [heq i hi (by lia)];exact DD hl
  ·rw [yU hg]
   have e:n=1:=by lia
   subst e
   refine qo hk hm (by lia) hB (λi j hi hij hj=>?_) q
   by_cases e:i=j
   ·rw [e];exact AU _
   ·have e3:i=lo:=by lia
    have e4:j=lo+1:=by lia
    rw [e3,e4]
    exact DD hl
theorem wV {t:SortSt} {lo n ok:Nat} {Q:Bool->SortSt->Prop} (hk:IntKeys a) (hm:lo+n<=a.size) (hok:ok<=n) (hB:SB a p t) (hs:Up (arrOf t) lo (lo+ok))
  (q: ∀ t',SB a p t'->Up (arrOf t') lo (lo+n)->Out lo (lo+n) (arrOf t) (arrOf t')->Q true t'):wpS (model P w) A E s (binarySort' lo n ok) Q t:=by
 rw [binarySort'_eq]
 refine zb (BC (An (I:=λk c t'=>c=(none,())/\SB a p t'/\Up (arrOf t') lo (lo+min k n)/\Out lo (lo+n) (arrOf t) (arrOf t'))
  (Q:=λc t'=>c=(none,())/\SB a p t'/\Up (arrOf t') lo (lo+n)/\Out lo (lo+n) (arrOf t) (arrOf t')) ?_ ?_ ⟨rfl,hB,λi j hi hij hj=>?_,Out.refl⟩) ?_)
 ·rintro k c t' h1 h2 ⟨rfl,hB',hs',ho⟩
  rw [show min k n=k by lia]at hs'
  refine zb (BC (An (I:=λx c t''=>t''=t'/\ ∃ l r,c=(none,l,r)/\l<=r/\r<=k/\r-l<=k-x/\
    (∀ i,i<l->K (arrOf t') (lo+i)<=K (arrOf t') (lo+k))/\(∀ i,r<=i->i<k->K (arrOf t') (lo+k) <K (arrOf t') (lo+i)))
   (Q:=λc t''=>t''=t'/\ ∃ l r,c=(none,l,r)/\l<=k/\
    (∀ i,i<l->K (arrOf t') (lo+i)<=K (arrOf t') (lo+k))/\(∀ i,l<=i->i<k->K (arrOf t') (lo+k) <K (arrOf t') (lo+i))) ?_ ?_ ⟨rfl,0,k,rfl,by lia,by lia,by lia,λi hi=>by lia,λi e1 e2=>by lia⟩) ?_)
  ·rintro x c t'' _ hx ⟨rfl,l,r,rfl,e1,e2,e3,hlo,hhi⟩
   dsimp only
   by_cases hg:l≥r
   ·rw [yW hg]
    have e:l=r:=by lia
    subst e
    exact zh ⟨rfl,l,l,rfl,e2,hlo,hhi⟩
   ·rw [yU hg]
    refine zb (kP hB' hk (by lia) (by lia) ?_)
    by_cases hl:K (arrOf t'') (lo+k) <K (arrOf t'') (lo+ (l+r) /2)
    ·simp only [hl,Cu,AM]
     exact zh ⟨rfl,l,(l+r) /2,rfl,by lia,by lia,by lia,hlo,λi a1 a2=>Int.lt_of_lt_of_le hl (hs' _ _ (by lia) (by lia) (by lia))⟩
    ·simp only [hl,B5,zg,zX]
     exact zh ⟨rfl,(l+r) /2+1,r,rfl,by lia,by lia,by lia,λi a1=>C6 (hs' (lo+i) (lo+ (l+r) /2) (by lia) (by lia) (by lia)) (Int.not_lt.mp hl),hhi⟩
  ·rintro c t'' ⟨rfl,l,r,rfl,e1,e2,e3,hlo,hhi⟩
   have e:l=r:=by lia
   subst e
   exact ⟨rfl,l,l,rfl,e2,hlo,hhi⟩
  ·rintro c t'' ⟨rfl,l,r,rfl,e1,hlo,hhi⟩
   show wpS _ _ _ _ (do moveDown' (lo+k) (lo+l);pure (ForInStep.yield (none,()))) _ _
   rw [moveDown'_eq]
   have hz:lo+k< (arrOf t'').size:=by rw [hB'.sz];lia
   refine zb (CS (zh ⟨rfl,hB'.set (bubble_perm _ _ _),?_,ho.trans (uf hz (by lia) (by lia) (by lia))⟩))
   rw [show min (k+1) n=k+1 by lia]
   intro i j hi hij hj
   show K (bubble (arrOf t'') (lo+k) (lo+k- (lo+l))) i<=K (bubble (arrOf t'') (lo+k) (lo+k- (lo+l))) j
   rw [K_bubble hz (by lia),K_bubble hz (by lia),show lo+k- (lo+k- (lo+l))=lo+l by lia]
   have g1: ∀ i,lo<=i->i<lo+l->K (arrOf t'') i<=K (arrOf t'') (lo+k):=λi a1 a2=>by have:=hlo (i-lo) (by lia);rwa [show lo+ (i-lo)=i by lia]at this
   have g2: ∀ i,lo+l<=i->i<lo+k->K (arrOf t'') (lo+k) <K (arrOf t'') i:=λi a1 a2=>by have:=hhi (i-lo) (by lia) (by lia);rwa [show lo+ (i-lo)=i by lia]at this
   repeat' split
   all_goals first
    | (exfalso;lia)
    | exact AU _
    | exact g1 _ (by lia) (by lia)
    | exact DD (g2 _ (by lia) (by lia))
    | exact hs' _ _ (by lia) (by lia) (by lia)
 ·rintro c t' ⟨rfl,hB',hs',ho⟩
  rw [show min (max (max ok 1) n) n=n by lia]at hs'
  exact ⟨rfl,hB',hs',ho⟩
 ·by_cases e:ok=0
  ·rw [show i=j by lia];exact AU _
  ·exact hs i j hi hij (by lia)
 ·rintro c t' ⟨rfl,hB',hs',ho⟩
  exact zh (q t' hB' hs' ho)
end
noncomputable def cY:Bool->Keyed->Array Keyed->Nat->Nat->Nat->StateT SortSt Sem (Option Nat):=sortPriv% PySem.Builtin.gallop
noncomputable def byd (left:Bool) (key:Keyed) (arr:Array Keyed) (base i:Nat):StateT SortSt Sem (Option Bool):=do
 let x <- elem' arr (base+i)
 if left then lt' x key else return (<- lt' key x).map (!·)
theorem pY (left:Bool) (key:Keyed) (arr:Array Keyed) (base n hint:Nat):cY left key arr base n hint=(do
 let mut lastofs:=0
 let mut ofs:=1
 let mut lo:=0
 let mut hi:=0
 let some right <- byd left key arr base hint | return none
 if right then
  let maxofs:=n-hint
  for _ in [0:n] do
   if ofs≥maxofs then break
   let some more <- byd left key arr base (hint+ofs) | return none
   if !more then break
   lastofs:=ofs
   ofs:=2*ofs+1
  lo:=hint+lastofs+1
  hi:=hint+min ofs maxofs
 else
  let maxofs:=hint+1
  for _ in [0:n] do
   if ofs≥maxofs then break
   let some found <- byd left key arr base (hint-ofs) | return none
   if found then break
   lastofs:=ofs
   ofs:=2*ofs+1
  lo:=hint+1-min ofs maxofs
  hi:=hint-lastofs
 for _ in [0:n] do
  if lo≥hi then break
  let m:=lo+ (hi-lo) /2
  let some more <- byd left key arr base m | return none
  if more then lo:=m+1 else hi:=m
 return some hi):=rfl
def IK (x:Keyed):Prop:= ∃ n u,x.1=.int n u
noncomputable def nK (x:Keyed):Int:=numOf x.1
section
variable {P:Program} {w:World} {A:Around} {E:Value->Shared->Prop} {s:Shared}
theorem nI {t:SortSt} {x y:Keyed} {Q:Option Bool->SortSt->Prop} (hk:kindOf t=oneType') (hx:IK x) (hy:IK y) (q:Q (some (decide (nK x<nK y))) t):wpS (model P w) A E s (lt' x y) Q t:=by
 obtain ⟨n,u,e1⟩:=hx
 obtain ⟨m,v,e2⟩:=hy
 rw [lt'_eq]
 refine zb (Dj ?_)
 rw [hk,keyLt'_oneType,e1,e2]
 refine zb (Dx (Bv (oneLt_int ⟨rfl,zh ?_⟩)))
 unfold nK at q
 rw [e1,e2]at q
 exact q
noncomputable def bR (left:Bool) (key:Keyed) (arr:Array Keyed) (i:Nat):Bool:=if left then decide (K arr i<nK key)else !decide (nK key<K arr i)
theorem nJ {t:SortSt} {left:Bool} {key:Keyed} {arr:Array Keyed} {base i:Nat} {Q:Option Bool->SortSt->Prop} (hk:kindOf t=oneType') (ha:IntKeys arr) (hy:IK key) (hi:base+i<arr.size) (q:Q (some (bR left key arr (base+i))) t):wpS (model P w) A E s (byd left key arr base i) Q t:=by
 have e1:arr[base+i]? =some arr[base+i]:=B4 arr (base+i) hi
 have hx:IK arr[base+i]:=ha _ (by simp)
 have e2:nK arr[base+i]=K arr (base+i):=by unfold nK K;rw [e1]
 unfold byd
 rw [elem'_eq,e1]
 refine zb (zh ?_)
 unfold bR at q
 rw [<- e2]at q
 cases left with
 | true=>exact nI hk hx hy q
 | false=>exact zb (nI hk hy hx (zh q))
theorem iW {left:Bool} {key:Keyed} {arr:Array Keyed} {l h i j:Nat} (hs:Up arr l h) (h1:l<=i) (h2:i<=j) (h3:j<h) (q:bR left key arr j=true):bR left key arr i=true:=by
 have:=hs i j h1 h2 h3
 unfold bR at q ⊢
 cases left with
 | true=>exact zq (Int.lt_of_le_of_lt this (zf q))
 | false=>
  have q:(!decide (nK key<K arr j))=true:=q
  show (!decide (nK key<K arr i))=true
  rw [CD]at q ⊢
  have:=of_decide_eq_false q
  exact zK (by lia)
abbrev GSt:=Option (Option Nat)×Nat×Nat
theorem u0 {t:SortSt} {left:Bool} {key:Keyed} {arr:Array Keyed} {base n lo hi:Nat} {Q:Option Nat->SortSt->Prop} {f:Nat->GSt->StateT SortSt Sem (ForInStep GSt)} {k:GSt->StateT SortSt Sem (Option Nat)}
  (hf: ∀ x lo hi,∃ g,f x (none,lo,hi)=(if lo≥hi then pure (ForInStep.done (none,lo,hi))else bind (byd left key arr base (lo+ (hi-lo) /2)) g)/\g (some true)=pure (ForInStep.yield (none,lo+ (hi-lo) /2+1,hi))/\g (some false)=pure (ForInStep.yield (none,lo,lo+ (hi-lo) /2)))
  (hk': ∀ lo hi,k (none,lo,hi)=pure (some hi)) (hk:kindOf t=oneType') (ha:IntKeys arr) (hy:IK key) (hn:base+n<=arr.size) (hs:Up arr base (base+n)) (h1:lo<=hi) (h2:hi<=n)
  (h3: ∀ i,i<lo->bR left key arr (base+i)=true) (h4: ∀ i,hi<=i->i<n->bR left key arr (base+i)=false)
  (q: ∀ k,k<=n->(∀ i,i<k->bR left key arr (base+i)=true)->(∀ i,k<=i->i<n->bR left key arr (base+i)=false)->Q (some k) t):wpS (model P w) A E s (bind (forIn [0:n] ((none,lo,hi):GSt) f) k) Q t:=by
 refine zb (BC (An (I:=λx c t'=>t'=t/\ ∃ lo hi,c=(none,lo,hi)/\lo<=hi/\hi<=n/\hi-lo<=n-x/\(∀ i,i<lo->bR left key arr (base+i)=true)/\(∀ i,hi<=i->i<n->bR left key arr (base+i)=false))
  (Q:=λc t'=>t'=t/\ ∃ k,c=(none,k,k)/\k<=n/\(∀ i,i<k->bR left key arr (base+i)=true)/\(∀ i,k<=i->i<n->bR left key arr (base+i)=false)) ?_ ?_ ⟨rfl,lo,hi,rfl,h1,h2,by lia,h3,h4⟩) ?_)
 ·rintro x c t' _ hx ⟨rfl,lo,hi,rfl,a1,a2,a3,a4,a5⟩
  obtain ⟨g,e1,e2,e3⟩:=hf x lo hi
  rw [e1]
  by_cases hg:lo≥hi
  ·rw [yW hg]
   have e:lo=hi:=by lia
   subst e
   exact zh ⟨rfl,lo,rfl,a2,a4,a5⟩
  ·rw [yU hg]
   refine zb (nJ hk ha hy (by lia) ?_)
   cases e:bR left key arr (base+ (lo+ (hi-lo) /2))with
   | true=>
    rw [e2]
    exact zh ⟨rfl,lo+ (hi-lo) /2+1,hi,rfl,by lia,a2,by lia,λi hi'=>iW hs (by lia) (by lia) (by lia) e,a5⟩
   | false=>
    rw [e3]
    refine zh ⟨rfl,lo,lo+ (hi-lo) /2,rfl,by lia,by lia,by lia,a4,λi b1 b2=>?_⟩
    cases e4:bR left key arr (base+i)with
    | false=>rfl
    | true=>rw [iW hs (by lia) (Nat.add_le_add_left b1 base) (by lia) e4]at e;cases e
 ·rintro c t' ⟨rfl,lo,hi,rfl,a1,a2,a3,a4,a5⟩
  have e:lo=hi:=by lia
  subst e
  exact ⟨rfl,lo,rfl,a2,a4,a5⟩
 ·rintro c t' ⟨rfl,j,rfl,b1,b2,b3⟩
  rw [hk']
  exact zh (q j b1 b2 b3)
theorem jb {t:SortSt} {left:Bool} {key:Keyed} {arr:Array Keyed} {base n hint:Nat} {Q:Option Nat->SortSt->Prop} (hk:kindOf t=oneType') (ha:IntKeys arr) (hy:IK key) (hn:base+n<=arr.size) (hh:hint<n) (hs:Up arr base (base+n))
  (q: ∀ k,k<=n->(∀ i,i<k->bR left key arr (base+i)=true)->(∀ i,k<=i->i<n->bR left key arr (base+i)=false)->Q (some k) t):wpS (model P w) A E s (cY left key arr base n hint) Q t:=by
 have up: ∀ {i j},i<=j->j<n->bR left key arr (base+j)=true->bR left key arr (base+i)=true:=λe1 e2=>iW hs (by lia) (by lia) (by lia)
 have dn: ∀ {i j},i<=j->j<n->bR left key arr (base+i)=false->bR left key arr (base+j)=false:=λ{i j} e1 e2 e3=>by
  cases e:bR left key arr (base+j)with
  | false=>rfl
  | true=>rw [up e1 e2 e]at e3;cases e3
 rw [pY]
 refine zb (nJ hk ha hy (by lia) ?_)
 cases e0:bR left key arr (base+hint)with
 | true=>
  dsimp only
  rw [yW rfl]
  refine zb (BC (An (I:=λx c t'=>t'=t/\ ∃ l o,c=(none,l,o)/\l<o/\x<=l/\hint+l<n/\bR left key arr (base+ (hint+l))=true)
   (Q:=λc t'=>t'=t/\ ∃ l o,c=(none,l,o)/\l<o/\hint+l<n/\bR left key arr (base+ (hint+l))=true/\(hint+o<n->bR left key arr (base+ (hint+o))=false)) ?_ ?_ ⟨rfl,0,1,rfl,by lia,by lia,by lia,e0⟩) ?_)
  ·rintro x c t' _ hx ⟨rfl,l,o,rfl,a1,a2,a3,a4⟩
   dsimp only
   by_cases hg:o≥n-hint
   ·rw [yW hg]
    exact zh ⟨rfl,l,o,rfl,a1,a3,a4,λz=>by lia⟩
   ·rw [yU hg]
    refine zb (nJ hk ha hy (by lia) ?_)
    cases e:bR left key arr (base+ (hint+o))with
    | true=>
     simp only [AF,zg,zX]
     exact zh ⟨rfl,o,2*o+1,rfl,by lia,by lia,by lia,e⟩
    | false=>
     simp only [Bool.not_false,AM]
     exact zh ⟨rfl,l,o,rfl,a1,a3,a4,λ_=>e⟩
  ·rintro c t' ⟨rfl,l,o,rfl,a1,a2,a3,a4⟩
   exfalso
   lia
  ·rintro c t' ⟨rfl,l,o,rfl,a1,a3,a4,a5⟩
   dsimp only
   exact u0 (λ_ _ _=>⟨_,rfl,rfl,rfl⟩) (λ_ _=>rfl) hk ha hy hn hs (by lia) (by lia) (λi hi=>up (j:=hint+l) (by lia) (by lia) a4) (λi b1 b2=>dn (i:=hint+o) (by lia) b2 (a5 (by lia))) q
 | false=>
  dsimp only
  rw [yU zp]
  refine zb (BC (An (I:=λx c t'=>t'=t/\ ∃ l o,c=(none,l,o)/\l<o/\x<=l/\l<=hint/\bR left key arr (base+ (hint-l))=false)
   (Q:=λc t'=>t'=t/\ ∃ l o,c=(none,l,o)/\l<o/\l<=hint/\bR left key arr (base+ (hint-l))=false/\(o<=hint->bR left key arr (base+ (hint-o))=true)) ?_ ?_ ⟨rfl,0,1,rfl,by lia,by lia,by lia,e0⟩) ?_)
  ·rintro x c t' _ hx ⟨rfl,l,o,rfl,a1,a2,a3,a4⟩
   dsimp only
   by_cases hg:o≥hint+1
   ·rw [yW hg]
    exact zh ⟨rfl,l,o,rfl,a1,a3,a4,λz=>by lia⟩
   ·rw [yU hg]
    refine zb (nJ hk ha hy (by lia) ?_)
    cases e:bR left key arr (base+ (hint-o))with
    | true=>
     simp only [AM]
     exact zh ⟨rfl,l,o,rfl,a1,a3,a4,λ_=>e⟩
    | false=>
     simp only [zg,zX]
     exact zh ⟨rfl,o,2*o+1,rfl,by lia,by lia,by lia,e⟩
  ·rintro c t' ⟨rfl,l,o,rfl,a1,a2,a3,a4⟩
   exfalso
   lia
  ·rintro c t' ⟨rfl,l,o,rfl,a1,a3,a4,a5⟩
   dsimp only
   exact u0 (λ_ _ _=>⟨_,rfl,rfl,rfl⟩) (λ_ _=>rfl) hk ha hy hn hs (by lia) (by lia) (λi hi=>up (j:=hint-o) (by lia) (by lia) (a5 (by lia))) (λi b1 b2=>dn (i:=hint-l) (by lia) b2 a4) q
end
def le (x y:Keyed):Prop:=nK x<=nK y
structure MI (r:Keyed->Keyed->Prop) (all out A B:List Keyed):Prop where
 pm:(out++(A++B)).Perm all
 so:out.Pairwise r
 lo: ∀ x∈out,∀ y∈A++B,r x y
 sa:A.Pairwise r
 sb:B.Pairwise r
def Res (r:Keyed->Keyed->Prop) (all l:List Keyed):Prop:=l.Perm all/\l.Pairwise r
theorem MI.tA {r:Keyed->Keyed->Prop} {all out A1 A2 B:List Keyed} (h:MI r all out (A1++A2) B) (q: ∀ x∈A1,∀ z∈B,r x z):MI r all (out++A1) A2 B:=by
 have p:=Ak.mp h.sa
 refine ⟨by simpa [zm]using h.pm,Ak.mpr ⟨h.so,p.1,λx hx y hy=>h.lo x hx y (zx _ (zx _ hy))⟩,λx hx y hy=>?_,p.2.1,h.sb⟩
 rcases y8.mp hx with hx | hx
 ·rcases y8.mp hy with hy | hy
  ·exact h.lo x hx y (zx _ (yS _ hy))
  ·exact h.lo x hx y (yS _ hy)
 ·rcases y8.mp hy with hy | hy
  ·exact p.2.2 x hx y hy
  ·exact q x hx y hy
theorem MI.tB {r:Keyed->Keyed->Prop} {all out A B1 B2:List Keyed} (h:MI r all out A (B1++B2)) (q: ∀ x∈B1,∀ z∈A,r x z):MI r all (out++B1) A B2:=by
 have p:=Ak.mp h.sb
 refine ⟨?_,Ak.mpr ⟨h.so,p.1,λx hx y hy=>h.lo x hx y (yS _ (zx _ hy))⟩,λx hx y hy=>?_,h.sa,p.2.1⟩
 ·refine List.Perm.trans ?_ h.pm
  rw [zm]
  refine List.Perm.append_left _ ?_
  rw [<- zm,<- zm]
  exact List.Perm.append_right _ CM
 rcases y8.mp hx with hx | hx
 ·rcases y8.mp hy with hy | hy
  ·exact h.lo x hx y (zx _ hy)
  ·exact h.lo x hx y (yS _ (yS _ hy))
 ·rcases y8.mp hy with hy | hy
  ·exact q x hx y hy
  ·exact p.2.2 x hx y hy
theorem MI.nB {r:Keyed->Keyed->Prop} {all out A:List Keyed} (h:MI r all out A []):Res r all (out++A):=⟨by simpa using h.pm,Ak.mpr ⟨h.so,h.sa,λx hx y hy=>h.lo x hx y (zx _ hy)⟩⟩
theorem MI.lA {r:Keyed->Keyed->Prop} {all out A B:List Keyed} (h:MI r all out A B) (q: ∀ y∈B,∀ x∈A,r y x):Res r all (out++B++A):=by
 refine ⟨List.Perm.trans ?_ h.pm,Ak.mpr ⟨Ak.mpr ⟨h.so,h.sb,λx hx y hy=>h.lo x hx y (yS _ hy)⟩,h.sa,λx hx y hy=>?_⟩⟩
 ·rw [zm]
  exact List.Perm.append_left _ CM
 ·rcases y8.mp hx with hx | hx
  ·exact h.lo x hx y (zx _ hy)
  ·exact q x hx y hy
theorem MI.lB {r:Keyed->Keyed->Prop} {all out A B:List Keyed} (h:MI r all out A B) (q: ∀ x∈A,∀ y∈B,r x y):Res r all (out++A++B):=by
 refine ⟨by rw [zm];exact h.pm,Ak.mpr ⟨Ak.mpr ⟨h.so,h.sa,λx hx y hy=>h.lo x hx y (zx _ hy)⟩,h.sb,λx hx y hy=>?_⟩⟩
 rcases y8.mp hx with hx | hx
 ·exact h.lo x hx y (yS _ hy)
 ·exact q x hx y hy
structure ST (t t':SortSt):Prop where
 kd:kindOf t'=kindOf t
 ar:arrOf t'=arrOf t
 pd:pendingOf t'=pendingOf t
 fl:failedOf t'=failedOf t
theorem ST.refl {t:SortSt}:ST t t:=⟨rfl,rfl,rfl,rfl⟩
theorem ST.trans {t u v:SortSt} (a:ST t u) (b:ST u v):ST t v:=⟨b.kd.trans a.kd,b.ar.trans a.ar,b.pd.trans a.pd,b.fl.trans a.fl⟩
noncomputable def iG:Array Keyed->Array Keyed->StateT SortSt Sem (Array Keyed):=sortPriv% PySem.Builtin.mergeLo
noncomputable def dnL (a b out:Array Keyed) (ia ib:Nat):Array Keyed:=out++a.extract ia a.size++b.extract ib b.size
noncomputable def lsL (a b out:Array Keyed) (ia ib:Nat):Array Keyed:=out++b.extract ib b.size++a.extract ia a.size
noncomputable def qL (g:Nat):StateT SortSt Sem Unit:=modify λt=>SortSt.mk' (kindOf t) (arrOf t) (pendingOf t) g (failedOf t)
theorem mY (a b:Array Keyed):iG a b=(do
 rule "list.sort.merge-lo"
 let total:=a.size+b.size
 let mut out:Array Keyed:= #[<- elem' b 0]
 let mut ia:=0
 let mut ib:=1
 if ib==b.size then return dnL a b out ia ib
 if ia+1==a.size then return lsL a b out ia ib
 let mut minGallop:=gallopOf (<- get)
 for _ in [0:total] do
  let mut acount:=0
  let mut bcount:=0
  for _ in [0:total] do
   let some bWins <- lt' (<- elem' b ib) (<- elem' a ia) | return dnL a b out ia ib
   if bWins then
    out:=out.push (<- elem' b ib);ib:=ib+1;bcount:=bcount+1;acount:=0
    if ib==b.size then return dnL a b out ia ib
    if bcount≥minGallop then break
   else
    out:=out.push (<- elem' a ia);ia:=ia+1;acount:=acount+1;bcount:=0
    if ia+1==a.size then return lsL a b out ia ib
    if acount≥minGallop then break
  rule "list.sort.gallop"
  minGallop:=minGallop+1
  for _ in [0:total] do
   if minGallop>1 then minGallop:=minGallop-1
   qL minGallop
   let some k <- cY false (<- elem' b ib) a ia (a.size-ia) 0 | return dnL a b out ia ib
   acount:=k
   if k>0 then
    out:=out++a.extract ia (ia+k);ia:=ia+k
    if ia+1==a.size then return lsL a b out ia ib
    if ia==a.size then return dnL a b out ia ib
   out:=out.push (<- elem' b ib);ib:=ib+1
   if ib==b.size then return dnL a b out ia ib
   let some k <- cY true (<- elem' a ia) b ib (b.size-ib) 0 | return dnL a b out ia ib
   bcount:=k
   if k>0 then
    out:=out++b.extract ib (ib+k);ib:=ib+k
    if ib==b.size then return dnL a b out ia ib
   out:=out.push (<- elem' a ia);ia:=ia+1
   if ia+1==a.size then return lsL a b out ia ib
   if acount<7&&bcount<7 then break
  minGallop:=minGallop+1
  qL minGallop
 unsupported "internal:list.sort.merge-bound"):=rfl
noncomputable abbrev La (a:Array Keyed) (i:Nat):List Keyed:=a.toList.drop i
theorem ot {a:Array Keyed} {i:Nat} (h:i<a.size):La a i=a[i]::La a (i+1):=by
 show a.toList.drop i=_
 rw [zJ (by simpa using h)]
 rfl
theorem rZ {a:Array Keyed} {i k:Nat} (h:i+k<=a.size):La a i=(a.extract i (i+k)).toList++La a (i+k):=by
 rw [AL]
 show a.toList.drop i=((a.toList.drop i).take (i+k-i))++a.toList.drop (i+k)
 rw [Cs,<- List.drop_drop,Ar]
theorem gD {a:Array Keyed} {i:Nat}:(a.extract i a.size).toList=La a i:=by
 rw [AL]
 show (a.toList.drop i).take (a.size-i)=a.toList.drop i
 exact zW (by simp)
theorem kw {a:Array Keyed}:La a a.size=[]:=by simp [La]
theorem bY {a:Array Keyed} {i:Nat} (h:i<a.size):K a i=nK a[i]:=by unfold K nK;rw [B4 a i h]
theorem hJ {a:Array Keyed} {i k:Nat} {x:Keyed} (h:i+k<=a.size) (hx:x∈(a.extract i (i+k)).toList): ∃ j,j<k/\K a (i+j)=nK x:=by
 rw [AL]at hx
 obtain ⟨j,hj,e⟩:=Cc hx
 have hj':j<k:=by
  have:((a.toList.drop i).take (i+k-i)).length=k:=by simp;lia
  have hj:j< ((a.toList.drop i).take (i+k-i)).length:=hj
  lia
 refine ⟨j,hj',?_⟩
 rw [bY (by lia)]
 have e:((a.toList.drop i).take (i+k-i))[j]'hj=x:=e
 rw [<- e]
 simp
theorem ft {a:Array Keyed} {i:Nat} {x:Keyed} (hx:x∈La a i): ∃ j,i<=j/\j<a.size/\K a j=nK x:=by
 obtain ⟨j,hj,e⟩:=Cc hx
 have hj':j<a.size-i:=by simpa [La]using hj
 refine ⟨i+j,by lia,by lia,?_⟩
 rw [bY (by lia),<- e]
 simp [La]
theorem nM {a:Array Keyed} (hs:Up a 0 a.size) {i:Nat} {y:Keyed} (h:nK y<=K a i): ∀ z∈La a i,le y z:=λz hz=>by
 obtain ⟨j,h1,h2,e⟩:=ft hz
 have:=hs i j (y9 _) h1 h2
 show nK y<=nK z
 lia
theorem qr {a:Array Keyed} (hs:Up a 0 a.size) (i:Nat):(La a i).Pairwise le:=by
 refine B7.mpr λj k hj hk hjk=>?_
 have hj':j<a.size-i:=by simpa [La]using hj
 have hk':k<a.size-i:=by simpa [La]using hk
 have:=hs (i+j) (i+k) (y9 _) (by lia) (by lia)
 rw [bY (by lia),bY (by lia)]at this
 show nK _<=nK _
 simpa [La]using this
structure HM (a b:Array Keyed):Prop where
 ia:IntKeys a
 ib:IntKeys b
 ua:Up a 0 a.size
 ub:Up b 0 b.size
 na:1<=a.size
 nb:1<=b.size
 fs:K b 0<=K a 0
 la: ∀ j,j<b.size->K b j<=K a (a.size-1)
structure Lv (a b:Array Keyed) (all:List Keyed) (out:Array Keyed) (i j:Nat):Prop where
 mi:MI le all out.toList (La a i) (La b j)
 hi:i+1<a.size
 hj:j<b.size
section
variable {a b out:Array Keyed} {all:List Keyed} {i j k:Nat}
theorem wg (H:HM a b) (m:MI le all out.toList (La a i) (La b j)) (hj:j<b.size) (q:i<a.size->K b j<=K a i):MI le all (out.push b[j]).toList (La a i) (La b (j+1)):=by
 rw [Bs]
 refine MI.tB (B1:=[b[j]]) (by rw [BM,<- ot hj];exact m) λx hx z hz=>?_
 rw [y0.mp hx]
 by_cases hi:i<a.size
 ·exact nM H.ua (by rw [<- bY hj];exact q hi) z hz
 ·obtain ⟨l,h1,h2,_⟩:=ft hz;lia
theorem xC (H:HM a b) (m:MI le all out.toList (La a i) (La b j)) (hi:i<a.size) (q:j<b.size->K a i<=K b j):MI le all (out.push a[i]).toList (La a (i+1)) (La b j):=by
 rw [Bs]
 refine MI.tA (A1:=[a[i]]) (by rw [BM,<- ot hi];exact m) λx hx z hz=>?_
 rw [y0.mp hx]
 by_cases hj:j<b.size
 ·exact nM H.ub (by rw [<- bY hi];exact q hj) z hz
 ·obtain ⟨l,h1,h2,_⟩:=ft hz;lia
theorem xB (H:HM a b) (m:MI le all out.toList (La a i) (La b j)) (hi:i+k<=a.size) (q: ∀ l,l<k->j<b.size->K a (i+l)<=K b j):MI le all (out++a.extract i (i+k)).toList (La a (i+k)) (La b j):=by
 rw [zH]
 refine MI.tA (by rw [<- rZ hi];exact m) λx hx z hz=>?_
 obtain ⟨l,h1,h2⟩:=hJ hi hx
 by_cases hj:j<b.size
 ·exact nM H.ub (by rw [<- h2];exact q l h1 hj) z hz
 ·obtain ⟨l,h1,h2,_⟩:=ft hz;lia
theorem xA (H:HM a b) (m:MI le all out.toList (La a i) (La b j)) (hj:j+k<=b.size) (q: ∀ l,l<k->i<a.size->K b (j+l)<=K a i):MI le all (out++b.extract j (j+k)).toList (La a i) (La b (j+k)):=by
 rw [zH]
 refine MI.tB (by rw [<- rZ hj];exact m) λx hx z hz=>?_
 obtain ⟨l,h1,h2⟩:=hJ hj hx
 by_cases hi:i<a.size
 ·exact nM H.ua (by rw [<- h2];exact q l h1 hi) z hz
 ·obtain ⟨l,h1,h2,_⟩:=ft hz;lia
theorem oB (m:MI le all out.toList (La a i) (La b j)) (e:j=b.size):Res le all (dnL a b out i j).toList:=by
 subst e
 rw [kw]at m
 have e:(dnL a b out i b.size).toList=out.toList++La a i:=by
  show (out++a.extract i a.size++b.extract b.size b.size).toList=_
  rw [zH,zH,gD,gD,kw,zy]
 rw [e]
 exact m.nB
theorem xS (m:MI le all out.toList (La a i) (La b j)) (e:i=a.size):Res le all (dnL a b out i j).toList:=by
 subst e
 rw [kw]at m
 have e:(dnL a b out a.size j).toList=out.toList++La b j++[]:=by
  show (out++a.extract a.size a.size++b.extract j b.size).toList=_
  rw [zH,zH,gD,gD,kw,zy,zy]
 rw [e]
 exact m.lA λ_ _ x hx=>nomatch hx
theorem wG {key:Keyed} {arr c:Array Keyed} {l:Nat} (h:bR false key arr l=true) {j:Nat} (hj:j<c.size) (e:key=c[j]:=by rfl):K arr l<=K c j:=by
 subst e
 have h:(!decide (nK c[j] <K arr l))=true:=h
 rw [bY hj]
 rw [CD,decide_eq_false_iff_not]at h
 lia
theorem sR {key:Keyed} {arr c:Array Keyed} {l:Nat} (h:bR false key arr l=false) {j:Nat} (hj:j<c.size) (e:key=c[j]:=by rfl):K c j<=K arr l:=by
 subst e
 have h:(!decide (nK c[j] <K arr l))=false:=h
 rw [bY hj]
 rw [Bool.not_eq_false',A6]at h
 lia
theorem uQ {key:Keyed} {arr c:Array Keyed} {l:Nat} (h:bR true key arr l=true) {j:Nat} (hj:j<c.size) (e:key=c[j]:=by rfl):K arr l<=K c j:=by
 subst e
 have h:decide (K arr l<nK c[j])=true:=h
 rw [bY hj]
 rw [A6]at h
 lia
theorem sQ {key:Keyed} {arr c:Array Keyed} {l:Nat} (h:bR true key arr l=false) {j:Nat} (hj:j<c.size) (e:key=c[j]:=by rfl):K c j<=K arr l:=by
 subst e
 have h:decide (K arr l<nK c[j])=false:=h
 rw [bY hj]
 rw [decide_eq_false_iff_not]at h
 lia
theorem oA (H:HM a b) (m:MI le all out.toList (La a i) (La b j)) (e:i+1=a.size):Res le all (lsL a b out i j).toList:=by
 have e':(lsL a b out i j).toList=out.toList++La b j++La a i:=by
  show (out++b.extract j b.size++a.extract i a.size).toList=_
  rw [zH,zH,gD,gD]
 rw [e']
 refine m.lA λy hy x hx=>?_
 obtain ⟨l,h1,h2,h3⟩:=ft hy
 obtain ⟨o,h4,h5,h6⟩:=ft hx
 have:=H.la l h2
 have e2:o=a.size-1:=by lia
 subst e2
 show nK y<=nK x
 lia
end
section
variable {P:Program} {w:World} {A:Around} {E:Value->Shared->Prop} {s:Shared}
theorem df {t:SortSt} {arr:Array Keyed} {i:Nat} {Q:Keyed->SortSt->Prop} (hi:i<arr.size) (q:Q arr[i] t):wpS (model P w) A E s (elem' arr i) Q t:=by
 rw [elem'_eq,B4 arr i hi]
 exact zh q
theorem jO {t:SortSt} {g:Nat} {Q:Unit->SortSt->Prop} (q: ∀ t',ST t t'->Q () t'):wpS (model P w) A E s (qL g) Q t:=CS (q _ ⟨rfl,rfl,rfl,rfl⟩)
theorem fF {U α:Type} {t:U} {c:Prop} [Decidable c] {m n:StateT U Sem α} {Q:α->U->Prop} {M:Model} (h1:c->wpS M A E s m Q t) (h2: ¬c->wpS M A E s n Q t):wpS M A E s (if c then m else n) Q t:=by
 by_cases h:c
 ·rw [yW h];exact h1 h
 ·rw [yU h];exact h2 h
theorem oM {t:SortSt} {a b:Array Keyed} {Q:Array Keyed->SortSt->Prop} (hk:kindOf t=oneType') (H:HM a b) (q: ∀ r t',ST t t'->Res le (a.toList++b.toList) r.toList->Q r t'):wpS (model P w) A E s (iG a b) Q t:=by
 have na:=H.na
 have nb:=H.nb
 have ik: ∀ {c:Array Keyed} {l:Nat},IntKeys c->(h:l<c.size)->IK c[l]:=λhc h=>hc _ (by simp)
 rw [mY]
 refine zb (Dx (A7 ⟨rfl,?_⟩))
 dsimp only
 refine zb (df (by lia) ?_)
 have m0:MI le (a.toList++b.toList) #[b[0]].toList (La a 0) (La b 1):=wg (out:= #[]) H ⟨List.Perm.refl _,List.Pairwise.nil,(λx hx=>nomatch hx),qr H.ua 0,qr H.ub 0⟩ (by lia) λ_=>H.fs
 by_cases e1:1=b.size
 ·rw [yW (by simpa using e1)]
  exact zh (q _ _ ST.refl (oB m0 e1))
 rw [yU (by simpa using e1)]
 by_cases e2:0+1=a.size
 ·rw [yW (by simpa using e2)]
  exact zh (q _ _ ST.refl (oA H m0 e2))
 rw [yU (by simpa using e2)]
 refine zb (Dj ?_)
 refine zb (BC (An (I:=λx c t'=>ST t t'/\ ∃ out i j g,c=(none,out,i,j,g)/\Lv a b (a.toList++b.toList) out i j/\x<=i+j)
  (Q:=λc t'=>ST t t'/\ ∃ r c',c=(some r,c')/\Res le (a.toList++b.toList) r.toList) ?_ ?_ ⟨ST.refl,_,0,1,_,rfl,⟨m0,by lia,by lia⟩,by lia⟩) ?_)
 ·rintro x c t1 _ hx ⟨hS,out,i,j,g,rfl,hL,hx'⟩
  dsimp only
  refine zb (BC (An (I:=λy c t'=>t'=t1/\ ∃ out' i' j' ac bc,c=(none,out',i',j',ac,bc)/\Lv a b (a.toList++b.toList) out' i' j'/\i+j+y<=i'+j')
   (Q:=λc t'=>t'=t1/\((∃ r c',c=(some r,c')/\Res le (a.toList++b.toList) r.toList)\/ ∃ out' i' j' ac bc,c=(none,out',i',j',ac,bc)/\Lv a b (a.toList++b.toList) out' i' j'/\i+j+1<=i'+j')) ?_ ?_ ⟨rfl,out,i,j,0,0,rfl,hL,by lia⟩) ?_)
  ·rintro y c t' _ hy ⟨rfl,out,i',j',ac,bc,rfl,hL,hy'⟩
   have hi:=hL.hi
   have hj:=hL.hj
   dsimp only
   refine zb (df hj (zb (df (by lia) (zb (nI (hS.kd.trans hk) (ik H.ib hj) (ik H.ia (by lia)) ?_)))))
   by_cases hl:nK b[j'] <nK a[i']
   ·simp only [hl,Cu,AM]
    refine zb (df hj ?_)
    have m1:=wg H hL.mi hj λ_=>by rw [bY hj,bY (by lia)];lia
    by_cases e1:j'+1=b.size
    ·rw [yW (by simpa using e1)]
     exact zh ⟨rfl,.inl ⟨_,_,rfl,oB m1 e1⟩⟩
    rw [yU (by simpa using e1)]
    split
    ·exact zh ⟨rfl,.inr ⟨_,_,_,_,_,rfl,⟨m1,hi,by lia⟩,by lia⟩⟩
    ·exact zh ⟨rfl,_,_,_,_,_,rfl,⟨m1,hi,by lia⟩,by lia⟩
   ·simp only [hl,B5,zg,zX]
    refine zb (df (by lia) ?_)
    have m1:=xC H hL.mi (by lia) λ_=>by rw [bY hj,bY (by lia)];lia
    by_cases e1:i'+1+1=a.size
    ·rw [yW (by simpa using e1)]
     exact zh ⟨rfl,.inl ⟨_,_,rfl,oA H m1 e1⟩⟩
    rw [yU (by simpa using e1)]
    split
    ·exact zh ⟨rfl,.inr ⟨_,_,_,_,_,rfl,⟨m1,by lia,hj⟩,by lia⟩⟩
    ·exact zh ⟨rfl,_,_,_,_,_,rfl,⟨m1,by lia,hj⟩,by lia⟩
  ·rintro c t' ⟨rfl,out,i',j',ac,bc,rfl,hL,hy'⟩
   exact ⟨rfl,.inr ⟨_,_,_,_,_,rfl,hL,by lia⟩⟩
  ·rintro c t' ⟨rfl,⟨r,c',rfl,hr⟩ | ⟨out,i',j',ac,bc,rfl,hL,hy⟩⟩
   ·exact zh ⟨hS,r,_,rfl,hr⟩
   dsimp only
   refine zb (Dx (A7 ⟨rfl,?_⟩))
   refine zb (BC (An (I:=λy c t'=>ST t t'/\ ∃ out' i2 j2 g ac bc,c=(none,out',i2,j2,g,ac,bc)/\Lv a b (a.toList++b.toList) out' i2 j2/\i'+j'<=i2+j2)
    (Q:=λc t'=>ST t t'/\((∃ r c',c=(some r,c')/\Res le (a.toList++b.toList) r.toList)\/ ∃ out' i2 j2 g ac bc,c=(none,out',i2,j2,g,ac,bc)/\Lv a b (a.toList++b.toList) out' i2 j2/\i'+j'<=i2+j2)) ?_ ?_ ⟨hS,out,i',j',_,ac,bc,rfl,hL,by lia⟩) ?_)
   ·rintro y c t2 _ hy2 ⟨hS2,out,i2,j2,g2,ac,bc,rfl,hL,hy3⟩
    have hi:=hL.hi
    have hj:=hL.hj
    dsimp only
    refine fF (λ_=>?_) (λ_=>?_)
    all_goals
     refine zb (jO λt3 hS3=>?_)
     have hS4:=hS2.trans hS3
     refine zb (df hj (zb (jb (hS4.kd.trans hk) H.ia (ik H.ib hj) (by lia) (by lia) (λp o h1 h2 h3=>H.ua p o (by lia) h2 (by lia)) λk hk1 hk2 hk3=>?_)))
     have hk2: ∀ l,l<k->j2<b.size->K a (i2+l)<=K b j2:=λl hl _=>wG (hk2 l hl) hj
     have hk3:i2+k<a.size->K b j2<=K a (i2+k):=λhl=>sR (hk3 k (yV _) (by lia)) hj
     dsimp only
     by_cases hk0:k>0
     case' pos=>
      rw [yW hk0]
      have m1:=xB H hL.mi (k:=k) (by lia) hk2
      by_cases e1:i2+k+1=a.size
      ·rw [yW (by simpa using e1)]
       exact zh ⟨hS4,.inl ⟨_,_,rfl,oA H m1 e1⟩⟩
      rw [yU (by simpa using e1)]
      by_cases e2:i2+k=a.size
      ·rw [yW (by simpa using e2)]
       exact zh ⟨hS4,.inl ⟨_,_,rfl,xS m1 e2⟩⟩
      rw [yU (by simpa using e2)]
      have hi3:i2+k+1<a.size:=by lia
      have hle:i2<=i2+k:=by lia
     case' neg=>
      rw [yU hk0]
      have m1:=hL.mi
      have hi3:=hi
      have hle:=yV i2
      rw [show i2+k=i2 by lia]at hk3
     all_goals
      refine zb (df hj ?_)
      have m2:=wg H m1 hj hk3
      by_cases e1:j2+1=b.size
      ·rw [yW (by simpa using e1)]
       exact zh ⟨hS4,.inl ⟨_,_,rfl,oB m2 e1⟩⟩
      rw [yU (by simpa using e1)]
      have hi4:=Nat.lt_of_succ_lt hi3
      refine zb (df hi4 (zb (jb (hS4.kd.trans hk) H.ib (ik H.ia hi4) (by lia) (by lia) (λp o h1 h2 h3=>H.ub p o (by lia) h2 (by lia)) λk' hk1' hk2' hk3'=>?_)))
      have hk3':=λ(hl:j2+1+k'<b.size)=>sQ (hk3' k' (yV _) (by lia)) hi4
      dsimp only
      by_cases hk0:k'>0
      case' pos=>
       rw [yW hk0]
       have m3:=xA H m2 (k:=k') (by lia) λl hl _=>uQ (hk2' l hl) hi4
       by_cases e1:j2+1+k'=b.size
       ·rw [yW (by simpa using e1)]
        exact zh ⟨hS4,.inl ⟨_,_,rfl,oB m3 e1⟩⟩
       rw [yU (by simpa using e1)]
       have hj3:j2+1+k'<b.size:=by lia
      case' neg=>
       rw [yU hk0]
       have m3:=m2
       rw [show j2+1+k'=j2+1 by lia]at hk3'
       have hj3:j2+1<b.size:=by lia
      all_goals
       refine zb (df hi4 ?_)
       have m4:=xC H m3 hi4 hk3'
       refine fF (λe3=>?_) (λe3=>?_)
       ·exact zh ⟨hS4,.inl ⟨_,_,rfl,oA H m4 (by simpa using e3)⟩⟩
       have hi5:=Nat.lt_of_le_of_ne (Nat.succ_le_of_lt hi3) (by simpa using e3)
       refine fF (λ_=>?_) (λ_=>?_)
       ·exact zh ⟨hS4,.inr ⟨_,_,_,_,_,_,rfl,⟨m4,hi5,hj3⟩,by lia⟩⟩
       ·exact zh ⟨hS4,_,_,_,_,_,_,rfl,⟨m4,hi5,hj3⟩,by lia⟩
   ·rintro c t' ⟨hS2,out,i2,j2,g2,ac,bc,rfl,hL,hy3⟩
    exact ⟨hS2,.inr ⟨_,_,_,_,_,_,rfl,hL,hy3⟩⟩
   ·rintro c t' ⟨hS2,⟨r,c',rfl,hr⟩ | ⟨out,i2,j2,g2,ac,bc,rfl,hL,hy3⟩⟩
    ·exact zh ⟨hS2,r,_,rfl,hr⟩
    exact zb (jO λt3 hS3=>zh ⟨hS2.trans hS3,_,_,_,_,rfl,hL,show x+1<=i2+j2 by lia⟩)
 ·rintro c t' ⟨hS,out,i,j,g,rfl,hL,hx⟩
  have hi:=hL.hi
  have hj:=hL.hj
  exfalso
  lia
 ·rintro c t' ⟨hS,r,c',rfl,hr⟩
  exact zh (q r _ hS hr)
end
def ge (x y:Keyed):Prop:=nK y<=nK x
noncomputable abbrev Ra (a:Array Keyed) (n:Nat):List Keyed:=(a.toList.take n).reverse
theorem nX {a:Array Keyed} {n:Nat} (h:n<a.size):Ra a (n+1)=a[n]::Ra a n:=by
 show (a.toList.take (n+1)).reverse=_
 rw [List.take_succ_eq_append_getElem (by simpa using h),Ba]
 rfl
theorem qW {a:Array Keyed} {k n:Nat} (h:k<=n):Ra a n=(a.extract k n).reverse.toList++Ra a k:=by
 rw [BV,<- Ba]
 refine congrArg List.reverse ?_
 rw [AL]
 show a.toList.take n=a.toList.take k++(a.toList.drop k).take (n-k)
 rw [<- List.take_add,Nat.add_sub_cancel' h]
theorem j3 {a:Array Keyed} {n:Nat}:(a.extract 0 n).toList=(Ra a n).reverse:=by
 rw [AL,List.reverse_reverse]
 show (a.toList.drop 0).take (n-0)=_
 rw [Dd,DB]
theorem gy {a:Array Keyed}:Ra a 0=[]:=by simp [Ra]
theorem nh {a:Array Keyed} {n:Nat} {x:Keyed} (hn:n<=a.size) (hx:x∈Ra a n): ∃ j,j<n/\K a j=nK x:=by
 obtain ⟨j,hj,e⟩:=Cc (BZ.mp hx)
 have hj':j<n:=by rw [zB]at hj;lia
 refine ⟨j,hj',?_⟩
 rw [bY (by lia),<- e]
 simp
theorem nW {a:Array Keyed} (hs:Up a 0 a.size) {n:Nat} (hn:n<a.size) {y:Keyed} (h:K a n<=nK y): ∀ z∈Ra a (n+1),ge y z:=λz hz=>by
 obtain ⟨j,h1,e⟩:=nh (by lia) hz
 have:=hs j n (y9 _) (by lia) hn
 show nK z<=nK y
 lia
theorem u8 {a:Array Keyed} (hs:Up a 0 a.size) (n:Nat):(Ra a n).Pairwise ge:=by
 have:=qr hs 0
 exact CO.mpr (List.Pairwise.sublist (AO n _) this)
noncomputable def iH:Array Keyed->Array Keyed->StateT SortSt Sem (Array Keyed):=sortPriv% PySem.Builtin.mergeHi
noncomputable def dnH (a b out:Array Keyed) (na nb:Nat):Array Keyed:=a.extract 0 na++b.extract 0 nb++out.reverse
noncomputable def fsH (a b out:Array Keyed) (na nb:Nat):Array Keyed:=b.extract 0 nb++a.extract 0 na++out.reverse
theorem mZ (a b:Array Keyed):iH a b=(do
 rule "list.sort.merge-hi"
 let total:=a.size+b.size
 let mut na:=a.size-1
 let mut nb:=b.size
 let mut out:Array Keyed:= #[<- elem' a na]
 if na==0 then return dnH a b out na nb
 if nb==1 then return fsH a b out na nb
 let mut minGallop:=gallopOf (<- get)
 for _ in [0:total] do
  let mut acount:=0
  let mut bcount:=0
  for _ in [0:total] do
   let some aWins <- lt' (<- elem' b (nb-1)) (<- elem' a (na-1)) | return dnH a b out na nb
   if aWins then
    na:=na-1;out:=out.push (<- elem' a na);acount:=acount+1;bcount:=0
    if na==0 then return dnH a b out na nb
    if acount≥minGallop then break
   else
    nb:=nb-1;out:=out.push (<- elem' b nb);bcount:=bcount+1;acount:=0
    if nb==1 then return fsH a b out na nb
    if bcount≥minGallop then break
  rule "list.sort.gallop"
  minGallop:=minGallop+1
  for _ in [0:total] do
   if minGallop>1 then minGallop:=minGallop-1
   qL minGallop
   let some at_ <- cY false (<- elem' b (nb-1)) a 0 na (na-1) | return dnH a b out na nb
   let k:=na-at_
   acount:=k
   if k>0 then
    out:=out++(a.extract at_ na).reverse;na:=at_
    if na==0 then return dnH a b out na nb
   nb:=nb-1;out:=out.push (<- elem' b nb)
   if nb==1 then return fsH a b out na nb
   let some at_ <- cY true (<- elem' a (na-1)) b 0 nb (nb-1) | return dnH a b out na nb
   let k:=nb-at_
   bcount:=k
   if k>0 then
    out:=out++(b.extract at_ nb).reverse;nb:=at_
    if nb==1 then return fsH a b out na nb
    if nb==0 then return dnH a b out na nb
   na:=na-1;out:=out.push (<- elem' a na)
   if na==0 then return dnH a b out na nb
   if acount<7&&bcount<7 then break
  minGallop:=minGallop+1
  qL minGallop
 unsupported "internal:list.sort.merge-bound"):=rfl
structure Lh (a b:Array Keyed) (all:List Keyed) (out:Array Keyed) (n m:Nat):Prop where
 mi:MI ge all out.toList (Ra a n) (Ra b m)
 h1:1<=n
 h2:2<=m
 hi:n<=a.size
 hj:m<=b.size
section
variable {a b out:Array Keyed} {all:List Keyed} {n m k:Nat}
theorem wk (H:HM a b) (h:MI ge all out.toList (Ra a n) (Ra b m)) (h0:0<n) (hn:n-1<a.size) (hm:m<=b.size) (q:0<m->K b (m-1)<=K a (n-1)):MI ge all (out.push a[n-1]).toList (Ra a (n-1)) (Ra b m):=by
 rw [Bs]
 refine MI.tA (A1:=[a[n-1]]) (by rw [BM,<- nX hn,Nat.sub_add_cancel h0];exact h) λx hx z hz=>?_
 rw [y0.mp hx]
 cases m with
 | zero=>rw [gy]at hz;cases hz
 | succ m=>exact nW H.ub hm (by rw [<- bY hn];exact q (by lia)) z hz
theorem xE (H:HM a b) (h:MI ge all out.toList (Ra a n) (Ra b m)) (h0:0<m) (hm:m-1<b.size) (hn:n<=a.size) (q:0<n->K a (n-1)<=K b (m-1)):MI ge all (out.push b[m-1]).toList (Ra a n) (Ra b (m-1)):=by
 rw [Bs]
 refine MI.tB (B1:=[b[m-1]]) (by rw [BM,<- nX hm,Nat.sub_add_cancel h0];exact h) λx hx z hz=>?_
 rw [y0.mp hx]
 cases n with
 | zero=>rw [gy]at hz;cases hz
 | succ n=>exact nW H.ua hn (by rw [<- bY hm];exact q (by lia)) z hz
theorem lq {c:Array Keyed} {x:Keyed} (h1:k<=n) (hn:n<=c.size) (hx:x∈(c.extract k n).reverse.toList): ∃ j,k<=j/\j<n/\K c j=nK x:=by
 rw [BV,BZ]at hx
 obtain ⟨j,h2,h3⟩:=hJ (a:=c) (x:=x) (i:=k) (k:=n-k) (by lia) (by rw [Nat.add_sub_cancel' h1];exact hx)
 exact ⟨k+j,by lia,by lia,h3⟩
theorem xF (H:HM a b) (h:MI ge all out.toList (Ra a n) (Ra b m)) (hk:k<=n) (hn:n<=a.size) (hm:m<=b.size) (q: ∀ l,k<=l->l<n->0<m->K b (m-1)<=K a l):MI ge all (out++(a.extract k n).reverse).toList (Ra a k) (Ra b m):=by
 rw [zH]
 refine MI.tA (by rw [<- qW hk];exact h) λx hx z hz=>?_
 obtain ⟨l,h1,h2,h3⟩:=lq hk hn hx
 cases m with
 | zero=>rw [gy]at hz;cases hz
 | succ m=>exact nW H.ub hm (by rw [<- h3];exact q l h1 h2 (by lia)) z hz
theorem xD (H:HM a b) (h:MI ge all out.toList (Ra a n) (Ra b m)) (hk:k<=m) (hn:n<=a.size) (hm:m<=b.size) (q: ∀ l,k<=l->l<m->0<n->K a (n-1)<=K b l):MI ge all (out++(b.extract k m).reverse).toList (Ra a n) (Ra b k):=by
 rw [zH]
 refine MI.tB (by rw [<- qW hk];exact h) λx hx z hz=>?_
 obtain ⟨l,h1,h2,h3⟩:=lq hk hm hx
 cases n with
 | zero=>rw [gy]at hz;cases hz
 | succ n=>exact nW H.ua hn (by rw [<- h3];exact q l h1 h2 (by lia)) z hz
theorem nV {l:List Keyed} (h:Res ge all l):Res le all l.reverse:=⟨(CF l).trans h.1,CO.mpr h.2⟩
theorem sJ:(dnH a b out n m).toList=(out.toList++Ra b m++Ra a n).reverse:=by
 show (a.extract 0 n++b.extract 0 m++out.reverse).toList=_
 rw [zH,zH,j3,j3,BV,Ba,Ba,zm]
theorem sC:(fsH a b out n m).toList=(out.toList++Ra a n++Ra b m).reverse:=by
 show (b.extract 0 m++a.extract 0 n++out.reverse).toList=_
 rw [zH,zH,j3,j3,BV,Ba,Ba,zm]
theorem iR (h:MI ge all out.toList (Ra a n) (Ra b m)) (e:n=0\/m=0):Res le all (dnH a b out n m).toList:=by
 rw [sJ]
 refine nV (h.lA λy hy x hx=>?_)
 rcases e with rfl | rfl
 ·rw [gy]at hx;cases hx
 ·rw [gy]at hy;cases hy
theorem kx (H:HM a b) (h:MI ge all out.toList (Ra a n) (Ra b m)) (hn:n<=a.size) (e:m=1):Res le all (fsH a b out n m).toList:=by
 subst e
 rw [sC]
 refine nV (h.lB λx hx y hy=>?_)
 obtain ⟨l,h1,h2⟩:=nh hn hx
 obtain ⟨o,h3,h4⟩:=nh H.nb hy
 have e:o=0:=by lia
 subst e
 have:=H.fs
 have:=H.ua 0 l (yV _) (y9 _) (by lia)
 show nK y<=nK x
 lia
end
section
variable {P:Program} {w:World} {A:Around} {E:Value->Shared->Prop} {s:Shared}
theorem oN {t:SortSt} {a b:Array Keyed} {Q:Array Keyed->SortSt->Prop} (hk:kindOf t=oneType') (H:HM a b) (q: ∀ r t',ST t t'->Res le (a.toList++b.toList) r.toList->Q r t'):wpS (model P w) A E s (iH a b) Q t:=by
 have na:=H.na
 have nb:=H.nb
 have ik: ∀ {c:Array Keyed} {l:Nat},IntKeys c->(h:l<c.size)->IK c[l]:=λhc h=>hc _ (by simp)
 rw [mZ]
 refine zb (Dx (A7 ⟨rfl,?_⟩))
 dsimp only
 refine zb (df (by lia) ?_)
 have pf: ∀ c:Array Keyed,Ra c c.size=c.toList.reverse:=λc=>by rw [show Ra c c.size=(c.toList.take c.size).reverse from rfl,zW (by simp)]
 have m0:MI ge (a.toList++b.toList) #[a[a.size-1]].toList (Ra a (a.size-1)) (Ra b b.size):=wk (out:= #[]) H ⟨by
  rw [pf,pf]
  exact (CF _).append (CF _),List.Pairwise.nil,(λx hx=>nomatch hx),u8 H.ua _,u8 H.ub _⟩ (by lia) (by lia) (by lia) λ_=>H.la _ (by lia)
 by_cases e1:a.size-1=0
 ·rw [yW (by simpa using e1)]
  exact zh (q _ _ ST.refl (iR m0 (.inl e1)))
 rw [yU (by simpa using e1)]
 by_cases e2:b.size=1
 ·rw [yW (by simpa using e2)]
  exact zh (q _ _ ST.refl (kx H m0 (by lia) e2))
 rw [yU (by simpa using e2)]
 refine zb (Dj ?_)
 refine zb (BC (An (I:=λx c t'=>ST t t'/\ ∃ out i j g,c=(none,i,j,out,g)/\Lh a b (a.toList++b.toList) out i j/\x+i+j<=a.size+b.size)
  (Q:=λc t'=>ST t t'/\ ∃ r c',c=(some r,c')/\Res le (a.toList++b.toList) r.toList) ?_ ?_ ⟨ST.refl,_,_,_,_,rfl,⟨m0,by lia,by lia,by lia,by lia⟩,by lia⟩) ?_)
 ·rintro x c t1 _ hx ⟨hS,out,i,j,g,rfl,hL,hx'⟩
  dsimp only
  refine zb (BC (An (I:=λy c t'=>t'=t1/\ ∃ out' i' j' ac bc,c=(none,i',j',out',ac,bc)/\Lh a b (a.toList++b.toList) out' i' j'/\i'+j'+y<=i+j)
   (Q:=λc t'=>t'=t1/\((∃ r c',c=(some r,c')/\Res le (a.toList++b.toList) r.toList)\/ ∃ out' i' j' ac bc,c=(none,i',j',out',ac,bc)/\Lh a b (a.toList++b.toList) out' i' j'/\i'+j'+1<=i+j)) ?_ ?_ ⟨rfl,out,i,j,0,0,rfl,hL,by lia⟩) ?_)
  ·rintro y c t' _ hy ⟨rfl,out,i',j',ac,bc,rfl,hL,hy'⟩
   have hi:=hL.hi
   have hj:=hL.hj
   have h1:=hL.h1
   have h2:=hL.h2
   have hj1:j'-1<b.size:=by lia
   have hi1:i'-1<a.size:=by lia
   dsimp only
   refine zb (df hj1 (zb (df hi1 (zb (nI (hS.kd.trans hk) (ik H.ib hj1) (ik H.ia hi1) ?_)))))
   by_cases hl:nK b[j'-1] <nK a[i'-1]
   ·simp only [hl,Cu,AM]
    refine zb (df hi1 ?_)
    have m1:=wk H hL.mi (by lia) hi1 hj λ_=>by rw [bY hj1,bY hi1];lia
    by_cases e1:i'-1=0
    ·rw [yW (by simpa using e1)]
     exact zh ⟨rfl,.inl ⟨_,_,rfl,iR m1 (.inl e1)⟩⟩
    rw [yU (by simpa using e1)]
    refine fF (λ_=>?_) (λ_=>?_)
    ·exact zh ⟨rfl,.inr ⟨_,_,_,_,_,rfl,⟨m1,by lia,h2,by lia,hj⟩,by lia⟩⟩
    ·exact zh ⟨rfl,_,_,_,_,_,rfl,⟨m1,by lia,h2,by lia,hj⟩,by lia⟩
   ·simp only [hl,B5,zg,zX]
    refine zb (df hj1 ?_)
    have m1:=xE H hL.mi (by lia) hj1 hi λ_=>by rw [bY hj1,bY hi1];lia
    by_cases e1:j'-1=1
    ·rw [yW (by simpa using e1)]
     exact zh ⟨rfl,.inl ⟨_,_,rfl,kx H m1 hi e1⟩⟩
    rw [yU (by simpa using e1)]
    refine fF (λ_=>?_) (λ_=>?_)
    ·exact zh ⟨rfl,.inr ⟨_,_,_,_,_,rfl,⟨m1,h1,by lia,hi,by lia⟩,by lia⟩⟩
    ·exact zh ⟨rfl,_,_,_,_,_,rfl,⟨m1,h1,by lia,hi,by lia⟩,by lia⟩
  ·rintro c t' ⟨rfl,out,i',j',ac,bc,rfl,hL,hy'⟩
   exact ⟨rfl,.inr ⟨_,_,_,_,_,rfl,hL,by lia⟩⟩
  ·rintro c t' ⟨rfl,⟨r,c',rfl,hr⟩ | ⟨out,i',j',ac,bc,rfl,hL,hy⟩⟩
   ·exact zh ⟨hS,r,_,rfl,hr⟩
   dsimp only
   refine zb (Dx (A7 ⟨rfl,?_⟩))
   refine zb (BC (An (I:=λy c t'=>ST t t'/\ ∃ out' i2 j2 g ac bc,c=(none,i2,j2,out',g,ac,bc)/\Lh a b (a.toList++b.toList) out' i2 j2/\i2+j2<=i'+j')
    (Q:=λc t'=>ST t t'/\((∃ r c',c=(some r,c')/\Res le (a.toList++b.toList) r.toList)\/ ∃ out' i2 j2 g ac bc,c=(none,i2,j2,out',g,ac,bc)/\Lh a b (a.toList++b.toList) out' i2 j2/\i2+j2<=i'+j')) ?_ ?_ ⟨hS,out,i',j',_,ac,bc,rfl,hL,by lia⟩) ?_)
   ·rintro y c t2 _ hy2 ⟨hS2,out,i2,j2,g2,ac,bc,rfl,hL,hy3⟩
    have hi:=hL.hi
    have hj:=hL.hj
    have h1:=hL.h1
    have h2:=hL.h2
    have hj1:j2-1<b.size:=by lia
    dsimp only
    refine fF (λ_=>?_) (λ_=>?_)
    all_goals
     refine zb (jO λt3 hS3=>?_)
     have hS4:=hS2.trans hS3
     refine zb (df hj1 (zb (jb (hS4.kd.trans hk) H.ia (ik H.ib hj1) (by lia) (by lia) (λp o h1 h2 h3=>H.ua p o (by lia) h2 (by lia)) λk hk1 hk2 hk3=>?_)))
     have hk2: ∀ l,l<k->K a l<=K b (j2-1):=λl hl=>wG (by have:=hk2 l hl;rwa [Bc]at this) hj1
     have hk3: ∀ l,k<=l->l<i2->0<j2->K b (j2-1)<=K a l:=λl hl hl' _=>sR (by have:=hk3 l hl hl';rwa [Bc]at this) hj1
     dsimp only
     by_cases hk0:i2-k>0
     case' pos=>
      rw [yW hk0]
      have m1:=xF H hL.mi hk1 hi hj hk3
      by_cases e1:k=0
      ·rw [yW (by simpa using e1)]
       exact zh ⟨hS4,.inl ⟨_,_,rfl,iR m1 (.inl e1)⟩⟩
      rw [yU (by simpa using e1)]
      have hi3:k<=a.size:=by lia
      have h13:1<=k:=by lia
      have hle:k<=i2:=by lia
     case' neg=>
      rw [yU hk0]
      have m1:=hL.mi
      have hi3:=hi
      have h13:=h1
      have hle:=yV i2
      rw [show k=i2 by lia]at hk2
     all_goals
      refine zb (df hj1 ?_)
      have m2:=xE H m1 (by lia) hj1 hi3 λ_=>hk2 _ (by lia)
      by_cases e1:j2-1=1
      ·rw [yW (by simpa using e1)]
       exact zh ⟨hS4,.inl ⟨_,_,rfl,kx H m2 hi3 e1⟩⟩
      rw [yU (by simpa using e1)]
      have hi4:=zA (Nat.sub_lt h13 Nat.zero_lt_one) hi3
      refine zb (df hi4 (zb (jb (hS4.kd.trans hk) H.ib (ik H.ia hi4) (by lia) (by lia) (λp o h1 h2 h3=>H.ub p o (by lia) h2 (by lia)) λk' hk1' hk2' hk3'=>?_)))
      dsimp only
      by_cases hk0:j2-1-k'>0
      case' pos=>
       rw [yW hk0]
       have m3:=xD H m2 hk1' hi3 (by lia) λl hl hl' _=>sQ (by have:=hk3' l hl hl';rwa [Bc]at this) hi4
       by_cases e1:k'=1
       ·rw [yW (by simpa using e1)]
        exact zh ⟨hS4,.inl ⟨_,_,rfl,kx H m3 hi3 e1⟩⟩
       rw [yU (by simpa using e1)]
       by_cases e2:k'=0
       ·rw [yW (by simpa using e2)]
        exact zh ⟨hS4,.inl ⟨_,_,rfl,iR m3 (.inr e2)⟩⟩
       rw [yU (by simpa using e2)]
       have hj3:k'<=b.size:=by lia
       have h23:2<=k':=by lia
       have hk2'':K b (k'-1)<=_:=uQ (by have:=hk2' (k'-1) (by lia);rwa [Bc]at this) hi4
       have hle2:k'<=j2-1:=hk1'
      case' neg=>
       rw [yU hk0]
       have m3:=m2
       have hj3:j2-1<=b.size:=by lia
       have h23:2<=j2-1:=by lia
       have hk2'':K b (j2-1-1)<=_:=uQ (by have:=hk2' (j2-1-1) (by lia);rwa [Bc]at this) hi4
       have hle2:=yV (j2-1)
      all_goals
       refine zb (df hi4 ?_)
       have m4:=wk H m3 h13 hi4 hj3 λ_=>hk2''
       refine fF (λe3=>?_) (λe3=>?_)
       ·exact zh ⟨hS4,.inl ⟨_,_,rfl,iR m4 (.inl (by simpa using e3))⟩⟩
       have hi5:=Nat.pos_of_ne_zero (λz=>e3 (by simpa using z))
       refine fF (λ_=>?_) (λ_=>?_)
       ·exact zh ⟨hS4,.inr ⟨_,_,_,_,_,_,rfl,⟨m4,hi5,h23,by lia,hj3⟩,by lia⟩⟩
       ·exact zh ⟨hS4,_,_,_,_,_,_,rfl,⟨m4,hi5,h23,by lia,hj3⟩,by lia⟩
   ·rintro c t' ⟨hS2,out,i2,j2,g2,ac,bc,rfl,hL,hy3⟩
    exact ⟨hS2,.inr ⟨_,_,_,_,_,_,rfl,hL,hy3⟩⟩
   ·rintro c t' ⟨hS2,⟨r,c',rfl,hr⟩ | ⟨out,i2,j2,g2,ac,bc,rfl,hL,hy3⟩⟩
    ·exact zh ⟨hS2,r,_,rfl,hr⟩
    exact zb (jO λt3 hS3=>zh ⟨hS2.trans hS3,_,_,_,_,rfl,hL,show x+1+i2+j2<=_ by lia⟩)
 ·rintro c t' ⟨hS,out,i,j,g,rfl,hL,hx⟩
  have h1:=hL.h1
  have h2:=hL.h2
  exfalso
  lia
 ·rintro c t' ⟨hS,r,c',rfl,hr⟩
  exact zh (q r _ hS hr)
end
noncomputable def wr (x:Array Keyed) (l:Nat) (m:List (Keyed×Nat)):Array Keyed:=m.foldl (λa (p,j)=>a.setIfInBounds (l+j) p) x
theorem uX {l:Nat}: ∀ (m:List Keyed) (n:Nat) (x:Array Keyed),l+n+m.length<=x.size->(wr x l (m.zipIdx n)).size=x.size/\ ∀ k,(wr x l (m.zipIdx n))[k]? =if l+n<=k/\k<l+n+m.length then m[k- (l+n)]? else x[k]?
 | [],n,x,h=>⟨rfl,λk=>by rw [yU (by simp only [BK];lia)];rfl⟩
 | p::m,n,x,h=>by
  have h':l+n+ (m.length+1)<=x.size:=h
  obtain ⟨h1,h2⟩:=uX (l:=l) m (n+1) (x.setIfInBounds (l+n) p) (by rw [Array.size_setIfInBounds];lia)
  refine ⟨h1.trans (by rw [Array.size_setIfInBounds]),λk=>?_⟩
  show (wr (x.setIfInBounds (l+n) p) l (m.zipIdx (n+1)))[k]? =_
  rw [h2,Array.getElem?_setIfInBounds]
  have hl:(p::m).length=m.length+1:=rfl
  rw [hl]
  by_cases e1:l+ (n+1)<=k/\k<l+ (n+1) +m.length
  ·rw [yW e1,yW (by lia),show k- (l+n)=(k- (l+ (n+1))) +1 by lia,Cr]
  ·rw [yU e1]
   by_cases e2:l+n=k
   ·rw [yW e2,yW (by lia),yW (by lia),show k- (l+n)=0 by lia,List.getElem?_cons_zero]
   ·rw [yU e2,yU (by lia)]
theorem vy {x:Array Keyed} {l h i:Nat} (hh:h<=x.size) (hi:l+i<h):K (x.extract l h) i=K x (l+i):=by
 refine K_congr ?_
 rw [Array.getElem?_extract,yW (by lia)]
theorem wQ {x:Array Keyed} {p:Keyed} {i:Nat} (h:x[i]? =some p):K x i=nK p:=by unfold K nK;rw [h]
theorem vB {x m:Array Keyed} {l h:Nat} (hl:l<=h) (hh:h<=x.size) (R:Res le (x.extract l h).toList m.toList):
  (wr x l m.toList.zipIdx).Perm x/\Out l h x (wr x l m.toList.zipIdx)/\Up (wr x l m.toList.zipIdx) l h/\ ∀ i,l<=i->i<h-> ∃ j,l<=j/\j<h/\K (wr x l m.toList.zipIdx) i=K x j:=by
 have hz:m.toList.length=h-l:=by rw [R.1.length_eq];simp;lia
 obtain ⟨h1,h2⟩:=uX (l:=l) m.toList 0 x (by lia)
 have h2: ∀ k,(wr x l m.toList.zipIdx)[k]? =if l<=k/\k<h then m.toList[k-l]? else x[k]? :=λk=>by
  rw [h2 k,DC,hz,show l+ (h-l)=h by lia]
 have hin: ∀ k,l<=k->k<h-> ∃ p,(wr x l m.toList.zipIdx)[k]? =some p/\ ∃ (q:k-l<m.toList.length),m.toList[k-l]=p:=λk e1 e2=>by
  have q:k-l<m.toList.length:=by lia
  exact ⟨m.toList[k-l],by rw [h2,yW ⟨e1,e2⟩,y4 q],q,rfl⟩
 refine ⟨?_,λk q=>by rw [h2,yU (by lia)],λi j e1 e2 e3=>?_,λi e1 e2=>?_⟩
 ·have e:(wr x l m.toList.zipIdx).toList=x.toList.take l++(m.toList++x.toList.drop h):=by
   refine CC λk=>?_
   rw [AD,h2,List.getElem?_append,List.getElem?_append,zB,zV,hz,Bo (by lia)]
   by_cases e1:k<l
   ·rw [yU (by lia),yW e1,List.getElem?_take,yW e1,AD]
   ·rw [yU e1]
    by_cases e2:k<h
    ·rw [yW (by lia),yW (by lia)]
    ·rw [yU (by lia),yU (by lia),List.getElem?_drop,AD]
     congr 1
     lia
  refine BU.mpr ?_
  rw [e]
  have e2:x.toList=x.toList.take l++((x.extract l h).toList++x.toList.drop h):=by
   rw [AL]
   show _=x.toList.take l++((x.toList.drop l).take (h-l)++x.toList.drop h)
   rw [show x.toList.drop h=(x.toList.drop l).drop (h-l) by rw [List.drop_drop];congr 1;lia,Ar,Ar]
  conv=>rhs;rw [e2]
  exact (List.Perm.refl _).append (R.1.append (List.Perm.refl _))
 ·obtain ⟨p,f1,q1,f2⟩:=hin i e1 (by lia)
  obtain ⟨p',g1,q2,g2⟩:=hin j (by lia) e3
  rw [wQ f1,wQ g1]
  by_cases e:i=j
  ·subst e
   rw [f1]at g1
   rw [zj g1]
   exact AU _
  ·have:=B7.mp R.2 (i-l) (j-l) q1 q2 (by lia)
   rw [f2,g2]at this
   exact this
 ·obtain ⟨p,f1,q1,f2⟩:=hin i e1 e2
  have:p∈(x.extract l h).toList:=R.1.mem_iff.mp (by rw [<- f2];exact B0 q1)
  obtain ⟨j,g1,g2⟩:=hJ (a:=x) (i:=l) (k:=h-l) (x:=p) (by lia) (by rw [show l+ (h-l)=h by lia];exact this)
  exact ⟨l+j,by lia,by lia,by rw [wQ f1,g2]⟩
theorem ng (i:Nat):mergeAt' i=(do
 let s <- get
 let (some (sa,na,power),some (sb,nb,_)):=((pendingOf s)[i]?,(pendingOf s)[i+1]?) | unsupported "internal:list.sort.pending"
 set (setPending s (((pendingOf s).setIfInBounds i (sa,na+nb,power)).eraseIdxIfInBounds (i+1)))
 let some k <- cY false (<- elem' (arrOf s) sb) (arrOf s) sa na 0 | return false
 let (sa,na):=(sa+k,na-k)
 if na==0 then return true
 let some nb <- cY true (<- elem' (arrOf s) (sa+na-1)) (arrOf s) sb nb (nb-1) | return false
 if nb==0 then return true
 let x:=(arrOf s).extract sa sb
 let y:=(arrOf s).extract sb (sb+nb)
 let merged <- if na<=nb then iG x y else iH x y
 modify λs=>setArr s (wr (arrOf s) sa merged.toList.zipIdx)
 return (failedOf (<- get)).isNone):=rfl
theorem sw {x:Array Keyed} {l h:Nat} (hx:IntKeys x):IntKeys (x.extract l h):=λp hp=>hx p (by
 rw [AL]at hp
 exact List.mem_of_mem_drop (Ax hp))
section
variable {P:Program} {w:World} {A:Around} {E:Value->Shared->Prop} {s:Shared} {a:Array Keyed} {p:Pd}
theorem wT {t u:SortSt} {Q:PUnit->SortSt->Prop} (q:Q ⟨⟩ u):wpS (model P w) A E s (set u:StateT SortSt Sem PUnit) Q t:=CS (f:=λ_=>u) q
theorem SB.ik {t:SortSt} (h:SB a p t) (hk:IntKeys a):IntKeys (arrOf t):=λq hq=>hk q ((BU.mp h.pm).mem_iff.mp hq)
theorem oO {t:SortSt} {i sa na pw sb nb pw':Nat} {Q:Bool->SortSt->Prop} (hk:IntKeys a) (hB:SB a p t) (e1:p[i]? =some (sa,na,pw)) (e2:p[i+1]? =some (sb,nb,pw')) (e3:sb=sa+na) (h1:1<=na) (h2:1<=nb) (hz:sb+nb<=a.size) (u1:Up (arrOf t) sa sb) (u2:Up (arrOf t) sb (sb+nb))
  (q: ∀ t',SB a ((p.setIfInBounds i (sa,na+nb,pw)).eraseIdxIfInBounds (i+1)) t'->Up (arrOf t') sa (sb+nb)->Out sa (sb+nb) (arrOf t) (arrOf t')->Q true t'):wpS (model P w) A E s (mergeAt' i) Q t:=by
 have hs:=hB.sz
 have ha:=hB.ik hk
 have ik: ∀ {l:Nat},(h:l< (arrOf t).size)->IK (arrOf t)[l]:=λh=>ha _ (by simp)
 rw [ng]
 refine zb (Dj ?_)
 rw [hB.pd,e1,e2]
 dsimp only
 refine zb (wT ?_)
 generalize hp':(p.setIfInBounds i (sa,na+nb,pw)).eraseIdxIfInBounds (i+1)=p' at q ⊢
 have hB1:SB a p' (setPending t p'):=⟨hB.pm,hB.kd,hB.fl,rfl⟩
 have hsb:sb< (arrOf t).size:=by lia
 refine zb (df hsb (zb (jb hB1.kd ha (ik hsb) (by lia) (by lia) (by rw [<- e3];exact u1) λk k1 k2 k3=>?_)))
 have k2: ∀ l,sa<=l->l<sa+k->K (arrOf t) l<=K (arrOf t) sb:=λl l1 l2=>wG (by have:=k2 (l-sa) (by lia);rwa [show sa+ (l-sa)=l by lia]at this) hsb
 have k3: ∀ l,sa+k<=l->l<sb->K (arrOf t) sb<=K (arrOf t) l:=λl l1 l2=>sR (by have:=k3 (l-sa) (by lia) (by lia);rwa [show sa+ (l-sa)=l by lia]at this) hsb
 dsimp only
 have f1: ∀ i j,sa<=i->i<sa+k->i<=j->j<sb+nb->K (arrOf t) i<=K (arrOf t) j:=λi j i1 i2 i3 i4=>by
  by_cases e:j<sb
  ·exact u1 i j i1 i3 e
  ·exact C6 (k2 i i1 i2) (u2 sb j (yV _) (by lia) i4)
 by_cases e4:na-k=0
 ·rw [yW (by simpa using e4)]
  refine zh (q _ hB1 (λi j i1 i2 i3=>?_) Out.refl)
  by_cases e:i<sa+k
  ·exact f1 i j i1 e i2 i3
  ·exact u2 i j (by lia) i2 i3
 rw [yU (by simpa using e4)]
 have hla:sa+k+ (na-k) -1< (arrOf t).size:=by lia
 have hel:sa+k+ (na-k) -1=sb-1:=by lia
 refine zb (df hla (zb (jb hB1.kd ha (ik hla) (by lia) (by lia) u2 λm m1 m2 m3=>?_)))
 have m2: ∀ l,sb<=l->l<sb+m->K (arrOf t) l<=K (arrOf t) (sb-1):=λl l1 l2=>by
  have:=uQ (by have:=m2 (l-sb) (by lia);rwa [show sb+ (l-sb)=l by lia]at this) hla
  rwa [hel]at this
 have m3: ∀ l,sb+m<=l->l<sb+nb->K (arrOf t) (sb-1)<=K (arrOf t) l:=λl l1 l2=>by
  have:=sQ (by have:=m3 (l-sb) (by lia) (by lia);rwa [show sb+ (l-sb)=l by lia]at this) hla
  rwa [hel]at this
 dsimp only
 have f2: ∀ i j,sa<=i->i<=j->sb+m<=j->j<sb+nb->K (arrOf t) i<=K (arrOf t) j:=λi j i1 i2 i3 i4=>by
  by_cases e:i<sb
  ·exact C6 (u1 i (sb-1) i1 (by lia) (by lia)) (m3 j i3 i4)
  ·exact u2 i j (by lia) i2 i4
 by_cases e5:m=0
 ·rw [yW (by simpa using e5)]
  refine zh (q _ hB1 (λi j i1 i2 i3=>?_) Out.refl)
  by_cases e:sb<=j
  ·exact f2 i j i1 i2 (by lia) i3
  ·exact u1 i j i1 i2 (by lia)
 rw [yU (by simpa using e5)]
 have H:HM ((arrOf t).extract (sa+k) sb) ((arrOf t).extract sb (sb+m)):=by
  have z1:((arrOf t).extract (sa+k) sb).size=sb- (sa+k):=by simp;lia
  have z2:((arrOf t).extract sb (sb+m)).size=m:=by simp;lia
  have ka: ∀ l,l<sb- (sa+k)->K ((arrOf t).extract (sa+k) sb) l=K (arrOf t) (sa+k+l):=λl hl=>vy (by lia) (by lia)
  have kb: ∀ l,l<m->K ((arrOf t).extract sb (sb+m)) l=K (arrOf t) (sb+l):=λl hl=>vy (by lia) (by lia)
  refine ⟨sw ha,sw ha,λi j _ h1 h2=>?_,λi j _ h1 h2=>?_,by lia,by lia,?_,λj hj=>?_⟩
  ·rw [ka _ (by lia),ka _ (by lia)]
   exact u1 _ _ (by lia) (by lia) (by lia)
  ·rw [kb _ (by lia),kb _ (by lia)]
   exact u2 _ _ (by lia) (by lia) (by lia)
  ·rw [ka _ (by lia),kb _ (by lia)]
   exact k3 _ (by lia) (by lia)
  ·rw [ka _ (by lia),kb _ (by lia),show sa+k+ (((arrOf t).extract (sa+k) sb).size-1)=sb-1 by lia]
   exact m2 _ (by lia) (by lia)
 have jn:((arrOf t).extract (sa+k) sb).toList++((arrOf t).extract sb (sb+m)).toList=((arrOf t).extract (sa+k) (sb+m)).toList:=by
  rw [<- zH,Array.extract_append_extract,Bo (by lia),Nat.max_eq_right (by lia)]
 have fin: ∀ (r:Array Keyed) t',ST (setPending t p') t'->Res le (((arrOf t).extract (sa+k) sb).toList++((arrOf t).extract sb (sb+m)).toList) r.toList->wpS (model P w) A E s (do
   modify λs=>setArr s (wr (arrOf s) (sa+k) r.toList.zipIdx)
   return (failedOf (<- get)).isNone) Q t':=λr t' hS hR=>by
  have ear:arrOf t'=arrOf t:=hS.ar
  refine zb (CS (zb (Dj ?_)))
  rw [jn]at hR
  rw [ear]
  obtain ⟨w1,w2,w3,w4⟩:=vB (by lia) (by lia) hR
  generalize wr (arrOf t) (sa+k) r.toList.zipIdx=y at w1 w2 w3 w4 ⊢
  have hf:failedOf (setArr t' y)=none:=(show failedOf (setArr t' y)=failedOf t' from rfl).trans (hS.fl.trans hB1.fl)
  rw [hf]
  refine zh (q _ ⟨w1.trans hB.pm,hS.kd.trans hB1.kd,hf,hS.pd.trans rfl⟩ (λi j i1 i2 i3=>?_) (w2.le (by lia) (by lia)))
  show K y i<=K y j
  by_cases c1:i<sa+k
  ·rw [w2.K (.inl c1)]
   by_cases c2:sa+k<=j/\j<sb+m
   ·obtain ⟨o,o1,o2,o3⟩:=w4 j c2.1 c2.2
    rw [o3]
    exact f1 i o i1 c1 (by lia) (by lia)
   ·rw [w2.K (by lia)]
    exact f1 i j i1 c1 i2 i3
  ·by_cases c2:j<sb+m
   ·exact w3 i j (by lia) i2 c2
   ·rw [w2.K (k:=j) (by lia)]
    by_cases c3:i<sb+m
    ·obtain ⟨o,o1,o2,o3⟩:=w4 i (by lia) c3
     rw [o3]
     exact f2 o j (by lia) (by lia) (by lia) i3
    ·rw [w2.K (by lia)]
     exact f2 i j i1 i2 (by lia) i3
 by_cases e6:na-k<=m
 ·rw [yW e6]
  exact zb (oM hB1.kd H fin)
 ·rw [yU e6]
  exact zb (oN hB1.kd H fin)
end
noncomputable def Pn (x:Array Keyed):Nat->List (Nat×Nat×Nat)->Nat->Prop
 | s,[],e=>s=e
 | s,(b,n,_)::r,e=>b=s/\1<=n/\Up x s (s+n)/\Pn x (s+n) r e
section
variable {x y:Array Keyed}
theorem Pn.len: ∀ {l:List (Nat×Nat×Nat)} {s e:Nat},Pn x s l e->s+l.length<=e
 | [],s,e,h=>C5 h
 | (b,n,_)::r,s,e,h=>by
  have:=Pn.len h.2.2.2
  have:=h.2.1
  show s+ (r.length+1)<=e
  lia
theorem Pn.app: ∀ {l r:List (Nat×Nat×Nat)} {s e:Nat},Pn x s (l++r) e↔ ∃ m,Pn x s l m/\Pn x m r e
 | [],r,s,e=>⟨λh=>⟨s,rfl,h⟩,λ⟨m,h1,h2⟩=>by cases h1;exact h2⟩
 | (b,n,_)::l,r,s,e=>⟨λh=>by
   obtain ⟨m,h1,h2⟩:=Pn.app.mp h.2.2.2
   exact ⟨m,⟨h.1,h.2.1,h.2.2.1,h1⟩,h2⟩,λ⟨m,h1,h2⟩=>⟨h1.1,h1.2.1,h1.2.2.1,Pn.app.mpr ⟨m,h1.2.2.2,h2⟩⟩⟩
theorem u5 {l h:Nat} (hK: ∀ k,l<=k->k<h->K y k=K x k) (u:Up x l h):Up y l h:=λi j i1 i2 i3=>by
 rw [hK i i1 (by lia),hK j (by lia) i3]
 exact u i j i1 i2 i3
theorem Pn.cg: ∀ {l:List (Nat×Nat×Nat)} {s e:Nat},(∀ k,s<=k->k<e->K y k=K x k)->Pn x s l e->Pn y s l e
 | [],s,e,_,h=>h
 | (b,n,_)::r,s,e,hK,h=>by
  have:=Pn.len h.2.2.2
  exact ⟨h.1,h.2.1,u5 (λk k1 k2=>hK k k1 (by lia)) h.2.2.1,Pn.cg (λk k1 k2=>hK k (by lia) k2) h.2.2.2⟩
theorem Pn.md {f:Nat×Nat×Nat->Nat×Nat×Nat} (hf: ∀ c,(f c).1=c.1/\(f c).2.1=c.2.1): ∀ {l:List (Nat×Nat×Nat)} {i s e:Nat},Pn x s l e->Pn x s (l.modify i f) e
 | [],0,s,e,h=>h
 | [],i+1,s,e,h=>h
 | (b,n,o)::r,0,s,e,h=>by
  rw [List.modify_zero_cons]
  rcases hc:f (b,n,o)with ⟨b',n',o'⟩
  have h1:=hf (b,n,o)
  rw [hc]at h1
  have h2:b'=b:=h1.1
  have h3:n'=n:=h1.2
  subst h2 h3
  exact h
 | (b,n,o)::r,i+1,s,e,h=>by
  rw [List.modify_succ_cons]
  exact ⟨h.1,h.2.1,h.2.2.1,Pn.md hf h.2.2.2⟩
end
section
variable {P:Program} {w:World} {A:Around} {E:Value->Shared->Prop} {s:Shared} {a:Array Keyed} {p:Pd}
theorem uZ {t:SortSt} {i e:Nat} {Q:Bool->SortSt->Prop} (hk:IntKeys a) (hB:SB a p t) (hP:Pn (arrOf t) 0 p.toList e) (he:e<=a.size) (hi:i+1<p.size)
  (q: ∀ p' t',SB a p' t'->Pn (arrOf t') 0 p'.toList e->p'.size+1=p.size->Out 0 e (arrOf t) (arrOf t')->Q true t'):wpS (model P w) A E s (mergeAt' i) Q t:=by
 have hl:p.toList=p.toList.take i++p[i]::p[i+1]::p.toList.drop (i+2):=by
  conv=>lhs;rw [<- Ar i p.toList]
  rw [zJ (by simp;lia),zJ (by simp;lia)]
  rfl
 have hti:(p.toList.take i).length=i:=by simp;lia
 have e1:p[i]? =some p[i]:=B4 p i (by lia)
 have e2:p[i+1]? =some p[i+1]:=B4 p (i+1) hi
 rcases hc1:p[i]with ⟨sa,na,pw⟩
 rcases hc2:p[i+1]with ⟨sb,nb,pw'⟩
 rw [hc1]at e1
 rw [hc2]at e2
 rw [hc1,hc2]at hl
 clear hc1 hc2
 generalize p.toList.take i=l1 at hl hti
 generalize p.toList.drop (i+2)=l2 at hl
 rw [hl]at hP
 obtain ⟨m,h1,rfl,h2,h3,rfl,h4,h5,h6⟩:=Pn.app.mp hP
 have h7:=h6.len
 have h8:=h1.len
 refine oO hk hB e1 e2 rfl h2 h4 (by lia) h3 h5 λt' b1 b2 b3=>?_
 have ep:((p.setIfInBounds i (sa,na+nb,pw)).eraseIdxIfInBounds (i+1)).toList=l1++(sa,na+nb,pw)::l2:=by
  rw [Array.toList_eraseIdxIfInBounds,Array.toList_setIfInBounds,hl,List.set_append_right _ _ (by lia),hti,BY,List.set_cons_zero,List.eraseIdx_append_of_length_le (by lia),hti,Cs]
  rfl
 refine q _ t' b1 ?_ ?_ (b3.le (by lia) (by lia))
 ·rw [ep]
  exact Pn.app.mpr ⟨sa,h1.cg λk k1 k2=>b3.K (.inl k2),rfl,by lia,by rw [<- Bd];exact b2,by rw [<- Bd];exact h6.cg λk k1 k2=>b3.K (.inr k1)⟩
 ·rw [<- zV,ep,<- zV (xs:=p),hl]
  simp
  lia
theorem w_sortRuns {t:SortSt} {Q:Unit->SortSt->Prop} (hk:IntKeys a) (hB:SB a #[] t) (q: ∀ t',(arrOf t').Perm a->failedOf t'=none->Up (arrOf t') 0 a.size->Q () t'):wpS (model P w) A E s sortRuns' Q t:=by
 rw [sortRuns'_eq]
 refine zb (Dj ?_)
 dsimp only
 rw [hB.sz]
 refine zb (BC (An (I:=λx c t'=> ∃ lo p,c=(none,lo)/\SB a p t'/\Pn (arrOf t') 0 p.toList lo/\x<=lo/\lo<=a.size)
  (Q:=λc t'=> ∃ p,c=(none,a.size)/\SB a p t'/\Pn (arrOf t') 0 p.toList a.size) ?_ ?_ ⟨0,#[],rfl,hB,rfl,yV _,y9 _⟩) ?_)
 ·rintro x c t1 _ hx ⟨lo,p,rfl,hB1,hP,x1,x2⟩
  dsimp only
  by_cases hl:lo≥a.size
  ·rw [yW hl]
   have e:lo=a.size:=by lia
   subst e
   exact zh ⟨p,rfl,hB1,hP⟩
  rw [yU hl]
  refine zb (wU hk (by lia) (by lia) hB1 λn t2 hB2 n1 n2 u2 o2=>?_)
  have hP2:Pn (arrOf t2) 0 p.toList lo:=hP.cg λk _ k2=>o2.K (.inl k2)
  dsimp only
  by_cases hm:n<minRun' a.size a.size 0
  case' pos=>
   rw [yW hm]
   refine zb (Dx (A7 ⟨rfl,?_⟩))
   refine zb (wV hk (by lia) (by lia) hB2 u2 λt3 hB3 u3 o3=>?_)
   rw [yU (by simp)]
   have hP3:Pn (arrOf t3) 0 p.toList lo:=hP2.cg λk _ k2=>o3.K (.inl k2)
   have g1:1<=min (a.size-lo) (minRun' a.size a.size 0):=by lia
   have g2:lo+min (a.size-lo) (minRun' a.size a.size 0)<=a.size:=by lia
   generalize min (a.size-lo) (minRun' a.size a.size 0)=f at u3 g1 g2 ⊢
  case' neg=>
   rw [yU hm]
   have hB3:=hB2
   have u3:=u2
   have hP3:=hP2
   have g1:=n1
   have g2:lo+n<=a.size:=by lia
   clear hB2 u2 hP2 n1 o2
   generalize t2=t3,n=f at *
  all_goals
   refine zb (Dj ?_)
   rw [hB3.pd]
   have psh: ∀ (p:Pd) t',SB a p t'->Pn (arrOf t') 0 p.toList lo->Up (arrOf t') lo (lo+f)->wpS (model P w) A E s (do
     modify λs=>setPending s ((pendingOf s).push (lo,f,0))
     pure (ForInStep.yield ((none:Option Unit),lo+f))) (λr t'=>match r with
      | .done c=> ∃ p,c=(none,a.size)/\SB a p t'/\Pn (arrOf t') 0 p.toList a.size
      | .yield c=> ∃ lo p,c=(none,lo)/\SB a p t'/\Pn (arrOf t') 0 p.toList lo/\x+1<=lo/\lo<=a.size) t':=λp t' b1 b2 b3=>zb (CS (zh ⟨lo+f,p.push (lo,f,0),rfl,⟨b1.pm,b1.kd,b1.fl,by rw [<- b1.pd]⟩,by rw [Bs];exact Pn.app.mpr ⟨lo,b2,rfl,g1,b3,rfl⟩,by lia,g2⟩))
   rcases hbk:p.back? with _ | ⟨s1,n1,o1⟩
   ·exact psh p t3 hB3 hP3 u3
   dsimp only
   refine zb (BC (An (I:=λ_ c t'=> ∃ p,c=(none,())/\SB a p t'/\Pn (arrOf t') 0 p.toList lo/\Up (arrOf t') lo (lo+f))
    (Q:=λc t'=> ∃ p,c=(none,())/\SB a p t'/\Pn (arrOf t') 0 p.toList lo/\Up (arrOf t') lo (lo+f)) ?_ (λ_ _ h=>h) ⟨p,rfl,hB3,hP3,u3⟩) ?_)
   ·rintro y c t4 _ hy ⟨p,rfl,hB4,hP4,u4⟩
    refine zb (Dj ?_)
    rw [hB4.pd]
    by_cases h1:p.size>1
    ·rw [yW h1,B4 p (p.size-2) (by lia)]
     rcases p[p.size-2]with ⟨z1,z2,z3⟩
     dsimp only
     refine fF (λ_=>zh ⟨p,rfl,hB4,hP4,u4⟩) (λ_=>?_)
     refine zb (uZ hk hB4 hP4 (by lia) (by lia) λp' t' b1 b2 b3 b4=>?_)
     rw [yU (by simp)]
     exact zh ⟨p',rfl,b1,b2,u5 (λk k1 _=>b4.K (.inr k1)) u4⟩
    ·rw [yU h1]
     exact zh ⟨p,rfl,hB4,hP4,u4⟩
   ·rintro c t4 ⟨p,rfl,hB4,hP4,u4⟩
    dsimp only
    refine zb (CS (psh (p.modify (p.size-1) λc=>(c.1,c.2.1,_)) _ ⟨hB4.pm,hB4.kd,hB4.fl,by rw [<- hB4.pd]⟩ ?_ u4))
    rw [Array.toList_modify]
    refine Pn.md ?_ hP4
    exact λ_=>⟨rfl,rfl⟩
 ·rintro c t' ⟨lo,p,rfl,hB1,hP,x1,x2⟩
  have e:lo=a.size:=by lia
  subst e
  exact ⟨p,rfl,hB1,hP⟩
 ·rintro c t' ⟨p,rfl,hB1,hP⟩
  dsimp only
  have hz:=hP.len
  rw [zV]at hz
  refine zb (BC (An (I:=λx c t'=> ∃ p,c=(none,())/\SB a p t'/\Pn (arrOf t') 0 p.toList a.size/\x+p.size<=a.size)
   (Q:=λc t'=> ∃ p,c=(none,())/\SB a p t'/\Pn (arrOf t') 0 p.toList a.size/\p.size<=1) ?_ ?_ ⟨p,rfl,hB1,hP,by lia⟩) ?_)
  ·rintro x c t1 _ hx ⟨p,rfl,hB1,hP,hx'⟩
   refine zb (Dj ?_)
   rw [hB1.pd]
   by_cases h1:p.size<=1
   ·rw [yW h1]
    exact zh ⟨p,rfl,hB1,hP,h1⟩
   rw [yU h1]
   refine zb (uZ hk hB1 hP (yV _) ?_ λp' t' b1 b2 b3 b4=>?_)
   ·have le2: ∀ {c:Prop} [Decidable c] {u v:Nat},u<=v->(if c then u else v)<=v:=λ{c} _ {u v} h=>by
     by_cases hc:c
     ·rw [yW hc];exact h
     ·rw [yU hc];exact yV _
    exact AY (Nat.add_le_add_right (le2 (Nat.sub_le _ _)) 1) (by lia)
   ·rw [yU (by simp)]
    exact zh ⟨p',rfl,b1,b2,show x+1+p'.size<=a.size by lia⟩
  ·rintro c t1 ⟨p,rfl,hB1,hP,hx'⟩
   exact ⟨p,rfl,hB1,hP,by lia⟩
  ·rintro c t1 ⟨p,rfl,hB1,hP,h1⟩
   refine zh (q t1 hB1.pm hB1.fl ?_)
   obtain ⟨l⟩:=p
   match l,h1,hP with
   | [],_,hP=>exact λi j _ _ h=>by have:0=a.size:=hP;lia
   | [(b,n,o)],_,hP=>
    obtain ⟨rfl,h2,h3,h4⟩:=hP
    have h4:0+n=a.size:=h4
    rw [<- h4]
    exact h3
end
end SM
namespace HT
open PySem PyProof.Rows
section
variable {prog:Program} {w:World} {A:Around} {E:Value->Shared->Prop} {s:Shared} {T:String} {r d:Addr} {n:Nat} {P:Nat->Value->Prop} {OK:Heap->Prop}
theorem collect_src {Q:List Value->Shared->Prop} (K:PySem.W.KdlSrc prog w T r d n P OK) (hh:A.handled=none) (hok:OK s.heap) (hn:n<=sizeLine)
  (h: ∀ h' tk (acc:Array Value),(∀ b o,s.heap.get? b=some o->h'.get? b=some o)->ItemsOf P acc n->Q acc.toList {s with heap:=h',toks:=tk}):wpAny (model prog w) A (collect (.ref r)) Q E s:=by
 unfold collect
 have hlt:=K.there _ hok
 refine yO (wpAny_runValue (Bp entry_proto_collect' ?_))
 show wpAny _ _ (do again (.builtin "list.__iadd__" ⟨[<- newList [],.ref r],[]⟩)) _ _ s
 refine yO (wpAny_newList (yR ⟨Cn _ (by decide +kernel),Bp entry_list_iadd' ?_⟩))
 show wpAny _ _ (Builtin.List.listExtendWith (.ref s.heap.objs.size) (.ref r) (.ref s.heap.objs.size)) _ _ {s with heap:=s.heap.push (seqObj "list" #[] 0)}
 rw [C0 (show plainId "list.__iadd__"=true by decide +kernel) _]
 refine PySem.W.kdl_extend (R:=λr s'=>match r with | .ok (.ret v)=>wpAny (model prog w) A (match v with | .ref a=>(do let o <- load a;match o.data with | .seq xs _=>pure xs.toList | _=>unsupported "internal:collect") | _=>unsupported "internal:collect") Q E s' | .ok _=>False | .error e=>E e s') (s:={s with heap:=s.heap.push (seqObj "list" #[] 0)}) K hh (K.keep _ _ hok λb _ o e=>yQ _ e) s.heap.objs.size (As hlt.1) (As hlt.2) (.ref s.heap.objs.size) 0 (y6 _ rfl) (λh' tk acc c' hk hS hi=>?_) hn
 show wpAny (model prog w) A (do
   let o <- load s.heap.objs.size
   match o.data with
   | .seq xs _=>pure xs.toList
   | _=>unsupported "internal:collect") Q E {s with heap:=h',toks:=tk}
 refine yO (wpAny_load hS ?_)
 exact yR (h h' tk acc (λb o e=>hk b o (zi (y2 e)) (yQ _ e)) hi)
end
end HT
namespace L2
open PySem PySem.Spec PyProof.Rows
def FpS (X:Cx) (pins:List (Addr×Obj)) (b:Addr):Prop:=
 b≠X.env.locals/\b∉X.fs/\(b∈X.ex\/X.s₀.heap.objs.size<=b)/\(∀ x c,X.env.cells.lookup x=some c->c≠b)/\ ∀ p∈X.pn++pins,p.1≠b
def tD (X:Cx) (pins own0:List (Addr×Obj)) (U:St) (T:Hp->Prop) (A:Around) (f:Value) (vs:List Value) (kz:List Int):Prop:=
 ∀ (i:Nat) (v:Value) (k:Int),vs[i]? =some v->kz[i]? =some k-> ∀ (own:List (Addr×Obj)) (H:Hp) (s:Shared),(∀ p∈own0,p∈own)->Inv X (pins++own) U H s->T H->
  wpAny (model X.prog X.w) A (call f [v]) (λr s'=> ∃ t H',r=.int k t/\Inv X (pins++own) U H' s'/\T H') (λ_ _=>False) s
section
variable {X:Cx} {pins own0:List (Addr×Obj)} {U:St} {H:Hp} {s:Shared} {A:Around} {E:Value->Shared->Prop} {a kS:Addr} {vs:List Value} {kz:List Int} {T:Hp->Prop} {P:PySem.Fin->Shared->Prop} {keys:Array Value} {e e1:Nat}
theorem Inv.fpp {own:List (Addr×Obj)} (I:Inv X (pins++own) U H s) {p:Addr×Obj} (hp:p∈own) (f:FpS X pins p.1):fC X pins H p.1:=⟨(I.fpPin hp).2,f⟩
theorem Inv.pno {own:List (Addr×Obj)} (I:Inv X (pins++own) U H s) {p:Addr×Obj} (hp:p∈own): ∀ v,p.2.data≠ .cell v:=(I.pin p (yS _ (yS _ hp))).2.2.2.2
theorem eP {c:String} {xs:Array Value} {n:Nat}: ∀ v,(seqObj c xs n).data≠ .cell v:=λv z=>by cases z
theorem nS {st:SortSt} (I:Inv X (pins++(own0++[(a,seqObj "list" #[] e1),(kS,seqObj "list" keys e)])) U H s) (f0: ∀ p∈own0,FpS X pins p.1) (fa:FpS X pins a) (fk:FpS X pins kS) (hka:kS≠a) (h0a: ∀ p∈own0,p.1≠a/\p.1≠kS)
  (hk:IntsAre keys.toList kz) (hlen:kz.length=vs.length) (h64:vs.length<4096) (hp:(arrOf st).Perm (keys.zip vs.toArray)) (hs:SortedTo (arrOf st) (arrOf st).size) (hfl:failedOf st=none)
  (h: ∀ s' out c,Inv X (pins++(own0++[(a,seqObj "list" out c)])) U H s'->KskOut false kz vs out.toList->P (.done (.ret .none)) s'):
  wpAny (model X.prog X.w) A (ksk_tail a false e1 (.ref kS) st) P E s:=by
 have ma:(a,seqObj "list" #[] e1)∈own0++[(a,seqObj "list" #[] e1),(kS,seqObj "list" keys e)]:=yS _ (.head _)
 have mk:(kS,seqObj "list" keys e)∈own0++[(a,seqObj "list" #[] e1),(kS,seqObj "list" keys e)]:=yS _ (.tail _ (.head _))
 have na:=(I.fpPin ma).1
 have nk:=(I.fpPin mk).1
 have hsz:keys.size=vs.length:=by
  have h1:=hk.length
  rw [zV]at h1
  lia
 have hsz2:(arrOf st).size=vs.length:=by rw [hp.size_eq,Array.size_zip,hsz,y1,Nat.min_self]
 have hout:((arrOf st).map (·.2)).size=vs.length:=by rw [Array.size_map];exact hsz2
 have s1:=AB s.heap kS (Obj.mapSeq λ_=>(#[]:Array Value))
 have na1:(s.heap.update kS (Obj.mapSeq λ_=>(#[]:Array Value))).get? a=some (seqObj "list" #[] e1):=(s1.2 a hka.symm).trans na
 have s2:=AB (s.heap.update kS (Obj.mapSeq λ_=>(#[]:Array Value))) a (Obj.mapSeq λ_=>(arrOf st).map (·.2))
 obtain ⟨c2,hc2⟩: ∃ c2,((s.heap.update kS (Obj.mapSeq λ_=>(#[]:Array Value))).update a (Obj.mapSeq λ_=>(arrOf st).map (·.2))).get? a=some (seqObj "list" ((arrOf st).map (·.2)) c2):=
  ⟨_,get?_update_seq na1 λ_=>(arrOf st).map (·.2)⟩
 unfold ksk_tail
 try dsimp only
 refine yO (Dp nk rfl ?_ (by rw [hsz,BN];lia) (y9 _))
 refine yO (wpAny_letGo ?_)
 refine yO (seqEpoch_at na1 rfl ?_)
 refine yO (Dp na1 rfl ?_ (y9 _) (by simp only [zg,zX];exact zc (C5 hout) (by rw [BN];lia)))
 rw [hfl]
 simp only [bne_self_eq_false,zg,zX]
 refine yR (h _ _ c2 ?_ (ksk_out (b:=false) hk hp hs))
 refine I.own (t':=s.toks) (λp hp=>I.fpp hp ?_) (λb o hb ho=>?_) (λp hp=>?_)
 ·rcases y8.mp hp with hp | hp
  ·exact f0 p hp
  ·rcases za.mp hp with rfl | hp
   ·exact fa
   ·rw [y0.mp hp];exact fk
 ·exact (s2.2 b λz=>hb _ ma z.symm).trans ((s1.2 b λz=>hb _ mk z.symm).trans ho)
 ·rcases y8.mp hp with hp | hp
  ·have m0:=zx [(a,seqObj "list" #[] e1),(kS,seqObj "list" keys e)] hp
   exact ⟨⟨p,m0,rfl⟩,(s2.2 _ (h0a p hp).1).trans ((s1.2 _ (h0a p hp).2).trans (I.fpPin m0).1),I.pno m0⟩
  ·rw [y0.mp hp]
   exact ⟨⟨_,ma,rfl⟩,hc2,eP⟩
theorem vP (I:Inv X (pins++(own0++[(a,seqObj "list" #[] e1),(kS,seqObj "list" keys e)])) U H s) (f0: ∀ p∈own0,FpS X pins p.1) (fa:FpS X pins a) (fk:FpS X pins kS) (hka:kS≠a) (h0a: ∀ p∈own0,p.1≠a/\p.1≠kS)
  (hk:IntsAre keys.toList kz) (hlen:kz.length=vs.length) (h64:vs.length<4096)
  (h: ∀ s' out c,Inv X (pins++(own0++[(a,seqObj "list" out c)])) U H s'->KskOut false kz vs out.toList->P (.done (.ret .none)) s'):
  wpAny (model X.prog X.w) A (ksk_end a false vs.toArray e1 (.ref kS) keys) P E s:=by
 have hsz:keys.size=vs.length:=by
  have h1:=hk.length
  rw [zV]at h1
  lia
 have hzs:(keys.zip vs.toArray).size=vs.length:=by rw [Array.size_zip,hsz,y1,Nat.min_self]
 unfold ksk_end
 try dsimp only
 simp only [zg,zX]
 by_cases h2:vs.toArray.size<2
 ·rw [yW h2,yW h2]
  refine yO (yR ?_)
  rw [StateT.run_pure]
  refine yO (yR ?_)
  try dsimp only
  refine nS (st:=SortSt.mk' general' (keys.zip vs.toArray) #[] 7 none) I f0 fa fk hka h0a hk hlen h64 (Array.Perm.refl _) ?_ rfl h
  intro i j hij hj
  have hj2:j< (keys.zip vs.toArray).size:=hj
  rw [hzs]at hj2
  rw [y1]at h2
  have:i=j:=by lia
  subst this
  exact AU _
 ·rw [yU h2,yU h2]
  rw [y1]at h2
  rw [ksk_kind hk (by rw [hsz];lia)]
  refine yO (yR ?_)
  refine yO (Ac (SM.w_sortRuns (a:=keys.zip vs.toArray) (t:=SortSt.mk' oneType' (keys.zip vs.toArray) #[] 7 none)
   (Q:=λ_ st'=>(arrOf st').Perm (keys.zip vs.toArray)/\failedOf st'=none/\SortedTo (arrOf st') (keys.zip vs.toArray).size)
   (ksk_intKeys hk) ⟨Array.Perm.refl _,rfl,rfl,rfl⟩ λst' a1 a2 a3=>⟨a1,a2,λi j h1 h2=>a3 i j (y9 _) h1 h2⟩) ?_ λ_ _ e=>e)
  rintro ⟨⟨⟩,st'⟩ s' ⟨rfl,hp,hf,hs⟩
  try dsimp only
  exact nS I f0 fa fk hka h0a hk hlen h64 hp (by rw [hp.size_eq];exact hs) hf h
theorem tS {f:Value} (I:Inv X (pins++(own0++[(a,seqObj "list" #[] e1),(kS,seqObj "list" #[] 0)])) U H s) (hT:T H) (f0: ∀ p∈own0,FpS X pins p.1) (fa:FpS X pins a) (fk:FpS X pins kS) (hka:kS≠a) (h0a: ∀ p∈own0,p.1≠a/\p.1≠kS)
  (hlen:kz.length=vs.length) (h64:vs.length<4096) (turn:tD X pins own0 U T A f vs kz)
  (h: ∀ s' H' out c,T H'->Inv X (pins++(own0++[(a,seqObj "list" out c)])) U H' s'->KskOut false kz vs out.toList->P (.done (.ret .none)) s'):
  wpAny (model X.prog X.w) A (ksk_rest a f false vs.toArray e1 (.ref kS)) P E s:=by
 unfold ksk_rest
 refine yO (A7 ?_)
 first
  | rw [List.forIn_toArray]
  | (rw [<- BD];simp only [List.toList_toArray])
  | rw [<- BD]
 refine yO (ksk_fold (λi s'=> ∃ H' kA e,T H'/\Inv X (pins++(own0++[(a,seqObj "list" #[] e1),(kS,seqObj "list" kA e)])) U H' s'/\IntsAre kA.toList (kz.take i)) vs 0 s
  ⟨H,#[],0,hT,I,by simpa using IntsAre.nil⟩ ?step ?done)
 case step=>
  rintro j x s' hx ⟨H',kA,e,hT',I',hk⟩
  simp only [Bc]at hk ⊢
  have hj:j<vs.length:=(yX.mp hx).1
  obtain ⟨k,hkj⟩: ∃ k,kz[j]? =some k:=⟨_,y4 (by lia)⟩
  have hz:kA.size<=vs.length:=by
   have h1:=hk.length
   rw [zV,zB]at h1
   lia
  refine yO (Bv (Ac (turn j x k hx hkj _ H' s' (λp hp=>zx _ hp) I' hT') (λv s'' he=>?_) λ_ _ hF=>hF.elim))
  obtain ⟨t2,H2,rfl,I2,hT2⟩:=he
  try dsimp only
  have ma:(a,seqObj "list" #[] e1)∈own0++[(a,seqObj "list" #[] e1),(kS,seqObj "list" kA e)]:=yS _ (.head _)
  have mk:(kS,seqObj "list" kA e)∈own0++[(a,seqObj "list" #[] e1),(kS,seqObj "list" kA e)]:=yS _ (.tail _ (.head _))
  have nk:=(I2.fpPin mk).1
  have s1:=AB s''.heap kS (Obj.mapSeq (·.push (.int k t2)))
  obtain ⟨c2,hc2⟩: ∃ c2,(s''.heap.update kS (Obj.mapSeq (·.push (.int k t2)))).get? kS=some (seqObj "list" (kA.push (.int k t2)) c2):=⟨_,get?_update_seq nk (·.push (.int k t2))⟩
  have ek:kz.take (j+1)=kz.take j++[k]:=by rw [zz,hkj];simp
  have ea:(kA.push (Value.int k t2)).toList=kA.toList++[Value.int k t2]:=by simp
  refine yO (Dp nk rfl ?_ (by rw [BN];lia) (zc (C5 (Array.size_push ..)) (by rw [BN];lia)))
  refine yR ⟨rfl,H2,kA.push (.int k t2),c2,hT2,?_,by rw [ea,ek];exact ksk_snoc hk⟩
  refine I2.own (t':=s''.toks) (λp hp=>I2.fpp hp ?_) (λb o hb ho=>?_) (λp hp=>?_)
  ·rcases y8.mp hp with hp | hp
   ·exact f0 p hp
   ·rcases za.mp hp with rfl | hp
    ·exact fa
    ·rw [y0.mp hp];exact fk
  ·exact (s1.2 b λz=>hb _ mk z.symm).trans ho
  ·rcases y8.mp hp with hp | hp
   ·have m0:=zx [(a,seqObj "list" #[] e1),(kS,seqObj "list" kA e)] hp
    exact ⟨⟨p,m0,rfl⟩,(s1.2 _ (h0a p hp).2).trans (I2.fpPin m0).1,I2.pno m0⟩
   ·rcases za.mp hp with rfl | hp
    ·exact ⟨⟨_,ma,rfl⟩,(s1.2 _ hka.symm).trans (I2.fpPin ma).1,eP⟩
    ·rw [y0.mp hp]
     exact ⟨⟨_,mk,rfl⟩,hc2,eP⟩
 case done=>
  rintro s' ⟨H',kA,e,hT',I',hk⟩
  have hk':IntsAre kA.toList kz:=by
   have e3:kz.take (0+vs.length)=kz:=zW (by lia)
   rw [e3]at hk
   exact hk
  have nk:=(I'.fpPin (p:=(kS,seqObj "list" kA e)) (yS _ (.tail _ (.head _)))).1
  try dsimp only
  refine yO (listItems_at nk rfl ?_)
  exact vP I' f0 fa fk hka h0a hk' hlen h64 λs3 out c I3 k3=>h s3 H' out c hT' I3 k3
theorem tR {f:Value} {n:Nat} (I:Inv X (pins++(own0++[(a,seqObj "list" vs.toArray n)])) U H s) (hT:T H) (f0: ∀ p∈own0,FpS X pins p.1) (fa:FpS X pins a) (h0a: ∀ p∈own0,p.1≠a)
  (hlen:kz.length=vs.length) (h64:vs.length<4096) (turn:tD X pins own0 U T A f vs kz)
  (h: ∀ s' H' out c,T H'->Inv X (pins++(own0++[(a,seqObj "list" out c)])) U H' s'->KskOut false kz vs out.toList->P (.done (.ret .none)) s'):
  wpAny (model X.prog X.w) A (ksk_tree a f false) P E s:=by
 have ma:(a,seqObj "list" vs.toArray n)∈own0++[(a,seqObj "list" vs.toArray n)]:=yS _ (.head _)
 have ho:=(I.fpPin ma).1
 have ha:a<s.heap.objs.size:=y2 ho
 have s1:=AB s.heap a (Obj.mapSeq λ_=>(#[]:Array Value))
 obtain ⟨e1,ho1⟩: ∃ e1,(s.heap.update a (Obj.mapSeq λ_=>(#[]:Array Value))).get? a=some (seqObj "list" #[] e1):=⟨_,get?_update_seq ho λ_=> #[]⟩
 have I1:Inv X (pins++(own0++[(a,seqObj "list" #[] e1)])) U H {s with heap:=s.heap.update a (Obj.mapSeq λ_=>(#[]:Array Value))}:=by
  refine I.own (t':=s.toks) (λp hp=>I.fpp hp ?_) (λb o hb ho=>?_) (λp hp=>?_)
  ·rcases y8.mp hp with hp | hp
   ·exact f0 p hp
   ·rw [y0.mp hp];exact fa
  ·exact (s1.2 b λz=>hb _ ma z.symm).trans ho
  ·rcases y8.mp hp with hp | hp
   ·have m0:=zx [(a,seqObj "list" vs.toArray n)] hp
    exact ⟨⟨p,m0,rfl⟩,(s1.2 _ (h0a p hp)).trans (I.fpPin m0).1,I.pno m0⟩
   ·rw [y0.mp hp]
    exact ⟨⟨_,ma,rfl⟩,ho1,eP⟩
 have hsz:(s.heap.update a (Obj.mapSeq λ_=>(#[]:Array Value))).objs.size=s.heap.objs.size:=Heap.size_update ..
 have hkS:((s.heap.update a (Obj.mapSeq λ_=>(#[]:Array Value))).push (seqObj "tuple" vs.toArray 0)).objs.size=s.heap.objs.size+1:=by rw [size_push',Heap.size_update]
 have J:=I1.ownNew (h':=((s.heap.update a (Obj.mapSeq λ_=>(#[]:Array Value))).push (seqObj "tuple" vs.toArray 0)).push (seqObj "list" #[] 0)) (t':=s.toks) (n:=((s.heap.update a (Obj.mapSeq λ_=>(#[]:Array Value))).push (seqObj "tuple" vs.toArray 0)).objs.size) (o:=seqObj "list" #[] 0)
  (λb ob e=>yQ _ (yQ _ e)) (by show (s.heap.update a _).objs.size<=_;rw [hkS,hsz];exact Di _) (y6 _ rfl) eP
 unfold ksk_tree
 refine yO (listItems_at ho rfl ?_)
 refine yO (Dp ho rfl ?_ (by rw [y1,BN];lia) (y9 _))
 refine yO (seqEpoch_at ho1 rfl ?_)
 refine yO (wpAny_newTuple ?_ (by show vs.length<=_;rw [BN];lia))
 refine yO (wpAny_newList ?_ (y9 _))
 refine zP ?_
 have J1:=J.1
 rw [zm]at J1
 refine tS (s:={s with heap:=((s.heap.update a (Obj.mapSeq λ_=>(#[]:Array Value))).push (seqObj "tuple" vs.toArray 0)).push (seqObj "list" #[] 0)}) (kS:=((s.heap.update a (Obj.mapSeq λ_=>(#[]:Array Value))).push (seqObj "tuple" vs.toArray 0)).objs.size)
  J1 hT f0 fa J.2.2 (by rw [hkS];exact As (AR ha)) (λp hp=>⟨h0a p hp,by rw [hkS];exact zi (AR (y2 (I.fpPin (zx _ hp)).1))⟩) hlen h64 turn h
end
theorem wp {P:Program} {w:World} {K:W.Frag} {mg:Str->Option Value} {base:Heap} {k:Nat} {fl c':Addr} {nm qual:Str} {params:Arguments} {body:Expr} {scope:Scope} {cl:List (Str×Addr)} {pm ctv:Value} {oc:Obj} {vc:Array Value} {tq:Tok}
  {ps ys:List Str} {cs:List V} {sp:Sp}
  (hfl:base.get? fl=some (PySem.W.kla_obj nm qual params body scope cl pm c' ctv)) (hoc:oc.data=.fields vc) (hq:vc[1]? =some (.str qual tq)) (S:lW ps ys scope)
  (hcell: ∀ x c,cl.lookup x=some c-> ∃ v,base.IsCell c v) (hinj: ∀ x y c,cl.lookup x=some c->cl.lookup y=some c->x=y)
  (hcap: ∀ (j:Nat) (y:Str),ys[j]? =some y-> ∃ c v u,cs[j]? =some v/\cl.lookup y=some c/\base.IsCell c (some u)/\RelV v u) (hcs:cs.length=ys.length)
  (hE0: ∀ vs H Q E,sp vs H Q E->sp vs H Q E0) (len: ∀ vs H Q,sp vs H Q E0->vs.length=ps.length) (hH: ∀ vs H Q,sp vs H Q E0->H c'=some (.ext λh=>h.get? c'=some oc))
  (hE: ∀ (A:Around) (outer:List Env) (s:Shared) (H:Hp) (vs:List V) (Q:VK),Room k (A.deeper (PySem.W.envX qual scope s.heap.objs.size fl (.ref c') cl))->sp vs H Q E0->
   ∃ t,PE (vp P w K mg base (ps++ys) qual scope fl (.ref c') cl A outer s H) body t/\t (vs.map some++cs.map some) H Q):FnOk P w K mg base CX0 (k+1) fl (PySem.W.kla_fn nm qual params body scope cl pm (.ref c') ctv) ps sp:=by
 refine ⟨λvs H Q E h=>len vs H Q (hE0 vs H Q E h),λA outer s H args us vs Q E hr e0 hb r h0=>?_⟩
 have h:=hE0 _ _ _ _ h0
 have hlv:=len vs H Q h
 have hlu:us.length=ps.length:=by rw [<- r.length];exact hlv
 have hc':s.heap.get? c'=some oc:=(show ObjOk P w H s.heap c' (.ext λh=>h.get? c'=some oc)from e0.hok c' _ (hH vs H Q h)).1
 obtain ⟨t,hPE,ht⟩:=hE A outer s H vs Q (hr.deeper _) h
 refine PySem.W.kla_callFunE hr.depth (e0.bs _ _ hfl).1 rfl S.co S.gen rfl ⟨c',oc,vc,tq,rfl,hc',hoc,hq⟩ (hb _ _ _ _ ?_)
 refine Br S.nocell (λx hx=>S.par _ (Ch hx).1) (λh₁ hns hsb=>?_) S.kind
 have hk: ∀ b o,s.heap.get? b=some o->h₁.get? b=some o:=λb o e=>hsb.extBut b o (zi (y2 e)) (yQ _ e)
 refine ⟨(e0.mod.nolimit.keeps λb o e=>(e0.bs b o e).1).keeps hk,?_⟩
 show codeAny _ _ (.expr body (PySem.W.envX qual scope s.heap.objs.size fl (.ref c') cl)) _ _
 refine PySem.W.kla_codeExpr ?_
 have hcl: ∀ x c,cl.lookup x=some c->H c=none/\ ∃ v,h₁.IsCell c v:=λx c e=>by
  obtain ⟨v,o,ho,hd⟩:=hcell x c e
  obtain ⟨e1,e2⟩:=e0.bs c o ho
  exact ⟨e2,v,o,hk _ _ e1,hd⟩
 have IY:Inv (vp P w K mg base (ps++ys) qual scope fl (.ref c') cl A outer s H) [] (vs.map some++cs.map some) H {s with heap:=h₁,toks:=s.toks+ (ps.zip us).length}:=by
  have noA: ∀ b:Addr,b∉([]:List Addr):=λb z=>by cases z
  refine ⟨⟨e0.mod,S.kind,rfl,rfl,yV _,hinj,λy hy=>?_,λy c hf _=>(by cases hf),λ_=>hr.hd,Around.frames_deeper e0.frames,.inr ⟨rfl,rfl⟩,λb z=>absurd z (noA b),e0.bs,e0.bsz,λb _ _=>noA b,λb z=>absurd z (noA b),e0.funs,e0.frf⟩,
   rfl,e0.bare,Un.kept hk,⟨_,hns,λi y v h1 h2 h3=>?_⟩,λy c e=>(hcl y c e).2,e0.hok.fresh (yV _),λy c e=>(hcl y c e).1,λp hp=>absurd (show p∈([]:List (Addr×Obj))from hp) (by simp),e0.hok.kept hk,?_⟩
  ·have hy': ∃ kd,scope.names.lookup y=some kd/\(kd=.cell\/kd=.free):=by
    rcases hy with z | z
    ·exact ⟨_,z,.inl rfl⟩
    ·exact ⟨_,z,.inr rfl⟩
   obtain ⟨kd,hl,hkd⟩:=hy'
   have hmem:=L2.mem_of_lookup hl
   rcases hkd with z | z
   ·exact absurd z (S.nocell _ hmem)
   ·obtain ⟨j,hj⟩:=AE.mp (S.has _ hmem z)
    obtain ⟨c,_,_,_,e,_⟩:=hcap j y hj
    exact ⟨c,e⟩
  ·have h1':(ps++ys)[i]? =some y:=h1
   by_cases hi:i<ps.length
   ·rw [Al hi]at h1'
    rw [Al (by rw [yP,hlv];exact hi),zo]at h2
    cases hv:vs[i]? with
    | none=>rw [hv]at h2;cases h2
    | some v0=>
     rw [hv]at h2
     cases h2
     obtain ⟨u,hu,ru⟩:=r.get hv
     refine ⟨u,ru,.inl ⟨S.par y (y3 h1'),hZ (CG.mp S.nd).1 h1' hu⟩⟩
   ·rw [Aa (by lia)]at h1'
    rw [Aa (by rw [yP,hlv];lia),zo,yP,hlv]at h2
    obtain ⟨c,v0,u,e1,e2,e3,e4⟩:=hcap _ y h1'
    rw [e1]at h2
    cases h2
    obtain ⟨o,ho,hd⟩:=e3
    exact ⟨u,e4,.inr ⟨.inr (S.fre y (y3 h1')),c,e2,o,hk _ _ ((e0.bs _ _ ho).1),hd⟩⟩
  ·show (vs.map some++cs.map some).length=(ps++ys).length
   rw [yZ,yZ,yP,yP,hlv,hcs]
 refine Ac (hPE [] _ _ H Q IY ht) (λu s' ⟨v,H',J,rv,q⟩=>⟨v,H',J.os,J.bare,J.base,J.hok,rv,q⟩) λ_ _ z=>z.elim
def nE (qual:Str) (Pt:Addr) (lpos:Pos) (R:Addr->Obj->Hp->Prop) (H1:Hp):Prop:= ∃ ps:Array Value,H1 Pt=some (.tbl ps)/\TriplesOk ps.toList/\
 ((codeAmong lpos ps.toList=none/\ ∀ c' oc,H1 c'=none->c'≠Pt->cZ oc qual->R c' oc (upd (upd H1 Pt (.tbl (ps++ #[rawInt lpos.line,rawInt lpos.col,.ref c']))) c' (eC c' oc)))\/
  ∃ c' oc,codeAmong lpos ps.toList=some (.ref c')/\H1 c'=some (eC c' oc)/\cZ oc qual/\R c' oc H1)
section
variable {X:Cx} {pins:List (Addr×Obj)} {U:St} {H:Hp} {s:Shared}
noncomputable abbrev fw (X:Cx) (params:Arguments) (body:Expr) (scope:Scope) (pm:Value) (c':Addr) (ctv:Value):Obj:=PySem.W.kla_obj "<lambda>" (X.env.qual++"<lambda>") params body scope (bo X.env.cells scope.names) pm c' ctv
theorem wC {c Pt:Addr} {body:Expr} {params:Arguments} {scope:Scope} {lpos:Pos} {ys:List Str} {fr:List Nat} {R:Addr->Obj->Hp->Prop} {H1:Hp} {s1:Shared}
  (hC:PySem.W.CodeHd X.base c Pt) (hcode:X.env.code=.ref c) (hB:X.base.BuiltinsAt X.mg Pt) (ok:iZ X.env.scope X.N scope ys fr) (hdef:defaultsOf params X.env=([],[]))
  (I1:Inv X pins U H1 s1) (h:nE (X.env.qual++"<lambda>") Pt lpos R H1):
  wpAny (model X.prog X.w) X.A (eval (.Lambda params body scope lpos) X.env) (λv s2=> ∃ fl c' oc pm ctv H2,v=.ref fl/\Inv X (pins++[(fl,fw X params body scope pm c' ctv)]) U H2 s2/\FpS X pins fl/\cZ oc (X.env.qual++"<lambda>")/\H2 c'=some (eC c' oc)/\R c' oc H2) X.xe s1:=by
 obtain ⟨ps,hP,ht,q⟩:=h
 have hcl:closureFor scope X.env=pure (bo X.env.cells scope.names):=bZ λy hy z=>I1.ok.has y.1 (.inl (ok.free y hy z))
 have hPs:s1.heap.get? Pt=some (PySem.W.tabObj ps):=(show ObjOk X.prog X.w H1 s1.heap Pt (.tbl ps)from I1.hok Pt _ hP)
 have nP: ∀ {b:Addr},H1 b=none->b≠Pt:=λhn z=>by rw [z,hP]at hn;cases hn
 have hgP:mainGlobals≠Pt:=by
  obtain ⟨o,es,ep,ho,_⟩:=I1.mod.glob
  exact nP (I1.bs _ _ ho).2
 have hB1:s1.heap.BuiltinsAt X.mg Pt:=by
  obtain ⟨bm,o,b1,b2,b3,b4,b5,b6⟩:=hB
  exact ⟨bm,o,b1,b2,b3,b4,I1.bk _ _ b5,b6⟩
 have fin: ∀ {fl c':Addr} {oc:Obj} {pm ctv:Value} {H2:Hp} {h2:Heap} {tk:Nat},Inv X pins U H2 {s1 with heap:=h2,toks:=tk}->h2.get? fl=some (fw X params body scope pm c' ctv)->H2 fl=none->s1.heap.objs.size<=fl->cZ oc (X.env.qual++"<lambda>")->H2 c'=some (eC c' oc)->R c' oc H2->
   ∃ fl' c' oc pm ctv H2,Value.ref fl=.ref fl'/\Inv X (pins++[(fl',fw X params body scope pm c' ctv)]) U H2 {s1 with heap:=h2,toks:=tk}/\FpS X pins fl'/\cZ oc (X.env.qual++"<lambda>")/\H2 c'=some (eC c' oc)/\R c' oc H2:=by
  intro fl c' oc pm ctv H2 h2 tk I2 hfl nfl hge hoc hc' hR
  have f:=I1.fpOk (H':=H2) hge nfl
  refine ⟨fl,c',oc,pm,ctv,H2,rfl,I2.pins_of λp hp=>?_,f.2,hoc,hc',hR⟩
  rcases y8.mp hp with hp | hp
  ·exact I2.pin p (yS _ hp)
  ·rw [y0.mp hp]
   exact ⟨hfl,nfl,f.2.1,f.2.2.1,λv z=>by cases z⟩
 refine PySem.W.kla_eval hdef ?_
 rcases q with ⟨hnf,q⟩ | ⟨c',oc,hf,hc',hoc,q⟩
 ·refine PySem.W.kla_makeFunction (mg:=X.mg) hcl I1.ok.glob (I1.mod.glob.keeps I1.bk) hcode (hC.keeps I1.bk) hPs ht hnf hgP hB1 λc' ctv h' tk hx hge hlt hrec htb=>?_
  obtain ⟨c2,oc,vc,tq,e2,hoc,hd,hq1⟩:=hrec
  cases e2
  have nc:H1 c'=none:=I1.hok.fresh hge
  have ncP:c'≠Pt:=λz=>by rw [z,hP]at nc;cases nc
  have old: ∀ b o,b≠Pt->s1.heap.get? b=some o->(h'.push (PySem.W.kla_obj "<lambda>" (X.env.qual++"<lambda>") params body scope (bo X.env.cells scope.names) ((X.mg "__name__").getD .none) c' ctv)).get? b=some o:=λb o hb eo=>yQ _ (hx b o hb eo)
  have lt: ∀ {b:Addr} {o:Obj},s1.heap.get? b=some o->b≠c':=λeo z=>absurd (y2 eo) (by rw [z];exact BP.mpr hge)
  have I2:Inv X pins U (upd (upd H1 Pt (.tbl (ps++ #[rawInt lpos.line,rawInt lpos.col,.ref c']))) c' (eC c' oc)) {s1 with heap:=h'.push (PySem.W.kla_obj "<lambda>" (X.env.qual++"<lambda>") params body scope (bo X.env.cells scope.names) ((X.mg "__name__").getD .none) c' ctv),toks:=tk}:=by
   have up: ∀ {b:Addr} {oo:HO},H1 b=some oo->b≠Pt->(upd (upd H1 Pt (.tbl (ps++ #[rawInt lpos.line,rawInt lpos.col,.ref c']))) c' (eC c' oc)) b=some oo:=λeo hb=>by rw [ak (aj eo nc),ak hb];exact eo
   have nt: ∀ {b:Addr} {oo:HO},H1 b=some oo->oo≠ .tbl ps->b≠Pt:=λeo hne z=>by rw [z,hP]at eo;exact hne (zj eo).symm
   refine I1.step (g':=s1.gens) (d':=s1.drawn) (ch:=[]) (λb hb=>by cases hb) (λb o _ _ _ eo n=>old b o (nP n) eo) (λb o _ _ _ eo n=>⟨o.slots,old b o (nP n) eo⟩) (λb o _ eo n=>by rw [ak (lt eo),ak (nP n)];exact n)
    (λb o _ eo=>?_) (λb xs eo=>up eo (nt eo (by simp))) (λb o uo eo=>up eo (nt eo (by simp))) (λb qs eo=>?_) (λm hm=>?_) (λb oo eo=>?_) I1.bare
   ·by_cases hb:b=Pt
    ·subst hb;exact ⟨_,yQ _ htb⟩
    ·exact ⟨o,old b o hb eo⟩
   ·by_cases hb:b=Pt
    ·subst hb
     rw [hP]at eo
     cases eo
     exact ⟨_,by rw [ak (zT ncP),ad]⟩
    ·exact ⟨#[],by rw [up eo hb];simp⟩
   ·obtain ⟨o,es,ep,ho,r⟩:=hm
    exact ⟨o,es,ep,old _ o (nP I1.free) ho,r⟩
   ·by_cases hb:b=c'
    ·subst hb
     rw [ad]at eo
     cases eo
     exact ⟨yQ _ hoc,⟨oc,yQ _ hoc⟩,λh1 h2 a1 a2=>a2 _ a1⟩
    ·rw [ak hb]at eo
     by_cases hbP:b=Pt
     ·subst hbP
      rw [ad]at eo
      cases eo
      exact yQ _ htb
     ·rw [ak hbP]at eo
      refine (I1.hok b oo eo).stay (λd' vo hd' q'=>old d' vo ?_ q') (λd' q'=>up q' (nt q' (by simp))) λd' xs q'=>up q' (nt q' (by simp))
      rcases hd' with z | z
      ·rw [z];exact hbP
      ·exact nt z (by simp)
  have nfl:(upd (upd H1 Pt (.tbl (ps++ #[rawInt lpos.line,rawInt lpos.col,.ref c']))) c' (eC c' oc)) h'.objs.size=none:=by
   have a1:h'.objs.size≠c':=As hlt
   have a2:h'.objs.size≠Pt:=As (y2 htb)
   rw [ak a1,ak a2]
   exact I1.hok.fresh (zc hge (zR hlt))
  exact fin I2 (y6 _ rfl) nfl (zc hge (zR hlt)) ⟨vc,tq,hd,hq1⟩ ad (q c' oc nc ncP ⟨vc,tq,hd,hq1⟩)
 ·refine PySem.W.kla_makeFunctionHit (mg:=X.mg) hcl I1.ok.glob (I1.mod.glob.keeps I1.bk) hcode (hC.keeps I1.bk) hPs ht hf hB1 λctv h' tk hkp hsz=>?_
  have I2:Inv X pins U H1 {s1 with heap:=h'.push {cls:=.type "function",data:=.func (PySem.W.kla_fn "<lambda>" (X.env.qual++"<lambda>") params body scope (bo X.env.cells scope.names) ((X.mg "__name__").getD .none) (.ref c') ctv)},toks:=tk}:=
   I1.kept λb o eo=>yQ _ (hkp b o eo)
  exact fin I2 (y6 _ rfl) (I1.hok.fresh hsz) hsz hoc hc' q
end
section
variable {X:Cx} {pins own0:List (Addr×Obj)} {U:St} {H:Hp} {s:Shared} {A:Around} {T:Hp->Prop} {vs:List Value} {kz:List Int} {xs:List V} {params:Arguments} {body:Expr} {scope:Scope} {ys:List Str} {fr:List Nat} {cs:List V} {fl c':Addr} {pm ctv:Value} {p1:Str} {sp:Sp} {k:Nat}
def tw (X:Cx) (params:Arguments) (body:Expr) (scope:Scope) (ys:List Str) (cs:List V) (c':Addr) (k:Nat) (p1:Str) (sp:Sp):Prop:=
 ∀ (base:Heap) (fl:Addr) (pm ctv:Value),base.get? fl=some (fw X params body scope pm c' ctv)->vw base (bo X.env.cells scope.names) ys cs fl c' "<lambda>" (X.env.qual++"<lambda>") params body scope->
  FnOk X.prog X.w X.K X.mg base CX0 k fl (PySem.W.kla_fn "<lambda>" (X.env.qual++"<lambda>") params body scope (bo X.env.cells scope.names) pm (.ref c') ctv) [p1] sp/\
  Binds X.K (PySem.W.kla_fn "<lambda>" (X.env.qual++"<lambda>") params body scope (bo X.env.cells scope.names) pm (.ref c') ctv) [p1] []
theorem uy (hm:(fl,fw X params body scope pm c' ctv)∈own0) (ok:iZ X.env.scope X.N scope ys fr) (hcs:bg fr U=cs.map some) (hfn: ∀ x,X.fn x=true)
  (hA:A.frames=X.A.frames) (hh:A.handled=X.A.handled) (hr:Room k A) (hF:tw X params body scope ys cs c' k p1 sp) (hv:Vals xs vs)
  (hsp: ∀ (i:Nat) (x:V) (k:Int),xs[i]? =some x->kz[i]? =some k-> ∀ H,T H->sp [x] H (λv H'=>v=.int k/\T H') E0):tD X pins own0 U T A (.ref fl) vs kz:=by
 intro i v kk hvi hki own H s hown I hT
 have hp:=I.pin _ (yS _ (yS _ (hown _ hm)))
 have hfl:=I.fpPin (hown _ hm)
 have nff:fl∉frs X.stack:=λz=>by
  rcases za.mp (I.stkSub fl z)with e | e
  ·exact hp.2.2.1 e
  ·exact hp.2.2.2.1 e
 have L:=wo (c':=c') I ok hcs hfl.1 hfl.2 nff hfn
 obtain ⟨F,hb⟩:=hF (dF X H s) fl pm ctv (dE hfl.1 hfl.2 nff) L
 have hl:xs.length=vs.length:=hv.length
 have hi:i<xs.length:=by rw [hl];exact (yX.mp hvi).1
 have hx:xs[i]? =some xs[i]:=y4 hi
 obtain ⟨u,hu,rx⟩:=hv.get hx
 rw [hvi]at hu
 cases hu
 refine Ac (tU (X:=(X.at A).nox) (f:=fl) (vs:=[xs[i]]) F hr hb ((I.at hA hh).wish _) (.cons rx .nil) (hsp i _ kk hx hki H hT)) (λu s' h=>?_) λe s' z=>z
 obtain ⟨y,H',J,ry,rfl,hT'⟩:=h
 obtain ⟨t,rfl⟩:=(show ∃ t,u=Value.int kk t from ry)
 exact ⟨t,H',rfl,J.unwish.unat hA hh,hT'⟩
end
theorem jr {α β:Type} (f:α->β): ∀ {ps qs:List β},ps.Perm qs-> ∀ L:List α,qs=L.map f-> ∃ L':List α,L'.Perm L/\L'.map f=ps:=by
 intro ps qs h
 induction h with
 | nil=>
  intro L e
  cases L with
  | nil=>exact ⟨[],.nil,rfl⟩
  | cons _ _=>cases e
 | cons x h ih=>
  intro L e
  cases L with
  | nil=>cases e
  | cons y r=>
   rw [zQ]at e
   injection e with e1 e2
   obtain ⟨L',h1,h2⟩:=ih r e2
   exact ⟨y::L',h1.cons y,by rw [zQ,h2,<- e1]⟩
 | swap x y l=>
  intro L e
  match L with
  | []=>cases e
  | [_]=>cases e
  | a::b::r=>
   rw [zQ,zQ]at e
   injection e with e1 e2
   injection e2 with e2 e3
   exact ⟨b::a::r,.swap ..,by rw [zQ,zQ,<- e1,<- e2,<- e3]⟩
 | trans h1 h2 ih1 ih2=>
  intro L e
  obtain ⟨L1,p1,e1⟩:=ih2 L e
  obtain ⟨L2,p2,e2⟩:=ih1 L1 e1.symm
  exact ⟨L2,p2.trans p1,e2⟩
theorem kI: ∀ {xs:List V} {vs:List Value},Vals xs vs-> ∀ p∈vs.zip xs,RelV p.2 p.1
 | _,_,.nil,p,h=>by cases h
 | _,_,.cons r t,p,h=>by
  rcases za.mp h with rfl | h
  ·exact r
  ·exact kI t p h
theorem kK {α:Type} (f:α->V) (g:α->Value): ∀ {l:List α},(∀ p∈l,RelV (f p) (g p))->Vals (l.map f) (l.map g)
 | [],_=>.nil
 | p::r,h=>.cons (h p yT) (kK f g λq hq=>h q (yY _ hq))
theorem sd {kz:List Int} {vs out:List Value} {xs:List V} (hl:kz.length=vs.length) (hv:Vals xs vs) (h:KskOut false kz vs out): ∃ qs:List (Int×V),qs.Perm (kz.zip xs)/\qs.Pairwise (λp q=>p.1<=q.1)/\Vals (qs.map (·.2)) out:=by
 obtain ⟨ps,hp,rfl,hs⟩:=h
 have hlx:xs.length=vs.length:=hv.length
 have e:kz.zip vs=(kz.zip (vs.zip xs)).map λp=>(p.1,p.2.1):=by
  refine Dy (by simp [hl,hlx]) λi h1 h2=>?_
  simp
 obtain ⟨L,h1,h2⟩:=jr _ hp (kz.zip (vs.zip xs)) e
 refine ⟨L.map λp=>(p.1,p.2.2),?_,?_,?_⟩
 ·have e2:kz.zip xs=(kz.zip (vs.zip xs)).map λp=>(p.1,p.2.2):=by
   refine Dy (by simp [hl,hlx]) λi h1 h2=>?_
   simp
  rw [e2]
  exact h1.map _
 ·rw [<- h2]at hs
  rw [AS]at hs ⊢
  exact hs.imp λ{a b} h=>by simpa using h
 ·rw [<- h2,zO,zO]
  refine kK _ _ λp hp=>?_
  exact kI hv p.2 (Ch (h1.mem_iff.mp hp)).2
section
variable {X:Cx} {U:St}
def yK (X:Cx) (params:Arguments) (body:Expr) (scope:Scope) (ys:List Str) (fr:List Nat) (k:Nat) (p1:Str) (U:St) (xs:List V) (fin:List Int->(Hp->Prop)->Prop) (c':Addr) (oc:Obj) (H:Hp):Prop:=
 ∃ (kz:List Int) (T:Hp->Prop) (sp:Sp) (cs:List V),kz.length=xs.length/\T H/\bg fr U=cs.map some/\(∀ (i:Nat) (x:V) (k:Int),xs[i]? =some x->kz[i]? =some k-> ∀ H,T H->sp [x] H (λv H'=>v=.int k/\T H') E0)/\
  (cZ oc (X.env.qual++"<lambda>")->tw X params body scope ys cs c' k p1 sp)/\fin kz T
def qB (X:Cx) (Pt:Addr) (params:Arguments) (body:Expr) (scope:Scope) (lpos:Pos) (ys:List Str) (fr:List Nat) (k:Nat) (p1:Str) (te:TE):TE:=λU H Q=>te U H λx H1=> ∃ a kvs,x=.ref a/\H1 a=some (.dP kvs)/\kvs.length<4096/\
 nE (X.env.qual++"<lambda>") Pt lpos (λc' oc H2=>H2 a=some (.dP kvs)/\ ∀ zs,wO H2 zs (kvs.map (·.1))->yK X params body scope ys fr k p1 U zs
  (λkz T=> ∀ H3 p (qs:List (Int×V)),T H3->H3 p=none->qs.Perm (kz.zip zs)->qs.Pairwise (λp q=>p.1<=q.1)->Q (.ref p) (upd H3 p (.lst (qs.map (·.2))))) c' oc H2) H1
theorem mE {c Pt:Addr} {e body:Expr} {te:TE} {params:Arguments} {scope:Scope} {lpos kp p pos:Pos} {ys:List Str} {fr:List Nat} {k:Nat} {p1:Str}
  (hg:Gl X "sorted") (hm:X.mg "sorted"=none) (hc:X.calm=true) (he:PE X e te) (hC:PySem.W.CodeHd X.base c Pt) (hcode:X.env.code=.ref c) (hB:X.base.BuiltinsAt X.mg Pt) (ok:iZ X.env.scope X.N scope ys fr) (hfn: ∀ x,X.fn x=true)
  (hdef:defaultsOf params X.env=([],[])) (hr:Room (k+2) X.A)
  (hs:starEach [e] X.env=[(false,eval e X.env)]:=by rfl):
  PE X (.Call (.Name "sorted" p) [e] [⟨some "key",.Lambda params body scope lpos,kp⟩] pos) (qB X Pt params body scope lpos ys fr k p1 te):=by
 intro pins s U H Q I h
 refine AX (cV I hg hm (show bootBuiltins "sorted"=some (.builtin "sorted") by decide +kernel) ?_)
 refine callWith_kw ?_ (by rw [hs];rfl) (by rw [hs];rfl)
 rw [hs]
 show wpAny _ _ (spliced ((false,eval e X.env)::[])) _ _ s
 refine Av (thn (he pins s U H _ I h) λu s1 ⟨x,H1,I1,r1,a,kvs,ex,ha,h64,q⟩=>AN ?_)
 subst ex
 cases r1
 refine kws_cons (thn (wC hC hcode hB ok hdef I1 q) λv s2 hv=>kws_nil ?_)
 obtain ⟨fl,c',oc,pm,ctv,H2,rfl,I2,ffl,hoc,hc',ha2,hq⟩:=hv
 show wpAny (model X.prog X.w) X.A (call (.builtin "sorted") [.ref a] [(Str.ofString "key",.ref fl)]) _ _ s2
 obtain ⟨hz,lo,ws,kt,o,es,ep,h1,h2,h3,h4,h5⟩:=(show ObjOk X.prog X.w H2 s2.heap a (.dP kvs)from I2.hok a _ ha2)
 have hm:HT.DEs s2.heap a (ws.map λq=>Value.ref q.2.1) ep:=by
  refine ⟨o,es,h1,h2,h3,?_⟩
  rw [h4,zO]
  rfl
 have hlw:ws.length=kvs.length:=(ze kt).symm
 have rv:Vals (ws.map λq=>V.ref q.2.1) (ws.map λq=>Value.ref q.2.1):=by
  clear kt h4 h5 hlw hm
  induction ws with
  | nil=>exact .nil
  | cons y r ih=>exact .cons rfl ih
 have ps:wO H2 (ws.map λq=>V.ref q.2.1) (kvs.map (·.1)):=by
  clear h4 h5 hlw hm rv hz ha ha2 hq h64 q
  induction kt with
  | nil=>exact .nil
  | cons h _ ih=>
   obtain ⟨b,e1,e2⟩:=h.2.1
   exact .cons ⟨_,b,rfl,e1,e2⟩ ih
 obtain ⟨kz,T,sp,cs,hlk,hT,hcs,hsp,hF,fin⟩:=hq _ ps
 refine call_function_entry_kw kind_sorted plain_sorted entry_sorted (ksk_s1 _ _) ?_
 unfold Builtin.«sorted»
 refine yO (m:=checkCount "sorted" 1 1 _) (yR ?_)
 refine yO (HT.collect_src (A:=X.A.in1) (HT.src_des lo) (I.ok.hd hc) hm (by rw [yP];lia) λh' tk acc kp hi=>?_)
 obtain ⟨i1,i2⟩:=hi
 have hacc:acc.toList=ws.map λq=>Value.ref q.2.1:=by
  refine CC λi=>?_
  rw [AD]
  cases hv:acc[i]? with
  | some v=>exact (i2 i v hv).symm
  | none=>
   have:acc.size<=i:=Array.getElem?_eq_none_iff.mp hv
   exact (AW (by rw [<- i1];exact this)).symm
 have hv:Vals (ws.map λq=>V.ref q.2.1) acc.toList:=by rw [hacc];exact rv
 have hvl:acc.toList.length=kvs.length:=by rw [hacc,yP,hlw]
 have hlk:kz.length=acc.toList.length:=by rw [hlk,yP,hvl,hlw]
 have I3:Inv X (pins++[(fl,fw X params body scope pm c' ctv)]) U H2 {s2 with heap:=h',toks:=tk}:=I2.kept kp
 refine yO (wpAny_newList ?_ (by rw [hvl];lia))
 have J:=I3.ownNew (h':=h'.push (seqObj "list" acc.toList.toArray 0)) (t':=tk) (n:=h'.objs.size) (o:=seqObj "list" acc.toList.toArray 0) (λb ob e=>yQ _ e) (yV _) (y6 _ rfl) eP
 have hnl:fl≠h'.objs.size:=zi (y2 (I3.fpPin (p:=(fl,fw X params body scope pm c' ctv)) (.head _)).1)
 refine yO (zP (wpAny_call_entry_kw slot_list_sort ⟨_,y6 _ rfl,rfl⟩ entry_list_sort ?body (ksk_l1 _ _)))
 case body=>
  show wpAny (model X.prog X.w) X.A.in1.in1 (Builtin.«list.sort» ⟨[.ref h'.objs.size],[(Str.ofString "key",.ref fl)]⟩) _ _ _
  rw [ksk_t1]
  refine tR (T:=T) (kz:=kz) (vs:=acc.toList) (s:={s2 with heap:=h'.push (seqObj "list" acc.toList.toArray 0),toks:=tk}) J.1 hT (λq hq=>by rw [y0.mp hq];exact ffl) J.2.2 (λq hq=>by rw [y0.mp hq];exact hnl) hlk (by rw [hvl];exact h64)
   (uy (A:=X.A.in1.in1) (.head _) ok hcs hfn rfl rfl hr.in1.in1 (hF hoc) hv hsp) λs' H' out c hT' I' k'=>⟨_,rfl,?_⟩
  refine yR ⟨_,rfl,?_⟩
  obtain ⟨qs,q1,q2,q3⟩:=sd hlk hv k'
  have hp:=(I'.fpPin (p:=(h'.objs.size,seqObj "list" out c)) (yS _ (.head _)))
  have fp:fC X pins H' h'.objs.size:=⟨hp.2,J.2.2⟩
  have I4:Inv X pins U H' s':=I'.unpinned
  have hqn:(qs.map (·.2)).length<=sizeLine:=by
   rw [yP,q1.length_eq,List.length_zip,yP]
   lia
  have I5:Inv X pins U (upd H' h'.objs.size (.lst (qs.map (·.2)))) s':=by
   have:=I4.step (H':=upd H' h'.objs.size (.lst (qs.map (·.2)))) (h':=s'.heap) (g':=s'.gens) (d':=s'.drawn) (t':=s'.toks) (ch:=[h'.objs.size]) (λb hb=>?_) (λb o _ _ hb e _=>e) (λb o _ _ hb e _=>⟨o.slots,e⟩) (λb o hb e n=>by rw [ak (by simpa using hb)];exact n)
    (λb o hb e=>⟨o,e⟩) (λb zs e=>by rw [ak (aj e hp.2)];exact e) (λb o uo e=>by rw [ak (aj e hp.2)];exact e) (λb ps e=>⟨#[],by rw [ak (aj e hp.2),e];simp⟩) (λm hm=>hm) (λb uo e=>?_) I4.bare
   ·exact this
   ·rw [y0.mp hb]
    exact ⟨fp.2.2.2.1,fp.2.1,fp.2.2.2.2.1,fp.2.2.2.2.2⟩
   ·by_cases hb:b=h'.objs.size
    ·subst hb
     rw [ad]at e
     cases e
     refine ⟨hqn,out.toList,c,q3,?_⟩
     rw [CV]
     exact hp.1
    ·rw [ak hb]at e
     exact (I4.hok b uo e).stay (λc' v' _ q=>q) (λc' q=>by rw [ak (aj q hp.2)];exact q) λc' zs q=>by rw [ak (aj q hp.2)];exact q
  exact ⟨.ref h'.objs.size,_,I5,rfl,fin H' h'.objs.size qs hT' hp.2 q1 q2⟩
end
section
variable {X:Cx}
def vF (tk tv:TE):TE:=λU H Q=> ∀ p,H p=none->tk U (upd H p (.dP [])) λx H1=>tv U H1 λy H2=> ∃ b ks,x=.ref b/\(∃ c,H2 b=some (.tup [.ref c,kV ks.2])/\H2 c=some (.tup (ks.1.map kV)))/\H2 p=some (.dP [])/\Q (.ref p) (upd H2 p (.dP [(ks,y)]))
theorem re {pos:Pos} {k v:Expr} {tk tv:TE} (hu:X.A.units+16<cLine) (hk:PE X k tk) (hv:PE X v tv):PE X (.Dict [some k] [v] pos) (vF tk tv):=by
 intro pins s U H Q I q
 have hn:=I.hok.fresh (yV s.heap.objs.size)
 have I1:=I.laid (a:=s.heap.objs.size) (o:=.dP []) (h':=s.heap.push {cls:=.type "dict",data:=.dict #[]}) (t':=s.toks) (λ_ _ q=>yQ _ q) (yV _) (lH s.heap I.big)
 rw [arm_eval_Dict,zip_pairTrees [some k] [v] X.env pos rfl rfl,dictDisplay_pairs (pairTrees [some k] [v] X.env pos) (by intro z;cases z) (show 1<17 by decide)]
 refine yO (Cd (yO ?_))
 unfold subDict
 refine yO (wpAny_alloc (yO (zP ?_)))
 rw [yW (show (pairTrees [some k] [v] X.env pos).length<=15 by show 1<=15;decide)]
 refine yO (pairTrees_cons_walk (thn (hk pins _ U _ _ I1 (q _ hn)) λu s1 ⟨x,H1,I2,rx,q1⟩=>thn (hv pins s1 U H1 _ I2 q1) λw2 s2 ⟨y,H2,I3,ry,b,ks,ex,hb,hp,q2⟩=>pairTrees_nil_walk ?_))
 subst ex
 cases rx
 refine zP ?_
 rw [Aj]
 obtain ⟨z,hd,xs,rel,dd⟩:=vm I3.hok hp
 cases rel
 refine yO (yO (yO (wpAny_dictSet_heap (hsz:=y9 _) (knd:=cT (aK X.prog X.w) (aK X.prog X.w)) (show _+8<cLine by show X.A.units+8<cLine;lia) (eR I3.hok hb) dd λh' dd' hs=>yR ?_)))
 refine (show wpAny _ _ (forIn [] PUnit.unit _) _ _ _ from ?_)
 rw [Bg]
 refine yR (yR (yR (yR ⟨.ref s.heap.objs.size,_,?_,rfl,q2⟩)))
 obtain ⟨ob,es,ep,hq,h2,h3,h4,_,h5⟩:=dd'
 refine gf I3 (by rw [hp];exact True.intro) hs ⟨ob,hq⟩ ⟨(by show 1<=sizeLine;decide),hd,_,(KP.put (kvs:=[]) .nil ks hb ry).keeps λc ys ec=>?_,ob,es,ep,hq,h2,h3,h4,h5⟩
 rw [ak (on ec hp (λz=>nomatch z))]
 exact ec
end
end L2
namespace My
open PySem L2
abbrev Kq:=List Str×Nat
noncomputable def bI (q:Kq):List Key×Key:=(rk q.1,Sum.inl ((q.2:Nat):Int))
theorem iJ {a b:Kq} (h:bI a=bI b):a=b:=by
 obtain ⟨r,t⟩:=a
 obtain ⟨r',t'⟩:=b
 have h1:=iA (CT h).1
 have h2:((t:Nat):Int)=((t':Nat):Int):=DG (CT h).2
 have h3:t=t':=by lia
 rw [show r=r' from h1,h3]
structure Gd (bk:Bk) (m n:Nat) (q:Kq):Prop where
 ri:RowIn bk q.1
 sz:q.2<=n
 ps:0<Rn bk q.1 q.2
 le:Rn bk q.1 q.2<=m
theorem Gd.nil {bk:Bk} {m n:Nat} {q:Kq} (h:Gd bk m n q) (e:q.1=[]):q.2=0:=by
 have:=h.ps
 rw [e,nD]at this
 by_cases c:q.2=0
 ·exact c
 ·rw [yU c]at this;cases this
theorem hO {α:Type} {f:α->Nat}: ∀ {l:List α} {a:α},a∈l->f a<=aW (l.map f)
 | b::l,a,h=>by
  show f a<=f b+aW (l.map f)
  rcases za.mp h with rfl | h
  ·lia
  ·have:=hO (f:=f) h
   lia
theorem vA {bk:Bk} (hk:BkW bk) {m n:Nat} {q b:Kq} (h:Gd bk m n q) (hb:b∈Bn bk q.1 q.2):Gd bk m n b/\b.2<q.2:=by
 obtain ⟨row,t⟩:=q
 have hs:t<=n:=h.sz
 match row,h,hb with
 | [],_,hb=>cases hb
 | [s],h,hb=>
  obtain ⟨fr,h1,rfl⟩:=zd.mp hb
  obtain ⟨h2,h3⟩:=zN.mp h1
  by_cases c:t=0
  ·rw [yW c]at h2;cases h2
  ·rw [yU c]at h2
   have h4:=zN.mp h2
   refine ⟨⟨RowIn.form h4.1,by show t-1<=n;lia,zf h3,?_⟩,by show t-1<t;lia⟩
   have:=h.le
   rw [fB hk.two,yU c]at this
   exact zc (hO (f:=λfr=>Rn bk (aP fr) (t-1)) h2) this
 | s::s'::r,h,hb=>
  obtain ⟨j,h1,h2⟩:=zU.mp hb
  have hj:=zI.mp h1
  obtain ⟨r1,r2⟩:=h.ri.split hk
  by_cases c:0<Rn bk [s] (j+1) *Rn bk (s'::r) (t- (j+1))
  ·rw [yW c]at h2
   have p1:0<Rn bk [s] (j+1):=Nat.pos_of_mul_pos_right c
   have p2:0<Rn bk (s'::r) (t- (j+1)):=Nat.pos_of_mul_pos_left c
   have hle:=h.le
   rw [gk hk.two]at hle
   have hle:=zc (hO (f:=λj=>Rn bk [s] (j+1) *Rn bk (s'::r) (t- (j+1))) h1) hle
   rcases za.mp h2 with rfl | h2
   ·exact ⟨⟨r1,by show j+1<=n;lia,p1,zc (Nat.le_mul_of_pos_right _ p2) hle⟩,by show j+1<t;lia⟩
   ·rw [y0.mp h2]
    exact ⟨⟨r2,by show t- (j+1)<=n;lia,p2,zc (Nat.le_mul_of_pos_left _ p1) hle⟩,by show t- (j+1) <t;lia⟩
  ·rw [yU c]at h2;cases h2
theorem q8 {α:Type} [DecidableEq α]: ∀ {l r:List α},l.Nodup->(∀ a∈l,a∈r)->l.length<=r.length
 | [],_,_,_=>y9 _
 | a::l,r,nd,h=>by
  rw [Ad]at nd
  have ha:=h a yT
  have:=q8 (r:=r.erase a) nd.2 λb hb=>(List.mem_erase_of_ne (λz=>nd.1 (by rw [<- z];exact hb))).mpr (h b (yY _ hb))
  rw [List.length_erase_of_mem ha]at this
  have:0<r.length:=List.length_pos_of_mem ha
  rw [zn]
  lia
structure Nd (bk:Bk) (m n:Nat) (top:Kq) (F:List Kq):Prop where
 nd:F.Nodup
 tp:top∈F
 gd: ∀ q∈F,Gd bk m n q
 cl: ∀ q∈F,∀ b∈Bn bk q.1 q.2,b∈F
structure NI (bk:Bk) (m n:Nat) (top:Kq) (F W:List Kq):Prop where
 nd:F.Nodup
 tp:top∈F
 gd: ∀ q∈F,Gd bk m n q
 wf: ∀ q∈W,q∈F
 cl: ∀ q∈F,q∈W\/ ∀ b∈Bn bk q.1 q.2,b∈F
 wl:W.length<=F.length
theorem NI.len {bk:Bk} {m n:Nat} {top:Kq} {F W:List Kq} (h:NI bk m n top F W) {kvs:List ((List Key×Key)×V)} (hc:i5 bk kvs (n+1)):F.length<=kvs.length:=by
 have:=q8 (l:=F.map bI) (r:=kvs.map (·.1)) (AS.mpr (h.nd.imp λ{a b} hab e=>hab (iJ e))) λk hk=>by
  obtain ⟨q,hq,rfl⟩:=zd.mp hk
  have g:=h.gd q hq
  exact nL (hc q.1 q.2 g.ri (by have:=g.sz;lia))
 rwa [yP,yP]at this
structure NJ (bk:Bk) (m n:Nat) (top:Kq) (F0 W0:List Kq) (q:Kq) (j:Nat) (F W:List Kq):Prop where
 nd:F.Nodup
 tp:top∈F
 gd: ∀ x∈F,Gd bk m n x
 wf: ∀ x∈W,x∈F
 cl: ∀ x∈F,x∈W\/x=q\/ ∀ b∈Bn bk x.1 x.2,b∈F
 bn: ∀ b∈(Bn bk q.1 q.2).take j,b∈F
 ln:W.length+F0.length=W0.length+F.length
 le:F0.length<=F.length
 qm:q∈F
 w0:W0.length+1<=F0.length
section
variable {bk:Bk} {m n j:Nat} {top q b:Kq} {F0 W0 F W:List Kq}
theorem NI.start (h:NI bk m n top F (W++[q])):NJ bk m n top F W q 0 F W:=
 ⟨h.nd,h.tp,h.gd,λx hx=>h.wf x (zx _ hx),λx hx=>by
  rcases h.cl x hx with h1 | h1
  ·rcases y8.mp h1 with h1 | h1
   ·exact .inl h1
   ·exact .inr (.inl (y0.mp h1))
  ·exact .inr (.inr h1),λb hb=>(by rw [BQ]at hb;cases hb),Nat.add_comm .. ▸rfl,yV _,h.wf q (yS _ yT),by have:=h.wl;rwa [yZ]at this⟩
theorem NJ.old (h:NJ bk m n top F0 W0 q j F W) (hb:(Bn bk q.1 q.2)[j]? =some b) (hf:b∈F):NJ bk m n top F0 W0 q (j+1) F W:=
 ⟨h.nd,h.tp,h.gd,h.wf,h.cl,λx hx=>by
  rw [zz,hb]at hx
  rcases y8.mp hx with hx | hx
  ·exact h.bn x hx
  ·rw [y0.mp hx];exact hf,h.ln,h.le,h.qm,h.w0⟩
theorem NJ.new (hk:BkW bk) (h:NJ bk m n top F0 W0 q j F W) (hb:(Bn bk q.1 q.2)[j]? =some b) (hf:b∉F):NJ bk m n top F0 W0 q (j+1) (F++[b]) (W++[b]):=by
 have l: ∀ {x},x∈F->x∈F++[b]:=λhx=>zx _ hx
 have r:b∈F++[b]:=yS _ yT
 refine ⟨CG.mpr ⟨h.nd,Ad.mpr ⟨Ae,Bh⟩,λx hx y hy e=>hf (by rw [<- y0.mp hy,<- e];exact hx)⟩,l h.tp,λx hx=>?_,λx hx=>?_,λx hx=>?_,λx hx=>?_,?_,?_,l h.qm,h.w0⟩
 ·rcases y8.mp hx with hx | hx
  ·exact h.gd x hx
  ·rw [y0.mp hx];exact (vA hk (h.gd q h.qm) (y3 hb)).1
 ·rcases y8.mp hx with hx | hx
  ·exact l (h.wf x hx)
  ·rw [y0.mp hx];exact r
 ·rcases y8.mp hx with hx | hx
  ·rcases h.cl x hx with h1 | h1 | h1
   ·exact .inl (zx _ h1)
   ·exact .inr (.inl h1)
   ·exact .inr (.inr λc hc=>l (h1 c hc))
  ·rw [y0.mp hx];exact .inl (yS _ yT)
 ·rw [zz,hb]at hx
  rcases y8.mp hx with hx | hx
  ·exact l (h.bn x hx)
  ·rw [y0.mp hx];exact r
 ·have:=h.ln
  rw [yZ,yZ]
  show W.length+1+F0.length=W0.length+ (F.length+1)
  lia
 ·have:=h.le
  rw [yZ]
  lia
theorem NJ.fin (h:NJ bk m n top F0 W0 q (Bn bk q.1 q.2).length F W):NI bk m n top F W:=
 ⟨h.nd,h.tp,h.gd,h.wf,λx hx=>by
  rcases h.cl x hx with h1 | rfl | h1
  ·exact .inl h1
  ·exact .inr λb hb=>h.bn b (by rw [zG];exact hb)
  ·exact .inr h1,by have:=h.ln;have:=h.w0;lia⟩
theorem NI.done (h:NI bk m n top F []):Nd bk m n top F:=⟨h.nd,h.tp,h.gd,λx hx=>(h.cl x hx).resolve_left Ae⟩
theorem pR {κ:Type} [DecidableEq κ] (kvs:List (κ×V)) (k:κ) (v:V):(bH kvs k v).map (·.1)=if k∈kvs.map (·.1)then kvs.map (·.1)else kvs.map (·.1)++[k]:=by
 unfold bH
 have e:(kvs.any λkv=>decide (kv.1=k))=true↔k∈kvs.map (·.1):=by
  rw [Be,zd]
  constructor
  ·rintro ⟨kv,h1,h2⟩;exact ⟨kv,h1,zf h2⟩
  ·rintro ⟨kv,h1,h2⟩;exact ⟨kv,h1,zq h2⟩
 by_cases c:k∈kvs.map (·.1)
 ·rw [yW (e.mpr c),yW c,zO]
  refine AT λkv _=>?_
  show (if kv.1=k then (kv.1,v)else kv).1=kv.1
  split <;> rfl
 ·rw [yU (λz=>c (e.mp z)),yU c,zE];rfl
theorem rV (h:bI q∈F.map bI):q∈F:=by
 obtain ⟨x,hx,e⟩:=zd.mp h
 rw [<- iJ e]
 exact hx
theorem Nd.perm {L:List Kq} (h:Nd bk m n top F) (p:L.Perm F):Nd bk m n top L:=
 ⟨p.nodup_iff.mpr h.nd,p.mem_iff.mpr h.tp,λx hx=>h.gd x (p.mem_iff.mp hx),λx hx b hb=>p.mem_iff.mpr (h.cl x (p.mem_iff.mp hx) b hb)⟩
theorem vf {H:Hp}: ∀ {F:List Kq} {zs:List V},wO H zs (F.map bI)->Paired (KP H) F zs
 | [],_,h=>by cases h;exact .nil
 | q::F,_,h=>by
  cases h with
  | cons h t=>
   obtain ⟨b,c,rfl,h1,h2⟩:=h
   exact .cons ⟨b,c,rfl,h1,by rw [<- dI];exact h2⟩ (vf t)
theorem iC {α β:Type} {R:α->β->Prop}: ∀ {l:List α} {r:List β},Paired R l r-> ∀ x∈l.zip r,R x.1 x.2
 | _,_,.cons h t,x,hx=>by
  rcases za.mp hx with rfl | hx
  ·exact h
  ·exact iC t x hx
theorem gN {α β γ:Type} {R:α->β->Prop} (f:γ->α) (g:γ->β): ∀ {l:List γ},(∀ x∈l,R (f x) (g x))->Paired R (l.map f) (l.map g)
 | [],_=>.nil
 | a::l,h=>.cons (h a yT) (gN f g λx hx=>h x (yY _ hx))
end
noncomputable def laA:Expr->Arguments
 | .Lambda a _ _ _=>a
 | _=>{posonlyargs:=[],args:=[],vararg:=none,kwonlyargs:=[],kw_defaults:=[],kwarg:=none,defaults:=[]}
noncomputable def laB:Expr->Expr
 | .Lambda _ b _ _=>b
 | _=>.Constant .none 0 ⟨0,0,0,0⟩
noncomputable def laS:Expr->Scope
 | .Lambda _ _ s _=>s
 | _=>{kind:=.function,names:=[],isGenerator:=false,isCoroutine:=false}
noncomputable def laP:Expr->Pos
 | .Lambda _ _ _ p=>p
 | _=>⟨0,0,0,0⟩
noncomputable def kwE:Expr->Expr
 | .Call _ _ [⟨_,l,_⟩] _=>l
 | _=>.Constant .none 0 ⟨0,0,0,0⟩
noncomputable def kn:Expr:=match (bW fN).getD 3 (.Pass ⟨0,0,0,0⟩)with
 | .Return (some e) _=>kwE e
 | _=>.Constant .none 0 ⟨0,0,0,0⟩
theorem yt:lW ["key"] [] (laS kn):=⟨rfl,rfl,rfl,by decide +kernel,by decide +kernel,by decide +kernel,by decide +kernel,by decide +kernel⟩
abbrev NNe:List Str:=["book","counts","top","found","waiting","above","key"]
theorem scNeeded:aI NNe ["book","counts","top"] (am fN):=fsc
theorem xG:iZ (am fN) NNe (laS kn) [] []:=⟨by decide +kernel,rfl,by decide +kernel⟩
noncomputable abbrev knQ:Str:="keys_needed"++".<locals>."++"<lambda>"
def TabN (tbA:Addr) (H:Hp):Prop:=H tbA=some (.tbl #[])\/ ∃ c1 o1,H tbA=some (.tbl #[rawInt (laP kn).line,rawInt (laP kn).col,.ref c1])/\c1≠tbA/\H c1=some (eC c1 o1)/\cZ o1 knQ
theorem TabN.same {tbA:Addr} {H H':Hp} (s:Same H H') (h:TabN tbA H):TabN tbA H':=by
 rcases h with h | ⟨c1,o1,h1,h2,h3,h4⟩
 ·exact .inl (s _ _ h)
 ·exact .inr ⟨c1,o1,s _ _ h1,h2,s _ _ h3,h4⟩
theorem TabN.tbl {tbA:Addr} {H:Hp} (h:TabN tbA H): ∃ t,H tbA=some (.tbl t):=by
 rcases h with h | ⟨_,_,h,_⟩
 ·exact ⟨_,h⟩
 ·exact ⟨_,h⟩
theorem tH {tbA c':Addr} {H:Hp} {o1 o2:HO} (nc:H c'=none):Kp tbA H (upd (upd H tbA o1) c' o2):=λb o h hb=>by rw [ak (aj h nc),ak hb];exact h
theorem yf {tbA:Addr} {H:Hp} {R:Addr->Obj->Hp->Prop} (h:TabN tbA H) (hR: ∀ c' oc H',Kp tbA H H'->TabN tbA H'->H' c'=some (eC c' oc)->R c' oc H'):nE knQ tbA (laP kn) R H:=by
 rcases h with h | ⟨c1,o1,h1,h2,h3,h4⟩
 ·refine ⟨#[],h,trivial,.inl ⟨rfl,λc' oc nc ncP hoc=>hR c' oc _ (tH nc) (.inr ⟨c',oc,?_,ncP,ad,hoc⟩) ad⟩⟩
  rw [ak (zT ncP),ad];rfl
 ·exact ⟨_,h1,trivial,.inr ⟨c1,o1,rfl,h3,h4,hR c1 o1 H (λb o h _=>h) (.inr ⟨c1,o1,h1,h2,h3,h4⟩) h3⟩⟩
def xh (c':Addr) (oc:Obj):Sp:=λvs H Q _=> ∃ v q,vs=[v]/\KP H q v/\H c'=some (eC c' oc)/\Q (.int ((q.2:Nat):Int)) H
theorem uw {X:Cx} {c':Addr} {oc:Obj} (hoc:cZ oc (X.env.qual++"<lambda>")):tw X (laA kn) (laB kn) (laS kn) [] [] c' 1 "key" (xh c' oc):=by
 intro base fl pm ctv hfl hL
 obtain ⟨_,hcell,hinj,hcap,hcs⟩:=hL
 obtain ⟨vc,tq,hd,hq⟩:=hoc
 refine ⟨wp (ps:=["key"]) (ys:=[]) (cs:=[]) hfl hd hq yt hcell hinj hcap hcs (λvs H Q E h=>h) (λvs H Q h=>?_) (λvs H Q h=>?_) (λA outer s H vs Q hr h=>?_),Binds.all λus hl=>?_⟩
 ·obtain ⟨v,q,rfl,_⟩:=h
  rfl
 ·obtain ⟨v,q,rfl,_,h,_⟩:=h
  exact h
 ·obtain ⟨v,q,rfl,⟨b,c,rfl,h1,h2⟩,_,q⟩:=h
  exact ⟨_,au (r:=aS X.K) aA (pv 0) af (λ_ _=>rfl),_,rfl,b,_,1,_,rfl,rfl,SqT.of h1,aE (j:=1) rfl,q⟩
 ·match us,hl with
  | [_],_=>rfl
theorem eY {α β:Type} {F:α->β->Prop}: ∀ {l:List α} {r:List β} {b:β},Paired F l (r++[b])-> ∃ m a,l=m++[a]/\Paired F m r/\F a b
 | _,[],b,.cons h .nil=>⟨[],_,rfl,.nil,h⟩
 | _,c::r,b,.cons h t=>by
  obtain ⟨m,a,rfl,h1,h2⟩:=eY t
  exact ⟨_::m,a,rfl,.cons h h1,h2⟩
inductive im (tbA:Addr) (vs:List V) (H:Hp) (Q:VK) (E_:XK):Prop
 | mk: ∀ bv bk d kvs tv top m n,(vs=[bv,.ref d,tv])->(RepB H bk bv)->(BkW bk)->(H d=some (.dP kvs))->(kvs.length<=1000)->(i5 bk kvs (n+1))->(n<=24)->(KP H top tv)->(Gd bk m n top)->(TabN tbA H)->(∀ p ys L H',H p=none->Kp tbA H H'->TabN tbA H'->H' p=some (.lst ys)->Paired (KP H') L ys->Nd bk m n top L->L.Pairwise (λa b=>a.2<=b.2)->L.length<=1000->Q (.ref p) H')->im tbA vs H Q E_
theorem pD (F:Fun K "keys_needed" "keys_needed" fN f fd) (G:Gb mg) (hsorted:mg "sorted"=none) (hfc:fd.code=.ref c) (hC:PySem.W.CodeHd base c tbA) (hB0:base.BuiltinsAt mg tbA)
  (GB:Cl P w K mg base CX0 3 f2 fd2 ["book","counts","key"] gv "keys_beneath"):
  FnOk P w K mg base CX0 4 f fd ["book","counts","top"] (im tbA):=by
 refine F.okC scNeeded (λvs H Q E h=>?_) (λA outer s H vs Q E hr h=>?_)
 ·obtain ⟨bv,bk,d,kvs,tv,top,m,n,rfl,_⟩:=h
  rfl
 obtain ⟨bv,bk,d,kvs,tv,top,m,n,rfl,hB,hok,gd,hk1,hcnt,hn24,hTp,hGd,hTb,q⟩:=h
 have hu:=dL hr
 refine ⟨_,ah (ao (i:=3) scNeeded.nd rfl (Or.inl rfl) (re hu (pv 2) fR))
  (ah (ao (i:=4) scNeeded.nd rfl (Or.inl rfl) (aX (aa (pv 2) ae)))
  (ah (kY zw (qY (pv 4) (λ_=>rfl))
   (ah (ao (i:=5) scNeeded.nd rfl (Or.inl rfl) (rn zF PySem.F.slot_list_pop PySem.F.type_list_pop wj (pv 4)))
   (al (aU zw rfl (be (pcl GB hr (aa (pv 0) (aa (pv 1) (aa (pv 5) ae))))) (aw (i:=6) scNeeded.nd rfl (Or.inl rfl))
    (al (a8 (dB (pz hu (pv 6) (pv 3)))
     (ah (cy hu (pv 3) (pv 6) fR rfl)
     (al (bT (dJ zF Ag Ah bu (pv 4) (aa (pv 6) ae))))) aM))))))
  (al (aH (mE (k:=1) (p1:="key") (Pt:=tbA) (ys:=[]) (fr:=[]) rfl hsorted rfl (pv 3) hC hfc hB0 xG (λ_=>rfl) rfl (hr.mono (by decide))))))),?_⟩
 obtain ⟨tb,tc,rfl,htb,htc⟩:=hTp
 refine λfa hfa=>⟨_,rfl,tb,bI top,rfl,⟨tc,ai hfa _ _ _ htb,by rw [show (bI top).1.map kV=top.1.map V.str from dI _];exact ai hfa _ _ _ htc⟩,ad,?_⟩
 have S1:Same H (upd (upd H fa (.dP [])) fa (.dP [(bI top,.bl true)])):=λb o h=>by rw [ak (aj h hfa),ak (aj h hfa)];exact h
 have g1:(upd (upd H fa (.dP [])) fa (.dP [(bI top,.bl true)])) fa=some (.dP [(bI top,.bl true)]):=ad
 generalize upd (upd H fa (.dP [])) fa (.dP [(bI top,.bl true)])=H1 at S1 g1 ⊢
 refine ⟨_,rfl,(by show 1<=sizeLine;decide),λwl hwl=>?_⟩
 have s2:=ai hwl (.lst [.ref tb])
 have g2:(upd H1 wl (.lst [.ref tb])) wl=some (.lst [.ref tb]):=ad
 have gf2:=s2 _ _ g1
 have S2:=S1.trans s2
 have hwl0:H wl=none:=S1.free hwl
 have nfw:fa≠wl:=λz=>by rw [<- z,g1]at hwl;cases hwl
 generalize upd H1 wl (.lst [.ref tb])=H2 at s2 g2 gf2 S2 ⊢
 have ht2:KP H2 top (.ref tb):=⟨tb,tc,rfl,S2 _ _ htb,S2 _ _ htc⟩
 refine ⟨λmm U H'=> ∃ (F W:List Kq) (ws:List V) (o5 o6:Option V) (kvF:List ((List Key×Key)×V)),U=[some bv,some (.ref d),some (.ref tb),some (.ref fa),some (.ref wl),o5,o6]/\Same H H'/\H' fa=some (.dP kvF)/\kvF.map (·.1)=F.map bI/\H' wl=some (.lst ws)/\Paired (KP H') W ws/\NI bk m n top F W/\
   mm=2* (kvs.length-F.length) +W.length,
  ⟨_,[top],[top],[.ref tb],none,none,_,rfl,S2,gf2,rfl,g2,.cons ht2 .nil,⟨Ad.mpr ⟨Ae,Bh⟩,yT,λx hx=>by rw [y0.mp hx];exact hGd,λx hx=>hx,λx hx=>.inl hx,yV _⟩,rfl⟩,?_⟩
 rintro mm U H3 ⟨F,W,ws,o5,o6,kvF,rfl,S3,gf3,hkF,gw3,hP3,hNI,rfl⟩
 refine ⟨_,rfl,_,.inl ⟨ws,SqL.of gw3,rfl⟩,?_⟩
 have lF:=hNI.len hcnt
 have lkF:kvF.length=F.length:=by rw [<- yP (f:=λx=>x.1) (as:=kvF),hkF,yP]
 rcases List.eq_nil_or_concat ws with rfl | ⟨ws',v,e⟩
 ·refine cE ?_
  cases hP3
  have hNd:=hNI.done
  have hT3:=hTb.same S3
  have nT: ∀ {b:Addr} {o:HO} {Hx:Hp},TabN tbA Hx->Hx b=some o->(∀ t,o≠ .tbl t)->b≠tbA:=λh0 h1 h2 z=>by
   obtain ⟨t,ht⟩:=h0.tbl
   rw [z,ht]at h1
   exact h2 t (zj h1).symm
  have nfT:=nT hT3 gf3 λt z=>by cases z
  refine ⟨_,rfl,fa,kvF,rfl,gf3,by lia,yf hT3 λc' oc H4 k4 t4 hc4=>⟨k4 _ _ gf3 nfT,λzs hps=>?_⟩⟩
  rw [hkF]at hps
  have hKz:=vf hps
  have lz:=ze hKz
  refine ⟨F.map λq=>((q.2:Nat):Int),Same H4,xh c' oc,[],by rw [yP];exact lz,Same.refl H4,rfl,λi y k hy hk H5 s5=>?_,λhoc=>uw hoc,λH5 p qs s5 hp hperm hpw=>?_⟩
  ·obtain ⟨x,hx,hK⟩:=aD hKz hy
   rw [zo,hx]at hk
   cases hk
   exact ⟨y,x,rfl,hK.mono (aL s5),s5 _ _ hc4,rfl,s5⟩
  ·have ez:(F.map λq=>((q.2:Nat):Int)).zip zs=(F.zip zs).map λr=>(((r.1.2:Nat):Int),r.2):=by
    refine Dy (by simp) λi h1 h2=>?_
    simp
   obtain ⟨L,hL1,hL2⟩:=jr _ hperm (F.zip zs) ez
   have eqs:qs.map (·.2)=L.map (·.2):=by rw [<- hL2,zO];rfl
   have hLF:(L.map (·.1)).Perm F:=by
    have:=hL1.map (·.1)
    rwa [List.map_fst_zip (by lia)]at this
   have hpL:(L.map (·.1)).Pairwise λa b=>a.2<=b.2:=by
    rw [<- hL2,AS]at hpw
    rw [AS]
    exact hpw.imp λ{a b} h=>by have h:((a.1.2:Nat):Int)<=((b.1.2:Nat):Int):=h;lia
   have s6:=ai hp (.lst (qs.map (·.2)))
   have s46:=Same.trans s5 s6
   have K6:Kp tbA H (upd H5 p (.lst (qs.map (·.2)))):=λb o h hb=>s46 _ _ (k4 _ _ (S3 _ _ h) hb)
   have hp0:H p=none:=by
    cases hh:H p with
    | none=>rfl
    | some o=>
     by_cases c:p=tbA
     ·obtain ⟨t,ht⟩:=t4.tbl
      rw [c,s5 _ _ ht]at hp
      cases hp
     ·rw [s5 _ _ (k4 _ _ (S3 _ _ hh) c)]at hp;cases hp
   refine q p _ (L.map (·.1)) _ hp0 K6 (t4.same s46) ad ?_ (hNd.perm hLF) hpL (by rw [hLF.length_eq];lia)
   rw [eqs]
   exact gN _ _ λx hx=>(iC hKz x (hL1.mem_iff.mp hx)).mono (aL (by rw [<- eqs];exact s46))
 ·rw [List.concat_eq_append]at e
  subst e
  obtain ⟨W',x,rfl,hP3',hx⟩:=eY hP3
  refine bO (λ_=>?_) (λc=>absurd (show (!(ws'++[v]).isEmpty)=true by simp) c)
  refine ⟨_,λU' H'' h=>h,?_⟩
  refine ⟨_,rfl,.inl ⟨rfl,_,SqL.of gw3⟩,wl,_,v,rfl,rfl,gw3,by simp,?_⟩
  rw [List.dropLast_concat]
  have tk4:TK H3 (upd H3 wl (.lst ws')):=TK.lst gw3
  have S4:Same H (upd H3 wl (.lst ws')):=λb o h=>by rw [ak (aj h hwl0)];exact S3 _ _ h
  have gw4:(upd H3 wl (.lst ws')) wl=some (.lst ws'):=ad
  have gf4:(upd H3 wl (.lst ws')) fa=some (.dP kvF):=by rw [ak nfw];exact gf3
  generalize upd H3 wl (.lst ws')=H4 at tk4 S4 gw4 gf4 ⊢
  have hgx:=hNI.gd x (hNI.wf x (yS _ yT))
  have hsx:=hgx.sz
  refine ⟨_,rfl,_,rfl,_,rfl,bv,bk,d,kvs,v,x.1,x.2,rfl,hB.mono (aL S4),hok,S4 _ _ gd,hx.mono tk4,hgx.ri,by lia,hgx.nil,λrow k hr' hk'=>hcnt row k hr' (by lia),λp zs H5 hp s5 gp hz=>?_⟩
  refine ⟨p,rfl,⟨_,SqL.of gp⟩,?_⟩
  have lz:=ze hz
  have npf:p≠fa:=λz=>by rw [z,gf4]at hp;cases hp
  have npw:p≠wl:=λz=>by rw [z,gw4]at hp;cases hp
  have S5:=S4.trans s5
  have tk5:=tk4.trans (aL s5)
  refine bL (xs:=zs) (λj U H'=>j<=zs.length/\ ∃ (F1 W1:List Kq) (ws1:List V) (o6:Option V) (kv1:List ((List Key×Key)×V)),U=[some bv,some (.ref d),some (.ref tb),some (.ref fa),some (.ref wl),some v,o6]/\Same H H'/\TK H5 H'/\H' p=some (.lst zs)/\H' fa=some (.dP kv1)/\kv1.map (·.1)=F1.map bI/\H' wl=some (.lst ws1)/\Paired (KP H') W1 ws1/\NJ bk m n top F W' x j F1 W1)
   ⟨y9 _,F,W',ws',o6,kvF,rfl,S5,λ_ _ h=>h,gp,s5 _ _ gf4,hkF,s5 _ _ gw4,Paired.mapP hP3' λ_ _ h=>h.mono tk5,hNI.start⟩ (λj U H' _ h=>by obtain ⟨_,_,_,_,_,_,_,_,_,g,_⟩:=h;exact SqL.of g) ?_ ?_
  ·rintro j y U H6 hy ⟨_,F1,W1,ws1,o6',kv1,rfl,S6,tk6,gp6,gf6,hk6,gw6,hP6,hNJ⟩
   have hjl:j<zs.length:=(yX.mp hy).1
   obtain ⟨bq,hbq,hKP⟩:=aD hz hy
   obtain ⟨yb,yc,rfl,hyb,hyc⟩:=hKP.mono tk6
   have hyc':H6 yc=some (.tup ((bI bq).1.map kV)):=by rw [show (bI bq).1.map kV=bq.1.map V.str from dI _];exact hyc
   have lF1:F1.length<=1000:=zc (NI.len (W:=F1) ⟨hNJ.nd,hNJ.tp,hNJ.gd,λ_ h=>h,λ_ h=>.inl h,yV _⟩ hcnt) hk1
   have lk1:kv1.length=F1.length:=by rw [<- yP (f:=λx=>x.1) (as:=kv1),hk6,yP]
   refine ⟨_,rfl,_,rfl,fa,_,rfl,DGet.p gf6 (k:=Sum.inl ((bq.2:Nat):Int)) hyb hyc',_,rfl,?_⟩
   cases hv:bG kv1 ((bI bq).1,Sum.inl ((bq.2:Nat):Int))with
   | some vv=>
    have hin:bq∈F1:=rV (by rw [<- hk6];exact nL hv)
    exact cE ⟨hjl,F1,W1,ws1,_,kv1,rfl,S6,tk6,gp6,gf6,hk6,gw6,hP6,hNJ.old hbq hin⟩
   | none=>
    have hnin:bI bq∉F1.map bI:=by rw [<- hk6];exact qp hv
    refine bB ⟨_,rfl,_,rfl,fa,_,rfl,DPut.p gf6 (k:=Sum.inl ((bq.2:Nat):Int)) hyb hyc' (ay (by lia)),?_⟩
    have nfa: ∀ {b:Addr} {xs:List V},H6 b=some (.lst xs)->b≠fa:=λh z=>by rw [z,gf6]at h;cases h
    have gw7:(upd H6 fa (.dP (bH kv1 ((bI bq).1,Sum.inl ((bq.2:Nat):Int)) (.bl true)))) wl=some (.lst ws1):=by rw [ak (nfa gw6)];exact gw6
    have gp7:(upd H6 fa (.dP (bH kv1 ((bI bq).1,Sum.inl ((bq.2:Nat):Int)) (.bl true)))) p=some (.lst zs):=by rw [ak npf];exact gp6
    have gf7:(upd H6 fa (.dP (bH kv1 ((bI bq).1,Sum.inl ((bq.2:Nat):Int)) (.bl true)))) fa=some (.dP (bH kv1 ((bI bq).1,Sum.inl ((bq.2:Nat):Int)) (.bl true))):=ad
    have tk7:TK H6 (upd H6 fa (.dP (bH kv1 ((bI bq).1,Sum.inl ((bq.2:Nat):Int)) (.bl true)))):=λb xs h=>by rw [ak (λz=>by rw [z,gf6]at h;cases h)];exact h
    have S7:Same H (upd H6 fa (.dP (bH kv1 ((bI bq).1,Sum.inl ((bq.2:Nat):Int)) (.bl true)))):=λb o h=>by rw [ak (aj h hfa)];exact S6 _ _ h
    have hk7:(bH kv1 ((bI bq).1,Sum.inl ((bq.2:Nat):Int)) (.bl true)).map (·.1)=(F1++[bq]).map bI:=by
     rw [pR,yU (by rw [hk6];exact hnin),hk6,zE]
     rfl
    generalize upd H6 fa (.dP (bH kv1 ((bI bq).1,Sum.inl ((bq.2:Nat):Int)) (.bl true)))=H7 at gw7 gp7 gf7 tk7 S7 ⊢
    have lws:ws1.length<=1000:=by
     have h1:=hNJ.ln
     have h2:=hNJ.w0
     have h3:=ze hP6
     lia
    refine ⟨_,rfl,.inl ⟨rfl,_,SqL.of gw7⟩,_,rfl,wl,_,_,rfl,rfl,gw7,ay lws,?_⟩
    have tk8:TK H7 (upd H7 wl (.lst (ws1++[.ref yb]))):=TK.lst gw7
    have tk68:=tk7.trans tk8
    refine ⟨hjl,F1++[bq],W1++[bq],_,_,_,rfl,λb o h=>?_,tk6.trans tk68,?_,?_,hk7,ad,cv (Paired.mapP hP6 λ_ _ h=>h.mono tk68) (.cons ⟨yb,yc,rfl,tk68 _ _ hyb,tk68 _ _ hyc⟩ .nil),hNJ.new hok hbq λh=>hnin (Cb h)⟩
    ·rw [ak (aj h hwl0)];exact S7 _ _ h
    ·rw [ak npw];exact gp7
    ·rw [ak nfw];exact gf7
  ·rintro U H6 ⟨_,F1,W1,ws1,o6',kv1,rfl,S6,tk6,gp6,gf6,hk6,gw6,hP6,hNJ⟩
   rw [<- lz]at hNJ
   have hN2:=hNJ.fin
   have l2:=hN2.len hcnt
   have h1:=hNJ.ln
   have h2:=hNJ.le
   refine ⟨_,?_,F1,W1,ws1,_,_,kv1,rfl,S6,gf6,hk6,gw6,hP6,hN2,rfl⟩
   rw [yZ]
   show _<2* (kvs.length-F.length) + (W'.length+1)
   lia
end My
namespace L2
open PySem PySem.Spec PyProof.Rows
def xr:R2:=λx y H Q=> ∃ a b xs ys,x=.ref a/\y=.ref b/\H a=some (.tup xs)/\H b=some (.tup ys)/\xs.length+ys.length<=sizeLine/\ ∀ p H',(∀ b o,H b=some o->H' b=some o)->H' p=some (.tup (xs++ys))->Q (.ref p) H'
theorem oj {X:Cx}:OpR X (binaryOp .Add) xr:=by
 intro pins s U H x y v u Q I rx ry h
 obtain ⟨a,b,xs,ys,e1,e2,h1,h2,h3,q⟩:=h
 refine rE pins s U H x y v u Q I rx ry ⟨a,b,xs,ys,e1,e2,SqT.of h1,SqT.of h2,h3,λe=>q b H (λ_ _ h=>h) ?_,λ_ e=>q a H (λ_ _ h=>h) ?_,λ_ _ p hp=>q p _ (λb o e=>by rw [ak (aj e hp)];exact e) ad⟩
 ·rw [e];exact h2
 ·rw [e,zy];exact h1
end L2
namespace My
open PySem L2
inductive Tr:Th->Prop
 | str (x:Str):Tr (.str x)
 | tup (l:List Th):(∀ t∈l,Tr t)->Tr (.tup l)
theorem iD {α β:Type} {F G:α->β->Prop}: ∀ {l:List α} {r:List β},Paired F l r->(∀ a b,a∈l->F a b->G a b)->Paired G l r
 | _,_,.nil,_=>.nil
 | _,_,.cons h t,g=>.cons (g _ _ yT h) (iD t λa b m=>g a b (yY _ m))
theorem RepH.tk {H H':Hp} (k:TK H H'): ∀ {n:Nat} {t:Th} {v:V},Tr t->RepH H n t v->RepH H' n t v
 | 0,_,_,_,h=>h.elim
 | n+1,_,_,.str x,h=>h
 | n+1,_,_,.tup l hl,⟨a,vs,e,h1,h2⟩=>⟨a,vs,e,k _ _ h1,iD h2 λ_ _ m r=>RepH.tk k (hl _ m) r⟩
def RowR (H:Hp) (t:Nat) (ts:List Th) (z:V):Prop:=Tr (.tup ts)/\RepH H (2*t+1) (.tup ts) z
theorem RowR.mono {H H':Hp} (k:TK H H') {t:Nat} {ts:List Th} {z:V} (h:RowR H t ts z):RowR H' t ts z:=⟨h.1,RepH.tk k h.1 h.2⟩
theorem RowR.same {H H':Hp} (s:Same H H') {t:Nat} {ts:List Th} {z:V} (h:RowR H t ts z):RowR H' t ts z:=h.mono (aL s)
structure MadeAt (bk:Bk) (H:Hp) (kvs:List ((List Key×Key)×V)) (L:List Kq):Prop where
 vl: ∀ q v,bG kvs (bI q)=some v->q∈L/\ ∃ a zs,v=.ref a/\H a=some (.lst zs)/\Paired (RowR H q.2) (Gn bk q.1 q.2) zs
 dm: ∀ q∈L,∃ v,bG kvs (bI q)=some v
theorem MadeAt.same {bk:Bk} {H H':Hp} {kvs:List ((List Key×Key)×V)} {L:List Kq} (h:MadeAt bk H kvs L) (s:Same H H'):MadeAt bk H' kvs L:=
 ⟨λq v e=>by
  obtain ⟨h1,a,zs,h2,h3,h4⟩:=h.vl q v e
  exact ⟨h1,a,zs,h2,s _ _ h3,Paired.mapP h4 λ_ _ r=>r.same s⟩,h.dm⟩
noncomputable def Gl (bk:Bk) (L:List Kq) (q:Kq):List (List Th):=if q∈L then Gn bk q.1 q.2 else []
theorem MadeAt.get {bk:Bk} {n:Nat} {H H':Hp} {kvs:List ((List Key×Key)×V)} {L:List Kq} (h:MadeAt bk H kvs L) (s:Same H H') (hL: ∀ x∈L,Gd bk 1000 n x) (q:Kq) {e fl:Addr} (he:H' e=some (.lst [])) (hf:H fl=none) (hn:e≠fl):
  ∃ la zs,(bG kvs (bI q)).getD (.ref e)=.ref la/\H' la=some (.lst zs)/\Paired (RowR H' q.2) (Gl bk L q) zs/\zs.length<=1000/\la≠fl:=by
 cases hv:bG kvs (bI q)with
 | none=>
  have hq:q∉L:=λhq=>by
   obtain ⟨v,e⟩:=h.dm q hq
   rw [hv]at e
   cases e
  exact ⟨e,[],rfl,he,by rw [Gl,yU hq];exact .nil,y9 _,hn⟩
 | some v=>
  obtain ⟨h1,a,zs,rfl,h3,h4⟩:=h.vl q v hv
  refine ⟨a,zs,rfl,s _ _ h3,by rw [Gl,yW h1];exact Paired.mapP h4 λ_ _ r=>r.same s,?_,λz=>by rw [z,hf]at h3;cases h3⟩
  rw [<- ze h4,gJ]
  exact (hL q h1).le
theorem hV {bk:Bk} {row:List Str} {t:Nat} (h: ¬ 0<Rn bk row t):Gn bk row t=[]:=CZ (by rw [gJ];lia)
theorem qS {bk:Bk}: ∀ (f:Nat) (row:List Str) (t:Nat) (ts:List Th),ts∈Gf bk f row t->ts.length=row.length:=by
 intro f
 induction f with
 | zero=>intro row t ts h;cases h
 | succ f ih=>
  intro row t ts h
  match row,h with
  | [],h=>
   have h:ts∈(if t=0 then [[]]else []):=h
   by_cases c:t=0
   ·rw [yW c]at h
    rw [y0.mp h]
    rfl
   ·rw [yU c]at h;cases h
  | [s],h=>
   obtain ⟨x,ps,rfl⟩:=dC h
   rfl
  | s::s'::r,h=>
   obtain ⟨j,h1,h2⟩:=zU.mp h
   obtain ⟨a,h3,h4⟩:=zU.mp h2
   obtain ⟨o,h5,rfl⟩:=zd.mp h4
   rw [yZ,ih _ _ _ h3,ih _ _ _ h5]
   show 1+ (r.length+1)=r.length+1+1
   lia
theorem tF {bk:Bk} {L:List Kq} {q:Kq} {ts:List Th} (h:ts∈Gl bk L q):ts.length=q.1.length:=by
 unfold Gl at h
 split at h
 ·exact qS _ _ _ _ h
 ·cases h
theorem wS {bk:Bk} {L:List Kq} {a b:Kq} (h:0<Rn bk a.1 a.2*Rn bk b.1 b.2->a∈L/\b∈L):((Gl bk L a).flatMap λx=>(Gl bk L b).map λo=>x++o)=(Gn bk a.1 a.2).flatMap λx=>(Gn bk b.1 b.2).map λo=>x++o:=by
 by_cases c:0<Rn bk a.1 a.2*Rn bk b.1 b.2
 ·obtain ⟨h1,h2⟩:=h c
  rw [show Gl bk L a=_ from yW h1,show Gl bk L b=_ from yW h2]
 ·have gl0: ∀ q,Gn bk q.1 q.2=[]->Gl bk L q=[]:=λq e=>by
   unfold Gl
   split
   ·exact e
   ·rfl
  rcases De (Rn bk a.1 a.2)with e | e
  ·have e1:=hV (bk:=bk) (row:=a.1) (t:=a.2) (by lia)
   rw [e1,gl0 a e1]
   rfl
  ·have e2:Rn bk b.1 b.2=0:=by
    rcases De (Rn bk b.1 b.2)with e' | e'
    ·exact e'
    ·exact absurd (Nat.mul_pos e e') c
   have e3:=hV (bk:=bk) (row:=b.1) (t:=b.2) (by lia)
   have nil: ∀ {l:List (List Th)},(l.flatMap λx=>(([]:List (List Th)).map λo=>x++o))=[]:=λ{l}=>by
    induction l with
    | nil=>rfl
    | cons a l ih=>rw [Au,ih];rfl
   rw [e3,gl0 b e3,nil,nil]
inductive mj  (vs:List V) (H:Hp) (Q:VK) (E_:XK):Prop
 | mk: ∀ bv bk v md kvs q n L,(vs=[bv,v,.ref md])->(RepB H bk bv)->(BkG bk)->(KP H q v)->(Gd bk 1000 n q)->(n<=24)->(H md=some (.dP kvs))->(MadeAt bk H kvs L)->((∀ x∈L,Gd bk 1000 n x))->((∀ b∈Bn bk q.1 q.2,b∈L))->(∀ p zs H',H p=none->Same H H'->H' p=some (.lst zs)->Paired (RowR H' q.2) (Gn bk q.1 q.2) zs->Q (.ref p) H')->mj vs H Q E_
theorem ur {H:Hp} {t:Nat} {x:Str} {ps:List Th} {a b:Addr} {z:V} (hx:x.length<=1000) (h:RowR H t ps z) (hb:H b=some (.tup [.str x,z])) (ha:H a=some (.tup [.ref b])):RowR H (t+1) [nod x ps] (.ref a):=
 ⟨.tup _ λy hy=>by
  rw [y0.mp hy]
  refine .tup _ λy hy=>?_
  rcases za.mp hy with rfl | hy
  ·exact .str x
  ·rw [y0.mp hy];exact h.1,a,[.ref b],rfl,ha,.cons ⟨b,[.str x,z],rfl,hb,.cons ⟨rfl,hx⟩ (.cons h.2 .nil)⟩ .nil⟩
theorem Tr.mem {l:List Th} (h:Tr (.tup l)): ∀ t∈l,Tr t:=by
 cases h with
 | tup _ h=>exact h
theorem tW {H:Hp} {t k:Nat} {l m:List Th} {a b c:Addr} {xs ys:List V} (h1:RowR H t l (.ref a)) (h2:RowR H k m (.ref b)) (ha:H a=some (.tup xs)) (hb:H b=some (.tup ys)) (hc:H c=some (.tup (xs++ys))):RowR H (t+k) (l++m) (.ref c):=by
 obtain ⟨t1,a',vs,e,g1,g2⟩:=h1
 cases e
 rw [ha]at g1
 cases g1
 obtain ⟨t2,b',us,e,g3,g4⟩:=h2
 cases e
 rw [hb]at g3
 cases g3
 refine ⟨.tup _ λx hx=>?_,c,_,rfl,hc,cv (Paired.mapP g2 λ_ _ h=>h.le (by lia)) (Paired.mapP g4 λ_ _ h=>h.le (by lia))⟩
 rcases y8.mp hx with hx | hx
 ·exact t1.mem x hx
 ·exact t2.mem x hx
theorem nU {H:Hp} {t:Nat} {l:List Th} {z:V} (h:RowR H t l z): ∃ a xs,z=.ref a/\H a=some (.tup xs)/\xs.length=l.length:=by
 obtain ⟨_,a',vs,e,g1,g2⟩:=h
 exact ⟨a',vs,e,g1,(ze g2).symm⟩
theorem rS {bk:Bk} (hok:BkG bk) {fr:Frm} (h:fr∈bk.forms):fr.name.length<=1000:=by
 have hw:=hok.wd fr h
 unfold cj at hw
 simp only [zM,A6]at hw
 lia
abbrev NAM:List Str:=["book","key","made","found","name","below","first","rest","tree"]
theorem scAllMade:aI NAM ["book","key","made"] (am dZ):=fsc
theorem mW (F:Fun K "all_made" "all_made" dZ f fd) (G:Gb mg)
  (GW:Cl P w K mg base CX0 2 f2 fd2 ["book","row","total"] cO "forms_with_keys")
  (GC:Cl P w K mg base CX0 1 f3 fd3 ["row","total"] (vN ip gW) "cuts_of"):FnOk P w K mg base CX0 3 f fd ["book","key","made"] mj:=by
 refine F.ok scAllMade (λvs H Q E h=>?_) (λcdv A outer s H vs Q E hr h=>?_)
 ·obtain ⟨bv,bk,v,md,kvs,q,n,L,rfl,_⟩:=h
  rfl
 obtain ⟨bv,bk,v,md,kvs,kq,n,L,rfl,hB,hok,⟨kb,kc,rfl,hkb,hkc⟩,hGd,hn,gmd,hM,hL,hBn,q⟩:=h
 have hu:=dL hr
 have hr1:=hr.mono (show 1<=2 by decide)
 refine ⟨_,ah (a8 (aF (fj hr.units0) (au (r:=aS K) aA (pv 1) af (λ_ _=>rfl)) (aN ae) (aG _)) (al (aH (aX (aa (aN ae) ae)))) aM)
  (ah (ao (i:=3) scAllMade.nd rfl (Or.inl rfl) (aX ae))
  (ah (a8 (dB (fi (ax (r:=cr K) av rfl G.len zC (aa (au (r:=aS K) aA (pv 1) af (λ_ _=>rfl)) ae)) af))
   (al (aU zw rfl (be (pcl GW hr (aa (pv 0) (aa (au (r:=aS K) aA (pv 1) af (λ_ _=>rfl)) (aa (au (r:=aS K) aA (pv 1) af (λ_ _=>rfl)) ae))))) (cu rfl (aJ (aw (i:=4) scAllMade.nd rfl (Or.inr rfl)) (aJ (aw (i:=5) scAllMade.nd rfl (Or.inl rfl)) bU)))
    (al (bT (dJ zF Bx By eQ (pv 3) (aa
     (cI (sc0:=am dZ) (N0:=NAM) (ys:=["name"]) (fr:=[4]) rfl (be (dk hu (pv 2) (pv 5) (aX ae) ⟨rfl,rfl,rfl,rfl⟩)) rfl rfl
      cok
      (λC s H ex=>aN (aa (aN (aa (pv 1) (aa (pv 0) ae))) ae))) ae))))))
   (al (aU zw rfl (be (pcl GC hr1 (aa (au (r:=aS K) aA (pv 1) af (λ_ _=>rfl)) (aa (au (r:=aS K) aA (pv 1) af (λ_ _=>rfl)) ae)))) (cu rfl (aJ (aw (i:=6) scAllMade.nd rfl (Or.inl rfl)) (aJ (aw (i:=7) scAllMade.nd rfl (Or.inl rfl)) bU)))
    (al (aU zw rfl (be (dk hu (pv 2) (pv 6) (aX ae) ⟨rfl,rfl,rfl,rfl⟩)) (aw (i:=8) scAllMade.nd rfl (Or.inr rfl))
     (al (bT (dJ zF Bx By eQ (pv 3) (aa
      (cI (sc0:=am dZ) (N0:=NAM) (ys:=["tree"]) (fr:=[8]) rfl (be (dk hu (pv 2) (pv 7) (aX ae) ⟨rfl,rfl,rfl,rfl⟩)) rfl rfl
       cok
       (λC s H ex=>aq oj (pv 1) (pv 0))) ae)))))))))
  (al (aH (pv 3))))),?_⟩
 have k0:atI [V.ref kc,.int ((kq.2:Nat):Int)] 0=some (.ref kc):=rfl
 have k1:atI [V.ref kc,.int ((kq.2:Nat):Int)] 1=some (.int ((kq.2:Nat):Int)):=rfl
 refine ⟨_,rfl,kb,_,0,.ref kc,rfl,rfl,SqT.of hkb,k0,(by show 0<=sizeLine;decide),λe0 he0=>?_⟩
 have s0:=ai he0 (.tup [])
 have g0:(upd H e0 (.tup [])) e0=some (.tup []):=ad
 generalize upd H e0 (.tup [])=H0 at s0 g0 ⊢
 refine ⟨kc,e0,_,rfl,rfl,SqT.of (s0 _ _ hkc),SqT.of g0,_,rfl,?_⟩
 obtain ⟨row,t⟩:=kq
 have hq2:t<=n:=hGd.sz
 have hRle:Rn bk row t<=1000:=hGd.le
 match row,hkc,hGd,hBn,q,hRle with
 | [],hkc,hGd,hBn,q,_=>
  cases (show t=0 from hGd.nil rfl)
  refine bB ⟨(by show 0<=sizeLine;decide),λe1 he1=>?_⟩
  have s1:=ai he1 (.tup [])
  have g1:(upd H0 e1 (.tup [])) e1=some (.tup []):=ad
  generalize upd H0 e1 (.tup [])=H1 at s1 g1 ⊢
  refine ⟨(by show 1<=sizeLine;decide),λp hp=>q p [.ref e1] _ ((s0.trans s1).free hp) ((s0.trans s1).trans (ai hp _)) ad (.cons ⟨.tup _ (λ_ h=>nomatch h),e1,[],rfl,ai hp _ _ _ g1,.nil⟩ .nil)⟩
 | [sn],hkc,hGd,hBn,q,hRle=>
  have t0: ¬ t=0:=λz=>by
   have:=hGd.ps
   rw [show Rn bk [sn] t=0 by rw [fB hok.w.two,yW z]]at this
   exact absurd this (AG _)
  refine cE ⟨(by show 0<=sizeLine;decide),λfl hfl=>?_⟩
  have s1:=ai hfl (.lst [])
  have g1:(upd H0 fl (.lst [])) fl=some (.lst []):=ad
  have S1:=s0.trans s1
  have hfl0:H fl=none:=s0.free hfl
  generalize upd H0 fl (.lst [])=H1 at s1 g1 S1 ⊢
  refine ⟨_,rfl,kb,_,0,.ref kc,rfl,rfl,SqT.of (S1 _ _ hkb),k0,kc,_,rfl,.inr (SqT.of (S1 _ _ hkc)),_,_,rfl,rfl,_,rfl,bB ?_⟩
  refine ⟨_,rfl,_,rfl,kb,_,0,.ref kc,rfl,rfl,SqT.of (S1 _ _ hkb),k0,_,rfl,kb,_,1,_,rfl,rfl,SqT.of (S1 _ _ hkb),k1,bv,bk,kc,sn,t,rfl,hB.mono (aL S1),hok.w,S1 _ _ hkc,λp zs H2 hp s2 gp hz=>?_⟩
  rw [yU t0]at hz
  refine ⟨p,rfl,⟨_,SqL.of gp⟩,?_⟩
  have lz:=ze hz
  have lz10:zs.length<=10:=by rw [<- lz];exact zc (Bj _ _) hok.few
  have npf:p≠fl:=λz=>by rw [z,g1]at hp;cases hp
  have S2:=S1.trans s2
  refine bL (xs:=zs) (λj U H'=>j<=zs.length/\ ∃ o4 o5 ws,U=[some bv,some (.ref kb),some (.ref md),some (.ref fl),o4,o5,none,none,none]/\Same H H'/\TK H2 H'/\H' p=some (.lst zs)/\H' fl=some (.lst ws)/\ws.length<=1000*j/\
    Paired (RowR H' t) (((oi bk sn).take j).flatMap λfr=>(Gn bk (aP fr) (t-1)).map λps=>[nod fr.name ps]) ws)
   ⟨y9 _,none,none,[],rfl,S2,λ_ _ h=>h,gp,s2 _ _ g1,yV _,.nil⟩ (λj U H' _ h=>by obtain ⟨_,_,_,_,_,_,_,g,_⟩:=h;exact SqL.of g) ?_ ?_
  ·rintro j x U H3 hx ⟨_,o4,o5,ws,rfl,S3,tk3,gp3,gf3,lw,hP3⟩
   have hjl:j<zs.length:=(yX.mp hx).1
   obtain ⟨fr,hfr,hwk⟩:=aD hz hx
   obtain ⟨T,b,pa,rfl,h1,h2,h3⟩:=hwk.mono tk3
   have hfm:=zN.mp (y3 hfr)
   refine ⟨T,_,rfl,SqT.of h1,rfl,_,_,rfl,_,_,rfl,rfl,?_⟩
   refine ⟨_,rfl,.inl ⟨rfl,_,SqL.of gf3⟩,_,rfl,md,kvs,rfl,S3 _ _ gmd,_,rfl,(by show 0<=sizeLine;decide),λe he=>?_⟩
   have s4:=ai he (.lst [])
   have g4:(upd H3 e (.lst [])) e=some (.lst []):=ad
   have S4:=S3.trans s4
   generalize upd H3 e (.lst [])=H4 at s4 g4 S4 ⊢
   have nef:e≠fl:=λz=>by rw [z,gf3]at he;cases he
   obtain ⟨la,zs1,e1,gla,hPG,lz1,_⟩:=hM.get S4 hL (aP fr,t-1) g4 hfl0 nef
   have hG:Gl bk L (aP fr,t-1)=Gn bk (aP fr) (t-1):=by
    by_cases c:(aP fr,t-1)∈L
    ·rw [Gl,yW c]
    ·rw [Gl,yU c,hV λz=>c (hBn _ (zd.mpr ⟨fr,zN.mpr ⟨by rw [yU t0];exact zN.mpr hfm,zq z⟩,rfl⟩))]
   rw [hG]at hPG
   refine ⟨_,DGet.p (S4 _ _ gmd) (k:=Sum.inl (((t-1:Nat)):Int)) (s4 _ _ h2) (by rw [dI];exact s4 _ _ h3),la,e1,⟨_,SqL.of gla⟩,?_⟩
   refine eV lz1 hPG (el gla) (eh gla) (λi H v H' _=>gQ gla i H v H') (λH ps z=>RowR H t [nod fr.name ps] z) (λk h=>h.mono k) ?_ ?_
   ·rintro ps z H5 k _ hR s5 hk
    refine ⟨_,rfl,_,rfl,(by show 2<=sizeLine;decide),λb1 hb1=>?_⟩
    have s6:=ai hb1 (.tup [.str fr.name,z])
    have g6:(upd H5 b1 (.tup [.str fr.name,z])) b1=some (.tup [.str fr.name,z]):=ad
    generalize upd H5 b1 (.tup [.str fr.name,z])=H6 at s6 g6 ⊢
    refine ⟨(by show 1<=sizeLine;decide),λa1 ha1=>?_⟩
    have s7:=ai ha1 (.tup [.ref b1])
    have:=ur (t:=t-1) (x:=fr.name) (ps:=ps) (a:=a1) (b:=b1) (z:=z) (rS hok hfm.1) (hR.same ((Same.trans s5 s6).trans s7)) (s7 _ _ g6) ad
    rw [show t-1+1=t by lia]at this
    exact hk _ _ (s6.trans s7) this
   ·intro p2 ws2 H5 hp2 s5 g5 hw
    have gf5:=s5 _ _ (s4 _ _ gf3)
    have S5:=S4.trans s5
    have l2:=ze hw
    have l3:=ze hPG
    refine ⟨fl,p2,ws,ws2,rfl,rfl,gf5,g5,zc (m:=100000) (by lia) (by decide),?_⟩
    have tk6:TK H5 (upd H5 fl (.lst (ws++ws2))):=TK.lst gf5
    have tk36:TK H3 (upd H5 fl (.lst (ws++ws2))):=(aL (s4.trans s5)).trans tk6
    refine ⟨hjl,_,_,ws++ws2,rfl,λy o h=>?_,tk3.trans tk36,?_,ad,by rw [yZ];lia,?_⟩
    ·rw [ak (aj h hfl0)];exact S5 _ _ h
    ·rw [ak npf];exact s5 _ _ (s4 _ _ gp3)
    ·rw [zz,hfr,BB]
     refine cv (Paired.mapP hP3 λ_ _ h=>h.mono tk36) ?_
     show Paired _ (List.flatMap _ [fr]) _
     rw [Au,Bf,zy]
     exact cR _ (Paired.mapP hw λ_ _ h=>h.mono tk6)
  ·rintro U H3 ⟨_,o4,o5,ws,rfl,S3,tk3,gp3,gf3,lw,hP3⟩
   rw [<- lz,zG]at hP3
   refine ⟨_,rfl,q fl ws H3 hfl0 S3 gf3 ?_⟩
   show Paired (RowR H3 t) (Gn bk [sn] t) ws
   rw [wR hok.w.two sn t0]
   exact hP3
 | sn::s2n::r,hkc,hGd,hBn,q,hRle=>
  refine cE ⟨(by show 0<=sizeLine;decide),λfl hfl=>?_⟩
  have s1:=ai hfl (.lst [])
  have g1:(upd H0 fl (.lst [])) fl=some (.lst []):=ad
  have S1:=s0.trans s1
  have hfl0:H fl=none:=s0.free hfl
  generalize upd H0 fl (.lst [])=H1 at s1 g1 S1 ⊢
  refine ⟨_,rfl,kb,_,0,.ref kc,rfl,rfl,SqT.of (S1 _ _ hkb),k0,kc,_,rfl,.inr (SqT.of (S1 _ _ hkc)),_,_,rfl,rfl,_,rfl,?_⟩
  refine bO (λc=>?_) (λ_=>?_)
  ·exfalso
   have c':=zf c
   rw [yP]at c'
   have:((r.length+1+1:Nat):Int)=1:=c'
   lia
  refine ⟨_,rfl,kb,_,0,.ref kc,rfl,rfl,SqT.of (S1 _ _ hkb),k0,_,rfl,kb,_,1,_,rfl,rfl,SqT.of (S1 _ _ hkb),k1,.inl ⟨kc,sn,s2n::r,t,rfl,S1 _ _ hkc,by lia,λp zs H2 hp s2 gp hz=>?_⟩⟩
  refine ⟨p,rfl,⟨_,SqL.of gp⟩,?_⟩
  have lz:=ze hz
  rw [At]at lz
  have npf:p≠fl:=λz=>by rw [z,g1]at hp;cases hp
  have S2:=S1.trans s2
  refine bL (xs:=zs) (λj U H'=>j<=zs.length/\ ∃ o6 o7 o8 ws,U=[some bv,some (.ref kb),some (.ref md),some (.ref fl),none,none,o6,o7,o8]/\Same H H'/\TK H2 H'/\H' p=some (.lst zs)/\H' fl=some (.lst ws)/\ws.length<=1000*j/\
    Paired (RowR H' t) ((List.range j).flatMap λj=>(Gn bk [sn] (j+1)).flatMap λa=>(Gn bk (s2n::r) (t- (j+1))).map λo=>a++o) ws)
   ⟨y9 _,none,none,none,[],rfl,S2,λ_ _ h=>h,gp,s2 _ _ g1,yV _,.nil⟩ (λj U H' _ h=>by obtain ⟨_,_,_,_,_,_,_,_,g,_⟩:=h;exact SqL.of g) ?_ ?_
  ·rintro j x U H3 hx ⟨_,o6,o7,o8,ws,rfl,S3,tk3,gp3,gf3,lw,hP3⟩
   have hjl:j<zs.length:=(yX.mp hx).1
   obtain ⟨j',hj',hck⟩:=aD hz hx
   rw [B9 (by lia)]at hj'
   cases hj'
   obtain ⟨T,a,b,c,d2,rfl,h1,h2,h3,h4,h5⟩:=hck.mono tk3
   refine ⟨T,_,rfl,SqT.of h1,rfl,_,_,rfl,_,_,rfl,rfl,?_⟩
   refine ⟨_,rfl,md,kvs,rfl,S3 _ _ gmd,_,rfl,(by show 0<=sizeLine;decide),λe he=>?_⟩
   have s4:=ai he (.lst [])
   have g4:(upd H3 e (.lst [])) e=some (.lst []):=ad
   have S4:=S3.trans s4
   generalize upd H3 e (.lst [])=H4 at s4 g4 S4 ⊢
   have nef:e≠fl:=λz=>by rw [z,gf3]at he;cases he
   obtain ⟨la,zs1,e1,gla,hPG,lz1,nlf⟩:=hM.get S4 hL ([sn],j+1) g4 hfl0 nef
   refine ⟨_,DGet.p (S4 _ _ gmd) (t:=rk [sn]) (k:=Sum.inl (((j+1:Nat)):Int)) (s4 _ _ h2) (s4 _ _ h3),la,e1,⟨_,SqL.of gla⟩,?_⟩
   have hmul:0<Rn bk [sn] (j+1) *Rn bk (s2n::r) (t- (j+1))->([sn],j+1)∈L/\(s2n::r,t- (j+1))∈L:=λz=>by
    have hm: ∀ x∈[([sn],j+1),(s2n::r,t- (j+1))],x∈Bn bk (sn::s2n::r) t:=λx hx=>zU.mpr ⟨j,zI.mpr (by lia),by rw [yW z];exact hx⟩
    exact ⟨hBn _ (hm _ yT),hBn _ (hm _ (yY _ yT))⟩
   have ext:=wS (bk:=bk) (L:=L) (a:=([sn],j+1)) (b:=(s2n::r,t- (j+1))) hmul
   have hone:Rn bk [sn] (j+1) *Rn bk (s2n::r) (t- (j+1))<=1000:=by
    rw [gk hok.w.two]at hRle
    exact zc (hO (f:=λj=>Rn bk [sn] (j+1) *Rn bk (s2n::r) (t- (j+1))) (zI.mpr (show j<t-1 by lia))) hRle
   refine bL (xs:=zs1) (λi U H'=>i<=zs1.length/\ ∃ o8 ws1,U=[some bv,some (.ref kb),some (.ref md),some (.ref fl),none,none,some (.ref a),some (.ref b),o8]/\Same H H'/\TK H4 H'/\H' p=some (.lst zs)/\H' la=some (.lst zs1)/\H' fl=some (.lst ws1)/\ws1.length<=1000*j+1000*i/\
     Paired (RowR H' t) (((List.range j).flatMap λj=>(Gn bk [sn] (j+1)).flatMap λa=>(Gn bk (s2n::r) (t- (j+1))).map λo=>a++o)++((Gl bk L ([sn],j+1)).take i).flatMap λa=>(Gl bk L (s2n::r,t- (j+1))).map λo=>a++o) ws1)
    ⟨y9 _,_,ws,rfl,S4,λ_ _ h=>h,s4 _ _ gp3,gla,s4 _ _ gf3,by lia,by rw [BQ,Bf,zy];exact Paired.mapP hP3 λ_ _ h=>h.same s4⟩ (λi U H' _ h=>by obtain ⟨_,_,_,_,_,_,_,g,_⟩:=h;exact SqL.of g) ?_ ?_
   ·rintro i x U H5 hx ⟨_,o8',ws1,rfl,S5,tk5,gp5,gla5,gf5,lw5,hP5⟩
    have hil:i<zs1.length:=(yX.mp hx).1
    obtain ⟨ts,hts,hR⟩:=aD hPG hx
    have hR5:=hR.mono tk5
    refine ⟨_,rfl,.inl ⟨rfl,_,SqL.of gf5⟩,_,rfl,md,kvs,rfl,S5 _ _ gmd,_,rfl,(by show 0<=sizeLine;decide),λe2 he2=>?_⟩
    have s6:=ai he2 (.lst [])
    have g6:(upd H5 e2 (.lst [])) e2=some (.lst []):=ad
    have S6:=S5.trans s6
    generalize upd H5 e2 (.lst [])=H6 at s6 g6 S6 ⊢
    have nef2:e2≠fl:=λz=>by rw [z,gf5]at he2;cases he2
    obtain ⟨lb,zs2,e3,glb,hPG2,lz2,_⟩:=hM.get S6 hL (s2n::r,t- (j+1)) g6 hfl0 nef2
    refine ⟨_,DGet.p (S6 _ _ gmd) (k:=Sum.inl (((t- (j+1):Nat)):Int)) (s6 _ _ (tk5 _ _ (s4 _ _ h4))) (by rw [dI];exact s6 _ _ (tk5 _ _ (s4 _ _ h5))),lb,e3,⟨_,SqL.of glb⟩,?_⟩
    refine eV lz2 hPG2 (el glb) (eh glb) (λi H v H' _=>gQ glb i H v H') (λH o z=>RowR H t (ts++o) z) (λk h=>h.mono k) ?_ ?_
    ·rintro o z H7 k hmo hRo s7 hk
     obtain ⟨a1,xs1,rfl,ga1,lx1⟩:=nU (hR5.same (s6.trans s7))
     obtain ⟨a2,xs2,rfl,ga2,lx2⟩:=nU (hRo.same s7)
     refine ⟨_,rfl,_,rfl,a1,a2,xs1,xs2,rfl,rfl,ga1,ga2,zc (m:=1000) (by rw [lx1,lx2,tF (y3 hts),tF hmo];have:=hGd.ri.len hok.w;have:r.length+1+1<=3:=this;show 1+ (r.length+1)<=1000;lia) (by decide),λp1 H8 s8 g8=>hk _ _ s8 ?_⟩
     have:=tW ((hR5.same (s6.trans s7)).same s8) ((hRo.same s7).same s8) (s8 _ _ ga1) (s8 _ _ ga2) g8
     rw [show j+1+ (t- (j+1))=t by lia]at this
     exact this
    ·intro p2 ws2 H7 hp2 s7 g7 hw
     have gf7:=s7 _ _ (s6 _ _ gf5)
     have S7:=S6.trans s7
     have l2:=ze hw
     have l3:=ze hPG2
     refine ⟨fl,p2,ws1,ws2,rfl,rfl,gf7,g7,zc (m:=10000000) (by lia) (by decide),?_⟩
     have tk8:TK H7 (upd H7 fl (.lst (ws1++ws2))):=TK.lst gf7
     have tk58:TK H5 (upd H7 fl (.lst (ws1++ws2))):=(aL (s6.trans s7)).trans tk8
     refine ⟨hil,_,ws1++ws2,rfl,λy o h=>?_,tk5.trans tk58,?_,?_,ad,by rw [yZ];lia,?_⟩
     ·rw [ak (aj h hfl0)];exact S7 _ _ h
     ·rw [ak npf];exact s7 _ _ (s6 _ _ gp5)
     ·rw [ak nlf];exact s7 _ _ (s6 _ _ gla5)
     ·rw [zz,hts,BB,<- zm]
      refine cv (Paired.mapP hP5 λ_ _ h=>h.mono tk58) ?_
      show Paired _ (List.flatMap _ [ts]) _
      rw [Au,Bf,zy]
      exact cR _ (Paired.mapP hw λ_ _ h=>h.mono tk8)
   ·rintro U H5 ⟨_,o8',ws1,rfl,S5,tk5,gp5,gla5,gf5,lw5,hP5⟩
    rw [<- ze hPG,zG,ext]at hP5
    have l1:=ze hP5
    have l2:=ze hP3
    rw [yZ,l2,kr,gJ,gJ]at l1
    refine ⟨hjl,_,_,_,ws1,rfl,S5,tk3.trans ((aL s4).trans tk5),gp5,gf5,?_,?_⟩
    ·have l1:ws.length+Rn bk [sn] (j+1) *Rn bk (s2n::r) (t- (j+1))=ws1.length:=l1
     lia
    ·rw [Bm,BB,Au,Bf,zy]
     exact hP5
  ·rintro U H3 ⟨_,o6,o7,o8,ws,rfl,S3,tk3,gp3,gf3,lw,hP3⟩
   rw [<- lz]at hP3
   refine ⟨_,rfl,q fl ws H3 hfl0 S3 gf3 ?_⟩
   show Paired (RowR H3 t) (Gn bk (sn::s2n::r) t) ws
   rw [uW hok.w.two]
   exact hP3
def TreeR (H:Hp) (n:Nat) (th:Th) (z:V):Prop:=Tr th/\RepH H (2*n) th z
theorem TreeR.mono {H H':Hp} (k:TK H H') {n:Nat} {th:Th} {z:V} (h:TreeR H n th z):TreeR H' n th z:=⟨h.1,RepH.tk k h.1 h.2⟩
noncomputable def Gt (bk:Bk) (s:Str) (n:Nat):List Th:=(Gn bk [s] n).map λts=>ts.headD .non
theorem MadeAt.put {bk:Bk} {H:Hp} {kvs:List ((List Key×Key)×V)} {L:List Kq} {md p:Addr} {zs:List V} {q:Kq} (h:MadeAt bk H kvs L) (hmd:H md=some (.dP kvs)) (hp:H p=some (.lst zs)) (hz:Paired (RowR H q.2) (Gn bk q.1 q.2) zs):
  MadeAt bk (upd H md (.dP (bH kvs (bI q) (.ref p)))) (bH kvs (bI q) (.ref p)) (L++[q]):=by
 have tk:TK H (upd H md (.dP (bH kvs (bI q) (.ref p)))):=λb xs e=>by rw [ak (λz=>by rw [z,hmd]at e;cases e)];exact e
 have ls: ∀ {b xs},H b=some (.lst xs)->(upd H md (.dP (bH kvs (bI q) (.ref p)))) b=some (.lst xs):=λe=>by rw [ak (λz=>by rw [z,hmd]at e;cases e)];exact e
 refine ⟨λx v e=>?_,λx hx=>?_⟩
 ·rw [ck]at e
  by_cases c:bI x=bI q
  ·rw [yW c]at e
   cases e
   cases iJ c
   exact ⟨yS _ yT,p,zs,rfl,ls hp,Paired.mapP hz λ_ _ r=>r.mono tk⟩
  ·rw [yU c]at e
   obtain ⟨h1,a,ys,h2,h3,h4⟩:=h.vl x v e
   exact ⟨zx _ h1,a,ys,h2,ls h3,Paired.mapP h4 λ_ _ r=>r.mono tk⟩
 ·rw [ck]
  by_cases c:bI x=bI q
  ·exact ⟨_,by rw [yW c]⟩
  ·rcases y8.mp hx with hx | hx
   ·rw [yU c];exact h.dm x hx
   ·exact absurd (by rw [y0.mp hx]) c
theorem sY {bk:Bk} (hk:BkW bk) {s:Str} (h: ¬ RowIn bk [s]) (t:Nat):Rn bk [s] t=0:=by
 rw [fB hk.two]
 by_cases c:t=0
 ·rw [yW c]
 ·rw [yU c,List.filter_eq_nil_iff.mpr λfr hf e=>h (.inr (.inl ⟨fr.own,(hk.fo fr hf).1,by rw [zf e]⟩))]
  rfl
theorem Nd.ahead {bk:Bk} {m n i:Nat} {top q:Kq} {L:List Kq} (h:Nd bk m n top L) (hk:BkW bk) (hp:L.Pairwise λa b=>a.2<=b.2) (hq:L[i]? =some q): ∀ b∈Bn bk q.1 q.2,b∈L.take i:=λb hb=>by
 have hqm:=y3 hq
 have hlt:=(vA hk (h.gd q hqm) hb).2
 obtain ⟨k,hkl,hke⟩:=Cc (h.cl q hqm b hb)
 obtain ⟨hil,hie⟩:=yX.mp hq
 by_cases c:k<i
 ·exact List.mem_iff_getElem.mpr ⟨k,by rw [zB];lia,by rw [List.getElem_take];exact hke⟩
 ·exfalso
  by_cases c2:i=k
  ·subst c2
   rw [hie]at hke
   rw [hke]at hlt
   exact AG _ hlt
  ·have:=B7.mp hp i k hil hkl (by lia)
   rw [hie,hke]at this
   lia
inductive fI (C tbA:Addr) (vs:List V) (H:Hp) (Q:VK) (E:XK):Prop
 | mk: ∀ bv bk sn n,(vs=[bv,.str sn,.int ((n:Nat):Int)])->(RepB H bk bv)->(BkG bk)->(n<=24)->(TabN tbA H)->((1000<Rn bk [sn] n-> ∀ H',Same H H'->E (.ref C) none H'))->((Rn bk [sn] n<=1000-> ∀ p zs H',H p=none->Kp tbA H H'->TabN tbA H'->H' p=some (.lst zs)->Paired (TreeR H' n) (Gt bk sn n) zs->Q (.ref p) H'))->fI C tbA vs H Q E
abbrev NTO:List Str:=["book","sort","size","counts","top","made","key"]
theorem scTreesOf:aI NTO ["book","sort","size"] (am fM):=fsc
theorem mK {B newId initId:String} {bmB:List Value} {tM:Tok} (F:Fun K "trees_of" "trees_of" fM f fd) (G:Gb mg) (mM:mg "MOST_LISTED"=some (.int 1000 tM))
  (hTM:mg "TooMany"=some (.ref C)) (ex:PySem.W.excIn K C bmB newId=true) (FB:ExcBaseFacts B newId initId bmB)
  (GU:Cl P w K mg base CX0 4 f2 fd2 ["book","size"] mf "counts_up_to")
  (GN:Cl P w K mg base CX0 4 f3 fd3 ["book","counts","top"] (im tbA) "keys_needed")
  (GA:Cl P w K mg base CX0 3 f4 fd4 ["book","key","made"] mj "all_made"):
  FnOk P w K mg base (CX1 P w C) 5 f fd ["book","sort","size"] (fI C tbA):=by
 refine F.okG scTreesOf (λvs H Q E h=>?_) (λcdv A outer s H vs Q E hr h=>?_)
 ·obtain ⟨bv,bk,sn,n,rfl,_⟩:=h
  rfl
 obtain ⟨bv,bk,sn,n,rfl,hB,hok,hn,hTb,qe,q⟩:=h
 have hu:=dL hr
 have hr3:=hr.mono (show 3<=4 by decide)
 refine ⟨_,ah (ao (i:=3) scTreesOf.nd rfl (Or.inl rfl) (pcl GU hr (aa (pv 0) (aa (pv 2) ae))))
  (ah (ao (i:=4) scTreesOf.nd rfl (Or.inl rfl) (aN (aa (aN (aa (pv 1) ae)) (aa (pv 2) ae))))
  (ah (a8 (aF eZ (dk hu (pv 3) (pv 4) af ⟨rfl,rfl,rfl,rfl⟩) (bf (v:=.int 1000) rfl mM ⟨_,rfl⟩) (aG _))
   (al (pi (E:=E) rfl rfl hTM ex FB (λpins U H s h' y vs I m q=>pZ I m q) (aa br ae))) aM)
  (ah (a8 (dB (fi (dk hu (pv 3) (pv 4) af ⟨rfl,rfl,rfl,rfl⟩) af)) (al (aH (aX ae))) aM)
  (ah (ao (i:=5) scTreesOf.nd rfl (Or.inl rfl) lc)
  (ah (aU PassesOwn.leaving rfl (be (pcl GN hr (aa (pv 0) (aa (pv 3) (aa (pv 4) ae))))) (aw (i:=6) scTreesOf.nd rfl (Or.inl rfl))
   (al (cy hu (pv 5) (pv 6) (pcl GA hr3 (aa (pv 0) (aa (pv 6) (aa (pv 5) ae)))) rfl)))
  (al (aH (cI (sc0:=am fM) (N0:=NTO) (ys:=[]) (fr:=[]) rfl (be (bJ hu (pv 5) (pv 4) (λ_ _=>rfl))) rfl rfl
   cok
   (λC s H ex=>au (r:=aS K) aA (pv 0) af (λ_ _=>rfl)))))))))),?_⟩
 refine ⟨_,rfl,_,rfl,bv,bk,n,rfl,hB,hok.w,hn,λd kvs H1 hd s1 gd hc hin hk1=>?_⟩
 refine ⟨_,rfl,(by show 1<=sizeLine;decide),λta hta=>?_⟩
 have s2:=ai hta (.tup [.str sn])
 have g2:(upd H1 ta (.tup [.str sn])) ta=some (.tup [.str sn]):=ad
 generalize upd H1 ta (.tup [.str sn])=H2 at s2 g2 ⊢
 refine ⟨_,rfl,(by show 2<=sizeLine;decide),λtb htb=>?_⟩
 have s3:=ai htb (.tup [.ref ta,.int ((n:Nat):Int)])
 have g3:(upd H2 tb (.tup [.ref ta,.int ((n:Nat):Int)])) tb=some (.tup [.ref ta,.int ((n:Nat):Int)]):=ad
 have g23:=s3 _ _ g2
 have S3:Same H (upd H2 tb (.tup [.ref ta,.int ((n:Nat):Int)])):=Same.trans s1 (s2.trans s3)
 have gd3:=s3 _ _ (s2 _ _ gd)
 generalize upd H2 tb (.tup [.ref ta,.int ((n:Nat):Int)])=H3 at s3 g3 g23 S3 gd3 ⊢
 have hget:(bG kvs (rk [sn],Sum.inl ((n:Nat):Int))).getD (.int 0)=.int ((Rn bk [sn] n:Nat):Int):=by
  by_cases c:RowIn bk [sn]
  ·rw [hc [sn] n c (by lia)];rfl
  ·rw [sY hok.w c]
   cases hv:bG kvs (rk [sn],Sum.inl ((n:Nat):Int))with
   | none=>rfl
   | some v=>
    obtain ⟨row,hrow,e⟩:=hin _ _ hv
    rw [<- iA (show rk [sn]=rk row from e)]at hrow
    exact absurd hrow c
 have dget:DGet H3 d (.ref tb) (bG kvs (rk [sn],Sum.inl ((n:Nat):Int))):=DGet.p gd3 (t:=rk [sn]) (k:=Sum.inl ((n:Nat):Int)) g3 g23
 refine ⟨_,rfl,d,kvs,rfl,gd3,_,rfl,_,dget,?_⟩
 rw [hget]
 refine ⟨_,_,rfl,rfl,_,rfl,?_⟩
 refine bO (λc=>?_) (λc=>?_)
 ·have c':(1000:Int) < ((Rn bk [sn] n:Nat):Int):=zf c
  exact ⟨(by show 1<=sizeLine;decide),qe (by lia) H3 S3⟩
 have h1000:Rn bk [sn] n<=1000:=by
  by_cases z:(1000:Int) < ((Rn bk [sn] n:Nat):Int)
  ·exact absurd (zq z) c
  ·lia
 have q:=q h1000
 refine ⟨_,rfl,d,kvs,rfl,gd3,_,rfl,_,dget,?_⟩
 rw [hget]
 refine ⟨_,_,rfl,rfl,_,rfl,?_⟩
 have kpS: ∀ {Ha Hb:Hp},Same Ha Hb->Kp tbA Ha Hb:=λs b o h _=>s _ _ h
 refine bO (λc=>?_) (λc=>?_)
 ·have z:Rn bk [sn] n=0:=by have:=zf c;lia
  refine ⟨(by show 0<=sizeLine;decide),λp hp=>q p [] _ (S3.free hp) (kpS (S3.trans (ai hp _))) (hTb.same (S3.trans (ai hp _))) ad ?_⟩
  rw [Gt,hV (by lia)]
  exact .nil
 have hpos:0<Rn bk [sn] n:=by
  rcases De (Rn bk [sn] n)with e | e
  ·exact absurd (by rw [e];rfl) c
  ·exact e
 have hrin:RowIn bk [sn]:=by
  by_cases z:RowIn bk [sn]
  ·exact z
  ·rw [sY hok.w z]at hpos;exact absurd hpos (AG _)
 refine λmd hmd=>?_
 have s4:=ai hmd (.dP [])
 have g4:(upd H3 md (.dP [])) md=some (.dP []):=ad
 have S4:=S3.trans s4
 have hmd0:H md=none:=S3.free hmd
 generalize upd H3 md (.dP [])=H4 at s4 g4 S4 ⊢
 have hT4:=hTb.same S4
 have nT: ∀ {b:Addr} {o:HO} {Hx:Hp},TabN tbA Hx->Hx b=some o->(∀ t,o≠ .tbl t)->b≠tbA:=λh0 h1 h2 z=>by
  obtain ⟨t,ht⟩:=h0.tbl
  rw [z,ht]at h1
  exact h2 t (zj h1).symm
 have nmT:=nT hT4 g4 λt z=>by cases z
 refine ⟨_,rfl,_,rfl,_,rfl,bv,bk,d,kvs,.ref tb,([sn],n),1000,n,rfl,hB.mono (aL S4),hok.w,s4 _ _ gd3,hk1,hc,hn,⟨tb,ta,rfl,s4 _ _ g3,s4 _ _ g23⟩,⟨hrin,yV _,hpos,h1000⟩,hT4,λp ys L H5 hp k5 hT5 gp hP hNd hpw hL=>?_⟩
 refine ⟨p,rfl,⟨_,SqL.of gp⟩,?_⟩
 have lP:=ze hP
 have K5:Kp tbA H H5:=λb o h hb=>k5 _ _ (S4 _ _ h) hb
 have npm:p≠md:=λz=>by rw [z,g4]at hp;cases hp
 have gm5:=k5 _ _ g4 nmT
 have tkK: ∀ {Ha Hb:Hp},TabN tbA Ha->Kp tbA Ha Hb->TK Ha Hb:=λh0 k b xs e=>k _ _ e (nT h0 e λt z=>by cases z)
 have tk5:=tkK hT4 k5
 refine bL (xs:=ys) (λi U H'=>i<=ys.length/\ ∃ o6 kvM,U=[some bv,some (.str sn),some (.int ((n:Nat):Int)),some (.ref d),some (.ref tb),some (.ref md),o6]/\Kp md H5 H'/\H' md=some (.dP kvM)/\MadeAt bk H' kvM (L.take i)/\kvM.length<=i)
  ⟨y9 _,none,[],rfl,λ_ _ h _=>h,gm5,⟨λx v e=>(by cases e),λx hx=>(by rw [BQ]at hx;cases hx)⟩,yV _⟩ (λi U H' _ h=>by obtain ⟨_,_,_,_,k,_⟩:=h;exact SqL.of (k _ _ gp npm)) ?_ ?_
 ·rintro i x U H6 hx ⟨_,o6,kvM,rfl,k6,gm6,hM,lM⟩
  have hil:i<ys.length:=(yX.mp hx).1
  obtain ⟨kq,hkq,hKP⟩:=aD hP hx
  have tk6:TK H5 H6:=λb xs e=>k6 _ _ e λz=>by rw [z,gm5]at e;cases e
  have hB6:=hB.mono ((aL S4).trans (tk5.trans tk6))
  have hKP6:=hKP.mono tk6
  refine ⟨_,rfl,_,rfl,_,rfl,bv,bk,x,md,kvM,kq,n,L.take i,rfl,hB6,hok,hKP6,hNd.gd _ (y3 hkq),hn,gm6,hM,λy hy=>hNd.gd y (Ax hy),hNd.ahead hok.w hpw hkq,λpm zs H7 hpm s7 gpm hz=>?_⟩
  obtain ⟨xb,xc,rfl,hxb,hxc⟩:=hKP6
  have gm7:=s7 _ _ gm6
  refine ⟨_,rfl,_,rfl,md,_,rfl,DPut.p gm7 (t:=rk kq.1) (k:=Sum.inl ((kq.2:Nat):Int)) (s7 _ _ hxb) (by rw [dI];exact s7 _ _ hxc) (ay (by lia)),hil,_,_,rfl,λb o h hb=>?_,ad,?_,?_⟩
  ·rw [ak hb];exact s7 _ _ (k6 _ _ h hb)
  ·rw [zz,hkq]
   exact (hM.same s7).put gm7 gpm hz
  ·have:=bx kvM (rk kq.1,Sum.inl ((kq.2:Nat):Int)) (.ref pm)
   lia
 ·rintro U H6 ⟨_,o6,kvM,rfl,k6,gm6,hM,lM⟩
  rw [<- lP,zG]at hM
  have hT6:TabN tbA H6:=by
   rcases hT5 with h | ⟨c1,o1,h1,h2,h3,h4⟩
   ·exact .inl (k6 _ _ h (zT nmT))
   ·exact .inr ⟨c1,o1,k6 _ _ h1 (zT nmT),h2,k6 _ _ h3 (λz=>by rw [z,gm5]at h3;cases h3),h4⟩
  have tk6:TK H5 H6:=λb xs e=>k6 _ _ e λz=>by rw [z,gm5]at e;cases e
  have tk46:=tk5.trans tk6
  obtain ⟨v,hv⟩:=hM.dm _ hNd.tp
  obtain ⟨_,la,zs,rfl,gla,hPz⟩:=hM.vl _ _ hv
  have lz:=ze hPz
  rw [gJ]at lz
  have lz:Rn bk [sn] n=zs.length:=lz
  refine ⟨_,rfl,_,rfl,md,.ref la,rfl,by rw [<- hv];exact DGet.p gm6 (t:=rk [sn]) (k:=Sum.inl ((n:Nat):Int)) (tk46 _ _ (s4 _ _ g3)) (tk46 _ _ (s4 _ _ g23)),la,rfl,⟨_,SqL.of gla⟩,?_⟩
  refine eV (by lia) hPz (el gla) (eh gla) (λi H v H' _=>gQ gla i H v H') (λH ts z=>TreeR H n (ts.headD .non) z) (λk h=>h.mono k) ?_ ?_
  ·rintro ts z H7 k hts ⟨tr,a,vs,rfl,ga,hvs⟩ s7 hk
   obtain ⟨x,ps,rfl⟩:=dC hts
   cases hvs with
   | cons h t=>
    cases t
    refine ⟨_,rfl,a,_,0,_,rfl,rfl,SqT.of (s7 _ _ ga),db,hk _ _ (λ_ _ h=>h) ⟨tr.mem _ yT,?_⟩⟩
    exact RepH.same s7 h
  ·intro p2 ws H7 hp2 s7 g7 hw
   have hp20:H p2=none:=by
    cases hh:H p2 with
    | none=>rfl
    | some o=>
     by_cases c:p2=tbA
     ·obtain ⟨t,ht⟩:=hT6.tbl
      rw [c,ht]at hp2
      cases hp2
     ·rw [k6 _ _ (K5 _ _ hh c) (aj hh hmd0)]at hp2;cases hp2
   exact q p2 ws H7 hp20 (λb o h hb=>s7 _ _ (k6 _ _ (K5 _ _ h hb) (aj h hmd0))) (hT6.same s7) g7 (cR _ hw)
noncomputable def cp (s:Str):List Nat:=s.cps.toList
theorem kC (a b:Str):cp (a++b)=cp a++cp b:=by
 show (a.cps++b.cps).toList=_
 rw [zH]
 rfl
theorem wE {a b:Str} (h:cp a=cp b):a=b:=by
 obtain ⟨⟨x⟩⟩:=a
 obtain ⟨⟨y⟩⟩:=b
 have:x=y:=h
 rw [this]
noncomputable def jn:List (List Nat)->List Nat
 | []=>[]
 | [x]=>x
 | x::y::r=>x++44::32::jn (y::r)
theorem oH: ∀ ts:List Str,cp (Str.join ", " ts)=jn (ts.map cp)
 | []=>rfl
 | [x]=>rfl
 | x::y::r=>by
  show cp (x++", "++Str.join ", " (y::r))=cp x++44::32::jn ((y::r).map cp)
  rw [kC,kC,oH (y::r),zm]
  rfl
theorem lL {c:Nat}: ∀ {a b r s:List Nat},c∉a->c∉b->a++c::r=b++c::s->a=b/\r=s
 | [],[],r,s,_,_,h=>⟨rfl,(zD h).2⟩
 | [],y::b,r,s,_,hb,h=>absurd (za.mpr (.inl (zD h).1)) hb
 | x::a,[],r,s,ha,_,h=>absurd (za.mpr (.inl (zD h).1.symm)) ha
 | x::a,y::b,r,s,ha,hb,h=>by
  obtain ⟨h1,h2⟩:=zD h
  obtain ⟨h3,h4⟩:=lL (λz=>ha (yY _ z)) (λz=>hb (yY _ z)) h2
  exact ⟨by rw [h1,h3],h4⟩
theorem km {c:Nat} (h:i9 c=true):97<=c/\c<=122:=zf h
theorem vW:(List.range 26).all (λn=>Builtin.Str.reprChar 39 (n+97)==[n+97])=true:=by decide +kernel
theorem tZ {c:Nat} (h:i9 c=true):Builtin.Str.reprChar 39 c=[c]:=by
 obtain ⟨h1,h2⟩:=km h
 have:=eq_of_beq (Az.mp vW (c-97) (zI.mpr (by lia)))
 rwa [show c-97+97=c by lia]at this
theorem tV {x:Str} (h: ∀ c∈cp x,i9 c=true):reprQuote x=39:=by
 have:x.cps.contains 39=false:=by
  cases e:x.cps.contains 39 with
  | false=>rfl
  | true=>
   have:=km (h 39 (Array.mem_toList_iff.mpr (Array.contains_iff_mem.mp e)))
   lia
 unfold reprQuote
 rw [this]
 rfl
theorem oy: ∀ (l:List Nat) (acc:Array Nat),(∀ c∈l,i9 c=true)->(l.foldl (λout c=>out++(Builtin.Str.reprChar 39 c).toArray) acc).toList=acc.toList++l
 | [],acc,_=>(zy _).symm
 | c::r,acc,h=>by
  rw [List.foldl_cons,oy r _ λx hx=>h x (yY _ hx),tZ (h c yT),zH,zm]
  rfl
theorem uP {x:Str} (h: ∀ c∈cp x,i9 c=true):cp (reprText x)=39::(cp x++[39]):=by
 unfold reprText
 rw [tV h]
 show ((Array.foldl _ #[39] x.cps).push 39).toList=_
 rw [Bs,<- Array.foldl_toList,oy x.cps.toList _ h]
 rfl
theorem ja {x:Str} (h:cj x=true): ∀ c∈cp x,i9 c=true:=Az.mp (C1.mp h).2
theorem qz (ts:List Str):cp (tupleText ts)=40::(jn (ts.map cp)++(if ts.length=1 then [44,41]else [41])):=by
 unfold tupleText
 rw [kC,kC,oH]
 by_cases c:ts.length=1
 ·rw [yW c,yW (by rw [c];rfl)];rfl
 ·rw [yU c,yU (by simpa using c)];rfl
mutual
noncomputable def thD:Th->PyData
 | .tup l=>.tuple (da l)
 | .str x=>.str x
 | .int i=>.int i
 | .bl b=>.bool b
 | .lst=>.none
 | .dic=>.none
 | .non=>.none
noncomputable def da:List Th->List PyData
 | []=>[]
 | t::r=>thD t::da r
end
noncomputable def tx (t:Th):List Nat:=cp (thD t).shown
theorem qw: ∀ l:List Th,(PyData.shownAll (da l)).map cp=l.map tx
 | []=>by simp only [da,PyData.shownAll,List.map_nil]
 | t::r=>by
  have:=qw r
  simp only [da,PyData.shownAll,zQ]
  rw [this]
  rfl
theorem oq: ∀ l:List Th,(PyData.shownAll (da l)).length=l.length
 | []=>by simp only [da,PyData.shownAll,BK]
 | t::r=>by
  have:=oq r
  simp only [da,PyData.shownAll,zn]
  rw [this]
noncomputable def fn (l:List Th):List Nat:=if l.length=1 then [44,41]else [41]
theorem jP {x:Str} (h:cj x=true) (ps:List Th):tx (nod x ps)=40::39::(cp x++39::44::32::40::(jn (ps.map tx)++(fn ps++[41]))):=by
 have e:(thD (nod x ps)).shown=tupleText [reprText x,tupleText (PyData.shownAll (da ps))]:=by
  show (thD (.tup [.str x,.tup ps])).shown=_
  simp only [thD,da,PyData.shown,PyData.shownAll]
 show cp (thD (nod x ps)).shown=_
 rw [e,qz]
 show 40::((cp (reprText x)++44::32::cp (tupleText (PyData.shownAll (da ps))))++[41])=_
 rw [qz,uP (ja h),qw,oq]
 unfold fn
 simp [zm]
noncomputable def TrW:Nat->Th->Prop
 | 0,_=>False
 | n+1,t=> ∃ x ps,t=nod x ps/\cj x=true/\ ∀ p∈ps,TrW n p
theorem TrW.hd {n:Nat} {t:Th} (h:TrW n t): ∃ r,tx t=40::r:=by
 cases n with
 | zero=>exact h.elim
 | succ n=>
  obtain ⟨x,ps,rfl,hw,_⟩:=h
  exact ⟨_,jP hw ps⟩
def Pre (n:Nat):Prop:= ∀ a b r s,TrW n a->TrW n b->tx a++r=tx b++s->a=b/\r=s
theorem si {n:Nat} (ih:Pre n): ∀ (l m:List Th) (r s:List Nat),l≠[]->m≠[]->(∀ p∈l,TrW n p)->(∀ p∈m,TrW n p)->jn (l.map tx)++41::r=jn (m.map tx)++41::s->l=m/\r=s
 | [],_,_,_,h,_,_,_,_=>absurd rfl h
 | _,[],_,_,_,h,_,_,_=>absurd rfl h
 | [a],[b],r,s,_,_,hl,hm,h=>by
  obtain ⟨rfl,h2⟩:=ih a b _ _ (hl a yT) (hm b yT) h
  exact ⟨rfl,(zD h2).2⟩
 | [a],b::c::m,r,s,_,_,hl,hm,h=>by
  have h:tx a++41::r=(tx b++44::32::jn ((c::m).map tx))++41::s:=h
  rw [zm]at h
  obtain ⟨_,h2⟩:=ih a b _ _ (hl a yT) (hm b yT) h
  exact absurd (zD h2).1 (by decide)
 | b::c::m,[a],r,s,_,_,hl,hm,h=>by
  have h:(tx b++44::32::jn ((c::m).map tx))++41::r=tx a++41::s:=h
  rw [zm]at h
  obtain ⟨_,h2⟩:=ih b a _ _ (hl b yT) (hm a yT) h
  exact absurd (zD h2).1 (by decide)
 | a::d::l,b::c::m,r,s,_,_,hl,hm,h=>by
  have h:(tx a++44::32::jn ((d::l).map tx))++41::r=(tx b++44::32::jn ((c::m).map tx))++41::s:=h
  rw [zm,zm]at h
  obtain ⟨rfl,h2⟩:=ih a b _ _ (hl a yT) (hm b yT) h
  have h2:jn ((d::l).map tx)++41::r=jn ((c::m).map tx)++41::s:=(zD (zD h2).2).2
  obtain ⟨h3,h4⟩:=si ih (d::l) (c::m) r s (by simp) (by simp) (λp hp=>hl p (yY _ hp)) (λp hp=>hm p (yY _ hp)) h2
  exact ⟨by rw [h3],h4⟩
theorem wB {n:Nat} (ih:Pre n): ∀ (l m:List Th) (r s:List Nat),(∀ p∈l,TrW n p)->(∀ p∈m,TrW n p)->jn (l.map tx)++(fn l++r)=jn (m.map tx)++(fn m++s)->l=m/\r=s:=by
 have two: ∀ (a d:Th) (l:List Th) (r:List Nat),jn ((a::d::l).map tx)++(fn (a::d::l)++r)=jn ((a::d::l).map tx)++41::r:=λa d l r=>by
  rw [show fn (a::d::l)=[41]from yU (by simp)];rfl
 have hd: ∀ (b:Th) (m:List Th) (s:List Nat),TrW n b-> ∃ u,jn ((b::m).map tx)++s=40::u:=λb m s hb=>by
  obtain ⟨u,e⟩:=hb.hd
  cases m with
  | nil=>exact ⟨u++s,by show tx b++s=_;rw [e];rfl⟩
  | cons c m=>exact ⟨_,by show (tx b++_)++s=_;rw [e];rfl⟩
 intro l m r s hl hm h
 match l,m,hl,hm,h with
 | [],[],_,_,h=>exact ⟨rfl,(zD h).2⟩
 | [],b::m,_,hm,h=>
  obtain ⟨u,e⟩:=hd b m (fn (b::m)++s) (hm b yT)
  rw [e]at h
  exact absurd (zD (show (41::r)=40::u from h)).1 (by decide)
 | b::m,[],hm,_,h=>
  obtain ⟨u,e⟩:=hd b m (fn (b::m)++r) (hm b yT)
  rw [e]at h
  exact absurd (zD (show 40::u=(41::s)from h)).1 (by decide)
 | [a],[b],hl,hm,h=>
  obtain ⟨rfl,h2⟩:=ih a b _ _ (hl a yT) (hm b yT) (show tx a++(44::41::r)=tx b++(44::41::s)from h)
  exact ⟨rfl,(zD (zD h2).2).2⟩
 | [a],b::c::m,hl,hm,h=>
  rw [two]at h
  have h:tx a++(44::41::r)=(tx b++44::32::jn ((c::m).map tx))++41::s:=h
  rw [zm]at h
  obtain ⟨_,h2⟩:=ih a b _ _ (hl a yT) (hm b yT) h
  exact absurd (zD (zD h2).2).1 (by decide)
 | b::c::m,[a],hm,hl,h=>
  rw [two]at h
  have h:(tx b++44::32::jn ((c::m).map tx))++41::r=tx a++(44::41::s):=h
  rw [zm]at h
  obtain ⟨_,h2⟩:=ih b a _ _ (hm b yT) (hl a yT) h
  exact absurd (zD (zD h2).2).1 (by decide)
 | a::d::l,b::c::m,hl,hm,h=>
  rw [two,two]at h
  exact si ih _ _ _ _ (by simp) (by simp) hl hm h
theorem qv: ∀ n,Pre n
 | 0=>λa _ _ _ h=>h.elim
 | n+1=>λa b r s ⟨x,ps,e1,hx,hp⟩ ⟨y,us,e2,hy,hu⟩ h=>by
  subst e1 e2
  rw [jP hx,jP hy]at h
  have no: ∀ {z:Str},cj z=true->39∉cp z:=λhz m=>by have:=km (ja hz 39 m);lia
  have h:cp x++39::((44::32::40::(jn (ps.map tx)++(fn ps++[41])))++r)=cp y++39::((44::32::40::(jn (us.map tx)++(fn us++[41])))++s):=by
   have:=(zD (zD h).2).2
   simpa [zm]using this
  obtain ⟨h1,h2⟩:=lL (no hx) (no hy) h
  have h3:jn (ps.map tx)++(fn ps++(41::r))=jn (us.map tx)++(fn us++(41::s)):=by
   have:=(zD (zD (zD h2).2).2).2
   simpa [zm]using this
  obtain ⟨rfl,h4⟩:=wB (qv n) ps us _ _ hp hu h3
  rw [wE h1]
  exact ⟨rfl,(zD h4).2⟩
theorem vR {n:Nat} {a b:Th} (ha:TrW n a) (hb:TrW n b) (h:(thD a).shown=(thD b).shown):a=b:=(qv n a b [] [] ha hb (by unfold tx;rw [h])).1
theorem TrW.up: ∀ {n:Nat} {t:Th},TrW n t->TrW (n+1) t
 | 0,_,h=>h.elim
 | n+1,_,⟨x,ps,e,hw,hp⟩=>⟨x,ps,e,hw,λp hm=>TrW.up (hp p hm)⟩
theorem TrW.le {n m:Nat} {t:Th} (h:TrW n t) (l:n<=m):TrW m t:=by
 induction l with
 | refl=>exact h
 | step _ ih=>exact ih.up
theorem l5 {bk:Bk} (hw: ∀ fr∈bk.forms,cj fr.name=true): ∀ (f:Nat) (row:List Str) (t:Nat) (ts:List Th),ts∈Gf bk f row t-> ∀ x∈ts,TrW t x:=by
 intro f
 induction f with
 | zero=>intro row t ts h;cases h
 | succ f ih=>
  intro row t ts h x hx
  match row,h with
  | [],h=>
   have h:ts∈(if t=0 then [[]]else []):=h
   by_cases c:t=0
   ·rw [yW c]at h
    rw [y0.mp h]at hx
    cases hx
   ·rw [yU c]at h;cases h
  | [s],h=>
   have h:ts∈(if t=0 then []else _):=h
   by_cases c:t=0
   ·rw [yW c]at h;cases h
   ·rw [yU c]at h
    obtain ⟨fr,h1,h2⟩:=zU.mp h
    obtain ⟨us,h3,rfl⟩:=zd.mp h2
    rw [y0.mp hx]
    obtain ⟨k,rfl⟩: ∃ k,t=k+1:=⟨t-1,by lia⟩
    exact ⟨fr.name,us,rfl,hw fr (zN.mp h1).1,ih _ _ _ h3⟩
  | s::s'::r,h=>
   obtain ⟨j,h1,h2⟩:=zU.mp h
   obtain ⟨a,h3,h4⟩:=zU.mp h2
   obtain ⟨o,h5,rfl⟩:=zd.mp h4
   have h1:=zI.mp h1
   rcases y8.mp hx with hx | hx
   ·exact (ih _ _ _ h3 x hx).le (by lia)
   ·exact (ih _ _ _ h5 x hx).le (by lia)
theorem kT {P:Program} {w:World} {H:Hp} {h:Heap} (ok:HOk P w H h): ∀ {n:Nat} {t:Th} {z:V} {u:Value},Tr t->RepH H n t z->RelV z u-> ∃ as,Reads h u (thD t) as
 | 0,_,_,_,_,r,_=>r.elim
 | n+1,_,_,u,.str x,⟨e,_⟩,ru=>by
  subst e
  obtain ⟨t,rfl⟩:=(show ∃ t,u=Value.str x t from ru)
  simp only [thD]
  exact ⟨_,.str x t⟩
 | n+1,_,_,u,.tup l hl,⟨a,vs,e,h1,h2⟩,ru=>by
  subst e
  cases (show u=Value.ref a from ru)
  obtain ⟨_,its,r,o,g1,g2,m,g3⟩:=(show ObjOk P w H h a (.tup vs)from ok a _ h1)
  have all: ∀ {l:List Th} {vs:List V} {us:List Value},(∀ t∈l,Tr t)->Paired (RepH H n) l vs->Vals vs us-> ∃ as,ReadsAll h us (da l) as:=by
   intro l vs us hl hp hv
   induction hp generalizing us with
   | nil=>
    cases hv
    simp only [da]
    exact ⟨_,.nil⟩
   | cons hq _ ih=>
    cases hv with
    | cons rv tv=>
     obtain ⟨as,h1⟩:=kT ok (hl _ yT) hq rv
     obtain ⟨bs,h2⟩:=ih (λt ht=>hl t (yY _ ht)) tv
     simp only [da]
     exact ⟨_,.cons h1 h2⟩
  obtain ⟨as,ha⟩:=all hl h2 r
  simp only [thD]
  exact ⟨_,.tuple g1 g2 g3 (by simpa using ha)⟩
theorem vQ: ∀ {t:Th},Tr t->(thD t).showable=true/\(thD t).hasDict=false:=by
 intro t h
 induction h with
 | str x=>simp only [thD];exact ⟨by simp [PyData.showable],by simp [PyData.hasDict]⟩
 | tup l _ ih=>
  have all: ∀ l:List Th,(∀ t∈l,(thD t).showable=true/\(thD t).hasDict=false)->PyData.showableAll (da l)=true/\PyData.hasDictAll (da l)=false:=by
   intro l
   induction l with
   | nil=>intro _;simp only [da];exact ⟨by simp [PyData.showableAll],by simp [PyData.hasDictAll]⟩
   | cons a r ih=>
    intro h
    obtain ⟨h1,h2⟩:=ih λt ht=>h t (yY _ ht)
    obtain ⟨h3,h4⟩:=h a yT
    simp only [da,PyData.showableAll,PyData.hasDictAll,h1,h2,h3,h4]
    exact ⟨rfl,rfl⟩
  obtain ⟨h1,h2⟩:=all l ih
  simp only [thD,PyData.showable,PyData.hasDict]
  exact ⟨h1,h2⟩
theorem sL {H:Hp}: ∀ {n:Nat} {t:Th} {z:V},Tr t->RepH H n t z->(thD t).depth<=n
 | 0,_,_,_,r=>r.elim
 | n+1,_,_,.str x,_=>by simp only [thD,PyData.depth];exact y9 _
 | n+1,_,_,.tup l hl,⟨a,vs,e,h1,h2⟩=>by
  have all: ∀ {l:List Th} {vs:List V},(∀ t∈l,Tr t)->Paired (RepH H n) l vs->PyData.depthAll (da l)<=n:=by
   intro l vs hl hp
   induction hp with
   | nil=>simp only [da,PyData.depthAll];exact y9 _
   | cons hq _ ih=>
    have h1:=sL (hl _ yT) hq
    have h2:=ih λt ht=>hl t (yY _ ht)
    simp only [da,PyData.depthAll]
    lia
  have:=all hl h2
  simp only [thD,PyData.depth]
  lia
noncomputable def va:List V->Hp->VK->Prop:=λxs H Q=> ∃ n th z,xs=[z]/\TreeR H n th z/\n<=24/\(∃ l,th=.tup l)/\(tx th).length<=1000/\Q (.str (thD th).shown) H
theorem qc {X:Cx} {k:Nat} (hr:Room k X.A):cG X (.builtin "repr") va:=by
 intro pins s U H xs us Q I r h
 obtain ⟨n,th,z,rfl,⟨tr,hR⟩,hn,⟨l,rfl⟩,hlen,q⟩:=h
 obtain ⟨u,rfl,ru⟩:=fG r
 obtain ⟨as,hrd⟩:=kT I.hok tr hR ru
 have hd:=sL tr hR
 obtain ⟨hs,hh⟩:=vQ tr
 cases n with
 | zero=>exact hR.elim
 | succ n=>
  obtain ⟨a,vs,rfl,_⟩:=(show RepH H (2*n+1+1) (.tup l) z from hR)
  cases (show u=Value.ref a from ru)
  have hun:=hr.un
  have hsz:(thD (.tup l)).shown.length<=sizeLine:=zc (show (tx (.tup l)).length<=1000 from hlen) (by decide)
  exact repr_of_reads' hrd hs (PyData.noDict_hsm hh) hr.gd (by lia) (λ_ _ e=>e) (λh' u tk hk=>⟨.str _,H,I.kept hk,⟨u,rfl⟩,q⟩) hsz
structure ye (K:W.Frag) (mg:Str->Option Value) (C CB D0 D1 D2 D3 D4 D5 D6 D7 D8 D9 D10 D11 D12 D13 D14 D15 D16:Addr):Prop where
 d0:mg "NoBook"=some (.ref D0)
 d1:mg "NoBuild"=some (.ref D1)
 d2:mg "NoChange"=some (.ref D2)
 d3:mg "NoFit"=some (.ref D3)
 d4:mg "NoGiven"=some (.ref D4)
 d5:mg "NoName"=some (.ref D5)
 d6:mg "NoPlace"=some (.ref D6)
 d7:mg "NoPlain"=some (.ref D7)
 d8:mg "NoPrice"=some (.ref D8)
 d9:mg "NoRow"=some (.ref D9)
 d10:mg "NoSpot"=some (.ref D10)
 d11:mg "NoText"=some (.ref D11)
 d12:mg "NoTree"=some (.ref D12)
 d13:mg "NoWorth"=some (.ref D13)
 d14:mg "Ring"=some (.ref D14)
 d15:mg "Tangled"=some (.ref D15)
 d16:mg "TooGreat"=some (.ref D16)
 c:mg "TooMany"=some (.ref C)
 cb:mg "BoughError"=some (.ref CB)
 ve:mg "ValueError"=none
 exc:ExC K C
 cac:CaC K C CB
 no:PySem.W.kitAny K (.ref C) ([D0,D1,D2,D3,D4,D5,D6,D7,D8,D9,D10,D11,D12,D13,D14,D15,D16].map Value.ref)=some false
 self:PySem.W.kitOne K (.ref C) (.ref C)=some true
 val:PySem.W.kitOne K (.ref C) (.type "ValueError")=some true
inductive mh (tbA:Addr) (vs:List V) (H:Hp) (Q:VK) (E_:XK):Prop
 | mk: ∀ bv bk sn n,(vs=[bv,.str sn,.int ((n:Nat):Int)])->(RepB H bk bv)->(BkG bk)->(n<=24)->(TabN tbA H)->((Rn bk [sn] n<=1000-> ∀ p zs c H',H p=none->Kp tbA H H'->TabN tbA H'->H' p=some (.lst zs)->Paired (TreeR H' n) (Gt bk sn n) zs->H' c=some (.tup [.str "told",.ref p])->Q (.ref c) H'))->((1000<Rn bk [sn] n-> ∀ c H',Same H H'->H' c=some (.tup [.str "refused",.bl true])->Q (.ref c) H'))->mh tbA vs H Q E_
abbrev x0:List Str:=["book","sort","size","found","caught","e"]
theorem scTold:aI x0 ["book","sort","size"] (am qO):=fsc
theorem ui (F:Fun K "_law_told" "_law_told" qO f fd) (hisi:mg "isinstance"=none) (h:ye K mg C CB D0 D1 D2 D3 D4 D5 D6 D7 D8 D9 D10 D11 D12 D13 D14 D15 D16)
  (GB:Cl P w K mg base (CX1 P w C) 5 g gd ["book","sort","size"] (fI C tbA) "trees_of"):
  FnOk P w K mg base CX0 6 f fd ["book","sort","size"] (mh tbA):=by
 refine F.ok scTold (λvs H Q E h=>?_) (λcdv A outer s H vs Q E hr hq=>?_)
 ·obtain ⟨bv,bk,sn,n,rfl,_⟩:=h
  rfl
 obtain ⟨bv,bk,sn,n,rfl,hB,hok,hn,hTb,q1,q2⟩:=hq
 refine ⟨_,ah (ao (i:=3) scTold.nd rfl (Or.inl rfl) cC)
  (ah (ao (i:=4) scTold.nd rfl (Or.inl rfl) cC)
  (ah (ud (j:=3) (i:=5) (λ_ _ z=>z) rfl rfl scTold.nd GB.F hr rfl GB.m GB.c GB.b (aa (pv 0) (aa (pv 1) (aa (pv 2) ae))) rfl (Or.inl rfl) rfl rfl rfl h.cb h.cac (λx=>al (ao (i:=4) scTold.nd rfl (Or.inl rfl) (pv 5))))
  (ah (a8 (aF ki (pv 4) cC (aG _)) (al (aH (aN (aa br (aa (pv 3) ae))))) aM)
  (ah (a8 (fh (ax qf rfl hisi (by decide +kernel) (aa (pv 4) (aa (aN (pac (bf (v:=.ref D0) rfl h.d0 rfl) (pac (bf (v:=.ref D1) rfl h.d1 rfl) (pac (bf (v:=.ref D2) rfl h.d2 rfl) (pac (bf (v:=.ref D3) rfl h.d3 rfl) (pac (bf (v:=.ref D4) rfl h.d4 rfl) (pac (bf (v:=.ref D5) rfl h.d5 rfl) (pac (bf (v:=.ref D6) rfl h.d6 rfl) (pac (bf (v:=.ref D7) rfl h.d7 rfl) (pac (bf (v:=.ref D8) rfl h.d8 rfl) (pac (bf (v:=.ref D9) rfl h.d9 rfl) (pac (bf (v:=.ref D10) rfl h.d10 rfl) (pac (bf (v:=.ref D11) rfl h.d11 rfl) (pac (bf (v:=.ref D12) rfl h.d12 rfl) (pac (bf (v:=.ref D13) rfl h.d13 rfl) (pac (bf (v:=.ref D14) rfl h.d14 rfl) (pac (bf (v:=.ref D15) rfl h.d15 rfl) (pac (bf (v:=.ref D16) rfl h.d16 rfl) ae)))))))))))))))))) ae)))) (al (aH (aN (aa br (aa cC ae))))) aM)
  (al (aH (aN (aa br (aa (rq (ax lV rfl hisi (by decide +kernel) (aa (pv 4) (aa (bf (v:=.ref C) rfl h.c rfl) ae)))
   (mG (ax lV rfl hisi (by decide +kernel) (aa (pv 4) (aa (fQ (v:=.ty "ValueError") rfl h.ve (by decide +kernel) rfl) ae))))) ae))))))))),?_⟩
 refine ⟨_,rfl,_,rfl,_,rfl,bv,bk,sn,n,rfl,hB,hok,hn,hTb,λhw H1 S1 x hx=>?_,λhw p zs H1 hp k1 t1 gp hz=>?_⟩
 rotate_left
 ·refine ⟨_,rfl,rfl,_,rfl,?_⟩
  refine bB ⟨_,rfl,(by show 2<=sizeLine;decide),λc hc=>?_⟩
  have s2:=ai hc (.tup [.str "told",.ref p])
  exact q1 hw p zs c _ hp (λb o h hb=>s2 _ _ (k1 _ _ h hb)) (t1.same s2) (s2 _ _ gp) (Paired.mapP hz λ_ _ h=>h.mono (aL s2)) ad
 ·have S2:=S1.trans (ai hx (ExO x C))
  have g2:(upd H1 x (ExO x C)) x=some (ExO x C):=ad
  generalize upd H1 x (ExO x C)=H2 at S2 g2 ⊢
  refine ⟨_,rfl,_,rfl,rfl,_,rfl,?_⟩
  refine cE ?_
  refine ⟨_,rfl,(by show 17<=sizeLine;decide),λp hp=>?_⟩
  have s3:=ai hp (.tup [V.ref D0,V.ref D1,V.ref D2,V.ref D3,V.ref D4,V.ref D5,V.ref D6,V.ref D7,V.ref D8,V.ref D9,V.ref D10,V.ref D11,V.ref D12,V.ref D13,V.ref D14,V.ref D15,V.ref D16])
  have g3:(upd H2 p (.tup [V.ref D0,V.ref D1,V.ref D2,V.ref D3,V.ref D4,V.ref D5,V.ref D6,V.ref D7,V.ref D8,V.ref D9,V.ref D10,V.ref D11,V.ref D12,V.ref D13,V.ref D14,V.ref D15,V.ref D16])) p=some (.tup [V.ref D0,V.ref D1,V.ref D2,V.ref D3,V.ref D4,V.ref D5,V.ref D6,V.ref D7,V.ref D8,V.ref D9,V.ref D10,V.ref D11,V.ref D12,V.ref D13,V.ref D14,V.ref D15,V.ref D16]):=ad
  have gx:=s3 _ _ g2
  generalize upd H2 p (.tup [V.ref D0,V.ref D1,V.ref D2,V.ref D3,V.ref D4,V.ref D5,V.ref D6,V.ref D7,V.ref D8,V.ref D9,V.ref D10,V.ref D11,V.ref D12,V.ref D13,V.ref D14,V.ref D15,V.ref D16])=H3 at s3 g3 gx ⊢
  refine ⟨x,C,p,[D0,D1,D2,D3,D4,D5,D6,D7,D8,D9,D10,D11,D12,D13,D14,D15,D16],false,rfl,gx,h.exc,g3,h.no,_,rfl,?_⟩
  refine cE ?_
  refine ⟨_,rfl,x,C,.ref C,.ref C,true,rfl,gx,h.exc,λu z=>z,h.self,_,rfl,?_⟩
  refine bB ?_
  refine ⟨_,rfl,x,C,.ty "ValueError",.type "ValueError",true,rfl,gx,h.exc,λu z=>z,h.val,?_⟩
  refine ⟨(by show 2<=sizeLine;decide),λc hc=>?_⟩
  exact q2 hw c _ (S2.trans (s3.trans (ai hc _))) ad
theorem jG {c:Th->Option (Srt×Nat)}: ∀ (l:List Th) (qs:List Srt) (i:Nat),bA c (l.take i) (qs.take i)=none->bA c l qs=none
 | [],[],i,h=>by rw [Do,Do]at h;cases h
 | [],q::qs,i,h=>rfl
 | t::r,[],i,h=>rfl
 | t::r,q::qs,0,h=>by cases h
 | t::r,q::qs,i+1,h=>by
  have h:(match c t with | some (s,k)=>if s.name=q.name then (bA c (r.take i) (qs.take i)).map (k+ ·)else none | none=>none)=none:=h
  show (match c t with | some (s,k)=>if s.name=q.name then (bA c r qs).map (k+ ·)else none | none=>none)=none
  cases hc:c t with
  | none=>rfl
  | some p=>
   obtain ⟨s,k⟩:=p
   rw [hc]at h
   have h:(if s.name=q.name then (bA c (r.take i) (qs.take i)).map (k+ ·)else none)=none:=h
   show (if s.name=q.name then (bA c r qs).map (k+ ·)else none)=none
   by_cases e:s.name=q.name
   ·rw [yW e]at h ⊢
    rw [jG r qs i (Option.map_eq_none_iff.mp h)]
    rfl
   ·rw [yU e]
noncomputable def gU (c:Th->Option (Srt×Nat)) (t:Th) (q:Srt):Option Nat:=match c t with
 | some (s,k)=>if s.name=q.name then some k else none
 | none=>none
theorem jF {c:Th->Option (Srt×Nat)} (t:Th) (q:Srt): ∀ (l:List Th) (qs:List Srt),l.length=qs.length->bA c (l++[t]) (qs++[q])=(bA c l qs).bind λS=>(gU c t q).map (S+ ·)
 | [],[],_=>by
  show (match c t with | some (s,k)=>if s.name=q.name then (some 0).map (k+ ·)else none | none=>none)=(gU c t q).map (0+ ·)
  unfold gU
  cases c t with
  | none=>rfl
  | some p=>
   obtain ⟨s,k⟩:=p
   by_cases e:s.name=q.name
   ·show (if s.name=q.name then (some 0).map (k+ ·)else none)=(if s.name=q.name then some k else none).map (0+ ·)
    rw [yW e,yW e]
    show some (k+0)=some (0+k)
    rw [Nat.add_comm]
   ·show (if s.name=q.name then (some 0).map (k+ ·)else none)=(if s.name=q.name then some k else none).map (0+ ·)
    rw [yU e,yU e]
    rfl
 | u::r,p::ps,h=>by
  have ih:=jF (c:=c) t q r ps (by simpa using h)
  show (match c u with | some (s,k)=>if s.name=p.name then (bA c (r++[t]) (ps++[q])).map (k+ ·)else none | none=>none)=Option.bind (match c u with | some (s,k)=>if s.name=p.name then (bA c r ps).map (k+ ·)else none | none=>none) _
  rw [ih]
  cases c u with
  | none=>rfl
  | some x=>
   obtain ⟨s,k⟩:=x
   show (if s.name=p.name then ((bA c r ps).bind λS=>(gU c t q).map (S+ ·)).map (k+ ·)else none)=Option.bind (if s.name=p.name then (bA c r ps).map (k+ ·)else none) _
   by_cases e:s.name=p.name
   ·rw [yW e,yW e]
    cases bA c r ps with
    | none=>rfl
    | some S=>
     show ((gU c t q).map (S+ ·)).map (k+ ·)=(gU c t q).map ((k+S) + ·)
     cases gU c t q with
     | none=>rfl
     | some y=>show some (k+ (S+y))=some (k+S+y);rw [Bd]
   ·rw [yU e,yU e]
    rfl
 | [],_::_,h=>by simp at h
 | _::_,[],h=>by simp at h
theorem uG {c:Bool} {l1 l2:Addr} {xs ys:List V} {g:TG} {tb:TS} {D:eW} {U:St} {H:Hp} (hl:xs.length=ys.length) (Pv:Nat->St->Hp->Prop) (h0:Pv 0 U H)
  (hh: ∀ i U H,Pv i U H->H l1=some (ff c xs)/\H l2=some (ff c ys))
  (hs: ∀ i x y U H T,xs[i]? =some x->ys[i]? =some y->Pv i U H->H T=none->g (.ref T) U (upd H T (.tup [x,y])) λU2 H2=>tb {D with nx:=Pv (i+1),ct:=Pv (i+1),bk:=D.nx} U2 H2) (hd: ∀ U H,Pv xs.length U H->D.nx U H):
  ∃ W:Nat->Nat->St->Hp->Prop,(∃ m,W 0 m U H)/\ ∀ i m U H,W i m U H->
   ((Itz c l1 l2).stop i H/\D.nx U H)\/((Itz c l1 l2).go i H/\ ∃ N:St->Hp->Prop,(∀ U' H',N U' H'-> ∃ m',m'<m/\W (i+1) m' U' H')/\ ∀ x H',(Itz c l1 l2).yld i H x H'->g x U H' λU2 H2=>tb {D with nx:=N,ct:=N,bk:=D.nx} U2 H2):=by
 refine ⟨λi m U H=>m=xs.length-i/\i<=xs.length/\Pv i U H,⟨xs.length,by simp,y9 _,h0⟩,?_⟩
 rintro i m U H ⟨rfl,hi,p⟩
 obtain ⟨q1,q2⟩:=hh i U H p
 by_cases hlt:i<xs.length
 ·refine .inr ⟨⟨xs,ys,xs[i],ys[i],q1,q2,y4 hlt,y4 (by lia)⟩,Pv (i+1),λU' H' p'=>⟨xs.length- (i+1),by lia,rfl,hlt,p'⟩,?_⟩
  rintro _ _ ⟨T,x,y,fT,rfl,rfl,hxy⟩
  obtain ⟨ex,ey⟩:=hxy xs ys q1 q2
  exact hs i x y U H T ex ey p fT
 ·have e:i=xs.length:=by lia
  subst e
  exact .inl ⟨⟨xs,ys,q1,q2,rfl,hl.symm⟩,hd U H p⟩
theorem mH {α β:Type} {F:α->β->Prop} {l:List α} {v0 v1:β} (h:Paired F l [v0,v1]): ∃ t0 t1,l=[t0,t1]/\F t0 v0/\F t1 v1:=by
 cases h with
 | cons a h=>cases h with
  | cons b h=>cases h with
   | nil=>exact ⟨_,_,rfl,a,b⟩
inductive dz (n:Nat) (vs:List V) (H:Hp) (Q:VK) (E_:XK):Prop
 | mk: ∀ bv bk th v,(vs=[bv,v])->(RepB H bk bv)->(BkG bk)->(RepH H (2*n) th v)->((chk bk (2*n) th=none-> ∀ H',Same H H'->Q .non H'))->((∀ s k,chk bk (2*n) th=some (s,k)-> ∀ p (dp:Int) H',Same H H'->H' p=some (.tup [.str (Srt.name s),.int ((k:Nat):Int),.int dp])->Q (.ref p) H'))->dz n vs H Q E_
abbrev wP:List Str:=["book","thing","form","size","deep","name","part","found"]
theorem scCheck:aI wP ["book","thing"] (am j1):=fsc
theorem pG {n:Nat} (F:Fun K "_law_check" "_law_check" j1 f fd) (G:Gb mg) (hzip:mg "zip"=none)
  (GF:Cl P w K mg base CX0 1 f2 fd2 ["book","name"] fL "_law_form_of")
  (GS:FnOk P w K mg base CX0 (n+2) f fd ["book","thing"] (dz n)) (bS:Binds K fd ["book","thing"] []) (mS:mg "_law_check"=some (.ref f)):
  FnOk P w K mg base CX0 (n+3) f fd ["book","thing"] (dz (n+1)):=by
 refine F.ok scCheck (λvs H Q E h=>?_) (λcdv A outer s H vs Q E hr h=>?_)
 ·obtain ⟨bv,bk,th,v,rfl,_⟩:=h
  rfl
 obtain ⟨bv,bk,th,v,rfl,hB,hok,hR,qn,qs⟩:=h
 have hr1:=hr.mono (show 1<=n+2 by lia)
 refine ⟨_,ah (a8 (PW.pt (eX (iB (fh (ax gi rfl G.isi (by decide +kernel) (aa (pv 1) (aa (fQ (v:=.ty "tuple") rfl G.tuple (by decide +kernel) rfl) ae)))))
    (eX (aF fS (ax (r:=cr K) av rfl G.len zC (aa (pv 1) ae)) af (aG _))
    (gA (iB (fh (ax gi rfl G.isi (by decide +kernel) (aa (au (r:=aS K) aA (pv 1) af (λ_ _=>rfl)) (aa (fQ (v:=.ty "str") rfl G.str (by decide +kernel) rfl) ae)))))))))
   (al (aH cC)) aM)
  (ah (ao (i:=2) scCheck.nd rfl (Or.inl rfl) (pcl GF hr1 (aa (pv 0) (aa (au (r:=aS K) aA (pv 1) af (λ_ _=>rfl)) ae))))
  (ah (a8 (PW.pt (eX (aF ki (pv 2) cC (aG _))
    (eX (iB (fh (ax gi rfl G.isi (by decide +kernel) (aa (au (r:=aS K) aA (pv 1) af (λ_ _=>rfl)) (aa (fQ (v:=.ty "tuple") rfl G.tuple (by decide +kernel) rfl) ae)))))
    (gA (aF fS (ax (r:=cr K) av rfl G.len zC (aa (au (r:=aS K) aA (pv 1) af (λ_ _=>rfl)) ae)) (ax (r:=cr K) av rfl G.len zC (aa (au (r:=aS K) aA (pv 2) af (λ_ _=>rfl)) ae)) (aG _))))))
   (al (aH cC)) aM)
  (ah (ao (i:=3) scCheck.nd rfl (Or.inl rfl) af)
  (ah (ao (i:=4) scCheck.nd rfl (Or.inl rfl) af)
  (ah (aU zw rfl (vY rfl hzip (aa (au (r:=aS K) aA (pv 2) af (λ_ _=>rfl)) (aa (au (r:=aS K) aA (pv 1) af (λ_ _=>rfl)) ae)))
    (cu rfl (aJ (aw (i:=5) scCheck.nd rfl (Or.inl rfl)) (aJ (aw (i:=6) scCheck.nd rfl (Or.inl rfl)) bU)))
   (ah (ao (i:=7) scCheck.nd rfl (Or.inl rfl) (j9 GS hr rfl mS F.kp bS .nil rC (aa (pv 0) (aa (pv 6) ae))))
   (ah (a8 (PW.pt (eX (aF ki (pv 7) cC (aG _)) (gA (aF fS (au (r:=aS K) aA (pv 7) af (λ_ _=>rfl)) (pv 5) (aG _))))) (al (aH cC)) aM)
   (ah (ao (i:=3) scCheck.nd rfl (Or.inl rfl) (aq aQ (pv 3) (au (r:=aS K) aA (pv 7) af (λ_ _=>rfl))))
   (al (ao (i:=4) scCheck.nd rfl (Or.inl rfl) (ax (gF rfl) rfl G.max (by decide +kernel) (aa (pv 4) (aa (au (r:=aS K) aA (pv 7) af (λ_ _=>rfl)) ae)))))))))
  (al (aH (aN (aa (au (r:=aS K) aA (pv 2) af (λ_ _=>rfl)) (aa (pv 3) (aa (aq aQ (pv 4) af) ae))))))))))),?_⟩
 have e2n:2* (n+1)=(2*n+1) +1:=by lia
 rw [e2n]at hR qn qs
 have same0:Same H H:=λ_ _ h=>h
 refine ⟨_,rfl,_,"tuple",rfl,hR.sh,by simp,_,rfl,?_⟩
 rw [hR.isTup]
 cases th with
 | str x=>exact bB (qn rfl H same0)
 | lst=>exact bB (qn rfl H same0)
 | dic=>exact bB (qn rfl H same0)
 | non=>exact bB (qn rfl H same0)
 | int i=>exact bB (qn rfl H same0)
 | bl b=>exact bB (qn rfl H same0)
 | tup l=>
  obtain ⟨a,vs,rfl,ha,hp⟩:=hR
  have hl:=ze hp
  refine cE ⟨_,rfl,a,vs,rfl,.inr (SqT.of ha),rfl,_,rfl,?_⟩
  by_cases hlen:vs.length=2
  ·rw [show (!decide (V.int ((vs.length:Nat):Int)=V.int 2))=false by rw [hlen];rfl]
   obtain ⟨v0,v1,rfl⟩: ∃ v0 v1,vs=[v0,v1]:=by
    match vs,hlen with
    | [v0,v1],_=>exact ⟨v0,v1,rfl⟩
   obtain ⟨t0,t1,rfl,r0,r1⟩:=mH hp
   ·skip
    refine cE ⟨_,rfl,a,_,0,v0,rfl,rfl,SqT.of ha,db,_,"str",rfl,r0.sh,by simp,_,rfl,?_⟩
    rw [r0.isStr]
    cases t0 with
    | tup x=>exact bB (qn (by cases t1 <;> rfl) H same0)
    | lst=>exact bB (qn (by cases t1 <;> rfl) H same0)
    | dic=>exact bB (qn (by cases t1 <;> rfl) H same0)
    | non=>exact bB (qn (by cases t1 <;> rfl) H same0)
    | int i=>exact bB (qn (by cases t1 <;> rfl) H same0)
    | bl b=>exact bB (qn (by cases t1 <;> rfl) H same0)
    | str nm=>
     obtain ⟨rfl,hnm⟩:=r0
     refine cE ⟨_,rfl,_,rfl,a,_,0,_,rfl,rfl,SqT.of ha,db,bv,bk,nm,rfl,hB,by have:=hok.few;lia,λfv hfv=>?_⟩
     cases hF:bX nm bk.forms with
     | none=>
      rw [hF]at hfv
      obtain rfl:fv=.non:=hfv
      refine ⟨_,rfl,rfl,_,rfl,?_⟩
      rw [zq rfl]
      refine bB (bB ?_)
      refine qn ?_ H same0
      cases t1 with
      | tup l2=>show (match bX nm bk.forms with | some fr=>(bA (chk bk (2*n+1)) l2 fr.parts).map λk=>(fr.own,k+1) | none=>none)=none;rw [hF]
      | str x=>rfl
      | lst=>rfl
      | dic=>rfl
      | non=>rfl
      | int i=>rfl
      | bl b=>rfl
     | some fr=>
      rw [hF]at hfv
      obtain ⟨fa,fpa,fra,frv,rfl,gfa,gfp,gfr,_⟩:=(hfv:RepF H fr fv)
      refine ⟨_,rfl,rfl,_,rfl,?_⟩
      rw [show decide (V.ref fa=V.non)=false from zK λe=>nomatch e]
      refine cE ⟨_,rfl,a,_,1,v1,rfl,rfl,SqT.of ha,aE (j:=1) rfl,_,"tuple",rfl,r1.sh,by simp,_,rfl,?_⟩
      rw [r1.isTup]
      cases t1 with
      | str x=>exact bB (bB (qn rfl H same0))
      | lst=>exact bB (bB (qn rfl H same0))
      | dic=>exact bB (bB (qn rfl H same0))
      | non=>exact bB (bB (qn rfl H same0))
      | int i=>exact bB (bB (qn rfl H same0))
      | bl b=>exact bB (bB (qn rfl H same0))
      | tup l2=>
       obtain ⟨b,ws,rfl,hb,hp2⟩:=r1
       have hl2:=ze hp2
       have hchk:chk bk (2*n+1+1) (.tup [.str nm,.tup l2])=(bA (chk bk (2*n)) l2 fr.parts).map λk=>(fr.own,k+1):=by
        show (match bX nm bk.forms with | some fr=>(bA (chk bk (2*n+1)) l2 fr.parts).map λk=>(fr.own,k+1) | none=>none)=_
        rw [hF]
        show (bA (chk bk (2*n+1)) l2 fr.parts).map _=_
        rw [fA (d:=chk bk (2*n)) λu hu=>by obtain ⟨y,hy⟩:=eg hp2 hu;exact fz hy (by lia)]
       rw [hchk]at qn qs
       refine cE ⟨_,rfl,a,_,1,_,rfl,rfl,SqT.of ha,aE (j:=1) rfl,b,ws,rfl,.inr (SqT.of hb),_,rfl,fa,_,2,_,rfl,rfl,SqT.of gfa,aE (j:=2) rfl,fpa,_,rfl,.inr (SqT.of gfp),rfl,_,rfl,?_⟩
       by_cases hlp:ws.length=(bN fr.parts).length
       ·rw [show (!decide (V.int ((ws.length:Nat):Int)=V.int (((bN fr.parts).length:Nat):Int)))=false by rw [hlp,zq rfl];rfl]
        refine cE ?_
        refine ⟨_,rfl,fa,_,2,_,rfl,rfl,SqT.of gfa,aE (j:=2) rfl,_,rfl,a,_,1,_,rfl,rfl,SqT.of ha,aE (j:=1) rfl,true,fpa,b,_,ws,rfl,gfp,hb,?_⟩
        have hpl:=cQ fr.parts
        refine uG (c:=true) hlp.symm (λi U H'=> ∃ S dp o5 o6 o7,U=[some bv,some (.ref a),some (.ref fa),some (.int (((1+S:Nat)):Int)),some (.int dp),o5,o6,o7]/\Same H H'/\bA (chk bk (2*n)) (l2.take i) (fr.parts.take i)=some S)
         ⟨0,0,none,none,none,rfl,same0,rfl⟩ (λi U H' h=>by obtain ⟨_,_,_,_,_,_,sm,_⟩:=h;exact ⟨sm _ _ gfp,sm _ _ hb⟩) ?_ ?_
        ·rintro i x y U H1 T hx hy ⟨S,dp,o5,o6,o7,rfl,S1,hS⟩ hT
         have s2:=ai hT (.tup [x,y])
         have g2:(upd H1 T (.tup [x,y])) T=some (.tup [x,y]):=ad
         generalize upd H1 T (.tup [x,y])=H2 at s2 g2 ⊢
         have S2:Same H H2:=S1.trans s2
         obtain ⟨u,hu,ru⟩:=aD hp2 hy
         have hil:i< (bN fr.parts).length:=(yX.mp hx).1
         rw [hpl]at hil
         obtain ⟨pq,hpq⟩: ∃ pq,fr.parts[i]? =some pq:=⟨fr.parts[i],y4 hil⟩
         have ex:x=.str pq.name:=by
          unfold bN at hx
          rw [zo,hpq]at hx
          exact (zj hx).symm
         subst ex
         have e1:bA (chk bk (2*n)) (l2.take (i+1)) (fr.parts.take (i+1))=(gU (chk bk (2*n)) u pq).map (S+ ·):=by
          rw [zz,zz,hu,hpq]
          show bA _ (l2.take i++[u]) (fr.parts.take i++[pq])=_
          rw [jF u pq _ _ (by rw [zB,zB];lia),hS]
          rfl
         have fail:gU (chk bk (2*n)) u pq=none-> ∀ H',Same H H'->Q .non H':=λe H' s'=>by
          refine qn ?_ H' s'
          rw [jG l2 fr.parts (i+1) (by rw [e1,e];rfl)]
          rfl
         refine ⟨T,_,rfl,SqT.of g2,rfl,_,_,rfl,_,_,rfl,rfl,?_⟩
         refine ⟨_,rfl,_,rfl,bv,bk,u,y,rfl,hB.mono (aL S2),hok,ru.same S2,λhn H3 s3=>?_,λsr k hk p3 dp3 H3 s3 g3=>?_⟩
         ·refine ⟨_,rfl,rfl,_,rfl,?_⟩
          rw [zq rfl]
          refine bB (bB (fail ?_ H3 (S2.trans s3)))
          unfold gU
          rw [hn]
         ·refine ⟨_,rfl,rfl,_,rfl,?_⟩
          rw [show decide (V.ref p3=V.non)=false from zK λe=>nomatch e]
          refine cE ⟨_,rfl,p3,_,0,_,rfl,rfl,SqT.of g3,db,_,rfl,rfl,_,rfl,?_⟩
          by_cases en:sr.name=pq.name
          ·rw [show (!decide (V.str sr.name=V.str pq.name))=false by rw [en,zq rfl];rfl]
           refine cE ?_
           refine ⟨_,rfl,_,rfl,p3,_,1,_,rfl,rfl,SqT.of g3,aE (j:=1) rfl,_,_,rfl,rfl,?_⟩
           rw [show ((V.int (((1+S:Nat):Int) + (k:Int))))=V.int ((1+ (S+k):Nat):Int)from congrArg V.int (show ((1+S:Nat):Int) + (k:Int)=((1+ (S+k):Nat):Int) by lia)]
           refine ⟨_,rfl,_,rfl,p3,_,2,_,rfl,rfl,SqT.of g3,aE (j:=2) rfl,_,_,rfl,?_⟩
           refine ⟨S+k,_,_,_,_,rfl,S2.trans s3,?_⟩
           rw [e1]
           unfold gU
           rw [hk]
           show (if sr.name=pq.name then some k else none).map (S+ ·)=_
           rw [yW en]
           rfl
          ·rw [show (!decide (V.str sr.name=V.str pq.name))=true by rw [zK λe=>en (V.str.inj e)];rfl]
           refine bB (fail ?_ H3 (S2.trans s3))
           unfold gU
           rw [hk]
           exact yU en
        ·rintro U H1 ⟨S,dp,o5,o6,o7,rfl,S1,hS⟩
         rw [hpl,zG,zW (by lia)]at hS
         refine ⟨_,rfl,fa,_,1,_,rfl,rfl,SqT.of (S1 _ _ gfa),aE (j:=1) rfl,_,rfl,_,rfl,_,_,rfl,rfl,(by show 3<=sizeLine;decide),λp hp'=>?_⟩
         have s2:=ai hp' (.tup [.str fr.own.name,.int ((1+S:Nat):Int),.int (dp+1)])
         refine qs fr.own (S+1) ?_ p (dp+1) _ (S1.trans s2) ?_
         ·rw [hS];rfl
         ·rw [show ((S+1:Nat):Int)=((1+S:Nat):Int) by lia]
          exact ad
       ·rw [show (!decide (V.int ((ws.length:Nat):Int)=V.int (((bN fr.parts).length:Nat):Int)))=true by rw [zK λe=>hlp (by have:=V.int.inj e;lia)];rfl]
        refine bB (qn ?_ H same0)
        have: ∀ (l:List Th) (q:List Srt),l.length≠q.length->bA (chk bk (2*n)) l q=none:=by
         intro l
         induction l with
         | nil=>intro q hne;cases q with | nil=>exact absurd rfl hne | cons _ _=>rfl
         | cons t r ih=>
          intro q hne
          cases q with
          | nil=>rfl
          | cons p ps=>
           show (match chk bk (2*n) t with | some (s,k)=>if s.name=p.name then (bA (chk bk (2*n)) r ps).map (k+ ·)else none | none=>none)=none
           rw [ih ps (λe=>hne (by rw [zn,zn,e]))]
           cases chk bk (2*n) t with
           | none=>rfl
           | some x=>obtain ⟨s,k⟩:=x;show (if s.name=p.name then none else none)=none;by_cases c:s.name=p.name <;> simp
        rw [this l2 fr.parts (by rw [cQ]at hlp;lia)]
        rfl
  ·rw [show (!decide (V.int ((vs.length:Nat):Int)=V.int 2))=true by rw [zK λe=>hlen (by have:=V.int.inj e;lia)];rfl]
   refine bB (bB (qn ?_ H same0))
   match l,hl with
   | [],_=>rfl
   | [x],_=>cases x <;> rfl
   | [_,_],h2=>exact absurd h2.symm hlen
   | x::y::_::_,_=>cases x <;> first | rfl | (cases y <;> rfl)
theorem pH:FnOk P w K mg base CX0 2 f fd ["book","thing"] (dz 0):=by
 have no: ∀ vs H Q E,¬ dz 0 vs H Q E:=λvs H Q E h=>by
  obtain ⟨bv,bk,th,v,_,_,_,h,_⟩:=h
  exact h
 exact ⟨λvs H Q E h=>absurd h (no vs H Q E),λA outer s H args us vs Q E _ _ _ _ h=>absurd h (no vs H Q E)⟩
theorem ll (F:Fun K "_law_check" "_law_check" j1 f fd) (G:Gb mg) (hzip:mg "zip"=none)
  (GF:Cl P w K mg base CX0 1 f2 fd2 ["book","name"] fL "_law_form_of")
  (bS:Binds K fd ["book","thing"] []) (mS:mg "_law_check"=some (.ref f)): ∀ n:Nat,FnOk P w K mg base CX0 (n+2) f fd ["book","thing"] (dz n)
 | 0=>pH
 | n+1=>pG F G hzip GF (ll F G hzip GF bS mS n) bS mS
theorem sj: ∀ l:List (List Nat),(jn l).length<=aW (l.map List.length) +2*l.length
 | []=>yV _
 | [x]=>by show x.length<=x.length+0+2*1;lia
 | x::y::r=>by
  have:=sj (y::r)
  show (x++44::32::jn (y::r)).length<=x.length+aW ((y::r).map List.length) +2* ((y::r).length+1)
  rw [yZ]
  show x.length+ ((jn (y::r)).length+1+1)<=_
  lia
theorem jl: ∀ (a b:List Nat),aW (a++b)=aW a+aW b
 | [],b=>(Bc _).symm
 | x::a,b=>by
  show x+aW (a++b)=x+aW a+aW b
  rw [jl a b,Bd]
theorem wm {bk:Bk} (hok:BkG bk): ∀ (f:Nat) (row:List Str) (t:Nat) (ts:List Th),ts∈Gf bk f row t->aW (ts.map λx=>(tx x).length)<=24*t:=by
 intro f
 induction f with
 | zero=>intro row t ts h;cases h
 | succ f ih=>
  intro row t ts h
  match row,h with
  | [],h=>
   have h:ts∈(if t=0 then [[]]else []):=h
   by_cases c:t=0
   ·rw [yW c]at h
    rw [y0.mp h]
    exact y9 _
   ·rw [yU c]at h;cases h
  | [s],h=>
   have h:ts∈(if t=0 then []else _):=h
   by_cases c:t=0
   ·rw [yW c]at h;cases h
   ·rw [yU c]at h
    obtain ⟨fr,h1,h2⟩:=zU.mp h
    obtain ⟨us,h3,rfl⟩:=zd.mp h2
    have hm:=(zN.mp h1).1
    have hw:=hok.wd fr hm
    have h4:=ih _ _ _ h3
    have h5:=qS _ _ _ _ h3
    have h6:=(hok.ok fr hm).2.2
    have h7:(aP fr).length=fr.parts.length:=yP _
    have h8:(cp fr.name).length<=8:=by
     have:=zf (C1.mp (C1.mp hw).1).2
     exact this
    have h9:=sj (us.map tx)
    rw [zO,yP]at h9
    have h9:(jn (us.map tx)).length<=aW (us.map λx=>(tx x).length) +2*us.length:=h9
    have h10:(fn us).length<=2:=by unfold fn;split <;> decide
    show (tx (nod fr.name us)).length+0<=24*t
    rw [jP hw]
    simp only [zn,yZ,BK]
    lia
  | s::s'::r,h=>
   obtain ⟨j,h1,h2⟩:=zU.mp h
   obtain ⟨a,h3,h4⟩:=zU.mp h2
   obtain ⟨o,h5,rfl⟩:=zd.mp h4
   have h1:=zI.mp h1
   have h6:=ih _ _ _ h3
   have h7:=ih _ _ _ h5
   rw [zE,jl]
   lia
structure TOk (bk:Bk) (s:Str) (n:Nat) (th:Th):Prop where
 w:TrW n th
 l:(tx th).length<=24*n
 c: ∀ q:Srt,q.name=s-> ∀ k,n<=k->bA (chk bk k) [th] [q]=some n
theorem jv {bk:Bk} (hok:BkG bk): ∀ fr∈bk.forms,bX fr.name bk.forms=some fr:=λfr h=>lx hok.nd h rfl
theorem tE {bk:Bk} (hok:BkG bk) {s:Str} {n:Nat}: ∀ th∈Gt bk s n,TOk bk s n th:=λth h=>by
 obtain ⟨ts,h1,rfl⟩:=zd.mp h
 obtain ⟨x,ps,rfl⟩:=dC h1
 refine ⟨l5 hok.wd _ _ _ _ h1 _ yT,?_,λq hq k hk=>nz (jv hok) _ _ _ _ h1 [q] (by rw [<- hq];rfl) k hk⟩
 have:=wm hok _ _ _ _ h1
 exact this
theorem nG (bk:Bk) (s:Str) (n:Nat):(Gt bk s n).length=Rn bk [s] n:=by rw [Gt,yP,gJ]
theorem yd {bk:Bk} (hok:BkG bk) {s:Str} (hs: ∃ q:Srt,q.name=s) (n:Nat):((Gt bk s n).map λth=>(thD th).shown).Nodup:=by
 have h:=xz (jv hok) hok.nd (4*n+[s].length+1) [s] n λx hx=>by rw [y0.mp hx];exact hs
 rw [Gt,zO]
 refine AS.mpr (List.Pairwise.imp_of_mem ?_ h)
 intro a b ha hb hab e
 obtain ⟨x,ps,rfl⟩:=dC ha
 obtain ⟨y,us,rfl⟩:=dC hb
 exact hab (by rw [vR (l5 hok.wd _ _ _ _ ha _ yT) (l5 hok.wd _ _ _ _ hb _ yT) e])
theorem rB {P:Program} {w:World} {C:Addr} {X:Cx}:iY (CX1 P w C) X E0:=λ_ _ _ _ _ _ _ h=>by
 cases h
 rename_i q
 exact q.elim
inductive io (tbA:Addr) (vs:List V) (H:Hp) (Q:VK) (E_:XK):Prop
 | mk: ∀ bv bk sn n,(vs=[bv,.str sn,.int ((n:Nat):Int),.int ((Rn bk [sn] n:Nat):Int)])->(RepB H bk bv)->(BkG bk)->(n<=14)->(TabN tbA H)->((∃ q:Srt,q.name=sn))->(∀ H',Kp tbA H H'->TabN tbA H'->Q (.bl true) H')->io tbA vs H Q E_
theorem TOk.chk {bk:Bk} {s:Str} {n k:Nat} {th:Th} (h:TOk bk s n th) (hs: ∃ q:Srt,q.name=s) (hk:n<=k): ∃ z:Srt,chk bk k th=some (z,n)/\z.name=s:=by
 obtain ⟨q,hq⟩:=hs
 have h:(match My.chk bk k th with | some (z,j)=>if z.name=q.name then (some 0).map (j+ ·)else none | none=>none)=some n:=h.c q hq k hk
 cases hc:My.chk bk k th with
 | none=>rw [hc]at h;cases h
 | some zk=>
  obtain ⟨z,j⟩:=zk
  rw [hc]at h
  have h:(if z.name=q.name then some (j+0)else none)=some n:=h
  by_cases e:z.name=q.name
  ·rw [yW e]at h
   have h:j+0=n:=zj h
   exact ⟨z,by rw [<- h];rfl,by rw [e,hq]⟩
  ·rw [yU e]at h;cases h
theorem sV {H:Hp}: ∀ {n:Nat} {t:Th} {a b:V},Tr t->RepH H n t a->RepH H n t b->AlkT H n a b
 | 0,_,_,_,_,h,_=>h.elim
 | n+1,_,_,_,.str x,h1,h2=>.inl (.inl ⟨x,h1.1,h2.1⟩)
 | n+1,_,_,_,.tup l hl,⟨a,xs,e1,h1,h2⟩,⟨b,ys,e2,h3,h4⟩=>by
  refine .inr ⟨a,b,xs,ys,e1,e2,h1,h3,?_⟩
  have all: ∀ {l:List Th} {xs ys:List V},(∀ t∈l,Tr t)->Paired (RepH H n) l xs->Paired (RepH H n) l ys->Paired (AlkT H n) xs ys:=by
   intro l xs ys hl hx
   induction hx generalizing ys with
   | nil=>intro hy;cases hy;exact .nil
   | cons hq _ ih=>
    intro hy
    cases hy with
    | cons hq' t'=>exact .cons (sV (hl _ yT) hq hq') (ih (λt ht=>hl t (yY _ ht)) t')
  exact all hl h2 h4
theorem uT {H:Hp} {n m:Nat} (hn:2*n<=m) {l:List Th} {xs ys:List V} (h1:Paired (TreeR H n) l xs) (h2:Paired (TreeR H n) l ys):Paired (AlkT H m) xs ys:=by
 induction h1 generalizing ys with
 | nil=>cases h2;exact .nil
 | cons a _ ih=>
  cases h2 with
  | cons b t=>exact .cons (sV a.1 (a.2.le hn) (b.2.le hn)) (ih t)
theorem uA {H:Hp} {p:Addr} {zs:List V} (h:H p=some (.lst zs)):isV "list" H (.ref p)=true:=by
 show (match H p with | some (.lst _)=>"list"=="list" | some (.tup _)=>"list"=="tuple" | some (.dK _)=>"list"=="dict" | _=>false)=true
 rw [h]
 rfl
theorem oV {xs:List V} {c:Int} {i:Nat} {x:V} (h:(dg xs c)[i]? =some x): ∃ j:Nat,xs[j]? =some x:=by
 obtain ⟨j,_,e⟩:=C9.mp (y3 h)
 exact ⟨j,e⟩
theorem ke {ts:List Th} {ws:List V} (h:Paired (λth z=>z=V.str (thD th).shown) ts ws):ws=(ts.map λth=>(thD th).shown).map V.str:=by
 induction h with
 | nil=>rfl
 | cons a _ ih=>rw [a,ih];rfl
abbrev NLR:List Str:=["book","sort","size","many","word","found","tree","due","kept"]
theorem scLRight:aI NLR ["book","sort","size","many"] (am fO):=fsc
theorem pF (F:Fun K "_law_right" "_law_right" fO f fd) (G:Gb mg) (hset:mg "set"=none) (hrepr:mg "repr"=none) (hlist:mg "list"=none)
  (GT:Cl P w K mg base CX0 6 f2 fd2 ["book","sort","size"] (mh tbA) "_law_told")
  (GK:Cl P w K mg base CX0 16 f3 fd3 ["book","thing"] (dz 14) "_law_check")
  (GA:Cl P w K mg base (CX1 P w C) 5 f4 fd4 ["book","sort","size"] (fI C tbA) "trees_of"):
  FnOk P w K mg base CX0 17 f fd ["book","sort","size","many"] (io tbA):=by
 refine F.ok scLRight (λvs H Q E h=>?_) (λcdv A outer s H vs Q E hr h=>?_)
 ·obtain ⟨bv,bk,sn,n,rfl,_⟩:=h
  rfl
 obtain ⟨bv,bk,sn,n,rfl,hB,hok,hn,hTb,hs,q⟩:=h
 have hun:=hr.un
 have hu:(A.deeper (PyProof.Rows.envOfC "_law_right" (am fO) s.heap.objs.size f cdv)).units+ (28+1) <cLine:=by lia
 have hr6:=hr.mono (show 6<=16 by decide)
 have hr5:=hr.mono (show 5<=16 by decide)
 refine ⟨_,ah (qZ (pcl GT hr6 (aa (pv 0) (aa (pv 1) (aa (pv 2) ae)))) (cu rfl (aJ (aw (i:=4) scLRight.nd rfl (Or.inl rfl)) (aJ (aw (i:=5) scLRight.nd rfl (Or.inl rfl)) bU))))
  (ah (a8 (aF eZ (pv 3) af (aG _)) (al (aH (rq (cJ cU (pv 4) br (aG _)) (mG (cJ rD (pv 5) fR (aG _)))))) aM)
  (ah (a8 (PW.pt (eX (aF fS (pv 4) br (aG _)) (eX (iB (fh (ax gi rfl G.isi (by decide +kernel) (aa (pv 5) (aa (fQ (v:=.ty "list") rfl hlist (by decide +kernel) rfl) ae)))))
   (gA (aF fS (ax (r:=cr K) av rfl G.len zC (aa (pv 5) ae)) (pv 3) (aG _)))))) dj aM)
  (ah (a8 (aF fS (pp rfl rfl G.len rfl hset (cI (sc0:=am fO) (N0:=NLR) (ys:=[]) (fr:=[]) rfl (be (pv 5)) rfl rfl
    cok
    (λC s H ex=>ax (r:=va) (qc hr) rfl hrepr (by decide +kernel) (aa (pv 0) ae)))) (pv 3) (aG _)) dj aM)
  (ah (aU zw rfl (be (n0 (pv 5) (aq aQ af (aq eO (ax (r:=cr K) av rfl G.len zC (aa (pv 5) ae)) af)))) (aw (i:=6) scLRight.nd rfl (Or.inl rfl))
   (ah (ao (i:=7) scLRight.nd rfl (Or.inl rfl) (pcl GK hr (aa (pv 0) (aa (pv 6) ae))))
   (al (a8 (PW.pt (eX (aF ki (pv 7) cC (aG _)) (eX (aF fS (au (r:=aS K) aA (pv 7) af (λ_ _=>rfl)) (pv 1) (aG _)) (gA (aF fS (au (r:=aS K) aA (pv 7) af (λ_ _=>rfl)) (pv 2) (aG _)))))) dj aM))))
  (ah (ao (i:=8) scLRight.nd rfl (Or.inl rfl) (bd (r:=j4 K) kD rfl hlist (by decide +kernel) (aa (pv 5) ae)))
  (ah (bT (rn zF PySem.F.slot_list_clear PySem.F.type_list_clear rT (pv 5)))
  (al (aH (xu (cJ eZ (pv 3) af (aG _)) (mG (cJ (v5 (n:=28) hu) (rm GA hr5 rB (aa (pv 0) (aa (pv 1) (aa (pv 2) ae)))) (pv 8) (aG _)))))))))))),?_⟩
 refine ⟨_,rfl,_,rfl,_,rfl,bv,bk,sn,n,rfl,hB,hok,by lia,hTb,λhle p zs c H1 hp k1 t1 gp hz gc=>?_,λhgt c H1 s1 gc=>?_⟩
 ·have tk1:TK H H1:=λb xs e=>k1 _ _ e λz=>by obtain ⟨t,ht⟩:=hTb.tbl;rw [<- z,e]at ht;cases ht
  have hB1:=hB.mono tk1
  have lz:=ze hz
  rw [nG]at lz
  refine ⟨c,_,rfl,SqT.of gc,rfl,_,_,rfl,_,_,rfl,rfl,?_⟩
  refine ⟨_,rfl,_,_,rfl,rfl,_,rfl,bO (λc=>absurd (zf c) (by lia)) (λ_=>?_)⟩
  refine ⟨_,rfl,rfl,_,rfl,bO (λc=>by simp at c) (λ_=>?_)⟩
  refine ⟨_,rfl,_,"list",rfl,.inl ⟨zs,gp⟩,by decide,_,rfl,bO (λc=>?_) (λ_=>?_)⟩
  ·rw [uA gp]at c
   cases c
  refine ⟨_,rfl,p,zs,rfl,.inl (SqL.of gp),_,rfl,rfl,_,rfl,bO (λc=>?_) (λ_=>?_)⟩
  ·rw [lz]at c
   simp at c
  refine ⟨_,rfl,p,rfl,⟨_,SqL.of gp⟩,?_⟩
  refine eV (by lia) hz (el gp) (eh gp) (λi H v H' _=>gQ gp i H v H') (λ_ th z=>z=.str (thD th).shown) (λ_ h=>h) ?_ ?_
  ·rintro th z H2 k hth hT s2 hk
   refine ⟨_,rfl,n,th,z,rfl,hT.mono (aL s2),by lia,?_,?_,hk _ _ (λ_ _ h=>h) rfl⟩
   ·have hw:=(tE hok th hth).w
    match n,hw with
    | m+1,⟨x,ps,e,_⟩=>exact ⟨_,e⟩
   ·have:=(tE hok th hth).l
    lia
  intro p2 ws H2 hp2 s2 g2 hw
  have hll:((Gt bk sn n).map λth=>(thD th).shown).length=Rn bk [sn] n:=by rw [yP,nG]
  refine ⟨p2,(Gt bk sn n).map λth=>(thD th).shown,rfl,.inl (SqL.of (by rw [g2,ke hw])),by lia,_,rfl,rfl,_,rfl,bO (λc=>?_) (λ_=>?_)⟩
  ·rw [jz (by simpa using yd hok hs n),List.nil_append,hll]at c
   simp at c
  have gp2:=s2 _ _ gp
  refine ⟨_,rfl,_,rfl,p,zs,rfl,.inl (SqL.of gp2),_,_,rfl,rfl,⟨by decide,by decide⟩,_,_,rfl,rfl,p,zs,_,rfl,rfl,SqL.of gp2,by lia,λp3 hp3=>?_⟩
  refine ⟨p3,rfl,⟨_,SqL.of ad⟩,?_⟩
  have s3:=ai hp3 (.lst (dg zs (1+ ((zs.length:Nat):Int) /100)))
  have g3:(upd H2 p3 (.lst (dg zs (1+ ((zs.length:Nat):Int) /100)))) p3=some (.lst (dg zs (1+ ((zs.length:Nat):Int) /100))):=ad
  generalize upd H2 p3 (.lst (dg zs (1+ ((zs.length:Nat):Int) /100)))=H3 at s3 g3 ⊢
  have S3:=s2.trans s3
  refine bL (λi U H'=> ∃ o6 o7 o8,U=[some bv,some (.str sn),some (.int ((n:Nat):Int)),some (.int ((Rn bk [sn] n:Nat):Int)),some (.str "told"),some (.ref p),o6,o7,o8]/\Same H3 H')
   ⟨_,_,_,rfl,Same.refl _⟩ (λi U H' _ h=>by obtain ⟨_,_,_,_,k⟩:=h;exact SqL.of (k _ _ g3)) ?_ ?_
  ·rintro i x U H4 hx ⟨o6,o7,o8,rfl,s4⟩
   obtain ⟨j,hj⟩:=oV hx
   obtain ⟨th,hth,hT⟩:=aD hz hj
   have S4:=S3.trans s4
   obtain ⟨z,hc,hzn⟩:=(tE hok th (y3 hth)).chk hs (show n<=2*14 by lia)
   refine ⟨_,rfl,_,rfl,bv,bk,th,x,rfl,hB1.mono (aL S4),hok,(hT.mono (aL S4)).2.le (by lia),λe=>(by rw [hc]at e;cases e),λs k e p5 dp H5 s5 g5=>?_⟩
   rw [hc]at e
   cases e
   refine ⟨_,rfl,rfl,_,rfl,bO (λc=>by simp at c) (λ_=>?_)⟩
   refine ⟨_,rfl,p5,_,0,_,rfl,rfl,SqT.of g5,db,_,rfl,rfl,_,rfl,bO (λc=>by rw [hzn]at c;simp at c) (λ_=>?_)⟩
   refine ⟨_,rfl,p5,_,1,_,rfl,rfl,SqT.of g5,aE (j:=1) rfl,_,rfl,rfl,_,rfl,bO (λc=>by simp at c) (λ_=>?_)⟩
   exact ⟨_,_,_,rfl,s4.trans s5⟩
  rintro U H4 ⟨o6,o7,o8,rfl,s4⟩
  have S4:=S3.trans s4
  have gp4:=S4 _ _ gp
  refine ⟨_,rfl,p,zs,rfl,.inl (SqL.of gp4),λl hl=>?_⟩
  have s5:=ai hl (.lst zs)
  have g5:(upd H4 l (.lst zs)) l=some (.lst zs):=ad
  generalize upd H4 l (.lst zs)=H5 at s5 g5 ⊢
  have S5:=S4.trans s5
  have gp5:=S5 _ _ gp
  have nlp:l≠p:=λe=>by rw [e,gp4]at hl;cases hl
  refine ⟨_,rfl,.inl ⟨rfl,_,SqL.of gp5⟩,p,zs,rfl,rfl,gp5,?_⟩
  have g6:(upd H5 p (.lst [])) l=some (.lst zs):=by rw [ak nlp];exact g5
  have k6:Kp p H5 (upd H5 p (.lst [])):=Kp.tape
  generalize upd H5 p (.lst [])=H6 at k6 g6 ⊢
  have tk6:TK H5 H6:=λb xs e=>k6 _ _ e λz=>by rw [z,gp5]at e;cases e
  have T6:=(aL S5).trans tk6
  have npt:tbA≠p:=λe=>by obtain ⟨t,ht⟩:=t1.tbl;rw [e,gp]at ht;cases ht
  have t6:TabN tbA H6:=by
   rcases t1.same S5 with h | ⟨c1,o1,h1,h2,h3,h4⟩
   ·exact .inl (k6 _ _ h npt)
   ·exact .inr ⟨c1,o1,k6 _ _ h1 npt,h2,k6 _ _ h3 (λz=>by rw [z,gp5]at h3;cases h3),h4⟩
  have K6:Kp tbA H H6:=λb o h hb=>k6 _ _ (S5 _ _ (k1 _ _ h hb)) (aj h hp)
  refine ⟨_,rfl,_,_,rfl,rfl,_,rfl,bO (λ_=>q _ K6 t6) (λ_=>?_)⟩
  refine ⟨_,rfl,_,rfl,_,rfl,bv,bk,sn,n,rfl,hB1.mono T6,hok,by lia,t6,λh=>(by lia),λ_ p7 ys H7 hp7 k7 t7 g7 hy=>?_⟩
  have tk7:TK H6 H7:=λb xs e=>k7 _ _ e λz=>by obtain ⟨t,ht⟩:=t6.tbl;rw [<- z,e]at ht;cases ht
  have nlt:l≠tbA:=λz=>by obtain ⟨t,ht⟩:=t6.tbl;rw [<- z,g6]at ht;cases ht
  refine ⟨_,rfl,p7,l,ys,zs,rfl,rfl,g7,k7 _ _ g6 nlt,uT (by lia) hy (Paired.mapP hz λ_ _ h=>h.mono (T6.trans tk7)),q _ (K6.trans k7) t7⟩
 ·refine ⟨c,_,rfl,SqT.of gc,rfl,_,_,rfl,_,_,rfl,rfl,?_⟩
  refine ⟨_,rfl,_,_,rfl,rfl,_,rfl,bO (λ_=>?_) (λc=>absurd (zq (by lia)) c)⟩
  refine ⟨_,rfl,rfl,_,rfl,bO (λc=>?_) (λc=>absurd (zq rfl) c)⟩
  exact ⟨_,rfl,true,true,rfl,rfl,q _ (λ_ _ h _=>s1 _ _ h) (hTb.same s1)⟩
end My
namespace L2
open PySem PySem.Spec PyProof.Rows
section
variable {X:Cx}
theorem qd (hc:X.calm=true):cG X (.builtin "max") (λxs H Q=> ∃ (p:Addr) (ns:List Int),xs=[.ref p]/\SqL X.K H p (ns.map V.int)/\0<ns.length/\ ∀ M,M∈ns->(∀ a∈ns,a<=M)->Q (.int M) H):=by
 intro pins s U H xs us Q I r h
 obtain ⟨p,ns,rfl,hq,hne,q⟩:=h
 obtain ⟨u,rfl,ru⟩:=fG r
 cases ru
 obtain ⟨its,rv,pl,hz⟩:=I.list hq
 have hl:=pl.isList
 have hlt:p<s.heap.objs.size:=by obtain ⟨_,e,_⟩:=hl;exact y2 e
 have hn:its.toArray.size=ns.length:=by have:=rv.length;rw [yP]at this;rw [y1];lia
 refine call_max_walk (Cw hl ?_)
 have hval: ∀ (i:Nat) (v:Value),its.toArray[i]? =some v-> ∃ t,v=Value.int (ns.getD i 0) t:=λi v hP=>by
  have hv:its[i]? =some v:=by simpa using hP
  have hi:i<ns.length:=by
   have:=(yX.mp hv).1
   have:=rv.length
   rw [yP]at this
   lia
  have hb:(ns.map V.int)[i]? =some (V.int ns[i]):=by rw [zo,y4 hi];rfl
  obtain ⟨u,eu,ru⟩:=rv.get hb
  rw [hv]at eu
  cases eu
  obtain ⟨t,e⟩:=(show ∃ t,v=Value.int ns[i] t from ru)
  refine ⟨t,?_⟩
  rw [e,BW,y4 hi]
  rfl
 refine ⟨s.heap.objs.size,[s.heap.objs.size,p],[s.heap.objs.size],its.toArray.size,_,_,λi j=>decide (ns.getD i 0>ns.getD j 0),rfl,Walks.list (A:=X.A.in1) (I.ok.hd hc) _ p (zi hlt) its.toArray,
  ⟨⟨_,y6 _ rfl,rfl,rfl⟩,hl.push _⟩,λb hb=>?_,by rw [hn];exact hne,CmpOf.ints_gt (λi=>ns.getD i 0) hval,λv h' tk hP hk=>?_⟩
 ·simp only [za,Ae,CW]at hb
  rw [size_push']
  rcases hb with rfl | rfl
  ·exact AZ _
  ·exact AR hlt
 ·obtain ⟨a1,a2⟩:=argBest_gt (λi=>ns.getD i 0) (its.toArray.size-1)
  obtain ⟨t,rfl⟩:=hval _ _ hP
  rw [hn]at a1 a2
  refine ⟨.int _,H,I.kept (t':=tk) λb x e=>?_,⟨t,rfl⟩,?_⟩
  ·exact hk b x (λhm=>by rw [y0.mp hm]at e;exact AG _ (y2 e)) (yQ _ e)
  ·rw [hn]
   refine q _ ?_ λa ha=>?_
   ·have hi:argBest (λi j=>decide (ns.getD i 0>ns.getD j 0)) (ns.length-1) <ns.length:=by lia
    show ns.getD _ 0∈ns
    rw [BW,y4 hi]
    exact B0 _
   ·obtain ⟨j,hj⟩:=CY ha
    have hjl:=(yX.mp hj).1
    have:=a2 j (by lia)
    rw [show ns.getD j 0=a by rw [BW,hj];rfl]at this
    exact this
end
end L2
namespace My
open PySem L2
inductive gn  (vs:List V) (H:Hp) (Q:VK) (E_:XK):Prop
 | mk: ∀ bv bk n,(vs=[bv,.int ((n:Nat):Int)])->(RepB H bk bv)->(BkW bk)->(n<=24)->(∀ cl H',H cl=none->Same H H'->LC bk H' cl (n+1)->Q (.ref cl) H')->gn vs H Q E_
noncomputable def mJ (bk:Bk) (i j:Nat) (s:Str):Nat:=aW (((bk.forms.take j).filter λfr=>decide (fr.own.name=s)).map λfr=>Rn bk (aP fr) i)
abbrev tm:List Str:=["book","most","counts","size","here","sort","name","parts","rules"]
theorem scLCounts:aI tm ["book","most"] (am iy):=fsc
theorem mQ (F:Fun K "_law_counts" "_law_counts" iy f fd) (G:Gb mg)
  (GR:Cl P w K mg base CX0 1 f2 fd2 ["counts","parts","size"] jT "_law_rows"):FnOk P w K mg base CX0 2 f fd ["book","most"] gn:=by
 refine F.ok scLCounts (λvs H Q E h=>?_) (λcdv A outer s H vs Q E hr h=>?_)
 ·obtain ⟨bv,bk,n,rfl,_⟩:=h
  rfl
 obtain ⟨bv,bk,n,rfl,hB,hok,hn,q⟩:=h
 have hu:=dL hr
 have hfew:=hok.two
 refine ⟨_,ah (ao (i:=2) scLCounts.nd rfl (Or.inl rfl) (aX (aa ed ae)))
  (ah (aU zw rfl (eM rfl G.range (aa af (aa (aq aQ (pv 1) af) ae))) (aw (i:=3) scLCounts.nd rfl (Or.inl rfl))
   (ah (ao (i:=4) scLCounts.nd rfl (Or.inl rfl) ed)
   (ah (aU zw rfl (ce (au (r:=aS K) aA (pv 0) af (λ_ _=>rfl))) (aw (i:=5) scLCounts.nd rfl (Or.inl rfl))
    (al (cy hu (pv 4) (au (r:=aS K) aA (pv 5) af (λ_ _=>rfl)) af rfl)))
   (ah (aU zw rfl (ce (au (r:=aS K) aA (pv 0) af (λ_ _=>rfl)))
    (cu rfl (aJ (aw (i:=6) scLCounts.nd rfl (Or.inl rfl)) (aJ (aw (i:=5) scLCounts.nd rfl (Or.inl rfl)) (aJ (aw (i:=7) scLCounts.nd rfl (Or.inl rfl)) (aJ (aw (i:=8) scLCounts.nd rfl (Or.inl rfl)) bU)))))
    (al (cy hu (pv 4) (pv 5) (aq aQ (bJ hu (pv 4) (pv 5) (λ_ _=>rfl)) (pcl GR hr (aa (pv 2) (aa (pv 7) (aa (aq cx (pv 3) af) ae))))) rfl)))
   (al (bT (dJ zF Ag Ah bu (pv 2) (aa (pv 4) ae))))))))
  (al (aH (pv 2)))),?_⟩
 have hB0:=hB
 obtain ⟨a,sa,fa,fv,rfl,ha,⟨sx,hsa,hS⟩,hfa,hF⟩:=hB0
 have lS:=hS.len
 have lF:=hF.len
 have h4:=hok.so.2.1
 have h10:=hok.few
 refine λd0 hd0=>?_
 have s0:=ai hd0 (.dK [])
 generalize upd H d0 (.dK [])=H0 at s0 ⊢
 refine ⟨(by show 1<=sizeLine;decide),λcl hcl=>?_⟩
 have s1:=ai hcl (.lst [.ref d0])
 have g1:(upd H0 cl (.lst [.ref d0])) cl=some (.lst [.ref d0]):=ad
 have S1:Same H (upd H0 cl (.lst [.ref d0])):=s0.trans s1
 have hcl0:H cl=none:=s0.free hcl
 generalize upd H0 cl (.lst [.ref d0])=H1 at s1 g1 S1 ⊢
 refine ⟨_,rfl,_,_,rfl,rfl,1,_,rfl,⟨by decide,by decide,?_,?_⟩,?_⟩
 ·show -(2^62)<=((n:Nat):Int) +1
  lia
 ·show ((n:Nat):Int) +1<2^62
  lia
 rw [show (((n:Nat):Int) +1-1).toNat=n by lia]
 refine bV (λi U H'=>i<=n/\ ∃ o3 o4 o5 o6 o7 o8,U=[some (.ref a),some (.int ((n:Nat):Int)),some (.ref cl),o3,o4,o5,o6,o7,o8]/\Same H H'/\LC bk H' cl (i+1))
  ⟨y9 _,none,none,none,none,none,none,rfl,S1,[.ref d0],g1,rfl,λk h1 h2=>absurd h2 (by lia)⟩ ?_ ?_
 ·rintro i U H2 hi ⟨_,o3,o4,o5,o6,o7,o8,rfl,S2,hLC⟩
  rw [show (1+ (i:Int))=((i+1:Nat):Int) by lia]
  refine λhd hhd=>?_
  have s3:=ai hhd (.dK [])
  have g3:(upd H2 hd (.dK [])) hd=some (.dK []):=ad
  have hhd0:H hd=none:=S2.free hhd
  generalize upd H2 hd (.dK [])=H3 at s3 g3 ⊢
  refine ⟨_,rfl,a,_,1,.ref sa,rfl,rfl,SqT.of (s3 _ _ (S2 _ _ ha)),aE (j:=1) rfl,sa,rfl,⟨sx,SqT.of (s3 _ _ (S2 _ _ hsa))⟩,?_⟩
  refine cL (xs:=sx) (λj U H'=>j<=sx.length/\ ∃ o5 kvs,U=[some (.ref a),some (.int ((n:Nat):Int)),some (.ref cl),some (.int ((i+1:Nat):Int)),some (.ref hd),o5,o6,o7,o8]/\Same H2 H'/\H' hd=some (.dK kvs)/\kvs.length<=j/\ ∀ s∈bk.sorts.take j,bG kvs (Sum.inr (Srt.name s))=some (.int 0))
   ⟨y9 _,o5,[],rfl,s3,g3,yV _,λs h=>(by cases h)⟩ (λj U H' _ h=>by obtain ⟨_,_,_,_,sm,_⟩:=h;exact SqT.of (sm _ _ (S2 _ _ hsa))) ?_ ?_
  ·rintro j x U H4 hx ⟨_,o5',kvs,rfl,S4,g4,hl4,hv4⟩
   have hjl:j<sx.length:=(yX.mp hx).1
   obtain ⟨sr,hsr,b,c,e,rfl,hb,hc,he⟩:=aD hS hx
   refine ⟨_,rfl,_,rfl,b,_,0,.str sr.name,rfl,rfl,SqT.of (S4 _ _ (S2 _ _ hb)),aE (j:=0) rfl,hd,_,rfl,DPut.k (k:=Sum.inr sr.name) g4 (ay (by lia)),hjl,_,_,rfl,?_,ad,?_,?_⟩
   ·intro y o h
    rw [ak (aj h hhd)]
    exact S4 _ _ h
   ·have:=bx kvs (Sum.inr sr.name) (.int 0)
    lia
   ·intro s hs
    rw [ck]
    by_cases c:s.name=sr.name
    ·rw [yW (by rw [c])]
    ·rw [yU (λz=>c (Dg z))]
     rw [zz,hsr]at hs
     rcases y8.mp hs with h | h
     ·exact hv4 s h
     ·exact absurd (congrArg Srt.name (show s=sr by simpa using h)) c
  rintro U H4 ⟨_,o5',kvs,rfl,S4,g4,hl4,hv4⟩
  rw [<- lS,zG]at hv4
  refine ⟨_,rfl,a,_,2,.ref fa,rfl,rfl,SqT.of (S4 _ _ (S2 _ _ ha)),aE (j:=2) rfl,fa,rfl,⟨fv,SqT.of (S4 _ _ (S2 _ _ hfa))⟩,?_⟩
  refine cL (xs:=fv) (λj U H'=>j<=fv.length/\ ∃ o5 o6 o7 o8 kvs,U=[some (.ref a),some (.int ((n:Nat):Int)),some (.ref cl),some (.int ((i+1:Nat):Int)),some (.ref hd),o5,o6,o7,o8]/\Same H2 H'/\H' hd=some (.dK kvs)/\kvs.length<=4+j/\ ∀ s∈bk.sorts,bG kvs (Sum.inr (Srt.name s))=some (.int ((mJ bk i j s.name:Nat):Int)))
   ⟨y9 _,o5',o6,o7,o8,kvs,rfl,S4,g4,by lia,hv4⟩ (λj U H' _ h=>by obtain ⟨_,_,_,_,_,_,_,sm,_⟩:=h;exact SqT.of (sm _ _ (S2 _ _ hfa))) ?_ ?_
  ·rintro j x U H5 hx ⟨_,o5'',o6',o7',o8',kv5,rfl,S5,g5,hl5,hv5⟩
   have hjl:j<fv.length:=(yX.mp hx).1
   obtain ⟨fr,hfr,b,pa,ra,rv,rfl,hb,hpa,hra,hRR⟩:=aD hF hx
   have hfm:=y3 hfr
   obtain ⟨hown,hparts,hp3⟩:=hok.fo fr hfm
   have hnl:(aP fr).length=fr.parts.length:=yP _
   refine ⟨b,_,rfl,SqT.of (S5 _ _ (S2 _ _ hb)),rfl,_,_,rfl,_,_,rfl,_,_,rfl,_,_,rfl,rfl,?_⟩
   refine ⟨_,rfl,_,rfl,hd,_,rfl,(by rw [<- hv5 fr.own hown];exact DGet.k (k:=Sum.inr fr.own.name) g5),_,rfl,_,rfl,_,rfl,_,_,rfl,rfl,?_⟩
   rw [show (V.int (((i+1:Nat):Int) -1))=V.int ((i:Nat):Int)from congrArg V.int (show ((i+1:Nat):Int) -1=((i:Nat):Int) by lia)]
   refine ⟨cl,pa,bk,aP fr,i+1,i,rfl,hok,LC.keep S5 hLC,by rw [<- gB];exact S5 _ _ (S2 _ _ hpa),λx hx=>?_,by lia,by lia,by lia,by lia,λH6 s6=>?_⟩
   ·obtain ⟨p,hp,e⟩:=zd.mp hx
    exact ⟨p,hparts p hp,e⟩
   refine ⟨_,_,rfl,rfl,_,rfl,_,rfl,hd,_,rfl,DPut.k (k:=Sum.inr fr.own.name) (s6 _ _ g5) (ay (by lia)),hjl,_,_,_,_,_,rfl,?_,ad,?_,?_⟩
   ·intro y o h
    rw [ak (aj h hhd)]
    exact s6 _ _ (S5 _ _ h)
   ·have:=bx kv5 (Sum.inr fr.own.name) ((V.int (((mJ bk i j fr.own.name:Nat):Int) + ((Rn bk (aP fr) i:Nat):Int))))
    lia
   ·intro s hs
    rw [ck]
    have et:(bk.forms.take (j+1)).filter (λ(x:Frm)=>decide (x.own.name=s.name))=(bk.forms.take j).filter (λ(x:Frm)=>decide (x.own.name=s.name))++(if decide (fr.own.name=s.name)then [fr]else []):=Dv (λ(x:Frm)=>decide (x.own.name=s.name)) bk.forms j fr hfr
    by_cases c:s.name=fr.own.name
    ·rw [yW (by rw [c])]
     refine congrArg some (congrArg V.int ?_)
     show ((mJ bk i j fr.own.name:Nat):Int) + ((Rn bk (aP fr) i:Nat):Int)=((mJ bk i (j+1) s.name:Nat):Int)
     unfold mJ
     rw [et,yW (zq c.symm),zE,cN,c]
     show _=((_+ (Rn bk (aP fr) i+0):Nat):Int)
     lia
    ·rw [yU (λz=>c (Dg z)),hv5 s hs]
     unfold mJ
     rw [et,yU (by rw [A6];exact λz=>c z.symm),zy]
  ·rintro U H5 ⟨_,o5'',o6',o7',o8',kv5,rfl,S5,g5,hl5,hv5⟩
   obtain ⟨ds,e1,e2,e3⟩:=LC.keep S5 hLC
   refine ⟨_,rfl,.inl ⟨rfl,_,SqL.of e1⟩,_,rfl,cl,_,_,rfl,rfl,e1,ay (by lia),?_⟩
   have ncl: ∀ d kvs,H5 d=some (.dK kvs)->d≠cl:=λd kvs h z=>by rw [z,e1]at h;cases h
   refine ⟨hi,_,_,_,_,_,_,rfl,?_,ds++[.ref hd],ad,by rw [yZ,e2];rfl,λk h1 h2=>?_⟩
   ·intro y o h
    rw [ak (aj h hcl0)]
    exact S5 _ _ (S2 _ _ h)
   ·by_cases c:k<i+1
    ·obtain ⟨d,kvs',f1,f2,f3⟩:=e3 k h1 c
     exact ⟨d,kvs',by rw [Al (by lia)];exact f1,by rw [ak (ncl _ _ f2)];exact f2,f3⟩
    ·have:k=i+1:=by lia
     subst this
     refine ⟨hd,kv5,by rw [Aa (by lia),e2,BY];rfl,by rw [ak (ncl _ _ g5)];exact g5,λs hs=>?_⟩
     rw [hv5 s hs,fB hfew,yU (Nat.succ_ne_zero i),Nat.add_sub_cancel]
     unfold mJ
     rw [<- lF,zG]
 ·rintro U H2 ⟨_,o3,o4,o5,o6,o7,o8,rfl,S2,hLC⟩
  exact ⟨_,rfl,q cl H2 hcl0 S2 hLC⟩
inductive kO (K:W.Frag) (tbA:Addr) (vs:List V) (H:Hp) (Q:VK) (E_:XK):Prop
 | mk: ∀ (a:Addr) (ns:List Int),(vs=[.ref a])->(SqL K H a (ns.map V.int))->(ns.length<=63)->(TabN tbA H)->(∀ H',Q (.bl true) H')->kO K tbA vs H Q E_
theorem Same.lst {K:W.Frag} {H H':Hp} {a:Addr} {xs:List V} (s:Same H H') (h:SqL K H a xs):SqL K H' a xs:=SqL.keep h λo e=>s _ _ e
theorem TabN.sql {K:W.Frag} {tbA a:Addr} {H H':Hp} {xs:List V} (h:TabN tbA H) (k:Kp tbA H H') (hS:SqL K H a xs):SqL K H' a xs:=by
 obtain ⟨t,h⟩:=h.tbl
 rcases hS with (e | ⟨o,e⟩) | e
 ·exact .inl (.inl (k _ _ e λz=>by rw [z,h]at e;cases e))
 ·exact .inl (.inr ⟨o,k _ _ e λz=>by rw [z,h]at e;cases e⟩)
 ·exact .inr e
theorem TabN.tk {tbA:Addr} {H H':Hp} (h:TabN tbA H) (k:Kp tbA H H'):TK H H':=λb xs e=>k b _ e λz=>by
 obtain ⟨t,h⟩:=h.tbl
 rw [z,h]at e
 cases e
theorem TabN.ne {tbA p:Addr} {H:Hp} {o:HO} (h:TabN tbA H) (e:H p=some o) (n: ∀ t,o≠ .tbl t):p≠tbA:=λz=>by
 obtain ⟨t,h⟩:=h.tbl
 rw [z,h]at e
 cases e
 exact n _ rfl
theorem LC.kp {bk:Bk} {H H':Hp} {cl tbA:Addr} {n:Nat} (t:TabN tbA H) (k:Kp tbA H H') (h:LC bk H cl n):LC bk H' cl n:=by
 obtain ⟨ds,e1,e2,e3⟩:=h
 refine ⟨ds,k _ _ e1 (t.ne e1 λ_ h=>by cases h),e2,λj h1 h2=>?_⟩
 obtain ⟨d,kvs,e4,e5,e6⟩:=e3 j h1 h2
 exact ⟨d,kvs,e4,k _ _ e5 (t.ne e5 λ_ h=>by cases h),e6⟩
theorem BkG.sub {bk:Bk} (h:BkG bk) {l:List Frm} (s:l.Sublist bk.forms):BkG ⟨bk.wheel,bk.sorts,l⟩:=
 ⟨h.so,zc s.length_le h.few,(s.map Frm.name).nodup h.nd,λfr m=>h.wd fr (s.subset m),λfr m=>h.ok fr (s.subset m)⟩
theorem uz {c:Bool} {A:Prop} {D:eW} {U:St} {H:Hp} (W:St->Hp->Prop) (hb:W U H) (h: ∀ U' H',W U' H'->D.nx U' H') (ha:(∀ U' H',W U' H'->D.nx U' H')->A):if c=true then A else u6 D U H:=by
 cases c with
 | false=>exact cE (h _ _ hb)
 | true=>exact bB (ha h)
theorem sO (xs:List V) (k:Nat):cA xs none (some ((k:Nat):Int))=xs.take k:=by
 unfold cA
 rw [HT.sIx_none,HT.sIx_nat,Dd,DB]
 by_cases c:k<=xs.length
 ·rw [Bo c]
 ·rw [Nat.min_eq_right (by lia),zG,zW (by lia)]
abbrev ya:List Str:=["script","start","book","tape","sizes","gone","rest","counts","size","sort"]
theorem scLaw:aI ya ["script"] (am mx):=fsc
theorem v7 (F:Fun K "law" "law" mx f fd) (G:Gb mg)
  (GT:Cl P w K mg base CX0 2 g gd ["script","k"] (ij K) "_law_tape")
  (GD:Cl P w K mg base CX0 1 f2 fd2 ["tape","many"] cc "_law_digit")
  (GB:Cl P w K mg base CX0 6 f3 fd3 ["script","start","few"] (mn K) "_law_book")
  (GC:Cl P w K mg base CX0 1 f4 fd4 ["script","k"] (jU K) "_law_cell_at")
  (GN:Cl P w K mg base CX0 2 f5 fd5 ["book","most"] gn "_law_counts")
  (GR:Cl P w K mg base CX0 17 f6 fd6 ["book","sort","size","many"] (io tbA) "_law_right")
  (GA:Cl P w K mg base (CX1 P w C) 5 f7 fd7 ["book","sort","size"] (fI C tbA) "trees_of"):
  FnOk P w K mg base CX0 18 f fd ["script"] (kO K tbA):=by
 refine F.ok scLaw (λvs H Q E h=>?_) (λcdv A outer s H vs Q E hr h=>?_)
 ·obtain ⟨a,ns,rfl,_⟩:=h
  rfl
 obtain ⟨a,ns,rfl,hS,hlen,hTb,q⟩:=h
 have hu:=dL hr
 have hu0:=hr.units0
 have hr1:=hr.mono (show 1<=17 by decide)
 have hr2:=hr.mono (show 2<=17 by decide)
 have hr5:=hr.mono (show 5<=17 by decide)
 have hr6:=hr.mono (show 6<=17 by decide)
 refine ⟨_,ah (aU zw rfl (pk rfl G.range (aa af (aa (ax (gF rfl) rfl G.max (by decide +kernel) (aa af (aa (ax (jH rfl) rfl G.min (by decide +kernel) (aa af (aa (ax (r:=cr K) av rfl G.len zC (aa (pv 0) ae)) ae))) ae))) (aa af ae)))) (aw (i:=1) scLaw.nd rfl (Or.inl rfl))
   (ah (ao (i:=2) scLaw.nd rfl (Or.inl rfl) (pcl GB hr6 (aa (pv 0) (aa (pv 1) (aa fR ae)))))
   (ah (ao (i:=3) scLaw.nd rfl (Or.inl rfl) (pcl GT hr2 (aa (pv 0) (aa (pv 1) ae))))
   (ah (ao (i:=4) scLaw.nd rfl (Or.inl rfl) (aX (aa (aq aQ af (pcl GD hr1 (aa (pv 3) (aa af ae)))) (aa (aq aQ af (pcl GD hr1 (aa (pv 3) (aa af ae)))) ae))))
   (ah (a8 (aF cU (aq bQ (aq eO (pcl GC hr1 (aa (pv 0) (aa (pv 1) ae))) af) af) af (aG _))
    (ah (ao (i:=5) scLaw.nd rfl (Or.inr rfl) (au (r:=aS K) aA (au (r:=aS K) aA (au (r:=aS K) aA (pv 2) af (λ_ _=>rfl)) (aq bQ (aq eO (pcl GC hr1 (aa (pv 0) (aa (pv 1) ae))) af) (ax (r:=cr K) av rfl G.len zC (aa (au (r:=aS K) aA (pv 2) af (λ_ _=>rfl)) ae))) (λ_ _=>rfl)) af (λ_ _=>rfl)))
    (ah (ao (i:=6) scLaw.nd rfl (Or.inl rfl) (bd (r:=dA K) bC rfl G.tuple (by decide +kernel) (aa
     (lg (sc0:=am mx) (N0:=ya) (ys:=["gone"]) (fr:=[5]) rfl (ce (au (r:=aS K) aA (pv 2) af (λ_ _=>rfl))) rfl rfl
      cok
      (λC s H ex=>aF fS (au (r:=aS K) aA (pv 0) af (λ_ _=>rfl)) (pv 1) (aG _)) (λC s H ex=>pv 0)) ae)))
    (al (ao (i:=2) scLaw.nd rfl (Or.inl rfl) (aN (aa (au (r:=aS K) aA (pv 2) af (λ_ _=>rfl)) (aa (au (r:=aS K) aA (pv 2) af (λ_ _=>rfl))
     (aa (aq oj (pv 6) (aZ eJ (au (r:=aS K) aA (pv 2) af (λ_ _=>rfl)) bp (a9 (bd du rfl G.int (by decide +kernel) (aa (cJ (fj hu0) (pv 6) (aN ae) (aG _)) ae))))) ae)))))))) aM)
   (ah (ao (i:=7) scLaw.nd rfl (Or.inl rfl) (pcl GN hr2 (aa (pv 2) (aa (ax (qd rfl) rfl G.max (by decide +kernel) (aa (pv 4) ae)) ae))))
   (ah (aU zw rfl (be (pv 4)) (aw (i:=8) scLaw.nd rfl (Or.inl rfl))
    (al (aU zw rfl (ce (au (r:=aS K) aA (pv 2) af (λ_ _=>rfl))) (aw (i:=9) scLaw.nd rfl (Or.inl rfl))
     (al (a8 (iB (fh (pcl GR hr (aa (pv 2) (aa (au (r:=aS K) aA (pv 9) af (λ_ _=>rfl)) (aa (pv 8) (aa (bJ hu (au (r:=cf K) aR (pv 7) (pv 8) (λ_ _=>rfl)) (au (r:=aS K) aA (pv 9) af (λ_ _=>rfl)) (λ_ _=>rfl)) ae))))))) dj aM)))))
   (al (a8 (aF (pA hu0) (rm GA hr5 rB (aa (pv 2) (aa br (aa (au (r:=cf K) aR (pv 4) af (λ_ _=>rfl)) ae)))) (aX ae) (aG _)) dj aM)))))))))
  (al (aH fR)),?_⟩
 have hll:(ns.map V.int).length=ns.length:=yP _
 refine ⟨_,rfl,a,_,rfl,.inl hS,22,_,rfl,1,_,rfl,0,_,11,rfl,?_,?_⟩
 ·rw [hll]
  refine ⟨by decide,by decide,?_,?_,by decide,by decide⟩ <;> split <;> split <;> lia
 rw [hll]
 have hb:Builtin.Range.rangeSize 0 (if (if (ns.length:Int) <22 then (ns.length:Int)else 22) >1 then (if (ns.length:Int) <22 then (ns.length:Int)else 22)else 1) 11<=2:=by
  unfold Builtin.Range.rangeSize
  rw [yW (by decide)]
  split <;> (try split) <;> (try split) <;> lia
 refine sD (λi U H'=> ∃ o1 o2 o3 o4 o5 o6 o7 o8 o9,U=[some (.ref a),o1,o2,o3,o4,o5,o6,o7,o8,o9]/\Kp tbA H H'/\TabN tbA H') ⟨_,_,_,_,_,_,_,_,_,rfl,Kp.refl,hTb⟩ ?_ ?_
 ·rintro i x U H1 hi rfl ⟨o1,o2,o3,o4,o5,o6,o7,o8,o9,rfl,k1,t1⟩
  have hi2:(i:Int) <2:=by lia
  have hS1:=hTb.sql k1 hS
  refine ⟨_,rfl,_,rfl,a,ns,_,false,rfl,hS1,hlen,by lia,by lia,λbv bk H2 hB hok s2=>?_⟩
  have hS2:=Same.lst s2 hS1
  have t2:=t1.same s2
  have k2:Kp tbA H H2:=k1.same s2
  refine ⟨_,rfl,_,rfl,a,ns,_,rfl,hS2,hlen,by lia,by lia,λtp t hp=>?_⟩
  have s3:=ai hp (.lst [.int t])
  have p3:Tp (upd H2 tp (.lst [.int t])) tp:=⟨t,ad⟩
  generalize upd H2 tp (.lst [.int t])=H3 at s3 p3 ⊢
  have kS: ∀ {Ha Hb:Hp},Same H2 Ha->Kp tp Ha Hb->Same H2 Hb:=λsa kb c o h=>kb _ _ (sa _ _ h) (aj h hp)
  refine ⟨_,rfl,tp,_,rfl,p3,by decide,by decide,λd1 u1 hd1 hd1'=>⟨_,_,rfl,rfl,?_⟩⟩
  obtain ⟨e1,rfl⟩: ∃ k:Nat,d1=(k:Int):=⟨d1.toNat,by lia⟩
  rw [show (V.int (1+ ((e1:Nat):Int)))=V.int ((1+e1:Nat):Int)from congrArg V.int (show (1:Int) + ((e1:Nat):Int)=((1+e1:Nat):Int) by lia)]
  have S4:Same H2 (upd H3 tp (.lst [.int u1])):=kS s3 Kp.tape
  have p4:Tp (upd H3 tp (.lst [.int u1])) tp:=⟨u1,ad⟩
  generalize upd H3 tp (.lst [.int u1])=H4 at S4 p4 ⊢
  refine ⟨_,rfl,tp,_,rfl,p4,by decide,by decide,λd2 u2 hd2 hd2'=>⟨_,_,rfl,rfl,?_⟩⟩
  obtain ⟨e2,rfl⟩: ∃ k:Nat,d2=(k:Int):=⟨d2.toNat,by lia⟩
  rw [show (V.int (1+ ((e2:Nat):Int)))=V.int ((1+e2:Nat):Int)from congrArg V.int (show (1:Int) + ((e2:Nat):Int)=((1+e2:Nat):Int) by lia)]
  have S5:Same H2 (upd H4 tp (.lst [.int u2])):=kS S4 Kp.tape
  generalize upd H4 tp (.lst [.int u2])=H5 at S5 ⊢
  refine ⟨(by show 2<=sizeLine;decide),λsz hsz=>?_⟩
  have S6:=S5.trans (ai hsz (.lst [.int ((1+e1:Nat):Int),.int ((1+e2:Nat):Int)]))
  have g6:(upd H5 sz (.lst [.int ((1+e1:Nat):Int),.int ((1+e2:Nat):Int)])) sz=some (.lst [.int ((1+e1:Nat):Int),.int ((1+e2:Nat):Int)]):=ad
  generalize upd H5 sz (.lst [.int ((1+e1:Nat):Int),.int ((1+e2:Nat):Int)])=H6 at S6 g6 ⊢
  have hS6:=Same.lst S6 hS2
  have t6:=t2.same S6
  have k6:=k2.same S6
  have hB6:=hB.mono (aL S6)
  clear hB hS2 hS1 t1 k1 k2 S5 S4 p4 p3 s3 kS S6
  refine ⟨_,rfl,_,rfl,a,ns,_,rfl,hS6,hlen,by lia,λc=>⟨_,_,rfl,rfl,⟨by decide,by decide⟩,_,_,rfl,rfl,(by show (0:Int) <2;decide),rfl,_,rfl,?_⟩⟩
  refine uz (λU' H'=> ∃ bv bk o5 o6,U'=[some (.ref a),some (.int (0+ (i:Int) *11)),some bv,some (.ref tp),some (.ref sz),o5,o6,o7,o8,o9]/\RepB H' bk bv/\BkG bk/\Same H6 H') ⟨bv,bk,o5,o6,rfl,hB6,hok.g,Same.refl _⟩ ?_ ?_
  ·rintro U7 H7 ⟨bw,bj,o5',o6',rfl,hB7,hG,s7⟩
   clear hB6
   have g7:=s7 _ _ g6
   have t7:=t6.same s7
   have k7:=k6.same s7
   clear t6 k6 hS6
   refine ⟨_,rfl,_,rfl,sz,[((1+e1:Nat):Int),((1+e2:Nat):Int)],rfl,SqL.of g7,(by show 0<2;decide),λM hM hmx=>?_⟩
   obtain ⟨m,rfl,hm⟩: ∃ m:Nat,M=(m:Int)/\m<=14:=by
    rcases za.mp hM with e | h
    ·exact ⟨_,e,by lia⟩
    ·exact ⟨_,y0.mp h,by lia⟩
   have m1:=hmx _ yT
   have m2:=hmx _ (yY _ yT)
   refine ⟨bw,bj,m,rfl,hB7,hG.w,by lia,λcl H8 hcl s8 hLC=>?_⟩
   have g8:=s8 _ _ g7
   have t8:=t7.same s8
   have k8:=k7.same s8
   have hB8:=hB7.mono (aL s8)
   clear hB7 s7 g7 t7 k7
   obtain ⟨b,sa,fa,fv,rfl,hb8,⟨sx,hsa,hSx⟩,hfa,hF⟩:=id hB8
   refine ⟨_,rfl,sz,rfl,⟨_,SqL.of g8⟩,?_⟩
   refine bL (xs:=[.int ((1+e1:Nat):Int),.int ((1+e2:Nat):Int)]) (λj U H'=> ∃ o8 o9,U=[some (.ref a),some (.int (0+ (i:Int) *11)),some (.ref b),some (.ref tp),some (.ref sz),o5',o6',some (.ref cl),o8,o9]/\Kp tbA H8 H'/\TabN tbA H')
    ⟨_,_,rfl,Kp.refl,t8⟩ (λj U H' _ h=>by obtain ⟨_,_,_,k,_⟩:=h;exact SqL.of (k _ _ g8 (t8.ne g8 λ_ h=>by cases h))) ?_ ?_
   ·rintro j x U H9 hx ⟨o8',o9',rfl,k9,t9⟩
    obtain ⟨n,rfl,hn1,hnm⟩: ∃ n:Nat,x=.int (n:Int)/\1<=n/\n<=m:=by
     match j,hx with
     | 0,hx=>cases hx;exact ⟨_,rfl,by lia,by lia⟩
     | 1,hx=>cases hx;exact ⟨_,rfl,by lia,by lia⟩
    have tk9:=t8.tk k9
    refine ⟨_,rfl,b,_,1,.ref sa,rfl,rfl,SqT.of (tk9 _ _ hb8),aE (j:=1) rfl,sa,rfl,⟨sx,SqT.of (tk9 _ _ hsa)⟩,?_⟩
    refine cL (xs:=sx) (λj U H'=> ∃ o9,U=[some (.ref a),some (.int (0+ (i:Int) *11)),some (.ref b),some (.ref tp),some (.ref sz),o5',o6',some (.ref cl),some (.int (n:Int)),o9]/\Kp tbA H8 H'/\TabN tbA H')
     ⟨_,rfl,k9,t9⟩ (λj U H' _ h=>by obtain ⟨_,_,k,_⟩:=h;exact SqT.of (t8.tk k _ _ hsa)) ?_ ?_
    ·rintro l y U H10 hy ⟨o9'',rfl,k10,t10⟩
     have tk10:=t8.tk k10
     obtain ⟨sr,hsr,sb,sc,se,rfl,hsb,_,_⟩:=aD hSx hy
     obtain ⟨ds,e3,e4,e5⟩:=LC.kp t8 k10 hLC
     obtain ⟨d,kvs,e6,e7,e8⟩:=e5 n hn1 (by lia)
     have e9:=e8 sr (y3 hsr)
     refine ⟨_,rfl,_,rfl,sb,_,0,.str sr.name,rfl,rfl,SqT.of (tk10 _ _ hsb),db,_,rfl,_,rfl,_,rfl,cl,ds,_,.ref d,rfl,rfl,SqL.of e3,aE e6,_,rfl,sb,_,0,.str sr.name,rfl,rfl,SqT.of (tk10 _ _ hsb),db,d,_,rfl,(by rw [<- e9];exact DGet.k (k:=Sum.inr sr.name) e7),?_⟩
     refine ⟨.ref b,bj,sr.name,n,rfl,hB8.mono tk10,hG,by lia,t10,⟨sr,rfl⟩,λH11 k11 t11=>⟨true,rfl,cE ?_⟩⟩
     exact ⟨_,rfl,k10.trans k11,t11⟩
    ·rintro U H10 ⟨o9'',rfl,k10,t10⟩
     exact ⟨_,_,rfl,k10,t10⟩
   ·rintro U H9 ⟨o8',o9',rfl,k9,t9⟩
    have tk9:=t8.tk k9
    have g9:=k9 _ _ g8 (t8.ne g8 λ_ h=>by cases h)
    have hz0:Rn bj ["nosuch"] (1+e1)=0:=sY hG.w (RowIn.no hG.w) _
    refine ⟨_,rfl,_,rfl,sz,_,0,_,rfl,rfl,SqL.of g9,db,.ref b,bj,"nosuch",1+e1,rfl,hB8.mono tk9,hG,by lia,t9,λh=>(by lia),λ_ p10 ys H10 hp10 k10 t10 g10 hy=>?_⟩
    have ly:=ze hy
    rw [nG,hz0]at ly
    have e:ys=[]:=List.length_eq_zero_iff.mp ly.symm
    subst e
    refine ⟨(by show 0<=sizeLine;decide),λp11 hp11=>?_⟩
    have s11:=ai hp11 (.lst [])
    have g11:(upd H10 p11 (.lst [])) p11=some (.lst []):=ad
    generalize upd H10 p11 (.lst [])=H11 at s11 g11 ⊢
    refine ⟨p10,p11,[],rfl,rfl,SqL.of (s11 _ _ g10),SqL.of g11,false,rfl,cE ?_⟩
    exact ⟨_,_,_,_,_,_,_,_,_,rfl,(k8.trans (k9.trans k10)).same s11,t10.same s11⟩
  ·intro hN
   obtain ⟨b,sa,fa,fv,rfl,hbk,⟨sx,hsa,hSx⟩,hfa,hF⟩:=id hB6
   have lS:=hSx.len
   have lF:=hF.len
   have h10:=hok.few
   have hs1:=hok.g.so.1
   refine ⟨_,rfl,b,_,1,.ref sa,rfl,rfl,SqT.of hbk,aE (j:=1) rfl,_,rfl,_,rfl,a,ns,_,rfl,hS6,hlen,by lia,λc=>?_⟩
   refine ⟨_,_,rfl,rfl,⟨by decide,by decide⟩,_,rfl,b,_,1,.ref sa,rfl,rfl,SqT.of hbk,aE (j:=1) rfl,sa,sx,rfl,.inr (SqT.of hsa),_,_,rfl,rfl,by lia,?_⟩
   obtain ⟨sr,sb,sc,se,hsm,eat,hsb⟩:=gX hSx (d:=c/7% ((sx.length:Nat):Int)) (AH _ (by lia)) (Am _ (by lia))
   refine ⟨sa,sx,_,.ref sb,rfl,rfl,SqT.of hsa,eat,sb,_,0,.str sr.name,rfl,rfl,SqT.of hsb,db,?_⟩
   refine ⟨_,rfl,b,_,2,.ref fa,rfl,rfl,SqT.of hbk,aE (j:=2) rfl,fa,rfl,⟨fv,SqT.of hfa⟩,?_⟩
   refine lO (by lia) hF (su hfa) (sk hfa) (vi hfa) (λfr=> !decide (fr.own.name=sr.name)) (λH fr v=>RepF H fr v) (λk h=>h.mono k) ?_ ?_ ?_
   ·rintro fr v H' k _ ⟨a1,pa,ra,rv,rfl,g1,_⟩ s' hk
    refine ⟨_,rfl,a1,_,1,.str fr.own.name,rfl,rfl,SqT.of (s' _ _ g1),aE (j:=1) rfl,_,rfl,rfl,_,rfl,?_⟩
    rw [show decide (V.str fr.own.name=V.str sr.name)=decide (fr.own.name=sr.name)from B3.mpr ⟨λe=>V.str.inj e,λe=>by rw [e]⟩]
    exact hk
   ·rintro fr v H' k _ hR _ s' hk
    exact ⟨_,rfl,hk _ _ (λ_ _ h=>h) (hR.mono (aL s'))⟩
   intro p zs H8 hp s8 gp hz
   refine ⟨p,zs,rfl,.inl ⟨SqL.of gp,λl hl=>?_⟩⟩
   have s9:=ai hl (.tup zs)
   have g9:(upd H8 l (.tup zs)) l=some (.tup zs):=ad
   generalize upd H8 l (.tup zs)=H9 at s9 g9 ⊢
   have T9:=s8.trans s9
   have hb9:=T9 _ _ hbk
   have lz:=ze hz
   have hzl:zs.length<=10:=by
    have:=Bj (λfr:Frm=> !decide (fr.own.name=sr.name)) bk.forms
    lia
   refine ⟨_,rfl,b,_,0,_,rfl,rfl,SqT.of hb9,db,_,rfl,b,_,1,.ref sa,rfl,rfl,SqT.of hb9,aE (j:=1) rfl,_,rfl,_,rfl,b,_,2,.ref fa,rfl,rfl,SqT.of hb9,aE (j:=2) rfl,?_⟩
   refine ⟨_,rfl,(by show 0<=sizeLine;decide),λe he=>?_⟩
   have s10:=ai he (.tup [])
   have g10:(upd H9 e (.tup [])) e=some (.tup []):=ad
   generalize upd H9 e (.tup [])=H10 at s10 g10 ⊢
   have T10:=T9.trans s10
   refine ⟨l,e,zs,rfl,rfl,SqT.of (s10 _ _ g9),SqT.of g10,.inr ⟨_,rfl,_,rfl,fa,fv,rfl,T10 _ _ hfa,λp11 H11 s11 g11=>?_⟩⟩
   have T11:Same H6 H11:=T10.trans s11
   obtain ⟨fs,hsub,hfs,hf10⟩: ∃ fs:List Frm,fs.Sublist bk.forms/\Paired (RepF H11) fs (zs++cA fv none (some (if zs.isEmpty=true then 1 else 0)))/\fs.length<=10:=by
    match zs,hz with
    | [],_=>
     refine ⟨bk.forms.take 1,AO _ _,?_,zc (AO _ _).length_le h10⟩
     show Paired _ _ (cA fv none (some ((1:Nat):Int)))
     rw [sO]
     exact ef (Paired.mapP hF λ_ _ h=>h.mono (aL T11)) 1
    | x::r,hz=>
     refine ⟨bk.forms.filter λfr=> !decide (fr.own.name=sr.name),List.filter_sublist,?_,zc List.filter_sublist.length_le h10⟩
     show Paired _ _ ((x::r)++cA fv none (some ((0:Nat):Int)))
     rw [sO,BQ,zy]
     exact Paired.mapP hz λ_ _ h=>h.mono (aL (s9.trans (s10.trans s11)))
   refine ⟨l,p11,zs,_,rfl,rfl,s11 _ _ (s10 _ _ g9),g11,?_,λp12 H12 s12 g12=>?_⟩
   ·rw [<- yZ,<- ze hfs]
    exact zc hf10 (by decide)
   have T12:Same H6 H12:=T11.trans s12
   refine ⟨(by show 3<=sizeLine;decide),λp13 hp13=>?_⟩
   have s13:=ai hp13 (.tup [.int bk.wheel,.ref sa,.ref p12])
   have g13:(upd H12 p13 (.tup [.int bk.wheel,.ref sa,.ref p12])) p13=some (.tup [.int bk.wheel,.ref sa,.ref p12]):=ad
   have T13:=T12.trans s13
   refine hN _ _ ⟨.ref p13,⟨bk.wheel,bk.sorts,fs⟩,_,_,rfl,⟨p13,sa,p12,_,rfl,g13,⟨sx,T13 _ _ hsa,hSx.mono (aL T13)⟩,s13 _ _ g12,Paired.mapP hfs λ_ _ h=>h.mono (aL (Same.trans s12 s13))⟩,hok.g.sub hsub,T13⟩
 ·rintro U H1 _
  exact q H1
theorem scLFormOf:aI ["book","name","found","form"] ["book","name"] (am iw):=fsc
theorem mR (F:Fun K "_law_form_of" "_law_form_of" iw f fd):FnOk P w K mg base CX0 1 f fd ["book","name"] fL:=by
 refine F.ok scLFormOf (λvs H Q E h=>?_) (λcdv A outer s H vs Q E hr h=>?_)
 ·obtain ⟨bv,bk,nm,rfl,_⟩:=h
  rfl
 obtain ⟨bv,bk,nm,rfl,⟨a,sa,fa,fv,rfl,ha,_,hfa,hF⟩,hl,q⟩:=h
 refine ⟨_,ah (ao (i:=2) scLFormOf.nd rfl (Or.inl rfl) cC)
  (ah (aU zw rfl (ce (au (r:=aS K) aA (pv 0) af (λ_ _=>rfl))) (aw (i:=3) scLFormOf.nd rfl (Or.inl rfl))
   (al (a8 (aF cU (au (r:=aS K) aA (pv 3) af (λ_ _=>rfl)) (pv 1) (aG _)) (al (ao (i:=2) scLFormOf.nd rfl (Or.inl rfl) (pv 3))) aM)))
  (al (aH (pv 2)))),?_⟩
 refine ⟨_,rfl,a,_,2,.ref fa,rfl,rfl,SqT.of ha,aE (j:=2) rfl,fa,rfl,⟨fv,SqT.of hfa⟩,?_⟩
 refine cL (xs:=fv) (λi U H'=> ∃ v o3,U=[some (.ref a),some (.str nm),some v,o3]/\H'=H/\xX H (bX nm (bk.forms.take i)) v)
  ⟨.non,none,rfl,rfl,rfl⟩ (λi U H' _ h=>by obtain ⟨_,_,_,rfl,_⟩:=h;exact SqT.of hfa) ?_ ?_
 ·rintro i x U _ hx ⟨v,o3,rfl,rfl,hv⟩
  obtain ⟨fr,hfr,b,pa,ra,rv,rfl,hb,hre1,hre2,hre3⟩:=aD hF hx
  refine ⟨_,rfl,b,_,0,_,rfl,rfl,SqT.of hb,db,_,rfl,rfl,_,rfl,?_⟩
  have e1:bk.forms.take (i+1)=bk.forms.take i++[fr]:=by rw [zz,hfr];rfl
  refine bO (λc=>?_) (λc=>?_)
  ·have c':fr.name=nm:=V.str.inj (zf c)
   refine ⟨_,rfl,_,_,rfl,rfl,?_⟩
   rw [e1,fu,yW c']
   exact ⟨b,pa,ra,rv,rfl,hb,hre1,hre2,hre3⟩
  ·have c': ¬ fr.name=nm:=λe=>c (zq (by rw [e]))
   refine ⟨_,_,rfl,rfl,?_⟩
   rw [e1,fu,yU c']
   exact hv
 ·rintro U _ ⟨v,o3,rfl,rfl,hv⟩
  rw [<- hF.len,zG]at hv
  exact ⟨_,rfl,q v hv⟩
theorem iL {K:W.Frag} {C:Addr} {b:Value} {r:Bool} (h:PySem.W.mroIn K C b=some r):(PySem.W.clsIn K C).isSome=true:=by
 unfold PySem.W.mroIn at h
 cases e:PySem.W.clsIn K C with
 | none=>rw [e]at h;cases h
 | some c=>rfl
theorem gG {α:Type} {l:List α} (h:l.length=1): ∃ a,l=[a]:=by
 match l,h with
 | [a],_=>exact ⟨a,rfl⟩
theorem cF {α:Type} {l:List α} (h:l.length=2): ∃ a b,l=[a,b]:=by
 match l,h with
 | [a,b],_=>exact ⟨a,b,rfl⟩
theorem dD {α:Type} {l:List α} (h:l.length=3): ∃ a b c,l=[a,b,c]:=by
 match l,h with
 | [a,b,c],_=>exact ⟨a,b,c,rfl⟩
theorem sU {α:Type} {l:List α} (h:l.length=4): ∃ a b c d,l=[a,b,c,d]:=by
 match l,h with
 | [a,b,c,d],_=>exact ⟨a,b,c,d,rfl⟩
theorem wI {α:Type} {l:List α} (h:l.length=5): ∃ a b c d e,l=[a,b,c,d,e]:=by
 match l,h with
 | [a,b,c,d,e],_=>exact ⟨a,b,c,d,e,rfl⟩
theorem wH {α:Type} {l:List α} (h:l.length=6): ∃ a b c d e f,l=[a,b,c,d,e,f]:=by
 match l,h with
 | [a,b,c,d,e,f],_=>exact ⟨a,b,c,d,e,f,rfl⟩
/-- what is told of a def -/
structure Df (K:W.Frag) (nm:Str) (st:Stmt) (f:Addr) (fd:FuncData):Prop where
 a:PySem.W.nsIn K mainGlobals nm=some (some (.ref f))
 k:W.keepIn K (.ref f)=true
 F:Fun K nm nm st f fd
theorem Df.m {K:W.Frag} {nm:Str} {st:Stmt} {f:Addr} {fd:FuncData} {h:Heap} {mg:Str->Option Value} (d:Df K nm st f fd) (X:K.In h) (G:h.Ns mainGlobals mg):mg nm=some (.ref f):=zS X G d.a
theorem Df.of {K:W.Frag} {nm:Str} {st:Stmt} {f:Addr} {oc:Value} {od an:Option Addr} {osl:Array (Option Value)} {kV doc pm cdv ct:Value} (a:PySem.W.nsIn K mainGlobals nm=some (some (.ref f))) (k:W.keepIn K (.ref f)=true)
  (l:K.lookup f=some ⟨oc,od,.func (PySem.W.fnOf nm nm (gb st) (bW st) (am st) .none kV doc pm an cdv ct),osl⟩) (c:PySem.W.codeIn K cdv nm=true):Df K nm st f (PySem.W.fnOf nm nm (gb st) (bW st) (am st) .none kV doc pm an cdv ct):=
 ⟨a,k,⟨⟨oc,od,kV,doc,pm,an,cdv,ct,osl,rfl,l,c⟩,k⟩⟩
theorem all_mk {l:PySem.W.OpenLaw} {w:World} {K:W.Frag} {h:Heap} {mg:Str->Option Value} {fa cS Pt C CB f1 f2 f3 f4 f5 f6 f7 f8 f9 f10 f11 f12 f13 f14 f15 f16 f17 f18 f19 f20 f21 f22 f23 f24 f25 f26 f27 f28 f29 f30 f31 f32 D0 D1 D2 D3 D4 D5 D6 D7 D8 D9 D10 D11 D12 D13 D14 D15 D16:Addr} {r1 r2 r3 r4 r5 r6 r7 r8 r9 r10 r11 r12 r13 r14 r15 r16 r17 r18 r19 r20 r21 r22 r23 r24 r25 r26 r27 r28 r29 r30 r31 r32:FuncData} {tM:Tok} (X:K.In h) (G:h.Ns mainGlobals mg) (hfa:mg "law"=some (.ref fa)) (hTb:sX h mg "keys_needed" cS Pt)
  (d1:Df K "sorts_of" ir f1 r1)
  (d2:Df K "forms_of" iz f2 r2)
  (d3:Df K "sort_of_form" dW f3 r3)
  (d4:Df K "parts_of" iu f4 r4)
  (d5:Df K "trees_of" fM f5 r5)
  (d6:Df K "counts_up_to" qN f6 r6)
  (d7:Df K "rows_of" jY f7 r7)
  (d8:Df K "count_of" dY f8 r8)
  (d9:Df K "forms_with_keys" eK f9 r9)
  (d10:Df K "cuts_of" jp f10 r10)
  (d11:Df K "keys_needed" fN f11 r11)
  (d12:Df K "keys_beneath" fP f12 r12)
  (d13:Df K "all_made" dZ f13 r13)
  (d14:Df K "_law_cell_at" qR f14 r14)
  (d15:Df K "_law_tape" qP f15 r15)
  (d16:Df K "_law_digit" mz f16 r16)
  (d17:Df K "_law_names" dX f17 r17)
  (d18:Df K "_law_number" jZ f18 r18)
  (d19:Df K "_law_leaf" qQ f19 r19)
  (d20:Df K "_law_formula" di f20 r20)
  (d21:Df K "_law_sorts" mw f21 r21)
  (d22:Df K "_law_targets" dU f22 r22)
  (d23:Df K "_law_readings" cP f23 r23)
  (d24:Df K "_law_form" my f24 r24)
  (d25:Df K "_law_book" dH f25 r25)
  (d26:Df K "_law_form_of" iw f26 r26)
  (d27:Df K "_law_check" j1 f27 r27)
  (d28:Df K "_law_rows" j0 f28 r28)
  (d29:Df K "_law_counts" iy f29 r29)
  (d30:Df K "_law_told" qO f30 r30)
  (d31:Df K "_law_right" fO f31 r31)
  (d32:Df K "law" mx f32 r32)
  (z1:PySem.W.nsIn K mainGlobals "isinstance"=some none)
  (z2:PySem.W.nsIn K mainGlobals "int"=some none)
  (z3:PySem.W.nsIn K mainGlobals "bool"=some none)
  (z4:PySem.W.nsIn K mainGlobals "str"=some none)
  (z5:PySem.W.nsIn K mainGlobals "tuple"=some none)
  (z6:PySem.W.nsIn K mainGlobals "len"=some none)
  (z7:PySem.W.nsIn K mainGlobals "all"=some none)
  (z8:PySem.W.nsIn K mainGlobals "range"=some none)
  (z9:PySem.W.nsIn K mainGlobals "max"=some none)
  (z10:PySem.W.nsIn K mainGlobals "min"=some none)
  (z11:PySem.W.nsIn K mainGlobals "list"=some none)
  (z12:PySem.W.nsIn K mainGlobals "zip"=some none)
  (z13:PySem.W.nsIn K mainGlobals "sum"=some none)
  (z14:PySem.W.nsIn K mainGlobals "sorted"=some none)
  (z15:PySem.W.nsIn K mainGlobals "set"=some none)
  (z16:PySem.W.nsIn K mainGlobals "repr"=some none)
  (z17:PySem.W.nsIn K mainGlobals "ValueError"=some none)
  (aC:PySem.W.nsIn K mainGlobals "TooMany"=some (some (.ref C))) (aB:PySem.W.nsIn K mainGlobals "BoughError"=some (some (.ref CB)))
  (iM:PySem.W.nsIn K mainGlobals "MOST_LISTED"=some (some (.int 1000 tM)))
  (c0:PySem.W.nsIn K mainGlobals "NoBook"=some (some (.ref D0)))
  (c1:PySem.W.nsIn K mainGlobals "NoBuild"=some (some (.ref D1)))
  (c2:PySem.W.nsIn K mainGlobals "NoChange"=some (some (.ref D2)))
  (c3:PySem.W.nsIn K mainGlobals "NoFit"=some (some (.ref D3)))
  (c4:PySem.W.nsIn K mainGlobals "NoGiven"=some (some (.ref D4)))
  (c5:PySem.W.nsIn K mainGlobals "NoName"=some (some (.ref D5)))
  (c6:PySem.W.nsIn K mainGlobals "NoPlace"=some (some (.ref D6)))
  (c7:PySem.W.nsIn K mainGlobals "NoPlain"=some (some (.ref D7)))
  (c8:PySem.W.nsIn K mainGlobals "NoPrice"=some (some (.ref D8)))
  (c9:PySem.W.nsIn K mainGlobals "NoRow"=some (some (.ref D9)))
  (c10:PySem.W.nsIn K mainGlobals "NoSpot"=some (some (.ref D10)))
  (c11:PySem.W.nsIn K mainGlobals "NoText"=some (some (.ref D11)))
  (c12:PySem.W.nsIn K mainGlobals "NoTree"=some (some (.ref D12)))
  (c13:PySem.W.nsIn K mainGlobals "NoWorth"=some (some (.ref D13)))
  (c14:PySem.W.nsIn K mainGlobals "Ring"=some (some (.ref D14)))
  (c15:PySem.W.nsIn K mainGlobals "Tangled"=some (some (.ref D15)))
  (c16:PySem.W.nsIn K mainGlobals "TooGreat"=some (some (.ref D16)))
  (x1:PySem.W.excIn K C [.type "ValueError",.type "Exception",.type "BaseException",.type "object"] "ValueError.__new__"=true)
  (x2:PySem.W.findIn K (.ref C) "__getattribute__"=some (some (.builtin "BaseException.__getattribute__"))) (x3:PySem.W.findIn K (.ref C) "__getattr__"=some none) (x4:PySem.W.findIn K (.ref C) "__class__"=some (some (.builtin "object.__class__")))
  (x5:PySem.W.specialIn K (.builtin "object.__class__") "__get__"=some (some (.builtin "getset_descriptor.__get__"))) (x6:PySem.W.takesIn K (.builtin "object.__class__")=some true)
  (x7:PySem.W.mroIn K C (.type "object")=some true) (x8:PySem.W.mroIn K C (.type "BaseException")=some true) (x9:PySem.W.mroIn K C (.ref CB)=some true) (x10:PySem.W.mroIn K CB (.type "BaseException")=some true) (x11:PySem.W.typeIn K (.ref CB)=some (.type "type"))
  (x12:PySem.W.kitAny K (.ref C) [.ref D0,.ref D1,.ref D2,.ref D3,.ref D4,.ref D5,.ref D6,.ref D7,.ref D8,.ref D9,.ref D10,.ref D11,.ref D12,.ref D13,.ref D14,.ref D15,.ref D16]=some false) (x13:PySem.W.kitOne K (.ref C) (.type "ValueError")=some true):
  ∃ fd:FuncData,(∀ (s:Shared) (v:Value),BindsTo s fd ⟨[v],[]⟩ [("script",v)])/\ ∀ base:Heap,K.In base->base.Ns mainGlobals mg->PySem.W.CodeHd base cS Pt->base.BuiltinsAt mg Pt->FnOk l.prog w K mg base CX0 18 fa fd ["script"] (kO K Pt):=by
 have e:=hfa.symm.trans (d32.m X G)
 cases e
 have b1:=d1.F.binds (ps:=["book"]) λ_ _ _ _ _ _ us hl=>by obtain ⟨x,rfl⟩:=gG hl;rfl
 have m1:=d1.m X G
 have b2:=d2.F.binds (ps:=["book"]) λ_ _ _ _ _ _ us hl=>by obtain ⟨x,rfl⟩:=gG hl;rfl
 have m2:=d2.m X G
 have b3:=d3.F.binds (ps:=["form"]) λ_ _ _ _ _ _ us hl=>by obtain ⟨x,rfl⟩:=gG hl;rfl
 have m3:=d3.m X G
 have b4:=d4.F.binds (ps:=["form"]) λ_ _ _ _ _ _ us hl=>by obtain ⟨x,rfl⟩:=gG hl;rfl
 have m4:=d4.m X G
 have b5:=d5.F.binds (ps:=["book","sort","size"]) λ_ _ _ _ _ _ us hl=>by obtain ⟨x,y,z,rfl⟩:=dD hl;rfl
 have m5:=d5.m X G
 have b6:=d6.F.binds (ps:=["book","size"]) λ_ _ _ _ _ _ us hl=>by obtain ⟨x,y,rfl⟩:=cF hl;rfl
 have m6:=d6.m X G
 have b7:=d7.F.binds (ps:=["book"]) λ_ _ _ _ _ _ us hl=>by obtain ⟨x,rfl⟩:=gG hl;rfl
 have m7:=d7.m X G
 have b8:=d8.F.binds (ps:=["book","counts","row","total"]) λ_ _ _ _ _ _ us hl=>by obtain ⟨x,y,z,u,rfl⟩:=sU hl;rfl
 have m8:=d8.m X G
 have b9:=d9.F.binds (ps:=["book","row","total"]) λ_ _ _ _ _ _ us hl=>by obtain ⟨x,y,z,rfl⟩:=dD hl;rfl
 have m9:=d9.m X G
 have b10:=d10.F.binds (ps:=["row","total"]) λ_ _ _ _ _ _ us hl=>by obtain ⟨x,y,rfl⟩:=cF hl;rfl
 have m10:=d10.m X G
 have b11:=d11.F.binds (ps:=["book","counts","top"]) λ_ _ _ _ _ _ us hl=>by obtain ⟨x,y,z,rfl⟩:=dD hl;rfl
 have m11:=d11.m X G
 have b12:=d12.F.binds (ps:=["book","counts","key"]) λ_ _ _ _ _ _ us hl=>by obtain ⟨x,y,z,rfl⟩:=dD hl;rfl
 have m12:=d12.m X G
 have b13:=d13.F.binds (ps:=["book","key","made"]) λ_ _ _ _ _ _ us hl=>by obtain ⟨x,y,z,rfl⟩:=dD hl;rfl
 have m13:=d13.m X G
 have b14:=d14.F.binds (ps:=["script","k"]) λ_ _ _ _ _ _ us hl=>by obtain ⟨x,y,rfl⟩:=cF hl;rfl
 have m14:=d14.m X G
 have b15:=d15.F.binds (ps:=["script","k"]) λ_ _ _ _ _ _ us hl=>by obtain ⟨x,y,rfl⟩:=cF hl;rfl
 have m15:=d15.m X G
 have b16:=d16.F.binds (ps:=["tape","many"]) λ_ _ _ _ _ _ us hl=>by obtain ⟨x,y,rfl⟩:=cF hl;rfl
 have m16:=d16.m X G
 have b17:=d17.F.binds (ps:=["tape","many"]) λ_ _ _ _ _ _ us hl=>by obtain ⟨x,y,rfl⟩:=cF hl;rfl
 have m17:=d17.m X G
 have b18:=d18.F.binds (ps:=["tape"]) λ_ _ _ _ _ _ us hl=>by obtain ⟨x,rfl⟩:=gG hl;rfl
 have m18:=d18.m X G
 have b19:=d19.F.binds (ps:=["tape","readings"]) λ_ _ _ _ _ _ us hl=>by obtain ⟨x,y,rfl⟩:=cF hl;rfl
 have m19:=d19.m X G
 have b20:=d20.F.binds (ps:=["tape","readings"]) λ_ _ _ _ _ _ us hl=>by obtain ⟨x,y,rfl⟩:=cF hl;rfl
 have m20:=d20.m X G
 have b21:=d21.F.binds (ps:=["tape","few"]) λ_ _ _ _ _ _ us hl=>by obtain ⟨x,y,rfl⟩:=cF hl;rfl
 have m21:=d21.m X G
 have b22:=d22.F.binds (ps:=["sorts","own","parts"]) λ_ _ _ _ _ _ us hl=>by obtain ⟨x,y,z,rfl⟩:=dD hl;rfl
 have m22:=d22.m X G
 have b23:=d23.F.binds (ps:=["sorts","own","parts","mode","j"]) λ_ _ _ _ _ _ us hl=>by obtain ⟨x,y,z,u,v,rfl⟩:=wI hl;rfl
 have m23:=d23.m X G
 have b24:=d24.F.binds (ps:=["tape","sorts","name","own","parts","mode"]) λ_ _ _ _ _ _ us hl=>by obtain ⟨x,y,z,u,v,w,rfl⟩:=wH hl;rfl
 have m24:=d24.m X G
 have b25:=d25.F.binds (ps:=["script","start","few"]) λ_ _ _ _ _ _ us hl=>by obtain ⟨x,y,z,rfl⟩:=dD hl;rfl
 have m25:=d25.m X G
 have b26:=d26.F.binds (ps:=["book","name"]) λ_ _ _ _ _ _ us hl=>by obtain ⟨x,y,rfl⟩:=cF hl;rfl
 have m26:=d26.m X G
 have b27:=d27.F.binds (ps:=["book","thing"]) λ_ _ _ _ _ _ us hl=>by obtain ⟨x,y,rfl⟩:=cF hl;rfl
 have m27:=d27.m X G
 have b28:=d28.F.binds (ps:=["counts","parts","size"]) λ_ _ _ _ _ _ us hl=>by obtain ⟨x,y,z,rfl⟩:=dD hl;rfl
 have m28:=d28.m X G
 have b29:=d29.F.binds (ps:=["book","most"]) λ_ _ _ _ _ _ us hl=>by obtain ⟨x,y,rfl⟩:=cF hl;rfl
 have m29:=d29.m X G
 have b30:=d30.F.binds (ps:=["book","sort","size"]) λ_ _ _ _ _ _ us hl=>by obtain ⟨x,y,z,rfl⟩:=dD hl;rfl
 have m30:=d30.m X G
 have b31:=d31.F.binds (ps:=["book","sort","size","many"]) λ_ _ _ _ _ _ us hl=>by obtain ⟨x,y,z,u,rfl⟩:=sU hl;rfl
 have m31:=d31.m X G
 have Gb0:Gb mg:=⟨zL X G z1,zL X G z2,zL X G z3,zL X G z4,zL X G z5,zL X G z6,zL X G z7,zL X G z8,zL X G z9,zL X G z10⟩
 have v11:=zL X G z11
 have v12:=zL X G z12
 have v13:=zL X G z13
 have v14:=zL X G z14
 have v15:=zL X G z15
 have v16:=zL X G z16
 have v17:=zL X G z17
 have cl:ye K mg C CB D0 D1 D2 D3 D4 D5 D6 D7 D8 D9 D10 D11 D12 D13 D14 D15 D16:=⟨zS X G c0,zS X G c1,zS X G c2,zS X G c3,zS X G c4,zS X G c5,zS X G c6,zS X G c7,zS X G c8,zS X G c9,zS X G c10,zS X G c11,zS X G c12,zS X G c13,zS X G c14,zS X G c15,zS X G c16,zS X G aC,zS X G aB,v17,⟨x2,x3,x4,x5,x6,x7,x8,iL x7⟩,⟨x9,x10,x11,iL x10⟩,x12,(by unfold PySem.W.kitOne;rw [yW (Dq _)]),x13⟩
 have hfc:r11.code=.ref cS:=by
  obtain ⟨⟨a,o,fd,t1,t2,t3,t4⟩,_⟩:=hTb
  rw [m11]at t1
  cases t1
  obtain ⟨oc,od,kV,doc,pm,an,cdv,ct,osl,_,lk,_⟩:=d11.F.ex
  rw [X _ _ lk]at t2
  cases t2
  cases t3
  exact t4
 have F32:=d32.F
 obtain ⟨_,_,kV,dc,pm,an,cd,ct,_,rfl,_,_⟩:=d32.F.ex
 refine ⟨PySem.W.fnOf "law" "law" (gb mx) (bW mx) (am mx) .none kV dc pm an cd ct,λs v=>.of_eq rfl,λbase _ _ hC hB=>?_⟩
 have g_forms:=mT (P:=l.prog) (w:=w) (mg:=mg) (base:=base) d2.F
 have g_sortf:=i8 (P:=l.prog) (w:=w) (mg:=mg) (base:=base) d3.F
 have g_parts:=mP (P:=l.prog) (w:=w) (mg:=mg) (base:=base) d4.F
 have g_sortsOf:=mO (P:=l.prog) (w:=w) (mg:=mg) (base:=base) d1.F
 have g_rowsOf:=pB d7.F Gb0 v11 ⟨g_sortsOf,b1,d1.k,m1⟩ ⟨g_forms,b2,d2.k,m2⟩ ⟨g_parts,b4,d4.k,m4⟩
 have g_withK:=li d9.F ⟨g_forms,b2,d2.k,m2⟩ ⟨g_sortf,b3,d3.k,m3⟩ ⟨g_parts,b4,d4.k,m4⟩
 have g_cuts:=uk (P:=l.prog) (w:=w) (mg:=mg) (base:=base) d10.F Gb0
 have g_cutsB:=FnOk.or g_cuts (rM (P:=l.prog) (w:=w) (mg:=mg) (base:=base) d10.F Gb0)
 have g_countOf:=mU d8.F Gb0 v13 ⟨g_withK,b9,d9.k,m9⟩ ⟨g_cuts,b10,d10.k,m10⟩
 have g_upTo:=uh d6.F Gb0 ⟨g_rowsOf,b7,d7.k,m7⟩ ⟨g_countOf,b8,d8.k,m8⟩
 have g_beneath:=mV d12.F Gb0 ⟨g_withK,b9,d9.k,m9⟩ ⟨g_cutsB,b10,d10.k,m10⟩
 have g_needed:=pD d11.F Gb0 v14 hfc hC hB ⟨g_beneath,b12,d12.k,m12⟩
 have g_made:=mW d13.F Gb0 ⟨g_withK,b9,d9.k,m9⟩ ⟨g_cutsB,b10,d10.k,m10⟩
 have g_trees:=mK d5.F Gb0 (zS X G iM) cl.c x1 PySem.F.excBase_ValueError ⟨g_upTo,b6,d6.k,m6⟩ ⟨g_needed,b11,d11.k,m11⟩ ⟨g_made,b13,d13.k,m13⟩
 have g_cell:=ul (P:=l.prog) (w:=w) (base:=base) d14.F Gb0
 have g_tape:=uj d15.F ⟨g_cell,b14,d14.k,m14⟩
 have g_digit:=rL (P:=l.prog) (w:=w) (mg:=mg) (base:=base) d16.F
 have g_names:=pE d17.F Gb0 ⟨g_digit,b16,d16.k,m16⟩
 have g_number:=pC d18.F ⟨g_digit,b16,d16.k,m16⟩
 have g_formula:=λρ=>lj (ρ:=ρ) d20.F Gb0 ⟨g_digit,b16,d16.k,m16⟩ ⟨(rK (ρ:=ρ) d19.F Gb0 ⟨g_digit,b16,d16.k,m16⟩ ⟨g_number,b18,d18.k,m18⟩),b19,d19.k,m19⟩
 have g_sorts:=rG d21.F Gb0 ⟨g_digit,b16,d16.k,m16⟩ ⟨g_names,b17,d17.k,m17⟩
 have g_targets:=mL (P:=l.prog) (w:=w) (mg:=mg) (base:=base) d22.F Gb0
 have g_lread:=kj d23.F Gb0 ⟨g_targets,b22,d22.k,m22⟩
 have g_lform:=rJ d24.F Gb0 ⟨g_targets,b22,d22.k,m22⟩ ⟨g_lread,b23,d23.k,m23⟩ g_formula b20 d20.k m20
 have g_book:=um d25.F Gb0 ⟨g_digit,b16,d16.k,m16⟩ ⟨g_lform,b24,d24.k,m24⟩ ⟨g_tape,b15,d15.k,m15⟩ ⟨g_sorts,b21,d21.k,m21⟩ ⟨g_names,b17,d17.k,m17⟩
 have g_formOf:=mR (P:=l.prog) (w:=w) (mg:=mg) (base:=base) d26.F
 have g_check:=ll d27.F Gb0 v12 ⟨g_formOf,b26,d26.k,m26⟩ b27 m27 14
 have g_lrows:=rH (P:=l.prog) (w:=w) (mg:=mg) (base:=base) d28.F Gb0 v11 v13
 have g_lcounts:=mQ d29.F Gb0 ⟨g_lrows,b28,d28.k,m28⟩
 have g_told:=ui d30.F Gb0.isi cl ⟨g_trees,b5,d5.k,m5⟩
 have g_right:=pF d31.F Gb0 v15 v16 v11 ⟨g_told,b30,d30.k,m30⟩ ⟨g_check,b27,d27.k,m27⟩ ⟨g_trees,b5,d5.k,m5⟩
 exact v7 F32 Gb0 ⟨g_tape,b15,d15.k,m15⟩ ⟨g_digit,b16,d16.k,m16⟩ ⟨g_book,b25,d25.k,m25⟩ ⟨g_cell,b14,d14.k,m14⟩ ⟨g_lcounts,b29,d29.k,m29⟩ ⟨g_right,b31,d31.k,m31⟩ ⟨g_trees,b5,d5.k,m5⟩
theorem walk {l:PySem.W.OpenLaw} {q:Program} {loose:List Str} {XP:(Str->Option Value)->Heap->Prop} {YP:World->Heap->Prop} {d:DefRec} {K:Params->PySem.W.Frag} (hn:l.most=some 63) (hdf:d.params.defaults=[])
  (hY: ∀ (w:World) (h:Heap),YP w h->(K w.params).In h) (hrec: ∃ e∈PyProof.Rows.recsOf q,e.name="keys_needed") (hKt: ∀ w:World,PySem.W.noTabs (K w.params)=true)
  (F: ∀ (w:World) (mg:Str->Option Value) (fa c Pt:Addr) (h:Heap),(K w.params).In h->h.Ns mainGlobals mg->mg d.name=some (.ref fa)->sX h mg "keys_needed" c Pt->
   ∃ fd:FuncData,(∀ (s:Shared) (u:Value),BindsTo s fd ⟨[u],[]⟩ [("script",u)])/\ ∀ base:Heap,(K w.params).In base->base.Ns mainGlobals mg->PySem.W.CodeHd base c Pt->base.BuiltinsAt mg Pt->FnOk l.prog w (K w.params) mg base CX0 18 fa fd ["script"] (kO (K w.params) Pt)):
  PySem.W.WalkO q loose XP YP l.row.toRowW d [] (λf vs=>PySem.call f vs):=
 L2.walk_ofT (n:=63) (k:=18) (x:="script") (nm:="keys_needed") (sp:=λw Pt=>kO (K w.params) Pt) hn (by decide) hdf ⟨rfl,by decide,by decide,rfl⟩ hY hrec hKt F (λ_ Pt H a ns hl hP hS=>⟨a,ns,rfl,hS,hl,.inl hP,λ_=>rfl⟩)
end My
open PySem PySem.W PyProof.Rows
set_option maxRecDepth 100000 in
set_option maxHeartbeats 0 in
theorem PySem.Challenge.cw_boughworth_k22_trees_listed_holds : PySem.Challenge.rw_boughworth_k22_trees_listed.Holds := by
 refine My.parts.c My.parts.a My.parts.g My.parts.b ?_
 delta My.parts
 dsimp only
 k_fill
 refine My.walk (l:=PySem.Challenge.rw_boughworth_k22_trees_listed) rfl rfl (λw h Y=>PySem.W.km_in_of Y) ?R ?T ?F
 case R=>exact ⟨_,y3 (i:=10) rfl,rfl⟩
 case T=>exact λw=>rfl
 case F=>
  intro w mg fa cS Pt h KX G hmg hTb
  refine' My.all_mk KX G hmg hTb ?d1 ?d2 ?d3 ?d4 ?d5 ?d6 ?d7 ?d8 ?d9 ?d10 ?d11 ?d12 ?d13 ?d14 ?d15 ?d16 ?d17 ?d18 ?d19 ?d20 ?d21 ?d22 ?d23 ?d24 ?d25 ?d26 ?d27 ?d28 ?d29 ?d30 ?d31 ?d32 ?z1 ?z2 ?z3 ?z4 ?z5 ?z6 ?z7 ?z8 ?z9 ?z10 ?z11 ?z12 ?z13 ?z14 ?z15 ?z16 ?z17 ?aC ?aB ?iM ?c0 ?c1 ?c2 ?c3 ?c4 ?c5 ?c6 ?c7 ?c8 ?c9 ?c10 ?c11 ?c12 ?c13 ?c14 ?c15 ?c16 ?x1 ?x2 ?x3 ?x4 ?x5 ?x6 ?x7 ?x8 ?x9 ?x10 ?x11 ?x12 ?x13
  (case d1=>exact My.Df.of (by k_is) (by k_is) (by k_is) (by k_is))
  (case d2=>exact My.Df.of (by k_is) (by k_is) (by k_is) (by k_is))
  (case d3=>exact My.Df.of (by k_is) (by k_is) (by k_is) (by k_is))
  (case d4=>exact My.Df.of (by k_is) (by k_is) (by k_is) (by k_is))
  (case d5=>exact My.Df.of (by k_is) (by k_is) (by k_is) (by k_is))
  (case d6=>exact My.Df.of (by k_is) (by k_is) (by k_is) (by k_is))
  (case d7=>exact My.Df.of (by k_is) (by k_is) (by k_is) (by k_is))
  (case d8=>exact My.Df.of (by k_is) (by k_is) (by k_is) (by k_is))
  (case d9=>exact My.Df.of (by k_is) (by k_is) (by k_is) (by k_is))
  (case d10=>exact My.Df.of (by k_is) (by k_is) (by k_is) (by k_is))
  (case d11=>exact My.Df.of (by k_is) (by k_is) (by k_is) (by k_is))
  (case d12=>exact My.Df.of (by k_is) (by k_is) (by k_is) (by k_is))
  (case d13=>exact My.Df.of (by k_is) (by k_is) (by k_is) (by k_is))
  (case d14=>exact My.Df.of (by k_is) (by k_is) (by k_is) (by k_is))
  (case d15=>exact My.Df.of (by k_is) (by k_is) (by k_is) (by k_is))
  (case d16=>exact My.Df.of (by k_is) (by k_is) (by k_is) (by k_is))
  (case d17=>exact My.Df.of (by k_is) (by k_is) (by k_is) (by k_is))
  (case d18=>exact My.Df.of (by k_is) (by k_is) (by k_is) (by k_is))
  (case d19=>exact My.Df.of (by k_is) (by k_is) (by k_is) (by k_is))
  (case d20=>exact My.Df.of (by k_is) (by k_is) (by k_is) (by k_is))
  (case d21=>exact My.Df.of (by k_is) (by k_is) (by k_is) (by k_is))
  (case d22=>exact My.Df.of (by k_is) (by k_is) (by k_is) (by k_is))
  (case d23=>exact My.Df.of (by k_is) (by k_is) (by k_is) (by k_is))
  (case d24=>exact My.Df.of (by k_is) (by k_is) (by k_is) (by k_is))
  (case d25=>exact My.Df.of (by k_is) (by k_is) (by k_is) (by k_is))
  (case d26=>exact My.Df.of (by k_is) (by k_is) (by k_is) (by k_is))
  (case d27=>exact My.Df.of (by k_is) (by k_is) (by k_is) (by k_is))
  (case d28=>exact My.Df.of (by k_is) (by k_is) (by k_is) (by k_is))
  (case d29=>exact My.Df.of (by k_is) (by k_is) (by k_is) (by k_is))
  (case d30=>exact My.Df.of (by k_is) (by k_is) (by k_is) (by k_is))
  (case d31=>exact My.Df.of (by k_is) (by k_is) (by k_is) (by k_is))
  (case d32=>exact My.Df.of (by k_is) (by k_is) (by k_is) (by k_is))
  (case z1=>k_is)
  (case z2=>k_is)
  (case z3=>k_is)
  (case z4=>k_is)
  (case z5=>k_is)
  (case z6=>k_is)
  (case z7=>k_is)
  (case z8=>k_is)
  (case z9=>k_is)
  (case z10=>k_is)
  (case z11=>k_is)
  (case z12=>k_is)
  (case z13=>k_is)
  (case z14=>k_is)
  (case z15=>k_is)
  (case z16=>k_is)
  (case z17=>k_is)
  (case aC=>k_is)
  (case aB=>k_is)
  (case iM=>k_is)
  (case c0=>k_is)
  (case c1=>k_is)
  (case c2=>k_is)
  (case c3=>k_is)
  (case c4=>k_is)
  (case c5=>k_is)
  (case c6=>k_is)
  (case c7=>k_is)
  (case c8=>k_is)
  (case c9=>k_is)
  (case c10=>k_is)
  (case c11=>k_is)
  (case c12=>k_is)
  (case c13=>k_is)
  (case c14=>k_is)
  (case c15=>k_is)
  (case c16=>k_is)
  (case x1=>k_exc)
  (case x2=>k_is)
  (case x3=>k_is)
  (case x4=>k_is)
  (case x5=>k_is)
  (case x6=>k_is)
  (case x7=>k_is)
  (case x8=>k_is)
  (case x9=>k_is)
  (case x10=>k_is)
  (case x11=>k_is)
  (case x12=>kit_is)
  (case x13=>kit_is)
