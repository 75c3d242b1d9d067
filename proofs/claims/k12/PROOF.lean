import PyProof.Rows.All
import Wide.All
import OpenK.AllK
import Wide.FinOn
import Lean
import PyProof.EqAt
import PyProof.EqKinds
import PyProof.TupleCall
import PyProof.TupleKey
import PyProof.DictKeyH
import PyProof.SumWalk
import KE.KDictList
import PyProof.NeKinds
import PyProof.Draws
import PyProof.ZipIter
import PyProof.ListMulRoad
import PyProof.Commute
import KE.RegKIsAll
import OpenK.KOwn
import PyProof.EnumMake
import PyProof.Rows.StrNews
import Flt.Sum
import PyProof.FitsBits
import PyProof.DictTable
import KE.KItemsList
import PyProof.StrCalls6
import PyProof.ToksMono
import PyProof.StrLawsReplace
import PyProof.StrLawsJoin
import PyProof.Rows.StrSplitJoin
import PyProof.DictValues
import PyProof.DictWalks
import KE.KRevIter
import PyProof.DictItems
import KE.KPairComp
import PyProof.MinMaxWalk
import PyProof.SeqI3
import PyProof.WalkInts
import KE.KLam
import KE.IntBitsLaws
import OpenK.KCls
import PyProof.InstStoreFacts
import PySem.Challenge.RW_boughworth_k12_tangled_and_too_great
set_option Elab.async false
set_option linter.all false
set_option bootstrap.genMatcherCode false
set_option compiler.extract_closed false
set_option genSizeOfSpec false
set_option maxRecDepth 100000
set_option maxHeartbeats 4000000
def AA:=@PySem.wpAny_bind
def AB:=@PySem.wpAny_pure
def AC:=@PySem.Heap.get?_push_of_some
def AD:=@List.length_map
def AE:=@List.mem_singleton
def AF:=@List.getElem?_eq_some_iff
def AG:=@List.getElem?_eq_getElem
def AH:=@List.mem_of_getElem?
def AI:=@List.length_append
def AJ:=@Nat.le_refl
def AK:=@List.mem_map
def AL:=@List.size_toArray
def AM:=@List.length_cons
def AN:=@PySem.Heap.lt_size
def AO:=@decide_eq_true
def AQ:=@if_neg
def AR:=@Bool.false_ne_true
def AS:=@List.getElem?_map
def AT:=@List.mem_append
def AU:=@PySem.Heap.get?_push_size
def AV:=@List.mem_append_right
def AW:=@decide_eq_false
def AX:=@if_pos
def AY:=@List.mem_cons
def AZ:=@PySem.Paired.length
def A0:=@Option.some.inj
def A1:=@List.cons.inj
def A2:=@List.mem_cons_of_mem
def A3:=@List.mem_cons_self
def A4:=@List.length_take
def A5:=@PySem.PassesOwn.never
def A6:=@Nat.zero_le
def A7:=@of_decide_eq_true
def A8:=@PySem.F.plainAttrs_list
def A9:=@PySem.wpAny_newObj_type
def Ba:=@List.getElem?_of_mem
def Bb:=@Bool.and_eq_true
def Bc:=@List.take_length
def Bd:=@PySem.boot_len
def Be:=@List.map_append
def Bf:=@Nat.ne_of_lt
def Bg:=@Ne.symm
def Bh:=@List.append_nil
def Bi:=@PySem.wpAny_call_entry
def Bj:=@Nat.le_of_lt
def Bl:=@Nat.lt_of_lt_of_le
def Bm:=@Nat.le_trans
def Bn:=@PySem.wpAny_callSpecial?_slot
def Bo:=@List.mem_append_left
def Bp:=@PySem.wpAny_field
def Bq:=@PySem.F.slot_list_append
def Br:=@PySem.F.type_list_append
def Bs:=@Bool.false_eq_true
def Bt:=@PySem.W.mg_none_of
def Bu:=@List.getElem?_append_left
def Bv:=@PySem.W.mg_of
def Bw:=@Option.map_eq_some_iff
def Bx:=@List.getElem?_append_right
def By:=@List.take_add_one
def Bz:=@List.not_mem_nil
def BA:=@List.filterMap_cons
def BB:=@List.map_map
def BC:=@List.take_of_length_le
def BD:=@List.append_assoc
def BE:=@Array.length_toList
def BF:=@PySem.wpAny_holding
def BG:=@List.nodup_cons
def BH:=@PySem.Paired.snoc
def BI:=@List.take_zero
def BJ:=@PySem.Obj.data_mapFields
def BK:=@PyProof.Rows.slot_tuple_getitem
def BL:=@List.mem_filter
def BM:=@List.map_cons
def BN:=@if_false
def BO:=@Sum.inr.inj
def BP:=@List.mem_of_mem_take
def BQ:=@Array.getElem?_eq_getElem
def BR:=@List.drop_eq_getElem_cons
def BS:=@PySem.wpAny_mono
def BU:=@PySem.wpAny_setField_rec
def BV:=@PySem.W.kia_one
def BW:=@PySem.Heap.get?_update_self
def BX:=@PySem.wpAny_dictEntries
def BY:=@PySem.wpAny_fieldsOf
def BZ:=@Int.emod_lt_of_pos
def B0:=@List.forIn_cons
def B1:=@PySem.Heap.get?_update_other
def B2:=@beq_eq_false_iff_ne
def B3:=@PySem.F.slot_dict_valueiterator_next
def B4:=@Int.toNat_natCast
def B5:=@List.eq_nil_of_length_eq_zero
def B6:=@List.nodup_append
def B7:=@List.take_append_of_le_length
def B8:=@PySem.Heap.size_push
def B9:=@PySem.wpAny_setField
def Ca:=@PySem.F.slot_dict_itemiterator_next
def Cb:=@PySem.F.slot_dict_keyiterator_next
def Cc:=@List.filter_cons_of_pos
def Cd:=@List.filter_cons_of_neg
def Ce:=@PyProof.Rows.callWith_type1
def Cf:=@PySem.wpAny_attempt
def Cg:=@List.map_take
def Ch:=@PySem.wpAny_truthy_bool
def Ci:=@PySem.F.slot_tuple_iterator_next
def Cj:=@Array.getElem?_eq_some_iff
def Ck:=@List.length_reverse
def Cm:=@PySem.Heap.SameBut.update
def Cn:=@PySem.wpAny_dictEpoch
def Co:=@Int.emod_nonneg
def Cp:=@List.getElem?_zip_eq_some
def Cq:=@List.length_singleton
def Cr:=@List.mem_iff_getElem?
def Ct:=@PySem.Obj.isFreed_of_fields
def Cu:=@PySem.wpAny_Call_Name_kw
def Cv:=@List.any_eq_true
def Cw:=@Nat.lt_succ_self
def Cy:=@PySem.wpAny_typeNameOfWhole_itemiter
def Cz:=@Nat.ne_of_gt
def CA:=@PySem.AutoSeq1.sub_tuple_tuple
def CC:=@PySem.wpAny_seqItems
def CD:=@PySem.wpAny_typeNameOfWhole_keyiter
def CH:=@PySem.wpAny_typeNameOfWhole_valiter
def CI:=@List.pairwise_singleton
def CJ:=@List.find?_cons
def CK:=@PySem.Calls.callWith_builtin
def CL:=@Bool.not_true
def CM:=@Sum.inl.inj
def CN:=@Nat.lt_irrefl
def CO:=@PySem.wpAny_standAt
def CP:=@PySem.wpAny_isInstance
def CQ:=@List.length_drop
def CS:=@PySem.Calls.spliced_cons
def CU:=@List.nodup_nil
def CV:=@or_false
def CW:=@List.length_replicate
def CY:=@Array.getElem?_toList
def CZ:=@List.getElem?_eq_none
def C0:=@PySem.wpAny_typeNameOf_itemiter
def C1:=@Classical.byContradiction
def C2:=@PySem.wpAny_passesOwn
def C3:=@PySem.Heap.get?_none_of_le
def C4:=@Option.isSome_map
def C5:=@PySem.codeAny_call_builtin
def C6:=@List.getElem?_take_of_lt
def C7:=@Nat.not_lt
def C8:=@PySem.wpAny_typeNameOf_keyiter
def C9:=@PySem.AutoSeq1.wpAny_loadPart'
def Da:=@PySem.wpAny_typeNameOf_valiter
def Db:=@if_true
def Dc:=@PySem.mem_of_lookup
def Dd:=@List.mem_range
def De:=@List.getElem?_set_self
def Dg:=@PySem.wpAny_call
def Dh:=@PySem.codeAny_mono
def Di:=@PySem.W.callWith_K
def Dj:=@PySem.tupleKind_room_in1
def Dk:=@beq_iff_eq
def Dl:=@List.getElem?_take
def Dm:=@PySem.wpAny_isOneOf_itemiter
def Dn:=@PySem.wpAny_execs_nil
def Do:=@List.any_cons
def Dp:=@PySem.F.slot_dict_get
def Dq:=@PySem.exec_Assign_Name_used
def Dr:=@PySem.F.slot_zip_next
def Dt:=@List.take_append_drop
def Du:=@PySem.wpAny_isOneOf_valiter
def Dv:=@PySem.wpAny_assign_Name
def Dw:=@PySem.Calls.spliced_nil
def Dx:=@List.take_sublist
def Dy:=@PySem.Obj.cls_mapFields
def Dz:=@List.forIn_nil
def DA:=@PySem.call_meets
def DB:=@PySem.wpAny_newFunctionEnv
def DC:=@PySem.F.args_dict_valueiterator_next_1
def DD:=@PySem.F.excBase_ValueError
def DE:=@PySem.AutoSeq1.idx_int
def DF:=@decide_eq_decide
def DG:=@List.all_eq_true
def DH:=@Nat.sub_self
def DI:=@Int.zero_add
def DJ:=@PySem.F.entry_dict_valueiterator_next
def DK:=@PySem.F.args_dict_itemiterator_next_1
def DL:=@List.mem_of_find?_eq_some
def DN:=@List.map_congr_left
def DO:=@PySem.F.args_dict_keyiterator_next_1
def DP:=@PySem.F.entry_dict_itemiterator_next
def DQ:=@Option.isSome_iff_exists
def DR:=@PySem.F.args_tuple_add_2
def DS:=@PySem.wpAny_comprehension_free
def DT:=@PySem.F.entry_dict_keyiterator_next
def DU:=@PySem.F.slot_list_extend
def DV:=@PySem.F.type_list_extend
def DW:=@PySem.wpAny_specialOf
def DX:=@PySem.W.kia_tup
def DY:=@List.filterMap_map
def Ea:=@PySem.F.args_tuple_iterator_next_1
def Eb:=@PySem.F.args_tuple_mul_2
def Ec:=@PySem.F.entry_tuple_add
def Ed:=@PySem.wpAny_Call_method0_late
def Ee:=@PySem.F.args_dict_get_3
def Ef:=@PySem.F.plainAttrs_dict
def Eg:=@PySem.F.entry_tuple_iterator_next
def Eh:=@PySem.wpAny_pyIter_list
def Ei:=@PySem.F.slot_tuple_add
def Ej:=@PySem.F.entry_dict_get
def Ek:=@PySem.codeAny_compStart_list
def El:=@Array.getElem?_eq_none
def Em:=@List.length_range
def En:=@PySem.F.entry_tuple_mul
def Eo:=@List.getElem?_inj
def Ep:=@List.filter_eq_nil_iff
def Er:=@PySem.isSubtype_tuple_tuple
def Es:=@PySem.wpAny_notOrdered_dict
def Et:=@PySem.wpAny_isOneOf_keyiter
def Eu:=@PySem.F.slot_list_pop
def Ev:=@PySem.F.type_list_pop
def Ew:=@PyProof.Rows.callWith_builtin1
def Ex:=@List.lookup_cons
def Ey:=@PySem.F.slot_tuple_mul
def Ez:=@PySem.Heap.size_update
def EA:=@Prod.mk.inj
def EB:=@PySem.W.hideAll_none
def EC:=@List.getElem?_set_ne
def ED:=@PySem.Calls.evalArgs_plain
def EF:=@PySem.F.slot_dict_values_iter
def EG:=@PySem.W.looks_findIn
def EH:=@Bool.eq_iff_iff
def EI:=@List.of_mem_zip
def EJ:=@Option.map_some
def EK:=@PySem.F.slot_dict_items_iter
def EL:=@PyProof.Rows.entry_tuple_getitem
def EM:=@PySem.evalArgs_none
def EN:=@List.filter_sublist
def EO:=@PySem.W.looks_mroIn
def EQ:=@PySem.wpAny_typeOf
def ER:=@Prod.ext
def ES:=@PySem.wpAny_tupleItemsOf
def ET:=@Array.forIn_toList
def EU:=@PySem.wpAny_rule
def EV:=@List.mem_filterMap
def EW:=@PySem.Heap.IsSliceOf.new
def EX:=@Nat.lt_of_le_of_lt
def EY:=@PySem.isSubtype_stop
def EZ:=@List.drop_zero
def E1:=@List.map_singleton
def E3:=@PySem.Code.quiet_builtin
def E4:=@List.filter_append
def E5:=@PySem.sizeLine_eq
def E6:=@PySem.W.kitx_list
def E7:=@PySem.wpAny_sequenceKey
def E8:=@PySem.wpAny_pyIter_slot
def E9:=@PySem.wpAny_throw
def Fa:=@Bool.not_eq_true'
def Fb:=@Bool.eq_false_iff
def Fc:=@List.reverse_cons
def Fd:=@PySem.wpAny_loadPart_at
def Fe:=@PySem.PassesOwn.leaving
def Ff:=@Nat.add_assoc
def Fg:=@PySem.evalPart_none
def Fh:=@List.all_cons
def Fi:=@PySem.wpAny_handled
def Fj:=@PySem.wpAny_onRaise
def Fk:=@PySem.Value.ref.inj
def Fn:=@beq_self_eq_true
def Fo:=@PySem.wpAny_execs_cons
def Fp:=@PySem.noFill_tuple_add
def Fq:=@Option.getD_some
def Fs:=@Int.ediv_one
def Ft:=@Nat.sub_zero
def Fu:=@Nat.not_le
def Fv:=@List.length_nil
def Fw:=@PySem.wpAny_loadPart'
def Fx:=@Nat.not_lt_zero
def Fy:=@List.find?_some
def Fz:=@PySem.wpAny_of_eq
def FA:=@PySem.wpAny_letGo
namespace My
open PySem PySem.W PySem.Calls PyProof.Rows
theorem with_hl {P R Q:Prop} (hl:P) (hc:R) (main:Q):Q:=main
structure Parts (Q:Prop):Type where
 {P1:Prop}
 {P2:Prop}
 {P3:Prop}
 {P4:Prop}
 {P5:Prop}
 {P6:Prop}
 {W:Prop}
 a0:P1
 a1:P2
 e0:P3
 e1:P4
 b0:P5
 b1:P6
 c:P1->P2->P3->P4->P5->P6->W->Q
noncomputable def Am (_:Params):Obj:={cls:=Value.type "tuple",data:=Data.seq #[]}
noncomputable def Al (_:Params):Obj:={cls:=Value.none,data:=Data.fields #[]}
noncomputable def Ak (_:Params):Obj:={cls:=Value.type "code",data:=Data.fields #[Value.str (Str.ofString "<module>") 182,Value.str (Str.ofString "<module>") 183,Value.str (Str.ofString "/claim/cut.py") 184,Value.int 1 0,Value.int 0 0,Value.int 0 0,Value.int 0 0,Value.int 0 0,Value.ref 11,Value.bool false,Value.int 181 0,Value.ref 12,Value.none,Value.none,Value.none,Value.none,Value.int 185 0,Value.int 1 0,Value.str (Str.ofString "/claim/cut.py") 186]}
noncomputable def Aj (_:Params):Obj:={cls:=Value.type "frame",slots:= #[some (Value.ref 13),some (Value.ref 3),some (Value.ref 3),none,some (Value.str (Str.ofString "__main__") 164),none,some (Value.ref 0)]}
noncomputable def zC (P:Params):BT:=(BT.node (boot_o_0 P) (BT.node (boot_o_1 P) (BT.node (boot_o_3 P) (BT.node (boot_o_7 P) BT.nil BT.nil) (BT.node (Am P) BT.nil BT.nil)) (BT.node (boot_o_5 P) (BT.node (boot_o_9 P) BT.nil BT.nil) (BT.node (Ak P) BT.nil BT.nil))) (BT.node (boot_o_2 P) (BT.node (boot_o_4 P) (BT.node (boot_o_8 P) BT.nil BT.nil) (BT.node (Al P) BT.nil BT.nil)) (BT.node (boot_o_6 P) (BT.node (boot_o_10 P) BT.nil BT.nil) (BT.node (Aj P) BT.nil BT.nil))))
noncomputable def yq (p:Program):Env:={scope:=p.main.scope,locals:=mainNs,globals:=mainNs,cells:=[],code:=.ref 13,frame:=some 14}
noncomputable abbrev hC (p:Program):Code:=.body (behindTheImports p) (yq p)
noncomputable def hSt (w:World) (os:OsState):SharedT:=⟨zC w.params,15,{},#[],{},187,os⟩
abbrev nA:Pos:=⟨0,0,0,0⟩
noncomputable abbrev zD (p:Program):Thread:=piecesOf (behindTheImports p) (yq p) (hC p) nA [topFrame nA]
noncomputable abbrev va (p:Program) (n:Nat) (w:World) (os:OsState):Option (Flow×SharedT×Code×Pos):=W.Fast.tw10110043849684766642 W.Fast.tw14364793385576792824 p w 11 (some (.ref 6)) 1 n (hSt w os) (zD p)
theorem An {p:Program} {w:World} {n₀:Nat} {ann:Option Value} (s:Shared) (c:Code) (pos:Pos):topRun treeTable p w n₀ ann 2 s ⟨doneF .next,c,pos,[topFrame nA]⟩=some s:=by
 obtain ⟨h,g,d,t,o⟩:=s
 kernel_rfl
theorem zE (P:Params):((boot_heap P).isNs mainGlobals&&(#[]:Array GenState).size==0,(boot_heap P).objs.size,(boot_heap P).nsMap mainGlobals "__annotations__")=(true,11,some (.ref 6)):=by kernel_rfl
theorem left_of {p q:Program} {loose:List Str} {Xt:Shared->Bool} {α:Type} {Yf:Shared->α} {Ya:World->α} {N n:Nat} {g0:Bool} {posE:Pos}
  (e:opening p=plainProg p.main.scope.names) (hN:Nat.ble 600 N=true) (f: ∀ s,fenceModules? p s=some s) (le:Nat.ble (12+ (1+ (n+2))) N=true)
  (pre: ∀ (w:World) (os:OsState),topGo treeTable p w 11 (some (.ref 6)) 12 ⟨boot_heap w.params,#[],boot_drawn,boot_toks,os⟩ (topStub p)=some ((hSt w os).abs,⟨denote treeTable (hC p),hC p,nA,[topFrame nA]⟩))
  (block: ∀ (w:World) (os:OsState),segRun treeTable p w 11 (some (.ref 6)) 1 1 (hSt w os).abs (blockOf (behindTheImports p) (yq p) (hC p) nA [topFrame nA])=some (.next,(hSt w os).abs,hC p,nA))
  (runA: ∀ (w:World) (os:OsState),(va p n w os).map (λr=>(r.1,r.2.2,(staticsOk (importedModules p.main.body) (boot_heap w.params) r.2.1.abs.heap&&namesBound p r.2.1.abs.heap&&gensDone r.2.1.abs&&laidKept (boot_heap w.params) r.2.1.abs.heap),(openSeen q loose (importedModules p.main.body) Xt g0 r.2.1.abs).1,Yf r.2.1.abs))=some (.next,(hC p,posE),true,(openGood q loose).1,Ya w))
  (runE: ∀ (w:World) (os:OsState),(va p n w os).map (λr=>((openSeen q loose (importedModules p.main.body) Xt g0 r.2.1.abs).2.1,(openSeen q loose (importedModules p.main.body) Xt g0 r.2.1.abs).2.2.1))=some ((openGood q loose).2.1,(openGood q loose).2.2.1))
  (runB: ∀ (w:World) (os:OsState),(va p n w os).map (λr=>(openSeen q loose (importedModules p.main.body) Xt g0 r.2.1.abs).2.2.2)=some (openGood q loose).2.2.2):LeftO p q loose Xt Yf Ya N g0:=by
 intro w
 obtain ⟨⟨h,gs,d,k,os⟩,e1,e'⟩:=Bw.mp (boot_open e hN f w)
 obtain ⟨rfl,rfl,rfl,rfl⟩:h=boot_heap w.params/\gs= #[]/\d=boot_drawn/\k=boot_toks:=by simpa using e'
 obtain ⟨z1,z2,z3⟩:_/\_/\_:=by simpa only [Prod.mk.injEq]using zE w.params
 have E:segRunT treeTable p w 11 (some (.ref 6)) 1 n (hSt w os) (zD p)=va p n w os:=by
  unfold va
  rw [<- W.Fast.te10110043849684766642,<- W.Fast.te14364793385576792824]
 have A:=runA w os
 have B:=runB w os
 have E2:=runE w os
 obtain ⟨⟨fl,x,c,pos⟩,r1,r2⟩:=Bw.mp A
 simp only [Prod.mk.injEq]at r2
 obtain ⟨rfl,⟨rfl,rfl⟩,l1,l2a,yb⟩:=r2
 have l2e:((openSeen q loose (importedModules p.main.body) Xt g0 x.abs).2.1,(openSeen q loose (importedModules p.main.body) Xt g0 x.abs).2.2.1)=((openGood q loose).2.1,(openGood q loose).2.2.1):=by rw [r1]at E2;exact A0 E2
 have l2d:(openSeen q loose (importedModules p.main.body) Xt g0 x.abs).2.2.2=(openGood q loose).2.2.2:=by rw [r1]at B;exact A0 B
 have l2:openSeen q loose (importedModules p.main.body) Xt g0 x.abs=openGood q loose:=ER l2a (ER (EA l2e).1 (ER (EA l2e).2 l2d))
 have s1:=segRun_of (E.trans r1)
 have t1:=piece_app (rest:=[]) s1 (piece_nil (An x.abs _ _))
 rw [Bh]at t1
 have t3:=go_top (pre w os) (piece_block (block w os) t1)
 have r:=topRun_mono (N- (12+ (1+ (n+2)))) _ _ _ _ t3
 rw [show 12+ (1+ (n+2)) + (N- (12+ (1+ (n+2))))=N by have:=Nat.le_of_ble_eq_true le;omega]at r
 have t:topFrom treeTable p w N ⟨boot_heap w.params,#[],boot_drawn,boot_toks,os⟩=some x.abs:=by
  unfold topFrom
  dsimp only
  rw [z1,z2,z3,r]
  show (match staticsOk _ _ _&&namesBound _ _&&gensDone _&&laidKept _ _ with | true=>_ | false=>_)=_
  rw [l1]
 unfold openEnds
 rw [e1]
 change Option.map _ (topFrom treeTable p w N _)=_
 rw [t]
 exact congrArg some (ER l2 yb)
end My
open PySem PySem.W PyProof.Rows in
set_option maxHeartbeats 0 in
noncomputable def My.parts:My.Parts PySem.Challenge.rw_boughworth_k12_tangled_and_too_great.Holds:=by
 apply My.Parts.mk
 case c=>
  intro ha0 ha1 he0 he1 hb0 hb1 hW
  w_on;o_law
  apply My.with_hl
  case main=>
   k_head;(case hw=>w_witness2)
  case hc=>exact hW
  case hl=>
   refine My.left_of (n:=5800) (posE:=⟨407,0,414,15⟩) ?e ?hN ?f ?le ?pre ?block (byRow2 "special-get-raises" ha0 ha1) (byRow2 "special-get-raises" he0 he1) (byRow2 "special-get-raises" hb0 hb1)
   case e=>kernel_rfl
   case hN=>decide
   case f=>intro s;kernel_rfl
   case le=>decide
   case pre=>(intro w os;kernel_rfl)
   case block=>(intro w os;kernel_rfl)
 case a0=>(intro w os;kernel_rfl)
 case a1=>(intro w os;kernel_rfl)
 case e0=>(intro w os;kernel_rfl)
 case e1=>(intro w os;kernel_rfl)
 case b0=>(intro w os;kernel_rfl)
 case b1=>(intro w os;kernel_rfl)
namespace PySem
section
variable {prog:Program} {w:World} {K K2:Type} [DecidableEq K] [DecidableEq K2] {knd:KeyKind prog w K} {kn2:KeyKind prog w K2}
def IsPairKey (knd:KeyKind prog w K) (kn2:KeyKind prog w K2) (h:Heap) (p:List K×K2) (a:Addr):Prop:=
 ∃ o items n b v,h.get? a=some o/\o.cls=.type "tuple"/\o.data=.seq items n/\items.toList=[.ref b,v]/\IsTupleKey knd h p.1 b/\kn2.is p.2 v=true
noncomputable def jt (knd:KeyKind prog w K) (kn2:KeyKind prog w K2) (p:List K×K2):Int:=reduceHash (Builtin.Tuple.tupleHashOf [tupleKeyHash knd p.1,kn2.hash p.2])
variable {A:Around} {E:Value->Shared->Prop} {s:Shared}
theorem IsPairKey.typeIs {p:List K×K2} {a:Addr} (x:IsPairKey knd kn2 s.heap p a):s.TypeIs (.ref a) "tuple":=by
 obtain ⟨o,_,_,_,_,e,c,_⟩:=x;exact ⟨o,e,c⟩
theorem IsPairKey.inj {h:Heap} {p q:List K×K2} {a:Addr} (x:IsPairKey knd kn2 h p a) (y:IsPairKey knd kn2 h q a):p=q:=by
 obtain ⟨o,i,n,b,v,e,_,d,t,k,m⟩:=x;obtain ⟨o',i',n',b',v',e',_,d',t',k',m'⟩:=y;rw [e]at e';cases e';rw [d]at d';cases d';rw [t]at t';have h1:b=b'/\v=v':=by simpa using t'
 obtain ⟨rfl,rfl⟩:=h1;exact ER (k.inj k') (kn2.inj _ _ _ m m')
theorem IsPairKey.keeps {h h':Heap} {p:List K×K2} {a d:Addr} {o:Obj} {es ep} (x:IsPairKey knd kn2 h p a) (ho:h.get? d=some o) (hd:o.data=.dict es ep) (hs:Heap.SameBut d h h'):IsPairKey knd kn2 h' p a:=by
 obtain ⟨o',i,n,b,v,e,c,dt,t,k,m⟩:=x;refine ⟨o',i,n,b,v,?_,c,dt,t,k.keeps ho hd hs,m⟩;have ne:a≠d:=λz=>by
  subst z;rw [ho]at e;cases e;rw [hd]at dt;cases dt
 rw [<- e];exact hs.2 a ne
theorem gK {p:List K×K2} {a:Addr} {Q:Int->Shared->Prop} (hu:A.units+8<cLine) (hk:IsPairKey knd kn2 s.heap p a) (h:Q (jt knd kn2 p) {s with toks:=s.toks+ (p.1.length+1+1+1)}):
  wpAny (model prog w) A (pyHash (.ref a)) Q E s:=by
 have hT:=hk.typeIs;obtain ⟨o,items,n,b,v,ho,_,hd,hi,hb,hv⟩:=hk;unfold pyHash;first | unfold pyHashByItsType | skip
 first | refine AA (wpAny_cRoomFor_or (.inr (by lia)) ?_) | skip
 refine AA (DW hT F.slot_tuple_hash.lookup ?_);show wpAny _ _ (if (some (Value.builtin "tuple.__hash__")==some Value.none)=true then _ else _) Q E s;rw [AQ (by rw [beq_builtin_none];exact AR)];refine AA (DW hT F.slot_tuple_hash.lookup ?_);show wpAny _ _ (callSpecialIfBoundUnlessNone? (.ref a) "__hash__" _ >>= _) Q E s;refine AA (wpAny_callSpecialIfBoundUnlessNone?_slot hT F.slot_tuple_hash (Bi F.slot_tuple_hash hT F.entry_tuple_hash ?_ (F.args_tuple_hash_1 _)));show wpAny _ _ (Builtin.Tuple.tupleItemsOf (.ref a) >>= _) _ _ s;refine AA (ES ho hd ?_);refine AA ?_;rw [<- ET,hi,B0];refine AA (AA (wpAny_pyHash_tuple (by show _<cLine;simp;lia) hb ?_));refine AB ?_;show wpAny _ _ (forIn [v] #[tupleKeyHash knd p.1] _) _ _ _;rw [B0];refine AA (AA (kn2.pyHash hv ?_));refine AB ?_;show wpAny _ _ (forIn [] _ _) _ _ _;rw [Dz];refine AB ?_;show wpAny _ _ (retInt (Builtin.Tuple.tupleHashOf [tupleKeyHash knd p.1,kn2.hash p.2])) _ _ _;refine wpAny_ret_mkInt ?_;generalize hz:Builtin.Tuple.tupleHashOf [tupleKeyHash knd p.1,kn2.hash p.2]=z;show wpAny _ _ (if (decide (-(2:Int) ^63<=z)&&decide (z<2^63))=true then _ else _) Q E _;unfold jt reduceHash at h;rw [hz]at h;by_cases hr:(decide (-(2:Int) ^63<=z)&&decide (z<2^63))=true
 ·rw [AX hr];rw [AX hr]at h;exact AB (by simpa [Ff]using h)
 ·rw [AQ hr];rw [AQ hr]at h;exact AA (EU (AB (by simpa [Ff]using h)))
theorem mO (m:Nat) {ks:List K} {a:Addr} {Q:Bool->Shared->Prop} (hk:IsTupleKey knd s.heap ks a) (h:Q true s):wpAny (model prog w) A (eqIsQuiet (m+1) (.ref a)) Q E s:=by
 have hT:=hk.typeIs;obtain ⟨o,items,n,ho,_,hd,hi⟩:=hk;unfold eqIsQuiet;refine AA (DW hT F.slot_tuple_eq.lookup ?_);show wpAny _ _ (isInstance (.ref a) (.type "tuple") >>= _) _ _ s;refine AA (CP hT Er ?_);simp only [CL,Bs,BN];refine AA (CC ho hd (AA ?_));show wpAny _ _ (forIn items _ _) _ _ s;rw [<- ET];refine wpAny_forIn_list _ (λrest r s'=>r.1=none/\s'=s/\ ∀ v∈rest,carriedByValue v=true) _ ?_ ?_ _ _ ⟨rfl,rfl,hi.byValue⟩
 ·rintro v rest r s' ⟨hr,rfl,hall⟩;rw [eqIsQuiet_byValue _ (hall v A3)];refine AA (AB ?_);simp only [CL,Bs,BN];exact AB ⟨rfl,rfl,λu hu'=>hall u (A2 _ hu')⟩
 ·rintro ⟨r1,r2⟩ s' ⟨hr,rfl,_⟩;simp only at hr;subst hr;exact AB h
theorem ff {p:List K×K2} {a:Addr} {Q:Bool->Shared->Prop} (hk:IsPairKey knd kn2 s.heap p a) (h:Q true s):wpAny (model prog w) A (eqIsQuiet 8 (.ref a)) Q E s:=by
 have hT:=hk.typeIs;obtain ⟨o,items,n,b,v,ho,_,hd,hi,hb,hv⟩:=hk;unfold eqIsQuiet;refine AA (DW hT F.slot_tuple_eq.lookup ?_);show wpAny _ _ (isInstance (.ref a) (.type "tuple") >>= _) _ _ s;refine AA (CP hT Er ?_);simp only [CL,Bs,BN];refine AA (CC ho hd ?_);refine AA ?_;show wpAny _ _ (forIn items _ _) _ _ s;rw [<- ET,hi,B0];refine AA (AA (mO 6 hb ?_));simp only [CL,Bs,BN];refine AB ?_;show wpAny _ _ (forIn [v] (none,()) _) _ _ _;rw [B0,eqIsQuiet_byValue _ (kn2.byValue _ _ hv)];refine AA (AA (AB ?_));simp only [CL,Bs,BN];refine AB ?_;show wpAny _ _ (forIn [] _ _) _ _ _;rw [Dz];exact AB (AB h)
theorem lK {p q:List K×K2} {a b:Addr} {R:Fin->Shared->Prop} (hu:A.units+4<cLine) (hx:IsPairKey knd kn2 s.heap p a) (hy:IsPairKey knd kn2 s.heap q b) (h:R (.done (.ret (.bool (decide (p=q))))) s):
  wpAny (model prog w) A (Builtin.«tuple.__eq__» ⟨[.ref a,.ref b],[]⟩) R E s:=by
 have hTb:=hy.typeIs;obtain ⟨oa,xs,na,a1,v1,hoa,_,hda,hia,hka,hva⟩:=hx;obtain ⟨ob,ys,nb,b1,v2,hob,_,hdb,hib,hkb,hvb⟩:=hy;show wpAny _ _ (isInstance (.ref b) (.type "tuple") >>= _) _ _ s;refine AA (CP hTb Er ?_);simp only [CL,Bs,BN];refine AA (ES hoa hda (AA (ES hob hdb (AA ?_))));have hs:xs.size=ys.size:=by rw [<- BE,<- BE,hia,hib];rfl
 rw [hia,hib];show wpAny _ _ (forIn [(Value.ref a1,Value.ref b1),(v1,v2)] (none,()) _) _ _ _;rw [B0];refine AA (AA (wpAny_eqBool_tuple (by lia) hka hkb ?_));by_cases h1:p.1=q.1
 ·rw [AO h1];simp only [CL,Bs,BN];refine AB ?_;show wpAny _ _ (forIn [(v1,v2)] (none,()) _) _ _ _;rw [B0];refine AA (AA (kn2.eqBool (a:=p.2) (b:=q.2) hva hvb ?_));by_cases h2:p.2=q.2
  ·rw [AO h2];simp only [CL,Bs,BN];refine AB ?_;show wpAny _ _ (forIn [] _ _) _ _ _;rw [Dz];rw [AO (ER h1 h2)]at h;refine AB (AB ?_);show R (.done (.ret (.bool (xs.size==ys.size)))) s;rw [hs,Fn];exact h
  ·rw [AW h2];simp only [Bool.not_false,Db];rw [AW λe=>h2 (congrArg Prod.snd e)]at h;exact AA (AB (AB (AB (AB h))))
 ·rw [AW h1];simp only [Bool.not_false,Db];rw [AW λe=>h1 (congrArg Prod.fst e)]at h;exact AA (AB (AB (AB (AB h))))
theorem gL {p q:List K×K2} {a b:Addr} {Q:Bool->Shared->Prop} (hu:A.units+8<cLine) (hx:IsPairKey knd kn2 s.heap p a) (hy:IsPairKey knd kn2 s.heap q b) (h:Q (decide (p=q)) s):
  wpAny (model prog w) A (eqBool (.ref a) (.ref b)) Q E s:=by
 unfold eqBool;try with_reducible refine BF ?_
 show wpAny _ _ (if (Value.ref a==Value.ref b)=true then _ else _) Q E s;by_cases hab:(Value.ref a==Value.ref b)=true
 ·rw [AX hab];have e:a=b:=by have:=eq_of_beq hab;injection this
  subst e;obtain rfl:=hx.inj hy;exact AA (EU (AB (by simpa using h)))
 ·rw [AQ hab];exact AA (wpAny_richCompare_same_room (op:=.Eq) hx.typeIs hy.typeIs F.slot_tuple_eq
   (Bi F.slot_tuple_eq hx.typeIs F.entry_tuple_eq (lK (by simp;lia) hx hy ⟨_,rfl,(λe=>nomatch e),Ch h⟩) (F.args_tuple_eq_2 _ _)) (by lia))
end
noncomputable def eB {prog:Program} {w:World} {K K2:Type} [DecidableEq K] [DecidableEq K2] (knd:KeyKind prog w K) (kn2:KeyKind prog w K2):HeapKind prog w (List K×K2) where
 is:=IsPairKey knd kn2
 hash:=jt knd kn2
 draws:=λp=>p.1.length+1+1+1
 room:=λA=>A.units+8<cLine
 inj:=λhx hy=>hx.inj hy
 keeps:=λx ho hd hs=>x.keeps ho hd hs
 pyHash:=λhu hk h=>gK hu hk h
 eqBool:=λhu hx hy h=>gL hu hx hy h
 quiet:=λhk h=>ff hk h
end PySem
namespace L2
open PySem PySem.Spec PyProof.Rows
abbrev Key:=Sum Int Str
noncomputable def kB:Key->Value->Bool
 | .inl k,v=>Value.isInt k v
 | .inr x,v=>Value.isStrOf x v
noncomputable def Ag (w:World):Key->Int
 | .inl k=>hashInt k
 | .inr x=>hashStr w x
theorem bD: ∀ {k:Key} {v:Value},kB k v=true->(∃ i t,k=Sum.inl i/\v=Value.int i t)\/(∃ x t,k=Sum.inr x/\v=Value.str x t)
 | .inl i,v,h=>by
  obtain ⟨t,e⟩:=Value.isInt_shape (k:=i) (v:=v) h;exact .inl ⟨i,t,rfl,e⟩
 | .inr x,v,h=>by
  obtain ⟨t,e⟩:=Value.isStrOf_shape (x:=x) (v:=v) h;exact .inr ⟨x,t,rfl,e⟩
theorem sk (i:Int) (t:Tok):kB (.inl i) (.int i t)=true:=by simp [kB,Value.isInt]
theorem bA (x:Str) (t:Tok):kB (.inr x) (.str x t)=true:=by simp [kB,Value.isStrOf]
theorem yi (a b:Int):decide ((Sum.inl a:Key)=Sum.inl b)=(a==b):=by
 by_cases e:a=b
 ·subst e;simp
 ·have h: ¬ (Sum.inl a:Key)=Sum.inl b:=λq=>e (CM q);rw [AW h];exact (B2.mpr e).symm
theorem yf (a b:Str):decide ((Sum.inr a:Key)=Sum.inr b)=decide (a=b):=by
 by_cases e:a=b
 ·subst e;simp
 ·have h: ¬ (Sum.inr a:Key)=Sum.inr b:=λq=>e (BO q);rw [AW h,AW e]
theorem yh (a:Int) (b:Str):decide ((Sum.inl a:Key)=Sum.inr b)=false:=AW (λq=>nomatch q)
theorem yg (a:Str) (b:Int):decide ((Sum.inr a:Key)=Sum.inl b)=false:=AW (λq=>nomatch q)
noncomputable def aV (prog:Program) (w:World):PySem.KeyKind prog w Key where
 is:=kB
 hash:=Ag w
 inj:=λv a b ha hb=>by
  rcases bD ha with ⟨i,t,rfl,rfl⟩ | ⟨x,t,rfl,rfl⟩
  ·rcases bD hb with ⟨j,u,rfl,e⟩ | ⟨y,u,rfl,e⟩
   ·injection e with e1 _;rw [e1]
   ·exact nomatch e
  ·rcases bD hb with ⟨j,u,rfl,e⟩ | ⟨y,u,rfl,e⟩
   ·exact nomatch e
   ·injection e with e1 _;rw [e1]
 byValue:=λk v h=>by
  rcases bD h with ⟨i,t,rfl,rfl⟩ | ⟨x,t,rfl,rfl⟩ <;> rfl
 pyHash:=λhv h=>by
  rcases bD hv with ⟨i,t,rfl,rfl⟩ | ⟨x,t,rfl,rfl⟩
  ·exact wpAny_pyHash_int h
  ·exact wpAny_pyHash_str h
 eqBool:=λhu hv h=>by
  rcases bD hu with ⟨i,t,rfl,rfl⟩ | ⟨x,t,rfl,rfl⟩
  ·rcases bD hv with ⟨j,u,rfl,rfl⟩ | ⟨y,u,rfl,rfl⟩
   ·rw [yi]at h;exact wpAny_eqBool_int h
   ·rw [yh]at h;exact SeqAt.EqAt.int_str i t y u _ _ _ _ h
  ·rcases bD hv with ⟨j,u,rfl,rfl⟩ | ⟨y,u,rfl,rfl⟩
   ·rw [yg]at h;exact SeqAt.EqAt.str_int x t j u _ _ _ _ h
   ·rw [yf]at h;exact wpAny_eqBool_str h
 «strs» :=λk x t v h=>by
  rcases bD h with ⟨i,u,rfl,e⟩ | ⟨y,u,rfl,e⟩
  ·exact nomatch e
  ·injection e with e1 _
   subst e1;cases v <;> rfl
theorem nq (prog:Program) (w:World) (i:Int) (t:Tok):(aV prog w).is (.inl i) (.int i t)=true:=sk i t
theorem nn (prog:Program) (w:World) (x:Str) (t:Tok):(aV prog w).is (.inr x) (.str x t)=true:=bA x t
inductive V where
 | non | bl (b:Bool) | int (i:Int) | str (x:Str) | byt (b:Array UInt8) | flt (b:UInt64) | ref (a:Addr) | ty (n:String)
 deriving DecidableEq
noncomputable def RelV:V->Value->Prop
 | .non,u=>u=Value.none
 | .bl b,u=>u=Value.bool b
 | .int i,u=> ∃ t,u=Value.int i t
 | .str x,u=> ∃ t,u=Value.str x t
 | .byt b,u=> ∃ t,u=Value.bytes b t
 | .flt b,u=> ∃ t,u=Value.float b t
 | .ref a,u=>u=Value.ref a
 | .ty n,u=>u=Value.type n
noncomputable abbrev Vals:List V->List Value->Prop:=Paired RelV
theorem Vals.length {xs:List V} {us:List Value} (r:Vals xs us):xs.length=us.length:=AZ r
theorem Vals.get: ∀ {xs:List V} {us:List Value} {i:Nat} {x:V},Vals xs us->xs[i]? =some x-> ∃ u,us[i]? =some u/\RelV x u
 | _,_,_,_,.nil,e=>by simp at e
 | _,_,0,_,.cons r _,e=>by simp at e;subst e;exact ⟨_,rfl,r⟩
 | _,_,i+1,x,.cons _ t,e=>by
  obtain ⟨u,h1,h2⟩:=Vals.get (i:=i) (x:=x) t (by simpa using e);exact ⟨u,by simpa using h1,h2⟩
theorem Vals.set {x:V} {u:Value} (r:RelV x u): ∀ {xs:List V} {us:List Value} (i:Nat),Vals xs us->Vals (xs.set i x) (us.set i u)
 | _,_,_,.nil=>.nil
 | _,_,0,.cons _ t=>.cons r t
 | _,_,i+1,.cons q t=>.cons q (Vals.set r i t)
theorem Vals.append: ∀ {xs ys:List V} {us ws:List Value},Vals xs us->Vals ys ws->Vals (xs++ys) (us++ws)
 | _,_,_,_,.nil,s=>s
 | _,_,_,_,.cons r t,s=>.cons r (Vals.append t s)
theorem Vals.take: ∀ {xs:List V} {us:List Value} (n:Nat),Vals xs us->Vals (xs.take n) (us.take n)
 | _,_,0,_=>.nil
 | _,_,_+1,.nil=>.nil
 | _,_,n+1,.cons r t=>.cons r (Vals.take n t)
theorem Vals.drop: ∀ {xs:List V} {us:List Value} (n:Nat),Vals xs us->Vals (xs.drop n) (us.drop n)
 | _,_,0,r=>r
 | _,_,_+1,.nil=>.nil
 | _,_,n+1,.cons _ t=>Vals.drop n t
theorem Vals.none_of: ∀ {xs:List V} {us:List Value} {i:Nat},Vals xs us->xs[i]? =none->us[i]? =none:=λ{xs us i} r e=>by
 have h1:=r.length;have h2:xs.length<=i:=List.getElem?_eq_none_iff.mp e;exact List.getElem?_eq_none_iff.mpr (by lia)
noncomputable def RelO:Option V->Option Value->Prop
 | some v,some u=>RelV v u
 | none,none=>True
 | _,_=>False
noncomputable def KV {κ:Type}:List (κ×V)->List (κ×Value)->Prop:=Paired λ(p:κ×V) (q:κ×Value)=>p.1=q.1/\RelV p.2 q.2
noncomputable def kV:Key->V
 | .inl i=>.int i
 | .inr x=>.str x
inductive HO where
 | lst (xs:List V)
 | tup (xs:List V)
 | dK (kvs:List (Key×V)) | dT (kvs:List (List Key×V)) | dP (kvs:List ((List Key×Key)×V))
 | set (S:Int->Bool) (n:Nat)
 | ins (C dx:Addr) (fs:List (Str×V))
 | own (x:Addr)
 | xd (fs:List (Str×V))
 | met (f x:Addr)
 | rng (lo hi:Int)
 | frz (o:Obj) (u:HO)
 | tbl (ps:Array Value)
 | ext (φ:Heap->Prop)
abbrev Hp:=Addr->Option HO
noncomputable def upd (H:Hp) (a:Addr) (o:HO):Hp:=λb=>if b=a then some o else H b
theorem ad {H:Hp} {a:Addr} {o:HO}:upd H a o a=some o:=by unfold upd;rw [AX rfl]
theorem ah {H:Hp} {a b:Addr} {o:HO} (h:b≠a):upd H a o b=H b:=by unfold upd;rw [AQ h]
theorem dH {H:Hp} {a:Addr} {o u:HO}:upd (upd H a o) a u=upd H a u:=by
 funext b;unfold upd;split <;> rfl
theorem xn {H:Hp} {a b:Addr} {o u:HO} (h:H a=some o) (h':H b=some u) (d:o≠u):a≠b:=by
 intro e;subst e;rw [h]at h';exact d (A0 h')
theorem ai {H:Hp} {a b:Addr} {o:HO} (h:H a=some o) (h':H b=none):a≠b:=by
 intro e;subst e;rw [h]at h';cases h'
section
variable (P:Program) (w:World)
noncomputable def ObjOk (H:Hp) (h:Heap) (a:Addr):HO->Prop
 | .lst xs=>xs.length<=sizeLine/\ ∃ (its:List Value) (n:Nat),Vals xs its/\h.get? a=some {cls:=.type "list",data:=.seq its.toArray n}
 | .tup xs=>xs.length<=sizeLine/\ ∃ its:List Value,Vals xs its/\IsTup h a its.toArray
 | .dK kvs=>kvs.length<=sizeLine/\(a==sysModules)=false/\ ∃ vs,KV kvs vs/\h.DictOf (aV P w) a vs
 | .dT kvs=>kvs.length<=sizeLine/\(a==sysModules)=false/\ ∃ xs:List (List Key×Addr×Value),
   Paired (λ(p:List Key×V) (q:List Key×Addr×Value)=>p.1=q.1/\H q.2.1=some (.tup (p.1.map kV))/\RelV p.2 q.2.2) kvs xs/\
   ∃ o es ep,h.get? a=some o/\o.ExactDict/\o.data=.dict es ep/\es.toList=xs.map (entryOfKey (tupleKind (aV P w)))/\(xs.map (·.1)).Nodup
 | .dP kvs=>kvs.length<=sizeLine/\(a==sysModules)=false/\ ∃ xs:List ((List Key×Key)×Addr×Value),
   Paired (λ(p:(List Key×Key)×V) (q:(List Key×Key)×Addr×Value)=>p.1=q.1/\(∃ b,H q.2.1=some (.tup [.ref b,kV p.1.2])/\H b=some (.tup (p.1.1.map kV)))/\RelV p.2 q.2.2) kvs xs/\
   ∃ o es ep,h.get? a=some o/\o.ExactDict/\o.data=.dict es ep/\es.toList=xs.map (entryOfKey (eB (aV P w) (aV P w)))/\(xs.map (·.1)).Nodup
 | .set S n=>h.SetOf (intKind P w) a S n
 | .ins C dx fs=>H dx=some (.own a)/\fs.length<=1000/\dx≠a/\h.get? a=some (W.instObj C dx)/\
   ∃ mA,h.Ns1 dx mA/\(∀ f,RelO (fs.lookup f) (mA f))/\PySem.Within mA (fs.map (·.1))
 | .own _=> ∃ o,h.get? a=some o
 | .xd fs=> ∃ mA,h.Ns1 a mA/\ ∀ f,RelO (fs.lookup f) (mA f)
 | .rng lo hi=> ∃ t u v,h.get? a=some {cls:=.type "range",data:=.fields #[.int lo t,.int hi u,.int 1 v]}
 | .frz o u=>h.get? a=some o/\ObjOk H h a u
 | .tbl ps=>h.get? a=some {cls:=.none,data:=.fields ps}
 | .met f x=>h.get? a=some (W.methodObj (.ref f) (.ref x))
 | .ext φ=>φ h/\(∃ o,h.get? a=some o)/\ ∀ h1 h2:Heap,φ h1->(∀ o,h1.get? a=some o->h2.get? a=some o)->φ h2
def HOk (H:Hp) (h:Heap):Prop:= ∀ a o,H a=some o->ObjOk P w H h a o
end
section
variable {P:Program} {w:World} {H H':Hp} {h h':Heap} {a:Addr} {o:HO}
theorem ObjOk.lt (x:ObjOk P w H h a o):a<h.objs.size:=by
 cases o with
 | lst xs=>obtain ⟨_,_,_,_,e⟩:=x;exact AN e
 | tup xs=>obtain ⟨_,_,_,p⟩:=x;exact p.lt
 | dK kvs=>obtain ⟨_,_,_,_,o,_,_,e,_⟩:=x;exact AN e
 | dT kvs=>obtain ⟨_,_,_,_,o,_,_,e,_⟩:=x;exact AN e
 | dP kvs=>obtain ⟨_,_,_,_,o,_,_,e,_⟩:=x;exact AN e
 | set S n=>obtain ⟨o,_,_,_,e,_⟩:=x;exact AN e
 | ins C dx fs=>obtain ⟨_,_,_,e,_⟩:=x;exact AN e
 | own y=>obtain ⟨_,e⟩:=x;exact AN e
 | xd fs=>obtain ⟨_,⟨_,_,_,e,_⟩,_⟩:=x;exact AN e
 | rng lo hi=>obtain ⟨_,_,_,e⟩:=x;exact AN e
 | frz ob u=>obtain ⟨e,_⟩:=x;exact AN e
 | tbl ps=>exact AN (show h.get? a=some _ from x)
 | met f y=>exact AN (show h.get? a=some _ from x)
 | ext φ=>obtain ⟨_,⟨_,e⟩,_⟩:=x;exact AN e
theorem Paired.mapP {α β:Type} {F G:α->β->Prop}: ∀ {l₁:List α} {l₂:List β},Paired F l₁ l₂->(∀ a b,F a b->G a b)->Paired G l₁ l₂
 | _,_,.nil,_=>.nil
 | _,_,.cons r t,f=>.cons (f _ _ r) (Paired.mapP t f)
theorem ObjOk.stay (x:ObjOk P w H h a o) (k: ∀ b u,(b=a\/H b=some (.own a))->h.get? b=some u->h'.get? b=some u)
  (ho: ∀ b,H b=some (.own a)->H' b=some (.own a)) (ht: ∀ b xs,H b=some (.tup xs)->H' b=some (.tup xs)):ObjOk P w H' h' a o:=by
 induction o with
 | lst xs=>obtain ⟨z,its,n,r,e⟩:=x;exact ⟨z,its,n,r,k _ _ (.inl rfl) e⟩
 | tup xs=>obtain ⟨z,its,r,ob,e,c⟩:=x;exact ⟨z,its,r,ob,k _ _ (.inl rfl) e,c⟩
 | dK kvs=>obtain ⟨z,y,vs,r,ob,es,ep,e,c⟩:=x;exact ⟨z,y,vs,r,ob,es,ep,k _ _ (.inl rfl) e,c⟩
 | dT kvs=>
  obtain ⟨z,y,xs,r,ob,es,ep,e,c⟩:=x;exact ⟨z,y,xs,Paired.mapP r λp q z=>⟨z.1,ht _ _ z.2.1,z.2.2⟩,ob,es,ep,k _ _ (.inl rfl) e,c⟩
 | dP kvs=>
  obtain ⟨z,y,xs,r,ob,es,ep,e,c⟩:=x;exact ⟨z,y,xs,Paired.mapP r λp q z=>⟨z.1,let ⟨b,e1,e2⟩:=z.2.1;⟨b,ht _ _ e1,ht _ _ e2⟩,z.2.2⟩,ob,es,ep,k _ _ (.inl rfl) e,c⟩
 | set S n=>obtain ⟨ob,es,ep,t,e,c⟩:=x;exact ⟨ob,es,ep,t,k _ _ (.inl rfl) e,c⟩
 | ins C dx fs=>
  obtain ⟨d,z,ne,e,mA,⟨od,es,ep,e2,c⟩,r⟩:=x;exact ⟨ho _ d,z,ne,k _ _ (.inl rfl) e,mA,⟨od,es,ep,k _ _ (.inr d) e2,c⟩,r⟩
 | own y=>obtain ⟨ob,e⟩:=x;exact ⟨ob,k _ _ (.inl rfl) e⟩
 | xd fs=>obtain ⟨mA,⟨od,es,ep,e,c⟩,r⟩:=x;exact ⟨mA,⟨od,es,ep,k _ _ (.inl rfl) e,c⟩,r⟩
 | rng lo hi=>obtain ⟨t,u,v,e⟩:=x;exact ⟨t,u,v,k _ _ (.inl rfl) e⟩
 | frz ob u ih=>obtain ⟨e,q⟩:=x;exact ⟨k _ _ (.inl rfl) e,ih q⟩
 | tbl ps=>
  have e:h.get? a=some {cls:=.none,data:=.fields ps}:=x;show h'.get? a=some {cls:=.none,data:=.fields ps};exact k a _ (.inl rfl) e
 | met f y=>
  have e:h.get? a=some (W.methodObj (.ref f) (.ref y)):=x;show h'.get? a=some (W.methodObj (.ref f) (.ref y));exact k a _ (.inl rfl) e
 | ext φ=>obtain ⟨p,⟨o,e⟩,st⟩:=x;exact ⟨st _ _ p λo q=>k _ _ (.inl rfl) q,⟨o,k _ _ (.inl rfl) e⟩,st⟩
theorem HOk.lt (x:HOk P w H h) (e:H a=some o):a<h.objs.size:=(x a o e).lt
theorem HOk.fresh (x:HOk P w H h) (e:h.objs.size<=a):H a=none:=by
 cases q:H a with
 | none=>rfl
 | some u=>exact absurd (Bl (x.lt q) e) (CN _)
theorem HOk.kept (x:HOk P w H h) (k: ∀ b u,h.get? b=some u->h'.get? b=some u):HOk P w H h':=λa o e=>
 (x a o e).stay (λb u _ q=>k b u q) (λ_ q=>q) λ_ _ q=>q
theorem HOk.laid (x:HOk P w H h) (k: ∀ b u,h.get? b=some u->h'.get? b=some u) (hp:h.objs.size<=a) (new:ObjOk P w (upd H a o) h' a o):HOk P w (upd H a o) h':=λb u e=>by
 have hn:=x.fresh hp;by_cases hb:b=a
 ·subst hb;rw [ad]at e;cases e;exact new
 ·rw [ah hb]at e;exact (x b u e).stay (λc v _ q=>k c v q) (λc q=>by rw [ah (ai q hn)];exact q) λc xs q=>by rw [ah (ai q hn)];exact q
end
def Rd (H:Hp) (a:Addr) (u:HO):Prop:=H a=some u\/ ∃ o,H a=some (.frz o u)
theorem Rd.ok {P:Program} {w:World} {H:Hp} {h:Heap} {a:Addr} {u:HO} (r:Rd H a u) (x:HOk P w H h):ObjOk P w H h a u:=by
 rcases r with r | ⟨o,r⟩
 ·exact x a u r
 ·obtain ⟨_,q⟩:=x a _ r;exact q
noncomputable def Mut:Option HO->Prop
 | some (.lst _)=>True
 | some (.dK _)=>True
 | some (.dT _)=>True
 | some (.dP _)=>True
 | some (.set _ _)=>True
 | some (.ins _ _ _)=>True
 | some (.ext _)=>True
 | _=>False
section
variable {P:Program} {w:World} {H:Hp} {h h':Heap} {x e:Addr} {o':HO}
theorem HOk.write (ok:HOk P w H h) (mu:Mut (H x)) (he:e=x\/H e=some (.own x)) (k: ∀ b u,b≠e->h.get? b=some u->h'.get? b=some u) (heo: ∃ u,h'.get? e=some u)
  (new:ObjOk P w (upd H x o') h' x o'):HOk P w (upd H x o') h':=λb u q=>by
 have nown: ∀ c y,H c=some (.own y)->c≠x:=λc y r z=>by subst z;rw [r]at mu;exact mu
 have ntup: ∀ c xs,H c=some (.tup xs)->c≠x:=λc xs r z=>by subst z;rw [r]at mu;exact mu
 by_cases hb:b=x
 ·subst hb;rw [ad]at q;cases q;exact new
 ·rw [ah hb]at q;by_cases hbe:b=e
  ·have q':H b=some (.own x):=by
    rcases he with z | z
    ·exact absurd (hbe.trans z) hb
    ·rw [hbe];exact z
   rw [q]at q';cases q';obtain ⟨v,hv⟩:=heo;exact ⟨v,by rw [hbe];exact hv⟩
  ·refine (ok b u q).stay (λc v hc r=>k c v ?_ r) (λc r=>by rw [ah (nown c b r)];exact r) λc xs r=>by rw [ah (ntup c xs r)];exact r
   rcases hc with rfl | hc
   ·exact hbe
   ·rintro rfl;rcases he with z | z
    ·exact nown c b hc z
    ·rw [hc]at z;cases z;exact hb rfl
end
structure Un (fs ex:List Addr) (H H':Hp) (h h':Heap):Prop where
 keep: ∀ b o,h.get? b=some o->H b=none->b∉fs->b∉ex->h'.get? b=some o
 slot: ∀ b o,h.get? b=some o->H b=none->b∈fs->b∉ex-> ∃ sl,h'.get? b=some {o with slots:=sl}
 free: ∀ b o,h.get? b=some o->H b=none->b∉ex->H' b=none
 there: ∀ b o,h.get? b=some o->b∉ex-> ∃ o',h'.get? b=some o'
 tups: ∀ b xs,H b=some (.tup xs)->H' b=some (.tup xs)
 frzs: ∀ b o u,H b=some (.frz o u)->H' b=some (.frz o u)
 tbls: ∀ b ps,H b=some (.tbl ps)-> ∃ more,H' b=some (.tbl (ps++more))
section
variable {fs fs' ex ex':List Addr} {H H1 H2:Hp} {h h1 h2 h':Heap} {a x e:Addr} {o:HO}
theorem Un.any (u:Un fs ex H H1 h h1) {b:Addr} {ob:Obj} (q:h.get? b=some ob) (n:H b=none) (hx:b∉ex): ∃ sl,h1.get? b=some {ob with slots:=sl}:=by
 by_cases hb:b∈fs
 ·exact u.slot b ob q n hb hx
 ·exact ⟨ob.slots,u.keep b ob q n hb hx⟩
theorem Un.trans (a:Un fs ex H H1 h h1) (b:Un fs ex H1 H2 h1 h2):Un fs ex H H2 h h2 where
 keep:=λc ob q n hc hx=>b.keep c ob (a.keep c ob q n hc hx) (a.free c ob q n hx) hc hx
 slot:=λc ob q n hc hx=>by
  obtain ⟨sl,e1⟩:=a.slot c ob q n hc hx;obtain ⟨sl',e2⟩:=b.slot c _ e1 (a.free c ob q n hx) hc hx;exact ⟨sl',e2⟩
 free:=λc ob q n hx=>by
  obtain ⟨o',e1⟩:=a.there c ob q hx;exact b.free c o' e1 (a.free c ob q n hx) hx
 there:=λc ob q hx=>by
  obtain ⟨o',e1⟩:=a.there c ob q hx;exact b.there c o' e1 hx
 tups:=λc xs q=>b.tups c xs (a.tups c xs q)
 frzs:=λc ob xs q=>b.frzs c ob xs (a.frzs c ob xs q)
 tbls:=λc ps q=>by
  obtain ⟨m1,e1⟩:=a.tbls c ps q;obtain ⟨m2,e2⟩:=b.tbls c _ e1;exact ⟨m1++m2,by rw [e2,Array.append_assoc]⟩
theorem Un.kept (k: ∀ b u,h.get? b=some u->h'.get? b=some u):Un fs ex H H h h':=
 ⟨λb ob q _ _ _=>k b ob q,λb ob q _ _ _=>⟨ob.slots,k b ob q⟩,λ_ _ _ n _=>n,λb ob q _=>⟨ob,k b ob q⟩,λ_ _ q=>q,λ_ _ _ q=>q,λ_ ps q=>⟨#[],by rw [q];simp⟩⟩
theorem Un.refl:Un fs ex H H h h:=Un.kept λ_ _ q=>q
theorem Un.laid (k: ∀ b u,h.get? b=some u->h'.get? b=some u) (hp:h.objs.size<=a) (hn:H a=none):Un fs ex H (upd H a o) h h' where
 keep:=λb u q _ _ _=>k b u q
 slot:=λb u q _ _ _=>⟨u.slots,k b u q⟩
 free:=λb u q n _=>by rw [ah (Bf (Bl (AN q) hp))];exact n
 there:=λb u q _=>⟨u,k b u q⟩
 tups:=λb xs q=>by rw [ah (ai q hn)];exact q
 frzs:=λb u xs q=>by rw [ah (ai q hn)];exact q
 tbls:=λb ps q=>⟨#[],by rw [ah (ai q hn),q];simp⟩
theorem Un.write (mu:Mut (H x)) (he:e=x\/H e=some (.own x)) (k: ∀ b u,b≠e->h.get? b=some u->h'.get? b=some u) (heo: ∃ u,h'.get? e=some u):Un fs ex H (upd H x o) h h':=by
 have hx: ∀ b,H b=none->b≠x:=λb n z=>by subst z;rw [n]at mu;exact mu
 have hb: ∀ b,H b=none->b≠e:=λb n z=>by
  subst z;rcases he with r | r
  ·exact hx b n r
  ·rw [n]at r;cases r
 have hm: ∀ b u,H b=some u-> ¬ Mut (some u)->b≠x:=λb u q nm z=>by subst z;rw [q]at mu;exact nm mu
 refine ⟨λb u q n _ _=>k b u (hb b n) q,λb u q n _ _=>⟨u.slots,k b u (hb b n) q⟩,λb u q n _=>by rw [ah (hx b n)];exact n,λb u q _=>?_,
  λb xs q=>by rw [ah (hm b _ q λz=>z)];exact q,λb u xs q=>by rw [ah (hm b _ q λz=>z)];exact q,λb ps q=>⟨#[],by rw [ah (hm b _ q λz=>z),q];simp⟩⟩
 by_cases hbe:b=e
 ·subst hbe;exact heo
 ·exact ⟨u,k b u hbe q⟩
theorem Un.mono (u:Un fs ex H H1 h h1) (hs: ∀ b∈fs,b∈fs') (hx: ∀ b∈ex,b∈ex'):Un fs' ex' H H1 h h1:=
 ⟨λb ob q n hb he=>u.keep b ob q n (λz=>hb (hs b z)) λz=>he (hx b z),λ_ _ q n _ he=>u.any q n λz=>he (hx _ z),λb ob q n he=>u.free b ob q n λz=>he (hx b z),λb ob q he=>u.there b ob q λz=>he (hx b z),u.tups,u.frzs,u.tbls⟩
end
noncomputable def trk (h:Heap) (H:Hp):List Addr:=(List.range h.objs.size).filter λa=>(H a).isSome
noncomputable def jA (h:Heap) (H:Hp):Heap:=W.hideAll h (trk h H)
theorem sy (h:Heap) (H:Hp):(jA h H).objs.size=h.objs.size:=W.hideAll_size _ _
theorem u9 {h:Heap} {H:Hp} {b:Addr} {o:Obj} (e:h.get? b=some o) (n:H b=none):(jA h H).get? b=some o:=
 W.hideAll_get _ e λhm=>by
  have q:(H b).isSome=true:=(BL.mp hm).2;rw [n]at q;simp at q
theorem wz {h:Heap} {H:Hp} {b:Addr} {o:Obj} (e:(jA h H).get? b=some o):h.get? b=some o/\H b=none:=by
 have e':h.get? b=some o:=W.of_hideAll (trk h H) e;refine ⟨e',?_⟩;cases q:H b with
 | none=>rfl
 | some x=>
  have hm:b∈trk h H:=BL.mpr ⟨Dd.mpr (AN e'),by simp [q]⟩;have z:(jA h H).get? b=none:=EB (trk h H) hm;rw [z]at e;cases e
structure Mod (K:W.Frag) (mg:Str->Option Value) (base:Heap):Prop where
 kin:K.In base
 glob:base.Ns mainGlobals mg
 blt: ∃ mb,base.Ns builtinsNs mb/\ ∀ x:Str,x≠"__name__"->mb x=bootBuiltins x
 nolimit:base.NoLimit
structure Cx where
 prog:Program
 w:World
 K:W.Frag
 mg:Str->Option Value
 base:Heap
 A:Around
 N:List Str
 s₀:Shared
 H₀:Hp
 env:Env
 outer:List Env
 stack:List Env
 ex:List Addr
 fn:Str->Bool
 calm:Bool
 pn:List (Addr×Obj)
 xe:Value->Shared->Prop
noncomputable def frs (l:List Env):List Addr:=l.filterMap (·.frame)
noncomputable abbrev Cx.fs (X:Cx):List Addr:=frs X.outer
def Vis (sc:Scope) (x:Str):Prop:=sc.names.lookup x=some .local\/sc.names.lookup x=some .cell\/sc.names.lookup x=some .free
def Loc (sc:Scope) (x:Str):Prop:=sc.names.lookup x=some .local\/sc.names.lookup x=some .cell
def Av (env:Env) (h:Heap) (m:Str->Option Value) (x:Str) (u:Value):Prop:=
 (env.kindOf x=some .local/\m x=some u)\/((env.kindOf x=some .cell\/env.kindOf x=some .free)/\ ∃ c,env.cells.lookup x=some c/\h.IsCell c (some u))
structure Cx.Ok (X:Cx):Prop where
 mod:Mod X.K X.mg X.base
 kind:X.env.scope.kind=.function
 glob:X.env.globals=mainGlobals
 blt:X.env.builtins=builtinsNs
 above:X.s₀.heap.objs.size<=X.env.locals
 inj: ∀ x y c,X.env.cells.lookup x=some c->X.env.cells.lookup y=some c->x=y
 has: ∀ x,(X.env.kindOf x=some .cell\/X.env.kindOf x=some .free)-> ∃ c,X.env.cells.lookup x=some c
 cab: ∀ x c,X.fn x=true->X.env.cells.lookup x=some c->X.s₀.heap.objs.size<=c
 hd:X.calm=true->X.A.handled=none
 frames:X.A.frames=some X.stack
 stk:X.stack=X.outer\/(X.stack=X.env::X.outer/\X.env.frame=some X.env.locals)
 exf: ∀ b∈X.ex,b≠X.env.locals/\ ∀ x c,X.env.cells.lookup x=some c->c≠b
 bs: ∀ b o,X.base.get? b=some o->X.s₀.heap.get? b=some o/\X.H₀ b=none
 bsz:X.base.objs.size<=X.s₀.heap.objs.size
 noex: ∀ b o,X.base.get? b=some o->b∉X.ex
 exfs: ∀ b∈X.ex,b∉X.fs
 funs:X.s₀.heap.FunFrames X.base X.outer
 frf: ∀ b∈X.fs,X.H₀ b=none
structure Inv (X:Cx) (pins:List (Addr×Obj)) (σ:List (Option V)) (H:Hp) (s:Shared):Prop where
 ok:X.Ok
 os:s.os=X.s₀.os
 bare:AllBare s.gens
 base:Un X.fs X.ex X.H₀ H X.s₀.heap s.heap
 loc: ∃ m,s.heap.Ns X.env.locals m/\ ∀ (i:Nat) (x:Str) (v:V),X.N[i]? =some x->σ[i]? =some (some v)->Vis X.env.scope x-> ∃ u,RelV v u/\Av X.env s.heap m x u
 cell: ∀ x c,X.env.cells.lookup x=some c-> ∃ v,s.heap.IsCell c v
 free:H X.env.locals=none
 freeC: ∀ x c,X.env.cells.lookup x=some c->H c=none
 pin: ∀ p∈X.pn++pins,s.heap.get? p.1=some p.2/\H p.1=none/\p.1≠X.env.locals/\p.1∉X.fs/\ ∀ v,p.2.data≠ .cell v
 hok:HOk X.prog X.w H s.heap
 len:σ.length=X.N.length
section
variable {X:Cx} {pins:List (Addr×Obj)} {σ:List (Option V)} {H H':Hp} {s:Shared} {h':Heap}
theorem Cx.Ok.nofr (ok:X.Ok) {b:Addr} {o:Obj} (e:X.base.get? b=some o):b∉X.fs:=λhb=>by
 have:=(ok.funs.mem hb).1;rw [e]at this;cases this
theorem Inv.bs (I:Inv X pins σ H s): ∀ b o,X.base.get? b=some o->s.heap.get? b=some o/\H b=none:=λb o e=>
 ⟨I.base.keep b o (I.ok.bs b o e).1 (I.ok.bs b o e).2 (I.ok.nofr e) (I.ok.noex b o e),I.base.free b o (I.ok.bs b o e).1 (I.ok.bs b o e).2 (I.ok.noex b o e)⟩
theorem Inv.bk (I:Inv X pins σ H s): ∀ b o,X.base.get? b=some o->s.heap.get? b=some o:=λb o e=>(I.bs b o e).1
theorem Inv.mod (I:Inv X pins σ H s):Mod X.K X.mg X.base:=I.ok.mod
theorem Inv.kIn (I:Inv X pins σ H s):X.K.In s.heap:=I.ok.mod.kin.keeps I.bk
theorem Inv.nolimit (I:Inv X pins σ H s):s.heap.NoLimit:=I.ok.mod.nolimit.keeps I.bk
theorem Inv.lt (I:Inv X pins σ H s):X.env.locals<s.heap.objs.size:=let ⟨_,hn,_⟩:=I.loc;hn.lt
theorem Inv.sz (I:Inv X pins σ H s):X.s₀.heap.objs.size<=s.heap.objs.size:=Bm I.ok.above (Bj I.lt)
theorem Inv.nofs (I:Inv X pins σ H s) {a:Addr} (h:s.heap.objs.size<=a):a∉X.fs:=λhb=>by
 obtain ⟨_,o,ho,_⟩:=I.ok.funs.mem hb;exact absurd (Bl (AN ho) (Bm I.sz h)) (CN _)
theorem Inv.cne (I:Inv X pins σ H s): ∀ x c,X.env.cells.lookup x=some c->c≠X.env.locals:=λx c e z=>by
 obtain ⟨v,o,ho,hd⟩:=I.cell x c e;obtain ⟨m,⟨o',es,ep,ho',hd',_⟩,_⟩:=I.loc;rw [z,ho']at ho;cases ho;rw [hd']at hd;cases hd
theorem Inv.funs (I:Inv X pins σ H s):s.heap.FunFrames X.base X.outer:=by
 have all: ∀ (l:List Env),(∀ b∈frs l,b∈X.fs)->X.s₀.heap.FunFrames X.base l->s.heap.FunFrames X.base l:=by
  intro l;induction l with
  | nil=>intro _ _;trivial
  | cons env r ih=>
   intro hs hl;obtain ⟨hk,⟨L,o,hf,hn,ho,hd⟩,hr⟩:=hl;have hL:L∈X.fs:=hs L (by unfold frs;rw [BA,hf];exact A3);obtain ⟨sl,e⟩:=I.base.slot L o ho (I.ok.frf L hL) hL λz=>I.ok.exfs L z hL;exact ⟨hk,⟨L,_,hf,hn,e,hd⟩,ih (λb hb=>hs b (by unfold frs;rw [BA,hf];exact A2 _ hb)) hr⟩
 exact all X.outer (λ_ hb=>hb) I.ok.funs
theorem Inv.stack (I:Inv X pins σ H s):s.heap.FunFrames X.base X.stack:=by
 rcases I.ok.stk with e | ⟨e,hf⟩
 ·rw [e];exact I.funs
 ·rw [e];obtain ⟨m,hn,_⟩:=I.loc;refine .cons (by rw [I.ok.kind];decide) hf hn ?_ I.funs;exact C3 (Bm I.ok.bsz I.ok.above)
theorem Inv.stkSub (I:Inv X pins σ H s): ∀ b∈frs X.stack,b∈X.env.locals::X.fs:=λb hb=>by
 rcases I.ok.stk with e | ⟨e,hf⟩
 ·rw [e]at hb;exact A2 _ hb
 ·rw [e]at hb;unfold frs at hb;rw [BA,hf]at hb;exact hb
theorem Inv.stkFree (I:Inv X pins σ H s): ∀ b∈frs X.stack,H b=none:=λb hb=>by
 rcases AY.mp (I.stkSub b hb)with e | hb
 ·rw [e];exact I.free
 ·obtain ⟨_,o,ho,_⟩:=I.ok.funs.mem hb;exact I.base.free b o ho (I.ok.frf b hb) λz=>I.ok.exfs b z hb
theorem Inv.step {g':Array GenState} {t':Nat} {d':Drawn} {ch:List Addr} (I:Inv X pins σ H s)
  (hch: ∀ b∈ch,(b∈X.ex\/X.s₀.heap.objs.size<=b)/\b≠X.env.locals/\(∀ x c,X.env.cells.lookup x=some c->c≠b)/\ ∀ p∈X.pn++pins,p.1≠b)
  (keep: ∀ b o,b≠X.env.locals->b∉X.fs->b∉ch->s.heap.get? b=some o->H b=none->h'.get? b=some o)
  (slot: ∀ b o,b≠X.env.locals->b∈X.fs->b∉ch->s.heap.get? b=some o->H b=none-> ∃ sl,h'.get? b=some {o with slots:=sl}) (free: ∀ b o,b∉ch->s.heap.get? b=some o->H b=none->H' b=none)
  (there: ∀ b o,b∉ch->s.heap.get? b=some o-> ∃ o',h'.get? b=some o')
  (tups: ∀ b xs,H b=some (.tup xs)->H' b=some (.tup xs)) (frzs: ∀ b o u,H b=some (.frz o u)->H' b=some (.frz o u)) (tbls: ∀ b ps,H b=some (.tbl ps)-> ∃ more,H' b=some (.tbl (ps++more)))
  (ns: ∀ m,s.heap.Ns X.env.locals m->h'.Ns X.env.locals m) (hok:HOk X.prog X.w H' h') (hg:AllBare g'):
  Inv X pins σ H' {s with heap:=h',gens:=g',drawn:=d',toks:=t'}:=by
 have neL: ∀ b o,X.s₀.heap.get? b=some o->b≠X.env.locals:=λb o e=>Bf (Bl (AN e) I.ok.above);have neC: ∀ b o,X.s₀.heap.get? b=some o->b∉X.ex->b∉ch:=λb o e hx hb=>by
  rcases (hch b hb).1 with z | z
  ·exact hx z
  ·exact absurd (Bl (AN e) z) (CN _)
 have cellK: ∀ x c,X.env.cells.lookup x=some c-> ∀ v,s.heap.IsCell c v->h'.IsCell c v:=λx c e v ⟨o,ho,hd⟩=>by
  have nch:c∉ch:=λz=>(hch c z).2.2.1 x c e rfl;by_cases hc:c∈X.fs
  ·obtain ⟨sl,q⟩:=slot c o (I.cne x c e) hc nch ho (I.freeC x c e);exact ⟨_,q,hd⟩
  ·exact ⟨o,keep c o (I.cne x c e) hc nch ho (I.freeC x c e),hd⟩
 refine ⟨I.ok,I.os,hg,⟨λb o e n hb hx=>?_,λb o e n hb hx=>?_,λb o e n hx=>?_,λb o e hx=>?_,λb xs e=>tups b xs (I.base.tups b xs e),λb o xs e=>frzs b o xs (I.base.frzs b o xs e),λb ps e=>?_⟩,?_,λx c e=>?_,?_,λx c e=>?_,λp hp=>?_,hok,I.len⟩
 ·exact keep b o (neL b o e) hb (neC b o e hx) (I.base.keep b o e n hb hx) (I.base.free b o e n hx)
 ·obtain ⟨sl,e1⟩:=I.base.slot b o e n hb hx;obtain ⟨sl',e2⟩:=slot b _ (neL b o e) hb (neC b o e hx) e1 (I.base.free b o e n hx);exact ⟨sl',e2⟩
 ·obtain ⟨o',e1⟩:=I.base.there b o e hx;exact free b o' (neC b o e hx) e1 (I.base.free b o e n hx)
 ·obtain ⟨o',e1⟩:=I.base.there b o e hx;exact there b o' (neC b o e hx) e1
 ·obtain ⟨m1,e1⟩:=I.base.tbls b ps e;obtain ⟨m2,e2⟩:=tbls b _ e1;exact ⟨m1++m2,by rw [e2,Array.append_assoc]⟩
 ·obtain ⟨m,hn,hl⟩:=I.loc;refine ⟨m,ns m hn,λi x v e1 e2 e3=>?_⟩;obtain ⟨u,r,l⟩:=hl i x v e1 e2 e3;refine ⟨u,r,?_⟩;rcases l with l | ⟨k,c,e,z⟩
  ·exact .inl l
  ·exact .inr ⟨k,c,e,cellK x c e _ z⟩
 ·obtain ⟨v,z⟩:=I.cell x c e;exact ⟨v,cellK x c e v z⟩
 ·obtain ⟨m,⟨o,_,_,ho,_⟩,_⟩:=I.loc;exact free _ o (λz=>(hch _ z).2.1 rfl) ho I.free
 ·obtain ⟨v,o,ho,hd⟩:=I.cell x c e;exact free c o (λz=>(hch c z).2.2.1 x c e rfl) ho (I.freeC x c e)
 ·obtain ⟨e,n,ne,nf,d⟩:=I.pin p hp;have nch:p.1∉ch:=λz=>(hch p.1 z).2.2.2 p hp rfl;exact ⟨keep p.1 p.2 ne nf nch e n,free p.1 p.2 nch e n,ne,nf,d⟩
theorem Inv.un {t':Nat} (I:Inv X pins σ H s) (u:Un X.fs [] H H' s.heap h') (hok:HOk X.prog X.w H' h'):Inv X pins σ H' {s with heap:=h',toks:=t'}:=by
 obtain ⟨m,⟨o,es,ep,ho,r⟩,_⟩:=id I.loc;obtain ⟨sl,hL⟩:=u.any ho I.free (by simp);exact I.step (g':=s.gens) (d':=s.drawn) (ch:=[]) (λ_ z=>nomatch z) (λb o _ hb _ e n=>u.keep b o e n hb (by simp)) (λb o _ hb _ e n=>u.slot b o e n hb (by simp)) (λb o _ e n=>u.free b o e n (by simp)) (λb o _ e=>u.there b o e (by simp)) u.tups u.frzs u.tbls (λm' hm=>by
  obtain ⟨o',es',ep',ho',r'⟩:=hm;rw [ho]at ho';cases ho';exact ⟨_,es',ep',hL,r'⟩) hok I.bare
theorem Inv.call {g':Array GenState} {t':Nat} {d':Drawn} {ch:List Addr} (I:Inv X pins σ H s) (u:Un (frs X.stack) ch H H' s.heap h') (hok:HOk X.prog X.w H' h') (hg:AllBare g')
  (hch: ∀ b∈ch,(b∈X.ex\/X.s₀.heap.objs.size<=b)/\b≠X.env.locals/\(∀ x c,X.env.cells.lookup x=some c->c≠b)/\ ∀ p∈X.pn++pins,p.1≠b):
  Inv X pins σ H' {s with heap:=h',gens:=g',drawn:=d',toks:=t'}:=by
 obtain ⟨m,⟨o,es,ep,ho,r⟩,_⟩:=id I.loc;obtain ⟨sl,hL⟩:=u.any ho I.free λz=>(hch _ z).2.1 rfl;exact I.step (ch:=ch) hch (λb o hL hb hc e n=>u.keep b o e n (λz=>(AY.mp (I.stkSub b z)).elim hL hb) hc) (λb o _ _ hc e n=>u.any e n hc) (λb o hc e n=>u.free b o e n hc) (λb o hc e=>u.there b o e hc) u.tups u.frzs u.tbls (λm' hm=>by
  obtain ⟨o',es',ep',ho',r'⟩:=hm;rw [ho]at ho';cases ho';exact ⟨_,es',ep',hL,r'⟩) hok hg
theorem Inv.turned {t':Nat} {it:Addr} (I:Inv X pins σ H s) (k: ∀ b o,b≠it->s.heap.get? b=some o->h'.get? b=some o) (hn:H it=none) (hL:it≠X.env.locals)
  (h1:it∈X.ex\/X.s₀.heap.objs.size<=it) (h2: ∀ x c,X.env.cells.lookup x=some c->c≠it) (h3: ∀ p∈X.pn++pins,p.1≠it):Inv X pins σ H {s with heap:=h',toks:=t'}:=by
 have nit: ∀ b u,H b=some u->b≠it:=λb u e z=>by rw [z,hn]at e;cases e
 refine I.step (g':=s.gens) (d':=s.drawn) (ch:=[it]) (λb hb=>?_) (λb o _ _ hc e _=>k b o (λz=>hc (by simp [z])) e) (λb o _ _ hc e _=>⟨o.slots,k b o (λz=>hc (by simp [z])) e⟩) (λ_ _ _ _ n=>n)
  (λb o hc e=>⟨o,k b o (λz=>hc (by simp [z])) e⟩) (λ_ _ e=>e) (λ_ _ _ e=>e) (λb ps e=>⟨#[],by rw [e];simp⟩) (λm hm=>?_) (λb u e=>?_) I.bare
 ·have e:b=it:=by simpa using hb
  subst e;exact ⟨h1,hL,h2,h3⟩
 ·obtain ⟨o,es,ep,ho,r⟩:=hm;exact ⟨o,es,ep,k _ o (Bg hL) ho,r⟩
 ·refine (I.hok b u e).stay (λc v hc q=>k c v ?_ q) (λ_ q=>q) λ_ _ q=>q;rcases hc with z | z
  ·rw [z];exact nit b u e
  ·exact nit c _ z
theorem Inv.tok (I:Inv X pins σ H s) (t:Nat):Inv X pins σ H {s with toks:=t}:=I.un (h':=s.heap) (t':=t) Un.refl I.hok
theorem Inv.kept {t':Nat} (I:Inv X pins σ H s) (k: ∀ b u,s.heap.get? b=some u->h'.get? b=some u):Inv X pins σ H {s with heap:=h',toks:=t'}:=I.un (Un.kept k) (I.hok.kept k)
theorem Inv.laid {a:Addr} {o:HO} {t':Nat} (I:Inv X pins σ H s) (k: ∀ b u,s.heap.get? b=some u->h'.get? b=some u) (hp:s.heap.objs.size<=a) (new:ObjOk X.prog X.w (upd H a o) h' a o):
  Inv X pins σ (upd H a o) {s with heap:=h',toks:=t'}:=I.un (Un.laid k hp (I.hok.fresh hp)) (I.hok.laid k hp new)
theorem Inv.write {x e:Addr} {o:HO} {t':Nat} (I:Inv X pins σ H s) (mu:Mut (H x)) (he:e=x\/H e=some (.own x)) (k: ∀ b u,b≠e->s.heap.get? b=some u->h'.get? b=some u) (heo: ∃ u,h'.get? e=some u)
  (new:ObjOk X.prog X.w (upd H x o) h' x o):Inv X pins σ (upd H x o) {s with heap:=h',toks:=t'}:=I.un (Un.write mu he k heo) (I.hok.write mu he k heo new)
theorem Inv.pins_of {pins':List (Addr×Obj)} (I:Inv X pins σ H s) (h: ∀ p∈pins',s.heap.get? p.1=some p.2/\H p.1=none/\p.1≠X.env.locals/\p.1∉X.fs/\ ∀ v,p.2.data≠ .cell v):Inv X pins' σ H s:=
 ⟨I.ok,I.os,I.bare,I.base,I.loc,I.cell,I.free,I.freeC,λp hp=>(AT.mp hp).elim (λz=>I.pin p (Bo _ z)) (h p),I.hok,I.len⟩
theorem gZ {N:List Str} (hN:N.Nodup) {i j:Nat} {x:Str} (a:N[i]? =some x) (b:N[j]? =some x):i=j:=by
 obtain ⟨h1,e1⟩:=AF.mp a;obtain ⟨h2,e2⟩:=AF.mp b;exact (List.getElem_inj hN).mp (e1.trans e2.symm)
theorem ee {M:Model} {A:Around} {E:Value->Shared->Prop} {i:Nat} {x:Str} {v:V} {u:Value} {Q:Unit->Shared->Prop} (I:Inv X pins σ H s) (hN:X.N.Nodup) (hi:X.N[i]? =some x) (hx:Loc X.env.scope x) (r:RelV v u)
  (h: ∀ s',Inv X pins (σ.set i (some v)) H s'->(∃ a,Heap.SameBut a s.heap s'.heap/\(a=X.env.locals\/X.env.cells.lookup x=some a))->Q () s') (hf:X.fn x=true\/X.env.scope.names.lookup x=some .local:=by first | exact .inl rfl | exact .inr rfl | assumption):wpAny M A (storeName X.env x u) Q E s:=by
 obtain ⟨m,hn,hl⟩:=id I.loc;have hcls:(X.env.scope.kind== .class||(X.env.scope.kind== .module&&X.env.locals !=X.env.globals))=false:=by rw [I.ok.kind];rfl
 have hiσ:i<σ.length:=by rw [I.len];exact (AF.mp hi).1
 have cne:=I.cne;have tracked: ∀ {a:Addr} {h':Heap},(∃ o,s.heap.get? a=some o/\H a=none)->Heap.SameBut a s.heap h'->HOk X.prog X.w H h':=λ{a h'} ha hs b ob e=>by
  obtain ⟨_,_,hfree⟩:=ha;refine (I.hok b ob e).stay (λc w' hc q=>(hs.2 c ?_).trans q) (λ_ q=>q) λ_ _ q=>q;rintro rfl;rcases hc with rfl | hc
  ·rw [hfree]at e;cases e
  ·rw [hfree]at hc;cases hc
 rcases hx with hk | hk
 ·refine wpAny_storeName_local hk hn (λh' hn' hs=>?_) hcls;obtain ⟨oL,_,_,hoL,_⟩:=id hn;refine h _ ⟨I.ok,I.os,I.bare,⟨λb o e n hb hx=>?_,λb o e n hb hx=>?_,I.base.free,λb o e hx=>?_,I.base.tups,I.base.frzs,I.base.tbls⟩,⟨_,hn',λj y v' e1 e2 e3=>?_⟩,λy c e=>?_,I.free,I.freeC,λp hp=>?_,tracked ⟨oL,hoL,I.free⟩ hs,by simpa using I.len⟩ ⟨_,hs,.inl rfl⟩
  ·exact (hs.2 b (Bf (Bl (AN e) I.ok.above))).trans (I.base.keep b o e n hb hx)
  ·obtain ⟨sl,e1⟩:=I.base.slot b o e n hb hx;exact ⟨sl,(hs.2 b (Bf (Bl (AN e) I.ok.above))).trans e1⟩
  ·obtain ⟨o',e1⟩:=I.base.there b o e hx;exact ⟨o',(hs.2 b (Bf (Bl (AN e) I.ok.above))).trans e1⟩
  ·by_cases hj:j=i
   ·subst hj;rw [hi]at e1;cases e1;rw [De hiσ]at e2;cases e2;exact ⟨u,r,.inl ⟨hk,by simp⟩⟩
   ·rw [EC (Bg hj)]at e2;obtain ⟨u',r',q⟩:=hl j y v' e1 e2 e3;refine ⟨u',r',?_⟩;rcases q with ⟨k,e⟩ | ⟨k,c,e,z⟩
    ·refine .inl ⟨k,?_⟩;have:y≠x:=λe=>hj (gZ hN e1 (e▸hi));simp [this,e]
    ·exact .inr ⟨k,c,e,z.sameBut hs (cne y c e)⟩
  ·obtain ⟨w',z⟩:=I.cell y c e;exact ⟨w',z.sameBut hs (cne y c e)⟩
  ·obtain ⟨e,n,ne,nf,d⟩:=I.pin p hp;exact ⟨(hs.2 p.1 ne).trans e,n,ne,nf,d⟩
 ·have hfn:X.fn x=true:=by
   rcases hf with z | z
   ·exact z
   ·rw [z]at hk;cases hk
  obtain ⟨c,hc⟩:=I.ok.has x (.inl hk);obtain ⟨w',z⟩:=I.cell x c hc;refine wpAny_storeName_cell I.ok.kind hk hc z (λh' hc' hs=>?_);obtain ⟨oc,hoc,hocd⟩:=id z;refine h {s with heap:=h'} ⟨I.ok,I.os,I.bare,⟨λb o e n hb hx=>?_,λb o e n hb hx=>?_,I.base.free,λb o e hx=>?_,I.base.tups,I.base.frzs,I.base.tbls⟩,⟨m,hn.sameBut hs (Bg (cne x c hc)),λj y v' e1 e2 e3=>?_⟩,λy c' e=>?_,I.free,I.freeC,λp hp=>?_,tracked ⟨oc,hoc,I.freeC x c hc⟩ hs,by simpa using I.len⟩ ⟨c,hs,.inr hc⟩
  ·exact (hs.2 b (Bf (Bl (AN e) (I.ok.cab x c hfn hc)))).trans (I.base.keep b o e n hb hx)
  ·obtain ⟨sl,e1⟩:=I.base.slot b o e n hb hx;exact ⟨sl,(hs.2 b (Bf (Bl (AN e) (I.ok.cab x c hfn hc)))).trans e1⟩
  ·obtain ⟨o',e1⟩:=I.base.there b o e hx;exact ⟨o',(hs.2 b (Bf (Bl (AN e) (I.ok.cab x c hfn hc)))).trans e1⟩
  ·by_cases hj:j=i
   ·subst hj;rw [hi]at e1;cases e1;rw [De hiσ]at e2;cases e2;exact ⟨u,r,.inr ⟨.inl hk,c,hc,hc'⟩⟩
   ·rw [EC (Bg hj)]at e2;obtain ⟨u',r',q⟩:=hl j y v' e1 e2 e3;refine ⟨u',r',?_⟩;rcases q with q | ⟨k,c',e,z'⟩
    ·exact .inl q
    ·refine .inr ⟨k,c',e,z'.sameBut hs ?_⟩;rintro rfl;exact hj (gZ hN e1 (I.ok.inj _ _ _ e hc▸hi))
  ·by_cases hcc:c'=c
   ·subst hcc;exact ⟨_,hc'⟩
   ·obtain ⟨w2,z2⟩:=I.cell y c' e;exact ⟨w2,z2.sameBut hs hcc⟩
  ·obtain ⟨e,n,ne,nf,d⟩:=I.pin p hp;refine ⟨(hs.2 p.1 ?_).trans e,n,ne,nf,d⟩;intro q;rw [q,hoc]at e;have q':oc=p.2:=A0 e;exact d w' (by rw [<- q'];exact hocd)
theorem ef {M:Model} {A:Around} {E:Value->Shared->Prop} {i:Nat} {x:Str} {v:V} {u:Value} {Q:Unit->Shared->Prop} (I:Inv X pins σ H s) (hN:X.N.Nodup) (hi:X.N[i]? =some x) (hx:Loc X.env.scope x) (r:RelV v u)
  (h: ∀ s',Inv X pins (σ.set i (some v)) H s'->Q () s') (hf:X.fn x=true\/X.env.scope.names.lookup x=some .local:=by first | exact .inl rfl | exact .inr rfl | assumption):wpAny M A (storeName X.env x u) Q E s:=
 ee I hN hi hx r (λs' I' _=>h s' I') hf
theorem Inv.call' {s':Shared} {ch:List Addr} (I:Inv X pins σ H s) (ho:s'.os=s.os) (u:Un (frs X.stack) ch H H' s.heap s'.heap) (hok:HOk X.prog X.w H' s'.heap) (hg:AllBare s'.gens)
  (hch: ∀ b∈ch,(b∈X.ex\/X.s₀.heap.objs.size<=b)/\b≠X.env.locals/\(∀ x c,X.env.cells.lookup x=some c->c≠b)/\ ∀ p∈X.pn++pins,p.1≠b):Inv X pins σ H' s':=by
 obtain ⟨h',g',d',t',o'⟩:=s';have e:o'=s.os:=ho;subst e;exact I.call (g':=g') (t':=t') (d':=d') u hok hg hch
end
abbrev XK:=Value->Option Addr->Hp->Prop
abbrev St:=List (Option V)
abbrev VK:=V->Hp->Prop
abbrev TE:=St->Hp->VK->Prop
abbrev TT:=St->Hp->(Bool->Hp->Prop)->Prop
abbrev TA:=St->Hp->(List V->Hp->Prop)->Prop
structure dW where
 nx:St->Hp->Prop
 rt:VK
 bk:St->Hp->Prop:=λ_ _=>False
 ct:St->Hp->Prop:=λ_ _=>False
abbrev TS:=dW->St->Hp->Prop
inductive EP (X:Cx) (pins:List (Addr×Obj)) (σ:St) (Q:VK) (u:Value) (s':Shared):Prop
 | mk: ∀ v H',(Inv X pins σ H' s')->(RelV v u)->(Q v H')->EP X pins σ Q u s'
def TP (X:Cx) (pins:List (Addr×Obj)) (σ:St) (Q:Bool->Hp->Prop) (b:Bool) (s':Shared):Prop:= ∃ H',Inv X pins σ H' s'/\Q b H'
inductive AP (X:Cx) (pins:List (Addr×Obj)) (σ:St) (Q:List V->Hp->Prop) (us:List Value) (s':Shared):Prop
 | mk: ∀ vs H',(Inv X pins σ H' s')->(Vals vs us)->(Q vs H')->AP X pins σ Q us s'
def SP (X:Cx) (pins:List (Addr×Obj)) (D:dW) (f:Flow) (s':Shared):Prop:=
 match f with
 | .next=> ∃ σ' H',Inv X pins σ' H' s'/\D.nx σ' H'
 | .brk=> ∃ σ' H',Inv X pins σ' H' s'/\D.bk σ' H'
 | .cont=> ∃ σ' H',Inv X pins σ' H' s'/\D.ct σ' H'
 | .ret u=> ∃ v σ' H',Inv X pins σ' H' s'/\RelV v u/\D.rt v H'
def PE (X:Cx) (e:Expr) (t:TE):Prop:=
 ∀ (pins:List (Addr×Obj)) (s:Shared) (σ:St) (H:Hp) (Q:VK),Inv X pins σ H s->t σ H Q->wpAny (model X.prog X.w) X.A (eval e X.env) (EP X pins σ Q) X.xe s
def PT (X:Cx) (e:Expr) (t:TT):Prop:=
 ∀ (pins:List (Addr×Obj)) (s:Shared) (σ:St) (H:Hp) (Q:Bool->Hp->Prop),Inv X pins σ H s->t σ H Q->wpAny (model X.prog X.w) X.A (isTrue e X.env (eval e X.env)) (TP X pins σ Q) X.xe s
def PW (X:Cx) (e:Expr) (t:TT):Prop:=
 ∀ (whole:Sem Value) (pins:List (Addr×Obj)) (s:Shared) (σ:St) (H:Hp) (Q:Bool->Hp->Prop),Inv X pins σ H s->t σ H Q->wpAny (model X.prog X.w) X.A (isTrue e X.env whole) (TP X pins σ Q) X.xe s
theorem PW.pt {X:Cx} {e:Expr} {t:TT} (h:PW X e t):PT X e t:=h _
def PA (X:Cx) (es:List Expr) (t:TA):Prop:=
 ∀ (pos:Pos) (pins:List (Addr×Obj)) (s:Shared) (σ:St) (H:Hp) (Q:List V->Hp->Prop),Inv X pins σ H s->t σ H Q->wpAny (model X.prog X.w) X.A (spliced (backTo pos (starEach es X.env))) (AP X pins σ Q) X.xe s
def PS (X:Cx) (st:Stmt) (t:TS):Prop:=
 ∀ (pins:List (Addr×Obj)) (s:Shared) (σ:St) (H:Hp) (D:dW),Inv X pins σ H s->t D σ H->wpAny (model X.prog X.w) X.A (exec st X.env) (SP X pins D) X.xe s
def PSs (X:Cx) (st:List Stmt) (t:TS):Prop:=
 ∀ (pins:List (Addr×Obj)) (s:Shared) (σ:St) (H:Hp) (D:dW),Inv X pins σ H s->t D σ H->wpAny (model X.prog X.w) X.A (execs st X.env) (SP X pins D) X.xe s
theorem thn {α:Type} {t:Sem α} {Q Q':α->Shared->Prop} {M:Model} {A:Around} {E:Value->Shared->Prop} {s:Shared} (h:wpAny M A t Q E s) (hQ: ∀ a s,Q a s->Q' a s):wpAny M A t Q' E s:=BS h hQ λ_ _ x=>x
section
variable {X:Cx}
inductive tD (i:Nat) (σ:St) (H:Hp) (Q:VK):Prop
 | mk: ∀ v,(σ[i]? =some (some v))->(Q v H)->tD i σ H Q
def tC (v:V):TE:=λ_ H Q=>Q v H
theorem uk {i:Nat} {x:Str} {pos:Pos} (hN:X.N[i]? =some x) (hv:Vis X.env.scope x) (hd:(x==("__debug__":Str))=false:=by decide) (hcd:(x==("__classdict__":Str))=false:=by decide):PE X (.Name x pos) (tD i):=by
 intro pins s σ H Q I h;obtain ⟨v,e,h⟩:=h;obtain ⟨m,hn,hl⟩:=I.loc;obtain ⟨u,r,l⟩:=hl i x v hN e hv;have fin:EP X pins σ Q u s:=⟨v,H,I,r,h⟩;rcases l with ⟨hk,hm⟩ | ⟨hk,c,hc,hcell⟩
 ·exact wpAny_Name (wpAny_loadName_local I.ok.kind hk hn hm fin) hd
 ·rcases hk with hk | hk
  ·exact wpAny_Name (wpAny_loadName_cell I.ok.kind hk hc hcell fin) hd
  ·exact wpAny_Name (wpAny_loadName_free I.ok.kind hk hc hcell fin hcd) hd
theorem ag {i j pos}:PE X (.Constant (.int i) j pos) (tC (.int i)):=λ_ _ _ H _ I h=>wpAny_Constant_int ⟨.int i,H,I.tok _,⟨_,rfl⟩,h⟩
theorem gY {b j pos}:PE X (.Constant (.bool b) j pos) (tC (.bl b)):=λ_ _ _ H _ I h=>Constant_bool ⟨.bl b,H,I,rfl,h⟩
theorem eS {j pos}:PE X (.Constant .none j pos) (tC .non):=λ_ _ _ H _ I h=>Constant_none ⟨.non,H,I,rfl,h⟩
theorem aJ {x j pos}:PE X (.Constant (.str x) j pos) (tC (.str x)):=λ_ _ _ H _ I h=>Calls.Constant_str ⟨.str x,H,I.tok _,⟨_,rfl⟩,h⟩
def Gl (X:Cx) (x:Str):Prop:=X.env.kindOf x=some .globalImplicit
theorem dR {E:Value->Shared->Prop} {pins:List (Addr×Obj)} {s:Shared} {σ:St} {H:Hp} {x:Str} {u:Value} {pos:Pos} {Q:Value->Shared->Prop} (I:Inv X pins σ H s) (hg:Gl X x) (hm:X.mg x=some u) (h:Q u s)
  (hd:(x==("__debug__":Str))=false:=by decide):wpAny (model X.prog X.w) X.A (eval (.Name x pos) X.env) Q E s:=
 Calls.Name_function_global I.ok.kind hg (Calls.loadGlobal_global (by rw [I.ok.glob];exact I.mod.glob.keeps I.bk) hm h) hd
theorem gH {E:Value->Shared->Prop} {pins:List (Addr×Obj)} {s:Shared} {σ:St} {H:Hp} {x:Str} {u:Value} {pos:Pos} {Q:Value->Shared->Prop} (I:Inv X pins σ H s) (hg:Gl X x) (hm:X.mg x=none) (hv:bootBuiltins x=some u) (h:Q u s)
  (hn:x≠"__name__":=by decide) (hd:(x==("__debug__":Str))=false:=by decide):wpAny (model X.prog X.w) X.A (eval (.Name x pos) X.env) Q E s:=by
 obtain ⟨mb,h1,h2⟩:=I.mod.blt;exact Calls.Name_function_global I.ok.kind hg (Calls.loadGlobal_builtin (by rw [I.ok.glob];exact I.mod.glob.keeps I.bk) hm (by rw [I.ok.blt];exact h1.keeps I.bk) ((h2 x hn).trans hv) h) hd
theorem bh {x:Str} {v:V} {u:Value} {pos:Pos} (hg:Gl X x) (hm:X.mg x=some u) (r:RelV v u) (hd:(x==("__debug__":Str))=false:=by decide):PE X (.Name x pos) (tC v):=
 λ_ _ _ H _ I h=>dR I hg hm ⟨v,H,I,r,h⟩ hd
theorem fU {x:Str} {v:V} {u:Value} {pos:Pos} (hg:Gl X x) (hm:X.mg x=none) (hv:bootBuiltins x=some u) (r:RelV v u) (hn:x≠"__name__":=by decide) (hd:(x==("__debug__":Str))=false:=by decide):PE X (.Name x pos) (tC v):=
 λ_ _ _ H _ I h=>gH I hg hm hv ⟨v,H,I,r,h⟩ hn hd
variable {a b:Expr} {ta tb:TE} {pos:Pos}
def PC (X:Cx) (op:CmpOp) (a b:Expr) (t:TE):Prop:=
 ∀ (pins:List (Addr×Obj)) (s:Shared) (σ:St) (H:Hp) (Q:VK),Inv X pins σ H s->t σ H Q->
  wpAny (model X.prog X.w) X.A (eval a X.env) (λv s₁=>wpAny (model X.prog X.w) X.A (eval b X.env) (λu s₂=>wpAny (model X.prog X.w) X.A (compareOp op v u) (EP X pins σ Q) X.xe s₂) X.xe s₁) X.xe s
inductive rBl  (x:V) (H1:Hp) (Q:(Bool->Hp->Prop)):Prop
 | mk: ∀ c,(x=.bl c)->(Q c H1)->rBl x H1 Q
def tB (t:TE):TT:=λσ H Q=>t σ H λx H1=>rBl x H1 Q
theorem lI {op:CmpOp} {t:TE} (h:PC X op a b t) (h1:behindInMarks op b=false:=by first | exact nobehind _ (by decide) (by decide) | rfl):PT X (.Compare a [op] [b] pos) (tB t):=by
 intro pins s σ H Q I hw;refine wpAny_isTrue_Compare1 (thn (h pins s σ H _ I hw) λv s1 h1=>thn h1 λu s2 h2=>thn h2 λc s3 ⟨x,H1,I1,r1,q1⟩=>?_) h1;obtain ⟨d,rfl,q⟩:=q1;cases r1;exact Ch ⟨H1,I1,q⟩
theorem cR {e:Expr} {t:TE} (h:PE X e t) (he: ∀ whole,isTrue e X.env whole=(do let v <- whole;standAt e.pos;holding [v] (truthy v)):=by intro _;rfl):PT X e (tB t):=by
 intro pins s σ H Q I hw;refine isTrue_plain (thn (h pins s σ H _ I hw) λv s1 ⟨x,H1,I1,r1,q1⟩=>?_) (he _);obtain ⟨d,rfl,q⟩:=q1;cases r1;exact Ch ⟨H1,I1,q⟩
variable {tA tB':TT} {rest:List Expr}
def zZ (t u:TT):TT:=λσ H Q=>t σ H λc H1=>if c=true then u σ H1 Q else Q false H1
def tOr (t u:TT):TT:=λσ H Q=>t σ H λc H1=>if c=true then Q true H1 else u σ H1 Q
def zU (t:TT):TT:=λσ H Q=>t σ H λc H1=>Q (!c) H1
theorem dM (ha:PT X a tA):PW X (.BoolOp .And [a] pos) tA:=by
 intro wh pins s σ H Q I h;refine isTrue_and (thn (ha pins s σ H Q I h) λc s1 e=>?_);cases c with
 | true=>exact isTrue_and_nil e
 | false=>exact e
theorem oG (ha:PT X a tA):PW X (.BoolOp .Or [a] pos) tA:=by
 intro wh pins s σ H Q I h;refine isTrue_or (thn (ha pins s σ H Q I h) λc s1 e=>?_);cases c with
 | false=>exact isTrue_or_nil e
 | true=>exact e
theorem fE (ha:PT X a tA) (hb:PW X (.BoolOp .And (b::rest) pos) tB'):PW X (.BoolOp .And (a::b::rest) pos) (zZ tA tB'):=by
 intro wh pins s σ H Q I h;refine isTrue_and (thn (ha pins s σ H _ I h) λc s1 ⟨H1,I1,q1⟩=>?_);cases c with
 | true=>exact hb wh pins s1 σ H1 Q I1 q1
 | false=>exact ⟨H1,I1,q1⟩
theorem qf (ha:PT X a tA) (hb:PW X (.BoolOp .Or (b::rest) pos) tB'):PW X (.BoolOp .Or (a::b::rest) pos) (tOr tA tB'):=by
 intro wh pins s σ H Q I h;refine isTrue_or (thn (ha pins s σ H _ I h) λc s1 ⟨H1,I1,q1⟩=>?_);cases c with
 | true=>exact ⟨H1,I1,q1⟩
 | false=>exact hb wh pins s1 σ H1 Q I1 q1
theorem jp (ha:PT X a tA):PT X (.UnaryOp .Not a pos) (zU tA):=by
 intro pins s σ H Q I h;exact isTrue_not (ha pins s σ H (λc H1=>Q (!c) H1) I h)
def yU (ta tb:TE):TE:=λσ H Q=>ta σ H λx H1=> ∃ c,x=.bl c/\if c=true then tb σ H1 Q else Q (.bl false) H1
def zT (ta tb:TE):TE:=λσ H Q=>ta σ H λx H1=> ∃ c,x=.bl c/\if c=true then Q (.bl true) H1 else tb σ H1 Q
theorem um {op} {t:TE} (h:PE X a t):PE X (.BoolOp op [a] pos) t:=λpins s σ H Q I hw=>BoolOp_one (h pins s σ H Q I hw)
theorem xT (ha:PE X a ta) (hb:PE X (.BoolOp .And (b::rest) pos) tb):PE X (.BoolOp .And (a::b::rest) pos) (yU ta tb):=by
 intro pins s σ H Q I h;refine BoolOp_and (thn (ha pins s σ H _ I h) λv s1 ⟨x,H1,I1,r1,q1⟩=>?_);obtain ⟨c,rfl,q1⟩:=q1;cases r1;refine Ch ?_;cases c with
 | true=>exact hb pins s1 σ H1 Q I1 q1
 | false=>exact ⟨.bl false,H1,I1,rfl,q1⟩
theorem zi (ha:PE X a ta) (hb:PE X (.BoolOp .Or (b::rest) pos) tb):PE X (.BoolOp .Or (a::b::rest) pos) (zT ta tb):=by
 intro pins s σ H Q I h;refine BoolOp_or (thn (ha pins s σ H _ I h) λv s1 ⟨x,H1,I1,r1,q1⟩=>?_);obtain ⟨c,rfl,q1⟩:=q1;cases r1;refine Ch ?_;cases c with
 | false=>exact hb pins s1 σ H1 Q I1 q1
 | true=>exact ⟨.bl true,H1,I1,rfl,q1⟩
def tIf (t:TT) (ta tb:TE):TE:=λσ H Q=>t σ H λc H1=>if c=true then ta σ H1 Q else tb σ H1 Q
theorem fF {c:Expr} (hc:PT X c tA) (ha:PE X a ta) (hb:PE X b tb):PE X (.IfExp c a b pos) (tIf tA ta tb):=by
 intro pins s σ H Q I h;refine wpAny_IfExp (thn (hc pins s σ H _ I h) λd s1 ⟨H1,I1,q1⟩=>?_);cases d with
 | true=>exact ha pins s1 σ H1 Q I1 q1
 | false=>exact hb pins s1 σ H1 Q I1 q1
end
def SqL (K:W.Frag) (H:Hp) (a:Addr) (xs:List V):Prop:=
 Rd H a (.lst xs)\/
  ∃ (o:Obj) (its:Array Value) (n:Nat),K.lookup a=some o/\o.cls=.type "list"/\o.dict=none/\o.data=.seq its n/\its.size<=sizeLine/\Vals xs its.toList
def SqT (K:W.Frag) (H:Hp) (a:Addr) (xs:List V):Prop:=
 Rd H a (.tup xs)\/
  ∃ (o:Obj) (its:Array Value) (n:Nat),K.lookup a=some o/\o.cls=.type "tuple"/\o.data=.seq its n/\its.size<=sizeLine/\Vals xs its.toList
noncomputable def Aq:Value->Option V
 | .none=>some .non
 | .bool b=>some (.bl b)
 | .int i _=>some (.int i)
 | .str x _=>some (.str x)
 | .bytes b _=>some (.byt b)
 | .float b _=>some (.flt b)
 | .ref a=>some (.ref a)
 | .type n=>some (.ty n)
 | _=>none
theorem RelV.abs {x:V} {u:Value} (r:RelV x u):Aq u=some x:=by
 cases x with
 | non=>cases r;rfl
 | bl _=>cases r;rfl
 | int _=>obtain ⟨t,rfl⟩:=r;rfl
 | str _=>obtain ⟨t,rfl⟩:=r;rfl
 | byt _=>obtain ⟨t,rfl⟩:=r;rfl
 | flt _=>obtain ⟨t,rfl⟩:=r;rfl
 | ref _=>cases r;rfl
 | ty _=>cases r;rfl
theorem RelV.inj {x y:V} {u:Value} (r:RelV x u) (q:RelV y u):x=y:=A0 (r.abs.symm.trans q.abs)
theorem Vals.inj: ∀ {xs ys:List V} {us:List Value},Vals xs us->Vals ys us->xs=ys
 | _,_,_,.nil,.nil=>rfl
 | _,_,_,.cons r t,.cons r' t'=>by rw [r.inj r',Vals.inj t t']
section
variable {X:Cx} {pins:List (Addr×Obj)} {σ:St} {H:Hp} {s:Shared} {a:Addr} {xs ys:List V}
theorem SqL.of {K:W.Frag} (h:H a=some (.lst xs)):SqL K H a xs:=.inl (.inl h)
theorem SqT.of {K:W.Frag} (h:H a=some (.tup xs)):SqT K H a xs:=.inl (.inl h)
theorem Inv.list (I:Inv X pins σ H s) (h:SqL X.K H a xs): ∃ its:List Value,Vals xs its/\PlainL s.heap a its.toArray/\xs.length<=sizeLine:=by
 rcases h with h | ⟨o,its,n,hk,hc,hd,hs,hz,r⟩
 ·obtain ⟨z,its,n,r,e⟩:=h.ok I.hok;exact ⟨its,r,⟨_,n,e,rfl,rfl,rfl⟩,z⟩
 ·refine ⟨its.toList,r,⟨o,n,I.kIn a o hk,hc,hd,by simpa using hs⟩,?_⟩;have e:=r.length;simp only [BE]at e;lia
theorem Inv.tuple (I:Inv X pins σ H s) (h:SqT X.K H a xs): ∃ its:List Value,Vals xs its/\IsTup s.heap a its.toArray/\xs.length<=sizeLine:=by
 rcases h with h | ⟨o,its,n,hk,hc,hs,hz,r⟩
 ·obtain ⟨z,its,r,p⟩:=h.ok I.hok;exact ⟨its,r,p,z⟩
 ·refine ⟨its.toList,r,⟨o,I.kIn a o hk,hc,n,by simpa using hs⟩,?_⟩;have e:=r.length;simp only [BE]at e;lia
theorem Inv.list_inj (I:Inv X pins σ H s) (h:SqL X.K H a xs) (h':SqL X.K H a ys):xs=ys:=by
 obtain ⟨its,r,⟨o,n,e,_,_,d⟩,_⟩:=I.list h;obtain ⟨its',r',⟨o',n',e',_,_,d'⟩,_⟩:=I.list h';rw [e]at e';cases e';rw [d]at d';injection d' with d1 _
 have:its=its':=by simpa using congrArg Array.toList d1
 subst this;exact r.inj r'
theorem Inv.tuple_inj (I:Inv X pins σ H s) (h:SqT X.K H a xs) (h':SqT X.K H a ys):xs=ys:=by
 obtain ⟨its,r,⟨o,e,_,n,d⟩,_⟩:=I.tuple h;obtain ⟨its',r',⟨o',e',_,n',d'⟩,_⟩:=I.tuple h';rw [e]at e';cases e';rw [d]at d';injection d' with d1 _
 have:its=its':=by simpa using congrArg Array.toList d1
 subst this;exact r.inj r'
end
noncomputable abbrev Cx.wish (X:Cx) (E:Value->Shared->Prop):Cx:={X with xe:=E}
noncomputable abbrev Cx.nox (X:Cx):Cx:=X.wish λ_ _=>False
theorem Cx.Ok.wish {X:Cx} (ok:X.Ok) (E:Value->Shared->Prop):(X.wish E).Ok:=
 ⟨ok.mod,ok.kind,ok.glob,ok.blt,ok.above,ok.inj,ok.has,ok.cab,ok.hd,ok.frames,ok.stk,ok.exf,ok.bs,ok.bsz,ok.noex,ok.exfs,ok.funs,ok.frf⟩
theorem Cx.Ok.unwish {X:Cx} {E:Value->Shared->Prop} (ok:(X.wish E).Ok):X.Ok:=
 ⟨ok.mod,ok.kind,ok.glob,ok.blt,ok.above,ok.inj,ok.has,ok.cab,ok.hd,ok.frames,ok.stk,ok.exf,ok.bs,ok.bsz,ok.noex,ok.exfs,ok.funs,ok.frf⟩
section
variable {X:Cx} {pins:List (Addr×Obj)} {σ:St} {H:Hp} {s:Shared} {E:Value->Shared->Prop}
theorem Inv.wish (I:Inv X pins σ H s) (E:Value->Shared->Prop):Inv (X.wish E) pins σ H s:=⟨I.ok.wish E,I.os,I.bare,I.base,I.loc,I.cell,I.free,I.freeC,I.pin,I.hok,I.len⟩
theorem Inv.unwish (I:Inv (X.wish E) pins σ H s):Inv X pins σ H s:=⟨I.ok.unwish,I.os,I.bare,I.base,I.loc,I.cell,I.free,I.freeC,I.pin,I.hok,I.len⟩
theorem SP.unwish {D:dW} {f:Flow} {s':Shared} (h:SP (X.wish E) pins D f s'):SP X pins D f s':=by
 cases f with
 | next=>obtain ⟨σ',H',I,q⟩:=h;exact ⟨σ',H',I.unwish,q⟩
 | brk=>obtain ⟨σ',H',I,q⟩:=h;exact ⟨σ',H',I.unwish,q⟩
 | cont=>obtain ⟨σ',H',I,q⟩:=h;exact ⟨σ',H',I.unwish,q⟩
 | ret u=>obtain ⟨v,σ',H',I,r,q⟩:=h;exact ⟨v,σ',H',I.unwish,r,q⟩
theorem PSs.nox {st:List Stmt} {t:TS} (h:PSs X.nox st t):PSs X st t:=λpins s σ H D I hw=>
 BS (h pins s σ H D (I.wish _) hw) (λ_ _ q=>q.unwish) λ_ _ z=>False.elim z
end
section
variable {X:Cx} {st:Stmt} {rest:List Stmt} {t u:TS} {e:Expr} {te:TE} {pos:Pos}
def xf:TS:=λD σ H=>D.nx σ H
def xx (t u:TS):TS:=λD σ H=>t {D with nx:=u D} σ H
theorem aK:PSs X [] xf:=λ_ _ σ H _ I h=>Dn ⟨σ,H,I,h⟩
theorem af (h1:PS X st t) (h2:PSs X rest u):PSs X (st::rest) (xx t u):=by
 intro pins s σ H D I h;refine Fo (thn (h1 pins s σ H {D with nx:=u D} I h) λf s1 q=>?_);cases f with
 | next=>
  obtain ⟨σ',H',I',q⟩:=q;exact h2 pins s1 σ' H' D I' q
 | ret v=>exact q
 | brk=>exact q
 | cont=>exact q
theorem aj (h1:PS X st t):PSs X [st] t:=by
 intro pins s σ H D I h;refine Fo (thn (h1 pins s σ H D I h) λf s1 q=>?_);cases f with
 | next=>exact Dn q
 | ret v=>exact q
 | brk=>exact q
 | cont=>exact q
theorem Inv.quiet {pins:List (Addr×Obj)} {σ:St} {H:Hp} {s:Shared} (I:Inv X pins σ H s):interactive X.env=false:=by simp [interactive,I.ok.kind]
def yQ (te:TE):TS:=λD σ H=>te σ H λ_ H1=>D.nx σ H1
theorem bC (he:PE X e te) (hs:swapsWith e none pos.line X.env=pure false:=by rfl):PS X (.Expr e pos) (yQ te):=by
 intro pins s σ H D I h;exact wpAny_Expr_any (thn (he pins s σ H _ I h) λv s1 ⟨x,H1,I1,r1,q1⟩=>⟨σ,H1,I1,q1⟩) I.quiet hs
def zS (te:TE):TS:=λD σ H=>te σ H D.rt
theorem ay (he:PE X e te):PS X (.Return (some e) pos) (zS te):=by
 intro pins s σ H D I h;exact wpAny_Return_some (thn (he pins s σ H _ I h) λv s1 ⟨x,H1,I1,r1,q1⟩=>⟨x,σ,H1,I1,r1,q1⟩)
def zW (c:TT) (t u:TS):TS:=λD σ H=>c σ H λb H1=>if b=true then t D σ H1 else u D σ H1
theorem bc {c:Expr} {a b:List Stmt} {tc:TT} (hc:PT X c tc) (ha:PSs X a t) (hb:PSs X b u):PS X (.If c a b pos) (zW tc t u):=by
 intro pins s σ H D I h;refine wpAny_If (thn (hc pins s σ H _ I h) λd s1 ⟨H1,I1,q1⟩=>?_);cases d with
 | true=>exact ha pins s1 σ H1 D I1 q1
 | false=>exact hb pins s1 σ H1 D I1 q1
def xz:TS:=λ_ _ _=>False
theorem dy {sts:List Stmt}:PSs X sts xz:=λ_ _ _ _ _ _ h=>h.elim
end
abbrev TG:=V->St->Hp->(St->Hp->Prop)->Prop
abbrev TGs:=List V->St->Hp->(St->Hp->Prop)->Prop
def PG (X:Cx) (target:Expr) (t:TG):Prop:=
 ∀ (pins:List (Addr×Obj)) (s:Shared) (σ:St) (H:Hp) (v:V) (u:Value) (Q:St->Hp->Prop),Inv X pins σ H s->RelV v u->t v σ H Q->
  wpAny (model X.prog X.w) X.A (assign target X.env u) (λ_ s'=> ∃ σ' H',Inv X pins σ' H' s'/\Q σ' H') X.xe s
def PGs (X:Cx) (ts:List Expr) (t:TGs):Prop:=
 ∀ (pins:List (Addr×Obj)) (s:Shared) (σ:St) (H:Hp) (vs:List V) (us:List Value) (Q:St->Hp->Prop),Inv X pins σ H s->Vals vs us->t vs σ H Q->
  wpAny (model X.prog X.w) X.A (assignInOrder ((assignEach ts X.env).map (·.2)) us) (λ_ s'=> ∃ σ' H',Inv X pins σ' H' s'/\Q σ' H') X.xe s
abbrev yF:=V->V->V->Hp->(Hp->Prop)->Prop
def zM (X:Cx) (t:yF):Prop:=
 ∀ (pins:List (Addr×Obj)) (s:Shared) (σ:St) (H:Hp) (o i v:V) (ov iv u:Value) (Q:Hp->Prop),Inv X pins σ H s->RelV o ov->RelV i iv->RelV v u->t o i v H Q->
  wpAny (model X.prog X.w) X.A (setItem ov iv u) (λ_ s'=> ∃ H',Inv X pins σ H' s'/\Q H') X.xe s
abbrev TIp:=V->V->Hp->VK->Prop
def PIp (X:Cx) (op:Operator) (t:TIp):Prop:=
 ∀ (pins:List (Addr×Obj)) (s:Shared) (σ:St) (H:Hp) (x y:V) (v u:Value) (Q:VK),Inv X pins σ H s->RelV x v->RelV y u->t x y H Q->
  wpAny (model X.prog X.w) X.A (inplaceOp op v u) (EP X pins σ Q) X.xe s
section
variable {X:Cx} {pos:Pos}
noncomputable def dF (i:Nat):TG:=λv σ H Q=>Q (σ.set i (some v)) H
theorem eR {i:Nat} {x:Str} (hN:X.N.Nodup) (hi:X.N[i]? =some x) (hx:Loc X.env.scope x) (hf:X.fn x=true\/X.env.scope.names.lookup x=some .local:=by first | exact .inl rfl | exact .inr rfl | assumption):PG X (.Name x pos) (dF i):=by
 intro pins s σ H v u Q I r h;exact Dv (ef I hN hi hx r (λs' I'=>⟨_,H,I',h⟩) hf)
noncomputable def zF:TGs:=λvs σ H Q=>vs=[]/\Q σ H
inductive qt (t:TG) (u:TGs) (vs:List V) (σ:St) (H:Hp) (Q:(St->Hp->Prop)):Prop
 | mk: ∀ v r,(vs=v::r)->(t v σ H λσ' H'=>u r σ' H' Q)->qt t u vs σ H Q
theorem ce:PGs X [] zF:=by
 intro pins s σ H vs us Q I r h;obtain ⟨e,h⟩:=h;subst e;cases r;exact assignInOrder_nil ⟨σ,H,I,h⟩
theorem aM {e:Expr} {es:List Expr} {t:TG} {u:TGs} (h1:PG X e t) (h2:PGs X es u)
  (hs:(assignEach (e::es) X.env).map (·.2)=assign e X.env::(assignEach es X.env).map (·.2):=by rfl):PGs X (e::es) (qt t u):=by
 intro pins s σ H vs us Q I r h;obtain ⟨v,vr,e1,h⟩:=h;subst e1;cases r with
 | cons r rr=>
  rw [hs];refine assignInOrder_cons (thn (h1 pins s σ H _ _ _ I r h) λ_ s1 ⟨σ1,H1,I1,q1⟩=>?_);exact h2 pins s1 σ1 H1 _ _ Q I1 rr q1
inductive yr (K:W.Frag) (n:Nat) (t:TGs) (v:V) (σ:St) (H:Hp) (Q:(St->Hp->Prop)):Prop
 | mk: ∀ a xs,(v=.ref a)->(SqT K H a xs)->(xs.length=n)->(t xs σ H Q)->yr K n t v σ H Q
theorem cT {es:List Expr} {k:Nat} {t:TGs} {n:Nat} (hc:X.calm=true) (h:PGs X es t)
  (hn:(assignEach es X.env).length=n:=by rfl) (hst:(assignEach es X.env).findIdx? (·.1)=none:=by rfl):PG X (.Tuple es k pos) (yr X.K n t):=by
 intro pins s σ H v u Q I r hw;obtain ⟨a,xs,e1,hq,hl,hw⟩:=hw;subst e1;cases r;obtain ⟨its,rv,ht,hz⟩:=I.tuple hq;refine assign_Tuple_tuple (I.ok.hd hc) ht (by simp [hn,<- hl,rv.length]) hst λh' hx=>?_;have I1:Inv X pins σ H {s with heap:=h'}:=I.kept (t':=s.toks) λb o e=>hx b o (Bf (AN e)) e;exact h pins _ σ H xs _ Q I1 (by simpa using rv) hw
noncomputable def Ao (to ti:TE) (t:yF):TG:=λv σ H Q=>to σ H λo H1=>ti σ H1 λi H2=>t o i v H2 λH3=>Q σ H3
theorem xS {o i:Expr} {to ti:TE} {t:yF} (ho:PE X o to) (hi:PE X i ti) (hs:zM X t)
  (ha: ∀ v,assign (.Subscript o i pos) X.env v=(do
   let ov <- holding [v] (eval o X.env);let iv <- holding [v,ov] (eval i X.env)
   standAt pos
   holding [v,ov,iv] (setItem ov iv v)
   release [v,ov,iv] []):=by intro _;rfl):PG X (.Subscript o i pos) (Ao to ti t):=by
 intro pins s σ H v u Q I r h;rw [ha];refine AA (BF (thn (ho pins s σ H _ I h) λov s1 ⟨x,H1,I1,r1,q1⟩=>?_));refine AA (BF (thn (hi pins s1 σ H1 _ I1 q1) λiv s2 ⟨y,H2,I2,r2,q2⟩=>?_));refine AA (CO (AA (BF (thn (hs pins s2 σ H2 x y v ov iv u _ I2 r1 r2 r q2) λ_ s3 ⟨H3,I3,q3⟩=>?_))));exact wpAny_release ⟨σ,H3,I3,q3⟩
def jR (te:TE) (g:TG):TS:=λD σ H=>te σ H λx H1=>g x σ H1 D.nx
theorem ui {tg e:Expr} {te:TE} {g:TG} (he:PE X e te) (hg:PG X tg g) (hs:swapsWithSole [tg] e pos.line X.env=pure false:=by rfl) (hw:swappedStores [tg] e X.env=pure none:=by rfl)
  (h1:(assignEach [tg] X.env).map (·.2)=[assign tg X.env]:=by rfl):PS X (.Assign [tg] e pos) (jR te g):=by
 intro pins s σ H D I h;refine wpAny_Assign_stores (thn (he pins s σ H _ I h) λv s1 ⟨x,H1,I1,r1,q1⟩=>?_) hs hw;rw [h1];exact thn (hg pins s1 σ H1 x v _ I1 r1 q1) λ_ s2 q=>q
theorem de {i:Nat} {x:Str} {e:Expr} {te:TE} {pos':Pos} (hN:X.N.Nodup) (hi:X.N[i]? =some x) (hx:Loc X.env.scope x) (he:PE X e te) (hs:swapsWith e (some (.Name x pos')) pos.line X.env=pure false:=by rfl) (hf:X.fn x=true\/X.env.scope.names.lookup x=some .local:=by first | exact .inl rfl | exact .inr rfl | assumption):
  PS X (.Assign [.Name x pos'] e pos) (jR te (dF i)):=by
 intro pins s σ H D I h;refine wpAny_Assign_Name (thn (he pins s σ H _ I h) λv s1 ⟨y,H1,I1,r1,q1⟩=>?_) hs;exact ef I1 hN hi hx r1 (λs2 I2=>⟨_,H1,I2,q1⟩) hf
inductive yT (i:Nat) (te:TE) (ti:TIp) (D:dW) (σ:St) (H:Hp):Prop
 | mk: ∀ x,(σ[i]? =some (some x))->(te σ H λy H1=>ti x y H1 λz H2=>D.nx (σ.set i (some z)) H2)->yT i te ti D σ H
theorem uh {i:Nat} {x:Str} {e:Expr} {te:TE} {op:Operator} {ti:TIp} {pos':Pos} (hN:X.N.Nodup) (hi:X.N[i]? =some x) (hx:Loc X.env.scope x) (he:PE X e te) (ho:PIp X op ti) (hf:X.fn x=true\/X.env.scope.names.lookup x=some .local:=by first | exact .inl rfl | exact .inr rfl | assumption):
  PS X (.AugAssign (.Name x pos') op e pos) (yT i te ti):=by
 intro pins s σ H D I h;obtain ⟨v,e1,h⟩:=h;obtain ⟨m,hn,hl⟩:=I.loc;have vis:Vis X.env.scope x:=by rcases hx with k | k;exact .inl k;exact .inr (.inl k)
 obtain ⟨u,r,l⟩:=hl i x v hi e1 vis;refine wpAny_AugAssign_Name ?_;have go:wpAny (model X.prog X.w) X.A (eval e X.env) (λw s₂=>wpAny (model X.prog X.w) X.A (inplaceOp op u w) (λr s₃=>wpAny (model X.prog X.w) X.A (storeName X.env x r) (λ_=>SP X pins D .next) X.xe s₃) X.xe s₂) X.xe s:=by
  refine thn (he pins s σ H _ I h) λw s1 ⟨y,H1,I1,r1,q1⟩=>?_;refine thn (ho pins s1 σ H1 v y u w _ I1 r r1 q1) λz s2 ⟨zv,H2,I2,r2,q2⟩=>?_;exact ef I2 hN hi hx r2 (λs3 I3=>⟨_,H2,I3,q2⟩) hf
 rcases l with ⟨hk,hm⟩ | ⟨hk,c,hc,hcell⟩
 ·exact wpAny_loadName_local I.ok.kind hk hn hm go
 ·rcases hk with hk | hk
  ·exact wpAny_loadName_cell I.ok.kind hk hc hcell go
  ·rcases hx with k | k
   ·have:X.env.scope.names.lookup x=some .free:=hk;rw [k]at this;cases this
   ·have:X.env.scope.names.lookup x=some .free:=hk;rw [k]at this;cases this
inductive ipI (f:Int->Int->Int) (x:V) (y:V) (H:Hp) (Q:VK):Prop
 | mk: ∀ i j,(x=.int i)->(y=.int j)->(Q (.int (f i j)) H)->ipI f x y H Q
theorem u8:PIp X .Add (ipI λi j=>i+j):=by
 intro pins s σ H x y v u Q I r1 r2 h;obtain ⟨i,j,e1,e2,q⟩:=h;subst e1;subst e2;obtain ⟨t,rfl⟩:=r1;obtain ⟨t',rfl⟩:=r2;exact iadd_int ⟨.int _,H,I.tok _,⟨_,rfl⟩,q⟩
end
section
variable {X:Cx} {pos:Pos}
inductive nV (c:TT) (tb:TS) (D:dW) (σ:St) (H:Hp):Prop
 | mk: ∀ (W:Nat->St->Hp->Prop),((∃ m,W m σ H))->(∀ m σ H,W m σ H->c σ H λb H1=>if b=true then ∃ N:St->Hp->Prop,(∀ σ' H',N σ' H'-> ∃ m',m'<m/\W m' σ' H')/\tb {D with nx:=N,ct:=N,bk:=D.nx} σ H1 else D.nx σ H1)->nV c tb D σ H
theorem gW {c:Expr} {body:List Stmt} {tc:TT} {tb:TS} (hp:PassesOwn (model X.prog X.w) X.A X.env X.xe) (hc:PT X c tc) (hb:PSs X body tb):PS X (.While c body [] pos) (nV tc tb):=by
 intro pins s σ H D I h;obtain ⟨W,⟨m0,w0⟩,turn⟩:=h;refine wpAny_While (codeAny_whileLoop (λn s'=> ∃ σ' H',Inv X pins σ' H' s'/\W n σ' H') ?_ m0 ⟨σ,H,I,w0⟩);rintro n s1 ⟨σ1,H1,I1,w1⟩;refine C2 hp (thn (hc pins s1 σ1 H1 _ I1 (turn n σ1 H1 w1)) λb s2 ⟨H2,I2,q2⟩=>?_);cases b with
 | true=>
  obtain ⟨N,hN,q2⟩:=q2;rw [AX rfl];refine C2 hp (thn (hb pins s2 σ1 H2 _ I2 q2) λf s3 q3=>?_);cases f with
  | next=>
   obtain ⟨σ3,H3,I3,n3⟩:=q3;obtain ⟨m',hm,w3⟩:=hN σ3 H3 n3;exact ⟨m',hm,σ3,H3,I3,w3⟩
  | cont=>
   obtain ⟨σ3,H3,I3,n3⟩:=q3;obtain ⟨m',hm,w3⟩:=hN σ3 H3 n3;exact ⟨m',hm,σ3,H3,I3,w3⟩
  | brk=>exact q3
  | ret v=>exact q3
 | false=>
  rw [AQ AR];exact Dn ⟨σ1,H2,I2,q2⟩
end
structure It where
 go:Nat->Hp->Prop
 yld:Nat->Hp->V->Hp->Prop
 stop:Nat->Hp->Prop
def jP (X:Cx) (pins:List (Addr×Obj)) (H:Hp) (b:Addr):Prop:=
 H b=none/\b≠X.env.locals/\b∉X.fs/\(b∈X.ex\/X.s₀.heap.objs.size<=b)/\(∀ x c,X.env.cells.lookup x=some c->c≠b)/\ ∀ p∈X.pn++pins,p.1≠b
theorem Inv.fpOk {X:Cx} {pins:List (Addr×Obj)} {σ:St} {H H':Hp} {s:Shared} {b:Addr} (I:Inv X pins σ H s) (hb:s.heap.objs.size<=b) (hn:H' b=none):jP X pins H' b:=by
 refine ⟨hn,Cz (Bl I.lt hb),I.nofs hb,.inr (Bm I.sz hb),λx c e z=>?_,λp hp z=>?_⟩
 ·obtain ⟨v,q⟩:=I.cell x c e;exact absurd (Bl q.lt (by rw [z];exact hb)) (CN _)
 ·exact absurd (Bl (AN (I.pin p hp).1) (by rw [z];exact hb)) (CN _)
structure jY (P:Program) (w:World) (K:W.Frag) (tg:Expr) (J:It) (fp:List Addr) (it:Addr) (tn:Nat->Heap->Prop):Prop where
 mem:it∈fp
 obj: ∀ i h,tn i h-> ∀ b∈fp,∃ o,h.get? b=some o/\ ∀ v,o.data≠ .cell v
 keep: ∀ i h h',tn i h->(∀ b∈fp,∀ o,h.get? b=some o->h'.get? b=some o)->tn i h'
 item: ∀ (X:Cx),X.prog=P->X.w=w->X.K=K->X.calm=true-> ∀ (i:Nat) (pins:List (Addr×Obj)) (s:Shared) (σ:St) (H:Hp) (E:Value->Shared->Prop),Inv X pins σ H s->(∀ b∈fp,jP X pins H b)->tn i s.heap->J.go i H->
  wpAny (model P w) X.A (pyNext (.ref it)) (λr s1=> ∃ u,r=some u/\
   wpAny (model P w) X.A (letOwnedTupleGo tg (.ref it) u) (λ_ s2=> ∃ x H',Inv X pins σ H' s2/\RelV x u/\J.yld i H x H'/\tn (i+1) s2.heap/\ ∀ b∈fp,H' b=none) E s1) E s
 done: ∀ (X:Cx),X.prog=P->X.w=w->X.K=K->X.calm=true-> ∀ (i:Nat) (pins:List (Addr×Obj)) (s:Shared) (σ:St) (H:Hp) (E:Value->Shared->Prop),Inv X pins σ H s->(∀ b∈fp,jP X pins H b)->tn i s.heap->J.stop i H->
  wpAny (model P w) X.A (pyNext (.ref it)) (λr s1=>r=none/\Inv X pins σ H s1) E s
 self: ∀ (A:Around) (i:Nat) (s:Shared) (Q:Value->Shared->Prop) (E:Value->Shared->Prop),tn i s.heap->Q (.ref it) s->wpAny (model P w) A (pyIter (.ref it)) Q E s
abbrev TI:=St->Hp->(It->Hp->Prop)->Prop
inductive PIE (X:Cx) (pins:List (Addr×Obj)) (σ:St) (tg:Expr) (R:It->Hp->Prop) (itv:Value) (s2:Shared):Prop
 | mk: ∀ (it:Addr) (fp:List Addr) (tn:Nat->Heap->Prop) (J:It) (H':Hp),(itv=.ref it)->(Inv X pins σ H' s2)->(jY X.prog X.w X.K tg J fp it tn)->(tn 0 s2.heap)->((∀ b∈fp,jP X pins H' b))->(R J H')->PIE X pins σ tg R itv s2
def PI (X:Cx) (tg iter:Expr) (wi:TI):Prop:=
 ∀ (pins:List (Addr×Obj)) (s:Shared) (σ:St) (H:Hp) (R:It->Hp->Prop),Inv X pins σ H s->wi σ H R->
  wpAny (model X.prog X.w) X.A (eval iter X.env) (λv s1=>wpAny (model X.prog X.w) X.A (pyIter v) (PIE X pins σ tg R) X.xe s1) X.xe s
theorem jB {M:Model} {A:Around} {E:Value->Shared->Prop} {s:Shared} {tg:Expr} {it:Addr} {u:Value} {o:Obj} {n:String} {vs:Array Value} {Q:Unit->Shared->Prop} (ho:s.heap.get? it=some o) (hc:o.cls=.type n) (hd:o.data=.fields vs)
  (hn:["enumerate","zip","dict_itemiterator","dict_reverseitemiterator","odict_iterator","itertools.zip_longest","itertools.pairwise"].contains n=false) (hQ:Q () s):wpAny M A (letOwnedTupleGo tg (.ref it) u) Q E s:=by
 unfold letOwnedTupleGo;cases tg <;> first
  | exact AB hQ
  | (cases u <;> first
    | exact AB hQ
    | (refine AA (wpAny_load ho ?_)
       rw [hc,hd];show wpAny M A (if (["enumerate","zip","dict_itemiterator","dict_reverseitemiterator","odict_iterator","itertools.zip_longest","itertools.pairwise"].contains n&&vs[0]? ==some (rawInt _))=true then _ else _) Q E s;rw [AQ (by intro h;rw [hn,Bool.false_and]at h;cases h)];exact AB hQ))
noncomputable def Itl (K:W.Frag) (a:Addr):It:=
 ⟨λi H=> ∃ xs x,SqL K H a xs/\xs[i]? =some x,λi H x H'=>H'=H/\ ∀ xs,SqL K H a xs->xs[i]? =some x,λi H=> ∃ xs,SqL K H a xs/\xs.length<=i⟩
noncomputable def Itt (K:W.Frag) (a:Addr):It:=
 ⟨λi H=> ∃ xs x,SqT K H a xs/\xs[i]? =some x,λi H x H'=>H'=H/\ ∀ xs,SqT K H a xs->xs[i]? =some x,λi H=> ∃ xs,SqT K H a xs/\xs.length<=i⟩
noncomputable def Itr (lo:Int) (n:Nat):It:=⟨λi _=>i<n,λi H x H'=>H'=H/\x=.int (lo+i),λi _=>n<=i⟩
theorem qV {P:Program} {w:World} {K:W.Frag} {tg:Expr} (a it:Addr):jY P w K tg (Itl K a) [it] it (λi h=>h.IsListIter it a i) where
 mem:=by simp
 obj:=λi h st b hb=>by
  have e:b=it:=by simpa using hb
  subst e;obtain ⟨o,e,c,d⟩:=st;exact ⟨o,e,λv z=>by rw [d]at z;cases z⟩
 keep:=λi h h' st k=>st.at λo e=>k it (by simp) o e
 item:=by
  intro X hP hw hK hc i pins s σ H E I hf st hg;subst hP hw hK;obtain ⟨xs,x,hq,hx⟩:=hg;obtain ⟨its,rv,p,hz⟩:=I.list hq;obtain ⟨u,hu,ru⟩:=rv.get hx;obtain ⟨f0,f1,f2,f3,f4,f5⟩:=hf it (by simp);refine wpAny_pyNext_list_item st p.isList (x:=u) (by simpa using hu) λh' st' sb=>?_;have I1:Inv X pins σ H {s with heap:=h'}:=I.turned (t':=s.toks) (λb o hb e=>(sb.2 b hb).trans e) f0 f1 f3 f4 f5;obtain ⟨o,e,c,d⟩:=id st';exact ⟨u,rfl,jB (s:={s with heap:=h'}) e c d (by decide) ⟨x,H,I1,ru,⟨rfl,λys hy=>by rw [I.list_inj hy hq];exact hx⟩,st',λb hb=>(hf b hb).1⟩⟩
 done:=by
  intro X hP hw hK hc i pins s σ H E I hf st hg;subst hP hw hK;obtain ⟨xs,hq,hx⟩:=hg;obtain ⟨its,rv,p,hz⟩:=I.list hq;obtain ⟨f0,f1,f2,f3,f4,f5⟩:=hf it (by simp);have hl:=rv.length;exact wpAny_pyNext_list_end (I.ok.hd hc) st p.isList (by simp;lia) λh' eb=>⟨rfl,I.turned (t':=s.toks) (λb o hb e=>eb b o hb e) f0 f1 f3 f4 f5⟩
 self:=λ_ _ _ _ _ st h=>wpAny_pyIter_listiter st h
theorem nQ {P:Program} {w:World} {K:W.Frag} {tg:Expr} (a it:Addr):jY P w K tg (Itt K a) [it] it (λi h=>h.IsTupleIter it a i) where
 mem:=by simp
 obj:=λi h st b hb=>by
  have e:b=it:=by simpa using hb
  subst e;obtain ⟨o,e,c,d⟩:=st;exact ⟨o,e,λv z=>by rw [d]at z;cases z⟩
 keep:=λi h h' st k=>st.at λo e=>k it (by simp) o e
 item:=by
  intro X hP hw hK hc i pins s σ H E I hf st hg;subst hP hw hK;obtain ⟨xs,x,hq,hx⟩:=hg;obtain ⟨its,rv,p,hz⟩:=I.tuple hq;obtain ⟨u,hu,ru⟩:=rv.get hx;obtain ⟨f0,f1,f2,f3,f4,f5⟩:=hf it (by simp);refine wpAny_pyNext_tuple_item st (show s.heap.IsTuple a its.toArray from p) (x:=u) (by simpa using hu) λh' st' sb=>?_;have I1:Inv X pins σ H {s with heap:=h'}:=I.turned (t':=s.toks) (λb o hb e=>(sb.2 b hb).trans e) f0 f1 f3 f4 f5;obtain ⟨o,e,c,d⟩:=id st';exact ⟨u,rfl,jB (s:={s with heap:=h'}) e c d (by decide) ⟨x,H,I1,ru,⟨rfl,λys hy=>by rw [I.tuple_inj hy hq];exact hx⟩,st',λb hb=>(hf b hb).1⟩⟩
 done:=by
  intro X hP hw hK hc i pins s σ H E I hf st hg;subst hP hw hK;obtain ⟨xs,hq,hx⟩:=hg;obtain ⟨its,rv,p,hz⟩:=I.tuple hq;obtain ⟨f0,f1,f2,f3,f4,f5⟩:=hf it (by simp);have hl:=rv.length;exact wpAny_pyNext_tuple_end (I.ok.hd hc) st (show s.heap.IsTuple a its.toArray from p) (by simp;lia) λh' eb=>⟨rfl,I.turned (t':=s.toks) (λb o hb e=>eb b o hb e) f0 f1 f3 f4 f5⟩
 self:=λ_ _ _ _ _ st h=>wpAny_pyIter_tupleiter st h
theorem nR {P:Program} {w:World} {K:W.Frag} {tg:Expr} (it:Addr) (lo:Int) (n:Nat):jY P w K tg (Itr lo n) [it] it (λi h=>IsRangeIter h it (lo+ (i:Nat) *1) ((n:Int) - (i:Nat)) 1) where
 mem:=by simp
 obj:=λi h st b hb=>by
  have e:b=it:=by simpa using hb
  subst e;exact ⟨_,st,λv z=>by
   have z':Data.fields _=Data.cell v:=z;cases z'⟩
 keep:=λi h h' st k=>k it (by simp) _ st
 item:=by
  intro X hP hw hK hc i pins s σ H E I hf st hg;subst hP hw hK;obtain ⟨f0,f1,f2,f3,f4,f5⟩:=hf it (by simp);have W:=Walks.range (prog:=X.prog) (w:=X.w) (I.ok.hd hc) it lo 1 n;refine W.item i s _ _ hg st λv h' tk hv st' kk=>?_;obtain ⟨t,rfl⟩:=hv;have I1:Inv X pins σ H {s with heap:=h',toks:=tk}:=I.turned (λb o hb e=>kk b o (by simpa using hb) e) f0 f1 f3 f4 f5;refine ⟨_,rfl,jB (s:={s with heap:=h',toks:=tk}) (n:="range_iterator") st' rfl rfl (by decide) ⟨.int (lo+i),H,I1,⟨t,?_⟩,⟨rfl,rfl⟩,st',λb hb=>(hf b hb).1⟩⟩;rw [Int.mul_one]
 done:=by
  intro X hP hw hK hc i pins s σ H E I hf st hg;subst hP hw hK;obtain ⟨f0,f1,f2,f3,f4,f5⟩:=hf it (by simp);exact wpAny_pyNext_range_end (I.ok.hd hc) st (by have:n<=i:=hg;lia) λh' eb=>⟨rfl,I.turned (t':=s.toks) (λb o hb e=>eb b o hb e) f0 f1 f3 f4 f5⟩
 self:=λ_ _ _ _ _ st h=>wpAny_pyIter_rangeiter st h
section
variable {X:Cx} {tg:Expr}
noncomputable def zB (K:W.Frag) (tl:TE):TI:=λσ H R=>tl σ H λx H1=> ∃ a,x=.ref a/\(∃ xs,SqL K H1 a xs)/\R (Itl K a) H1
noncomputable def Ah (K:W.Frag) (tl:TE):TI:=λσ H R=>tl σ H λx H1=> ∃ a,x=.ref a/\(∃ xs,SqT K H1 a xs)/\R (Itt K a) H1
theorem cA {l:Expr} {tl:TE} (hl:PE X l tl):PI X tg l (zB X.K tl):=by
 intro pins s σ H R I h;refine thn (hl pins s σ H _ I h) λv s1 ⟨x,H1,I1,r1,q1⟩=>?_;obtain ⟨a,e,⟨xs,hq⟩,q⟩:=q1;subst e;cases r1;obtain ⟨its,rv,p,hz⟩:=I1.list hq;refine Eh p.isList ?_;refine ⟨s1.heap.objs.size,[s1.heap.objs.size],_,_,H1,rfl,I1.kept (t':=s1.toks) λb o e=>AC _ e,qV a _,⟨_,AU _ rfl,rfl,rfl⟩,λb hb=>?_,q⟩;have e:b=s1.heap.objs.size:=by simpa using hb
 subst e;exact I1.fpOk (AJ _) (I1.hok.fresh (AJ _))
theorem bV {l:Expr} {tl:TE} (hl:PE X l tl):PI X tg l (Ah X.K tl):=by
 intro pins s σ H R I h;refine thn (hl pins s σ H _ I h) λv s1 ⟨x,H1,I1,r1,q1⟩=>?_;obtain ⟨a,e,⟨xs,hq⟩,q⟩:=q1;subst e;cases r1;obtain ⟨its,rv,p,hz⟩:=I1.tuple hq;refine wpAny_pyIter_tuple (show s1.heap.IsTuple a its.toArray from p) ?_;refine ⟨s1.heap.objs.size,[s1.heap.objs.size],_,_,H1,rfl,I1.kept (t':=s1.toks) λb o e=>AC _ e,nQ a _,⟨_,AU _ rfl,rfl,rfl⟩,λb hb=>?_,q⟩;have e:b=s1.heap.objs.size:=by simpa using hb
 subst e;exact I1.fpOk (AJ _) (I1.hok.fresh (AJ _))
theorem ue {pins:List (Addr×Obj)} {σ:St} {H:Hp} {s:Shared} {R:It->Hp->Prop} {E:Value->Shared->Prop} {lo hi:Int} {t u v:Tok} {tk:Nat} (I:Inv X pins σ H s) (h1: -(2^62)<=lo) (h2:lo<2^62) (h3: -(2^62)<=hi) (h4:hi<2^62)
  (q:R (Itr lo (hi-lo).toNat) H):wpAny (model X.prog X.w) X.A (pyIter (.ref s.heap.objs.size)) (PIE X pins σ tg R) E {s with heap:=s.heap.push {cls:=.type "range",data:=.fields #[.int lo t,.int hi u,.int 1 v]},toks:=tk}:=by
 refine wpAny_pyIter_range (IsRange.new ..) (small_one h1 h2 h3 h4) ?_;have I1:Inv X pins σ H {s with heap:=s.heap.push {cls:=.type "range",data:=.fields #[.int lo t,.int hi u,.int 1 v]},toks:=tk}:=I.kept λb o e=>AC _ e;refine ⟨(s.heap.push {cls:=.type "range",data:=.fields #[.int lo t,.int hi u,.int 1 v]}).objs.size,[(s.heap.push {cls:=.type "range",data:=.fields #[.int lo t,.int hi u,.int 1 v]}).objs.size],_,_,H,rfl,
  I1.kept (t':=tk) λb o e=>AC _ e,nR _ lo (hi-lo).toNat,?_,λb hb=>?_,q⟩
 ·have e1:lo+ ((0:Nat):Int) *1=lo:=by simp
  have e2:(((hi-lo).toNat:Nat):Int) - ((0:Nat):Int)=Builtin.Range.rangeSize lo hi 1:=by rw [rangeSize_one];split <;> lia
  show IsRangeIter _ _ (lo+ ((0:Nat):Int) *1) ((((hi-lo).toNat:Nat):Int) - ((0:Nat):Int)) 1;rw [e1,e2];exact AU _ rfl
 ·have e:b=(s.heap.push {cls:=.type "range",data:=.fields #[.int lo t,.int hi u,.int 1 v]}).objs.size:=by simpa using hb
  subst e;exact I1.fpOk (AJ _) (I1.hok.fresh (AJ _))
noncomputable def zA (ta:TA):TI:=λσ H R=>ta σ H λvs H1=> ∃ j:Int,vs=[.int j]/\ -(2^62)<=j/\j<2^62/\R (Itr 0 j.toNat) H1
theorem bz {a:Expr} {ta:TA} {p pos:Pos} (hg:Gl X "range") (hm:X.mg "range"=none) (ha:PA X [a] ta) (hs:starEach [a] X.env=[(false,eval a X.env)]:=by rfl):PI X tg (.Call (.Name "range" p) [a] [] pos) (zA ta):=by
 intro pins s σ H R I h;refine Call_ (gH I hg hm boot_range (Ce (thn (ha pos pins s σ H _ I h) λus s1 ⟨vs,H1,I1,r1,q1⟩=>?_) hs rfl));obtain ⟨j,e,q1,q2,q⟩:=q1;subst e;cases r1 with
 | cons r rr=>
  cases rr;obtain ⟨t,rfl⟩:=r;exact call_range_1 (ue I1 (by lia) (by lia) q1 q2 (by simpa using q))
def zX (wi:TI) (g:TG) (tb:TS):TS:=λD σ H=>wi σ H λJ H1=> ∃ W:Nat->Nat->St->Hp->Prop,(∃ m,W 0 m σ H1)/\ ∀ i m σ H,W i m σ H->
 (J.stop i H/\D.nx σ H)\/(J.go i H/\ ∃ N:St->Hp->Prop,(∀ σ' H',N σ' H'-> ∃ m',m'<m/\W (i+1) m' σ' H')/\ ∀ x H',J.yld i H x H'->g x σ H' λσ2 H2=>tb {D with nx:=N,ct:=N,bk:=D.nx} σ2 H2)
noncomputable def iw (fp:List Addr) (h:Heap):List (Addr×Obj):=fp.filterMap λb=>(h.get? b).map λo=>(b,o)
theorem bB {fp:List Addr} {h:Heap} {b:Addr} {o:Obj} (hb:b∈fp) (e:h.get? b=some o):(b,o)∈iw fp h:=EV.mpr ⟨b,hb,by rw [e];rfl⟩
theorem rX {fp:List Addr} {h:Heap} {p:Addr×Obj} (hp:p∈iw fp h):p.1∈fp/\h.get? p.1=some p.2:=by
 obtain ⟨b,hb,e⟩:=EV.mp hp;cases q:h.get? b with
 | none=>rw [q]at e;cases e
 | some o=>
  rw [q]at e;have e':(b,o)=p:=A0 e;subst e';exact ⟨hb,q⟩
theorem Inv.pinned {pins:List (Addr×Obj)} {σ:St} {H:Hp} {s:Shared} {fp:List Addr} (I:Inv X pins σ H s) (hf: ∀ b∈fp,jP X pins H b) (ho: ∀ b∈fp,∃ o,s.heap.get? b=some o/\ ∀ v,o.data≠ .cell v):Inv X (pins++iw fp s.heap) σ H s:=
 I.pins_of λp hp=>(AT.mp hp).elim (λz=>I.pin p (AV _ z)) λz=>by
  obtain ⟨hb,e⟩:=rX z;obtain ⟨f0,f1,f2,_⟩:=hf p.1 hb;obtain ⟨o,e',d⟩:=ho p.1 hb;rw [e]at e';cases e';exact ⟨e,f0,f1,f2,d⟩
theorem Inv.unpinned {pins pl:List (Addr×Obj)} {σ:St} {H:Hp} {s:Shared} (I:Inv X (pins++pl) σ H s):Inv X pins σ H s:=I.pins_of λp hp=>I.pin p (AV _ (Bo _ hp))
theorem bi {iter:Expr} {body:List Stmt} {wi:TI} {g:TG} {tb:TS} {pos:Pos} (hp:PassesOwn (model X.prog X.w) X.A X.env X.xe) (hc:X.calm=true) (hi:PI X tg iter wi) (hg:PG X tg g) (hb:PSs X body tb)
  (hs: ∀ x,foldedSetIterable iter X.env x=pure x:=by intro _;rfl):PS X (.For tg iter body [] pos) (zX wi g tb):=by
 intro pins s σ H D I h;refine wpAny_For (thn (hi pins s σ H _ I h) λv s1 h1=>thn h1 λitv s2 h2=>?_) hs;obtain ⟨it,fp,tn,J,H2,e,I2,T,st2,f2,W,⟨m0,w0⟩,turn⟩:=h2;subst e;have stat: ∀ {H':Hp},(∀ b∈fp,H' b=none)-> ∀ b∈fp,jP X pins H' b:=λhn b hb=>⟨hn b hb,(f2 b hb).2⟩;refine codeAny_forLoop_any (λn s'=> ∃ i σ' H',Inv X pins σ' H' s'/\tn i s'.heap/\(∀ b∈fp,H' b=none)/\W i n σ' H') ?_ m0 ⟨0,σ,H2,I2,st2,λb hb=>(f2 b hb).1,w0⟩;rintro n s3 ⟨i,σ3,H3,I3,st3,fr3,w3⟩;rcases turn i n σ3 H3 w3 with ⟨stop,qn⟩ | ⟨go,N,hN,step⟩
 ·refine C2 hp (thn (T.done X rfl rfl rfl hc i pins s3 σ3 H3 X.xe I3 (stat fr3) st3 stop) λr s4 ⟨hr,I4⟩=>?_);subst hr;exact Dn ⟨σ3,H3,I4,qn⟩
 ·refine C2 hp (thn (T.item X rfl rfl rfl hc i pins s3 σ3 H3 X.xe I3 (stat fr3) st3 go) λr s4 ⟨u,hr,h4⟩=>?_);subst hr;refine C2 hp (thn h4 λ_ s5 ⟨x,H5,I5,r5,y5,st5,fr5⟩=>?_);have I5':=I5.pinned (stat fr5) (T.obj _ _ st5);refine C2 hp (thn (hg _ s5 σ3 H5 x u _ I5' r5 (step x H5 y5)) λ_ s6 ⟨σ6,H6,I6,q6⟩=>?_);refine C2 hp (thn (hb _ s6 σ6 H6 _ I6 q6) λf s7 q7=>?_);have again: ∀ {σ7:St} {H7:Hp},Inv X (pins++iw fp s5.heap) σ7 H7 s7->N σ7 H7-> ∃ m,m<n/\ ∃ i σ' H',Inv X pins σ' H' s7/\tn i s7.heap/\(∀ b∈fp,H' b=none)/\W i m σ' H':=λ{σ7 H7} I7 n7=>by
   obtain ⟨m',hm,w7⟩:=hN σ7 H7 n7;refine ⟨m',hm,i+1,σ7,H7,I7.unpinned,T.keep _ _ _ st5 λb hb o e=>(I7.pin (b,o) (AV _ (AV _ (bB hb e)))).1,λb hb=>?_,w7⟩;obtain ⟨o,e,d⟩:=T.obj _ _ st5 b hb;exact (I7.pin (b,o) (AV _ (AV _ (bB hb e)))).2.1
  cases f with
  | next=>obtain ⟨σ7,H7,I7,n7⟩:=q7;exact again I7 n7
  | cont=>obtain ⟨σ7,H7,I7,n7⟩:=q7;exact again I7 n7
  | brk=>obtain ⟨σ7,H7,I7,q7⟩:=q7;exact ⟨σ7,H7,I7.unpinned,q7⟩
  | ret v=>obtain ⟨x7,σ7,H7,I7,r7,q7⟩:=q7;exact ⟨x7,σ7,H7,I7.unpinned,r7,q7⟩
end
theorem cN {K:W.Frag} {a:Addr} {xs:List V} {g:TG} {tb:TS} {D:dW} {σ:St} {H:Hp} (Pv:Nat->St->Hp->Prop) (h0:Pv 0 σ H) (hl: ∀ i σ H,i<=xs.length->Pv i σ H->SqL K H a xs)
  (hs: ∀ i x σ H,xs[i]? =some x->Pv i σ H->g x σ H λσ2 H2=>tb {D with nx:=Pv (i+1),ct:=Pv (i+1),bk:=D.nx} σ2 H2) (hd: ∀ σ H,Pv xs.length σ H->D.nx σ H):
  ∃ W:Nat->Nat->St->Hp->Prop,(∃ m,W 0 m σ H)/\ ∀ i m σ H,W i m σ H->
   ((Itl K a).stop i H/\D.nx σ H)\/((Itl K a).go i H/\ ∃ N:St->Hp->Prop,(∀ σ' H',N σ' H'-> ∃ m',m'<m/\W (i+1) m' σ' H')/\ ∀ x H',(Itl K a).yld i H x H'->g x σ H' λσ2 H2=>tb {D with nx:=N,ct:=N,bk:=D.nx} σ2 H2):=by
 refine ⟨λi m σ H=>m=xs.length-i/\i<=xs.length/\Pv i σ H,⟨xs.length,by simp,A6 _,h0⟩,?_⟩;rintro i m σ H ⟨rfl,hi,p⟩;have q:=hl i σ H hi p;by_cases hlt:i<xs.length
 ·refine .inr ⟨⟨xs,xs[i],q,by simp [hlt]⟩,Pv (i+1),λσ' H' p'=>⟨xs.length- (i+1),by lia,rfl,hlt,p'⟩,λx H' y=>?_⟩;obtain ⟨e,y⟩:=y;subst e;exact hs i x σ _ (y xs q) p
 ·have e:i=xs.length:=by lia
  subst e;exact .inl ⟨⟨xs,q,AJ _⟩,hd σ H p⟩
theorem eV {K:W.Frag} {a:Addr} {xs:List V} {g:TG} {tb:TS} {D:dW} {σ:St} {H:Hp} (Pv:Nat->St->Hp->Prop) (h0:Pv 0 σ H) (hl: ∀ i σ H,i<=xs.length->Pv i σ H->SqT K H a xs)
  (hs: ∀ i x σ H,xs[i]? =some x->Pv i σ H->g x σ H λσ2 H2=>tb {D with nx:=Pv (i+1),ct:=Pv (i+1),bk:=D.nx} σ2 H2) (hd: ∀ σ H,Pv xs.length σ H->D.nx σ H):
  ∃ W:Nat->Nat->St->Hp->Prop,(∃ m,W 0 m σ H)/\ ∀ i m σ H,W i m σ H->
   ((Itt K a).stop i H/\D.nx σ H)\/((Itt K a).go i H/\ ∃ N:St->Hp->Prop,(∀ σ' H',N σ' H'-> ∃ m',m'<m/\W (i+1) m' σ' H')/\ ∀ x H',(Itt K a).yld i H x H'->g x σ H' λσ2 H2=>tb {D with nx:=N,ct:=N,bk:=D.nx} σ2 H2):=by
 refine ⟨λi m σ H=>m=xs.length-i/\i<=xs.length/\Pv i σ H,⟨xs.length,by simp,A6 _,h0⟩,?_⟩;rintro i m σ H ⟨rfl,hi,p⟩;have q:=hl i σ H hi p;by_cases hlt:i<xs.length
 ·refine .inr ⟨⟨xs,xs[i],q,by simp [hlt]⟩,Pv (i+1),λσ' H' p'=>⟨xs.length- (i+1),by lia,rfl,hlt,p'⟩,λx H' y=>?_⟩;obtain ⟨e,y⟩:=y;subst e;exact hs i x σ _ (y xs q) p
 ·have e:i=xs.length:=by lia
  subst e;exact .inl ⟨⟨xs,q,AJ _⟩,hd σ H p⟩
theorem cW {lo:Int} {n:Nat} {g:TG} {tb:TS} {D:dW} {σ:St} {H:Hp} (Pv:Nat->St->Hp->Prop) (h0:Pv 0 σ H)
  (hs: ∀ i σ H,i<n->Pv i σ H->g (.int (lo+i)) σ H λσ2 H2=>tb {D with nx:=Pv (i+1),ct:=Pv (i+1),bk:=D.nx} σ2 H2) (hd: ∀ σ H,Pv n σ H->D.nx σ H):
  ∃ W:Nat->Nat->St->Hp->Prop,(∃ m,W 0 m σ H)/\ ∀ i m σ H,W i m σ H->
   ((Itr lo n).stop i H/\D.nx σ H)\/((Itr lo n).go i H/\ ∃ N:St->Hp->Prop,(∀ σ' H',N σ' H'-> ∃ m',m'<m/\W (i+1) m' σ' H')/\ ∀ x H',(Itr lo n).yld i H x H'->g x σ H' λσ2 H2=>tb {D with nx:=N,ct:=N,bk:=D.nx} σ2 H2):=by
 refine ⟨λi m σ H=>m=n-i/\i<=n/\Pv i σ H,⟨n,by simp,A6 _,h0⟩,?_⟩;rintro i m σ H ⟨rfl,hi,p⟩;by_cases hlt:i<n
 ·refine .inr ⟨hlt,Pv (i+1),λσ' H' p'=>⟨n- (i+1),by lia,rfl,hlt,p'⟩,λx H' y=>?_⟩;obtain ⟨e,y⟩:=y;subst e y;exact hs i σ _ hlt p
 ·have e:i=n:=by lia
  subst e;exact .inl ⟨AJ _,hd σ H p⟩
theorem ja {c:TT} {tb:TS} {D:dW} {σ:St} {H:Hp} (Pv:St->Hp->Prop) (μ:St->Hp->Nat) (h0:Pv σ H)
  (hs: ∀ σ H,Pv σ H->c σ H λb H1=>if b=true then tb {D with nx:=λσ' H'=>Pv σ' H'/\μ σ' H'<μ σ H,ct:=λσ' H'=>Pv σ' H'/\μ σ' H'<μ σ H,bk:=D.nx} σ H1 else D.nx σ H1)
  (mono: ∀ σ H Q Q',(∀ b H1,Q b H1->Q' b H1)->c σ H Q->c σ H Q'):nV c tb D σ H:=by
 refine ⟨λm σ H=>m=μ σ H/\Pv σ H,⟨_,rfl,h0⟩,?_⟩;rintro m σ H ⟨rfl,p⟩;refine mono σ H _ _ (λb H1 q=>?_) (hs σ H p);cases b with
 | true=>exact ⟨_,λσ' H' ⟨p',l⟩=>⟨_,l,rfl,p'⟩,q⟩
 | false=>exact q
abbrev R2:=V->V->Hp->VK->Prop
def OpR (X:Cx) (f:Value->Value->Sem Value) (r:R2):Prop:=
 ∀ (pins:List (Addr×Obj)) (s:Shared) (σ:St) (H:Hp) (x y:V) (v u:Value) (Q:VK),Inv X pins σ H s->RelV x v->RelV y u->r x y H Q->
  wpAny (model X.prog X.w) X.A (f v u) (EP X pins σ Q) X.xe s
def UnR (X:Cx) (f:Value->Sem Value) (r:V->Hp->VK->Prop):Prop:=
 ∀ (pins:List (Addr×Obj)) (s:Shared) (σ:St) (H:Hp) (x:V) (v:Value) (Q:VK),Inv X pins σ H s->RelV x v->r x H Q->
  wpAny (model X.prog X.w) X.A (f v) (EP X pins σ Q) X.xe s
def cQ (X:Cx) (f:Value) (r:List V->Hp->VK->Prop):Prop:=
 ∀ (pins:List (Addr×Obj)) (s:Shared) (σ:St) (H:Hp) (xs:List V) (us:List Value) (Q:VK),Inv X pins σ H s->Vals xs us->r xs H Q->
  wpAny (model X.prog X.w) X.A (call f us) (EP X pins σ Q) X.xe s
def As (X:Cx) (r:V->Hp->(Bool->Hp->Prop)->Prop):Prop:=
 ∀ (pins:List (Addr×Obj)) (s:Shared) (σ:St) (H:Hp) (x:V) (v:Value) (Q:Bool->Hp->Prop),Inv X pins σ H s->RelV x v->r x H Q->
  wpAny (model X.prog X.w) X.A (truthy v) (TP X pins σ Q) X.xe s
def tOp (r:R2) (ta tb:TE):TE:=λσ H Q=>ta σ H λx H1=>tb σ H1 λy H2=>r x y H2 Q
def tUn (r:V->Hp->VK->Prop) (ta:TE):TE:=λσ H Q=>ta σ H λx H1=>r x H1 Q
inductive rI (C:Int->Int->Prop) (g:Int->Int->V) (x:V) (y:V) (H:Hp) (Q:VK):Prop
 | mk: ∀ i j,(x=.int i)->(y=.int j)->(C i j)->(Q (g i j) H)->rI C g x y H Q
inductive rI0 (g:Int->Int->V) (x:V) (y:V) (H:Hp) (Q:VK):Prop
 | mk: ∀ i j,(x=.int i)->(y=.int j)->(Q (g i j) H)->rI0 g x y H Q
inductive rU (g:Int->V) (x:V) (H:Hp) (Q:VK):Prop
 | mk: ∀ i,(x=.int i)->(Q (g i) H)->rU g x H Q
section
variable {X:Cx} {a b c:Expr} {ta tb tc:TE} {pos:Pos}
theorem yD (ha:PE X a ta) (hb:PE X b tb) {pins:List (Addr×Obj)} {s:Shared} {σ:St} {H:Hp} {R:V->V->Hp->Prop} (I:Inv X pins σ H s)
  (h:ta σ H λx H1=>tb σ H1 λy H2=>R x y H2) {Q:Value->Shared->Prop} {f:Value->Value->Sem Value}
  (hf: ∀ v u s2 x y H2,Inv X pins σ H2 s2->RelV x v->RelV y u->R x y H2->wpAny (model X.prog X.w) X.A (f v u) Q X.xe s2):
  wpAny (model X.prog X.w) X.A (eval a X.env) (λv s₁=>wpAny (model X.prog X.w) X.A (eval b X.env) (λu s₂=>wpAny (model X.prog X.w) X.A (f v u) Q X.xe s₂) X.xe s₁) X.xe s:=by
 refine thn (ha pins s σ H _ I h) λv s1 ⟨x,H1,I1,r1,q1⟩=>?_;refine thn (hb pins s1 σ H1 _ I1 q1) λu s2 ⟨y,H2,I2,r2,q2⟩=>?_;exact hf v u s2 x y H2 I2 r1 r2 q2
theorem aw {op:Operator} {r:R2} (ho:OpR X (binaryOp op) r) (ha:PE X a ta) (hb:PE X b tb):PE X (.BinOp a op b pos) (tOp r ta tb):=by
 intro pins s σ H Q I h;exact wpAny_BinOp (yD ha hb I h λv u s2 x y H2 I2 rx ry q=>ho pins s2 σ H2 x y v u Q I2 rx ry q)
theorem qh {op:UnaryOp} {r:V->Hp->VK->Prop} (ho:UnR X (unaryOp op) r) (ha:PE X a ta):PE X (.UnaryOp op a pos) (tUn r ta):=by
 intro pins s σ H Q I h;exact UnaryOp_ (thn (ha pins s σ H _ I h) λv s1 ⟨x,H1,I1,r1,q1⟩=>ho pins s1 σ H1 x v Q I1 r1 q1)
theorem opI {f:Value->Value->Sem Value} {C:Int->Int->Prop} {g:Int->Int->Int}
  (rule: ∀ (i j:Int) (t u:Tok) (s:Shared) (Q:Value->Shared->Prop) (E:Value->Shared->Prop),C i j->Q (.int (g i j) s.toks) {s with toks:=s.toks+1}->wpAny (model X.prog X.w) X.A (f (.int i t) (.int j u)) Q E s):
  OpR X f (rI C λi j=>.int (g i j)):=by
 intro pins s σ H x y v u Q I rx ry h;obtain ⟨i,j,rfl,rfl,hc,q⟩:=h;obtain ⟨t,rfl⟩:=rx;obtain ⟨t',rfl⟩:=ry;exact rule i j t t' s _ _ hc ⟨.int (g i j),H,I.tok _,⟨_,rfl⟩,q⟩
theorem zq {f:Value->Value->Sem Value} {g:Int->Int->Int}
  (rule: ∀ (i j:Int) (t u:Tok) (s:Shared) (Q:Value->Shared->Prop) (E:Value->Shared->Prop),Q (.int (g i j) s.toks) {s with toks:=s.toks+1}->wpAny (model X.prog X.w) X.A (f (.int i t) (.int j u)) Q E s):
  OpR X f (rI0 λi j=>.int (g i j)):=by
 intro pins s σ H x y v u Q I rx ry h;obtain ⟨i,j,rfl,rfl,q⟩:=h;obtain ⟨t,rfl⟩:=rx;obtain ⟨t',rfl⟩:=ry;exact rule i j t t' s _ _ ⟨.int (g i j),H,I.tok _,⟨_,rfl⟩,q⟩
theorem xW {f:Value->Value->Sem Value} {g:Int->Int->Bool}
  (rule: ∀ (i j:Int) (t u:Tok) (s:Shared) (Q:Value->Shared->Prop) (E:Value->Shared->Prop),Q (.bool (g i j)) s->wpAny (model X.prog X.w) X.A (f (.int i t) (.int j u)) Q E s):
  OpR X f (rI0 λi j=>.bl (g i j)):=by
 intro pins s σ H x y v u Q I rx ry h;obtain ⟨i,j,rfl,rfl,q⟩:=h;obtain ⟨t,rfl⟩:=rx;obtain ⟨t',rfl⟩:=ry;exact rule i j t t' s _ _ ⟨.bl (g i j),H,I,rfl,q⟩
def Ay (i j:Int):Prop:=0<j/\j<1073741824
def Ax (i j:Int):Prop:=0<=j/\j<=1000000/\i.natAbs<2^64
def CMul (i j:Int):Prop:=(-(2^64) <i/\i<2^64)\/(-(2^64) <j/\j<2^64)
theorem CMul.ok {i j:Int} (h:CMul i j):IntMulOk i j:=by
 rcases h with ⟨h1,h2⟩ | ⟨h1,h2⟩
 ·exact .of_left (intBits_le_64 h1 h2)
 ·exact .of_right (intBits_le_64 h1 h2)
theorem bj:OpR X (binaryOp .Add) (rI0 λi j=>.int (i+j)):=zq λ_ _ _ _ _ _ _ q=>add_int q
theorem gD:OpR X (binaryOp .Sub) (rI0 λi j=>.int (i-j)):=zq λ_ _ _ _ _ _ _ q=>sub_int q
theorem df:OpR X (binaryOp .Mult) (rI CMul λi j=>.int (i*j)):=opI λ_ _ _ _ _ _ _ hc q=>mul_int q hc.ok
theorem lL:OpR X (binaryOp .FloorDiv) (rI Ay λi j=>.int (i/j)):=opI λi j _ _ _ _ _ hc q=>by
 have h1:(0:Int) <j:=hc.1;have h2:j<1073741824:=hc.2;exact floordiv_int (by lia) (by rw [Int.fdiv_eq_ediv_of_nonneg i (by lia)];exact q) (.inl (PyProof.noPylong_small (by lia)))
theorem cD:OpR X (binaryOp .Mod) (rI (λ_ j=>0<j) λi j=>.int (i%j)):=opI λi j _ _ _ _ _ hc q=>by
 have h1:(0:Int) <j:=hc;exact mod_int' (by lia) (by rw [Int.fmod_eq_emod_of_nonneg i (by lia)];exact q)
theorem xU:OpR X (binaryOp .Pow) (rI Ax λi j=>.int (i^j.toNat)):=opI λ_ _ _ _ _ _ _ hc q=>pow_int_small hc.1 hc.2.1 hc.2.2 q
theorem unI {f:Value->Sem Value} {g:Int->Int}
  (rule: ∀ (i:Int) (t:Tok) (s:Shared) (Q:Value->Shared->Prop) (E:Value->Shared->Prop),Q (.int (g i) s.toks) {s with toks:=s.toks+1}->wpAny (model X.prog X.w) X.A (f (.int i t)) Q E s):
  UnR X f (rU λi=>.int (g i)):=by
 intro pins s σ H x v Q I rx h;obtain ⟨i,rfl,q⟩:=h;obtain ⟨t,rfl⟩:=rx;exact rule i t s _ _ ⟨.int (g i),H,I.tok _,⟨_,rfl⟩,q⟩
theorem kT:UnR X (unaryOp .USub) (rU λi=>.int (-i)):=unI λ_ _ _ _ _ q=>neg_int q
end
noncomputable def yW:V->V->Bool
 | .non,.non=>true | .non,.int _=>true | .int _,.non=>true | .non,.bl _=>true | .bl _,.non=>true | .non,.str _=>true | .str _,.non=>true
 | .int _,.int _=>true | .bl _,.bl _=>true | .str _,.str _=>true | .byt _,.byt _=>true
 | .int _,.str _=>true | .str _,.int _=>true | .bl _,.str _=>true | .str _,.bl _=>true
 | _,_=>false
def rEq:R2:=λx y H Q=>yW x y=true/\Q (.bl (decide (x=y))) H
def rNe:R2:=λx y H Q=>yW x y=true/\Q (.bl (!decide (x=y))) H
theorem qB {i j:Int}:decide (V.int i=V.int j)=(i==j):=by
 rw [EH];simp
theorem vt {i j:Bool}:decide (V.bl i=V.bl j)=(i==j):=by
 rw [EH];simp
theorem qz {i j:Str}:decide (V.str i=V.str j)=(i==j):=by
 rw [EH];simp
theorem qC {i j:Array UInt8}:decide (V.byt i=V.byt j)=(i.toList==j.toList):=by
 rw [EH];cases i;cases j;simp
section
variable {X:Cx} {a b c:Expr} {ta tb tc:TE} {pos:Pos}
theorem be {pins:List (Addr×Obj)} {σ:St} {H:Hp} {s:Shared} {Q:VK} {k k':Bool} (I:Inv X pins σ H s) (q:Q (.bl k) H) (e:k=k'):EP X pins σ Q (.bool k') s:=by
 subst e;exact ⟨.bl k,H,I,rfl,q⟩
theorem cr:OpR X (compareOp .Eq) rEq:=by
 intro pins s σ H x y v u Q I rx ry h;obtain ⟨hs,q⟩:=h;cases x with
 | non=>
  cases rx;cases y with
  | non=>cases ry;exact PySem.EqNone.eq_none_none (be I q (by simp))
  | bl j=>cases ry;exact PySem.EqNone.eq_none_bool (be I q (by simp))
  | int j=>obtain ⟨t',rfl⟩:=ry;exact PySem.EqNone.eq_none_int (be I q (by simp))
  | str j=>obtain ⟨t',rfl⟩:=ry;exact PySem.EqNone.eq_none_str (be I q (by simp))
  | _=>exact absurd (show false=true from hs) AR
 | bl i=>
  cases rx;cases y with
  | non=>cases ry;exact PySem.EqNone.eq_bool_none (be I q (by simp))
  | bl j=>cases ry;exact eq_bool (be I q vt)
  | str j=>obtain ⟨t',rfl⟩:=ry;exact PySem.EqMixed.eq_bool_str (be I q (by simp))
  | _=>exact absurd (show false=true from hs) AR
 | int i=>
  obtain ⟨t,rfl⟩:=rx;cases y with
  | non=>cases ry;exact PySem.EqNone.eq_int_none (be I q (by simp))
  | int j=>obtain ⟨t',rfl⟩:=ry;exact eq_int (be I q qB)
  | str j=>obtain ⟨t',rfl⟩:=ry;exact PySem.EqMixed.eq_int_str (be I q (by simp))
  | _=>exact absurd (show false=true from hs) AR
 | str i=>
  obtain ⟨t,rfl⟩:=rx;cases y with
  | non=>cases ry;exact PySem.EqNone.eq_str_none (be I q (by simp))
  | bl j=>cases ry;exact PySem.EqMixed.eq_str_bool (be I q (by simp))
  | int j=>obtain ⟨t',rfl⟩:=ry;exact PySem.EqMixed.eq_str_int (be I q (by simp))
  | str j=>obtain ⟨t',rfl⟩:=ry;exact eq_str (be I q qz)
  | _=>exact absurd (show false=true from hs) AR
 | byt i=>
  obtain ⟨t,rfl⟩:=rx;cases y with
  | byt j=>obtain ⟨t',rfl⟩:=ry;exact W.eq_bytes (be I q qC)
  | _=>exact absurd (show false=true from hs) AR
 | _=>cases y <;> exact absurd (show false=true from hs) AR
theorem xm:OpR X (compareOp .NotEq) rNe:=by
 intro pins s σ H x y v u Q I rx ry h;obtain ⟨hs,q⟩:=h;cases x with
 | non=>
  cases rx;cases y with
  | non=>cases ry;exact PySem.EqNone.ne_none_none (be I q (by simp))
  | bl j=>cases ry;exact PySem.EqNone.ne_none_bool (be I q (by simp))
  | int j=>obtain ⟨t',rfl⟩:=ry;exact PySem.EqNone.ne_none_int (be I q (by simp))
  | str j=>obtain ⟨t',rfl⟩:=ry;exact PySem.EqNone.ne_none_str (be I q (by simp))
  | _=>exact absurd (show false=true from hs) AR
 | bl i=>
  cases rx;cases y with
  | non=>cases ry;exact PySem.EqNone.ne_bool_none (be I q (by simp))
  | bl j=>cases ry;exact ne_bool (be I q (congrArg not vt))
  | str j=>obtain ⟨t',rfl⟩:=ry;exact PySem.EqMixed.ne_bool_str (be I q (by simp))
  | _=>exact absurd (show false=true from hs) AR
 | int i=>
  obtain ⟨t,rfl⟩:=rx;cases y with
  | non=>cases ry;exact PySem.EqNone.ne_int_none (be I q (by simp))
  | int j=>obtain ⟨t',rfl⟩:=ry;exact ne_int (be I q (congrArg not qB))
  | str j=>obtain ⟨t',rfl⟩:=ry;exact PySem.EqMixed.ne_int_str (be I q (by simp))
  | _=>exact absurd (show false=true from hs) AR
 | str i=>
  obtain ⟨t,rfl⟩:=rx;cases y with
  | non=>cases ry;exact PySem.EqNone.ne_str_none (be I q (by simp))
  | bl j=>cases ry;exact PySem.EqMixed.ne_str_bool (be I q (by simp))
  | int j=>obtain ⟨t',rfl⟩:=ry;exact PySem.EqMixed.ne_str_int (be I q (by simp))
  | str j=>obtain ⟨t',rfl⟩:=ry;exact ne_str (be I q (congrArg not qz))
  | _=>exact absurd (show false=true from hs) AR
 | byt i=>
  obtain ⟨t,rfl⟩:=rx;cases y with
  | byt j=>obtain ⟨t',rfl⟩:=ry;exact W.ne_bytes (be I q (congrArg not qC))
  | _=>exact absurd (show false=true from hs) AR
 | _=>cases y <;> exact absurd (show false=true from hs) AR
theorem gi:OpR X (compareOp .Lt) (rI0 λi j=>.bl (decide (i<j))):=xW λ_ _ _ _ _ _ _ q=>lt_int q
theorem gj:OpR X (compareOp .Gt) (rI0 λi j=>.bl (decide (j<i))):=xW λ_ _ _ _ _ _ _ q=>gt_int q
theorem zp:OpR X (compareOp .GtE) (rI0 λi j=>.bl (decide (j<=i))):=xW λ_ _ _ _ _ _ _ q=>ge_int q
theorem uz:OpR X (compareOp .Is) (λx y H Q=>y=.non/\Q (.bl (decide (x=.non))) H):=by
 intro pins s σ H x y v u Q I rx ry h;obtain ⟨rfl,q⟩:=h;cases ry;refine is_none_gen (be I q ?_);cases x <;> first
  | (cases rx;rfl)
  | (obtain ⟨t,rfl⟩:=rx;rfl)
theorem aL (b:Expr) {op:CmpOp} (h:op≠ .In:=by decide) (h2:op≠ .NotIn:=by decide):behindInMarks op b=false:=by
 have e1:(op==CmpOp.In)=false:=by cases op <;> first | rfl | exact absurd rfl h
 have e2:(op==CmpOp.NotIn)=false:=by cases op <;> first | rfl | exact absurd rfl h2
 cases b <;> simp [behindInMarks,e1,e2]
theorem dQ {op:CmpOp} {r:R2} (ho:OpR X (compareOp op) r) (ha:PE X a ta) (hb:PE X b tb) (hm:behindInMarks op b=false):PE X (.Compare a [op] [b] pos) (tOp r ta tb):=by
 intro pins s σ H Q I h;exact wpAny_Compare1 (yD ha hb I h λv u s2 x y H2 I2 rx ry q=>ho pins s2 σ H2 x y v u Q I2 rx ry q) hm
def yM (t:TE):TT:=λσ H Q=>t σ H λx H'=>rBl x H' Q
theorem ax {op:CmpOp} {r:R2} (ho:OpR X (compareOp op) r) (ha:PE X a ta) (hb:PE X b tb) (hm:behindInMarks op b=false):PT X (.Compare a [op] [b] pos) (yM (tOp r ta tb)):=by
 intro pins s σ H Q I h;refine wpAny_isTrue_Compare1 (thn (ha pins s σ H _ I h) λv s1 ⟨x,H1,I1,r1,q1⟩=>thn (hb pins s1 σ H1 _ I1 q1) λu s2 ⟨y,H2,I2,r2,q2⟩=>
  thn (ho pins s2 σ H2 x y v u _ I2 r1 r2 q2) λc s3 ⟨z,H3,I3,r3,k,e,q3⟩=>?_) hm
 subst e;cases r3;exact Ch ⟨H3,I3,q3⟩
def zL (K:W.Frag) (x:V) (H:Hp) (k:Bool):Prop:=
 match x with
 | .non=>k=false
 | .bl b=>k=b
 | .int i=>k=(i !=0)
 | .str y=>y.length<=sizeLine/\k=((y.length:Int)!=0)
 | .byt y=>y.size<=sizeLine/\k=((y.size:Int)!=0)
 | .ref p=>(∃ xs,SqL K H p xs/\k= !xs.isEmpty)\/(∃ xs,SqT K H p xs/\k= !xs.isEmpty)\/ ∃ kvs,H p=some (.dK kvs)/\k= !kvs.isEmpty
 | _=>False
theorem pj {κ:Type} {kvs:List (κ×V)} {vs:List (κ×Value)} (r:KV kvs vs):(!vs.isEmpty)= !kvs.isEmpty:=by
 cases r <;> rfl
theorem jy {xs:List V} {its:List Value} (r:Vals xs its):(!its.toArray.isEmpty)= !xs.isEmpty:=by
 cases r <;> simp
theorem iz:(sizeLine:Nat) <2^63:=by rw [E5];decide
theorem xw:As X (λx H Q=> ∃ k,zL X.K x H k/\Q k H):=by
 intro pins s σ H x v Q I rx h;obtain ⟨k,e,q⟩:=h;have hl:=iz;have hs:sizeLine=16777216:=E5;cases x with
 | non=>
  cases rx;have e':k=false:=e;subst e';exact truthy_none ⟨H,I,q⟩
 | bl b=>
  cases rx;have e':k=b:=e;subst e';exact Ch ⟨H,I,q⟩
 | int i=>
  obtain ⟨t,rfl⟩:=rx;have e':k=(i !=0):=e;subst e';exact PySem.P.truthy_int ⟨H,I,q⟩
 | str y=>
  obtain ⟨t,rfl⟩:=rx;obtain ⟨hy,e'⟩:y.length<=sizeLine/\k=((y.length:Int)!=0):=e;subst e';exact PySem.P.truthy_str (by lia) ⟨H,I.tok _,q⟩
 | byt y=>
  obtain ⟨t,rfl⟩:=rx;obtain ⟨hy,e'⟩:y.size<=sizeLine/\k=((y.size:Int)!=0):=e;subst e';exact W.truthy_bytes (by lia) ⟨H,I.tok _,q⟩
 | ref p=>
  cases rx;have e':(∃ xs,SqL X.K H p xs/\k= !xs.isEmpty)\/(∃ xs,SqT X.K H p xs/\k= !xs.isEmpty)\/ ∃ kvs,H p=some (.dK kvs)/\k= !kvs.isEmpty:=e;rcases e' with ⟨xs,hx,e'⟩ | ⟨xs,hx,e'⟩ | ⟨kvs,hx,e'⟩
  ·subst e';obtain ⟨its,r,pl,hz⟩:=I.list hx;have hlen:=r.length;exact wpAny_truthy_list pl.isList (by simp only [AL];lia) ⟨H,I.tok _,by rw [jy r];exact q⟩
  ·subst e';obtain ⟨its,r,pl,hz⟩:=I.tuple hx;have hlen:=r.length;exact truthy_tuple pl (by simp only [AL];lia) ⟨H,I.tok _,by rw [jy r];exact q⟩
  ·subst e';obtain ⟨hz,hS,vs,r,m⟩:kvs.length<=sizeLine/\(p==sysModules)=false/\ ∃ vs,KV kvs vs/\s.heap.DictOf (aV X.prog X.w) p vs:=I.hok p _ hx;have hlen:kvs.length=vs.length:=AZ r;exact wpAny_truthy_dict hS m (by lia) ⟨H,I.tok _,by rw [pj r];exact q⟩
 | _=>exact (show False from e).elim
theorem mP (ha:PE X a ta) (he: ∀ whole,isTrue a X.env whole=(do let v <- whole;standAt a.pos;holding [v] (truthy v))):
  PT X a (λσ H Q=>ta σ H λx H'=> ∃ k,zL X.K x H' k/\Q k H'):=by
 intro pins s σ H Q I h;exact isTrue_plain (thn (ha pins s σ H _ I h) λv s1 ⟨x,H1,I1,r1,q1⟩=>xw pins s1 σ H1 x v Q I1 r1 q1) (he _)
theorem gE:OpR X (binaryOp .Add) (λx y H Q=> ∃ i j,x=.str i/\y=.str j/\i.length+j.length<=sizeLine/\Q (.str (i++j)) H):=by
 intro pins s σ H x y v u Q I rx ry h;obtain ⟨i,j,rfl,rfl,hz,q⟩:=h;obtain ⟨t,rfl⟩:=rx;obtain ⟨t',rfl⟩:=ry;exact add_str (λt' tk=>⟨.str (i++j),H,I.tok _,⟨_,rfl⟩,q⟩) hz
theorem gh {x:V} {us:List Value} (r:Vals [x] us): ∃ u,us=[u]/\RelV x u:=by
 cases r with
 | cons r1 r2=>cases r2;exact ⟨_,rfl,r1⟩
theorem iH {x y:V} {us:List Value} (r:Vals [x,y] us): ∃ u w',us=[u,w']/\RelV x u/\RelV y w':=by
 cases r with
 | cons r1 r2=>
  cases r2 with
  | cons r3 r4=>cases r4;exact ⟨_,_,rfl,r1,r3⟩
theorem kL (hc:X.calm=true):cQ X (.builtin "max") (λxs H Q=> ∃ i j,xs=[.int i,.int j]/\Q (.int (if j>i then j else i)) H):=by
 intro pins s σ H xs us Q I r h;obtain ⟨i,j,rfl,q⟩:=h;obtain ⟨u,w',rfl,⟨t,rfl⟩,⟨t',rfl⟩⟩:=iH r;refine max_two_ints (I.ok.hd hc) λh' tk k=>⟨_,H,I.kept k,?_,q⟩;by_cases hj:j>i
 ·rw [AX hj,AX hj];exact ⟨_,rfl⟩
 ·rw [AQ hj,AQ hj];exact ⟨_,rfl⟩
theorem kK (hc:X.calm=true):cQ X (.builtin "min") (λxs H Q=> ∃ i j,xs=[.int i,.int j]/\Q (.int (if j<i then j else i)) H):=by
 intro pins s σ H xs us Q I r h;obtain ⟨i,j,rfl,q⟩:=h;obtain ⟨u,w',rfl,⟨t,rfl⟩,⟨t',rfl⟩⟩:=iH r;refine min_two_ints (I.ok.hd hc) λh' tk k=>⟨_,H,I.kept k,?_,q⟩;by_cases hj:j<i
 ·rw [AX hj,AX hj];exact ⟨_,rfl⟩
 ·rw [AQ hj,AQ hj];exact ⟨_,rfl⟩
theorem eJ:cQ X (.type "int") (λxs H Q=>(∃ i,xs=[.int i]/\Q (.int i) H)\/ ∃ k,xs=[.bl k]/\Q (.int (if k then 1 else 0)) H):=by
 intro pins s σ H xs us Q I r h;rcases h with ⟨i,rfl,q⟩ | ⟨k,rfl,q⟩
 ·obtain ⟨u,rfl,t,rfl⟩:=gh r;exact call_int_int ⟨.int i,H,I,⟨_,rfl⟩,q⟩
 ·obtain ⟨u,rfl,r1⟩:=gh r;cases r1;exact call_int_bool ⟨.int (if k then 1 else 0),H,I.tok _,⟨_,rfl⟩,q⟩
end
structure ObjM (h:Heap) (x dx C:Addr) (mA:Str->Option Value):Prop where
 obj:h.get? x=some (W.instObj C dx)
 ns:h.Ns1 dx mA
 ne:dx≠x
theorem kA {h:Heap} {dx:Addr} {mA:Str->Option Value} (n:h.Ns1 dx mA): ∃ od,h.get? dx=some od/\ ∀ name,W.lookIn name od=some (mA name):=by
 obtain ⟨o,es,ep,ho,hd,hk,_,hm⟩:=n;refine ⟨o,ho,λname=>?_⟩;have e:=hm name;unfold nsFind findBy at e;rw [<- Array.find?_toList]at e;unfold W.lookIn;rw [hd];dsimp only;split
 ·rename_i y q;rw [q]at e;exact congrArg some e
 ·rename_i q;rw [q]at e;have a:es.toList.any (·.refKey)=false:=by
   rw [List.any_eq_false];intro y hy;obtain ⟨z,t,hkey⟩:=hk y (Array.mem_toList_iff.mp hy);simp [DictEntry.refKey,hkey]
  have a': ¬ es.toList.any (·.refKey)=true:=by rw [a];exact AR
  rw [AQ a'];exact congrArg some e
theorem ObjM.look {h:Heap} {x dx C:Addr} {mA:Str->Option Value} (I:ObjM h x dx C mA): ∃ od,W.InstAt h x (W.instObj C dx) C (some od)/\ ∀ name,W.lookIn name od=some (mA name):=
 let ⟨od,ho,hl⟩:=kA I.ns
 ⟨od,⟨I.obj,rfl,rfl,ho⟩,hl⟩
theorem RelO.some_of {v:V} {o:Option Value} (r:RelO (some v) o): ∃ u,o=some u/\RelV v u:=by
 cases o with
 | none=>exact (show False from r).elim
 | some u=>exact ⟨u,rfl,r⟩
theorem sB {v:V} {u:Value} (r:RelV v u):W.handedIn u=true:=by
 cases v with
 | non=>cases (show u=Value.none from r);rfl
 | bl b=>cases (show u=Value.bool b from r);rfl
 | int i=>obtain ⟨t,e⟩:=(show ∃ t,u=Value.int i t from r);cases e;rfl
 | str x=>obtain ⟨t,e⟩:=(show ∃ t,u=Value.str x t from r);cases e;rfl
 | byt b=>obtain ⟨t,e⟩:=(show ∃ t,u=Value.bytes b t from r);cases e;rfl
 | flt b=>obtain ⟨t,e⟩:=(show ∃ t,u=Value.float b t from r);cases e;rfl
 | ref a=>cases (show u=Value.ref a from r);rfl
 | ty n=>cases (show u=Value.type n from r);rfl
section
variable {P:Program} {w:World} {H H':Hp} {h h':Heap} {a C dx:Addr} {fs fs':List (Str×V)}
theorem wO (hok:HOk P w H h) (e:H a=some (.ins C dx fs)): ∃ mA,ObjM h a dx C mA/\(∀ f,RelO (fs.lookup f) (mA f))/\PySem.Within mA (fs.map (·.1))/\fs.length<=1000/\H dx=some (.own a):=by
 obtain ⟨d,z,ne,ob,mA,n,r,q⟩:=(show ObjOk P w H h a (.ins C dx fs)from hok a _ e);exact ⟨mA,⟨ob,n,ne⟩,r,q,z,d⟩
end
structure Cls (K:W.Frag) (C:Addr):Prop where
 pg:W.plainGet K C Str.empty=true
 hd:W.hasDictIn K C=true
 po:W.plainOver K C=true
 sa:W.findIn K (.ref C) "__setattr__"=some (some (.builtin "object.__setattr__"))
theorem Cls.get {K:W.Frag} {C:Addr} (c:Cls K C) (f:Str):W.plainGet K C f=true:=c.pg
section
variable {X:Cx} {pins:List (Addr×Obj)} {σ:St} {H:Hp} {s:Shared} {a C dx:Addr} {fs:List (Str×V)} {f:Str} {v:V} {A:Around} {E:Value->Shared->Prop}
theorem w6 {prog:Program} {w:World} {env:Env} {e:Expr} {f:Str} {pos:Pos} {s:Shared} {Q:Value->Shared->Prop} (hb:attributeBase e f env (eval e env)=eval e env)
  (h:wpAny (model prog w) A (eval e env) (λo s₁=>wpAny (model prog w) A (getAttr o f true) Q E s₁) E s):wpAny (model prog w) A (eval (.Attribute e f pos) env) Q E s:=
 Attribute_any_ h (by rw [arm_eval_Attribute,hb])
end
def zP (X:Cx) (op:Operator) (rd:V->V->Hp->VK->Prop):Prop:=
 ∀ (pins:List (Addr×Obj)) (s:Shared) (σ:St) (H:Hp) (x y:V) (u v:Value) (Q:VK),Inv X pins σ H s->RelV x u->RelV y v->rd x y H Q->wpAny (model X.prog X.w) X.A (inplaceOp op u v) (EP X pins σ Q) X.xe s
section
variable {X:Cx} {o e value:Expr} {f:Str} {pos pos' tpos:Pos} {ta tv:TE}
noncomputable def Ab:V->V->Hp->VK->Prop:=λx y H Q=> ∃ i j,x=.int i/\y=.int j/\Q (.int (i-j)) H
theorem yn:zP X .Sub Ab:=by
 rintro pins s σ H x y u v Q I rx ry ⟨i,j,rfl,rfl,q⟩;obtain ⟨t,rfl⟩:=(show ∃ t,u=Value.int i t from rx);obtain ⟨t',rfl⟩:=(show ∃ t',v=Value.int j t' from ry);exact PyProof.Rows.isub_int ⟨.int (i-j),H,I.tok _,⟨_,rfl⟩,q⟩
end
section
variable {X:Cx} {pins:List (Addr×Obj)} {σ:St} {H:Hp} {s:Shared} {A:Around} {E:Value->Shared->Prop} {Q:Value->Shared->Prop} {c:Value} {b:Bool}
inductive im (K:W.Frag) (H:Hp):V->Value->Prop where
 | non:im K H .non (.type "NoneType")
 | bl (x:Bool):im K H (.bl x) (.type "bool")
 | int (i:Int):im K H (.int i) (.type "int")
 | str (x:Str):im K H (.str x) (.type "str")
 | flt (x:UInt64):im K H (.flt x) (.type "float")
 | lst {a:Addr} {xs:List V} (e:H a=some (.lst xs)):im K H (.ref a) (.type "list")
 | frz {a:Addr} {o:Obj} {xs:List V} (e:H a=some (.frz o (.lst xs))):im K H (.ref a) (.type "list")
 | tup {a:Addr} {xs:List V} (e:H a=some (.tup xs)):im K H (.ref a) (.type "tuple")
 | dK {a:Addr} {kvs:List (Key×V)} (e:H a=some (.dK kvs)):im K H (.ref a) (.type "dict")
 | dT {a:Addr} {kvs:List (List Key×V)} (e:H a=some (.dT kvs)):im K H (.ref a) (.type "dict")
 | ins {a C dx:Addr} {fs:List (Str×V)} (e:H a=some (.ins C dx fs)) (cl:Cls K C) (ha:W.findIn K (.ref C) "__class__"=some (some (.builtin "object.__class__")))
   (hn:W.specialIn K (.builtin "object.__class__") "__get__"=some (some (.builtin "getset_descriptor.__get__"))) (htk:W.takesIn K (.builtin "object.__class__")=some true)
   (hm:W.mroIn K C (.type "object")=some true):im K H (.ref a) (.ref C)
theorem su {x:V} {u t:Value} (I:Inv X pins σ H s) (rx:RelV x u) (ty:im X.K H x t) (e:W.kitOne X.K t c=some b) (h: ∀ tk,Q (.bool b) {s with toks:=tk}):
  wpAny (model X.prog X.w) A (call (.builtin "isinstance") [u,c]) Q E s:=by
 cases ty with
 | non=>cases (show u=Value.none from rx);exact BV W.kitx_none I.kIn True.intro e (λz=>nomatch z) h
 | bl y=>cases (show u=Value.bool y from rx);exact BV W.kitx_bool I.kIn True.intro e (λz=>nomatch z) h
 | int i=>obtain ⟨t,q⟩:=(show ∃ t,u=Value.int i t from rx);cases q;exact BV W.kitx_int I.kIn True.intro e (λz=>nomatch z) h
 | str y=>obtain ⟨t,q⟩:=(show ∃ t,u=Value.str y t from rx);cases q;exact BV W.kitx_str I.kIn True.intro e (λz=>nomatch z) h
 | flt y=>obtain ⟨t,q⟩:=(show ∃ t,u=Value.float y t from rx);cases q;exact BV W.kitx_float I.kIn True.intro e (λz=>nomatch z) h
 | @lst a xs ea=>
  cases (show u=Value.ref a from rx);obtain ⟨_,_,n,_,h1⟩:=(show ObjOk X.prog X.w H s.heap a (.lst xs)from I.hok a _ ea);exact BV E6 I.kIn ⟨_,h1,rfl⟩ e (λz=>nomatch z) h
 | @frz a ob xs ea=>
  cases (show u=Value.ref a from rx);obtain ⟨_,_,_,n,_,h1⟩:=(show ObjOk X.prog X.w H s.heap a (.frz ob (.lst xs))from I.hok a _ ea);exact BV E6 I.kIn ⟨_,h1,rfl⟩ e (λz=>nomatch z) h
 | @tup a xs ea=>
  cases (show u=Value.ref a from rx);obtain ⟨_,_,_,p⟩:=(show ObjOk X.prog X.w H s.heap a (.tup xs)from I.hok a _ ea);obtain ⟨o,h1,h2,_⟩:=p;exact BV W.kitx_tuple I.kIn ⟨o,h1,h2⟩ e (λz=>nomatch z) h
 | @dK a kvs ea=>
  cases (show u=Value.ref a from rx);obtain ⟨_,_,vs,_,p⟩:=(show ObjOk X.prog X.w H s.heap a (.dK kvs)from I.hok a _ ea);obtain ⟨o,es,ep,h1,h2,_⟩:=p;exact BV W.kitx_dict I.kIn ⟨o,h1,h2.1⟩ e (λz=>nomatch z) h
 | @dT a kvs ea=>
  cases (show u=Value.ref a from rx);obtain ⟨_,_,xs,_,o,es,ep,h1,h2,_⟩:=(show ObjOk X.prog X.w H s.heap a (.dT kvs)from I.hok a _ ea);exact BV W.kitx_dict I.kIn ⟨o,h1,h2.1⟩ e (λz=>nomatch z) h
 | @ins a C dx fs ea cl ha hn htk hm=>
  cases (show u=Value.ref a from rx);obtain ⟨mA,O,_⟩:=wO I.hok ea;obtain ⟨od,J,_⟩:=O.look;exact BV (W.kitx_own (cl.get _) cl.hd ha hn htk hm) I.kIn J e (λz=>nomatch z) h
end
structure Room (k:Nat) (A:Around):Prop where
 hd:A.handled=none
 dp:A.depth+3*k+5<recursionLimit
 un:A.units+16*k+200<cLine
theorem Room.mono {j k:Nat} {A:Around} (r:Room k A) (h:j<=k):Room j A:=⟨r.hd,by have:=r.dp;lia,by have:=r.un;lia⟩
theorem Room.deeper {k:Nat} {A:Around} (r:Room (k+1) A) (env:Env):Room k (A.deeper env):=
 ⟨r.hd,by have:=r.dp;show A.depth+1+3*k+5<_;lia,by have:=r.un;show A.units+3+16*k+200<_;lia⟩
theorem pc {A:Around} {C:Addr} {us:List Value} {kw:List (Str×Value)}:(A.under (.builtin "type.__call__" ⟨.ref C::us,kw⟩)).depth=A.depth+1:=by
 first | rfl | simp [Around.under,Code.weight,Code.isCreation,Code.isGuard,Code.isCaller,Code.frames,Code.isFrame,guardIds]
theorem oZ {A:Around} {C:Addr} {us:List Value} {kw:List (Str×Value)}:(A.under (.builtin "type.__call__" ⟨.ref C::us,kw⟩)).units=A.units+1:=by
 first | rfl | simp [Around.under,Code.cUnits,Code.frames,Code.isFrame]
theorem Room.make {k:Nat} {A:Around} (r:Room (k+1) A) (C:Addr) (us:List Value) (kw:List (Str×Value)):Room k (A.under (.builtin "type.__call__" ⟨.ref C::us,kw⟩)):=
 ⟨r.hd,by have:=r.dp;rw [pc];lia,by have:=r.un;rw [oZ];lia⟩
theorem Room.depth {k:Nat} {A:Around} (r:Room k A):A.depth<recursionLimit:=by have:=r.dp;lia
theorem Room.units {k:Nat} {A:Around} (r:Room k A):A.units+64<cLine:=by have:=r.un;lia
theorem Room.units0 {k:Nat} {A:Around} (r:Room k A):A.units<cLine:=by have:=r.un;lia
def zV:TA:=λ_ H Q=>Q [] H
def xg (ta:TE) (tr:TA):TA:=λσ H Q=>ta σ H λx H1=>tr σ H1 λxs H2=>Q (x::xs) H2
section
variable {X:Cx} {e:Expr} {es:List Expr} {te:TE} {t:TA} {pos:Pos}
theorem ae:PA X [] zV:=λ_ _ _ _ H Q I h=>Dw ⟨[],H,I,.nil,h⟩
theorem aa (ha:PE X e te) (hr:PA X es t) (hs:starEach (e::es) X.env=(false,eval e X.env)::starEach es X.env:=by rfl):PA X (e::es) (xg te t):=by
 intro pos pins s σ H Q I h;rw [hs];show wpAny _ _ (spliced ((false,eval e X.env)::backTo pos (starEach es X.env))) _ _ s;refine CS (thn (ha pins s σ H _ I h) λu s1 ⟨x,H1,I1,r1,q1⟩=>?_);exact thn (hr pos pins s1 σ H1 _ I1 q1) λus s2 ⟨xs,H2,I2,r2,q2⟩=>⟨x::xs,H2,I2,.cons r1 r2,q2⟩
def zR (t:TA):TE:=λσ H Q=>t σ H λxs H1=>xs.length<=sizeLine/\ ∀ p,H1 p=none->Q (.ref p) (upd H1 p (.tup xs))
def yP (t:TA):TE:=λσ H Q=>t σ H λxs H1=>xs.length<=sizeLine/\ ∀ p,H1 p=none->Q (.ref p) (upd H1 p (.lst xs))
theorem aF {x1} (h:PA X es t):PE X (.Tuple es x1 pos) (zR t):=by
 intro pins s σ H Q I hq;refine wpAny_Tuple_spliced (thn (h pos pins s σ H _ I hq) λus s1 ⟨xs,H1,I1,r,z,q⟩=>⟨by rw [<- r.length];exact z,?_⟩);have hf:H1 s1.heap.objs.size=none:=I1.hok.fresh (AJ _);refine ⟨.ref s1.heap.objs.size,upd H1 s1.heap.objs.size (.tup xs),I1.laid (t':=s1.toks) (λb u e=>AC _ e) (AJ _) ?_,rfl,q _ hf⟩;exact ⟨z,us,r,⟨_,AU _ rfl,rfl,_,rfl⟩⟩
theorem bd (h:PA X es t):PE X (.List es pos) (yP t):=by
 intro pins s σ H Q I hq;refine wpAny_List_spliced (thn (h pos pins s σ H _ I hq) λus s1 ⟨xs,H1,I1,r,z,q⟩=>⟨by rw [<- r.length];exact z,?_⟩);have hf:H1 s1.heap.objs.size=none:=I1.hok.fresh (AJ _);refine ⟨.ref s1.heap.objs.size,upd H1 s1.heap.objs.size (.lst xs),I1.laid (t':=s1.toks) (λb u e=>AC _ e) (AJ _) ?_,rfl,q _ hf⟩;exact ⟨z,us,0,r,AU _ rfl⟩
end
abbrev Sp:=List V->Hp->VK->XK->Prop
abbrev CXT:=List Env->Hp->Shared->XK->Value->Shared->Prop
structure Env0 (P:Program) (w:World) (K:W.Frag) (mg:Str->Option Value) (base:Heap) (A:Around) (outer:List Env) (s:Shared) (H:Hp):Prop where
 frames:A.frames=some outer
 mod:Mod K mg base
 bs: ∀ b o,base.get? b=some o->s.heap.get? b=some o/\H b=none
 bsz:base.objs.size<=s.heap.objs.size
 funs:s.heap.FunFrames base outer
 frf: ∀ b∈frs outer,H b=none
 hok:HOk P w H s.heap
 bare:AllBare s.gens
inductive CE (outer:List Env) (P:Program) (w:World) (H:Hp) (s:Shared) (Q:VK) (u:Value) (s':Shared):Prop
 | mk: ∀ v H',(s'.os=s.os)->(AllBare s'.gens)->(Un (frs outer) [] H H' s.heap s'.heap)->(HOk P w H' s'.heap)->(RelV v u)->(Q v H')->CE outer P w H s Q u s'
def CR (CX:CXT) (outer:List Env) (P:Program) (w:World) (H:Hp) (s:Shared) (Q:VK) (E:XK) (r:Result) (s':Shared):Prop:=
 match r with
 | .ok (.ret u)=>CE outer P w H s Q u s'
 | .ok _=>False
 | .error e=>CX outer H s E e s'
structure a8 (P:Program) (w:World) (K:W.Frag) (mg:Str->Option Value) (base:Heap) (CX:CXT) (k:Nat) (f:Addr) (fd:FuncData) (ps:List Str) (sp:Sp):Prop where
 len: ∀ vs H Q E,sp vs H Q E->vs.length=ps.length
 run: ∀ (A:Around) (outer:List Env) (s:Shared) (H:Hp) (args:Args) (us:List Value) (vs:List V) (Q:VK) (E:XK),Room k A->Env0 P w K mg base A outer s H->BindsTo s fd args (ps.zip us)->Vals vs us->sp vs H Q E->
  codeAny (model P w) A (.call (.ref f) args) (CR CX outer P w H s Q E) s
theorem Env0.make {P:Program} {w:World} {K:W.Frag} {mg:Str->Option Value} {base:Heap} {A:Around} {outer:List Env} {s:Shared} {H:Hp} (e:Env0 P w K mg base A outer s H) (C:Addr) (us:List Value) (kw:List (Str×Value)):
  Env0 P w K mg base (A.under (.builtin "type.__call__" ⟨.ref C::us,kw⟩)) outer s H:=⟨by first | exact e.frames | (simpa [Around.under,Code.envs,Code.isFrame,pushEnvs]using e.frames),e.mod,e.bs,e.bsz,e.funs,e.frf,e.hok,e.bare⟩
section
variable {X:Cx} {pins:List (Addr×Obj)} {σ:St} {H:Hp} {s s':Shared}
theorem Inv.env0 (I:Inv X pins σ H s):Env0 X.prog X.w X.K X.mg X.base X.A X.stack s H:=
 ⟨I.ok.frames,I.ok.mod,I.bs,Bm I.ok.bsz I.sz,I.stack,I.stkFree,I.hok,I.bare⟩
theorem Inv.after {Q:VK} {u:Value} (I:Inv X pins σ H s) (h:CE X.stack X.prog X.w H s Q u s'):EP X pins σ Q u s':=by
 obtain ⟨v,H',os,bare,un,hok,r,q⟩:=h;obtain ⟨hh,g,d,t,os'⟩:=s';obtain rfl:os'=s.os:=os;exact ⟨v,H',I.call (h':=hh) (g':=g) (d':=d) (t':=t) (ch:=[]) un hok bare (λb z=>absurd z (by simp)),r,q⟩
end
def tG (sp:Sp) (dvs:List V) (E:XK) (t:TA):TE:=λσ H Q=>t σ H λvs H1=>sp (vs++dvs) H1 Q E
def Binds (K:W.Frag) (fd:FuncData) (ps:List Str) (ds:List Value):Prop:=
 ∀ (s:Shared) (us:List Value),K.In s.heap->(us++ds).length=ps.length->BindsTo s fd ⟨us,[]⟩ (ps.zip (us++ds))
theorem Binds.all {K:W.Frag} {fd:FuncData} {ps:List Str} (h: ∀ us:List Value,us.length=ps.length->bindArgs fd ⟨us,[]⟩=pure (ps.zip us)):Binds K fd ps []:=λs us _ hl=>by
 rw [Bh]at hl ⊢;exact .of_eq (h us hl)
def fM (CX:CXT) (X:Cx) (E:XK):Prop:= ∀ (pins:List (Addr×Obj)) (σ:St) (H:Hp) (s:Shared) (e:Value) (s':Shared),Inv X pins σ H s->CX X.stack H s E e s'->X.xe e s'
structure Cl (P:Program) (w:World) (K:W.Frag) (mg:Str->Option Value) (base:Heap) (CX:CXT) (k:Nat) (f:Addr) (fd:FuncData) (ps:List Str) (sp:Sp) (x:Str):Prop where
 F:a8 P w K mg base CX k f fd ps sp
 b:Binds K fd ps []
 c:W.keepIn K (.ref f)=true
 m:mg x=some (.ref f)
section
variable {X:Cx} {CX:CXT} {k:Nat} {f C:Addr} {fd:FuncData} {ps:List Str} {sp:Sp} {dvs:List V} {ds:List Value} {E:XK} {x m:Str} {p pos apos:Pos} {e o:Expr} {es:List Expr} {ta:TE} {t:TA}
theorem xN {pins:List (Addr×Obj)} {σ:St} {H:Hp} {s:Shared} {Q:VK} {us:List Value} {vs:List V} (F:a8 X.prog X.w X.K X.mg X.base CX k f fd ps sp) (hr:Room k X.A) (hb:Binds X.K fd ps ds) (hd:Vals dvs ds) (hx:fM CX X E)
  (I:Inv X pins σ H s) (r:Vals vs us) (h:sp (vs++dvs) H Q E):wpAny (model X.prog X.w) X.A (call (.ref f) us) (EP X pins σ Q) X.xe s:=by
 have r2:Vals (vs++dvs) (us++ds):=r.append hd;have hl:(us++ds).length=ps.length:=by rw [<- r2.length];exact F.len _ _ _ _ h
 refine Dg (Dh (F.run X.A X.stack s H ⟨us,[]⟩ (us++ds) (vs++dvs) Q E hr I.env0 (hb s us I.kIn hl) r2 h) λr s' hq=>?_);cases r with
 | error e=>exact hx pins σ H s e s' I hq
 | ok fl=>
  cases fl with
  | ret u=>exact I.after hq
  | next=>exact False.elim hq
  | brk=>exact False.elim hq
  | cont=>exact False.elim hq
theorem gX (F:a8 X.prog X.w X.K X.mg X.base CX k f fd ps sp) (hr:Room k X.A) (hg:Gl X x) (hm:X.mg x=some (.ref f)) (hk:W.keepIn X.K (.ref f)=true) (hb:Binds X.K fd ps ds) (hd:Vals dvs ds) (hx:fM CX X E)
  (ha:PA X (e::es) t) (hdb:(x==("__debug__":Str))=false:=by decide) (he:starEach (e::es) X.env=(false,eval e X.env)::starEach es X.env:=by rfl) (hpl:(backTo pos (starEach es X.env)).any (·.1)=false:=by rfl):
  PE X (.Call (.Name x p) (e::es) [] pos) (tG sp dvs E t):=by
 intro pins s σ H Q I h;refine Cu (dR I hg hm ?_ hdb);refine Di (h₀:=X.base) I.ok.mod.kin hk (thn (ha pos pins s σ H _ I h) λus s1 ⟨vs,H1,I1,r,q⟩=>⟨I1.kIn,?_⟩) he hpl;exact xN F hr hb hd hx I1 r q
end
structure av (N P:List Str) (sc:Scope):Prop where
 kind:sc.kind=.function
 co:sc.isCoroutine=false
 gen:sc.isGenerator=false
 nd:N.Nodup
 pre:N.take P.length=P
 par: ∀ x∈P,sc.names.lookup x=some .local\/sc.names.lookup x=some .cell
 nofree: ∀ y∈sc.names,y.2≠ .free
theorem fsc {N P:List Str} {sc:Scope} (kind_:sc.kind=.function:=by rfl) (co_:sc.isCoroutine=false:=by rfl) (gen_:sc.isGenerator=false:=by rfl) (nd_:N.Nodup:=by decide +kernel) (pre_:N.take P.length=P:=by rfl) (par_: ∀ x∈P,sc.names.lookup x=some .local\/sc.names.lookup x=some .cell:=by decide +kernel) (nofree_: ∀ y∈sc.names,y.2≠ .free:=by decide +kernel):av N P sc:=⟨kind_,co_,gen_,nd_,pre_,par_,nofree_⟩
theorem kO {kindOf:Str->Option NameKind} {x:Str}: ∀ {binds:List (Str×Value)} {m:Str->Option Value},(∀ v,(x,v)∉binds)->bindL kindOf binds m x=m x
 | [],_,_=>rfl
 | (n,v)::r,m,h=>by
  unfold bindL;rw [kO λw hw=>h w (A2 _ hw)];split
  ·have:x≠n:=by rintro rfl;exact h v A3
   simp [this]
  ·rfl
theorem kQ {kindOf:Str->Option NameKind} {x:Str}: ∀ {binds:List (Str×Value)} {m:Str->Option Value},(∀ v,(x,v)∉binds)->bindC kindOf binds m x=m x
 | [],_,_=>rfl
 | (n,v)::r,m,h=>by
  unfold bindC;rw [kQ λw hw=>h w (A2 _ hw)];split
  ·rfl
  ·have:x≠n:=by rintro rfl;exact h v A3
   simp [this]
theorem kP {kindOf:Str->Option NameKind} {x:Str} {v:Value}: ∀ {P:List Str} {vs:List Value} {i:Nat} {m:Str->Option Value},P.Nodup->P[i]? =some x->vs[i]? =some v->kindOf x=some .local->
  bindL kindOf (P.zip vs) m x=some v
 | [],_,_,_,_,h,_,_=>by simp at h
 | _::_,[],_,_,_,_,h,_=>by simp at h
 | p::P,w::vs,0,m,nd,h1,h2,hk=>by
  simp at h1 h2;subst h1;subst h2;show bindL kindOf ((p,w)::P.zip vs) m p=_;unfold bindL;rw [kO λv hv=>(BG.mp nd).1 (EI hv).1,AX hk];simp
 | p::P,w::vs,i+1,m,nd,h1,h2,hk=>by
  show bindL kindOf ((p,w)::P.zip vs) m x=_;unfold bindL;exact kP (i:=i) (BG.mp nd).2 (by simpa using h1) (by simpa using h2) hk
theorem kR {kindOf:Str->Option NameKind} {x:Str} {v:Value}: ∀ {P:List Str} {vs:List Value} {i:Nat} {m:Str->Option Value},P.Nodup->P[i]? =some x->vs[i]? =some v->kindOf x≠some .local->
  bindC kindOf (P.zip vs) m x=some v
 | [],_,_,_,_,h,_,_=>by simp at h
 | _::_,[],_,_,_,_,h,_=>by simp at h
 | p::P,w::vs,0,m,nd,h1,h2,hk=>by
  simp at h1 h2;subst h1;subst h2;show bindC kindOf ((p,w)::P.zip vs) m p=_;unfold bindC;rw [kQ λv hv=>(BG.mp nd).1 (EI hv).1,AQ hk];simp
 | p::P,w::vs,i+1,m,nd,h1,h2,hk=>by
  show bindC kindOf ((p,w)::P.zip vs) m x=_;unfold bindC;exact kR (i:=i) (BG.mp nd).2 (by simpa using h1) (by simpa using h2) hk
noncomputable def start (N:List Str) (vs:List V):St:=vs.map some++List.replicate (N.length-vs.length) none
noncomputable def cG (CX:CXT) (P:Program) (w:World) (K:W.Frag) (mg:Str->Option Value) (base:Heap) (N:List Str) (qual:Str) (scope:Scope) (f:Addr) (cd:Value) (A:Around) (outer:List Env) (s:Shared) (H:Hp) (E:XK):Cx where
 prog:=P
 w:=w
 K:=K
 mg:=mg
 base:=base
 A:=A.deeper (envOfC qual scope s.heap.objs.size f cd)
 N:=N
 s₀:=s
 H₀:=H
 env:=envOfC qual scope s.heap.objs.size f cd
 outer:=outer
 stack:=envOfC qual scope s.heap.objs.size f cd::outer
 ex:=[]
 calm:=true
 fn:=λ_=>true
 pn:=[]
 xe:=λe s'=>wpAny (model P w) (A.deeper (envOfC qual scope s.heap.objs.size f cd)) (leaving (envOfC qual scope s.heap.objs.size f cd) e) (λ_ s''=>CX outer H s E e s'') (λe' s''=>CX outer H s E e' s'') s'
theorem nI {sc:Scope} {n:Nat} {x:Str} (h:sc.names.lookup x=some .cell): ∃ c,(cellsFrom n sc.names []).lookup x=some c:=by
 have q:=W.cellsFrom_some sc.names n [] (.inl h);exact DQ.mp q
theorem sw {CX:CXT} {P:Program} {w:World} {K:W.Frag} {mg:Str->Option Value} {base:Heap} {N ps:List Str} {qual:Str} {scope:Scope} {f:Addr} {cd:Value} {A:Around} {outer:List Env} {s s1:Shared} {H:Hp} {E:XK} {us:List Value} {vs:List V}
  (S:av N ps scope) (hd:A.handled=none) (e0:Env0 P w K mg base A outer s H) (hl:vs.length=ps.length) (r:Vals vs us)
  (x:InCallC s s.heap.objs.size (bindL (envOfC qual scope s.heap.objs.size f cd).kindOf (ps.zip us) λ_=>none) (cellsFrom (s.heap.objs.size+1) scope.names []) (bindC (envOfC qual scope s.heap.objs.size f cd).kindOf (ps.zip us) λ_=>none) s1):
  Inv (cG CX P w K mg base N qual scope f cd A outer s H E) [] (start N vs) H s1:=by
 have hpl:ps.length<=N.length:=by have:=congrArg List.length S.pre;rw [A4]at this;lia
 obtain ⟨h1,tk,rfl,hk⟩:=x.done;have noA: ∀ b:Addr,b∉(cG CX P w K mg base N qual scope f cd A outer s H E).ex:=λb z=>absurd (show b∈([]:List Addr)from z) (by simp);refine ⟨⟨e0.mod,S.kind,rfl,rfl,AJ _,λy z c h1 h2=>?_,λy hy=>?_,λy c _ h=>?_,λ_=>hd,Around.frames_deeper e0.frames,.inr ⟨rfl,rfl⟩,λb z=>absurd z (noA b),e0.bs,e0.bsz,λb _ _=>noA b,λb z=>absurd z (noA b),e0.funs,e0.frf⟩,
  rfl,e0.bare,Un.kept hk,⟨_,x.toInCall.ns,λi y v h1 h2 h3=>?_⟩,λy c h=>⟨_,x.cell y c h⟩,e0.hok.fresh (AJ _),λy c h=>?_,λp hp=>absurd (show p∈([]:List (Addr×Obj))from hp) (by simp),e0.hok.kept hk,?_⟩
 ·exact name_of_addr x.apart (Dc h1) (Dc h2)
 ·have hy:scope.names.lookup y=some .cell\/scope.names.lookup y=some .free:=hy;rcases hy with hy | hy
  ·exact nI hy
  ·exact absurd rfl (S.nofree _ (Dc hy))
 ·exact Bj (x.above y c (Dc h))
 ·have hi:i<vs.length:=by
   unfold start at h2;by_cases hi:i<vs.length
   ·exact hi
   ·rw [Bx (by simpa using hi)]at h2;rw [List.getElem?_replicate]at h2;split at h2 <;> cases h2
  have ha:vs[i]? =some v:=by
   unfold start at h2;rw [Bu (by simpa using hi),AS]at h2;cases e:vs[i]? with
   | none=>rw [e]at h2;cases h2
   | some a=>rw [e]at h2;cases h2;rfl
  obtain ⟨u,hu,rv⟩:=r.get ha;have hp:ps[i]? =some y:=by
   rw [<- S.pre,C6 (by lia)];exact h1
  have ndP:ps.Nodup:=by rw [<- S.pre];exact S.nd.sublist (Dx _ _)
  refine ⟨u,rv,?_⟩;rcases S.par y (AH hp)with k | k
  ·exact .inl ⟨k,kP ndP hp hu k⟩
  ·obtain ⟨c,e⟩:=nI (n:=s.heap.objs.size+1) k;refine .inr ⟨.inl k,c,e,?_⟩;have q:=x.cell y c e;rw [kR ndP hp hu (by show scope.names.lookup y≠_;rw [k];decide)]at q;exact q
 ·exact e0.hok.fresh (Bj (x.above y c (Dc h)))
 ·unfold start;show _=N.length;rw [AI,AD,CW];lia
theorem vh {CX:CXT} {P:Program} {w:World} {K:W.Frag} {mg:Str->Option Value} {base:Heap} {k:Nat} {f:Addr} {name qual:Str} {params:Arguments} {body:List Stmt} {scope:Scope} {dV kV doc pm cdv ct oc:Value} {an od:Option Addr}
  {osl:Array (Option Value)} {N ps:List Str} {sp:Sp} (lk:K.lookup f=some ⟨oc,od,.func (W.fnOf name qual params body scope dV kV doc pm an cdv ct),osl⟩) (hcd:W.codeIn K cdv qual=true) (S:av N ps scope)
  (len: ∀ vs H Q E,sp vs H Q E->vs.length=ps.length)
  (hbody: ∀ (A:Around) (outer:List Env) (s:Shared) (H:Hp) (vs:List V) (Q:VK) (E:XK),Room k (A.deeper (envOfC qual scope s.heap.objs.size f cdv))->sp vs H Q E->
   ∃ t,PSs (cG CX P w K mg base N qual scope f cdv A outer s H E) body t/\t {nx:=λ_ H'=>Q .non H',rt:=Q} (start N vs) H):
  a8 P w K mg base CX (k+1) f (W.fnOf name qual params body scope dV kV doc pm an cdv ct) ps sp:=by
 refine ⟨len,λA outer s H args us vs Q E hr e0 hb r hsp=>?_⟩;have hl:=len _ _ _ _ hsp;have KX:K.In s.heap:=e0.mod.kin.keeps λb o e=>(e0.bs b o e).1;have lim:s.heap.NoLimit:=e0.mod.nolimit.keeps λb o e=>(e0.bs b o e).1;have hkind: ∀ y∈ps.zip us,scope.names.lookup y.1=some .local\/(scope.names.lookup y.1=some .cell/\((cellsFrom (s.heap.objs.size+1) scope.names []).lookup y.1).isSome=true):=λ⟨n,v⟩ hy=>by
  rcases S.par n (EI hy).1 with q | q
  ·exact .inl q
  ·exact .inr ⟨q,W.cellsFrom_some _ _ _ (.inl q)⟩
 refine codeAny_call_function hr.depth (KX _ _ lk) rfl S.co S.gen rfl (W.codeRec_of KX hcd) (hb _ _ _ _ ?_);refine wpAny_newFunctionEnv_cells S.kind hkind λenv he s1 x=>?_;subst he;refine ⟨lim.keeps x.toInCall.keep,codeAny_func ?_⟩;obtain ⟨t,ht,hq⟩:=hbody A outer s H vs Q E (hr.deeper _) hsp;have I:Inv (cG CX P w K mg base N qual scope f cdv A outer s H E) [] (start N vs) H s1:=sw S hr.hd e0 hl r x;refine BS (ht [] s1 (start N vs) H _ I hq) (λfl s' hs=>?_) λe s' hs=>hs;have fin: ∀ {σ':St} {H':Hp} {v:V} {u:Value},Inv (cG CX P w K mg base N qual scope f cdv A outer s H E) [] σ' H' s'->RelV v u->Q v H'->CE outer P w H s Q u s':=
  λ{σ' H' v u} J rv q=>⟨v,H',J.os,J.bare,J.base,J.hok,rv,q⟩
 cases fl with
 | ret u=>
  obtain ⟨v,σ',H',J,rv,q⟩:=hs;exact fin J rv q
 | next=>
  obtain ⟨σ',H',J,q⟩:=hs;exact fin (v:=V.non) (u:=Value.none) J rfl q
 | brk=>
  obtain ⟨_,_,_,q⟩:=hs;exact False.elim q
 | cont=>
  obtain ⟨_,_,_,q⟩:=hs;exact False.elim q
section
variable {X:Cx} {x:Str} {p pos:Pos} {e:Expr} {es:List Expr} {t:TA} {id T:String} {r:List V->Hp->VK->Prop}
def tCB (r:List V->Hp->VK->Prop) (t:TA):TE:=λσ H Q=>t σ H λvs H1=>r vs H1 Q
theorem au (hc:cQ X (.builtin id) r) (hg:Gl X x) (hm:X.mg x=none) (hv:bootBuiltins x=some (.builtin id)) (ha:PA X (e::es) t) (hn:x≠"__name__":=by decide) (hdb:(x==("__debug__":Str))=false:=by decide)
  (he:starEach (e::es) X.env=(false,eval e X.env)::starEach es X.env:=by rfl) (hpl:(backTo pos (starEach es X.env)).any (·.1)=false:=by rfl):PE X (.Call (.Name x p) (e::es) [] pos) (tCB r t):=by
 intro pins s σ H Q I h;refine Cu (gH I hg hm hv ?_ hn hdb);exact Ew (thn (ha pos pins s σ H _ I h) λus s1 ⟨vs,H1,I1,r1,q1⟩=>hc pins s1 σ H1 vs us Q I1 r1 q1) he hpl
theorem aU (hc:cQ X (.type T) r) (hg:Gl X x) (hm:X.mg x=none) (hv:bootBuiltins x=some (.type T)) (ha:PA X (e::es) t) (hn:x≠"__name__":=by decide) (hdb:(x==("__debug__":Str))=false:=by decide)
  (he:starEach (e::es) X.env=(false,eval e X.env)::starEach es X.env:=by rfl) (hpl:(backTo pos (starEach es X.env)).any (·.1)=false:=by rfl):PE X (.Call (.Name x p) (e::es) [] pos) (tCB r t):=by
 intro pins s σ H Q I h;refine Cu (gH I hg hm hv ?_ hn hdb);exact Ce (thn (ha pos pins s σ H _ I h) λus s1 ⟨vs,H1,I1,r1,q1⟩=>hc pins s1 σ H1 vs us Q I1 r1 q1) he hpl
end
end L2
namespace HT
open PySem PyProof.Rows
section
variable {prog:Program} {w:World} {A:Around} {E:Value->Shared->Prop} {s:Shared}
theorem cat_tup {t b:Addr} {vs ws:List Value} {Q:Value->Shared->Prop} (ht:IsTup s.heap t vs.toArray) (hb:IsTup s.heap b ws.toArray) (hv:vs≠[])
  (h1:ws=[]->Q (.ref t) s) (h2:ws≠[]->Q (.ref s.heap.objs.size) {s with heap:=s.heap.push {cls:=.type "tuple",data:=.seq (vs++ws).toArray}})
  (hsz:vs.length+ws.length<=sizeLine):wpAny (model prog w) A (binaryOp .Add (.ref t) (.ref b)) Q E s:=by
 obtain ⟨⟨cls,dd,data,sl⟩,ho,hc,n,hd⟩:=id ht;obtain ⟨⟨cls2,dd2,data2,sl2⟩,ho2,hc2,n2,hd2⟩:=id hb;simp only at hc hd hc2 hd2;subst hc hd hc2 hd2;have e:vs.toArray++ws.toArray=(vs++ws).toArray:=by simp
 by_cases hw:ws=[]
 ·exact concat_meets ⟨_,ho,rfl⟩ ⟨_,ho2,rfl⟩ Fp seq_tuple_add Ei Ec (DR _ _)
   (tuple_addW1 t b vs.toArray ws.toArray n n2 dd dd2 sl sl2 (by simpa using hv) (by simp [hw])) ⟨ho,ho2,h1 hw⟩
 ·refine concat_meets ⟨_,ho,rfl⟩ ⟨_,ho2,rfl⟩ Fp seq_tuple_add Ei Ec (DR _ _)
   (tuple_addW2 t b vs.toArray ws.toArray n n2 dd dd2 sl sl2 (by simpa using hv) (by simpa using hw) (by rw [AL,AL];exact hsz)) ⟨ho,ho2,?_⟩
  rw [e];exact h2 hw
noncomputable def sIx (n d:Nat):Option Int->Nat
 | none=>d
 | some v=>if v<0 then (v+ (n:Int)).toNat else min v.toNat n
theorem sIx_none (n d:Nat):sIx n d none=d:=rfl
theorem sIx_nat (n d k:Nat):sIx n d (some (k:Int))=min k n:=by
 show (if (k:Int) <0 then ((k:Int) + (n:Int)).toNat else min (k:Int).toNat n)=min k n;rw [AQ (by lia),B4]
theorem xM (n d:Nat) (hd:d<=n) (o:Option Int):sIx n d o<=n:=by
 cases o with
 | none=>exact hd
 | some v=>
  show (if v<0 then (v+ (n:Int)).toNat else min v.toNat n)<=n;by_cases hv:v<0
  ·rw [AX hv];lia
  ·rw [AQ hv];exact Nat.min_le_right _ _
theorem qI (v:Int) (n d:Nat):(if v<0 then max (v+ (n:Int)) 0 else min v (n:Int))=((sIx n d (some v):Nat):Int):=by
 show (if v<0 then max (v+ (n:Int)) 0 else min v (n:Int))=(((if v<0 then (v+ (n:Int)).toNat else min v.toNat n):Nat):Int);by_cases hv:v<0
 ·simp only [AX hv];lia
 ·simp only [AQ hv];lia
theorem pN (lo hi:Option Int) (n:Nat):Builtin.Slice.sliceAdjust lo hi 1 (n:Int)=(((sIx n 0 lo:Nat):Int),((sIx n n hi:Nat):Int)):=by
 have h1: ¬ ((1:Int) <0):=by lia
 unfold Builtin.Slice.sliceAdjust;simp only [h1,BN];refine ER ?_ ?_
 ·cases lo with
  | none=>rfl
  | some v=>exact qI v n 0
 ·cases hi with
  | none=>rfl
  | some v=>exact qI v n n
theorem oH (i j:Nat):Builtin.Slice.slicePlaces (i:Int) (j:Int) 1=j-i:=by
 unfold Builtin.Slice.slicePlaces;have h1:(1:Int) >0:=by lia
 simp only [h1,Db,Fs];split <;> lia
theorem dA {v:Value} {o:Option Int} {Q:Option Int->Shared->Prop} (p:IsPart v o) (h:Q o s):wpAny (model prog w) A (Builtin.Slice.slicePartIndex v) Q E s:=by
 cases p with
 | none=>exact slicePart_none h
 | int i t=>exact slicePart_int h
theorem eg {sl:Addr} {vl vu:Value} {lo hi:Option Int} {n:Nat} {Q:Int×Int×Nat->Shared->Prop} (hs:s.heap.IsSliceOf sl vl vu .none) (pl:IsPart vl lo) (pu:IsPart vu hi)
  (h:Q (((sIx n 0 lo:Nat):Int),1,sIx n n hi-sIx n 0 lo) s):wpAny (model prog w) A (Builtin.Slice.sliceApplied (.ref sl) (pure (n:Int))) Q E s:=by
 obtain ⟨os,hos,hcs,hds⟩:=id hs;unfold Builtin.Slice.sliceApplied Builtin.Slice.sliceFields;refine AA (AA (Bp hos hds (x:=vl) rfl (AA (Bp hos hds (x:=vu) rfl (AA (Bp hos hds (x:=.none) rfl (AB ?_)))))));refine AA (slicePart_none ?_);show wpAny _ _ (if ((1:Int)==0)=true then _ else _) _ _ s;rw [AQ (by decide)];refine AA (dA pl (AA (dA pu (AA (AB ?_)))));show wpAny _ _ (match Builtin.Slice.sliceAdjust lo hi 1 (n:Int)with | (lo,hi)=>pure (lo,(1:Int),Builtin.Slice.slicePlaces lo hi 1)) _ _ s;rw [pN lo hi n];show wpAny _ _ (pure (((sIx n 0 lo:Nat):Int),(1:Int),Builtin.Slice.slicePlaces ((sIx n 0 lo:Nat):Int) ((sIx n n hi:Nat):Int) 1)) _ _ s;rw [oH];exact AB h
theorem uj (xs:Array Value) (i k:Nat):((List.range k).filterMap λ(m:Nat)=>xs[((i:Int) + (m:Int) *1).toNat]?).toArray=((xs.toList.drop i).take k).toArray:=by
 have e:(λ(m:Nat)=>xs[((i:Int) + (m:Int) *1).toNat]?)=λm=>xs[i+m]? :=by
  funext m;have:((i:Int) + (m:Int) *1).toNat=i+m:=by lia
  rw [this]
 rw [e];have:=pick_run xs i k;rw [DY]at this;have e2:((λx=>xs[x]?)∘λx=>i+x)=λm=>xs[i+m]? :=rfl;rw [e2]at this;rw [this]
theorem getItem_tuple_cut {t sl:Addr} {items:Array Value} {vl vu:Value} {lo hi:Option Int} {Q:Value->Shared->Prop} (ht:IsTup s.heap t items) (hs:s.heap.IsSliceOf sl vl vu .none) (pl:IsPart vl lo) (pu:IsPart vu hi)
  (hw: ¬ (sIx items.size 0 lo=0/\sIx items.size items.size hi=items.size))
  (h:Q (.ref s.heap.objs.size) {s with heap:=s.heap.push {cls:=.type "tuple",data:=.seq ((items.toList.drop (sIx items.size 0 lo)).take (sIx items.size items.size hi-sIx items.size 0 lo)).toArray}})
  (hsz:items.size<=sizeLine):wpAny (model prog w) A (getItem (.ref t) (.ref sl)) Q E s:=by
 have htake:sizeOk (.seq ((items.toList.drop (sIx items.size 0 lo)).take (sIx items.size items.size hi-sIx items.size 0 lo)).toArray):=by
  show ((items.toList.drop (sIx items.size 0 lo)).take (sIx items.size items.size hi-sIx items.size 0 lo)).toArray.size<=sizeLine;rw [AL,A4,CQ,BE];lia
 have hj:sIx items.size items.size hi<=items.size:=xM _ _ (AJ _) hi;obtain ⟨os,hos,hcs,hds⟩:=id hs;have hTs:s.TypeIs (.ref sl) "slice":=⟨os,hos,hcs⟩;unfold getItem;try with_reducible refine BF ?_
 first | refine AA (AB ?_) | skip
 refine AA (E7 ht.typeIs (by decide) ?_);refine AA (Bn (name:=Str.ofString "__getitem__") ht.typeIs BK
  (Bi BK ht.typeIs EL ?_ (args_tuple_getitem _ _)))
 show wpAny _ _ (Builtin.Tuple.tupleItemsOf (.ref t) >>= _) _ _ s;refine AA (tupleItemsOf_ ht ?_);refine AA (EQ hTs ?_);rw [AX (by decide)];refine AA (eg hs pl pu ?_);have hno: ¬ ((((sIx items.size 0 lo:Nat):Int)==0&&(1:Int)==1&&(sIx items.size items.size hi-sIx items.size 0 lo)==items.size)=true):=by
  intro q;rw [Bb,Bb]at q;have q1:((sIx items.size 0 lo:Nat):Int)=0:=eq_of_beq q.1.1;have q2:sIx items.size items.size hi-sIx items.size 0 lo=items.size:=eq_of_beq q.2;exact hw ⟨by lia,by lia⟩
 show wpAny _ _ (if (((sIx items.size 0 lo:Nat):Int)==0&&(1:Int)==1&&(sIx items.size items.size hi-sIx items.size 0 lo)==items.size)=true then _ else _) _ _ s;rw [AQ hno,uj];first
  | exact AA (m:=Builtin.Tuple.tupleExact _) (A9 (AB ⟨_,rfl,AB h⟩) htake)
  | exact AA (m:=Builtin.Tuple.tupleExact _) (A9 (AA (AB (AB ⟨_,rfl,AB h⟩))) htake)
  | exact AA (AA (m:=Builtin.Tuple.tupleExact _) (A9 (AB (AB ⟨_,rfl,AB h⟩)) htake))
  | exact AA (AA (m:=Builtin.Tuple.tupleExact _) (A9 (AB ⟨_,rfl,AB h⟩) htake))
end
end HT
namespace L2
open PySem PySem.Spec PyProof.Rows
abbrev TO:=St->Hp->(Option Int->Hp->Prop)->Prop
def PO (X:Cx) (e:Option Expr) (t:TO):Prop:=
 ∀ (pins:List (Addr×Obj)) (s:Shared) (σ:St) (H:Hp) (Q:Option Int->Hp->Prop),Inv X pins σ H s->t σ H Q->
  wpAny (model X.prog X.w) X.A (evalPart e X.env) (λu s'=> ∃ o H',Inv X pins σ H' s'/\IsPart u o/\Q o H') X.xe s
noncomputable def vL:TO:=λ_ H Q=>Q none H
inductive xi  (x:V) (H1:Hp) (Q:(Option Int->Hp->Prop)):Prop
 | mk: ∀ i,(x=.int i)->(Q (some i) H1)->xi x H1 Q
noncomputable def yO (t:TE):TO:=λσ H Q=>t σ H λx H1=>xi x H1 Q
section
variable {X:Cx} {e:Expr} {te:TE} {lo hi:Option Expr} {tl th:TO} {pos p2:Pos}
theorem bg:PO X none vL:=by
 intro pins s σ H Q I h;rw [Fg];exact AB ⟨none,H,I,.none,h⟩
theorem aX (h:PE X e te):PO X (some e) (yO te):=by
 intro pins s σ H Q I hw;rw [evalPart_some];refine thn (h pins s σ H _ I hw) λu s1 ⟨x,H1,I1,r1,q1⟩=>?_;obtain ⟨i,rfl,q⟩:=q1;obtain ⟨t,rfl⟩:=r1;exact ⟨some i,H1,I1,.int i t,q⟩
def SlR (X:Cx) (r:V->Option Int->Option Int->Hp->VK->Prop):Prop:=
 ∀ (pins:List (Addr×Obj)) (s:Shared) (σ:St) (H:Hp) (x:V) (v vl vu:Value) (lo hi:Option Int) (sl:Addr) (Q:VK),Inv X pins σ H s->RelV x v->s.heap.IsSliceOf sl vl vu .none->IsPart vl lo->IsPart vu hi->r x lo hi H Q->
  ∃ T id,typeLookup (.type T) "__getitem__"=pure (some (.builtin id))/\s.TypeIs v T/\wpAny (model X.prog X.w) X.A (getItem v (.ref sl)) (EP X pins σ Q) X.xe s
def tSl (r:V->Option Int->Option Int->Hp->VK->Prop) (te:TE) (tl th:TO):TE:=λσ H Q=>te σ H λx H1=>tl σ H1 λl H2=>th σ H2 λu H3=>r x l u H3 Q
theorem aT {r:V->Option Int->Option Int->Hp->VK->Prop} (hr:SlR X r) (he:PE X e te) (hl:PO X lo tl) (hu:PO X hi th):PE X (.Subscript e (.Slice lo hi none p2) pos) (tSl r te tl th):=by
 intro pins s σ H Q I h;refine Subscript_ (thn (he pins s σ H _ I h) λv s1 ⟨x,H1,I1,r1,q1⟩=>?_);refine wpAny_Slice (thn (hl pins s1 σ H1 _ I1 q1) λvl s2 ⟨l,H2,I2,pl,q2⟩=>thn (hu pins s2 σ H2 _ I2 q2) λvu s3 ⟨u,H3,I3,pu,q3⟩=>?_);rw [Fg];refine AB ?_;have I4:Inv X pins σ H3 {s3 with heap:=s3.heap.push {cls:=.type "slice",data:=.fields #[vl,vu,.none]}}:=I3.kept (t':=s3.toks) λb ob q=>AC _ q;obtain ⟨T,id,hT,ht,hg⟩:=hr pins {s3 with heap:=s3.heap.push {cls:=.type "slice",data:=.fields #[vl,vu,.none]}} σ H3 x v vl vu l u s3.heap.objs.size Q I4 r1 (EW ..) pl pu q3;show wpAny (model X.prog X.w) X.A (subscriptTail e (.Slice lo hi none p2) v (.ref s3.heap.objs.size)) (EP X pins σ Q) X.xe {s3 with heap:=s3.heap.push {cls:=.type "slice",data:=.fields #[vl,vu,.none]}};exact tail_any (ops:=[.ref s3.heap.objs.size,v]) ht hT hg (by with_unfolding_all rfl)
noncomputable def db (xs:List V) (lo hi:Option Int):List V:=(xs.drop (HT.sIx xs.length 0 lo)).take (HT.sIx xs.length xs.length hi-HT.sIx xs.length 0 lo)
theorem iR (xs:List V) (lo hi:Option Int):(db xs lo hi).length<=xs.length:=by
 unfold db;rw [A4,CQ];lia
inductive y6 (K:W.Frag) (x:V) (lo:Option Int) (hi:Option Int) (H:Hp) (Q:VK):Prop
 | mk: ∀ a xs,(x=.ref a)->(SqT K H a xs)->(¬ (HT.sIx xs.length 0 lo=0/\HT.sIx xs.length xs.length hi=xs.length))->(∀ p,H p=none->Q (.ref p) (upd H p (.tup (db xs lo hi))))->y6 K x lo hi H Q
theorem oj:SlR X (y6 X.K):=by
 intro pins s σ H x v vl vu lo hi sl Q I rx hs pl pu h;obtain ⟨a,xs,rfl,hx,hw,q⟩:=h;cases rx;obtain ⟨its,r,ht,hz⟩:=I.tuple hx;have hlen:its.toArray.size=xs.length:=by rw [AL];exact r.length.symm
 refine ⟨"tuple",_,PyProof.Rows.slot_tuple_getitem.lookup,ht.typeIs,?_⟩;refine HT.getItem_tuple_cut ht hs pl pu (by rw [hlen];exact hw) ?_ (by rw [hlen];exact hz);rw [hlen];refine ⟨.ref s.heap.objs.size,_,I.laid (t':=s.toks) (o:=.tup (db xs lo hi)) (λb ob q=>AC _ q) (AJ _) ?_,rfl,q _ (I.hok.fresh (AJ _))⟩;exact ⟨Bm (iR xs lo hi) hz,_,(r.drop (HT.sIx xs.length 0 lo)).take (HT.sIx xs.length xs.length hi-HT.sIx xs.length 0 lo),IsTup.new _ _⟩
inductive xj (K:W.Frag) (x:V) (y:V) (H:Hp) (Q:VK):Prop
 | mk: ∀ a b xs ys,(x=.ref a)->(y=.ref b)->(SqT K H a xs)->(SqT K H b ys)->(xs≠[])->(xs.length+ys.length<=sizeLine)->((ys=[]->Q (.ref a) H))->((ys≠[]-> ∀ p,H p=none->Q (.ref p) (upd H p (.tup (xs++ys)))))->xj K x y H Q
theorem Vals.nil_iff {xs:List V} {us:List Value} (r:Vals xs us):us=[]↔xs=[]:=by
 cases r with
 | nil=>simp
 | cons _ _=>simp
theorem wq:OpR X (binaryOp .Add) (xj X.K):=by
 intro pins s σ H x y v u Q I rx ry h;obtain ⟨a,b,xs,ys,rfl,rfl,ha,hb,hx,hz,q1,q2⟩:=h;cases rx;cases ry;obtain ⟨its,r1,p1,_⟩:=I.tuple ha;obtain ⟨its2,r2,p2,_⟩:=I.tuple hb;refine HT.cat_tup p1 p2 (λz=>hx (r1.nil_iff.mp z)) (λz=>⟨.ref a,H,I,rfl,q1 (r2.nil_iff.mp z)⟩) (λz=>?_) (by rw [<- r1.length,<- r2.length];exact hz);refine ⟨.ref s.heap.objs.size,_,I.laid (t':=s.toks) (o:=.tup (xs++ys)) (λb ob q=>AC _ q) (AJ _) ?_,rfl,q2 (λw=>z (r2.nil_iff.mpr w)) _ (I.hok.fresh (AJ _))⟩;exact ⟨by rw [AI];exact hz,_,r1.append r2,IsTup.new _ _⟩
end
noncomputable def ixN (n:Nat) (i:Int):Option Nat:=if 0<=i then (if i<n then some i.toNat else none)else if -(n:Int)<=i then some (i+n).toNat else none
noncomputable def atI {α:Type} (xs:List α) (i:Int):Option α:=(ixN xs.length i).bind λj=>xs[j]?
theorem qq {n:Nat} {i:Int} {j:Nat} (h:ixN n i=some j):seqIndex? i n=some j/\j<n/\ -(n:Int)<=i/\i<n:=by
 unfold ixN at h;by_cases h0:0<=i
 ·rw [AX h0]at h;by_cases h1:i<n
  ·rw [AX h1]at h;have e:i.toNat=j:=A0 h;exact ⟨by rw [seqIndex_of h0 h1,e],by lia,by lia,h1⟩
  ·rw [AQ h1]at h;cases h
 ·rw [AQ h0]at h;by_cases h1: -(n:Int)<=i
  ·rw [AX h1]at h;have e:(i+n).toNat=j:=A0 h;exact ⟨by rw [seqIndex_neg (by lia) h1,e],by lia,h1,by lia⟩
  ·rw [AQ h1]at h;cases h
theorem ma {α:Type} {xs:List α} {i:Int} {v:α} (h:atI xs i=some v): ∃ j,seqIndex? i xs.length=some j/\xs[j]? =some v/\j<xs.length/\ -(xs.length:Int)<=i/\i<xs.length:=by
 unfold atI at h;cases e:ixN xs.length i with
 | none=>rw [e]at h;cases h
 | some j=>
  rw [e]at h;obtain ⟨h1,h2,h3,h4⟩:=qq e;exact ⟨j,h1,h,h2,h3,h4⟩
theorem aZ {α:Type} {xs:List α} {j:Nat} {v:α} (h:xs[j]? =some v):atI xs (j:Int)=some v:=by
 have hj:j<xs.length:=(AF.mp h).1;have e:ixN xs.length (j:Int)=some j:=by
  unfold ixN;rw [AX (by lia),AX (by lia)];simp
 unfold atI;rw [e];exact h
def xa (b:Expr):Prop:= ∀ o i,subscripted b false o i=operate [o,i] (getItem o i)
def IxR (X:Cx) (r:R2):Prop:=
 ∀ (value slice:Expr) (pins:List (Addr×Obj)) (s:Shared) (σ:St) (H:Hp) (x y:V) (v u:Value) (Q:VK),Inv X pins σ H s->RelV x v->RelV y u->r x y H Q->
  subscripted slice false v u=operate [v,u] (getItem v u)->wpAny (model X.prog X.w) X.A (subscriptTail value slice v u) (EP X pins σ Q) X.xe s
def MtR (X:Cx) (id:String) (r:V->List V->Hp->VK->Prop):Prop:=
 ∀ (pins:List (Addr×Obj)) (s:Shared) (σ:St) (H:Hp) (x:V) (xs:List V) (v:Value) (us:List Value) (Q:VK),Inv X pins σ H s->RelV x v->Vals xs us->r x xs H Q->
  wpAny (model X.prog X.w) X.A (call (.builtin id) (v::us)) (EP X pins σ Q) X.xe s
section
variable {X:Cx} {a b:Expr} {ta tb:TE} {pos:Pos}
theorem ar {r:R2} (hr:IxR X r) (ha:PE X a ta) (hb:PE X b tb) (hs:xa b):PE X (.Subscript a b pos) (tOp r ta tb):=by
 intro pins s σ H Q I h;exact Subscript_ (yD ha hb I h λv u s2 x y H2 I2 rx ry q=>hr a b pins s2 σ H2 x y v u Q I2 rx ry q (hs _ _))
inductive cC (K:W.Frag) (x:V) (y:V) (H:Hp) (Q:VK):Prop
 | mk: ∀ p xs i v,(x=.ref p)->(y=.int i)->(SqL K H p xs)->(atI xs i=some v)->(Q v H)->cC K x y H Q
inductive bf (K:W.Frag) (x:V) (y:V) (H:Hp) (Q:VK):Prop
 | mk: ∀ p xs i v,(x=.ref p)->(y=.int i)->(SqT K H p xs)->(atI xs i=some v)->(Q v H)->bf K x y H Q
inductive zc  (x:V) (y:V) (H:Hp) (Q:VK):Prop
 | mk: ∀ z i c,(x=.str z)->(y=.int i)->(z.length<=sizeLine)->(atI z.cps.toList i=some c)->(Q (.str ⟨#[c]⟩) H)->zc x y H Q
theorem aY:IxR X (cC X.K):=by
 intro value slice pins s σ H x y v u Q I rx ry h hs;obtain ⟨p,xs,i,z,rfl,rfl,hq,he,q⟩:=h;cases rx;obtain ⟨t,rfl⟩:=ry;obtain ⟨its,r,pl,hz⟩:=I.list hq;obtain ⟨j,h1,h2,h3,h4,h5⟩:=ma he;obtain ⟨w,ew,rw'⟩:=r.get h2;have hl:=r.length;have hn:=iz;have fin:EP X pins σ Q w s:=⟨z,H,I,rw',q⟩;by_cases h0:0<=i
 ·have hj:i.toNat=j:=by
   rw [seqIndex_of h0 h5]at h1;exact A0 h1
  exact item_listR pl.isList h0 (by lia) (by rw [hj];simpa using ew) fin hs
 ·have hj:(i+ (its.toArray.size:Int)).toNat=j:=by
   rw [seqIndex_neg (by lia) h4]at h1;rw [AL,<- hl];exact A0 h1
  exact subscriptTail_builtinR (x:=w) pl.isList.typeIs slot_list_getitem.lookup
   (wpAny_getItem_list_neg (Q:=λr s'=>r=w/\EP X pins σ Q r s') pl.isList (by lia) (by rw [AL] <;> lia) (by lia) (by rw [hj];simpa using ew) ⟨rfl,fin⟩) hs
theorem aA:IxR X (bf X.K):=by
 intro value slice pins s σ H x y v u Q I rx ry h hs;obtain ⟨p,xs,i,z,rfl,rfl,hq,he,q⟩:=h;cases rx;obtain ⟨t,rfl⟩:=ry;obtain ⟨its,r,pl,hz⟩:=I.tuple hq;obtain ⟨j,h1,h2,h3,h4,h5⟩:=ma he;obtain ⟨w,ew,rw'⟩:=r.get h2;have hl:=r.length;have hn:=iz;have fin:EP X pins σ Q w s:=⟨z,H,I,rw',q⟩;exact subscriptTail_builtinR (x:=w) pl.typeIs slot_tuple_getitem.lookup
  (getItem_tuple (j:=j) (Q:=λr s'=>r=w/\EP X pins σ Q r s') pl (by lia) (by lia) (by rw [AL,<- hl];exact h1) (by simpa using ew) ⟨rfl,fin⟩) hs
theorem ph:IxR X zc:=by
 intro value slice pins s σ H x y v u Q I rx ry h hs;obtain ⟨z,i,c,rfl,rfl,hz,he,q⟩:=h;obtain ⟨t,rfl⟩:=rx;obtain ⟨t',rfl⟩:=ry;obtain ⟨j,h1,h2,h3,h4,h5⟩:=ma he;have hl:z.cps.toList.length=z.length:=by simp [Str.length]
 rw [hl]at h1 h4 h5;have hn:=iz;exact tail_any (typeIs_str s z t) slot_str_getitem.lookup (getItem_str (c:=c) (by
  have e1:decide (i< -(2^63:Int))=false:=AW (by lia);have e2:decide (i≥2^63)=false:=AW (by lia);rw [e1,e2,Bool.or_false]) (by rw [h1];simpa using h2) ⟨.str ⟨#[c]⟩,H,I.tok _,⟨_,rfl⟩,q⟩) hs
theorem oY (its:List Value) (n j:Nat) (u:Value):Obj.mapSeq (·.setIfInBounds j u) {cls:=.type "list",data:=.seq its.toArray n}={cls:=.type "list",data:=.seq (its.set j u).toArray n}:=by
 simp [Obj.mapSeq]
theorem Inv.lst {pins:List (Addr×Obj)} {σ:St} {H:Hp} {s:Shared} {p:Addr} {xs:List V} (I:Inv X pins σ H s) (h:H p=some (.lst xs)):
  ∃ (its:List Value) (n:Nat),Vals xs its/\s.heap.get? p=some {cls:=.type "list",data:=.seq its.toArray n}/\xs.length<=sizeLine:=by
 obtain ⟨z,its,n,r,e⟩:=I.hok p _ h;exact ⟨its,n,r,e,z⟩
theorem Inv.lstUpd {pins:List (Addr×Obj)} {σ:St} {H:Hp} {s:Shared} {p:Addr} {xs ys:List V} {its its':List Value} {n n':Nat} {f:Obj->Obj} (I:Inv X pins σ H s) (h:H p=some (.lst xs))
  (ho:s.heap.get? p=some {cls:=.type "list",data:=.seq its.toArray n}) (hf:f {cls:=.type "list",data:=.seq its.toArray n}={cls:=.type "list",data:=.seq its'.toArray n'}) (r:Vals ys its') (hz:ys.length<=sizeLine) (t:Nat):
  Inv X pins σ (upd H p (.lst ys)) {s with heap:=s.heap.update p f,toks:=t}:=by
 have e:(s.heap.update p f).get? p=some {cls:=.type "list",data:=.seq its'.toArray n'}:=by
  rw [BW f ho (by rw [hf] <;> rfl),hf]
 refine I.write (x:=p) (e:=p) (by rw [h];trivial) (.inl rfl) (λb u hb q=>(B1 _ _ (Bg hb)).trans q) ⟨_,e⟩ ?_;exact ⟨hz,its',n',r,e⟩
inductive xh  (o:V) (i:V) (v:V) (H:Hp) (Q:(Hp->Prop)):Prop
 | mk: ∀ p xs k j,(o=.ref p)->(i=.int k)->(H p=some (.lst xs))->(ixN xs.length k=some j)->(Q (upd H p (.lst (xs.set j v))))->xh o i v H Q
theorem tS:zM X xh:=by
 intro pins s σ H o i v ov iv u Q I ro ri rv h;obtain ⟨p,xs,k,j,rfl,rfl,hp,hj,q⟩:=h;cases ro;obtain ⟨t,rfl⟩:=ri;obtain ⟨its,n,r,ho,hz⟩:=I.lst hp;obtain ⟨h1,h2,h3,h4⟩:=qq hj;have hl:=r.length;have hn:=iz;have I':Inv X pins σ (upd H p (.lst (xs.set j v))) {s with heap:=s.heap.update p (Obj.mapSeq (·.setIfInBounds j u))}:=
  I.lstUpd hp ho (oY its n j u) (r.set rv j) (by rw [List.length_set];exact hz) s.toks
 by_cases h0:0<=k
 ·have hk:k.toNat=j:=by
   rw [seqIndex_of h0 h4]at h1;exact A0 h1
  exact W.ki_setAt ho h0 (by lia) (by rw [AL,<- hl];exact h4) (by rw [hk];exact ⟨_,I',q⟩)
 ·have hk:(k+ (its.toArray.size:Int)).toNat=j:=by
   rw [seqIndex_neg (by lia) h3]at h1;rw [AL,<- hl];exact A0 h1
  exact W.ki_setBack ho (by lia) (by rw [AL,<- hl];exact h3) (by lia) (by rw [hk];exact ⟨_,I',q⟩)
theorem lg (lo hi:Option Int) (n:Nat):(sliceBounds lo hi none n).1=((HT.sIx n 0 lo:Nat):Int)/\(sliceBounds lo hi none n).2.1=((HT.sIx n n hi:Nat):Int)/\(sliceBounds lo hi none n).2.2=1:=by
 refine ⟨?_,?_,rfl⟩
 ·cases lo with
  | none=>simp [sliceBounds,HT.sIx]
  | some i=>
   simp only [sliceBounds,HT.sIx,Option.getD_none,show (1:Int) >0 by decide,Db];by_cases h:i<0
   ·simp only [h,Db] <;> lia
   ·simp only [h,BN] <;> lia
 ·cases hi with
  | none=>simp [sliceBounds,HT.sIx]
  | some i=>
   simp only [sliceBounds,HT.sIx,Option.getD_none,show (1:Int) >0 by decide,Db];by_cases h:i<0
   ·simp only [h,Db] <;> lia
   ·simp only [h,BN] <;> lia
theorem jT (its:List Value) (lo hi:Option Int):slicePick its.toArray lo hi none=((its.drop (HT.sIx its.length 0 lo)).take (HT.sIx its.length its.length hi-HT.sIx its.length 0 lo)).toArray:=by
 obtain ⟨h1,h2,h3⟩:=lg lo hi its.toArray.size;unfold slicePick;rw [h1,h2,h3];simp only [sliceRange_one,pick_run,AL] <;> rfl
inductive zb (K:W.Frag) (x:V) (lo:Option Int) (hi:Option Int) (H:Hp) (Q:VK):Prop
 | mk: ∀ a xs,(x=.ref a)->(SqL K H a xs)->(∀ p,H p=none->Q (.ref p) (upd H p (.lst (db xs lo hi))))->zb K x lo hi H Q
theorem cy:SlR X (zb X.K):=by
 intro pins s σ H x v vl vu lo hi sl Q I rx hs pl pu h;obtain ⟨a,xs,rfl,hx,q⟩:=h;cases rx;obtain ⟨its,r,ht,hz⟩:=I.list hx;have hlen:=r.length;refine ⟨"list",_,slot_list_getitem.lookup,ht.isList.typeIs,?_⟩;refine wpAny_getItem_list_slice ht.isList hs pl pu .none (by simp) ?_ (by rw [AL] <;> lia);rw [jT,<- hlen];refine ⟨.ref s.heap.objs.size,_,I.laid (t':=s.toks) (o:=.lst (db xs lo hi)) (λb ob q=>AC _ q) (AJ _) ?_,rfl,q _ (I.hok.fresh (AJ _))⟩;exact ⟨Bm (iR xs lo hi) hz,_,0,(r.drop (HT.sIx xs.length 0 lo)).take (HT.sIx xs.length xs.length hi-HT.sIx xs.length 0 lo),AU _ rfl⟩
noncomputable def dS:V->Bool
 | .non=>true
 | .bl _=>true
 | .int _=>true
 | .str _=>true
 | _=>false
noncomputable def eqV:V->V->Bool
 | .non,.non=>true
 | .bl a,.bl b=>a==b
 | .bl a,.int b=>(if a then 1 else 0)==b
 | .int a,.bl b=>a==(if b then 1 else 0)
 | .int a,.int b=>a==b
 | .str a,.str b=>a==b
 | _,_=>false
theorem yu {A:Around} {s:Shared} {y x:V} {u v:Value} (ry:RelV y u) (rx:RelV x v) (fy:dS y=true) (fx:dS x=true):SeqAt.EqAt A s u v (eqV y x):=by
 cases y with
 | non=>
  cases ry;cases x with
  | non=>cases rx;exact SeqAt.EqAt.same _
  | bl b=>cases rx;exact SeqAt.EqAt.none_bool b
  | int b=>obtain ⟨t,rfl⟩:=rx;exact SeqAt.EqAt.none_int b t
  | str b=>obtain ⟨t,rfl⟩:=rx;exact SeqAt.EqAt.none_str b t
  | _=>exact absurd (show false=true from fx) AR
 | bl a=>
  cases ry;cases x with
  | non=>cases rx;exact SeqAt.EqAt.bool_none a
  | bl b=>cases rx;exact SeqAt.EqAt.bool_bool a b
  | int b=>obtain ⟨t,rfl⟩:=rx;exact SeqAt.EqAt.bool_int a b t
  | str b=>obtain ⟨t,rfl⟩:=rx;exact SeqAt.EqAt.bool_str a b t
  | _=>exact absurd (show false=true from fx) AR
 | int a=>
  obtain ⟨t',rfl⟩:=ry;cases x with
  | non=>cases rx;exact SeqAt.EqAt.int_none a t'
  | bl b=>cases rx;exact SeqAt.EqAt.int_bool a t' b
  | int b=>obtain ⟨t,rfl⟩:=rx;exact SeqAt.EqAt.int_int a t' b t
  | str b=>obtain ⟨t,rfl⟩:=rx;exact SeqAt.EqAt.int_str a t' b t
  | _=>exact absurd (show false=true from fx) AR
 | str a=>
  obtain ⟨t',rfl⟩:=ry;cases x with
  | non=>cases rx;exact SeqAt.EqAt.str_none a t'
  | bl b=>cases rx;exact SeqAt.EqAt.str_bool a t' b
  | int b=>obtain ⟨t,rfl⟩:=rx;exact SeqAt.EqAt.str_int a t' b t
  | str b=>obtain ⟨t,rfl⟩:=rx;exact SeqAt.EqAt.str_str a t' b t
  | _=>exact absurd (show false=true from fx) AR
 | _=>exact absurd (show false=true from fy) AR
noncomputable def eqU (x:V) (u:Value):Bool:=match u with
 | .none=>eqV .non x
 | .bool b=>eqV (.bl b) x
 | .int i _=>eqV (.int i) x
 | .str z _=>eqV (.str z) x
 | _=>false
theorem vj {x y:V} {u:Value} (r:RelV y u) (f:dS y=true):eqU x u=eqV y x:=by
 cases y with
 | non=>cases r;rfl
 | bl b=>cases r;rfl
 | int i=>obtain ⟨t,rfl⟩:=r;rfl
 | str z=>obtain ⟨t,rfl⟩:=r;rfl
 | _=>exact absurd (show false=true from f) AR
theorem mh {x:V}: ∀ {xs:List V} {us:List Value},Vals xs us->xs.all dS=true->us.any (eqU x)=xs.any λy=>eqV y x
 | _,_,.nil,_=>rfl
 | y::xs,u::us,.cons r t,f=>by
  rw [Fh,Bb]at f;rw [Do,Do,vj r f.1,mh t f.2]
theorem jv {A:Around} {s:Shared} {x:V} {v:Value} (rx:RelV x v) (fx:dS x=true): ∀ {xs:List V} {us:List Value},Vals xs us->xs.all dS=true-> ∀ u∈us,SeqAt.EqAt A s u v (eqU x u)
 | _,_,.nil,_=>λu hu=>by cases hu
 | y::xs,u::us,.cons r t,f=>λu' hu=>by
  rw [Fh,Bb]at f;rcases AY.mp hu with rfl | hu
  ·rw [vj r f.1];exact yu r rx f.1 fx
  ·exact jv rx fx t f.2 u' hu
noncomputable def inV (x:V) (xs:List V):Bool:=xs.any λy=>eqV y x
inductive rIn (K:W.Frag) (neg:Bool) (x:V) (y:V) (H:Hp) (Q:VK):Prop
 | mk: ∀ p xs,(y=.ref p)->((SqL K H p xs\/SqT K H p xs))->(dS x=true)->(xs.all dS=true)->(Q (.bl (if neg then !inV x xs else inV x xs)) H)->rIn K neg x y H Q
theorem cV:OpR X (compareOp .In) (rIn X.K false):=by
 intro pins s σ H x y v u Q I rx ry h;obtain ⟨p,xs,rfl,hq,fx,fs,q⟩:=h;cases ry;rcases hq with hq | hq
 ·obtain ⟨its,r,pl,hz⟩:=I.list hq;refine SeqAt.in_listAt (eqU x) pl.isList (λw hw=>jv rx fx r fs w (by simpa using hw)) ⟨.bl _,H,I,rfl,?_⟩;rw [show its.toArray.any (eqU x)=its.any (eqU x) by simp,mh r fs];exact q
 ·obtain ⟨its,r,pl,hz⟩:=I.tuple hq;refine SeqAt.in_tupleAt (eqU x) pl (λw hw=>jv rx fx r fs w (by simpa using hw)) ⟨.bl _,H,I,rfl,?_⟩;rw [show its.toArray.any (eqU x)=its.any (eqU x) by simp,mh r fs];exact q
inductive cZ (K:W.Frag) (xs:List V) (H:Hp) (Q:VK):Prop
 | mk: ∀ p ys,(xs=[.ref p])->((SqL K H p ys\/SqT K H p ys))->(Q (.int ys.length) H)->cZ K xs H Q
theorem aE:cQ X (.builtin "len") (cZ X.K):=by
 intro pins s σ H xs us Q I r h;obtain ⟨p,ys,rfl,hq,q⟩:=h;obtain ⟨u,rfl,rx⟩:=gh r;cases rx;have hn:=iz;rcases hq with hq | hq
 ·obtain ⟨its,r',pl,hz⟩:=I.list hq;have hlen:=r'.length;exact Calls.call_len_list pl.isList (by simp only [AL] <;> lia) ⟨.int ys.length,H,I.tok _,⟨s.toks+1,by rw [AL,hlen]⟩,q⟩
 ·obtain ⟨its,r',pl,hz⟩:=I.tuple hq;have hlen:=r'.length;exact len_tuple pl (by simp only [AL] <;> lia) ⟨.int ys.length,H,I.tok _,⟨s.toks+1,by rw [AL,hlen]⟩,q⟩
inductive lH (K:W.Frag) (xs:List V) (H:Hp) (Q:VK):Prop
 | mk: ∀ p ys,(xs=[.ref p])->((SqL K H p ys\/SqT K H p ys))->(∀ l,H l=none->Q (.ref l) (upd H l (.lst ys)))->lH K xs H Q
theorem l7:cQ X (.type "list") (lH X.K):=by
 intro pins s σ H xs us Q I r h;obtain ⟨p,ys,rfl,hq,q⟩:=h;obtain ⟨u,rfl,rx⟩:=gh r;cases rx;have fin: ∀ (its:List Value),Vals ys its->ys.length<=sizeLine-> ∀ (h':Heap) (c':Nat),(∀ b o',s.heap.get? b=some o'->h'.get? b=some o')->
   h'.get? s.heap.objs.size=some {cls:=.type "list",dict:=none,data:=.seq its.toArray c',slots:= #[]}->EP X pins σ Q (.ref s.heap.objs.size) {s with heap:=h'}:=λits r' hz h' c' kp e=>
  ⟨.ref s.heap.objs.size,_,I.laid (t':=s.toks) kp (AJ _) (show ObjOk X.prog X.w _ h' _ (.lst ys)from ⟨hz,its,c',r',e⟩),rfl,q _ (I.hok.fresh (AJ _))⟩
 rcases hq with hq | hq
 ·obtain ⟨its,r',pl,hz⟩:=I.list hq;have hlen:=r'.length;obtain ⟨o,ho,hc,n,hd⟩:=pl.isList;exact call_list_seq p (.inl rfl) ho hc hd (λh' c' kp e=>fin its r' hz h' c' kp e) (by simp only [AL] <;> lia)
 ·obtain ⟨its,r',pl,hz⟩:=I.tuple hq;have hlen:=r'.length;obtain ⟨o,ho,hc,n,hd⟩:=pl;exact call_list_seq p (.inr rfl) ho hc hd (λh' c' kp e=>fin its r' hz h' c' kp e) (by simp only [AL] <;> lia)
inductive bU (K:W.Frag) (xs:List V) (H:Hp) (Q:VK):Prop
 | mk: ∀ p ys,(xs=[.ref p])->(((SqL K H p ys/\ ∀ l,H l=none->Q (.ref l) (upd H l (.tup ys)))\/(SqT K H p ys/\Q (.ref p) H)))->bU K xs H Q
theorem aN:cQ X (.type "tuple") (bU X.K):=by
 intro pins s σ H xs us Q I r h;obtain ⟨p,ys,rfl,h⟩:=h;obtain ⟨u,rfl,rx⟩:=gh r;cases rx;rcases h with ⟨hq,q⟩ | ⟨hq,q⟩
 ·obtain ⟨its,r',pl,hz⟩:=I.list hq;have hlen:=r'.length;refine call_tuple_list pl.isList (λh' kp=>?_) (by simp only [AL] <;> lia);have I1:Inv X pins σ H {s with heap:=h'}:=I.kept (t':=s.toks) kp;have I2:Inv X pins σ (upd H h'.objs.size (.tup ys)) {s with heap:=h'.push {cls:=.type "tuple",data:=.seq its.toArray}}:=
   I1.laid (t':=s.toks) (λb o e=>AC _ e) (AJ _) (show ObjOk X.prog X.w _ _ _ (.tup ys)from ⟨hz,its,r',IsTup.new _ _⟩)
  exact ⟨.ref h'.objs.size,_,I2,rfl,q _ (I1.hok.fresh (AJ _))⟩
 ·obtain ⟨its,r',pl,hz⟩:=I.tuple hq;exact call_tuple_same pl ⟨.ref p,H,I,rfl,q⟩
def tyV (K:W.Frag) (T:String) (x:V) (H:Hp):Prop:=match x with
 | .str _=>T="str"
 | .int _=>T="int"
 | .ref p=>(T="list"/\ ∃ xs,SqL K H p xs)\/(T="tuple"/\ ∃ o,K.lookup p=some o/\o.cls=.type "tuple"/\o.dict=none)\/
   (T="dict"/\((∃ kvs,H p=some (.dK kvs))\/ ∃ kvs,H p=some (.dT kvs)))\/(T="set"/\ ∃ S n,H p=some (.set S n))
 | _=>False
theorem sZ {pins:List (Addr×Obj)} {σ:St} {H:Hp} {s:Shared} {T:String} {x:V} {v:Value} (I:Inv X pins σ H s) (r:RelV x v) (ty:tyV X.K T x H):
  s.TypeIs v T/\ ∀ a,v=.ref a-> ∃ ob,s.heap.get? a=some ob/\ob.dict=none:=by
 cases x with
 | str z=>
  obtain ⟨t,rfl⟩:=r;cases (show T="str" from ty);exact ⟨typeIs_str s z t,λ_ e=>nomatch e⟩
 | int i=>
  obtain ⟨t,rfl⟩:=r;cases (show T="int" from ty);exact ⟨typeIs_int s i t,λ_ e=>nomatch e⟩
 | ref p=>
  cases r;rcases ty with ⟨rfl,xs,hq⟩ | ⟨rfl,o,hk,hc,hd⟩ | ⟨rfl,hk⟩ | ⟨rfl,S,n,hk⟩
  ·obtain ⟨its,_,pl,_⟩:=I.list hq;refine ⟨pl.isList.typeIs,λa e=>?_⟩;cases e;obtain ⟨o,n,e,c,hd,_⟩:=pl;exact ⟨o,e,hd⟩
  ·refine ⟨⟨o,I.kIn p o hk,hc⟩,λa e=>?_⟩;cases e;exact ⟨o,I.kIn _ o hk,hd⟩
  ·have z: ∃ o,s.heap.get? p=some o/\o.ExactDict:=by
    rcases hk with ⟨kvs,hk⟩ | ⟨kvs,hk⟩
    ·obtain ⟨_,_,_,_,o,_,_,e,ex,_⟩:=I.hok p _ hk;exact ⟨o,e,ex⟩
    ·obtain ⟨_,_,_,_,o,_,_,e,ex,_⟩:=I.hok p _ hk;exact ⟨o,e,ex⟩
   obtain ⟨o,e,ex⟩:=z;refine ⟨⟨o,e,ex.1⟩,λa e2=>?_⟩;cases e2;exact ⟨o,e,ex.2.1⟩
  ·obtain ⟨o,_,_,_,e,ex,_⟩:=I.hok p _ hk;refine ⟨⟨o,e,ex.1⟩,λa e2=>?_⟩;cases e2;exact ⟨o,e,ex.2.1⟩
 | _=>exact False.elim ty
def yS (K:W.Frag) (T:String) (r:V->List V->Hp->VK->Prop) (to:TE):TE:=λσ H Q=>to σ H λx H1=>tyV K T x H1/\r x [] H1 Q
def tBM (K:W.Frag) (T:String) (r:V->List V->Hp->VK->Prop) (to:TE) (t:TA):TE:=λσ H Q=>to σ H λx H1=>tyV K T x H1/\t σ H1 λxs H2=>r x xs H2 Q
variable {o e:Expr} {es:List Expr} {to:TE} {t:TA} {name:Str} {apos cpos:Pos} {T id:String} {r:V->List V->Hp->VK->Prop}
theorem oK (pa:PlainAttrs T) (slot:Slot T name id) (hty:typeOf (.builtin id)=pure (.type "method_descriptor")) (hm:MtR X id r) (ho:PE X o to)
  (hbase:attributeBase o name X.env (eval o X.env)=eval o X.env:=by rfl) (hline:(apos.endLine==cpos.line)=true:=by rfl):PE X (.Call (.Attribute o name apos) [] [] cpos) (yS X.K T r to):=by
 intro pins s σ H Q I h;refine Ed hbase hline (thn (ho pins s σ H _ I h) λv s1 ⟨x,H1,I1,r1,ty,q1⟩=>?_);obtain ⟨h1,h2⟩:=sZ I1 r1 ty;exact ⟨T,id,pa,slot,hty,h1,h2,CK rfl (EM (hm pins s1 σ H1 x [] v [] Q I1 r1 .nil q1))⟩
theorem dC (pa:PlainAttrs T) (slot:Slot T name id) (hty:typeOf (.builtin id)=pure (.type "method_descriptor")) (hm:MtR X id r) (ho:PE X o to) (ha:PA X (e::es) t)
  (hbase:attributeBase o name X.env (eval o X.env)=eval o X.env:=by rfl)
  (hfew:((backTo cpos (starEach (e::es) X.env)).all (λx=> !x.1)&&(backToKw cpos (keywordEach [] X.env)).all (λx=>x.1.isSome)
   &&decide ((e::es).length+ ([]:List Keyword).length+ (if ([]:List Keyword).isEmpty then 0 else 1) <30))=true:=by rfl)
  (hline:(apos.endLine==cpos.line)=true:=by rfl) (hs:starEach (e::es) X.env=(false,eval e X.env)::starEach es X.env:=by rfl) (hplain:(backTo cpos (starEach es X.env)).any (·.1)=false:=by rfl):
  PE X (.Call (.Attribute o name apos) (e::es) [] cpos) (tBM X.K T r to t):=by
 intro pins s σ H Q I h;refine wpAny_Call_method_late hbase hfew hline rfl (thn (ho pins s σ H _ I h) λv s1 ⟨x,H1,I1,r1,ty,q1⟩=>?_);obtain ⟨h1,h2⟩:=sZ I1 r1 ty;refine ⟨T,id,pa,slot,hty,h1,h2,?_⟩;have hA:=ha cpos pins s1 σ H1 _ I1 q1;rw [hs]at hA ⊢;refine CK (by show (false||(backTo cpos (starEach es X.env)).any (·.1))=false;rw [hplain] <;> rfl) (ED ?_);exact thn hA λus s2 ⟨vs,H2,I2,r2,q2⟩=>hm pins s2 σ H2 x vs v us Q I2 r1 r2 q2
end
def MtM (X:Cx) (id:String) (r:V->List V->Hp->VK->Prop):Prop:=
 ∀ (pins:List (Addr×Obj)) (s:Shared) (σ:St) (H:Hp) (x:V) (xs:List V) (v:Value) (us:List Value) (Q:VK),Inv X pins σ H s->RelV x v->Vals xs us->r x xs H Q->
  wpAny (model X.prog X.w) X.A (call (.builtin id) (v::us)) (EP X pins σ Q) X.xe s
theorem Vals.one: ∀ {x:V} {us:List Value},Vals [x] us-> ∃ u,us=[u]/\RelV x u
 | _,_,.cons r .nil=>⟨_,rfl,r⟩
theorem Vals.two: ∀ {x y:V} {us:List Value},Vals [x,y] us-> ∃ u v,us=[u,v]/\RelV x u/\RelV y v
 | _,_,_,.cons r (.cons q .nil)=>⟨_,_,rfl,r,q⟩
theorem Vals.zero: ∀ {us:List Value},Vals [] us->us=[]
 | _,.nil=>rfl
theorem Vals.dropLast {xs:List V} {us:List Value} (h:Vals xs us):Vals xs.dropLast us.dropLast:=by
 induction h with
 | nil=>exact .nil
 | cons r t ih=>
  cases t with
  | nil=>exact .nil
  | cons q t'=>exact .cons r ih
theorem pE {α:Type} (l:List α):l.eraseIdx (l.length-1)=l.dropLast:=by
 induction l with
 | nil=>rfl
 | cons a r ih=>
  cases r with
  | nil=>rfl
  | cons b r=>
   have e:(a::b::r).length-1=((b::r).length-1) +1:=by
    have h1:(a::b::r).length=r.length+2:=rfl;have h2:(b::r).length=r.length+1:=rfl;lia
   rw [e,List.eraseIdx_cons_succ,ih];all_goals rfl
section
variable {X:Cx} {pins:List (Addr×Obj)} {σ:St} {H:Hp} {s:Shared} {l b:Addr} {xs ys zs:List V}
theorem Inv.lset {its its':List Value} {n:Nat} {f:Array Value->Array Value} {t':Nat} (I:Inv X pins σ H s) (hH:H l=some (.lst xs))
  (e:s.heap.get? l=some {cls:=.type "list",data:=.seq its.toArray n}) (hf:f its.toArray=its'.toArray) (hv:Vals ys its') (hz:ys.length<=sizeLine):
  Inv X pins σ (upd H l (.lst ys)) {s with heap:=s.heap.update l (Obj.mapSeq f),toks:=t'}:=by
 have q:=PySem.IsL.update e f;rw [hf]at q;refine I.write (x:=l) (e:=l) (by rw [hH];exact trivial) (.inl rfl) (λb' u hb hu=>(B1 s.heap (Obj.mapSeq f) (Bg hb)).trans hu) ⟨_,q⟩ ?_;exact ⟨hz,its',_,hv,q⟩
theorem Inv.lnew {its:List Value} {t':Nat} (I:Inv X pins σ H s) (hv:Vals ys its) (hz:ys.length<=sizeLine):
  Inv X pins σ (upd H s.heap.objs.size (.lst ys)) {s with heap:=s.heap.push {cls:=.type "list",data:=.seq its.toArray},toks:=t'}:=
 I.laid (λ_ _ q=>AC _ q) (AJ _) ⟨hz,its,0,hv,AU _ rfl⟩
theorem Inv.fresh (I:Inv X pins σ H s):H s.heap.objs.size=none:=I.hok.fresh (AJ _)
theorem Inv.lstM (I:Inv X pins σ H s) (hH:H l=some (.lst xs)):xs.length<=sizeLine/\ ∃ (its:List Value) (n:Nat),Vals xs its/\xs.length=its.length/\s.heap.get? l=some {cls:=.type "list",data:=.seq its.toArray n}:=by
 obtain ⟨z,its,n,r,e⟩:=I.hok l _ hH;exact ⟨z,its,n,r,r.length,e⟩
theorem nk {n:Nat} (h:n<=sizeLine):Builtin.List.listTooLong n=false:=by
 unfold Builtin.List.listTooLong;exact AW (by lia)
end
section
variable {X:Cx}
inductive qe  (x:V) (vs:List V) (H:Hp) (Q:VK):Prop
 | mk: ∀ l xs y,(x=.ref l)->(vs=[y])->(H l=some (.lst xs))->(xs.length<sizeLine)->(Q .non (upd H l (.lst (xs++[y]))))->qe x vs H Q
theorem bp:MtM X "list.append" qe:=by
 intro pins s σ H x vs v us Q I rx rv h;obtain ⟨l,xs,y,rfl,rfl,hH,hz,q⟩:=h;cases rx;obtain ⟨u,rfl,ru⟩:=rv.one;obtain ⟨z,its,n,r,hl,e⟩:=I.lstM hH;refine DA F.slot_list_append ⟨_,e,rfl⟩ F.entry_list_append (F.args_list_append_2 _ _) (PySem.list_append l its.toArray n u (by rw [AL];lia)) ⟨e,?_⟩;refine ⟨.non,_,I.lset (its':=its++[u]) hH e (by simp) (r.append (.cons ru .nil)) ?_,rfl,q⟩;rw [AI,Cq];lia
inductive qd  (x:V) (vs:List V) (H:Hp) (Q:VK):Prop
 | mk: ∀ l b xs zs,(x=.ref l)->(vs=[.ref b])->(H l=some (.lst xs))->(H b=some (.lst zs))->(xs.length+zs.length<=sizeLine)->(Q .non (upd H l (.lst (xs++zs))))->qd x vs H Q
theorem ky:MtM X "list.extend" qd:=by
 intro pins s σ H x vs v us Q I rx rv h;obtain ⟨l,b,xs,zs,rfl,rfl,hH,hB,hz,q⟩:=h;cases rx;obtain ⟨u,rfl,ru⟩:=rv.one;cases ru;obtain ⟨z,its,n,r,hl,e⟩:=I.lstM hH;obtain ⟨z2,its2,n2,r2,hl2,e2⟩:=I.lstM hB;have hsz:its.toArray.size+its2.toArray.size<=sizeLine:=by rw [AL,AL];lia
 have hlong: ¬ (!its.toArray.isEmpty&&Builtin.List.listTooLong (its.toArray.size+its2.toArray.size))=true:=by
  rw [nk hsz,Bool.and_false];exact AR
 refine DA F.slot_list_extend ⟨_,e,rfl⟩ F.entry_list_extend (F.args_list_extend_2 _ _)
  (AutoSeq1.list_extend_list_list_0 l its.toArray n b its2.toArray n2 hlong (by rw [AL];lia) (by lia)) ⟨e,e2,?_⟩
 refine ⟨.non,_,I.lset (its':=its++its2) hH e (by simp) (r.append r2) ?_,rfl,q⟩;rw [AI];lia
inductive xP  (x:V) (vs:List V) (H:Hp) (Q:VK):Prop
 | mk: ∀ l xs y,(x=.ref l)->(vs=[])->(H l=some (.lst xs))->(xs[xs.length-1]? =some y)->(Q y (upd H l (.lst xs.dropLast)))->xP x vs H Q
theorem oX:MtM X "list.pop" xP:=by
 intro pins s σ H x vs v us Q I rx rv h;obtain ⟨l,xs,y,rfl,rfl,hH,hy,q⟩:=h;cases rx;have hus:=rv.zero;subst hus;obtain ⟨z,its,n,r,hl,e⟩:=I.lstM hH;obtain ⟨u,hu,ru⟩:=r.get hy;have hy':its.toArray[its.toArray.size-1]? =some u:=by
  show its.toArray[its.length-1]? =some u;rw [<- CY,<- hl];exact hu
 refine DA F.slot_list_pop ⟨_,e,rfl⟩ F.entry_list_pop (F.args_list_pop_1 _) (MeetsSeq.list_pop_last l its.toArray n u hy' (by rw [AL];lia)) ⟨e,?_⟩;refine ⟨y,_,I.lset (its':=its.dropLast) hH e ?_ r.dropLast ?_,ru,q⟩
 ·show its.toArray.eraseIdxIfInBounds (its.toArray.size-1)=its.dropLast.toArray;rw [AL,List.eraseIdxIfInBounds_toArray,pE]
 ·rw [List.length_dropLast];lia
inductive zh  (x:V) (y:V) (H:Hp) (Q:VK):Prop
 | mk: ∀ l b xs zs,(x=.ref l)->(y=.ref b)->(H l=some (.lst xs))->(H b=some (.lst zs))->(xs.length+zs.length<=sizeLine)->(∀ p,H p=none->Q (.ref p) (upd H p (.lst (xs++zs))))->zh x y H Q
theorem fH:OpR X (binaryOp .Add) zh:=by
 intro pins s σ H x y v u Q I rx ry h;obtain ⟨l,b,xs,zs,rfl,rfl,hH,hB,hz,q⟩:=h;cases rx;cases ry;obtain ⟨z,its,n,r,hl,e⟩:=I.lstM hH;obtain ⟨z2,its2,n2,r2,hl2,e2⟩:=I.lstM hB;refine PySem.P.add_list e e2 ?_ (by rw [AL,AL];lia);have ea:its.toArray++its2.toArray=(its++its2).toArray:=by simp
 rw [ea];exact ⟨.ref _,_,I.lnew (t':=s.toks) (r.append r2) (by rw [AI];lia),rfl,q _ I.fresh⟩
end
section
variable {κ:Type} [DecidableEq κ]
noncomputable def aW (kvs:List (κ×V)) (k:κ):Option V:=(kvs.find? λkv=>decide (kv.1=k)).map (·.2)
noncomputable def bw (kvs:List (κ×V)) (k:κ) (v:V):List (κ×V):=
 if (kvs.any λkv=>decide (kv.1=k))=true then kvs.map (λkv=>if kv.1=k then (kv.1,v)else kv)else kvs++[(k,v)]
theorem sY {k:κ}:aW ([]:List (κ×V)) k=none:=rfl
theorem bP {p:κ×V} {r:List (κ×V)} {k:κ} (e:p.1=k):aW (p::r) k=some p.2:=by simp [aW,CJ,e]
theorem bo {p:κ×V} {r:List (κ×V)} {k:κ} (e: ¬ p.1=k):aW (p::r) k=aW r k:=by simp [aW,CJ,e]
theorem dz (k:κ): ∀ kvs:List (κ×V),(kvs.any λkv=>decide (kv.1=k))=(aW kvs k).isSome
 | []=>rfl
 | p::r=>by
  rw [Do];by_cases e:p.1=k
  ·simp only [bP e,AO e,Bool.true_or,Option.isSome_some]
  ·rw [bo e,AW e,Bool.false_or];exact dz k r
theorem ml (k j:κ) (y:V): ∀ kvs:List (κ×V),aW (kvs.map λkv=>if kv.1=k then (kv.1,y)else kv) j=(aW kvs j).map λx=>if j=k then y else x
 | []=>rfl
 | p::r=>by
  have ih:=ml k j y r;rw [BM];by_cases h:p.1=k
  ·rw [AX h];by_cases e:p.1=j
   ·rw [bP (p:=(p.1,y)) e,bP e,EJ,AX (e.symm.trans h)]
   ·rw [bo (p:=(p.1,y)) e,bo e,ih]
  ·rw [AQ h];by_cases e:p.1=j
   ·rw [bP (p:=p) e,bP e,EJ,AQ (λz=>h (e.trans z))]
   ·rw [bo (p:=p) e,bo e,ih]
theorem j0 (k j:κ) (y:V): ∀ kvs:List (κ×V),aW kvs k=none->aW (kvs++[(k,y)]) j=if j=k then some y else aW kvs j
 | [],_=>by
  by_cases e:k=j
  ·rw [AX e.symm];exact bP (p:=(k,y)) e
  ·rw [AQ (λz=>e z.symm)];exact bo (p:=(k,y)) e
 | p::r,hn=>by
  rw [List.cons_append];have hk: ¬ p.1=k:=λz=>by rw [bP z]at hn;cases hn
  rw [bo hk]at hn;have ih:=j0 k j y r hn;by_cases e:p.1=j
  ·rw [bP e,bP e,AQ (λz=>hk (e.trans z))]
  ·rw [bo e,bo e,ih]
theorem cI (kvs:List (κ×V)) (k j:κ) (y:V):aW (bw kvs k y) j=if j=k then some y else aW kvs j:=by
 unfold bw;by_cases a:(kvs.any λkv=>decide (kv.1=k))=true
 ·rw [AX a,ml];rw [dz]at a;by_cases e:j=k
  ·obtain ⟨x,hx⟩:=DQ.mp a;rw [AX e,e,hx,EJ,AX rfl]
  ·rw [AQ e];cases aW kvs j with
   | none=>rfl
   | some x=>rw [EJ,AQ e]
 ·rw [AQ a];refine j0 k j y kvs ?_;rw [dz]at a;cases q:aW kvs k with
  | none=>rfl
  | some x=>rw [q]at a;exact (a rfl).elim
theorem bI (kvs:List (κ×V)) (k:κ) (v:V):(bw kvs k v).length<=kvs.length+1:=by
 unfold bw;split
 ·rw [AD];lia
 ·rw [AI,AM,Fv];lia
theorem RelO.isSome_eq {o:Option V} {u:Option Value} (r:RelO o u):o.isSome=u.isSome:=by
 cases o with
 | none=>cases u with
  | none=>rfl
  | some _=>exact (show False from r).elim
 | some _=>cases u with
  | none=>exact (show False from r).elim
  | some _=>rfl
theorem RelO.getD {o:Option V} {u:Option Value} {d:V} {d':Value} (r:RelO o u) (rd:RelV d d'):RelV (o.getD d) (u.getD d'):=by
 cases o with
 | none=>cases u with
  | none=>exact rd
  | some _=>exact (show False from r).elim
 | some _=>cases u with
  | none=>exact (show False from r).elim
  | some _=>exact r
theorem KV.val {kvs:List (κ×V)} {vs:List (κ×Value)} (r:KV kvs vs) (k:κ):RelO (aW kvs k) (valueAt vs k):=by
 unfold KV at r;induction r with
 | nil=>exact True.intro
 | @cons p q ps qs h t ih=>
  obtain ⟨h1,h2⟩:=h;by_cases e:p.1=k
  ·have e':q.1=k:=h1.symm.trans e;have b:valueAt (q::qs) k=some q.2:=by simp [valueAt,CJ,e']
   rw [bP e,b];exact h2
  ·have e': ¬ q.1=k:=λz=>e (h1.trans z);have b:valueAt (q::qs) k=valueAt qs k:=by simp [valueAt,CJ,e']
   rw [bo e,b];exact ih
theorem KV.any {kvs:List (κ×V)} {vs:List (κ×Value)} (r:KV kvs vs) (k:κ):(kvs.any λkv=>decide (kv.1=k))=vs.any λkv=>decide (kv.1=k):=by
 unfold KV at r;induction r with
 | nil=>rfl
 | cons h t ih=>rw [Do,Do,ih,h.1]
theorem KV.repl {kvs:List (κ×V)} {vs:List (κ×Value)} (r:KV kvs vs) (k:κ) {y:V} {u:Value} (ry:RelV y u):
  KV (kvs.map λkv=>if kv.1=k then (kv.1,y)else kv) (vs.map λkv=>if kv.1=k then (kv.1,u)else kv):=by
 unfold KV at r ⊢;induction r with
 | nil=>exact .nil
 | @cons p q ps qs h t ih=>
  rw [BM,BM];refine .cons ?_ ih;obtain ⟨h1,h2⟩:=h;by_cases e:p.1=k
  ·rw [AX e,AX (h1.symm.trans e)];exact ⟨h1,ry⟩
  ·rw [AQ e,AQ (λz=>e (h1.trans z))];exact ⟨h1,h2⟩
theorem KV.put {kvs:List (κ×V)} {vs:List (κ×Value)} (r:KV kvs vs) (k:κ) {y:V} {u:Value} (ry:RelV y u):KV (bw kvs k y) (stored vs k u):=by
 unfold bw stored;rw [r.any k];by_cases e:(vs.any λkv=>decide (kv.1=k))=true
 ·rw [AX e,AX e];exact r.repl k ry
 ·rw [AQ e,AQ e];exact BH r ⟨rfl,ry⟩
theorem KV.length {kvs:List (κ×V)} {vs:List (κ×Value)} (r:KV kvs vs):kvs.length=vs.length:=AZ r
end
theorem iP {P:Program} {w:World} {k:Key} {u:Value} (r:RelV (kV k) u):(aV P w).is k u=true:=by
 cases k with
 | inl i=>obtain ⟨t,e⟩:=(show ∃ t,u=Value.int i t from r);subst e;exact nq P w i t
 | inr x=>obtain ⟨t,e⟩:=(show ∃ t,u=Value.str x t from r);subst e;exact nn P w x t
theorem yj {a b:Key} (e:kV a=kV b):a=b:=by
 cases a with
 | inl i=>cases b with
  | inl j=>have e':V.int i=V.int j:=e;injection e' with e';rw [e']
  | inr y=>exact nomatch (show V.int i=V.str y from e)
 | inr x=>cases b with
  | inl j=>exact nomatch (show V.str x=V.int j from e)
  | inr y=>have e':V.str x=V.str y:=e;injection e' with e';rw [e']
theorem qp: ∀ {a b:List Key},a.map kV=b.map kV->a=b
 | [],[],_=>rfl
 | [],_::_,e=>by simp at e
 | _::_,[],e=>by simp at e
 | x::xs,y::ys,e=>by
  rw [BM,BM]at e;injection e with e1 e2
  rw [yj e1,qp e2]
theorem iC {P:Program} {w:World}: ∀ {ks:List Key} {us:List Value},Vals (ks.map kV) us->ItemsAre (aV P w) ks us
 | [],_,r=>by rw [List.map_nil]at r;cases r;exact .nil
 | k::ks,_,r=>by
  rw [BM]at r;cases r with
  | cons h t=>exact .cons (iP h) (iC t)
noncomputable abbrev KT (H:Hp):List (List Key×V)->List (List Key×Addr×Value)->Prop:=Paired λp q=>p.1=q.1/\H q.2.1=some (.tup (p.1.map kV))/\RelV p.2 q.2.2
theorem KT.val {H:Hp} {kvs:List (List Key×V)} {xs:List (List Key×Addr×Value)} (r:KT H kvs xs) (k:List Key):RelO (aW kvs k) ((atKey xs k).map (·.2)):=by
 induction r with
 | nil=>exact True.intro
 | @cons p q ps qs h t ih=>
  obtain ⟨h1,_,h2⟩:=h;by_cases e:p.1=k
  ·have e':q.1=k:=h1.symm.trans e;have b:atKey (q::qs) k=some q.2:=by simp [atKey,CJ,e']
   rw [bP e,b];exact h2
  ·have e': ¬ q.1=k:=λz=>e (h1.trans z);have b:atKey (q::qs) k=atKey qs k:=by simp [atKey,CJ,e']
   rw [bo e,b];exact ih
theorem KT.repl {H:Hp} {kvs:List (List Key×V)} {xs:List (List Key×Addr×Value)} (r:KT H kvs xs) (k:List Key) {y:V} {u:Value} (ry:RelV y u):
  KT H (kvs.map λkv=>if kv.1=k then (kv.1,y)else kv) (xs.map (putAt k u)):=by
 induction r with
 | nil=>exact .nil
 | @cons p q ps qs h t ih=>
  rw [BM,BM];refine .cons ?_ ih;obtain ⟨h1,h2,h3⟩:=h;unfold putAt;by_cases e:p.1=k
  ·rw [AX e,AX (h1.symm.trans e)];exact ⟨h1,h2,ry⟩
  ·rw [AQ e,AQ (λz=>e (h1.trans z))];exact ⟨h1,h2,h3⟩
theorem KT.put {H:Hp} {kvs:List (List Key×V)} {xs:List (List Key×Addr×Value)} (r:KT H kvs xs) (k:List Key) {b:Addr} {y:V} {u:Value} (hb:H b=some (.tup (k.map kV))) (ry:RelV y u):
  KT H (bw kvs k y) (storedH xs k b u):=by
 have e:(kvs.any λkv=>decide (kv.1=k))=(atKey xs k).isSome:=by
  rw [dz,(r.val k).isSome_eq,C4]
 unfold bw storedH;rw [e];by_cases q:(atKey xs k).isSome=true
 ·rw [AX q,AX q];exact r.repl k ry
 ·rw [AQ q,AQ q];exact BH r ⟨rfl,hb,ry⟩
theorem KT.keeps {H H':Hp} {kvs:List (List Key×V)} {xs:List (List Key×Addr×Value)} (r:KT H kvs xs) (ht: ∀ b ys,H b=some (.tup ys)->H' b=some (.tup ys)):KT H' kvs xs:=
 Paired.mapP r λ_ _ z=>⟨z.1,ht _ _ z.2.1,z.2.2⟩
noncomputable abbrev KP (H:Hp):List ((List Key×Key)×V)->List ((List Key×Key)×Addr×Value)->Prop:=Paired λp q=>p.1=q.1/\(∃ c,H q.2.1=some (.tup [.ref c,kV p.1.2])/\H c=some (.tup (p.1.1.map kV)))/\RelV p.2 q.2.2
theorem KP.val {H:Hp} {kvs:List ((List Key×Key)×V)} {xs:List ((List Key×Key)×Addr×Value)} (r:KP H kvs xs) (k:List Key×Key):RelO (aW kvs k) ((atKey xs k).map (·.2)):=by
 induction r with
 | nil=>exact True.intro
 | @cons p q ps qs h t ih=>
  obtain ⟨h1,_,h2⟩:=h;by_cases e:p.1=k
  ·have e':q.1=k:=h1.symm.trans e;have b:atKey (q::qs) k=some q.2:=by simp [atKey,CJ,e']
   rw [bP e,b];exact h2
  ·have e': ¬ q.1=k:=λz=>e (h1.trans z);have b:atKey (q::qs) k=atKey qs k:=by simp [atKey,CJ,e']
   rw [bo e,b];exact ih
theorem KP.repl {H:Hp} {kvs:List ((List Key×Key)×V)} {xs:List ((List Key×Key)×Addr×Value)} (r:KP H kvs xs) (k:List Key×Key) {y:V} {u:Value} (ry:RelV y u):
  KP H (kvs.map λkv=>if kv.1=k then (kv.1,y)else kv) (xs.map (putAt k u)):=by
 induction r with
 | nil=>exact .nil
 | @cons p q ps qs h t ih=>
  rw [BM,BM];refine .cons ?_ ih;obtain ⟨h1,h2,h3⟩:=h;unfold putAt;by_cases e:p.1=k
  ·rw [AX e,AX (h1.symm.trans e)];exact ⟨h1,h2,ry⟩
  ·rw [AQ e,AQ (λz=>e (h1.trans z))];exact ⟨h1,h2,h3⟩
theorem KP.put {H:Hp} {kvs:List ((List Key×Key)×V)} {xs:List ((List Key×Key)×Addr×Value)} (r:KP H kvs xs) (k:List Key×Key) {b:Addr} {y:V} {u:Value} (hb: ∃ c,H b=some (.tup [.ref c,kV k.2])/\H c=some (.tup (k.1.map kV))) (ry:RelV y u):
  KP H (bw kvs k y) (storedH xs k b u):=by
 have e:(kvs.any λkv=>decide (kv.1=k))=(atKey xs k).isSome:=by
  rw [dz,(r.val k).isSome_eq,C4]
 unfold bw storedH;rw [e];by_cases q:(atKey xs k).isSome=true
 ·rw [AX q,AX q];exact r.repl k ry
 ·rw [AQ q,AQ q];exact BH r ⟨rfl,hb,ry⟩
theorem KP.keeps {H H':Hp} {kvs:List ((List Key×Key)×V)} {xs:List ((List Key×Key)×Addr×Value)} (r:KP H kvs xs) (ht: ∀ b ys,H b=some (.tup ys)->H' b=some (.tup ys)):KP H' kvs xs:=
 Paired.mapP r λ_ _ z=>⟨z.1,let ⟨c,e1,e2⟩:=z.2.1;⟨c,ht _ _ e1,ht _ _ e2⟩,z.2.2⟩
section
variable {P:Program} {w:World} {H:Hp} {h:Heap} {a:Addr}
theorem ud {u:HO} (ok:HOk P w H h) (e:Rd H a u):ObjOk P w H h a u:=e.ok ok
theorem jF {kvs:List (Key×V)} (ok:HOk P w H h) (e:Rd H a (.dK kvs)):kvs.length<=sizeLine/\(a==sysModules)=false/\ ∃ vs,KV kvs vs/\h.DictOf (aV P w) a vs:=
 show ObjOk P w H h a (.dK kvs)from ud ok e
theorem zJ {kvs:List (Key×V)} (ok:HOk P w H h) (e:H a=some (.dK kvs)):kvs.length<=sizeLine/\(a==sysModules)=false/\ ∃ vs,KV kvs vs/\h.DictOf (aV P w) a vs:=jF ok (.inl e)
theorem gI {ks:List Key} (ok:HOk P w H h) (e:H a=some (.tup (ks.map kV))):(tupleKind (aV P w)).is h ks a:=by
 obtain ⟨_,its,r,o,h1,h2,n,h3⟩:=(show ObjOk P w H h a (.tup (ks.map kV))from ok a _ e);exact ⟨o,its.toArray,n,h1,h2,h3,by simpa using iC r⟩
theorem jE {kvs:List (List Key×V)} (ok:HOk P w H h) (e:Rd H a (.dT kvs)):kvs.length<=sizeLine/\(a==sysModules)=false/\
  ∃ xs,KT H kvs xs/\h.DictOfH (tupleKind (aV P w)) a xs:=by
 obtain ⟨z,y,xs,r,o,es,ep,h1,h2,h3,h4,h5⟩:=(show ObjOk P w H h a (.dT kvs)from ud ok e);refine ⟨z,y,xs,r,o,es,ep,h1,h2,h3,h4,λx hx=>?_,h5⟩;have all: ∀ {l:List (List Key×V)} {m:List (List Key×Addr×Value)},KT H l m-> ∀ x∈m,(tupleKind (aV P w)).is h x.1 x.2.1:=by
  intro l m q;induction q with
  | nil=>intro x hx;exact nomatch hx
  | @cons p q ps qs hq t ih=>
   intro x hx;rcases AY.mp hx with e | hx
   ·subst e;exact gI ok (by rw [<- hq.1];exact hq.2.1)
   ·exact ih x hx
 exact all r x hx
theorem zH {kvs:List (List Key×V)} (ok:HOk P w H h) (e:H a=some (.dT kvs)):kvs.length<=sizeLine/\(a==sysModules)=false/\
  ∃ xs,KT H kvs xs/\h.DictOfH (tupleKind (aV P w)) a xs:=jE ok (.inl e)
theorem fW {k:List Key×Key} (ok:HOk P w H h) (e: ∃ c,H a=some (.tup [.ref c,kV k.2])/\H c=some (.tup (k.1.map kV))):(eB (aV P w) (aV P w)).is h k a:=by
 obtain ⟨c,e1,e2⟩:=e;obtain ⟨_,its,r,o,h1,h2,n,h3⟩:=(show ObjOk P w H h a (.tup [.ref c,kV k.2])from ok a _ e1);obtain ⟨u,v,rfl,ru,rv⟩:=r.two;cases (show u=Value.ref c from ru);exact ⟨o,_,n,c,v,h1,h2,h3,by simp,gI ok e2,iP rv⟩
theorem kE {kvs:List ((List Key×Key)×V)} (ok:HOk P w H h) (e:Rd H a (.dP kvs)):kvs.length<=sizeLine/\(a==sysModules)=false/\
  ∃ xs,KP H kvs xs/\h.DictOfH (eB (aV P w) (aV P w)) a xs:=by
 obtain ⟨z,y,xs,r,o,es,ep,h1,h2,h3,h4,h5⟩:=(show ObjOk P w H h a (.dP kvs)from ud ok e);refine ⟨z,y,xs,r,o,es,ep,h1,h2,h3,h4,λx hx=>?_,h5⟩;have all: ∀ {l:List ((List Key×Key)×V)} {m:List ((List Key×Key)×Addr×Value)},KP H l m-> ∀ x∈m,(eB (aV P w) (aV P w)).is h x.1 x.2.1:=by
  intro l m q;induction q with
  | nil=>intro x hx;exact nomatch hx
  | @cons p q ps qs hq t ih=>
   intro x hx;rcases AY.mp hx with e | hx
   ·subst e;rw [<- hq.1];exact fW ok hq.2.1
   ·exact ih x hx
 exact all r x hx
theorem zI {kvs:List ((List Key×Key)×V)} (ok:HOk P w H h) (e:H a=some (.dP kvs)):kvs.length<=sizeLine/\(a==sysModules)=false/\
  ∃ xs,KP H kvs xs/\h.DictOfH (eB (aV P w) (aV P w)) a xs:=kE ok (.inl e)
end
def DGet (H:Hp) (a:Addr) (y:V) (r:Option V):Prop:=
 (∃ kvs k,Rd H a (.dK kvs)/\y=kV k/\r=aW kvs k)\/(∃ kvs k b,Rd H a (.dT kvs)/\y=.ref b/\H b=some (.tup (k.map kV))/\r=aW kvs k)\/
 ∃ kvs k b,Rd H a (.dP kvs)/\y=.ref b/\(∃ c,H b=some (.tup [.ref c,kV k.2])/\H c=some (.tup (k.1.map kV)))/\r=aW kvs k
def DPut (H:Hp) (a:Addr) (y v:V) (H':Hp):Prop:=
 (∃ kvs k,H a=some (.dK kvs)/\y=kV k/\kvs.length<sizeLine/\H'=upd H a (.dK (bw kvs k v)))\/
 (∃ kvs k b,H a=some (.dT kvs)/\y=.ref b/\H b=some (.tup (k.map kV))/\kvs.length<sizeLine/\H'=upd H a (.dT (bw kvs k v)))\/
 ∃ kvs k b,H a=some (.dP kvs)/\y=.ref b/\(∃ c,H b=some (.tup [.ref c,kV k.2])/\H c=some (.tup (k.1.map kV)))/\kvs.length<sizeLine/\H'=upd H a (.dP (bw kvs k v))
theorem DGet.k {H:Hp} {a:Addr} {kvs:List (Key×V)} {k:Key} (e:H a=some (.dK kvs)):DGet H a (kV k) (aW kvs k):=.inl ⟨kvs,k,.inl e,rfl,rfl⟩
theorem DGet.t {H:Hp} {a b:Addr} {kvs:List (List Key×V)} {k:List Key} (e:H a=some (.dT kvs)) (eb:H b=some (.tup (k.map kV))):DGet H a (.ref b) (aW kvs k):=.inr (.inl ⟨kvs,k,b,.inl e,rfl,eb,rfl⟩)
theorem DPut.k {H:Hp} {a:Addr} {kvs:List (Key×V)} {k:Key} {v:V} (e:H a=some (.dK kvs)) (hl:kvs.length<sizeLine):DPut H a (kV k) v (upd H a (.dK (bw kvs k v))):=.inl ⟨kvs,k,e,rfl,hl,rfl⟩
theorem DPut.t {H:Hp} {a b:Addr} {kvs:List (List Key×V)} {k:List Key} {v:V} (e:H a=some (.dT kvs)) (eb:H b=some (.tup (k.map kV))) (hl:kvs.length<sizeLine):
  DPut H a (.ref b) v (upd H a (.dT (bw kvs k v))):=.inr (.inl ⟨kvs,k,b,e,rfl,eb,hl,rfl⟩)
section
variable {X:Cx} {pins:List (Addr×Obj)} {σ:St} {H:Hp} {s:Shared} {a:Addr} {y v:V} {u r:Value} {o:Option V} {A:Around} {E:Value->Shared->Prop}
theorem Inv.big (I:Inv X pins σ H s):sysModules<s.heap.objs.size:=by
 have h:mainGlobals<s.heap.objs.size:=(I.mod.glob.keeps I.bk).lt;exact Nat.lt_trans (by decide) h
theorem kH {Q:Value->Shared->Prop} (hu:A.units+16<cLine) (I:Inv X pins σ H s) (g:DGet H a y (some v)) (ry:RelV y u) (h: ∀ w' s',Inv X pins σ H s'->RelV v w'->Q w' s'):
  wpAny (model X.prog X.w) A (getItem (.ref a) u) Q E s:=by
 rcases g with ⟨kvs,k,e,ey,l⟩ | ⟨kvs,k,b,e,ey,eb,l⟩ | ⟨kvs,k,b,e,ey,eb,l⟩
 ·subst ey;obtain ⟨z,hd,vs,rel,dd⟩:=jF I.hok e;obtain ⟨w',hw,rw'⟩:=RelO.some_of (v:=v) (o:=valueAt vs k) (by rw [l];exact rel.val k);exact wpAny_getItem_of (iP ry) dd.mapOf hw (h w' _ (I.tok _) rw')
 ·subst ey;cases (show u=Value.ref b from ry);obtain ⟨z,hd,xs,rel,dd⟩:=jE I.hok e;obtain ⟨w',hw,rw'⟩:=RelO.some_of (v:=v) (o:=(atKey xs k).map (·.2)) (by rw [l];exact rel.val k);obtain ⟨p,hp,hp2⟩:=Bw.mp hw;refine wpAny_getItem_heap (Dj (by lia)) (gI I.hok eb) dd hp ?_;rw [hp2];exact h w' _ (I.tok _) rw'
 ·subst ey;cases (show u=Value.ref b from ry);obtain ⟨z,hd,xs,rel,dd⟩:=kE I.hok e;obtain ⟨w',hw,rw'⟩:=RelO.some_of (v:=v) (o:=(atKey xs k).map (·.2)) (by rw [l];exact rel.val k);obtain ⟨p,hp,hp2⟩:=Bw.mp hw;refine wpAny_getItem_heap (show _+8<cLine by show A.units+1+8<cLine;lia) (fW I.hok eb) dd hp ?_;rw [hp2];exact h w' _ (I.tok _) rw'
theorem Ap {Q:Value->Shared->Prop} (hu:A.units+16<cLine) (I:Inv X pins σ H s) (g:DGet H a y o) (ry:RelV y u) (h: ∀ s',Inv X pins σ H s'->Q (.bool o.isSome) s'):
  wpAny (model X.prog X.w) A (compareOp .In u (.ref a)) Q E s:=by
 rcases g with ⟨kvs,k,e,ey,l⟩ | ⟨kvs,k,b,e,ey,eb,l⟩ | ⟨kvs,k,b,e,ey,eb,l⟩
 ·subst ey;obtain ⟨z,hd,vs,rel,dd⟩:=jF I.hok e;refine wpAny_in_of (iP ry) hd dd.mapOf ?_;rw [<- (rel.val k).isSome_eq,<- l];exact h _ (I.tok _)
 ·subst ey;cases (show u=Value.ref b from ry);obtain ⟨z,hd,xs,rel,dd⟩:=jE I.hok e;refine wpAny_in_heap (Dj (by lia)) (gI I.hok eb) hd dd ?_;have q:=(rel.val k).isSome_eq;rw [C4]at q;rw [<- q,<- l];exact h _ (I.tok _)
 ·subst ey;cases (show u=Value.ref b from ry);obtain ⟨z,hd,xs,rel,dd⟩:=kE I.hok e;refine wpAny_in_heap (show _+8<cLine by show A.units+1+8<cLine;lia) (fW I.hok eb) hd dd ?_;have q:=(rel.val k).isSome_eq;rw [C4]at q;rw [<- q,<- l];exact h _ (I.tok _)
theorem wX {Q:Value->Shared->Prop} (hu:A.units+16<cLine) (I:Inv X pins σ H s) (g:DGet H a y o) (ry:RelV y u) (h: ∀ s',Inv X pins σ H s'->Q (.bool (!o.isSome)) s'):
  wpAny (model X.prog X.w) A (compareOp .NotIn u (.ref a)) Q E s:=by
 rcases g with ⟨kvs,k,e,ey,l⟩ | ⟨kvs,k,b,e,ey,eb,l⟩ | ⟨kvs,k,b,e,ey,eb,l⟩
 ·subst ey;obtain ⟨z,hd,vs,rel,dd⟩:=jF I.hok e;refine wpAny_notIn_of (iP ry) hd dd.mapOf ?_;rw [<- (rel.val k).isSome_eq,<- l];exact h _ (I.tok _)
 ·subst ey;cases (show u=Value.ref b from ry);obtain ⟨z,hd,xs,rel,dd⟩:=jE I.hok e;refine wpAny_notIn_heap (Dj (by lia)) (gI I.hok eb) hd dd ?_;have q:=(rel.val k).isSome_eq;rw [C4]at q;rw [<- q,<- l];exact h _ (I.tok _)
 ·subst ey;cases (show u=Value.ref b from ry);obtain ⟨z,hd,xs,rel,dd⟩:=kE I.hok e;refine wpAny_notIn_heap (show _+8<cLine by show A.units+1+8<cLine;lia) (fW I.hok eb) hd dd ?_;have q:=(rel.val k).isSome_eq;rw [C4]at q;rw [<- q,<- l];exact h _ (I.tok _)
theorem i6 {h':Heap} {t':Nat} {ob:HO} (I:Inv X pins σ H s) (mu:Mut (H a)) (hs:Heap.SameBut a s.heap h') (he: ∃ q,h'.get? a=some q) (new:ObjOk X.prog X.w (upd H a ob) h' a ob):
  Inv X pins σ (upd H a ob) {s with heap:=h',toks:=t'}:=
 I.write (x:=a) (e:=a) mu (.inl rfl) (λb q hb z=>(hs.2 b hb).trans z) he new
theorem yA {P:Program} {w:World} {H':Hp} {h':Heap} {kvs:List (Key×V)} {vs:List (Key×Value)} (z:kvs.length<=sizeLine) (hd:(a==sysModules)=false) (rel:KV kvs vs) (dd:h'.DictOf (aV P w) a vs):
  ObjOk P w H' h' a (.dK kvs):=⟨z,hd,vs,rel,dd⟩
theorem kG {H':Hp} {Q:Unit->Shared->Prop} (hu:A.units+16<cLine) (I:Inv X pins σ H s) (g:DPut H a y v H') (ry:RelV y u) (rv:RelV v r) (h: ∀ s',Inv X pins σ H' s'->Q () s'):
  wpAny (model X.prog X.w) A (setItem (.ref a) u r) Q E s:=by
 rcases g with ⟨kvs,k,e,ey,l,eH⟩ | ⟨kvs,k,b,e,ey,eb,l,eH⟩ | ⟨kvs,k,b,e,ey,eb,l,eH⟩
 ·subst ey eH;obtain ⟨z,hd,vs,rel,dd⟩:=zJ I.hok e;have hz:vs.length<=sizeLine:=by rw [<- rel.length];exact z
  have hl:(bw kvs k v).length<=sizeLine:=by have:=bI kvs k v;lia
  refine wpAny_setItem_pairs (hsz:=hz) (iP ry) dd λh' dd' hs=>h _ ?_;have he: ∃ q,h'.get? a=some q:=let ⟨q,_,_,hq,_⟩:=dd';⟨q,hq⟩;exact i6 I (by rw [e];exact True.intro) hs he (yA hl hd (rel.put k rv) dd')
 ·subst ey eH;cases (show u=Value.ref b from ry);obtain ⟨z,hd,xs,rel,dd⟩:=zH I.hok e;have hz:xs.length<=sizeLine:=by rw [<- AZ rel];exact z
  have hl:(bw kvs k v).length<=sizeLine:=by have:=bI kvs k v;lia
  refine wpAny_setItem_heap (hsz:=hz) (Dj (by lia)) (gI I.hok eb) dd λh' dd' hs=>h _ ?_;obtain ⟨q,es,ep,hq,h2,h3,h4,_,h5⟩:=dd';refine i6 I (by rw [e];exact True.intro) hs ⟨q,hq⟩ ⟨hl,hd,_,(rel.put k eb rv).keeps λc ys ec=>?_,q,es,ep,hq,h2,h3,h4,h5⟩;rw [ah (xn ec e (λz=>nomatch z))];exact ec
 ·subst ey eH;cases (show u=Value.ref b from ry);obtain ⟨z,hd,xs,rel,dd⟩:=zI I.hok e;have hz:xs.length<=sizeLine:=by rw [<- AZ rel];exact z
  have hl:(bw kvs k v).length<=sizeLine:=by have:=bI kvs k v;lia
  refine wpAny_setItem_heap (hsz:=hz) (show _+8<cLine by show A.units+1+8<cLine;lia) (fW I.hok eb) dd λh' dd' hs=>h _ ?_;obtain ⟨q,es,ep,hq,h2,h3,h4,_,h5⟩:=dd';refine i6 I (by rw [e];exact True.intro) hs ⟨q,hq⟩ ⟨hl,hd,_,(rel.put k eb rv).keeps λc ys ec=>?_,q,es,ep,hq,h2,h3,h4,h5⟩;rw [ah (xn ec e (λz=>nomatch z))];exact ec
end
def zN (i:Expr):Prop:= ∀ ov iv,subscripted i false ov iv=operate [ov,iv] (getItem ov iv)
theorem vN {prog:Program} {w:World} {A:Around} {E:Value->Shared->Prop} {s:Shared} {env:Env} {value slice:Expr} {pos:Pos} {T id:String} {Q:Value->Shared->Prop}
  (hl:typeLookup (.type T) "__getitem__"=pure (some (.builtin id))) (hs:zN slice)
  (h:wpAny (model prog w) A (eval value env) (λo s₁=>wpAny (model prog w) A (eval slice env) (λi s₂=>s₂.TypeIs o T/\wpAny (model prog w) A (getItem o i) Q E s₂) E s₁) E s):
  wpAny (model prog w) A (eval (.Subscript value slice pos) env) Q E s:=by
 refine Subscript_ (BS h (λo s₁ h₁=>BS h₁ (λi s₂ h₂=>?_) λ_ _ x=>x) λ_ _ x=>x);obtain ⟨hT,h₂⟩:=h₂;unfold subscriptTail;refine AA ?_;rw [getitemInPython_of_ne hT.not_modules];refine AA (DW hT hl ?_);have fin:wpAny (model prog w) A (subscripted slice false o i) (λr s₃=>wpAny (model prog w) A (letTemporaryGo value o r >>= λ_=>pure r) Q E s₃) E s₂:=by
  rw [hs o i];exact wpAny_operating (BS h₂ (λr s₃ h₃=>AA (wpAny_letTemporaryGo (AB h₃))) λ_ _ x=>x)
 first
  | exact AB (AA fin)
  | exact AA (AB (AA fin))
  | exact AA fin
theorem nE {X:Cx} {pins:List (Addr×Obj)} {σ:St} {H:Hp} {s:Shared} {a:Addr} {y:V} {o:Option V} (I:Inv X pins σ H s) (g:DGet H a y o):s.TypeIs (.ref a) "dict":=by
 rcases g with ⟨kvs,k,e,_,_⟩ | ⟨kvs,k,b,e,_,_,_⟩ | ⟨kvs,k,b,e,_,_,_⟩
 ·obtain ⟨_,_,vs,_,dd⟩:=jF I.hok e;exact dd.typeIs
 ·obtain ⟨_,_,xs,_,dd⟩:=jE I.hok e;exact dd.typeIs
 ·obtain ⟨_,_,xs,_,dd⟩:=kE I.hok e;exact dd.typeIs
def yR (td ty:TE):TE:=λσ H Q=>td σ H λx H1=>ty σ H1 λy H2=> ∃ a v,x=.ref a/\DGet H2 a y (some v)/\Q v H2
def zY (ty td:TE):TE:=λσ H Q=>ty σ H λy H1=>td σ H1 λx H2=> ∃ a o,x=.ref a/\DGet H2 a y o/\Q (.bl o.isSome) H2
def vM (ty td:TE):TE:=λσ H Q=>ty σ H λy H1=>td σ H1 λx H2=> ∃ a o,x=.ref a/\DGet H2 a y o/\Q (.bl (!o.isSome)) H2
def yZ (td ty tv:TE):TS:=λD σ H=>tv σ H λv H1=>td σ H1 λx H2=>ty σ H2 λy H3=> ∃ a H4,x=.ref a/\DPut H3 a y v H4/\D.nx σ H4
def y1 (td ty tv:TE) (rd:V->V->Hp->VK->Prop):TS:=λD σ H=>td σ H λx H1=>ty σ H1 λy H2=> ∃ a v,x=.ref a/\DGet H2 a y (some v)/\
 tv σ H2 λy2 H3=>rd v y2 H3 λz H4=> ∃ H5,DPut H4 a y z H5/\D.nx σ H5
section
variable {X:Cx} {o i e value:Expr} {pos pos' tpos:Pos} {td ty tv:TE}
theorem bK (hu:X.A.units+16<cLine) (ho:PE X o td) (hi:PE X i ty) (hs:zN i):PE X (.Subscript o i pos) (yR td ty):=by
 intro pins s σ H Q I h;refine vN PySem.F.slot_dict_getitem.lookup hs (thn (ho pins s σ H _ I h) λu s1 ⟨x,H1,I1,rx,q1⟩=>thn (hi pins s1 σ H1 _ I1 q1) λiv s2 ⟨y,H2,I2,ry,a,v,ex,g,q2⟩=>?_);subst ex;obtain rfl:u=Value.ref a:=rx;exact ⟨nE I2 g,kH hu I2 g ry λw' s3 I3 rw'=>⟨v,H2,I3,rw',q2⟩⟩
theorem ux (hu:X.A.units+16<cLine) (hi:PE X i ty) (ho:PE X o td):PC X .In i o (zY ty td):=by
 intro pins s σ H Q I h;refine thn (hi pins s σ H _ I h) λiv s1 ⟨y,H1,I1,ry,q1⟩=>thn (ho pins s1 σ H1 _ I1 q1) λu s2 ⟨x,H2,I2,rx,a,ov,ex,g,q2⟩=>?_;subst ex;obtain rfl:u=Value.ref a:=rx;exact Ap hu I2 g ry λs3 I3=>⟨.bl ov.isSome,H2,I3,rfl,q2⟩
theorem ki (hu:X.A.units+16<cLine) (hi:PE X i ty) (ho:PE X o td):PC X .NotIn i o (vM ty td):=by
 intro pins s σ H Q I h;refine thn (hi pins s σ H _ I h) λiv s1 ⟨y,H1,I1,ry,q1⟩=>thn (ho pins s1 σ H1 _ I1 q1) λu s2 ⟨x,H2,I2,rx,a,ov,ex,g,q2⟩=>?_;subst ex;obtain rfl:u=Value.ref a:=rx;exact wX hu I2 g ry λs3 I3=>⟨.bl (!ov.isSome),H2,I3,rfl,q2⟩
theorem cz (hu:X.A.units+16<cLine) (ho:PE X o td) (hi:PE X i ty) (hv:PE X value tv) (hs:swapsWith value (some (.Subscript o i pos')) pos.line X.env=pure false):
  PS X (.Assign [.Subscript o i pos'] value pos) (yZ td ty tv):=by
 intro pins s σ H D I h;refine wpAny_Assign_Subscript (thn (hv pins s σ H _ I h) λr s1 ⟨v,H1,I1,rv,q1⟩=>thn (ho pins s1 σ H1 _ I1 q1) λu s2 ⟨x,H2,I2,rx,q2⟩=>thn (hi pins s2 σ H2 _ I2 q2) λiv s3 ⟨y,H3,I3,ry,a,H4,ex,g,q3⟩=>?_) hs;subst ex;obtain rfl:u=Value.ref a:=rx;exact kG hu I3 g ry rv λs4 I4=>⟨σ,H4,I4,q3⟩
theorem wj {op:Operator} {rd:V->V->Hp->VK->Prop} (hu:X.A.units+16<cLine) (ho:PE X o td) (hi:PE X i ty) (hv:PE X value tv) (hop:zP X op rd)
  (ha: ∀ ov iv new,augStore i ov iv new=(do holding [new,ov,iv] (setItem ov iv new);release [new,ov,iv] [];pure .next)):PS X (.AugAssign (.Subscript o i tpos) op value pos) (y1 td ty tv rd):=by
 intro pins s σ H D I h;refine wpAny_AugAssign_SubscriptAny (thn (ho pins s σ H _ I h) λu s1 ⟨x,H1,I1,rx,q1⟩=>thn (hi pins s1 σ H1 _ I1 q1) λiv s2 ⟨y,H2,I2,ry,a,v,ex,g,q2⟩=>?_) ha;subst ex;obtain rfl:u=Value.ref a:=rx;refine kH hu I2 g ry λw' s3 I3 rw'=>thn (hv pins s3 σ H2 _ I3 q2) λw2 s4 ⟨y2,H3,I4,ry2,q3⟩=>thn (hop pins s4 σ H3 v y2 w' w2 _ I4 rw' ry2 q3) λw3 s5 ⟨z,H4,I5,rz,H5,g5,q4⟩=>?_;exact kG hu I5 g5 ry rz λs6 I6=>⟨σ,H5,I6,q4⟩
end
theorem vq {P:Program} {w:World} {H:Hp} (h:Heap) (hb:sysModules<h.objs.size):ObjOk P w H (h.push {cls:=.type "dict",data:=.dict #[]}) h.objs.size (.dK []):=
 ⟨A6 _,B2.mpr (Bg (Bf hb)),[],.nil,Heap.DictOf.new h⟩
theorem vm {P:Program} {w:World} {H:Hp} (h:Heap) (hb:sysModules<h.objs.size):ObjOk P w H (h.push {cls:=.type "dict",data:=.dict #[]}) h.objs.size (.dT []):=
 ⟨A6 _,B2.mpr (Bg (Bf hb)),[],.nil,_,#[],0,AU _ rfl,⟨rfl,rfl,rfl⟩,rfl,rfl,CU⟩
def xC:TE:=λ_ H Q=> ∀ p,H p=none->Q (.ref p) (upd H p (.dK []))
def xB:TE:=λ_ H Q=> ∀ p,H p=none->Q (.ref p) (upd H p (.dT []))
section
variable {X:Cx} {pos:Pos}
theorem mV:PE X (.Dict [] [] pos) xC:=λpins s σ H Q I h=>
 wpAny_Dict_empty ⟨.ref s.heap.objs.size,_,I.laid (a:=s.heap.objs.size) (o:=.dK []) (t':=s.toks) (λ_ _ q=>AC _ q) (AJ _) (vq s.heap I.big),rfl,h _ (I.hok.fresh (AJ _))⟩
theorem cq:PE X (.Dict [] [] pos) xB:=λpins s σ H Q I h=>
 wpAny_Dict_empty ⟨.ref s.heap.objs.size,_,I.laid (a:=s.heap.objs.size) (o:=.dT []) (t':=s.toks) (λ_ _ q=>AC _ q) (AJ _) (vm s.heap I.big),rfl,h _ (I.hok.fresh (AJ _))⟩
end
structure M2 (X:Cx) (o:Expr) (m:Str) (apos:Pos) (e f:Expr) (cpos:Pos):Prop where
 base:attributeBase o m X.env (eval o X.env)=eval o X.env
 few:((backTo cpos (starEach [e,f] X.env)).all (λx=> !x.1)&&(backToKw cpos (keywordEach [] X.env)).all (λx=>x.1.isSome)
  &&decide (([e,f]:List Expr).length+ ([]:List Keyword).length+ (if ([]:List Keyword).isEmpty then 0 else 1) <30))=true
 line:(apos.endLine==cpos.line)=true
 trees:backTo cpos (starEach [e,f] X.env)=[(false,eval e X.env),(false,eval f X.env)]
def IsD (H:Hp) (a:Addr):Prop:=(∃ kvs,Rd H a (.dK kvs))\/ ∃ kvs,Rd H a (.dT kvs)
theorem ym {X:Cx} {pins:List (Addr×Obj)} {σ:St} {H:Hp} {s:Shared} {a:Addr} (I:Inv X pins σ H s) (d:IsD H a):
  s.TypeIs (.ref a) "dict"/\(∀ b,Value.ref a=.ref b-> ∃ ob,s.heap.get? b=some ob/\ob.dict=none)/\(a==sysModules)=false:=by
 rcases d with ⟨kvs,e⟩ | ⟨kvs,e⟩
 ·obtain ⟨_,hd,vs,_,dd⟩:=jF I.hok e;refine ⟨dd.typeIs,λb q=>?_,hd⟩;cases q;obtain ⟨ob,_,_,h1,h2,_⟩:=dd;exact ⟨ob,h1,h2.2.1⟩
 ·obtain ⟨_,hd,xs,_,dd⟩:=jE I.hok e;refine ⟨dd.typeIs,λb q=>?_,hd⟩;cases q;obtain ⟨ob,_,_,h1,h2,_⟩:=dd;exact ⟨ob,h1,h2.2.1⟩
section
variable {X:Cx} {pins:List (Addr×Obj)} {σ:St} {H:Hp} {s:Shared} {a:Addr} {y d:V} {u r:Value} {o:Option V} {A:Around} {E:Value->Shared->Prop}
theorem yB {Q:Value->Shared->Prop} (hu:A.units+16<cLine) (I:Inv X pins σ H s) (g:DGet H a y o) (ry:RelV y u) (rd:RelV d r) (h: ∀ w' s',Inv X pins σ H s'->RelV (o.getD d) w'->Q w' s'):
  wpAny (model X.prog X.w) A (call (.builtin "dict.get") [.ref a,u,r]) Q E s:=by
 rcases g with ⟨kvs,k,e,ey,l⟩ | ⟨kvs,k,b,e,ey,eb,l⟩ | ⟨kvs,k,b,e,ey,eb,l⟩
 ·subst ey;obtain ⟨z,hd,vs,rel,dd⟩:=jF I.hok e;refine call_meetsIn Dp dd.typeIs Ej (Ee _ _ _) (meets_dict_get_default (aV X.prog X.w) a (iP ry) hd r) ⟨_,dd.mapOf,h _ _ (I.tok _) ?_⟩;rw [l];exact (rel.val k).getD rd
 ·subst ey;cases (show u=Value.ref b from ry);obtain ⟨z,hd,xs,rel,dd⟩:=jE I.hok e;refine call_meetsIn Dp dd.typeIs Ej (Ee _ _ _) (meetsH_dict_get_default (tupleKind (aV X.prog X.w)) a b hd r) ⟨Dj (by lia),k,xs,gI I.hok eb,dd,h _ _ (I.tok _) ?_⟩;rw [l];exact (rel.val k).getD rd
 ·subst ey;cases (show u=Value.ref b from ry);obtain ⟨z,hd,xs,rel,dd⟩:=kE I.hok e;refine call_meetsIn Dp dd.typeIs Ej (Ee _ _ _) (meetsH_dict_get_default (eB (aV X.prog X.w) (aV X.prog X.w)) a b hd r) ⟨(show _+8<cLine by show A.units+1+8<cLine;lia),k,xs,fW I.hok eb,dd,h _ _ (I.tok _) ?_⟩;rw [l];exact (rel.val k).getD rd
end
def xD (td ty tx:TE):TE:=λσ H Q=>td σ H λx H1=> ∃ a,x=.ref a/\IsD H1 a/\ty σ H1 λy H2=>tx σ H2 λz H3=> ∃ o,DGet H3 a y o/\Q (o.getD z) H3
section
variable {X:Cx} {o e f:Expr} {apos cpos:Pos} {td ty tx:TE}
theorem fG (hu:X.A.units+16<cLine) (ho:PE X o td) (he:PE X e ty) (hf:PE X f tx) (m:M2 X o "get" apos e f cpos):PE X (.Call (.Attribute o "get" apos) [e,f] [] cpos) (xD td ty tx):=by
 intro pins s σ H Q I h;refine wpAny_Call_method m.base m.few m.line Ef Dp PySem.F.type_dict_get (thn (ho pins s σ H _ I h) λu s1 ⟨x,H1,I1,rx,a,ex,d,q1⟩=>?_);subst ex;obtain rfl:u=Value.ref a:=rx;obtain ⟨t1,t2,_⟩:=ym I1 d;refine ⟨t1,t2,?_⟩;rw [m.trees];refine CK rfl (ED (CS (thn (he pins s1 σ H1 _ I1 q1) λiv s2 ⟨y,H2,I2,ry,q2⟩=>
  CS (thn (hf pins s2 σ H2 _ I2 q2) λfv s3 ⟨z,H3,I3,rz,ov,g,q3⟩=>Dw ?_))))
 exact yB hu I3 g ry rz λw' s4 I4 rw'=>⟨_,H3,I4,rw',q3⟩
end
end L2
namespace Att
open PySem PySem.W PySem.Calls PyProof.Rows
theorem iV {P:Params} {h:Heap}: ∀ (ns:List Int) (vs:List Value),WellAll P h vs (ns.map WData.int)->IntsAre vs ns:=by
 intro ns;induction ns with
 | nil=>
  intro vs w;rw [List.map_nil]at w;cases w;exact .nil
 | cons n ns ih=>
  intro vs w;rw [BM]at w;cases w with
  | cons a b=>
   cases a;exact .cons _ _ (ih _ b)
theorem qZ {l:OpenLaw} {n:Nat} (hn:l.most=some n) {P:Params} {h:Heap} {args:List WData} {vals:List Value}
  (hpre:l.row.toRowW.claim.pre args=true) (hwl:WellAll P h vals args):
  ∃ a vs ns,vals=[Value.ref a]/\args=[WData.list (ns.map WData.int)]/\h.get? a=some {cls:=.type "list",data:=.seq vs.toArray}/\IntsAre vs ns/\ns.length<=n:=by
 have hsh:WShape.hasAll [] args [.list .int]=true:=(pre_splitW hpre).1;have hc:l.pre.holds [] {args:=args}=true:=(pre_splitW hpre).2;obtain ⟨d,r,rfl,h1,h2⟩:=hasAllW_cons hsh;obtain rfl:=hasAllW_nil h2;obtain ⟨xs,rfl,h3⟩:=hasW_list h1;obtain ⟨ns,rfl⟩:=items_int h3;have hlen:ns.length<=n:=by
  unfold OpenLaw.pre at hc;have h4:(WTm.not (.lt (.lit (.int (n:Int))) (.len (.arg 0)))).holds [] {args:=[.list (ns.map .int)]}=true:=by
   have h4:=(holds_andW hc).1;rw [hn]at h4;exact h4
  have h5:=condW_of h4 (w_not (w_lt w_lit (w_len_list (w_arg rfl))));rw [AD]at h5;refine Nat.le_of_not_lt λq=>?_;have q':(n:Int) < ((ns.length:Nat):Int):=by lia
  first
   | (rw [AO q']at h5;exact absurd h5 (by decide))
   | (simp at h5;lia)
 cases hwl with
 | cons w1 w2=>
  cases w2;cases w1 with
  | list ho hall=>exact ⟨_,_,ns,rfl,rfl,ho,iV ns _ hall,hlen⟩
theorem rq (l:OpenLaw) (args:List WData):l.row.toRowW.claim.post args (.bool true) args=true:=
 postW_of (r:=l.row.toRowW) (X:=(true==true))
  (show WShape.has [] (.bool true) .bool=true by first | rfl | decide | simp [WShape.has,WShape.arms,WShape.armsAll])
  (show (WTm.eq .res (.lit (.bool true))).value [] {args:=args,res:=some (.bool true),after:=args}=some (.bool (true==true))from w_eq_bool (w_res rfl) w_lit) rfl
theorem attach_call {l:OpenLaw} {n:Nat} {q:Program} {loose:List Str} {XP:(Str->Option Value)->Heap->Prop} {YP:World->Heap->Prop} {d:DefRec}
  (hn:l.most=some n) (hdf:d.params.defaults=[])
  (call: ∀ (w:World) (s₀ s₁:Shared) (mg mb:Str->Option Value) (fa:Addr) (o:Obj) (pm cd doc:Value) (a:Addr) (vs:List Value) (ns:List Int),
   Ground q loose [] XP w s₀ mg mb s₁.heap->YP w s₁.heap->
   s₁.heap.get? fa=some o->o.data=.func (docDef d.name d.params d.body d.scope pm cd doc)->s₁.heap.CodeRec cd d.name->mg d.name=some (.ref fa)->
   s₁.heap.get? a=some {cls:=.type "list",data:=.seq vs.toArray}->IntsAre vs ns->ns.length<=n->s₁.gens= #[]->
   codeAny (model l.prog w) callerA (.call (.ref fa) ⟨[.ref a],[]⟩) (λr s'=>r=.ok (.ret (.bool true))/\OldK s₁.heap s'.heap/\s'.os=s₁.os/\AllBare s'.gens) s₁):
  WalkO q loose XP YP l.row.toRowW d [] (λf vs=>PySem.call f vs):=by
 intro w s₀ s₁ mg mb G Y fa o pm cd doc dV kV ho hd hcd hD hmg hg args vals as hpre hlay hrd hwl hlo;obtain rfl:dV=.none:=Dflts.none hD hdf;obtain rfl:kV=.none:=Dflts.noKw hD;obtain ⟨a,vs,ns,rfl,rfl,hobj,hints,hlen⟩:=qZ hn hpre hwl;refine enter_call (Dh (call w s₀ s₁ mg mb fa o pm cd doc a vs ns G Y ho (fd_plain hd) hcd hmg hobj hints hlen hg) λr s' hq=>?_);obtain ⟨rfl,h2,h3,h4⟩:=hq;exact ⟨.inl ⟨.bool true,.bool true,[],rfl,λ_=>rfl,.bool true,rq l _,λ_=>⟨List.Pairwise.nil,λ_ hm=>(nomatch hm)⟩⟩,h2,h3,h4⟩
end Att
namespace L2
open PySem PySem.Spec PyProof.Rows
theorem jZ: ∀ {vs:List Value} {ns:List Int},IntsAre vs ns->Vals (ns.map V.int) vs
 | _,_,.nil=>.nil
 | _,_,.cons n t h=>.cons ⟨t,rfl⟩ (jZ h)
noncomputable def gb (s:Stmt):Arguments:=match s with
 | .FunctionDef _ a _ _ _ _ _ _ _ _=>a
 | _=>{posonlyargs:=[],args:=[],vararg:=none,kwonlyargs:=[],kw_defaults:=[],kwarg:=none,defaults:=[]}
noncomputable def bE (s:Stmt):List Stmt:=match s with
 | .FunctionDef _ _ b _ _ _ _ _ _ _=>b
 | _=>[]
noncomputable def ak (s:Stmt):Scope:=match s with
 | .FunctionDef _ _ _ _ _ _ sc _ _ _=>sc
 | _=>{kind:=.function,names:=[],isGenerator:=false,isCoroutine:=false}
noncomputable abbrev CX0:CXT:=λ_ _ _ _ _ _=>False
noncomputable abbrev E0:XK:=λ_ _ _=>False
theorem mY {X:Cx}:fM CX0 X E0:=λ_ _ _ _ _ _ _ h=>h.elim
section
variable {X:Cx} {CX:CXT} {k:Nat} {f C:Addr} {fd:FuncData} {ps:List Str} {sp:Sp} {E:XK} {x:Str} {p pos:Pos} {e:Expr} {es:List Expr} {t:TA}
theorem xk (G:Cl X.prog X.w X.K X.mg X.base CX k f fd ps sp x) (hr:Room k X.A) (hx:fM CX X E) (ha:PA X (e::es) t) (hg:Gl X x:=by rfl) (hdb:(x==("__debug__":Str))=false:=by decide) (he:starEach (e::es) X.env=(false,eval e X.env)::starEach es X.env:=by rfl) (hpl:(backTo pos (starEach es X.env)).any (·.1)=false:=by rfl):
  PE X (.Call (.Name x p) (e::es) [] pos) (tG sp [] E t):=gX G.F hr hg G.m G.c G.b .nil hx ha hdb he hpl
theorem pcl (G:Cl X.prog X.w X.K X.mg X.base CX0 k f fd ps sp x) (hr:Room k X.A) (ha:PA X (e::es) t) (hg:Gl X x:=by rfl) (hdb:(x==("__debug__":Str))=false:=by decide) (he:starEach (e::es) X.env=(false,eval e X.env)::starEach es X.env:=by rfl) (hpl:(backTo pos (starEach es X.env)).any (·.1)=false:=by rfl):
  PE X (.Call (.Name x p) (e::es) [] pos) (tG sp [] E0 t):=xk G hr mY ha hg hdb he hpl
end
structure Fun (K:W.Frag) (x qual:Str) (st:Stmt) (f:Addr) (fd:FuncData):Prop where
 ex: ∃ (oc:Value) (od:Option Addr) (kV doc pm:Value) (an:Option Addr) (cdv ct:Value) (osl:Array (Option Value)),
  fd=W.fnOf x qual (gb st) (bE st) (ak st) .none kV doc pm an cdv ct/\K.lookup f=some ⟨oc,od,.func fd,osl⟩/\W.codeIn K cdv qual=true
 kp:W.keepIn K (.ref f)=true
section
variable {P:Program} {w:World} {K:W.Frag} {mg:Str->Option Value} {base:Heap}
theorem Fun.ok {x qual:Str} {st:Stmt} {f:Addr} {fd:FuncData} {N ps:List Str} {k:Nat} {sp:Sp} (F:Fun K x qual st f fd) (S:av N ps (ak st)) (len: ∀ vs H Q E,sp vs H Q E->vs.length=ps.length)
  (hbody: ∀ (cdv:Value) (A:Around) (outer:List Env) (s:Shared) (H:Hp) (vs:List V) (Q:VK) (E:XK),Room k (A.deeper (envOfC qual (ak st) s.heap.objs.size f cdv))->sp vs H Q E->
   ∃ t,PSs (cG CX0 P w K mg base N qual (ak st) f cdv A outer s H E).nox (bE st) t/\t {nx:=λ_ H'=>Q .non H',rt:=Q} (start N vs) H):a8 P w K mg base CX0 (k+1) f fd ps sp:=by
 obtain ⟨oc,od,kV,doc,pm,an,cdv,ct,osl,rfl,lk,hcd⟩:=F.ex;refine vh lk hcd S len λA outer s H vs Q E hr hsp=>?_;obtain ⟨t,h,q⟩:=hbody cdv A outer s H vs Q E hr hsp;exact ⟨t,h.nox,q⟩
theorem Fun.binds {x qual:Str} {st:Stmt} {f:Addr} {fd:FuncData} {ps:List Str} (F:Fun K x qual st f fd)
  (h: ∀ (kV doc pm:Value) (an:Option Addr) (cdv ct:Value) (us:List Value),us.length=ps.length->bindArgs (W.fnOf x qual (gb st) (bE st) (ak st) .none kV doc pm an cdv ct) ⟨us,[]⟩=pure (ps.zip us)):Binds K fd ps []:=by
 obtain ⟨oc,od,kV,doc,pm,an,cdv,ct,osl,rfl,lk,hcd⟩:=F.ex;exact .all (h kV doc pm an cdv ct)
end
theorem da {A:Around} {k:Nat} (hr:Room k A):A.units+16<cLine:=EX (Nat.add_le_add_left (by decide:16<=64) _) hr.units
theorem am {n:Nat} (h:n<=1000):n<sizeLine:=EX h (by decide)
section
variable {X:Cx}
theorem pv (i:Nat) {x:Str} {pos:Pos} (hN:X.N[i]? =some x:=by rfl) (hv:Vis X.env.scope x:=by first | exact Or.inl rfl | exact Or.inr (Or.inl rfl) | exact Or.inr (Or.inr rfl)) (hd:(x==("__debug__":Str))=false:=by decide)
  (hcd:(x==("__classdict__":Str))=false:=by decide):PE X (.Name x pos) (tD i):=uk hN hv hd hcd
end
theorem bt {A B:Prop} (h:B):if false=true then A else B:=by
 rw [AQ AR];exact h
theorem bL {A B:Prop} (h:A):if true=true then A else B:=by
 rw [AX rfl];exact h
theorem dD {c A B:Prop} [Decidable c] (h1:c->A) (h2: ¬ c->B):if c then A else B:=by
 by_cases h:c
 ·rw [AX h];exact h1 h
 ·rw [AQ h];exact h2 h
def Same (H H':Hp):Prop:= ∀ b o,H b=some o->H' b=some o
theorem Same.refl (H:Hp):Same H H:=λ_ _ h=>h
theorem Same.trans {H H1 H2:Hp} (a:Same H H1) (b:Same H1 H2):Same H H2:=λc o h=>b c o (a c o h)
theorem Same.free {H H':Hp} (e:Same H H') {l:Addr} (h:H' l=Option.none):H l=Option.none:=by
 cases q:H l with
 | none=>rfl
 | some o=>
  rw [e l o q]at h;cases h
section
variable {κ:Type} [DecidableEq κ]
theorem gM {kvs:List (κ×V)} {k:κ} (h:aW kvs k=none): ¬ k∈kvs.map (·.1):=by
 intro m;obtain ⟨p,hp,e⟩:=AK.mp m;have q:(kvs.any λkv=>decide (kv.1=k))=true:=Cv.mpr ⟨p,hp,AO e⟩;rw [dz,h]at q;exact absurd q (by simp)
theorem gN {kvs:List (κ×V)} {k:κ} {v:V} (h:aW kvs k=some v):k∈kvs.map (·.1):=by
 have q:(kvs.any λkv=>decide (kv.1=k))=true:=by
  rw [dz,h];all_goals rfl
 obtain ⟨p,hp,e⟩:=Cv.mp q;exact AK.mpr ⟨p,hp,A7 e⟩
end
theorem psz {X:Cx} {x:Str} {e:Expr} {te:TE} {pos pos':Pos} (i:Nat) (hN:X.N.Nodup) (he:PE X e te) (hs:swapsWith e (some (.Name x pos')) pos.line X.env=pure false:=by rfl) (hf:X.fn x=true\/X.env.scope.names.lookup x=some .local:=by first | exact .inl rfl | exact .inr rfl | assumption) (hi:X.N[i]? =some x:=by rfl) (hx:Loc X.env.scope x:=by exact .inl rfl):PS X (.Assign [.Name x pos'] e pos) (jR te (dF i)):=de hN hi hx he hs hf
theorem pgz {X:Cx} {x:Str} {pos:Pos} (i:Nat) (hN:X.N.Nodup) (hf:X.fn x=true\/X.env.scope.names.lookup x=some .local:=by first | exact .inl rfl | exact .inr rfl | assumption) (hi:X.N[i]? =some x:=by rfl) (hx:Loc X.env.scope x:=by exact .inl rfl):PG X (.Name x pos) (dF i):=eR hN hi hx hf
theorem iq:0<=sizeLine:=by decide
theorem fc:1<=sizeLine:=by decide
theorem cB:2<=sizeLine:=by decide
theorem dU:3<=sizeLine:=by decide
section
variable {X:Cx}
theorem uy:OpR X (compareOp .Is) (λx y H Q=> ∃ a b,x=.bl a/\y=.bl b/\Q (.bl (a==b)) H):=by
 intro pins s σ H x y v u Q I rx ry h;obtain ⟨a,b,rfl,rfl,q⟩:=h;cases rx;cases ry;exact PyProof.Rows.is_bool (be I q rfl)
theorem vz:cQ X (.builtin "isinstance") (λxs H Q=> ∃ x T t b,xs=[x,.ty T]/\im X.K H x t/\W.kitOne X.K t (.type T)=some b/\Q (.bl b) H):=by
 intro pins s σ H xs us Q I r h;obtain ⟨x,T,t,b,rfl,ty,e,q⟩:=h;obtain ⟨u,w',rfl,ru,rw'⟩:=iH r;cases (show w'=Value.type T from rw');exact su I ru ty e λtk=>⟨.bl b,H,I.tok tk,rfl,q⟩
end
noncomputable def Itw (n:Nat) (R:Nat->V->Prop):It:=⟨λi _=>i<n,λi H x H'=>H'=H/\R i x,λi _=>i=n⟩
theorem nN {P:Program} {w:World} {K:W.Frag} {tg:Expr} (it:Addr) (n:Nat) (Pv:Nat->Value->Prop) (tn:Nat->Heap->Prop) (R:Nat->V->Prop)
  (hW: ∀ A:Around,A.handled=none->Walks P w A it [it] [it] n Pv tn)
  (hobj: ∀ i h,tn i h-> ∃ (o:Obj) (nm:String) (vs:Array Value),h.get? it=some o/\o.cls=.type nm/\o.data=.fields vs/\
   ["enumerate","zip","dict_itemiterator","dict_reverseitemiterator","odict_iterator","itertools.zip_longest","itertools.pairwise"].contains nm=false)
  (hP: ∀ i v,Pv i v-> ∃ x,RelV x v/\R i x)
  (hself: ∀ (A:Around) (i:Nat) (s:Shared) (Q:Value->Shared->Prop) (E:Value->Shared->Prop),tn i s.heap->Q (.ref it) s->wpAny (model P w) A (pyIter (.ref it)) Q E s):jY P w K tg (Itw n R) [it] it tn where
 mem:=by simp
 obj:=λi h st b hb=>by
  have e:b=it:=by simpa using hb
  subst e;obtain ⟨o,nm,vs,e,_,d,_⟩:=hobj i h st;exact ⟨o,e,λv z=>by rw [d]at z;cases z⟩
 keep:=λi h h' st k=>(hW callerA rfl).frame i h h' st λb hb o e=>k b hb o e
 item:=by
  intro X hP' hw hK hc i pins s σ H E I hf st hg;subst hP' hw hK;obtain ⟨f0,f1,f2,f3,f4,f5⟩:=hf it (by simp);refine (hW X.A (I.ok.hd hc)).item i s _ _ hg st λv h' tk hv st' kk=>?_;obtain ⟨x,rx,qx⟩:=hP i v hv;have I1:Inv X pins σ H {s with heap:=h',toks:=tk}:=I.turned (λb o hb e=>kk b o (by simpa using hb) e) f0 f1 f3 f4 f5;obtain ⟨o,nm,vs,e,c,d,ne⟩:=hobj _ _ st';exact ⟨v,rfl,jB (s:={s with heap:=h',toks:=tk}) e c d ne ⟨x,H,I1,rx,⟨rfl,qx⟩,st',λb hb=>(hf b hb).1⟩⟩
 done:=by
  intro X hP' hw hK hc i pins s σ H E I hf st hg;subst hP' hw hK;obtain ⟨f0,f1,f2,f3,f4,f5⟩:=hf it (by simp);have hg':i=n:=hg;subst hg';exact (hW X.A (I.ok.hd hc)).done s _ _ st λh' tk kk=>⟨rfl,I.turned (t':=tk) (λb o hb e=>kk b o (by simpa using hb) e) f0 f1 f3 f4 f5⟩
 self:=hself
theorem vg {n:Nat} {R:Nat->V->Prop} {g:TG} {tb:TS} {D:dW} {σ:St} {H:Hp} (Pv:Nat->St->Hp->Prop) (h0:Pv 0 σ H)
  (hs: ∀ i x σ H,i<n->R i x->Pv i σ H->g x σ H λσ2 H2=>tb {D with nx:=Pv (i+1),ct:=Pv (i+1),bk:=D.nx} σ2 H2) (hd: ∀ σ H,Pv n σ H->D.nx σ H):
  ∃ W:Nat->Nat->St->Hp->Prop,(∃ m,W 0 m σ H)/\ ∀ i m σ H,W i m σ H->
   ((Itw n R).stop i H/\D.nx σ H)\/((Itw n R).go i H/\ ∃ N:St->Hp->Prop,(∀ σ' H',N σ' H'-> ∃ m',m'<m/\W (i+1) m' σ' H')/\ ∀ x H',(Itw n R).yld i H x H'->g x σ H' λσ2 H2=>tb {D with nx:=N,ct:=N,bk:=D.nx} σ2 H2):=by
 refine ⟨λi m σ H=>i<=n/\m=n-i/\Pv i σ H,⟨n,A6 _,by simp,h0⟩,?_⟩;rintro i m σ H ⟨hi,hm,p⟩;by_cases e:i=n
 ·subst e;exact .inl ⟨rfl,hd σ H p⟩
 ·have hlt:i<n:=by lia
  refine .inr ⟨hlt,Pv (i+1),λσ' H' p'=>⟨n- (i+1),by lia,by lia,rfl,p'⟩,?_⟩;rintro x H' ⟨rfl,r⟩;exact hs i x σ H' hlt r p
section
variable {X:Cx} {tg:Expr}
noncomputable def zz (ta:TA):TI:=λσ H R=>ta σ H λvs H1=> ∃ i j c:Int,vs=[.int i,.int j,.int c]/\(-(2^40)<=i/\i<2^40/\ -(2^40)<=j/\j<2^40/\0<c/\c<2^20)/\
 R (Itw (Builtin.Range.rangeSize i j c).toNat λk v=>v=.int (i+k*c)) H1
theorem oi {a b c:Int} (h1: -(2^40)<=a) (h2:a<2^40) (h3: -(2^40)<=b) (h4:b<2^40) (h5:0<c) (h6:c<2^20):Builtin.Range.small a b c=true:=by
 have hz:Builtin.Range.rangeSize a b c<=2^41/\0<=Builtin.Range.rangeSize a b c:=by
  unfold Builtin.Range.rangeSize;rw [AX h5];split
  ·have e1:(b-a-1) /c<=b-a-1:=Int.ediv_le_self _ (by lia);have e2:0<=(b-a-1) /c:=Int.ediv_nonneg (by lia) (by lia);lia
  ·lia
 unfold Builtin.Range.small;simp only [Builtin.Range.rangeFitsLong,Bb,Bool.or_eq_true,decide_eq_true_eq,Dk,show c>0 from h5,Db];lia
theorem rE {a b c:Expr} {ta:TA} {p pos:Pos} (hg:Gl X "range") (hm:X.mg "range"=none) (ha:PA X [a,b,c] ta) (hs:starEach [a,b,c] X.env=[(false,eval a X.env),(false,eval b X.env),(false,eval c X.env)]:=by rfl)
  (hs2:starEach [b,c] X.env=[(false,eval b X.env),(false,eval c X.env)]:=by rfl):PI X tg (.Call (.Name "range" p) [a,b,c] [] pos) (zz ta):=by
 intro pins s σ H R I h;refine Call_ (gH I hg hm boot_range (Ce (thn (ha pos pins s σ H _ I h) λus s1 ⟨vs,H1,I1,r1,q1⟩=>?_) (by rw [hs,hs2]) (by rw [hs2];rfl)));obtain ⟨i,j,c,e,⟨q1,q2,q3,q4,q5,q6⟩,q⟩:=q1;subst e;cases r1 with
 | cons r rr=>
  cases rr with
  | cons r' rr=>
   cases rr with
   | cons r'' rr=>
    cases rr;obtain ⟨t,rfl⟩:=r;obtain ⟨t',rfl⟩:=r';obtain ⟨t'',rfl⟩:=r'';refine call_range_3 (by lia) ?_ (Or.inl (PyProof.noPylong_small (by lia)));refine wpAny_pyIter_range (IsRange.new ..) (oi q1 q2 q3 q4 q5 q6) ?_;have I2:Inv X pins σ H1 {s1 with heap:=s1.heap.push {cls:=.type "range",data:=.fields #[.int i t,.int j t',.int c t'']}}:=I1.kept (t':=s1.toks) λb o e=>AC _ e;have hn:0<=Builtin.Range.rangeSize i j c:=by
     unfold Builtin.Range.rangeSize;rw [AX q5];split
     ·have:=Int.ediv_nonneg (a:=j-i-1) (b:=c) (by lia) (by lia);lia
     ·lia
    refine ⟨(s1.heap.push {cls:=.type "range",data:=.fields #[.int i t,.int j t',.int c t'']}).objs.size,[(s1.heap.push {cls:=.type "range",data:=.fields #[.int i t,.int j t',.int c t'']}).objs.size],_,_,H1,rfl,
     I2.kept (t':=s1.toks) λb o e=>AC _ e,
     nN _ (Builtin.Range.rangeSize i j c).toNat _ _ (λk v=>v=.int (i+k*c)) (λA hA=>Walks.range hA _ i c _) (λk h st=>⟨_,"range_iterator",_,st,rfl,rfl,by decide⟩) (λk v hv=>?_) (λ_ _ _ _ _ st h=>wpAny_pyIter_rangeiter st h),?_,λb hb=>?_,q⟩
    ·obtain ⟨tt,rfl⟩:=hv;exact ⟨.int (i+k*c),⟨tt,rfl⟩,rfl⟩
    ·show IsRangeIter _ _ (i+ ((0:Nat):Int) *c) (((Builtin.Range.rangeSize i j c).toNat:Int) - ((0:Nat):Int)) c;have e1:i+ ((0:Nat):Int) *c=i:=by simp
     have e2:(((Builtin.Range.rangeSize i j c).toNat:Nat):Int) - ((0:Nat):Int)=Builtin.Range.rangeSize i j c:=by lia
     rw [e1,e2];exact AU _ rfl
    ·have e:b=(s1.heap.push {cls:=.type "range",data:=.fields #[.int i t,.int j t',.int c t'']}).objs.size:=by simpa using hb
     subst e;exact I2.fpOk (AJ _) I2.fresh
end
theorem ij {α β:Type} {f:α->β->Sem (ForInStep β)} (g:β->α->β): ∀ {l:List α} (c:β),(∀ x∈l,∀ c,f x c=pure (.yield (g c x)))->forIn l c f=pure (l.foldl g c)
 | [],c,_=>rfl
 | x::l,c,h=>by
  have hx:=h x A3 c;rw [B0,hx,pure_bind];exact ij g (g c x) λy hy=>h y (A2 _ hy)
noncomputable def bQ (cells:List (Str×Addr)) (c:List (Str×Addr)) (x:Str×NameKind):List (Str×Addr):=
 if x.2=.free then (match cells.lookup x.1 with | some a=>(x.1,a)::c | none=>c)else c
noncomputable def bO (cells:List (Str×Addr)) (names:List (Str×NameKind)):List (Str×Addr):=names.foldl (bQ cells) []
theorem cX {scope:Scope} {env:Env} (h: ∀ x∈scope.names,x.2=.free-> ∃ c,env.cells.lookup x.1=some c):closureFor scope env=pure (bO env.cells scope.names):=by
 simp only [closureFor];rw [ij (bQ env.cells) [] (λx hx c=>by
  obtain ⟨n,kind⟩:=x;by_cases hk:kind=.free
  ·subst hk;obtain ⟨a,ha⟩:=h _ hx rfl;simp only [bQ,Db,Fn,cellOf,ha,pure_bind]
  ·have hb:(kind==NameKind.free)=false:=by simpa using hk
   simp only [bQ,hb,hk,Bs,BN])]
 rfl
theorem jL {cells:List (Str×Addr)}: ∀ {names:List (Str×NameKind)} {acc:List (Str×Addr)},(∀ p∈acc,cells.lookup p.1=some p.2)-> ∀ p∈names.foldl (bQ cells) acc,cells.lookup p.1=some p.2
 | [],_,h=>h
 | x::r,acc,h=>by
  refine jL (names:=r) (acc:=bQ cells acc x) ?_;intro p hp;unfold bQ at hp;split at hp
  ·split at hp
   ·rename_i a ha;rcases AY.mp hp with e | e
    ·subst e;exact ha
    ·exact h p e
   ·exact h p hp
  ·exact h p hp
theorem jM {cells:List (Str×Addr)}: ∀ {names:List (Str×NameKind)} {acc:List (Str×Addr)} {p:Str×Addr},p∈acc->p∈names.foldl (bQ cells) acc
 | [],_,_,h=>h
 | x::r,acc,p,h=>by
  refine jM (names:=r) (acc:=bQ cells acc x) ?_;unfold bQ;split
  ·split
   ·exact A2 _ h
   ·exact h
  ·exact h
theorem nH {cells:List (Str×Addr)} {n:Str} {c:Addr} (hc:cells.lookup n=some c): ∀ {names:List (Str×NameKind)} {acc:List (Str×Addr)},(n,NameKind.free)∈names->(n,c)∈names.foldl (bQ cells) acc
 | [],_,h=>by simp at h
 | x::r,acc,h=>by
  rcases AY.mp h with e | e
  ·subst e;refine jM (names:=r) ?_;simp [bQ,hc]
  ·exact nH hc (names:=r) e
theorem mem_of_lookup {α β:Type} [BEq α] [LawfulBEq α] {k:α} {v:β}: ∀ {l:List (α×β)},l.lookup k=some v->(k,v)∈l
 | [],h=>by simp at h
 | (a,b)::r,h=>by
  rw [Ex]at h;split at h
  ·rename_i e;have:=eq_of_beq e;subst this;cases h;exact A3
  ·exact A2 _ (mem_of_lookup h)
theorem gk {α β:Type} [BEq α] [LawfulBEq α] {k:α} {v:β}: ∀ {l:List (α×β)},(k,v)∈l-> ∃ v',l.lookup k=some v'
 | [],h=>by simp at h
 | (a,b)::r,h=>by
  rw [Ex];split
  ·exact ⟨b,rfl⟩
  ·rename_i e;rcases AY.mp h with q | q
   ·cases q;simp at e
   ·exact gk q
theorem bN {cells:List (Str×Addr)} {names:List (Str×NameKind)} {n:Str} {c:Addr} (h:(bO cells names).lookup n=some c):cells.lookup n=some c:=
 jL (names:=names) (acc:=[]) (by simp) (n,c) (mem_of_lookup h)
theorem cE {cells:List (Str×Addr)} {names:List (Str×NameKind)} {n:Str} {c:Addr} (hc:cells.lookup n=some c) (h:(n,NameKind.free)∈names):(bO cells names).lookup n=some c:=by
 obtain ⟨c',e⟩:=gk (nH hc (acc:=[]) h);have:=bN e;rw [hc]at this;cases this;exact e
noncomputable def bu (sc0 scope:Scope):List (Str×NameKind):=
 scope.names.map λ(n,k)=>if (k== .free&&sc0.kind== .function&&sc0.names.lookup n==some .cell)then (n,.cell)else (n,k)
structure eY (sc0:Scope) (N0:List Str) (scope:Scope) (x:Str) (ys:List Str) (fr:List Nat):Prop where
 kind:scope.kind=.function
 nocell: ∀ y∈scope.names,y.2≠ .cell
 loc: ∀ y∈scope.names,y.2=.local->scope.names.lookup y.1=some .local
 xl:(bu sc0 scope).lookup x=some .local
 free: ∀ y∈scope.names,y.2=.free->sc0.names.lookup y.1=some .cell
 nd:(x::ys).Nodup
 len:ys.length=fr.length
 sl: ∀ q∈ys.zip fr,N0[q.2]? =some q.1/\sc0.names.lookup q.1=some .cell/\(bu sc0 scope).lookup q.1=some .cell
theorem cok {sc0:Scope} {N0:List Str} {scope:Scope} {x:Str} {ys:List Str} {fr:List Nat} (kind_:scope.kind=.function:=by rfl) (nocell_: ∀ y∈scope.names,y.2≠ .cell:=by decide +kernel) (loc_: ∀ y∈scope.names,y.2=.local->scope.names.lookup y.1=some .local:=by decide +kernel) (xl_:(bu sc0 scope).lookup x=some .local:=by decide +kernel) (free_: ∀ y∈scope.names,y.2=.free->sc0.names.lookup y.1=some .cell:=by decide +kernel) (nd_:(x::ys).Nodup:=by decide +kernel) (len_:ys.length=fr.length:=by rfl) (sl_: ∀ q∈ys.zip fr,N0[q.2]? =some q.1/\sc0.names.lookup q.1=some .cell/\(bu sc0 scope).lookup q.1=some .cell:=by decide +kernel):eY sc0 N0 scope x ys fr:=⟨kind_,nocell_,loc_,xl_,free_,nd_,len_,sl_⟩
noncomputable def bM (X:Cx) (x:Str) (ys:List Str) (scope:Scope) (C:Addr) (s:Shared) (H:Hp) (ex:List Addr) (pn:List (Addr×Obj)) (xe:Value->Shared->Prop):Cx:=
 {X with N:=x::ys,s₀:=s,H₀:=H,env:=compEnvC scope (bO X.env.cells scope.names) C X.env,outer:=X.stack,stack:=X.stack,ex:=ex,fn:=λ_=>false,pn:=pn,xe:=xe}
noncomputable abbrev bG (X:Cx) (x:Str) (ys:List Str) (scope:Scope) (C:Addr) (s:Shared) (H:Hp) (ex:List Addr):Cx:=bM X x ys scope C s H ex [] λ_ _=>False
section
variable {prog:Program} {w:World} {A:Around} {R:Result->Shared->Prop} {s:Shared}
theorem fJ {EE:Value->Shared->Prop} {elt target iter:Expr} {scope:Scope} {pos:Pos} {it acc:Value} {env:Env} (I:Nat->Shared->Prop)
  (turn: ∀ n s,I n s->wpAny (model prog w) A (pyNext it) (λr s₁=>match r with
   | none=>R (.ok .next) s₁
   | some v=>wpAny (model prog w) A (letOwnedTupleGo target it v) (λ_ s₁'=>wpAny (model prog w) A (assign target env v) (λ_ s₂=>wpAny (model prog w) A (eval elt env) (λx s₃=>
     wpAny (model prog w) A (call (.builtin "list.append") [acc,x]) (λ_ s₄=> ∃ m,m<n/\I m s₄) (λ_ _=>False) s₃) EE s₂) (λ_ _=>False) s₁') (λ_ _=>False) s₁) (λ_ _=>False) s)
  (hEE: ∀ e s',EE e s'->notedBy (model prog w) A env (λe s''=>R (.error e) s'') e s') (n:Nat) (h:I n s):codeAny (model prog w) A (.compLoop (.ListComp elt [⟨target,iter,[],0⟩] scope pos) 0 it acc env) R s:=by
 refine codeAny_loop rfl I (λn s hI=>?_) n h;show wpAny _ _ ((compTurn (.ListComp elt [⟨target,iter,[],0⟩] scope pos) 0 it acc env).onRaise (λx=>do noteFrame x env;theTreesLotGoes x)) _ _ s;refine wpAny_noted ?_;rw [compTurn_list1];refine AA (CO (AA (BS (turn n s hI) (λr s₁ h₁=>?_) λ_ _ h'=>h'.elim)));cases r with
 | none=>exact AB h₁
 | some v=>
  refine AA (BS h₁ (λ_ s₁' h₁'=>?_) λ_ _ h'=>h'.elim);exact AA (BS h₁' (λ_ s₂ h₂=>AA (AA (BS h₂ (λx s₃ h₃=>AA (BS h₃
   (λ_ s₄ h₄=>AB (AB ⟨rfl,h₄⟩)) λ_ _ h'=>h'.elim)) λe s h'=>hEE e s h'))) λ_ _ h'=>h'.elim)
theorem jW {elt target iter:Expr} {scope:Scope} {pos:Pos} {it acc:Value} {env:Env} (I:Nat->Shared->Prop)
  (turn: ∀ n s,I n s->wpAny (model prog w) A (pyNext it) (λr s₁=>match r with
   | none=>R (.ok .next) s₁
   | some v=>wpAny (model prog w) A (letOwnedTupleGo target it v) (λ_ s₁'=>wpAny (model prog w) A (assign target env v) (λ_ s₂=>wpAny (model prog w) A (eval elt env) (λx s₃=>
     wpAny (model prog w) A (call (.builtin "list.append") [acc,x]) (λ_ s₄=> ∃ m,m<n/\I m s₄) (λ_ _=>False) s₃) (λ_ _=>False) s₂) (λ_ _=>False) s₁') (λ_ _=>False) s₁) (λ_ _=>False) s)
  (n:Nat) (h:I n s):codeAny (model prog w) A (.compLoop (.ListComp elt [⟨target,iter,[],0⟩] scope pos) 0 it acc env) R s:=
 fJ (EE:=λ_ _=>False) I turn (λ_ _ h=>h.elim) n h
end
theorem Inv.alt {X:Cx} {pins pins' P:List (Addr×Obj)} {σ:St} {H:Hp} {s:Shared} (I:Inv X pins σ H s) (E:Value->Shared->Prop) (h: ∀ p∈P++pins',p∈X.pn++pins):Inv {X with xe:=E,pn:=P} pins' σ H s:=
 ⟨⟨I.ok.mod,I.ok.kind,I.ok.glob,I.ok.blt,I.ok.above,I.ok.inj,I.ok.has,I.ok.cab,I.ok.hd,I.ok.frames,I.ok.stk,I.ok.exf,I.ok.bs,I.ok.bsz,I.ok.noex,I.ok.exfs,I.ok.funs,I.ok.frf⟩,
  I.os,I.bare,I.base,I.loc,I.cell,I.free,I.freeC,λp hp=>I.pin p (h p hp),I.hok,I.len⟩
theorem Inv.xe {X:Cx} {pins:List (Addr×Obj)} {σ:St} {H:Hp} {s:Shared} (I:Inv X pins σ H s) (E:Value->Shared->Prop):Inv {X with xe:=E} pins σ H s:=I.alt E λ_ h=>h
noncomputable def bH (fr:List Nat) (σ:St):St:=fr.map λj=>(σ[j]?).join
def gu (fr:List Nat) (te:TE) (σ:St) (J:It) (H1:Hp) (Q:VK):Prop:=
 ∀ p,H1 p=none-> ∃ W:Nat->Nat->List V->Hp->Prop,(∃ m,W 0 m [] (upd H1 p (.lst [])))/\ ∀ i m ys H,W i m ys H->H p=some (.lst ys)/\
  ((J.stop i H/\Q (.ref p) H)\/(J.go i H/\ys.length<sizeLine/\ ∀ x H',J.yld i H x H'->te (some x::bH fr σ) H' λv H2=>
   H2 p=some (.lst ys)/\ ∃ m',m'<m/\W (i+1) m' (ys++[v]) (upd H2 p (.lst (ys++[v])))))
def mr (wi:TI) (fr:List Nat) (te:TE):TE:=λσ H Q=>wi σ H λJ H1=>gu fr te σ J H1 Q
section
variable {X:Cx} {x:Str} {px pos fpos:Pos} {iter elt:Expr} {scope sc0:Scope} {N0 ys:List Str} {fr:List Nat} {wi:TI} {te:TE} {pins:List (Addr×Obj)} {σ:St} {H:Hp} {s:Shared}
theorem jI {XE:Addr->Shared->Hp->List Addr->Value->Shared->Prop} {use:Option (Value->Sem Unit)} {Qv:Value->Shared->Prop} {Q:VK} (hcalm:X.calm=true) (hi:PI X (.Name x px) iter wi) (hsc:X.env.scope=sc0) (hN:X.N=N0) (ok:eY sc0 N0 scope x ys fr)
  (hE: ∀ C s H ex pn,(∀ b∈ex,∃ o,(b,o)∈pn)->PE (bM X x ys scope C s H ex pn (XE C s H ex)) elt te) (I:Inv X pins σ H s) (h:mr wi fr te σ H Q) (hs: ∀ v,foldedSetIterable iter X.env v=pure v)
  (hX: ∀ (p:Addr) (s3:Shared) (H3:Hp) (ex:List Addr),Inv X pins σ H3 s3->(∀ b∈ex,b<s3.heap.objs.size)->(∀ b∈ex,(b∈X.ex\/X.s₀.heap.objs.size<=b)/\b≠X.env.locals/\(∀ x c,X.env.cells.lookup x=some c->c≠b)/\ ∀ p∈X.pn++pins,p.1≠b)-> ∀ e s',XE s3.heap.objs.size s3 H3 ex e s'->notedBy (model X.prog X.w) X.A (compEnvC scope (bO X.env.cells scope.names) s3.heap.objs.size X.env) (λe s''=>compPost (model X.prog X.w) X.A X.xe use Qv (.ref p) s3.heap.objs.size (.error e) s'') e s')
  (fin: ∀ (p C:Addr) (H':Hp) (s':Shared) (m:Str->Option Value),Inv X pins σ H' s'->s'.heap.Ns C m->H' C=none->C≠X.env.locals->X.s₀.heap.objs.size<=C->(∀ y c,X.env.cells.lookup y=some c->c≠C)->(∀ q∈X.pn++pins,q.1≠C)->Q (.ref p) H'->
   compPost (model X.prog X.w) X.A X.xe use Qv (.ref p) C (.ok .next) s'):
  wpAny (model X.prog X.w) X.A (comprehension (.ListComp elt [⟨.Name x px,iter,[],0⟩] scope pos) scope X.env fpos (newList []) false (eval iter X.env) use) Qv X.xe s:=by
 subst hsc hN;have hkof: ∀ y,X.env.kindOf y=X.env.scope.names.lookup y:=λy=>rfl;have hfree: ∀ y∈scope.names,y.2=.free-> ∃ c,X.env.cells.lookup y.1=some c:=λy hy e=>I.ok.has y.1 (.inl (ok.free y hy e));refine DS (gs:=[]) rfl hs (cX hfree) ok.kind ok.loc (thn (hi pins s σ H _ I h) λv s1 h1=>thn h1 λitv s2 h2=>?_);obtain ⟨it,fp,tn,J,H2,e,I2,T,st2,f2,hp⟩:=h2;subst e;refine A9 (DB ok.nocell (by intro y hy;simp at hy) (λh₁ hns₁ hsb₁=>?_) ok.kind);dsimp only at hns₁ hsb₁ ⊢;have I3:Inv X pins σ (upd H2 s2.heap.objs.size (.lst [])) {s2 with heap:=s2.heap.push {cls:=.type "list",data:=.seq ([]:List Value).toArray}}:=
  I2.lnew (its:=[]) (ys:=[]) (t':=s2.toks) .nil (A6 _)
 have hf2: ∀ b∈fp,b<s2.heap.objs.size:=λb hb=>by
  obtain ⟨o,e,_⟩:=T.obj _ _ st2 b hb;exact AN e
 have hps:s2.heap.objs.size< (s2.heap.push {cls:=.type "list",data:=.seq ([]:List Value).toArray}).objs.size:=by rw [B8];exact Cw _
 have W0:=hp s2.heap.objs.size I2.fresh;have st3:tn 0 (s2.heap.push {cls:=.type "list",data:=.seq ([]:List Value).toArray}):=T.keep _ _ _ st2 λb hb o e=>AC _ e;generalize hpp:s2.heap.objs.size=p at I3 W0 hf2 hps ⊢;generalize hh3:(s2.heap.push {cls:=.type "list",data:=.seq ([]:List Value).toArray})=h3 at I3 hns₁ hsb₁ hps st3 ⊢;generalize hH3:upd H2 p (.lst [])=H3 at I3 W0;have hold: ∀ b o,h3.get? b=some o->h₁.get? b=some o:=λb o e=>hsb₁.extBut b o (Bf (AN e)) (AC _ e);have fH3: ∀ b∈fp,H3 b=none:=λb hb=>by
  rw [<- hH3,ah (Bf (hf2 b hb))];exact (f2 b hb).1
 have hclos: ∀ y c,(bO X.env.cells scope.names).lookup y=some c->X.env.cells.lookup y=some c:=λy c e=>bN e;have hcell3: ∀ y c,X.env.cells.lookup y=some c->c<h3.objs.size:=λy c e=>by
  obtain ⟨v,o,ho,_⟩:=I3.cell y c e;exact AN ho
 have hlt3:X.env.locals<h3.objs.size:=I3.lt;have Yok:(bM X x ys scope h3.objs.size {s2 with heap:=h3} H3 fp [] (XE h3.objs.size {s2 with heap:=h3} H3 fp)).Ok:={
  mod:=I.ok.mod
  kind:=ok.kind
  glob:=I.ok.glob
  blt:=I.ok.blt
  above:=AJ _
  inj:=λy z c e1 e2=>I.ok.inj y z c (hclos _ _ e1) (hclos _ _ e2)
  has:=λy hk=>by
   have hfr:(y,NameKind.free)∈scope.names:=by
    have hm: ∃ k,(bu X.env.scope scope).lookup y=some k/\(k=.cell\/k=.free):=by
     rcases hk with hk | hk
     ·exact ⟨_,hk,.inl rfl⟩
     ·exact ⟨_,hk,.inr rfl⟩
    obtain ⟨k,hk,hkk⟩:=hm;have hmem:=mem_of_lookup hk;unfold bu at hmem;obtain ⟨⟨n,k0⟩,hn,en⟩:=AK.mp hmem;dsimp only at en;split at en
    ·rename_i hc;simp only [Bb]at hc;have hk0:k0=.free:=by simpa using hc.1.1
     cases en;rw [<- hk0];exact hn
    ·cases en;rcases hkk with e | e
     ·exact absurd e (ok.nocell _ hn)
     ·rw [<- e];exact hn
   obtain ⟨c,hc⟩:=hfree _ hfr rfl;exact ⟨c,cE hc hfr⟩
  cab:=λy c hf _=>by cases hf
  hd:=I.ok.hd
  frames:=I.ok.frames
  stk:=.inl rfl
  exf:=λb hb=>⟨λe=>absurd (hf2 b hb) (by rw [e];exact C7.mpr (Bj hps)),λy c e=>(f2 b hb).2.2.2.2.1 y c (hclos _ _ e)⟩
  bs:=λb o e=>⟨(I3.bs b o e).1,(I3.bs b o e).2⟩
  bsz:=Bm I.ok.bsz I3.sz
  noex:=λb o e hb=>by
   rcases (f2 b hb).2.2.2.1 with q | q
   ·exact I.ok.noex b o e q
   ·have h1:b<X.base.objs.size:=AN e;exact absurd h1 (C7.mpr (Bm I.ok.bsz q))
  exfs:=λb hb hm=>by
   rcases AY.mp (I3.stkSub b hm)with q | q
   ·exact (f2 b hb).2.1 q
   ·exact (f2 b hb).2.2.1 q
  funs:=I3.stack
  frf:=I3.stkFree}
 have IY:Inv (bM X x ys scope h3.objs.size {s2 with heap:=h3} H3 fp [] (XE h3.objs.size {s2 with heap:=h3} H3 fp)) [] (none::bH fr σ) H3 {s2 with heap:=h₁,toks:=s2.toks+ ([]:List (Str×Value)).length}:={
  ok:=Yok
  os:=rfl
  bare:=I2.bare
  base:=Un.kept hold
  loc:=by
   refine ⟨_,hns₁,λi y v hy hv hvis=>?_⟩;cases i with
   | zero=>cases hv
   | succ j=>
    have hy':ys[j]? =some y:=hy;have hv':(bH fr σ)[j]? =some (some v):=hv;unfold bH at hv';rw [AS]at hv';obtain ⟨i0,hi0,hv0⟩:=Bw.mp hv';have hz:(y,i0)∈ys.zip fr:=by
     refine Cr.mpr ⟨j,?_⟩;rw [Cp];exact ⟨hy',hi0⟩
    obtain ⟨hn,hk,hk2⟩:=ok.sl _ hz;have hσ:σ[i0]? =some (some v):=by
     cases e:σ[i0]? with
     | none=>rw [e]at hv0;cases hv0
     | some o=>
      rw [e]at hv0;rw [show o=some v from hv0]
    obtain ⟨m,hm,hl⟩:=I3.loc;obtain ⟨u,ru,lk⟩:=hl i0 y v hn hσ (.inr (.inl hk));refine ⟨u,ru,.inr ⟨.inl hk2,?_⟩⟩;rcases lk with ⟨a,_⟩ | ⟨_,c,hc,hcell⟩
    ·have a':X.env.scope.names.lookup y=some .local:=a;have hk':X.env.scope.names.lookup y=some .cell:=hk;rw [hk']at a';cases a'
    ·have hfr:(y,NameKind.free)∈scope.names:=by
      have hmem:=mem_of_lookup hk2;unfold bu at hmem;obtain ⟨⟨n,k0⟩,hn0,en⟩:=AK.mp hmem;dsimp only at en;split at en
      ·rename_i hc0;simp only [Bb]at hc0;have hk0:k0=.free:=by simpa using hc0.1.1
       cases en;rw [<- hk0];exact hn0
      ·cases en;exact absurd rfl (ok.nocell _ hn0)
     exact ⟨c,cE hc hfr,hcell.keeps hold⟩
  cell:=λy c e=>by
   obtain ⟨v,hv⟩:=I3.cell y c (hclos _ _ e);exact ⟨v,hv.keeps hold⟩
  free:=I3.fresh
  freeC:=λy c e=>I3.freeC y c (hclos _ _ e)
  pin:=λq hq=>by cases hq
  hok:=I3.hok.kept hold
  len:=by
   show (none::bH fr σ).length=(x::ys).length;rw [AM,AM,ok.len];unfold bH;rw [AD]}
 have hxl:(bM X x ys scope h3.objs.size {s2 with heap:=h3} H3 fp [] (XE h3.objs.size {s2 with heap:=h3} H3 fp)).env.scope.names.lookup x=some .local:=ok.xl;have pgx:PG (bG X x ys scope h3.objs.size {s2 with heap:=h3} H3 fp) (.Name x px) (dF 0):=eR (i:=0) ok.nd rfl (.inl hxl) (.inr hxl);have pel:=hE h3.objs.size {s2 with heap:=h3} H3 fp;obtain ⟨W,⟨m0,w0⟩,turn⟩:=W0;have stat: ∀ {H':Hp},(∀ b∈fp,H' b=none)-> ∀ b∈fp,jP (bM X x ys scope h3.objs.size {s2 with heap:=h3} H3 fp [] (XE h3.objs.size {s2 with heap:=h3} H3 fp)) [] H' b:=λhn b hb=>
  ⟨hn b hb,(Yok.exf b hb).1,Yok.exfs b hb,.inl hb,(Yok.exf b hb).2,λq hq=>by cases hq⟩
 have loop:codeAny (model X.prog X.w) X.A (.compLoop (.ListComp elt [⟨.Name x px,iter,[],0⟩] scope pos) 0 (.ref it) (.ref p) (compEnvC scope (bO X.env.cells scope.names) h3.objs.size X.env))
   (compPost (model X.prog X.w) X.A X.xe use Qv (.ref p) h3.objs.size) {s2 with heap:=h₁,toks:=s2.toks+ ([]:List (Str×Value)).length}:=by
  refine fJ (EE:=XE h3.objs.size {s2 with heap:=h3} H3 fp) (λn s'=> ∃ i zs v0 H',Inv (bM X x ys scope h3.objs.size {s2 with heap:=h3} H3 fp [] (XE h3.objs.size {s2 with heap:=h3} H3 fp)) [] (v0::bH fr σ) H' s'/\tn i s'.heap/\(∀ b∈fp,H' b=none)/\W i n zs H') ?_ (hX p {s2 with heap:=h3} H3 fp I3 (λb hb=>Nat.lt_trans (hf2 b hb) hps) λb hb=>⟨(f2 b hb).2.2.2.1,(f2 b hb).2.1,(f2 b hb).2.2.2.2.1,(f2 b hb).2.2.2.2.2⟩) m0
   ⟨0,[],none,H3,IY,T.keep _ _ _ st3 λb hb o e=>hold b o e,fH3,w0⟩
  rintro n s5 ⟨i,zs,v0,H5,I5,st5,fr5,w5⟩;obtain ⟨hacc,turn5⟩:=turn i n zs H5 w5;rcases turn5 with ⟨stop,qn⟩ | ⟨go,hlen,step⟩
  ·refine thn (T.done (bM X x ys scope h3.objs.size {s2 with heap:=h3} H3 fp [] (XE h3.objs.size {s2 with heap:=h3} H3 fp)) rfl rfl rfl hcalm i [] s5 _ H5 _ I5 (stat fr5) st5 stop) λr s6 ⟨hr,I6⟩=>?_;subst hr;obtain ⟨m6,n6,_⟩:=I6.loc;refine fin p h3.objs.size H5 s6 m6 (I3.call' I6.os I6.base I6.hok I6.bare λb hb=>⟨(f2 b hb).2.2.2.1,(f2 b hb).2.1,(f2 b hb).2.2.2.2.1,(f2 b hb).2.2.2.2.2⟩) n6 I6.free (Cz hlt3) I3.sz (λy c e=>Bf (hcell3 y c e)) (λq hq=>?_) qn;exact Bf (AN (I3.pin q hq).1)
  ·refine thn (T.item (bM X x ys scope h3.objs.size {s2 with heap:=h3} H3 fp [] (XE h3.objs.size {s2 with heap:=h3} H3 fp)) rfl rfl rfl hcalm i [] s5 _ H5 _ I5 (stat fr5) st5 go) λr s6 ⟨u,hr,h6⟩=>?_;subst hr;refine thn h6 λ_ s7 ⟨xv,H7,I7,r7,y7,st7,fr7⟩=>?_;have I7':=I7.pinned (stat fr7) (T.obj _ _ st7);refine thn (pgx _ s7 _ H7 xv u (λσ' H'=>σ'=some xv::bH fr σ/\H'=H7) (I7'.xe _) r7 ⟨rfl,rfl⟩) λ_ s8 ⟨σ8,H8,I8,e8,e8'⟩=>?_;subst e8 e8';refine thn (pel (iw fp s7.heap) (λb hb=>let ⟨o,e,_⟩:=T.obj _ _ st7 b hb;⟨o,bB hb e⟩) [] s8 _ H8 _ (I8.alt _ λp hp=>by simpa [bM]using hp) (step xv H8 y7)) λyv s9 ⟨v9,H9,I9',r9,hp9,m',hm',w9⟩=>?_;have I9:Inv (bG X x ys scope h3.objs.size {s2 with heap:=h3} H3 fp) ([]++iw fp s7.heap) _ H9 s9:=I9'.alt _ λp hp=>by simpa [bM]using hp
   refine thn (bp (X:=bG X x ys scope h3.objs.size {s2 with heap:=h3} H3 fp) _ s9 _ H9 (.ref p) [v9] (.ref p) [yv] (λ_ H'=>H'=upd H9 p (.lst (zs++[v9]))) I9 rfl (.cons r9 .nil) ⟨p,zs,v9,rfl,rfl,hp9,hlen,rfl⟩) λ_ s10 ⟨_,H10,I10,_,e10⟩=>?_;subst e10;refine ⟨m',hm',i+1,zs++[v9],some xv,_,(I10.xe _).unpinned,T.keep _ _ _ st7 λb hb o e=>(I10.pin (b,o) (AV _ (AV _ (bB hb e)))).1,λb hb=>?_,w9⟩;obtain ⟨o,e,d⟩:=T.obj _ _ st7 b hb;exact (I10.pin (b,o) (AV _ (AV _ (bB hb e)))).2.1
 exact Ek loop (T.self X.A 0 _ _ _ (T.keep _ _ _ st3 λb hb o e=>hold b o e) loop)
theorem kI {use:Option (Value->Sem Unit)} {Qv:Value->Shared->Prop} {Q:VK} (hcalm:X.calm=true) (hi:PI X (.Name x px) iter wi) (hsc:X.env.scope=sc0) (hN:X.N=N0) (ok:eY sc0 N0 scope x ys fr)
  (hE: ∀ C s H ex,PE (bG X x ys scope C s H ex) elt te) (I:Inv X pins σ H s) (h:mr wi fr te σ H Q) (hs: ∀ v,foldedSetIterable iter X.env v=pure v)
  (fin: ∀ (p C:Addr) (H':Hp) (s':Shared) (m:Str->Option Value),Inv X pins σ H' s'->s'.heap.Ns C m->H' C=none->C≠X.env.locals->X.s₀.heap.objs.size<=C->(∀ y c,X.env.cells.lookup y=some c->c≠C)->(∀ q∈X.pn++pins,q.1≠C)->Q (.ref p) H'->
   compPost (model X.prog X.w) X.A X.xe use Qv (.ref p) C (.ok .next) s'):
  wpAny (model X.prog X.w) X.A (comprehension (.ListComp elt [⟨.Name x px,iter,[],0⟩] scope pos) scope X.env fpos (newList []) false (eval iter X.env) use) Qv X.xe s:=
 jI (XE:=λ_ _ _ _ _ _=>False) hcalm hi hsc hN ok (λC s H ex pn _ pins s' σ' H' Q' I' h'=>thn (hE C s H ex (pn++pins) s' σ' H' Q' (I'.alt _ λp hp=>by simpa [bM]using hp) h') λv s2 ⟨y,H2,I2,r,q⟩=>⟨y,H2,I2.alt _ λp hp=>by simpa [bM]using hp,r,q⟩) I h hs (λ_ _ _ _ _ _ _ _ _ z=>z.elim) fin
theorem dN (hcalm:X.calm=true) (hi:PI X (.Name x px) iter wi) (hsc:X.env.scope=sc0) (hN:X.N=N0) (ok:eY sc0 N0 scope x ys fr)
  (hE: ∀ C s H ex,PE (bG X x ys scope C s H ex) elt te) (hs: ∀ v,foldedSetIterable iter X.env v=pure v:=by intro _;rfl):
  PE X (.ListComp elt [⟨.Name x px,iter,[],0⟩] scope pos) (mr wi fr te):=by
 intro pins s σ H Q I h;rw [eval_ListComp];refine kI (use:=none) (Qv:=EP X pins σ Q) (Q:=Q) hcalm hi hsc hN ok hE I h hs λp C H' s' m I' hn h0 h1 h2 h3 h4 q=>?_;refine ⟨m,hn,λh' sb=>⟨.ref p,H',I'.turned (t':=s'.toks) (λb o hb e=>sb.extBut b o hb e) h0 (Bg (Bg h1)) (.inr h2) h3 h4,rfl,q⟩⟩
theorem di {i:Nat} {y:Str} {py spos:Pos} (hcalm:X.calm=true) (hnd:X.N.Nodup) (hiN:X.N[i]? =some y) (hy:Loc X.env.scope y) (hi:PI X (.Name x px) iter wi) (hsc:X.env.scope=sc0) (hN:X.N=N0) (ok:eY sc0 N0 scope x ys fr)
  (hE: ∀ C s H ex,PE (bG X x ys scope C s H ex) elt te) (hsw:swapsWith (.ListComp elt [⟨.Name x px,iter,[],0⟩] scope pos) (some (.Name y py)) spos.line X.env=pure true:=by rfl)
  (hs: ∀ v,foldedSetIterable iter X.env v=pure v:=by intro _;rfl) (hf:X.fn y=true\/X.env.scope.names.lookup y=some .local:=by first | exact .inl rfl | exact .inr rfl | assumption):
  PS X (.Assign [.Name y py] (.ListComp elt [⟨.Name x px,iter,[],0⟩] scope pos) spos) (jR (mr wi fr te) (dF i)):=by
 intro pins s σ H D I h;rw [Dq _ _ _ _ hsw];refine AA (CO (AA ?_));show wpAny _ X.A (do let _ <- comprehension (.ListComp elt [⟨.Name x px,iter,[],0⟩] scope pos) scope X.env _ (newList []) false (eval iter X.env) (some (assign (.Name y py) X.env))) _ _ s;refine AA (thn (kI (use:=some (assign (.Name y py) X.env)) (Qv:=λ_ s'=>SP X pins D .next s') (Q:=λv H'=>D.nx (σ.set i (some v)) H') hcalm hi hsc hN ok hE I h hs λp C H' s' m I' hn h0 h1 h2 h3 h4 q=>?_) λ_ s' hq=>AB (AB hq));show wpAny _ X.A (assign (.Name y py) X.env (.ref p)) _ _ s';refine Dv (ee (v:=.ref p) I' hnd hiN hy rfl (λs'' I'' ⟨a,sb,ha⟩=>?_) hf);have hCa:C≠a:=by
  rcases ha with e | e
  ·rw [e];exact h1
  ·exact (h3 y a e).symm
 refine ⟨m,hn.sameBut sb hCa,λh' sb'=>⟨_,H',I''.turned (t':=s''.toks) (λb o hb e=>sb'.extBut b o hb e) h0 h1 (.inr h2) h3 h4,q⟩⟩
theorem gc {n:Nat} {J:It} {H1:Hp} {Q:VK} {R:Nat->V->Prop} (hn:n<=1000) (hgo: ∀ i H,i<n->J.go i H) (hstop: ∀ H,J.stop n H) (hy: ∀ i H v H',J.yld i H v H'->H'=H/\R i v)
  (Pv:Addr->Nat->List V->Hp->Prop) (h0: ∀ p,H1 p=none->Pv p 0 [] (upd H1 p (.lst []))) (hl: ∀ p i zs H,Pv p i zs H->H p=some (.lst zs)/\zs.length=i)
  (hs: ∀ p i zs H v (k:VK),H1 p=none->i<n->R i v->Pv p i zs H->(∀ u H2,H2 p=some (.lst zs)->Pv p (i+1) (zs++[u]) (upd H2 p (.lst (zs++[u])))->k u H2)->te (some v::bH fr σ) H k)
  (hd: ∀ p zs H,H1 p=none->Pv p n zs H->Q (.ref p) H):gu fr te σ J H1 Q:=by
 intro p hp;refine ⟨λi m zs H=>i<=n/\m=n-i/\Pv p i zs H,⟨n,A6 _,by simp,h0 p hp⟩,?_⟩;rintro i m zs H ⟨hi,hm,q⟩;obtain ⟨hp',hz⟩:=hl p i zs H q;refine ⟨hp',?_⟩;by_cases e:i=n
 ·subst e;exact .inl ⟨hstop H,hd p zs H hp q⟩
 ·have hlt:i<n:=by lia
  refine .inr ⟨hgo i H hlt,am (by lia),λv H' hv=>?_⟩;obtain ⟨rfl,r⟩:=hy i H v H' hv;refine hs p i zs H' v _ hp hlt r q λu H2 a b=>?_;exact ⟨a,n- (i+1),by lia,by lia,rfl,b⟩
theorem lW {lo:Int} {n:Nat}: ∀ i H,i<n->(Itr lo n).go i H:=λ_ _ h=>h
theorem ie {lo:Int} {n:Nat}: ∀ H,(Itr lo n).stop n H:=λ_=>AJ n
theorem i4 {lo:Int} {n:Nat}: ∀ i H v H',(Itr lo n).yld i H v H'->H'=H/\v=.int (lo+i):=λ_ _ _ _ h=>h
end
section
variable {X:Cx} {e k:Expr} {te tk:TE} {pos p2:Pos}
theorem dX: ∀ (ix:List Nat) {xs:List V} {us:List Value},Vals xs us->Vals (ix.filterMap (xs[·]?)) (ix.filterMap (us[·]?))
 | [],_,_,_=>.nil
 | i::r,xs,us,h=>by
  rw [BA,BA];cases ex:xs[i]? with
  | none=>
   rw [h.none_of ex];exact dX r h
  | some x=>
   obtain ⟨u,eu,ru⟩:=h.get ex;rw [eu];exact .cons ru (dX r h)
noncomputable def fk (n:Nat) (c:Int):List Nat:=sliceRange (sliceBounds none none (some c) n).1 (sliceBounds none none (some c) n).2.1 (sliceBounds none none (some c) n).2.2
noncomputable def iJ (xs:List V) (c:Int):List V:=(fk xs.length c).filterMap (xs[·]?)
theorem oF {α:Type} (xs:List α):(List.range xs.length).filterMap (xs[·]?)=xs:=by
 induction xs with
 | nil=>rfl
 | cons x r ih=>
  rw [AM,List.range_succ_eq_map,BA,DY];show x::List.filterMap ((λj=>(x::r)[j]?)∘Nat.succ) (List.range r.length)=x::r
  congr 1
theorem nX (n:Nat):fk n 1=List.range n:=by
 unfold fk sliceBounds sliceRange;simp only [Fq,show (1:Int) >0 by decide,Db];by_cases h:n=0
 ·subst h;rfl
 ·rw [AX (by lia)];have e:(((n:Int) -0+1-1) /1).toNat=n:=by rw [Fs];lia
  rw [e]
  conv=>rhs;rw [<- List.map_id (List.range n)]
  apply DN;intro k hk;show (0+1* (k:Int)).toNat=k;lia
theorem qW (xs:List V):iJ xs 1=xs:=by
 unfold iJ;rw [nX];exact oF xs
theorem nY (n:Nat):fk n (-1)=(List.range n).map λk=>n-1-k:=by
 unfold fk sliceBounds sliceRange;simp only [Fq,show ¬ ((-1:Int) >0) by decide,BN];by_cases h:n=0
 ·subst h;rfl
 ·rw [AX (by lia)];have e:(((n:Int) -1- -1- -1-1) / (- -1)).toNat=n:=by
   rw [show (- -1:Int)=1 by decide,Fs];lia
  rw [e];apply DN;intro k hk;have:=Dd.mp hk;show ((n:Int) -1+ -1* (k:Int)).toNat=n-1-k;lia
theorem rev_pick {α:Type} (xs:List α):((List.range xs.length).map λk=>xs.length-1-k).filterMap (xs[·]?)=xs.reverse:=by
 apply List.ext_getElem?;intro i;have hall:((List.range xs.length).map λk=>xs.length-1-k).filterMap (xs[·]?)=(List.range xs.length).filterMap λk=>xs[xs.length-1-k]? :=by
  rw [DY];rfl
 rw [hall];have hsome: ∀ (l:List Nat),(∀ k∈l,k<xs.length)-> ∀ j:Nat,(l.filterMap λk=>xs[xs.length-1-k]?)[j]? =l[j]?.bind λk=>xs[xs.length-1-k]? :=by
  intro l;induction l with
  | nil=>intro _ j;rfl
  | cons a r ih=>
   intro hl j;have ha:=hl a A3;have hx:xs[xs.length-1-a]? =some xs[xs.length-1-a]:=AG (by lia);rw [BA,hx];cases j with
   | zero=>simp [hx]
   | succ j=>
    rw [List.getElem?_cons_succ,List.getElem?_cons_succ];exact ih (λk hk=>hl k (A2 _ hk)) j
 rw [hsome _ (λk hk=>Dd.mp hk) i];by_cases hi:i<xs.length
 ·rw [List.getElem?_range hi,List.getElem?_reverse hi];rfl
 ·rw [CZ (by simpa using hi),CZ (by simpa using hi)];rfl
theorem qY (xs:List V):iJ xs (-1)=xs.reverse:=by
 unfold iJ;rw [nY];exact rev_pick xs
def yN (K:W.Frag) (te tk:TE):TE:=λσ H Q=>te σ H λx H1=>tk σ H1 λy H2=> ∃ a xs c,x=.ref a/\y=.int c/\SqL K H2 a xs/\c≠0/\ ∀ p,H2 p=none->Q (.ref p) (upd H2 p (.lst (iJ xs c)))
theorem wn (he:PE X e te) (hk:PE X k tk):PE X (.Subscript e (.Slice none none (some k) p2) pos) (yN X.K te tk):=by
 intro pins s σ H Q I h;refine Subscript_ (thn (he pins s σ H _ I h) λv s1 ⟨x,H1,I1,r1,q1⟩=>?_);refine wpAny_Slice ?_;rw [Fg,evalPart_some];refine AB (AB ?_);refine thn (hk pins s1 σ H1 _ I1 q1) λvk s3 ⟨y,H3,I3,ry,a,xs,c,ex,ey,hq,hc,q⟩=>?_;subst ex ey;obtain ⟨t,rfl⟩:=ry;cases r1;have I4:Inv X pins σ H3 {s3 with heap:=s3.heap.push {cls:=.type "slice",data:=.fields #[.none,.none,.int c t]}}:=I3.kept (t':=s3.toks) λb ob q=>AC _ q;obtain ⟨its,r,ht,hz⟩:=I4.list hq;have hlen:=r.length;have hpick:slicePick its.toArray none none (some c)=((fk xs.length c).filterMap (its[·]?)).toArray:=by
  unfold slicePick fk;rw [AL,hlen];simp
 have hle:(iJ xs c).length<=sizeLine:=by
  have h1:=slicePick_size_le its.toArray none none (some c);rw [hpick,AL,AL]at h1;have h2:=(dX (fk xs.length c) r).length;unfold iJ;lia
 show wpAny (model X.prog X.w) X.A (subscriptTail e (.Slice none none (some k) p2) (.ref a) (.ref s3.heap.objs.size)) (EP X pins σ Q) X.xe {s3 with heap:=s3.heap.push {cls:=.type "slice",data:=.fields #[.none,.none,.int c t]}};refine tail_any (ops:=[.ref a,.ref s3.heap.objs.size]) ht.isList.typeIs slot_list_getitem.lookup (wpAny_getItem_list_slice ht.isList (EW ..) .none .none (.int c t) (by simpa using hc) ?_ (by rw [AL];lia)) (by with_unfolding_all rfl);rw [hpick];refine ⟨.ref (s3.heap.push {cls:=.type "slice",data:=.fields #[.none,.none,.int c t]}).objs.size,_,I4.laid (t':=s3.toks) (o:=.lst (iJ xs c)) (λb ob q=>AC _ q) (AJ _) ?_,rfl,q _ I4.fresh⟩;exact ⟨hle,_,0,dX _ r,AU _ rfl⟩
inductive za  (x:V) (lo:Option Int) (hi:Option Int) (H:Hp) (Q:VK):Prop
 | mk: ∀ z,(x=.str z)->(z.length<=sizeLine)->(Q (.str (Txt.slice z lo hi)) H)->za x lo hi H Q
theorem lh:SlR X za:=by
 intro pins s σ H x v vl vu lo hi sl Q I rx hs pl pu h;obtain ⟨z,rfl,hz,q⟩:=h;obtain ⟨t,rfl⟩:=rx;refine ⟨"str",_,F.slot_str_getitem.lookup,typeIs_str _ _ _,?_⟩;have go: ∀ (l u:Option (Int×Tok)),vl=partValue l->vu=partValue u->lo=l.map (·.1)->hi=u.map (·.1)->wpAny (model X.prog X.w) X.A (getItem (.str z t) (.ref sl)) (EP X pins σ Q) X.xe s:=by
  intro l u e1 e2 e3 e4;subst e1 e2 e3 e4;refine wpAny_getItem_str_slice (l:=l) (u:=u) (st:=none) hs rfl ?_;exact post_val_or_str ⟨Bm (Txt.slice_le z _ _) hz,λt' k=>⟨.str (Txt.slice z (l.map (·.1)) (u.map (·.1))),H,I.tok k,⟨t',rfl⟩,q⟩⟩
 cases pl with
 | none=>
  cases pu with
  | none=>exact go none none rfl rfl rfl rfl
  | int j tj=>exact go none (some (j,tj)) rfl rfl rfl rfl
 | int i ti=>
  cases pu with
  | none=>exact go (some (i,ti)) none rfl rfl rfl rfl
  | int j tj=>exact go (some (i,ti)) (some (j,tj)) rfl rfl rfl rfl
open PySem.AutoSeq1 (wpAny_loadPart')in
theorem pB (l:Addr) (items:Array Value) (n:Nat) (b:Addr) (items2:Array Value) (n2:Nat) (dd:Option Addr) (sl:Array (Option Value)) (hs0: ¬(!items.isEmpty&&Builtin.List.listTooLong (items.size+items2.size))=true) (hs1:items.size<=sizeLine) (hs2:items.size+items2.size<=sizeLine+1):
  Meets (Builtin.«list.extend» ⟨[.ref l,.ref b],[]⟩) (λ_ R s=>s.heap.get? l=some {cls:=.type "list",dict:=none,data:=.seq items n,slots:= #[]}/\s.heap.get? b=some {cls:=.type "tuple",dict:=dd,data:=.seq items2 n2,slots:=sl}/\R (.ok (.ret Value.none)) {s with heap:=s.heap.update l (Obj.mapSeq λx=>x++items2),toks:=s.toks}):=
 .of_wp λprog w A R s h=>by
  obtain ⟨hp,g,d,tk,os⟩:=s;obtain ⟨hl,hb,h⟩:=h;have f1:=DE;have f2:=CA;have f3:=AutoSeq1.sub_list_list;have f4:=AutoSeq1.sub_tuple_list;have f5:=AutoSeq1.sub_list_tuple;
  have hz':(items++items2).size<=sizeLine+1:=by rw [Array.size_append];exact hs2
  wp_walk using (wpAny_updateSeq hl rfl (hz:=hs1) (_hz':=hz')),Fw hl,Fw hb;exact ⟨_,rfl,h⟩
noncomputable def ze (K:W.Frag):V->List V->Hp->VK->Prop:=λx vs H Q=> ∃ l b xs zs,x=.ref l/\vs=[.ref b]/\H l=some (.lst xs)/\SqT K H b zs/\xs.length+zs.length<=sizeLine/\Q .non (upd H l (.lst (xs++zs)))
theorem wA:MtM X "list.extend" (ze X.K):=by
 intro pins s σ H x vs v us Q I rx rv h;obtain ⟨l,b,xs,zs,rfl,rfl,hH,hB,hz,q⟩:=h;cases rx;obtain ⟨u,rfl,ru⟩:=rv.one;cases ru;obtain ⟨z,its,n,r,hl,e⟩:=I.lstM hH;obtain ⟨its2,r2,ht2,hz2⟩:=I.tuple hB;obtain ⟨⟨c2,d2,dat2,sl2⟩,e2,hc2,n2,hd2⟩:=ht2;dsimp only at hc2 hd2;subst hc2 hd2;have hl2:=r2.length;have hsz:its.toArray.size+its2.toArray.size<=sizeLine:=by rw [AL,AL];lia
 have hlong: ¬ (!its.toArray.isEmpty&&Builtin.List.listTooLong (its.toArray.size+its2.toArray.size))=true:=by
  rw [nk hsz,Bool.and_false];exact AR
 refine DA F.slot_list_extend ⟨_,e,rfl⟩ F.entry_list_extend (F.args_list_extend_2 _ _)
  (pB l its.toArray n b its2.toArray n2 d2 sl2 hlong (by rw [AL];lia) (by lia)) ⟨e,e2,?_⟩
 refine ⟨.non,_,I.lset (its':=its++its2) hH e (by simp) (r.append r2) ?_,rfl,q⟩;rw [AI];lia
def xc (P:Program) (w:World) (K:W.Frag) (a:Addr) (kvs:List (Key×V)):Prop:=
 (a==sysModules)=false/\ ∀ h:Heap,K.In h-> ∃ vs,KV kvs vs/\h.DictOf (aV P w) a vs
def Ad (P:Program) (w:World) (K:W.Frag) (neg:Bool):R2:=λx y H Q=> ∃ k a kvs,x=kV k/\y=.ref a/\xc P w K a kvs/\Q (.bl (if neg then !(aW kvs k).isSome else (aW kvs k).isSome)) H
theorem xV:OpR X (compareOp .In) (Ad X.prog X.w X.K false):=by
 intro pins s σ H x y v u Q I rx ry h;obtain ⟨k,a,kvs,rfl,rfl,⟨hd,T⟩,q⟩:=h;cases (show u=Value.ref a from ry);obtain ⟨vs,rel,dd⟩:=T _ I.kIn;refine wpAny_in_of (iP rx) hd dd.mapOf ?_;rw [<- (rel.val k).isSome_eq];exact ⟨.bl (aW kvs k).isSome,H,I.tok _,rfl,q⟩
end
noncomputable def qj:Expr->Bool
 | .Starred _ _=>false
 | _=>true
theorem jS {e:Expr} {es:List Expr} {env:Env} (h:qj e=true):starEach (e::es) env=(false,eval e env)::starEach es env:=by
 cases e <;> first | rfl | cases h
theorem pac {X:Cx} {e:Expr} {es:List Expr} {te:TE} {t:TA} (ha:PE X e te) (hr:PA X es t) (h:qj e=true:=by rfl):PA X (e::es) (xg te t):=aa ha hr (jS h)
noncomputable def pI:Const->Option V
 | .str x=>some (.str x)
 | .int i=>some (.int i)
 | .bool b=>some (.bl b)
 | .none=>some .non
 | _=>none
noncomputable def ik:List Expr->Option (List V)
 | []=>some []
 | .Constant c _ _::r=>(match pI c,ik r with | some v,some vs=>some (v::vs) | _,_=>none)
 | _::_=>none
theorem ur {X:Cx} {c:Const} {j:Nat} {pos:Pos} {v:V} (h:pI c=some v):PE X (.Constant c j pos) (tC v):=by
 cases c with
 | str x=>cases h;exact aJ
 | int i=>cases h;exact ag
 | bool b=>cases h;exact gY
 | none=>cases h;exact eS
 | _=>cases h
theorem kn {X:Cx}: ∀ {es:List Expr} {vs:List V},ik es=some vs->PA X es (λ_ H Q=>Q vs H)
 | [],vs,h=>by
  cases h;exact ae
 | e::r,vs,h=>by
  cases e with
  | Constant c j pos=>
   simp only [ik]at h;cases hc:pI c with
   | none=>rw [hc]at h;cases h
   | some v=>
    cases hr:ik r with
    | none=>rw [hc,hr]at h;cases h
    | some ws=>
     rw [hc,hr]at h;cases h;exact pac (ur hc) (kn hr)
  | _=>cases h
theorem we {X:Cx} {i:Nat} {x:Str} {es:List Expr} {vs:List V} {pos p pos':Pos} (hN:X.N.Nodup) (hi:X.N[i]? =some x) (hx:Loc X.env.scope x) (hf:X.fn x=true\/X.env.scope.names.lookup x=some .local) (h:ik es=some vs):
  PS X (.Assign [.Name x pos'] (.List es p) pos) (jR (yP (λ_ H Q=>Q vs H)) (dF i)):=
 de hN hi hx (bd (kn h)) rfl hf
end L2
namespace HT
open PySem PyProof.Rows
section
variable {prog:Program} {w:World} {A:Around} {s:Shared} {E:Value->Shared->Prop}
theorem nK (n:Nat):Builtin.Slice.sliceAdjust none none (-1) (n:Int)=((n:Int) -1,-1):=by
 unfold Builtin.Slice.sliceAdjust;simp
theorem mU (n:Nat):Builtin.Slice.slicePlaces ((n:Int) -1) (-1) (-1)=n:=by
 unfold Builtin.Slice.slicePlaces;have h1: ¬ ((-1:Int) >0):=by lia
 simp only [h1,BN];rw [show (- -1:Int)=1 by decide,Fs];split <;> lia
theorem mf {sl:Addr} {t:Tok} {n:Nat} {Q:Int×Int×Nat->Shared->Prop} (hs:s.heap.IsSliceOf sl .none .none (.int (-1) t)) (h:Q ((n:Int) -1,-1,n) s):
  wpAny (model prog w) A (Builtin.Slice.sliceApplied (.ref sl) (pure (n:Int))) Q E s:=by
 obtain ⟨os,hos,hcs,hds⟩:=id hs;unfold Builtin.Slice.sliceApplied Builtin.Slice.sliceFields;refine AA (AA (Bp hos hds (x:=.none) rfl (AA (Bp hos hds (x:=.none) rfl (AA (Bp hos hds (x:=.int (-1) t) rfl (AB ?_)))))));refine AA (dA (.int (-1) t) ?_);show wpAny _ _ (if ((-1:Int)==0)=true then _ else _) _ _ s;rw [AQ (by decide)];refine AA (dA .none (AA (dA .none (AA (AB ?_)))));show wpAny _ _ (match Builtin.Slice.sliceAdjust none none (-1) (n:Int)with | (lo,hi)=>pure (lo,(-1:Int),Builtin.Slice.slicePlaces lo hi (-1))) _ _ s;rw [nK n];show wpAny _ _ (pure ((n:Int) -1,(-1:Int),Builtin.Slice.slicePlaces ((n:Int) -1) (-1) (-1))) _ _ s;rw [mU];exact AB h
theorem nB {α β:Type} {f g:α->Option β}: ∀ {l:List α},(∀ x∈l,f x=g x)->l.filterMap f=l.filterMap g
 | [],_=>rfl
 | x::r,h=>by rw [BA,BA,h x A3,nB λy hy=>h y (A2 _ hy)]
theorem rD (xs:Array Value):((List.range xs.size).filterMap λ(m:Nat)=>xs[((xs.size:Int) -1+ (m:Int) * -1).toNat]?).toArray=xs.toList.reverse.toArray:=by
 congr 1
 rw [<- L2.rev_pick xs.toList,DY,BE];refine nB λm hm=>?_;have:=Dd.mp hm;have e:((xs.size:Int) -1+ (m:Int) * -1).toNat=xs.size-1-m:=by lia
 rw [e];simp
theorem getItem_tuple_back {a sl:Addr} {items:Array Value} {t:Tok} {Q:Value->Shared->Prop} (ht:IsTup s.heap a items) (hs:s.heap.IsSliceOf sl .none .none (.int (-1) t))
  (h:Q (.ref s.heap.objs.size) {s with heap:=s.heap.push {cls:=.type "tuple",data:=.seq items.toList.reverse.toArray}})
  (hsz:items.size<=sizeLine):wpAny (model prog w) A (getItem (.ref a) (.ref sl)) Q E s:=by
 have hok:sizeOk (.seq items.toList.reverse.toArray):=by
  show items.toList.reverse.toArray.size<=sizeLine;rw [AL,Ck,BE];exact hsz
 obtain ⟨os,hos,hcs,hds⟩:=id hs;have hTs:s.TypeIs (.ref sl) "slice":=⟨os,hos,hcs⟩;unfold getItem;try with_reducible refine BF ?_
 first | refine AA (AB ?_) | skip
 refine AA (E7 ht.typeIs (by decide) ?_);refine AA (Bn (name:=Str.ofString "__getitem__") ht.typeIs BK
  (Bi BK ht.typeIs EL ?_ (args_tuple_getitem _ _)))
 show wpAny _ _ (Builtin.Tuple.tupleItemsOf (.ref a) >>= _) _ _ s;refine AA (tupleItemsOf_ ht ?_);refine AA (EQ hTs ?_);rw [AX (by decide)];refine AA (mf hs ?_);show wpAny _ _ (if (((items.size:Int) -1)==0&&(-1:Int)==1&&items.size==items.size)=true then _ else _) _ _ s;rw [AQ (by simp),rD];first
  | exact AA (m:=Builtin.Tuple.tupleExact _) (A9 (AB ⟨_,rfl,AB h⟩) hok)
  | exact AA (m:=Builtin.Tuple.tupleExact _) (A9 (AA (AB (AB ⟨_,rfl,AB h⟩))) hok)
  | exact AA (AA (m:=Builtin.Tuple.tupleExact _) (A9 (AB (AB ⟨_,rfl,AB h⟩)) hok))
  | exact AA (AA (m:=Builtin.Tuple.tupleExact _) (A9 (AB ⟨_,rfl,AB h⟩) hok))
end
end HT
namespace L2
open PySem PySem.Spec PyProof.Rows
section
variable {X:Cx} {e k:Expr} {te tk:TE} {pos p2:Pos}
def xF (K:W.Frag) (te tk:TE):TE:=λσ H Q=>te σ H λx H1=>tk σ H1 λy H2=> ∃ a xs,x=.ref a/\y=.int (-1)/\SqT K H2 a xs/\ ∀ p,H2 p=none->Q (.ref p) (upd H2 p (.tup xs.reverse))
theorem sX {xs:List V} {us:List Value} (h:Vals xs us):Vals xs.reverse us.reverse:=by
 rw [<- rev_pick xs,<- rev_pick us,h.length];exact dX _ h
theorem uw (he:PE X e te) (hk:PE X k tk):PE X (.Subscript e (.Slice none none (some k) p2) pos) (xF X.K te tk):=by
 intro pins s σ H Q I h;refine Subscript_ (thn (he pins s σ H _ I h) λv s1 ⟨x,H1,I1,r1,q1⟩=>?_);refine wpAny_Slice ?_;rw [Fg,evalPart_some];refine AB (AB ?_);refine thn (hk pins s1 σ H1 _ I1 q1) λvk s3 ⟨y,H3,I3,ry,a,xs,ex,ey,hq,q⟩=>?_;subst ex ey;obtain ⟨t,rfl⟩:=ry;cases r1;have I4:Inv X pins σ H3 {s3 with heap:=s3.heap.push {cls:=.type "slice",data:=.fields #[.none,.none,.int (-1) t]}}:=I3.kept (t':=s3.toks) λb ob q=>AC _ q;obtain ⟨its,r,ht,hz⟩:=I4.tuple hq;show wpAny (model X.prog X.w) X.A (subscriptTail e (.Slice none none (some k) p2) (.ref a) (.ref s3.heap.objs.size)) (EP X pins σ Q) X.xe {s3 with heap:=s3.heap.push {cls:=.type "slice",data:=.fields #[.none,.none,.int (-1) t]}};refine tail_any (ops:=[.ref a,.ref s3.heap.objs.size]) ht.typeIs PyProof.Rows.slot_tuple_getitem.lookup (HT.getItem_tuple_back ht (EW ..) ?_ (by rw [AL,<- r.length];exact hz)) (by with_unfolding_all rfl);refine ⟨.ref (s3.heap.push {cls:=.type "slice",data:=.fields #[.none,.none,.int (-1) t]}).objs.size,_,I4.laid (t':=s3.toks) (o:=.tup xs.reverse) (λb ob q=>AC _ q) (AJ _) ?_,rfl,q _ I4.fresh⟩;exact ⟨by rw [Ck];exact hz,_,sX r,IsTup.new _ _⟩
end
section
variable {X:Cx}
noncomputable def ms:List Int->Int
 | []=>0
 | n::r=>n+ms r
end
end L2
namespace HT
open PySem PyProof.Rows
section
variable {prog:Program} {w:World} {A:Around} {s:Shared} {E:Value->Shared->Prop} {d j:Addr} {ks:List Value} {i ep:Nat}
def DEs (h:Heap) (d:Addr) (ks:List Value) (ep:Nat):Prop:= ∃ o es,h.get? d=some o/\o.ExactDict/\o.data=.dict es ep/\es.toList.map (·.key)=ks
theorem DEs.type (m:DEs s.heap d ks ep):s.TypeIs (.ref d) "dict":=by
 obtain ⟨o,_,ho,hc,_⟩:=m;exact ⟨o,ho,hc.1⟩
theorem DEs.keeps {h h':Heap} (m:DEs h d ks ep) (k: ∀ o,h.get? d=some o->h'.get? d=some o):DEs h' d ks ep:=by
 obtain ⟨o,es,ho,r⟩:=m;exact ⟨o,es,k o ho,r⟩
theorem DEs.lt {h:Heap} (m:DEs h d ks ep):d<h.objs.size:=by
 obtain ⟨o,es,ho,_⟩:=m;exact AN ho
theorem fS {es:Array DictEntry} (e:es.toList.map (·.key)=ks):es.size=ks.length:=by
 rw [<- e,AD,BE]
theorem iter_des {Q:Value->Shared->Prop} (lo:(d==sysModules)=false) (m:DEs s.heap d ks ep)
  (q:Q (.ref s.heap.objs.size) {s with heap:=s.heap.push {cls:=.type "dict_keyiterator",data:=.fields #[.ref d,.int 0 0,.int ks.length 0,.int ep 0]}}):wpAny (model prog w) A (pyIter (.ref d)) Q E s:=by
 have ty:=m.type;obtain ⟨o,es,ho,hc,hdat,hk⟩:=m;refine E8 ty PySem.F.slot_dict_iter (Bi PySem.F.slot_dict_iter ty PySem.F.entry_dict_iter ?_ (PySem.F.args_dict_iter_1 _));unfold Builtin.«dict.__iter__» Builtin.Dict.dictSlotNone;refine AA (AA (Es ty ?_));refine AB (show wpAny _ _ (Builtin.Dict.showsAll d >>= _) _ _ s from ?_);unfold Builtin.Dict.showsAll;rw [AQ (by rw [lo];exact AR)];refine AA (AB (AA (BX ho hdat (AA (Cn ho hdat ?_)))));refine AA (A9 (AB ⟨_,rfl,"dict_keyiterator",_,⟨_,AU _ rfl,rfl⟩,PySem.F.slot_dict_keyiterator_next.lookup,?_⟩));simpa [rawInt,fS hk]using q
theorem next_des {x:Value} {Q:Option Value->Shared->Prop} (st:s.heap.IsKeyIter j d i ks.length ep) (m:DEs s.heap d ks ep) (hx:ks[i]? =some x)
  (q: ∀ h',h'.IsKeyIter j d (i+1) ks.length ep->Heap.SameBut j s.heap h'->Q (some x) {s with heap:=h'}):wpAny (model prog w) A (pyNext (.ref j)) Q E s:=by
 have ty:=st.typeIs;obtain ⟨o,ho,hc,hd⟩:=id st;obtain ⟨od,es,hod,hcd,hdd,hk⟩:=m;have hz:=fS hk;have hlt:i<ks.length:=(AF.mp hx).1;have hes:i<es.size:=by lia
 have hkey:es[i].key=x:=by
  have e1:(es.toList.map (·.key))[i]? =some x:=by rw [hk];exact hx
  rw [AS,CY,BQ hes]at e1;exact A0 e1
 unfold pyNext;refine AA (Cf (Bn (name:=Str.ofString "__next__") ty Cb (Bi Cb ty DT ?_ (DO _))));refine AA (AB (AA (AA ?_)));first | refine AA (CD ty (AB (AA (BY ho hd ?_)))) | refine AA (C8 ty (AB (AA (BY ho hd ?_))))
 have own:Builtin.Dict_items.ownsTuple "dict_keyiterator"=false:=by decide
 simp only [own,Bs,BN];refine (show wpAny _ _ (if (Value.ref d==Value.none)=true then _ else _) _ _ s from ?_);rw [AQ λb0:(Value.ref d==Value.none)=true=>AR b0];refine AA (AB (AA (BX hod hdd ?_)));rw [AQ (by rw [hz];simp)];refine AA (AB (AA (Cn hod hdd ?_)));rw [AQ (by simp)];refine AB ?_;simp only [show ¬ ((i:Int) <0)from by lia,BN,B4,BQ hes];refine AA ?_;first | refine AA (CD ty (AB (AA (Et ty ?_)))) | refine AA (C8 ty (AB (AA (Et ty ?_))))
 refine (show wpAny _ _ (setField (.ref j) 1 (rawInt ((i:Int) +1)) >>= _) _ _ s from ?_);refine AA (B9 ho hd (by simp) ?_);have st':(s.heap.update j (Obj.mapFields (·.setIfInBounds 1 (rawInt ((i:Int) +1))))).IsKeyIter j d (i+1) ks.length ep:=by
  refine ⟨_,BW _ ho (Ct (BJ hd _)),(Dy ..).trans hc,?_⟩;rw [BJ hd];simp [rawInt]
 refine AA (BF (AA (Et (s:={s with heap:=s.heap.update j (Obj.mapFields (·.setIfInBounds 1 (rawInt ((i:Int) +1))))}) st'.typeIs ?_)));refine (show wpAny _ _ (pure es[i].key) _ _ _ from ?_);rw [hkey];exact AB (AB ⟨_,rfl,AB (q _ st' (Cm ..))⟩)
theorem end_des {Q:Option Value->Shared->Prop} (hh:A.handled=none) (st:s.heap.IsKeyIter j d i ks.length ep) (m:DEs s.heap d ks ep) (hx:ks.length<=i)
  (q: ∀ h',Heap.ExtBut j s.heap h'->Q none {s with heap:=h'}):wpAny (model prog w) A (pyNext (.ref j)) Q E s:=by
 have ty:=st.typeIs;obtain ⟨o,ho,hc,hd⟩:=id st;obtain ⟨od,es,hod,hcd,hdd,hk⟩:=m;have hz:=fS hk;unfold pyNext;refine AA (Cf (Bn (name:=Str.ofString "__next__") ty Cb (Bi Cb ty DT ?_ (DO _))));refine AA (AB (AA (AA ?_)));first | refine AA (CD ty (AB (AA (BY ho hd ?_)))) | refine AA (C8 ty (AB (AA (BY ho hd ?_))))
 have own:Builtin.Dict_items.ownsTuple "dict_keyiterator"=false:=by decide
 simp only [own,Bs,BN];refine (show wpAny _ _ (if (Value.ref d==Value.none)=true then _ else _) _ _ s from ?_);rw [AQ λb0:(Value.ref d==Value.none)=true=>AR b0];refine AA (AB (AA (BX hod hdd ?_)));rw [AQ (by rw [hz];simp)];refine AA (AB (AA (Cn hod hdd ?_)));rw [AQ (by simp)];refine AB ?_;have hge:es.size<=i:=by lia
 simp only [show ¬ ((i:Int) <0)from by lia,BN,B4,El hge];refine AA ?_;first | refine AA (CD ty (AB ?_)) | refine AA (C8 ty (AB ?_))
 refine (show wpAny _ _ (setField (.ref j) 0 .none >>= _) _ _ s from AA (B9 ho hd (by simp) ?_));refine (show wpAny _ _ (newExc (.type "StopIteration") [] >>= _) _ _ _ from AA ?_);simp only [newExc,newTuple];refine AA (A9 (AA (m:=firstArgMember _ _) (Fz (a:=Value.none) (by first | rfl | (simp only [firstArgMember];rfl)) (A9 ?_ (by size_fits)))) (by size_fits));simp only [raiseNew];refine AA (Fi ?_);rw [show A.in1.handled=none from hh];refine (AA (AB (E9 (?_))));refine AA (CP (T:="StopIteration") (b:=true) ⟨_,AU _ rfl,rfl⟩ EY (AB (q _ ?_)));exact ((Cm ..).extBut.push _).push _
theorem qP (hh:A.handled=none) (hne:d≠j):Walks prog w A j [j,d] [j] ks.length (λi v=>ks[i]? =some v) (λi h=>h.IsKeyIter j d i ks.length ep/\DEs h d ks ep) where
 sub:=λb hb=>by rw [AE.mp hb];exact A3
 frame:=λ_ _ _ st k=>⟨st.1.at λo e=>k j (by simp) o e,st.2.keeps λo e=>k d (by simp) o e⟩
 item:=λi s Q E hi st hQ=>by
  have hx:ks[i]? =some ks[i]:=AG hi;refine next_des st.1 st.2 hx λh' st' sb=>?_;exact hQ _ h' s.toks hx ⟨st',st.2.keeps λo e=>sb.extBut d o hne e⟩ λb o hb e=>sb.extBut b o (λz=>hb (by rw [z];exact A3)) e
 done:=λs Q E st hQ=>end_des hh st.1 st.2 (AJ _) λh' eb=>hQ h' s.toks λb o hb e=>eb b o (λz=>hb (by rw [z];exact A3)) e
 self:=λ_ _ _ _ st hQ=>wpAny_pyIter_keyiter st.1 hQ
theorem src_des (lo:(d==sysModules)=false):W.KdlSrc prog w "dict" d d ks.length (λi v=>ks[i]? =some v) (λh=>DEs h d ks ep) where
 type:=λ_ m=>m.type
 there:=λ_ m=>⟨m.lt,m.lt⟩
 keep:=λ_ _ m k=>m.keeps λo e=>k d (.inl rfl) o e
 notList:=by decide
 notTuple:=by decide
 hint:=λ_ _ _ _ m q=>W.kdl_hint_dict m.type q
 iter:=λ_ _ hh m=>⟨_,_,λ_ _ q=>iter_des lo m q,qP hh (Bf m.lt),⟨⟨_,AU _ rfl,rfl,rfl⟩,m.keeps λo e=>AC _ e⟩⟩
end
end HT
namespace L2
open PySem PySem.Spec PyProof.Rows
section
variable {X:Cx}
noncomputable def KsOf (H:Hp):List V->List (List Key)->Prop:=Paired λy ks=> ∃ b,y=.ref b/\H b=some (.tup (ks.map kV))
theorem KsOf.mono {H H':Hp} {ys:List V} {kss:List (List Key)} (h:KsOf H ys kss) (t: ∀ b xs,H b=some (.tup xs)->H' b=some (.tup xs)):KsOf H' ys kss:=
 Paired.mapP h λ_ _ ⟨b,e,hb⟩=>⟨b,e,t _ _ hb⟩
theorem uX {H:Hp} {kvs:List (List Key×V)} {xs:List (List Key×Addr×Value)} (r:KT H kvs xs):KsOf H (xs.map λq=>V.ref q.2.1) (kvs.map (·.1)):=by
 induction r with
 | nil=>exact .nil
 | cons h _ ih=>exact .cons ⟨_,rfl,h.2.1⟩ ih
theorem pM (hc:X.calm=true):cQ X (.type "list") (λxs H Q=> ∃ a kvs,xs=[.ref a]/\H a=some (.dT kvs)/\ ∀ p ys,H p=none->KsOf H ys (kvs.map (·.1))->Q (.ref p) (upd H p (.lst ys))):=by
 intro pins s σ H xs us Q I r h;obtain ⟨a,kvs,rfl,ha,q⟩:=h;obtain ⟨u,rfl,ru⟩:=gh r;cases ru;obtain ⟨hz,lo,ys,kt,o,es,ep,h1,h2,h3,h4,h5⟩:=(show ObjOk X.prog X.w H s.heap a (.dT kvs)from I.hok a _ ha);have hm:HT.DEs s.heap a (ys.map λq=>Value.ref q.2.1) ep:=by
  refine ⟨o,es,h1,h2,h3,?_⟩;rw [h4,BB];rfl
 have hl:ys.length=kvs.length:=(AZ kt).symm;refine W.kdl_call (HT.src_des lo) (I.ok.hd hc) hm (by rw [AD];lia) λh' tk acc c' kp e hi=>?_;obtain ⟨i1,i2⟩:=hi;have hacc:acc.toList=ys.map λq=>Value.ref q.2.1:=by
  refine List.ext_getElem? λi=>?_;rw [CY];cases hv:acc[i]? with
  | some v=>exact (i2 i v hv).symm
  | none=>
   have:acc.size<=i:=Array.getElem?_eq_none_iff.mp hv;exact (CZ (by rw [<- i1];exact this)).symm
 have rv:Vals (ys.map λq=>V.ref q.2.1) (ys.map λq=>Value.ref q.2.1):=by
  clear kt h4 h5 hl i1 i2 hacc hm;induction ys with
  | nil=>exact .nil
  | cons y r ih=>exact .cons rfl ih
 refine ⟨.ref s.heap.objs.size,_,I.laid (t':=tk) (o:=.lst (ys.map λq=>V.ref q.2.1)) kp (AJ _) ?_,rfl,q _ _ (I.hok.fresh (AJ _)) (uX kt)⟩;refine ⟨by rw [AD];lia,_,c',rv,?_⟩;rw [<- hacc,Array.toArray_toList];exact e
end
section
variable {X:Cx}
theorem rF (hu:X.A.units<cLine):OpR X (compareOp .NotEq) (λx y H Q=> ∃ a b xs,x=.ref a/\y=.ref b/\SqL X.K H a xs/\SqL X.K H b []/\Q (.bl (!xs.isEmpty)) H):=by
 intro pins s σ H x y v u Q I rx ry h;obtain ⟨a,b,xs,rfl,rfl,ha,hb,q⟩:=h;cases rx;cases ry;obtain ⟨its,r,pl,_⟩:=I.list ha;obtain ⟨its2,r2,pl2,_⟩:=I.list hb;cases r2;cases r with
 | nil=>exact SeqAt.RcNeAt.lists (e:=λ_=>true) pl.isList pl2.isList rfl hu (λj h1 _=>absurd h1 (Fx _)) X.prog X.w X.xe _ ⟨.bl _,H,I,rfl,q⟩
 | cons r1 t=>exact SeqAt.RcNeAt.lists_lengths pl.isList pl2.isList (by simp) hu X.prog X.w X.xe _ ⟨.bl _,H,I,rfl,q⟩
instance Az (ks:List Key) (kss:List (List Key)):Decidable (ks∈kss):=decidable_of_iff (kss.any (λl=>decide (l=ks))=true) ⟨λh=>by
  obtain ⟨x,hx,e⟩:=Cv.mp h;rw [<- A7 e];exact hx,λh=>Cv.mpr ⟨ks,h,AO rfl⟩⟩
theorem qo {P P':Program} {w w':World} {H:Hp} {h:Heap} {a:Addr} {ks:List Key} (ok:HOk P w H h) (e:H a=some (.tup (ks.map kV))):IsTupleKey (aV P' w') h ks a:=by
 obtain ⟨_,its,r,o,h1,h2,n,h3⟩:=(show ObjOk P w H h a (.tup (ks.map kV))from ok a _ e);exact ⟨o,its.toArray,n,h1,h2,h3,by simpa using iC r⟩
noncomputable def u0 (H:Hp) (ks:List Key):Value->Bool
 | .ref b=>(match H b with | some (.tup xs)=>decide (xs=ks.map kV) | _=>false)
 | _=>false
theorem qr {H:Hp} {b:Addr} {ks ls:List Key} (h:H b=some (.tup (ls.map kV))):u0 H ks (.ref b)=decide (ls=ks):=by
 show (match H b with | some (.tup xs)=>decide (xs=ks.map kV) | _=>false)=_;rw [h];show decide (ls.map kV=ks.map kV)=decide (ls=ks);by_cases e:ls=ks
 ·rw [AO e,AO (by rw [e])]
 ·rw [AW e,AW λz=>e (qp z)]
theorem yE {H:Hp} {ks:List Key} {ys:List V} {us:List Value} {kss:List (List Key)} (r:Vals ys us) (h:KsOf H ys kss):us.any (u0 H ks)=decide (ks∈kss):=by
 induction r generalizing kss with
 | nil=>cases h;exact (AW (by simp)).symm
 | @cons y u ys us r1 t ih=>
  cases h with
  | @cons _ ls _ kss h1 t2=>
   obtain ⟨b,rfl,hb⟩:=h1;cases (show u=Value.ref b from r1);rw [Do,qr hb,ih t2];by_cases e:ls=ks
   ·have m:ks∈ls::kss:=by rw [e];exact A3
    rw [AO e,AO m,Bool.true_or]
   ·rw [AW e,Bool.false_or];refine DF.mpr ⟨λh=>A2 _ h,λh=>?_⟩;rcases AY.mp h with z | z
    ·exact absurd z.symm e
    ·exact z
theorem xZ {H:Hp} {ys:List V} {us:List Value} {kss:List (List Key)} (r:Vals ys us) (h:KsOf H ys kss): ∀ u∈us,∃ (b:Addr) (ls:List Key),u=.ref b/\H b=some (.tup (ls.map kV)):=by
 induction r generalizing kss with
 | nil=>intro u hu;cases hu
 | @cons y u ys us r1 t ih=>
  cases h with
  | cons h1 t2=>
   intro v hv;rcases AY.mp hv with e | e
   ·obtain ⟨b,rfl,hb⟩:=h1;exact ⟨b,_,e.trans (show u=Value.ref b from r1),hb⟩
   ·exact ih t2 v e
def zd (K:W.Frag) (neg:Bool):R2:=λx y H Q=> ∃ a p ks ys kss,x=.ref a/\y=.ref p/\H a=some (.tup (ks.map kV))/\SqL K H p ys/\KsOf H ys kss/\Q (.bl (if neg then !decide (ks∈kss)else decide (ks∈kss))) H
theorem mZ (hu:X.A.units+1<cLine):OpR X (compareOp .NotIn) (zd X.K true):=by
 intro pins s σ H x y v u Q I rx ry h;obtain ⟨a,p,ks,ys,kss,rfl,rfl,ha,hp,hk,q⟩:=h;cases rx;cases ry;obtain ⟨its,r,pl,hz⟩:=I.list hp;refine SeqAt.notIn_listAt (u0 H ks) pl.isList (λw hw=>?_) ⟨.bl _,H,I,rfl,?_⟩
 ·obtain ⟨b,ls,rfl,hb⟩:=xZ r hk w (by simpa using hw);rw [qr hb];exact λprog w' E Q hq=>wpAny_eqBool_tuple (show X.A.units+1<cLine from hu) (qo I.hok hb) (qo I.hok ha) hq
 ·rw [show its.toArray.any (u0 H ks)=its.any (u0 H ks) by simp,yE r hk];exact q
theorem i3 (K:W.Frag) (t:String) (ht:t∈["NoneType","bool","int","str","list","tuple","dict"]):
  W.kitAny K (.type t) [.type "tuple",.type "list"]=some (t=="tuple"||t=="list"):=by
 simp only [AY,Bz,CV]at ht;rcases ht with rfl | rfl | rfl | rfl | rfl | rfl | rfl <;> first | rfl | (with_unfolding_all rfl) | (with_unfolding_all decide)
inductive TL (H:Hp):V->Bool->Prop where
 | str (z:Str):TL H (.str z) false
 | int (i:Int):TL H (.int i) false
 | tup {a:Addr} {xs:List V}:H a=some (.tup xs)->TL H (.ref a) true
 | lst {a:Addr} {xs:List V}:H a=some (.lst xs)->TL H (.ref a) true
theorem sK:cQ X (.builtin "isinstance") (λxs H Q=> ∃ x p b,xs=[x,.ref p]/\H p=some (.tup [.ty "tuple",.ty "list"])/\TL H x b/\Q (.bl b) H):=by
 intro pins s σ H xs us Q I r h;obtain ⟨x,p,b,rfl,hp,ty,q⟩:=h;obtain ⟨u,w',rfl,rx,rp⟩:=iH r;cases (show w'=Value.ref p from rp);obtain ⟨_,its,rv,o,h1,h2,n,h3⟩:=(show ObjOk X.prog X.w H s.heap p (.tup [.ty "tuple",.ty "list"])from I.hok p _ hp);obtain ⟨u1,u2,rfl,r1,r2⟩:=iH rv;cases (show u1=Value.type "tuple" from r1);cases (show u2=Value.type "list" from r2);obtain ⟨c,d,dt,sl⟩:=o;simp only at h2 h3;subst h2 h3;have k: ∀ tk,EP X pins σ Q (.bool b) {s with toks:=tk}:=λtk=>⟨.bl b,H,I.tok tk,rfl,q⟩;cases ty with
 | int i=>
  obtain ⟨t,e⟩:=(show ∃ t,u=Value.int i t from rx);cases e;exact DX W.kitx_int I.kIn True.intro h1 (i3 _ "int" (by simp)) (λz=>nomatch z) k
 | str y=>
  obtain ⟨t,e⟩:=(show ∃ t,u=Value.str y t from rx);cases e;exact DX W.kitx_str I.kIn True.intro h1 (i3 _ "str" (by simp)) (λz=>nomatch z) k
 | @lst a xs ea=>
  cases (show u=Value.ref a from rx);obtain ⟨_,_,_,_,h4⟩:=(show ObjOk X.prog X.w H s.heap a (.lst xs)from I.hok a _ ea);exact DX E6 I.kIn ⟨_,h4,rfl⟩ h1 (i3 _ "list" (by simp)) (λz=>nomatch z) k
 | @tup a xs ea=>
  cases (show u=Value.ref a from rx);obtain ⟨_,_,_,o2,h4,h5,_⟩:=(show ObjOk X.prog X.w H s.heap a (.tup xs)from I.hok a _ ea);exact DX W.kitx_tuple I.kIn ⟨o2,h4,h5⟩ h1 (i3 _ "tuple" (by simp)) (λz=>nomatch z) k
end
end L2
namespace HT
open PySem PyProof.Rows
section
variable {prog:Program} {w:World} {A:Around} {s:Shared} {E:Value->Shared->Prop} {j t:Addr} {i:Nat} {items:Array Value}
theorem vp {x:Value} {Q:Value->Shared->Prop} (st:s.heap.IsTupleIter j t i) (ht:s.heap.IsTuple t items) (hx:items[i]? =some x)
  (q: ∀ h',h'.IsTupleIter j t (i+1)->Heap.SameBut j s.heap h'->Q x {s with heap:=h'}):wpAny (model prog w) A (Builtin.SmallTypes.nextOf (.ref j)) Q E s:=by
 have ty:=st.typeIs;obtain ⟨o,ho,hc,hd⟩:=id st;obtain ⟨ol,hol,_,nl,hdl⟩:=ht;unfold Builtin.SmallTypes.nextOf;refine AA (Bn (name:=Str.ofString "__next__") ty Ci (Bi Ci ty Eg ?_ (Ea _)));refine (show wpAny _ _ (field (.ref j) 0 >>= _) _ _ s from AA (Bp ho hd (x:=.ref t) rfl ?_));refine (show wpAny _ _ (if (Value.ref t==Value.none)=true then _ else _) _ _ s from ?_);rw [AQ λb0:(Value.ref t==Value.none)=true=>AR b0];refine (show wpAny _ _ (field (.ref j) 1 >>= _) _ _ s from AA (Bp ho hd (x:=.int i 0) rfl ?_));refine (show wpAny _ _ (seqItems? (.ref t) >>= _) _ _ s from AA (CC hol hdl ?_));simp only [B4,hx];refine AA (B9 ho hd (by simp) (AB ⟨x,rfl,AB (q _ ⟨_,BW _ ho (Ct (BJ hd _)),(Dy ..).trans hc,?_⟩ (Cm ..))⟩));rw [BJ hd];simp [rawInt]
theorem nC {Q:Value->Shared->Prop} (hh:A.handled=none) (st:s.heap.IsTupleIter j t i) (ht:s.heap.IsTuple t items) (hx:items[i]? =none)
  (q: ∀ h' e,Heap.ExtBut j s.heap h'->(∃ o,h'.get? e=some o/\o.cls=.type "StopIteration")->E (.ref e) {s with heap:=h'}):wpAny (model prog w) A (Builtin.SmallTypes.nextOf (.ref j)) Q E s:=by
 have ty:=st.typeIs;obtain ⟨o,ho,hc,hd⟩:=id st;obtain ⟨ol,hol,_,nl,hdl⟩:=ht;unfold Builtin.SmallTypes.nextOf;refine AA (Bn (name:=Str.ofString "__next__") ty Ci (Bi Ci ty Eg ?_ (Ea _)));refine (show wpAny _ _ (field (.ref j) 0 >>= _) _ _ s from AA (Bp ho hd (x:=.ref t) rfl ?_));refine (show wpAny _ _ (if (Value.ref t==Value.none)=true then _ else _) _ _ s from ?_);rw [AQ λb0:(Value.ref t==Value.none)=true=>AR b0];refine (show wpAny _ _ (field (.ref j) 1 >>= _) _ _ s from AA (Bp ho hd (x:=.int i 0) rfl ?_));refine (show wpAny _ _ (seqItems? (.ref t) >>= _) _ _ s from AA (CC hol hdl ?_));simp only [B4,hx];refine AA (EU (AA (B9 ho hd (by simp) (show wpAny _ _ (newExc (.type "StopIteration") [] >>= _) _ _ _ from AA ?_))));simp only [newExc,newTuple];refine AA (A9 (AA (m:=firstArgMember _ _) (Fz (a:=Value.none) (by first | rfl | (simp only [firstArgMember];rfl)) (A9 ?_ (by size_fits)))) (by size_fits));simp only [raiseNew];refine AA (Fi ?_);rw [show A.in1.handled=none from hh];exact AA (AB (E9 (q _ _ (((Cm ..).extBut.push _).push _) ⟨_,AU _ rfl,rfl⟩)))
def SIter (c:Bool) (h:Heap) (j l:Addr) (i:Nat):Prop:=if c=true then h.IsTupleIter j l i else h.IsListIter j l i
def SSeq (c:Bool) (h:Heap) (l:Addr) (items:Array Value):Prop:=if c=true then h.IsTuple l items else h.IsList l items
theorem SIter.obj {c:Bool} {h:Heap} {l:Addr} (x:SIter c h j l i): ∃ o,h.get? j=some o/\ ∀ v,o.data≠ .cell v:=by
 cases c with
 | true=>obtain ⟨o,e,_,d⟩:=(show h.IsTupleIter j l i from x);exact ⟨o,e,λv z=>by rw [d]at z;cases z⟩
 | false=>obtain ⟨o,e,_,d⟩:=(show h.IsListIter j l i from x);exact ⟨o,e,λv z=>by rw [d]at z;cases z⟩
theorem SIter.at {c:Bool} {h h':Heap} {l:Addr} (x:SIter c h j l i) (k: ∀ o,h.get? j=some o->h'.get? j=some o):SIter c h' j l i:=by
 cases c with
 | true=>obtain ⟨o,e,r⟩:=(show h.IsTupleIter j l i from x);exact (show h'.IsTupleIter j l i from ⟨o,k o e,r⟩)
 | false=>obtain ⟨o,e,r⟩:=(show h.IsListIter j l i from x);exact (show h'.IsListIter j l i from ⟨o,k o e,r⟩)
theorem SSeq.at {c:Bool} {h h':Heap} {l:Addr} (x:SSeq c h l items) (k: ∀ o,h.get? l=some o->h'.get? l=some o):SSeq c h' l items:=by
 cases c with
 | true=>obtain ⟨o,e,r⟩:=(show h.IsTuple l items from x);exact (show h'.IsTuple l items from ⟨o,k o e,r⟩)
 | false=>obtain ⟨o,e,r⟩:=(show h.IsList l items from x);exact (show h'.IsList l items from ⟨o,k o e,r⟩)
theorem draws_seq (c:Bool) (hh:A.handled=none) (j l:Addr) (hne:l≠j) (items:Array Value):
  Draws prog w A j [j,l] items.size (λi v=>items[i]? =some v) (λi h=>SIter c h j l i/\SSeq c h l items) where
 live:=λ_ _ st=>let ⟨o,e,_⟩:=st.1.obj;⟨o,e⟩
 frame:=λ_ _ _ st k=>⟨st.1.at λo e=>k j (by simp) o e,st.2.at λo e=>k l (by simp) o e⟩
 item:=λi s Q E hi st hQ=>by
  have hx:items[i]? =some items[i]:=BQ hi;cases c with
  | true=>exact vp st.1 st.2 hx λh' st' sb=>hQ _ h' s.toks hx ⟨st',st.2.at λo e=>sb.extBut l o hne e⟩ sb
  | false=>exact wpAny_nextOf_list_item st.1 st.2 hx λh' st' sb=>hQ _ h' s.toks hx ⟨st',st.2.at λo e=>sb.extBut l o hne e⟩ sb
 done:=λs Q E st hE=>by
  cases c with
  | true=>exact nC hh st.1 st.2 (by simp) hE
  | false=>exact wpAny_nextOf_list_end hh st.1 st.2 (by simp) hE
end
structure ZAp (z TI TO i1 i2:Addr) (f1 f2:List Addr):Prop where
 tz:TI≠z
 oz:TO≠z
 a1z:i1≠z
 a2z:i2≠z
 to:TI≠TO
 t1:TI≠i1
 t2:TI≠i2
 o1:TO≠i1
 o2:TO≠i2
 ii:i1≠i2
 z1:z∉f1
 z2:z∉f2
 p1:TO∉f1
 p2:TO∉f2
 q1:i2∉f1
 q2:i1∉f2
section
variable {prog:Program} {w:World} {A:Around} {s:Shared} {E:Value->Shared->Prop} {z TI TO i1 i2:Addr} {f1 f2:List Addr} {n1 n2 k:Nat} {P1 P2:Nat->Value->Prop} {S1 S2:Nat->Heap->Prop} {a b:Value}
theorem sU {Q:Value->Shared->Prop} (D1:Draws prog w A i1 f1 n1 P1 S1) (D2:Draws prog w A i2 f2 n2 P2 S2) (D:ZAp z TI TO i1 i2 f1 f2)
  (hz:IsZip s.heap z TI TO .none) (hTI:IsPair s.heap TI (.ref i1) (.ref i2)) (hTO:IsPair s.heap TO a b) (st1:S1 k s.heap) (st2:S2 k s.heap) (k1:k<n1) (k2:k<n2)
  (q: ∀ x y h' tk,P1 k x->P2 k y->IsZip h' z TI TO (rawInt s.heap.objs.size)->IsPair h' TO x y->S1 (k+1) h'->S2 (k+1) h'->IsPair h' s.heap.objs.size x y->
   (∀ c o,c≠z->c≠TO->c≠i1->c≠i2->s.heap.get? c=some o->h'.get? c=some o)->Q (.ref s.heap.objs.size) {s with heap:=h',toks:=tk}):
  wpAny (model prog w) A (Builtin.«zip.__next__» ⟨[.ref z],[]⟩) (λfin s'=> ∃ v,fin=.done (.ret v)/\Q v s') E s:=by
 refine (show wpAny _ _ (field (.ref z) 2 >>= _) _ _ _ from AA (Bp hz rfl (x:=.bool false) rfl ?_));refine (show wpAny _ _ (field (.ref z) 3 >>= _) _ _ _ from AA (Bp hz rfl (x:=.ref TI) rfl (AA (CC hTI rfl ?_))));refine (show wpAny _ _ (Builtin.SmallTypes.ownedTupleIsFree (.ref z) >>= _) _ _ _ from AA ?_);unfold Builtin.SmallTypes.ownedTupleIsFree;refine AA (Bp hz rfl (x:=.none) rfl (AB ?_));simp only [Db];refine AA (EU (AA (Bp hz rfl (x:=.ref TO) rfl (AA (BU hz (by simp) λg1 zz1 sb1=>?_)))));replace zz1:IsZip g1 z TI TO .ellipsis:=zz1;refine AA ?_;simp only [List.zipIdx_cons,List.zipIdx_nil,B0,Dz];refine AA (AA (Fj (show wpAny _ _ (Builtin.SmallTypes.nextOf (.ref i1) >>= _) _ _ _ from ?_)));refine AA (D1.item k _ _ _ k1 (D1.frame k s.heap g1 st1 λc hc o e=>sb1.extBut c o (λx=>D.z1 (x▸hc)) e) λx g2 tk2 hx s1' sb2=>AB ?_);have to2:IsPair g2 TO a b:=sb2.extBut _ _ D.o1 (sb1.extBut _ _ D.oz hTO);refine AA (CC to2 rfl (AA (wpAny_updateSeq_pair to2 λg3 to3 sb3=>?_)));replace to3:IsPair g3 TO x b:=to3;refine AA (FA (AB ?_));refine AA (AA (Fj (show wpAny _ _ (Builtin.SmallTypes.nextOf (.ref i2) >>= _) _ _ _ from ?_)));refine AA (D2.item k _ _ _ k2 (D2.frame k s.heap g3 st2 λc hc o e=>?_) λy g4 tk4 hy s2' sb4=>AB ?_)
 ·exact sb3.extBut c o (λx=>D.p2 (x▸hc)) (sb2.extBut c o (λx=>D.q2 (x▸hc)) (sb1.extBut c o (λx=>D.z2 (x▸hc)) e))
 have to4:IsPair g4 TO x b:=sb4.extBut _ _ D.o2 to3;refine AA (CC to4 rfl (AA (wpAny_updateSeq_pair to4 λg5 to5 sb5=>?_)));replace to5:IsPair g5 TO x y:=to5;refine AA (FA (AB (AB ?_)));refine AA (CC to5 rfl (AA (wpAny_newTuple ?_)));have sz:g5.objs.size=s.heap.objs.size:=by rw [sb5.1,sb4.1,sb3.1,sb2.1,sb1.1]
 have zz5:IsZip g5 z TI TO .ellipsis:=sb5.extBut _ _ D.oz.symm (sb4.extBut _ _ D.a2z.symm (sb3.extBut _ _ D.oz.symm (sb2.extBut _ _ D.a1z.symm zz1)));have kk5: ∀ c o,c≠z->c≠TO->c≠i1->c≠i2->s.heap.get? c=some o->g5.get? c=some o:=λc o c1 c2 c3 c4 e=>
  sb5.extBut c o c2 (sb4.extBut c o c4 (sb3.extBut c o c2 (sb2.extBut c o c3 (sb1.extBut c o c1 e))))
 have zlt:z<g5.objs.size:=AN zz5;refine (show wpAny _ _ (Builtin.SmallTypes.ownedTupleHandOut (.ref z) (.ref g5.objs.size) >>= _) _ _ _ from AA ?_);unfold Builtin.SmallTypes.ownedTupleHandOut;have zz6:IsZip (g5.push {cls:=.type "tuple",data:=.seq #[x,y]}) z TI TO .ellipsis:=AC _ zz5;refine AA (BU zz6 (by simp) λg7 zz7 sb7=>?_);replace zz7:IsZip g7 z TI TO (rawInt g5.objs.size):=zz7;refine BU zz7 (by simp) λg8 zz8 sb8=>?_;replace zz8:IsZip g8 z TI TO (rawInt g5.objs.size):=zz8;have up: ∀ c o,c≠z->g5.get? c=some o->g8.get? c=some o:=λc o c1 e=>sb8.extBut c o c1 (sb7.extBut c o c1 (AC _ e));have tt8:IsPair g8 g5.objs.size x y:=sb8.extBut _ _ (Cz zlt) (sb7.extBut _ _ (Cz zlt) (AU _ rfl));rw [sz]at zz8 tt8;refine AB ⟨_,rfl,(show Q (.ref g5.objs.size) _ from ?_)⟩;rw [sz];refine q x y g8 _ hx hy zz8 (up _ _ D.oz to5) ?_ ?_ tt8 λc o c1 c2 c3 c4 e=>up c o c1 (kk5 c o c1 c2 c3 c4 e)
 ·refine D1.frame (k+1) g2 g8 s1' λc hc o e=>up c o (λx=>D.z1 (x▸hc)) (sb5.extBut c o (λx=>D.p1 (x▸hc)) (sb4.extBut c o (λx=>D.q1 (x▸hc)) (sb3.extBut c o (λx=>D.p1 (x▸hc)) e)))
 ·exact D2.frame (k+1) g4 g8 s2' λc hc o e=>up c o (λx=>D.z2 (x▸hc)) (sb5.extBut c o (λx=>D.p2 (x▸hc)) e)
theorem mj {Q:Fin->Shared->Prop} (D1:Draws prog w A i1 f1 n1 P1 S1) (D:ZAp z TI TO i1 i2 f1 f2)
  (hz:IsZip s.heap z TI TO .none) (hTI:IsPair s.heap TI (.ref i1) (.ref i2)) (hTO:IsPair s.heap TO a b) (st1:S1 n1 s.heap)
  (q: ∀ h' e,(∀ c o,c≠z->c≠TO->c≠i1->c≠i2->s.heap.get? c=some o->h'.get? c=some o)->(∃ o,h'.get? e=some o/\o.cls=.type "StopIteration")->E (.ref e) {s with heap:=h'}):
  wpAny (model prog w) A (Builtin.«zip.__next__» ⟨[.ref z],[]⟩) Q E s:=by
 refine (show wpAny _ _ (field (.ref z) 2 >>= _) _ _ _ from AA (Bp hz rfl (x:=.bool false) rfl ?_));refine (show wpAny _ _ (field (.ref z) 3 >>= _) _ _ _ from AA (Bp hz rfl (x:=.ref TI) rfl (AA (CC hTI rfl ?_))));refine (show wpAny _ _ (Builtin.SmallTypes.ownedTupleIsFree (.ref z) >>= _) _ _ _ from AA ?_);unfold Builtin.SmallTypes.ownedTupleIsFree;refine AA (Bp hz rfl (x:=.none) rfl (AB ?_));simp only [Db];refine AA (EU (AA (Bp hz rfl (x:=.ref TO) rfl (AA (BU hz (by simp) λg1 zz1 sb1=>?_)))));replace zz1:IsZip g1 z TI TO .ellipsis:=zz1;refine AA ?_;simp only [List.zipIdx_cons,List.zipIdx_nil,B0,Dz];refine AA (AA (Fj (show wpAny _ _ (Builtin.SmallTypes.nextOf (.ref i1) >>= _) _ _ _ from ?_)));refine AA (D1.done _ _ _ (D1.frame n1 s.heap g1 st1 λc hc o e=>sb1.extBut c o (λx=>D.z1 (x▸hc)) e) λg2 e eb2 he=>?_);obtain ⟨oe,hoe,hce⟩:=he;have zz2:IsZip g2 z TI TO .ellipsis:=eb2 _ _ D.a1z.symm zz1;have ez:e≠z:=λx=>by subst x;rw [zz2]at hoe;cases hoe;simp at hce
 exact BU zz2 (by simp) λg3 _ sb3=>q g3 e (λc o c1 _ c3 _ x=>sb3.extBut c o c1 (eb2 c o c3 (sb1.extBut c o c1 x))) ⟨oe,sb3.extBut _ _ ez hoe,hce⟩
theorem next_zip {Q:Option Value->Shared->Prop} (D1:Draws prog w A.in1 i1 f1 n1 P1 S1) (D2:Draws prog w A.in1 i2 f2 n2 P2 S2) (D:ZAp z TI TO i1 i2 f1 f2)
  (hz:IsZip s.heap z TI TO .none) (hTI:IsPair s.heap TI (.ref i1) (.ref i2)) (hTO:IsPair s.heap TO a b) (st1:S1 k s.heap) (st2:S2 k s.heap) (k1:k<n1) (k2:k<n2)
  (q: ∀ x y h' tk,P1 k x->P2 k y->IsZip h' z TI TO (rawInt s.heap.objs.size)->IsPair h' TO x y->S1 (k+1) h'->S2 (k+1) h'->IsPair h' s.heap.objs.size x y->
   (∀ c o,c≠z->c≠TO->c≠i1->c≠i2->s.heap.get? c=some o->h'.get? c=some o)->Q (some (.ref s.heap.objs.size)) {s with heap:=h',toks:=tk}):
  wpAny (model prog w) A (pyNext (.ref z)) Q E s:=by
 have ty:s.TypeIs (.ref z) "zip":=⟨_,hz,rfl⟩;unfold pyNext;exact AA (Cf (Bn (name:=Str.ofString "__next__") ty Dr (Bi Dr ty PySem.F.entry_zip_next
  (sU D1 D2 D hz hTI hTO st1 st2 k1 k2 λx y h' tk a0 b0 a1 a2 a3 a4 a5 a6=>AB (q x y h' tk a0 b0 a1 a2 a3 a4 a5 a6)) (PySem.F.args_zip_next_1 _))))
theorem end_zip {Q:Option Value->Shared->Prop} (D1:Draws prog w A.in1 i1 f1 n1 P1 S1) (D:ZAp z TI TO i1 i2 f1 f2)
  (hz:IsZip s.heap z TI TO .none) (hTI:IsPair s.heap TI (.ref i1) (.ref i2)) (hTO:IsPair s.heap TO a b) (st1:S1 n1 s.heap)
  (q: ∀ h',(∀ c o,c≠z->c≠TO->c≠i1->c≠i2->s.heap.get? c=some o->h'.get? c=some o)->Q none {s with heap:=h'}):wpAny (model prog w) A (pyNext (.ref z)) Q E s:=by
 have ty:s.TypeIs (.ref z) "zip":=⟨_,hz,rfl⟩;unfold pyNext;refine AA (Cf (Bn (name:=Str.ofString "__next__") ty Dr (Bi Dr ty PySem.F.entry_zip_next
  (mj D1 D hz hTI hTO st1 λh' e kk he=>?_) (PySem.F.args_zip_next_1 _))))
 obtain ⟨o,ho,hc⟩:=he;exact AA (CP (T:="StopIteration") (b:=true) ⟨o,ho,hc⟩ EY (AB (q _ kk)))
end
section
variable {prog:Program} {w:World} {A:Around} {s:Shared} {E:Value->Shared->Prop}
noncomputable def tIt (l:Addr):Obj:={cls:=.type "tuple_iterator",data:=.fields #[.ref l,.int 0 0]}
end
end HT
namespace L2
open PySem PySem.Spec PyProof.Rows
noncomputable def Aa (c:Bool) (xs:List V):HO:=if c=true then .tup xs else .lst xs
theorem Inv.seqS {X:Cx} {pins:List (Addr×Obj)} {σ:St} {H:Hp} {s:Shared} {c:Bool} {a:Addr} {xs:List V} (I:Inv X pins σ H s) (h:H a=some (Aa c xs)): ∃ its:List Value,Vals xs its/\HT.SSeq c s.heap a its.toArray/\xs.length<=sizeLine:=by
 cases c with
 | true=>obtain ⟨its,r,p,z⟩:=I.tuple (SqT.of (K:=X.K) h);exact ⟨its,r,p,z⟩
 | false=>obtain ⟨its,r,p,z⟩:=I.list (SqL.of (K:=X.K) h);exact ⟨its,r,p.isList,z⟩
theorem fp5 {z TI TO i1 i2 b:Addr} (h:b∈[z,TI,TO,i1,i2]):b=z\/b=TI\/b=TO\/b=i1\/b=i2:=by simpa using h
structure qO (sc0:Scope) (N0:List Str) (scope:Scope) (x x2:Str) (ys:List Str) (fr:List Nat):Prop where
 kind:scope.kind=.function
 nocell: ∀ y∈scope.names,y.2≠ .cell
 loc: ∀ y∈scope.names,y.2=.local->scope.names.lookup y.1=some .local
 xl:(bu sc0 scope).lookup x=some .local
 xl2:(bu sc0 scope).lookup x2=some .local
 free: ∀ y∈scope.names,y.2=.free->sc0.names.lookup y.1=some .cell
 nd:(x::x2::ys).Nodup
 len:ys.length=fr.length
 sl: ∀ q∈ys.zip fr,N0[q.2]? =some q.1/\sc0.names.lookup q.1=some .cell/\(bu sc0 scope).lookup q.1=some .cell
noncomputable def cO (X:Cx) (x x2:Str) (ys:List Str) (scope:Scope) (C:Addr) (s:Shared) (H:Hp) (ex:List Addr):Cx:=
 {X with N:=x::x2::ys,s₀:=s,H₀:=H,env:=compEnvC scope (bO X.env.cells scope.names) C X.env,outer:=X.stack,stack:=X.stack,ex:=ex,fn:=λ_=>false,pn:=[],xe:=λ_ _=>False}
def pR (fr:List Nat) (te:TE) (σ:St) (J:It) (H1:Hp) (Q:VK):Prop:=
 ∀ p,H1 p=none-> ∃ W:Nat->Nat->List V->Hp->Prop,(∃ m,W 0 m [] (upd H1 p (.lst [])))/\ ∀ i m ys H,W i m ys H->H p=some (.lst ys)/\
  ((J.stop i H/\Q (.ref p) H)\/(J.go i H/\ys.length<sizeLine/\ ∀ x H',J.yld i H x H'-> ∃ T v1 v2,x=.ref T/\H' T=some (.tup [v1,v2])/\te (some v1::some v2::bH fr σ) H' λv H2=>
   H2 p=some (.lst ys)/\ ∃ m',m'<m/\W (i+1) m' (ys++[v]) (upd H2 p (.lst (ys++[v])))))
def tF (wi:TI) (fr:List Nat) (te:TE):TE:=λσ H Q=>wi σ H λJ H1=>pR fr te σ J H1 Q
section
variable {X:Cx} {x x2:Str} {px px2 tpos pos fpos:Pos} {kk:Nat} {iter elt:Expr} {scope sc0:Scope} {N0 ys:List Str} {fr:List Nat} {wi:TI} {te:TE} {pins:List (Addr×Obj)} {σ:St} {H:Hp} {s:Shared}
theorem pJ {use:Option (Value->Sem Unit)} {Qv:Value->Shared->Prop} {Q:VK} (hcalm:X.calm=true) (hi:PI X (.Tuple [.Name x px,.Name x2 px2] kk tpos) iter wi) (hsc:X.env.scope=sc0) (hN:X.N=N0) (ok:qO sc0 N0 scope x x2 ys fr)
  (hE: ∀ C s H ex,PE (cO X x x2 ys scope C s H ex) elt te) (I:Inv X pins σ H s) (h:tF wi fr te σ H Q) (hs: ∀ v,foldedSetIterable iter X.env v=pure v)
  (fin: ∀ (p C:Addr) (H':Hp) (s':Shared) (m:Str->Option Value),Inv X pins σ H' s'->s'.heap.Ns C m->H' C=none->C≠X.env.locals->X.s₀.heap.objs.size<=C->(∀ y c,X.env.cells.lookup y=some c->c≠C)->(∀ q∈X.pn++pins,q.1≠C)->Q (.ref p) H'->
   compPost (model X.prog X.w) X.A X.xe use Qv (.ref p) C (.ok .next) s'):
  wpAny (model X.prog X.w) X.A (comprehension (.ListComp elt [⟨.Tuple [.Name x px,.Name x2 px2] kk tpos,iter,[],0⟩] scope pos) scope X.env fpos (newList []) false (eval iter X.env) use) Qv X.xe s:=by
 subst hsc hN;have hkof: ∀ y,X.env.kindOf y=X.env.scope.names.lookup y:=λy=>rfl;have hfree: ∀ y∈scope.names,y.2=.free-> ∃ c,X.env.cells.lookup y.1=some c:=λy hy e=>I.ok.has y.1 (.inl (ok.free y hy e));refine DS (gs:=[]) rfl hs (cX hfree) ok.kind ok.loc (thn (hi pins s σ H _ I h) λv s1 h1=>thn h1 λitv s2 h2=>?_);obtain ⟨it,fp,tn,J,H2,e,I2,T,st2,f2,hp⟩:=h2;subst e;refine A9 (DB ok.nocell (by intro y hy;simp at hy) (λh₁ hns₁ hsb₁=>?_) ok.kind);dsimp only at hns₁ hsb₁ ⊢;have I3:Inv X pins σ (upd H2 s2.heap.objs.size (.lst [])) {s2 with heap:=s2.heap.push {cls:=.type "list",data:=.seq ([]:List Value).toArray}}:=
  I2.lnew (its:=[]) (ys:=[]) (t':=s2.toks) .nil (A6 _)
 have hf2: ∀ b∈fp,b<s2.heap.objs.size:=λb hb=>by
  obtain ⟨o,e,_⟩:=T.obj _ _ st2 b hb;exact AN e
 have hps:s2.heap.objs.size< (s2.heap.push {cls:=.type "list",data:=.seq ([]:List Value).toArray}).objs.size:=by rw [B8];exact Cw _
 have W0:=hp s2.heap.objs.size I2.fresh;have st3:tn 0 (s2.heap.push {cls:=.type "list",data:=.seq ([]:List Value).toArray}):=T.keep _ _ _ st2 λb hb o e=>AC _ e;generalize hpp:s2.heap.objs.size=p at I3 W0 hf2 hps ⊢;generalize hh3:(s2.heap.push {cls:=.type "list",data:=.seq ([]:List Value).toArray})=h3 at I3 hns₁ hsb₁ hps st3 ⊢;generalize hH3:upd H2 p (.lst [])=H3 at I3 W0;have hold: ∀ b o,h3.get? b=some o->h₁.get? b=some o:=λb o e=>hsb₁.extBut b o (Bf (AN e)) (AC _ e);have fH3: ∀ b∈fp,H3 b=none:=λb hb=>by
  rw [<- hH3,ah (Bf (hf2 b hb))];exact (f2 b hb).1
 have hclos: ∀ y c,(bO X.env.cells scope.names).lookup y=some c->X.env.cells.lookup y=some c:=λy c e=>bN e;have hcell3: ∀ y c,X.env.cells.lookup y=some c->c<h3.objs.size:=λy c e=>by
  obtain ⟨v,o,ho,_⟩:=I3.cell y c e;exact AN ho
 have hlt3:X.env.locals<h3.objs.size:=I3.lt;have Yok:(cO X x x2 ys scope h3.objs.size {s2 with heap:=h3} H3 fp).Ok:={
  mod:=I.ok.mod
  kind:=ok.kind
  glob:=I.ok.glob
  blt:=I.ok.blt
  above:=AJ _
  inj:=λy z c e1 e2=>I.ok.inj y z c (hclos _ _ e1) (hclos _ _ e2)
  has:=λy hk=>by
   have hfr:(y,NameKind.free)∈scope.names:=by
    have hm: ∃ k,(bu X.env.scope scope).lookup y=some k/\(k=.cell\/k=.free):=by
     rcases hk with hk | hk
     ·exact ⟨_,hk,.inl rfl⟩
     ·exact ⟨_,hk,.inr rfl⟩
    obtain ⟨k,hk,hkk⟩:=hm;have hmem:=mem_of_lookup hk;unfold bu at hmem;obtain ⟨⟨n,k0⟩,hn,en⟩:=AK.mp hmem;dsimp only at en;split at en
    ·rename_i hc;simp only [Bb]at hc;have hk0:k0=.free:=by simpa using hc.1.1
     cases en;rw [<- hk0];exact hn
    ·cases en;rcases hkk with e | e
     ·exact absurd e (ok.nocell _ hn)
     ·rw [<- e];exact hn
   obtain ⟨c,hc⟩:=hfree _ hfr rfl;exact ⟨c,cE hc hfr⟩
  cab:=λy c hf _=>by cases hf
  hd:=I.ok.hd
  frames:=I.ok.frames
  stk:=.inl rfl
  exf:=λb hb=>⟨λe=>absurd (hf2 b hb) (by rw [e];exact C7.mpr (Bj hps)),λy c e=>(f2 b hb).2.2.2.2.1 y c (hclos _ _ e)⟩
  bs:=λb o e=>⟨(I3.bs b o e).1,(I3.bs b o e).2⟩
  bsz:=Bm I.ok.bsz I3.sz
  noex:=λb o e hb=>by
   rcases (f2 b hb).2.2.2.1 with q | q
   ·exact I.ok.noex b o e q
   ·have h1:b<X.base.objs.size:=AN e;exact absurd h1 (C7.mpr (Bm I.ok.bsz q))
  exfs:=λb hb hm=>by
   rcases AY.mp (I3.stkSub b hm)with q | q
   ·exact (f2 b hb).2.1 q
   ·exact (f2 b hb).2.2.1 q
  funs:=I3.stack
  frf:=I3.stkFree}
 have IY:Inv (cO X x x2 ys scope h3.objs.size {s2 with heap:=h3} H3 fp) [] (none::none::bH fr σ) H3 {s2 with heap:=h₁,toks:=s2.toks+ ([]:List (Str×Value)).length}:={
  ok:=Yok
  os:=rfl
  bare:=I2.bare
  base:=Un.kept hold
  loc:=by
   refine ⟨_,hns₁,λi y v hy hv hvis=>?_⟩
   match i,hy,hv with
   | 0,_,hv=>cases hv
   | 1,_,hv=>cases hv
   | j+2,hy,hv=>
    have hy':ys[j]? =some y:=hy;have hv':(bH fr σ)[j]? =some (some v):=hv;unfold bH at hv';rw [AS]at hv';obtain ⟨i0,hi0,hv0⟩:=Bw.mp hv';have hz:(y,i0)∈ys.zip fr:=by
     refine Cr.mpr ⟨j,?_⟩;rw [Cp];exact ⟨hy',hi0⟩
    obtain ⟨hn,hk,hk2⟩:=ok.sl _ hz;have hσ:σ[i0]? =some (some v):=by
     cases e:σ[i0]? with
     | none=>rw [e]at hv0;cases hv0
     | some o=>
      rw [e]at hv0;rw [show o=some v from hv0]
    obtain ⟨m,hm,hl⟩:=I3.loc;obtain ⟨u,ru,lk⟩:=hl i0 y v hn hσ (.inr (.inl hk));refine ⟨u,ru,.inr ⟨.inl hk2,?_⟩⟩;rcases lk with ⟨a,_⟩ | ⟨_,c,hc,hcell⟩
    ·have a':X.env.scope.names.lookup y=some .local:=a;have hk':X.env.scope.names.lookup y=some .cell:=hk;rw [hk']at a';cases a'
    ·have hfr:(y,NameKind.free)∈scope.names:=by
      have hmem:=mem_of_lookup hk2;unfold bu at hmem;obtain ⟨⟨n,k0⟩,hn0,en⟩:=AK.mp hmem;dsimp only at en;split at en
      ·rename_i hc0;simp only [Bb]at hc0;have hk0:k0=.free:=by simpa using hc0.1.1
       cases en;rw [<- hk0];exact hn0
      ·cases en;exact absurd rfl (ok.nocell _ hn0)
     exact ⟨c,cE hc hfr,hcell.keeps hold⟩
  cell:=λy c e=>by
   obtain ⟨v,hv⟩:=I3.cell y c (hclos _ _ e);exact ⟨v,hv.keeps hold⟩
  free:=I3.fresh
  freeC:=λy c e=>I3.freeC y c (hclos _ _ e)
  pin:=λq hq=>by cases hq
  hok:=I3.hok.kept hold
  len:=by
   show (none::none::bH fr σ).length=(x::x2::ys).length;rw [AM,AM,AM,AM,ok.len];unfold bH;rw [AD]}
 have hxl:(cO X x x2 ys scope h3.objs.size {s2 with heap:=h3} H3 fp).env.scope.names.lookup x=some .local:=ok.xl;have hxl2:(cO X x x2 ys scope h3.objs.size {s2 with heap:=h3} H3 fp).env.scope.names.lookup x2=some .local:=ok.xl2;have pgx:PG (cO X x x2 ys scope h3.objs.size {s2 with heap:=h3} H3 fp) (.Tuple [.Name x px,.Name x2 px2] kk tpos) (yr X.K 2 (qt (dF 0) (qt (dF 1) zF))):=
  cT hcalm (aM (eR (i:=0) ok.nd rfl (.inl hxl) (.inr hxl)) (aM (eR (i:=1) ok.nd rfl (.inl hxl2) (.inr hxl2)) ce))
 have pel:=hE h3.objs.size {s2 with heap:=h3} H3 fp;obtain ⟨W,⟨m0,w0⟩,turn⟩:=W0;have stat: ∀ {H':Hp},(∀ b∈fp,H' b=none)-> ∀ b∈fp,jP (cO X x x2 ys scope h3.objs.size {s2 with heap:=h3} H3 fp) [] H' b:=λhn b hb=>
  ⟨hn b hb,(Yok.exf b hb).1,Yok.exfs b hb,.inl hb,(Yok.exf b hb).2,λq hq=>by cases hq⟩
 have loop:codeAny (model X.prog X.w) X.A (.compLoop (.ListComp elt [⟨.Tuple [.Name x px,.Name x2 px2] kk tpos,iter,[],0⟩] scope pos) 0 (.ref it) (.ref p) (compEnvC scope (bO X.env.cells scope.names) h3.objs.size X.env))
   (compPost (model X.prog X.w) X.A X.xe use Qv (.ref p) h3.objs.size) {s2 with heap:=h₁,toks:=s2.toks+ ([]:List (Str×Value)).length}:=by
  refine jW (λn s'=> ∃ i zs v0 w0 H',Inv (cO X x x2 ys scope h3.objs.size {s2 with heap:=h3} H3 fp) [] (v0::w0::bH fr σ) H' s'/\tn i s'.heap/\(∀ b∈fp,H' b=none)/\W i n zs H') ?_ m0
   ⟨0,[],none,none,H3,IY,T.keep _ _ _ st3 λb hb o e=>hold b o e,fH3,w0⟩
  rintro n s5 ⟨i,zs,v0,wv0,H5,I5,st5,fr5,w5⟩;obtain ⟨hacc,turn5⟩:=turn i n zs H5 w5;rcases turn5 with ⟨stop,qn⟩ | ⟨go,hlen,step⟩
  ·refine thn (T.done (cO X x x2 ys scope h3.objs.size {s2 with heap:=h3} H3 fp) rfl rfl rfl hcalm i [] s5 _ H5 _ I5 (stat fr5) st5 stop) λr s6 ⟨hr,I6⟩=>?_;subst hr;obtain ⟨m6,n6,_⟩:=I6.loc;refine fin p h3.objs.size H5 s6 m6 (I3.call' I6.os I6.base I6.hok I6.bare λb hb=>⟨(f2 b hb).2.2.2.1,(f2 b hb).2.1,(f2 b hb).2.2.2.2.1,(f2 b hb).2.2.2.2.2⟩) n6 I6.free (Cz hlt3) I3.sz (λy c e=>Bf (hcell3 y c e)) (λq hq=>?_) qn;exact Bf (AN (I3.pin q hq).1)
  ·refine thn (T.item (cO X x x2 ys scope h3.objs.size {s2 with heap:=h3} H3 fp) rfl rfl rfl hcalm i [] s5 _ H5 _ I5 (stat fr5) st5 go) λr s6 ⟨u,hr,h6⟩=>?_;subst hr;refine thn h6 λ_ s7 ⟨xv,H7,I7,r7,y7,st7,fr7⟩=>?_;have I7':=I7.pinned (stat fr7) (T.obj _ _ st7);obtain ⟨T7,v1,v2,eT,hT7,step7⟩:=step xv H7 y7;refine thn (pgx _ s7 _ H7 xv u (λσ' H'=>σ'=some v1::some v2::bH fr σ/\H'=H7) I7' r7 ⟨T7,[v1,v2],eT,SqT.of hT7,rfl,v1,[v2],rfl,v2,[],rfl,rfl,rfl,rfl⟩) λ_ s8 ⟨σ8,H8,I8,e8,e8'⟩=>?_;subst e8 e8';refine thn (pel _ s8 _ H8 _ I8 step7) λyv s9 ⟨v9,H9,I9,r9,hp9,m',hm',w9⟩=>?_;refine thn (bp _ s9 _ H9 (.ref p) [v9] (.ref p) [yv] (λ_ H'=>H'=upd H9 p (.lst (zs++[v9]))) I9 rfl (.cons r9 .nil) ⟨p,zs,v9,rfl,rfl,hp9,hlen,rfl⟩) λ_ s10 ⟨_,H10,I10,_,e10⟩=>?_;subst e10;refine ⟨m',hm',i+1,zs++[v9],some v1,some v2,_,I10.unpinned,T.keep _ _ _ st7 λb hb o e=>(I10.pin (b,o) (AV _ (AV _ (bB hb e)))).1,λb hb=>?_,w9⟩;obtain ⟨o,e,d⟩:=T.obj _ _ st7 b hb;exact (I10.pin (b,o) (AV _ (AV _ (bB hb e)))).2.1
 exact Ek loop (T.self X.A 0 _ _ _ (T.keep _ _ _ st3 λb hb o e=>hold b o e) loop)
end
section
variable {prog:Program} {w:World} {A:Around} {R:Result->Shared->Prop} {s:Shared}
theorem jJ {elt target iter cnd:Expr} {scope:Scope} {pos:Pos} {it acc:Value} {env:Env} (I:Nat->Shared->Prop)
  (turn: ∀ n s,I n s->wpAny (model prog w) A (pyNext it) (λr s₁=>match r with
   | none=>R (.ok .next) s₁
   | some v=>wpAny (model prog w) A (letOwnedTupleGo target it v) (λ_ s₁'=>wpAny (model prog w) A (assign target env v) (λ_ s₂=>wpAny (model prog w) A (isTrue cnd env (eval cnd env)) (λok s₃=>
     if ok=true then wpAny (model prog w) A (eval elt env) (λx s₄=>
      wpAny (model prog w) A (call (.builtin "list.append") [acc,x]) (λ_ s₅=> ∃ m,m<n/\I m s₅) (λ_ _=>False) s₄) (λ_ _=>False) s₃
     else ∃ m,m<n/\I m s₃) (λ_ _=>False) s₂) (λ_ _=>False) s₁') (λ_ _=>False) s₁) (λ_ _=>False) s)
  (n:Nat) (h:I n s):codeAny (model prog w) A (.compLoop (.ListComp elt [⟨target,iter,[cnd],0⟩] scope pos) 0 it acc env) R s:=by
 refine codeAny_loop rfl I (λn s hI=>?_) n h;show wpAny _ _ ((compTurn (.ListComp elt [⟨target,iter,[cnd],0⟩] scope pos) 0 it acc env).onRaise (λx=>do noteFrame x env;theTreesLotGoes x)) _ _ s;refine wpAny_noted ?_;rw [compTurn_list];refine wpAny_noRaise ?_;refine AA (CO (AA (BS (turn n s hI) (λr s₁ h₁=>?_) λ_ _ h'=>h')));cases r with
 | none=>exact AB h₁
 | some v=>
  refine AA (BS h₁ (λ_ s₁' h₁'=>?_) λ_ _ h'=>h');refine AA (BS h₁' (λ_ s₂ h₂=>AA (BS (wpAny_tests_one h₂) (λok s₃ h₃=>?_) λ_ _ h'=>h')) λ_ _ h'=>h');cases ok with
  | false=>exact AB ⟨rfl,h₃⟩
  | true=>
   exact AA (AA (BS h₃ (λx s₄ h₄=>AA (BS h₄ (λ_ s₅ h₅=>AB (AB ⟨rfl,h₅⟩)) λ_ _ h'=>h')) λ_ _ h'=>h'))
end
def kU (fr:List Nat) (tc:TT) (te:TE) (σ:St) (J:It) (H1:Hp) (Q:VK):Prop:=
 ∀ p,H1 p=none-> ∃ W:Nat->Nat->List V->Hp->Prop,(∃ m,W 0 m [] (upd H1 p (.lst [])))/\ ∀ i m ys H,W i m ys H->H p=some (.lst ys)/\
  ((J.stop i H/\Q (.ref p) H)\/(J.go i H/\ys.length<sizeLine/\ ∀ x H',J.yld i H x H'->tc (some x::bH fr σ) H' λb H2=>if b=true then te (some x::bH fr σ) H2 λv H3=>
   H3 p=some (.lst ys)/\ ∃ m',m'<m/\W (i+1) m' (ys++[v]) (upd H3 p (.lst (ys++[v])))else ∃ m',m'<m/\W (i+1) m' ys H2))
def nW (wi:TI) (fr:List Nat) (tc:TT) (te:TE):TE:=λσ H Q=>wi σ H λJ H1=>kU fr tc te σ J H1 Q
section
variable {X:Cx} {x:Str} {px pos fpos:Pos} {iter elt cnd:Expr} {scope sc0:Scope} {N0 ys:List Str} {fr:List Nat} {wi:TI} {tc:TT} {te:TE} {pins:List (Addr×Obj)} {σ:St} {H:Hp} {s:Shared}
theorem jH {use:Option (Value->Sem Unit)} {Qv:Value->Shared->Prop} {Q:VK} (hcalm:X.calm=true) (hi:PI X (.Name x px) iter wi) (hsc:X.env.scope=sc0) (hN:X.N=N0) (ok:eY sc0 N0 scope x ys fr)
  (hT: ∀ C s H ex,PT (bG X x ys scope C s H ex) cnd tc) (hE: ∀ C s H ex,PE (bG X x ys scope C s H ex) elt te) (I:Inv X pins σ H s) (h:nW wi fr tc te σ H Q) (hs: ∀ v,foldedSetIterable iter X.env v=pure v)
  (fin: ∀ (p C:Addr) (H':Hp) (s':Shared) (m:Str->Option Value),Inv X pins σ H' s'->s'.heap.Ns C m->H' C=none->C≠X.env.locals->X.s₀.heap.objs.size<=C->(∀ y c,X.env.cells.lookup y=some c->c≠C)->(∀ q∈X.pn++pins,q.1≠C)->Q (.ref p) H'->
   compPost (model X.prog X.w) X.A X.xe use Qv (.ref p) C (.ok .next) s'):
  wpAny (model X.prog X.w) X.A (comprehension (.ListComp elt [⟨.Name x px,iter,[cnd],0⟩] scope pos) scope X.env fpos (newList []) false (eval iter X.env) use) Qv X.xe s:=by
 subst hsc hN;have hkof: ∀ y,X.env.kindOf y=X.env.scope.names.lookup y:=λy=>rfl;have hfree: ∀ y∈scope.names,y.2=.free-> ∃ c,X.env.cells.lookup y.1=some c:=λy hy e=>I.ok.has y.1 (.inl (ok.free y hy e));refine DS (gs:=[]) rfl hs (cX hfree) ok.kind ok.loc (thn (hi pins s σ H _ I h) λv s1 h1=>thn h1 λitv s2 h2=>?_);obtain ⟨it,fp,tn,J,H2,e,I2,T,st2,f2,hp⟩:=h2;subst e;refine A9 (DB ok.nocell (by intro y hy;simp at hy) (λh₁ hns₁ hsb₁=>?_) ok.kind);dsimp only at hns₁ hsb₁ ⊢;have I3:Inv X pins σ (upd H2 s2.heap.objs.size (.lst [])) {s2 with heap:=s2.heap.push {cls:=.type "list",data:=.seq ([]:List Value).toArray}}:=
  I2.lnew (its:=[]) (ys:=[]) (t':=s2.toks) .nil (A6 _)
 have hf2: ∀ b∈fp,b<s2.heap.objs.size:=λb hb=>by
  obtain ⟨o,e,_⟩:=T.obj _ _ st2 b hb;exact AN e
 have hps:s2.heap.objs.size< (s2.heap.push {cls:=.type "list",data:=.seq ([]:List Value).toArray}).objs.size:=by rw [B8];exact Cw _
 have W0:=hp s2.heap.objs.size I2.fresh;have st3:tn 0 (s2.heap.push {cls:=.type "list",data:=.seq ([]:List Value).toArray}):=T.keep _ _ _ st2 λb hb o e=>AC _ e;generalize hpp:s2.heap.objs.size=p at I3 W0 hf2 hps ⊢;generalize hh3:(s2.heap.push {cls:=.type "list",data:=.seq ([]:List Value).toArray})=h3 at I3 hns₁ hsb₁ hps st3 ⊢;generalize hH3:upd H2 p (.lst [])=H3 at I3 W0;have hold: ∀ b o,h3.get? b=some o->h₁.get? b=some o:=λb o e=>hsb₁.extBut b o (Bf (AN e)) (AC _ e);have fH3: ∀ b∈fp,H3 b=none:=λb hb=>by
  rw [<- hH3,ah (Bf (hf2 b hb))];exact (f2 b hb).1
 have hclos: ∀ y c,(bO X.env.cells scope.names).lookup y=some c->X.env.cells.lookup y=some c:=λy c e=>bN e;have hcell3: ∀ y c,X.env.cells.lookup y=some c->c<h3.objs.size:=λy c e=>by
  obtain ⟨v,o,ho,_⟩:=I3.cell y c e;exact AN ho
 have hlt3:X.env.locals<h3.objs.size:=I3.lt;have Yok:(bG X x ys scope h3.objs.size {s2 with heap:=h3} H3 fp).Ok:={
  mod:=I.ok.mod
  kind:=ok.kind
  glob:=I.ok.glob
  blt:=I.ok.blt
  above:=AJ _
  inj:=λy z c e1 e2=>I.ok.inj y z c (hclos _ _ e1) (hclos _ _ e2)
  has:=λy hk=>by
   have hfr:(y,NameKind.free)∈scope.names:=by
    have hm: ∃ k,(bu X.env.scope scope).lookup y=some k/\(k=.cell\/k=.free):=by
     rcases hk with hk | hk
     ·exact ⟨_,hk,.inl rfl⟩
     ·exact ⟨_,hk,.inr rfl⟩
    obtain ⟨k,hk,hkk⟩:=hm;have hmem:=mem_of_lookup hk;unfold bu at hmem;obtain ⟨⟨n,k0⟩,hn,en⟩:=AK.mp hmem;dsimp only at en;split at en
    ·rename_i hc;simp only [Bb]at hc;have hk0:k0=.free:=by simpa using hc.1.1
     cases en;rw [<- hk0];exact hn
    ·cases en;rcases hkk with e | e
     ·exact absurd e (ok.nocell _ hn)
     ·rw [<- e];exact hn
   obtain ⟨c,hc⟩:=hfree _ hfr rfl;exact ⟨c,cE hc hfr⟩
  cab:=λy c hf _=>by cases hf
  hd:=I.ok.hd
  frames:=I.ok.frames
  stk:=.inl rfl
  exf:=λb hb=>⟨λe=>absurd (hf2 b hb) (by rw [e];exact C7.mpr (Bj hps)),λy c e=>(f2 b hb).2.2.2.2.1 y c (hclos _ _ e)⟩
  bs:=λb o e=>⟨(I3.bs b o e).1,(I3.bs b o e).2⟩
  bsz:=Bm I.ok.bsz I3.sz
  noex:=λb o e hb=>by
   rcases (f2 b hb).2.2.2.1 with q | q
   ·exact I.ok.noex b o e q
   ·have h1:b<X.base.objs.size:=AN e;exact absurd h1 (C7.mpr (Bm I.ok.bsz q))
  exfs:=λb hb hm=>by
   rcases AY.mp (I3.stkSub b hm)with q | q
   ·exact (f2 b hb).2.1 q
   ·exact (f2 b hb).2.2.1 q
  funs:=I3.stack
  frf:=I3.stkFree}
 have IY:Inv (bG X x ys scope h3.objs.size {s2 with heap:=h3} H3 fp) [] (none::bH fr σ) H3 {s2 with heap:=h₁,toks:=s2.toks+ ([]:List (Str×Value)).length}:={
  ok:=Yok
  os:=rfl
  bare:=I2.bare
  base:=Un.kept hold
  loc:=by
   refine ⟨_,hns₁,λi y v hy hv hvis=>?_⟩;cases i with
   | zero=>cases hv
   | succ j=>
    have hy':ys[j]? =some y:=hy;have hv':(bH fr σ)[j]? =some (some v):=hv;unfold bH at hv';rw [AS]at hv';obtain ⟨i0,hi0,hv0⟩:=Bw.mp hv';have hz:(y,i0)∈ys.zip fr:=by
     refine Cr.mpr ⟨j,?_⟩;rw [Cp];exact ⟨hy',hi0⟩
    obtain ⟨hn,hk,hk2⟩:=ok.sl _ hz;have hσ:σ[i0]? =some (some v):=by
     cases e:σ[i0]? with
     | none=>rw [e]at hv0;cases hv0
     | some o=>
      rw [e]at hv0;rw [show o=some v from hv0]
    obtain ⟨m,hm,hl⟩:=I3.loc;obtain ⟨u,ru,lk⟩:=hl i0 y v hn hσ (.inr (.inl hk));refine ⟨u,ru,.inr ⟨.inl hk2,?_⟩⟩;rcases lk with ⟨a,_⟩ | ⟨_,c,hc,hcell⟩
    ·have a':X.env.scope.names.lookup y=some .local:=a;have hk':X.env.scope.names.lookup y=some .cell:=hk;rw [hk']at a';cases a'
    ·have hfr:(y,NameKind.free)∈scope.names:=by
      have hmem:=mem_of_lookup hk2;unfold bu at hmem;obtain ⟨⟨n,k0⟩,hn0,en⟩:=AK.mp hmem;dsimp only at en;split at en
      ·rename_i hc0;simp only [Bb]at hc0;have hk0:k0=.free:=by simpa using hc0.1.1
       cases en;rw [<- hk0];exact hn0
      ·cases en;exact absurd rfl (ok.nocell _ hn0)
     exact ⟨c,cE hc hfr,hcell.keeps hold⟩
  cell:=λy c e=>by
   obtain ⟨v,hv⟩:=I3.cell y c (hclos _ _ e);exact ⟨v,hv.keeps hold⟩
  free:=I3.fresh
  freeC:=λy c e=>I3.freeC y c (hclos _ _ e)
  pin:=λq hq=>by cases hq
  hok:=I3.hok.kept hold
  len:=by
   show (none::bH fr σ).length=(x::ys).length;rw [AM,AM,ok.len];unfold bH;rw [AD]}
 have hxl:(bG X x ys scope h3.objs.size {s2 with heap:=h3} H3 fp).env.scope.names.lookup x=some .local:=ok.xl;have pgx:PG (bG X x ys scope h3.objs.size {s2 with heap:=h3} H3 fp) (.Name x px) (dF 0):=eR (i:=0) ok.nd rfl (.inl hxl) (.inr hxl);have pel:=hE h3.objs.size {s2 with heap:=h3} H3 fp;have ptl:=hT h3.objs.size {s2 with heap:=h3} H3 fp;obtain ⟨W,⟨m0,w0⟩,turn⟩:=W0;have stat: ∀ {H':Hp},(∀ b∈fp,H' b=none)-> ∀ b∈fp,jP (bG X x ys scope h3.objs.size {s2 with heap:=h3} H3 fp) [] H' b:=λhn b hb=>
  ⟨hn b hb,(Yok.exf b hb).1,Yok.exfs b hb,.inl hb,(Yok.exf b hb).2,λq hq=>by cases hq⟩
 have loop:codeAny (model X.prog X.w) X.A (.compLoop (.ListComp elt [⟨.Name x px,iter,[cnd],0⟩] scope pos) 0 (.ref it) (.ref p) (compEnvC scope (bO X.env.cells scope.names) h3.objs.size X.env))
   (compPost (model X.prog X.w) X.A X.xe use Qv (.ref p) h3.objs.size) {s2 with heap:=h₁,toks:=s2.toks+ ([]:List (Str×Value)).length}:=by
  refine jJ (λn s'=> ∃ i zs v0 H',Inv (bG X x ys scope h3.objs.size {s2 with heap:=h3} H3 fp) [] (v0::bH fr σ) H' s'/\tn i s'.heap/\(∀ b∈fp,H' b=none)/\W i n zs H') ?_ m0
   ⟨0,[],none,H3,IY,T.keep _ _ _ st3 λb hb o e=>hold b o e,fH3,w0⟩
  rintro n s5 ⟨i,zs,v0,H5,I5,st5,fr5,w5⟩;obtain ⟨hacc,turn5⟩:=turn i n zs H5 w5;rcases turn5 with ⟨stop,qn⟩ | ⟨go,hlen,step⟩
  ·refine thn (T.done (bG X x ys scope h3.objs.size {s2 with heap:=h3} H3 fp) rfl rfl rfl hcalm i [] s5 _ H5 _ I5 (stat fr5) st5 stop) λr s6 ⟨hr,I6⟩=>?_;subst hr;obtain ⟨m6,n6,_⟩:=I6.loc;refine fin p h3.objs.size H5 s6 m6 (I3.call' I6.os I6.base I6.hok I6.bare λb hb=>⟨(f2 b hb).2.2.2.1,(f2 b hb).2.1,(f2 b hb).2.2.2.2.1,(f2 b hb).2.2.2.2.2⟩) n6 I6.free (Cz hlt3) I3.sz (λy c e=>Bf (hcell3 y c e)) (λq hq=>?_) qn;exact Bf (AN (I3.pin q hq).1)
  ·refine thn (T.item (bG X x ys scope h3.objs.size {s2 with heap:=h3} H3 fp) rfl rfl rfl hcalm i [] s5 _ H5 _ I5 (stat fr5) st5 go) λr s6 ⟨u,hr,h6⟩=>?_;subst hr;refine thn h6 λ_ s7 ⟨xv,H7,I7,r7,y7,st7,fr7⟩=>?_;have I7':=I7.pinned (stat fr7) (T.obj _ _ st7);refine thn (pgx _ s7 _ H7 xv u (λσ' H'=>σ'=some xv::bH fr σ/\H'=H7) I7' r7 ⟨rfl,rfl⟩) λ_ s8 ⟨σ8,H8,I8,e8,e8'⟩=>?_;subst e8 e8';refine thn (ptl _ s8 _ H8 _ I8 (step xv H8 y7)) λbb s8' ⟨H8',I8',hb⟩=>?_;cases bb with
   | false=>
    obtain ⟨m',hm',w9⟩:=hb;refine ⟨m',hm',i+1,zs,some xv,_,I8'.unpinned,T.keep _ _ _ st7 λb hb o e=>(I8'.pin (b,o) (AV _ (AV _ (bB hb e)))).1,λb hb=>?_,w9⟩;obtain ⟨o,e,d⟩:=T.obj _ _ st7 b hb;exact (I8'.pin (b,o) (AV _ (AV _ (bB hb e)))).2.1
   | true=>
   refine thn (pel _ s8' _ H8' _ I8' hb) λyv s9 ⟨v9,H9,I9,r9,hp9,m',hm',w9⟩=>?_;refine thn (bp _ s9 _ H9 (.ref p) [v9] (.ref p) [yv] (λ_ H'=>H'=upd H9 p (.lst (zs++[v9]))) I9 rfl (.cons r9 .nil) ⟨p,zs,v9,rfl,rfl,hp9,hlen,rfl⟩) λ_ s10 ⟨_,H10,I10,_,e10⟩=>?_;subst e10;refine ⟨m',hm',i+1,zs++[v9],some xv,_,I10.unpinned,T.keep _ _ _ st7 λb hb o e=>(I10.pin (b,o) (AV _ (AV _ (bB hb e)))).1,λb hb=>?_,w9⟩;obtain ⟨o,e,d⟩:=T.obj _ _ st7 b hb;exact (I10.pin (b,o) (AV _ (AV _ (bB hb e)))).2.1
 exact Ek loop (T.self X.A 0 _ _ _ (T.keep _ _ _ st3 λb hb o e=>hold b o e) loop)
theorem ut (hcalm:X.calm=true) (hi:PI X (.Name x px) iter wi) (hsc:X.env.scope=sc0) (hN:X.N=N0) (ok:eY sc0 N0 scope x ys fr)
  (hT: ∀ C s H ex,PT (bG X x ys scope C s H ex) cnd tc) (hE: ∀ C s H ex,PE (bG X x ys scope C s H ex) elt te) (hs: ∀ v,foldedSetIterable iter X.env v=pure v:=by intro _;rfl):
  PE X (.ListComp elt [⟨.Name x px,iter,[cnd],0⟩] scope pos) (nW wi fr tc te):=by
 intro pins s σ H Q I h;rw [eval_ListComp];refine jH (use:=none) (Qv:=EP X pins σ Q) (Q:=Q) hcalm hi hsc hN ok hT hE I h hs λp C H' s' m I' hn h0 h1 h2 h3 h4 q=>?_;refine ⟨m,hn,λh' sb=>⟨.ref p,H',I'.turned (t':=s'.toks) (λb o hb e=>sb.extBut b o hb e) h0 (Bg (Bg h1)) (.inr h2) h3 h4,rfl,q⟩⟩
theorem mT {i:Nat} {y:Str} {py spos:Pos} (hcalm:X.calm=true) (hnd:X.N.Nodup) (hiN:X.N[i]? =some y) (hy:Loc X.env.scope y) (hi:PI X (.Name x px) iter wi) (hsc:X.env.scope=sc0) (hN:X.N=N0) (ok:eY sc0 N0 scope x ys fr)
  (hT: ∀ C s H ex,PT (bG X x ys scope C s H ex) cnd tc) (hE: ∀ C s H ex,PE (bG X x ys scope C s H ex) elt te) (hsw:swapsWith (.ListComp elt [⟨.Name x px,iter,[cnd],0⟩] scope pos) (some (.Name y py)) spos.line X.env=pure true:=by rfl)
  (hs: ∀ v,foldedSetIterable iter X.env v=pure v:=by intro _;rfl) (hf:X.fn y=true\/X.env.scope.names.lookup y=some .local:=by first | exact .inl rfl | exact .inr rfl | assumption):
  PS X (.Assign [.Name y py] (.ListComp elt [⟨.Name x px,iter,[cnd],0⟩] scope pos) spos) (jR (nW wi fr tc te) (dF i)):=by
 intro pins s σ H D I h;rw [Dq _ _ _ _ hsw];refine AA (CO (AA ?_));show wpAny _ X.A (do let _ <- comprehension (.ListComp elt [⟨.Name x px,iter,[cnd],0⟩] scope pos) scope X.env _ (newList []) false (eval iter X.env) (some (assign (.Name y py) X.env))) _ _ s;refine AA (thn (jH (use:=some (assign (.Name y py) X.env)) (Qv:=λ_ s'=>SP X pins D .next s') (Q:=λv H'=>D.nx (σ.set i (some v)) H') hcalm hi hsc hN ok hT hE I h hs λp C H' s' m I' hn h0 h1 h2 h3 h4 q=>?_) λ_ s' hq=>AB (AB hq));show wpAny _ X.A (assign (.Name y py) X.env (.ref p)) _ _ s';refine Dv (ee (v:=.ref p) I' hnd hiN hy rfl (λs'' I'' ⟨a,sb,ha⟩=>?_) hf);have hCa:C≠a:=by
  rcases ha with e | e
  ·rw [e];exact h1
  ·exact (h3 y a e).symm
 refine ⟨m,hn.sameBut sb hCa,λh' sb'=>⟨_,H',I''.turned (t':=s''.toks) (λb o hb e=>sb'.extBut b o hb e) h0 h1 (.inr h2) h3 h4,q⟩⟩
end
end L2
namespace My
open PySem L2
variable {P:Program} {w:World} {K:W.Frag} {mg:Str->Option Value} {base:Heap} {C CB D D0 D1 D10 D11 D12 D13 D14 D15 D2 D3 D4 D5 D6 D7 D8 D9 aD aR c f f2 f3 f4 f5 f6 f7 f8 f9 g tbA:Addr} {fd fd2 fd3 fd4 fd5 fd6 fd7 fd8 fd9 gd:FuncData}
noncomputable def wH (c:Nat):Bool:=decide (97<=c/\c<=122)
noncomputable def cH (x:Str):Bool:=decide (1<=x.length)&&decide (x.length<=8)&&x.cps.toList.all wH
def ops:List Str:=["plus","less","times","least","most"]
inductive Fm where
 | num (n:Int)
 | own (x:Str)
 | part (k:Int) (x:Str)
 | bin (op:Str) (a b:Fm)
 | whn (a b c:Fm)
noncomputable def Fm.size:Fm->Nat
 | .num _=>1
 | .own _=>1
 | .part _ _=>1
 | .bin _ a b=>a.size+b.size+1
 | .whn a b c=>a.size+b.size+c.size+1
noncomputable def Fm.wf:Fm->Prop
 | .num n=> -999999<=n/\n<=999999
 | .own x=>cH x=true
 | .part k x=>(0<=k/\k<=2)/\cH x=true
 | .bin op a b=>op∈ops/\a.wf/\b.wf
 | .whn a b c=>a.wf/\b.wf/\c.wf
theorem Fm.size_pos: ∀ f:Fm,1<=f.size
 | .num _=>AJ 1
 | .own _=>AJ 1
 | .part _ _=>AJ 1
 | .bin _ a b=>by show 1<=a.size+b.size+1;lia
 | .whn a b c=>by show 1<=a.size+b.size+c.size+1;lia
noncomputable def Rep (H:Hp):Fm->V->Prop
 | .num n,v=> ∃ a,v=.ref a/\H a=some (.tup [.str "num",.int n])
 | .own x,v=> ∃ a,v=.ref a/\H a=some (.tup [.str "own",.str x])
 | .part k x,v=> ∃ a,v=.ref a/\H a=some (.tup [.str "part",.int k,.str x])
 | .bin op A B,v=> ∃ a u w,v=.ref a/\H a=some (.tup [.str op,u,w])/\Rep H A u/\Rep H B w
 | .whn A B C,v=> ∃ a u w z,v=.ref a/\H a=some (.tup [.str "when",u,w,z])/\Rep H A u/\Rep H B w/\Rep H C z
def TK (H H':Hp):Prop:= ∀ a xs,H a=some (.tup xs)->H' a=some (.tup xs)
theorem TK.trans {H H1 H2:Hp} (a:TK H H1) (b:TK H1 H2):TK H H2:=λc o h=>b c o (a c o h)
theorem TK.upd {H:Hp} {p:Addr} {o:HO} (h: ∀ xs,H p≠some (.tup xs)):TK H (upd H p o):=λa xs e=>by
 by_cases q:a=p
 ·subst q;exact absurd e (h xs)
 ·rw [ah q];exact e
theorem TK.lst {H:Hp} {p:Addr} {o:HO} {ys:List V} (h:H p=some (.lst ys)):TK H (L2.upd H p o):=TK.upd λxs e=>by rw [h]at e;cases e
theorem TK.new {H:Hp} {p:Addr} {o:HO} (h:H p=none):TK H (L2.upd H p o):=TK.upd λxs e=>by rw [h]at e;cases e
theorem Rep.mono {H H':Hp} (t:TK H H'): ∀ {f:Fm} {v:V},Rep H f v->Rep H' f v
 | .num _,_,⟨a,e,h⟩=>⟨a,e,t _ _ h⟩
 | .own _,_,⟨a,e,h⟩=>⟨a,e,t _ _ h⟩
 | .part _ _,_,⟨a,e,h⟩=>⟨a,e,t _ _ h⟩
 | .bin _ _ _,_,⟨a,u,w,e,h,r1,r2⟩=>⟨a,u,w,e,t _ _ h,Rep.mono t r1,Rep.mono t r2⟩
 | .whn _ _ _,_,⟨a,u,w,z,e,h,r1,r2,r3⟩=>⟨a,u,w,z,e,t _ _ h,Rep.mono t r1,Rep.mono t r2,Rep.mono t r3⟩
noncomputable def isV (T:String) (H:Hp) (v:V):Bool:=match v with
 | .bl _=>T=="bool"||T=="int"
 | .int _=>T=="int"
 | .str _=>T=="str"
 | .ref a=>(match H a with | some (.lst _)=>T=="list" | some (.tup _)=>T=="tuple" | some (.dK _)=>T=="dict" | _=>false)
 | _=>false
noncomputable def Sh (H:Hp):V->Prop
 | .non=>True
 | .bl _=>True
 | .int _=>True
 | .str x=>x.length<=1000
 | .ref a=>(∃ xs,H a=some (.lst xs))\/(∃ xs,H a=some (.tup xs))\/ ∃ kvs,H a=some (.dK kvs)
 | _=>False
section
variable {X:Cx}
theorem wK (K:W.Frag) (t T:String) (ht:t∈["NoneType","bool","int","str","list","tuple","dict"]) (hT:T∈["bool","int","str","list","tuple","dict"]):
  W.kitOne K (.type t) (.type T)=some (t==T||(t=="bool"&&T=="int")):=by
 simp only [AY,Bz,CV]at ht hT;rcases ht with rfl | rfl | rfl | rfl | rfl | rfl | rfl <;> rcases hT with rfl | rfl | rfl | rfl | rfl | rfl <;> first | rfl | (with_unfolding_all rfl) | (with_unfolding_all decide)
theorem jN:cQ X (.builtin "isinstance") (λxs H Q=> ∃ x T,xs=[x,.ty T]/\Sh H x/\T∈["bool","int","str","list","tuple","dict"]/\Q (.bl (isV T H x)) H):=by
 intro pins s σ H xs us Q I r h;obtain ⟨x,T,rfl,hs,hT,q⟩:=h;have go: ∀ t,im X.K H x (.type t)->t∈["NoneType","bool","int","str","list","tuple","dict"]->isV T H x=(t==T||(t=="bool"&&T=="int"))->wpAny (model X.prog X.w) X.A (call (.builtin "isinstance") us) (EP X pins σ Q) X.xe s:=by
  intro t ty ht e;refine vz pins s σ H _ us Q I r ⟨x,T,.type t,_,rfl,ty,wK X.K t T ht hT,?_⟩;rw [<- e];exact q
 have hTT:=hT;simp only [AY,Bz,CV]at hTT;cases x with
 | non=>exact go _ .non (by simp) (by rcases hTT with rfl | rfl | rfl | rfl | rfl | rfl <;> rfl)
 | bl b=>exact go _ (.bl b) (by simp) (by rcases hTT with rfl | rfl | rfl | rfl | rfl | rfl <;> rfl)
 | int i=>exact go _ (.int i) (by simp) (by rcases hTT with rfl | rfl | rfl | rfl | rfl | rfl <;> rfl)
 | str z=>exact go _ (.str z) (by simp) (by rcases hTT with rfl | rfl | rfl | rfl | rfl | rfl <;> rfl)
 | ref a=>
  rcases hs with ⟨ys,e⟩ | ⟨ys,e⟩ | ⟨ys,e⟩
  ·exact go _ (.lst e) (by simp) (by simp only [isV,e];rcases hTT with rfl | rfl | rfl | rfl | rfl | rfl <;> rfl)
  ·exact go _ (.tup e) (by simp) (by simp only [isV,e];rcases hTT with rfl | rfl | rfl | rfl | rfl | rfl <;> rfl)
  ·exact go _ (.dK e) (by simp) (by simp only [isV,e];rcases hTT with rfl | rfl | rfl | rfl | rfl | rfl <;> rfl)
 | byt _=>exact hs.elim
 | flt _=>exact hs.elim
 | ty _=>exact hs.elim
end
def top (i:Nat):Stmt:=PySem.Challenge.pw_boughworth_k12_tangled_and_too_great.main.body.getD i (.Pass ⟨0,0,0,0⟩)
abbrev oy:Stmt:=top 23
abbrev li:Stmt:=top 24
abbrev iY:Stmt:=top 25
abbrev oq:Stmt:=top 26
abbrev jg:Stmt:=top 28
abbrev jh:Stmt:=top 29
abbrev jo:Stmt:=top 30
abbrev jk:Stmt:=top 31
abbrev ou:Stmt:=top 32
abbrev oB:Stmt:=top 33
abbrev gS:Stmt:=top 35
abbrev jl:Stmt:=top 36
abbrev dL:Stmt:=top 39
abbrev jn:Stmt:=top 40
abbrev eh:Stmt:=top 41
abbrev lp:Stmt:=top 42
abbrev tY:Stmt:=top 43
abbrev lx:Stmt:=top 44
abbrev mE:Stmt:=top 45
abbrev lq:Stmt:=top 46
abbrev tZ:Stmt:=top 48
abbrev tV:Stmt:=top 49
abbrev oA:Stmt:=top 50
abbrev fA:Stmt:=top 51
abbrev lr:Stmt:=top 52
abbrev tX:Stmt:=top 53
abbrev et:Stmt:=top 54
abbrev on:Stmt:=top 55
abbrev fz:Stmt:=top 56
abbrev dB:Stmt:=top 57
abbrev ot:Stmt:=top 58
abbrev fb:Stmt:=top 59
abbrev tW:Stmt:=top 61
abbrev lu:Stmt:=top 62
abbrev ll:Stmt:=top 63
abbrev lj:Stmt:=top 64
abbrev ji:Stmt:=top 65
abbrev jm:Stmt:=top 66
abbrev eP:Stmt:=top 67
abbrev gA:Stmt:=top 68
abbrev iu:Stmt:=top 69
abbrev ly:Stmt:=top 70
abbrev lm:Stmt:=top 71
abbrev mG:Stmt:=top 72
abbrev ke:Stmt:=top 73
structure Gb (mg:Str->Option Value):Prop where
 isi:mg "isinstance"=none
 int:mg "int"=none
 bool:mg "bool"=none
 str:mg "str"=none
 tuple:mg "tuple"=none
 len:mg "len"=none
 all:mg "all"=none
 range:mg "range"=none
 max:mg "max"=none
 min:mg "min"=none
theorem al {H:Hp} {p:Addr} (h:H p=none) (o:HO):Same H (upd H p o):=λb u q=>by rw [ah (ai q h)];exact q
theorem nw {H:Hp} {p:Addr} (h:H p=none) (o:HO): ∃ H',upd H p o=H'/\Same H H'/\H' p=some o:=⟨_,rfl,al h o,ad⟩
noncomputable def cg (k:Str):Option Nat:=if k∈ops then some 2 else if k="when" then some 3 else none
noncomputable def bn:List V->List V
 | .str k::r=>if (cg k).isSome then r else []
 | _=>[]
noncomputable def kC:List (Key×V):=[(.inr "plus",.int 2),(.inr "less",.int 2),(.inr "times",.int 2),(.inr "least",.int 2),(.inr "most",.int 2),(.inr "when",.int 3)]
theorem yo (k:Str):aW kC (.inr k)=(cg k).map λ(n:Nat)=>V.int n:=by
 unfold cg ops kC;by_cases h1:k="plus"
 ·subst h1;decide +kernel
 by_cases h2:k="less"
 ·subst h2;decide +kernel
 by_cases h3:k="times"
 ·subst h3;decide +kernel
 by_cases h4:k="least"
 ·subst h4;decide +kernel
 by_cases h5:k="most"
 ·subst h5;decide +kernel
 by_cases h6:k="when"
 ·subst h6;decide +kernel
 have ne: ∀ {y:Str},¬ k=y-> ¬ (Sum.inr y:Key)=Sum.inr k:=λh e=>h (BO e).symm;rw [bo (ne h1),bo (ne h2),bo (ne h3),bo (ne h4),bo (ne h5),bo (ne h6),sY,AQ,AQ h6]
 ·rfl
 ·simp only [AY,Bz,CV,not_or];exact ⟨h1,h2,h3,h4,h5⟩
theorem bx {α:Type} {x:α} {r:List α}:atI (x::r) 0=some x:=aZ (j:=0) rfl
theorem me {α:Type} {x y:α} {r:List α}:atI (x::y::r) 1=some y:=aZ (j:=1) rfl
theorem sM {α:Type} {x y z:α} {r:List α}:atI (x::y::z::r) 2=some z:=aZ (j:=2) rfl
def la:Sp:=λvs H Q _=> ∃ a k r,vs=[.ref a]/\H a=some (.tup (.str k::r))/\r.length<=1000/\ ∀ p H',Same H H'->H' p=some (.tup (bn (.str k::r)))->Q (.ref p) H'
theorem vX:av ["formula"] ["formula"] (ak oy):=fsc
theorem ju (F:Fun K "inner_of" "inner_of" oy f fd) (mD:mg "INNER_COUNTS"=some (.ref aD)) (D:xc P w K aD kC):a8 P w K mg base CX0 1 f fd ["formula"] la:=by
 refine F.ok vX (λvs H Q E h=>?_) (λcdv A outer s H vs Q E hr h=>?_)
 ·obtain ⟨a,k,r,rfl,_⟩:=h;rfl
 obtain ⟨a,k,r,rfl,ha,hl,q⟩:=h;refine ⟨_,aj (ay (fF (ax xV (ar (r:=bf K) aA (pv 0) ag (λ_ _=>rfl)) (bh (v:=.ref aD) rfl mD rfl) (by with_unfolding_all rfl)) (aT oj (pv 0) (aX ag) bg) (aF ae))),?_⟩;refine ⟨_,rfl,a,_,0,_,rfl,rfl,SqT.of ha,bx,.inr k,aD,kC,rfl,rfl,D,_,rfl,?_⟩;have hv:=yo k;cases hk:cg k with
 | none=>
  rw [hk]at hv;refine dD (λc=>?_) (λc=>?_)
  ·rw [hv]at c;exact absurd c (by decide)
  ·refine ⟨iq,λp hp=>?_⟩;refine q p _ (al hp _) ?_;rw [ad];show some (HO.tup [])=some (HO.tup (if (cg k).isSome=true then r else []));rw [hk];rfl
 | some n=>
  rw [hk]at hv;refine dD (λc=>?_) (λc=>?_)
  ·refine ⟨_,rfl,1,rfl,a,_,rfl,SqT.of ha,?_,λp hp=>?_⟩
   ·rintro ⟨h1,_⟩;have:HT.sIx (V.str k::r).length 0 (some 1)=min 1 (V.str k::r).length:=HT.sIx_nat _ _ 1;rw [this,AM]at h1;lia
   ·refine q p _ (al hp _) ?_;rw [ad];have e1:HT.sIx (V.str k::r).length 0 (some 1)=1:=by
     have:HT.sIx (V.str k::r).length 0 (some 1)=min 1 (V.str k::r).length:=HT.sIx_nat _ _ 1;rw [this,AM];lia
    have e2:db (V.str k::r) (some 1) none=r:=by
     unfold db;rw [e1,HT.sIx_none,AM,List.drop_one,List.tail_cons,Nat.add_sub_cancel,Bc]
    show some (HO.tup (db (V.str k::r) (some 1) none))=some (HO.tup (if (cg k).isSome=true then r else []));rw [hk,e2];rfl
  ·rw [hv]at c;exact absurd rfl c
def Kp (tp:Addr) (H H':Hp):Prop:= ∀ b o,H b=some o->b≠tp->H' b=some o
theorem Kp.refl {tp:Addr} {H:Hp}:Kp tp H H:=λ_ _ h _=>h
theorem Kp.trans {tp:Addr} {H H1 H2:Hp} (a:Kp tp H H1) (b:Kp tp H1 H2):Kp tp H H2:=λc o h n=>b c o (a c o h n) n
theorem Kp.same {tp:Addr} {H H1 H2:Hp} (a:Kp tp H H1) (b:Same H1 H2):Kp tp H H2:=λc o h n=>b c o (a c o h n)
theorem Kp.tape {tp:Addr} {H:Hp} {o:HO}:Kp tp H (upd H tp o):=λb u h n=>by rw [ah n];exact h
theorem Kp.new {tp p:Addr} {H H1:Hp} {o:HO} (a:Kp tp H H1) (h:H1 p=none):Kp tp H (upd H1 p o):=a.same (al h _)
def Tp (H:Hp) (tp:Addr):Prop:= ∃ t:Int,H tp=some (.lst [.int t])
theorem Kp.tk {tp:Addr} {H H':Hp} (a:Kp tp H H') (t:Tp H tp):TK H H':=λb xs h=>a b _ h λe=>by
 obtain ⟨t,ht⟩:=t;subst e;rw [ht]at h;cases h
theorem Tp.new {H:Hp} {tp p:Addr} {o:HO} (t:Tp H tp) (h:H p=none):Tp (upd H p o) tp:=by
 obtain ⟨t,ht⟩:=t;exact ⟨t,by rw [ah (ai ht h)];exact ht⟩
inductive n0 (K:W.Frag) (vs:List V) (H:Hp) (Q:VK) (E_:XK):Prop
 | mk: ∀ (a:Addr) (ns:List Int) (k:Int),(vs=[.ref a,.int k])->(SqL K H a (ns.map V.int))->(ns.length<=63)->(0<=k)->(∀ c:Int,Q (.int c) H)->n0 K vs H Q E_
inductive je (K:W.Frag) (vs:List V) (H:Hp) (Q:VK) (E_:XK):Prop
 | mk: ∀ (a:Addr) (ns:List Int) (k:Int),(vs=[.ref a,.int k])->(SqL K H a (ns.map V.int))->(ns.length<=63)->(0<=k)->(k<1000)->(∀ p t,H p=none->Q (.ref p) (upd H p (.lst [.int t])))->je K vs H Q E_
inductive bZ  (vs:List V) (H:Hp) (Q:VK) (E_:XK):Prop
 | mk: ∀ (tp:Addr) (m:Int),(vs=[.ref tp,.int m])->(Tp H tp)->(0<m)->(m<1073741824)->(∀ d t:Int,0<=d->d<m->Q (.int d) (upd H tp (.lst [.int t])))->bZ vs H Q E_
inductive gP  (vs:List V) (H:Hp) (Q:VK) (E_:XK):Prop
 | mk: ∀ tp,(vs=[.ref tp])->(Tp H tp)->(∀ (n:Int) H',-999999<=n->n<=999999->Kp tp H H'->Tp H' tp->Q (.int n) H')->gP vs H Q E_
theorem xL:av ["script","k"] ["script","k"] (ak tZ):=fsc
theorem wv (F:Fun K "_law_cell_at" "_law_cell_at" tZ f fd) (G:Gb mg):a8 P w K mg base CX0 1 f fd ["script","k"] (n0 K):=by
 refine F.ok xL (λvs H Q E h=>?_) (λcdv A outer s H vs Q E hr h=>?_)
 ·obtain ⟨a,ns,k,rfl,_⟩:=h;rfl
 obtain ⟨a,ns,k,rfl,hS,hl,hk,q⟩:=h;refine ⟨_,af (bc (ax gi (pv 1) (au (r:=cZ K) aE rfl G.len Bd (aa (pv 0) ae)) (aL _)) (aj (ay (ar (r:=cC K) aY (pv 0) (pv 1) (λ_ _=>rfl)))) aK) (aj (ay ag)),?_⟩;refine ⟨_,rfl,_,rfl,a,_,rfl,.inl hS,_,_,rfl,rfl,_,rfl,?_⟩;refine dD (λc=>?_) (λc=>?_)
 ·have c':k< (((ns.map V.int).length:Nat):Int):=A7 c;rw [AD]at c';have hk':k.toNat<ns.length:=by lia
  have e:atI (ns.map V.int) k=some (V.int ns[k.toNat]):=by
   have ek:k=((k.toNat:Nat):Int):=by lia
   have q:atI (ns.map V.int) ((k.toNat:Nat):Int)=some (V.int ns[k.toNat]):=aZ (by rw [AS,AG hk'] <;> rfl);rw [<- ek]at q;exact q
  exact ⟨_,rfl,_,rfl,a,_,k,_,rfl,rfl,hS,e,q _⟩
 ·exact q 0
theorem scTape:av ["script","k","cell","p","one","two","three","four"] ["script","k"] (ak tV):=fsc
theorem wr (F:Fun K "_law_tape" "_law_tape" tV f fd) (GC:Cl P w K mg base CX0 1 g gd ["script","k"] (n0 K) "_law_cell_at"):
  a8 P w K mg base CX0 2 f fd ["script","k"] (je K):=by
 refine F.ok scTape (λvs H Q E h=>?_) (λcdv A outer s H vs Q E hr h=>?_)
 ·obtain ⟨a,ns,k,rfl,_⟩:=h;rfl
 obtain ⟨a,ns,k,rfl,hS,hl,hk,hk2,q⟩:=h;refine ⟨_,af (psz 2 scTape.nd (pcl GC hr (aa (pv 0) (aa (pv 1) ae))))
  (af (bc (ax cr (aw cD (pv 2) ag) ag (aL _)) (aj (ay (bd (aa (aw lL (pv 2) ag) ae)))) aK)
  (af (psz 3 scTape.nd ag)
  (af (psz 4 scTape.nd (aw cD (aw bj (aw bj (aw df (aw cD (pv 2) (pv 3)) ag) (aw df ag (pv 1))) ag) (pv 3)))
  (af (psz 5 scTape.nd (aw cD (aw bj (aw bj (aw df (pv 4) (pv 4)) (aw df ag (pv 1))) (pv 4)) (pv 3)))
  (af (psz 6 scTape.nd (aw cD (aw bj (aw df (pv 5) (pv 5)) (pv 4)) (pv 3)))
  (af (psz 7 scTape.nd (aw cD (aw bj (aw df (pv 6) (pv 6)) (pv 5)) (pv 3)))
  (aj (ay (bd (aa (aw bj (aw df (aw bj (aw df (aw bj (aw df (pv 4) (pv 3)) (pv 5)) (pv 3)) (pv 6)) (pv 3)) (pv 7)) ae)))))))))),?_⟩
 refine ⟨_,rfl,_,rfl,a,ns,k,rfl,hS,hl,hk,λc=>?_⟩;refine ⟨_,rfl,_,_,rfl,rfl,(by show (0:Int) <2;decide),rfl,_,rfl,?_⟩;refine dD (λ_=>?_) (λ_=>?_)
 ·exact ⟨_,rfl,_,_,rfl,rfl,⟨by decide,by decide⟩,fc,λp hp=>q p _ hp⟩
 have hp0:(0:Int) <2305843009213693951:=by decide
 have mm: ∀ x:Int,-(2^64) <x%2305843009213693951/\x%2305843009213693951<2^64:=λx=>by
  have h1:=Co x (show (2305843009213693951:Int)≠0 by decide);have h2:=BZ x hp0;lia
 have hkk: -(2^64) <k/\k<2^64:=by lia
 have hpp:(-(2^64):Int) <2305843009213693951/\(2305843009213693951:Int) <2^64:=by decide
 refine ⟨_,rfl,_,rfl,_,_,rfl,rfl,hp0,_,_,rfl,rfl,.inl (mm _),_,rfl,_,_,rfl,rfl,.inr hkk,_,_,rfl,rfl,_,_,rfl,rfl,_,rfl,_,_,rfl,rfl,hp0,?_⟩;refine ⟨_,rfl,_,rfl,_,_,rfl,rfl,.inl (mm _),_,rfl,_,_,rfl,rfl,.inr hkk,_,_,rfl,rfl,_,rfl,_,_,rfl,rfl,_,rfl,_,_,rfl,rfl,hp0,?_⟩;refine ⟨_,rfl,_,rfl,_,_,rfl,rfl,.inl (mm _),_,rfl,_,_,rfl,rfl,_,rfl,_,_,rfl,rfl,hp0,?_⟩;refine ⟨_,rfl,_,rfl,_,_,rfl,rfl,.inl (mm _),_,rfl,_,_,rfl,rfl,_,rfl,_,_,rfl,rfl,hp0,?_⟩;refine ⟨_,rfl,_,rfl,_,_,rfl,rfl,.inr hpp,_,rfl,_,_,rfl,rfl,_,rfl,_,_,rfl,rfl,.inr hpp,_,rfl,_,_,rfl,rfl,_,rfl,_,_,rfl,rfl,.inr hpp,_,rfl,_,_,rfl,rfl,fc,λp hp=>q p _ hp⟩
theorem scDigit:av ["tape","many","found"] ["tape","many"] (ak oA):=fsc
theorem uN (F:Fun K "_law_digit" "_law_digit" oA f fd):a8 P w K mg base CX0 1 f fd ["tape","many"] bZ:=by
 refine F.ok scDigit (λvs H Q E h=>?_) (λcdv A outer s H vs Q E hr h=>?_)
 ·obtain ⟨tp,m,rfl,_⟩:=h;rfl
 obtain ⟨tp,m,rfl,⟨t,ht⟩,hm,hm2,q⟩:=h;refine ⟨_,af (psz 2 scDigit.nd (aw cD (ar (r:=cC K) aY (pv 0) ag (λ_ _=>rfl)) (pv 1)))
  (af (ui (aw lL (ar (r:=cC K) aY (pv 0) ag (λ_ _=>rfl)) (pv 1)) (xS (pv 0) ag tS))
  (aj (ay (pv 2)))),?_⟩
 refine ⟨_,rfl,tp,_,0,_,rfl,rfl,SqL.of ht,bx,_,rfl,_,_,rfl,rfl,hm,?_⟩;refine ⟨_,rfl,tp,_,0,_,rfl,rfl,SqL.of ht,bx,_,rfl,_,_,rfl,rfl,⟨hm,hm2⟩,?_⟩;refine ⟨_,rfl,tp,_,0,0,rfl,rfl,ht,rfl,?_⟩;exact ⟨_,rfl,q (t%m) (t/m) (Co _ (by lia)) (BZ _ hm)⟩
theorem scNumber:av ["tape","way"] ["tape"] (ak lr):=fsc
theorem rQ (F:Fun K "_law_number" "_law_number" lr f fd) (GD:Cl P w K mg base CX0 1 g gd ["tape","many"] bZ "_law_digit"):
  a8 P w K mg base CX0 2 f fd ["tape"] gP:=by
 refine F.ok scNumber (λvs H Q E h=>?_) (λcdv A outer s H vs Q E hr h=>?_)
 ·obtain ⟨tp,rfl,_⟩:=h;rfl
 obtain ⟨tp,rfl,hT,q⟩:=h;refine ⟨_,af (psz 1 scNumber.nd (pcl GD hr (aa (pv 0) (aa ag ae))))
  (af (bc (ax gi (pv 1) ag (aL _)) (aj (ay (pv 1))) aK)
  (aj (ay (ar (r:=cC K) aY (bd (aa (qh kT ag) (aa (aw gD (pcl GD hr (aa (pv 0) (aa ag ae))) ag)
   (aa (aw gD (pcl GD hr (aa (pv 0) (aa ag ae))) ag) ae)))) (aw gD (pv 1) ag) (λ_ _=>rfl))))),?_⟩
 refine ⟨_,rfl,tp,6,rfl,hT,by decide,by decide,λd t h0 h1=>?_⟩;refine ⟨_,rfl,_,_,rfl,rfl,_,rfl,?_⟩;refine dD (λc=>?_) (λc=>?_)
 ·exact ⟨_,rfl,q d _ (by lia) (by lia) Kp.tape ⟨t,ad⟩⟩
 have c':3<=d:=by
  rcases Int.lt_or_le d 3 with z | z
  ·exact absurd (AO z) c
  ·exact z
 refine ⟨_,rfl,_,rfl,tp,1001,rfl,⟨t,ad⟩,by decide,by decide,λd2 t2 h20 h21=>?_⟩;refine ⟨_,_,rfl,rfl,_,rfl,tp,1999999,rfl,⟨t2,ad⟩,by decide,by decide,λd3 t3 h30 h31=>?_⟩;refine ⟨_,_,rfl,rfl,dU,λp hp=>?_⟩;rw [dH,dH]at hp ⊢;have hd:d=3\/d=4\/d=5:=by lia
 have fin: ∀ n:Int,-999999<=n->n<=999999->Q (.int n) (upd (upd H tp (.lst [.int t3])) p (.lst [.int (-1),.int (d2-500),.int (d3-999999)])):=λn h1 h2=>
  q n _ h1 h2 (Kp.tape.new hp) (Tp.new ⟨t3,ad⟩ hp)
 rcases hd with rfl | rfl | rfl
 ·exact ⟨_,rfl,_,_,rfl,rfl,p,_,0,_,rfl,rfl,SqL.of ad,bx,fin _ (by lia) (by lia)⟩
 ·exact ⟨_,rfl,_,_,rfl,rfl,p,_,1,_,rfl,rfl,SqL.of ad,me,fin _ (by lia) (by lia)⟩
 ·exact ⟨_,rfl,_,_,rfl,rfl,p,_,2,_,rfl,rfl,SqL.of ad,sM,fin _ (by lia) (by lia)⟩
theorem iy {k:Str} (h:k∈ops):k.length<=1000:=by
 unfold ops at h;simp only [AY,Bz,CV]at h;rcases h with rfl | rfl | rfl | rfl | rfl <;> decide +kernel
theorem bJ {x:Str} (h:cH x=true):x.length<=1000:=by
 unfold cH at h;simp only [Bb,decide_eq_true_eq]at h;lia
theorem iD {op:Str} (h:op∈ops):cg op=some 2:=by unfold cg;rw [AX h]
theorem jz:cg "when"=some 3:=by decide +kernel
theorem fZ:cg "num"=none:=by decide +kernel
theorem eE:cg "own"=none:=by decide +kernel
theorem dE:cg "part"=none:=by decide +kernel
theorem l9 {α:Type} {xs:List α} {d:Int} (h0:0<=d) (h1:d<xs.length): ∃ x,atI xs d=some x/\xs[d.toNat]? =some x:=by
 have hk:d.toNat<xs.length:=by lia
 have ek:d=((d.toNat:Nat):Int):=by lia
 have q:atI xs ((d.toNat:Nat):Int)=some xs[d.toNat]:=aZ (AG hk);rw [<- ek]at q;exact ⟨_,q,AG hk⟩
theorem ka (z:Str) {j:Int} (h0:0<=j) (h1:j<=z.length):((Txt.slice z none (some j)).length:Int)=j:=by
 rcases PyProof.Rows.slice_ns_cases z j h0 with ⟨_,h⟩ | ⟨h,_⟩
 ·exact h
 ·lia
noncomputable def letters:Str:="abcdefghijklmnopqrstuvwxyz"
theorem nr:letters.cps.toList.all wH=true:=by decide +kernel
theorem iN:letters.length=26:=by decide +kernel
theorem sf {d:Int} (h0:0<=d) (h1:d<26): ∃ c,atI letters.cps.toList d=some c/\wH c=true:=by
 have hl:letters.cps.toList.length=26:=by decide +kernel
 obtain ⟨c,e,e2⟩:=l9 (xs:=letters.cps.toList) h0 (by rw [hl];lia);exact ⟨c,e,DG.mp nr c (AH e2)⟩
theorem w8 (x y:Str):(x++y).length=x.length+y.length:=by
 show (x.cps++y.cps).size=_;rw [Array.size_append];rfl
def names13:List Str:=["own","up","down","min","max","of","top","form","sort","wheel","book","tree","ok"]
theorem aneq:(Txt.slice "aneqoubi" none (some 7)).length=7/\(Txt.slice "aneqoubi" none (some 7)).cps.toList.all wH=true:=by decide +kernel
theorem qv:("eyzmopq":Str).length=7:=by decide +kernel
theorem Tp.same {H H':Hp} {tp:Addr} (t:Tp H tp) (s:Same H H'):Tp H' tp:=by
 obtain ⟨t0,e⟩:=t;exact ⟨t0,s _ _ e⟩
noncomputable def nu (d:Int):Nat:=(atI letters.cps.toList d).getD 0
noncomputable def eN (tu:Int):Str:=(⟨#[nu tu]⟩:Str)++Txt.slice "aneqoubi" none (some 7)
noncomputable def nm0 (tu:Int) (i:Nat):Str:=if (0+ (i:Int)) <8 then Txt.slice (eN tu) none (some (0+ (i:Int) +1))else (⟨#[nu ((tu+1) %26)]⟩:Str)++Txt.slice (eN tu) none (some (0+ (i:Int) -8))
noncomputable def nm1 (tu:Int) (i:Nat):Str:=((names13)[((tu+ (0+ (i:Int))) %13).toNat]?).getD ""
noncomputable def nm2 (tu:Int) (i:Nat):Str:=(⟨#[nu ((tu+ (0+ (i:Int))) %26)]⟩:Str)++Txt.slice "eyzmopq" none (some ((tu+3* (0+ (i:Int))) %8))
noncomputable def jU (way:Nat) (tu:Int) (i:Nat):Str:=if way=0 then nm0 tu i else if way=1 then nm1 tu i else nm2 tu i
def NamesAre (m:Nat) (ws:List Str):Prop:= ∃ (way tu:Nat) (back:Bool),way<3/\tu<26/\ws=(if back=true then ((List.range m).map (jU way tu)).reverse else (List.range m).map (jU way tu))
inductive fu  (vs:List V) (H:Hp) (Q:VK) (E_:XK):Prop
 | mk: ∀ tp m,(vs=[.ref tp,.int m])->(Tp H tp)->(0<=m)->(m<=13)->(∀ l (ws:List Str) H',H' l=some (.lst (ws.map V.str))->(ws.length:Int)=m->NamesAre m.toNat ws->l≠tp->Kp tp H H'->Tp H' tp->Q (.ref l) H')->fu vs H Q E_
theorem lT {d:Int} (h0:0<=d) (h1:d<26):atI letters.cps.toList d=some (nu d):=by
 obtain ⟨c,e,_⟩:=sf h0 h1;unfold nu;rw [e];rfl
theorem tL (tu:Int):(eN tu).length=8:=by unfold eN;rw [w8,aneq.1];rfl
theorem scNamesX:av ["tape","many","letters","way","turn","back","stem","names","words"] ["tape","many"] (ak fA):=fsc
theorem rR (F:Fun K "_law_names" "_law_names" fA f fd) (G:Gb mg) (GD:Cl P w K mg base CX0 1 g gd ["tape","many"] bZ "_law_digit"):
  a8 P w K mg base CX0 2 f fd ["tape","many"] fu:=by
 refine F.ok scNamesX (λvs H Q E h=>?_) (λcdv A outer s H vs Q E hr h=>?_)
 ·obtain ⟨tp,m,rfl,_⟩:=h;rfl
 obtain ⟨tp,m,rfl,hT,hm0,hm1,q⟩:=h;obtain ⟨t,ht,hread⟩: ∃ t,PSs (cG CX0 P w K mg base ["tape","many","letters","way","turn","back","stem","names","words"] "_law_names" (ak fA) f cdv A outer s H E).nox ((bE fA).drop 5) t/\
   ∀ (b:Int) (l:Addr) (way tu:Nat) (H2:Hp) (o2 o3 o4 o6 o8:Option V),(b=1\/b= -1)->way<3->tu<26->H2 l=some (.lst (((List.range m.toNat).map (jU way tu)).map V.str))->Kp tp H H2->Tp H2 tp->
    t {nx:=λ_ H'=>Q .non H',rt:=Q} [some (.ref tp),some (.int m),o2,o3,o4,some (.int b),o6,some (.ref l),o8] H2:=by
  refine ⟨_,aj (ay (wn (pv 7) (pv 5))),λb l way tu H2 o2 o3 o4 o6 o8 hb hw1 hw2 hl k2 t2=>?_⟩;have hlen:(((List.range m.toNat).map (jU way tu)).length:Int)=m:=by rw [AD,Em];lia
  refine ⟨_,rfl,_,rfl,l,_,b,rfl,rfl,SqL.of hl,by lia,λp hp=>?_⟩;have hpt:p≠tp:=λe=>by
   obtain ⟨t0,e0⟩:=t2;subst e;rw [e0]at hp;cases hp
  rcases hb with rfl | rfl
  ·rw [qW];exact q p _ _ ad hlen ⟨way,tu,false,hw1,hw2,rfl⟩ hpt (k2.new hp) (t2.new hp)
  ·rw [qY,<- List.map_reverse];exact q p _ _ ad (by rw [Ck];exact hlen) ⟨way,tu,true,hw1,hw2,rfl⟩ hpt (k2.new hp) (t2.new hp)
 have cw: ∀ {te:TE} {fr:List Nat} {σ:St} {H2:Hp} {Q2:VK} (g:Nat->Str),(∀ (i:Nat) (H3:Hp) (k:VK),(i:Int) <m->k (.str (g i)) H3->te (some (.int (0+i))::bH fr σ) H3 k)->
   (∀ p,H2 p=none->Q2 (.ref p) (upd H2 p (.lst (((List.range m.toNat).map g).map V.str))))->gu fr te σ (Itr 0 m.toNat) H2 Q2:=by
  intro te fr σ H2 Q2 g hs hd;refine gc (n:=m.toNat) (R:=λi v=>v=.int (0+i)) (by lia) lW ie i4
   (λp i zs H'=>H'=upd H2 p (.lst zs)/\zs=((List.range i).map g).map V.str) (λp hp=>⟨rfl,rfl⟩) ?_ ?_ ?_
  ·rintro p i zs H' ⟨rfl,rfl⟩;exact ⟨ad,by rw [AD,AD,Em]⟩
  ·rintro p i zs H' v k hp hi rfl ⟨rfl,rfl⟩ hk;exact hs i _ k (by lia) (hk (.str (g i)) _ ad ⟨dH,by rw [List.range_succ];simp⟩)
  ·rintro p zs H' hp ⟨rfl,rfl⟩;exact hd p hp
 refine ⟨_,af (de (i:=2) scNamesX.nd rfl (Or.inr rfl) aJ)
  (af (psz 3 scNamesX.nd (pcl GD hr (aa (pv 0) (aa ag ae))))
  (af (de (i:=4) scNamesX.nd rfl (Or.inr rfl) (pcl GD hr (aa (pv 0) (aa ag ae))))
  (af (psz 5 scNamesX.nd (aw gD ag (aw df ag (pcl GD hr (aa (pv 0) (aa ag ae))))))
  (af (bc (ax cr (pv 3) ag (aL _))
   (af (de (i:=6) scNamesX.nd rfl (Or.inr rfl) (aw gE (ar ph (pv 2) (pv 4) (λ_ _=>rfl)) (aT lh aJ bg (aX ag))))
   (aj (di (i:=7) (sc0:=ak fA) (N0:=["tape","many","letters","way","turn","back","stem","names","words"]) (ys:=["letters","stem","turn"]) (fr:=[2,6,4]) rfl scNamesX.nd rfl (Or.inl rfl) (bz rfl G.range (aa (pv 1) ae)) rfl rfl
    cok
    (λC s H ex=>fF (ax gi (pv 0) ag (aL _)) (aT lh (pv 2) bg (aX (aw bj (pv 0) ag)))
     (aw gE (ar ph (pv 1) (aw cD (aw bj (pv 3) ag) ag) (λ_ _=>rfl)) (aT lh (pv 2) bg (aX (aw gD (pv 0) ag))))))))
   (aj (bc (ax cr (pv 3) ag (aL _))
    (@af _ _ _ _ _ (@we _ 8 _ _ (names13.map V.str) _ _ _ scNamesX.nd rfl (Or.inr rfl) (Or.inl rfl) rfl)
    (aj (di (i:=7) (sc0:=ak fA) (N0:=["tape","many","letters","way","turn","back","stem","names","words"]) (ys:=["turn","words"]) (fr:=[4,8]) rfl scNamesX.nd rfl (Or.inl rfl) (bz rfl G.range (aa (pv 1) ae)) rfl rfl
     cok
     (λC s H ex=>ar (r:=cC K) aY (pv 2) (aw cD (aw bj (pv 1) (pv 0)) ag) (λ_ _=>rfl)))))
    (aj (di (i:=7) (sc0:=ak fA) (N0:=["tape","many","letters","way","turn","back","stem","names","words"]) (ys:=["letters","turn"]) (fr:=[2,4]) rfl scNamesX.nd rfl (Or.inl rfl) (bz rfl G.range (aa (pv 1) ae)) rfl rfl
     cok
     (λC s H ex=>aw gE (ar ph (pv 1) (aw cD (aw bj (pv 2) (pv 0)) ag) (λ_ _=>rfl)) (aT lh aJ bg (aX (aw cD (aw bj (pv 2) (aw df ag (pv 0))) ag)))))))))
  ht)))),?_⟩
 refine ⟨_,rfl,tp,3,rfl,hT,by decide,by decide,λwy t1 hw0 hw1=>?_⟩;refine ⟨_,rfl,tp,26,rfl,⟨t1,ad⟩,by decide,by decide,λtu t2 htu0 htu1=>?_⟩;rw [dH];refine ⟨_,rfl,tp,2,rfl,⟨t2,ad⟩,by decide,by decide,λbk t3 hb0 hb1=>?_⟩;rw [dH];refine ⟨2,_,rfl,rfl,.inl ⟨by decide,by decide⟩,1,_,rfl,rfl,?_⟩;have hb:(1-2*bk=1\/1-2*bk= -1):=by lia
 have k3:Kp tp H (upd H tp (.lst [.int t3])):=Kp.tape;have tt3:Tp (upd H tp (.lst [.int t3])) tp:=⟨t3,ad⟩;generalize upd H tp (.lst [.int t3])=H3 at k3 tt3 ⊢;have l26:(letters.length:Int)=26:=by rw [iN];rfl
 have lsz:letters.length<=sizeLine:=by rw [iN];exact Bj (am (by decide))
 refine ⟨_,rfl,rfl,_,rfl,?_⟩;refine dD (λc=>?_) (λc=>?_)
 ·-- stems
  have hwy:wy=0:=V.int.inj (A7 c);have ec0:=lT htu0 htu1;refine ⟨_,rfl,_,rfl,letters,tu,nu tu,rfl,rfl,lsz,ec0,7,rfl,"aneqoubi",rfl,(by decide +kernel),_,_,rfl,rfl,?_,?_⟩
  ·rw [aneq.1];show 1+7<=sizeLine;exact Bj (am (by decide))
  have zl:=tL tu;have zsz:(eN tu).length<=sizeLine:=by rw [zl];exact Bj (am (by decide))
  refine ⟨_,rfl,m,rfl,by lia,by lia,?_⟩;refine cw (nm0 tu) ?_ ?_
  ·intro i H4 k hi hk;refine ⟨_,rfl,_,_,rfl,rfl,_,rfl,?_⟩;refine dD (λci=>?_) (λci=>?_)
   ·have ci':(0+ (i:Int)) <8:=A7 ci;refine ⟨_,rfl,_,rfl,_,_,rfl,rfl,_,rfl,eN tu,rfl,zsz,?_⟩;unfold nm0 at hk;rw [AX ci']at hk;exact hk
   ·have ci': ¬ (0+ (i:Int)) <8:=λy=>ci (AO y);have ec1:=lT (d:=(tu+1) %26) (Co _ (by decide)) (BZ _ (by decide));have e:=ka (eN tu) (j:=0+ (i:Int) -8) (by lia) (by rw [zl];lia);unfold nm0 at hk;rw [AQ ci']at hk;refine ⟨_,rfl,_,rfl,_,_,rfl,rfl,_,_,rfl,rfl,(by show (0:Int) <26;decide),letters,_,nu ((tu+1) %26),rfl,rfl,lsz,ec1,_,rfl,_,rfl,_,_,rfl,rfl,_,rfl,eN tu,rfl,zsz,_,_,rfl,rfl,?_,hk⟩;show 1+ (Txt.slice (eN tu) none (some (0+ (i:Int) -8))).length<=sizeLine;exact Bj (am (by lia))
  ·intro p hp;have etu:((tu.toNat:Nat):Int)=tu:=by lia
   refine hread (1-2*bk) p 0 tu.toNat _ _ _ _ _ _ hb (by decide) (by lia) ?_ (k3.new hp) (tt3.new hp);rw [etu];exact ad
 ·refine ⟨_,rfl,rfl,_,rfl,?_⟩;refine dD (λc2=>?_) (λc2=>?_)
  ·-- written words
   refine ⟨(by show 13<=sizeLine;decide),λpw hpw=>?_⟩;refine ⟨_,rfl,m,rfl,by lia,by lia,?_⟩;have s4:Same H3 (upd H3 pw (.lst (names13.map V.str))):=al hpw _;have g4:(upd H3 pw (.lst (names13.map V.str))) pw=some (.lst (names13.map V.str)):=ad;have k4:Kp tp H (upd H3 pw (.lst (names13.map V.str))):=k3.same s4;have tt4:Tp (upd H3 pw (.lst (names13.map V.str))) tp:=tt3.new hpw;generalize upd H3 pw (.lst (names13.map V.str))=H4 at s4 g4 k4 tt4 ⊢;refine gc (n:=m.toNat) (R:=λi v=>v=.int (0+i)) (by lia) lW ie i4
    (λp i zs H'=>H'=upd H4 p (.lst zs)/\H4 p=none/\zs=((List.range i).map (nm1 tu)).map V.str) (λp hp=>⟨rfl,hp,rfl⟩) ?_ ?_ ?_
   ·rintro p i zs H' ⟨rfl,_,rfl⟩;exact ⟨ad,by rw [AD,AD,Em]⟩
   ·rintro p i zs H' v k hp hi rfl ⟨rfl,hp4,rfl⟩ hk;have h1:=Co (tu+ (0+ (i:Int))) (show (13:Int)≠0 by decide);have h2:=BZ (tu+ (0+ (i:Int))) (show (0:Int) <13 by decide);obtain ⟨xv,ex,ex2⟩:=l9 (xs:=names13.map V.str) h1 (by rw [AD];exact h2);have exv:xv=.str (nm1 tu i):=by
     rw [AS]at ex2;unfold nm1;cases hx:names13[((tu+ (0+ (i:Int))) %13).toNat]? with
     | none=>rw [hx]at ex2;cases ex2
     | some y=>rw [hx]at ex2;exact (A0 ex2).symm
    subst exv;have g5:(upd H4 p (.lst (((List.range i).map (nm1 tu)).map V.str))) pw=some (.lst (names13.map V.str)):=by rw [ah (ai g4 hp4)];exact g4
    refine ⟨_,rfl,_,rfl,_,rfl,_,_,rfl,rfl,_,_,rfl,rfl,(by show (0:Int) <13;decide),pw,_,_,_,rfl,rfl,SqL.of g5,ex,?_⟩;exact hk _ _ ad ⟨dH,hp4,by rw [List.range_succ];simp⟩
   ·rintro p zs H' hp ⟨rfl,hp4,rfl⟩;have etu:((tu.toNat:Nat):Int)=tu:=by lia
    refine hread (1-2*bk) p 1 tu.toNat _ _ _ _ _ _ hb (by decide) (by lia) ?_ (k4.new hp4) (tt4.new hp4);rw [etu];exact ad
  ·-- a letter and a tail
   refine ⟨_,rfl,m,rfl,by lia,by lia,?_⟩;refine cw (nm2 tu) ?_ ?_
   ·intro i H4 k hi hk;have ec1:=lT (d:=(tu+ (0+ (i:Int))) %26) (Co _ (by decide)) (BZ _ (by decide));have h1:=Co (tu+3* (0+ (i:Int))) (show (8:Int)≠0 by decide);have h2:=BZ (tu+3* (0+ (i:Int))) (show (0:Int) <8 by decide);have e:=ka "eyzmopq" (j:=(tu+3* (0+ (i:Int))) %8) h1 (by rw [qv];lia);refine ⟨_,rfl,_,rfl,_,rfl,_,_,rfl,rfl,_,_,rfl,rfl,(by show (0:Int) <26;decide),letters,_,nu ((tu+ (0+ (i:Int))) %26),rfl,rfl,lsz,ec1,_,rfl,_,rfl,3,_,rfl,rfl,.inl ⟨by decide,by decide⟩,_,_,rfl,rfl,_,_,rfl,rfl,(by show (0:Int) <8;decide),_,rfl,"eyzmopq",rfl,(by rw [qv];exact Bj (am (by decide))),_,_,rfl,rfl,?_,hk⟩
    ·show 1+ (Txt.slice "eyzmopq" none (some ((tu+3* (0+ (i:Int))) %8))).length<=sizeLine;exact Bj (am (by lia))
   ·intro p hp;have etu:((tu.toNat:Nat):Int)=tu:=by lia
    refine hread (1-2*bk) p 2 tu.toNat _ _ _ _ _ _ hb (by decide) (by lia) ?_ (k3.new hp) (tt3.new hp);rw [etu];exact ad
theorem eI (xs:List V) {j:Int} (h0:0<=j) (h1:j<=xs.length):db xs none (some j)=xs.take j.toNat:=by
 have ej:j=((j.toNat:Nat):Int):=by lia
 have e:HT.sIx xs.length xs.length (some j)=j.toNat:=by
  rw [ej,HT.sIx_nat];lia
 unfold db;rw [e,HT.sIx_none,EZ,Ft]
theorem jG (xs:List V) {j:Int} (h0:0<=j) (h1:j<=xs.length):db xs (some j) none=xs.drop j.toNat:=by
 have ej:j=((j.toNat:Nat):Int):=by lia
 have e:HT.sIx xs.length 0 (some j)=j.toNat:=by
  rw [ej,HT.sIx_nat];lia
 unfold db;rw [e,HT.sIx_none];apply BC;rw [CQ];lia
theorem xI {xs:List V} {j:Nat} (h:j+2<=xs.length): ∃ a x y b,xs=a++x::y::b/\a.length=j/\xs.take j=a/\xs.drop (j+2)=b:=by
 refine ⟨xs.take j,xs[j],xs[j+1],xs.drop (j+2),?_,by rw [A4];lia,rfl,rfl⟩;rw [<- BR (by lia),<- BR (by lia),Dt]
theorem xH {xs:List V} {j:Nat} (h:j+3<=xs.length): ∃ a x y z b,xs=a++x::y::z::b/\a.length=j/\xs.take j=a/\xs.drop (j+3)=b:=by
 refine ⟨xs.take j,xs[j],xs[j+1],xs[j+2],xs.drop (j+3),?_,by rw [A4];lia,rfl,rfl⟩;rw [<- BR (by lia),<- BR (by lia),<- BR (by lia),Dt]
theorem jO {a b:List V} {x:V} {d:Int} (h:d=(a.length:Int)):atI (a++x::b) d=some x:=by
 subst h;exact aZ (by rw [Bx (AJ _),DH];rfl)
theorem yJ {A B R:Prop} {c1 c2:Bool} (hr:(if c2=true then A else B)->R) (h1:c1=true->c2=true->A) (h2: ¬ (c1=true/\c2=true)->B):if c1=true then R else (if false=true then A else B):=by
 cases c1 with
 | true=>
  rw [AX rfl];apply hr;cases c2 with
  | true=>rw [AX rfl];exact h1 rfl rfl
  | false=>exact bt (h2 λz=>AR z.2)
 | false=>exact bt (bt (h2 λz=>AR z.1))
noncomputable def Fm.wfp (ρ:Fm->Prop):Fm->Prop
 | .num n=> -999999<=n/\n<=999999
 | .own x=>cH x=true/\ρ (.own x)
 | .part k x=>((0<=k/\k<=2)/\cH x=true)/\ρ (.part k x)
 | .bin op a b=>op∈ops/\a.wfp ρ/\b.wfp ρ
 | .whn a b c=>a.wfp ρ/\b.wfp ρ/\c.wfp ρ
theorem Fm.wfp.wf {ρ:Fm->Prop}: ∀ {f:Fm},f.wfp ρ->f.wf
 | .num _,h=>h
 | .own _,h=>h.1
 | .part _ _,h=>h.1
 | .bin _ _ _,h=>⟨h.1,Fm.wfp.wf h.2.1,Fm.wfp.wf h.2.2⟩
 | .whn _ _ _,h=>⟨Fm.wfp.wf h.1,Fm.wfp.wf h.2.1,Fm.wfp.wf h.2.2⟩
inductive FsP (ρ:Fm->Prop) (H:Hp):List V->Nat->Prop where
 | nil:FsP ρ H [] 0
 | cons {v:V} {f:Fm} {vs:List V} {n:Nat}:Rep H f v->f.wfp ρ->FsP ρ H vs n->FsP ρ H (v::vs) (f.size+n)
theorem FsP.append {ρ:Fm->Prop} {H:Hp} {xs ys:List V} {m n:Nat} (a:FsP ρ H xs m) (b:FsP ρ H ys n):FsP ρ H (xs++ys) (m+n):=by
 induction a with
 | nil=>rw [Nat.zero_add];exact b
 | cons r w _ ih=>rw [Ff];exact .cons r w ih
theorem FsP.split {ρ:Fm->Prop} {H:Hp}: ∀ {xs ys:List V} {n:Nat},FsP ρ H (xs++ys) n-> ∃ a b,FsP ρ H xs a/\FsP ρ H ys b/\n=a+b
 | [],ys,n,h=>⟨0,n,.nil,h,by lia⟩
 | x::r,ys,n,h=>by
  cases h with
  | cons rp wf t=>
   obtain ⟨a,b,h1,h2,e⟩:=FsP.split t;exact ⟨_,b,.cons rp wf h1,h2,by lia⟩
theorem FsP.mono {ρ:Fm->Prop} {H H':Hp} (t:TK H H') {xs:List V} {n:Nat} (h:FsP ρ H xs n):FsP ρ H' xs n:=by
 induction h with
 | nil=>exact .nil
 | cons r w _ ih=>exact .cons (r.mono t) w ih
def LvsP (ρ:Fm->Prop) (H:Hp) (rs:List V):Prop:= ∀ v∈rs,∃ f,Rep H f v/\f.wfp ρ/\f.size=1
theorem LvsP.mono {ρ:Fm->Prop} {H H':Hp} (t:TK H H') {rs:List V} (h:LvsP ρ H rs):LvsP ρ H' rs:=λv hv=>by
 obtain ⟨f,r,w,s⟩:=h v hv;exact ⟨f,r.mono t,w,s⟩
inductive kZ (ρ:Fm->Prop) (vs:List V) (H:Hp) (Q:VK) (E_:XK):Prop
 | mk: ∀ tp rl rs,(vs=[.ref tp,.ref rl])->(Tp H tp)->(rl≠tp)->(H rl=some (.lst rs))->(rs.length<=1000)->(LvsP ρ H rs)->(∀ v f H',Rep H' f v->f.wfp ρ->f.size=1->Kp tp H H'->Tp H' tp->Q v H')->kZ ρ vs H Q E_
inductive eO (ρ:Fm->Prop) (vs:List V) (H:Hp) (Q:VK) (E_:XK):Prop
 | mk: ∀ tp rl rs,(vs=[.ref tp,.ref rl])->(Tp H tp)->(rl≠tp)->(H rl=some (.lst rs))->(rs.length<=1000)->(LvsP ρ H rs)->(∀ v f H',Rep H' f v->f.wfp ρ->f.size<=15->Kp tp H H'->Tp H' tp->Q v H')->eO ρ vs H Q E_
theorem vV:av ["tape","readings"] ["tape","readings"] (ak tX):=fsc
theorem uI {ρ:Fm->Prop} (F:Fun K "_law_leaf" "_law_leaf" tX f fd) (G:Gb mg) (GD:Cl P w K mg base CX0 1 g gd ["tape","many"] bZ "_law_digit")
  (GN:Cl P w K mg base CX0 2 f2 fd2 ["tape"] gP "_law_number"):
  a8 P w K mg base CX0 3 f fd ["tape","readings"] (kZ ρ):=by
 refine F.ok vV (λvs H Q E h=>?_) (λcdv A outer s H vs Q E hr h=>?_)
 ·obtain ⟨tp,rl,rs,rfl,_⟩:=h;rfl
 obtain ⟨tp,rl,rs,rfl,hT,hne,hrl,hlen,hL,q⟩:=h;have hr1:=hr.mono (show 1<=2 by decide);refine ⟨_,af (bc (PW.pt (fE (ax gj (au (r:=cZ K) aE rfl G.len Bd (aa (pv 1) ae)) ag (aL _))
   (dM (ax gi (pcl GD hr1 (aa (pv 0) (aa ag ae))) ag (aL _)))))
   (aj (ay (ar (r:=cC K) aY (pv 1) (pcl GD hr1 (aa (pv 0) (aa (au (r:=cZ K) aE rfl G.len Bd (aa (pv 1) ae)) ae))) (λ_ _=>rfl)))) aK)
  (aj (ay (aF (aa aJ (aa (pcl GN hr (aa (pv 0) ae)) ae))))),?_⟩
 have num: ∀ H1,Kp tp H H1->Tp H1 tp->(tD 0 ([some (V.ref tp),some (.ref rl)]:St) H1 λv H1=>gP [v] H1 (λx H2=>[V.str "num",x].length<=sizeLine/\ ∀ p,H2 p=none->Q (.ref p) (upd H2 p (.tup [V.str "num",x]))) E0):=λH1 k1 t1=>by
  refine ⟨_,rfl,tp,rfl,t1,λn H2 h1 h2 k2 t2=>⟨cB,λp hp=>?_⟩⟩;exact q _ (.num n) _ ⟨p,rfl,ad⟩ ⟨h1,h2⟩ rfl ((k1.trans k2).new hp) (t2.new hp)
 refine ⟨_,rfl,rl,rs,rfl,.inl (SqL.of hrl),_,_,rfl,rfl,_,rfl,?_⟩;refine dD (λc=>?_) (λc=>?_)
 ·have c':0<rs.length:=by have:=A7 c;lia
  refine ⟨_,rfl,tp,4,rfl,hT,by decide,by decide,λd t h0 h1=>?_⟩;refine ⟨_,_,rfl,rfl,_,rfl,?_⟩;refine dD (λc2=>?_) (λc2=>?_)
  ·have h2:(upd H tp (.lst [.int t])) rl=some (.lst rs):=by rw [ah hne];exact hrl
   refine ⟨_,rfl,_,rfl,_,rfl,rl,rs,rfl,.inl (SqL.of h2),tp,_,rfl,⟨t,ad⟩,by lia,by lia,λd2 t2 h20 h21=>?_⟩;rw [dH];have h3:(upd H tp (.lst [.int t2])) rl=some (.lst rs):=by rw [ah hne];exact hrl
   obtain ⟨x,ex,ex2⟩:=l9 (xs:=rs) h20 h21;obtain ⟨fm,r,wf,sz⟩:=hL x (AH ex2);have k2:Kp tp H (upd H tp (.lst [.int t2])):=Kp.tape;exact ⟨rl,rs,d2,x,rfl,rfl,SqL.of h3,ex,q x fm _ (r.mono (k2.tk hT)) wf sz k2 ⟨t2,ad⟩⟩
  ·exact num _ Kp.tape ⟨t,ad⟩
 ·exact num _ Kp.refl hT
theorem wR {H:Hp} {a b:List V} {x y:V} {n:Nat} (h:FsP ρ H (a++x::y::b) n): ∃ A B,Rep H A x/\Rep H B y/\A.wfp ρ/\B.wfp ρ/\ ∃ m1 m2,FsP ρ H a m1/\FsP ρ H b m2/\n=m1+ (A.size+ (B.size+m2)):=by
 obtain ⟨m1,r,h1,h2,e⟩:=h.split;cases h2 with
 | cons ra wa h3=>
  cases h3 with
  | cons rb wb h4=>exact ⟨_,_,ra,rb,wa,wb,m1,_,h1,h4,e⟩
theorem wQ {H:Hp} {a b:List V} {x y z:V} {n:Nat} (h:FsP ρ H (a++x::y::z::b) n): ∃ A B C,Rep H A x/\Rep H B y/\Rep H C z/\A.wfp ρ/\B.wfp ρ/\C.wfp ρ/\ ∃ m1 m2,FsP ρ H a m1/\FsP ρ H b m2/\n=m1+ (A.size+ (B.size+ (C.size+m2))):=by
 obtain ⟨m1,r,h1,h2,e⟩:=h.split;cases h2 with
 | cons ra wa h3=>
  cases h3 with
  | cons rb wb h4=>
   cases h4 with
   | cons rc wc h5=>exact ⟨_,_,_,ra,rb,rc,wa,wb,wc,m1,_,h1,h5,e⟩
theorem scFormulaP:av ["tape","readings","many","j","stack","way","sign"] ["tape","readings"] (ak et):=fsc
theorem nj (F:Fun K "_law_formula" "_law_formula" et f fd) (G:Gb mg) (GD:Cl P w K mg base CX0 1 g gd ["tape","many"] bZ "_law_digit")
  (GL:Cl P w K mg base CX0 3 f2 fd2 ["tape","readings"] (kZ ρ) "_law_leaf"):
  a8 P w K mg base CX0 4 f fd ["tape","readings"] (eO ρ):=by
 refine F.ok scFormulaP (λvs H Q E h=>?_) (λcdv A outer s H vs Q E hr h=>?_)
 ·obtain ⟨tp,rl,rs,rfl,_⟩:=h;rfl
 obtain ⟨tp,rl,rs,rfl,hT,hne,hrl,hlen,hL,q⟩:=h;have hr1:=hr.mono (show 1<=3 by decide);obtain ⟨t,ht,hread⟩: ∃ t,PSs (cG CX0 P w K mg base ["tape","readings","many","j","stack","way","sign"] "_law_formula" (ak et) f cdv A outer s H E).nox ((bE et).drop 2) t/\
   ∀ (m:Int) (H2:Hp),1<=m->m<=8->Kp tp H H2->Tp H2 tp->t {nx:=λ_ H'=>Q .non H',rt:=Q} [some (.ref tp),some (.ref rl),some (.int m),none,none,none,none] H2:=by
  refine ⟨_,af (di (i:=4) (sc0:=ak et) (N0:=["tape","readings","many","j","stack","way","sign"]) (ys:=["tape","readings"]) (fr:=[0,1]) rfl scFormulaP.nd rfl (Or.inl rfl) (bz rfl G.range (aa (pv 2) ae)) rfl rfl
    cok
    (λC s H ex=>pcl GL hr (aa (pv 1) (aa (pv 2) ae))))
   (af (gW A5 (ax gj (au (r:=cZ K) aE rfl G.len Bd (aa (pv 4) ae)) ag (aL _))
    (af (psz 5 scFormulaP.nd (pcl GD hr1 (aa (pv 0) (aa ag ae))))
    (aj (bc (PW.pt (fE (ax cr (pv 5) ag (aL _)) (dM (ax gj (au (r:=cZ K) aE rfl G.len Bd (aa (pv 4) ae)) ag (aL _)))))
     (af (psz 3 scFormulaP.nd (pcl GD hr1 (aa (pv 0) (aa (aw gD (au (r:=cZ K) aE rfl G.len Bd (aa (pv 4) ae)) ag) ae))))
     (aj (psz 4 scFormulaP.nd (aw fH (aw fH (aT cy (pv 4) bg (aX (pv 3)))
      (bd (aa (aF (aa aJ (aa (ar (r:=cC K) aY (pv 4) (pv 3) (λ_ _=>rfl)) (aa (ar (r:=cC K) aY (pv 4) (aw bj (pv 3) ag) (λ_ _=>rfl)) (aa (ar (r:=cC K) aY (pv 4) (aw bj (pv 3) ag) (λ_ _=>rfl)) ae))))) ae)))
      (aT cy (pv 4) (aX (aw bj (pv 3) ag)) bg)))))
     (af (psz 3 scFormulaP.nd (pcl GD hr1 (aa (pv 0) (aa (aw gD (au (r:=cZ K) aE rfl G.len Bd (aa (pv 4) ae)) ag) ae))))
     (af (psz 6 scFormulaP.nd (ar (r:=cC K) aY (bd (aa aJ (aa aJ (aa aJ (aa aJ (aa aJ ae)))))) (aw cD (pv 5) ag) (λ_ _=>rfl)))
     (aj (psz 4 scFormulaP.nd (aw fH (aw fH (aT cy (pv 4) bg (aX (pv 3)))
      (bd (aa (aF (aa (pv 6) (aa (ar (r:=cC K) aY (pv 4) (pv 3) (λ_ _=>rfl)) (aa (ar (r:=cC K) aY (pv 4) (aw bj (pv 3) ag) (λ_ _=>rfl)) ae)))) ae)))
      (aT cy (pv 4) (aX (aw bj (pv 3) ag)) bg))))))))))
   (aj (ay (ar (r:=cC K) aY (pv 4) ag (λ_ _=>rfl))))),λm H2 hm1 hm8 k2 tt2=>?_⟩
  have tpn: ∀ {p:Addr} {Hx:Hp},Tp Hx tp->Hx p=none->p≠tp:=λt hp e=>by
   obtain ⟨t0,e0⟩:=t;subst e;rw [e0]at hp;cases hp
  refine ⟨_,rfl,m,rfl,by lia,by lia,?_⟩;refine gc (n:=m.toNat) (R:=λi v=>v=.int (0+i)) (by lia) lW ie i4
   (λp i zs H'=>Kp tp H H'/\Tp H' tp/\H' p=some (.lst zs)/\p≠tp/\zs.length=i/\FsP ρ H' zs i) ?_ ?_ ?_ ?_
  ·intro p hp;exact ⟨k2.new hp,tt2.new hp,ad,tpn tt2 hp,rfl,.nil⟩
  ·rintro p i zs H' ⟨_,_,h,_,e,_⟩;exact ⟨h,e⟩
  ·rintro p i zs H' v k hp hi rfl ⟨k3,t3,hz,hpn,hzl,hf⟩ hk;have hrl':H' rl=some (.lst rs):=k3 _ _ hrl hne;refine ⟨_,rfl,_,rfl,tp,rl,rs,rfl,t3,hne,hrl',hlen,hL.mono (k3.tk hT),λv f H3 rp wf sz k4 t4=>?_⟩;refine hk v H3 (k4 _ _ hz hpn) ⟨?_,?_,ad,hpn,by rw [AI,hzl];rfl,?_⟩
   ·intro b o hb hne';have hbp:b≠p:=λe=>by
     subst e;have:=k2 b o hb hne';rw [hp]at this;cases this
    rw [ah hbp];exact k4 _ _ (k3 _ _ hb hne') hne'
   ·obtain ⟨t0,e0⟩:=t4;exact ⟨t0,by rw [ah (Bg hpn)];exact e0⟩
   ·have tk:TK H3 (upd H3 p (.lst (zs++[v]))):=TK.lst (k4 _ _ hz hpn);have e1:FsP ρ H3 zs i:=hf.mono (k4.tk t3);have e2:=e1.append (FsP.cons rp wf .nil);rw [sz]at e2;exact e2.mono tk
  ·rintro p zs H' hp ⟨k3,t3,hz,hpn,hzl,hf⟩;refine ja (λσ H'=> ∃ (sl:Addr) (ws:List V) (n:Nat) (j wy sg:Option V),σ=[some (.ref tp),some (.ref rl),some (.int m),j,some (.ref sl),wy,sg]/\H' sl=some (.lst ws)/\sl≠tp/\1<=ws.length/\ws.length<=8/\
     FsP ρ H' ws n/\n+ws.length<=16/\Kp tp H H'/\Tp H' tp)
    (λσ H'=>match σ with | [_,_,_,_,some (.ref sl),_,_]=>(match H' sl with | some (.lst ws)=>ws.length | _=>0) | _=>0)
    ⟨p,zs,m.toNat,none,none,none,rfl,hz,hpn,by lia,by lia,hf,by lia,k3,t3⟩ ?_ ?_
   ·rintro σ H3 ⟨sl,ws,n,j,wy,sg,rfl,hsl,hsn,hw1,hw8,hfs,hsz,k4,t4⟩;refine ⟨_,rfl,sl,ws,rfl,.inl (SqL.of hsl),_,_,rfl,rfl,_,rfl,?_⟩;refine dD (λc=>?_) (λc=>?_)
    ·have c':1<ws.length:=by have:=A7 c;lia
     refine ⟨_,rfl,tp,6,rfl,t4,by decide,by decide,λwy t5 hw0 hw6=>?_⟩;have k5:Kp tp H3 (upd H3 tp (.lst [.int t5])):=Kp.tape;have tt5:Tp (upd H3 tp (.lst [.int t5])) tp:=⟨t5,ad⟩;have hsl5:=k5 _ _ hsl hsn;have hfs5:=hfs.mono (k5.tk t4);have k5':=k4.trans k5;generalize upd H3 tp (.lst [.int t5])=H5 at k5 tt5 hsl5 hfs5 k5' ⊢;refine ⟨_,rfl,rfl,_,rfl,?_⟩;refine yJ (c2:=decide (2< (ws.length:Int))) (λh=>⟨_,rfl,sl,ws,rfl,.inl (SqL.of hsl5),_,_,rfl,rfl,_,rfl,h⟩) (λ_ cw=>?_) (λ_=>?_)
     ·-- when
      have cw':2<ws.length:=by have:=A7 cw;lia
      refine ⟨_,rfl,_,rfl,sl,ws,rfl,.inl (SqL.of hsl5),_,_,rfl,rfl,tp,_,rfl,tt5,by lia,by lia,λjj t6 hj0 hj1=>?_⟩;have k6:Kp tp H5 (upd H5 tp (.lst [.int t6])):=Kp.tape;have tt6:Tp (upd H5 tp (.lst [.int t6])) tp:=⟨t6,ad⟩;have hsl6:=k6 _ _ hsl5 hsn;have hfs6:=hfs5.mono (k6.tk tt5);have k6':=k5'.trans k6;generalize upd H5 tp (.lst [.int t6])=H6 at k6 tt6 hsl6 hfs6 k6' ⊢;obtain ⟨a,x,y,z,b,ew,ea,etk,edr⟩:=xH (xs:=ws) (j:=jj.toNat) (by lia);have ej:jj=(a.length:Int):=by lia
      obtain ⟨A,B,C,ra,rb,rc,wa,wb,wc,m1,m2,f1,f2,en⟩:=wQ (ew▸hfs6);have hlw:ws.length=a.length+3+b.length:=by rw [ew];simp;lia
      refine ⟨_,rfl,_,rfl,jj,rfl,sl,ws,rfl,SqL.of hsl6,λp1 hp1=>?_⟩;rw [eI ws hj0 (by lia),etk];have s1:Same H6 (upd H6 p1 (.lst a)):=al hp1 _;have g1:(upd H6 p1 (.lst a)) p1=some (.lst a):=ad;generalize upd H6 p1 (.lst a)=H7 at s1 g1 ⊢;have hsl7:=s1 _ _ hsl6;refine ⟨_,rfl,_,rfl,sl,ws,jj,x,rfl,rfl,SqL.of hsl7,ew▸jO ej,_,rfl,_,rfl,_,_,rfl,rfl,sl,ws,jj+1,y,rfl,rfl,SqL.of hsl7,?_,_,rfl,_,rfl,_,_,rfl,rfl,sl,ws,jj+2,z,rfl,rfl,SqL.of hsl7,?_,(by show 4<=sizeLine;decide),λp2 hp2=>?_⟩
      ·rw [ew,show a++x::y::z::b=(a++[x])++y::z::b by simp];exact jO (by simp;lia)
      ·rw [ew,show a++x::y::z::b=(a++[x,y])++z::b by simp];exact jO (by simp;lia)
      have s2:Same H7 (upd H7 p2 (.tup [.str "when",x,y,z])):=al hp2 _;have g2:(upd H7 p2 (.tup [.str "when",x,y,z])) p2=some (.tup [.str "when",x,y,z]):=ad;generalize upd H7 p2 (.tup [.str "when",x,y,z])=H8 at s2 g2 ⊢;refine ⟨fc,λp3 hp3=>?_⟩;have s3:Same H8 (upd H8 p3 (.lst [.ref p2])):=al hp3 _;have g3:(upd H8 p3 (.lst [.ref p2])) p3=some (.lst [.ref p2]):=ad;generalize upd H8 p3 (.lst [.ref p2])=H9 at s3 g3 ⊢;refine ⟨p1,p3,a,_,rfl,rfl,s3 _ _ (s2 _ _ g1),g3,Bj (am (by simp;lia)),λp4 hp4=>?_⟩;have s4:Same H9 (upd H9 p4 (.lst (a++[.ref p2]))):=al hp4 _;have g4:(upd H9 p4 (.lst (a++[.ref p2]))) p4=some (.lst (a++[.ref p2])):=ad;generalize upd H9 p4 (.lst (a++[.ref p2]))=H10 at s4 g4 ⊢;have s7:Same H7 H10:=s2.trans (s3.trans s4);refine ⟨_,rfl,_,rfl,_,_,rfl,rfl,jj+3,rfl,sl,ws,rfl,SqL.of (s7 _ _ hsl7),λp5 hp5=>?_⟩;rw [jG ws (by lia) (by lia),show (jj+3).toNat=jj.toNat+3 by lia,edr];have s5:Same H10 (upd H10 p5 (.lst b)):=al hp5 _;have g5:(upd H10 p5 (.lst b)) p5=some (.lst b):=ad;generalize upd H10 p5 (.lst b)=H11 at s5 g5 ⊢;refine ⟨p4,p5,_,b,rfl,rfl,s5 _ _ g4,g5,Bj (am (by simp;lia)),λp6 hp6=>?_⟩;have s6:Same H6 H11:=s1.trans (s7.trans s5);have st:Same H6 (upd H11 p6 (.lst (a++[.ref p2]++b))):=s6.trans (al hp6 _);have tk:TK H6 (upd H11 p6 (.lst (a++[.ref p2]++b))):=λc xs h=>st _ _ h;have g2':(upd H11 p6 (.lst (a++[.ref p2]++b))) p2=some (.tup [.str "when",x,y,z]):=(al hp6 _) _ _ (s5 _ _ (s4 _ _ (s3 _ _ g2)));have tt7:Tp (upd H11 p6 (.lst (a++[.ref p2]++b))) tp:=by obtain ⟨t0,e0⟩:=tt6;exact ⟨t0,st _ _ e0⟩
      refine ⟨⟨p6,_,m1+ ((Fm.whn A B C).size+0) +m2,_,_,_,rfl,ad,?_,by simp;lia,by simp;lia,?_,?_,k6'.same st,tt7⟩,?_⟩
      ·intro e;obtain ⟨t0,e0⟩:=tt6;have:=s6 _ _ e0;rw [<- e,hp6]at this;cases this
      ·exact ((f1.mono tk).append (FsP.cons (f:=.whn A B C) ⟨p2,x,y,z,rfl,g2',ra.mono tk,rb.mono tk,rc.mono tk⟩ ⟨wa,wb,wc⟩ .nil)).append (f2.mono tk)
      ·show m1+ ((A.size+B.size+C.size+1) +0) +m2+ (a++[V.ref p2]++b).length<=16;simp;lia
      ·show (match (upd H11 p6 (.lst (a++[.ref p2]++b))) p6 with | some (.lst ws)=>ws.length | _=>0) < (match H3 sl with | some (.lst ws)=>ws.length | _=>0);rw [ad,hsl];simp;lia
     ·-- one of the five signs
      refine ⟨_,rfl,_,rfl,sl,ws,rfl,.inl (SqL.of hsl5),_,_,rfl,rfl,tp,_,rfl,tt5,by lia,by lia,λjj t6 hj0 hj1=>?_⟩;have k6:Kp tp H5 (upd H5 tp (.lst [.int t6])):=Kp.tape;have tt6:Tp (upd H5 tp (.lst [.int t6])) tp:=⟨t6,ad⟩;have hsl6:=k6 _ _ hsl5 hsn;have hfs6:=hfs5.mono (k6.tk tt5);have k6':=k5'.trans k6;generalize upd H5 tp (.lst [.int t6])=H6 at k6 tt6 hsl6 hfs6 k6' ⊢;refine ⟨(by show 5<=sizeLine;decide),λp0 hp0=>?_⟩;have s0:Same H6 (upd H6 p0 (.lst [.str "plus",.str "less",.str "times",.str "least",.str "most"])):=al hp0 _;have g0:(upd H6 p0 (.lst [.str "plus",.str "less",.str "times",.str "least",.str "most"])) p0=some (.lst [.str "plus",.str "less",.str "times",.str "least",.str "most"]):=ad;generalize upd H6 p0 (.lst [.str "plus",.str "less",.str "times",.str "least",.str "most"])=H6b at s0 g0 ⊢;obtain ⟨op,hop,hopm⟩: ∃ op,atI [V.str "plus",.str "less",.str "times",.str "least",.str "most"] (wy%5)=some (.str op)/\op∈ops:=by
       have h1:=Co wy (show (5:Int)≠0 by decide);have h2:=BZ wy (show (0:Int) <5 by decide);have h5:wy%5=0\/wy%5=1\/wy%5=2\/wy%5=3\/wy%5=4:=by lia
       rcases h5 with h | h | h | h | h <;> rw [h]
       ·exact ⟨"plus",rfl,by simp [ops]⟩
       ·exact ⟨"less",rfl,by simp [ops]⟩
       ·exact ⟨"times",rfl,by simp [ops]⟩
       ·exact ⟨"least",rfl,by simp [ops]⟩
       ·exact ⟨"most",rfl,by simp [ops]⟩
      refine ⟨_,rfl,_,_,rfl,rfl,(by show (0:Int) <5;decide),p0,_,_,_,rfl,rfl,SqL.of g0,hop,?_⟩;obtain ⟨a,x,y,b,ew,ea,etk,edr⟩:=xI (xs:=ws) (j:=jj.toNat) (by lia);have ej:jj=(a.length:Int):=by lia
      obtain ⟨A,B,ra,rb,wa,wb,m1,m2,f1,f2,en⟩:=wR (ew▸hfs6);have hlw:ws.length=a.length+2+b.length:=by rw [ew];simp;lia
      have hsl6b:=s0 _ _ hsl6;refine ⟨_,rfl,_,rfl,jj,rfl,sl,ws,rfl,SqL.of hsl6b,λp1 hp1=>?_⟩;rw [eI ws hj0 (by lia),etk];have s1:Same H6b (upd H6b p1 (.lst a)):=al hp1 _;have g1:(upd H6b p1 (.lst a)) p1=some (.lst a):=ad;generalize upd H6b p1 (.lst a)=H7 at s1 g1 ⊢;have hsl7:=s1 _ _ hsl6b;refine ⟨_,rfl,_,rfl,_,rfl,sl,ws,jj,x,rfl,rfl,SqL.of hsl7,ew▸jO ej,_,rfl,_,rfl,_,_,rfl,rfl,sl,ws,jj+1,y,rfl,rfl,SqL.of hsl7,?_,dU,λp2 hp2=>?_⟩
      ·rw [ew,show a++x::y::b=(a++[x])++y::b by simp];exact jO (by simp;lia)
      have s2:Same H7 (upd H7 p2 (.tup [.str op,x,y])):=al hp2 _;have g2:(upd H7 p2 (.tup [.str op,x,y])) p2=some (.tup [.str op,x,y]):=ad;generalize upd H7 p2 (.tup [.str op,x,y])=H8 at s2 g2 ⊢;refine ⟨fc,λp3 hp3=>?_⟩;have s3:Same H8 (upd H8 p3 (.lst [.ref p2])):=al hp3 _;have g3:(upd H8 p3 (.lst [.ref p2])) p3=some (.lst [.ref p2]):=ad;generalize upd H8 p3 (.lst [.ref p2])=H9 at s3 g3 ⊢;refine ⟨p1,p3,a,_,rfl,rfl,s3 _ _ (s2 _ _ g1),g3,Bj (am (by simp;lia)),λp4 hp4=>?_⟩;have s4:Same H9 (upd H9 p4 (.lst (a++[.ref p2]))):=al hp4 _;have g4:(upd H9 p4 (.lst (a++[.ref p2]))) p4=some (.lst (a++[.ref p2])):=ad;generalize upd H9 p4 (.lst (a++[.ref p2]))=H10 at s4 g4 ⊢;have s7:Same H7 H10:=s2.trans (s3.trans s4);refine ⟨_,rfl,_,rfl,_,_,rfl,rfl,jj+2,rfl,sl,ws,rfl,SqL.of (s7 _ _ hsl7),λp5 hp5=>?_⟩;rw [jG ws (by lia) (by lia),show (jj+2).toNat=jj.toNat+2 by lia,edr];have s5:Same H10 (upd H10 p5 (.lst b)):=al hp5 _;have g5:(upd H10 p5 (.lst b)) p5=some (.lst b):=ad;generalize upd H10 p5 (.lst b)=H11 at s5 g5 ⊢;refine ⟨p4,p5,_,b,rfl,rfl,s5 _ _ g4,g5,Bj (am (by simp;lia)),λp6 hp6=>?_⟩;have s6:Same H6 H11:=s0.trans (s1.trans (s7.trans s5));have st:Same H6 (upd H11 p6 (.lst (a++[.ref p2]++b))):=s6.trans (al hp6 _);have tk:TK H6 (upd H11 p6 (.lst (a++[.ref p2]++b))):=λc xs h=>st _ _ h;have g2':(upd H11 p6 (.lst (a++[.ref p2]++b))) p2=some (.tup [.str op,x,y]):=(al hp6 _) _ _ (s5 _ _ (s4 _ _ (s3 _ _ g2)));have tt7:Tp (upd H11 p6 (.lst (a++[.ref p2]++b))) tp:=by obtain ⟨t0,e0⟩:=tt6;exact ⟨t0,st _ _ e0⟩
      refine ⟨⟨p6,_,m1+ ((Fm.bin op A B).size+0) +m2,_,_,_,rfl,ad,?_,by simp;lia,by simp;lia,?_,?_,k6'.same st,tt7⟩,?_⟩
      ·intro e;obtain ⟨t0,e0⟩:=tt6;have:=s6 _ _ e0;rw [<- e,hp6]at this;cases this
      ·exact ((f1.mono tk).append (FsP.cons (f:=.bin op A B) ⟨p2,x,y,rfl,g2',ra.mono tk,rb.mono tk⟩ ⟨hopm,wa,wb⟩ .nil)).append (f2.mono tk)
      ·show m1+ ((A.size+B.size+1) +0) +m2+ (a++[V.ref p2]++b).length<=16;simp;lia
      ·show (match (upd H11 p6 (.lst (a++[.ref p2]++b))) p6 with | some (.lst ws)=>ws.length | _=>0) < (match H3 sl with | some (.lst ws)=>ws.length | _=>0);rw [ad,hsl];simp;lia
    ·have c':ws.length=1:=by
      have: ¬ (1:Int) < (ws.length:Int):=λz=>c (AO z);lia
     obtain ⟨x,ex⟩:=List.length_eq_one_iff.mp c';subst ex;cases hfs with
     | cons rp wf f2=>
      cases f2;refine ⟨_,rfl,sl,_,0,x,rfl,rfl,SqL.of hsl,bx,q x _ H3 rp wf (by simp at hsz;lia) k4 t4⟩
   ·rintro σ H3 Q1 Q2 hq ⟨y,e1,p,ys,e2,h2,i,j,e3,e4,k,e5,h⟩;exact ⟨y,e1,p,ys,e2,h2,i,j,e3,e4,k,e5,hq _ _ h⟩
 refine ⟨_,af (psz 2 scFormulaP.nd (aw bj ag (pcl GD hr1 (aa (pv 0) (aa ag ae)))))
  (af (bc (ax cr (pcl GD hr1 (aa (pv 0) (aa ag ae))) ag (aL _)) (aj (psz 2 scFormulaP.nd ag)) aK) ht),?_⟩
 refine ⟨_,rfl,tp,4,rfl,hT,by decide,by decide,λd1 t1 h10 h11=>?_⟩;refine ⟨1,_,rfl,rfl,?_⟩;refine ⟨_,rfl,tp,16,rfl,⟨t1,ad⟩,by decide,by decide,λd2 t2 h20 h21=>?_⟩;rw [dH];refine ⟨rfl,_,rfl,?_⟩;refine dD (λc9=>?_) (λc9=>?_)
 ·exact hread 8 _ (by decide) (by decide) Kp.tape ⟨t2,ad⟩
 ·exact hread (1+d1) _ (by lia) (by lia) Kp.tape ⟨t2,ad⟩
noncomputable def ndB:List Str->Bool
 | []=>true
 | x::r=> !(r.any λy=>x.cps.toList==y.cps.toList)&&ndB r
theorem uR: ∀ {l:List Str},ndB l=true->l.Nodup
 | [],_=>CU
 | x::r,h=>by
  unfold ndB at h;rw [Bb]at h;refine BG.mpr ⟨λm=>?_,uR h.2⟩;have h1:=h.1;rw [Fa,List.any_eq_false]at h1;exact h1 x m (by simp)
theorem se:((List.range 3).all λway=>(List.range 26).all λtu=>ndB ((List.range 13).map (jU way tu))&&((List.range 13).map (jU way tu)).all cH)=true:=by
 decide +kernel
theorem NamesAre.ok {m:Nat} {ws:List Str} (h:NamesAre m ws) (hm:m<=13):ws.length=m/\ws.Nodup/\ ∀ x∈ws,cH x=true:=by
 obtain ⟨way,tu,back,h1,h2,e⟩:=h;have a:=se;rw [DG]at a;have a:=a way (Dd.mpr h1);rw [DG]at a;have a:=a tu (Dd.mpr h2);rw [Bb]at a;have n13:=uR a.1;have w13:=DG.mp a.2;have sub:((List.range m).map (jU way tu)).Sublist ((List.range 13).map (jU way tu)):=List.Sublist.map _ (List.range_sublist.mpr hm);have nd:=n13.sublist sub;have wd: ∀ x∈(List.range m).map (jU way tu),cH x=true:=λx hx=>w13 x (sub.subset hx);have ln:((List.range m).map (jU way tu)).length=m:=by rw [AD,Em]
 cases back with
 | false=>
  rw [AQ (by decide)]at e;subst e;exact ⟨ln,nd,wd⟩
 | true=>
  rw [AX rfl]at e;subst e;exact ⟨by rw [Ck];exact ln,(List.reverse_perm _).nodup_iff.mpr nd,λx hx=>wd x (List.mem_reverse.mp hx)⟩
structure Srt where
 name:Str
 downs:List Str
 ups:List Str
inductive RepS (H:Hp) (s:Srt) (v:V):Prop
 | mk: ∀ a b c,(v=.ref a)->(H a=some (.tup [.str s.name,.ref b,.ref c]))->(H b=some (.tup (s.downs.map V.str)))->(H c=some (.tup (s.ups.map V.str)))->RepS H s v
theorem RepS.mono {H H':Hp} (t:TK H H') {s:Srt} {v:V}:RepS H s v->RepS H' s v:=λ⟨a,b,c,e,h1,h2,h3⟩=>⟨a,b,c,e,t _ _ h1,t _ _ h2,t _ _ h3⟩
def Srt.ok (s:Srt):Prop:=(s.downs++s.ups).Nodup/\(∀ x∈s.downs++s.ups,cH x=true)/\s.downs.length<=3/\s.ups.length<=3/\1<=s.downs.length+s.ups.length
def RepSs (H:Hp) (ss:List Srt) (vs:List V):Prop:=Paired (RepS H) ss vs
theorem RepSs.mono {H H':Hp} (t:TK H H') {ss:List Srt} {vs:List V} (h:RepSs H ss vs):RepSs H' ss vs:=Paired.mapP h λ_ _ r=>r.mono t
theorem RepSs.len {H:Hp} {ss:List Srt} {vs:List V} (h:RepSs H ss vs):ss.length=vs.length:=AZ h
theorem aH {α β:Type} {F:α->β->Prop}: ∀ {l:List α} {r:List β} {i:Nat} {b:β},Paired F l r->r[i]? =some b-> ∃ a,l[i]? =some a/\F a b
 | _,_,i,b,.nil,e=>by cases i <;> cases e
 | _,_,0,b,.cons h _,e=>⟨_,rfl,by cases e;exact h⟩
 | _,_,i+1,b,.cons _ t,e=>aH (i:=i) t e
def du (ss:List Srt):Prop:=1<=ss.length/\ss.length<=4/\(ss.map Srt.name).Nodup/\(∀ s∈ss,cH s.name=true)/\ ∀ s∈ss,s.ok
theorem j2 {ws:List Str} (n:ws.Nodup) (w: ∀ x∈ws,cH x=true) (hl:ws.length=6) (k d u:Nat) (hd:d<=3) (hu:u<=3) (h1:1<=d+u) (nm:Str):
  (Srt.mk nm ((ws.drop k++ws.take k).take d) (((ws.drop k++ws.take k).drop d).take u)).ok:=by
 have nt:(ws.drop k++ws.take k).Nodup:=by
  have:(ws.drop k++ws.take k).Perm (ws.take k++ws.drop k):=List.perm_append_comm;rw [Dt]at this;exact this.nodup_iff.mpr n
 have mt: ∀ x∈ws.drop k++ws.take k,cH x=true:=λx hx=>by
  rw [AT]at hx;rcases hx with h | h
  ·exact w x (List.mem_of_mem_drop h)
  ·exact w x (BP h)
 have lt:(ws.drop k++ws.take k).length=6:=by rw [AI,CQ,A4];lia
 generalize ws.drop k++ws.take k=ts at nt mt lt;have sub:(ts.take d++(ts.drop d).take u).Sublist ts:=by
  have:=Dt d ts
  conv=>rhs;rw [<- this]
  exact List.Sublist.append (List.Sublist.refl _) (Dx _ _)
 refine ⟨nt.sublist sub,λx hx=>mt x (sub.subset hx),?_,?_,?_⟩
 ·show (ts.take d).length<=3;rw [A4];lia
 ·show ((ts.drop d).take u).length<=3;rw [A4];lia
 ·show 1<=(ts.take d).length+ ((ts.drop d).take u).length;rw [A4,A4,CQ];lia
inductive kY  (vs:List V) (H:Hp) (Q:VK) (E_:XK):Prop
 | mk: ∀ tp c,(vs=[.ref tp,.bl c])->(Tp H tp)->(∀ a ss xs H',H' a=some (.tup xs)->RepSs H' ss xs->du ss->Kp tp H H'->Tp H' tp->Q (.ref a) H')->kY vs H Q E_
theorem zx (k:Bool): ∃ m:Int,atI [V.int 3,V.int 4] (if k then 1 else 0)=some (.int m)/\3<=m/\m<=4:=by
 cases k
 ·exact ⟨3,rfl,by decide,by decide⟩
 ·exact ⟨4,rfl,by decide,by decide⟩
theorem uS {d u:Int} (hd:0<=d) (hu:0<=u) (hu3:u<=3): ∃ u1:Int,(if (if decide (V.int d=V.int 0)=true then (1:Int)else 0) >u then (if decide (V.int d=V.int 0)=true then (1:Int)else 0)else u)=u1/\0<=u1/\u1<=3/\1<=d+u1:=by
 refine ⟨_,rfl,?_⟩;by_cases c:d=0
 ·subst c;rw [AX (AO rfl)];split <;> lia
 ·rw [AQ (λe=>c (V.int.inj (A7 e)))];split <;> lia
theorem dI {H:Hp} {tp p:Addr} (t:Tp H tp) (hp:H p=none):p≠tp:=λe=>by
 obtain ⟨t0,e0⟩:=t;subst e;rw [e0]at hp;cases hp
theorem qF (xs:List V) {a b:Nat} (h:a+b<=xs.length):db xs (some (a:Int)) (some ((a:Int) + (b:Int)))=(xs.drop a).take b:=by
 unfold db;rw [show ((a:Int) + (b:Int))=((a+b:Nat):Int) by lia,HT.sIx_nat,HT.sIx_nat,Nat.min_eq_left h,Nat.min_eq_left (by lia),Nat.add_sub_cancel_left]
theorem scSorts:av ["tape","few","many","names","words","sorts","k","most","downs","ups","turned"] ["tape","few"] (ak on):=fsc
theorem uD (F:Fun K "_law_sorts" "_law_sorts" on f fd) (G:Gb mg) (GD:Cl P w K mg base CX0 1 g gd ["tape","many"] bZ "_law_digit")
  (GN:Cl P w K mg base CX0 2 f2 fd2 ["tape","many"] fu "_law_names"):
  a8 P w K mg base CX0 3 f fd ["tape","few"] kY:=by
 refine F.ok scSorts (λvs H Q E h=>?_) (λcdv A outer s H vs Q E hr h=>?_)
 ·obtain ⟨tp,c,rfl,_⟩:=h;rfl
 obtain ⟨tp,few,rfl,hT,q⟩:=h;have hr1:=hr.mono (show 1<=2 by decide);refine ⟨_,af (psz 2 scSorts.nd (aw bj ag (pcl GD hr1 (aa (pv 0) (aa
    (ar (r:=cC K) aY (bd (aa ag (aa ag ae))) (aU eJ rfl G.int (by decide +kernel) (aa (dQ cr (pcl GD hr1 (aa (pv 0) (aa ag ae))) ag (aL _)) ae)) (λ_ _=>rfl)) ae)))))
  (af (psz 3 scSorts.nd (pcl GN hr (aa (pv 0) (aa (pv 2) ae))))
  (af (psz 4 scSorts.nd (pcl GN hr (aa (pv 0) (aa ag ae))))
  (af (psz 5 scSorts.nd (bd ae))
  (af (bi A5 rfl (bz rfl G.range (aa (pv 2) ae)) (pgz 6 scSorts.nd)
   (af (psz 7 scSorts.nd (ar (r:=cC K) aY (bd (aa ag (aa ag ae))) (aU eJ rfl G.int (by decide +kernel) (aa (dQ cr (pcl GD hr1 (aa (pv 0) (aa ag ae))) ag (aL _)) ae)) (λ_ _=>rfl)))
   (af (psz 8 scSorts.nd (pcl GD hr1 (aa (pv 0) (aa (pv 7) ae))))
   (af (psz 9 scSorts.nd (au (kL rfl) rfl G.max (by decide +kernel) (aa (pcl GD hr1 (aa (pv 0) (aa (pv 7) ae)))
    (aa (aU eJ rfl G.int (by decide +kernel) (aa (dQ cr (pv 8) ag (aL _)) ae)) ae))))
   (af (bc (PW.pt (fE (cR (pv 1)) (dM (ax gj (aw df (pv 8) (pv 9)) ag (aL _))))) (aj (psz 9 scSorts.nd (aw lL ag (pv 8)))) aK)
   (af (psz 10 scSorts.nd (aw fH (aT cy (pv 4) (aX (aw cD (pv 6) ag)) bg) (aT cy (pv 4) bg (aX (aw cD (pv 6) ag)))))
   (aj (bC (dC A8 Bq Br bp (pv 5) (aa (aF (aa (ar (r:=cC K) aY (pv 3) (pv 6) (λ_ _=>rfl))
    (aa (aU (r:=bU K) aN rfl G.tuple (by decide +kernel) (aa (aT cy (pv 10) bg (aX (pv 8))) ae))
    (aa (aU (r:=bU K) aN rfl G.tuple (by decide +kernel) (aa (aT cy (pv 10) (aX (pv 8)) (aX (aw bj (pv 8) (pv 9)))) ae)) ae)))) ae))))))))))
  (aj (ay (aU (r:=bU K) aN rfl G.tuple (by decide +kernel) (aa (pv 5) ae)))))))),?_⟩
 refine ⟨_,rfl,cB,λp0 hp0=>?_⟩;refine ⟨_,rfl,tp,8,rfl,hT.new hp0,by decide,by decide,λd0 t0 _ _=>⟨rfl,?_⟩⟩;obtain ⟨m0,em0,hm3,hm4⟩:=zx (decide (V.int d0=V.int 5));refine .inr ⟨_,rfl,p0,_,_,_,rfl,rfl,SqL.of (by rw [ah (dI hT hp0)];exact ad),em0,?_⟩;have k0:Kp tp H (upd (upd H p0 (.lst [.int 3,.int 4])) tp (.lst [.int t0])):=(Kp.refl.new hp0).trans Kp.tape;have tt0:Tp (upd (upd H p0 (.lst [.int 3,.int 4])) tp (.lst [.int t0])) tp:=⟨t0,ad⟩;generalize upd (upd H p0 (.lst [.int 3,.int 4])) tp (.lst [.int t0])=H1 at k0 tt0 ⊢;refine ⟨tp,_,rfl,tt0,by lia,by lia,λdm t1 hdm0 hdm1=>?_⟩;have k1:Kp tp H (upd H1 tp (.lst [.int t1])):=k0.trans Kp.tape;have tt1:Tp (upd H1 tp (.lst [.int t1])) tp:=⟨t1,ad⟩;generalize upd H1 tp (.lst [.int t1])=H2 at k1 tt1 ⊢;refine ⟨1,_,rfl,rfl,?_⟩;refine ⟨_,rfl,_,rfl,tp,_,rfl,tt1,by lia,by lia,λnl ns H3 hnl hnlen hN hnne k2' tt2=>?_⟩;have k2:=k1.trans k2';refine ⟨_,rfl,tp,6,rfl,tt2,by decide,by decide,λwl ws H4 hwl hwlen hW hwne k3' tt3=>?_⟩;have k3:=k2.trans k3';have hnl4:=k3' _ _ hnl hnne;refine ⟨iq,λsl hsl=>?_⟩;have hslt:=dI tt3 hsl;have k4:Kp tp H (upd H4 sl (.lst [])):=k3.new hsl;have tt4:=tt3.new (o:=.lst []) hsl;have s4:=al hsl (.lst []);have nsl:nl≠sl:=ai hnl4 hsl;have wsl:wl≠sl:=ai hwl hsl;have hnl5:=s4 _ _ hnl4;have hwl5:=s4 _ _ hwl;have hsl5:(upd H4 sl (.lst [])) sl=some (.lst []):=ad;generalize upd H4 sl (.lst [])=H5 at k4 tt4 hnl5 hwl5 hsl5 ⊢;obtain ⟨nLen,nNd,nWd⟩:=hN.ok (by lia);obtain ⟨wLen,wNd,wWd⟩:=hW.ok (by decide);have wLen6:ws.length=6:=wLen;refine ⟨_,rfl,1+dm,rfl,by lia,by lia,?_⟩;refine cW (λi σ H'=> ∃ o6 o7 o8 o9 o10 zs ss,σ=[some (.ref tp),some (.bl few),some (.int (1+dm)),some (.ref nl),some (.ref wl),some (.ref sl),o6,o7,o8,o9,o10]/\Kp tp H H'/\Tp H' tp/\H' nl=some (.lst (ns.map V.str))/\H' wl=some (.lst (ws.map V.str))/\H' sl=some (.lst zs)/\RepSs H' ss zs/\ss.length=i/\(∀ s∈ss,s.ok)/\ss.map Srt.name=ns.take i)
  ⟨none,none,none,none,none,[],[],rfl,k4,tt4,hnl5,hwl5,hsl5,.nil,rfl,λs h=>(by cases h),rfl⟩ ?_ ?_
 ·rintro i σ H6 hi ⟨o6,o7,o8,o9,o10,zs,ss,rfl,k6,tt6,hnl6,hwl6,hsl6,hR,hssl,hok,hnm⟩;refine ⟨cB,λp0 hp0=>?_⟩;refine ⟨_,rfl,tp,8,rfl,tt6.new hp0,by decide,by decide,λd0 t0 _ _=>⟨rfl,?_⟩⟩;obtain ⟨m1,em1,hm3,hm4⟩:=zx (decide (V.int d0=V.int 5));refine .inr ⟨_,rfl,p0,_,_,_,rfl,rfl,SqL.of (by rw [ah (dI tt6 hp0)];exact ad),em1,?_⟩;have k7:Kp tp H6 (upd (upd H6 p0 (.lst [.int 3,.int 4])) tp (.lst [.int t0])):=(Kp.refl.new hp0).trans Kp.tape;have tt7:Tp (upd (upd H6 p0 (.lst [.int 3,.int 4])) tp (.lst [.int t0])) tp:=⟨t0,ad⟩;generalize upd (upd H6 p0 (.lst [.int 3,.int 4])) tp (.lst [.int t0])=H7 at k7 tt7 ⊢;refine ⟨_,rfl,_,rfl,tp,_,rfl,tt7,by lia,by lia,λd t2 hd0 hd1=>?_⟩;have k8:Kp tp H6 (upd H7 tp (.lst [.int t2])):=k7.trans Kp.tape;have tt8:Tp (upd H7 tp (.lst [.int t2])) tp:=⟨t2,ad⟩;generalize upd H7 tp (.lst [.int t2])=H8 at k8 tt8 ⊢;refine ⟨_,rfl,_,rfl,tp,_,rfl,tt8,by lia,by lia,λu t3 hu0 hu1=>?_⟩;have k9:Kp tp H6 (upd H8 tp (.lst [.int t3])):=k8.trans Kp.tape;have tt9:Tp (upd H8 tp (.lst [.int t3])) tp:=⟨t3,ad⟩;generalize upd H8 tp (.lst [.int t3])=H9 at k9 tt9 ⊢;obtain ⟨u1,eu1,hu10,hu13,hdu⟩:=uS (d:=d) (u:=u) hd0 hu0 (by lia);refine ⟨_,rfl,rfl,.inr ⟨_,rfl,_,_,rfl,?_⟩⟩;rw [eu1];refine ⟨_,rfl,few,rfl,?_⟩;refine yJ (c2:=decide (3<d*u1)) (λh=>⟨_,rfl,_,rfl,_,_,rfl,rfl,.inl ⟨by lia,by lia⟩,_,_,rfl,rfl,_,rfl,h⟩) (λ_ c=>?A) (λ_=>?B)
  case' A=>
   have c':3<d*u1:=A7 c;have hdp:0<d:=by
    rcases (show d=0\/0<d by lia)with h | h
    ·subst h;lia
    ·exact h
   refine ⟨_,rfl,3,d,rfl,rfl,⟨hdp,by lia⟩,?_⟩;obtain ⟨v,hv,ev⟩: ∃ v:Int,(0<=v/\v<=3/\1<=d+v)/\V.int (3/d)=V.int v:=by
    refine ⟨3/d,?_,rfl⟩;rcases (show d=1\/d=2\/d=3 by lia)with h | h | h <;> subst h <;> decide
   rw [ev]
  case' B=>
   have hv:0<=u1/\u1<=3/\1<=d+u1:=⟨hu10,hu13,hdu⟩;generalize u1=v at hv ⊢
  all_goals
   have hwl9:=k9 _ _ hwl6 hwne;have hnl9:=k9 _ _ hnl6 hnne;have hsl9:=k9 _ _ hsl6 hslt;have hkk0:0<=(0+ (i:Int)) %6:=Co _ (by decide);have hkk1:(0+ (i:Int)) %6<6:=BZ _ (by decide);refine ⟨_,rfl,_,rfl,_,_,rfl,rfl,(by show (0:Int) <6;decide),_,rfl,wl,_,rfl,SqL.of hwl9,λp1 hp1=>?_⟩;rw [jG (ws.map V.str) hkk0 (by rw [AD];lia)];have hn6:((0+ (i:Int)) %6).toNat<=6:=by lia
   have hct:db (ws.map V.str) none (some ((0+ (i:Int)) %6))=(ws.map V.str).take ((0+ (i:Int)) %6).toNat:=eI (ws.map V.str) hkk0 (by rw [AD];lia);generalize hn:((0+ (i:Int)) %6).toNat=n at hct hn6 ⊢;obtain ⟨Ha,eW,s1,g1⟩:=nw hp1 (.lst ((ws.map V.str).drop n));rw [eW];refine ⟨_,rfl,_,rfl,_,_,rfl,rfl,(by show (0:Int) <6;decide),_,rfl,wl,_,rfl,SqL.of (s1 _ _ hwl9),λp2 hp2=>?_⟩;rw [hct];obtain ⟨Hb,eW,s2,g2⟩:=nw hp2 (.lst ((ws.map V.str).take n));rw [eW];have lcat:((ws.map V.str).drop n).length+ ((ws.map V.str).take n).length<=12:=by rw [CQ,A4,AD];lia
   refine ⟨p1,p2,_,_,rfl,rfl,s2 _ _ g1,g2,Bj (am (by lia)),λp3 hp3=>?_⟩;have e3:(ws.map V.str).drop n++(ws.map V.str).take n=(ws.drop n++ws.take n).map V.str:=by rw [Be,List.map_drop,Cg]
   rw [e3];have lts:(ws.drop n++ws.take n).length=6:=by rw [AI,CQ,A4];lia
   have hsok:=λnm=>j2 wNd wWd wLen6 n d.toNat v.toNat (by lia) (by lia) (by lia) nm;generalize ws.drop n++ws.take n=ts at lts hsok ⊢;obtain ⟨Hc,eW,s3,g3⟩:=nw hp3 (.lst (ts.map V.str));rw [eW];have S9:Same H9 Hc:=s1.trans (s2.trans s3);have hslc:=S9 _ _ hsl9;have hnlc:=S9 _ _ hnl9;have hwlc:=S9 _ _ hwl9;have kc:Kp tp H6 Hc:=k9.same S9;have ttc:Tp Hc tp:=tt9.same S9;refine ⟨_,rfl,.inl ⟨rfl,_,SqL.of hslc⟩,?_⟩;obtain ⟨nm,enm⟩: ∃ nm,ns[i]? =some nm:=⟨ns[i]'(by lia),AG (by lia)⟩;have eat:atI (ns.map V.str) (0+ (i:Int))=some (V.str nm):=by
    rw [DI];exact aZ (by rw [AS,enm];rfl)
   refine ⟨_,rfl,_,rfl,nl,_,_,_,rfl,rfl,SqL.of hnlc,eat,?_⟩;refine ⟨_,rfl,_,rfl,d,rfl,p3,_,rfl,SqL.of g3,λp4 hp4=>?_⟩;rw [eI (ts.map V.str) hd0 (by rw [AD];lia),<- Cg];obtain ⟨Hd,eW,s4,g4⟩:=nw hp4 (.lst ((ts.take d.toNat).map V.str));rw [eW];refine ⟨p4,_,rfl,.inl ⟨SqL.of g4,λp5 hp5=>?_⟩⟩;obtain ⟨He,eW,s5,g5⟩:=nw hp5 (.tup ((ts.take d.toNat).map V.str));rw [eW];refine ⟨_,rfl,_,rfl,d,rfl,_,rfl,_,rfl,_,_,rfl,rfl,_,rfl,p3,_,rfl,SqL.of (s5 _ _ (s4 _ _ g3)),λp6 hp6=>?_⟩;have ecm:db (ts.map V.str) (some d) (some (d+v))=((ts.drop d.toNat).take v.toNat).map V.str:=by
    have:=qF (ts.map V.str) (a:=d.toNat) (b:=v.toNat) (by rw [AD];lia);rw [show ((d.toNat:Nat):Int)=d by lia,show ((v.toNat:Nat):Int)=v by lia]at this;rw [this,Cg,List.map_drop]
   rw [ecm];obtain ⟨Hf,eW,s6,g6⟩:=nw hp6 (.lst (((ts.drop d.toNat).take v.toNat).map V.str));rw [eW];refine ⟨p6,_,rfl,.inl ⟨SqL.of g6,λp7 hp7=>?_⟩⟩;obtain ⟨Hg,eW,s7,g7⟩:=nw hp7 (.tup (((ts.drop d.toNat).take v.toNat).map V.str));rw [eW];refine ⟨dU,λp8 hp8=>?_⟩;obtain ⟨Hh,eW,s8,g8⟩:=nw hp8 (.tup [.str nm,.ref p5,.ref p7]);rw [eW];have Sc:Same Hc Hh:=s4.trans (s5.trans (s6.trans (s7.trans s8)));have hslh:=Sc _ _ hslc;have hzl:zs.length=i:=by rw [<- hR.len];exact hssl
   refine ⟨sl,zs,.ref p8,rfl,rfl,hslh,am (by lia),?_⟩;have tk:TK Hh (upd Hh sl (.lst (zs++[.ref p8]))):=TK.lst hslh;have kh:Kp tp H6 Hh:=kc.same Sc;refine ⟨_,_,_,_,_,zs++[.ref p8],ss++[⟨nm,ts.take d.toNat,(ts.drop d.toNat).take v.toNat⟩],rfl,?_,?_,?_,?_,ad,?_,?_,?_,?_⟩
   ·intro b o hb hbn;rw [ah (ai (k3 _ _ hb hbn) hsl)];exact kh _ _ (k6 _ _ hb hbn) hbn
   ·obtain ⟨t9,e9⟩:=ttc.same Sc;exact ⟨t9,by rw [ah (Bg hslt)];exact e9⟩
   ·rw [ah nsl];exact Sc _ _ hnlc
   ·rw [ah wsl];exact Sc _ _ hwlc
   ·exact BH (hR.mono ((kh.tk tt6).trans tk)) ⟨p8,p5,p7,rfl,tk _ _ g8,tk _ _ (s8 _ _ (s7 _ _ (s6 _ _ g5))),tk _ _ (s8 _ _ g7)⟩
   ·rw [AI,hssl];rfl
   ·intro s hs;rw [AT,AE]at hs;rcases hs with h | h
    ·exact hok s h
    ·subst h;exact hsok nm
   ·rw [Be,hnm,E1,By,enm];rfl
 ·rintro σ H6 ⟨o6,o7,o8,o9,o10,zs,ss,rfl,k6,tt6,hnl6,hwl6,hsl6,hR,hssl,hok,hnm⟩;refine ⟨_,rfl,sl,zs,rfl,.inl ⟨SqL.of hsl6,λpt hpt=>?_⟩⟩;refine q pt ss zs _ ad (hR.mono (TK.new hpt)) ⟨by lia,by lia,?_,?_,hok⟩ (k6.new hpt) (tt6.new hpt)
  ·rw [hnm];exact nNd.sublist (Dx _ _)
  ·intro s hs;refine nWd _ (BP (i:=(1+dm).toNat) ?_);rw [<- hnm];exact List.mem_map_of_mem hs
def vE (H:Hp) (ys:List V) (z:V):Prop:= ∃ a,z=.ref a/\H a=some (.tup ys)
def Tups (H:Hp) (yss:List (List V)) (zs:List V):Prop:=Paired (vE H) yss zs
theorem Tups.mono {H H':Hp} (t:TK H H') {yss:List (List V)} {zs:List V} (h:Tups H yss zs):Tups H' yss zs:=Paired.mapP h λ_ _ ⟨a,e,g⟩=>⟨a,e,t _ _ g⟩
theorem Tups.len {H:Hp} {yss:List (List V)} {zs:List V} (h:Tups H yss zs):yss.length=zs.length:=AZ h
theorem Tups.append {H:Hp}: ∀ {a c:List (List V)} {b d:List V},Tups H a b->Tups H c d->Tups H (a++c) (b++d)
 | _,_,_,_,.nil,h=>h
 | _,_,_,_,.cons x t,h=>.cons x (Tups.append t h)
theorem aq {H H':Hp} (s:Same H H'):TK H H':=λa xs h=>s _ _ h
theorem gf {K:W.Frag} {a:Addr} {xs:List V} {fr:List Nat} {te:TE} {σ:St} {H1:Hp} {Q:VK} (hn:xs.length<=1000) (ha:H1 a=some (.tup xs)) (g:V->List V)
  (hte: ∀ v H k,v∈xs->(∀ p,H p=none->k (.ref p) (upd H p (.tup (g v))))->te (some v::bH fr σ) H k)
  (hd: ∀ p zs H',H1 p=none->Same H1 H'->H' p=some (.lst zs)->Tups H' (xs.map g) zs->Q (.ref p) H'):gu fr te σ (Itt K a) H1 Q:=by
 intro p hp;refine ⟨λi m zs H=>i<=xs.length/\m=xs.length-i/\Same H1 H/\H p=some (.lst zs)/\zs.length=i/\Tups H ((xs.take i).map g) zs,⟨_,A6 _,rfl,al hp _,ad,rfl,.nil⟩,?_⟩;rintro i m zs H ⟨hi,hm,sm,gp,hz,hT⟩;refine ⟨gp,?_⟩;by_cases e:i=xs.length
 ·subst e;rw [Bc]at hT;exact .inl ⟨⟨xs,SqT.of (sm _ _ ha),AJ _⟩,hd p zs H hp sm gp hT⟩
 ·have hlt:i<xs.length:=by lia
  refine .inr ⟨⟨xs,xs[i],SqT.of (sm _ _ ha),AG hlt⟩,am (by lia),λv H' hv=>?_⟩;obtain ⟨rfl,hv⟩:=hv;have hv:=hv xs (SqT.of (sm _ _ ha));refine hte v _ _ (AH hv) λq hq=>?_;have s2:=al hq (.tup (g v));have gq:(upd H' q (.tup (g v))) q=some (.tup (g v)):=ad;generalize upd H' q (.tup (g v))=H2 at s2 gq ⊢;have gp2:=s2 _ _ gp;have tk:TK H2 (upd H2 p (.lst (zs++[.ref q]))):=TK.lst gp2;refine ⟨gp2,xs.length- (i+1),by lia,by lia,rfl,?_,ad,by rw [AI,hz];rfl,?_⟩
  ·intro b o hb;rw [ah (ai hb hp)];exact s2 _ _ (sm _ _ hb)
  ·rw [By,hv,Be];exact BH (hT.mono ((aq s2).trans tk)) ⟨q,rfl,tk _ _ gq⟩
theorem iM {α β:Type} {F:α->β->Prop}: ∀ {l:List α} {r:List β},Paired F l r-> ∀ n,Paired F (l.take n) (r.take n)
 | _,_,.nil,n=>by rw [List.take_nil,List.take_nil];exact .nil
 | _,_,.cons h t,0=>.nil
 | _,_,.cons h t,n+1=>.cons h (iM t n)
noncomputable def cJ (k:Int):List Srt->List (Int×Str)
 | []=>[]
 | q::r=>q.downs.map (λx=>(k,x))++cJ (k+1) r
noncomputable def cP (o:Srt) (qs:List Srt):List (Int×Str):=o.ups.map (λx=>(-1,x))++cJ 0 qs
noncomputable def tgV (t:Int×Str):List V:=[.int t.1,.str t.2]
theorem jc (k:Int): ∀ (qs:List Srt),(∀ s∈qs,s.ok)->(cJ k qs).length<=3*qs.length:=by
 intro qs;induction qs generalizing k with
 | nil=>intro _;exact AJ _
 | cons q r ih=>
  intro h;have h1:=ih (k+1) λs hs=>h s (A2 _ hs);have h2:=(h q A3).2.2.1;unfold cJ;rw [AI,AD,AM];lia
theorem mn (k:Int): ∀ (qs:List Srt) (q:Srt),cJ k (qs++[q])=cJ k qs++q.downs.map (λx=>(k+qs.length,x)):=by
 intro qs;induction qs generalizing k with
 | nil=>intro q;show q.downs.map (λx=>(k,x))++[]=_;rw [Bh];show _=q.downs.map (λx=>(k+ ((0:Nat):Int),x));rw [show k+ ((0:Nat):Int)=k by lia]
 | cons r rs ih=>
  intro q;show r.downs.map _++cJ (k+1) (rs++[q])=(r.downs.map _++cJ (k+1) rs)++_;rw [ih,BD];have:k+1+ (rs.length:Int)=k+ ((r::rs).length:Int):=by rw [AM];lia
  rw [this]
def TabOk (H:Hp) (kvs:List (Key×V)) (ss:List Srt):Prop:= ∀ s∈ss,∃ a b c,aW kvs (.inr s.name)=some (.ref a)/\H a=some (.tup [.ref b,.ref c])/\H b=some (.tup (s.downs.map V.str))/\H c=some (.tup (s.ups.map V.str))
theorem TabOk.mono {H H':Hp} (t:TK H H') {kvs:List (Key×V)} {ss:List Srt} (h:TabOk H kvs ss):TabOk H' kvs ss:=λs hs=>by
 obtain ⟨a,b,c,e,h1,h2,h3⟩:=h s hs;exact ⟨a,b,c,e,t _ _ h1,t _ _ h2,t _ _ h3⟩
theorem TabOk.put {H:Hp} {kvs:List (Key×V)} {ss:List Srt} {i:Nat} {s:Srt} {a b c:Addr} (nd:(ss.map Srt.name).Nodup) (hs:ss[i]? =some s) (h:TabOk H kvs (ss.take i))
  (h1:H a=some (.tup [.ref b,.ref c])) (h2:H b=some (.tup (s.downs.map V.str))) (h3:H c=some (.tup (s.ups.map V.str))):TabOk H (bw kvs (.inr s.name) (.ref a)) (ss.take (i+1)):=by
 intro x hx;rw [By,hs,AT]at hx;rcases hx with hx | hx
 ·obtain ⟨a',b',c',e,r⟩:=h x hx;refine ⟨a',b',c',?_,r⟩;rw [cI,AQ]
  ·exact e
  ·intro z;have z:x.name=s.name:=BO z;obtain ⟨j,hj⟩:=Ba hx;have hji:j<i:=by
    have:=(AF.mp hj).1;rw [A4]at this;lia
   rw [Dl,AX hji]at hj;have q1:(ss.map Srt.name)[j]? =some s.name:=by rw [AS,hj,<- z];rfl
   have q2:(ss.map Srt.name)[i]? =some s.name:=by rw [AS,hs];rfl
   have:=gZ nd q1 q2;lia
 ·have hx:x=s:=by simpa using hx
  subst hx;exact ⟨a,b,c,by rw [cI,AX rfl],h1,h2,h3⟩
def SrtsAt (H:Hp) (a:Addr) (ss:List Srt):Prop:= ∃ xs,H a=some (.tup xs)/\RepSs H ss xs
theorem SrtsAt.mono {H H':Hp} (t:TK H H') {a:Addr} {ss:List Srt}:SrtsAt H a ss->SrtsAt H' a ss:=λ⟨xs,h,r⟩=>⟨xs,t _ _ h,r.mono t⟩
inductive dv  (vs:List V) (H:Hp) (Q:VK) (E_:XK):Prop
 | mk: ∀ sa pa ss o qs,(vs=[.ref sa,.str (Srt.name o),.ref pa])->(SrtsAt H sa ss)->(du ss)->(o∈ss)->(H pa=some (.tup (qs.map λq=>V.str (Srt.name q))))->((∀ q∈qs,q∈ss))->(qs.length<=3)->(∀ p zs H',H p=none->Same H H'->H' p=some (.lst zs)->Tups H' ((cP o qs).map tgV) zs->Q (.ref p) H')->dv vs H Q E_
theorem scTargets:av ["sorts","own","parts","table","name","downs","ups","found","k"] ["sorts","own","parts"] (ak fz):=fsc
theorem oP (F:Fun K "_law_targets" "_law_targets" fz f fd) (G:Gb mg):
  a8 P w K mg base CX0 1 f fd ["sorts","own","parts"] dv:=by
 refine F.ok scTargets (λvs H Q E h=>?_) (λcdv A outer s H vs Q E hr h=>?_)
 ·obtain ⟨sa,pa,ss,o,qs,rfl,_⟩:=h;rfl
 obtain ⟨sa,pa,ss,o,qs,rfl,⟨xs,hsa,hR⟩,hok,ho,hpa,hqs,hql,q⟩:=h;have hu:=da hr;refine ⟨_,af (psz 3 scTargets.nd mV)
  (af (bi A5 rfl (bV (pv 0)) (cT rfl (aM (pgz 4 scTargets.nd) (aM (pgz 5 scTargets.nd) (aM (pgz 6 scTargets.nd) ce))))
   (aj (cz hu (pv 3) (pv 4) (aF (aa (pv 5) (aa (pv 6) ae))) rfl)))
  (af (di (i:=7) (sc0:=ak fz) (N0:=["sorts","own","parts","table","name","downs","ups","found","k"]) (ys:=[]) (fr:=[]) rfl scTargets.nd rfl (Or.inl rfl)
    (bV (ar (r:=bf K) aA (bK hu (pv 3) (pv 1) (λ_ _=>rfl)) ag (λ_ _=>rfl))) rfl rfl
    cok
    (λC s H ex=>aF (aa (qh kT ag) (aa (pv 0) ae))))
  (af (bi A5 rfl (bz rfl G.range (aa (au (r:=cZ K) aE rfl G.len Bd (aa (pv 2) ae)) ae)) (eR (i:=8) scTargets.nd rfl (Or.inr rfl))
   (aj (bC (dC A8 DU DV ky (pv 7) (aa
    (dN (sc0:=ak fz) (N0:=["sorts","own","parts","table","name","downs","ups","found","k"]) (ys:=["k"]) (fr:=[8]) rfl
     (bV (ar (r:=bf K) aA (bK hu (pv 3) (ar (r:=bf K) aA (pv 2) (pv 8) (λ_ _=>rfl)) (λ_ _=>rfl)) ag (λ_ _=>rfl))) rfl rfl
     cok
     (λC s H ex=>aF (aa (pv 1) (aa (pv 0) ae)))) ae)))))
  (aj (ay (pv 7)))))),?_⟩
 refine λtd htd=>?_;obtain ⟨H0,eW,s0,g0⟩:=nw htd (.dK []);rw [eW];have hlen:=hR.len;refine ⟨_,rfl,sa,rfl,⟨xs,SqT.of (s0 _ _ hsa)⟩,?_⟩;refine eV (xs:=xs) (λi σ H'=>i<=xs.length/\ ∃ o4 o5 o6 kvs,σ=[some (.ref sa),some (.str o.name),some (.ref pa),some (.ref td),o4,o5,o6,none,none]/\Same H H'/\H' td=some (.dK kvs)/\kvs.length<=i/\TabOk H' kvs (ss.take i))
  ⟨A6 _,none,none,none,[],rfl,s0,g0,AJ _,λs hs=>(by cases hs)⟩ (λi σ H' _ h=>by obtain ⟨_,_,_,_,_,_,sm,_⟩:=h;exact SqT.of (sm _ _ hsa)) ?_ ?_
 ·rintro i x σ H1 hx ⟨hi,o4,o5,o6,kvs,rfl,sm,gd,hl,hT⟩;have hlt:i<xs.length:=(AF.mp hx).1;obtain ⟨sr,hsr,a,b,c,rfl,ha,hb,hc⟩:=aH hR hx;refine ⟨a,_,rfl,SqT.of (sm _ _ ha),rfl,_,_,rfl,_,_,rfl,_,_,rfl,rfl,?_⟩;refine ⟨_,rfl,_,rfl,cB,λpt hpt=>?_⟩;obtain ⟨H2,eW,s1,g1⟩:=nw hpt (.tup [.ref b,.ref c]);rw [eW];have gd2:=s1 _ _ gd;have S2:Same H H2:=sm.trans s1;refine ⟨_,rfl,_,rfl,td,_,rfl,DPut.k (k:=.inr sr.name) gd2 (am (by have:=hok.2.1;lia)),?_⟩;have tk:TK H2 (upd H2 td (.dK (bw kvs (.inr sr.name) (.ref pt)))):=TK.upd λys e=>by rw [gd2]at e;cases e
  refine ⟨hlt,_,_,_,_,rfl,?_,ad,?_,?_⟩
  ·intro y oo h;rw [ah (ai h htd)];exact S2 _ _ h
  ·have:=bI kvs (.inr sr.name) (.ref pt);lia
  ·exact TabOk.put hok.2.2.1 hsr (hT.mono ((aq s1).trans tk)) (tk _ _ g1) (tk _ _ (S2 _ _ hb)) (tk _ _ (S2 _ _ hc))
 ·rintro σ H1 ⟨_,o4,o5,o6,kvs,rfl,sm,gd,hl,hT⟩;rw [<- hlen,Bc]at hT;obtain ⟨a,b,c,eo,ha,hb,hc⟩:=hT o ho;refine ⟨_,rfl,_,rfl,td,.ref a,rfl,(by rw [<- eo];exact DGet.k (k:=.inr o.name) gd),a,_,1,.ref c,rfl,rfl,SqT.of ha,aZ (j:=1) rfl,c,rfl,⟨_,SqT.of hc⟩,?_⟩;have lo:o.ups.length<=3:=(hok.2.2.2.2 o ho).2.2.2.1;refine gf (by rw [AD];lia) hc (λv=>[.int (-1),v]) (λv H k _ hk=>⟨1,rfl,_,rfl,cB,λp hp=>hk p hp⟩) λfl zs H2 hfl s2 gfl hTz=>?_;have ez:(o.ups.map V.str).map (λv=>[V.int (-1),v])=(o.ups.map λx=>((-1:Int),x)).map tgV:=by rw [BB,BB];rfl
  rw [ez]at hTz;have S2:Same H H2:=sm.trans s2;have hfl0:H fl=none:=sm.free hfl;have gd2:=s2 _ _ gd;have hT2:=hT.mono (aq s2);have dfl:fl≠td:=Bg (ai gd hfl);have hlp:(qs.map λq=>V.str (Srt.name q)).length=qs.length:=AD _;refine ⟨_,rfl,pa,_,rfl,.inr (SqT.of (S2 _ _ hpa)),_,rfl,by lia,by lia,?_⟩;refine cW (λi σ H'=> ∃ o8 zs,σ=[some (.ref sa),some (.str o.name),some (.ref pa),some (.ref td),o4,o5,o6,some (.ref fl),o8]/\Same H H'/\H' td=some (.dK kvs)/\TabOk H' kvs ss/\H' fl=some (.lst zs)/\
    Tups H' ((o.ups.map (λx=>((-1:Int),x))++cJ 0 (qs.take i)).map tgV) zs)
   ⟨none,zs,rfl,S2,gd2,hT2,gfl,by rw [BI];show Tups H2 ((_++[]).map tgV) zs;rw [Bh];exact hTz⟩ ?_ ?_
  ·rintro i σ H3 hi ⟨o8,zs3,rfl,S3,gd3,hT3,gfl3,hTz3⟩;have hi':i<qs.length:=by lia
   obtain ⟨sq,hsq⟩: ∃ sq,qs[i]? =some sq:=⟨qs[i],AG hi'⟩;obtain ⟨a,b,c,eq,ha,hb,hc⟩:=hT3 sq (hqs sq (AH hsq));have eat:atI (qs.map λq=>V.str (Srt.name q)) (0+ (i:Int))=some (V.str sq.name):=by
    rw [DI];exact aZ (by rw [AS,hsq];rfl)
   refine ⟨_,rfl,.inl ⟨rfl,_,SqL.of gfl3⟩,?_⟩;refine ⟨_,rfl,_,rfl,_,rfl,pa,_,_,_,rfl,rfl,SqT.of (S3 _ _ hpa),eat,td,.ref a,rfl,(by rw [<- eq];exact DGet.k (k:=.inr sq.name) gd3),a,_,0,.ref b,rfl,rfl,SqT.of ha,bx,b,rfl,⟨_,SqT.of hb⟩,?_⟩;have ld:sq.downs.length<=3:=(hok.2.2.2.2 sq (hqs sq (AH hsq))).2.2.1;refine gf (by rw [AD];lia) hb (λv=>[.int (0+ (i:Int)),v]) (λv H k _ hk=>⟨_,rfl,_,rfl,cB,λp hp=>hk p hp⟩) λpl ws H4 hpl s4 gpl hTw=>?_;have ew:(sq.downs.map V.str).map (λv=>[V.int (0+ (i:Int)),v])=(sq.downs.map λx=>(0+ (i:Int),x)).map tgV:=by rw [BB,BB];rfl
   rw [ew]at hTw;have gfl4:=s4 _ _ gfl3;have lz:=hTz3.len;have lw:=hTw.len;have lt:=jc 0 (qs.take i) λs hs=>hok.2.2.2.2 s (hqs s (BP hs));rw [AD,AI,AD]at lz;rw [AD,AD]at lw;rw [A4]at lt;refine ⟨fl,pl,zs3,ws,rfl,rfl,gfl4,gpl,Bj (am (by lia)),?_⟩;have tk:TK H4 (upd H4 fl (.lst (zs3++ws))):=TK.lst gfl4;have tk3:TK H3 (upd H4 fl (.lst (zs3++ws))):=(aq s4).trans tk;refine ⟨_,zs3++ws,rfl,?_,?_,hT3.mono tk3,ad,?_⟩
   ·intro y oo h;rw [ah (ai h hfl0)];exact s4 _ _ (S3 _ _ h)
   ·rw [ah (Bg dfl)];exact s4 _ _ gd3
   ·rw [By,hsq];show Tups _ ((_++cJ 0 (qs.take i++[sq])).map tgV) _;rw [mn,<- BD,Be];have e9:(0:Int) + ((qs.take i).length:Int)=0+ (i:Int):=by rw [A4];lia
    rw [e9];exact (hTz3.mono tk3).append (hTw.mono tk)
  ·rintro σ H3 ⟨o8,zs3,rfl,S3,gd3,hT3,gfl3,hTz3⟩;have e9:qs.take (((qs.map λq=>V.str (Srt.name q)).length:Int)).toNat=qs:=by rw [hlp];exact BC (by lia)
   rw [e9]at hTz3;exact ⟨_,rfl,q fl zs3 H3 hfl0 S3 gfl3 hTz3⟩
noncomputable def cL (k:Int):List Srt->List Fm
 | []=>[]
 | q::r=>q.ups.map (λx=>Fm.part k x)++cL (k+1) r
noncomputable def tgF (t:Int×Str):Fm:=if t.1<0 then .own t.2 else .part t.1 t.2
noncomputable def eZ (o:Srt) (qs:List Srt) (mode j:Int):List (Int×Str):=if mode=2 then (cP o qs).take j.toNat else cP o qs
noncomputable def rds (o:Srt) (qs:List Srt) (mode j:Int):List Fm:=(o.downs.map Fm.own++cL 0 qs)++(if mode>0 then (eZ o qs mode j).map tgF else [])
noncomputable def fmV:Fm->List V
 | .own x=>[.str "own",.str x]
 | .part k x=>[.str "part",.int k,.str x]
 | _=>[]
theorem gC (k:Int): ∀ (qs:List Srt),(∀ s∈qs,s.ok)->(cL k qs).length<=3*qs.length:=by
 intro qs;induction qs generalizing k with
 | nil=>intro _;exact AJ _
 | cons q r ih=>
  intro h;have h1:=ih (k+1) λs hs=>h s (A2 _ hs);have h2:=(h q A3).2.2.2.1;unfold cL;rw [AI,AD,AM];lia
theorem mL (k:Int): ∀ (qs:List Srt) (q:Srt),cL k (qs++[q])=cL k qs++q.ups.map (λx=>Fm.part (k+qs.length) x):=by
 intro qs;induction qs generalizing k with
 | nil=>intro q;show q.ups.map (λx=>Fm.part k x)++[]=_;rw [Bh];show _=q.ups.map (λx=>Fm.part (k+ ((0:Nat):Int)) x);rw [show k+ ((0:Nat):Int)=k by lia]
 | cons r rs ih=>
  intro q;show r.ups.map _++cL (k+1) (rs++[q])=(r.ups.map _++cL (k+1) rs)++_;rw [ih,BD];have:k+1+ (rs.length:Int)=k+ ((r::rs).length:Int):=by rw [AM];lia
  rw [this]
theorem fg {ss:List Srt} {o:Srt} {qs:List Srt} (hok: ∀ s∈ss,s.ok) (ho:o∈ss) (hq: ∀ q∈qs,q∈ss) (hl:qs.length<=3):(cP o qs).length<=12:=by
 have h1:=jc 0 qs λs hs=>hok s (hq s hs);have h2:=(hok o ho).2.2.2.1;unfold cP;rw [AI,AD];lia
theorem j3 (o:Srt) (qs:List Srt) (mode j:Int):(eZ o qs mode j).length<=(cP o qs).length:=by
 unfold eZ;by_cases c:mode=2
 ·rw [AX c,A4];exact Nat.min_le_right _ _
 ·rw [AQ c];exact AJ _
inductive fw  (vs:List V) (H:Hp) (Q:VK) (E_:XK):Prop
 | mk: ∀ sa pa ss o qs mode j,(vs=[.ref sa,.str (Srt.name o),.ref pa,.int mode,.int j])->(SrtsAt H sa ss)->(du ss)->(o∈ss)->(H pa=some (.tup (qs.map λq=>V.str (Srt.name q))))->((∀ q∈qs,q∈ss))->(qs.length<=3)->(0<=j)->(j<=(cP o qs).length)->(∀ p zs H',H p=none->Same H H'->H' p=some (.lst zs)->Tups H' ((rds o qs mode j).map fmV) zs->Q (.ref p) H')->fw vs H Q E_
theorem yk {z u:V} (k:Bool):atI [z,u] (if k then 1 else 0)=some (if k then u else z):=by cases k <;> rfl
theorem scLReadings:av ["sorts","own","parts","mode","j","table","name","downs","ups","word","found","k","targets","at"] ["sorts","own","parts","mode","j"] (ak dB):=fsc
theorem lO (F:Fun K "_law_readings" "_law_readings" dB f fd) (G:Gb mg) (GT:Cl P w K mg base CX0 1 g gd ["sorts","own","parts"] dv "_law_targets"):
  a8 P w K mg base CX0 2 f fd ["sorts","own","parts","mode","j"] fw:=by
 refine F.ok scLReadings (λvs H Q E h=>?_) (λcdv A outer s H vs Q E hr h=>?_)
 ·obtain ⟨sa,pa,ss,o,qs,mode,j,rfl,_⟩:=h;rfl
 obtain ⟨sa,pa,ss,o,qs,mode,j,rfl,⟨xs,hsa,hR⟩,hok,ho,hpa,hqs,hql,hj0,hj1,q⟩:=h;have hu:=da hr;refine ⟨_,af (psz 5 scLReadings.nd mV)
  (af (bi A5 rfl (bV (pv 0)) (cT rfl (aM (pgz 6 scLReadings.nd) (aM (pgz 7 scLReadings.nd) (aM (pgz 8 scLReadings.nd) ce))))
   (aj (cz hu (pv 5) (pv 6) (aF (aa (pv 7) (aa (pv 8) ae))) rfl)))
  (af (di (i:=10) (sc0:=ak dB) (N0:=["sorts","own","parts","mode","j","table","name","downs","ups","word","found","k","targets","at"]) (ys:=[]) (fr:=[]) rfl scLReadings.nd rfl (Or.inl rfl)
    (bV (ar (r:=bf K) aA (bK hu (pv 5) (pv 1) (λ_ _=>rfl)) ag (λ_ _=>rfl))) rfl rfl
    cok
    (λC s H ex=>aF (aa aJ (aa (pv 0) ae))))
  (af (bi A5 rfl (bz rfl G.range (aa (au (r:=cZ K) aE rfl G.len Bd (aa (pv 2) ae)) ae)) (eR (i:=11) scLReadings.nd rfl (Or.inr rfl))
   (aj (bC (dC A8 DU DV ky (pv 10) (aa
    (dN (sc0:=ak dB) (N0:=["sorts","own","parts","mode","j","table","name","downs","ups","word","found","k","targets","at"]) (ys:=["k"]) (fr:=[11]) rfl
     (bV (ar (r:=bf K) aA (bK hu (pv 5) (ar (r:=bf K) aA (pv 2) (pv 11) (λ_ _=>rfl)) (λ_ _=>rfl)) ag (λ_ _=>rfl))) rfl rfl
     cok
     (λC s H ex=>aF (aa aJ (aa (pv 1) (aa (pv 0) ae))))) ae)))))
  (af (psz 12 scLReadings.nd (pcl GT hr (aa (pv 0) (aa (pv 1) (aa (pv 2) ae)))))
  (af (bc (ax cr (pv 3) ag (aL _)) (aj (psz 12 scLReadings.nd (aT cy (pv 12) bg (aX (pv 4))))) aK)
  (af (bi A5 rfl (cA (pv 12)) (cT rfl (aM (pgz 13 scLReadings.nd) (aM (pgz 9 scLReadings.nd) ce)))
   (aj (bc (ax gj (pv 3) ag (aL _))
    (aj (bC (dC A8 Bq Br bp (pv 10) (aa
     (ar (r:=cC K) aY (bd (aa (aF (aa aJ (aa (pv 13) (aa (pv 9) ae)))) (aa (aF (aa aJ (aa (pv 9) ae))) ae)))
      (aU eJ rfl G.int (by decide +kernel) (aa (dQ gi (pv 13) ag (aL _)) ae)) (λ_ _=>rfl)) ae)))) aK)))
  (aj (ay (pv 10))))))))),?_⟩
 refine λtd htd=>?_;obtain ⟨H0,eW,s0,g0⟩:=nw htd (.dK []);rw [eW];have hlen:=hR.len;refine ⟨_,rfl,sa,rfl,⟨xs,SqT.of (s0 _ _ hsa)⟩,?_⟩;refine eV (xs:=xs) (λi σ H'=>i<=xs.length/\ ∃ o4 o5 o6 kvs,σ=[some (.ref sa),some (.str o.name),some (.ref pa),some (.int mode),some (.int j),some (.ref td),o4,o5,o6,none,none,none,none,none]/\Same H H'/\H' td=some (.dK kvs)/\kvs.length<=i/\TabOk H' kvs (ss.take i))
  ⟨A6 _,none,none,none,[],rfl,s0,g0,AJ _,λs hs=>(by cases hs)⟩ (λi σ H' _ h=>by obtain ⟨_,_,_,_,_,_,sm,_⟩:=h;exact SqT.of (sm _ _ hsa)) ?_ ?_
 ·rintro i x σ H1 hx ⟨hi,o4,o5,o6,kvs,rfl,sm,gd,hl,hT⟩;have hlt:i<xs.length:=(AF.mp hx).1;obtain ⟨sr,hsr,a,b,c,rfl,ha,hb,hc⟩:=aH hR hx;refine ⟨a,_,rfl,SqT.of (sm _ _ ha),rfl,_,_,rfl,_,_,rfl,_,_,rfl,rfl,?_⟩;refine ⟨_,rfl,_,rfl,cB,λpt hpt=>?_⟩;obtain ⟨H2,eW,s1,g1⟩:=nw hpt (.tup [.ref b,.ref c]);rw [eW];have gd2:=s1 _ _ gd;have S2:Same H H2:=sm.trans s1;refine ⟨_,rfl,_,rfl,td,_,rfl,DPut.k (k:=.inr sr.name) gd2 (am (by have:=hok.2.1;lia)),?_⟩;have tk:TK H2 (upd H2 td (.dK (bw kvs (.inr sr.name) (.ref pt)))):=TK.upd λys e=>by rw [gd2]at e;cases e
  refine ⟨hlt,_,_,_,_,rfl,?_,ad,?_,?_⟩
  ·intro y oo h;rw [ah (ai h htd)];exact S2 _ _ h
  ·have:=bI kvs (.inr sr.name) (.ref pt);lia
  ·exact TabOk.put hok.2.2.1 hsr (hT.mono ((aq s1).trans tk)) (tk _ _ g1) (tk _ _ (S2 _ _ hb)) (tk _ _ (S2 _ _ hc))
 ·rintro σ H1 ⟨_,o4,o5,o6,kvs,rfl,sm,gd,hl,hT⟩;rw [<- hlen,Bc]at hT;obtain ⟨a,b,c,eo,ha,hb,hc⟩:=hT o ho;refine ⟨_,rfl,_,rfl,td,.ref a,rfl,(by rw [<- eo];exact DGet.k (k:=.inr o.name) gd),a,_,0,.ref b,rfl,rfl,SqT.of ha,bx,b,rfl,⟨_,SqT.of hb⟩,?_⟩;have lo:o.downs.length<=3:=(hok.2.2.2.2 o ho).2.2.1;refine gf (by rw [AD];lia) hb (λv=>[.str "own",v]) (λv H k _ hk=>⟨_,rfl,cB,λp hp=>hk p hp⟩) λfl zs H2 hfl s2 gfl hTz=>?_;have ez:(o.downs.map V.str).map (λv=>[V.str "own",v])=(o.downs.map Fm.own).map fmV:=by rw [BB,BB];rfl
  rw [ez]at hTz;have S2:Same H H2:=sm.trans s2;have hfl0:H fl=none:=sm.free hfl;have gd2:=s2 _ _ gd;have hT2:=hT.mono (aq s2);have dfl:fl≠td:=Bg (ai gd hfl);have hlp:(qs.map λq=>V.str (Srt.name q)).length=qs.length:=AD _;refine ⟨_,rfl,pa,_,rfl,.inr (SqT.of (S2 _ _ hpa)),_,rfl,by lia,by lia,?_⟩;refine cW (λi σ H'=> ∃ o8 zs,σ=[some (.ref sa),some (.str o.name),some (.ref pa),some (.int mode),some (.int j),some (.ref td),o4,o5,o6,none,some (.ref fl),o8,none,none]/\Same H H'/\H' td=some (.dK kvs)/\TabOk H' kvs ss/\H' fl=some (.lst zs)/\
    Tups H' ((o.downs.map Fm.own++cL 0 (qs.take i)).map fmV) zs)
   ⟨none,zs,rfl,S2,gd2,hT2,gfl,by rw [BI];show Tups H2 ((_++[]).map fmV) zs;rw [Bh];exact hTz⟩ ?_ ?_
  ·rintro i σ H3 hi ⟨o8,zs3,rfl,S3,gd3,hT3,gfl3,hTz3⟩;have hi':i<qs.length:=by lia
   obtain ⟨sq,hsq⟩: ∃ sq,qs[i]? =some sq:=⟨qs[i],AG hi'⟩;obtain ⟨a,b,c,eq,ha,hb,hc⟩:=hT3 sq (hqs sq (AH hsq));have eat:atI (qs.map λq=>V.str (Srt.name q)) (0+ (i:Int))=some (V.str sq.name):=by
    rw [DI];exact aZ (by rw [AS,hsq];rfl)
   refine ⟨_,rfl,.inl ⟨rfl,_,SqL.of gfl3⟩,?_⟩;refine ⟨_,rfl,_,rfl,_,rfl,pa,_,_,_,rfl,rfl,SqT.of (S3 _ _ hpa),eat,td,.ref a,rfl,(by rw [<- eq];exact DGet.k (k:=.inr sq.name) gd3),a,_,1,.ref c,rfl,rfl,SqT.of ha,aZ (j:=1) rfl,c,rfl,⟨_,SqT.of hc⟩,?_⟩;have ld:sq.ups.length<=3:=(hok.2.2.2.2 sq (hqs sq (AH hsq))).2.2.2.1;refine gf (by rw [AD];lia) hc (λv=>[.str "part",.int (0+ (i:Int)),v]) (λv H k _ hk=>⟨_,rfl,_,rfl,dU,λp hp=>hk p hp⟩) λpl ws H4 hpl s4 gpl hTw=>?_;have ew:(sq.ups.map V.str).map (λv=>[V.str "part",V.int (0+ (i:Int)),v])=(sq.ups.map λx=>Fm.part (0+ (i:Int)) x).map fmV:=by rw [BB,BB];rfl
   rw [ew]at hTw;have gfl4:=s4 _ _ gfl3;have lz:=hTz3.len;have lw:=hTw.len;have lt:=gC 0 (qs.take i) λs hs=>hok.2.2.2.2 s (hqs s (BP hs));rw [AD,AI,AD]at lz;rw [AD,AD]at lw;rw [A4]at lt;refine ⟨fl,pl,zs3,ws,rfl,rfl,gfl4,gpl,Bj (am (by lia)),?_⟩;have tk:TK H4 (upd H4 fl (.lst (zs3++ws))):=TK.lst gfl4;have tk3:TK H3 (upd H4 fl (.lst (zs3++ws))):=(aq s4).trans tk;refine ⟨_,zs3++ws,rfl,?_,?_,hT3.mono tk3,ad,?_⟩
   ·intro y oo h;rw [ah (ai h hfl0)];exact s4 _ _ (S3 _ _ h)
   ·rw [ah (Bg dfl)];exact s4 _ _ gd3
   ·rw [By,hsq];show Tups _ ((_++cL 0 (qs.take i++[sq])).map fmV) _;rw [mL,<- BD,Be];have e9:(0:Int) + ((qs.take i).length:Int)=0+ (i:Int):=by rw [A4];lia
    rw [e9];exact (hTz3.mono tk3).append (hTw.mono tk)
  ·rintro σ H3 ⟨o8,zs3,rfl,S3,gd3,hT3,gfl3,hTz3⟩;have e9:qs.take (((qs.map λq=>V.str (Srt.name q)).length:Int)).toNat=qs:=by rw [hlp];exact BC (by lia)
   rw [e9]at hTz3;have lt12:=fg hok.2.2.2.2 ho hqs hql;have l12:zs3.length<=12:=by
    have lt:=gC 0 qs λs hs=>hok.2.2.2.2 s (hqs s hs);have lz:=hTz3.len;rw [AD,AI,AD]at lz;lia
   refine ⟨_,rfl,_,rfl,_,rfl,sa,pa,ss,o,qs,rfl,⟨xs,S3 _ _ hsa,hR.mono (aq S3)⟩,hok,ho,S3 _ _ hpa,hqs,hql,λtl zt H4 htl s4 gtl hTt=>?_⟩;have S4:Same H H4:=S3.trans s4;have gfl4:=s4 _ _ gfl3;have hTz4:=hTz3.mono (aq s4);have nft:fl≠tl:=ai gfl3 htl;refine ⟨_,rfl,rfl,_,rfl,?_⟩;refine dD (λc=>?A) (λc=>?B)
   case' A=>
    have cm:mode=2:=V.int.inj (A7 c);have lzt:zt.length=(cP o qs).length:=by rw [<- hTt.len,AD]
    refine ⟨_,rfl,_,rfl,j,rfl,tl,zt,rfl,SqL.of gtl,λtl2 htl2=>?_⟩;rw [eI zt hj0 (by lia)];have hsel:Tups H4 ((eZ o qs mode j).map tgV) (zt.take j.toNat):=by
     unfold eZ;rw [AX cm,Cg];exact iM hTt _
    have s5:=al htl2 (.lst (zt.take j.toNat));have gt:(upd H4 tl2 (.lst (zt.take j.toNat))) tl2=some (.lst (zt.take j.toNat)):=ad;have nft2:fl≠tl2:=ai gfl4 htl2;have gfl5:=s5 _ _ gfl4;have hTz5:=hTz4.mono (aq s5);have hsel5:=hsel.mono (aq s5);have S5:Same H (upd H4 tl2 (.lst (zt.take j.toNat))):=S4.trans s5;generalize upd H4 tl2 (.lst (zt.take j.toNat))=H5 at gt gfl5 hTz5 hsel5 S5 ⊢;generalize zt.take j.toNat=zu at gt hsel5;generalize tl2=tx at gt nft2 ⊢
   case' B=>
    have cm: ¬ mode=2:=λe=>c (AO (by rw [e]));have hsel5:Tups H4 ((eZ o qs mode j).map tgV) zt:=by
     unfold eZ;rw [AQ cm];exact hTt
    have gt:=gtl;have nft2:=nft;have gfl5:=gfl4;have hTz5:=hTz4;have S5:=S4;generalize H4=H5 at gt gfl5 hTz5 hsel5 S5 ⊢;generalize zt=zu at gt hsel5;generalize tl=tx at gt nft2 ⊢
   all_goals
    have ltg:(eZ o qs mode j).length<=12:=Bm (j3 o qs mode j) lt12;have lzu:zu.length=(eZ o qs mode j).length:=by rw [<- hsel5.len,AD]
    have hrd:rds o qs mode j=(o.downs.map Fm.own++cL 0 qs)++(if mode>0 then (eZ o qs mode j).map tgF else []):=rfl;generalize eZ o qs mode j=tg at ltg lzu hrd hsel5;have e0:(if mode>0 then (tg.take 0).map tgF else [])=[]:=by split <;> rfl
    refine ⟨_,rfl,tx,rfl,⟨zu,SqL.of gt⟩,?_⟩;refine cN (xs:=zu) (λi σ H'=>i<=zu.length/\ ∃ o9 zs o13,σ=[some (.ref sa),some (.str o.name),some (.ref pa),some (.int mode),some (.int j),some (.ref td),o4,o5,o6,o9,some (.ref fl),o8,some (.ref tx),o13]/\Same H H'/\H' tx=some (.lst zu)/\Tups H' (tg.map tgV) zu/\H' fl=some (.lst zs)/\zs.length<=12+i/\
      Tups H' (((o.downs.map Fm.own++cL 0 qs)++(if mode>0 then (tg.take i).map tgF else [])).map fmV) zs)
     ⟨A6 _,none,zs3,none,rfl,S5,gt,hsel5,gfl5,l12,by rw [e0,Bh];exact hTz5⟩ (λi σ H' _ h=>by obtain ⟨_,_,_,_,_,_,gg,_⟩:=h;exact SqL.of gg) ?_ ?_
    ·rintro i x σ H6 hx ⟨hi,o9,zs6,o13,rfl,S6,gt6,hsel6,gfl6,l6,hT6⟩;have hlt:i<zu.length:=(AF.mp hx).1;obtain ⟨ys,hys,a,rfl,ha⟩:=aH hsel6 hx;obtain ⟨t,ht,rfl⟩: ∃ t,tg[i]? =some t/\tgV t=ys:=by
      rw [AS]at hys;cases he:tg[i]? with
      | none=>rw [he]at hys;cases hys
      | some t=>rw [he]at hys;exact ⟨t,rfl,A0 hys⟩
     refine ⟨a,_,rfl,SqT.of ha,rfl,_,_,rfl,_,_,rfl,rfl,?_⟩;refine ⟨_,rfl,_,_,rfl,rfl,_,rfl,?_⟩;refine dD (λcm=>?_) (λcm=>?_)
     ·have cm':mode>0:=A7 cm;refine ⟨_,rfl,.inl ⟨rfl,_,SqL.of gfl6⟩,?_⟩;refine ⟨_,rfl,_,rfl,dU,λp1 hp1=>?_⟩;obtain ⟨H7,eW,s1,g1⟩:=nw hp1 (.tup [.str "part",.int t.1,.str t.2]);rw [eW];refine ⟨_,rfl,cB,λp2 hp2=>?_⟩;obtain ⟨H8,eW,s2,g2⟩:=nw hp2 (.tup [.str "own",.str t.2]);rw [eW];refine ⟨cB,λp3 hp3=>?_⟩;obtain ⟨H9,eW,s3,g3⟩:=nw hp3 (.lst [.ref p1,.ref p2]);rw [eW];have S69:Same H6 H9:=s1.trans (s2.trans s3);refine ⟨_,rfl,_,_,rfl,rfl,.inr ⟨_,rfl,p3,_,_,_,rfl,rfl,SqL.of g3,yk _,?_⟩⟩;have gfl9:=S69 _ _ gfl6;refine ⟨fl,zs6,_,rfl,rfl,gfl9,am (by lia),?_⟩;have hz:vE H9 (fmV (tgF t)) (if decide (t.1<0)=true then .ref p2 else .ref p1):=by
       by_cases cn:t.1<0
       ·rw [AX (AO cn)];unfold tgF;rw [AX cn];exact ⟨p2,rfl,s3 _ _ g2⟩
       ·rw [AQ (λe=>cn (A7 e))];unfold tgF;rw [AQ cn];exact ⟨p1,rfl,s3 _ _ (s2 _ _ g1)⟩
      generalize (if decide (t.1<0)=true then V.ref p2 else .ref p1)=zv at hz ⊢;have tk:TK H9 (upd H9 fl (.lst (zs6++[zv]))):=TK.lst gfl9;have tk6:TK H6 (upd H9 fl (.lst (zs6++[zv]))):=(aq S69).trans tk;refine ⟨hlt,_,zs6++[zv],_,rfl,?_,?_,hsel6.mono tk6,ad,by rw [AI];show zs6.length+1<=_;lia,?_⟩
      ·intro y oo h;rw [ah (ai h hfl0)];exact S69 _ _ (S6 _ _ h)
      ·rw [ah (Bg nft2)];exact S69 _ _ gt6
      ·rw [AX cm']at hT6 ⊢;rw [By,ht];show Tups _ ((_++(tg.take i++[t]).map tgF).map fmV) _;rw [Be (f:=tgF),<- BD,Be (f:=fmV)];obtain ⟨az,ez,gz⟩:=hz;exact BH (hT6.mono tk6) ⟨az,ez,tk _ _ gz⟩
     ·have cm': ¬ mode>0:=λe=>cm (AO e);refine ⟨hlt,_,zs6,_,rfl,S6,gt6,hsel6,gfl6,by lia,?_⟩;rw [AQ cm']at hT6 ⊢;exact hT6
    ·rintro σ H6 ⟨_,o9,zs6,o13,rfl,S6,gt6,hsel6,gfl6,l6,hT6⟩;rw [BC (by lia),<- hrd]at hT6;exact ⟨_,rfl,q fl zs6 H6 hfl0 S6 gfl6 hT6⟩
structure Rul where
 pl:Int
 word:Str
 fm:Fm
structure Frm where
 name:Str
 own:Srt
 parts:List Srt
 rules:List Rul
inductive RepR (H:Hp) (r:Rul) (v:V):Prop
 | mk: ∀ a u,(v=.ref a)->(H a=some (.tup [.int r.pl,.str r.word,u]))->(Rep H r.fm u)->RepR H r v
theorem RepR.mono {H H':Hp} (t:TK H H') {r:Rul} {v:V}:RepR H r v->RepR H' r v:=λ⟨a,u,e,h,p⟩=>⟨a,u,e,t _ _ h,p.mono t⟩
def RepRs (H:Hp) (rs:List Rul) (vs:List V):Prop:=Paired (RepR H) rs vs
theorem RepRs.mono {H H':Hp} (t:TK H H') {rs:List Rul} {vs:List V} (h:RepRs H rs vs):RepRs H' rs vs:=Paired.mapP h λ_ _ r=>r.mono t
theorem RepRs.len {H:Hp} {rs:List Rul} {vs:List V} (h:RepRs H rs vs):rs.length=vs.length:=AZ h
noncomputable def cU (qs:List Srt):List V:=qs.map λq=>V.str (Srt.name q)
inductive RepF (H:Hp) (fr:Frm) (v:V):Prop
 | mk: ∀ a pa ra rv,(v=.ref a)->(H a=some (.tup [.str fr.name,.str fr.own.name,.ref pa,.ref ra]))->(H pa=some (.tup (cU fr.parts)))->(H ra=some (.tup rv))->(RepRs H fr.rules rv)->RepF H fr v
theorem RepF.mono {H H':Hp} (t:TK H H') {fr:Frm} {v:V}:RepF H fr v->RepF H' fr v:=λ⟨a,pa,ra,rv,e,h1,h2,h3,h4⟩=>⟨a,pa,ra,rv,e,t _ _ h1,t _ _ h2,t _ _ h3,h4.mono t⟩
def qK (o:Srt) (qs:List Srt) (mode:Int) (rules:List Rul):Prop:=rules.map (λr=>(r.pl,r.word))=cP o qs/\ ∀ (j:Nat) r,rules[j]? =some r->r.fm.wfp (λf=>f∈rds o qs mode j)/\r.fm.size<=15
noncomputable def gG:Fm->Prop
 | .own x=>cH x=true
 | .part k x=>(0<=k/\k<=2)/\cH x=true
 | _=>False
theorem eL {k:Int}: ∀ {qs:List Srt} {t:Int×Str},t∈cJ k qs->k<=t.1/\t.1<k+qs.length/\ ∃ q∈qs,t.2∈q.downs:=by
 intro qs;induction qs generalizing k with
 | nil=>intro t h;cases h
 | cons q r ih=>
  intro t h;unfold cJ at h;rw [AT]at h;rcases h with h | h
  ·obtain ⟨x,hx,rfl⟩:=AK.mp h;exact ⟨Int.le_refl _,by rw [AM];show k<_;lia,q,A3,hx⟩
  ·obtain ⟨h1,h2,q',h3,h4⟩:=ih h;exact ⟨by lia,by rw [AM];lia,q',A2 _ h3,h4⟩
theorem oC {k:Int}: ∀ {qs:List Srt} {f:Fm},f∈cL k qs-> ∃ j x,f=.part j x/\k<=j/\j<k+qs.length/\ ∃ q∈qs,x∈q.ups:=by
 intro qs;induction qs generalizing k with
 | nil=>intro t h;cases h
 | cons q r ih=>
  intro t h;unfold cL at h;rw [AT]at h;rcases h with h | h
  ·obtain ⟨x,hx,rfl⟩:=AK.mp h;exact ⟨k,x,rfl,Int.le_refl _,by rw [AM];lia,q,A3,hx⟩
  ·obtain ⟨j,x,e,h1,h2,q',h3,h4⟩:=ih h;exact ⟨j,x,e,by lia,by rw [AM];lia,q',A2 _ h3,h4⟩
theorem mq {ss:List Srt} {o:Srt} {qs:List Srt} (hok: ∀ s∈ss,s.ok) (ho:o∈ss) (hq: ∀ q∈qs,q∈ss) (hl:qs.length<=3) {t:Int×Str} (ht:t∈cP o qs):gG (tgF t):=by
 unfold cP at ht;rw [AT]at ht;unfold tgF;rcases ht with h | h
 ·obtain ⟨x,hx,rfl⟩:=AK.mp h;rw [AX (show ((-1:Int),x).1<0 from (by decide:(-1:Int) <0))];exact (hok o ho).2.1 x (AV _ hx)
 ·obtain ⟨h1,h2,q,h3,h4⟩:=eL h;rw [AQ (by lia)];exact ⟨⟨h1,by lia⟩,(hok q (hq q h3)).2.1 _ (Bo _ h4)⟩
theorem ub {ss:List Srt} {o:Srt} {qs:List Srt} {mode j:Int} (hok: ∀ s∈ss,s.ok) (ho:o∈ss) (hq: ∀ q∈qs,q∈ss) (hl:qs.length<=3) {f:Fm} (hf:f∈rds o qs mode j):gG f:=by
 unfold rds at hf;rw [AT,AT]at hf;rcases hf with (h | h) | h
 ·obtain ⟨x,hx,rfl⟩:=AK.mp h;exact (hok o ho).2.1 x (Bo _ hx)
 ·obtain ⟨k,x,rfl,h1,h2,q,h3,h4⟩:=oC h;exact ⟨⟨h1,by lia⟩,(hok q (hq q h3)).2.1 _ (AV _ h4)⟩
 ·by_cases c:mode>0
  ·rw [AX c]at h;obtain ⟨t,ht,rfl⟩:=AK.mp h;refine mq hok ho hq hl ?_;unfold eZ at ht;by_cases c2:mode=2
   ·rw [AX c2]at ht;exact BP ht
   ·rw [AQ c2]at ht;exact ht
  ·rw [AQ c]at h;cases h
theorem oM {α β:Type} {F:α->β->Prop}: ∀ {l:List α} {r:List β} {b:β},Paired F l r->b∈r-> ∃ a∈l,F a b:=λ{l r b} h m=>by
 obtain ⟨i,hi⟩:=Ba m;obtain ⟨a,ha,f⟩:=aH h hi;exact ⟨a,AH ha,f⟩
theorem uV {H:Hp} {f:Fm} {v:V} (hl:gG f) (h:vE H (fmV f) v):Rep H f v/\f.size=1:=by
 obtain ⟨a,rfl,ha⟩:=h;cases f with
 | own x=>exact ⟨⟨a,rfl,ha⟩,rfl⟩
 | part k x=>exact ⟨⟨a,rfl,ha⟩,rfl⟩
 | num n=>exact hl.elim
 | bin op x y=>exact hl.elim
 | whn x y z=>exact hl.elim
theorem uU {ρ:Fm->Prop} {f:Fm} (hl:gG f) (h:ρ f):f.wfp ρ:=by
 cases f with
 | own x=>exact ⟨hl,h⟩
 | part k x=>exact ⟨hl,h⟩
 | num n=>exact hl.elim
 | bin op x y=>exact hl.elim
 | whn x y z=>exact hl.elim
theorem v3 {H:Hp} {ss:List Srt} {o:Srt} {qs:List Srt} {mode j:Int} {zs:List V} (hok: ∀ s∈ss,s.ok) (ho:o∈ss) (hq: ∀ q∈qs,q∈ss) (hl:qs.length<=3) (h:Tups H ((rds o qs mode j).map fmV) zs):LvsP (λf=>f∈rds o qs mode j) H zs:=λv hv=>by
 obtain ⟨ys,hy,hz⟩:=oM h hv;obtain ⟨f,hf,rfl⟩:=AK.mp hy;have lf:=ub hok ho hq hl hf;obtain ⟨r,s⟩:=uV lf hz;exact ⟨f,r,uU lf hf,s⟩
theorem v4 {ss:List Srt} {o:Srt} {qs:List Srt} {mode j:Int} (hok: ∀ s∈ss,s.ok) (ho:o∈ss) (hq: ∀ q∈qs,q∈ss) (hl:qs.length<=3):(rds o qs mode j).length<=24:=by
 have h1:=gC 0 qs λs hs=>hok s (hq s hs);have h2:=(hok o ho).2.2.1;have h3:=fg hok ho hq hl;have h4:=j3 o qs mode j;unfold rds;rw [AI,AI,AD];by_cases c:mode>0
 ·rw [AX c,AD];lia
 ·rw [AQ c];show _+0<=24;lia
inductive fQ  (vs:List V) (H:Hp) (Q:VK) (E_:XK):Prop
 | mk: ∀ tp sa pa ss nm o qs mode,(vs=[.ref tp,.ref sa,.str nm,.str (Srt.name o),.ref pa,.int mode])->(Tp H tp)->(SrtsAt H sa ss)->(du ss)->(o∈ss)->(H pa=some (.tup (cU qs)))->((∀ q∈qs,q∈ss))->(qs.length<=3)->(∀ v rules H',RepF H' ⟨nm,o,qs,rules⟩ v->qK o qs mode rules->Kp tp H H'->Tp H' tp->Q v H')->fQ vs H Q E_
theorem scLForm:av ["tape","sorts","name","own","parts","mode","rules","targets","j","readings"] ["tape","sorts","name","own","parts","mode"] (ak ot):=fsc
theorem uH (F:Fun K "_law_form" "_law_form" ot f fd) (G:Gb mg) (GT:Cl P w K mg base CX0 1 g gd ["sorts","own","parts"] dv "_law_targets")
  (GR:Cl P w K mg base CX0 2 f2 fd2 ["sorts","own","parts","mode","j"] fw "_law_readings")
  (GF: ∀ ρ,a8 P w K mg base CX0 4 f3 fd3 ["tape","readings"] (eO ρ)) (bF:Binds K fd3 ["tape","readings"] []) (kF:W.keepIn K (.ref f3)=true) (mF:mg "_law_formula"=some (.ref f3)):
  a8 P w K mg base CX0 5 f fd ["tape","sorts","name","own","parts","mode"] fQ:=by
 have GF':a8 P w K mg base CX0 4 f3 fd3 ["tape","readings"] (λvs H Q E=> ∃ ρ,eO ρ vs H Q E):=⟨λvs H Q E ⟨ρ,h⟩=>(GF ρ).len vs H Q E h,λA outer s H args us vs Q E hr he hb hv ⟨ρ,h⟩=>(GF ρ).run A outer s H args us vs Q E hr he hb hv h⟩;refine F.ok scLForm (λvs H Q E h=>?_) (λcdv A outer s H vs Q E hr h=>?_)
 ·obtain ⟨tp,sa,pa,ss,nm,o,qs,mode,rfl,_⟩:=h;rfl
 obtain ⟨tp,sa,pa,ss,nm,o,qs,mode,rfl,hT,hsa,hok,ho,hpa,hqs,hql,q⟩:=h;refine ⟨_,af (psz 6 scLForm.nd (bd ae))
  (af (psz 7 scLForm.nd (pcl GT (hr.mono (show 1<=4 by decide)) (aa (pv 1) (aa (pv 3) (aa (pv 4) ae)))))
  (af (bi A5 rfl (bz rfl G.range (aa (au (r:=cZ K) aE rfl G.len Bd (aa (pv 7) ae)) ae)) (pgz 8 scLForm.nd)
   (af (psz 9 scLForm.nd (pcl GR (hr.mono (show 2<=4 by decide)) (aa (pv 1) (aa (pv 3) (aa (pv 4) (aa (pv 5) (aa (pv 8) ae)))))))
   (aj (bC (dC A8 Bq Br bp (pv 6) (aa
    (aF (aa (ar (r:=bf K) aA (ar (r:=cC K) aY (pv 7) (pv 8) (λ_ _=>rfl)) ag (λ_ _=>rfl)) (aa (ar (r:=bf K) aA (ar (r:=cC K) aY (pv 7) (pv 8) (λ_ _=>rfl)) ag (λ_ _=>rfl))
     (aa (gX GF' hr rfl mF kF bF .nil mY (aa (pv 0) (aa (pv 9) ae))) ae)))) ae))))))
  (aj (ay (aF (aa (pv 2) (aa (pv 3) (aa (pv 4) (aa (aU (r:=bU K) aN rfl G.tuple (by decide +kernel) (aa (pv 6) ae)) ae))))))))),?_⟩
 refine ⟨iq,λrl hrl=>?_⟩;have s0:=al hrl (.lst []);have g0:(upd H rl (.lst [])) rl=some (.lst []):=ad;have nrt:=dI hT hrl;have t0:=hT.new (o:=.lst []) hrl;generalize upd H rl (.lst [])=H0 at s0 g0 t0 ⊢;refine ⟨_,rfl,_,rfl,_,rfl,sa,pa,ss,o,qs,rfl,hsa.mono (aq s0),hok,ho,s0 _ _ hpa,hqs,hql,λtl zt H1 htl s1 gtl hTt=>?_⟩;have S1:Same H H1:=s0.trans s1;have grl1:=s1 _ _ g0;have tt1:=t0.same s1;have ntt:tl≠tp:=dI t0 htl;have nrl:rl≠tl:=ai g0 htl;have lt12:=fg hok.2.2.2.2 ho hqs hql;have lzt:zt.length=(cP o qs).length:=by rw [<- hTt.len,AD]
 refine ⟨_,rfl,tl,zt,rfl,.inl (SqL.of gtl),_,rfl,by lia,by lia,?_⟩;refine cW (λi σ H'=> ∃ o8 o9 rv rules,σ=[some (.ref tp),some (.ref sa),some (.str nm),some (.str o.name),some (.ref pa),some (.int mode),some (.ref rl),some (.ref tl),o8,o9]/\Kp tp H H'/\Tp H' tp/\H' tl=some (.lst zt)/\Tups H' ((cP o qs).map tgV) zt/\
   H' rl=some (.lst rv)/\RepRs H' rules rv/\rules.map (λr=>(r.pl,r.word))=(cP o qs).take i/\ ∀ (j:Nat) r,rules[j]? =some r->r.fm.wfp (λf=>f∈rds o qs mode j)/\r.fm.size<=15)
  ⟨none,none,[],[],rfl,Kp.refl.same S1,tt1,gtl,hTt,grl1,.nil,rfl,λj r h=>by cases h⟩ ?_ ?_
 ·rintro i σ H2 hi ⟨o8,o9,rv,rules,rfl,k2,tt2,gtl2,hTt2,grl2,hRr,hmap,hfm⟩;have hi':i< (cP o qs).length:=by lia
  have tk2:=k2.tk hT;have lrules:rules.length=i:=by
   have:=congrArg List.length hmap;rw [AD,A4]at this;lia
  have lrv:rv.length=i:=by rw [<- hRr.len];exact lrules
  refine ⟨_,rfl,_,rfl,_,rfl,_,rfl,_,rfl,sa,pa,ss,o,qs,mode,0+ (i:Int),rfl,hsa.mono tk2,hok,ho,tk2 _ _ hpa,hqs,hql,by lia,by lia,λrdl zr H3 hrdl s3 grdl hTr=>?_⟩;have tt3:=tt2.same s3;have grl3:=s3 _ _ grl2;have gtl3:=s3 _ _ gtl2;have hTt3:=hTt2.mono (aq s3);have nrdt:rdl≠tp:=dI tt2 hrdl;obtain ⟨t,ht⟩: ∃ t,(cP o qs)[i]? =some t:=⟨(cP o qs)[i],AG hi'⟩;obtain ⟨x,hx⟩: ∃ x,zt[i]? =some x:=⟨zt[i]'(by lia),AG (by lia)⟩;obtain ⟨ys,hys,a,rfl,ha⟩:=aH hTt3 hx;have eys:ys=tgV t:=by
   rw [AS,ht]at hys;exact (A0 hys).symm
  subst eys;have eat:atI zt (0+ (i:Int))=some (.ref a):=by
   rw [DI];exact aZ hx
  refine ⟨_,rfl,.inl ⟨rfl,_,SqL.of grl3⟩,?_⟩;refine ⟨_,rfl,_,rfl,tl,_,_,_,rfl,rfl,SqL.of gtl3,eat,a,_,0,.int t.1,rfl,rfl,SqT.of ha,bx,?_⟩;refine ⟨_,rfl,_,rfl,tl,_,_,_,rfl,rfl,SqL.of gtl3,eat,a,_,1,.str t.2,rfl,rfl,SqT.of ha,aZ (j:=1) rfl,?_⟩;have lzr:zr.length<=24:=by
   rw [<- hTr.len,AD];exact v4 hok.2.2.2.2 ho hqs hql
  refine ⟨_,rfl,_,rfl,λfm=>fm∈rds o qs mode (0+ (i:Int)),tp,rdl,zr,rfl,tt3,nrdt,grdl,by lia,v3 hok.2.2.2.2 ho hqs hql hTr,λv fm H4 rp wf sz k4 tt4=>?_⟩;have k24:Kp tp H2 H4:=(Kp.refl.same s3).trans k4;have grl4:=k24 _ _ grl2 nrt;have gtl4:=k24 _ _ gtl2 ntt;refine ⟨dU,λp5 hp5=>?_⟩;have s5:=al hp5 (.tup [.int t.1,.str t.2,v]);have g5:(upd H4 p5 (.tup [.int t.1,.str t.2,v])) p5=some (.tup [.int t.1,.str t.2,v]):=ad;have tt5:=tt4.same s5;generalize upd H4 p5 (.tup [.int t.1,.str t.2,v])=H5 at s5 g5 tt5 ⊢;have k25:Kp tp H2 H5:=k24.same s5;have grl5:=s5 _ _ grl4;refine ⟨rl,rv,.ref p5,rfl,rfl,grl5,am (by lia),?_⟩;have tk:TK H5 (upd H5 rl (.lst (rv++[.ref p5]))):=TK.lst grl5;have tk26:TK H2 (upd H5 rl (.lst (rv++[.ref p5]))):=(k25.tk tt2).trans tk;refine ⟨_,_,rv++[.ref p5],rules++[⟨t.1,t.2,fm⟩],rfl,?_,?_,?_,hTt2.mono tk26,ad,?_,?_,?_⟩
  ·intro b oo hb hbn;rw [ah (ai hb hrl)];exact k25 _ _ (k2 _ _ hb hbn) hbn
  ·obtain ⟨t9,e9⟩:=tt5;exact ⟨t9,by rw [ah (Bg nrt)];exact e9⟩
  ·rw [ah (Bg nrl)];exact s5 _ _ gtl4
  ·exact BH (hRr.mono tk26) ⟨p5,v,rfl,tk _ _ g5,rp.mono ((aq s5).trans tk)⟩
  ·rw [Be,hmap,By,ht];rfl
  ·intro j r hj;by_cases c:j<i
   ·rw [Bu (by lia)]at hj;exact hfm j r hj
   ·rw [Bx (by lia),lrules]at hj;have hji:j=i:=by
     by_cases c2:j=i
     ·exact c2
     ·have:j-i≠0:=by lia
      rw [CZ (by show 1<=j-i;lia)]at hj;cases hj
    subst hji;rw [DH]at hj;have:r=⟨t.1,t.2,fm⟩:=(A0 hj).symm;subst this;rw [DI]at wf;exact ⟨wf,sz⟩
 ·rintro σ H2 ⟨o8,o9,rv,rules,rfl,k2,tt2,gtl2,hTt2,grl2,hRr,hmap,hfm⟩;have tk2:=k2.tk hT;rw [BC (by lia)]at hmap;refine ⟨_,rfl,_,rfl,_,rfl,_,rfl,rl,rv,rfl,.inl ⟨SqL.of grl2,λp3 hp3=>?_⟩⟩;obtain ⟨H3,eW,s3,g3⟩:=nw hp3 (.tup rv);rw [eW];refine ⟨(by show 4<=sizeLine;decide),λp4 hp4=>?_⟩;have s4:=al hp4 (.tup [.str nm,.str o.name,.ref pa,.ref p3]);refine q (.ref p4) rules _ ⟨p4,pa,p3,rv,rfl,ad,s4 _ _ (s3 _ _ (tk2 _ _ hpa)),s4 _ _ g3,hRr.mono (aq (s3.trans s4))⟩ ⟨hmap,hfm⟩ (k2.same (s3.trans s4)) (tt2.same (s3.trans s4))
structure Bk where
 wheel:Int
 sorts:List Srt
 forms:List Frm
def RepFs (H:Hp) (fs:List Frm) (vs:List V):Prop:=Paired (RepF H) fs vs
theorem RepFs.mono {H H':Hp} (t:TK H H') {fs:List Frm} {vs:List V} (h:RepFs H fs vs):RepFs H' fs vs:=Paired.mapP h λ_ _ r=>r.mono t
theorem RepFs.len {H:Hp} {fs:List Frm} {vs:List V} (h:RepFs H fs vs):fs.length=vs.length:=AZ h
inductive RepB (H:Hp) (b:Bk) (v:V):Prop
 | mk: ∀ a sa fa fv,(v=.ref a)->(H a=some (.tup [.int b.wheel,.ref sa,.ref fa]))->(SrtsAt H sa b.sorts)->(H fa=some (.tup fv))->(RepFs H b.forms fv)->RepB H b v
theorem RepB.mono {H H':Hp} (t:TK H H') {b:Bk} {v:V}:RepB H b v->RepB H' b v:=λ⟨a,sa,fa,fv,e,h1,h2,h3,h4⟩=>⟨a,sa,fa,fv,e,t _ _ h1,h2.mono t,t _ _ h3,h4.mono t⟩
def xt (ss:List Srt) (mode:Int) (fr:Frm):Prop:=fr.own∈ss/\(∀ q∈fr.parts,q∈ss)/\fr.parts.length<=3/\qK fr.own fr.parts mode fr.rules
structure pP (b:Bk):Prop where
 so:du b.sorts
 wh:2<=b.wheel/\b.wheel<=10^30
 few:b.forms.length<=10
 more:b.sorts.length<=b.forms.length
 nd:(b.forms.map Frm.name).Nodup
 wd: ∀ fr∈b.forms,cH fr.name=true
 fo: ∃ mode:Int,(mode=0\/mode=1\/mode=2)/\ ∀ fr∈b.forms,xt b.sorts mode fr
 own: ∀ k,k<b.sorts.length->(b.forms[k]?).map Frm.own=b.sorts[k]?
 nil: ∀ fr,b.forms[0]? =some fr->fr.parts=[]
theorem SqL.keep {K:W.Frag} {H H':Hp} {a:Addr} {xs:List V} (h:SqL K H a xs) (k: ∀ o,H a=some o->H' a=some o):SqL K H' a xs:=by
 rcases h with (h | ⟨o,h⟩) | h
 ·exact .inl (.inl (k _ h))
 ·exact .inl (.inr ⟨o,k _ h⟩)
 ·exact .inr h
theorem lc {H:Hp} {ss:List Srt} {xs:List V} (h:RepSs H ss xs) {d:Int} (h0:0<=d) (h1:d<xs.length): ∃ q a b c,ss[d.toNat]? =some q/\atI xs d=some (.ref a)/\H a=some (.tup [.str (Srt.name q),b,c]):=by
 obtain ⟨x,ex,ex2⟩:=l9 h0 h1;obtain ⟨q,hq,a,b,c,rfl,ha,_⟩:=aH h ex2;exact ⟨q,a,.ref b,.ref c,hq,ex,ha⟩
inductive oh (K:W.Frag) (vs:List V) (H:Hp) (Q:VK) (E_:XK):Prop
 | mk: ∀ (sc:Addr) (ns:List Int) (st:Int) (few:Bool),(vs=[.ref sc,.int st,.bl few])->(SqL K H sc (ns.map V.int))->(ns.length<=63)->(0<=st)->(st<900)->(∀ v bk H',RepB H' bk v->pP bk->Same H H'->Q v H')->oh K vs H Q E_
noncomputable def wT (s:Stmt):List Stmt:=match s with
 | .For _ _ b _ _=>b
 | _=>[]
noncomputable def bkFor:List Stmt:=wT ((bE fb).getD 8 (.Pass ⟨0,0,0,0⟩))
inductive kS (H:Hp) (sc hd sa nl fl:Addr) (st wh mode gr mo:Int) (few:Bool) (ss:List Srt) (ws:List Str) (i:Nat) (σ:St) (H':Hp):Prop
 | mk: ∀ o11 o12 o13 o14 o15 fv frs,(σ=[some (.ref sc),some (.int st),some (.bl few),some (.ref hd),some (.int wh),some (.int mode),some (.int gr),some (.int mo),some (.ref sa),some (.ref nl),some (.ref fl),o11,o12,o13,o14,o15])->(Same H H')->(SrtsAt H' sa ss)->(H' nl=some (.lst (ws.map V.str)))->(H' fl=some (.lst fv))->(RepFs H' frs fv)->(frs.length=i)->(frs.map Frm.name=ws.take i)->((∀ fr∈frs,xt ss mode fr))->((∀ k,k<i->k<ss.length->(frs[k]?).map Frm.own=ss[k]?))->(∀ fr,frs[0]? =some fr->fr.parts=[])->kS H sc hd sa nl fl st wh mode gr mo few ss ws i σ H'
theorem tR {α:Type} {l:List α} {x y:α} {j:Nat} (h:(l++[x])[j]? =some y):(j<l.length/\l[j]? =some y)\/(j=l.length/\y=x):=by
 by_cases c:j<l.length
 ·rw [Bu c]at h;exact .inl ⟨c,h⟩
 ·rw [Bx (by lia)]at h;by_cases c2:j-l.length=0
  ·rw [c2]at h;exact .inr ⟨by lia,(A0 h).symm⟩
  ·rw [CZ (by show 1<=j-l.length;lia)]at h;cases h
abbrev iS:List Str:=["script","start","few","head","wheel","mode","grown","more","sorts","names","forms","k","tape","own","many","parts"]
theorem scBook:av iS ["script","start","few"] (ak fb):=fsc
theorem vB {cdv:Value} {A:Around} {outer:List Env} {s:Shared} {H H0:Hp} {E:XK} (G:Gb mg)
  (GD:Cl P w K mg base CX0 1 g gd ["tape","many"] bZ "_law_digit")
  (GF:Cl P w K mg base CX0 5 f2 fd2 ["tape","sorts","name","own","parts","mode"] fQ "_law_form")
  (hr:Room 5 (cG CX0 P w K mg base iS "_law_book" (ak fb) f cdv A outer s H0 E).nox.A):
  ∃ t,PSs (cG CX0 P w K mg base iS "_law_book" (ak fb) f cdv A outer s H0 E).nox (bkFor.drop 5) t/\
   ∀ (sc hd sa nl fl:Addr) (st wh mode gr mo:Int) (few:Bool) (ss:List Srt) (ws:List Str),du ss->ws.length=10->H fl=none->nl≠fl-> ∀ (D:dW) (i:Nat) (σ:St) (H2 H5:Hp) (tp:Addr) (o:Srt) (m:Int) (o15:Option V),kS H sc hd sa nl fl st wh mode gr mo few ss ws i σ H2->i<10->H2 tp=none->Same H2 H5->Tp H5 tp->o∈ss->(i<ss.length->ss[i]? =some o)->0<=m->m<=3->(i=0->m=0)->
    (∀ σ' H',kS H sc hd sa nl fl st wh mode gr mo few ss ws (i+1) σ' H'->D.nx σ' H')->
    t D [some (.ref sc),some (.int st),some (.bl few),some (.ref hd),some (.int wh),some (.int mode),some (.int gr),some (.int mo),some (.ref sa),some (.ref nl),some (.ref fl),some (.int (0+ (i:Int))),some (.ref tp),some (.str o.name),some (.int m),o15] H5:=by
 have hr1:=hr.mono (show 1<=5 by decide);refine ⟨_,af (psz 15 scBook.nd (aU (r:=bU K) aN rfl G.tuple (by decide +kernel) (aa
   (dN (sc0:=ak fb) (N0:=iS) (ys:=["sorts","tape"]) (fr:=[8,12]) rfl (bz rfl G.range (aa (pv 14) ae)) rfl rfl
    cok
    (λC s H ex=>ar (r:=bf K) aA (ar (r:=bf K) aA (pv 1) (pcl GD hr1 (aa (pv 2) (aa (au (r:=cZ K) aE rfl G.len Bd (aa (pv 1) ae)) ae))) (λ_ _=>rfl)) ag (λ_ _=>rfl))) ae)))
  (aj (bC (dC A8 Bq Br bp (pv 10) (aa
   (pcl GF hr (aa (pv 12) (aa (pv 8) (aa (ar (r:=cC K) aY (pv 9) (pv 11) (λ_ _=>rfl)) (aa (pv 13) (aa (pv 15) (aa (pv 5) ae))))))) ae)))),?_⟩
 rintro sc hd sa nl fl st wh mode gr mo few ss ws hok hws hfl0 hnf D i σ H2 H5 tp o m o15 ⟨o11,o12,o13,o14,o15',fv,frs,rfl,sm,hsa,gnl,gfl,hF,hfl,hnm,hfok,hown,hnil⟩ hi htp s5 tt5 ho hoi hm0 hm3 hmi hD;obtain ⟨xs,gsa,hR⟩:=hsa.mono (aq s5);have lxs:=hR.len;refine ⟨_,rfl,m,rfl,by lia,by lia,?_⟩;refine gc (n:=m.toNat) (R:=λi v=>v=.int (0+i)) (by lia) lW ie i4
  (λp n zs H'=>Kp tp H5 H'/\Tp H' tp/\H' p=some (.lst zs)/\p≠tp/\ ∃ qs,zs=cU qs/\qs.length=n/\ ∀ q∈qs,q∈ss) ?_ ?_ ?_ ?_
 ·intro p hp;exact ⟨Kp.refl.new hp,tt5.new hp,ad,dI tt5 hp,[],rfl,rfl,λq h=>by cases h⟩
 ·rintro p n zs H' ⟨_,_,gp,_,qs,rfl,hl,_⟩;exact ⟨gp,by unfold cU;rw [AD];exact hl⟩
 ·rintro p n zs H' v k hp hn rfl ⟨k6,tt6,gp,hpn,qs,rfl,hl,hqs⟩ hk;have tk6:=k6.tk tt5;have h1:=hok.1;refine ⟨_,rfl,_,rfl,_,rfl,sa,_,rfl,.inr (SqT.of (tk6 _ _ gsa)),tp,_,rfl,tt6,by lia,by have:=hok.2.1;lia,λd t hd0 hd1=>?_⟩;obtain ⟨q,a,b,c,hq,eat,ha⟩:=lc hR hd0 hd1;have k7:Kp tp H5 (upd H' tp (.lst [.int t])):=k6.trans Kp.tape;have tk7:=k7.tk tt5;refine ⟨sa,xs,d,.ref a,rfl,rfl,SqT.of (tk7 _ _ gsa),eat,a,_,0,_,rfl,rfl,SqT.of (tk7 _ _ ha),bx,?_⟩;have gp7:(upd H' tp (.lst [.int t])) p=some (.lst (cU qs)):=by rw [ah hpn];exact gp
  refine hk _ _ gp7 ⟨?_,⟨t,?_⟩,ad,hpn,qs++[q],?_,?_,?_⟩
  ·intro b' o' hb hbn;rw [ah (ai hb hp)];exact k7 _ _ hb hbn
  ·rw [ah (Bg hpn),ad]
  ·unfold cU;rw [Be];rfl
  ·rw [AI,hl];rfl
  ·intro x hx;rw [AT,AE]at hx;rcases hx with h | rfl
   ·exact hqs x h
   ·exact AH hq
 ·rintro p zs H6 hp ⟨k6,tt6,gp,hpn,qs,rfl,hl,hqs⟩;refine ⟨p,_,rfl,.inl ⟨SqL.of gp,λpa hpa=>?_⟩⟩;have s7:=al hpa (.tup (cU qs));have g7:(upd H6 pa (.tup (cU qs))) pa=some (.tup (cU qs)):=ad;have tt7:=tt6.same s7;generalize upd H6 pa (.tup (cU qs))=H7 at s7 g7 tt7 ⊢;have k27:Kp tp H2 H7:=((Kp.refl.same s5).trans k6).same s7;have S27:Same H2 H7:=λb oo h=>k27 b oo h (ai h htp);have gfl7:=S27 _ _ gfl;obtain ⟨nm,enm⟩: ∃ nm,ws[i]? =some nm:=⟨ws[i]'(by lia),AG (by lia)⟩;have eat:atI (ws.map V.str) (0+ (i:Int))=some (V.str nm):=by
   rw [DI];exact aZ (by rw [AS,enm];rfl)
  refine ⟨_,rfl,.inl ⟨rfl,_,SqL.of gfl7⟩,?_⟩;refine ⟨_,rfl,_,rfl,_,rfl,_,rfl,nl,_,_,_,rfl,rfl,SqL.of (S27 _ _ gnl),eat,_,rfl,_,rfl,_,rfl,tp,sa,pa,ss,nm,o,qs,mode,rfl,tt7,hsa.mono (aq S27),hok,ho,g7,hqs,by lia,λv rules H8 rf rok k8 tt8=>?_⟩;have S28:Same H2 H8:=λb oo h=>k8 b oo (S27 b oo h) (ai h htp);have gfl8:=S28 _ _ gfl;have lfv:=hF.len;refine ⟨fl,fv,v,rfl,rfl,gfl8,am (by lia),?_⟩;have tk:TK H8 (upd H8 fl (.lst (fv++[v]))):=TK.lst gfl8;have tk2:TK H2 (upd H8 fl (.lst (fv++[v]))):=(aq S28).trans tk;refine hD _ _ ⟨_,_,_,_,_,fv++[v],frs++[⟨nm,o,qs,rules⟩],rfl,?_,hsa.mono tk2,?_,ad,?_,?_,?_,?_,?_,?_⟩
  ·intro b oo h;rw [ah (ai h hfl0)];exact S28 _ _ (sm _ _ h)
  ·rw [ah hnf];exact S28 _ _ gnl
  ·exact BH (hF.mono tk2) (rf.mono tk)
  ·rw [AI,hfl];rfl
  ·rw [Be,hnm,By,enm];rfl
  ·intro fr hfr;rw [AT,AE]at hfr;rcases hfr with h | rfl
   ·exact hfok fr h
   ·exact ⟨ho,hqs,by show qs.length<=3;lia,rok⟩
  ·intro k hk hks;by_cases c:k<i
   ·rw [Bu (by lia)];exact hown k c hks
   ·have:k=i:=by lia
    subst this;rw [Bx (by lia),hfl,DH];show some o=_;rw [hoi hks]
  ·intro fr hfr;rcases tR hfr with ⟨h,e⟩ | ⟨h,e⟩
   ·exact hnil fr e
   ·subst e;have:qs.length=0:=by rw [hl,hmi (by lia)];rfl
    exact B5 this
theorem wG {d:Int} (h0:0<=d) (h1:d<5): ∃ m:Int,atI [V.int 2,.int 1,.int 3,.int 2,.int 0] d=some (.int m)/\0<=m/\m<=3:=by
 have h5:d=0\/d=1\/d=2\/d=3\/d=4:=by lia
 rcases h5 with h | h | h | h | h <;> subst h <;> exact ⟨_,rfl,by decide,by decide⟩
theorem wC {d:Int} (h0:0<=d) (h1:d<5): ∃ m:Int,atI [V.int 0,.int 0,.int 1,.int 2,.int 2] d=some (.int m)/\(m=0\/m=1\/m=2):=by
 have h5:d=0\/d=1\/d=2\/d=3\/d=4:=by lia
 rcases h5 with h | h | h | h | h <;> subst h <;> exact ⟨_,rfl,by decide⟩
theorem wB {d:Int} (h0:0<=d) (h1:d<3): ∃ m:Int,atI [V.int 3,.int 4,.int 7] d=some (.int m)/\3<=m/\m<=7:=by
 have h5:d=0\/d=1\/d=2:=by lia
 rcases h5 with h | h | h <;> subst h <;> exact ⟨_,rfl,by decide,by decide⟩
theorem sW {z d:Int} (hz0:0<=z) (hz1:z<1000) (h0:0<=d) (h1:d<6): ∃ m:Int,atI [V.int 2,.int 7,.int 10,.int 97,.int (10^ (30:Int).toNat),.int (2+z)] d=some (.int m)/\2<=m/\m<=10^30:=by
 have e:(10:Int) ^ (30:Int).toNat=10^30:=rfl;have b:(2000:Int)<=10^30:=by decide +kernel
 have h5:d=0\/d=1\/d=2\/d=3\/d=4\/d=5:=by lia
 rcases h5 with h | h | h | h | h | h <;> subst h
 ·exact ⟨2,rfl,by lia,by lia⟩
 ·exact ⟨7,rfl,by lia,by lia⟩
 ·exact ⟨10,rfl,by lia,by lia⟩
 ·exact ⟨97,rfl,by lia,by lia⟩
 ·exact ⟨_,rfl,by rw [e];lia,by rw [e];lia⟩
 ·exact ⟨_,rfl,by lia,by lia⟩
theorem vC {cdv:Value} {A:Around} {outer:List Env} {s:Shared} {H H0:Hp} {E:XK} (G:Gb mg)
  (GD:Cl P w K mg base CX0 1 g gd ["tape","many"] bZ "_law_digit")
  (GF:Cl P w K mg base CX0 5 f2 fd2 ["tape","sorts","name","own","parts","mode"] fQ "_law_form")
  (hr:Room 5 (cG CX0 P w K mg base iS "_law_book" (ak fb) f cdv A outer s H0 E).nox.A):
  ∃ t,PSs (cG CX0 P w K mg base iS "_law_book" (ak fb) f cdv A outer s H0 E).nox (bkFor.drop 3) t/\
   ∀ (sc hd sa nl fl:Addr) (st wh mode gr mo:Int) (few:Bool) (ss:List Srt) (ws:List Str),du ss->ws.length=10->H fl=none->nl≠fl-> ∀ (D:dW) (i:Nat) (σ:St) (H2 H5:Hp) (tp:Addr) (o:Srt) (o14 o15:Option V),kS H sc hd sa nl fl st wh mode gr mo few ss ws i σ H2->i<10->H2 tp=none->Same H2 H5->Tp H5 tp->o∈ss->(i<ss.length->ss[i]? =some o)->
    (∀ σ' H',kS H sc hd sa nl fl st wh mode gr mo few ss ws (i+1) σ' H'->D.nx σ' H')->
    t D [some (.ref sc),some (.int st),some (.bl few),some (.ref hd),some (.int wh),some (.int mode),some (.int gr),some (.int mo),some (.ref sa),some (.ref nl),some (.ref fl),some (.int (0+ (i:Int))),some (.ref tp),some (.str o.name),o14,o15] H5:=by
 have hr1:=hr.mono (show 1<=5 by decide);obtain ⟨t2,ht2,hread2⟩:=vB (cdv:=cdv) (A:=A) (outer:=outer) (s:=s) (H:=H) (H0:=H0) (E:=E) (f:=f) G GD GF hr;refine ⟨_,af (psz 14 scBook.nd (ar (r:=cC K) aY (bd (aa ag (aa ag (aa ag (aa ag (aa ag ae)))))) (pcl GD hr1 (aa (pv 12) (aa ag ae))) (λ_ _=>rfl)))
  (af (bc (PW.pt (qf (ax cr (pv 11) ag (aL _)) (oG (PW.pt (fE (ax cr (pv 6) ag (aL _)) (dM (ax gi (pv 11) (au (r:=cZ K) aE rfl G.len Bd (aa (pv 8) ae)) (aL _))))))))
   (aj (psz 14 scBook.nd ag)) aK) ht2),?_⟩
 intro sc hd sa nl fl st wh mode gr mo few ss ws hok hws hfl0 hnf D i σ H2 H5 tp o o14 o15 hB hi htp s5 tt5 ho hoi hD;obtain ⟨xs,gsa,hR⟩:SrtsAt H5 sa ss:=by
  obtain ⟨_,_,_,_,_,_,_,_,_,h,_⟩:=hB;exact h.mono (aq s5)
 refine ⟨(by show 5<=sizeLine;decide),λp hp=>?_⟩;have npt:=dI tt5 hp;refine ⟨_,rfl,tp,5,rfl,tt5.new hp,by decide,by decide,λd t hd0 hd1=>?_⟩;obtain ⟨m,em,hm0,hm3⟩:=wG hd0 hd1;refine ⟨p,_,d,.int m,rfl,rfl,SqL.of (by rw [ah npt];exact ad),em,?_⟩;have k6:Kp tp H5 (upd (upd H5 p (.lst [.int 2,.int 1,.int 3,.int 2,.int 0])) tp (.lst [.int t])):=(Kp.refl.new hp).trans Kp.tape;have tt6:Tp (upd (upd H5 p (.lst [.int 2,.int 1,.int 3,.int 2,.int 0])) tp (.lst [.int t])) tp:=⟨t,ad⟩;generalize upd (upd H5 p (.lst [.int 2,.int 1,.int 3,.int 2,.int 0])) tp (.lst [.int t])=H6 at k6 tt6 ⊢;have s6:Same H2 H6:=λb oo h=>k6 b oo (s5 b oo h) (ai h htp);have gsa6:=k6.tk tt5 _ _ gsa;refine ⟨_,rfl,rfl,_,rfl,?_⟩;refine dD (λc=>bL ?_) (λc=>?_)
 ·exact hread2 sc hd sa nl fl st wh mode gr mo few ss ws hok hws hfl0 hnf D i σ H2 H6 tp o 0 o15 hB hi htp s6 tt6 ho hoi (by decide) (by decide) (λ_=>rfl) hD
 have hne:i=0->m=0:=λe=>by
  subst e;exact absurd (AO rfl) c
 refine ⟨_,rfl,rfl,_,rfl,?_⟩;refine dD (λc2=>?_) (λc2=>bt ?_)
 ·refine ⟨_,rfl,_,rfl,sa,xs,rfl,.inr (SqT.of gsa6),_,_,rfl,rfl,_,rfl,?_⟩;refine dD (λc3=>?_) (λc3=>?_)
  ·exact hread2 sc hd sa nl fl st wh mode gr mo few ss ws hok hws hfl0 hnf D i σ H2 H6 tp o 0 o15 hB hi htp s6 tt6 ho hoi (by decide) (by decide) (λ_=>rfl) hD
  ·exact hread2 sc hd sa nl fl st wh mode gr mo few ss ws hok hws hfl0 hnf D i σ H2 H6 tp o m o15 hB hi htp s6 tt6 ho hoi hm0 hm3 hne hD
 ·exact hread2 sc hd sa nl fl st wh mode gr mo few ss ws hok hws hfl0 hnf D i σ H2 H6 tp o m o15 hB hi htp s6 tt6 ho hoi hm0 hm3 hne hD
theorem bX {α β:Type} {F:α->β->Prop}: ∀ {l:List α} {r:List β} {i:Nat} {a:α},Paired F l r->l[i]? =some a-> ∃ b,r[i]? =some b/\F a b
 | _,_,i,a,.nil,e=>by cases i <;> cases e
 | _,_,0,a,.cons h _,e=>⟨_,rfl,by cases e;exact h⟩
 | _,_,i+1,a,.cons _ t,e=>bX (i:=i) t e
end My
namespace HT
open PySem PyProof.Rows
theorem noFill_tuple_mul:fillsNumberSlot (.type "tuple") "mul"=pure false:=
 PySem.fillsNumberSlot_seq (id:="tuple.__mul__") (r:=some (.builtin "tuple.__rmul__")) F.slot_tuple_mul.lookup (by decide +kernel) F.slot_tuple_rmul.lookup (by decide +kernel)
theorem repeat_tuple:seqRepeat? (.type "tuple")=pure (some (.builtin "tuple.__mul__")):=by
 unfold seqRepeat?;rw [PySem.seqSlot_of (T:="tuple") (name:="__mul__") (id:="tuple.__mul__") F.slot_tuple_mul.lookup (by decide +kernel),PySem.seqSlot_of (T:="tuple") (name:="__rmul__") (id:="tuple.__rmul__") F.slot_tuple_rmul.lookup (by decide +kernel)];rfl
theorem int_rmul_tuple (a:Int) (t:Tok) (l:Addr) (items:Array Value) (n:Nat) (dd:Option Addr) (sl:Array (Option Value)):
  Meets (Builtin.«int.__rmul__» ⟨[.int a t,.ref l],[]⟩) (λ_ R s=>s.heap.get? l=some {cls:=.type "tuple",dict:=dd,data:=.seq items n,slots:=sl}/\R (.ok (.ret Value.notImplemented)) s):=
 .of_wp λprog w A R s h=>by obtain ⟨hp,g,d,tk,os⟩:=s;obtain ⟨hl,h⟩:=h;wp_walk;exact ⟨_,rfl,h⟩
theorem tuple_mul1 (l:Addr) (items:Array Value) (n:Nat) (dd:Option Addr) (sl:Array (Option Value)) (u:Tok) (hc0: ¬ items.isEmpty=true):
  Meets (Builtin.«tuple.__mul__» ⟨[.ref l,.int 1 u],[]⟩) (λ_ R s=>s.heap.get? l=some {cls:=.type "tuple",dict:=dd,data:=.seq items n,slots:=sl}/\R (.ok (.ret (.ref l))) s):=
 .of_wp λprog w A R s h=>by obtain ⟨hp,g,d,tk,os⟩:=s;obtain ⟨hl,h⟩:=h;have f1:=DE;have f2:=CA;wp_walk using C9 hl;exact ⟨_,rfl,h⟩
theorem tuple_mul0 (l:Addr) (v:Value) (n:Nat) (dd:Option Addr) (sl:Array (Option Value)) (u:Tok):
  Meets (Builtin.«tuple.__mul__» ⟨[.ref l,.int 0 u],[]⟩) (λ_ R s=>s.heap.get? l=some {cls:=.type "tuple",dict:=dd,data:=.seq #[v] n,slots:=sl}/\R (.ok (.ret (.ref s.heap.objs.size))) {s with heap:=s.heap.push {cls:=.type "tuple",data:=.seq #[]},toks:=s.toks}):=
 .of_wp λprog w A R s h=>by obtain ⟨hp,g,d,tk,os⟩:=s;obtain ⟨hl,h⟩:=h;have f1:=DE;have f2:=CA;wp_walk using C9 hl;exact ⟨_,rfl,h⟩
theorem tuple_mul2 (l:Addr) (v:Value) (n:Nat) (dd:Option Addr) (sl:Array (Option Value)) (u:Tok):
  Meets (Builtin.«tuple.__mul__» ⟨[.ref l,.int 2 u],[]⟩) (λ_ R s=>s.heap.get? l=some {cls:=.type "tuple",dict:=dd,data:=.seq #[v] n,slots:=sl}/\R (.ok (.ret (.ref s.heap.objs.size))) {s with heap:=s.heap.push {cls:=.type "tuple",data:=.seq #[v,v]},toks:=s.toks}):=
 .of_wp λprog w A R s h=>by obtain ⟨hp,g,d,tk,os⟩:=s;obtain ⟨hl,h⟩:=h;have f1:=DE;have f2:=CA;wp_walk using C9 hl;exact ⟨_,rfl,h⟩
theorem tuple_mul3 (l:Addr) (v:Value) (n:Nat) (dd:Option Addr) (sl:Array (Option Value)) (u:Tok):
  Meets (Builtin.«tuple.__mul__» ⟨[.ref l,.int 3 u],[]⟩) (λ_ R s=>s.heap.get? l=some {cls:=.type "tuple",dict:=dd,data:=.seq #[v] n,slots:=sl}/\R (.ok (.ret (.ref s.heap.objs.size))) {s with heap:=s.heap.push {cls:=.type "tuple",data:=.seq #[v,v,v]},toks:=s.toks}):=
 .of_wp λprog w A R s h=>by obtain ⟨hp,g,d,tk,os⟩:=s;obtain ⟨hl,h⟩:=h;have f1:=DE;have f2:=CA;wp_walk using C9 hl;exact ⟨_,rfl,h⟩
end HT
namespace L2
open PySem PySem.Spec PyProof.Rows
section
variable {X:Cx}
theorem uB:OpR X (binaryOp .Add) (λx y H Q=> ∃ a b xs ys,x=.ref a/\y=.ref b/\SqT X.K H a xs/\SqT X.K H b ys/\xs.length+ys.length<=sizeLine/\(xs=[]->Q (.ref b) H)/\(xs≠[]->ys=[]->Q (.ref a) H)/\
  (xs≠[]->ys≠[]-> ∀ p,H p=none->Q (.ref p) (upd H p (.tup (xs++ys))))):=by
 intro pins s σ H x y v u Q I rx ry h;obtain ⟨a,b,xs,ys,rfl,rfl,ha,hb,hz,q0,q1,q2⟩:=h;by_cases hx:xs=[]
 ·subst hx;cases rx;cases ry;obtain ⟨its,r1,p1,_⟩:=I.tuple ha;obtain ⟨its2,r2,p2,_⟩:=I.tuple hb;cases r1;obtain ⟨⟨cls,dd,data,sl⟩,ho,hc,n,hd⟩:=id p1;obtain ⟨⟨cls2,dd2,data2,sl2⟩,ho2,hc2,n2,hd2⟩:=id p2;simp only at hc hd hc2 hd2;subst hc hd hc2 hd2;exact concat_meets ⟨_,ho,rfl⟩ ⟨_,ho2,rfl⟩ Fp seq_tuple_add Ei Ec (DR _ _)
   (tuple_addW0 a b #[] its2.toArray n n2 dd dd2 sl sl2 rfl) ⟨ho,ho2,⟨.ref b,H,I,rfl,q0 rfl⟩⟩
 ·exact wq pins s σ H _ _ v u Q I rx ry ⟨a,b,xs,ys,rfl,rfl,ha,hb,hx,hz,q1 hx,q2 hx⟩
theorem wp:OpR X (binaryOp .Mult) (λx y H Q=> ∃ a v k,x=.ref a/\y=.int k/\SqT X.K H a [v]/\(k=0\/k=1\/k=2\/k=3)/\(k=1->Q (.ref a) H)/\(∀ p,H p=none->k≠1->Q (.ref p) (upd H p (.tup (List.replicate k.toNat v))))):=by
 intro pins s σ H x y vv u Q I rx ry h;obtain ⟨a,v,k,rfl,rfl,ha,hk,q1,q2⟩:=h;cases rx;obtain ⟨t,rfl⟩:=ry;obtain ⟨its,r,p1,_⟩:=I.tuple ha;cases r with
 | @cons _ z _ _ rz r0=>
  cases r0;obtain ⟨⟨cls,dd,data,sl⟩,ho,hc,n,hd⟩:=id p1;simp only at hc hd;subst hc hd;have go: ∀ {Q':Value->Shared->Prop},wpAny (model X.prog X.w) X.A (call (.builtin "tuple.__mul__") [.ref a,.int k t]) Q' X.xe s->wpAny (model X.prog X.w) X.A (binaryOp .Mult (.ref a) (.int k t)) Q' X.xe s:=λhq=>
   wpAny_binaryOp_repeat_ref (T:="tuple") (U:="int") (by decide) ⟨_,ho,rfl⟩ (λs'=>typeIs_int s' k t) HT.noFill_tuple_mul F.fills_int_mul F.slot_int_rmul HT.repeat_tuple F.slot_int_index.lookup
    (DA F.slot_int_rmul (typeIs_int s k t) F.entry_int_rmul (F.args_int_rmul_2 _ _) (HT.int_rmul_tuple k t a _ n dd sl) ⟨ho,rfl,⟨_,ho,rfl⟩,hq⟩)
  have new: ∀ (zs:List Value) (vs:List V),Vals vs zs->vs.length<=3->(∀ p,H p=none->Q (.ref p) (upd H p (.tup vs)))->EP X pins σ Q (.ref s.heap.objs.size) {s with heap:=s.heap.push {cls:=.type "tuple",data:=.seq zs.toArray},toks:=s.toks}:=by
   intro zs vs rv hl hq;refine ⟨.ref s.heap.objs.size,_,I.laid (t':=s.toks) (o:=.tup vs) (λb ob q=>AC _ q) (AJ _) ?_,rfl,hq _ (I.hok.fresh (AJ _))⟩;exact ⟨Bj (am (by lia)),_,rv,IsTup.new _ _⟩
  rcases hk with rfl | rfl | rfl | rfl
  ·exact go (DA Ey ⟨_,ho,rfl⟩ En (Eb _ _) (HT.tuple_mul0 a z n dd sl t) ⟨ho,new [] [] .nil (by show 0<=3;lia) λp hp=>q2 p hp (by decide)⟩)
  ·exact go (DA Ey ⟨_,ho,rfl⟩ En (Eb _ _) (HT.tuple_mul1 a _ n dd sl t (by simp)) ⟨ho,⟨.ref a,H,I,rfl,q1 rfl⟩⟩)
  ·exact go (DA Ey ⟨_,ho,rfl⟩ En (Eb _ _) (HT.tuple_mul2 a z n dd sl t) ⟨ho,new [z,z] [v,v] (.cons rz (.cons rz .nil)) (by show 2<=3;lia) λp hp=>q2 p hp (by decide)⟩)
  ·exact go (DA Ey ⟨_,ho,rfl⟩ En (Eb _ _) (HT.tuple_mul3 a z n dd sl t) ⟨ho,new [z,z,z] [v,v,v] (.cons rz (.cons rz (.cons rz .nil))) (by show 3<=3;lia) λp hp=>q2 p hp (by decide)⟩)
end
section
variable {base G h h':Heap}
theorem lQ {env:Env} {r:List Env} {b:Addr} (hb:b∈frs r):b∈frs (env::r):=by
 unfold frs;rw [BA];cases env.frame with
 | none=>exact hb
 | some L=>exact A2 _ hb
end
inductive Rec (h:Heap) (x C:Addr) (od:Option Addr) (fl:Value) (T:Addr):Prop
 | mk (oe:Obj) (vs:Array Value) (oT:Obj) (ts:Array Value) (he:h.get? x=some oe) (hc:oe.cls=.ref C) (ho:oe.dict=od) (hd:oe.data=.fields vs) (h1:vs[1]? =some (.ref T)) (ne:T≠x)
   (hT:h.get? T=some oT) (hdT:oT.data=.fields ts) (h3:ts[3]? =some fl):Rec h x C od fl T
structure LeftF (l:List Env) (x C:Addr) (od:Option Addr) (fl:Value) (hs:List Addr) (h h':Heap):Prop where
 keep: ∀ b o,b≠x->b∉hs->b∉frs l->h.get? b=some o->h'.get? b=some o
 slot: ∀ b o,b∈frs l->h.get? b=some o-> ∃ sl,h'.get? b=some {o with slots:=sl}
 rc: ∃ T,Rec h' x C od fl T/\(T∈hs\/h.objs.size<=T)
 sz:h.objs.size<=h'.objs.size
theorem Rec.notFr {h base:Heap} {l:List Env} {x C T:Addr} {od:Option Addr} {fl:Value} (r:Rec h x C od fl T) (hl:h.FunFrames base l):x∉frs l/\T∉frs l:=by
 obtain ⟨oe,vs,oT,ts,he,hc,ho,hd,h1,ne,hT,hdT,h3⟩:=r;refine ⟨λz=>?_,λz=>?_⟩ <;> obtain ⟨_,o,e,nf⟩:=hl.mem z
 ·rw [he]at e;cases e;exact nf _ hd
 ·rw [hT]at e;cases e;exact nf _ hdT
theorem LeftF.trans {l:List Env} {x C T:Addr} {od:Option Addr} {fl fl':Value} {hs:List Addr} {h h1 h2:Heap} (a:LeftF l x C od fl hs h h1) (hT:T∈hs\/h.objs.size<=T) (b:LeftF l x C od fl' [T] h1 h2):LeftF l x C od fl' hs h h2:=by
 refine ⟨λc o n1 n2 n3 e=>b.keep c o n1 (λz=>?_) n3 (a.keep c o n1 n2 n3 e),λc o hc e=>?_,?_,Bm a.sz b.sz⟩
 ·rcases hT with z' | z' <;> rw [<- AE.mp z]at z'
  ·exact n2 z'
  ·exact absurd (AN e) (C7.mpr z')
 ·obtain ⟨sl,e1⟩:=a.slot c o hc e;obtain ⟨sl',e2⟩:=b.slot c _ hc e1;exact ⟨sl',e2⟩
 ·obtain ⟨T2,r,h2⟩:=b.rc;refine ⟨T2,r,?_⟩;rcases h2 with z | z
  ·rw [AE.mp z];exact hT
  ·exact .inr (Bm a.sz z)
theorem kz {o:Obj} (f:Array Value->Array Value):(o.mapFields f).dict=o.dict:=by
 obtain ⟨c,d,dt,sl⟩:=o;cases dt <;> rfl
section
variable {M:Model} {A:Around} {E:Value->Shared->Prop} {s:Shared} {base:Heap} {env:Env} {outer:List Env} {L x C T:Addr} {od:Option Addr} {fl:Value} {Q:Unit->Shared->Prop}
theorem gR {l:List Env} {fa:Option Addr} (hl:s.heap.FunFrames base l) (r:Rec s.heap x C od fl T) (k: ∀ h',LeftF l x C od (fa.elim .none λf=>rawInt f) [T] s.heap h'->Q () {s with heap:=h'}):wpAny M A (setFlight (.ref x) fa) Q E s:=by
 obtain ⟨_,hTf⟩:=r.notFr hl;obtain ⟨oe,vs,oT,ts,he,hc,ho,hd,h1,ne,hT,hdT,h3⟩:=r;have hsz3:3<ts.size:=(Cj.mp h3).1;have other: ∀ b,b≠T->(s.heap.update T (Obj.mapFields (·.setIfInBounds 3 (fa.elim Value.none λf=>rawInt f)))).get? b=s.heap.get? b:=λb hb=>B1 _ _ (Bg hb);unfold setFlight;refine AA (Bp he hd h1 ?_);rw [AX (show (Value.ref T !=Value.none)=true from by simp)];refine B9 hT hdT hsz3 (k _ ⟨λb o n1 n2 n3 e=>(other b λz=>n2 (by rw [z];exact AE.mpr rfl)).trans e,λb o hb e=>⟨o.slots,(other b λz=>hTf (z▸hb)).trans e⟩,⟨T,?_,.inl (AE.mpr rfl)⟩,by rw [Ez];exact AJ _⟩);exact .mk oe vs _ _ ((other x (Bg ne)).trans he) hc ho hd h1 ne (BW _ hT (Ct (BJ hdT _))) (BJ hdT _) (by simp [hsz3])
theorem qy {oe:Obj} {vs:Array Value} {head:Value} {hadNext:Bool} (hfr:A.frames=some (env::outer)) (hl:s.heap.FunFrames base (env::outer)) (hf:env.frame=some L) (he:s.heap.get? x=some oe) (hc:oe.cls=.ref C) (ho:oe.dict=od)
  (hd:oe.data=.fields vs) (hsz:1<vs.size) (k: ∀ h',LeftF (env::outer) x C od (rawInt L) [] s.heap h'->Q () {s with heap:=h'}):
  wpAny M A (do let a <- frameOf env;let pl <- entryPlaceOf L hadNext;let b <- EntryCells.newEntry head a .none (rawInt L) .none pl;setField (.ref x) 1 b) Q E s:=by
 have hene:x∉frs (env::outer):=λhm=>by
  obtain ⟨_,o,e,nf⟩:=hl.mem hm;rw [he]at e;cases e;exact nf _ hd
 refine AA (wpAny_frameOf_fun hfr hl hf λh₁ hs₁=>?_);refine AA (wpAny_entryPlaceOf λpl hpl=>?_);unfold EntryCells.newEntry newFields;refine AA (A9 ?_ (hpl.sizeOk5 _ _ _ _ _));have he₁:h₁.get? x=some oe:=(hs₁.2.1 x hene).trans he;generalize hn:({cls:=.type "traceback",dict:=none,data:=.fields ([head,.ref L,.none,rawInt L,.none]++(if pl.isEmpty then List.replicate 6 Value.none else pl)).toArray}:Obj)=nO;have he₂:=AC (h:=h₁) nO he₁;refine B9 he₂ hd hsz (k _ ?_);have hTe:h₁.objs.size≠x:=Cz (AN he₁);have other: ∀ b o,b≠x->h₁.get? b=some o->((h₁.push nO).update x (Obj.mapFields (·.setIfInBounds 1 (Value.ref h₁.objs.size)))).get? b=some o:=λb o hb e=>by
  rw [B1 _ _ (Bg hb)];exact AC _ e
 refine ⟨λb o n1 _ n3 e=>other b o n1 ((hs₁.2.1 b n3).trans e),λb o hb e=>?_,⟨h₁.objs.size,?_,.inr ?_⟩,?_⟩
 ·obtain ⟨sl,e1⟩:=hs₁.2.2 b o e;exact ⟨sl,other b _ (λz=>hene (z▸hb)) e1⟩
 ·refine .mk _ _ nO _ (BW _ he₂ (Ct (BJ hd _))) ((Dy _ _).trans hc) ((kz _).trans ho) (BJ hd _) (by simp [hsz]) hTe ?_ (by rw [<- hn]) ?_
  ·rw [B1 _ _ (Bg hTe)];exact AU h₁ (by rw [<- hn];rfl)
  ·simp
 ·rw [hs₁.1];exact AJ _
 ·rw [Ez,B8,hs₁.1];exact Nat.le_succ _
theorem oW {oe:Obj} {vs:Array Value} (hfr:A.frames=some (env::outer)) (hl:s.heap.FunFrames base (env::outer)) (hf:env.frame=some L) (he:s.heap.get? x=some oe) (hc:oe.cls=.ref C) (ho:oe.dict=od)
  (hd:oe.data=.fields vs) (h1:vs[1]? =some .none) (k: ∀ h',LeftF (env::outer) x C od (rawInt L) [] s.heap h'->Q () {s with heap:=h'}):wpAny M A (noteFrame (.ref x) env) Q E s:=by
 unfold noteFrame;simp only [hf];refine AA (Bp he hd h1 ?_);rw [AQ (by decide)];exact qy hfr hl hf he hc ho hd (Cj.mp h1).1 k
theorem ku (hfr:A.frames=some (env::outer)) (hl:s.heap.FunFrames base (env::outer)) (hf:env.frame=some L) (r:Rec s.heap x C od fl T)
  (k: ∀ h',LeftF (env::outer) x C od (rawInt L) [T] s.heap h'->Q () {s with heap:=h'}):wpAny M A (noteFrame (.ref x) env) Q E s:=by
 obtain ⟨hxf,hTf⟩:=r.notFr hl;obtain ⟨oe,vs,oT,ts,he,hc,ho,hd,h1,ne,hT,hdT,h3⟩:=r;unfold noteFrame;simp only [hf];refine AA (Bp he hd h1 ?_);rw [AX (show (Value.ref T !=Value.none)=true from by simp)];refine AA (Bp hT hdT h3 ?_);by_cases cf:(fl==rawInt L)=true
 ·rw [AX cf];exact AB (k s.heap ⟨λ_ _ _ _ _ e=>e,λ_ o _ e=>⟨o.slots,e⟩,⟨T,.mk oe vs oT ts he hc ho hd h1 ne hT hdT (h3.trans (congrArg some (Dk.mp cf))),.inl (AE.mpr rfl)⟩,AJ _⟩)
 rw [AQ cf];refine AA (B9 hT hdT (Cj.mp h3).1 ?_);have other: ∀ b,b≠T->(s.heap.update T (Obj.mapFields (·.setIfInBounds 3 Value.none))).get? b=s.heap.get? b:=λb hb=>B1 _ _ (Bg hb);refine qy hfr (hl.of_keeps λb o hb hnf=>⟨o,(other b λz=>?_).trans hb,rfl⟩) hf ((other x (Bg ne)).trans he) hc ho hd (Cj.mp h1).1 λh' L'=>k h' ⟨λb o n1 n2 n3 e=>L'.keep b o n1 (by simp) n3 ((other b λz=>n2 (by rw [z];exact AE.mpr rfl)).trans e),λb o hb e=>L'.slot b o hb ((other b λz=>hTf (z▸hb)).trans e),?_,?_⟩
 ·rw [z,hT]at hb;cases hb;exact hnf ts hdT
 ·obtain ⟨T',r',h'⟩:=L'.rc;refine ⟨T',r',.inr ?_⟩;rcases h' with z | z
  ·cases z
  ·exact Bm (by rw [Ez];exact AJ _) z
 ·exact Bm (by rw [Ez];exact AJ _) L'.sz
theorem iE {h h1:Heap} {hs:List Addr} {l:List Env} (hl:h.FunFrames base l) (a:LeftF l x C od fl hs h h1): ∀ {m:List Env},(∀ e∈m,e∈l)->h.FunFrames base m->h1.FunFrames base m
 | [],_,_=>trivial
 | e::m,hm,⟨hk,⟨L,o,hf,hn,ho,hd⟩,hr⟩=>by
  have hb:L∈frs l:=by
   unfold frs;exact EV.mpr ⟨e,hm e A3,hf⟩
  obtain ⟨sl,e1⟩:=a.slot L o hb ho;exact ⟨hk,⟨L,_,hf,hn,e1,hd⟩,iE hl a (λe he=>hm e (A2 _ he)) hr⟩
theorem iO {oe:Obj} {vs:Array Value} (hfr:A.frames=some (env::outer)) (hl:s.heap.FunFrames base (env::outer)) (hf:env.frame=some L) (he:s.heap.get? x=some oe) (hc:oe.cls=.ref C) (ho:oe.dict=od)
  (hd:oe.data=.fields vs) (h1:vs[1]? =some .none) (k: ∀ h',LeftF (env::outer) x C od .none [] s.heap h'->Q () {s with heap:=h'}):wpAny M A (leaving env (.ref x)) Q E s:=by
 unfold leaving;refine AA (oW hfr hl hf he hc ho hd h1 λh1 a=>?_);obtain ⟨T,r,hT⟩:=a.rc;exact gR (s:={s with heap:=h1}) (iE hl a (λ_ z=>z) hl) r λh2 b=>k h2 (a.trans hT b)
theorem kx (hfr:A.frames=some (env::outer)) (hl:s.heap.FunFrames base (env::outer)) (hf:env.frame=some L) (r:Rec s.heap x C od fl T)
  (k: ∀ h',LeftF (env::outer) x C od .none [T] s.heap h'->Q () {s with heap:=h'}):wpAny M A (noteFrame (.ref x) env) (λ_ s₂=>wpAny M A (setFlight (.ref x) none) Q E s₂) E s:=by
 refine ku hfr hl hf r λh1 a=>?_;obtain ⟨T',r',hT⟩:=a.rc;exact gR (s:={s with heap:=h1}) (iE hl a (λ_ z=>z) hl) r' λh2 b=>k h2 (a.trans hT b)
theorem jx (hfr:A.frames=some (env::outer)) (hl:s.heap.FunFrames base (env::outer)) (hf:env.frame=some L) (r:Rec s.heap x C od fl T)
  (k: ∀ h',LeftF (env::outer) x C od .none [T] s.heap h'->Q () {s with heap:=h'}):wpAny M A (leaving env (.ref x)) Q E s:=by
 unfold leaving;exact AA (kx hfr hl hf r k)
end
theorem ObjOk.there {P:Program} {w:World} {H:Hp} {h:Heap} {a:Addr} {o:HO} (x:ObjOk P w H h a o): ∃ ob,h.get? a=some ob:=by
 cases o with
 | lst xs=>obtain ⟨_,_,_,_,e⟩:=x;exact ⟨_,e⟩
 | tup xs=>obtain ⟨_,_,_,ob,e,_⟩:=x;exact ⟨_,e⟩
 | dK kvs=>obtain ⟨_,_,_,_,o,_,_,e,_⟩:=x;exact ⟨_,e⟩
 | set S n=>obtain ⟨o,_,_,_,e,_⟩:=x;exact ⟨_,e⟩
 | ins C dx fs=>obtain ⟨_,_,_,e,_⟩:=x;exact ⟨_,e⟩
 | own y=>exact x
 | xd fs=>obtain ⟨_,⟨_,_,_,e,_⟩,_⟩:=x;exact ⟨_,e⟩
 | rng lo hi=>obtain ⟨_,_,_,e⟩:=x;exact ⟨_,e⟩
 | frz ob u=>obtain ⟨e,_⟩:=x;exact ⟨_,e⟩
 | tbl ps=>exact ⟨_,show h.get? a=some _ from x⟩
 | met f y=>exact ⟨_,show h.get? a=some _ from x⟩
 | ext φ=>obtain ⟨_,e,_⟩:=x;exact e
 | _=>obtain ⟨_,_,_,_,o,_,_,e,_⟩:=x;exact ⟨_,e⟩
theorem HOk.none_of {P:Program} {w:World} {H:Hp} {h:Heap} {a:Addr} (x:HOk P w H h) (e:h.get? a=none):H a=none:=by
 cases q:H a with
 | none=>rfl
 | some u=>obtain ⟨ob,z⟩:=(x a u q).there;rw [e]at z;cases z
inductive CX1 (P:Program) (w:World) (C:Addr) (outer:List Env) (H:Hp) (s:Shared) (E:XK) (e:Value) (s':Shared):Prop
 | mk (x T:Addr) (od:Option Addr) (H':Hp) (he:e=.ref x) (os:s'.os=s.os) (bare:AllBare s'.gens) (un:Un (frs outer) [] H H' s.heap s'.heap) (hok:HOk P w H' s'.heap)
   (rc:Rec s'.heap x C od .none T) (nx:s.heap.get? x=none) (nT:s.heap.get? T=none) (fx:H' x=none) (fT:H' T=none) (q:E (.ref C) od H'):CX1 P w C outer H s E e s'
section
variable {P:Program} {w:World} {K:W.Frag} {mg:Str->Option Value} {base:Heap} {N:List Str} {qual:Str} {scope:Scope} {f:Addr} {cd:Value} {A:Around} {outer:List Env} {s:Shared} {H:Hp} {E:XK} {C:Addr}
theorem i5 {CX:CXT} {od:Option Addr} {pins:List (Addr×Obj)} {σ:St} {H1:Hp} {s1:Shared} {x:Addr} {hs:List Addr} {h':Heap} (J:Inv (cG CX P w K mg base N qual scope f cd A outer s H E) pins σ H1 s1)
  (fx:H1 x=none) (nx:s.heap.get? x=none) (hh: ∀ T∈hs,H1 T=none/\s.heap.get? T=none) (L:LeftF (envOfC qual scope s.heap.objs.size f cd::outer) x C od .none hs s1.heap h') (q:E (.ref C) od H1):
  CX1 P w C outer H s E (.ref x) {s1 with heap:=h'}:=by
 obtain ⟨T,rc,hT⟩:=L.rc;have B:Un (frs outer) [] H H1 s.heap s1.heap:=J.base;have nx': ∀ b o,s.heap.get? b=some o->b≠x:=λb o e z=>by rw [z,nx]at e;cases e
 have nh': ∀ b o,s.heap.get? b=some o->b∉hs:=λb o e z=>by rw [(hh b z).2]at e;cases e
 have nfr: ∀ b o,s.heap.get? b=some o->b∉frs outer->b∉frs (envOfC qual scope s.heap.objs.size f cd::outer):=λb o e nb z=>by
  rcases AY.mp (J.stkSub b z)with z | z
  ·have:b<s.heap.objs.size:=AN e;rw [show b=s.heap.objs.size from z]at this;exact CN _ this
  ·exact nb z
 refine .mk x T od H1 rfl J.os J.bare ⟨λb o e n hb hx=>?_,λb o e n hb hx=>?_,B.free,λb o e hx=>?_,B.tups,B.frzs,B.tbls⟩ (λa o e=>?_) rc nx ?_ fx ?_ q
 ·exact L.keep b o (nx' b o e) (nh' b o e) (nfr b o e hb) (B.keep b o e n hb hx)
 ·obtain ⟨sl,e1⟩:=B.slot b o e n hb hx;obtain ⟨sl',e2⟩:=L.slot b _ (lQ hb) e1;exact ⟨sl',e2⟩
 ·obtain ⟨o1,e1⟩:=B.there b o e hx;by_cases hb:b∈frs (envOfC qual scope s.heap.objs.size f cd::outer)
  ·obtain ⟨sl',e2⟩:=L.slot b _ hb e1;exact ⟨_,e2⟩
  ·exact ⟨o1,L.keep b o1 (nx' b o e) (nh' b o e) hb e1⟩
 ·have tr: ∀ b u,H1 b=some u-> ∀ v,s1.heap.get? b=some v->h'.get? b=some v:=λb u e1 v e2=>
   L.keep b v (λz=>by rw [z,fx]at e1;cases e1) (λz=>by rw [(hh b z).1]at e1;cases e1) (λz=>by rw [J.stkFree b z]at e1;cases e1) e2
  refine (J.hok a o e).stay (λb u hb e2=>?_) (λ_ z=>z) λ_ _ z=>z;rcases hb with z | z
  ·rw [z]at e2 ⊢;exact tr a o e u e2
  ·exact tr b _ z u e2
 ·rcases hT with z | z
  ·exact (hh T z).2
  ·cases r:s.heap.get? T with
   | none=>rfl
   | some o=>obtain ⟨o1,e1⟩:=B.there T o r (by simp);rw [C3 z]at e1;cases e1
 ·rcases hT with z | z
  ·exact (hh T z).1
  ·exact J.hok.fresh z
theorem sD {CX:CXT} {pins:List (Addr×Obj)} {σ:St} {H1:Hp} {s1:Shared} {x:Addr} {vs:List Value} {h':Heap} (I:Inv (cG CX P w K mg base N qual scope f cd A outer s H E) pins σ H1 s1)
  (m:s1.heap.MadeExcOf h' x (.ref C) vs) (q:E (.ref C) none H1) (hi: ∀ e s',CX1 P w C outer H s E e s'->CX outer H s E e s':=by exact λ_ _ z=>z):(cG CX P w K mg base N qual scope f cd A outer s H E).xe (.ref x) {s1 with heap:=h'}:=by
 have J:Inv (cG CX P w K mg base N qual scope f cd A outer s H E) pins σ H1 {s1 with heap:=h'}:=I.kept (t':=s1.toks) m.keeps;obtain ⟨t,e,_,_⟩:=m.there;have nx:s.heap.get? x=none:=by
  cases r:s.heap.get? x with
  | none=>rfl
  | some o=>obtain ⟨o1,e1⟩:=I.base.there x o r (by intro z;cases z);rw [m.new]at e1;cases e1
 exact iO (base:=base) J.ok.frames J.stack rfl e rfl rfl rfl rfl λh2 L=>hi _ _ (i5 J (I.hok.none_of m.new) nx (λ_ z=>absurd z (by simp)) L q)
theorem zn {CX:CXT} (hi: ∀ e s',CX1 P w C outer H s E e s'->CX outer H s E e s'):fM (CX1 P w C) (cG CX P w K mg base N qual scope f cd A outer s H E) E:=by
 intro pins σ H1 s1 e s2 I c;obtain ⟨x,T,od,H2,rfl,os,bare,un,hok,rc,nx,nT,fx,fT,q⟩:=c;have J:=I.call' (ch:=[]) os un hok bare (λb z=>absurd z (by simp));have ol: ∀ b,s1.heap.get? b=none->s.heap.get? b=none:=λb z=>by
  cases r:s.heap.get? b with
  | none=>rfl
  | some o=>obtain ⟨o1,e1⟩:=I.base.there b o r (by intro z;cases z);rw [z]at e1;cases e1
 exact jx (base:=base) J.ok.frames J.stack rfl rc λh3 L=>hi _ _ (i5 J fx (ol x nx) (λb (z:b∈[T])=>by rw [AE.mp z];exact ⟨fT,ol _ nT⟩) L q)
noncomputable def CXm (P:Program) (w:World) (Cs:List Addr):CXT:=λouter H s E e s'=> ∃ C,C∈Cs/\CX1 P w C outer H s E e s'
theorem zj {Cs:List Addr} (hC:C∈Cs):fM (CX1 P w C) (cG (CXm P w Cs) P w K mg base N qual scope f cd A outer s H E) E:=zn λ_ _ z=>⟨C,hC,z⟩
end
section
open PySem.W (excIn tailIn nsOkIn nsIn)
theorem wU {K:W.Frag} {h:Heap} {C:Addr} {bmB:List Value} {newId:String} (X:K.In h) (q:excIn K C bmB newId=true): ∃ bm N nm qn bs hd sn sub ab col dd k0 k1 k2 k3 k5 mN,
  h.get? C=some (excClassObj nm qn C N bs bm hd sn sub ab col dd k0 k1 k2 k3 k5 newId)/\(h.Ns N mN/\mN "__init__"=none)/\OwnTail h bmB bm:=by
 unfold excIn at q;split at q
 case h_2=>cases q
 case h_1 dd c sl ho=>
  split at q
  case h_2=>cases q
  case h_1 C' bm k0 k1 k2 k3 n k5 hm hs=>
   rw [Bb,Bb,Bb,Bb,Bb]at q;obtain ⟨⟨⟨⟨⟨q1,q2⟩,q3⟩,q4⟩,q5⟩,q6⟩:=q;have e1:C'=C:=Dk.mp q1;have e2:n=newId:=Dk.mp q2;have e3:c.hasDel=false:=by rw [Fa]at q3;exact q3
   have hob:=X _ _ ho;have hsl:sl= #[k0,k1,k2,k3,some (.builtin n),k5]:=Array.toList_inj.mp hs;have hcd:c={name:=c.name,bases:=c.bases,mro:=.ref C::bm,ns:=c.ns,qualname:=c.qualname,hasDict:=c.hasDict,slotNames:=c.slotNames,subclasses:=c.subclasses,abstract:=c.abstract,collection:=c.collection,hasDel:=false}:=by
    rw [<- e3,<- e1,<- hm]
   rw [hsl,hcd,e2]at hob;exact ⟨bm,_,_,_,_,_,_,_,_,_,_,_,_,_,_,_,_,hob,⟨Heap.Ns.of_isNs (W.isNs_of_in X q5),W.nsMap_none_of_in X q5 (Dk.mp q6)⟩,W.tail_of_in X q4⟩
variable {X:Cx} {C:Addr} {x:Str} {np cpos pos:Pos} {e:Expr} {es:List Expr} {t:TA} {E:XK} {bmB:List Value} {newId initId:String}
def xy (C:Addr) (E:XK) (t:TA):TS:=λ_ σ H=>t σ H λvs H1=>vs.length<=sizeLine/\E (.ref C) none H1
theorem rm {B:String} (hc:X.calm=true) (hg:Gl X x) (hm:X.mg x=some (.ref C)) (q:excIn X.K C bmB newId=true) (FB:ExcBaseFacts B newId initId bmB)
  (hx: ∀ (pins:List (Addr×Obj)) (σ:St) (H:Hp) (s:Shared) (h':Heap) (y:Addr) (vs:List Value),Inv X pins σ H s->s.heap.MadeExcOf h' y (.ref C) vs->E (.ref C) none H->X.xe (.ref y) {s with heap:=h'})
  (ha:PA X (e::es) t) (hdb:(x==("__debug__":Str))=false:=by decide) (he:starEach (e::es) X.env=(false,eval e X.env)::starEach es X.env:=by rfl) (hpl:(backTo cpos (starEach es X.env)).any (·.1)=false:=by rfl):
  PS X (.Raise (some (.Call (.Name x np) (e::es) [] cpos)) none pos) (xy C E t):=by
 intro pins s σ H D I h;obtain ⟨bm,N,nm,qn,bs,hd,sn,sub,ab,col,dd,k0,k1,k2,k3,k5,mN,hC,⟨hN,hni⟩,T⟩:=wU I.ok.mod.kin q;refine wpAny_Raise_call_subT (nm:=nm) (q:=qn) (N:=N) (bs:=bs) (bm:=bm) (hdct:=hd) (sn:=sn) (sub:=sub) (ab:=ab) (col:=col) (dd:=dd) (k0:=k0) (k1:=k1) (k2:=k2) (k3:=k3) (k5:=k5) FB (mN:=mN)
  (T.hasType FB.hasBase) (I.ok.hd hc) ?_ hni (dR I hg hm ⟨rfl,?_⟩ hdb)
 ·rw [he];exact hpl
 have hp:=ha cpos pins s σ H _ I h;rw [he]at hp ⊢;refine ED (thn hp λus s1 ⟨vs,H1,I1,r,z,w⟩=>?_);exact ⟨rfl,by rw [<- r.length];exact z,I1.bk _ _ hC,hN.keeps I1.bk,T.keeps I1.bk,λh' y m=>hx pins σ H1 s1 h' y us I1 m w⟩
end
theorem Fun.okG {CX:CXT} {P:Program} {w:World} {K:W.Frag} {mg:Str->Option Value} {base:Heap} {x qual:Str} {st:Stmt} {f:Addr} {fd:FuncData} {N ps:List Str} {k:Nat} {sp:Sp} (F:Fun K x qual st f fd) (S:av N ps (ak st))
  (len: ∀ vs H Q E,sp vs H Q E->vs.length=ps.length)
  (hbody: ∀ (cdv:Value) (A:Around) (outer:List Env) (s:Shared) (H:Hp) (vs:List V) (Q:VK) (E:XK),Room k (A.deeper (envOfC qual (ak st) s.heap.objs.size f cdv))->sp vs H Q E->
   ∃ t,PSs (cG CX P w K mg base N qual (ak st) f cdv A outer s H E) (bE st) t/\t {nx:=λ_ H'=>Q .non H',rt:=Q} (start N vs) H):a8 P w K mg base CX (k+1) f fd ps sp:=by
 obtain ⟨oc,od,kV,doc,pm,an,cdv,ct,osl,rfl,lk,hcd⟩:=F.ex;exact vh lk hcd S len λA outer s H vs Q E hr hsp=>hbody cdv A outer s H vs Q E hr hsp
theorem Fun.ok1 {P:Program} {w:World} {K:W.Frag} {mg:Str->Option Value} {base:Heap} {C:Addr} {x qual:Str} {st:Stmt} {f:Addr} {fd:FuncData} {N ps:List Str} {k:Nat} {sp:Sp} (F:Fun K x qual st f fd) (S:av N ps (ak st))
  (len: ∀ vs H Q E,sp vs H Q E->vs.length=ps.length)
  (hbody: ∀ (cdv:Value) (A:Around) (outer:List Env) (s:Shared) (H:Hp) (vs:List V) (Q:VK) (E:XK),Room k (A.deeper (envOfC qual (ak st) s.heap.objs.size f cdv))->sp vs H Q E->
   ∃ t,PSs (cG (CX1 P w C) P w K mg base N qual (ak st) f cdv A outer s H E) (bE st) t/\t {nx:=λ_ H'=>Q .non H',rt:=Q} (start N vs) H):a8 P w K mg base (CX1 P w C) (k+1) f fd ps sp:=F.okG S len hbody
open PySem.W (findIn specialIn takesIn mroIn clsIn Looks)
def ExAt (x C:Addr) (od:Option Addr) (h:Heap):Prop:= ∃ oe vs,h.get? x=some oe/\oe.cls=.ref C/\oe.data=.fields vs/\oe.dict=od
noncomputable def ExO (x C:Addr) (od:Option Addr):HO:=.ext (ExAt x C od)
theorem ExAt.type {M:Model} {h:Heap} {x C:Addr} {od:Option Addr} (p:ExAt x C od h):Looks M h (typeOf (.ref x)) (.ref C):=by
 obtain ⟨oe,_,e,c,_⟩:=p;exact c▸(Looks.ld e).andThen .now
structure ExC (K:W.Frag) (C:Addr):Prop where
 ga:findIn K (.ref C) "__getattribute__"=some (some (.builtin "BaseException.__getattribute__"))
 gno:findIn K (.ref C) "__getattr__"=some none
 cls:findIn K (.ref C) "__class__"=some (some (.builtin "object.__class__"))
 get:specialIn K (.builtin "object.__class__") "__get__"=some (some (.builtin "getset_descriptor.__get__"))
 tk:takesIn K (.builtin "object.__class__")=some true
 ob:mroIn K C (.type "object")=some true
 ba:mroIn K C (.type "BaseException")=some true
 is:(clsIn K C).isSome=true
section
variable {prog:Program} {w:World} {A:Around} {E:Value->Shared->Prop} {K:W.Frag} {x C:Addr} {od:Option Addr}
open PySem.Builtin PySem.Builtin.ObjectAttr PySem.Builtin.Getset_descriptor PySem.W
theorem wV {M:Model} {h:Heap} (X:K.In h) (Z:ExC K C):Looks M h (find (.ref x) (.ref C) "__class__") (.bind (.builtin "getset_descriptor.__get__") (.builtin "object.__class__")):=
 (looks_findIn X Z.cls).andThen ((show Looks M h (getOf (some (.builtin "object.__class__"))) (some (.builtin "getset_descriptor.__get__"))from looks_specialIn X Z.get).andThen
  ((show Looks M h (dataDescriptor? (some (.builtin "object.__class__")) (some (.builtin "getset_descriptor.__get__"))) (some (.builtin "getset_descriptor.__get__",.builtin "object.__class__"))from (looks_takesIn X Z.tk).andThen .now).andThen (Looks.tag .now)))
theorem l5 {s:Shared} {tp:Value} {R:Result->Shared->Prop} (X:K.In s.heap) (Z:ExC K C) (p:ExAt x C od s.heap) (h:R (.ok (.ret (.ref C))) s):
  codeAny (model prog w) A (.call (.builtin "getset_descriptor.__get__") ⟨[.builtin "object.__class__",.ref x,tp],[]⟩) R s:=by
 obtain ⟨hh,g,dr,t,os⟩:=s;have L0:=p.type (M:=model prog w);have L1:=looks_mroIn (M:=model prog w) X Z.ob;refine C5 KF.slot_gs.plain KF.entry_gs (KF.slot_gs.check _ _ _ _ _ _ _ _ KF.type_class (KF.args_gs _ _ _) ?_);unfold Builtin.«getset_descriptor.__get__» descrGet;rw [dga_obj];refine AA (AB ?_);unfold descrGetter descrCheckInstance descrNameAndClass isInstance;simp only [KF.owner_class]
 repeat lk
 refine ⟨E3 _ (by decide +kernel),codeAny_builtin KF.entry_class ?_⟩;unfold Builtin.«object.__class__» shownTypeOf
 repeat lk
 exact h
theorem vi {s:Shared} {tk:Tok} {Q:Fin->Shared->Prop} (X:K.In s.heap) (Z:ExC K C) (p:ExAt x C od s.heap) (h:Q (.done (.ret (.ref C))) s):
  wpAny (model prog w) A (Builtin.«object.__getattribute__» ⟨[.ref x,.str "__class__" tk],[]⟩) Q E s:=by
 obtain ⟨hh,g,dr,t,os⟩:=s;have L0:=p.type (M:=model prog w);have L1:=wV (M:=model prog w) (x:=x) X Z;unfold Builtin.«object.__getattribute__»;refine AA (AB ?_);refine AA (AB ?_);refine AA (L0.at ?_);refine AA (L1.at ?_);show wpAny _ _ (bindTo _ _ _ _) _ _ _;unfold bindTo;refine AA (BF (Dg (l5 X Z p (AB h))))
theorem zG {s:Shared} {tk:Tok} {R:Result->Shared->Prop} (X:K.In s.heap) (Z:ExC K C) (p:ExAt x C od s.heap) (h:R (.ok (.ret (.ref C))) s):
  codeAny (model prog w) A (.call (.builtin "BaseException.__getattribute__") ⟨[.ref x,.str "__class__" tk],[]⟩) R s:=by
 refine C5 PySem.F.attr_ValueError.ga.plain PySem.F.entry_bexc_ga ?_;have L0:=p.type (M:=model prog w);have L2:Looks (model prog w) s.heap (isInstance (.ref x) (.type "BaseException")) true:=L0.andThen (looks_mroIn X Z.ba);have hk:builtinKind "BaseException.__getattribute__"=some .slot:=by decide +kernel
 have hsp:splitId "BaseException.__getattribute__"=some ("BaseException","__getattribute__"):=by decide +kernel
 have ha:=PySem.F.args_bexc_ga (.ref x) (.str "__class__" tk);simp only [checkBuiltinCall,hk,hsp];refine AA (L2.at ?_);rw [AQ (by decide)]
 repeat (first | exact vi X Z p h | wp_step)
theorem pC {s:Shared} {Q:Option Value->Shared->Prop} (X:K.In s.heap) (Z:ExC K C) (p:ExAt x C od s.heap) (h:Q (some (.ref C)) {s with toks:=s.toks+1}):wpAny (model prog w) A (getAttr? (.ref x) "__class__") Q E s:=by
 obtain ⟨hh,g,d,t,os⟩:=s;have L0:=p.type (M:=model prog w);have L1:=looks_findIn (M:=model prog w) X Z.ga;have L2:Looks (model prog w) hh (typeLookup (.ref C) "__getattr__") none:=looks_findIn X Z.gno;unfold getAttr? getAttrBy? getAttrBy;refine AA (wpAny_mkText (AA (Cf (BF (AA (L0.at (AA (L1.at ?_))))))));have hn0:(Value.builtin "BaseException.__getattribute__"==Value.builtin "object.__getattribute__")=false:=by decide +kernel
 have hne:(onTheHeap (Value.ref C)&&Value.builtin "BaseException.__getattribute__"==Value.builtin "object.__getattribute__")=false:=by rw [hn0];rfl
 simp only [hne];rw [AQ (by decide)];unfold getAttrByItsOwn hookBefore callGetattribute boundAndCalled;rw [AX (show onTheHeap (Value.ref C)=true from rfl)];refine AA (Looks.at (h:=hh) L2 (AA (Cf (BF ?_))));rw [AQ (by decide),PySem.F.attr_ValueError.ga.bind (.ref x)];exact AA (AB (Dg (zG (s:=⟨hh,g,d,t+1,os⟩) X Z p (AB (AB h)))))
theorem jK {M:Model} {h:Heap} (X:K.In h) (e:(clsIn K C).isSome=true):Looks M h (isType (.ref C)) true:=by
 unfold clsIn at e;split at e
 case h_1 c' d' cd' sl' ho=>
  intro A' Q' E' s' k q;unfold isType loadHead;exact AA (wpAny_loadPart (k _ _ (X _ _ ho)) (AB q))
 case h_2=>cases e
theorem ny (Z:ExC K C):KitX K (.ref x) (.ref C) (ExAt x C od) where
 ty:=λ_ _ _ p=>p.type
 it:=λ_ _ X _=>jK X Z.is
 ne:=λh tp dd its n sl X htp=>by
  have e:=Z.is;refine Fb.mpr λq=>?_;have e2:C=tp:=Fk (Dk.mp q);subst e2;unfold clsIn at e;split at e
  case h_1 ho=>cases (X _ _ ho).symm.trans htp
  case h_2=>cases e
 ca:=λX p k=>pC X Z p k
theorem sE {M:Model} {s:Shared} {CB:Addr} {Q:Bool->Shared->Prop} (X:K.In s.heap) (p:ExAt x C od s.heap) (m1:mroIn K C (.ref CB)=some true) (m2:mroIn K CB (.type "BaseException")=some true)
  (ty:typeIn K (.ref CB)=some (.type "type")) (is:(clsIn K CB).isSome=true) (hq:Q true s):wpAny M A (excMatches (.ref x) (.ref CB)) Q E s:=by
 obtain ⟨h,g,d,t,os⟩:=s;have L0:=p.type (M:=M);have L1:Looks M h (isInstance (.ref CB) (.type "tuple")) false:=(looks_typeIn X ty).andThen (Looks.of_pure tc_notTuple);have L2:Looks M h (isExcClass (.ref CB)) true:=(jK X is).andThen (looks_mroIn X m2);have L3:=looks_mroIn (M:=M) X m1;unfold excMatches;refine AA (L1.at ?_);simp only [Bs,BN];refine AA (AB ?_);rw [B0];refine AA (AA (AA (L2.at ?_)));simp only [CL,Bs,BN];refine AB ?_;show wpAny _ _ (forIn [] _ _) _ _ _;rw [Dz];refine AB (AA (L0.at ?_));rw [B0];refine AA (AA (AA (L3.at ?_)));simp only [Db];exact AB (AB (AB hq))
end
section
variable {X:Cx}
theorem fK:cQ X (.builtin "isinstance") (λxs H Q=> ∃ x C od y c b,xs=[.ref x,y]/\H x=some (ExO x C od)/\ExC X.K C/\(∀ u,RelV y u->u=c)/\W.kitOne X.K (.ref C) c=some b/\Q (.bl b) H):=by
 intro pins s σ H xs us Q I r h;obtain ⟨x,C,od,y,c,b,rfl,hx,Z,rc,e,q⟩:=h;obtain ⟨u,w',rfl,ru,rw'⟩:=iH r;cases (show u=Value.ref x from ru);cases rc w' rw';have p:ExAt x C od s.heap:=(show ObjOk X.prog X.w H s.heap x (ExO x C od)from I.hok x _ hx).1;exact BV (ny Z) I.kIn p e (λz=>nomatch z) λtk=>⟨.bl b,H,I.tok tk,rfl,q⟩
theorem sJ:cQ X (.builtin "isinstance") (λxs H Q=> ∃ (x C:Addr) (od:Option Addr) (p:Addr) (Ds:List Addr) (b:Bool),xs=[.ref x,.ref p]/\H x=some (ExO x C od)/\ExC X.K C/\H p=some (.tup (Ds.map V.ref))/\W.kitAny X.K (.ref C) (Ds.map Value.ref)=some b/\Q (.bl b) H):=by
 intro pins s σ H xs us Q I r h;obtain ⟨x,C,od,p,Ds,b,rfl,hx,Z,hp,e,q⟩:=h;obtain ⟨u,w',rfl,ru,rw'⟩:=iH r;cases (show u=Value.ref x from ru);cases (show w'=Value.ref p from rw');have pe:ExAt x C od s.heap:=(show ObjOk X.prog X.w H s.heap x (ExO x C od)from I.hok x _ hx).1;obtain ⟨_,its,rv,o,h1,h2,n,h3⟩:=(show ObjOk X.prog X.w H s.heap p (.tup (Ds.map V.ref))from I.hok p _ hp);have all: ∀ (l:List Addr) (us:List Value),Vals (l.map V.ref) us->us=l.map Value.ref:=by
  intro l;induction l with
  | nil=>intro us r;cases r;rfl
  | cons a l ih=>intro us r;cases r with | cons r1 r2=>rw [show _=Value.ref a from r1,ih _ r2];rfl
 cases all Ds its rv;obtain ⟨c,d,dt,sl⟩:=o;simp only at h2 h3;subst h2 h3;exact DX (ny Z) I.kIn pe h1 e (λz=>nomatch z) λtk=>⟨.bl b,H,I.tok tk,rfl,q⟩
end
open PySem.W (findIn specialIn takesIn mroIn clsIn typeIn Looks)
structure Fl (P:Program) (w:World) (C:Addr) (od:Option Addr) (fl:Value) (stack:List Env) (ch:List Addr) (H:Hp) (h₀:Heap) (x T:Addr) (H':Hp) (h:Heap):Prop where
 un:Un (frs stack) ch H H' h₀ h
 hok:HOk P w H' h
 rc:Rec h x C od fl T
 nx:h₀.get? x=none
 nT:h₀.get? T=none
 fx:H' x=none
 fT:H' T=none
 cl: ∀ b∈ch,b<h.objs.size
section
variable {P:Program} {w:World} {C:Addr} {od:Option Addr} {fl fl':Value} {stack:List Env} {ch:List Addr} {H H':Hp} {h₀ h h' base:Heap} {x T:Addr}
theorem Fl.left (F:Fl P w C od fl stack ch H h₀ x T H' h) (fr: ∀ b∈frs stack,H' b=none) (L:LeftF stack x C od fl' [T] h h'): ∃ T',Fl P w C od fl' stack ch H h₀ x T' H' h':=by
 obtain ⟨T',rc,hT⟩:=L.rc;have nx': ∀ b o,h₀.get? b=some o->b≠x:=λb o e z=>by rw [z,F.nx]at e;cases e
 have nT': ∀ b o,h₀.get? b=some o->b∉[T]:=λb o e z=>by rw [AE.mp z,F.nT]at e;cases e
 refine ⟨T',⟨λb o e n hb hx=>?_,λb o e n hb hx=>?_,F.un.free,λb o e hx=>?_,F.un.tups,F.un.frzs,F.un.tbls⟩,λa o e=>?_,rc,F.nx,?_,F.fx,?_,λb hb=>Bl (F.cl b hb) L.sz⟩
 ·exact L.keep b o (nx' b o e) (nT' b o e) hb (F.un.keep b o e n hb hx)
 ·obtain ⟨sl,e1⟩:=F.un.slot b o e n hb hx;obtain ⟨sl',e2⟩:=L.slot b _ hb e1;exact ⟨sl',e2⟩
 ·obtain ⟨o1,e1⟩:=F.un.there b o e hx;by_cases hb:b∈frs stack
  ·obtain ⟨sl',e2⟩:=L.slot b _ hb e1;exact ⟨_,e2⟩
  ·exact ⟨o1,L.keep b o1 (nx' b o e) (nT' b o e) hb e1⟩
 ·have tr: ∀ b u,H' b=some u-> ∀ v,h.get? b=some v->h'.get? b=some v:=λb u e1 v e2=>
   L.keep b v (λz=>by rw [z,F.fx]at e1;cases e1) (λz=>by rw [AE.mp z,F.fT]at e1;cases e1) (λz=>by rw [fr b z]at e1;cases e1) e2
  refine (F.hok a o e).stay (λb u hb e2=>?_) (λ_ z=>z) λ_ _ z=>z;rcases hb with z | z
  ·rw [z]at e2 ⊢;exact tr a o e u e2
  ·exact tr b _ z u e2
 ·rcases hT with z | z
  ·rw [AE.mp z];exact F.nT
  ·cases r:h₀.get? T' with
   | none=>rfl
   | some o=>
    obtain ⟨o1,e1⟩:=F.un.there T' o r λhc=>Fu.mpr (F.cl T' hc) z;rw [C3 z]at e1;cases e1
 ·rcases hT with z | z
  ·rw [AE.mp z];exact F.fT
  ·exact F.hok.fresh z
theorem Fl.track (F:Fl P w C od fl stack ch H h₀ x T H' h):Un (frs stack) ch H (upd H' x (ExO x C od)) h₀ h/\HOk P w (upd H' x (ExO x C od)) h:=by
 have ne: ∀ b o,h₀.get? b=some o->b≠x:=λb o e z=>by rw [z,F.nx]at e;cases e
 have nt: ∀ b u,H' b=some u->b≠x:=λb u e z=>by rw [z,F.fx]at e;cases e
 refine ⟨⟨F.un.keep,F.un.slot,λb o e n hx=>?_,F.un.there,λb xs e=>?_,λb o u e=>?_,λb ps e=>?_⟩,λa o e=>?_⟩
 ·rw [ah (ne b o e)];exact F.un.free b o e n hx
 ·rw [ah (nt _ _ (F.un.tups b xs e))];exact F.un.tups b xs e
 ·rw [ah (nt _ _ (F.un.frzs b o u e))];exact F.un.frzs b o u e
 ·obtain ⟨m,e1⟩:=F.un.tbls b ps e;exact ⟨m,by rw [ah (nt _ _ e1)];exact e1⟩
 ·by_cases z:a=x
  ·subst z;rw [ad]at e;cases e;obtain ⟨oe,vs,oT,ts,he,hc,ho,hd,_,_,_,_,_⟩:=F.rc;exact ⟨⟨oe,vs,he,hc,hd,ho⟩,⟨oe,he⟩,λh1 h2 ⟨o1,v1,a1,a2,a3⟩ k=>⟨o1,v1,k o1 a1,a2,a3⟩⟩
  ·rw [ah z]at e;exact (F.hok a o e).stay (λb u _ q=>q) (λb q=>by rw [ah (nt _ _ q)];exact q) λb xs q=>by rw [ah (nt _ _ q)];exact q
end
open PySem.W (findIn specialIn takesIn mroIn clsIn typeIn Looks)
noncomputable def Cx.marked (X:Cx) (e:Value):Cx:={X with A:=X.A.mark (some e),calm:=false,xe:=λ_ _=>False}
section
variable {X:Cx} {pins:List (Addr×Obj)} {σ:St} {H:Hp} {s:Shared} {e:Value}
theorem Inv.mark (I:Inv X pins σ H s) (e:Value):Inv (X.marked e) pins σ H s:=
 ⟨⟨I.ok.mod,I.ok.kind,I.ok.glob,I.ok.blt,I.ok.above,I.ok.inj,I.ok.has,I.ok.cab,λh=>Bool.noConfusion (show false=true from h),I.ok.frames,I.ok.stk,I.ok.exf,I.ok.bs,I.ok.bsz,I.ok.noex,I.ok.exfs,I.ok.funs,I.ok.frf⟩,
  I.os,I.bare,I.base,I.loc,I.cell,I.free,I.freeC,I.pin,I.hok,I.len⟩
theorem Inv.unmark (ok:X.Ok) (I:Inv (X.marked e) pins σ H s):Inv X pins σ H s:=⟨ok,I.os,I.bare,I.base,I.loc,I.cell,I.free,I.freeC,I.pin,I.hok,I.len⟩
theorem qR {M:Model} {A:Around} {E:Value->Shared->Prop} {i:Nat} {n:Str} {pos:Pos} {Q:Unit->Shared->Prop} (I:Inv X pins σ H s) (hN:X.N.Nodup) (hi:X.N[i]? =some n) (hk:X.env.scope.names.lookup n=some .local)
  (h: ∀ s',Inv X pins (σ.set i none) H s'->Q () s'):wpAny M A (do bindName X.env n .none;unbindBehindTheSuite X.env n pos) Q E s:=by
 have hcls:(X.env.scope.kind== .class||(X.env.scope.kind== .module&&X.env.locals !=X.env.globals))=false:=by rw [I.ok.kind];rfl
 have hiσ:i<σ.length:=by rw [I.len];exact (AF.mp hi).1
 refine AA (wpAny_bindName (ef I hN hi (.inl hk) (v:=.non) rfl (λs1 I1=>?_) (.inr hk)));unfold unbindBehindTheSuite;refine Fj ?_;obtain ⟨m,hn,hl⟩:=id I1.loc;obtain ⟨u,_,lk⟩:=hl i n .non hi (by rw [De hiσ]) (.inl hk);have hv:m n=some u:=by
  rcases lk with ⟨_,z⟩ | ⟨z,_⟩
  ·exact z
  ·have z:X.env.scope.names.lookup n=some .cell\/X.env.scope.names.lookup n=some .free:=z;rw [hk]at z;rcases z with z | z <;> cases z
 refine wpAny_unbindName_local hk hn hv hcls λh' u' hn' hs=>?_;have ne: ∀ b o,X.s₀.heap.get? b=some o->b≠X.env.locals:=λb o e=>Bf (Bl (AN e) I.ok.above);have cne:=I1.cne;refine h _ ⟨I.ok,I1.os,I1.bare,⟨λb o e n hb hx=>(hs.2 b (ne b o e)).trans (I1.base.keep b o e n hb hx),λb o e n hb hx=>?_,I1.base.free,λb o e hx=>?_,I1.base.tups,I1.base.frzs,I1.base.tbls⟩,
  ⟨_,hn',λj y v' e1 e2 e3=>?_⟩,λy c e=>?_,I1.free,I1.freeC,λp hp=>?_,λb o e=>?_,by simpa using I.len⟩
 ·obtain ⟨sl,e1⟩:=I1.base.slot b o e n hb hx;exact ⟨sl,(hs.2 b (ne b o e)).trans e1⟩
 ·obtain ⟨o',e1⟩:=I1.base.there b o e hx;exact ⟨o',(hs.2 b (ne b o e)).trans e1⟩
 ·by_cases hj:j=i
  ·subst hj;rw [De hiσ]at e2;cases e2
  ·have e4:(σ.set i (some V.non))[j]? =some (some v'):=by
    rw [EC (Bg hj)]at e2 ⊢;exact e2
   obtain ⟨u',r',q⟩:=hl j y v' e1 e4 e3;refine ⟨u',r',?_⟩;rcases q with ⟨k,e⟩ | ⟨k,c,e,z⟩
   ·refine .inl ⟨k,?_⟩;have:y≠n:=λe=>hj (gZ hN e1 (e▸hi));simp [this,e]
   ·exact .inr ⟨k,c,e,z.sameBut hs (cne y c e)⟩
 ·obtain ⟨w',z⟩:=I1.cell y c e;exact ⟨w',z.sameBut hs (cne y c e)⟩
 ·obtain ⟨e,n,ne,nf,d⟩:=I1.pin p hp;exact ⟨(hs.2 p.1 ne).trans e,n,ne,nf,d⟩
 ·refine (I1.hok b o e).stay (λc w' hc q=>(hs.2 c ?_).trans q) (λ_ q=>q) λ_ _ q=>q;rintro rfl;have fr:=I1.free;rcases hc with rfl | hc
  ·rw [fr]at e;cases e
  ·rw [fr]at hc;cases hc
end
structure CaC (K:W.Frag) (C CB:Addr):Prop where
 m1:mroIn K C (.ref CB)=some true
 m2:mroIn K CB (.type "BaseException")=some true
 ty:typeIn K (.ref CB)=some (.type "type")
 is:(clsIn K CB).isSome=true
section
variable {X:Cx}
theorem wP {pins:List (Addr×Obj)} {σ:St} {H H':Hp} {s s1:Shared} {C CB x T:Addr} {od:Option Addr} {D:dW} {cb n:Str} {np hp:Pos} {b₀:Stmt} {suite:List Stmt} {rest:List ExceptHandler} {i:Nat} {ts:TS}
  (I:Inv X pins σ H s) (F:Fl X.prog X.w C od .none X.stack [] H s.heap x T H' s1.heap) (os:s1.os=s.os) (bare:AllBare s1.gens) (hst:X.stack=X.env::X.outer) (hfr:X.env.frame=some X.env.locals)
  (hN:X.N.Nodup) (hi:X.N[i]? =some n) (hk:X.env.scope.names.lookup n=some .local) (hg:Gl X cb) (hm:X.mg cb=some (.ref CB)) (Z:CaC X.K C CB)
  (hs:PSs (X.marked (.ref x)) (b₀::suite) ts) (q:ts {nx:=λσ' H3=>D.nx (σ'.set i none) H3,rt:=λ_ _=>False} (σ.set i (some (.ref x))) (upd H' x (ExO x C od))) (hd:(cb==("__debug__":Str))=false:=by decide):
  wpAny (model X.prog X.w) X.A (noteFrame (.ref x) X.env) (λ_ s₂=>wpAny (model X.prog X.w) X.A (setFlight (.ref x) none) (λ_ s₃=>
   wpAny (model X.prog X.w) X.A (handleBy (.ref x) X.env (.ExceptHandler (some (.Name cb np)) (some n) (b₀::suite) hp::rest)) (SP X pins D) X.xe s₃) X.xe s₂) X.xe s1:=by
 have fr: ∀ b∈frs X.stack,H' b=none:=λb hb=>by
  obtain ⟨_,o,e,_⟩:=I.stack.mem hb;exact F.un.free b o e (I.stkFree b hb) (by simp)
 have nil: ∀ b∈([]:List Addr),(b∈X.ex\/X.s₀.heap.objs.size<=b)/\b≠X.env.locals/\(∀ x c,X.env.cells.lookup x=some c->c≠b)/\ ∀ p∈X.pn++pins,p.1≠b:=λb z=>absurd z (by simp);have J1:Inv X pins σ H' s1:=I.call' (ch:=[]) os F.un F.hok bare nil;have hff:=J1.ok.frames;have hfs:=J1.stack;rw [hst]at hff hfs;refine kx (base:=X.base) hff hfs hfr F.rc λh3 L3=>?_;rw [<- hst]at L3;obtain ⟨T3,F3⟩:=F.left fr L3;have J3:Inv X pins σ H' {s1 with heap:=h3}:=I.call' (ch:=[]) os F3.un F3.hok bare nil;have p3:ExAt x C od h3:=by obtain ⟨oe,vs,oT,ts,he,hc,ho,hd,_,_,_,_,_⟩:=F3.rc;exact ⟨oe,vs,he,hc,hd,ho⟩
 refine wpAny_handleBy_cons (codeAny_handlers_test (dR (X:=X.marked (.ref x)) (J3.mark (.ref x)) hg hm ?_ hd)) (by intro q;cases q);refine sE J3.kIn p3 Z.m1 Z.m2 Z.ty Z.is (codeAny_handlers_suite_as ?_);have hfs3:=J3.stack;rw [hst]at hfs3;refine gR (base:=X.base) hfs3 F3.rc λh4 L4=>?_;rw [<- hst]at L4;obtain ⟨T4,F4⟩:=F3.left fr L4;obtain ⟨un4,hok4⟩:=F4.track;have J4:Inv X pins σ (upd H' x (ExO x C od)) {s1 with heap:=h4}:=I.call' (ch:=[]) os un4 hok4 bare nil;refine ef (v:=.ref x) J4 hN hi (.inl hk) rfl (λs5 J5=>?_) (.inr hk);refine BS (hs pins s5 _ _ _ (J5.mark (.ref x)) q) (λf s6 z=>?_) λ_ _ z=>False.elim z;cases f with
 | next=>
  obtain ⟨σ6,H6,I6,q6⟩:=z;exact qR (I6.unmark J5.ok) hN hi hk λs7 I7=>⟨_,_,I7,q6⟩
 | ret v=>obtain ⟨_,_,_,_,_,z⟩:=z;exact False.elim z
 | brk=>obtain ⟨_,_,_,z⟩:=z;exact False.elim z
 | cont=>obtain ⟨_,_,_,z⟩:=z;exact False.elim z
end
section
variable {X:Cx} {x x2:Str} {px px2 tpos pos fpos:Pos} {kk:Nat} {iter elt:Expr} {scope sc0:Scope} {N0 ys:List Str} {fr:List Nat} {wi:TI} {te:TE}
theorem ug {i:Nat} {y:Str} {py spos:Pos} (hcalm:X.calm=true) (hnd:X.N.Nodup) (hiN:X.N[i]? =some y) (hy:Loc X.env.scope y) (hi:PI X (.Tuple [.Name x px,.Name x2 px2] kk tpos) iter wi) (hsc:X.env.scope=sc0) (hN:X.N=N0) (ok:qO sc0 N0 scope x x2 ys fr)
  (hE: ∀ C s H ex,PE (cO X x x2 ys scope C s H ex) elt te) (hsw:swapsWith (.ListComp elt [⟨.Tuple [.Name x px,.Name x2 px2] kk tpos,iter,[],0⟩] scope pos) (some (.Name y py)) spos.line X.env=pure true:=by rfl)
  (hs: ∀ v,foldedSetIterable iter X.env v=pure v:=by intro _;rfl) (hf:X.fn y=true\/X.env.scope.names.lookup y=some .local:=by first | exact .inl rfl | exact .inr rfl | assumption):
  PS X (.Assign [.Name y py] (.ListComp elt [⟨.Tuple [.Name x px,.Name x2 px2] kk tpos,iter,[],0⟩] scope pos) spos) (jR (tF wi fr te) (dF i)):=by
 intro pins s σ H D I h;rw [Dq _ _ _ _ hsw];refine AA (CO (AA ?_));show wpAny _ X.A (do let _ <- comprehension (.ListComp elt [⟨.Tuple [.Name x px,.Name x2 px2] kk tpos,iter,[],0⟩] scope pos) scope X.env _ (newList []) false (eval iter X.env) (some (assign (.Name y py) X.env))) _ _ s;refine AA (thn (pJ (use:=some (assign (.Name y py) X.env)) (Qv:=λ_ s'=>SP X pins D .next s') (Q:=λv H'=>D.nx (σ.set i (some v)) H') hcalm hi hsc hN ok hE I h hs λp C H' s' m I' hn h0 h1 h2 h3 h4 q=>?_) λ_ s' hq=>AB (AB hq));show wpAny _ X.A (assign (.Name y py) X.env (.ref p)) _ _ s';refine Dv (ee (v:=.ref p) I' hnd hiN hy rfl (λs'' I'' ⟨a,sb,ha⟩=>?_) hf);have hCa:C≠a:=by
  rcases ha with e | e
  ·rw [e];exact h1
  ·exact (h3 y a e).symm
 refine ⟨m,hn.sameBut sb hCa,λh' sb'=>⟨_,H',I''.turned (t':=s''.toks) (λb o hb e=>sb'.extBut b o hb e) h0 h1 (.inr h2) h3 h4,q⟩⟩
def xQ (K:W.Frag):R2:=λx y H Q=> ∃ a b xs ys,x=.ref a/\y=.ref b/\SqT K H a xs/\SqT K H b ys/\xs.length+ys.length<=sizeLine/\(xs=[]->Q (.ref b) H)/\(xs≠[]->ys=[]->Q (.ref a) H)/\
 (xs≠[]->ys≠[]-> ∀ p,H p=none->Q (.ref p) (upd H p (.tup (xs++ys))))
theorem uA:OpR X (binaryOp .Add) (xQ X.K):=by
 intro pins s σ H x y v u Q I rx ry h;obtain ⟨a,b,xs,ys,e1,e2,h1,h2,h3,q1,q2,q3⟩:=h;exact uB pins s σ H x y v u Q I rx ry ⟨a,b,xs,ys,e1,e2,h1,h2,h3,q1,q2,q3⟩
end
open PySem.W (findIn specialIn takesIn mroIn clsIn typeIn Looks)
section
variable {X:Cx}
def yL (sp:Sp) (t:TA) (j i:Nat) (ts:TS):TS:=λD σ H=>t σ H λvs H1=>sp vs H1 (λv H2=>D.nx (σ.set j (some v)) H2) λc od H2=> ∀ C x,c=.ref C->H2 x=none->
 ts {nx:=λσ' H3=>D.nx (σ'.set i none) H3,rt:=λ_ _=>False} (σ.set i (some (.ref x))) (upd H2 x (ExO x C od))
theorem v8 {Cs:List Addr} {CB f:Addr} {fd:FuncData} {ps:List Str} {sp:Sp} {k i j:Nat} {fn y cb n:Str} {e:Expr} {es:List Expr} {t:TA} {ts:TS} {p py cp ap np hp tp:Pos} {b₀:Stmt} {suite:List Stmt} {rest:List ExceptHandler}
  (hxe: ∀ e s,X.xe e s->False) (hst:X.stack=X.env::X.outer) (hfr:X.env.frame=some X.env.locals) (hN:X.N.Nodup)
  (F:a8 X.prog X.w X.K X.mg X.base (CXm X.prog X.w Cs) k f fd ps sp) (hr:Room k X.A) (hgf:Gl X fn) (hmf:X.mg fn=some (.ref f)) (hkf:W.keepIn X.K (.ref f)=true) (hb:Binds X.K fd ps []) (ha:PA X (e::es) t)
  (hj:X.N[j]? =some y) (hy:Loc X.env.scope y) (hi:X.N[i]? =some n) (hk:X.env.scope.names.lookup n=some .local) (hg:Gl X cb) (hm:X.mg cb=some (.ref CB)) (Z: ∀ C∈Cs,CaC X.K C CB)
  (hs: ∀ x,PSs (X.marked (.ref x)) (b₀::suite) ts) (hd:(cb==("__debug__":Str))=false:=by decide) (hdb:(fn==("__debug__":Str))=false:=by decide)
  (hsw:swapsWith (.Call (.Name fn p) (e::es) [] cp) (some (.Name y py)) ap.line X.env=pure false:=by rfl) (hf:X.fn y=true\/X.env.scope.names.lookup y=some .local:=by first | exact .inl rfl | exact .inr rfl | assumption)
  (he:starEach (e::es) X.env=(false,eval e X.env)::starEach es X.env:=by rfl) (hpl:(backTo cp (starEach es X.env)).any (·.1)=false:=by rfl):
  PS X (.Try [.Assign [.Name y py] (.Call (.Name fn p) (e::es) [] cp) ap] (.ExceptHandler (some (.Name cb np)) (some n) (b₀::suite) hp::rest) [] [] tp) (yL sp t j i ts):=by
 intro pins s σ H D I h;refine wpAny_Try_except (Fo (wpAny_Assign_Name ?_ hsw));refine Cu (dR I hgf hmf ?_ hdb);refine Di (h₀:=X.base) I.ok.mod.kin hkf (BS (ha cp pins s σ H _ I h) (λus s1 ⟨vs,H1,I1,r,q⟩=>⟨I1.kIn,?_⟩) λe s z=>(hxe e s z).elim) he hpl;have hl:(us++[]).length=ps.length:=by rw [Bh,<- r.length];exact F.len _ _ _ _ q
 have hb':=hb s1 us I1.kIn hl;rw [Bh]at hb';refine Dg (Dh (F.run X.A X.stack s1 H1 ⟨us,[]⟩ us vs _ _ hr I1.env0 hb' r q) λr2 s2 hq=>?_);cases r2 with
 | error e2=>
  obtain ⟨C,hC,x,T,od,H2,rfl,os,bare,un,hok,rc,nx,nT,fx,fT,q2⟩:=hq;exact wP I1 ⟨un,hok,rc,nx,nT,fx,fT,λ_ z=>absurd z (by simp)⟩ os bare hst hfr hN hi hk hg hm (Z C hC) (hs x) (q2 C x rfl fx) hd
 | ok fl=>
  cases fl with
  | ret u=>
   obtain ⟨v,H2,I2,r2,q2⟩:=I1.after hq;exact ef I2 hN hj hy r2 (λs3 I3=>Dn (Dn ⟨_,_,I3,q2⟩)) hf
  | next=>exact False.elim hq
  | brk=>exact False.elim hq
  | cont=>exact False.elim hq
end
end L2
namespace HT
open PySem PyProof.Rows
section
variable {prog:Program} {w:World} {A:Around} {s:Shared} {E:Value->Shared->Prop}
noncomputable def zw (l:Addr):Obj:={cls:=.type "list_iterator",data:=.fields #[.ref l,.int 0 0]}
end
section
variable {prog:Program} {w:World} {A:Around} {s:Shared} {E:Value->Shared->Prop}
theorem getItem_tuple_all {t sl:Addr} {items:Array Value} {vl vu:Value} {lo hi:Option Int} {Q:Value->Shared->Prop} (ht:IsTup s.heap t items) (hs:s.heap.IsSliceOf sl vl vu .none) (pl:IsPart vl lo) (pu:IsPart vu hi)
  (i1:sIx items.size 0 lo=0) (i2:sIx items.size items.size hi=items.size) (h:Q (.ref t) s):wpAny (model prog w) A (getItem (.ref t) (.ref sl)) Q E s:=by
 obtain ⟨os,hos,hcs,hds⟩:=id hs;have hTs:s.TypeIs (.ref sl) "slice":=⟨os,hos,hcs⟩;unfold getItem;try with_reducible refine BF ?_
 first | refine AA (AB ?_) | skip
 refine AA (E7 ht.typeIs (by decide) (AA (Bn (name:=Str.ofString "__getitem__") ht.typeIs BK
  (Bi BK ht.typeIs EL ?_ (args_tuple_getitem _ _)))))
 refine (show wpAny _ _ (Builtin.Tuple.tupleItemsOf (.ref t) >>= _) _ _ s from AA (tupleItemsOf_ ht (AA (EQ hTs ?_))));rw [AX (by decide)];refine AA (eg hs pl pu ?_);rw [i1,i2];refine (show wpAny _ _ (if (((0:Nat):Int)==0&&(1:Int)==1&&(items.size-0)==items.size)=true then _ else _) _ _ s from ?_);rw [AX (by simp)];refine AA (m:=Builtin.Tuple.tupleIsExact _) ?_;unfold Builtin.Tuple.tupleIsExact;refine AA (EQ ht.typeIs (AB ?_));rw [AX (by decide)];exact AA (EU (AB ⟨_,rfl,AB h⟩))
end
end HT
namespace L2
open PySem PySem.Spec PyProof.Rows
section
variable {X:Cx}
noncomputable def Ac:V->Option Int->Option Int->Hp->VK->Prop:=λx lo hi H Q=> ∃ a xs,x=.ref a/\H a=some (.tup xs)/\ ∀ p H',(∀ b o,H b=some o->H' b=some o)->H' p=some (.tup (db xs lo hi))->Q (.ref p) H'
theorem dg:SlR X Ac:=by
 intro pins s σ H x v vl vu lo hi sl Q I rx hs pl pu h;obtain ⟨a,xs,ex,hx,q⟩:=h;by_cases hw:HT.sIx xs.length 0 lo=0/\HT.sIx xs.length xs.length hi=xs.length
 ·subst ex;cases rx;obtain ⟨its,r,ht,hz⟩:=I.tuple (SqT.of (K:=X.K) hx);have hl:=r.length;refine ⟨"tuple",_,PyProof.Rows.slot_tuple_getitem.lookup,ht.typeIs,HT.getItem_tuple_all ht hs pl pu (by rw [AL,<- hl];exact hw.1) (by rw [AL,<- hl];exact hw.2) ⟨.ref a,H,I,rfl,q a H (λ_ _ h=>h) ?_⟩⟩;rw [hx];unfold db;rw [hw.1,hw.2,EZ,Ft,Bc]
 ·exact oj pins s σ H x v vl vu lo hi sl Q I rx hs pl pu ⟨a,xs,ex,SqT.of hx,hw,λp hp=>q p _ (λb o e=>by rw [ah (ai e hp)];exact e) ad⟩
theorem iI: ∀ (ns:List Int) (a:Int),W.Num.sumInts a (ns.map W.WData.int)=some (.int (a+ms ns))
 | [],a=>by show some (W.WData.int a)=some (.int (a+0));rw [Int.add_zero]
 | n::r,a=>by
  have fold: ∀ (r:List Int) (b:Int),W.Num.foldFrom W.Num.add (.int b) (r.map W.WData.int)=some (.int (b+ms r)):=by
   intro r;induction r with
   | nil=>intro b;show some (W.WData.int b)=some (.int (b+0));rw [Int.add_zero]
   | cons m r ih=>
    intro b;show W.Num.foldFrom W.Num.add (.int (b+m)) (r.map W.WData.int)=some (.int (b+ (m+ms r)));rw [ih,Int.add_assoc]
  show (if (W.Num.fitsLong n&&W.Num.fitsLong (a+n))=true then W.Num.sumInts (a+n) (r.map W.WData.int)else W.Num.foldFrom W.Num.add (.int (a+n)) (r.map W.WData.int))=some (.int (a+ (n+ms r)));split
  ·rw [iI r,Int.add_assoc]
  ·rw [fold,Int.add_assoc]
theorem sI (hc:X.calm=true):cQ X (.builtin "sum") (λxs H Q=> ∃ (p:Addr) (ns:List Int),xs=[.ref p]/\SqL X.K H p (ns.map V.int)/\Q (.int (ms ns)) H):=by
 intro pins s σ H xs us Q I r h;obtain ⟨p,ns,rfl,hq,q⟩:=h;obtain ⟨u,rfl,ru⟩:=gh r;cases ru;obtain ⟨its,rv,pl,hz⟩:=I.list hq;have hl:=pl.isList;have hlt:p<s.heap.objs.size:=by obtain ⟨_,e,_⟩:=hl;exact AN e
 have hlen:its.length=ns.length:=by have:=rv.length;rw [AD]at this;lia
 refine PySem.Flt.call_sum_walkF (xs:=ns.map PySem.W.WData.int) (r:=.int (ms ns)) (by rw [iI,DI]) (Eh hl ?_);have W:=Walks.toS (Walks.list (prog:=X.prog) (w:=X.w) (A:=X.A.in1) (I.ok.hd hc) s.heap.objs.size p (Bf hlt) its.toArray);rw [show its.toArray.size=(ns.map PySem.W.WData.int).length by rw [AL,AD];exact hlen]at W;refine ⟨s.heap.objs.size,[s.heap.objs.size,p],[s.heap.objs.size],_,_,_,rfl,W,⟨⟨_,AU _ rfl,rfl,rfl⟩,hl.push _⟩,λb hb=>?_,λi v hP=>?_,λs' v hv hm=>?_⟩
 ·show b< (s.heap.push _).objs.size;rw [B8];rcases AY.mp hb with e | e
  ·rw [e];exact Cw _
  ·rw [AE.mp e];exact Nat.lt_succ_of_lt hlt
 ·have hv:its[i]? =some v:=by simpa using hP
  have hi:i<ns.length:=by
   have:=(AF.mp hv).1;lia
  have hx:(ns.map V.int)[i]? =some (V.int ns[i]):=by rw [AS,AG hi] <;> rfl
  obtain ⟨u,eu,ru⟩:=rv.get hx;rw [hv]at eu;cases eu;obtain ⟨t,rfl⟩:=ru;exact ⟨.int ns[i],by rw [AS,AG hi] <;> rfl,.int _ t⟩
 ·cases hv;obtain ⟨hh,g,d,tk,os⟩:=s';obtain rfl:g=s.gens:=hm.gens;obtain rfl:d=s.drawn:=hm.drawn;obtain rfl:os=s.os:=hm.os;refine ⟨.int _,H,I.kept (t':=tk) (h':=hh) λb o e=>hm.heap b o (λz=>?_) (AC _ e),⟨_,rfl⟩,q⟩;rw [AE.mp z]at e;exact absurd (AN e) (CN _)
end
end L2
namespace HT
open PySem PyProof.Rows
section
variable {prog:Program} {w:World} {A:Around} {s:Shared} {E:Value->Shared->Prop} {d j:Addr} {ks:List Value} {i ep:Nat}
def VEs (h:Heap) (d:Addr) (ks:List Value) (ep:Nat):Prop:= ∃ o es,h.get? d=some o/\o.ExactDict/\o.data=.dict es ep/\es.toList.map (·.val)=ks
theorem VEs.type (m:VEs s.heap d ks ep):s.TypeIs (.ref d) "dict":=by
 obtain ⟨o,_,ho,hc,_⟩:=m;exact ⟨o,ho,hc.1⟩
theorem VEs.keeps {h h':Heap} (m:VEs h d ks ep) (k: ∀ o,h.get? d=some o->h'.get? d=some o):VEs h' d ks ep:=by
 obtain ⟨o,es,ho,r⟩:=m;exact ⟨o,es,k o ho,r⟩
theorem ir {es:Array DictEntry} (e:es.toList.map (·.val)=ks):es.size=ks.length:=by
 rw [<- e,AD,BE]
theorem iter_ves {r:Addr} {Q:Value->Shared->Prop} (hv:s.heap.IsValuesView r d) (m:VEs s.heap d ks ep)
  (q:Q (.ref s.heap.objs.size) {s with heap:=s.heap.push {cls:=.type "dict_valueiterator",data:=.fields #[.ref d,.int 0 0,.int ks.length 0,.int ep 0]}}):wpAny (model prog w) A (pyIter (.ref r)) Q E s:=by
 obtain ⟨ov,hov,hcv,hdv⟩:=(show ∃ o,s.heap.get? r=some o/\o.cls=.type "dict_values"/\o.data=.fields #[.ref d]from hv);obtain ⟨o,es,ho,hc,hdat,hk⟩:=m;refine E8 hv.typeIs EF (Bi EF hv.typeIs PySem.F.entry_dict_values_iter ?_ (PySem.F.args_dict_values_iter_1 _));unfold Builtin.«dict_values.__iter__» Builtin.Dict_items.dictOf Builtin.Dict_items.newIterator;refine AA (AB (AA (AA (Bp hov hdv (x:=.ref d) rfl (AB (AA (AA (BX ho hdat (AA (Cn ho hdat ?_))))))))));have own:Builtin.Dict_items.ownsTuple "dict_valueiterator"=false:=by decide
 simp only [own,Bs,BN];refine A9 (AB ⟨_,rfl,"dict_valueiterator",_,⟨_,AU _ rfl,rfl⟩,PySem.F.slot_dict_valueiterator_next.lookup,?_⟩);simpa [rawInt,ir hk]using q
theorem call_ves {Q:Value->Shared->Prop} (lo:(d==sysModules)=false) (m:VEs s.heap d ks ep)
  (q:Q (.ref s.heap.objs.size) {s with heap:=s.heap.push {cls:=.type "dict_values",data:=.fields #[.ref d]}}):wpAny (model prog w) A (call (.builtin "dict.values") [.ref d]) Q E s:=by
 have ty:=m.type;refine Bi PySem.F.slot_dict_values ty PySem.F.entry_dict_values ?_ (PySem.F.args_dict_values_1 _);refine AA ?_;unfold Builtin.Dict.noArgs;refine AA (Es ty ?_);refine (show wpAny _ _ (pure d) _ _ s from AB (show wpAny _ _ (Builtin.Dict.showsAll d >>= _) _ _ s from ?_));unfold Builtin.Dict.showsAll;rw [AQ (by rw [lo];exact AR)];exact AA (AB (AA (A9 (AB ⟨_,rfl,q⟩))))
theorem next_ves {x:Value} {Q:Option Value->Shared->Prop} (st:s.heap.IsValIter j d i ks.length ep) (m:VEs s.heap d ks ep) (hx:ks[i]? =some x)
  (q: ∀ h',h'.IsValIter j d (i+1) ks.length ep->Heap.SameBut j s.heap h'->Q (some x) {s with heap:=h'}):wpAny (model prog w) A (pyNext (.ref j)) Q E s:=by
 have ty:=st.typeIs;obtain ⟨o,ho,hc,hd⟩:=id st;obtain ⟨od,es,hod,hcd,hdd,hk⟩:=m;have hz:=ir hk;have hlt:i<ks.length:=(AF.mp hx).1;have hes:i<es.size:=by lia
 have hkey:es[i].val=x:=by
  have e1:(es.toList.map (·.val))[i]? =some x:=by rw [hk];exact hx
  rw [AS,CY,BQ hes]at e1;exact A0 e1
 unfold pyNext;refine AA (Cf (Bn (name:=Str.ofString "__next__") ty B3 (Bi B3 ty DJ ?_ (DC _))));refine AA (AB (AA (AA ?_)));first | refine AA (CH ty (AB (AA (BY ho hd ?_)))) | refine AA (Da ty (AB (AA (BY ho hd ?_))))
 have own:Builtin.Dict_items.ownsTuple "dict_valueiterator"=false:=by decide
 simp only [own,Bs,BN];refine (show wpAny _ _ (if (Value.ref d==Value.none)=true then _ else _) _ _ s from ?_);rw [AQ λb0:(Value.ref d==Value.none)=true=>AR b0];refine AA (AB (AA (BX hod hdd ?_)));rw [AQ (by rw [hz];simp)];refine AA (AB (AA (Cn hod hdd ?_)));rw [AQ (by simp)];refine AB ?_;simp only [show ¬ ((i:Int) <0)from by lia,BN,B4,BQ hes];refine AA ?_;first | refine AA (CH ty (AB (AA (Du ty ?_)))) | refine AA (Da ty (AB (AA (Du ty ?_))))
 refine (show wpAny _ _ (setField (.ref j) 1 (rawInt ((i:Int) +1)) >>= _) _ _ s from ?_);refine AA (B9 ho hd (by simp) ?_);have st':(s.heap.update j (Obj.mapFields (·.setIfInBounds 1 (rawInt ((i:Int) +1))))).IsValIter j d (i+1) ks.length ep:=by
  refine ⟨_,BW _ ho (Ct (BJ hd _)),(Dy ..).trans hc,?_⟩;rw [BJ hd];simp [rawInt]
 refine AA (BF (AA (Du (s:={s with heap:=s.heap.update j (Obj.mapFields (·.setIfInBounds 1 (rawInt ((i:Int) +1))))}) st'.typeIs (AA (Du (s:={s with heap:=s.heap.update j (Obj.mapFields (·.setIfInBounds 1 (rawInt ((i:Int) +1))))}) st'.typeIs ?_)))));refine (show wpAny _ _ (pure es[i].val) _ _ _ from ?_);rw [hkey];exact AB (AB ⟨_,rfl,AB (q _ st' (Cm ..))⟩)
theorem end_ves {Q:Option Value->Shared->Prop} (hh:A.handled=none) (st:s.heap.IsValIter j d i ks.length ep) (m:VEs s.heap d ks ep) (hx:ks.length<=i)
  (q: ∀ h',Heap.ExtBut j s.heap h'->Q none {s with heap:=h'}):wpAny (model prog w) A (pyNext (.ref j)) Q E s:=by
 have ty:=st.typeIs;obtain ⟨o,ho,hc,hd⟩:=id st;obtain ⟨od,es,hod,hcd,hdd,hk⟩:=m;have hz:=ir hk;unfold pyNext;refine AA (Cf (Bn (name:=Str.ofString "__next__") ty B3 (Bi B3 ty DJ ?_ (DC _))));refine AA (AB (AA (AA ?_)));first | refine AA (CH ty (AB (AA (BY ho hd ?_)))) | refine AA (Da ty (AB (AA (BY ho hd ?_))))
 have own:Builtin.Dict_items.ownsTuple "dict_valueiterator"=false:=by decide
 simp only [own,Bs,BN];refine (show wpAny _ _ (if (Value.ref d==Value.none)=true then _ else _) _ _ s from ?_);rw [AQ λb0:(Value.ref d==Value.none)=true=>AR b0];refine AA (AB (AA (BX hod hdd ?_)));rw [AQ (by rw [hz];simp)];refine AA (AB (AA (Cn hod hdd ?_)));rw [AQ (by simp)];refine AB ?_;have hge:es.size<=i:=by lia
 simp only [show ¬ ((i:Int) <0)from by lia,BN,B4,El hge];refine AA ?_;first | refine AA (CH ty (AB ?_)) | refine AA (Da ty (AB ?_))
 refine (show wpAny _ _ (setField (.ref j) 0 .none >>= _) _ _ s from AA (B9 ho hd (by simp) ?_));refine (show wpAny _ _ (newExc (.type "StopIteration") [] >>= _) _ _ _ from AA ?_);simp only [newExc,newTuple];refine AA (A9 (AA (m:=firstArgMember _ _) (Fz (a:=Value.none) (by first | rfl | (simp only [firstArgMember];rfl)) (A9 ?_ (by size_fits)))) (by size_fits));simp only [raiseNew];refine AA (Fi ?_);rw [show A.in1.handled=none from hh];refine (AA (AB (E9 (?_))));refine AA (CP (T:="StopIteration") (b:=true) ⟨_,AU _ rfl,rfl⟩ EY (AB (q _ ?_)));exact ((Cm ..).extBut.push _).push _
end
end HT
namespace L2
open PySem PySem.Spec PyProof.Rows
section
variable {X:Cx} {o l:Expr} {to tl:TE} {p pos apos cpos:Pos}
noncomputable def Itv (K:W.Frag) (a:Addr) (n:Nat):It:=
 ⟨λi H=>i<n/\ ∃ xs,xs.length=n/\SqL K H a xs,λi H x H'=>H'=H/\ ∀ xs,SqL K H a xs->xs[n-1-i]? =some x,λi H=>i=n⟩
theorem tm {P:Program} {w:World} {K:W.Frag} {tg:Expr} (a it:Addr) (n:Nat):jY P w K tg (Itv K a n) [it] it (λi h=>h.IsRevIter it a ((n:Int) -1- (i:Int))) where
 mem:=by simp
 obj:=λi h st b hb=>by
  have e:b=it:=by simpa using hb
  subst e;obtain ⟨o,e,c,d⟩:=st;exact ⟨o,e,λv z=>by rw [d]at z;cases z⟩
 keep:=λi h h' st k=>st.at λo e=>k it (by simp) o e
 item:=by
  intro X hP hw hK hc i pins s σ H E I hf st hg;subst hP hw hK;obtain ⟨hi,xs,hn,hq⟩:=hg;obtain ⟨its,rv,p,hz⟩:=I.list hq;have hl:=rv.length;have hx:xs[n-1-i]? =some (xs[n-1-i]'(by lia)):=AG (by lia);obtain ⟨u,hu,ru⟩:=rv.get hx;obtain ⟨f0,f1,f2,f3,f4,f5⟩:=hf it (by simp);have st1:s.heap.IsRevIter it a ((n-1-i:Nat):Int):=by
   have e:(n:Int) -1- (i:Int)=((n-1-i:Nat):Int):=by lia
   rw [<- e];exact st
  refine wpAny_pyNext_rev_item st1 p.isList (x:=u) (by simpa using hu) λh' st' sb=>?_;have I1:Inv X pins σ H {s with heap:=h'}:=I.turned (t':=s.toks) (λb o hb e=>(sb.2 b hb).trans e) f0 f1 f3 f4 f5;have st2:h'.IsRevIter it a ((n:Int) -1- ((i+1:Nat):Int)):=by
   have e:(n:Int) -1- ((i+1:Nat):Int)=((n-1-i:Nat):Int) -1:=by lia
   rw [e];exact st'
  obtain ⟨o,e,c,d⟩:=id st';exact ⟨u,rfl,jB (s:={s with heap:=h'}) e c d (by decide) ⟨_,H,I1,ru,⟨rfl,λys hy=>by rw [I.list_inj hy hq];exact hx⟩,st2,λb hb=>(hf b hb).1⟩⟩
 done:=by
  intro X hP hw hK hc i pins s σ H E I hf st hg;subst hP hw hK;have hi:i=n:=hg;obtain ⟨f0,f1,f2,f3,f4,f5⟩:=hf it (by simp);have st1:s.heap.IsRevIter it a (-1):=by
   have e:(n:Int) -1- (i:Int)= -1:=by lia
   rw [<- e];exact st
  exact wpAny_pyNext_rev_end (I.ok.hd hc) st1 λh' eb=>⟨rfl,I.turned (t':=s.toks) (λb o hb e=>eb b o hb e) f0 f1 f3 f4 f5⟩
 self:=λ_ _ _ _ _ st h=>wpAny_pyIter_revIter st h
noncomputable def Ai (K:W.Frag) (tl:TE):TI:=λσ H R=>tl σ H λx H1=> ∃ a xs,x=.ref a/\SqL K H1 a xs/\R (Itv K a xs.length) H1
theorem xR {tg:Expr} (hg:Gl X "reversed") (hm:X.mg "reversed"=none) (hl:PE X l tl) (hs:starEach [l] X.env=[(false,eval l X.env)]:=by rfl):PI X tg (.Call (.Name "reversed" p) [l] [] pos) (Ai X.K tl):=by
 intro pins s σ H R I h;refine Call_ (gH I hg hm (show bootBuiltins "reversed"=some (.type "reversed") by decide +kernel) (Ce (by rw [hs];exact CS (thn (hl pins s σ H _ I h) λv s1 ⟨x,H1,I1,r1,q1⟩=>Dw (by
  obtain ⟨a,xs,ex,hq,q⟩:=q1;subst ex;cases r1;obtain ⟨its,rv,pl,hz⟩:=I1.list hq;refine call_reversed_list pl.isList ?_;refine wpAny_pyIter_revIter (i:=(its.toArray.size:Int) -1) ⟨_,AU _ rfl,rfl,rfl⟩ ?_;refine ⟨s1.heap.objs.size,[s1.heap.objs.size],_,_,H1,rfl,I1.kept (t':=s1.toks) λb o e=>AC _ e,tm a _ xs.length,⟨_,AU _ rfl,rfl,?_⟩,λb hb=>?_,q⟩
  ·have e:(its.toArray.size:Int) -1=(xs.length:Int) -1- ((0:Nat):Int):=by rw [AL,rv.length];lia
   rw [<- e];rfl
  ·have e:b=s1.heap.objs.size:=by simpa using hb
   subst e;exact I1.fpOk (AJ _) (I1.hok.fresh (AJ _))))) (by rw [hs];rfl) rfl))
theorem wS {K:W.Frag} {a:Addr} {xs:List V} {g:TG} {tb:TS} {D:dW} {σ:St} {H:Hp} (Pv:Nat->St->Hp->Prop) (h0:Pv 0 σ H) (hl: ∀ i σ H,i<=xs.length->Pv i σ H->SqL K H a xs)
  (step: ∀ i x σ H,i<xs.length->xs[xs.length-1-i]? =some x->Pv i σ H->g x σ H λσ2 H2=>tb {D with nx:=Pv (i+1),ct:=Pv (i+1),bk:=D.nx} σ2 H2) (fin: ∀ σ H,Pv xs.length σ H->D.nx σ H):
  ∃ W:Nat->Nat->St->Hp->Prop,(∃ m,W 0 m σ H)/\ ∀ i m σ H,W i m σ H->
   ((Itv K a xs.length).stop i H/\D.nx σ H)\/((Itv K a xs.length).go i H/\ ∃ N:St->Hp->Prop,(∀ σ' H',N σ' H'-> ∃ m',m'<m/\W (i+1) m' σ' H')/\ ∀ x H',(Itv K a xs.length).yld i H x H'->g x σ H' λσ2 H2=>tb {D with nx:=N,ct:=N,bk:=D.nx} σ2 H2):=by
 refine ⟨λi m σ H=>m=xs.length-i/\i<=xs.length/\Pv i σ H,⟨xs.length,by simp,A6 _,h0⟩,?_⟩;rintro i m σ H ⟨rfl,hi,p⟩;have q:=hl i σ H hi p;by_cases hlt:i<xs.length
 ·refine .inr ⟨⟨hlt,xs,rfl,q⟩,Pv (i+1),λσ' H' p'=>⟨xs.length- (i+1),by lia,rfl,hlt,p'⟩,λx H' y=>?_⟩;obtain ⟨e,y⟩:=y;subst e;exact step i x σ _ hlt (y xs q) p
 ·have e:i=xs.length:=by lia
  subst e;exact .inl ⟨rfl,fin σ H p⟩
end
end L2
namespace HT
open PySem PyProof.Rows
section
variable {prog:Program} {w:World} {A:Around} {s:Shared} {E:Value->Shared->Prop} {d it:Addr} {ks:List (Value×Value)} {i ep:Nat}
def IEs (h:Heap) (d:Addr) (ks:List (Value×Value)) (ep:Nat):Prop:= ∃ o es,h.get? d=some o/\o.ExactDict/\o.data=.dict es ep/\es.toList.map (λe=>(e.key,e.val))=ks
theorem IEs.type (m:IEs s.heap d ks ep):s.TypeIs (.ref d) "dict":=by
 obtain ⟨o,_,ho,hc,_⟩:=m;exact ⟨o,ho,hc.1⟩
theorem IEs.keeps {h h':Heap} (m:IEs h d ks ep) (k: ∀ o,h.get? d=some o->h'.get? d=some o):IEs h' d ks ep:=by
 obtain ⟨o,es,ho,r⟩:=m;exact ⟨o,es,k o ho,r⟩
theorem gy {es:Array DictEntry} (e:es.toList.map (λe=>(e.key,e.val))=ks):es.size=ks.length:=by
 rw [<- e,AD,BE]
theorem call_ies {Q:Value->Shared->Prop} (lo:(d==sysModules)=false) (m:IEs s.heap d ks ep)
  (q:Q (.ref s.heap.objs.size) {s with heap:=s.heap.push {cls:=.type "dict_items",data:=.fields #[.ref d]}}):wpAny (model prog w) A (call (.builtin "dict.items") [.ref d]) Q E s:=by
 have ty:=m.type;refine Bi PySem.F.slot_dict_items ty PySem.F.entry_dict_items ?_ (PySem.F.args_dict_items_1 _);refine AA ?_;unfold Builtin.Dict.noArgs;refine AA (Es ty ?_);refine (show wpAny _ _ (pure d) _ _ s from AB (show wpAny _ _ (Builtin.Dict.showsAll d >>= _) _ _ s from ?_));unfold Builtin.Dict.showsAll;rw [AQ (by rw [lo];exact AR)];exact AA (AB (AA (A9 (AB ⟨_,rfl,q⟩))))
theorem iter_ies {r:Addr} {Q:Value->Shared->Prop} (hv:s.heap.IsItemsView r d) (m:IEs s.heap d ks ep)
  (q:Q (.ref s.heap.objs.size) {s with heap:=s.heap.push {cls:=.type "dict_itemiterator",data:=.fields #[.none,.bool false,.ref d,.int 0 0,.int ks.length 0,.int ep 0,.none,.none]}}):wpAny (model prog w) A (pyIter (.ref r)) Q E s:=by
 obtain ⟨ov,hov,hcv,hdv⟩:=(show ∃ o,s.heap.get? r=some o/\o.cls=.type "dict_items"/\o.data=.fields #[.ref d]from hv);obtain ⟨o,es,ho,hc,hdat,hk⟩:=m;refine E8 hv.typeIs EK (Bi EK hv.typeIs PySem.F.entry_dict_items_iter ?_ (PySem.F.args_dict_items_iter_1 _));unfold Builtin.«dict_items.__iter__» Builtin.Dict_items.dictOf Builtin.Dict_items.newIterator;refine AA (AB (AA (AA (Bp hov hdv (x:=.ref d) rfl (AB (AA (AA (BX ho hdat (AA (Cn ho hdat ?_))))))))));have own:Builtin.Dict_items.ownsTuple "dict_itemiterator"=true:=by decide
 simp only [own,Db];refine A9 (AB ⟨_,rfl,"dict_itemiterator",_,⟨_,AU _ rfl,rfl⟩,PySem.F.slot_dict_itemiterator_next.lookup,?_⟩)
  (by simp only [sizeOk,Builtin.Dict_items.ownedTupleFields,AL,AI,AM,Fv,E5];lia)
 simpa [rawInt,gy hk,Builtin.Dict_items.ownedTupleFields]using q
theorem next_ies {x y ok ov:Value} {Q:Option Value->Shared->Prop} (st:IsItemIter s.heap it d i ks.length ep ok ov) (m:IEs s.heap d ks ep) (hx:ks[i]? =some (x,y))
  (q: ∀ h',IsItemIterOut h' it d (i+1) ks.length ep x y s.heap.objs.size->h'.get? s.heap.objs.size=some {cls:=.type "tuple",data:=.seq #[x,y]}->
   (∀ b o,b≠it->s.heap.get? b=some o->h'.get? b=some o)->Q (some (.ref s.heap.objs.size)) {s with heap:=h'}):wpAny (model prog w) A (pyNext (.ref it)) Q E s:=by
 obtain ⟨hp,g,dr,tk,os⟩:=s;obtain ⟨od,es,hod,hcd,hdd,hk⟩:=m;have ty:Shared.TypeIs ⟨hp,g,dr,tk,os⟩ (.ref it) "dict_itemiterator":=⟨_,st,rfl⟩;have hz:=gy hk;have hlt:i<ks.length:=(AF.mp hx).1;have hes:i<es.size:=by lia
 have hkv:(es[i].key,es[i].val)=(x,y):=by
  have e1:(es.toList.map (λe=>(e.key,e.val)))[i]? =some (x,y):=by rw [hk];exact hx
  rw [AS,CY,BQ hes]at e1;exact A0 e1
 have hkx:es[i].key=x:=(EA hkv).1;have hvy:es[i].val=y:=(EA hkv).2;unfold pyNext;refine AA (Cf (Bn (name:=Str.ofString "__next__") ty Ca (Bi Ca ty DP ?_ (DK _))));refine AA (AB (AA (AA ?_)));first | refine AA (Cy ty (AB (AA (BY st rfl ?_)))) | refine AA (C0 ty (AB (AA (BY st rfl ?_))))
 have own:Builtin.Dict_items.ownsTuple "dict_itemiterator"=true:=by decide
 simp only [own,Db];refine (show wpAny _ _ (if (Value.ref d==Value.none)=true then _ else _) _ _ _ from ?_);rw [AQ λb0:(Value.ref d==Value.none)=true=>AR b0];refine AA (AB (AA (BX hod hdd ?_)));rw [AQ (by rw [hz];simp)];refine AA (AB (AA (Cn hod hdd ?_)));rw [AQ (by simp)];refine AB ?_;simp only [show ¬ ((i:Int) <0)from by lia,BN,B4,BQ hes];refine AA ?_;first | refine AA (Cy ty (AB (AA (Dm ty ?_)))) | refine AA (C0 ty (AB (AA (Dm ty ?_))))
 refine (show wpAny _ _ (setField (.ref it) 3 (rawInt ((i:Int) +1)) >>= _) _ _ ⟨hp,g,dr,tk,os⟩from ?_);refine AA (BU st (by simp) λh1 e1 b1=>?_);replace b1:Heap.SameBut it hp h1:=b1;replace e1:IsItemIter h1 it d (i+1) ks.length ep ok ov:=by
  have e:((i+1:Nat):Int)=(i:Int) +1:=by lia
  unfold IsItemIter;rw [e];simpa [rawInt]using e1
 have ty1:Shared.TypeIs ⟨h1,g,dr,tk,os⟩ (.ref it) "dict_itemiterator":=⟨_,e1,rfl⟩;refine AA (BF (AA (Dm ty1 (AA (Dm ty1 ?_)))));rw [hkx,hvy];refine (show wpAny _ _ (Builtin.Dict_items.pairFromOwner (.ref it) 6 x y) _ _ ⟨h1,g,dr,tk,os⟩from ?_);unfold Builtin.Dict_items.pairFromOwner;refine AA (wpAny_newTuple ?_);have e2:IsItemIter (h1.push {cls:=.type "tuple",data:=.seq #[x,y]}) it d (i+1) ks.length ep ok ov:=AC _ e1;have z1:h1.objs.size=hp.objs.size:=b1.1;have il:hp.objs.size≠it:=Cz (AN st);have t2:(h1.push {cls:=.type "tuple",data:=.seq #[x,y]}).get? hp.objs.size=some {cls:=.type "tuple",data:=.seq #[x,y]}:=by rw [<- z1];exact AU _ rfl
 have k2: ∀ b o,b≠it->hp.get? b=some o->(h1.push {cls:=.type "tuple",data:=.seq #[x,y]}).get? b=some o:=λb o hb e=>AC _ (b1.extBut b o hb e);generalize h1.push {cls:=.type "tuple",data:=.seq #[x,y]}=h2 at e2 t2 k2;refine (show wpAny _ _ (Builtin.Dict_items.ownedTupleIsFree (.ref it) >>= _) _ _ ⟨h2,g,dr,tk,os⟩from ?_);rw [z1];refine AA ?_;unfold Builtin.Dict_items.ownedTupleIsFree;refine AA (Bp e2 rfl (x:=.none) rfl (AB ?_));simp only [Db];refine AA (Bp e2 rfl (x:=ok) rfl (AA (Bp e2 rfl (x:=ov) rfl ?_)));refine AA (BU e2 (by simp) λh3 e3 b3=>?_);replace b3:Heap.SameBut it h2 h3:=b3;replace e3:IsItemIter h3 it d (i+1) ks.length ep x ov:=e3;refine AA (BU e3 (by simp) λh4 e4 b4=>?_);replace b4:Heap.SameBut it h3 h4:=b4;replace e4:IsItemIter h4 it d (i+1) ks.length ep x y:=e4;refine AA (BU e4 (by simp) λh5 e5 b5=>?_);replace b5:Heap.SameBut it h4 h5:=b5;replace e5:IsItemIterOut h5 it d (i+1) ks.length ep x y hp.objs.size:=e5;refine AA (BU e5 (by simp) λh6 e6 b6=>?_);replace b6:Heap.SameBut it h5 h6:=b6;replace e6:IsItemIterOut h6 it d (i+1) ks.length ep x y hp.objs.size:=e6;have up: ∀ b o,b≠it->h2.get? b=some o->h6.get? b=some o:=λb o hb e=>b6.extBut b o hb (b5.extBut b o hb (b4.extBut b o hb (b3.extBut b o hb e)));exact AA (FA (AB (AB ⟨_,rfl,AB (q h6 e6 (up _ _ il t2) λb o hb e=>up b o hb (k2 b o hb e))⟩)))
theorem end_ies {ok ov:Value} {Q:Option Value->Shared->Prop} (hh:A.handled=none) (st:IsItemIter s.heap it d i ks.length ep ok ov) (m:IEs s.heap d ks ep) (hx:ks.length<=i)
  (q: ∀ h',Heap.ExtBut it s.heap h'->Q none {s with heap:=h'}):wpAny (model prog w) A (pyNext (.ref it)) Q E s:=by
 have ty:s.TypeIs (.ref it) "dict_itemiterator":=⟨_,st,rfl⟩;obtain ⟨od,es,hod,hcd,hdd,hk⟩:=m;have hz:=gy hk;unfold pyNext;refine AA (Cf (Bn (name:=Str.ofString "__next__") ty Ca (Bi Ca ty DP ?_ (DK _))));refine AA (AB (AA (AA ?_)));first | refine AA (Cy ty (AB (AA (BY st rfl ?_)))) | refine AA (C0 ty (AB (AA (BY st rfl ?_))))
 have own:Builtin.Dict_items.ownsTuple "dict_itemiterator"=true:=by decide
 simp only [own,Db];refine (show wpAny _ _ (if (Value.ref d==Value.none)=true then _ else _) _ _ s from ?_);rw [AQ λb0:(Value.ref d==Value.none)=true=>AR b0];refine AA (AB (AA (BX hod hdd ?_)));rw [AQ (by rw [hz];simp)];refine AA (AB (AA (Cn hod hdd ?_)));rw [AQ (by simp)];refine AB ?_;have hge:es.size<=i:=by lia
 simp only [show ¬ ((i:Int) <0)from by lia,BN,B4,El hge];refine AA ?_;first | refine AA (Cy ty (AB ?_)) | refine AA (C0 ty (AB ?_))
 refine (show wpAny _ _ (setField (.ref it) 2 .none >>= _) _ _ s from AA (B9 st rfl (by simp) ?_));refine (show wpAny _ _ (newExc (.type "StopIteration") [] >>= _) _ _ _ from AA ?_);simp only [newExc,newTuple];refine AA (A9 (AA (m:=firstArgMember _ _) (Fz (a:=Value.none) (by first | rfl | (simp only [firstArgMember];rfl)) (A9 ?_ (by size_fits)))) (by size_fits));simp only [raiseNew];refine AA (Fi ?_);rw [show A.in1.handled=none from hh];refine (AA (AB (E9 (?_))));refine AA (CP (T:="StopIteration") (b:=true) ⟨_,AU _ rfl,rfl⟩ EY (AB (q _ ?_)));exact ((Cm ..).extBut.push _).push _
end
end HT
namespace L2
open PySem PySem.Spec PyProof.Rows
theorem Inv.freeze {X:Cx} {pins:List (Addr×Obj)} {σ:St} {H:Hp} {s:Shared} {d:Addr} {o:Obj} {kvs:List (List Key×V)} (I:Inv X pins σ H s) (hd:H d=some (.dT kvs)) (ho:s.heap.get? d=some o):Inv X pins σ (upd H d (.frz o (.dT kvs))) s:=by
 refine i6 (t':=s.toks) (h':=s.heap) I (by rw [hd];exact True.intro) ⟨rfl,λ_ _=>rfl⟩ ⟨o,ho⟩ ⟨ho,?_⟩;obtain ⟨z,lo,xs,kt,r⟩:=(show ObjOk X.prog X.w H s.heap d (.dT kvs)from I.hok d _ hd);refine ⟨z,lo,xs,Paired.mapP kt λp q h=>⟨h.1,?_,h.2.2⟩,r⟩;rw [ah (λz=>by rw [z,hd]at h;cases h.2.1)];exact h.2.1
noncomputable def nO (o:Obj):Nat:=match o.data with
 | .dict es _=>es.size
 | _=>0
noncomputable def epO (o:Obj):Nat:=match o.data with
 | .dict _ ep=>ep
 | _=>0
theorem bY {X:Cx} {pins:List (Addr×Obj)} {σ:St} {H:Hp} {s:Shared} {d:Addr} {o:Obj} {kvs:List (List Key×V)} (I:Inv X pins σ H s) (hd:H d=some (.frz o (.dT kvs))):
  ∃ xs:List (List Key×Addr×Value),KT H kvs xs/\(d==sysModules)=false/\nO o=xs.length/\HT.IEs s.heap d (xs.map λq=>(Value.ref q.2.1,q.2.2)) (epO o)/\HT.VEs s.heap d (xs.map λq=>q.2.2) (epO o)/\s.heap.get? d=some o:=by
 obtain ⟨ho,z,lo,xs,kt,o',es,ep,h1,h2,h3,h4,h5⟩:=(show ObjOk X.prog X.w H s.heap d (.frz o (.dT kvs))from I.hok d _ hd);rw [ho]at h1;cases h1;have e1:nO o=es.size:=by unfold nO;rw [h3]
 have e2:epO o=ep:=by unfold epO;rw [h3]
 refine ⟨xs,kt,lo,?_,⟨o,es,ho,h2,by rw [e2];exact h3,?_⟩,⟨o,es,ho,h2,by rw [e2];exact h3,?_⟩,ho⟩
 ·rw [e1,<- BE,h4,AD]
 ·rw [h4,BB];rfl
 ·rw [h4,BB];rfl
theorem qm {H:Hp}: ∀ {kvs:List (List Key×V)} {xs:List (List Key×Addr×Value)} {i:Nat} {kv:List Key×V},KT H kvs xs->kvs[i]? =some kv-> ∃ q:List Key×Addr×Value,xs[i]? =some q/\H q.2.1=some (.tup (kv.1.map kV))/\RelV kv.2 q.2.2
 | _,_,i,_,.nil,e=>by cases i <;> cases e
 | _,_,0,_,.cons h _,e=>by cases e;exact ⟨_,rfl,h.2.1,h.2.2⟩
 | _,_,i+1,_,.cons _ t,e=>qm (i:=i) t e
noncomputable def Ity (d:Addr) (o:Obj):It:=
 ⟨λi H=> ∃ kvs kv,H d=some (.frz o (.dT kvs))/\kvs[i]? =some kv,
  λi H x H'=> ∃ T c ks v,H T=none/\x=.ref T/\H'=upd H T (.tup [.ref c,v])/\H c=some (.tup (List.map kV ks))/\ ∀ kvs,H d=some (.frz o (.dT kvs))->kvs[i]? =some (ks,v),
  λi H=> ∃ kvs,H d=some (.frz o (.dT kvs))/\kvs.length=i⟩
def Aw (it d:Addr) (o:Obj) (i:Nat) (h:Heap):Prop:= ∃ ok ov,IsItemIter h it d i (nO o) (epO o) ok ov
theorem nU {P:Program} {w:World} {K:W.Frag} {es:List Expr} {kk:Nat} {tpos:Pos} (it d:Addr) (o:Obj):jY P w K (.Tuple es kk tpos) (Ity d o) [it] it (Aw it d o):=by
 refine ⟨by simp,λi h st b hb=>?_,λi h h' st k=>?_,?_,?_,λ_ _ _ _ _ st h=>?_⟩
 ·obtain ⟨ok,ov,st⟩:=st;have e:b=it:=by simpa using hb
  subst e;exact ⟨_,st,λv e=>nomatch e⟩
 ·obtain ⟨ok,ov,st⟩:=st;exact ⟨ok,ov,k it (by simp) _ st⟩
 ·intro X hP hw hK hc i pins s σ H E I hf st hg;subst hP hw hK;obtain ⟨kvs,kv,hd,hx⟩:=hg;obtain ⟨xs,kt,lo,hn,m,_,_⟩:=bY I hd;obtain ⟨q,hq,hc',rv⟩:=qm kt hx;obtain ⟨ok,ov,st⟩:=st;have st0:=st;rw [hn,<- AD (f:=λq:List Key×Addr×Value=>(Value.ref q.2.1,q.2.2))]at st;have nd:d≠it:=λz=>by have:=(hf it (by simp)).1;rw [<- z,hd]at this;cases this
  refine HT.next_ies st m (by rw [AS,hq];rfl) λh' z1 pr kk=>?_;refine ⟨_,rfl,wpAny_letOwnedTupleGo_items z1 λh'' z2 sb=>?_⟩;have lt: ∀ {b:Addr} {ob:Obj},s.heap.get? b=some ob->b≠s.heap.objs.size:=λe=>Bf (AN e);have fT:H s.heap.objs.size=none:=I.hok.fresh (AJ _);have keep: ∀ b ob,b∉[it]->s.heap.get? b=some ob->h''.get? b=some ob:=λb ob hb z=>by
   simp only [AY,Bz,CV]at hb;exact sb.extBut b ob hb (kk b ob hb z)
  have trk: ∀ b uo,H b=some uo->b∉[it]:=λb uo z hb=>by rw [(hf b hb).1]at z;cases z
  have ptT:=sb.extBut _ _ (Bg (lt st0)) pr;have I2:Inv X pins σ (upd H s.heap.objs.size (.tup [.ref q.2.1,kv.2])) {s with heap:=h''}:=by
   refine I.step (g':=s.gens) (d':=s.drawn) (t':=s.toks) (ch:=[it]) (λb hb=>?_) (λb ob _ _ hb z _=>keep b ob hb z) (λb ob _ _ hb z _=>⟨ob.slots,keep b ob hb z⟩) (λb ob hb z n=>by rw [ah (lt z)];exact n)
    (λb ob hb z=>⟨ob,keep b ob hb z⟩) (λb zs z=>by rw [ah (ai z fT)];exact z) (λb ob uo z=>by rw [ah (ai z fT)];exact z) (λb ps z=>⟨#[],by rw [ah (ai z fT),z];simp⟩) (λm hm=>?_) (λb uo z=>?_) I.bare
   ·obtain ⟨_,f1,_,f3,f4,f5⟩:=hf b hb;exact ⟨f3,f1,f4,f5⟩
   ·obtain ⟨ob,es',ep,ho,r⟩:=hm;exact ⟨ob,es',ep,keep _ ob (λhb=>(hf _ hb).2.1 rfl) ho,r⟩
   ·by_cases hb:b=s.heap.objs.size
    ·subst hb;rw [ad]at z;cases z;exact ⟨by show 2<=sizeLine;decide,[.ref q.2.1,q.2.2],.cons rfl (.cons rv .nil),_,ptT,rfl,_,rfl⟩
    ·rw [ah hb]at z;refine (I.hok b uo z).stay (λc' v' hc' q=>keep c' v' ?_ q) (λc' q=>by rw [ah (ai q fT)];exact q) λc' zs q=>by rw [ah (ai q fT)];exact q
     rcases hc' with h | h
     ·rw [h];exact trk b uo z
     ·exact trk c' _ h
  refine ⟨.ref s.heap.objs.size,_,I2,rfl,⟨_,q.2.1,kv.1,kv.2,fT,rfl,rfl,hc',λkvs' h1=>?_⟩,⟨_,_,by rw [hn,<- AD (f:=λq:List Key×Addr×Value=>(Value.ref q.2.1,q.2.2))];exact z2⟩,λb hb=>?_⟩
  ·rw [hd]at h1;cases h1;exact hx
  ·have e:b=it:=by simpa using hb
   subst e;rw [ah (lt st0)];exact (hf _ (by simp)).1
 ·intro X hP hw hK hc i pins s σ H E I hf st hg;subst hP hw hK;obtain ⟨kvs,hd,hl⟩:=hg;obtain ⟨xs,kt,lo,hn,m,_,_⟩:=bY I hd;obtain ⟨ok,ov,st⟩:=st;rw [hn,<- AD (f:=λq:List Key×Addr×Value=>(Value.ref q.2.1,q.2.2))]at st;have hle:xs.length=kvs.length:=(AZ kt).symm;obtain ⟨f0,f1,f2,f3,f4,f5⟩:=hf it (by simp);exact HT.end_ies (I.ok.hd hc) st m (by rw [AD];lia) λh' eb=>⟨rfl,I.turned (t':=s.toks) (λb o hb e=>eb b o hb e) f0 f1 f3 f4 f5⟩
 ·obtain ⟨ok,ov,st⟩:=st;exact W.kcp_self st h
noncomputable def yp (J:Addr->Obj->It) (to:TE):TI:=λσ H R=>to σ H λx H1=> ∃ d kvs,x=.ref d/\((H1 d=some (.dT kvs)/\ ∀ o,R (J d o) (upd H1 d (.frz o (.dT kvs))))\/ ∃ o,H1 d=some (.frz o (.dT kvs))/\R (J d o) H1)
theorem pq {X:Cx} {pins:List (Addr×Obj)} {σ:St} {H:Hp} {s:Shared} {d:Addr} {kvs:List (List Key×V)} {J:Addr->Obj->It} {R:It->Hp->Prop} (I:Inv X pins σ H s)
  (h:(H d=some (.dT kvs)/\ ∀ o,R (J d o) (upd H d (.frz o (.dT kvs))))\/ ∃ o,H d=some (.frz o (.dT kvs))/\R (J d o) H): ∃ o H',Inv X pins σ H' s/\H' d=some (.frz o (.dT kvs))/\R (J d o) H':=by
 rcases h with ⟨hd,q⟩ | ⟨o,hd,q⟩
 ·obtain ⟨_,_,xs,kt,o,es,ep,h1,_⟩:=(show ObjOk X.prog X.w H s.heap d (.dT kvs)from I.hok d _ hd);exact ⟨o,_,I.freeze hd h1,ad,q o⟩
 ·exact ⟨o,H,I,hd,q⟩
theorem js {X:Cx} {es:List Expr} {kk:Nat} {tpos:Pos} {o:Expr} {to:TE} {apos cpos:Pos} (ho:PE X o to)
  (hbase:attributeBase o "items" X.env (eval o X.env)=eval o X.env:=by rfl) (hline:(apos.endLine==cpos.line)=true:=by rfl):
  PI X (.Tuple es kk tpos) (.Call (.Attribute o "items" apos) [] [] cpos) (yp Ity to):=by
 intro pins s σ H R I h;refine Ed hbase hline (thn (ho pins s σ H _ I h) λv s1 ⟨x,H1,I1,r1,d,kvs,ex,q1⟩=>?_);subst ex;cases r1;obtain ⟨ob,H2,I2,hd,q⟩:=pq I1 q1;obtain ⟨xs,kt,lo,hn,m,_,hob⟩:=bY I2 hd;refine ⟨"dict","dict.items",Ef,PySem.F.slot_dict_items,PySem.F.type_dict_items,m.type,(λb e=>?_),CK rfl (EM (HT.call_ies lo m ?_))⟩
 ·cases e;obtain ⟨o',es',e1,e2,_⟩:=m;exact ⟨o',e1,e2.2.1⟩
 have kp0: ∀ b o,s1.heap.get? b=some o->(s1.heap.push {cls:=.type "dict_items",data:=.fields #[.ref d]}).get? b=some o:=λb o e=>AC _ e;refine HT.iter_ies ⟨_,AU _ rfl,rfl,rfl⟩ (m.keeps λo e=>kp0 _ o e) ?_;have hsz:(s1.heap.push {cls:=.type "dict_items",data:=.fields #[.ref d]}).objs.size=s1.heap.objs.size+1:=B8 ..;refine ⟨_,[_],_,_,H2,rfl,I2.kept (t':=s1.toks) λb o e=>AC _ (kp0 b o e),nU _ d ob,⟨.none,.none,?_⟩,λb hb=>?_,q⟩
 ·rw [AD,<- hn];exact AU _ rfl
 ·have e:b=(s1.heap.push {cls:=.type "dict_items",data:=.fields #[.ref d]}).objs.size:=by simpa using hb
  have hb':s1.heap.objs.size<=b:=by rw [e,hsz];lia
  exact I2.fpOk hb' (I2.hok.fresh hb')
theorem iF {d:Addr} {o:Obj} {kvs:List (List Key×V)} {g:TG} {tb:TS} {D:dW} {σ:St} {H:Hp} (Pv:Nat->St->Hp->Prop) (h0:Pv 0 σ H) (hl: ∀ i σ H,i<=kvs.length->Pv i σ H->H d=some (.frz o (.dT kvs)))
  (step: ∀ i ks v T c σ H,kvs[i]? =some (ks,v)->H T=none->H c=some (.tup (List.map kV ks))->Pv i σ H->g (.ref T) σ (upd H T (.tup [.ref c,v])) λσ2 H2=>tb {D with nx:=Pv (i+1),ct:=Pv (i+1),bk:=D.nx} σ2 H2) (fin: ∀ σ H,Pv kvs.length σ H->D.nx σ H):
  ∃ W:Nat->Nat->St->Hp->Prop,(∃ m,W 0 m σ H)/\ ∀ i m σ H,W i m σ H->
   ((Ity d o).stop i H/\D.nx σ H)\/((Ity d o).go i H/\ ∃ N:St->Hp->Prop,(∀ σ' H',N σ' H'-> ∃ m',m'<m/\W (i+1) m' σ' H')/\ ∀ x H',(Ity d o).yld i H x H'->g x σ H' λσ2 H2=>tb {D with nx:=N,ct:=N,bk:=D.nx} σ2 H2):=by
 refine ⟨λi m σ H=>m=kvs.length-i/\i<=kvs.length/\Pv i σ H,⟨kvs.length,by simp,A6 _,h0⟩,?_⟩;rintro i m σ H ⟨rfl,hi,p⟩;have q:=hl i σ H hi p;by_cases hlt:i<kvs.length
 ·refine .inr ⟨⟨kvs,kvs[i],q,AG hlt⟩,Pv (i+1),λσ' H' p'=>⟨kvs.length- (i+1),by lia,rfl,hlt,p'⟩,λx H' y=>?_⟩;obtain ⟨T,c,ks,v,fT,rfl,rfl,hc,hk⟩:=y;exact step i ks v T c σ H (hk kvs q) fT hc p
 ·have e:i=kvs.length:=by lia
  subst e;exact .inl ⟨⟨kvs,q,rfl⟩,fin σ H p⟩
noncomputable def Itj (d:Addr) (o:Obj):It:=
 ⟨λi H=> ∃ kvs kv,H d=some (.frz o (.dT kvs))/\kvs[i]? =some kv,
  λi H x H'=>H'=H/\ ∀ kvs,H d=some (.frz o (.dT kvs))->(kvs.map (·.2))[i]? =some x,
  λi H=> ∃ kvs,H d=some (.frz o (.dT kvs))/\kvs.length=i⟩
theorem qU {P:Program} {w:World} {K:W.Frag} {tg:Expr} (it d:Addr) (o:Obj):jY P w K tg (Itj d o) [it] it (λi h=>h.IsValIter it d i (nO o) (epO o)) where
 mem:=by simp
 obj:=λi h st b hb=>by
  have e:b=it:=by simpa using hb
  subst e;obtain ⟨o,e,c,d⟩:=st;exact ⟨o,e,λv z=>by rw [d]at z;cases z⟩
 keep:=λi h h' st k=>st.at λo e=>k it (by simp) o e
 item:=by
  intro X hP hw hK hc i pins s σ H E I hf st hg;subst hP hw hK;obtain ⟨kvs,kv,hd,hx⟩:=hg;obtain ⟨xs,kt,lo,hn,_,m,_⟩:=bY I hd;obtain ⟨q,hq,hc',rv⟩:=qm kt hx;obtain ⟨f0,f1,f2,f3,f4,f5⟩:=hf it (by simp);rw [hn,<- AD (f:=λq:List Key×Addr×Value=>q.2.2)]at st;refine HT.next_ves st m (by rw [AS,hq];rfl) λh' st' sb=>?_;have I1:Inv X pins σ H {s with heap:=h'}:=I.turned (t':=s.toks) (λb o hb e=>sb.extBut b o hb e) f0 f1 f3 f4 f5;obtain ⟨o',e,c,d'⟩:=id st';rw [AD,<- hn]at st';exact ⟨q.2.2,rfl,jB (s:={s with heap:=h'}) e c d' (by decide) ⟨_,H,I1,rv,⟨rfl,λys hy=>by rw [hd]at hy;cases hy;rw [AS,hx];rfl⟩,st',λb hb=>(hf b hb).1⟩⟩
 done:=by
  intro X hP hw hK hc i pins s σ H E I hf st hg;subst hP hw hK;obtain ⟨kvs,hd,hl⟩:=hg;obtain ⟨xs,kt,lo,hn,_,m,_⟩:=bY I hd;have hle:xs.length=kvs.length:=(AZ kt).symm;obtain ⟨f0,f1,f2,f3,f4,f5⟩:=hf it (by simp);rw [hn,<- AD (f:=λq:List Key×Addr×Value=>q.2.2)]at st;exact HT.end_ves (I.ok.hd hc) st m (by rw [AD];lia) λh' eb=>⟨rfl,I.turned (t':=s.toks) (λb o hb e=>eb b o hb e) f0 f1 f3 f4 f5⟩
 self:=λ_ _ _ _ _ st h=>wpAny_pyIter_valiter st h
theorem wk {X:Cx} {tg:Expr} {o:Expr} {to:TE} {apos cpos:Pos} (ho:PE X o to)
  (hbase:attributeBase o "values" X.env (eval o X.env)=eval o X.env:=by rfl) (hline:(apos.endLine==cpos.line)=true:=by rfl):
  PI X tg (.Call (.Attribute o "values" apos) [] [] cpos) (yp Itj to):=by
 intro pins s σ H R I h;refine Ed hbase hline (thn (ho pins s σ H _ I h) λv s1 ⟨x,H1,I1,r1,d,kvs,ex,q1⟩=>?_);subst ex;cases r1;obtain ⟨ob,H2,I2,hd,q⟩:=pq I1 q1;obtain ⟨xs,kt,lo,hn,_,m,hob⟩:=bY I2 hd;refine ⟨"dict","dict.values",Ef,PySem.F.slot_dict_values,PySem.F.type_dict_values,m.type,(λb e=>?_),CK rfl (EM (HT.call_ves lo m ?_))⟩
 ·cases e;obtain ⟨o',es',e1,e2,_⟩:=m;exact ⟨o',e1,e2.2.1⟩
 have kp0: ∀ b o,s1.heap.get? b=some o->(s1.heap.push {cls:=.type "dict_values",data:=.fields #[.ref d]}).get? b=some o:=λb o e=>AC _ e;refine HT.iter_ves ⟨_,AU _ rfl,rfl,rfl⟩ (m.keeps λo e=>kp0 _ o e) ?_;have hsz:(s1.heap.push {cls:=.type "dict_values",data:=.fields #[.ref d]}).objs.size=s1.heap.objs.size+1:=B8 ..;refine ⟨_,[_],_,_,H2,rfl,I2.kept (t':=s1.toks) λb o e=>AC _ (kp0 b o e),qU _ d ob,?_,λb hb=>?_,q⟩
 ·rw [AD,<- hn];exact ⟨_,AU _ rfl,rfl,rfl⟩
 ·have e:b=(s1.heap.push {cls:=.type "dict_values",data:=.fields #[.ref d]}).objs.size:=by simpa using hb
  have hb':s1.heap.objs.size<=b:=by rw [e,hsz];lia
  exact I2.fpOk hb' (I2.hok.fresh hb')
section
variable {X:Cx}
theorem rj (bs:List Bool):((List.range bs.length).any λi=>(bs[i]?).getD false)=bs.any id:=by
 induction bs with
 | nil=>rfl
 | cons b r ih=>
  rw [AM,List.range_succ_eq_map,Do,List.any_map];show (b||(List.range r.length).any (λi=>((b::r)[i+1]?).getD false))=(b||r.any id);rw [<- ih];rfl
theorem vA (hc:X.calm=true):cQ X (.builtin "any") (λxs H Q=> ∃ (p:Addr) (bs:List Bool),xs=[.ref p]/\SqL X.K H p (bs.map V.bl)/\Q (.bl (bs.any id)) H):=by
 intro pins s σ H xs us Q I r h;obtain ⟨p,bs,rfl,hq,q⟩:=h;obtain ⟨u,rfl,ru⟩:=gh r;cases ru;obtain ⟨its,rv,pl,hz⟩:=I.list hq;have hl:=pl.isList;have hlt:p<s.heap.objs.size:=by obtain ⟨_,e,_⟩:=hl;exact AN e
 have hn:its.toArray.size=bs.length:=by have:=rv.length;rw [AD]at this;rw [AL];lia
 refine call_any_walk (Eh hl ?_);refine ⟨s.heap.objs.size,[s.heap.objs.size,p],[s.heap.objs.size],its.toArray.size,_,_,λi=>(bs[i]?).getD false,rfl,Walks.list (A:=X.A.in1) (I.ok.hd hc) _ p (Bf hlt) its.toArray,
  ⟨⟨_,AU _ rfl,rfl,rfl⟩,hl.push _⟩,λi v s' Q' E' hP hQ=>?_,λh' tk hk=>?_⟩
 ·have hv:its[i]? =some v:=by simpa using hP
  have hi:i<bs.length:=by
   have:=(AF.mp hv).1;have:=rv.length;rw [AD]at this;lia
  have hb:(bs.map V.bl)[i]? =some (V.bl bs[i]):=by rw [AS,AG hi] <;> rfl
  obtain ⟨u,eu,ru⟩:=rv.get hb;rw [hv]at eu;cases eu;cases (show v=Value.bool bs[i]from ru);have hQ':=hQ;simp only [AG hi,Fq]at hQ';exact Ch hQ'
 ·rw [hn,rj];refine ⟨.bl (bs.any id),H,I.kept (t':=tk) λb x e=>?_,rfl,q⟩;exact hk b x (λhm=>by rw [AE.mp hm]at e;exact CN _ (AN e)) (AC _ e)
end
end L2
namespace My
open PySem L2
inductive Ts (H:Hp):List V->List V->Prop where
 | nil:Ts H [] []
 | cons {a:Addr} {k:Str} {r vs out:List V}:H a=some (.tup (.str k::r))->k.length<=1000->r.length<=3->Ts H (bn (.str k::r)++vs) out->Ts H (.ref a::vs) (.ref a::out)
theorem Ts.len {H:Hp} {ws out:List V} (h:Ts H ws out):ws.length<=out.length:=by
 induction h with
 | nil=>exact AJ _
 | cons _ _ _ _ ih=>
  rw [AI]at ih;rw [AM,AM];lia
theorem Ts.same {H H':Hp} {ws out:List V} (sm:Same H H') (h:Ts H ws out):Ts H' ws out:=by
 induction h with
 | nil=>exact .nil
 | cons ha hk hr _ ih=>exact .cons (sm _ _ ha) hk hr ih
def gO:Sp:=λvs H Q _=> ∃ v out,vs=[v]/\Ts H [v] out/\out.length<=1000/\ ∀ p H',Same H H'->H' p=some (.lst out)->Q (.ref p) H'
theorem scTuples:av ["formula","found","waiting","one"] ["formula"] (ak li):=fsc
theorem kr (F:Fun K "tuples_of" "tuples_of" li f fd)
  (GI:Cl P w K mg base CX0 1 f2 fd2 ["formula"] la "inner_of"):
  a8 P w K mg base CX0 2 f fd ["formula"] gO:=by
 refine F.ok scTuples (λvs H Q E h=>?_) (λcdv A outer s H vs Q E hr h=>?_)
 ·obtain ⟨v,b,rfl,_⟩:=h;rfl
 obtain ⟨v,out,rfl,hT,hout,q⟩:=h;refine ⟨_,af (psz 1 scTuples.nd (bd ae))
  (af (psz 2 scTuples.nd (bd (aa (pv 0) ae)))
  (af (gW A5 (mP (pv 2) (λ_=>rfl))
   (af (psz 3 scTuples.nd (oK A8 Eu Ev oX (pv 2)))
   (af (bC (dC A8 Bq Br bp (pv 1) (aa (pv 3) ae)))
   (aj (bC (dC A8 DU DV wA (pv 2) (aa (uw (pcl GI hr (aa (pv 3) ae)) (qh kT ag)) ae)))))))
  (aj (ay (pv 1))))),?_⟩
 refine ⟨iq,λp1 h1=>?_⟩;refine ⟨_,rfl,fc,λp2 h2=>?_⟩;dsimp only [xx,jR,dF,tC];have n21:p1≠p2:=λe=>by
  subst e;rw [ad]at h2;cases h2
 have h2':H p2=none:=by rw [ah (Bg n21)]at h2;exact h2
 refine ja (λσ H'=> ∃ (ws done rest:List V) (o:Option V),σ=[some v,some (.ref p1),some (.ref p2),o]/\H' p1=some (.lst done)/\H' p2=some (.lst ws.reverse)/\Same H H'/\Ts H ws rest/\done++rest=out)
  (λ_ H'=>match H' p1 with | some (.lst d)=>out.length-d.length | _=>0) ⟨[v],[],out,none,rfl,by rw [ah n21,ad],ad,(al h1 _).trans (al h2 _),hT,rfl⟩ ?_ ?_
 ·rintro σ H' ⟨ws,done,rest,o,rfl,g1,g2,sm,hW,he⟩;refine ⟨_,rfl,_,.inl ⟨ws.reverse,SqL.of g2,rfl⟩,?_⟩;have hle:done.length+rest.length=out.length:=by rw [<- he,AI]
  cases hW with
  | nil=>
   refine bt ?_;refine ⟨_,rfl,?_⟩;rw [Bh]at he;subst he;exact q _ _ sm g1
  | @cons a k r vs rest' ha hk hr3 ht=>
   have ne:(!((V.ref a::vs).reverse).isEmpty)=true:=by simp
   refine dD (λ_=>?_) (λc=>absurd ne c);rw [Fc]at g2;refine ⟨_,rfl,.inl ⟨rfl,_,SqL.of g2⟩,p2,_,.ref a,rfl,rfl,g2,by simp,?_⟩;rw [List.dropLast_concat];have l1: ∀ {c:Addr} {oo:HO},H c=some oo->c≠p1:=λh=>ai h h1;have l2: ∀ {c:Addr} {oo:HO},H c=some oo->c≠p2:=λh=>ai h h2';rw [AM]at hle;refine ⟨_,rfl,.inl ⟨rfl,_,SqL.of (show upd H' p2 (.lst vs.reverse) p1=some (.lst done) by rw [ah n21];exact g1)⟩,_,rfl,p1,done,.ref a,rfl,rfl,by rw [ah n21];exact g1,am (by lia),?_⟩;have sm1:Same H (upd (upd H' p2 (.lst vs.reverse)) p1 (.lst (done++[.ref a]))):=λc oo h=>by rw [ah (l1 h),ah (l2 h)];exact sm c oo h
   have k2:upd (upd H' p2 (.lst vs.reverse)) p1 (.lst (done++[.ref a])) p2=some (.lst vs.reverse):=by rw [ah (Bg n21),ad]
   refine ⟨_,rfl,.inl ⟨rfl,_,SqL.of k2⟩,_,rfl,a,k,r,rfl,sm1 _ _ ha,by lia,λp H3 sm4 hp=>?_⟩;have k1':H3 p1=some (.lst (done++[.ref a])):=sm4 _ _ ad;have k2':H3 p2=some (.lst vs.reverse):=sm4 _ _ k2;have hil:(bn (.str k::r)).length<=3:=by
    show (if (cg k).isSome=true then r else []).length<=3;split
    ·exact hr3
    ·exact A6 _
   refine ⟨_,rfl,p,_,rfl,rfl,SqT.of hp,λp4 h4=>?_⟩;have n41:p1≠p4:=ai k1' h4;have n42:p2≠p4:=ai k2' h4;have hlv:=ht.len;rw [AI]at hlv;refine ⟨p2,p4,_,_,rfl,rfl,by rw [ah n42];exact k2',SqT.of ad,?_,?_⟩
   ·rw [Ck,Ck];exact Bj (am (by lia))
   ·refine ⟨⟨bn (.str k::r)++vs,done++[.ref a],rest',_,rfl,by rw [ah n21,ah n41];exact k1',by rw [ad,List.reverse_append],λc oo h=>?_,ht,by rw [BD];exact he⟩,?_⟩
    ·have h3:=sm4 _ _ (sm1 c oo h);rw [ah (l2 h),ah (ai h3 h4)];exact h3
    ·rw [ah n21,ah n41,k1',g1];show out.length- (done++[V.ref a]).length<out.length-done.length;rw [AI,Cq];lia
 ·rintro σ H' Q1 Q2 hq ⟨y,e1,k,t,h⟩;exact ⟨y,e1,k,t,hq _ _ h⟩
theorem dG {J:It} {α:Type} {as:List α} {A:α->V->Prop} {xs:List V} {fr:List Nat} {te:TE} {σ:St} {H1:Hp} {Q:VK} (hn:xs.length<=1000) (hP:Paired A as xs)
  (hgo: ∀ i H,Same H1 H->i<xs.length->J.go i H) (hst: ∀ H,Same H1 H->J.stop xs.length H) (hy: ∀ i H v H',Same H1 H->J.yld i H v H'->H'=H/\xs[i]? =some v)
  (R:Hp->α->V->Prop) (mono: ∀ {H H':Hp} {a:α} {v:V},TK H H'->R H a v->R H' a v)
  (hte: ∀ a v H (k:VK),a∈as->A a v->Same H1 H->(∀ u H',Same H H'->R H' a u->k u H')->te (some v::bH fr σ) H k)
  (hd: ∀ p zs H',H1 p=none->Same H1 H'->H' p=some (.lst zs)->Paired (R H') as zs->Q (.ref p) H'):gu fr te σ J H1 Q:=by
 intro p hp;have hl:as.length=xs.length:=AZ hP;refine ⟨λi m zs H=>i<=xs.length/\m=xs.length-i/\Same H1 H/\H p=some (.lst zs)/\zs.length=i/\Paired (R H) (as.take i) zs,⟨_,A6 _,rfl,al hp _,ad,rfl,.nil⟩,?_⟩;rintro i m zs H ⟨hi,hm,sm,gp,hz,hT⟩;refine ⟨gp,?_⟩;by_cases e:i=xs.length
 ·subst e;rw [<- hl,Bc]at hT;exact .inl ⟨hst H sm,hd p zs H hp sm gp hT⟩
 ·have hlt:i<xs.length:=by lia
  refine .inr ⟨hgo i H sm hlt,am (by lia),λv H' hv=>?_⟩;obtain ⟨rfl,hv2⟩:=hy i H v H' sm hv;obtain ⟨a,ha,hA⟩:=aH hP hv2;refine hte a v _ _ (AH ha) hA sm λu H2 s2 r=>?_;have gp2:=s2 _ _ gp;have tk:TK H2 (upd H2 p (.lst (zs++[u]))):=TK.lst gp2;refine ⟨gp2,xs.length- (i+1),by lia,by lia,rfl,?_,ad,by rw [AI,hz];rfl,?_⟩
  ·intro b o hb;rw [ah (ai hb hp)];exact s2 _ _ (sm _ _ hb)
  ·rw [By,ha];exact BH (Paired.mapP hT λ_ _ r=>mono ((aq s2).trans tk) r) (mono tk r)
theorem qH {α:Type} {J:It} {as:List α} {xs:List V} {A:α->V->Prop} {fr:List Nat} {tc:TT} {te:TE} {σ:St} {H1:Hp} {Q:VK} (hn:xs.length<=1000) (hP:Paired A as xs)
  (hgo: ∀ i H,Same H1 H->i<xs.length->J.go i H) (hst: ∀ H,Same H1 H->J.stop xs.length H) (hy: ∀ i H v H',Same H1 H->J.yld i H v H'->H'=H/\xs[i]? =some v)
  (c:α->Bool) (R:Hp->α->V->Prop) (mono: ∀ {H H':Hp} {a:α} {v:V},TK H H'->R H a v->R H' a v)
  (htc: ∀ a v H (k:Bool->Hp->Prop),a∈as->A a v->Same H1 H->(∀ H',Same H H'->k (c a) H')->tc (some v::bH fr σ) H k)
  (hte: ∀ a v H (k:VK),a∈as->A a v->c a=true->Same H1 H->(∀ u H',Same H H'->R H' a u->k u H')->te (some v::bH fr σ) H k)
  (hd: ∀ p zs H',H1 p=none->Same H1 H'->H' p=some (.lst zs)->Paired (R H') (as.filter c) zs->Q (.ref p) H'):kU fr tc te σ J H1 Q:=by
 intro p hp;refine ⟨λi m zs H=>i<=xs.length/\m=xs.length-i/\Same H1 H/\H p=some (.lst zs)/\zs.length<=i/\Paired (R H) ((as.take i).filter c) zs,⟨_,A6 _,rfl,al hp _,ad,AJ _,.nil⟩,?_⟩;rintro i m zs H ⟨hi,hm,sm,gp,hz,hT⟩;refine ⟨gp,?_⟩;by_cases e:i=xs.length
 ·subst e;rw [<- AZ hP,Bc]at hT;exact .inl ⟨hst H sm,hd p zs H hp sm gp hT⟩
 ·have hlt:i<xs.length:=by lia
  refine .inr ⟨hgo i H sm hlt,am (by lia),λv H' hv=>?_⟩;obtain ⟨rfl,hv2⟩:=hy i H v H' sm hv;obtain ⟨a,ha,hA⟩:=aH hP hv2;have etk:(as.take (i+1)).filter c=(as.take i).filter c++(if c a then [a]else []):=by
   rw [By,ha,E4]
   congr 1
   show List.filter c [a]=_;by_cases hc:c a=true
   ·rw [AX hc,Cc hc];rfl
   ·rw [AQ hc,Cd hc];rfl
  refine htc a v _ _ (AH ha) hA sm λH0 s0=>?_;have sm0:=sm.trans s0;have gp0:=s0 _ _ gp;by_cases hc:c a=true
  ·rw [AX hc]at etk;rw [AX hc];refine hte a v _ _ (AH ha) hA hc sm0 λu H2 s2 r=>?_;have gp2:=s2 _ _ gp0;have tk:TK H2 (upd H2 p (.lst (zs++[u]))):=TK.lst gp2;refine ⟨gp2,xs.length- (i+1),by lia,by lia,rfl,?_,ad,by rw [AI];show zs.length+1<=i+1;lia,?_⟩
   ·intro b o hb;rw [ah (ai hb hp)];exact s2 _ _ (sm0 _ _ hb)
   ·rw [etk];exact BH (Paired.mapP hT λ_ _ r=>mono ((aq (s0.trans s2)).trans tk) r) (mono tk r)
  ·rw [AQ hc,Bh]at etk;rw [AQ hc];exact ⟨xs.length- (i+1),by lia,by lia,rfl,sm0,gp0,by lia,by rw [etk];exact Paired.mapP hT λ_ _ r=>mono (aq s0) r⟩
theorem lY {K:W.Frag} {a:Addr} {xs:List V} {H1:Hp} (ha:H1 a=some (.lst xs)): ∀ i H,Same H1 H->i<xs.length->(Itl K a).go i H:=λi H s h=>⟨xs,xs[i],SqL.of (s _ _ ha),AG h⟩
theorem lX {K:W.Frag} {a:Addr} {xs:List V} {H1:Hp} (ha:H1 a=some (.lst xs)): ∀ H,Same H1 H->(Itl K a).stop xs.length H:=λH s=>⟨xs,SqL.of (s _ _ ha),AJ _⟩
theorem pi {K:W.Frag} {a:Addr} {xs:List V} {H1:Hp} (ha:H1 a=some (.lst xs)): ∀ i H v H',Same H1 H->(Itl K a).yld i H v H'->H'=H/\xs[i]? =some v:=λi H v H' s hv=>⟨hv.1,by obtain ⟨rfl,hv⟩:=hv;exact hv xs (SqL.of (s _ _ ha))⟩
theorem fY {K:W.Frag} {a:Addr} {xs:List V} {H1:Hp} (ha:H1 a=some (.tup xs)): ∀ i H,Same H1 H->i<xs.length->(Itt K a).go i H:=λi H s h=>⟨xs,xs[i],SqT.of (s _ _ ha),AG h⟩
theorem fX {K:W.Frag} {a:Addr} {xs:List V} {H1:Hp} (ha:H1 a=some (.tup xs)): ∀ H,Same H1 H->(Itt K a).stop xs.length H:=λH s=>⟨xs,SqT.of (s _ _ ha),AJ _⟩
theorem iB {K:W.Frag} {a:Addr} {xs:List V} {H1:Hp} (ha:H1 a=some (.tup xs)): ∀ i H v H',Same H1 H->(Itt K a).yld i H v H'->H'=H/\xs[i]? =some v:=λi H v H' s hv=>⟨hv.1,by obtain ⟨rfl,hv⟩:=hv;exact hv xs (SqT.of (s _ _ ha))⟩
theorem kl {α:Type} {g:α->V}: ∀ {l:List α} {zs:List V},Paired (λa v=>v=g a) l zs->zs=l.map g
 | _,_,.nil=>rfl
 | _,_,.cons h t=>by rw [h,kl t];rfl
noncomputable def eG:Fm->Str
 | .num _=>"num"
 | .own _=>"own"
 | .part _ _=>"part"
 | .bin op _ _=>op
 | .whn _ _ _=>"when"
theorem gU {H:Hp} {g:Fm} {u:V} (h:Rep H g u): ∃ a r,u=.ref a/\H a=some (.tup (.str (eG g)::r)):=by
 cases g with
 | num n=>obtain ⟨a,e,h⟩:=h;exact ⟨a,_,e,h⟩
 | own x=>obtain ⟨a,e,h⟩:=h;exact ⟨a,_,e,h⟩
 | part k x=>obtain ⟨a,e,h⟩:=h;exact ⟨a,_,e,h⟩
 | bin op x y=>obtain ⟨a,_,_,e,h,_⟩:=h;exact ⟨a,_,e,h⟩
 | whn x y z=>obtain ⟨a,_,_,_,e,h,_⟩:=h;exact ⟨a,_,e,h⟩
theorem eF (x:Str): ∀ {xs:List Str},inV (.str x) (xs.map V.str)=decide (x∈xs)
 | []=>(AW (by simp)).symm
 | b::r=>by
  have e:inV (.str x) ((b::r).map V.str)=(eqV (.str b) (.str x)||inV (.str x) (r.map V.str)):=rfl;rw [e,eF x (xs:=r)];by_cases h:b=x
  ·rw [AO (show x∈b::r by rw [h];exact A3)];simp [eqV,h]
  ·have:(x∈b::r)↔x∈r:=by rw [AY];exact ⟨λz=>z.elim (λe=>absurd e.symm h) id,.inr⟩
   rw [show decide (x∈b::r)=decide (x∈r)from DF.mpr this];have:(b==x)=false:=by
    cases hh:(b==x)with
    | false=>rfl
    | true=>exact absurd (eq_of_beq hh) h
   simp [eqV,this]
theorem bq: ∀ {xs:List Str},(xs.map V.str).all dS=true
 | []=>rfl
 | b::r=>by rw [BM,Fh,bq (xs:=r)];rfl
theorem wN {d:Addr} {o:Obj} {kvs:List (List Key×V)} {H1:Hp} (h:H1 d=some (.frz o (.dT kvs))): ∀ i H,Same H1 H->i< (kvs.map (·.2)).length->(Itj d o).go i H:=λi H s hi=>by
 rw [AD]at hi;exact ⟨kvs,kvs[i],s _ _ h,AG hi⟩
theorem wM {d:Addr} {o:Obj} {kvs:List (List Key×V)} {H1:Hp} (h:H1 d=some (.frz o (.dT kvs))): ∀ H,Same H1 H->(Itj d o).stop (kvs.map (·.2)).length H:=λH s=>⟨kvs,s _ _ h,by rw [AD]⟩
theorem yl {d:Addr} {o:Obj} {kvs:List (List Key×V)} {H1:Hp} (h:H1 d=some (.frz o (.dT kvs))): ∀ i H v H',Same H1 H->(Itj d o).yld i H v H'->H'=H/\(kvs.map (·.2))[i]? =some v:=λi H v H' s hv=>⟨hv.1,hv.2 kvs (s _ _ h)⟩
theorem wY (x:V) (r:List V):db (x::r) (some 1) none=r:=by
 have e1:HT.sIx (x::r).length 0 (some 1)=1:=by
  have:HT.sIx (x::r).length 0 (some 1)=min 1 (x::r).length:=HT.sIx_nat _ _ 1;rw [this,AM];lia
 unfold db;rw [e1,HT.sIx_none,AM,List.drop_one,List.tail_cons,Nat.add_sub_cancel,Bc]
theorem rZ (x:V) (r:List V): ¬ (HT.sIx (x::r).length 0 (some 1)=0/\HT.sIx (x::r).length (x::r).length none=(x::r).length):=by
 rintro ⟨h1,_⟩;have:HT.sIx (x::r).length 0 (some 1)=min 1 (x::r).length:=HT.sIx_nat _ _ 1;rw [this,AM]at h1;lia
theorem sH {J:It} {n:Nat} {fr:List Nat} {te:TE} {σ:St} {H1:Hp} {Q:VK} {pl:Addr} {rest top:List V} (hn:n<=1000) (ht:top.length=n) (gpl:H1 pl=some (.lst (rest++top.reverse)))
  (hgo: ∀ i H,Kp pl H1 H->i<n->J.go i H) (hst: ∀ H,Kp pl H1 H->J.stop n H) (hy: ∀ i H v H',J.yld i H v H'->H'=H)
  (hte: ∀ x H (k:VK) xs y,H pl=some (.lst xs)->xs[xs.length-1]? =some y->k y (upd H pl (.lst xs.dropLast))->te (some x::bH fr σ) H k)
  (hd: ∀ p H',H1 p=none->Kp pl H1 H'->H' pl=some (.lst rest)->H' p=some (.lst top)->Q (.ref p) H'):gu fr te σ J H1 Q:=by
 intro p hp;have npl:pl≠p:=λz=>by rw [<- z,gpl]at hp;cases hp
 refine ⟨λi m ys H=>i<=n/\m=n-i/\Kp pl H1 H/\ys=top.take i/\H p=some (.lst ys)/\H pl=some (.lst (rest++(top.drop i).reverse)),⟨_,A6 _,rfl,Kp.refl.new hp,rfl,ad,by rw [ah npl];exact gpl⟩,?_⟩;rintro i m ys H ⟨hi,hm,kp,rfl,gp,gl⟩;refine ⟨gp,?_⟩;by_cases e:i=n
 ·subst e;rw [<- ht,List.drop_length,List.reverse_nil,Bh]at gl;rw [<- ht,Bc]at gp;exact .inl ⟨hst H kp,hd p H hp kp gl gp⟩
 ·have hlt:i<n:=by lia
  have hx:top[i]? =some (top[i]'(by lia)):=AG (by lia);refine .inr ⟨hgo i H kp hlt,am (by rw [A4];lia),λv H' hv=>?_⟩;cases hy i H v H' hv;have ed:rest++(top.drop i).reverse=(rest++(top.drop (i+1)).reverse)++[top[i]'(by lia)]:=by
   rw [BR (by lia),Fc,BD]
  rw [ed]at gl;refine hte v H _ _ (top[i]'(by lia)) gl (by simp) ?_;rw [List.dropLast_concat];refine ⟨by rw [ah (Bg npl)];exact gp,n- (i+1),by lia,by lia,rfl,?_,?_,ad,by rw [ah npl,ad]⟩
  ·intro b o hb hne;rw [ah (ai hb hp),ah hne];exact kp b o hb hne
  ·rw [By,hx];rfl
theorem Kp.tkL {tp:Addr} {H H':Hp} {xs:List V} (a:Kp tp H H') (t:H tp=some (.lst xs)):TK H H':=λb ys h=>a b _ h λe=>by
 rw [e,t]at h;cases h
end My
namespace L2
open PySem PySem.Spec PyProof.Rows
def mi (P:Program) (w:World) (K:W.Frag) (mg:Str->Option Value) (base:Heap) (k:Nat) (fl:Addr) (sp:Sp):Prop:=
 (∃ o fd,base.get? fl=some o/\o.data=.func fd)/\
 ∀ (X:Cx) (pins:List (Addr×Obj)) (σ:St) (H:Hp) (s:Shared) (us:List Value) (vs:List V) (Q:VK),X.prog=P->X.w=w->X.K=K->X.mg=mg->X.base=base->Room k X.A->Inv X pins σ H s->Vals vs us->sp vs H Q E0->
  wpAny (model P w) X.A (call (.ref fl) us) (EP X pins σ Q) X.xe s
def xE (i:Nat) (fl:Addr) (sp:Sp) (t:TA):TE:=λσ H Q=>σ[i]? =some (some (.ref fl))/\t σ H λvs H1=>sp vs H1 Q E0
theorem uu {X:Cx} {k i:Nat} {fl:Addr} {sp:Sp} {x:Str} {p pos:Pos} {e:Expr} {es:List Expr} {t:TA} (hT:mi X.prog X.w X.K X.mg X.base k fl sp) (hr:Room k X.A) (hN:X.N[i]? =some x) (hv:Vis X.env.scope x) (ha:PA X (e::es) t)
  (hdb:(x==("__debug__":Str))=false:=by decide) (hcd:(x==("__classdict__":Str))=false:=by decide) (he:starEach (e::es) X.env=(false,eval e X.env)::starEach es X.env:=by rfl) (hpl:(backTo pos (starEach es X.env)).any (·.1)=false:=by rfl):
  PE X (.Call (.Name x p) (e::es) [] pos) (xE i fl sp t):=by
 intro pins s σ H Q I h;obtain ⟨e0,h⟩:=h;obtain ⟨⟨o,fd,ho,hd⟩,run⟩:=hT;obtain ⟨c,d,dt,sl⟩:=o;simp only at hd;subst hd;refine Cu (thn (uk hN hv hdb hcd pins s σ H (λv H'=>v=.ref fl/\H'=H) I ⟨_,e0,rfl,rfl⟩) λu s1 ⟨v,H1,I1,r1,ev,eH⟩=>?_);subst ev eH;cases r1;have kin: ∀ {h':Heap},(∀ b ob,X.base.get? b=some ob->h'.get? b=some ob)->W.Frag.In [(fl,⟨c,d,.func fd,sl⟩)] h':=λhk a ob el=>by
  by_cases ea:a=fl
  ·subst ea;simp at el;rw [<- el];exact hk _ _ ho
  ·rw [Ex,B2.mpr ea]at el;cases el
 refine Di (K:=[(fl,⟨c,d,.func fd,sl⟩)]) (h₀:=X.base) (kin λ_ _ z=>z) (by simp [W.keepIn]) (thn (ha pos pins s1 σ H1 _ I1 h) λus s2 ⟨vs,H2,I2,r2,q2⟩=>⟨kin I2.bk,?_⟩) he hpl;exact run X pins σ H2 s2 us vs Q rfl rfl rfl rfl rfl hr I2 r2 q2
structure nL (ps ys:List Str) (sc:Scope):Prop where
 kind:sc.kind=.function
 co:sc.isCoroutine=false
 gen:sc.isGenerator=false
 nd:(ps++ys).Nodup
 par: ∀ x∈ps,sc.names.lookup x=some .local
 fre: ∀ y∈ys,sc.names.lookup y=some .free
 has: ∀ y∈sc.names,y.2=.free->y.1∈ys
 nocell: ∀ y∈sc.names,y.2≠ .cell
noncomputable def xq (P:Program) (w:World) (K:W.Frag) (mg:Str->Option Value) (base:Heap) (N:List Str) (qual:Str) (scope:Scope) (fl:Addr) (cd:Value) (cl:List (Str×Addr)) (A:Around) (outer:List Env) (s:Shared) (H:Hp):Cx where
 prog:=P
 w:=w
 K:=K
 mg:=mg
 base:=base
 A:=A.deeper (W.envX qual scope s.heap.objs.size fl cd cl)
 N:=N
 s₀:=s
 H₀:=H
 env:=W.envX qual scope s.heap.objs.size fl cd cl
 outer:=outer
 stack:=W.envX qual scope s.heap.objs.size fl cd cl::outer
 ex:=[]
 calm:=true
 fn:=λ_=>false
 pn:=[]
 xe:=λ_ _=>False
theorem hV {α β:Type} [BEq α] [LawfulBEq α] {k:α} {v:β}: ∀ {l:List (α×β)},(l.map (·.1)).Nodup->(k,v)∈l->l.lookup k=some v
 | [],_,h=>by cases h
 | (a,b)::r,nd,h=>by
  rw [BM,BG]at nd;rw [Ex];rcases AY.mp h with e | e
  ·cases e;simp
  ·have ne:(k==a)=false:=B2.mpr λz=>nd.1 (by rw [<- z];exact AK.mpr ⟨(k,v),e,rfl⟩);rw [ne];exact hV nd.2 e
theorem i8 {ps:List Str} {us:List Value} {i:Nat} {x:Str} {u:Value} (nd:ps.Nodup) (h1:ps[i]? =some x) (h2:us[i]? =some u):(ps.zip us).reverse.lookup x=some u:=by
 refine hV ?_ (List.mem_reverse.mpr (Cr.mpr ⟨i,by rw [Cp];exact ⟨h1,h2⟩⟩));rw [List.map_reverse];refine List.pairwise_reverse.mpr (List.Pairwise.imp (λh=>Bg h) (show List.Pairwise (· ≠ ·) _ from ?_));have:(ps.zip us).map (·.1)=ps.take us.length:=by
  clear nd h1 h2;induction ps generalizing us with
  | nil=>simp
  | cons p r ih=>
   cases us with
   | nil=>simp
   | cons w t=>simp [ih]
 rw [this];exact nd.sublist (Dx _ _)
theorem x0 {P:Program} {w:World} {K:W.Frag} {mg:Str->Option Value} {base:Heap} {k:Nat} {fl c':Addr} {nm qual:Str} {params:Arguments} {body:Expr} {scope:Scope} {cl:List (Str×Addr)} {pm ctv:Value} {oc:Obj} {vc:Array Value} {tq:Tok}
  {ps ys:List Str} {cs:List V} {sp:Sp}
  (hfl:base.get? fl=some (W.kla_obj nm qual params body scope cl pm c' ctv)) (hoc:oc.data=.fields vc) (hq:vc[1]? =some (.str qual tq)) (S:nL ps ys scope)
  (hcell: ∀ x c,cl.lookup x=some c-> ∃ v,base.IsCell c v) (hinj: ∀ x y c,cl.lookup x=some c->cl.lookup y=some c->x=y)
  (hcap: ∀ (j:Nat) (y:Str),ys[j]? =some y-> ∃ c v u,cs[j]? =some v/\cl.lookup y=some c/\base.IsCell c (some u)/\RelV v u) (hcs:cs.length=ys.length)
  (bind: ∀ us:List Value,us.length=ps.length->bindArgs (W.kla_fn nm qual params body scope cl pm (.ref c') ctv) ⟨us,[]⟩=pure (ps.zip us))
  (len: ∀ vs H Q,sp vs H Q E0->vs.length=ps.length) (hH: ∀ vs H Q,sp vs H Q E0->H c'=some (.ext λh=>h.get? c'=some oc))
  (hE: ∀ (A:Around) (outer:List Env) (s:Shared) (H:Hp) (vs:List V) (Q:VK),Room k (A.deeper (W.envX qual scope s.heap.objs.size fl (.ref c') cl))->sp vs H Q E0->
   ∃ t,PE (xq P w K mg base (ps++ys) qual scope fl (.ref c') cl A outer s H) body t/\t (vs.map some++cs.map some) H Q):mi P w K mg base (k+1) fl sp:=by
 refine ⟨⟨_,_,hfl,rfl⟩,λX pins σ H s us vs Q hP hw hK hm hb hr I r h=>?_⟩;subst hP hw hK hm hb;have hlv:=len vs H Q h;have hlu:us.length=ps.length:=by rw [<- r.length];exact hlv
 have hc':s.heap.get? c'=some oc:=(show ObjOk X.prog X.w H s.heap c' (.ext λh=>h.get? c'=some oc)from I.hok c' _ (hH vs H Q h)).1;obtain ⟨t,hPE,ht⟩:=hE X.A X.stack s H vs Q (hr.deeper _) h;refine Dg (Dh (R:=CR CX0 X.stack X.prog X.w H s Q E0) (W.kla_callFunE hr.depth (I.bk _ _ hfl) rfl S.co S.gen rfl ⟨c',oc,vc,tq,rfl,hc',hoc,hq⟩ ?_) λrr s' hq'=>?_)
 ·rw [bind us hlu];refine AB (DB S.nocell (λx hx=>S.par _ (EI hx).1) (λh₁ hns hsb=>?_) S.kind);have hk: ∀ b o,s.heap.get? b=some o->h₁.get? b=some o:=λb o e=>hsb.extBut b o (Bf (AN e)) (AC _ e);refine ⟨I.nolimit.keeps hk,?_⟩;show codeAny _ _ (.expr body (W.envX qual scope s.heap.objs.size fl (.ref c') cl)) _ _;refine W.kla_codeExpr ?_;have hcl: ∀ x c,cl.lookup x=some c->H c=none/\ ∃ v,h₁.IsCell c v:=λx c e=>by
   obtain ⟨v,o,ho,hd⟩:=hcell x c e;obtain ⟨e1,e2⟩:=I.bs c o ho;exact ⟨e2,v,o,hk _ _ e1,hd⟩
  have IY:Inv (xq X.prog X.w X.K X.mg X.base (ps++ys) qual scope fl (.ref c') cl X.A X.stack s H) [] (vs.map some++cs.map some) H {s with heap:=h₁,toks:=s.toks+ (ps.zip us).length}:=by
   have noA: ∀ b:Addr,b∉([]:List Addr):=λb z=>by cases z
   refine ⟨⟨I.ok.mod,S.kind,rfl,rfl,AJ _,hinj,λy hy=>?_,λy c hf _=>(by cases hf),λ_=>hr.hd,Around.frames_deeper I.ok.frames,.inr ⟨rfl,rfl⟩,λb z=>absurd z (noA b),I.bs,Bm I.ok.bsz I.sz,λb _ _=>noA b,λb z=>absurd z (noA b),I.stack,I.stkFree⟩,
    rfl,I.bare,Un.kept hk,⟨_,hns,λi y v h1 h2 h3=>?_⟩,λy c e=>(hcl y c e).2,I.hok.fresh (AJ _),λy c e=>(hcl y c e).1,λp hp=>absurd (show p∈([]:List (Addr×Obj))from hp) (by simp),I.hok.kept hk,?_⟩
   ·have hy': ∃ kd,scope.names.lookup y=some kd/\(kd=.cell\/kd=.free):=by
     rcases hy with z | z
     ·exact ⟨_,z,.inl rfl⟩
     ·exact ⟨_,z,.inr rfl⟩
    obtain ⟨kd,hl,hkd⟩:=hy';have hmem:=L2.mem_of_lookup hl;rcases hkd with z | z
    ·exact absurd z (S.nocell _ hmem)
    ·obtain ⟨j,hj⟩:=Cr.mp (S.has _ hmem z);obtain ⟨c,_,_,_,e,_⟩:=hcap j y hj;exact ⟨c,e⟩
   ·have h1':(ps++ys)[i]? =some y:=h1;by_cases hi:i<ps.length
    ·rw [Bu hi]at h1';rw [Bu (by rw [AD,hlv];exact hi),AS]at h2;cases hv:vs[i]? with
     | none=>rw [hv]at h2;cases h2
     | some v0=>
      rw [hv]at h2;cases h2;obtain ⟨u,hu,ru⟩:=r.get hv;refine ⟨u,ru,.inl ⟨S.par y (AH h1'),i8 (B6.mp S.nd).1 h1' hu⟩⟩
    ·rw [Bx (by lia)]at h1';rw [Bx (by rw [AD,hlv];lia),AS,AD,hlv]at h2;obtain ⟨c,v0,u,e1,e2,e3,e4⟩:=hcap _ y h1';rw [e1]at h2;cases h2;obtain ⟨o,ho,hd⟩:=e3;exact ⟨u,e4,.inr ⟨.inr (S.fre y (AH h1')),c,e2,o,hk _ _ (I.bk _ _ ho),hd⟩⟩
   ·show (vs.map some++cs.map some).length=(ps++ys).length;rw [AI,AI,AD,AD,hlv,hcs]
  refine BS (hPE [] _ _ H Q IY ht) (λu s' ⟨v,H',J,rv,q⟩=>⟨v,H',J.os,J.bare,J.base,J.hok,rv,q⟩) λ_ _ z=>z.elim
 ·cases rr with
  | error e=>exact hq'.elim
  | ok f0=>
   cases f0 with
   | ret u=>exact I.after hq'
   | next=>exact False.elim hq'
   | brk=>exact False.elim hq'
   | cont=>exact False.elim hq'
section
variable {X:Cx} {pins:List (Addr×Obj)} {σ:St} {H:Hp} {s:Shared}
noncomputable def eX (X:Cx) (H:Hp) (s:Shared):Heap:=W.hideAll s.heap (trk s.heap H++frs X.stack)
theorem gJ {b:Addr} {o:Obj} (e:s.heap.get? b=some o) (n:H b=none) (nf:b∉frs X.stack):(eX X H s).get? b=some o:=
 W.hideAll_get _ e λhm=>by
  rcases AT.mp hm with z | z
  ·have q:(H b).isSome=true:=(BL.mp z).2;rw [n]at q;simp at q
  ·exact nf z
theorem rY {b:Addr} {o:Obj} (e:(eX X H s).get? b=some o):s.heap.get? b=some o/\H b=none:=by
 have e1:=W.of_hideAll _ e;refine ⟨e1,?_⟩;cases q:H b with
 | none=>rfl
 | some u=>
  have hm:b∈trk s.heap H++frs X.stack:=Bo _ (BL.mpr ⟨Dd.mpr (AN e1),by rw [q];rfl⟩);rw [show (eX X H s).get? b=none from EB _ hm]at e;cases e
theorem qu {h b1 b2:Heap}: ∀ {l:List Env},h.FunFrames b1 l->(∀ b∈frs l,b2.get? b=none)->h.FunFrames b2 l
 | [],_,_=>trivial
 | env::r,⟨hk,⟨L,o,hf,_,ho,hd⟩,hr⟩,hn=>by
  have hL:L∈frs (env::r):=by unfold frs;rw [BA,hf];exact A3
  exact ⟨hk,⟨L,o,hf,hn L hL,ho,hd⟩,qu hr λb hb=>hn b (by unfold frs;rw [BA,hf];exact A2 _ hb)⟩
theorem Inv.nostk (I:Inv X pins σ H s) {b:Addr} {o:Obj} (e:X.base.get? b=some o):b∉frs X.stack:=λhb=>by
 have:=(I.stack.mem hb).1;rw [e]at this;cases this
theorem Inv.inB (I:Inv X pins σ H s): ∀ b o,X.base.get? b=some o->(eX X H s).get? b=some o:=λb o e=>gJ (I.bs b o e).1 (I.bs b o e).2 (I.nostk e)
theorem Inv.envB (I:Inv X pins σ H s):Env0 X.prog X.w X.K X.mg (eX X H s) X.A X.stack s H:=
 ⟨I.ok.frames,⟨I.mod.kin.keeps I.inB,I.mod.glob.keeps I.inB,let ⟨mb,h1,h2⟩:=I.mod.blt;⟨mb,h1.keeps I.inB,h2⟩,I.mod.nolimit.keeps I.inB⟩,λb o e=>rY e,Nat.le_of_eq (W.hideAll_size _ _),
  qu I.stack λb hb=>EB _ (AV _ hb),I.stkFree,I.hok,I.bare⟩
theorem vY {k:Nat} {f:Addr} {fd:FuncData} {ps:List Str} {sp:Sp} {Q:VK} {us:List Value} {vs:List V} (F:a8 X.prog X.w X.K X.mg (eX X H s) CX0 k f fd ps sp) (hr:Room k X.A) (hb:Binds X.K fd ps [])
  (I:Inv X pins σ H s) (r:Vals vs us) (h:sp vs H Q E0):wpAny (model X.prog X.w) X.A (call (.ref f) us) (EP X pins σ Q) X.xe s:=by
 have hl:(us++[]).length=ps.length:=by rw [Bh,<- r.length];exact F.len _ _ _ _ h
 have hbd:=hb s us I.kIn hl;rw [Bh]at hbd;refine Dg (Dh (F.run X.A X.stack s H ⟨us,[]⟩ us vs Q E0 hr I.envB hbd r h) λrr s' hq=>?_);cases rr with
 | error e=>exact hq.elim
 | ok f0=>
  cases f0 with
  | ret u=>exact I.after hq
  | next=>exact False.elim hq
  | brk=>exact False.elim hq
  | cont=>exact False.elim hq
end
def qN (base:Heap) (cl:List (Str×Addr)) (ys:List Str) (cs:List V) (fl c':Addr) (nm qual:Str) (params:Arguments) (body:Expr) (scope:Scope):Prop:=
 (∃ pm ctv,base.get? fl=some (W.kla_obj nm qual params body scope cl pm c' ctv))/\(∀ x c,cl.lookup x=some c-> ∃ v,base.IsCell c v)/\(∀ x y c,cl.lookup x=some c->cl.lookup y=some c->x=y)/\
 (∀ (j:Nat) (y:Str),ys[j]? =some y-> ∃ c v u,cs[j]? =some v/\cl.lookup y=some c/\base.IsCell c (some u)/\RelV v u)/\cs.length=ys.length
structure pO (sc0:Scope) (N:List Str) (scope:Scope) (ys:List Str) (fr:List Nat):Prop where
 free: ∀ y∈scope.names,y.2=.free->sc0.names.lookup y.1=some .cell
 len:ys.length=fr.length
 sl: ∀ q∈ys.zip fr,N[q.2]? =some q.1/\sc0.names.lookup q.1=some .cell/\(q.1,NameKind.free)∈scope.names
noncomputable def gm (c':Addr) (oc:Obj):HO:=.ext λh=>h.get? c'=some oc
def i7 (oc:Obj) (qual:Str):Prop:= ∃ vc tq,oc.data=.fields vc/\vc[1]? =some (.str qual tq)
def tE (qual:Str) (cl:List (Str×Addr)) (Pt:Addr) (lpos:Pos) (scope:Scope) (params:Arguments) (body:Expr) (ys:List Str) (fr:List Nat) (spF:Heap->Sp) (te:TE):TE:=λσ H Q=>te σ H λv H1=>
 ∃ (ps:Array Value) (cs:List V),H1 Pt=some (.tbl ps)/\TriplesOk ps.toList/\bH fr σ=cs.map some/\
  ((codeAmong lpos ps.toList=none/\ ∀ fl c' oc base,H1 c'=none->c'≠Pt->i7 oc qual->qN base cl ys cs fl c' "<lambda>" qual params body scope->
    spF base [v,.ref fl] (upd (upd H1 Pt (.tbl (ps++ #[rawInt lpos.line,rawInt lpos.col,.ref c']))) c' (gm c' oc)) Q E0)\/
   ∃ c' oc,codeAmong lpos ps.toList=some (.ref c')/\H1 c'=some (gm c' oc)/\i7 oc qual/\ ∀ fl base,qN base cl ys cs fl c' "<lambda>" qual params body scope->spF base [v,.ref fl] H1 Q E0)
section
variable {X:Cx} {pins:List (Addr×Obj)} {σ:St} {H:Hp} {s:Shared}
theorem uW {ys:List Str} {fr:List Nat} {cs:List V} {scope:Scope} {fl c':Addr} {nm qual:Str} {params:Arguments} {body:Expr} {pm ctv:Value} (I:Inv X pins σ H s) (ok:pO X.env.scope X.N scope ys fr) (hcs:bH fr σ=cs.map some)
  (hfl:s.heap.get? fl=some (W.kla_obj nm qual params body scope (bO X.env.cells scope.names) pm c' ctv)) (nfl:H fl=none) (nof1:fl∉frs X.stack) (hfn: ∀ x,X.fn x=true):
  qN (eX X H s) (bO X.env.cells scope.names) ys cs fl c' nm qual params body scope:=by
 have nocell: ∀ {x:Str} {c:Addr},X.env.cells.lookup x=some c->c∉frs X.stack:=λ{x c} e hm=>by
  rcases AY.mp (I.stkSub c hm)with z | z
  ·exact I.cne x c e z
  ·obtain ⟨_,o,ho,_⟩:=I.ok.funs.mem z;exact absurd (Bl (AN ho) (I.ok.cab x c (hfn x) e)) (CN _)
 have cellB: ∀ x c v,X.env.cells.lookup x=some c->s.heap.IsCell c v->(eX X H s).IsCell c v:=λx c v e hc=>by
  have nf:=nocell e;obtain ⟨o,ho,hd⟩:=hc;exact ⟨o,gJ ho (I.freeC x c e) nf,hd⟩
 refine ⟨⟨pm,ctv,gJ hfl nfl nof1⟩,λx c e=>?_,λx y c e1 e2=>I.ok.inj x y c (bN e1) (bN e2),λj y hj=>?_,?_⟩
 ·have e':=bN e;obtain ⟨v,hv⟩:=I.cell x c e';exact ⟨v,cellB x c v e' hv⟩
 ·have hjl:j<fr.length:=by rw [<- ok.len];exact (AF.mp hj).1
  have hi0:fr[j]? =some fr[j]:=AG hjl;have hz:(y,fr[j])∈ys.zip fr:=Cr.mpr ⟨j,by rw [Cp];exact ⟨hj,hi0⟩⟩;obtain ⟨hn,hk,hm⟩:=ok.sl _ hz;have hc0:(bH fr σ)[j]? =some ((σ[fr[j]]?).join):=by unfold bH;rw [AS,hi0];rfl
  rw [hcs,AS]at hc0;cases hcj:cs[j]? with
  | none=>rw [hcj]at hc0;cases hc0
  | some v=>
   rw [hcj]at hc0;have hσ:σ[fr[j]]? =some (some v):=by
    cases e:σ[fr[j]]? with
    | none=>rw [e]at hc0;cases hc0
    | some o=>rw [e]at hc0;rw [show o=some v from (A0 hc0).symm]
   obtain ⟨m,_,hl⟩:=I.loc;obtain ⟨u,ru,lk⟩:=hl _ y v hn hσ (.inr (.inl hk));rcases lk with ⟨a,_⟩ | ⟨_,c,hc,hcell⟩
   ·have a':X.env.scope.names.lookup y=some .local:=a;rw [show X.env.scope.names.lookup y=some .cell from hk]at a';cases a'
   ·exact ⟨c,v,u,rfl,cE hc hm,cellB y c _ hc hcell,ru⟩
 ·have:=congrArg List.length hcs;unfold bH at this;rw [AD,AD]at this;rw [ok.len];exact this.symm
theorem oJ {k:Nat} {f c Pt:Addr} {fd:FuncData} {p1 p2 x:Str} {spF:Heap->Sp} {e body:Expr} {te:TE} {params:Arguments} {scope:Scope} {lpos p pos:Pos} {ys:List Str} {fr:List Nat}
  (F: ∀ base,a8 X.prog X.w X.K X.mg base CX0 k f fd [p1,p2] (spF base)) (hr:Room k X.A) (hg:Gl X x) (hm:X.mg x=some (.ref f)) (hk:W.keepIn X.K (.ref f)=true) (hb:Binds X.K fd [p1,p2] [])
  (he:PE X e te) (hC:W.CodeHd X.base c Pt) (hcode:X.env.code=.ref c) (hB:X.base.BuiltinsAt X.mg Pt) (ok:pO X.env.scope X.N scope ys fr) (hfn: ∀ x,X.fn x=true) (hdef:defaultsOf params X.env=([],[]))
  (hdb:(x==("__debug__":Str))=false:=by decide) (hs:starEach [e,.Lambda params body scope lpos] X.env=(false,eval e X.env)::starEach [.Lambda params body scope lpos] X.env:=by rfl)
  (hs2:starEach [.Lambda params body scope lpos] X.env=(false,eval (.Lambda params body scope lpos) X.env)::starEach [] X.env:=by rfl) (hpl:(backTo pos (starEach [.Lambda params body scope lpos] X.env)).any (·.1)=false:=by rfl):
  PE X (.Call (.Name x p) [e,.Lambda params body scope lpos] [] pos) (tE (X.env.qual++"<lambda>") (bO X.env.cells scope.names) Pt lpos scope params body ys fr spF te):=by
 intro pins s σ H Q I h;refine Cu (dR I hg hm ?_ hdb);refine Di (h₀:=X.base) I.ok.mod.kin hk ?_ hs hpl;rw [hs];show wpAny _ _ (spliced ((false,eval e X.env)::backTo pos (starEach [.Lambda params body scope lpos] X.env))) _ _ s;refine CS (thn (he pins s σ H _ I h) λu s1 ⟨v,H1,I1,r1,ps,cs,hP,ht,hcs,q⟩=>?_);rw [hs2];show wpAny _ _ (spliced ((false,eval (.Lambda params body scope lpos) X.env)::backTo pos (starEach [] X.env))) _ _ s1;have hcl:closureFor scope X.env=pure (bO X.env.cells scope.names):=cX λy hy z=>I.ok.has y.1 (.inl (ok.free y hy z));have hPs:s1.heap.get? Pt=some (W.tabObj ps):=(show ObjOk X.prog X.w H1 s1.heap Pt (.tbl ps)from I1.hok Pt _ hP);have nP: ∀ {b:Addr},H1 b=none->b≠Pt:=λhn z=>by rw [z,hP]at hn;cases hn
 have hgP:mainGlobals≠Pt:=by
  obtain ⟨o,es,ep,ho,_⟩:=I1.mod.glob;exact nP (I1.bs _ _ ho).2
 have hB1:s1.heap.BuiltinsAt X.mg Pt:=by
  obtain ⟨bm,o,b1,b2,b3,b4,b5,b6⟩:=hB;exact ⟨bm,o,b1,b2,b3,b4,I1.bk _ _ b5,b6⟩
 have fin: ∀ {fl:Addr} {s2:Shared} {H2:Hp} (I2:Inv X pins σ H2 s2),spF (eX X H2 s2) [v,.ref fl] H2 Q E0->X.K.In s2.heap/\wpAny (model X.prog X.w) X.A (call (.ref f) ([]++[u,.ref fl])) (EP X pins σ Q) X.xe s2:=λ{fl s2 H2} I2 hq=>
  ⟨I2.kIn,vY (vs:=[v,.ref fl]) (F _) hr hb I2 (.cons r1 (.cons (show RelV (.ref fl) (.ref fl)from rfl) .nil)) hq⟩
 refine CS (W.kla_eval hdef ?_);rcases q with ⟨hnf,q⟩ | ⟨c',oc,hf,hc',hoc,q⟩
 ·refine W.kla_makeFunction (mg:=X.mg) hcl I1.ok.glob (I1.mod.glob.keeps I1.bk) hcode (hC.keeps I1.bk) hPs ht hnf hgP hB1 λc' ctv h' tk hx hge hlt hrec htb=>?_;obtain ⟨c2,oc,vc,tq,e2,hoc,hd,hq1⟩:=hrec;cases e2;have nc:H1 c'=none:=I1.hok.fresh hge;have ncP:c'≠Pt:=λz=>by rw [z,hP]at nc;cases nc
  have old: ∀ b o,b≠Pt->s1.heap.get? b=some o->(h'.push (W.kla_obj "<lambda>" (X.env.qual++"<lambda>") params body scope (bO X.env.cells scope.names) ((X.mg "__name__").getD .none) c' ctv)).get? b=some o:=λb o hb eo=>AC _ (hx b o hb eo);have lt: ∀ {b:Addr} {o:Obj},s1.heap.get? b=some o->b≠c':=λeo z=>absurd (AN eo) (by rw [z];exact C7.mpr hge);have I2:Inv X pins σ (upd (upd H1 Pt (.tbl (ps++ #[rawInt lpos.line,rawInt lpos.col,.ref c']))) c' (gm c' oc)) {s1 with heap:=h'.push (W.kla_obj "<lambda>" (X.env.qual++"<lambda>") params body scope (bO X.env.cells scope.names) ((X.mg "__name__").getD .none) c' ctv),toks:=tk}:=by
   have up: ∀ {b:Addr} {oo:HO},H1 b=some oo->b≠Pt->(upd (upd H1 Pt (.tbl (ps++ #[rawInt lpos.line,rawInt lpos.col,.ref c']))) c' (gm c' oc)) b=some oo:=λeo hb=>by rw [ah (ai eo nc),ah hb];exact eo
   have nt: ∀ {b:Addr} {oo:HO},H1 b=some oo->oo≠ .tbl ps->b≠Pt:=λeo hne z=>by rw [z,hP]at eo;exact hne (A0 eo).symm
   refine I1.step (g':=s1.gens) (d':=s1.drawn) (ch:=[]) (λb hb=>by cases hb) (λb o _ _ _ eo n=>old b o (nP n) eo) (λb o _ _ _ eo n=>⟨o.slots,old b o (nP n) eo⟩) (λb o _ eo n=>by rw [ah (lt eo),ah (nP n)];exact n)
    (λb o _ eo=>?_) (λb xs eo=>up eo (nt eo (by simp))) (λb o uo eo=>up eo (nt eo (by simp))) (λb qs eo=>?_) (λm hm=>?_) (λb oo eo=>?_) I1.bare
   ·by_cases hb:b=Pt
    ·subst hb;exact ⟨_,AC _ htb⟩
    ·exact ⟨o,old b o hb eo⟩
   ·by_cases hb:b=Pt
    ·subst hb;rw [hP]at eo;cases eo;exact ⟨_,by rw [ah (Bg ncP),ad]⟩
    ·exact ⟨#[],by rw [up eo hb];simp⟩
   ·obtain ⟨o,es,ep,ho,r⟩:=hm;exact ⟨o,es,ep,old _ o (nP I1.free) ho,r⟩
   ·by_cases hb:b=c'
    ·subst hb;rw [ad]at eo;cases eo;exact ⟨AC _ hoc,⟨oc,AC _ hoc⟩,λh1 h2 a1 a2=>a2 _ a1⟩
    ·rw [ah hb]at eo;by_cases hbP:b=Pt
     ·subst hbP;rw [ad]at eo;cases eo;exact AC _ htb
     ·rw [ah hbP]at eo;refine (I1.hok b oo eo).stay (λd' vo hd' q'=>old d' vo ?_ q') (λd' q'=>up q' (nt q' (by simp))) λd' xs q'=>up q' (nt q' (by simp));rcases hd' with z | z
      ·rw [z];exact hbP
      ·exact nt z (by simp)
  have nfl:(upd (upd H1 Pt (.tbl (ps++ #[rawInt lpos.line,rawInt lpos.col,.ref c']))) c' (gm c' oc)) h'.objs.size=none:=by
   have a1:h'.objs.size≠c':=Cz hlt;have a2:h'.objs.size≠Pt:=Cz (AN htb);rw [ah a1,ah a2];exact I1.hok.fresh (Bm hge (Bj hlt))
  have nff:h'.objs.size∉frs X.stack:=λhmm=>by
   obtain ⟨_,o,ho,_⟩:=I1.stack.mem hmm;exact absurd (AN ho) (C7.mpr (Bm hge (Bj hlt)))
  have L:=uW I2 ok hcs (AU _ rfl) nfl nff hfn;exact Dw (fin I2 (q _ c' oc _ nc ncP ⟨vc,tq,hd,hq1⟩ L))
 ·refine W.kla_makeFunctionHit (mg:=X.mg) hcl I1.ok.glob (I1.mod.glob.keeps I1.bk) hcode (hC.keeps I1.bk) hPs ht hf hB1 λctv h' tk hkp hsz=>?_;have I2:Inv X pins σ H1 {s1 with heap:=h'.push {cls:=.type "function",data:=.func (W.kla_fn "<lambda>" (X.env.qual++"<lambda>") params body scope (bO X.env.cells scope.names) ((X.mg "__name__").getD .none) (.ref c') ctv)},toks:=tk}:=
   I1.kept λb o eo=>AC _ (hkp b o eo)
  have nff:h'.objs.size∉frs X.stack:=λhmm=>by
   obtain ⟨_,o,ho,_⟩:=I1.stack.mem hmm;exact absurd (AN ho) (C7.mpr hsz)
  have L:=uW (c':=c') I2 ok hcs (AU _ rfl) (I1.hok.fresh hsz) nff hfn;exact Dw (fin I2 (q _ _ L))
end
def vF (h:Heap) (mg:Str->Option Value) (nm:Str) (c Pt:Addr):Prop:=(∃ a o fd,mg nm=some (.ref a)/\h.get? a=some o/\o.data=.func fd/\fd.code=.ref c)/\W.CodeHd h c Pt
theorem sj {P:Program} {w:World} {K:W.Frag} {mg mb:Str->Option Value} {k:Nat} {fa a c Pt:Addr} {fd:FuncData} {x nm:Str} {sp:Sp} {s₁:Shared} {vs:List Value} {ns:List Int}
  (KX:K.In s₁.heap) (hns:s₁.heap.Ns mainGlobals mg) (hb:s₁.heap.Ns builtinsNs mb) (hbb: ∀ x:Str,x≠"__name__"->mb x=bootBuiltins x) (hlim:s₁.heap.NoLimit) (hg:s₁.gens= #[])
  (ha:s₁.heap.get? a=some {cls:=.type "list",data:=.seq vs.toArray}) (hi:IntsAre vs ns) (hl:ns.length<=sizeLine) (hr:Room k callerA)
  (hC:W.CodeHd s₁.heap c Pt) (hP:s₁.heap.get? Pt=some (W.tabObj #[])) (hB:s₁.heap.BuiltinsAt mg Pt) (hKt:K.lookup Pt=none)
  (F: ∀ base:Heap,K.In base->base.Ns mainGlobals mg->W.CodeHd base c Pt->base.BuiltinsAt mg Pt->a8 P w K mg base CX0 k fa fd [x] sp) (hbind: ∀ (s:Shared) (u:Value),BindsTo s fd ⟨[u],[]⟩ [(x,u)])
  (hsp: ∀ H:Hp,H Pt=some (.tbl #[])->SqL K H a (ns.map V.int)->sp [.ref a] H (λv _=>v=.bl true) E0):
  codeAny (model P w) callerA (.call (.ref fa) ⟨[.ref a],[]⟩) (λr s'=>r=.ok (.ret (.bool true))/\OldK s₁.heap s'.heap/\s'.os=s₁.os/\AllBare s'.gens) s₁:=by
 have rv:=jZ hi;have lenV:=hi.length;have haP:a≠Pt:=λz=>by rw [z,hP]at ha;cases ha
 have core: ∀ H:Hp,H Pt=some (.tbl #[])->SqL K H a (ns.map V.int)->HOk P w H s₁.heap->(∀ b,H b≠none->b=a\/b=Pt)->(H a≠none->K.lookup a=none)->(∀ u,H a=some u-> ∃ xs,u=.frz {cls:=.type "list",data:=.seq vs.toArray} (.lst xs))->
   codeAny (model P w) callerA (.call (.ref fa) ⟨[.ref a],[]⟩) (λr s'=>r=.ok (.ret (.bool true))/\OldK s₁.heap s'.heap/\s'.os=s₁.os/\AllBare s'.gens) s₁:=by
  intro H hH hS hok hA hK hfr;have un0: ∀ {b:Addr} {o:Obj},s₁.heap.get? b=some o->o≠{cls:=.type "list",data:=.seq vs.toArray}->o≠W.tabObj #[]->H b=none:=λ{b o} e n1 n2=>by
   cases q:H b with
   | none=>rfl
   | some u=>
    rcases hA b (by rw [q];simp)with z | z
    ·subst z;rw [ha]at e;exact absurd (A0 e).symm n1
    ·subst z;rw [hP]at e;exact absurd (A0 e).symm n2
  have inB: ∀ {b:Addr} {o:Obj},s₁.heap.get? b=some o->H b=none->(jA s₁.heap H).get? b=some o:=λe n=>u9 e n;have dictB: ∀ {b:Addr} {m:Str->Option Value},s₁.heap.Ns b m->(jA s₁.heap H).Ns b m:=λ{b m} ⟨o,es,ep,e,d,r⟩=>⟨o,es,ep,inB e (un0 e (λz=>by rw [z]at d;cases d) (λz=>by rw [z]at d;cases d)),d,r⟩;have hKb:K.In (jA s₁.heap H):=λb o e=>inB (KX b o e) (by
   cases q:H b with
   | none=>rfl
   | some u=>
    rcases hA b (by rw [q];simp)with z | z
    ·subst z;rw [hK (by rw [q];simp)]at e;cases e
    ·subst z;rw [hKt]at e;cases e)
  have hCb:W.CodeHd (jA s₁.heap H) c Pt:=by
   obtain ⟨o,vs',file,tf,flags,tg,inF,text,tt,e1,e2,r⟩:=hC;exact ⟨o,vs',file,tf,flags,tg,inF,text,tt,inB e1 (un0 e1 (λz=>by rw [z]at e2;exact absurd e2 (by simp)) (λz=>by rw [z]at e2;exact absurd e2 (by simp))),e2,r⟩
  have hBb:(jA s₁.heap H).BuiltinsAt mg Pt:=by
   obtain ⟨bm,o,b1,b2,b3,b4,b5,b6,r⟩:=hB;exact ⟨bm,o,b1,b2,b3,b4,inB b5 (un0 b5 (λz=>by rw [z]at b6;exact absurd b6 (by simp)) (λz=>by rw [z]at b6;exact absurd b6 (by simp))),b6,r⟩
  have hM:Mod K mg (jA s₁.heap H):=⟨hKb,dictB hns,⟨mb,dictB hb,hbb⟩,let ⟨mc,h1,h2⟩:=hlim;⟨mc,dictB h1,h2⟩⟩;have e0:Env0 P w K mg (jA s₁.heap H) callerA [] s₁ H:=⟨rfl,hM,λb o e=>wz e,Nat.le_of_eq (sy _ _),trivial,λb hb=>absurd (show b∈([]:List Addr)from hb) (by simp),hok,.of_eq hg⟩;refine Dh ((F _ hKb (dictB hns) hCb hBb).run callerA [] s₁ H ⟨[.ref a],[]⟩ [.ref a] [.ref a] _ _ hr e0 (hbind s₁ (.ref a)) (.cons rfl .nil) (hsp H hH hS)) λr s' h=>?_;cases r with
  | error e=>exact h.elim
  | ok fl=>
   cases fl with
   | next=>exact False.elim h
   | brk=>exact False.elim h
   | cont=>exact False.elim h
   | ret u=>
    obtain ⟨v,H',os,bare,un,hok',r',q⟩:=h;have q':v=.bl true:=q;subst q';obtain rfl:u=Value.bool true:=r';have tab: ∃ more:Array Value,s'.heap.get? Pt=some (W.tabObj (#[]++more)):=by
     obtain ⟨more,e⟩:=un.tbls Pt _ hH;exact ⟨more,(show ObjOk P w H' s'.heap Pt (.tbl (#[]++more))from hok' Pt _ e)⟩
    have old: ∀ b o,b≠Pt->s₁.heap.get? b=some o->s'.heap.get? b=some o:=λb o hbP e=>by
     cases q:H b with
     | none=>exact un.keep b o e q (by intro z;exact absurd (show b∈([]:List Addr)from z) (by simp)) (by simp)
     | some u=>
      rcases hA b (by rw [q];simp)with z | z
      ·subst z;obtain ⟨xs,rfl⟩:=hfr u q;obtain ⟨e1,_⟩:=hok' b _ (un.frzs b _ _ q);rw [ha]at e;rw [<- A0 e];exact e1
      ·exact absurd z hbP
    obtain ⟨more,ht⟩:=tab;refine ⟨rfl,⟨λb o e=>?_,λb o e=>?_⟩,os,bare⟩
    ·by_cases hbP:b=Pt
     ·subst hbP;rw [hP]at e;cases e;obtain ⟨oc,vs',file,tf,flags,tg,inF,text,tt,e1,e2,e3,e4,_⟩:=hC;exact .inr (.inl ⟨⟨c,oc,vs',e1,e2,e3,e4⟩,rfl,#[],more,rfl,ht⟩)
     ·exact .inl (old b o hbP e)
    ·by_cases hbP:b=Pt
     ·subst hbP;exact ⟨_,ht⟩
     ·exact ⟨o,old b o hbP e⟩
 cases hk:K.lookup a with
 | some o=>
  have e:=KX a o hk;rw [ha]at e;cases e;refine core (λb=>if b=Pt then some (.tbl #[])else none) (AX rfl) (.inr ⟨_,vs.toArray,_,hk,rfl,rfl,rfl,by rw [AL,lenV];exact hl,by simpa using rv⟩) (λb u z=>?_) (λb z=>?_) (λz=>absurd (AQ haP) z) λu z=>?_
  ·by_cases hb:b=Pt
   ·have z':=(AX hb).symm.trans z;cases z';subst hb;exact hP
   ·have z':=(AQ hb).symm.trans z;cases z'
  ·by_cases hb:b=Pt
   ·exact .inr hb
   ·exact absurd (AQ hb) z
  ·have z':=(AQ haP).symm.trans z;cases z'
 | none=>
  have hPa: ¬ Pt=a:=λz=>haP z.symm;refine core (λb=>if b=a then some (.frz {cls:=.type "list",data:=.seq vs.toArray} (.lst (ns.map V.int)))else if b=Pt then some (.tbl #[])else none) (by rw [AQ hPa,AX rfl]) (.inl (.inr ⟨{cls:=.type "list",data:=.seq vs.toArray},AX rfl⟩)) (λb u z=>?_) (λb z=>?_) (λ_=>hk) λu z=>?_
  ·by_cases hb:b=a
   ·have z':=(AX hb).symm.trans z;cases z';subst hb;exact ⟨ha,by rw [AD];exact hl,vs,_,rv,ha⟩
   ·have z':=(AQ hb).symm.trans z;by_cases hb2:b=Pt
    ·have z2:=(AX hb2).symm.trans z';cases z2;subst hb2;exact hP
    ·have z2:=(AQ hb2).symm.trans z';cases z2
  ·by_cases hb:b=a
   ·exact .inl hb
   ·by_cases hb2:b=Pt
    ·exact .inr hb2
    ·exact absurd (by rw [AQ hb,AQ hb2]) z
  ·have z':=(AX rfl).symm.trans z;cases z';exact ⟨_,rfl⟩
theorem walk_ofT {l:W.OpenLaw} {n k:Nat} {q:Program} {loose:List Str} {XP:(Str->Option Value)->Heap->Prop} {YP:World->Heap->Prop} {d:DefRec} {K:Params->W.Frag} {sp:World->Addr->Sp} {x nm:Str}
  (hn:l.most=some n) (hn2:n<=sizeLine) (hdf:d.params.defaults=[]) (hr:Room k callerA) (hY: ∀ (w:World) (h:Heap),YP w h->(K w.params).In h) (hrec: ∃ e∈recsOf q,e.name=nm) (hKt: ∀ w:World,W.noTabs (K w.params)=true)
  (F: ∀ (w:World) (mg:Str->Option Value) (fa c Pt:Addr) (h:Heap),(K w.params).In h->h.Ns mainGlobals mg->mg d.name=some (.ref fa)->vF h mg nm c Pt->
   ∃ fd:FuncData,(∀ (s:Shared) (u:Value),BindsTo s fd ⟨[u],[]⟩ [(x,u)])/\ ∀ base:Heap,(K w.params).In base->base.Ns mainGlobals mg->W.CodeHd base c Pt->base.BuiltinsAt mg Pt->a8 l.prog w (K w.params) mg base CX0 k fa fd [x] (sp w Pt))
  (hsp: ∀ (w:World) (Pt:Addr) (H:Hp) (a:Addr) (ns:List Int),ns.length<=n->H Pt=some (.tbl #[])->SqL (K w.params) H a (ns.map V.int)->sp w Pt [.ref a] H (λv _=>v=.bl true) E0):
  W.WalkO q loose XP YP l.row.toRowW d [] (λf vs=>PySem.call f vs):=by
 refine Att.attach_call hn hdf λw s₀ s₁ mg mb fa o pm cd doc a vs ns G Y ho hd hcd hmg hobj hints hlen hg=>?_;have KX:=hY w _ Y;obtain ⟨e,he,rfl⟩:=hrec;obtain ⟨a1,o1,fd1,c,Pt,t1,t2,t3,t4,t5,t6⟩:=G.T.tab e he;have hC:=W.CodeHd.of t5 t6;obtain ⟨fd,hb,hF⟩:=F w mg fa c Pt _ KX G.T.g hmg ⟨⟨a1,o1,fd1,t1,t2,t3,t4⟩,hC⟩;obtain ⟨bm,ob,b1,b2,b3,b4,b5,b6⟩:=G.T.bmain;have hP:s₁.heap.get? Pt=some (W.tabObj #[]):=t6.2;have n1:bm≠mainGlobals:=λz=>by
  obtain ⟨og,es,ep,e1,e2,_⟩:=G.T.g;rw [z,e1]at b3;cases b3;rw [e2]at b6;cases b6
 have n2:bm≠Pt:=λz=>by
  rw [z,hP]at b3;cases b3;cases b4
 have hB:s₁.heap.BuiltinsAt mg Pt:=⟨bm,ob,b1,b2,n1,n2,b3,b4,b5,b6⟩;have hKn:(K w.params).lookup Pt=none:=by
  cases q':(K w.params).lookup Pt with
  | none=>rfl
  | some ok=>
   have e1:=KX _ _ q';rw [hP]at e1;have e2:=A0 e1;have h2:=DG.mp (hKt w) (Pt,ok) (W.mem_of_lookupK q');subst e2;exact absurd (show false=true from h2) AR
 exact sj (nm:=e.name) KX G.T.g G.T.b G.T.builtins G.T.nolimit hg hobj hints (Bm hlen hn2) hr hC hP hB hKn hF hb λH h1 h2=>hsp w Pt H a ns hlen h1 h2
theorem Fun.okC {P:Program} {w:World} {K:W.Frag} {mg:Str->Option Value} {base:Heap} {x qual:Str} {st:Stmt} {f:Addr} {fd:FuncData} {N ps:List Str} {k:Nat} {sp:Sp} (F:Fun K x qual st f fd) (S:av N ps (ak st)) (len: ∀ vs H Q E,sp vs H Q E->vs.length=ps.length)
  (hbody: ∀ (A:Around) (outer:List Env) (s:Shared) (H:Hp) (vs:List V) (Q:VK) (E:XK),Room k (A.deeper (envOfC qual (ak st) s.heap.objs.size f fd.code))->sp vs H Q E->
   ∃ t,PSs (cG CX0 P w K mg base N qual (ak st) f fd.code A outer s H E).nox (bE st) t/\t {nx:=λ_ H'=>Q .non H',rt:=Q} (start N vs) H):a8 P w K mg base CX0 (k+1) f fd ps sp:=by
 obtain ⟨oc,od,kV,doc,pm,an,cdv,ct,osl,rfl,lk,hcd⟩:=F.ex;refine vh lk hcd S len λA outer s H vs Q E hr hsp=>?_;obtain ⟨t,h,q⟩:=hbody A outer s H vs Q E hr hsp;exact ⟨t,h.nox,q⟩
end L2
namespace My
open PySem L2
noncomputable def eD:Fm->List Fm
 | .bin _ a b=>[a,b]
 | .whn a b c=>[a,b,c]
 | _=>[]
noncomputable def hdW:Fm->Str
 | .num _=>"num"
 | .own _=>"own"
 | .part _ _=>"part"
 | .bin op _ _=>op
 | .whn _ _ _=>"when"
noncomputable def szK:List Fm->Nat
 | []=>0
 | f::r=>f.size+szK r
theorem jd: ∀ a b:List Fm,szK (a++b)=szK a+szK b
 | [],b=>(Nat.zero_add _).symm
 | f::r,b=>by
  show f.size+szK (r++b)=f.size+szK r+szK b;rw [jd r b,Ff]
theorem kX: ∀ l:List Fm,l.length<=szK l
 | []=>AJ _
 | f::r=>by
  have:=kX r;have:=f.size_pos;show r.length+1<=f.size+szK r;lia
theorem kb: ∀ f:Fm,f.size=szK (eD f) +1
 | .num _=>rfl
 | .own _=>rfl
 | .part _ _=>rfl
 | .bin _ a b=>by show a.size+b.size+1=a.size+ (b.size+0) +1;lia
 | .whn a b c=>by show a.size+b.size+c.size+1=a.size+ (b.size+ (c.size+0)) +1;lia
theorem wL: ∀ f:Fm,f.wf-> ∀ g∈eD f,g.wf
 | .num _,_,g,h=>by cases h
 | .own _,_,g,h=>by cases h
 | .part _ _,_,g,h=>by cases h
 | .bin op a b,hw,g,h=>by
  obtain ⟨_,h1,h2⟩:op∈ops/\a.wf/\b.wf:=hw;rcases AY.mp h with rfl | h
  ·exact h1
  rcases AY.mp h with rfl | h
  ·exact h2
  ·cases h
 | .whn a b c,hw,g,h=>by
  obtain ⟨h1,h2,h3⟩:a.wf/\b.wf/\c.wf:=hw;rcases AY.mp h with rfl | h
  ·exact h1
  rcases AY.mp h with rfl | h
  ·exact h2
  rcases AY.mp h with rfl | h
  ·exact h3
  ·cases h
noncomputable def nxF:List Fm->List Fm
 | []=>[]
 | g::r=>eD g++r
noncomputable def stF (fs:List Fm):Nat->List Fm
 | 0=>fs
 | i+1=>nxF (stF fs i)
theorem nZ (fs:List Fm): ∀ i,stF fs (i+1)=stF (nxF fs) i
 | 0=>rfl
 | i+1=>by
  show nxF (stF fs (i+1))=nxF (stF (nxF fs) i);rw [nZ fs i]
theorem mJ {H:Hp} {f:Fm} {v:V} (h:Rep H f v) (wf:f.wf): ∃ a r,v=.ref a/\H a=some (.tup (.str (hdW f)::r))/\r.length<=3/\(hdW f).length<=1000/\Paired (Rep H) (eD f) (bn (.str (hdW f)::r)):=by
 cases f with
 | num n=>
  obtain ⟨a,e,h⟩:=h;refine ⟨a,_,e,h,by simp,by show ("num":Str).length<=1000;decide +kernel,?_⟩;show Paired (Rep H) [] (if (cg "num").isSome=true then [.int n]else []);rw [fZ];exact .nil
 | own x=>
  obtain ⟨a,e,h⟩:=h;refine ⟨a,_,e,h,by simp,by show ("own":Str).length<=1000;decide +kernel,?_⟩;show Paired (Rep H) [] (if (cg "own").isSome=true then [.str x]else []);rw [eE];exact .nil
 | part k x=>
  obtain ⟨a,e,h⟩:=h;refine ⟨a,_,e,h,by simp,by show ("part":Str).length<=1000;decide +kernel,?_⟩;show Paired (Rep H) [] (if (cg "part").isSome=true then [.int k,.str x]else []);rw [dE];exact .nil
 | bin op A B=>
  obtain ⟨a,u,w,e,h,rA,rB⟩:=h;refine ⟨a,_,e,h,by simp,iy wf.1,?_⟩;show Paired (Rep H) [A,B] (if (cg op).isSome=true then _ else []);rw [AX (show (cg op).isSome=true by rw [iD wf.1];rfl)];exact .cons rA (.cons rB .nil)
 | whn A B C=>
  obtain ⟨a,u,w,z,e,h,rA,rB,rC⟩:=h;refine ⟨a,_,e,h,by simp,by show ("when":Str).length<=1000;decide +kernel,?_⟩;show Paired (Rep H) [A,B,C] (if (cg "when").isSome=true then _ else []);rw [AX (show (cg "when").isSome=true by decide +kernel)];exact .cons rA (.cons rB (.cons rC .nil))
theorem jq {α β:Type} {F:α->β->Prop}: ∀ {a c:List α} {b d:List β},Paired F a b->Paired F c d->Paired F (a++c) (b++d)
 | _,_,_,_,.nil,h=>h
 | _,_,_,_,.cons h t,h2=>.cons h (jq t h2)
theorem yI {H:Hp}: ∀ (n:Nat) {fs:List Fm} {ws:List V},szK fs=n->(∀ f∈fs,f.wf)->Paired (Rep H) fs ws->
  ∃ out,Ts H ws out/\out.length=n/\stF fs n=[]/\ ∀ i v,out[i]? =some v-> ∃ g r,stF fs i=g::r/\Rep H g v/\g.wf/\g.size+szK r+i=n:=by
 intro n;induction n with
 | zero=>
  intro fs ws h hw hP;cases hP with
  | nil=>exact ⟨[],.nil,rfl,rfl,λi v e=>by cases i <;> cases e⟩
  | @cons f v fs ws _ _=>
   have h:f.size+szK fs=0:=h;have:=f.size_pos;lia
 | succ n ih=>
  intro fs ws h hw hP;cases hP with
  | nil=>cases h
  | @cons f v fs ws hR hP=>
   have h:f.size+szK fs=n+1:=h;have wf:=hw f A3;have hk:=kb f;obtain ⟨a,r,rfl,ha,hr,hl,hK⟩:=mJ hR wf;obtain ⟨out,h1,h2,h3,h4⟩:=ih (fs:=eD f++fs) (by rw [jd];lia) (λg hg=>by
    rcases AT.mp hg with hg | hg
    ·exact wL f wf g hg
    ·exact hw g (A2 _ hg)) (jq hK hP)
   refine ⟨.ref a::out,.cons ha hl hr h1,by rw [AM,h2],by rw [nZ];exact h3,λi v e=>?_⟩;cases i with
   | zero=>
    cases e;exact ⟨f,fs,rfl,hR,wf,by lia⟩
   | succ i=>
    obtain ⟨g,r',e1,e2,e3,e4⟩:=h4 i v e;exact ⟨g,r',by rw [nZ];exact e1,e2,e3,by lia⟩
theorem pT {C:Fm->Prop} (hC: ∀ g,C g-> ∀ k∈eD g,C k) {fs:List Fm} (h: ∀ f∈fs,C f): ∀ i,∀ f∈stF fs i,C f
 | 0=>h
 | i+1=>λf hf=>by
  have ih:=pT hC h i;have hf:f∈nxF (stF fs i):=hf;cases e:stF fs i with
  | nil=>rw [e]at hf;cases hf
  | cons g r=>
   rw [e]at hf ih;rcases AT.mp (show f∈eD g++r from hf)with z | z
   ·exact hC g (ih g A3) f z
   ·exact ih f (A2 _ z)
abbrev xr:List Str:=["formula","tell","pile","one","inner"]
theorem scFold:av xr ["formula","tell"] (ak iY):=fsc
inductive fR  (vs:List V) (H:Hp) (Q:VK) (E_:XK):Prop
 | mk: ∀ bv bk,(vs=[bv])->(RepB H bk bv)->(∀ fa fv,H fa=some (.tup fv)->RepFs H bk.forms fv->Q (.ref fa) H)->fR vs H Q E_
theorem rg:av ["book"] ["book"] (ak jo):=fsc
theorem oV (F:Fun K "forms_of" "forms_of" jo f fd):a8 P w K mg base CX0 1 f fd ["book"] fR:=by
 refine F.ok rg (λvs H Q E h=>?_) (λcdv A outer s H vs Q E hr h=>?_)
 ·obtain ⟨bv,bk,rfl,_⟩:=h;rfl
 obtain ⟨bv,bk,rfl,⟨a,sa,fa,fv,rfl,ha,_,hfa,hF⟩,q⟩:=h;refine ⟨_,aj (ay (ar (r:=bf K) aA (pv 0) ag (λ_ _=>rfl))),?_⟩;exact ⟨_,rfl,a,_,2,_,rfl,rfl,SqT.of ha,aZ (j:=2) rfl,q fa fv hfa hF⟩
def j8:Sp:=λvs H Q _=> ∃ bv bk,vs=[bv]/\RepB H bk bv/\ ∀ sa sv,H sa=some (.tup sv)->RepSs H bk.sorts sv->Q (.ref sa) H
def ip:Sp:=λvs H Q _=> ∃ v fr,vs=[v]/\RepF H fr v/\ ∀ ra rv,H ra=some (.tup rv)->RepRs H fr.rules rv->Q (.ref ra) H
noncomputable def ao (r:Rul):List Key:=[.inl r.pl,.inr r.word]
theorem q9:av ["book"] ["book"] (ak jh):=fsc
theorem oQ (F:Fun K "sorts_of" "sorts_of" jh f fd):a8 P w K mg base CX0 1 f fd ["book"] j8:=by
 refine F.ok q9 (λvs H Q E h=>?_) (λcdv A outer s H vs Q E hr h=>?_)
 ·obtain ⟨bv,bk,rfl,_⟩:=h;rfl
 obtain ⟨bv,bk,rfl,⟨a,sa,fa,fv,rfl,ha,⟨sx,hsa,hS⟩,_⟩,q⟩:=h;refine ⟨_,aj (ay (ar (r:=bf K) aA (pv 0) ag (λ_ _=>rfl))),?_⟩;exact ⟨_,rfl,a,_,1,_,rfl,rfl,SqT.of ha,aZ (j:=1) rfl,q sa sx hsa hS⟩
theorem re:av ["form"] ["form"] (ak jk):=fsc
theorem oR (F:Fun K "rules_of" "rules_of" jk f fd):a8 P w K mg base CX0 1 f fd ["form"] ip:=by
 refine F.ok re (λvs H Q E h=>?_) (λcdv A outer s H vs Q E hr h=>?_)
 ·obtain ⟨v,fr,rfl,_⟩:=h;rfl
 obtain ⟨v,fr,rfl,⟨a,pa,ra,rv,rfl,ha,hpa,hra,hR⟩,q⟩:=h;refine ⟨_,aj (ay (ar (r:=bf K) aA (pv 0) ag (λ_ _=>rfl))),?_⟩;exact ⟨_,rfl,a,_,3,_,rfl,rfl,SqT.of ha,aZ (j:=3) rfl,q ra rv hra hR⟩
abbrev yG:List Str:=["form","found","at","word","formula"]
theorem scByKey:av yG ["form"] (ak oB):=fsc
end My
namespace L2
open PySem PySem.Spec PyProof.Rows
noncomputable def sP (d:Addr) (o:Obj):It:=
 ⟨λi H=> ∃ kvs kv,H d=some (.frz o (.dT kvs))/\kvs[i]? =some kv,
  λi H x H'=>H'=H/\ ∃ b k,x=.ref b/\H b=some (.tup (List.map kV k))/\ ∀ kvs,H d=some (.frz o (.dT kvs))->(kvs.map (·.1))[i]? =some k,
  λi H=> ∃ kvs,H d=some (.frz o (.dT kvs))/\kvs.length=i⟩
theorem ig {h:Heap} {d:Addr} {xs:List (List Key×Addr×Value)} {ep:Nat} (m:HT.IEs h d (xs.map λq=>(Value.ref q.2.1,q.2.2)) ep):HT.DEs h d (xs.map λq=>Value.ref q.2.1) ep:=by
 obtain ⟨o,es,h1,h2,h3,h4⟩:=m;refine ⟨o,es,h1,h2,h3,?_⟩;have:=congrArg (List.map Prod.fst) h4;rw [BB,BB]at this;exact this
theorem nS {P:Program} {w:World} {K:W.Frag} {tg:Expr} (it d:Addr) (o:Obj):jY P w K tg (sP d o) [it] it (λi h=>h.IsKeyIter it d i (nO o) (epO o)) where
 mem:=by simp
 obj:=λi h st b hb=>by
  have e:b=it:=by simpa using hb
  subst e;obtain ⟨o,e,c,d⟩:=st;exact ⟨o,e,λv z=>by rw [d]at z;cases z⟩
 keep:=λi h h' st k=>st.at λo e=>k it (by simp) o e
 item:=by
  intro X hP hw hK hc i pins s σ H E I hf st hg;subst hP hw hK;obtain ⟨kvs,kv,hd,hx⟩:=hg;obtain ⟨xs,kt,lo,hn,m,_,_⟩:=bY I hd;obtain ⟨q,hq,hc',rv⟩:=qm kt hx;obtain ⟨f0,f1,f2,f3,f4,f5⟩:=hf it (by simp);rw [hn,<- AD (f:=λq:List Key×Addr×Value=>Value.ref q.2.1)]at st;refine HT.next_des st (ig m) (by rw [AS,hq];rfl) λh' st' sb=>?_;have I1:Inv X pins σ H {s with heap:=h'}:=I.turned (t':=s.toks) (λb o hb e=>sb.extBut b o hb e) f0 f1 f3 f4 f5;obtain ⟨o',e,c,d'⟩:=id st';rw [AD,<- hn]at st';exact ⟨.ref q.2.1,rfl,jB (s:={s with heap:=h'}) e c d' (by decide) ⟨.ref q.2.1,H,I1,rfl,⟨rfl,_,kv.1,rfl,hc',λys hy=>by rw [hd]at hy;cases hy;rw [AS,hx];rfl⟩,st',λb hb=>(hf b hb).1⟩⟩
 done:=by
  intro X hP hw hK hc i pins s σ H E I hf st hg;subst hP hw hK;obtain ⟨kvs,hd,hl⟩:=hg;obtain ⟨xs,kt,lo,hn,m,_,_⟩:=bY I hd;have hle:xs.length=kvs.length:=(AZ kt).symm;obtain ⟨f0,f1,f2,f3,f4,f5⟩:=hf it (by simp);rw [hn,<- AD (f:=λq:List Key×Addr×Value=>Value.ref q.2.1)]at st;exact HT.end_des (I.ok.hd hc) st (ig m) (by rw [AD];lia) λh' eb=>⟨rfl,I.turned (t':=s.toks) (λb o hb e=>eb b o hb e) f0 f1 f3 f4 f5⟩
 self:=λ_ _ _ _ _ st h=>wpAny_pyIter_keyiter st h
theorem jr {X:Cx} {tg:Expr} {o:Expr} {to:TE} (ho:PE X o to):PI X tg o (yp sP to):=by
 intro pins s σ H R I h;refine thn (ho pins s σ H _ I h) λv s1 ⟨x,H1,I1,r1,d,kvs,ex,q1⟩=>?_;subst ex;cases r1;obtain ⟨ob,H2,I2,hd,q⟩:=pq I1 q1;obtain ⟨xs,kt,lo,hn,m,_,hob⟩:=bY I2 hd;refine HT.iter_des lo (ig m) ?_;refine ⟨_,[_],_,_,H2,rfl,I2.kept (t':=s1.toks) λb o e=>AC _ e,nS _ d ob,?_,λb hb=>?_,q⟩
 ·rw [AD,<- hn];exact ⟨_,AU _ rfl,rfl,rfl⟩
 ·have e:b=s1.heap.objs.size:=by simpa using hb
  have hb':s1.heap.objs.size<=b:=Nat.le_of_eq e.symm;exact I2.fpOk hb' (I2.hok.fresh hb')
theorem kD {d:Addr} {o:Obj} {kvs:List (List Key×V)} {g:TG} {tb:TS} {D:dW} {σ:St} {H:Hp} (Pv:Nat->St->Hp->Prop) (h0:Pv 0 σ H) (hl: ∀ i σ H,i<=kvs.length->Pv i σ H->H d=some (.frz o (.dT kvs)))
  (step: ∀ i k b σ H,(kvs.map (·.1))[i]? =some k->H b=some (.tup (List.map kV k))->Pv i σ H->g (.ref b) σ H λσ2 H2=>tb {D with nx:=Pv (i+1),ct:=Pv (i+1),bk:=D.nx} σ2 H2) (fin: ∀ σ H,Pv kvs.length σ H->D.nx σ H):
  ∃ W:Nat->Nat->St->Hp->Prop,(∃ m,W 0 m σ H)/\ ∀ i m σ H,W i m σ H->
   ((sP d o).stop i H/\D.nx σ H)\/((sP d o).go i H/\ ∃ N:St->Hp->Prop,(∀ σ' H',N σ' H'-> ∃ m',m'<m/\W (i+1) m' σ' H')/\ ∀ x H',(sP d o).yld i H x H'->g x σ H' λσ2 H2=>tb {D with nx:=N,ct:=N,bk:=D.nx} σ2 H2):=by
 refine ⟨λi m σ H=>m=kvs.length-i/\i<=kvs.length/\Pv i σ H,⟨kvs.length,by simp,A6 _,h0⟩,?_⟩;rintro i m σ H ⟨rfl,hi,p⟩;have q:=hl i σ H hi p;by_cases hlt:i<kvs.length
 ·refine .inr ⟨⟨kvs,kvs[i],q,AG hlt⟩,Pv (i+1),λσ' H' p'=>⟨kvs.length- (i+1),by lia,rfl,hlt,p'⟩,λx H' y=>?_⟩;obtain ⟨rfl,b,k,rfl,h1,hk⟩:=y;exact step i k b σ _ (hk kvs q) h1 p
 ·have e:i=kvs.length:=by lia
  subst e;exact .inl ⟨⟨kvs,q,rfl⟩,fin σ H p⟩
end L2
namespace My
open PySem L2
abbrev KK:=List Key
abbrev Rds:=List (KK×List KK)
noncomputable def cY (rd:Rds) (k:KK):List KK:=match rd.find? (λe=>decide (e.1=k))with
 | some e=>e.2
 | none=>[]
noncomputable def rks (rd:Rds):List KK:=rd.map (·.1)
structure RdOk (rd:Rds):Prop where
 nd:(rks rd).Nodup
 rn: ∀ e∈rd,e.2.Nodup
 cl: ∀ e∈rd,∀ o∈e.2,o∈rks rd
theorem fB {rd:Rds} (h:RdOk rd) {e:KK×List KK} (he:e∈rd):cY rd e.1=e.2:=by
 unfold cY;cases hf:rd.find? (λx=>decide (x.1=e.1))with
 | none=>exact absurd (AO rfl) (List.find?_eq_none.mp hf e he)
 | some e'=>
  have h1:=DL hf;have h2:e'.1=e.1:=by simpa using Fy hf
  obtain ⟨i,hi⟩:=Ba h1;obtain ⟨j,hj⟩:=Ba he;have q1:(rks rd)[i]? =some e.1:=by unfold rks;rw [AS,hi,<- h2];rfl
  have q2:(rks rd)[j]? =some e.1:=by unfold rks;rw [AS,hj];rfl
  have:=(Eo (AF.mp q1).1 h.nd).mp (q1.trans q2.symm);subst this;rw [hi]at hj;rw [A0 hj]
theorem lA {rd:Rds} {k:KK} (h:k∈rks rd): ∃ e∈rd,e.1=k:=AK.mp h
theorem RdOk.rnd {rd:Rds} (h:RdOk rd) {k:KK} (hk:k∈rks rd):(cY rd k).Nodup:=by
 obtain ⟨e,he,rfl⟩:=lA hk;rw [fB h he];exact h.rn e he
noncomputable def bR (rd:Rds) (k:KK):List KK:=(rd.filter λe=>decide (k∈e.2)).map (·.1)
theorem mK {rd:Rds} (h:RdOk rd) {k r:KK}:r∈bR rd k↔r∈rks rd/\k∈cY rd r:=by
 unfold bR;constructor
 ·intro hr;obtain ⟨e,he,rfl⟩:=AK.mp hr;obtain ⟨h1,h2⟩:=BL.mp he;refine ⟨AK.mpr ⟨e,h1,rfl⟩,?_⟩;rw [fB h h1];exact A7 h2
 ·rintro ⟨h1,h2⟩;obtain ⟨e,he,rfl⟩:=lA h1;rw [fB h he]at h2;exact AK.mpr ⟨e,BL.mpr ⟨he,AO h2⟩,rfl⟩
theorem v5 {rd:Rds} (h:RdOk rd) (k:KK):(bR rd k).Nodup:=by
 unfold bR;exact h.nd.sublist (List.Sublist.map _ EN)
noncomputable def left (rd:Rds) (dn:List KK) (k:KK):List KK:=(cY rd k).filter λo=> !decide (o∈dn)
theorem left_nil {rd:Rds} {dn:List KK} {k:KK}:left rd dn k=[]↔ ∀ o∈cY rd k,o∈dn:=by
 unfold left;rw [Ep];exact ⟨λh o ho=>by have:=h o ho;simpa using this,λh o ho=>by simpa using h o ho⟩
theorem jV {rd:Rds} {dn:List KK} {k x:KK} (h:x∉cY rd k):left rd (dn++[x]) k=left rd dn k:=by
 unfold left;refine List.filter_congr λo ho=>?_;have:o≠x:=λe=>h (by rw [<- e];exact ho);have e:(o∈dn++[x])↔o∈dn:=by rw [AT,AE];exact ⟨λz=>z.elim id (λz=>absurd z this),.inl⟩
 rw [DF.mpr e]
theorem pA {l:List KK} (nd:l.Nodup) {x:KK} (hx:x∈l) (p q:KK->Bool) (hp:p x=true) (hq:q x=false) (he: ∀ o,o≠x->p o=q o):(l.filter q).length+1=(l.filter p).length:=by
 induction l with
 | nil=>cases hx
 | cons y r ih=>
  obtain ⟨n1,n2⟩:=BG.mp nd;by_cases c:y=x
  ·subst c;rw [Cc hp,Cd (by rw [hq];exact AR),AM];have:r.filter q=r.filter p:=List.filter_congr λo ho=>(he o λe=>n1 (by rw [<- e];exact ho)).symm;rw [this]
  ·have hx:x∈r:=(AY.mp hx).resolve_left (λe=>c e.symm);have ih:=ih n2 hx;have e:=he y c;cases hpy:p y with
   | true=>
    rw [Cc hpy,Cc (by rw [<- e];exact hpy),AM,AM,ih]
   | false=>
    have hqy:q y=false:=by rw [<- e];exact hpy
    rw [Cd (p:=p) (by rw [hpy];exact AR),Cd (p:=q) (by rw [hqy];exact AR),ih]
theorem sh {rd:Rds} (hk:RdOk rd) {dn:List KK} {k x:KK} (hr:k∈rks rd) (h:x∈cY rd k) (hn:x∉dn):(left rd (dn++[x]) k).length+1=(left rd dn k).length:=by
 unfold left;refine pA (hk.rnd hr) h _ _ (by simpa using hn) (by simp) λo ho=>?_;have e:(o∈dn++[x])↔o∈dn:=by rw [AT,AE];exact ⟨λz=>z.elim id (λz=>absurd z ho),.inl⟩
 rw [DF.mpr e]
structure OInv (rd:Rds) (c:KK->Int) (ord:List KK) (dn:Nat):Prop where
 le:dn<=ord.length
 nd:ord.Nodup
 sub: ∀ k∈ord,k∈rks rd
 cnt: ∀ k∈rks rd,c k=((left rd (ord.take dn) k).length:Int)
 mem: ∀ k∈rks rd,(k∈ord↔left rd (ord.take dn) k=[])
 top: ∀ i k,ord[i]? =some k-> ∀ o∈cY rd k,o∈ord.take i
structure OMid (rd:Rds) (c:KK->Int) (ord:List KK) (dn:Nat) (x:KK) (j:Nat):Prop where
 at_:ord[dn]? =some x
 nd:ord.Nodup
 sub: ∀ k∈ord,k∈rks rd
 cnt: ∀ k∈rks rd,c k=if k∈(bR rd x).take j then ((left rd (ord.take (dn+1)) k).length:Int)else ((left rd (ord.take dn) k).length:Int)
 mem: ∀ k∈rks rd,(k∈ord↔(left rd (ord.take dn) k=[]\/(k∈(bR rd x).take j/\left rd (ord.take (dn+1)) k=[])))
 top: ∀ i k,ord[i]? =some k-> ∀ o∈cY rd k,o∈ord.take i
noncomputable def upC (c:KK->Int) (k:KK) (n:Int):KK->Int:=λj=>if j=k then n else c j
theorem aP {α:Type} {l:List α} {n:Nat} {x:α} (h:l[n]? =some x):l.take (n+1)=l.take n++[x]:=by rw [By,h];rfl
theorem OInv.start {rd:Rds} {c:KK->Int} {ord:List KK} {dn:Nat} (h:OInv rd c ord dn) {x:KK} (hx:ord[dn]? =some x):OMid rd c ord dn x 0:=
 ⟨hx,h.nd,h.sub,λk hk=>by rw [BI,AQ (by simp)];exact h.cnt k hk,λk hk=>by rw [BI,h.mem k hk];simp,h.top⟩
theorem OMid.not {rd:Rds} {c:KK->Int} {ord:List KK} {dn:Nat} {x:KK} {j:Nat} (h:OMid rd c ord dn x j):x∉ord.take dn:=λhm=>by
 obtain ⟨i,hi⟩:=Ba hm;have hlt:i<dn:=by
  have:=(AF.mp hi).1;rw [A4]at this;lia
 rw [Dl,AX hlt]at hi;have:=(Eo (AF.mp hi).1 h.nd).mp (hi.trans h.at_.symm);lia
theorem OMid.step {rd:Rds} (hk:RdOk rd) {c:KK->Int} {ord:List KK} {dn:Nat} {x:KK} {j:Nat} (h:OMid rd c ord dn x j) {r:KK} (hr:(bR rd x)[j]? =some r):
  (c r-1=0->OMid rd (upC c r (c r-1)) (ord++[r]) dn x (j+1))/\(c r-1≠0->OMid rd (upC c r (c r-1)) ord dn x (j+1))/\r∈rks rd:=by
 have hrm:=AH hr;obtain ⟨hrk,hxr⟩:=(mK hk).mp hrm;have hnx:=h.not;have hts:ord.take (dn+1)=ord.take dn++[x]:=aP h.at_;have hrj:r∉(bR rd x).take j:=λhm=>by
  obtain ⟨i,hi⟩:=Ba hm;have hlt:i<j:=by
   have:=(AF.mp hi).1;rw [A4]at this;lia
  rw [Dl,AX hlt]at hi;have:=(Eo (AF.mp hi).1 (v5 hk x)).mp (hi.trans hr.symm);lia
 have hl:=sh hk hrk hxr hnx;rw [<- hts]at hl;have hc:c r-1=((left rd (ord.take (dn+1)) r).length:Int):=by
  have:=h.cnt r hrk;rw [AQ hrj]at this;lia
 have hjt:(bR rd x).take (j+1)=(bR rd x).take j++[r]:=aP hr;have hdn:dn+1<=ord.length:=(AF.mp h.at_).1;have cnt': ∀ (ord':List KK),ord'.take dn=ord.take dn->ord'.take (dn+1)=ord.take (dn+1)-> ∀ k∈rks rd,upC c r (c r-1) k=if k∈(bR rd x).take (j+1)then ((left rd (ord'.take (dn+1)) k).length:Int)else ((left rd (ord'.take dn) k).length:Int):=by
  intro ord' e1 e2 k hkk;rw [e1,e2,hjt];unfold upC;by_cases ck:k=r
  ·subst ck;rw [AX rfl,AX (by simp),hc]
  ·rw [AQ ck,h.cnt k hkk];have:(k∈(bR rd x).take j++[r])↔k∈(bR rd x).take j:=by rw [AT,AE];exact ⟨λz=>z.elim id (λz=>absurd z ck),.inl⟩
   by_cases cm:k∈(bR rd x).take j
   ·rw [AX cm,AX (this.mpr cm)]
   ·rw [AQ cm,AQ (λz=>cm (this.mp z))]
 have hlr:left rd (ord.take dn) r≠[]:=λe=>by
  have:=left_nil.mp e x hxr;exact hnx this
 have hno:r∉ord:=λhm=>by
  rcases (h.mem r hrk).mp hm with e | ⟨e,_⟩
  ·exact hlr e
  ·exact hrj e
 refine ⟨λh0=>?_,λh0=>?_,hrk⟩
 ·have e1:(ord++[r]).take dn=ord.take dn:=B7 (by lia);have e2:(ord++[r]).take (dn+1)=ord.take (dn+1):=B7 (by lia);have hz:left rd (ord.take (dn+1)) r=[]:=B5 (by lia);refine ⟨by rw [Bu (by lia)];exact h.at_,?_,?_,cnt' _ e1 e2,?_,?_⟩
  ·rw [B6];exact ⟨h.nd,CI _ _,λa ha b hb e=>hno (by rw [AE]at hb;rw [<- hb,<- e];exact ha)⟩
  ·intro k hkm;rcases AT.mp hkm with z | z
   ·exact h.sub k z
   ·rw [AE.mp z];exact hrk
  ·intro k hkk;rw [e1,e2,hjt,AT,AT,AE,h.mem k hkk];constructor
   ·rintro ((z | ⟨z1,z2⟩) | z)
    ·exact .inl z
    ·exact .inr ⟨.inl z1,z2⟩
    ·rw [z];exact .inr ⟨.inr rfl,hz⟩
   ·rintro (z | ⟨z1 | z1,z2⟩)
    ·exact .inl (.inl z)
    ·exact .inl (.inr ⟨z1,z2⟩)
    ·exact .inr z1
  ·intro i k hi o ho;by_cases ci:i<ord.length
   ·rw [Bu ci]at hi;rw [B7 (by lia)];exact h.top i k hi o ho
   ·have hil:i< (ord++[r]).length:=(AF.mp hi).1;rw [AI]at hil;have hil:i<ord.length+1:=hil;have ei:i=ord.length:=by lia
    subst ei;rw [Bx (AJ _),DH]at hi;cases hi;rw [B7 (AJ _),Bc];exact BP (left_nil.mp hz o ho)
 ·refine ⟨h.at_,h.nd,h.sub,cnt' _ rfl rfl,λk hkk=>?_,h.top⟩;rw [h.mem k hkk,hjt,AT,AE];constructor
  ·rintro (z | ⟨z1,z2⟩)
   ·exact .inl z
   ·exact .inr ⟨.inl z1,z2⟩
  ·rintro (z | ⟨z1 | z1,z2⟩)
   ·exact .inl z
   ·exact .inr ⟨z1,z2⟩
   ·subst z1;rw [z2]at hc;exact absurd hc h0
theorem OMid.fin {rd:Rds} (hk:RdOk rd) {c:KK->Int} {ord:List KK} {dn:Nat} {x:KK} {j:Nat} (h:OMid rd c ord dn x j) (hj:j=(bR rd x).length):OInv rd c ord (dn+1):=by
 have hdn:dn+1<=ord.length:=(AF.mp h.at_).1;have hts:ord.take (dn+1)=ord.take dn++[x]:=aP h.at_;have hlf: ∀ k∈rks rd,k∉bR rd x->left rd (ord.take (dn+1)) k=left rd (ord.take dn) k:=λk hkk hn=>by
  rw [hts];exact jV λz=>hn ((mK hk).mpr ⟨hkk,z⟩)
 refine ⟨hdn,h.nd,h.sub,λk hkk=>?_,λk hkk=>?_,h.top⟩
 ·have:=h.cnt k hkk;rw [hj,Bc]at this;by_cases cm:k∈bR rd x
  ·rw [AX cm]at this;exact this
  ·rw [AQ cm]at this;rw [hlf k hkk cm];exact this
 ·rw [h.mem k hkk,hj,Bc];by_cases cm:k∈bR rd x
  ·constructor
   ·rintro (z | ⟨_,z⟩)
    ·exact left_nil.mpr λo ho=>by rw [hts];exact Bo _ (left_nil.mp z o ho)
    ·exact z
   ·exact λz=>.inr ⟨cm,z⟩
  ·rw [hlf k hkk cm];exact ⟨λz=>z.elim id (λz=>absurd z.1 cm),.inl⟩
theorem cF {α:Type} [DecidableEq α]: ∀ {a b:List α},a.Nodup->(∀ x∈a,x∈b)->a.length<=b.length
 | [],_,_,_=>A6 _
 | x::r,b,nd,h=>by
  obtain ⟨n1,n2⟩:=BG.mp nd;have hx:=h x A3;have:=cF (a:=r) (b:=b.erase x) n2 λy hy=>(List.mem_erase_of_ne (λe=>n1 (by rw [<- e];exact hy))).mpr (h y (A2 _ hy));rw [List.length_erase_of_mem hx]at this;have hp:=List.length_pos_of_mem hx;rw [AM];lia
theorem OInv.len {rd:Rds} {c:KK->Int} {ord:List KK} {dn:Nat} (h:OInv rd c ord dn):ord.length<=rd.length:=by
 have hs: ∀ k∈ord,k∈rks rd:=h.sub;have:=cF h.nd hs;unfold rks at this;rw [AD]at this;exact this
theorem OInv.all {rd:Rds} {c:KK->Int} {ord:List KK} (h:OInv rd c ord ord.length) {L:List KK} (hL: ∀ k∈rks rd,k∈L) (hs: ∀ k∈L,k∈rks rd) (ht: ∀ i k,L[i]? =some k-> ∀ o∈cY rd k,o∈L.take i): ∀ k∈rks rd,k∈ord:=by
 have go: ∀ (n i:Nat) (k:KK),i<n->L[i]? =some k->k∈ord:=by
  intro n;induction n with
  | zero=>intro i k hi;lia
  | succ n ih=>
   intro i k hi hk;refine (h.mem k (hs k (AH hk))).mpr (left_nil.mpr λo ho=>?_);rw [Bc];obtain ⟨j,hj⟩:=Ba (ht i k hk o ho);have hlt:j<i:=by
    have:=(AF.mp hj).1;rw [A4]at this;lia
   rw [Dl,AX hlt]at hj;exact ih j o (by lia) hj
 intro k hk;obtain ⟨i,hi⟩:=Ba (hL k hk);exact go (i+1) i k (by lia) hi
theorem fN {κ:Type} [DecidableEq κ]: ∀ {kvs:List (κ×V)} {i:Nat} {k:κ} {v:V},(kvs.map (·.1)).Nodup->kvs[i]? =some (k,v)->aW kvs k=some v
 | [],i,_,_,_,h=>by cases i <;> cases h
 | (k0,v0)::r,0,k,v,_,h=>by
  cases h;unfold aW;rw [List.find?_cons_of_pos (by simp)];rfl
 | (k0,v0)::r,i+1,k,v,nd,h=>by
  have h:r[i]? =some (k,v):=h;have nd:(k0::r.map (·.1)).Nodup:=nd;obtain ⟨n1,n2⟩:=BG.mp nd;have hne:k0≠k:=λe=>n1 (by rw [e];exact AK.mpr ⟨(k,v),AH h,rfl⟩);have ih:=fN n2 h;unfold aW at ih ⊢;rw [List.find?_cons_of_neg (by simpa using hne)];exact ih
def RdE (H:Hp) (e:KK×List KK) (kv:KK×V):Prop:=kv.1=e.1/\ ∃ l ys,kv.2=.ref l/\H l=some (.lst ys)/\KsOf H ys e.2
def RdsAt (H:Hp) (rd:Rds) (kvs:List (KK×V)):Prop:=Paired (RdE H) rd kvs
theorem RdsAt.keys {H:Hp}: ∀ {rd:Rds} {kvs:List (KK×V)},RdsAt H rd kvs->kvs.map (·.1)=rks rd
 | _,_,.nil=>rfl
 | e::rd,kv::kvs,.cons h t=>by
  show kv.1::kvs.map (·.1)=e.1::rks rd;rw [h.1,RdsAt.keys t]
noncomputable def zpA (ks:List KK) (as:List Addr):List (KK×V):=List.zipWith (λk a=>(k,V.ref a)) ks as
def sN (H:Hp) (ks:List KK) (as:List Addr) (f:KK->List KK):Prop:= ∀ (j:Nat) k a,ks[j]? =some k->as[j]? =some a-> ∃ ys,H a=some (.lst ys)/\KsOf H ys (f k)
theorem sR {ks:List KK} {as:List Addr} {j:Nat} {k:KK} {a:Addr} (h1:ks[j]? =some k) (h2:as[j]? =some a):(zpA ks as)[j]? =some (k,.ref a):=by
 unfold zpA;rw [List.getElem?_zipWith,h1,h2]
theorem fe: ∀ {ks:List KK} {as:List Addr},ks.length=as.length->(zpA ks as).map (·.1)=ks
 | [],_,_=>by unfold zpA;rfl
 | _::_,[],h=>by cases h
 | k::ks,a::as,h=>by
  have:=fe (ks:=ks) (as:=as) (by simpa using h);unfold zpA at this ⊢;rw [List.zipWith_cons_cons,BM,this]
theorem sQ {ks:List KK} {as:List Addr} (h:ks.length=as.length) (k:KK) (a:Addr):zpA (ks++[k]) (as++[a])=zpA ks as++[(k,.ref a)]:=by
 unfold zpA;rw [List.zipWith_append h];rfl
theorem dw {κ:Type} [DecidableEq κ] {kvs:List (κ×V)} {k:κ} {v:V} (h:k∉kvs.map (·.1)):bw kvs k v=kvs++[(k,v)]:=by
 unfold bw;rw [AQ λz=>by
  obtain ⟨kv,h1,h2⟩:=Cv.mp z;exact h (AK.mpr ⟨kv,h1,A7 h2⟩)]
theorem lV {α:Type} {l:List α} (nd:l.Nodup) {i j:Nat} {a:α} (h1:l[i]? =some a) (h2:l[j]? =some a):i=j:=
 (Eo (AF.mp h1).1 nd).mp (h1.trans h2.symm)
theorem dZ {α:Type} {l:List α} (nd:l.Nodup) {i:Nat} {a:α} (h:l[i]? =some a):a∉l.take i:=λhm=>by
 obtain ⟨j,hj⟩:=Ba hm;have hlt:j<i:=by
  have:=(AF.mp hj).1;rw [A4]at this;lia
 rw [Dl,AX hlt]at hj;have:=lV nd hj h;lia
def j9:Sp:=λvs H Q _=> ∃ (d:Addr) (kvs:List (KK×V)) (rd:Rds),vs=[.ref d]/\H d=some (.dT kvs)/\RdsAt H rd kvs/\RdOk rd/\rd.length<=900/\
 ∀ o p as H',Same (upd H d (.frz o (.dT kvs))) H'->H p=none->H' p=some (.dT (zpA (rks rd) as))->as.length=rd.length->sN H' (rks rd) as (bR rd)->Q (.ref p) H'
theorem rh {rd:Rds} {i:Nat} {e:KK×List KK} (h:rd[i]? =some e) (k:KK):bR (rd.take (i+1)) k=bR (rd.take i) k++(if k∈e.2 then [e.1]else []):=by
 unfold bR;rw [aP h,E4,Be]
 congr 1
 by_cases c:k∈e.2
 ·rw [AX c,Cc (by simpa using c)];rfl
 ·rw [AQ c,Cd (by simpa using c)];rfl
abbrev NRs:List Str:=["reads","readers","one","read","other"]
theorem scReaders:av NRs ["reads"] (ak jl):=fsc
theorem oS (F:Fun K "readers_of" "readers_of" jl f fd):a8 P w K mg base CX0 1 f fd ["reads"] j9:=by
 refine F.ok scReaders (λvs H Q E h=>?_) (λcdv A outer s H vs Q E hr h=>?_)
 ·obtain ⟨d,kvs,rd,rfl,_⟩:=h;rfl
 obtain ⟨d,kvs,rd,rfl,gd,hR,hok,hlen,q⟩:=h;have hu:=da hr;refine ⟨_,af (psz 1 scReaders.nd cq)
  (af (bi A5 rfl (jr (pv 0)) (pgz 2 scReaders.nd) (aj (cz hu (pv 1) (pv 2) (bd ae) rfl)))
  (af (bi A5 rfl (js (pv 0)) (cT rfl (aM (pgz 2 scReaders.nd) (aM (pgz 3 scReaders.nd) ce)))
   (aj (bi A5 rfl (cA (pv 3)) (pgz 4 scReaders.nd)
    (aj (bC (dC A8 Bq Br bp (bK hu (pv 1) (pv 4) (λ_ _=>rfl)) (aa (pv 2) ae)))))))
  (aj (ay (pv 1))))),?_⟩
 have hkeys:=hR.keys;have lkv:kvs.length=rd.length:=(AZ hR).symm;have lrk:(rks rd).length=rd.length:=AD _;refine λp hp=>?_;have npd:d≠p:=ai gd hp;have s0:=al hp (.dT []);have g0:(upd H p (.dT [])) p=some (.dT []):=ad;have gd0:=s0 _ _ gd;generalize upd H p (.dT [])=H0 at s0 g0 gd0 ⊢;refine ⟨_,rfl,d,kvs,rfl,.inl ⟨gd0,λo=>?_⟩⟩;have gF:(upd H0 d (.frz o (.dT kvs))) d=some (.frz o (.dT kvs)):=ad;have gpF:(upd H0 d (.frz o (.dT kvs))) p=some (.dT []):=by rw [ah (Bg npd)];exact g0
 have sF:Same (upd H d (.frz o (.dT kvs))) (upd H0 d (.frz o (.dT kvs))):=λb u h=>by
  by_cases c:b=d
  ·subst c;rw [ad]at h ⊢;exact h
  ·rw [ah c]at h ⊢;exact s0 _ _ h
 have hpF:(upd H d (.frz o (.dT kvs))) p=none:=by rw [ah (Bg npd)];exact hp
 have gFF:(upd H d (.frz o (.dT kvs))) d=some (.frz o (.dT kvs)):=ad;have hRF:RdsAt (upd H d (.frz o (.dT kvs))) rd kvs:=by
  have tkF:TK H (upd H d (.frz o (.dT kvs))):=λb xs h=>by rw [ah (λz=>by rw [z,gd]at h;cases h)];exact h
  exact Paired.mapP hR λe kv h=>by
   obtain ⟨h1,l,ys,h2,h3,h4⟩:=h;exact ⟨h1,l,ys,h2,by rw [ah (λz=>by rw [z,gd]at h3;cases h3)];exact h3,h4.mono λb xs hb=>tkF _ _ hb⟩
 have q:=q o;generalize upd H0 d (.frz o (.dT kvs))=H1 at gF gpF sF ⊢;generalize upd H d (.frz o (.dT kvs))=HF at sF hpF gFF hRF q ⊢;refine kD (kvs:=kvs) (λi σ H'=>i<=kvs.length/\ ∃ o2 as,σ=[some (.ref d),some (.ref p),o2,none,none]/\Same HF H'/\H' p=some (.dT (zpA ((rks rd).take i) as))/\as.length=i/\as.Nodup/\(∀ a∈as,HF a=none/\a≠p)/\sN H' ((rks rd).take i) as (λ_=>[]))
  ⟨A6 _,none,[],rfl,sF,gpF,rfl,CU,λa h=>(by cases h),λj k a h _=>(by cases j <;> cases h)⟩ (λi σ H' _ h=>by obtain ⟨_,_,_,_,s',_⟩:=h;exact s' _ _ gFF) ?_ ?_
 ·rintro i k b σ H2 hk hb ⟨hi,o2,as,rfl,S2,gp2,las,nda,hfr,hLs⟩;rw [hkeys]at hk;have hil:i<kvs.length:=by rw [lkv,<- lrk];exact (AF.mp hk).1
  refine ⟨iq,λa ha=>?_⟩;have haF:HF a=none:=S2.free ha;have nap:a≠p:=λz=>by rw [z,gp2]at ha;cases ha
  have naa:a∉as:=λz=>by
   obtain ⟨j,hj⟩:=Ba z;have hjl:=(AF.mp hj).1;obtain ⟨k',hk'⟩: ∃ k',((rks rd).take i)[j]? =some k':=⟨((rks rd).take i)[j]'(by rw [A4];lia),AG _⟩;obtain ⟨ys,h1,_⟩:=hLs j k' a hk' hj;rw [ha]at h1;cases h1
  have s3:=al ha (.lst []);have g3:(upd H2 a (.lst [])) a=some (.lst []):=ad;have gp3:=s3 _ _ gp2;have hb3:=s3 _ _ hb;have hLs3:sN (upd H2 a (.lst [])) ((rks rd).take i) as (λ_=>[]):=λj k a h1 h2=>by
   obtain ⟨ys,h3,h4⟩:=hLs j k a h1 h2;exact ⟨ys,s3 _ _ h3,h4.mono λb xs hb=>s3 _ _ hb⟩
  generalize upd H2 a (.lst [])=H3 at s3 g3 gp3 hb3 hLs3 ⊢;have lz:((rks rd).take i).length=as.length:=by rw [A4];lia
  refine ⟨_,rfl,_,rfl,p,_,rfl,DPut.t (k:=k) gp3 hb3 (am (by have:=congrArg List.length (fe lz);rw [AD]at this;rw [this,lz];lia)),?_⟩;have hn:k∉(zpA ((rks rd).take i) as).map (·.1):=by rw [fe lz];exact dZ hok.nd hk
  rw [dw hn,<- sQ lz,<- aP hk];have keep: ∀ b u,H3 b=some u->b≠p->(upd H3 p (.dT (zpA ((rks rd).take (i+1)) (as++[a])))) b=some u:=λb u h hne=>by rw [ah hne];exact h
  refine ⟨hil,_,as++[a],rfl,λb u h=>?_,ad,by rw [AI,las];rfl,?_,?_,?_⟩
  ·exact keep b u (s3 _ _ (S2 _ _ h)) (ai h hpF)
  ·rw [B6];exact ⟨nda,CI _ _,λx hx y hy e=>naa (by rw [AE]at hy;rw [<- hy,<- e];exact hx)⟩
  ·intro x hx;rcases AT.mp hx with h | h
   ·exact hfr x h
   ·rw [AE.mp h];exact ⟨haF,nap⟩
  ·intro j k' a' h1 h2;by_cases cj:j<as.length
   ·rw [Bu cj]at h2;rw [aP hk,Bu (by rw [lz];exact cj)]at h1;obtain ⟨ys,h3,h4⟩:=hLs3 j k' a' h1 h2;exact ⟨ys,keep _ _ h3 (hfr a' (AH h2)).2,h4.mono λb xs hb=>keep _ _ hb (λz=>by rw [z,gp3]at hb;cases hb)⟩
   ·have hjl:=(AF.mp h2).1;rw [AI]at hjl;have hjl:j<as.length+1:=hjl;have ej:j=as.length:=by lia
    subst ej;rw [Bx (AJ _),DH]at h2;cases h2;exact ⟨[],keep _ _ g3 nap,.nil⟩
 rintro σ H2 ⟨_,o2,as,rfl,S2,gp2,las,nda,hfr,hLs⟩;rw [lkv]at las;rw [BC (by lia)]at gp2 hLs;refine ⟨_,rfl,d,kvs,rfl,.inr ⟨o,S2 _ _ gFF,?_⟩⟩;have zk:(zpA (rks rd) as).map (·.1)=rks rd:=fe (by lia);refine iF (kvs:=kvs) (λi σ H'=>i<=kvs.length/\ ∃ o2 o3 o4,σ=[some (.ref d),some (.ref p),o2,o3,o4]/\Same HF H'/\H' p=some (.dT (zpA (rks rd) as))/\sN H' (rks rd) as (λk=>bR (rd.take i) k))
  ⟨A6 _,o2,none,none,rfl,S2,gp2,hLs⟩ (λi σ H' _ h=>by obtain ⟨_,_,_,_,_,s',_⟩:=h;exact s' _ _ gFF) ?_ ?_
 ·rintro i ks v T c σ H3 hkv hT hc ⟨hi,o2,o3,o4,rfl,S3,gp3,hL3⟩;have hil:i<kvs.length:=(AF.mp hkv).1;obtain ⟨e,he,e1,l,ys,e2,hl,hys⟩:=aH hRF hkv;have e1:ks=e.1:=e1;have e2:v=.ref l:=e2;subst e1 e2;have hem:=AH he;have s4:=al hT (.tup [.ref c,.ref l]);have g4:(upd H3 T (.tup [.ref c,.ref l])) T=some (.tup [.ref c,.ref l]):=ad;have gp4:=s4 _ _ gp3;have hc4:=s4 _ _ hc;have hL4:sN (upd H3 T (.tup [.ref c,.ref l])) (rks rd) as (λk=>bR (rd.take i) k):=λj k a h1 h2=>by
   obtain ⟨ys,h3,h4⟩:=hL3 j k a h1 h2;exact ⟨ys,s4 _ _ h3,h4.mono λb xs hb=>s4 _ _ hb⟩
  have S4:=S3.trans s4;generalize upd H3 T (.tup [.ref c,.ref l])=H4 at s4 g4 gp4 hc4 hL4 S4 ⊢;refine ⟨T,_,rfl,SqT.of g4,rfl,_,_,rfl,_,_,rfl,rfl,?_⟩;refine ⟨_,rfl,l,rfl,⟨_,SqL.of (S4 _ _ hl)⟩,?_⟩;have lys:ys.length=e.2.length:=AZ hys;refine cN (xs:=ys) (λm σ H'=>m<=ys.length/\ ∃ o4,σ=[some (.ref d),some (.ref p),some (.ref c),some (.ref l),o4]/\Same HF H'/\H' c=some (.tup (List.map kV e.1))/\H' p=some (.dT (zpA (rks rd) as))/\sN H' (rks rd) as (λk=>bR (rd.take i) k++(if k∈e.2.take m then [e.1]else [])))
   ⟨A6 _,o4,rfl,S4,hc4,gp4,λj k a h1 h2=>by
    obtain ⟨ws,g1,g2⟩:=hL4 j k a h1 h2;refine ⟨ws,g1,?_⟩;show KsOf H4 ws (bR (rd.take i) k++(if k∈e.2.take 0 then [e.1]else []));rw [BI,AQ (by simp),Bh];exact g2⟩ (λm σ H' _ h=>by obtain ⟨_,_,_,s',_⟩:=h;exact SqL.of (s' _ _ hl)) ?_ ?_
  ·rintro m x σ H5 hx ⟨hm,o4,rfl,S5,hc5,gp5,hL5⟩;have hml:m<ys.length:=(AF.mp hx).1;obtain ⟨x',ex⟩: ∃ x',e.2[m]? =some x':=⟨e.2[m]'(by lia),AG (by lia)⟩;obtain ⟨k,hk,b,eb,hb⟩: ∃ k,e.2[m]? =some k/\ ∃ b,x=.ref b/\HF b=some (.tup (List.map kV k)):=by
    obtain ⟨k,hk,b,h1,h2⟩:=bX hys hx;exact ⟨k,hk,b,h1,h2⟩
   subst eb;have hkr:k∈rks rd:=hok.cl e hem k (AH hk);obtain ⟨j,hj⟩:=Ba hkr;have hjl:j<as.length:=by rw [las,<- lrk];exact (AF.mp hj).1
   have ha:as[j]? =some as[j]:=AG hjl;obtain ⟨zs,gz,hzs⟩:=hL5 j k as[j] hj ha;have hval:aW (zpA (rks rd) as) k=some (.ref as[j]):=fN (by rw [zk];exact hok.nd) (sR hj ha);have hnot:k∉e.2.take m:=dZ (hok.rn e hem) hk;have hzs:KsOf H5 zs (bR (rd.take i) k++(if k∈e.2.take m then [e.1]else [])):=hzs;rw [AQ hnot,Bh]at hzs;have lzs:zs.length<=900:=by
    have h1:zs.length=(bR (rd.take i) k).length:=AZ hzs;have h2:(bR (rd.take i) k).length<=rd.length:=by
     unfold bR;rw [AD];exact Bm (List.length_filter_le _ _) (by rw [A4];lia)
    lia
   refine ⟨_,rfl,_,rfl,p,.ref as[j],rfl,(by rw [<- hval];exact DGet.t (k:=k) gp5 (S5 _ _ hb)),.inl ⟨rfl,_,SqL.of gz⟩,_,rfl,as[j],zs,.ref c,rfl,rfl,gz,am (by lia),?_⟩;obtain ⟨haF,hap⟩:=hfr as[j] (AH ha);have tk:TK H5 (upd H5 as[j] (.lst (zs++[.ref c]))):=TK.lst gz;refine ⟨hml,_,rfl,λb u h=>?_,tk _ _ hc5,?_,?_⟩
   ·rw [ah (ai h haF)];exact S5 _ _ h
   ·rw [ah (Bg hap)];exact gp5
   ·intro j' k' a' h1 h2;by_cases cj:j'=j
    ·subst cj;rw [hj]at h1;cases h1;rw [ha]at h2;cases h2;refine ⟨zs++[.ref c],ad,?_⟩;show KsOf _ _ (bR (rd.take i) k++(if k∈e.2.take (m+1)then [e.1]else []));rw [aP hk,AX (by simp)];exact BH (hzs.mono λb xs hb=>tk _ _ hb) ⟨c,rfl,tk _ _ hc5⟩
    ·obtain ⟨ws,h3,h4⟩:=hL5 j' k' a' h1 h2;have hne:a'≠as[j]:=λz=>cj (lV nda (by rw [<- z];exact h2) ha);have hkk:k'≠k:=λz=>cj (lV hok.nd (by rw [<- z];exact h1) hj);refine ⟨ws,by rw [ah hne];exact h3,?_⟩;have:(k'∈e.2.take m++[k])↔k'∈e.2.take m:=by rw [AT,AE];exact ⟨λz=>z.elim id (λz=>absurd z hkk),.inl⟩
     show KsOf _ _ (bR (rd.take i) k'++(if k'∈e.2.take (m+1)then [e.1]else []));rw [aP hk];have e5:(if k'∈e.2.take m++[k]then [e.1]else [])=(if k'∈e.2.take m then [e.1]else []):=by
      by_cases cm:k'∈e.2.take m
      ·rw [AX cm,AX (this.mpr cm)]
      ·rw [AQ cm,AQ (λz=>cm (this.mp z))]
     rw [e5];exact h4.mono λb xs hb=>tk _ _ hb
  ·rintro σ H5 ⟨_,o4,rfl,S5,hc5,gp5,hL5⟩;rw [lys,Bc]at hL5;refine ⟨hil,_,_,_,rfl,S5,gp5,λj k a h1 h2=>?_⟩;obtain ⟨ws,h3,h4⟩:=hL5 j k a h1 h2;exact ⟨ws,h3,by show KsOf _ ws (bR (rd.take (i+1)) k);rw [rh he];exact h4⟩
 ·rintro σ H3 ⟨_,o2,o3,o4,rfl,S3,gp3,hL3⟩;rw [lkv,Bc]at hL3;exact ⟨_,rfl,q p as H3 S3 hp gp3 las hL3⟩
theorem nG {d:Addr} {o:Obj} {kvs:List (KK×V)} {fr:List Nat} {tc:TT} {te:TE} {σ:St} {H1:Hp} {Q:VK} (hn:kvs.length<=1000) (hd:H1 d=some (.frz o (.dT kvs))) (c:KK->Bool)
  (htc: ∀ k b H (kk:Bool->Hp->Prop),k∈kvs.map (·.1)->H b=some (.tup (List.map kV k))->Same H1 H->kk (c k) H->tc (some (.ref b)::bH fr σ) H kk)
  (hte: ∀ k b H (kk:VK),k∈kvs.map (·.1)->H b=some (.tup (List.map kV k))->Same H1 H->kk (.ref b) H->te (some (.ref b)::bH fr σ) H kk)
  (hQ: ∀ p ys H',H1 p=none->Same H1 H'->H' p=some (.lst ys)->KsOf H' ys ((kvs.map (·.1)).filter c)->Q (.ref p) H'):kU fr tc te σ (sP d o) H1 Q:=by
 intro p hp;refine ⟨λi m zs H=>i<=kvs.length/\m=kvs.length-i/\Same H1 H/\H p=some (.lst zs)/\zs.length<=i/\KsOf H zs (((kvs.map (·.1)).take i).filter c),⟨_,A6 _,rfl,al hp _,ad,AJ _,.nil⟩,?_⟩;rintro i m zs H ⟨hi,hm,sm,gp,hz,hT⟩;refine ⟨gp,?_⟩;by_cases e:i=kvs.length
 ·subst e;rw [BC (by rw [AD];exact AJ _)]at hT;exact .inl ⟨⟨kvs,sm _ _ hd,rfl⟩,hQ p zs H hp sm gp hT⟩
 ·have hlt:i<kvs.length:=by lia
  refine .inr ⟨⟨kvs,kvs[i],sm _ _ hd,AG hlt⟩,am (by lia),λv H' hv=>?_⟩;obtain ⟨rfl,b,k,rfl,hb,hk⟩:=hv;have hk:=hk kvs (sm _ _ hd);have hkm:=AH hk;have etk:((kvs.map (·.1)).take (i+1)).filter c=((kvs.map (·.1)).take i).filter c++(if c k then [k]else []):=by
   rw [aP hk,E4]
   congr 1
   by_cases hc:c k=true
   ·rw [AX hc,Cc hc];rfl
   ·rw [AQ hc,Cd hc];rfl
  refine htc k b _ _ hkm hb sm ?_;by_cases hc:c k=true
  ·rw [AX hc]at etk;rw [AX hc];refine hte k b _ _ hkm hb sm ?_;have tk:TK H' (upd H' p (.lst (zs++[.ref b]))):=TK.lst gp;refine ⟨gp,kvs.length- (i+1),by lia,by lia,rfl,?_,ad,by rw [AI];show zs.length+1<=i+1;lia,?_⟩
   ·intro x u hx;rw [ah (ai hx hp)];exact sm _ _ hx
   ·rw [etk];exact BH (hT.mono λb xs hb=>tk _ _ hb) ⟨b,rfl,tk _ _ hb⟩
  ·rw [AQ hc,Bh]at etk;rw [AQ hc];exact ⟨kvs.length- (i+1),by lia,by lia,rfl,sm,gp,by lia,by rw [etk];exact hT⟩
noncomputable def jX (rd:Rds):List (KK×V):=rd.map λe=>(e.1,V.int (e.2.length:Int))
theorem kJ (rd:Rds):(jX rd).map (·.1)=rks rd:=by
 unfold jX rks;rw [BB];rfl
theorem iU {κ:Type} [DecidableEq κ] {kvs:List (κ×V)} {k:κ} {v u:V} (h:aW kvs k=some u):(bw kvs k v).length=kvs.length:=by
 have hm:=gN h;unfold bw;rw [AX (by
  obtain ⟨p,hp,e⟩:=AK.mp hm;exact Cv.mpr ⟨p,hp,AO e⟩),AD]
def pX:Sp:=λvs H Q _=> ∃ (d:Addr) (kvs:List (KK×V)) (rd:Rds),vs=[.ref d]/\H d=some (.dT kvs)/\RdsAt H rd kvs/\RdOk rd/\rd.length<=900/\
 ∀ o p ys ord c H',Same (upd H d (.frz o (.dT kvs))) H'->H p=none->H' p=some (.lst ys)->KsOf H' ys ord->OInv rd c ord ord.length->Q (.ref p) H'
theorem OInv.begin {rd:Rds} (hk:RdOk rd) {c:KK->Int} (hc: ∀ k∈rks rd,c k=((cY rd k).length:Int)):OInv rd c ((rks rd).filter λk=>decide ((cY rd k).length=0)) 0:=by
 have hl: ∀ k,left rd [] k=cY rd k:=λk=>by
  unfold left;exact List.filter_eq_self.mpr λo _=>by simp
 refine ⟨A6 _,hk.nd.sublist EN,λk h=>(BL.mp h).1,λk h=>?_,λk h=>?_,λi k hi o ho=>?_⟩
 ·rw [BI,hl];exact hc k h
 ·rw [BI,hl];constructor
  ·intro z;exact B5 (A7 (BL.mp z).2)
  ·intro z;exact BL.mpr ⟨h,AO (by rw [z];rfl)⟩
 ·have:=A7 (BL.mp (AH hi)).2;rw [B5 this]at ho;cases ho
abbrev NOo:List Str:=["reads","readers","still_to_come","one","read","order","done","reader"]
theorem scOrderOf:av NOo ["reads"] (ak gS):=fsc
theorem oU (F:Fun K "order_of" "order_of" gS f fd) (G:Gb mg)
  (GR:Cl P w K mg base CX0 1 f2 fd2 ["reads"] j9 "readers_of"):
  a8 P w K mg base CX0 2 f fd ["reads"] pX:=by
 refine F.ok scOrderOf (λvs H Q E h=>?_) (λcdv A outer s H vs Q E hr h=>?_)
 ·obtain ⟨d,kvs,rd,rfl,_⟩:=h;rfl
 obtain ⟨d,kvs,rd,rfl,gd,hR,hok,hlen,q⟩:=h;have hu:=da hr;refine ⟨_,af (psz 1 scOrderOf.nd (pcl GR hr (aa (pv 0) ae)))
  (af (de (i:=2) scOrderOf.nd rfl (Or.inr rfl) cq)
  (af (bi A5 rfl (js (pv 0)) (cT rfl (aM (pgz 3 scOrderOf.nd) (aM (pgz 4 scOrderOf.nd) ce)))
   (aj (cz hu (pv 2) (pv 3) (au (r:=cZ K) aE rfl G.len Bd (aa (pv 4) ae)) rfl)))
  (af (mT (i:=5) (sc0:=ak gS) (N0:=NOo) (ys:=["still_to_come"]) (fr:=[2]) rfl scOrderOf.nd rfl (Or.inl rfl) (jr (pv 0)) rfl rfl
    cok
    (λC s H ex=>ax cr (bK hu (pv 1) (pv 0) (λ_ _=>rfl)) ag (aL _)) (λC s H ex=>pv 0))
  (af (psz 6 scOrderOf.nd ag)
  (af (gW A5 (ax gi (pv 6) (au (r:=cZ K) aE rfl G.len Bd (aa (pv 5) ae)) (aL _))
   (af (psz 3 scOrderOf.nd (ar (r:=cC K) aY (pv 5) (pv 6) (λ_ _=>rfl)))
   (af (uh (i:=6) scOrderOf.nd rfl (Or.inl rfl) ag u8)
   (aj (bi A5 rfl (cA (bK hu (pv 1) (pv 3) (λ_ _=>rfl))) (pgz 7 scOrderOf.nd)
    (af (wj hu (pv 2) (pv 7) ag yn (by intros;rfl))
    (aj (bc (ax cr (bK hu (pv 2) (pv 7) (λ_ _=>rfl)) ag (aL _))
     (aj (bC (dC A8 Bq Br bp (pv 5) (aa (pv 7) ae)))) aK))))))))
  (aj (ay (pv 5)))))))),?_⟩
 have hkeys:=hR.keys;have lkv:kvs.length=rd.length:=(AZ hR).symm;have lrk:(rks rd).length=rd.length:=AD _;refine ⟨_,rfl,d,kvs,rd,rfl,gd,hR,hok,hlen,λo pr as H1 S1 hpr gpr las hL=>?_⟩;have q:=q o;have gFF:(upd H d (.frz o (.dT kvs))) d=some (.frz o (.dT kvs)):=ad;have hRF:RdsAt (upd H d (.frz o (.dT kvs))) rd kvs:=by
  have tkF:TK H (upd H d (.frz o (.dT kvs))):=λb xs h=>by rw [ah (λz=>by rw [z,gd]at h;cases h)];exact h
  exact Paired.mapP hR λe kv h=>by
   obtain ⟨h1,l,ys,h2,h3,h4⟩:=h;exact ⟨h1,l,ys,h2,by rw [ah (λz=>by rw [z,gd]at h3;cases h3)];exact h3,h4.mono λb xs hb=>tkF _ _ hb⟩
 have hfree: ∀ p,(upd H d (.frz o (.dT kvs))) p=none->H p=none:=λp h=>by
  by_cases c:p=d
  ·subst c;rw [ad]at h;cases h
  ·rw [ah c]at h;exact h
 generalize upd H d (.frz o (.dT kvs))=HF at S1 gFF hRF q hfree ⊢;refine λsc hsc=>?_;have hscF:HF sc=none:=S1.free hsc;have nscp:sc≠pr:=λz=>by rw [z,gpr]at hsc;cases hsc
 obtain ⟨H2,eW,s2,g2⟩:=nw hsc (.dT []);rw [eW];have S2:=S1.trans s2;refine ⟨_,rfl,d,kvs,rfl,.inr ⟨o,S2 _ _ gFF,?_⟩⟩;refine iF (kvs:=kvs) (λi σ H'=>i<=kvs.length/\ ∃ o3 o4,σ=[some (.ref d),some (.ref pr),some (.ref sc),o3,o4,none,none,none]/\Same H1 H'/\H' sc=some (.dT (jX (rd.take i))))
  ⟨A6 _,none,none,rfl,s2,g2⟩ (λi σ H' _ h=>by obtain ⟨_,_,_,_,s',_⟩:=h;exact s' _ _ (S1 _ _ gFF)) ?_ ?_
 ·rintro i ks v T c σ H3 hkv hT hc ⟨hi,o3,o4,rfl,S3,gs3⟩;have hil:i<kvs.length:=(AF.mp hkv).1;obtain ⟨e,he,e1,l,ys,e2,hl,hys⟩:=aH hRF hkv;have e1:ks=e.1:=e1;have e2:v=.ref l:=e2;subst e1 e2;have hem:=AH he;have lys:ys.length=e.2.length:=AZ hys;have s4:=al hT (.tup [.ref c,.ref l]);have g4:(upd H3 T (.tup [.ref c,.ref l])) T=some (.tup [.ref c,.ref l]):=ad;have gs4:=s4 _ _ gs3;have hc4:=s4 _ _ hc;have S4:=S3.trans s4;generalize upd H3 T (.tup [.ref c,.ref l])=H4 at s4 g4 gs4 hc4 S4 ⊢;refine ⟨T,_,rfl,SqT.of g4,rfl,_,_,rfl,_,_,rfl,rfl,?_⟩;have hn:e.1∉(jX (rd.take i)).map (·.1):=by
   rw [kJ];have hk:(rks rd)[i]? =some e.1:=by unfold rks;rw [AS,he];rfl
   have:=dZ hok.nd hk;unfold rks at this ⊢;rw [Cg];exact this
  refine ⟨_,rfl,l,ys,rfl,.inl (SqL.of (S4 _ _ (S1 _ _ hl))),_,rfl,_,rfl,sc,_,rfl,DPut.t (k:=e.1) gs4 hc4 (am (by unfold jX;rw [AD,A4];lia)),?_⟩;rw [dw hn,lys];refine ⟨hil,_,_,rfl,λb u h=>?_,?_⟩
  ·rw [ah (ai h hsc)];exact S4 _ _ h
  ·rw [ad];unfold jX;rw [aP he,Be];rfl
 rintro σ H3 ⟨_,o3,o4,rfl,S3,gs3⟩;rw [lkv,Bc]at gs3;have hval0: ∀ k∈rks rd,aW (jX rd) k=some (.int ((cY rd k).length:Int)):=λk hk=>by
  obtain ⟨e,he,rfl⟩:=lA hk;rw [fB hok he];obtain ⟨j,hj⟩:=Ba he;exact fN (i:=j) (by rw [kJ];exact hok.nd) (by unfold jX;rw [AS,hj];rfl)
 have S13:=S1.trans S3;refine ⟨_,rfl,d,kvs,rfl,.inr ⟨o,S13 _ _ gFF,?_⟩⟩;refine nG (kvs:=kvs) (by lia) (S13 _ _ gFF) (λk=>decide ((cY rd k).length=0)) ?_ ?_ ?_
 ·intro k b H4 kk hk hb s4 hkk;rw [hkeys]at hk;refine ⟨_,rfl,_,rfl,sc,.int ((cY rd k).length:Int),rfl,(by rw [<- hval0 k hk];exact DGet.t (k:=k) (s4 _ _ gs3) hb),rfl,_,rfl,?_⟩;have e:decide (V.int ((cY rd k).length:Int)=V.int 0)=decide ((cY rd k).length=0):=DF.mpr ⟨λz=>by have:=V.int.inj z;lia,λz=>by rw [z];rfl⟩;rw [e];exact hkk
 ·intro k b H4 kk hk hb s4 hkk;exact ⟨_,rfl,hkk⟩
 intro po ys H4 hpo s4 gpo hys;rw [hkeys]at hys;have S4:=S13.trans s4;have hpo1:H1 po=none:=S3.free hpo;have hpoF:HF po=none:=S1.free hpo1;have nps:po≠sc:=λz=>by rw [z,gs3]at hpo;cases hpo
 have gs4:=s4 _ _ gs3;have gpr4:=s4 _ _ (S3 _ _ gpr);have npr: ∀ j (h:j<as.length),as[j]≠po/\as[j]≠sc:=λj h=>by
  have ha:as[j]? =some as[j]:=AG h;have hk:(rks rd)[j]? =some ((rks rd)[j]'(by lia)):=AG _;obtain ⟨zs,gz,_⟩:=hL j _ _ hk ha;exact ⟨ai gz hpo1,ai gz hsc⟩
 have begin:=OInv.begin hok (c:=λk=>((cY rd k).length:Int)) (λ_ _=>rfl);generalize (rks rd).filter (λk=>decide ((cY rd k).length=0))=ord0 at hys begin;refine ja (λσ H'=> ∃ (o3 o4 o7:Option V) (dn:Nat) (ord:List KK) (c:KK->Int) (ys:List V) (kv:List (KK×V)),σ=[some (.ref d),some (.ref pr),some (.ref sc),o3,o4,some (.ref po),some (.int (dn:Int)),o7]/\Same H1 H'/\H' po=some (.lst ys)/\KsOf H' ys ord/\H' sc=some (.dT kv)/\kv.length=rd.length/\(∀ k∈rks rd,aW kv k=some (.int (c k)))/\OInv rd c ord dn)
  (λσ H'=>match σ with | [_,_,_,_,_,_,some (.int dn),_]=>rd.length-dn.toNat | _=>0)
  ⟨_,_,none,0,ord0,_,ys,jX rd,rfl,S3.trans s4,gpo,hys,gs4,by unfold jX;rw [AD],hval0,begin⟩ ?_ ?_
 ·rintro σ H5 ⟨o3,o4,o7,dn,ord,c,ys,kv,rfl,S5,gpo5,hys5,gs5,lkv5,hv5,hI⟩;have lys:ys.length=ord.length:=AZ hys5;refine ⟨_,rfl,_,rfl,po,ys,rfl,.inl (SqL.of gpo5),_,_,rfl,rfl,_,rfl,?_⟩;refine dD (λcc=>?_) (λcc=>?_)
  ·have hdl:dn<ys.length:=by have:=A7 cc;lia
   obtain ⟨x,hx⟩: ∃ x,ord[dn]? =some x:=⟨ord[dn]'(by lia),AG (by lia)⟩;have hM:=hI.start hx;obtain ⟨xv,hxv,b,ex,hb⟩: ∃ xv,ys[dn]? =some xv/\ ∃ b,xv=.ref b/\H5 b=some (.tup (List.map kV x)):=by
    obtain ⟨x',h1,b,h2,h3⟩:=bX hys5 (AG (l:=ys) hdl);rw [hx]at h1;cases h1;exact ⟨_,AG hdl,b,h2,h3⟩
   subst ex;have hxk:x∈rks rd:=hI.sub x (AH hx);obtain ⟨j,hj⟩:=Ba hxk;have hjl:j<as.length:=by rw [las,<- lrk];exact (AF.mp hj).1
   have ha:as[j]? =some as[j]:=AG hjl;obtain ⟨zs,gz,hzs⟩:=hL j x as[j] hj ha;have hvx:aW (zpA (rks rd) as) x=some (.ref as[j]):=fN (by rw [fe (by lia)];exact hok.nd) (sR hj ha);refine ⟨_,rfl,_,rfl,po,ys,_,.ref b,rfl,rfl,SqL.of gpo5,aZ hxv,?_⟩;refine ⟨_,rfl,_,_,rfl,rfl,?_⟩;refine ⟨_,rfl,_,rfl,pr,.ref as[j],rfl,(by rw [<- hvx];exact DGet.t (k:=x) (S5 _ _ gpr) hb),as[j],rfl,⟨_,SqL.of (S5 _ _ gz)⟩,?_⟩;have lzs:zs.length=(bR rd x).length:=AZ hzs;refine cN (xs:=zs) (λm σ H'=>m<=zs.length/\ ∃ (o7:Option V) (ord:List KK) (c:KK->Int) (ys:List V) (kv:List (KK×V)),σ=[some (.ref d),some (.ref pr),some (.ref sc),some (.ref b),o4,some (.ref po),some (.int ((dn:Int) +1)),o7]/\Same H1 H'/\H' po=some (.lst ys)/\KsOf H' ys ord/\H' sc=some (.dT kv)/\kv.length=rd.length/\(∀ k∈rks rd,aW kv k=some (.int (c k)))/\OMid rd c ord dn x m)
    ⟨A6 _,o7,ord,c,ys,kv,rfl,S5,gpo5,hys5,gs5,lkv5,hv5,hM⟩ (λm σ H' _ h=>by obtain ⟨_,_,_,_,_,_,_,s',_⟩:=h;exact SqL.of (s' _ _ gz)) ?_ ?_
   ·rintro m yv σ H6 hyv ⟨hm,o7,ord,c,ys,kv,rfl,S6,gpo6,hys6,gs6,lkv6,hv6,hM6⟩;have hml:m<zs.length:=(AF.mp hyv).1;obtain ⟨r,hr',br,er,hbr⟩: ∃ r,(bR rd x)[m]? =some r/\ ∃ br,yv=.ref br/\H1 br=some (.tup (List.map kV r)):=by
     obtain ⟨r,h1,b,h2,h3⟩:=bX hzs hyv;exact ⟨r,h1,b,h2,h3⟩
    subst er;obtain ⟨hz0,hn0,hrk⟩:=hM6.step hok hr';have hbr6:=S6 _ _ hbr;refine ⟨_,rfl,_,rfl,sc,.int (c r),rfl,(by rw [<- hv6 r hrk];exact DGet.t (k:=r) gs6 hbr6),_,_,rfl,rfl,_,DPut.t (k:=r) gs6 hbr6 (am (by lia)),?_⟩;have hlp:(bw kv r (V.int (c r-1))).length=rd.length:=by rw [iU (hv6 r hrk)];exact lkv6
    have hvp: ∀ k∈rks rd,aW (bw kv r (V.int (c r-1))) k=some (.int (upC c r (c r-1) k)):=λk hk=>by
     rw [cI];unfold upC;by_cases ck:k=r
     ·rw [AX ck,AX ck]
     ·rw [AQ ck,AQ ck];exact hv6 k hk
    have g7:(upd H6 sc (.dT (bw kv r (V.int (c r-1))))) sc=some (.dT (bw kv r (V.int (c r-1)))):=ad;have S7:Same H1 (upd H6 sc (.dT (bw kv r (V.int (c r-1))))):=λb u h=>by rw [ah (ai h hsc)];exact S6 _ _ h
    have gpo7:(upd H6 sc (.dT (bw kv r (V.int (c r-1))))) po=some (.lst ys):=by rw [ah nps];exact gpo6
    have tk7:TK H6 (upd H6 sc (.dT (bw kv r (V.int (c r-1))))):=λb xs h=>by rw [ah (λz=>by rw [z,gs6]at h;cases h)];exact h
    have hys7:=hys6.mono λb xs hb=>tk7 _ _ hb;generalize upd H6 sc (.dT (bw kv r (V.int (c r-1))))=H7 at g7 S7 gpo7 tk7 hys7 ⊢;have hbr7:=S7 _ _ hbr;refine ⟨_,rfl,_,rfl,sc,.int (c r-1),rfl,(by rw [show V.int (c r-1)=V.int (upC c r (c r-1) r) by unfold upC;rw [AX rfl],<- hvp r hrk];exact DGet.t (k:=r) g7 hbr7),rfl,_,rfl,?_⟩;refine dD (λc1=>?_) (λc1=>?_)
    ·have e0:=V.int.inj (A7 c1);have hM7:=hz0 e0;have lo:=(show (ord++[r]).length<=rd.length from by
      have:=cF hM7.nd hM7.sub;rw [lrk]at this;exact this)
     rw [AI]at lo;have ly7:ys.length=ord.length:=AZ hys7;have lo:ord.length+1<=rd.length:=lo;refine ⟨_,rfl,.inl ⟨rfl,_,SqL.of gpo7⟩,_,rfl,po,ys,.ref br,rfl,rfl,gpo7,am (by lia),?_⟩;have tk8:TK H7 (upd H7 po (.lst (ys++[.ref br]))):=TK.lst gpo7;refine ⟨hml,_,ord++[r],_,ys++[.ref br],_,rfl,λb u h=>?_,ad,BH (hys7.mono λb xs hb=>tk8 _ _ hb) ⟨br,rfl,tk8 _ _ hbr7⟩,?_,hlp,hvp,hM7⟩
     ·rw [ah (ai h hpo1)];exact S7 _ _ h
     ·rw [ah (Bg nps)];exact g7
    ·have e0:c r-1≠0:=λz=>c1 (AO (by rw [z]));exact ⟨hml,_,ord,_,ys,_,rfl,S7,gpo7,hys7,g7,hlp,hvp,hn0 e0⟩
   ·rintro σ H6 ⟨_,o7,ord,c,ys,kv,rfl,S6,gpo6,hys6,gs6,lkv6,hv6,hM6⟩;have hI6:=hM6.fin hok lzs;refine ⟨⟨_,_,_,dn+1,ord,c,ys,kv,rfl,S6,gpo6,hys6,gs6,lkv6,hv6,hI6⟩,?_⟩;have:=hI6.le;have:=hI6.len;show rd.length- ((dn:Int) +1).toNat<rd.length- ((dn:Nat):Int).toNat;lia
  ·have hle:=hI.le;have hdn:dn=ord.length:=by
    have: ¬ ((dn:Int) < (ys.length:Int)):=λz=>cc (AO z);lia
   subst hdn;exact ⟨_,rfl,q po ys ord c H5 (S1.trans S5) (hfree po hpoF) gpo5 hys5 hI⟩
 ·rintro σ H5 Q1 Q2 hq ⟨y,e1,z,e2,p,ys,e3,h2,i,j,e4,e5,k,e6,h⟩;exact ⟨y,e1,z,e2,p,ys,e3,h2,i,j,e4,e5,k,e6,hq _ _ h⟩
def RK (ks:List Key):Prop:=(∃ x:Str,ks=[.inr "own",.inr x]/\x.length<=1000)\/ ∃ (i:Int) (x:Str),ks=[.inr "part",.inl i,.inr x]/\x.length<=1000
inductive Tw (H:Hp):List V->List V->List (List Key)->Prop where
 | nil:Tw H [] [] []
 | rd {a:Addr} {ks:List Key} {vs out:List V} {rs:List (List Key)}:H a=some (.tup (ks.map kV))->RK ks->Tw H vs out rs->Tw H (.ref a::vs) (.ref a::out) (ks::rs)
 | num {a:Addr} {r vs out:List V} {rs:List (List Key)}:H a=some (.tup (.str "num"::r))->r.length<=3->Tw H vs out rs->Tw H (.ref a::vs) (.ref a::out) rs
 | inn {a:Addr} {k:Str} {r vs out:List V} {rs:List (List Key)}:H a=some (.tup (.str k::r))->(cg k).isSome=true->k.length<=1000->r.length<=3->Tw H (r++vs) out rs->Tw H (.ref a::vs) (.ref a::out) rs
theorem Tw.mono {H H':Hp} {ws out:List V} {rs:List (List Key)} (t:TK H H') (h:Tw H ws out rs):Tw H' ws out rs:=by
 induction h with
 | nil=>exact .nil
 | rd a b _ ih=>exact .rd (t _ _ a) b ih
 | num a b _ ih=>exact .num (t _ _ a) b ih
 | inn a b c d _ ih=>exact .inn (t _ _ a) b c d ih
theorem Tw.len {H:Hp} {ws out:List V} {rs:List (List Key)} (h:Tw H ws out rs):ws.length<=out.length:=by
 induction h with
 | nil=>exact AJ _
 | rd _ _ _ ih=>exact Nat.succ_le_succ ih
 | num _ _ _ ih=>exact Nat.succ_le_succ ih
 | inn _ _ _ _ _ ih=>
  rw [AI]at ih;rw [AM,AM];lia
theorem lE {ks:List Key} (h:RK ks): ∃ (k:Str) (r:List V),ks.map kV=.str k::r/\(k="own"\/k="part")/\r.length<=3/\cg k=none:=by
 rcases h with ⟨x,rfl,_⟩ | ⟨i,x,rfl,_⟩
 ·exact ⟨"own",_,rfl,.inl rfl,by simp,eE⟩
 ·exact ⟨"part",_,rfl,.inr rfl,by simp,dE⟩
theorem Tw.ts {H:Hp} {ws out:List V} {rs:List (List Key)} (h:Tw H ws out rs):Ts H ws out:=by
 induction h with
 | nil=>exact .nil
 | @rd a ks vs out rs ha hk t ih=>
  obtain ⟨k,r,e,hk2,hl,hi⟩:=lE hk;rw [e]at ha;refine .cons ha ?_ hl ?_
  ·rcases hk2 with rfl | rfl <;> decide +kernel
  ·have:bn (.str k::r)=[]:=by simp only [bn,hi];rfl
   rw [this];exact ih
 | @num a r vs out rs ha hl t ih=>
  refine .cons ha (by decide +kernel) hl ?_;have:bn (.str "num"::r)=[]:=by simp only [bn,fZ];rfl
  rw [this];exact ih
 | @inn a k r vs out rs ha hi hk hl t ih=>
  refine .cons ha hk hl ?_;have:bn (.str k::r)=r:=by simp only [bn,hi];rfl
  rw [this];exact ih
inductive Tr (H:Hp):List V->List (List Key)->Prop where
 | nil:Tr H [] []
 | rd {a:Addr} {ks:List Key} {out:List V} {rs:List (List Key)}:H a=some (.tup (ks.map kV))->RK ks->Tr H out rs->Tr H (.ref a::out) (ks::rs)
 | no {a:Addr} {k:Str} {r out:List V} {rs:List (List Key)}:H a=some (.tup (.str k::r))-> ¬ k="own"-> ¬ k="part"->Tr H out rs->Tr H (.ref a::out) rs
theorem Tw.tr {H:Hp} {ws out:List V} {rs:List (List Key)} (h:Tw H ws out rs):Tr H out rs:=by
 induction h with
 | nil=>exact .nil
 | rd a b _ ih=>exact .rd a b ih
 | num a _ _ ih=>exact .no a (by decide +kernel) (by decide +kernel) ih
 | @inn a k r vs out rs ha hi _ _ _ ih=>
  refine .no ha (λe=>?_) (λe=>?_) ih
  ·rw [e,eE]at hi;cases hi
  ·rw [e,dE]at hi;cases hi
noncomputable def dd (acc:List (List Key)):List (List Key)->List (List Key)
 | []=>acc
 | k::r=>dd (if k∈acc then acc else acc++[k]) r
theorem pG {P:List Key->Prop}: ∀ {rs acc:List (List Key)},(∀ k∈acc,P k)->(∀ k∈rs,P k)-> ∀ k∈dd acc rs,P k
 | [],_,h,_=>h
 | x::r,acc,h,h2=>by
  refine pG (rs:=r) (λk hk=>?_) λk hk=>h2 k (A2 _ hk);by_cases e:x∈acc
  ·rw [AX e]at hk;exact h k hk
  ·rw [AQ e]at hk;rcases AT.mp hk with z | z
   ·exact h k z
   ·rw [AE.mp z];exact h2 x A3
theorem pH: ∀ {rs acc:List (List Key)},(dd acc rs).length<=acc.length+rs.length
 | [],acc=>AJ _
 | x::r,acc=>by
  have:=pH (rs:=r) (acc:=if x∈acc then acc else acc++[x]);show (dd (if x∈acc then acc else acc++[x]) r).length<=acc.length+ (r.length+1);refine Bm this ?_;split
  ·lia
  ·rw [AI,Cq];lia
theorem nz (kvs:List (List Key×V)) (k:List Key) (v:V):(bw kvs k v).map (·.1)=if k∈kvs.map (·.1)then kvs.map (·.1)else kvs.map (·.1)++[k]:=by
 unfold bw;by_cases h:k∈kvs.map (·.1)
 ·rw [AX h,AX,BB]
  ·refine DN λx _=>?_;show (if x.1=k then (x.1,v)else x).1=x.1;split <;> rfl
  ·obtain ⟨x,hx,e⟩:=AK.mp h;exact Cv.mpr ⟨x,hx,AO e⟩
 ·rw [AQ h,AQ,Be]
  ·rfl
  ·intro z;obtain ⟨x,hx,e⟩:=Cv.mp z;exact h (AK.mpr ⟨x,hx,A7 e⟩)
theorem iQ (k:Str):inV (.str k) [.str "own",.str "part"]=(decide (k="own")||decide (k="part")):=by
 show (("own"==k)||(("part"==k)||false))=_;rw [Bool.or_false];by_cases h1:k="own"
 ·subst h1;decide +kernel
 ·by_cases h2:k="part"
  ·subst h2;decide +kernel
  ·rw [AW h1,AW h2];have e1:(("own":Str)==k)=false:=B2.mpr λe=>h1 e.symm;have e2:(("part":Str)==k)=false:=B2.mpr λe=>h2 e.symm;rw [e1,e2]
def iW:Sp:=λvs H Q _=> ∃ v out rs,vs=[v]/\Tw H [v] out rs/\out.length<=1000/\ ∀ p ys H',H p=none->Same H H'->H' p=some (.lst ys)->KsOf H' ys (dd [] rs)->Q (.ref p) H'
theorem scReads:av ["formula","found","one"] ["formula"] (ak oq):=fsc
theorem uF (F:Fun K "readings_of" "readings_of" oq f fd) (hlist:mg "list"=none) (mR:mg "READINGS"=some (.ref aR)) (hR: ∀ H,SqT K H aR [.str "own",.str "part"])
  (GT:Cl P w K mg base CX0 2 f2 fd2 ["formula"] gO "tuples_of"):
  a8 P w K mg base CX0 3 f fd ["formula"] iW:=by
 refine F.ok scReads (λvs H Q E h=>?_) (λcdv A outer s H vs Q E hr h=>?_)
 ·obtain ⟨v,b,_,rfl,_⟩:=h;rfl
 obtain ⟨v,out,rs,rfl,hT,hout,q⟩:=h;have hu:=hr.units;refine ⟨_,af (psz 1 scReads.nd cq)
  (af (bi A5 rfl (cA (pcl GT hr (aa (pv 0) ae))) (pgz 2 scReads.nd)
   (aj (bc (ax cV (ar (r:=bf K) aA (pv 2) ag (λ_ _=>rfl)) (bh (v:=.ref aR) rfl mR rfl) (by with_unfolding_all rfl))
    (aj (cz (da hr) (pv 1) (pv 2) gY rfl)) aK)))
  (aj (ay (aU (pM rfl) rfl hlist (by decide +kernel) (aa (pv 1) ae))))),?_⟩
 refine λpd hd=>?_;obtain ⟨H0,eW,s0,g0⟩:=nw hd (.dT []);rw [eW];refine ⟨_,rfl,v,out,rfl,(hT.mono (λ_ _ h=>s0 _ _ h)).ts,hout,λp1 H1 s1 h1=>⟨p1,rfl,⟨out,SqL.of h1⟩,?_⟩⟩;have S1:=s0.trans s1;have n1:pd≠p1:=λe=>by
  subst e;have:=s1 _ _ g0;rw [h1]at this;cases this
 refine cN (xs:=out) (λi σ H'=>i<=out.length/\ ∃ o kvs rs',σ=[some v,some (.ref pd),o]/\H' pd=some (.dT kvs)/\H' p1=some (.lst out)/\Same H H'/\Tr H (out.drop i) rs'/\dd (kvs.map (·.1)) rs'=dd [] rs/\kvs.length<=i)
  ⟨A6 _,none,[],rs,rfl,s1 _ _ g0,h1,S1,hT.tr,rfl,AJ _⟩ (λi σ H' _ h=>by obtain ⟨_,_,_,_,_,_,gp,_⟩:=h;exact SqL.of gp) ?_ ?_
 ·rintro i x σ H' hx ⟨hi,o,kvs,rs',rfl,gd,gp,sm,hTr,hdd,hl⟩;have hlt:i<out.length:=(AF.mp hx).1;have hdr:out.drop i=x::out.drop (i+1):=by
   rw [BR hlt];have:out[i]? =some out[i]:=AG hlt;rw [hx]at this;rw [A0 this]
  rw [hdr]at hTr;cases hTr with
  | @rd a ks _ rs'' ha hk t=>
   obtain ⟨k,r,e,hk2,_,_⟩:=lE hk;have ha':=sm _ _ ha;refine ⟨_,rfl,a,_,0,_,rfl,rfl,SqT.of (by rw [<- e];exact ha'),bx,aR,_,rfl,.inr (hR _),rfl,rfl,_,rfl,?_⟩;refine dD (λ_=>?_) (λc=>absurd ?_ c)
   ·refine ⟨_,rfl,_,rfl,pd,_,rfl,DPut.t gd ha' (am (by lia)),?_⟩;refine ⟨hlt,_,_,rs'',rfl,ad,by rw [ah (Bg n1)];exact gp,λc oo h=>by rw [ah (ai h hd)];exact sm c oo h,t,?_,?_⟩
    ·rw [nz];exact hdd
    ·have:=congrArg List.length (nz kvs ks (.bl true));rw [AD]at this;rw [this];split
     ·rw [AD];lia
     ·rw [AI,AD,Cq];lia
   ·show inV (.str k) [.str "own",.str "part"]=true;rw [iQ];rcases hk2 with rfl | rfl <;> rfl
  | @no a k r _ _ ha h1' h2' t=>
   refine ⟨_,rfl,a,_,0,_,rfl,rfl,SqT.of (sm _ _ ha),bx,aR,_,rfl,.inr (hR _),rfl,rfl,_,rfl,?_⟩;refine dD (λc=>absurd c ?_) (λ_=>?_)
   ·show ¬ inV (.str k) [.str "own",.str "part"]=true;rw [iQ,AW h1',AW h2'];decide
   ·exact ⟨hlt,_,_,rs',rfl,gd,gp,sm,t,hdd,by lia⟩
 ·rintro σ H' ⟨_,o,kvs,rs',rfl,gd,gp,sm,hTr,hdd,hl⟩;rw [List.drop_length]at hTr;cases hTr;refine ⟨_,rfl,pd,kvs,rfl,gd,λp ys hp hk=>?_⟩;have e:kvs.map (·.1)=dd [] rs:=hdd;rw [e]at hk;exact q p ys _ (sm.free hp) (λc oo h=>by rw [ah (ai (sm c oo h) hp)];exact sm c oo h) ad (hk.mono λb xs h=>by rw [ah (ai h hp)];exact h)
def iX:Sp:=λvs H Q _=> ∃ a ks,vs=[.ref a]/\H a=some (.tup (List.map kV ks))/\RK ks/\ ∀ p (i:Int) (x:Str),((ks=[.inr "own",.inr x]/\i= -1)\/ks=[.inr "part",.inl i,.inr x])->H p=none->Q (.ref p) (upd H p (.tup [.int i,.str x]))
theorem vW:av ["reading"] ["reading"] (ak ou):=fsc
theorem uJ (F:Fun K "key_of" "key_of" ou f fd):a8 P w K mg base CX0 1 f fd ["reading"] iX:=by
 refine F.ok vW (λvs H Q E h=>?_) (λcdv A outer s H vs Q E hr h=>?_)
 ·obtain ⟨a,ks,rfl,_⟩:=h;rfl
 obtain ⟨a,ks,rfl,ha,hk,q⟩:=h;refine ⟨_,aj (ay (fF (ax cr (ar (r:=bf K) aA (pv 0) ag (λ_ _=>rfl)) aJ (aL _))
  (aF (aa (qh kT ag) (aa (ar (r:=bf K) aA (pv 0) ag (λ_ _=>rfl)) ae)))
  (aF (aa (ar (r:=bf K) aA (pv 0) ag (λ_ _=>rfl)) (aa (ar (r:=bf K) aA (pv 0) ag (λ_ _=>rfl)) ae))))),?_⟩
 rcases hk with ⟨x,rfl,_⟩ | ⟨i,x,rfl,_⟩
 ·refine ⟨_,rfl,a,_,0,.str "own",rfl,rfl,SqT.of ha,bx,rfl,true,(by rw [AO rfl]),bL ?_⟩;refine ⟨1,rfl,_,rfl,a,_,1,.str x,rfl,rfl,SqT.of ha,aZ (j:=1) rfl,cB,λp hp=>q p (-1) x (.inl ⟨rfl,rfl⟩) hp⟩
 ·refine ⟨_,rfl,a,_,0,.str "part",rfl,rfl,SqT.of ha,bx,rfl,false,(by rw [AW (by decide +kernel)]),bt ?_⟩;refine ⟨_,rfl,a,_,1,.int i,rfl,rfl,SqT.of ha,aZ (j:=1) rfl,_,rfl,a,_,2,.str x,rfl,rfl,SqT.of ha,aZ (j:=2) rfl,cB,λp hp=>q p i x (.inr rfl) hp⟩
noncomputable def Fm.rdk:Fm->List (List Key)
 | .num _=>[]
 | .own x=>[[.inr "own",.inr x]]
 | .part k x=>[[.inr "part",.inl k,.inr x]]
 | .bin _ a b=>a.rdk++b.rdk
 | .whn a b c=>a.rdk++(b.rdk++c.rdk)
noncomputable def fsz:List Fm->Nat
 | []=>0
 | f::r=>f.size+fsz r
noncomputable def lG:List Fm->List (List Key)
 | []=>[]
 | f::r=>f.rdk++lG r
theorem Tw.of {H:Hp}: ∀ (n:Nat) {fs:List Fm} {ws:List V},fsz fs=n->Paired (λf v=>Rep H f v/\f.wf) fs ws-> ∃ out,Tw H ws out (lG fs)/\out.length=n:=by
 intro n;induction n using Nat.strongRecOn with
 | _ n ih=>
  intro fs ws hn h;cases h with
  | nil=>exact ⟨[],.nil,hn⟩
  | @cons f v fs ws hf t=>
   obtain ⟨rp,wf⟩:=hf;have hn:f.size+fsz fs=n:=hn;cases f with
   | num i=>
    obtain ⟨a,rfl,ha⟩:=rp;have hn:1+fsz fs=n:=hn;obtain ⟨out,h1,h2⟩:=ih (fsz fs) (by lia) rfl t;exact ⟨_,.num ha (by simp) h1,by rw [AM,h2];lia⟩
   | own x=>
    obtain ⟨a,rfl,ha⟩:=rp;have hn:1+fsz fs=n:=hn;obtain ⟨out,h1,h2⟩:=ih (fsz fs) (by lia) rfl t;exact ⟨_,.rd (ks:=[.inr "own",.inr x]) ha (.inl ⟨x,rfl,bJ wf⟩) h1,by rw [AM,h2];lia⟩
   | part k x=>
    obtain ⟨a,rfl,ha⟩:=rp;obtain ⟨w0,w1⟩:(0<=k/\k<=2)/\cH x=true:=wf;have hn:1+fsz fs=n:=hn;obtain ⟨out,h1,h2⟩:=ih (fsz fs) (by lia) rfl t;exact ⟨_,.rd (ks:=[.inr "part",.inl k,.inr x]) ha (.inr ⟨k,x,rfl,bJ w1⟩) h1,by rw [AM,h2];lia⟩
   | bin op A B=>
    obtain ⟨a,u,w,rfl,ha,r1,r2⟩:=rp;obtain ⟨ho,w1,w2⟩:op∈ops/\A.wf/\B.wf:=wf;have hn:A.size+B.size+1+fsz fs=n:=hn;obtain ⟨out,h1,h2⟩:=ih (A.size+ (B.size+fsz fs)) (by lia) (fs:=A::B::fs) rfl (.cons ⟨r1,w1⟩ (.cons ⟨r2,w2⟩ t));refine ⟨.ref a::out,?_,by rw [AM,h2];lia⟩;rw [show lG (Fm.bin op A B::fs)=lG (A::B::fs)from BD _ _ _];exact .inn ha (by rw [iD ho];rfl) (iy ho) (by simp) h1
   | whn A B C=>
    obtain ⟨a,u,w,z,rfl,ha,r1,r2,r3⟩:=rp;obtain ⟨w1,w2,w3⟩:A.wf/\B.wf/\C.wf:=wf;have hn:A.size+B.size+C.size+1+fsz fs=n:=hn;obtain ⟨out,h1,h2⟩:=ih (A.size+ (B.size+ (C.size+fsz fs))) (by lia) (fs:=A::B::C::fs) rfl (.cons ⟨r1,w1⟩ (.cons ⟨r2,w2⟩ (.cons ⟨r3,w3⟩ t)));refine ⟨.ref a::out,?_,by rw [AM,h2];lia⟩;rw [show lG (Fm.whn A B C::fs)=lG (A::B::C::fs)from by show (A.rdk++(B.rdk++C.rdk))++lG fs=A.rdk++(B.rdk++(C.rdk++lG fs));rw [BD,BD]];exact .inn ha (by rw [jz];rfl) (by decide +kernel) (by simp) h1
theorem Tw.of1 {H:Hp} {f:Fm} {v:V} (r:Rep H f v) (wf:f.wf): ∃ out,Tw H [v] out f.rdk/\out.length=f.size:=by
 obtain ⟨out,h1,h2⟩:=Tw.of (H:=H) f.size (fs:=[f]) (ws:=[v]) rfl (.cons ⟨r,wf⟩ .nil);rw [show lG [f]=f.rdk from Bh _]at h1;exact ⟨out,h1,h2⟩
theorem dd_iff {ks:List Key}: ∀ {rs acc:List (List Key)},ks∈dd acc rs↔ks∈acc\/ks∈rs
 | [],acc=>by
  show ks∈acc↔_;exact ⟨.inl,λh=>h.elim id λz=>by cases z⟩
 | x::r,acc=>by
  show ks∈dd (if x∈acc then acc else acc++[x]) r↔_;rw [dd_iff (rs:=r),AY];by_cases h:x∈acc
  ·rw [AX h];exact ⟨λz=>z.elim .inl λz=>.inr (.inr z),λz=>z.elim .inl λz=>z.elim (λe=>.inl (by rw [e];exact h)) .inr⟩
  ·rw [AQ h,AT,AE];exact ⟨λz=>z.elim (λz=>z.elim .inl λz=>.inr (.inl z)) λz=>.inr (.inr z),λz=>z.elim (λz=>.inl (.inl z)) λz=>z.elim (λz=>.inl (.inr z)) .inr⟩
theorem dj {α β γ:Type} {F:β->γ->Prop} {g:α->β}: ∀ {l:List α} {r:List γ},Paired (λa c=>F (g a) c) l r->Paired F (l.map g) r
 | _,_,.nil=>.nil
 | _,_,.cons a t=>.cons a (dj t)
theorem xp: ∀ {rs acc:List (List Key)},acc.Nodup->(dd acc rs).Nodup
 | [],_,h=>h
 | x::r,acc,h=>by
  refine xp (rs:=r) ?_;by_cases c:x∈acc
  ·rw [AX c];exact h
  ·rw [AQ c,B6];exact ⟨h,CI _ _,λa ha b hb e=>c (by rw [AE]at hb;rw [<- hb,<- e];exact ha)⟩
noncomputable def pk (i:Int) (x:Str):KK:=[.inl i,.inr x]
noncomputable def l2p:KK->KK
 | [_,.inr x]=>pk (-1) x
 | [_,.inl k,.inr x]=>pk k x
 | k=>k
noncomputable def kyP:Fm->Option KK
 | .own x=>some (pk (-1) x)
 | .part k x=>some (pk k x)
 | _=>none
noncomputable def jQ (rs:List Rul) (k:KK):Option Fm:=(rs.find? λr=>decide (ao r=k)).map Rul.fm
inductive Unf (rs:List Rul):Fm->Fm->Prop where
 | num (n:Int):Unf rs (.num n) (.num n)
 | keep {f:Fm} {k:KK} (h:kyP f=some k) (t:jQ rs k=none):Unf rs f f
 | put {f h g:Fm} {k:KK} (e:kyP f=some k) (t:jQ rs k=some h) (u:Unf rs h g):Unf rs f g
 | bin {op:Str} {a b a' b':Fm} (h1:Unf rs a a') (h2:Unf rs b b'):Unf rs (.bin op a b) (.bin op a' b')
 | whn {a b c a' b' c':Fm} (h1:Unf rs a a') (h2:Unf rs b b') (h3:Unf rs c c'):Unf rs (.whn a b c) (.whn a' b' c')
theorem Unf.det {rs:List Rul} {f g:Fm} (h:Unf rs f g): ∀ {g':Fm},Unf rs f g'->g=g':=by
 induction h with
 | num n=>
  intro g' h';cases h' with
  | num=>rfl
  | keep e _=>rfl
  | put e _ _=>cases e
 | keep h t=>
  intro g' h';cases h' with
  | num=>cases h
  | keep _ _=>rfl
  | put e t' _=>rw [h]at e;cases e;rw [t]at t';cases t'
  | bin _ _=>cases h
  | whn _ _ _=>cases h
 | put e t u ih=>
  intro g' h';cases h' with
  | num=>cases e
  | keep e' t'=>rw [e]at e';cases e';rw [t]at t';cases t'
  | put e' t' u'=>rw [e]at e';cases e';rw [t]at t';cases t';exact ih u'
  | bin _ _=>cases e
  | whn _ _ _=>cases e
 | bin h1 h2 ih1 ih2=>
  intro g' h';cases h' with
  | keep e _=>cases e
  | put e _ _=>cases e
  | bin q1 q2=>rw [ih1 q1,ih2 q2]
 | whn h1 h2 h3 ih1 ih2 ih3=>
  intro g' h';cases h' with
  | keep e _=>cases e
  | put e _ _=>cases e
  | whn q1 q2 q3=>rw [ih1 q1,ih2 q2,ih3 q3]
noncomputable def Fm.sub (M:KK->Option Fm):Fm->Fm
 | .num n=>.num n
 | .own x=>(M (pk (-1) x)).getD (.own x)
 | .part k x=>(M (pk k x)).getD (.part k x)
 | .bin op a b=>.bin op (a.sub M) (b.sub M)
 | .whn a b c=>.whn (a.sub M) (b.sub M) (c.sub M)
noncomputable def Fm.pks:Fm->List KK
 | .num _=>[]
 | .own x=>[pk (-1) x]
 | .part k x=>[pk k x]
 | .bin _ a b=>a.pks++b.pks
 | .whn a b c=>a.pks++(b.pks++c.pks)
noncomputable def Fm.szw (Z:KK->Option Nat):Fm->Nat
 | .num _=>1
 | .own x=>(Z (pk (-1) x)).getD 1
 | .part k x=>(Z (pk k x)).getD 1
 | .bin _ a b=>a.szw Z+b.szw Z+1
 | .whn a b c=>a.szw Z+b.szw Z+c.szw Z+1
theorem eM {M:KK->Option Fm}: ∀ f:Fm,f.szw (λk=>(M k).map Fm.size)=(f.sub M).size
 | .num _=>rfl
 | .own x=>by
  show ((M (pk (-1) x)).map Fm.size).getD 1=((M (pk (-1) x)).getD (.own x)).size;cases M (pk (-1) x) <;> rfl
 | .part k x=>by
  show ((M (pk k x)).map Fm.size).getD 1=((M (pk k x)).getD (.part k x)).size;cases M (pk k x) <;> rfl
 | .bin _ a b=>by
  show a.szw _+b.szw _+1=(a.sub M).size+ (b.sub M).size+1;rw [eM a,eM b]
 | .whn a b c=>by
  show a.szw _+b.szw _+c.szw _+1=(a.sub M).size+ (b.sub M).size+ (c.sub M).size+1;rw [eM a,eM b,eM c]
def zO (rs:List Rul) (M:KK->Option Fm):Prop:= ∀ k g,M k=some g-> ∃ h,jQ rs k=some h/\Unf rs h g
theorem eK {rs:List Rul} {M:KK->Option Fm} (hM:zO rs M): ∀ {f:Fm},(∀ k∈f.pks,(jQ rs k).isSome=true->(M k).isSome=true)->Unf rs f (f.sub M)
 | .num n,_=>.num n
 | .own x,h=>by
  have h:=h _ A3;show Unf rs (.own x) ((M (pk (-1) x)).getD (.own x));cases e:M (pk (-1) x)with
  | none=>
   refine .keep (k:=pk (-1) x) rfl ?_;cases t:jQ rs (pk (-1) x)with
   | none=>rfl
   | some _=>rw [t,e]at h;exact absurd (h rfl) (by decide)
  | some g=>
   obtain ⟨f,t,u⟩:=hM _ _ e;exact .put (k:=pk (-1) x) rfl t u
 | .part k x,h=>by
  have h:=h _ A3;show Unf rs (.part k x) ((M (pk k x)).getD (.part k x));cases e:M (pk k x)with
  | none=>
   refine .keep (k:=pk k x) rfl ?_;cases t:jQ rs (pk k x)with
   | none=>rfl
   | some _=>rw [t,e]at h;exact absurd (h rfl) (by decide)
  | some g=>
   obtain ⟨f,t,u⟩:=hM _ _ e;exact .put (k:=pk k x) rfl t u
 | .bin _ a b,h=>.bin (eK hM λk hk=>h k (Bo _ hk)) (eK hM λk hk=>h k (AV _ hk))
 | .whn a b c,h=>.whn (eK hM λk hk=>h k (Bo _ hk)) (eK hM λk hk=>h k (AV _ (Bo _ hk))) (eK hM λk hk=>h k (AV _ (AV _ hk)))
theorem dh: ∀ f:Fm,f.rdk.map l2p=f.pks
 | .num _=>rfl
 | .own _=>rfl
 | .part _ _=>rfl
 | .bin _ a b=>by
  show (a.rdk++b.rdk).map l2p=a.pks++b.pks;rw [Be,dh a,dh b]
 | .whn a b c=>by
  show (a.rdk++(b.rdk++c.rdk)).map l2p=a.pks++(b.pks++c.pks);rw [Be,Be,dh a,dh b,dh c]
def uZ (ks:KK):Prop:=(∃ x:Str,ks=[.inr "own",.inr x])\/ ∃ (i:Int) (x:Str),ks=[.inr "part",.inl i,.inr x]/\0<=i
theorem gB: ∀ {f:Fm},f.wf-> ∀ ks∈f.rdk,uZ ks
 | .num _,_,ks,h=>by cases h
 | .own x,_,ks,h=>by rw [AE.mp h];exact .inl ⟨x,rfl⟩
 | .part k x,hw,ks,h=>by rw [AE.mp h];exact .inr ⟨k,x,rfl,hw.1.1⟩
 | .bin _ a b,hw,ks,h=>(AT.mp h).elim (gB hw.2.1 ks) (gB hw.2.2 ks)
 | .whn a b c,hw,ks,h=>(AT.mp h).elim (gB hw.1 ks) λh=>(AT.mp h).elim (gB hw.2.1 ks) (gB hw.2.2 ks)
theorem lU {a b:KK} (ha:uZ a) (hb:uZ b) (e:l2p a=l2p b):a=b:=by
 rcases ha with ⟨x,rfl⟩ | ⟨i,x,rfl,hi⟩ <;> rcases hb with ⟨y,rfl⟩ | ⟨j,y,rfl,hj⟩
 ·have h:=(A1 (A1 e).2).1;rw [BO h]
 ·have h:=CM (A1 e).1;lia
 ·have h:=CM (A1 e).1;lia
 ·have h1:=CM (A1 e).1;have h2:=BO (A1 (A1 e).2).1;rw [h1,h2]
noncomputable def rdF (rs:List Rul):Rds:=rs.map λr=>(ao r,((dd [] r.fm.rdk).map l2p).filter λo=>decide (o∈rs.map ao))
structure RsOk (rs:List Rul):Prop where
 few:rs.length<=12
 nd:(rs.map ao).Nodup
 fm: ∀ r∈rs,r.fm.wf/\r.fm.size<=400
theorem eA (rs:List Rul):rks (rdF rs)=rs.map ao:=by
 unfold rks rdF;rw [BB];rfl
theorem jw {α β:Type} {f:α->β}: ∀ {l:List α},l.Nodup->(∀ a∈l,∀ b∈l,f a=f b->a=b)->(l.map f).Nodup
 | [],_,_=>CU
 | x::r,nd,h=>by
  obtain ⟨n1,n2⟩:=BG.mp nd;rw [BM,BG];refine ⟨λhm=>?_,jw n2 λa ha b hb=>h a (A2 _ ha) b (A2 _ hb)⟩;obtain ⟨y,hy,e⟩:=AK.mp hm;have:=h x A3 y (A2 _ hy) e.symm;exact n1 (by rw [this];exact hy)
theorem RsOk.rd {rs:List Rul} (h:RsOk rs):RdOk (rdF rs):=by
 refine ⟨by rw [eA];exact h.nd,λe he=>?_,λe he o ho=>?_⟩
 ·obtain ⟨r,hr,rfl⟩:=AK.mp he;have hrd: ∀ ks∈dd [] r.fm.rdk,uZ ks:=pG (λk hk=>by cases hk) (gB (h.fm r hr).1);exact (jw (xp CU) λa ha b hb=>lU (hrd a ha) (hrd b hb)).sublist EN
 ·obtain ⟨r,hr,rfl⟩:=AK.mp he;rw [eA];exact A7 (BL.mp ho).2
theorem dY {rs:List Rul} (h:RsOk rs) {r:Rul} (hr:r∈rs):jQ rs (ao r)=some r.fm:=by
 unfold jQ;cases hf:rs.find? (λx=>decide (ao x=ao r))with
 | none=>exact absurd (AO rfl) (List.find?_eq_none.mp hf r hr)
 | some r'=>
  have h1:=DL hf;have h2:ao r'=ao r:=by simpa using Fy hf
  obtain ⟨i,hi⟩:=Ba h1;obtain ⟨j,hj⟩:=Ba hr;have q1:(rs.map ao)[i]? =some (ao r):=by rw [AS,hi,<- h2];rfl
  have q2:(rs.map ao)[j]? =some (ao r):=by rw [AS,hj];rfl
  have:=lV h.nd q1 q2;subst this;rw [hi]at hj;rw [A0 hj];rfl
theorem io {rs:List Rul} {k:KK} (h:(jQ rs k).isSome=true):k∈rs.map ao:=by
 unfold jQ at h;cases hf:rs.find? (λx=>decide (ao x=k))with
 | none=>rw [hf]at h;cases h
 | some r'=>
  have h1:=DL hf;have h2:ao r'=k:=by simpa using Fy hf
  exact AK.mpr ⟨r',h1,h2⟩
theorem oE {rs:List Rul} (h:RsOk rs) {r:Rul} (hr:r∈rs) (k:KK):k∈cY (rdF rs) (ao r)↔k∈r.fm.pks/\k∈rs.map ao:=by
 have:=fB h.rd (e:=(ao r,((dd [] r.fm.rdk).map l2p).filter λo=>decide (o∈rs.map ao))) (AK.mpr ⟨r,hr,rfl⟩);rw [show cY (rdF rs) (ao r)=_ from this,BL,<- dh];constructor
 ·rintro ⟨h1,h2⟩;obtain ⟨x,hx,rfl⟩:=AK.mp h1;exact ⟨AK.mpr ⟨x,(dd_iff.mp hx).elim (λz=>by cases z) id,rfl⟩,A7 h2⟩
 ·rintro ⟨h1,h2⟩;obtain ⟨x,hx,rfl⟩:=AK.mp h1;exact ⟨AK.mpr ⟨x,dd_iff.mpr (.inr hx),rfl⟩,AO h2⟩
structure UOk (rs:List Rul) (U:KK->Fm):Prop where
 un: ∀ r∈rs,Unf rs r.fm (U (ao r))
 sz: ∀ r∈rs,(U (ao r)).size<=400
noncomputable def gn (dn:List KK) (U:KK->Fm) (k:KK):Option Fm:=if k∈dn then some (U k)else none
theorem pQ {rs:List Rul} (h:RsOk rs) {U:KK->Fm} (hU: ∀ r∈rs,Unf rs r.fm (U (ao r))) {dn:List KK} (hs: ∀ k∈dn,k∈rs.map ao) {r:Rul} (hr:r∈rs) (ht: ∀ o∈cY (rdF rs) (ao r),o∈dn):r.fm.sub (gn dn U)=U (ao r):=by
 refine (eK (rs:=rs) (M:=gn dn U) (λk g e=>?_) λk hk hsm=>?_).det (hU r hr)
 ·unfold gn at e;by_cases c:k∈dn
  ·rw [AX c]at e;cases e;obtain ⟨r',hr',rfl⟩:=AK.mp (hs k c);exact ⟨_,dY h hr',hU r' hr'⟩
  ·rw [AQ c]at e;cases e
 ·have:=ht k ((oE h hr k).mpr ⟨hk,io hsm⟩);unfold gn;rw [AX this];rfl
end My
namespace HT
open PySem PySem.Spec PyProof.Rows
theorem len_des {prog:Program} {w:World} {A:Around} {E:Value->Shared->Prop} {s:Shared} {d:Addr} {ks:List Value} {ep:Nat} {Q:Value->Shared->Prop} (lo:(d==sysModules)=false) (m:DEs s.heap d ks ep) (hz:ks.length<=sizeLine)
  (q:Q (.int ks.length (s.toks+1)) {s with toks:=s.toks+1+1}):wpAny (model prog w) A (call (.builtin "len") [.ref d]) Q E s:=by
 have ty:=m.type;obtain ⟨o,es,ho,hc,hdat,hk⟩:=m;rw [E5]at hz;refine call_len_slot (n:=(ks.length:Int)) ty PySem.F.slot_dict_len (λQ' h'=>Bi PySem.F.slot_dict_len ty PySem.F.entry_dict_len ?_ (PySem.F.args_dict_len_1 _)) (by lia) (by lia) q;show wpAny _ _ (dictSize d >>= _) _ _ s;unfold dictSize;refine AA (AA (BX ho hdat (AB ?_)));show wpAny _ _ (Builtin.Dict.pendingCount d >>= _) _ _ s;refine AA (wpAny_pendingCount_other lo ?_);refine wpAny_ret_mkInt ?_;rw [fS hk];simpa using h'
end HT
namespace L2
open PySem PySem.Spec PyProof.Rows
theorem kM {X:Cx}:cQ X (.builtin "len") (λxs H Q=> ∃ a o kvs,xs=[V.ref a]/\H a=some (.frz o (.dT kvs))/\Q (.int (kvs.length:Int)) H):=by
 intro pins s σ H xs us Q I r h;obtain ⟨a,o,kvs,rfl,ha,q⟩:=h;obtain ⟨u,rfl,ru⟩:=gh r;cases ru;obtain ⟨ys,kt,lo,hn,m,_,_⟩:=bY I ha;have hz:=(show ObjOk X.prog X.w H s.heap a (.frz o (.dT kvs))from I.hok a _ ha).2.1;have hl:ys.length=kvs.length:=(AZ kt).symm;refine HT.len_des lo (ig m) (by rw [AD];lia) ?_;rw [AD,hl];exact ⟨.int kvs.length,H,I.tok _,⟨_,rfl⟩,q⟩
open PySem.W (findIn specialIn takesIn mroIn clsIn typeIn tailIn nsOkIn nsIn Looks)
noncomputable def jD (K:W.Frag) (C fI:Addr) (bmB:List Value) (newId:String):Bool:=match K.lookup C with
 | some ⟨.type "type",_,.cls cd,sl⟩=>(match cd.mro,sl.toList with
  | .ref c::bm,[_,_,_,_,some (.builtin n),_]=>(c==C&&(n==newId&&(!cd.hasDel&&(tailIn K bmB bm&&(nsOkIn K cd.ns&&nsIn K cd.ns "__init__"==some (some (.ref fI)))))))
  | _,_=>false)
 | _=>false
theorem xY {K:W.Frag} {h:Heap} {N:Addr} {mN:Str->Option Value} {n:Str} {v:Value} (X:K.In h) (G:h.Ns N mN) (e:nsIn K N n=some (some v)):mN n=some v:=by
 obtain ⟨o,es,ep,ho,hd,_,hf⟩:=G;unfold nsIn at e;split at e
 ·rename_i c d es' n' sl q;have:=X _ _ q;rw [ho]at this;cases this;cases hd;split at e
  ·rename_i en he;cases e;rw [<- hf];unfold nsFind findBy;rw [<- Array.find?_toList,he];rfl
  ·split at e <;> cases e
 ·cases e
theorem qw {K:W.Frag} {h:Heap} {C fI:Addr} {bmB:List Value} {newId:String} (X:K.In h) (q:jD K C fI bmB newId=true): ∃ bm N nm qn bs hd sn sub ab col dd k0 k1 k2 k3 k5 mN,
  h.get? C=some (excClassObj nm qn C N bs bm hd sn sub ab col dd k0 k1 k2 k3 k5 newId)/\(h.Ns N mN/\mN "__init__"=some (.ref fI))/\OwnTail h bmB bm:=by
 unfold jD at q;split at q
 case h_2=>cases q
 case h_1 dd c sl ho=>
  split at q
  case h_2=>cases q
  case h_1 C' bm k0 k1 k2 k3 n k5 hm hs=>
   rw [Bb,Bb,Bb,Bb,Bb]at q;obtain ⟨q1,q2,q3,q4,q5,q6⟩:=q;have e1:C'=C:=Dk.mp q1;have e2:n=newId:=Dk.mp q2;have e3:c.hasDel=false:=by rw [Fa]at q3;exact q3
   have hob:=X _ _ ho;have hsl:sl= #[k0,k1,k2,k3,some (.builtin n),k5]:=Array.toList_inj.mp hs;have hcd:c={name:=c.name,bases:=c.bases,mro:=.ref C::bm,ns:=c.ns,qualname:=c.qualname,hasDict:=c.hasDict,slotNames:=c.slotNames,subclasses:=c.subclasses,abstract:=c.abstract,collection:=c.collection,hasDel:=false}:=by
    rw [<- e3,<- e1,<- hm]
   rw [hsl,hcd,e2]at hob;have hN:h.Ns c.ns (h.nsMap c.ns):=Heap.Ns.of_isNs (W.isNs_of_in X q5);exact ⟨bm,_,_,_,_,_,_,_,_,_,_,_,_,_,_,_,_,hob,⟨hN,xY X hN (Dk.mp q6)⟩,W.tail_of_in X q4⟩
section
variable {prog:Program} {w:World} {A:Around} {E:Value->Shared->Prop} {h:Heap} {g:Array GenState} {d:Drawn} {t:Nat} {os:OsState}
variable {nm q:Str} {C N:Addr} {bs bm bmB:List Value} {hdct:Bool} {sn:List Str} {sub:List Value} {ab:Bool} {col:Option Bool} {dd:Option Addr} {k0 k1 k2 k3 k5:Option Value} {B newId initId:String}
theorem jb (F:ExcBaseFacts B newId initId bmB) (T:OwnTail h bmB bm) {mN:Str->Option Value} {rest:List Value} {fI:Addr} {oI:Obj} {Q:Fin->Shared->Prop}
  (hC:h.get? C=some (excClassObj nm q C N bs bm hdct sn sub ab col dd k0 k1 k2 k3 k5 newId)) (hn:h.Ns N mN) (hi:mN "__init__"=some (.ref fI)) (hfI:h.get? fI=some oI) (hfc:oI.cls=.type "function")
  (hq:codeAny (model prog w) A (.call (.ref fI) ⟨.ref (h.objs.size+1)::rest,[]⟩) (λr s'=>match r with | .ok (.ret u)=>u=.none/\Q (.done (.ret (.ref (h.objs.size+1)))) s' | .ok _=>False | .error e=>E e s')
   ⟨(h.push {cls:=.type "tuple",data:=.seq rest.toArray}).push {cls:=.ref C,data:=.fields #[.ref h.objs.size,.none,.none,.none,.bool false,.none]},g,d,t,os⟩) (hrest:rest.length<=sizeLine):
  wpAny (model prog w) A (Builtin.«type.__call__» ⟨.ref C::rest,[]⟩) Q E ⟨h,g,d,t,os⟩:=by
 repeat (first | with_reducible refine Fd hC ?_ | with_reducible refine wpAny_madeBy_exc hC ?_ | wp_step)
 refine codeAny_call_builtin_code (E3 _ F.quiet) (wpAny_check_new_subT F T hC ?_);refine codeAny_exc_new_subT F T hC ?_ hrest;show wpAny _ _ _ _ _ _;have hC₁:=AC {cls:=.ref C,data:=.fields #[.ref h.objs.size,.none,.none,.none,.bool false,.none]} (AC {cls:=.type "tuple",data:=.seq rest.toArray} hC);have hfI₁:=AC {cls:=.ref C,data:=.fields #[.ref h.objs.size,.none,.none,.none,.bool false,.none]} (AC {cls:=.type "tuple",data:=.seq rest.toArray} hfI);have hn₁:((h.push {cls:=.type "tuple",data:=.seq rest.toArray}).push {cls:=.ref C,data:=.fields #[.ref h.objs.size,.none,.none,.none,.bool false,.none]}).Ns N mN:=
  let ⟨o,es,ep,e,r⟩:=hn;⟨o,es,ep,AC _ (AC _ e),r⟩
 have hget:((h.push {cls:=.type "tuple",data:=.seq rest.toArray}).push
   {cls:=.ref C,data:=.fields #[.ref h.objs.size,.none,.none,.none,.bool false,.none]}).get? (h.objs.size+1)=some
   {cls:=.ref C,data:=.fields #[.ref h.objs.size,.none,.none,.none,.bool false,.none]}:=by heap_get
 have hcC:(Value.ref C::bm).contains (.ref C)=true:=by simp
 have T₁:=T.keeps (h':=(h.push {cls:=.type "tuple",data:=.seq rest.toArray}).push {cls:=.ref C,data:=.fields #[.ref h.objs.size,.none,.none,.none,.bool false,.none]})
  λb o e=>AC _ (AC _ e)
 unfold isInstance
 repeat (first | with_reducible refine Fd hget ?_ | (with_reducible refine wpAny_isSubtype_exc hC₁ ?_;rw [hcC]) | wp_step)
 show wpAny _ _ (typeLookup (.ref C) _) _ _ _;refine wpAny_typeLookup_tail hC₁ hn₁ T₁ F.mroIs F.init.lookup ?_;rw [hi];refine BF (AA ?_);unfold bindSpecial;refine AA (EQ (T:="function") ⟨_,hfI₁,hfc⟩ ?_);rw [AX (by decide)];refine AB (AA (Dg (Dh hq λr s' z=>?_)));cases r with
 | error e=>exact z
 | ok fl=>
  cases fl with
  | ret v=>
   obtain ⟨rfl,hQ⟩:=z
   wp_walk
   first | done | exact hQ
  | next=>exact z
  | brk=>exact z
  | cont=>exact z
theorem sL (F:ExcBaseFacts B newId initId bmB) (T:OwnTail h bmB bm) {mN:Str->Option Value} {rest:List Value} {fI:Addr} {oI:Obj} {Q:Value->Shared->Prop}
  (hC:h.get? C=some (excClassObj nm q C N bs bm hdct sn sub ab col dd k0 k1 k2 k3 k5 newId)) (hn:h.Ns N mN) (hi:mN "__init__"=some (.ref fI)) (hfI:h.get? fI=some oI) (hfc:oI.cls=.type "function")
  (hq:codeAny (model prog w) (A.under (.builtin "type.__call__" ⟨.ref C::rest,[]⟩)) (.call (.ref fI) ⟨.ref (h.objs.size+1)::rest,[]⟩) (λr s'=>match r with | .ok (.ret u)=>u=.none/\Q (.ref (h.objs.size+1)) s' | .ok _=>False | .error e=>E e s')
   ⟨(h.push {cls:=.type "tuple",data:=.seq rest.toArray}).push {cls:=.ref C,data:=.fields #[.ref h.objs.size,.none,.none,.none,.bool false,.none]},g,d,t,os⟩) (hrest:rest.length<=sizeLine):
  wpAny (model prog w) A (call (.ref C) rest) Q E ⟨h,g,d,t,os⟩:=by
 have f1:=tc_lookup;have f2:=tc_bind (.ref C);have hT:(⟨h,g,d,t,os⟩:Shared).TypeIs (.ref C) "type":=⟨_,hC,rfl⟩;refine Dg (codeAny_of_tree ?_);show wpAny _ _ (callAny (.ref C) _) _ _ _
 repeat (any_goals (first | assumption | with_reducible refine Fd hC ?_ | wp_step))
 refine ⟨rfl,?_⟩;exact codeAny_call_builtin_at (E3 _ (by decide +kernel)) entry_typeCall (wpAny_check_type_call_sub hC (jb F T hC hn hi hfI hfc hq hrest))
end
open PySem.W (findIn specialIn takesIn mroIn clsIn typeIn tailIn nsOkIn nsIn Looks)
def ExF (x C:Addr) (od:Option Addr) (h:Heap):Prop:= ∃ oe vs,h.get? x=some oe/\oe.cls=.ref C/\oe.data=.fields vs/\oe.dict=od/\vs[1]? =some .none
noncomputable def ExN (x C:Addr) (od:Option Addr):HO:=.ext (ExF x C od)
theorem pD {P:Program} {w:World} {H:Hp} {h:Heap} {x C:Addr} {od:Option Addr} (p:ExF x C od h):ObjOk P w H h x (ExN x C od):=by
 obtain ⟨oe,vs,e,p⟩:=p;exact ⟨⟨oe,vs,e,p⟩,⟨oe,e⟩,λh1 h2 ⟨o1,v1,a1,a2⟩ k=>⟨o1,v1,k o1 a1,a2⟩⟩
section
variable {X:Cx} {pins:List (Addr×Obj)} {σ:St} {H H':Hp} {s:Shared}
theorem Inv.put {h':Heap} {t:Nat} {as:List Addr} (I:Inv X pins σ H s) (ch: ∀ b,b∉as->H' b=H b) (k: ∀ b u,b∉as->s.heap.get? b=some u->h'.get? b=some u)
  (na: ∀ a∈as,s.heap.get? a=none\/ ∃ φ,H a=some (.ext φ)) (th: ∀ a∈as,∃ o,h'.get? a=some o) (ok: ∀ a∈as,∀ o,H' a=some o->ObjOk X.prog X.w H' h' a o):Inv X pins σ H' {s with heap:=h',toks:=t}:=by
 have out: ∀ b u,H b=some u->(∀ φ,u≠ .ext φ)->b∉as:=λb u e n z=>by
  rcases na b z with q | ⟨φ,q⟩
  ·rw [I.hok.none_of q]at e;cases e
  ·rw [q]at e;exact n φ (A0 e).symm
 have un:Un (frs X.stack) [] H H' s.heap h':=by
  have nas: ∀ b o,s.heap.get? b=some o->H b=none->b∉as:=λb o e n z=>by
   rcases na b z with q | ⟨φ,q⟩
   ·rw [q]at e;cases e
   ·rw [q]at n;cases n
  refine ⟨λb o e n _ _=>k b o (nas b o e n) e,λb o e n _ _=>⟨o.slots,k b o (nas b o e n) e⟩,λb o e n _=>by rw [ch b (nas b o e n)];exact n,λb o e _=>?_,λb xs e=>?_,λb o u e=>?_,λb ps e=>⟨#[],?_⟩⟩
  ·by_cases c:b∈as
   ·exact th b c
   ·exact ⟨o,k b o c e⟩
  ·rw [ch b (out b _ e λ_ z=>by cases z)];exact e
  ·rw [ch b (out b _ e λ_ z=>by cases z)];exact e
  ·rw [ch b (out b _ e λ_ z=>by cases z)];simpa using e
 have hok:HOk X.prog X.w H' h':=λa o e=>by
  by_cases c:a∈as
  ·exact ok a c o e
  ·rw [ch a c]at e;refine (I.hok a o e).stay (λb u hb q=>k b u ?_ q) (λb q=>?_) λb xs q=>?_
   ·rcases hb with z | z
    ·rw [z];exact c
    ·exact out b _ z λ_ z=>by cases z
   ·rw [ch b (out b _ q λ_ z=>by cases z)];exact q
   ·rw [ch b (out b _ q λ_ z=>by cases z)];exact q
 exact I.call (h':=h') (g':=s.gens) (d':=s.drawn) (t':=t) (ch:=[]) un hok I.bare (λb z=>absurd z (by simp))
end
section
variable {X:Cx} {CX:CXT} {k:Nat} {f C CB:Addr} {fd:FuncData} {ps:List Str} {sp:Sp} {E:XK} {x cb:Str} {p np ap pos:Pos} {e:Expr} {es:List Expr} {t:TA} {bmB:List Value} {newId initId B:String}
def xA (C:Addr) (sp:Sp) (E:XK) (t:TA):TE:=λσ H Q=>t σ H λvs H1=>vs.length<=sizeLine/\ ∀ x,H1 x=none->sp (.ref x::vs) (upd H1 x (ExN x C none)) (λv H2=>v=.non/\Q (.ref x) H2) E
theorem uq (F0:ExcBaseFacts B newId initId bmB) (q0:jD X.K C f bmB newId=true) (hfn:typeIn X.K (.ref f)=some (.type "function")) (kp:W.keepIn X.K (.ref C)=true)
  (F:a8 X.prog X.w X.K X.mg X.base CX k f fd ps sp) (hr:Room (k+1) X.A) (hg:Gl X x) (hm:X.mg x=some (.ref C)) (hb:Binds X.K fd ps []) (hx:fM CX X E)
  (ha:PA X (e::es) t) (hdb:(x==("__debug__":Str))=false:=by decide) (he:starEach (e::es) X.env=(false,eval e X.env)::starEach es X.env:=by rfl) (hpl:(backTo pos (starEach es X.env)).any (·.1)=false:=by rfl):
  PE X (.Call (.Name x p) (e::es) [] pos) (xA C sp E t):=by
 intro pins s σ H Q I h;refine Cu (dR I hg hm ?_ hdb);refine Di (h₀:=X.base) I.ok.mod.kin kp (thn (ha pos pins s σ H _ I h) λus s1 ⟨vs,H1,I1,r,hl,q⟩=>⟨I1.kIn,?_⟩) he hpl;obtain ⟨bm,N,nm,qn,bs,hd,sn,sub,ab,col,dd,k0,k1,k2,k3,k5,mN,hC,⟨hN,hni⟩,T⟩:=qw I1.kIn q0;obtain ⟨oI,hfI,hfc⟩: ∃ oI,s1.heap.get? f=some oI/\oI.cls=.type "function":=by
  obtain ⟨o,ho,hc⟩:=Bw.mp hfn;exact ⟨o,I1.kIn _ _ ho,hc⟩
 have hq:=q (s1.heap.objs.size+1) (I1.hok.fresh (Nat.le_succ _));have kk: ∀ b u,s1.heap.get? b=some u->((s1.heap.push {cls:=.type "tuple",data:=.seq us.toArray}).push {cls:=.ref C,data:=.fields #[.ref s1.heap.objs.size,.none,.none,.none,.bool false,.none]}).get? b=some u:=λb u e=>AC _ (AC _ e);have hget:((s1.heap.push {cls:=.type "tuple",data:=.seq us.toArray}).push {cls:=.ref C,data:=.fields #[.ref s1.heap.objs.size,.none,.none,.none,.bool false,.none]}).get? (s1.heap.objs.size+1)=some {cls:=.ref C,data:=.fields #[.ref s1.heap.objs.size,.none,.none,.none,.bool false,.none]}:=by heap_get
 have I2:Inv X pins σ (upd H1 (s1.heap.objs.size+1) (ExN (s1.heap.objs.size+1) C none)) {s1 with heap:=(s1.heap.push {cls:=.type "tuple",data:=.seq us.toArray}).push {cls:=.ref C,data:=.fields #[.ref s1.heap.objs.size,.none,.none,.none,.bool false,.none]},toks:=s1.toks}:=by
  refine I1.put (as:=[s1.heap.objs.size+1]) (λb hb=>ah λz=>hb (by rw [z];exact AE.mpr rfl)) (λb u _ e=>kk b u e) (λa ha=>?_) (λa ha=>?_) λa ha o eo=>?_ <;> rw [AE.mp ha]at *
  ·exact .inl (C3 (Nat.le_succ _))
  ·exact ⟨_,hget⟩
  ·rw [ad]at eo;cases eo;exact pD ⟨_,_,hget,rfl,rfl,rfl,rfl⟩
 have r2:Vals (V.ref (s1.heap.objs.size+1)::vs) (Value.ref (s1.heap.objs.size+1)::us):=.cons rfl r;have hl2:((Value.ref (s1.heap.objs.size+1)::us)++[]).length=ps.length:=by
  rw [Bh,<- r2.length];exact F.len _ _ _ _ hq
 have hb2:=hb _ (Value.ref (s1.heap.objs.size+1)::us) I2.kIn hl2;rw [Bh]at hb2;refine sL F0 T hC hN hni hfI hfc (Dh (F.run _ X.stack _ _ ⟨Value.ref (s1.heap.objs.size+1)::us,[]⟩ (Value.ref (s1.heap.objs.size+1)::us) _ _ E (hr.make C us []) (I2.env0.make C us []) hb2 r2 hq) λr s' hq'=>?_) (by show us.length<=_;rw [<- r.length];exact hl);cases r with
 | error e=>exact hx pins σ _ _ e s' I2 hq'
 | ok fl=>
  cases fl with
  | ret u=>
   obtain ⟨v,H',I3,rv,ev,q3⟩:=I2.after hq';subst ev;exact ⟨rv,V.ref (s1.heap.objs.size+1),H',I3,rfl,q3⟩
  | next=>exact False.elim hq'
  | brk=>exact False.elim hq'
  | cont=>exact False.elim hq'
end
open PySem.W (findIn specialIn takesIn mroIn clsIn typeIn tailIn nsOkIn nsIn Looks)
section
variable {X:Cx} {C CB f:Addr} {cb:Str} {np ap pos:Pos} {e:Expr} {es:List Expr} {t:TA} {bmB:List Value} {newId initId B:String}
def xG (C:Addr) (t:TA):TE:=λσ H Q=>t σ H λvs H1=>vs.length<=sizeLine/\ ∃ x r od,vs=.ref x::r/\H1 x=some (ExN x C od)/\Q .non H1
theorem uv {pl:Sem Bool} (F0:ExcBaseFacts B newId initId bmB) (q0:jD X.K C f bmB newId=true) (hg:Gl X cb) (hm:X.mg cb=some (.ref CB)) (hga:specialIn X.K (.ref CB) "__getattribute__"=some (some (.builtin "type.__getattribute__")))
  (hr:W.readsIn X.K CB (.type "type")=true) (hf:W.findCls X.K (.ref CB) (.type "type") "__init__"=some (.val (.builtin initId))) (hh:W.handedIn (.builtin initId)=true) (ha:PA X (e::es) t)
  (ht:eval (.Call (.Attribute (.Name cb np) "__init__" ap) (e::es) [] pos) X.env=(do
   let ov <- eval (.Name cb np) X.env
   standAt ap.atName
   let (f,first) <- holding [ov] (getMethod ov "__init__" pl)
   callWith pos f first (backTo pos (starEach (e::es) X.env)) (backToKw pos (keywordEach [] X.env))):=by rfl)
  (hdb:(cb==("__debug__":Str))=false:=by decide) (he:starEach (e::es) X.env=(false,eval e X.env)::starEach es X.env:=by rfl) (hpl:(backTo pos (starEach es X.env)).any (·.1)=false:=by rfl):
  PE X (.Call (.Attribute (.Name cb np) "__init__" ap) (e::es) [] pos) (xG C t):=by
 intro pins s σ H Q I h;refine W.methodCall_KW (pl:=pl) (dR I hg hm ?_ hdb) ht;refine W.method_cls I.kIn hga (W.cls_value I.kIn hr hf hh ?_);have I0:Inv X pins σ H {s with toks:=s.toks+1}:=I.tok _;refine Ew (thn (ha pos pins _ σ H _ I0 h) λus s1 ⟨vs,H1,I1,r,hl,x,rv,od,ev,hx,q⟩=>?_) he hpl;subst ev;cases r with
 | @cons _ u _ us' r1 r2=>
  obtain rfl:u=Value.ref x:=r1;obtain ⟨bm,N,nm,qn,bs,hd,sn,sub,ab,col,dd,k0,k1,k2,k3,k5,mN,hC,⟨hN,hni⟩,T⟩:=qw I1.kIn q0;obtain ⟨oe,ws,ho,hcls,hdt,hod,h1⟩:=(show ObjOk X.prog X.w H1 s1.heap x (ExN x C od)from I1.hok x _ hx).1;have hl2:us'.length<=sizeLine:=by rw [<- r2.length];exact Nat.le_of_succ_le hl
  have hsz:0<ws.size:=Nat.lt_trans Nat.zero_lt_one (Cj.mp h1).1;refine Dg (C5 F0.init.plain F0.initEntry (wpAny_check_init_subT F0 T hC ho hcls ?_));show wpAny _ _ (Builtin.«BaseException.__init__» ⟨.ref x::us',[]⟩) _ _ _;have e0:ws[0]? =some ws[0]:=by simp [hsz]
  have ho2:=AC {cls:=.type "tuple",data:=.seq us'.toArray} ho;have I2:Inv X pins σ H1 {s1 with heap:=(s1.heap.push {cls:=.type "tuple",data:=.seq us'.toArray}).update x (Obj.mapFields (·.setIfInBounds 0 (.ref s1.heap.objs.size))),toks:=s1.toks}:=by
   have hd':=BJ hdt (·.setIfInBounds 0 (Value.ref s1.heap.objs.size));have g1:=BW (Obj.mapFields (·.setIfInBounds 0 (Value.ref s1.heap.objs.size))) ho2 (Ct hd');refine I1.put (as:=[x]) (λ_ _=>rfl) (λb u hb eb=>?_) (λa ha=>?_) (λa ha=>?_) λa ha o eo=>?_
   ·rw [B1 _ _ λz=>hb (by rw [z];exact AE.mpr rfl)];exact AC _ eb
   ·rw [AE.mp ha];exact .inr ⟨_,hx⟩
   ·rw [AE.mp ha];exact ⟨_,g1⟩
   ·rw [AE.mp ha]at eo ⊢;rw [hx]at eo;cases eo;exact pD ⟨_,_,g1,(Dy _ _).trans hcls,hd',(kz _).trans hod,by simpa using h1⟩
  unfold Builtin.«BaseException.__init__» Builtin.BaseException.bexcPut;refine AA (wpAny_newTuple ?_ hl2);refine AA (AA (Bp ho2 hdt e0 (AA (B9 ho2 hdt hsz ?_))));have fin:EP X pins σ Q .none {s1 with heap:=(s1.heap.push {cls:=.type "tuple",data:=.seq us'.toArray}).update x (Obj.mapFields (·.setIfInBounds 0 (.ref s1.heap.objs.size))),toks:=s1.toks}:=⟨.non,H1,I2,rfl,q⟩;split
  ·exact FA (AB fin)
  ·exact AB (AB fin)
end
open PySem.W (findIn specialIn takesIn mroIn clsIn typeIn tailIn nsOkIn nsIn Looks)
open PySem.Builtin PySem.Builtin.ObjectAttr
noncomputable def kq:List Value->Bool
 | .ref _::r=>kq r
 | l=>l==[.type "ValueError",.type "Exception",.type "BaseException",.type "object"]
theorem cM {l:List Value} (h:l==[.type "ValueError",.type "Exception",.type "BaseException",.type "object"]):l=[.type "ValueError",.type "Exception",.type "BaseException",.type "object"]:=Dk.mp h
theorem qc (self:Value): ∀ {l:List Value},kq l=true->refuseLoop self "__setattr__" l=pure ()
 | .ref c::r,e=>by rw [refuseLoop_ref];exact qc self (l:=r) e
 | [],e=>by rw [cM e];exact PySem.F.store_ValueError.passes self
 | .type _::_,e=>by rw [cM e];exact PySem.F.store_ValueError.passes self
 | .none::_,e=>by rw [cM e];exact PySem.F.store_ValueError.passes self
 | .bool _::_,e=>by cases cM e
 | .int _ _::_,e=>by cases cM e
 | .float _ _::_,e=>by cases cM e
 | .str _ _::_,e=>by cases cM e
 | .builtin _::_,e=>by cases cM e
theorem ko: ∀ {l:List Value},kq l=true->l.contains (.type "object")=true/\l.isEmpty=false
 | .ref c::r,e=>⟨by rw [List.contains_cons,(ko (l:=r) e).1,Bool.or_true],rfl⟩
 | .type n::r,e=>by rw [cM e];exact ⟨by decide,rfl⟩
section
variable {prog:Program} {w:World} {A:Around} {E:Value->Shared->Prop} {K:W.Frag} {x C:Addr}
theorem wo {s:Shared} {o:Obj} {vs:Array Value} {name:Str} {tk:Tok} {v:Value} {R:Result->Shared->Prop} (X:K.In s.heap) (hx:s.heap.get? x=some o) (hc:o.cls=.ref C) (hd:o.data=.fields vs) (hn:o.dict=none)
  (hp:(clsIn K C).any (λcd=>kq cd.mro)=true) (ht:W.takerIn K C name=some none) (hh:W.hasDictIn K C=true)
  (k: ∀ h' o',h'.get? x=some o'->o'.cls=.ref C->o'.data=.fields vs->o'.dict=some s.heap.objs.size->h'.Ns1 s.heap.objs.size (λy=>if y=name then some v else none)->(∀ b u,b≠x->s.heap.get? b=some u->h'.get? b=some u)-> ∀ t,R (.ok (.ret .none)) {s with heap:=h',toks:=t}):
  codeAny (model prog w) A (.call (.builtin "object.__setattr__") ⟨[.ref x,.str name tk,v],[]⟩) R s:=by
 have J:W.InstAt s.heap x o C none:=⟨hx,hc,by unfold W.notCls;rw [hd],by rw [hn];trivial⟩;have SF:=PySem.F.store_object;obtain ⟨cd,hcd,ho⟩:=W.any_some hp;obtain ⟨oc,oe⟩:=ko ho;have sub:Looks (model prog w) s.heap (isInstance (.ref x) (.type "object")) true:=J.type.andThen (EO X (by unfold W.mroIn;rw [hcd,Option.bind_some,AQ (by rw [oe];decide),oc]));refine C5 SF.slot.plain SF.entry (@W.check_slot (model prog w) _ _ s "object.__setattr__" "object" "__setattr__" (.ref x) [.str name tk,v] [] _ SF.kind SF.split sub (SF.args (.ref x) (.str name tk) v) ?_);obtain ⟨attr,ha,hr⟩:=Option.bind_eq_some_iff.mp ht;have hm:Looks (model prog w) s.heap (mroOf (.ref C)) cd.mro:=(W.looks_clsIn X hcd).andThen .now;have L3:Looks (model prog w) s.heap (storeTaker? attr) none:=by
  cases attr with
  | none=>exact .now
  | some a=>
   obtain ⟨b,hb,hbb⟩:=Bw.mp hr;refine (W.looks_takesIn X hb).andThen ?_;cases b
   ·exact .now
   ·cases hbb
 rw [W.osa_eq,refuse_eq];refine AA (AA (J.type.here (AA (hm.here ?_))));rw [qc _ ho];refine AB (AA (J.type.here (AA ((EG X ha).here (AA (L3.here ?_))))));obtain ⟨cd',hc',hd'⟩:=W.any_some hh;obtain ⟨oc,od,odt,osl⟩:=o;dsimp only at hc hd hn;subst hc hd hn;refine AA (AB (AA (AA (wpAny_loadPart hx (AA ((W.looks_clsIn X hc').here ?_))))));rw [hd'];obtain ⟨h,g,d,t,os⟩:=s;dsimp only at hx k;have hx₁:(h.push {cls:=.type "dict",data:=.dict #[]}).get? x=some ⟨.ref C,none,.fields vs,osl⟩:=AC _ hx;have hxs:x≠h.objs.size:=Bf (AN hx);rw [AQ (by simp)];dsimp only;rw [AQ (by simp [typeHasDict])];refine AA (wpAny_alloc' ?_);refine AA (wpAny_update' hx₁ ?_);have hgd:((h.push {cls:=.type "dict",data:=.dict #[]}).update x λo=>{cls:=o.cls,dict:=some h.objs.size,data:=o.data,slots:=o.slots}).get? h.objs.size=some {cls:=.type "dict",data:=.dict #[]}:=
  (Heap.get?_update_ne _ _ _ _ hxs.symm).trans (Heap.get?_push_at rfl rfl)
 have hnd:((h.push {cls:=.type "dict",data:=.dict #[]}).update x λo=>{cls:=o.cls,dict:=some h.objs.size,data:=o.data,slots:=o.slots}).Ns h.objs.size (λ_=>none):=
  ⟨_,#[],_,hgd,rfl,λe he=>absurd he (by simp),λ_=>rfl⟩
 have hx2:=BW (λo=>{cls:=o.cls,dict:=some h.objs.size,data:=o.data,slots:=o.slots}) hx₁ rfl;refine AB ?_;show wpAny _ _ (storeInDict h.objs.size (.str name tk) name v) _ _ _;unfold storeInDict newKeyGuard;refine AA (AB (AA (wpAny_nsSet1 (Heap.Ns1.of_empty hnd) λh' hn' hs=>?_)));obtain ⟨oD,esD,epD,hoD,hdD,hcD⟩:=hn'.count (Within.cons name v Within.nil);refine AA (wpAny_lookBehind hoD (by rw [hdD];exact pastItsLine_dict (Bm hcD (by rw [AM,Fv,E5];lia))) ?_)
 wp_walk
 exact k h' _ ((hs.2 x hxs).trans hx2) rfl rfl rfl hn' (λb u hb e=>(hs.2 b (Bf (AN e))).trans ((Heap.get?_update_ne _ _ _ _ hb).trans (AC _ e))) _
end
open PySem.W (findIn specialIn takesIn mroIn clsIn typeIn tailIn nsOkIn nsIn Looks)
open PySem.Builtin PySem.Builtin.ObjectAttr
noncomputable def del (H:Hp) (x:Addr):Hp:=λb=>if b=x then none else H b
theorem nF {H:Hp} {x:Addr}:del H x x=none:=AX rfl
theorem pF {H:Hp} {x b:Addr} (h:b≠x):del H x b=H b:=AQ h
structure vG (K:W.Frag) (C:Addr) (fl:Str):Prop where
 sa:findIn K (.ref C) "__setattr__"=some (some (.builtin "object.__setattr__"))
 ov:(clsIn K C).any (λcd=>kq cd.mro)=true
 na:findIn K (.ref C) fl=some none
 hd:W.hasDictIn K C=true
section
variable {X:Cx} {C:Addr} {fl:Str} {o value:Expr} {pos pos':Pos} {ta tv:TE}
def yY (C:Addr) (fl:Str) (ta tv:TE):TS:=λD σ H=>tv σ H λy H1=>ta σ H1 λv H2=> ∃ x,v=.ref x/\H2 x=some (ExN x C none)/\ ∀ d,H2 d=none->d≠x->D.nx σ (upd (upd H2 x (ExN x C (some d))) d (.xd [(fl,y)]))
theorem v7 (Z:vG X.K C fl) (ha:PE X o ta) (hv:PE X value tv) (hs:swapsWith value (some (.Attribute o fl pos')) pos.line X.env=pure false):PS X (.Assign [.Attribute o fl pos'] value pos) (yY C fl ta tv):=by
 intro pins s σ H D I h;refine plainObj_wpAny_Assign_Attribute (thn (hv pins s σ H _ I h) λu s1 ⟨y,H1,I1,ry,q⟩=>thn (ha pins s1 σ H1 _ I1 q) λov s2 ⟨v,H2,I2,rx,x,ev,hx,q2⟩=>?_) hs;subst ev;obtain rfl:ov=Value.ref x:=rx;obtain ⟨oe,ws,ho,hcls,hdt,hod,h1⟩:=(show ObjOk X.prog X.w H2 s2.heap x (ExN x C none)from I2.hok x _ hx).1;have hxs:s2.heap.objs.size≠x:=Cz (AN ho);have hD:H2 s2.heap.objs.size=none:=I2.hok.fresh (AJ _);have J:W.InstAt s2.heap x oe C none:=⟨ho,hcls,by unfold W.notCls;rw [hdt],by rw [hod];trivial⟩;have ht:W.takerIn X.K C fl=some none:=by unfold W.takerIn;rw [Z.na];rfl
 refine W.set_plain I2.kIn J Z.sa (wo (s:={s2 with toks:=s2.toks+1}) I2.kIn ho hcls hdt hod Z.ov ht Z.hd λh' o' e1 e2 e3 e4 hn kp t=>?_);refine ⟨σ,_,(I2.tok (s2.toks+1)).put (as:=[x,s2.heap.objs.size]) (h':=h') (t:=t) (λb hb=>?_) (λb u hb e=>?_) (λa ha=>?_) (λa ha=>?_) (λa ha oo eo=>?_),q2 _ hD hxs⟩
 ·rw [ah λz=>hb (by rw [z];simp),ah λz=>hb (by rw [z];simp)]
 ·exact kp b u (λz=>hb (by rw [z];simp)) e
 ·rcases AY.mp ha with z | z
  ·rw [z];exact .inr ⟨_,hx⟩
  ·rw [AE.mp z];exact .inl (C3 (AJ _))
 ·rcases AY.mp ha with z | z
  ·rw [z];exact ⟨_,e1⟩
  ·rw [AE.mp z];obtain ⟨od,_,_,e,_⟩:=hn;exact ⟨_,e⟩
 ·rcases AY.mp ha with z | z
  ·rw [z,ah (Bg hxs),ad]at eo;cases eo;rw [z];exact pD ⟨_,_,e1,e2,e3,e4,h1⟩
  ·rw [AE.mp z,ad]at eo;cases eo;rw [AE.mp z];refine ⟨_,hn,λf=>?_⟩;by_cases c:f=fl
   ·subst c;show RelO (List.lookup f [(f,y)]) (if f=f then some u else none);rw [AX rfl,List.lookup_cons_self];exact ry
   ·rw [AQ c];show RelO (match f==fl with | true=>some y | false=>none) none;rw [B2.mpr c];trivial
end
structure RaC (K:W.Frag) (C:Addr):Prop where
 m:mroIn K C (.type "BaseException")=some true
 ty:typeIn K (.ref C)=some (.type "type")
section
variable {X:Cx} {C:Addr} {e:Expr} {pos:Pos} {te:TE} {E:XK}
theorem qi {M:Model} {h:Heap} {x:Addr} {o:Obj} (ho:h.get? x=some o) (hn:W.notCls o=true):Looks M h (isType (.ref x)) false:=by
 intro A Q E s k q;unfold isType loadHead;refine AA (wpAny_loadPart (k _ _ ho) ?_);obtain ⟨c,d,dt,sl⟩:=o;cases dt <;> first | exact AB q | cases hn
def vK (C:Addr) (Hs:Hp) (E:XK) (te:TE):TS:=λ_ σ H=>te σ H λv H1=> ∃ x od,v=.ref x/\H1 x=some (ExN x C od)/\Hs x=none/\E (.ref C) od (del H1 x)
theorem rk {Hs:Hp} (hc:X.calm=true) (Z:RaC X.K C) (he:PE X e te)
  (hx: ∀ (pins:List (Addr×Obj)) (σ:St) (H:Hp) (s:Shared) (x:Addr) (od:Option Addr),Inv X pins σ H s->H x=some (ExN x C od)->Hs x=none->E (.ref C) od (del H x)->X.xe (.ref x) s):
  PS X (.Raise (some e) none pos) (vK C Hs E te):=by
 intro pins s σ H D I h;rw [arm_exec_Raise];refine AA (CO ?_);unfold raiseStmt;refine AA ?_;show wpAny _ _ (do let v <- eval e X.env;standAt pos;pure v) _ _ _;refine AA (thn (he pins s σ H _ I h) λu s1 ⟨v,H1,I1,r,x,od,ev,hx1,hs,q⟩=>AA (CO (AB ?_)));subst ev;obtain rfl:u=Value.ref x:=r;obtain ⟨oe,ws,ho,hcls,hdt,hod,h1⟩:=(show ObjOk X.prog X.w H1 s1.heap x (ExN x C od)from I1.hok x _ hx1).1;have hn:W.notCls oe=true:=by unfold W.notCls;rw [hdt]
 have L0:Looks (model X.prog X.w) s1.heap (typeOf (.ref x)) (.ref C):=hcls▸(Looks.ld (part:=some headPart) ho).andThen .now;have L1:Looks (model X.prog X.w) s1.heap (isExcClass (.ref x)) false:=(qi ho hn).andThen .now;have L2:Looks (model X.prog X.w) s1.heap (isInstance (.ref x) (.type "BaseException")) true:=L0.andThen (EO I1.kIn Z.m);have L3:=W.looks_typeIn (M:=model X.prog X.w) I1.kIn Z.ty;refine AA (AB (AA (BF ?_)));unfold excFromValue;refine AA (L1.here ?_);rw [AQ (by decide)];refine AA (L2.here ?_);rw [AX rfl];refine AB ?_;refine AA ((qi ho hn).here ?_);rw [AQ (by decide)];unfold raisedInstance;refine AA (AA (L0.here (AA (L3.here ?_))));rw [AX (by decide)];refine AB ?_;unfold setFlight;refine AA (AA (Bp ho hdt h1 ?_));rw [AQ (by decide)];exact AB (wpAny_raiseNew_none (I1.ok.hd hc) (hx pins σ H1 s1 x od I1 hx1 hs q))
end
section
variable {P:Program} {w:World} {K:W.Frag} {mg:Str->Option Value} {base:Heap} {N:List Str} {qual:Str} {scope:Scope} {f:Addr} {cd:Value} {A:Around} {outer:List Env} {s:Shared} {H:Hp} {E:XK} {C:Addr}
theorem pz {CX:CXT} {pins:List (Addr×Obj)} {σ:St} {H1:Hp} {s1:Shared} {x:Addr} {od:Option Addr} (I:Inv (cG CX P w K mg base N qual scope f cd A outer s H E) pins σ H1 s1)
  (hx:H1 x=some (ExN x C od)) (hs:H x=none) (q:E (.ref C) od (del H1 x)) (hi: ∀ e s',CX1 P w C outer H s E e s'->CX outer H s E e s':=by exact λ_ _ z=>z):(cG CX P w K mg base N qual scope f cd A outer s H E).xe (.ref x) s1:=by
 obtain ⟨oe,ws,ho,hcls,hdt,hod,h1⟩:=(show ObjOk P w H1 s1.heap x (ExN x C od)from I.hok x _ hx).1;have nx:s.heap.get? x=none:=by
  cases r:s.heap.get? x with
  | none=>rfl
  | some o=>rw [I.base.free x o r hs (by intro z;cases z)]at hx;cases hx
 have J:Inv (cG CX P w K mg base N qual scope f cd A outer s H E) pins σ (del H1 x) {s1 with heap:=s1.heap,toks:=s1.toks}:=by
  refine I.put (as:=[x]) (λb hb=>pF λz=>hb (by rw [z];simp)) (λb u _ e=>e) (λa ha=>?_) (λa ha=>?_) λa ha o eo=>?_ <;> rw [AE.mp ha]at *
  ·exact .inr ⟨_,hx⟩
  ·exact ⟨_,ho⟩
  ·rw [nF]at eo;cases eo
 exact iO (base:=base) J.ok.frames J.stack rfl ho hcls hod hdt h1 λh2 L=>hi _ _ (i5 J nF nx (λ_ z=>absurd z (by simp)) L q)
end
open PySem.W (findIn specialIn takesIn mroIn clsIn typeIn Looks)
open PySem.Builtin PySem.Builtin.ObjectAttr
section
variable {prog:Program} {w:World} {A:Around} {E:Value->Shared->Prop} {K:W.Frag} {x C:Addr} {ox:Obj} {od:Option Obj} {name:Str} {v:Value}
theorem sV {s:Shared} {tk:Tok} {Q:Fin->Shared->Prop} (X:K.In s.heap) (I:W.InstAt s.heap x ox C od) (hf:W.findObj K C od name=some (.value v)) (h:Q (.done (.ret v)) s):
  wpAny (model prog w) A (Builtin.«object.__getattribute__» ⟨[.ref x,.str name tk],[]⟩) Q E s:=by
 obtain ⟨hh,g,dr,t,os⟩:=s;have L0:=I.type (M:=model prog w);have L1:=W.looks_find (M:=model prog w) X I hf;unfold Builtin.«object.__getattribute__»;refine AA (AB ?_);refine AA (AB ?_);refine AA (L0.at ?_);refine AA (L1.at ?_);exact AB h
theorem yH {s:Shared} {tk:Tok} {R:Result->Shared->Prop} (X:K.In s.heap) (hb:mroIn K C (.type "BaseException")=some true) (I:W.InstAt s.heap x ox C od) (hf:W.findObj K C od name=some (.value v)) (h:R (.ok (.ret v)) s):
  codeAny (model prog w) A (.call (.builtin "BaseException.__getattribute__") ⟨[.ref x,.str name tk],[]⟩) R s:=by
 refine C5 PySem.F.attr_ValueError.ga.plain PySem.F.entry_bexc_ga ?_;have L2:Looks (model prog w) s.heap (isInstance (.ref x) (.type "BaseException")) true:=I.type.andThen (EO X hb);have hk:builtinKind "BaseException.__getattribute__"=some .slot:=by decide +kernel
 have hsp:splitId "BaseException.__getattribute__"=some ("BaseException","__getattribute__"):=by decide +kernel
 have ha:=PySem.F.args_bexc_ga (.ref x) (.str name tk);simp only [checkBuiltinCall,hk,hsp];refine AA (L2.at ?_);rw [AQ (by decide)]
 repeat (first | exact sV X I hf h | wp_step)
theorem xu {s:Shared} {expr:Bool} {Q:Value->Shared->Prop} (X:K.In s.heap) (Z:ExC K C) (I:W.InstAt s.heap x ox C od) (hf:W.findObj K C od name=some (.value v)) (hh:W.handedIn v=true)
  (h:Q v {s with toks:=s.toks+1}):wpAny (model prog w) A (getAttr (.ref x) name expr) Q E s:=by
 obtain ⟨hp,g,d,t,os⟩:=s;have L0:=I.type (M:=model prog w);have L1:=EG (M:=model prog w) X Z.ga;have L2:Looks (model prog w) hp (typeLookup (.ref C) "__getattr__") none:=EG X Z.gno;unfold getAttr getAttrBy;refine AA (wpAny_mkText (BF (AA (L0.at (AA (L1.at ?_))))));have hn0:(Value.builtin "BaseException.__getattribute__"==Value.builtin "object.__getattribute__")=false:=by decide +kernel
 have hne:(onTheHeap (Value.ref C)&&Value.builtin "BaseException.__getattribute__"==Value.builtin "object.__getattribute__")=false:=by rw [hn0];rfl
 simp only [hne];rw [AQ (by decide)];unfold getAttrByItsOwn hookBefore callGetattribute boundAndCalled;rw [AX (show onTheHeap (Value.ref C)=true from rfl)];refine AA (Looks.at (h:=hp) L2 (AA (Cf (BF ?_))));rw [show (expr&&onTheHeap (Value.builtin "BaseException.__getattribute__"))=false from Bool.and_false _,AQ (by decide),PySem.F.attr_ValueError.ga.bind (.ref x)];refine AA (AB (Dg (yH (s:=⟨hp,g,d,t+1,os⟩) X Z.ba I hf ?_)));show wpAny _ _ (handedOut v) _ _ _;rw [W.handedOut_of hh];exact AB h
end
section
variable {X:Cx} {C:Addr} {fl:Str} {o:Expr} {pos:Pos} {ta:TE}
def yK (C:Addr) (fl:Str) (ta:TE):TE:=λσ H Q=>ta σ H λv H1=> ∃ x d fs y,v=.ref x/\H1 x=some (ExO x C (some d))/\H1 d=some (.xd fs)/\fs.lookup fl=some y/\Q y H1
theorem wm (Z:ExC X.K C) (S:vG X.K C fl) (he:PE X o ta) (hb:attributeBase o fl X.env (eval o X.env)=eval o X.env):PE X (.Attribute o fl pos) (yK C fl ta):=by
 intro pins s σ H Q I h;refine w6 hb (thn (he pins s σ H _ I h) λu s1 ⟨v,H1,I1,rv,x,d,fs,y,ev,hx,hd,hl,q⟩=>?_);subst ev;obtain rfl:u=Value.ref x:=rv;obtain ⟨oe,ws,ho,hcls,hdt,hod⟩:=(show ObjOk X.prog X.w H1 s1.heap x (ExO x C (some d))from I1.hok x _ hx).1;obtain ⟨mA,hn,hr⟩:=(show ObjOk X.prog X.w H1 s1.heap d (.xd fs)from I1.hok d _ hd);obtain ⟨dO,hdO,hlk⟩:=kA hn;have hy:=hr fl;rw [hl]at hy;obtain ⟨u,eu,ru⟩:=RelO.some_of hy;have J:W.InstAt s1.heap x oe C (some dO):=⟨ho,hcls,by unfold W.notCls;rw [hdt],by rw [hod];exact hdO⟩;exact xu I1.kIn Z J (W.findObj_own S.hd S.na rfl (by rw [hlk,eu])) (sB ru) ⟨y,H1,I1.tok _,ru,q⟩
end
theorem uP {M:Model} {A:Around} {E:Value->Shared->Prop} {s:Shared} {env env':Env} {e:Value} {Q:Unit->Shared->Prop} (h:env'.frame=env.frame) (w:wpAny M A (noteFrame e env) Q E s):wpAny M A (noteFrame e env') Q E s:=by
 have e1:PySem.frameOf env'=PySem.frameOf env:=by unfold PySem.frameOf;rw [h]
 have e2:noteFrame e env'=noteFrame e env:=by unfold noteFrame;rw [h,e1]
 rw [e2];exact w
def xb (X:Cx) (E:XK) (C L:Addr) (s3:Shared) (H3:Hp) (ex:List Addr) (e:Value) (s':Shared):Prop:= ∃ x od T H2,e=.ref x/\s'.os=s3.os/\AllBare s'.gens/\
 Fl X.prog X.w C od .none X.stack ex H3 s3.heap x T H2 s'.heap/\(∃ m,s'.heap.Ns L m)/\L≠x/\L≠T/\s3.heap.objs.size<=L/\L∉frs X.stack/\H2 L=none/\E (.ref C) od H2
section
variable {X:Cx} {E:XK} {C L:Addr} {x:Str} {ys:List Str} {scope:Scope} {s3:Shared} {H3:Hp} {ex:List Addr} {pn:List (Addr×Obj)}
theorem zo (hpn: ∀ b∈ex,∃ o,(b,o)∈pn):fM (CX1 X.prog X.w C) (bM X x ys scope L s3 H3 ex pn (xb X E C L s3 H3 ex)) E:=by
 intro pins σ H1 s1 e s2 I c;obtain ⟨a,T,od,H2,rfl,os,bare,un,hok,rc,nx,nT,fx,fT,q⟩:=c;obtain ⟨m,⟨o,es,ep,ho,hns⟩,_⟩:=I.loc;have ho:s1.heap.get? L=some o:=ho;have fL:H1 L=none:=I.free;have B:Un (frs X.stack) ex H3 H1 s3.heap s1.heap:=I.base;have un:Un (frs X.stack) [] H1 H2 s1.heap s2.heap:=un;have hexs: ∀ b∈ex,∃ o,s1.heap.get? b=some o/\H1 b=none:=λb hb=>by
  obtain ⟨o,hm⟩:=hpn b hb;have p:=I.pin (b,o) (Bo _ hm);exact ⟨o,p.1,p.2.1⟩
 have old: ∀ b,s1.heap.get? b=none->s3.heap.get? b=none:=λb z=>by
  cases r:s3.heap.get? b with
  | none=>rfl
  | some o=>
   by_cases hb:b∈ex
   ·obtain ⟨o1,e1,_⟩:=hexs b hb;rw [z]at e1;cases e1
   ·obtain ⟨o1,e1⟩:=B.there b o r hb;rw [z]at e1;cases e1
 have hL:s3.heap.objs.size<=L:=I.ok.above;have nLf:L∉frs X.stack:=λz=>by
  obtain ⟨_,o',ho',_⟩:=I.ok.funs.mem z;exact Fu.mpr (AN ho') hL
 have hL2:s2.heap.get? L=some o:=un.keep L o ho fL nLf (by simp);refine ⟨a,od,T,H2,rfl,os.trans I.os,bare,⟨?_,hok,rc,old a nx,old T nT,fx,fT,λb hb=>?_⟩,⟨m,o,es,ep,hL2,hns⟩,λz=>?_,λz=>?_,hL,nLf,un.free L o ho fL (by simp),q⟩
 ·exact B.trans (un.mono (λ_ z=>z) (by simp))
 ·obtain ⟨o1,e1,n1⟩:=hexs b hb;obtain ⟨sl,e2⟩:=un.any e1 n1 (by simp);exact AN e2
 ·rw [z,nx]at ho;cases ho
 ·rw [z,nT]at ho;cases ho
theorem vx {pins:List (Addr×Obj)} {σ:St} {p:Addr} {use:Option (Value->Sem Unit)} {Qv:Value->Shared->Prop} {cenv:Env} (hst:X.stack=X.env::X.outer) (hfr:X.env.frame=some X.env.locals) (hex0:X.ex=[]) (hcl:cenv.frame=X.env.frame)
  (hXe: ∀ (x:Addr) (od:Option Addr) (fl:Value) (T:Addr) (H2:Hp) (s':Shared),Inv X pins σ H2 s'->Rec s'.heap x C od fl T->H2 x=none->H2 T=none->X.s₀.heap.get? x=none->X.s₀.heap.get? T=none->E (.ref C) od H2->X.xe (.ref x) s')
  (I3:Inv X pins σ H3 s3) (hch: ∀ b∈ex,(b∈X.ex\/X.s₀.heap.objs.size<=b)/\b≠X.env.locals/\(∀ x c,X.env.cells.lookup x=some c->c≠b)/\ ∀ p∈X.pn++pins,p.1≠b) {e:Value} {s':Shared} (z:xb X E C L s3 H3 ex e s'):
  notedBy (model X.prog X.w) X.A cenv (λe s''=>compPost (model X.prog X.w) X.A X.xe use Qv (.ref p) L (.error e) s'') e s':=by
 obtain ⟨x,od,T,H2,rfl,os,bare,F,⟨m,hm⟩,n1,n2,hL,nLf,fL,q⟩:=z;have nex: ∀ b∈frs X.stack,b∉ex:=λb hb hx=>by
  obtain ⟨h1,h2,_⟩:=hch b hx;rw [hex0]at h1;rcases AY.mp (I3.stkSub b hb)with z | z
  ·exact h2 z
  ·obtain ⟨_,o,ho,_⟩:=I3.ok.funs.mem z;rcases h1 with h1 | h1
   ·cases h1
   ·exact Fu.mpr (AN ho) h1
 have fr: ∀ b∈frs X.stack,H2 b=none:=λb hb=>by
  obtain ⟨_,o,e,_⟩:=I3.stack.mem hb;exact F.un.free b o e (I3.stkFree b hb) (nex b hb)
 have inv: ∀ {h:Heap} {fl:Value} {T:Addr} {g:Array GenState} {d:Drawn} {t:Nat},Fl X.prog X.w C od fl X.stack ex H3 s3.heap x T H2 h->AllBare g->Inv X pins σ H2 ⟨h,g,d,t,s3.os⟩:=λF hb=>I3.call' (s':=⟨_,_,_,_,s3.os⟩) rfl F.un F.hok hb hch;obtain ⟨hp,g,d,t,os'⟩:=s';obtain rfl:os'=s3.os:=os;have J:=inv (d:=d) (t:=t) F bare;have hff:=J.ok.frames;have hfs:=J.stack;rw [hst]at hff hfs;refine uP hcl (ku (base:=X.base) hff hfs hfr F.rc λh1 L1=>?_);rw [<- hst]at L1;obtain ⟨T1,F1⟩:=F.left fr L1;obtain ⟨o,es,ep,ho,hns⟩:=hm;have hL1:h1.get? L=some o:=L1.keep L o n1 (λz=>n2 (AE.mp z)) nLf ho;refine ⟨m,⟨o,es,ep,hL1,hns⟩,λh2 sb cenv' hc'=>?_⟩;have nT1:T1≠L:=λz=>by
  obtain ⟨T2,r2,hT2⟩:=L1.rc;have e1:T2=T1:=by
   obtain ⟨oe,vs,_,_,he,_,_,hd,h1',_⟩:=r2;obtain ⟨oe',vs',_,_,he',_,_,hd',h1'',_⟩:=F1.rc;rw [he]at he';cases he';rw [hd]at hd';cases hd';rw [h1']at h1'';cases h1'';rfl
  rw [e1,z]at hT2;rcases hT2 with z' | z'
  ·exact n2 (AE.mp z')
  ·exact Fu.mpr (AN ho) z'
 have F2:Fl X.prog X.w C od (rawInt X.env.locals) X.stack ex H3 s3.heap x T1 H2 h2:=by
  have lt: ∀ b o,s3.heap.get? b=some o->b≠L:=λb o e z=>Fu.mpr (AN e) (z▸hL);refine ⟨⟨λb o e n hb hx=>(sb.2 b (lt b o e)).trans (F1.un.keep b o e n hb hx),λb o e n hb hx=>?_,F1.un.free,λb o e hx=>?_,F1.un.tups,F1.un.frzs,F1.un.tbls⟩,λa o e=>?_,?_,F1.nx,F1.nT,F1.fx,F1.fT,λb hb=>by rw [sb.1];exact F1.cl b hb⟩
  ·obtain ⟨sl,e1⟩:=F1.un.slot b o e n hb hx;exact ⟨sl,(sb.2 b (lt b o e)).trans e1⟩
  ·obtain ⟨o1,e1⟩:=F1.un.there b o e hx;exact ⟨o1,(sb.2 b (lt b o e)).trans e1⟩
  ·refine (F1.hok a o e).stay (λb u hb e2=>(sb.2 b λz=>?_).trans e2) (λ_ z=>z) λ_ _ z=>z;rcases hb with z' | z'
   ·rw [z']at z;rw [z,fL]at e;cases e
   ·rw [z,fL]at z';cases z'
  ·obtain ⟨oe,vs,oT,ts,he,hc,ho',hd,h1',ne,hT,hdT,h3⟩:=F1.rc;exact .mk oe vs oT ts ((sb.2 x (Bg n1)).trans he) hc ho' hd h1' ne ((sb.2 T1 nT1).trans hT) hdT h3
 have J2:=inv (d:=d) (t:=t) F2 bare;unfold PySem.passOn;obtain ⟨oe,vs,oT,ts,he,hc,ho',hd,h1',ne,hT,hdT,h3⟩:=id F2.rc;refine AA (Bp he hd h1' ?_);rw [AQ (by simp)];refine AA (gR (base:=X.base) J2.stack F2.rc λh3 L3=>?_);obtain ⟨T3,F3⟩:=F2.left fr L3;have new: ∀ b,s3.heap.get? b=none->X.s₀.heap.get? b=none:=λb z=>by
  cases r:X.s₀.heap.get? b with
  | none=>rfl
  | some o=>obtain ⟨o1,e1⟩:=I3.base.there b o r (by rw [hex0];simp);rw [z]at e1;cases e1
 exact E9 (hXe x od _ T3 H2 _ (inv F3 bare) F3.rc F3.fx F3.fT (new x F3.nx) (new T3 F3.nT) q)
end
section
variable {X:Cx} {E:XK} {C:Addr} {x:Str} {px pos:Pos} {iter elt:Expr} {scope sc0:Scope} {N0 ys:List Str} {fr:List Nat} {wi:TI} {te:TE}
theorem uf {i:Nat} {y:Str} {py spos:Pos} (hst:X.stack=X.env::X.outer) (hfr:X.env.frame=some X.env.locals) (hex0:X.ex=[])
  (hXe: ∀ (pins:List (Addr×Obj)) (σ:St) (x:Addr) (od:Option Addr) (fl:Value) (T:Addr) (H2:Hp) (s':Shared),Inv X pins σ H2 s'->Rec s'.heap x C od fl T->H2 x=none->H2 T=none->X.s₀.heap.get? x=none->X.s₀.heap.get? T=none->E (.ref C) od H2->X.xe (.ref x) s')
  (hcalm:X.calm=true) (hnd:X.N.Nodup) (hiN:X.N[i]? =some y) (hy:Loc X.env.scope y) (hi:PI X (.Name x px) iter wi) (hsc:X.env.scope=sc0) (hN:X.N=N0) (ok:eY sc0 N0 scope x ys fr)
  (hE: ∀ L s H ex pn,(∀ b∈ex,∃ o,(b,o)∈pn)->PE (bM X x ys scope L s H ex pn (xb X E C L s H ex)) elt te)
  (hsw:swapsWith (.ListComp elt [⟨.Name x px,iter,[],0⟩] scope pos) (some (.Name y py)) spos.line X.env=pure true:=by rfl)
  (hs: ∀ v,foldedSetIterable iter X.env v=pure v:=by intro _;rfl) (hf:X.fn y=true\/X.env.scope.names.lookup y=some .local:=by first | exact .inl rfl | exact .inr rfl | assumption):
  PS X (.Assign [.Name y py] (.ListComp elt [⟨.Name x px,iter,[],0⟩] scope pos) spos) (jR (mr wi fr te) (dF i)):=by
 intro pins s σ H D I h;rw [Dq _ _ _ _ hsw];refine AA (CO (AA ?_));show wpAny _ X.A (do let _ <- comprehension (.ListComp elt [⟨.Name x px,iter,[],0⟩] scope pos) scope X.env _ (newList []) false (eval iter X.env) (some (assign (.Name y py) X.env))) _ _ s;refine AA (thn (jI (XE:=xb X E C) (use:=some (assign (.Name y py) X.env)) (Qv:=λ_ s'=>SP X pins D .next s') (Q:=λv H'=>D.nx (σ.set i (some v)) H') hcalm hi hsc hN ok hE I h hs (λp s3 H3 ex I3 hsz hch e s' z=>vx hst hfr hex0 rfl (hXe pins σ) I3 hch z) λp C H' s' m I' hn h0 h1 h2 h3 h4 q=>?_) λ_ s' hq=>AB (AB hq));show wpAny _ X.A (assign (.Name y py) X.env (.ref p)) _ _ s';refine Dv (ee (v:=.ref p) I' hnd hiN hy rfl (λs'' I'' ⟨a,sb,ha⟩=>?_) hf);have hCa:C≠a:=by
  rcases ha with e | e
  ·rw [e];exact h1
  ·exact (h3 y a e).symm
 refine ⟨m,hn.sameBut sb hCa,λh' sb'=>⟨_,H',I''.turned (t':=s''.toks) (λb o hb e=>sb'.extBut b o hb e) h0 h1 (.inr h2) h3 h4,q⟩⟩
end
section
variable {P:Program} {w:World} {K:W.Frag} {mg:Str->Option Value} {base:Heap} {N:List Str} {qual:Str} {scope:Scope} {f:Addr} {cd:Value} {A:Around} {outer:List Env} {s:Shared} {H:Hp} {E:XK} {C:Addr}
theorem yt {CX:CXT} (hi: ∀ e s',CX1 P w C outer H s E e s'->CX outer H s E e s') (pins:List (Addr×Obj)) (σ:St) (x:Addr) (od:Option Addr) (fl:Value) (T:Addr) (H2:Hp) (s':Shared) (J:Inv (cG CX P w K mg base N qual scope f cd A outer s H E) pins σ H2 s')
  (rc:Rec s'.heap x C od fl T) (fx:H2 x=none) (fT:H2 T=none) (nx:s.heap.get? x=none) (nT:s.heap.get? T=none) (q:E (.ref C) od H2):(cG CX P w K mg base N qual scope f cd A outer s H E).xe (.ref x) s':=
 jx (base:=base) J.ok.frames J.stack rfl rc λh3 L=>hi _ _ (i5 J fx nx (λb (z:b∈[T])=>by rw [AE.mp z];exact ⟨fT,nT⟩) L q)
end
end L2
namespace My
open PySem L2
def KvR (H:Hp) (r:Rul) (kv:KK×V):Prop:=kv.1=ao r/\Rep H r.fm kv.2
theorem KvR.mono {H H':Hp} (t:TK H H') {r:Rul} {kv:KK×V} (h:KvR H r kv):KvR H' r kv:=⟨h.1,h.2.mono t⟩
theorem ib {H:Hp}: ∀ {rs:List Rul} {kvs:List (KK×V)},Paired (KvR H) rs kvs->kvs.map (·.1)=rs.map ao
 | _,_,.nil=>rfl
 | r::rs,kv::kvs,.cons h t=>by
  show kv.1::kvs.map (·.1)=ao r::rs.map ao;rw [h.1,ib t]
def gQ:Sp:=λvs H Q _=> ∃ v fr,vs=[v]/\RepF H fr v/\RsOk fr.rules/\ ∀ d kvs H',H d=none->Same H H'->H' d=some (.dT kvs)->Paired (KvR H') fr.rules kvs->Q (.ref d) H'
def gw:Sp:=λvs H Q _=> ∃ v fr,vs=[v]/\RepF H fr v/\RsOk fr.rules/\ ∀ d kvs H',H d=none->Same H H'->H' d=some (.dT kvs)->RdsAt H' (rdF fr.rules) kvs->Q (.ref d) H'
structure qL (rs:List Rul) (ord:List KK):Prop where
 nd:ord.Nodup
 sub: ∀ k∈ord,k∈rs.map ao
 all: ∀ r∈rs,ao r∈ord
 top: ∀ i k,ord[i]? =some k-> ∀ o∈cY (rdF rs) k,o∈ord.take i
 len:ord.length=rs.length
def Acy (rs:List Rul):Prop:= ∃ L:List KK,(∀ k∈rs.map ao,k∈L)/\(∀ k∈L,k∈rs.map ao)/\ ∀ i k,L[i]? =some k-> ∀ o∈cY (rdF rs) k,o∈L.take i
noncomputable def yC (s:Stmt):Stmt:=match s with
 | .ClassDef _ _ _ b _ _ _ _ _ _ _=>b.getD 0 s
 | s=>s
noncomputable abbrev om:Stmt:=yC (top 4)
def pV (C:Addr):Sp:=λvs H Q _=> ∃ x nm,vs=[.ref x,.str nm]/\H x=some (ExN x C none)/\ ∀ d,H d=none->d≠x->Q .non (upd (upd H x (ExN x C (some d))) d (.xd [("form",.str nm)]))
def mx (CT:Addr):Sp:=λvs H Q E=> ∃ v fr,vs=[v]/\RepF H fr v/\RsOk fr.rules/\(Acy fr.rules-> ∀ p ys ord H',H p=none->Same H H'->H' p=some (.lst ys)->KsOf H' ys ord->qL fr.rules ord->Q (.ref p) H')/\
 (¬ Acy fr.rules-> ∀ d H',Same H H'->H' d=some (.xd [("form",.str fr.name)])->E (.ref CT) (some d) H')
theorem uc {H:Hp} {f:Fm} (hw:f.wf): ∀ ks∈dd [] f.rdk,RK ks:=by
 refine pG (λk hk=>by cases hk) ?_;have go: ∀ {f:Fm},f.wf-> ∀ ks∈f.rdk,RK ks:=by
  intro f;induction f with
  | num n=>intro _ ks h;cases h
  | own x=>intro hw ks h;rw [AE.mp h];exact .inl ⟨x,rfl,bJ hw⟩
  | part k x=>intro hw ks h;rw [AE.mp h];exact .inr ⟨k,x,rfl,bJ hw.2⟩
  | bin op a b iha ihb=>intro hw ks h;exact (AT.mp h).elim (iha hw.2.1 ks) (ihb hw.2.2 ks)
  | whn a b c iha ihb ihc=>intro hw ks h;exact (AT.mp h).elim (iha hw.1 ks) λh=>(AT.mp h).elim (ihb hw.2.1 ks) (ihc hw.2.2 ks)
 exact go hw
theorem eQ: ∀ f:Fm,f.rdk.length<=f.size
 | .num _=>A6 _
 | .own _=>AJ _
 | .part _ _=>AJ _
 | .bin _ a b=>by
  have:=eQ a;have:=eQ b;show (a.rdk++b.rdk).length<=a.size+b.size+1;rw [AI];lia
 | .whn a b c=>by
  have:=eQ a;have:=eQ b;have:=eQ c;show (a.rdk++(b.rdk++c.rdk)).length<=a.size+b.size+c.size+1;rw [AI,AI];lia
theorem rV (F:Fun K "formulas_by_key" "formulas_by_key" oB f fd)
  (GR:Cl P w K mg base CX0 1 f2 fd2 ["form"] ip "rules_of"):a8 P w K mg base CX0 2 f fd ["form"] gQ:=by
 refine F.ok scByKey (λvs H Q E h=>?_) (λcdv A outer s H vs Q E hr h=>?_)
 ·obtain ⟨v,fr,rfl,_⟩:=h;rfl
 obtain ⟨v,fr,rfl,hF,hok,q⟩:=h;have h12:=hok.few;have hu:=da hr;refine ⟨_,af (psz 1 scByKey.nd cq)
  (af (bi A5 rfl (bV (pcl GR hr (aa (pv 0) ae)))
    (cT rfl (aM (pgz 2 scByKey.nd) (aM (pgz 3 scByKey.nd) (aM (pgz 4 scByKey.nd) ce))))
   (aj (cz hu (pv 1) (aF (aa (pv 2) (aa (pv 3) ae))) (pv 4) rfl)))
  (aj (ay (pv 1)))),?_⟩
 refine λd hd=>?_;obtain ⟨H0,eW,s0,g0⟩:=nw hd (.dT []);rw [eW];refine ⟨_,rfl,v,fr,rfl,hF.mono (aq s0),λra rv hra hR=>?_⟩;refine ⟨ra,rfl,⟨rv,SqT.of hra⟩,?_⟩;have lR:=hR.len;refine eV (xs:=rv) (λi σ H'=>i<=rv.length/\ ∃ o2 o3 o4 kvs,σ=[some v,some (.ref d),o2,o3,o4]/\Same H H'/\H' ra=some (.tup rv)/\RepRs H' fr.rules rv/\H' d=some (.dT kvs)/\kvs.length=i/\Paired (KvR H') (fr.rules.take i) kvs)
  ⟨A6 _,none,none,none,[],rfl,s0,hra,hR,g0,rfl,.nil⟩ (λi σ H' _ h=>by obtain ⟨_,_,_,_,_,_,_,g,_⟩:=h;exact SqT.of g) ?_ ?_
 ·rintro i x σ H1 hx ⟨_,o2,o3,o4,kvs,rfl,S1,gra,hR1,gd,hl,hP⟩;have hil:i<rv.length:=(AF.mp hx).1;obtain ⟨r,hr',a,u,rfl,ha,hu'⟩:=aH hR1 hx;refine ⟨a,_,rfl,SqT.of ha,rfl,_,_,rfl,_,_,rfl,_,_,rfl,rfl,?_⟩;refine ⟨_,rfl,_,rfl,_,rfl,_,rfl,cB,λt ht=>?_⟩;have s2:=al ht (.tup [.int r.pl,.str r.word]);have g2:(upd H1 t (.tup [.int r.pl,.str r.word])) t=some (.tup ((ao r).map kV)):=ad;generalize upd H1 t (.tup [.int r.pl,.str r.word])=H2 at s2 g2 ⊢;refine ⟨d,_,rfl,DPut.t (s2 _ _ gd) g2 (am (by lia)),?_⟩;have hn:ao r∉kvs.map (·.1):=by
   rw [ib hP,Cg];exact dZ hok.nd (by rw [AS,hr'];rfl)
  rw [dw hn];have tk:TK H1 (upd H2 d (.dT (kvs++[(ao r,u)]))):=λb xs e=>by
   rw [ah (λz=>by rw [z,gd]at e;cases e)];exact s2 _ _ e
  refine ⟨hil,_,_,_,_,rfl,?_,tk _ _ gra,hR1.mono tk,ad,?_,?_⟩
  ·intro y o h;rw [ah (ai h hd)];exact s2 _ _ (S1 _ _ h)
  ·rw [AI,hl];rfl
  ·rw [aP hr'];exact BH (Paired.mapP hP λ_ _ h=>h.mono tk) ⟨rfl,hu'.mono tk⟩
 ·rintro σ H1 ⟨_,o2,o3,o4,kvs,rfl,S1,gra,hR1,gd,hl,hP⟩;rw [<- lR,Bc]at hP;exact ⟨_,rfl,q d kvs H1 hd S1 gd hP⟩
abbrev NKr:List Str:=["form","formulas","found","key","formula","read"]
theorem scKeysRead:av NKr ["form"] (ak eh):=fsc
theorem ni (F:Fun K "keys_read_by_key" "keys_read_by_key" eh f fd)
  (GB:Cl P w K mg base CX0 2 f2 fd2 ["form"] gQ "formulas_by_key")
  (GR:Cl P w K mg base CX0 3 f3 fd3 ["formula"] iW "readings_of")
  (GK:Cl P w K mg base CX0 1 f4 fd4 ["reading"] iX "key_of"):
  a8 P w K mg base CX0 4 f fd ["form"] gw:=by
 refine F.ok scKeysRead (λvs H Q E h=>?_) (λcdv A outer s H vs Q E hr h=>?_)
 ·obtain ⟨v,fr,rfl,_⟩:=h;rfl
 obtain ⟨v,fr,rfl,hF,hok,q⟩:=h;have h12:=hok.few;have hu:=da hr;have hr1:=hr.mono (show 1<=3 by decide);have hr2:=hr.mono (show 2<=3 by decide);refine ⟨_,af (de (i:=1) scKeysRead.nd rfl (Or.inr rfl) (pcl GB hr2 (aa (pv 0) ae)))
  (af (psz 2 scKeysRead.nd cq)
  (af (bi A5 rfl (js (pv 1)) (cT rfl (aM (pgz 3 scKeysRead.nd) (aM (pgz 4 scKeysRead.nd) ce)))
   (af (di (i:=5) (sc0:=ak eh) (N0:=NKr) (ys:=[]) (fr:=[]) rfl scKeysRead.nd rfl (Or.inl rfl) (cA (pcl GR hr (aa (pv 4) ae))) rfl rfl
     cok (λC s H ex=>pcl GK hr1 (aa (pv 0) ae)))
   (aj (cz hu (pv 2) (pv 3) (ut (sc0:=ak eh) (N0:=NKr) (ys:=["formulas"]) (fr:=[1]) rfl (cA (pv 5)) rfl rfl
     cok
     (λC s H ex=>lI (ux hu (pv 0) (pv 1))) (λC s H ex=>pv 0)) rfl))))
  (aj (ay (pv 2))))),?_⟩
 refine ⟨_,rfl,v,fr,rfl,hF,hok,λfd kv H1 hfd s1 gfd hP=>?_⟩;have hkeys:=ib hP;have lkv:kv.length=fr.rules.length:=(AZ hP).symm;refine λfo hfo=>?_;have nff:fd≠fo:=ai gfd hfo;have s2:=al hfo (.dT []);have g2:(upd H1 fo (.dT [])) fo=some (.dT []):=ad;have gfd2:=s2 _ _ gfd;have hP2:Paired (KvR (upd H1 fo (.dT []))) fr.rules kv:=Paired.mapP hP λ_ _ h=>h.mono (aq s2);generalize upd H1 fo (.dT [])=H2 at s2 g2 gfd2 hP2 ⊢;refine ⟨_,rfl,fd,kv,rfl,.inl ⟨gfd2,λo=>?_⟩⟩;have gF:(upd H2 fd (.frz o (.dT kv))) fd=some (.frz o (.dT kv)):=ad;have gfoF:(upd H2 fd (.frz o (.dT kv))) fo=some (.dT []):=by rw [ah (Bg nff)];exact g2
 have S2:=s1.trans s2;have sF:Same H (upd H2 fd (.frz o (.dT kv))):=λb u h=>by rw [ah (ai h hfd)];exact S2 _ _ h
 have tkF:TK H2 (upd H2 fd (.frz o (.dT kv))):=λb xs h=>by rw [ah (λz=>by rw [z,gfd2]at h;cases h)];exact h
 have hPF:Paired (KvR (upd H2 fd (.frz o (.dT kv)))) fr.rules kv:=Paired.mapP hP2 λ_ _ h=>h.mono tkF;have hfo0:H fo=none:=s1.free hfo;generalize upd H2 fd (.frz o (.dT kv))=HF at gF gfoF sF hPF ⊢;refine iF (kvs:=kv) (λi σ H'=>i<=kv.length/\ ∃ o3 o4 o5 kvs,σ=[some v,some (.ref fd),some (.ref fo),o3,o4,o5]/\(∀ b u,HF b=some u->b≠fo->H' b=some u)/\H' fo=some (.dT kvs)/\RdsAt H' ((rdF fr.rules).take i) kvs)
  ⟨A6 _,none,none,none,[],rfl,λb u h _=>h,gfoF,.nil⟩ (λi σ H' _ h=>by obtain ⟨_,_,_,_,_,_,s',_⟩:=h;exact s' _ _ gF nff) ?_ ?_
 ·rintro i ks fv T c σ H3 hkv hT hc ⟨hi,o3,o4,o5,kvs,rfl,S3,gfo3,hR3⟩;have hil:i<kv.length:=(AF.mp hkv).1;obtain ⟨r,hr',e1,hRf⟩:=aH hPF hkv;have e1:ks=ao r:=e1;have hRf:Rep HF r.fm fv:=hRf;subst e1;have hrm:=AH hr';obtain ⟨hwf,hsz⟩:=hok.fm r hrm;have tk3:TK HF H3:=λb xs h=>S3 _ _ h λz=>by rw [z,gfoF]at h;cases h
  have s4:=al hT (.tup [.ref c,fv]);have g4:(upd H3 T (.tup [.ref c,fv])) T=some (.tup [.ref c,fv]):=ad;have gfo4:=s4 _ _ gfo3;have hc4:=s4 _ _ hc;generalize upd H3 T (.tup [.ref c,fv])=H4 at s4 g4 gfo4 hc4 ⊢;refine ⟨T,_,rfl,SqT.of g4,rfl,_,_,rfl,_,_,rfl,rfl,?_⟩;obtain ⟨out,hTw,hol⟩:=Tw.of1 ((hRf.mono tk3).mono (aq s4)) hwf;refine ⟨_,rfl,fv,out,r.fm.rdk,rfl,hTw,by lia,λrl ys H5 hrl s5 grl hys=>?_⟩;have lys:ys.length<=400:=by
   have h1:ys.length=(dd [] r.fm.rdk).length:=AZ hys;have h2:=pH (rs:=r.fm.rdk) (acc:=[]);have h3:=eQ r.fm;have h2:(dd [] r.fm.rdk).length<=0+r.fm.rdk.length:=h2;lia
  have hRK:=uc (H:=H) hwf;have hys':Paired (λks y=>(∃ b,y=V.ref b/\H5 b=some (.tup (List.map kV ks)))/\RK ks) (dd [] r.fm.rdk) ys:=by
   have go: ∀ {ys:List V} {kss:List KK},KsOf H5 ys kss->(∀ k∈kss,RK k)->Paired (λks y=>(∃ b,y=V.ref b/\H5 b=some (.tup (List.map kV ks)))/\RK ks) kss ys:=by
    intro ys kss h;induction h with
    | nil=>intro _;exact .nil
    | cons a _ ih=>intro hk;exact .cons ⟨a,hk _ A3⟩ (ih λk hm=>hk k (A2 _ hm))
   exact go hys hRK
  refine ⟨rl,rfl,⟨_,SqL.of grl⟩,?_⟩;refine dG (by lia) hys' (lY grl) (lX grl) (pi grl) (λH ks v=> ∃ b,v=V.ref b/\H b=some (.tup (List.map kV (l2p ks)))) (λt ⟨b,e,h⟩=>⟨b,e,t _ _ h⟩) ?_ ?_
  ·rintro ks y H6 k _ ⟨⟨b,rfl,hb⟩,hrk⟩ s6 hk;refine ⟨_,rfl,b,ks,rfl,s6 _ _ hb,hrk,λp i x hor hp=>hk _ _ (al hp _) ⟨p,rfl,?_⟩⟩;rw [ad];rcases hor with ⟨e1,e2⟩ | e1
   ·subst e1 e2;rfl
   ·subst e1;rfl
  intro pl zs H6 hpl s6 gpl hzs;have lzs:zs.length=ys.length:=by
   have h1:=AZ hzs;have h2:=AZ hys';lia
  have gfd6:H6 fd=some (.frz o (.dT kv)):=s6 _ _ (s5 _ _ (s4 _ _ (S3 _ _ gF nff)));refine ⟨_,rfl,pl,rfl,⟨_,SqL.of gpl⟩,?_⟩;refine qH (as:=(dd [] r.fm.rdk).map l2p) (A:=λk v=> ∃ b,v=V.ref b/\H6 b=some (.tup (List.map kV k))) (by lia) (dj hzs) (lY gpl) (lX gpl) (pi gpl) (λk=>decide (k∈fr.rules.map ao)) (λH k v=> ∃ b,v=V.ref b/\H b=some (.tup (List.map kV k))) (λt ⟨b,e,h⟩=>⟨b,e,t _ _ h⟩) ?_ ?_ ?_
  ·rintro k y H7 kk _ ⟨b,rfl,hb⟩ s7 hk;refine ⟨_,rfl,_,rfl,fd,aW kv k,rfl,.inr (.inl ⟨kv,k,b,.inr ⟨o,s7 _ _ gfd6⟩,rfl,s7 _ _ hb,rfl⟩),_,rfl,?_⟩;have e:(aW kv k).isSome=decide (k∈fr.rules.map ao):=by
    rw [<- hkeys];cases hv:aW kv k with
    | none=>exact (AW (gM hv)).symm
    | some u=>exact (AO (gN hv)).symm
   rw [e];exact hk H7 (Same.refl _)
  ·rintro k y H7 kk _ ⟨b,rfl,hb⟩ _ s7 hk;exact ⟨_,rfl,hk _ _ (Same.refl _) ⟨b,rfl,s7 _ _ hb⟩⟩
  intro ql ws H7 hql s7 gql hws;have S47:=s5.trans (s6.trans s7);have gfo7:=S47 _ _ gfo4;have hc7:=S47 _ _ hc4;refine ⟨_,rfl,_,rfl,fo,_,rfl,DPut.t (k:=ao r) gfo7 hc7 (am (by
   have h1:((rdF fr.rules).take i).length=kvs.length:=AZ hR3;rw [A4]at h1;lia)),?_⟩
  have hk3:kvs.map (·.1)=((rdF fr.rules).take i).map (·.1):=hR3.keys;have hrd:(rdF fr.rules)[i]? =some (ao r,((dd [] r.fm.rdk).map l2p).filter λo=>decide (o∈fr.rules.map ao)):=by
   unfold rdF;rw [AS,hr'];rfl
  have hn:ao r∉kvs.map (·.1):=by
   rw [hk3,Cg];have hx:(rks (rdF fr.rules))[i]? =some (ao r):=by unfold rks;rw [AS,hrd];rfl
   exact dZ hok.rd.nd hx
  rw [dw hn];have nqf:ql≠fo:=λz=>by rw [z,s6 _ _ (s5 _ _ gfo4)]at hql;cases hql
  have keep: ∀ b u,H3 b=some u->b≠fo->(upd H7 fo (.dT (kvs++[(ao r,V.ref ql)]))) b=some u:=λb u h hne=>by rw [ah hne];exact S47 _ _ (s4 _ _ h)
  refine ⟨hil,_,_,_,_,rfl,λb u h hne=>keep b u (S3 _ _ h hne) hne,ad,?_⟩;rw [aP hrd];refine BH (Paired.mapP hR3 λe kv h=>?_) ⟨rfl,ql,ws,rfl,by rw [ah nqf];exact gql,?_⟩
  ·obtain ⟨h1,l,zs,h2,h3,h4⟩:=h;exact ⟨h1,l,zs,h2,keep _ _ h3 (λz=>by rw [z,gfo3]at h3;cases h3),h4.mono λb xs hb=>keep _ _ hb (λz=>by rw [z,gfo3]at hb;cases hb)⟩
  ·have go: ∀ {a:List KK} {b:List V},Paired (λk v=> ∃ b,v=V.ref b/\H7 b=some (.tup (List.map kV k))) a b->KsOf (upd H7 fo (.dT (kvs++[(ao r,V.ref ql)]))) b a:=by
    intro a b h;induction h with
    | nil=>exact .nil
    | cons x _ ih=>
     obtain ⟨b,e,hb⟩:=x;exact .cons ⟨b,e,by rw [ah (λz=>by rw [z,gfo7]at hb;cases hb)];exact hb⟩ ih
   exact go hws
 ·rintro σ H3 ⟨_,o3,o4,o5,kvs,rfl,S3,gfo3,hR3⟩;have lrd:(rdF fr.rules).length=fr.rules.length:=by unfold rdF;rw [AD]
  rw [BC (by lia)]at hR3;exact ⟨_,rfl,q fo kvs H3 hfo0 (λb u h=>S3 _ _ (sF _ _ h) (ai h hfo0)) gfo3 hR3⟩
noncomputable abbrev bmV:List Value:=[.type "ValueError",.type "Exception",.type "BaseException",.type "object"]
theorem vS:av ["self","form"] ["self","form"] (ak om):=fsc
theorem uC {CT CB:Addr} (F:Fun K "__init__" "Tangled.__init__" om f fd) (mB:mg "BoughError"=some (.ref CB)) (q0:jD K CT f bmV "ValueError.__new__"=true)
  (hga:W.specialIn K (.ref CB) "__getattribute__"=some (some (.builtin "type.__getattribute__"))) (hrd:W.readsIn K CB (.type "type")=true) (hf:W.findCls K (.ref CB) (.type "type") "__init__"=some (.val (.builtin "ValueError.__init__"))) (Z:vG K CT "form"):
  a8 P w K mg base CX0 1 f fd ["self","form"] (pV CT):=by
 refine F.ok vS (λvs H Q E h=>?_) (λcdv A outer s H vs Q E hr h=>?_)
 ·obtain ⟨x,nm,rfl,_⟩:=h;rfl
 obtain ⟨x,nm,rfl,hx,q⟩:=h;refine ⟨_,af (bC (uv DD q0 rfl mB hga hrd hf (by decide +kernel) (aa (pv 0) (aa (pv 1) ae)))) (aj (v7 Z (pv 0) (pv 1) rfl)),?_⟩;refine ⟨_,rfl,_,rfl,cB,x,_,none,rfl,hx,?_⟩;exact ⟨_,rfl,_,rfl,x,rfl,hx,λd h1 h2=>q d h1 h2⟩
structure TgC (P:Program) (w:World) (K:W.Frag) (mg:Str->Option Value) (base:Heap) (CT fT:Addr) (fdT:FuncData):Prop where
 m:mg "Tangled"=some (.ref CT)
 q0:jD K CT fT bmV "ValueError.__new__"=true
 ft:W.typeIn K (.ref fT)=some (.type "function")
 kp:W.keepIn K (.ref CT)=true
 F:a8 P w K mg base CX0 1 fT fdT ["self","form"] (pV CT)
 b:Binds K fdT ["self","form"] []
 r:RaC K CT
theorem sG {H H1:Hp} {x d:Addr} {o o1 o2:HO} (s:Same H H1) (hx:H1 x=none) (hd:H1 d=none) (hdx:d≠x):Same H (del (upd (upd (upd H1 x o) x o1) d o2) x):=λb u e=>by
 have e1:=s _ _ e;have n1:b≠x:=λz=>by rw [z,hx]at e1;cases e1
 have n2:b≠d:=λz=>by rw [z,hd]at e1;cases e1
 rw [pF n1,ah n2,ah n1,ah n1];exact e1
theorem scOrderK:av ["form","read","order"] ["form"] (ak lp):=fsc
theorem rO {CT fT:Addr} {fdT:FuncData} (F:Fun K "order_of_keys" "order_of_keys" lp f fd) (G:Gb mg) (T:TgC P w K mg base CT fT fdT)
  (GR:Cl P w K mg base CX0 4 f2 fd2 ["form"] gw "keys_read_by_key")
  (GO:Cl P w K mg base CX0 2 f3 fd3 ["reads"] pX "order_of"):
  a8 P w K mg base (CX1 P w CT) 5 f fd ["form"] (mx CT):=by
 refine F.ok1 scOrderK (λvs H Q E h=>?_) (λcdv A outer s H vs Q E hr h=>?_)
 ·obtain ⟨v,fr,rfl,_⟩:=h;rfl
 obtain ⟨v,fr,rfl,hF,hok,q,qE⟩:=h;have h12:=hok.few;have hr2:=hr.mono (show 2<=4 by decide);refine ⟨_,af (psz 1 scOrderK.nd (pcl GR hr (aa (pv 0) ae)))
  (af (psz 2 scOrderK.nd (pcl GO hr2 (aa (pv 1) ae)))
  (af (bc (ax gi (au (r:=cZ K) aE rfl G.len Bd (aa (pv 2) ae)) (au kM rfl G.len Bd (aa (pv 1) ae)) (aL _))
   (aj (rk (Hs:=H) (E:=E) rfl T.r (uq DD T.q0 T.ft T.kp T.F hr2 rfl T.m T.b mY (aa (ar (r:=bf K) aA (pv 0) ag (λ_ _=>rfl)) ae)) λpins σ H1 s1 x od I hx hs z=>pz I hx hs z)) aK)
  (aj (ay (pv 2))))),?_⟩
 refine ⟨_,rfl,v,fr,rfl,hF,hok,λd kvs H1 hd s1 gd hR=>?_⟩;have lrd:(rdF fr.rules).length=fr.rules.length:=by unfold rdF;rw [AD]
 refine ⟨_,rfl,d,kvs,rdF fr.rules,rfl,gd,hR,hok.rd,by lia,λo p ys ord c H2 S2 hp gp hys hI=>?_⟩;have gdF:H2 d=some (.frz o (.dT kvs)):=S2 _ _ ad;have lkv:kvs.length=fr.rules.length:=by have:=AZ hR;lia
 have hsub:=hI.sub;rw [eA]at hsub;have S02:Same H H2:=λb u h=>S2 _ _ (by rw [ah (ai h hd)];exact s1 _ _ h);have lys:ys.length=ord.length:=AZ hys;have hlen:=hI.len;refine ⟨_,rfl,p,ys,rfl,.inl (SqL.of gp),_,rfl,d,o,kvs,rfl,gdF,_,_,rfl,rfl,_,rfl,?_⟩;by_cases hA:Acy fr.rules
 ·obtain ⟨L,a1,a2,a3⟩:=id hA;have hall:=hI.all (by rw [eA];exact a1) (by rw [eA];exact a2) a3;rw [eA]at hall;have lo:ord.length=fr.rules.length:=by
   have h2:=cF hok.nd hall;rw [AD]at h2;lia
  rw [AW (by lia)];exact bt ⟨_,rfl,q hA p ys ord H2 (s1.free hp) S02 gp hys ⟨hI.nd,hsub,λr hr=>hall _ (AK.mpr ⟨r,hr,rfl⟩),hI.top,lo⟩⟩
 ·have lt:(ys.length:Int) < (kvs.length:Int):=by
   by_cases c:ord.length<fr.rules.length
   ·lia
   ·refine absurd ⟨ord,λk hk=>?_,hsub,hI.top⟩ hA;by_cases cm:k∈ord
    ·exact cm
    ·have h2:=cF (a:=k::ord) (b:=fr.rules.map ao) (BG.mpr ⟨cm,hI.nd⟩) λz hz=>by
      rcases AY.mp hz with rfl | hz
      ·exact hk
      ·exact hsub z hz
     rw [AM,AD]at h2;lia
  rw [AO lt];obtain ⟨fa1,pa,ra,rv,rfl,hfa1,_⟩:=id (hF.mono (aq S02));refine bL ⟨_,rfl,fa1,_,0,.str fr.name,rfl,rfl,SqT.of hfa1,bx,fc,λx hx=>?_⟩;refine ⟨x,_,rfl,ad,λdd hdd hne=>⟨rfl,x,some dd,rfl,by rw [ah (Bg hne),ad],S02.free hx,?_⟩⟩;rw [ah hne]at hdd;exact qE hA dd _ (sG S02 hx hdd hne) (by rw [pF hne,ad])
noncomputable def wI:Expr:=match bE mE with
 | [.Return (some (.Call _ [_,l] _ _)) _]=>l
 | _=>.Constant .none 0 ⟨0,0,0,0⟩
noncomputable def Af:Arguments:=match wI with
 | .Lambda a _ _ _=>a
 | _=>{posonlyargs:=[],args:=[],vararg:=none,kwonlyargs:=[],kw_defaults:=[],kwarg:=none,defaults:=[]}
noncomputable def Ae:Expr:=match wI with
 | .Lambda _ b _ _=>b
 | _=>.Constant .none 0 ⟨0,0,0,0⟩
noncomputable def ya:Scope:=match wI with
 | .Lambda _ _ s _=>s
 | _=>{kind:=.function,names:=[],isGenerator:=false,isCoroutine:=false}
noncomputable def lamP:Pos:=match wI with
 | .Lambda _ _ _ p=>p
 | _=>⟨0,0,0,0⟩
theorem yX:nL ["one","inner"] ["made"] ya:=⟨rfl,rfl,rfl,by decide +kernel,by decide +kernel,by decide +kernel,by decide +kernel,by decide +kernel⟩
theorem yc:pO (ak mE) ["formula","made"] ya ["made"] [1]:=⟨by decide +kernel,rfl,by decide +kernel⟩
def TabSt (tbA:Addr) (H:Hp):Prop:=H tbA=some (.tbl #[])\/ ∃ c' oc,H tbA=some (.tbl #[rawInt lamP.line,rawInt lamP.col,.ref c'])/\c'≠tbA/\H c'=some (gm c' oc)/\i7 oc ("put_otherwise.<locals>."++"<lambda>")
theorem TabSt.same {tbA:Addr} {H H':Hp} (s:Same H H') (h:TabSt tbA H):TabSt tbA H':=by
 rcases h with h | ⟨c',oc,h1,h2,h3,h4⟩
 ·exact .inl (s _ _ h)
 ·exact .inr ⟨c',oc,s _ _ h1,h2,s _ _ h3,h4⟩
theorem TabSt.tbl {tbA:Addr} {H:Hp} (h:TabSt tbA H): ∃ x,H tbA=some (.tbl x):=by
 rcases h with h | ⟨c',oc,h1,_⟩
 ·exact ⟨_,h⟩
 ·exact ⟨_,h1⟩
theorem Kp.tkB {tp:Addr} {H H':Hp} {x:Array Value} (a:Kp tp H H') (t:H tp=some (.tbl x)):TK H H':=λb xs h=>a b _ h λe=>by
 rw [e,t]at h;cases h
theorem TabSt.tk {tp:Addr} {H H':Hp} (t:TabSt tp H) (a:Kp tp H H'):TK H H':=by
 obtain ⟨x,h⟩:=t.tbl;exact a.tkB h
theorem TabSt.upd {tp p:Addr} {H:Hp} {o o':HO} (t:TabSt tp H) (h:H p=some o) (h1: ∀ x,o≠ .tbl x) (h2: ∀ c oc,o≠gm c oc):TabSt tp (L2.upd H p o'):=by
 rcases t with t | ⟨c',oc,t1,t2,t3,t4⟩
 ·refine .inl ?_;rw [ah (λe=>by rw [e,h]at t;exact h1 _ (A0 t))];exact t
 ·refine .inr ⟨c',oc,?_,t2,?_,t4⟩
  ·rw [ah (λe=>by rw [e,h]at t1;exact h1 _ (A0 t1))];exact t1
  ·rw [ah (λe=>by rw [e,h]at t3;exact h2 _ _ (A0 t3))];exact t3
theorem TabSt.lst {tp p:Addr} {H:Hp} {xs:List V} {o':HO} (t:TabSt tp H) (h:H p=some (.lst xs)):TabSt tp (L2.upd H p o'):=t.upd h (λ_ e=>by cases e) (λ_ _ e=>by cases e)
theorem TabSt.dT {tp p:Addr} {H:Hp} {xs:List (List Key×V)} {o':HO} (t:TabSt tp H) (h:H p=some (.dT xs)):TabSt tp (L2.upd H p o'):=t.upd h (λ_ e=>by cases e) (λ_ _ e=>by cases e)
theorem TabSt.ne {tp p:Addr} {H:Hp} {o:HO} (t:TabSt tp H) (h:H p=some o) (h1: ∀ x,o≠ .tbl x):p≠tp:=λe=>by
 obtain ⟨x,hx⟩:=t.tbl;rw [e,hx]at h;exact h1 x (A0 h).symm
theorem TabSt.fr {tp p:Addr} {H:Hp} (t:TabSt tp H) (h:H p=none):p≠tp:=λe=>by
 obtain ⟨x,hx⟩:=t.tbl;rw [e,hx]at h;cases h
theorem TabSt.sql {K:W.Frag} {tbA a:Addr} {H H':Hp} {xs:List V} (h:TabSt tbA H) (k:Kp tbA H H') (hS:SqL K H a xs):SqL K H' a xs:=by
 obtain ⟨t,h⟩:=h.tbl;rcases hS with (e | ⟨o,e⟩) | e
 ·exact .inl (.inl (k _ _ e λz=>by rw [z,h]at e;cases e))
 ·exact .inl (.inr ⟨o,k _ _ e λz=>by rw [z,h]at e;cases e⟩)
 ·exact .inr e
theorem kg {α β:Type} {F:α->β->Prop}: ∀ {a c:List α} {l:List β},Paired F (a++c) l-> ∃ b d,l=b++d/\Paired F a b/\Paired F c d
 | [],_,l,h=>⟨[],l,rfl,.nil,h⟩
 | _::a,c,_,h=>by
  cases h with
  | cons x t=>
   obtain ⟨b,d,e,h1,h2⟩:=kg (a:=a) t;exact ⟨_::b,d,by rw [e];rfl,.cons x h1,h2⟩
def pU (Pre:Hp->Prop) (C:Fm->Prop) (R:Hp->Fm->V->Prop) (c':Addr) (oc:Obj):Sp:=λvs H Q _=> ∃ g v p zs,vs=[v,.ref p]/\Rep H g v/\g.wf/\C g/\Pre H/\H p=some (.lst zs)/\Paired (R H) (eD g) zs/\H c'=some (gm c' oc)/\ ∀ u H',Same H H'->R H' g u->Q u H'
def lb (P:Program) (w:World) (K:W.Frag) (mg:Str->Option Value) (base:Heap):Sp:=λvs H Q _=>
 ∃ f v fl c' oc Pre C R,vs=[v,.ref fl]/\Rep H f v/\f.wf/\f.size<=15/\(∀ H H',Same H H'->Pre H->Pre H')/\(∀ g:Fm,C g-> ∀ k∈eD g,C k)/\(∀ (H H':Hp) (g:Fm) (u:V),TK H H'->R H g u->R H' g u)/\C f/\Pre H/\mi P w K mg base 3 fl (pU Pre C R c' oc)/\H c'=some (gm c' oc)/\ ∀ u H',Same H H'->R H' f u->Q u H'
theorem uM (F:Fun K "folded" "folded" iY f fd) (G:Gb mg) (hrev:mg "reversed"=none)
  (GT:Cl P w K mg base CX0 2 f2 fd2 ["formula"] gO "tuples_of")
  (GI:Cl P w K mg base CX0 1 f3 fd3 ["formula"] la "inner_of"):
  a8 P w K mg base CX0 4 f fd ["formula","tell"] (lb P w K mg base):=by
 refine F.ok scFold (λvs H Q E h=>?_) (λcdv A outer s H vs Q E hr h=>?_)
 ·obtain ⟨n,t,tv,c',oc,Pre,C,R,rfl,_⟩:=h;rfl
 obtain ⟨fm,v,fl,c',oc,Pre,C,R,rfl,hR,wf,h15,hPs,hCk,hRm,hCf,hPre,hT,hc,q⟩:=h;refine ⟨_,af (de (i:=2) scFold.nd rfl (Or.inr rfl) (bd ae))
  (af (bi A5 rfl (xR rfl hrev (pcl GT (hr.mono (show 2<=3 by decide)) (aa (pv 0) ae))) (pgz 3 scFold.nd)
   (af (di (i:=4) (te:=yS K "list" xP (tD 1)) (sc0:=ak iY) (N0:=xr) (ys:=["pile"]) (fr:=[2]) rfl scFold.nd rfl (Or.inl rfl)
     (bz rfl G.range (aa (au (r:=cZ K) aE rfl G.len Bd (aa (pcl GI (hr.mono (show 1<=3 by decide)) (aa (pv 3) ae)) ae)) ae)) rfl rfl
    cok
    (λC s H ex=>oK A8 Eu Ev oX (pv 1)))
   (aj (bC (dC A8 Bq Br bp (pv 2) (aa
    (uu (i:=1) hT hr rfl (Or.inl rfl) (aa (pv 3) (aa (pv 4) ae))) ae))))))
  (aj (ay (oK A8 Eu Ev oX (pv 2))))),?_⟩
 obtain ⟨out,hTs,hol,hend,hat⟩:=yI (H:=H) fm.size (fs:=[fm]) (ws:=[v]) rfl (λg hg=>by
  rcases AY.mp hg with rfl | z
  ·exact wf
  ·cases z) (.cons hR .nil)
 have hall:=pT hCk (fs:=[fm]) (λg hg=>by
  rcases AY.mp hg with rfl | z
  ·exact hCf
  ·cases z)
 refine ⟨iq,λpl hpl=>?_⟩;obtain ⟨H0,eW,s0,g0⟩:=nw hpl (.lst []);rw [eW];refine ⟨_,rfl,v,out,rfl,hTs.same s0,by lia,λlv H1 S1 g1=>⟨lv,out,rfl,SqL.of g1,?_⟩⟩;have S01:=s0.trans S1;have gp1:=S1 _ _ g0;have nlp:lv≠pl:=λz=>by
  rw [z,gp1]at g1;cases g1;have:=fm.size_pos;rw [<- hol]at this;cases this
 refine wS (λi σ H'=>i<=out.length/\ ∃ o3 o4 pv,σ=[some v,some (.ref fl),some (.ref pl),o3,o4]/\Same H H'/\H' lv=some (.lst out)/\H' pl=some (.lst (List.reverse pv))/\Paired (R H') (stF [fm] (out.length-i)) pv)
  ⟨A6 _,none,none,[],rfl,S01,g1,gp1,?_⟩ (λi σ H' _ h=>by obtain ⟨_,_,_,_,_,_,g,_⟩:=h;exact SqL.of g) ?_ ?_
 ·rw [Ft,hol,hend];exact .nil
 ·rintro i x σ H3 hi hx ⟨_,o3,o4,pv,rfl,S3,g3,gp3,hpv⟩;obtain ⟨g,r,e1,hRg,wg,hsz⟩:=hat _ _ hx;have hsr:=kX r;have hgs:=kb g;have hkl:=kX (eD g);obtain ⟨a,r',rfl,ha,hr3,hl,hK⟩:=mJ hRg wg;have hlk:(eD g).length=(bn (.str (hdW g)::r')).length:=AZ hK;rw [show out.length-i=out.length-1-i+1 by lia]at hpv;have hpv:Paired (R H3) (nxF (stF [fm] (out.length-1-i))) pv:=hpv;rw [e1]at hpv;have hpv:Paired (R H3) (eD g++r) pv:=hpv;obtain ⟨tp,rs,epv,htop,hrest⟩:=kg hpv;subst epv;have ltp:=AZ htop;have lrs:=AZ hrest;rw [List.reverse_append]at gp3;refine ⟨_,rfl,a,hdW g,r',rfl,S3 _ _ ha,by lia,λp4 H4 s4 g4=>⟨p4,_,rfl,.inr (SqT.of g4),_,rfl,by lia,by lia,?_⟩⟩;have gp4:=s4 _ _ gp3;have gl4:=s4 _ _ g3;have S4:=S3.trans s4;refine sH (n:=(eD g).length) (by lia) ltp.symm gp4 (λi H k h=>(show i<_ by lia)) (λH k=>(show _<=_ by lia)) (λi H v H' h=>h.1)
   (λx H k xs y h1 h2 h3=>⟨_,rfl,.inl ⟨rfl,xs,SqL.of h1⟩,pl,xs,y,rfl,rfl,h1,h2,h3⟩) ?_
  intro p5 H5 hp5 k5 gp5 g5;have np:p5≠pl:=λz=>by rw [z,gp4]at hp5;cases hp5
  have S5: ∀ b o,H b=some o->H5 b=some o:=λb o h=>k5 _ _ (S4 _ _ h) (ai h hpl);have gl5:=k5 _ _ gl4 nlp;have tk35:TK H3 H5:=(aq s4).trans (k5.tkL gp4);refine ⟨_,rfl,.inl ⟨rfl,_,SqL.of gp5⟩,rfl,_,rfl,_,rfl,g,.ref a,p5,tp,rfl,hRg.mono (λb xs h=>S5 _ _ h),wg,hall _ g (by rw [e1];exact A3),hPs H H5 S5 hPre,g5,Paired.mapP htop λ_ _ h=>hRm _ _ _ _ tk35 h,S5 _ _ hc,λu H6 s6 hu=>?_⟩;have gp6:=s6 _ _ gp5;have tk7:TK H6 (upd H6 pl (.lst (rs.reverse++[u]))):=TK.lst gp6;refine ⟨pl,_,_,rfl,rfl,gp6,am (by rw [Ck];lia),?_⟩;refine ⟨hi,_,_,u::rs,rfl,λb o h=>?_,?_,?_,?_⟩
  ·rw [ah (ai h hpl)];exact s6 _ _ (S5 _ _ h)
  ·rw [ah nlp];exact s6 _ _ gl5
  ·rw [ad,Fc]
  ·rw [show out.length- (i+1)=out.length-1-i by lia,e1];exact .cons (hRm _ _ _ _ tk7 hu) (Paired.mapP hrest λ_ _ h=>hRm _ _ _ _ ((tk35.trans (aq s6)).trans tk7) h)
 ·rintro σ H3 ⟨_,o3,o4,pv,rfl,S3,g3,gp3,hpv⟩;rw [DH]at hpv;have hpv:Paired (R H3) [fm] pv:=hpv;cases hpv with
  | @cons _ u _ rs hv hn=>
  cases hn;have tk7:TK H3 (upd H3 pl (.lst [])):=TK.lst gp3;refine ⟨_,rfl,.inl ⟨rfl,_,SqL.of gp3⟩,pl,_,u,rfl,rfl,gp3,rfl,q _ _ (λy oo h=>?_) (hRm _ _ _ _ tk7 hv)⟩;rw [ah (ai h hpl)];exact S3 _ _ h
end My
namespace L2
open PySem PySem.Spec PyProof.Rows
def zg:R2:=λx y H Q=> ∃ a b xs ys,x=.ref a/\y=.ref b/\H a=some (.tup xs)/\H b=some (.tup ys)/\xs.length+ys.length<=sizeLine/\ ∀ p H',(∀ b o,H b=some o->H' b=some o)->H' p=some (.tup (xs++ys))->Q (.ref p) H'
theorem dq {X:Cx}:OpR X (binaryOp .Add) zg:=by
 intro pins s σ H x y v u Q I rx ry h;obtain ⟨a,b,xs,ys,e1,e2,h1,h2,h3,q⟩:=h;refine uA pins s σ H x y v u Q I rx ry ⟨a,b,xs,ys,e1,e2,SqT.of h1,SqT.of h2,h3,λe=>q b H (λ_ _ h=>h) ?_,λ_ e=>q a H (λ_ _ h=>h) ?_,λ_ _ p hp=>q p _ (λb o e=>by rw [ah (ai e hp)];exact e) ad⟩
 ·rw [e];exact h2
 ·rw [e,Bh];exact h1
end L2
namespace My
open PySem L2
def rdgs:List Str:=["own","part"]
theorem kN {a:Str} {l:List Str} (h:a∉l):V.bl (inV (.str a) (l.map V.str))=V.bl false:=by rw [eF,AW h]
theorem wZ {a:Str} {l:List Str} (h:a∈l):V.bl (inV (.str a) (l.map V.str))=V.bl true:=by rw [eF,AO h]
def MdAt (H:Hp) (kvs:List (KK×V)) (M:KK->Option Fm):Prop:= ∀ k,(∀ g,M k=some g-> ∃ u,aW kvs k=some u/\Rep H g u)/\(M k=none->aW kvs k=none)
theorem MdAt.mono {H H':Hp} (t:TK H H') {kvs:List (KK×V)} {M:KK->Option Fm} (h:MdAt H kvs M):MdAt H' kvs M:=λk=>⟨λg e=>by
 obtain ⟨u,h1,h2⟩:=(h k).1 g e;exact ⟨u,h1,h2.mono t⟩,(h k).2⟩
theorem qD (x:V) (r:List V):db (x::r) none (some 1)=[x]:=by
 have e:HT.sIx (x::r).length (x::r).length (some 1)=min 1 (x::r).length:=HT.sIx_nat _ _ 1;unfold db;rw [e,HT.sIx_none,EZ,AM,Ft,show min 1 (r.length+1)=1 by lia];rfl
def jf:Sp:=λvs H Q _=> ∃ (g:Fm) (v:V) (p:Addr) (zs:List V) (md:Addr) (kvs:List (KK×V)) (M:KK->Option Fm),vs=[v,.ref p,.ref md]/\Rep H g v/\g.wf/\H md=some (.dT kvs)/\MdAt H kvs M/\H p=some (.lst zs)/\Paired (λk u=>Rep H (Fm.sub M k) u) (eD g) zs/\ ∀ u H',Same H H'->Rep H' (g.sub M) u->Q u H'
def tO (tbA:Addr):Sp:=λvs H Q _=> ∃ (f:Fm) (v:V) (md:Addr) (kvs:List (KK×V)) (M:KK->Option Fm),vs=[v,.ref md]/\Rep H f v/\f.wf/\f.size<=15/\H md=some (.dT kvs)/\MdAt H kvs M/\TabSt tbA H/\ ∀ u H',Kp tbA H H'->TabSt tbA H'->Rep H' (f.sub M) u->Q u H'
theorem tU:av ["one","inner","made"] ["one","inner","made"] (ak lq):=fsc
theorem rP (F:Fun K "one_put_otherwise" "one_put_otherwise" lq f fd) (G:Gb mg) (mR:mg "READINGS"=some (.ref aR)) (hR: ∀ H,SqT K H aR (rdgs.map V.str))
  (GK:Cl P w K mg base CX0 1 f2 fd2 ["reading"] iX "key_of"):
  a8 P w K mg base CX0 2 f fd ["one","inner","made"] jf:=by
 refine F.ok tU (λvs H Q E h=>?_) (λcdv A outer s H vs Q E hr h=>?_)
 ·obtain ⟨g,v,p,zs,md,kvs,M,rfl,_⟩:=h;rfl
 obtain ⟨g,v,p,zs,md,kvs,M,rfl,hRg,hwf,gmd,hM,gp,hz,q⟩:=h;have hu:=da hr;refine ⟨_,af (bc (ax cV (ar (r:=bf K) aA (pv 0) ag (λ_ _=>rfl)) (bh (v:=.ref aR) rfl mR rfl) (by with_unfolding_all rfl)) (aj (ay (fG hu (pv 2) (pcl GK hr (aa (pv 0) ae)) (pv 0) ⟨rfl,rfl,rfl,rfl⟩))) aK)
  (aj (ay (fF (mP (pv 1) (λ_=>rfl)) (aw dq (aT dg (pv 0) bg (aX ag)) (aU (r:=bU K) aN rfl G.tuple (by decide +kernel) (aa (pv 1) ae))) (pv 0)))),?_⟩
 obtain ⟨a,r,rfl,ha⟩:=gU hRg;refine ⟨_,rfl,a,_,0,.str (eG g),rfl,rfl,SqT.of ha,bx,?_⟩;cases g with
 | num n=>
  refine ⟨aR,_,rfl,.inr (hR H),rfl,bq,false,(kN (by show ("num":Str)∉rdgs;decide +kernel)),bt ?_⟩;cases hz;refine ⟨_,rfl,_,.inl ⟨_,SqL.of gp,rfl⟩,?_⟩;exact bt ⟨_,rfl,q _ H (λ_ _ h=>h) hRg⟩
 | own x=>
  obtain ⟨a',e,ha'⟩:=id hRg;cases e;refine ⟨aR,_,rfl,.inr (hR H),rfl,bq,true,(wZ (by show ("own":Str)∈rdgs;decide +kernel)),bL ?_⟩;refine ⟨_,rfl,md,rfl,.inr ⟨kvs,.inl gmd⟩,_,rfl,a,[.inr "own",.inr x],rfl,ha',(.inl ⟨x,rfl,bJ hwf⟩),λp9 i y hor hp9=>?_⟩;have s9:=al hp9 (.tup [.int i,.str y]);have g9:(upd H p9 (.tup [.int i,.str y])) p9=some (.tup (List.map kV (pk i y))):=ad;generalize upd H p9 (.tup [.int i,.str y])=H9 at s9 g9 ⊢;have ek:pk i y=pk (-1) x:=by
   rcases hor with ⟨e1,e2⟩ | e1
   ·obtain ⟨_,e3⟩:=A1 e1;rw [e2,BO (A1 e3).1]
   ·cases (A1 (A1 e1).2).1
  rw [ek]at g9;refine ⟨_,rfl,_,DGet.t (k:=pk (-1) x) (s9 _ _ gmd) g9,?_⟩;have q: ∀ u H',Same H H'->Rep H' ((M (pk (-1) x)).getD (.own x)) u->Q u H':=q;cases hm:M (pk (-1) x)with
  | none=>
   rw [hm]at q;rw [(hM _).2 hm];exact q _ H9 s9 (hRg.mono (aq s9))
  | some g0=>
   rw [hm]at q;obtain ⟨u,h1,h2⟩:=(hM _).1 g0 hm;rw [h1];exact q u H9 s9 (h2.mono (aq s9))
 | part k x=>
  obtain ⟨a',e,ha'⟩:=id hRg;cases e;refine ⟨aR,_,rfl,.inr (hR H),rfl,bq,true,(wZ (by show ("part":Str)∈rdgs;decide +kernel)),bL ?_⟩;refine ⟨_,rfl,md,rfl,.inr ⟨kvs,.inl gmd⟩,_,rfl,a,[.inr "part",.inl k,.inr x],rfl,ha',(.inr ⟨k,x,rfl,bJ hwf.2⟩),λp9 i y hor hp9=>?_⟩;have s9:=al hp9 (.tup [.int i,.str y]);have g9:(upd H p9 (.tup [.int i,.str y])) p9=some (.tup (List.map kV (pk i y))):=ad;generalize upd H p9 (.tup [.int i,.str y])=H9 at s9 g9 ⊢;have ek:pk i y=pk k x:=by
   rcases hor with ⟨e1,e2⟩ | e1
   ·cases (A1 (A1 e1).2).1
   ·obtain ⟨_,e3⟩:=A1 e1;obtain ⟨e4,e5⟩:=A1 e3;rw [CM e4,BO (A1 e5).1]
  rw [ek]at g9;refine ⟨_,rfl,_,DGet.t (k:=pk k x) (s9 _ _ gmd) g9,?_⟩;have q: ∀ u H',Same H H'->Rep H' ((M (pk k x)).getD (.part k x)) u->Q u H':=q;cases hm:M (pk k x)with
  | none=>
   rw [hm]at q;rw [(hM _).2 hm];exact q _ H9 s9 (hRg.mono (aq s9))
  | some g0=>
   rw [hm]at q;obtain ⟨u,h1,h2⟩:=(hM _).1 g0 hm;rw [h1];exact q u H9 s9 (h2.mono (aq s9))
 | bin op A B=>
  obtain ⟨a1,u1,u2,e,ha1,_,_⟩:=id hRg;cases e;obtain ⟨ho,w1,w2⟩:op∈ops/\A.wf/\B.wf:=hwf;have hnr:op∉rdgs:=λz=>by
   simp only [rdgs,AY,Bz,CV]at z;rcases z with z | z <;> (rw [z]at ho;exact absurd ho (by decide +kernel))
  refine ⟨aR,_,rfl,.inr (hR H),rfl,bq,false,(kN hnr),bt ?_⟩;obtain ⟨z1,z2,rfl,h1,h2⟩: ∃ z1 z2,zs=[z1,z2]/\Rep H (A.sub M) z1/\Rep H (B.sub M) z2:=by
   cases hz with
   | cons x t=>
    cases t with
    | cons y t'=>
     cases t';exact ⟨_,_,rfl,x,y⟩
  refine ⟨_,rfl,_,.inl ⟨_,SqL.of gp,rfl⟩,bL ?_⟩;refine ⟨_,rfl,1,rfl,a,_,rfl,ha1,λp1 H1 s1 g1=>?_⟩;rw [qD]at g1;refine ⟨_,rfl,p,_,rfl,.inl ⟨SqL.of (s1 _ _ gp),λp2 hp2=>?_⟩⟩;obtain ⟨H2,eW,s2,g2⟩:=nw hp2 (.tup [z1,z2]);rw [eW];refine ⟨p1,p2,_,_,rfl,rfl,s2 _ _ g1,g2,(by show 1+2<=sizeLine;decide),λp3 H3 s3 g3=>?_⟩;have S3:Same H H3:=λb u h=>s3 _ _ (s2 _ _ (s1 _ _ h));exact q _ H3 S3 ⟨p3,z1,z2,rfl,g3,h1.mono (aq S3),h2.mono (aq S3)⟩
 | whn A B C=>
  obtain ⟨a1,u1,u2,u3,e,ha1,_,_,_⟩:=id hRg;cases e;refine ⟨aR,_,rfl,.inr (hR H),rfl,bq,false,(kN (by show ("when":Str)∉rdgs;decide +kernel)),bt ?_⟩;obtain ⟨z1,z2,z3,rfl,h1,h2,h3⟩: ∃ z1 z2 z3,zs=[z1,z2,z3]/\Rep H (A.sub M) z1/\Rep H (B.sub M) z2/\Rep H (C.sub M) z3:=by
   cases hz with
   | cons x t=>
    cases t with
    | cons y t'=>
     cases t' with
     | cons z t''=>
      cases t'';exact ⟨_,_,_,rfl,x,y,z⟩
  refine ⟨_,rfl,_,.inl ⟨_,SqL.of gp,rfl⟩,bL ?_⟩;refine ⟨_,rfl,1,rfl,a,_,rfl,ha1,λp1 H1 s1 g1=>?_⟩;rw [qD]at g1;refine ⟨_,rfl,p,_,rfl,.inl ⟨SqL.of (s1 _ _ gp),λp2 hp2=>?_⟩⟩;obtain ⟨H2,eW,s2,g2⟩:=nw hp2 (.tup [z1,z2,z3]);rw [eW];refine ⟨p1,p2,_,_,rfl,rfl,s2 _ _ g1,g2,(by show 1+3<=sizeLine;decide),λp3 H3 s3 g3=>?_⟩;have S3:Same H H3:=λb u h=>s3 _ _ (s2 _ _ (s1 _ _ h));exact q _ H3 S3 ⟨p3,z1,z2,z3,rfl,g3,h1.mono (aq S3),h2.mono (aq S3),h3.mono (aq S3)⟩
theorem nv {qual:Str} {cl:List (Str×Addr)} {fl c' md:Addr} {oc:Obj} {kvs:List (KK×V)} {M:KK->Option Fm}
  (GW:Cl P w K mg base CX0 2 f3 fd3 ["one","inner","made"] jf "one_put_otherwise")
  (hoc:i7 oc qual) (hL:qN base cl ["made"] [.ref md] fl c' "<lambda>" qual Af Ae ya):mi P w K mg base 3 fl (pU (λH=>H md=some (.dT kvs)/\MdAt H kvs M) (λ_=>True) (λH g u=>Rep H (Fm.sub M g) u) c' oc):=by
 obtain ⟨⟨pm,ctv,hfl⟩,hcell,hinj,hcap,hcs⟩:=hL;obtain ⟨vc,tq,hd,hq⟩:=hoc;refine x0 (ps:=["one","inner"]) (ys:=["made"]) (cs:=[.ref md]) hfl hd hq yX hcell hinj hcap hcs (λus hl=>?_) (λvs H Q h=>?_) (λvs H Q h=>?_) (λA outer s H vs Q hr h=>?_)
 ·match us,hl with
  | [_,_],_=>rfl
 ·obtain ⟨g,v,p,zs,rfl,_⟩:=h;rfl
 ·obtain ⟨g,v,p,zs,rfl,_,_,_,_,_,_,h,_⟩:=h;exact h
 ·obtain ⟨g,v,p,zs,rfl,hR,wf,_,⟨hP,hM⟩,hp,hz,_,q⟩:=h;refine ⟨_,pcl GW hr (aa (pv 0) (aa (pv 1) (aa (pv 2) ae))),?_⟩;exact ⟨_,rfl,_,rfl,_,rfl,g,v,p,zs,md,kvs,M,rfl,hR,wf,hP,hM,hp,hz,q⟩
theorem xK:av ["formula","made"] ["formula","made"] (ak mE):=fsc
theorem wt (F:Fun K "put_otherwise" "put_otherwise" mE f fd) (hfc:fd.code=.ref c) (hC:W.CodeHd base c tbA) (hB:base.BuiltinsAt mg tbA)
  (GF: ∀ base,a8 P w K mg base CX0 4 f2 fd2 ["formula","tell"] (lb P w K mg base)) (bF:Binds K fd2 ["formula","tell"] []) (kF:W.keepIn K (.ref f2)=true) (mF:mg "folded"=some (.ref f2))
  (GW: ∀ base,a8 P w K mg base CX0 2 f3 fd3 ["one","inner","made"] jf) (bW:Binds K fd3 ["one","inner","made"] []) (kW:W.keepIn K (.ref f3)=true) (mW:mg "one_put_otherwise"=some (.ref f3)):
  a8 P w K mg base CX0 5 f fd ["formula","made"] (tO tbA):=by
 refine F.okC xK (λvs H Q E h=>?_) (λA outer s H vs Q E hr h=>?_)
 ·obtain ⟨fm,v,md,kvs,M,rfl,_⟩:=h;rfl
 obtain ⟨fm,v,md,kvs,M,rfl,hR,wf,h15,gmd,hM,hTb,q⟩:=h;refine ⟨_,aj (ay (oJ (spF:=lb P w K mg) (ys:=["made"]) (fr:=[1]) GF hr rfl mF kF bF (pv 0) hC hfc hB yc (λ_=>rfl) rfl)),?_⟩;have hPs: ∀ H H':Hp,Same H H'->(H md=some (.dT kvs)/\MdAt H kvs M)->(H' md=some (.dT kvs)/\MdAt H' kvs M):=λH H' s h=>⟨s _ _ h.1,h.2.mono (aq s)⟩;rcases hTb with hP | ⟨c',oc,hP,hne,hc',hoc⟩
 ·have ntd:md≠tbA:=λz=>by rw [z,hP]at gmd;cases gmd
  refine ⟨_,rfl,#[],[.ref md],hP,trivial,rfl,.inl ⟨rfl,λfl c' oc base nc ncP hoc hL=>?_⟩⟩;have ntc:md≠c':=ai gmd nc;have tk:TK H (upd (upd H tbA (.tbl (#[]++ #[rawInt lamP.line,rawInt lamP.col,.ref c']))) c' (gm c' oc)):=by
   refine TK.trans (TK.upd λxs e=>?_) (TK.new ?_)
   ·rw [hP]at e;cases e
   ·rw [ah ncP];exact nc
  refine ⟨fm,v,fl,c',oc,(λH=>H md=some (.dT kvs)/\MdAt H kvs M),(λ_=>True),(λH g u=>Rep H (Fm.sub M g) u),rfl,hR.mono tk,wf,h15,hPs,(λ_ _ _ _=>trivial),(λH H' g u t h=>Rep.mono t h),trivial,⟨?_,hM.mono tk⟩,nv ⟨GW _,bW,kW,mW⟩ hoc hL,ad,λu H' sm hu=>q u H' (λb o h hb=>sm _ _ ?_) (.inr ⟨c',oc,sm _ _ ?_,ncP,sm _ _ ad,hoc⟩) hu⟩
  ·rw [ah ntc,ah ntd];exact gmd
  ·rw [ah (ai h nc),ah hb];exact h
  ·rw [ah (Bg ncP),ad];rfl
 ·refine ⟨_,rfl,_,[.ref md],hP,trivial,rfl,.inr ⟨c',oc,rfl,hc',hoc,λfl base hL=>?_⟩⟩;exact ⟨fm,v,fl,c',oc,(λH=>H md=some (.dT kvs)/\MdAt H kvs M),(λ_=>True),(λH g u=>Rep H (Fm.sub M g) u),rfl,hR,wf,h15,hPs,(λ_ _ _ _=>trivial),(λH H' g u t h=>Rep.mono t h),trivial,⟨gmd,hM⟩,nv ⟨GW _,bW,kW,mW⟩ hoc hL,hc',λu H' sm hu=>q u H' (λb o h _=>sm _ _ h) (TabSt.same sm (.inr ⟨c',oc,hP,hne,hc',hoc⟩)) hu⟩
noncomputable def hJ (Z:KK->Option Nat) (g:Fm):Nat:=match kyP g with
 | some k=>(Z k).getD 1
 | none=>1
noncomputable def fi (Z:KK->Option Nat):List Fm->Nat
 | []=>0
 | g::r=>hJ Z g+fi Z r
theorem j6 (Z:KK->Option Nat) (g:Fm): ∀ l:List Fm,fi Z (l++[g])=fi Z l+hJ Z g
 | []=>by show hJ Z g+0=0+hJ Z g;lia
 | x::r=>by
  show hJ Z x+fi Z (r++[g])=hJ Z x+fi Z r+hJ Z g;rw [j6 Z g r];lia
theorem Ts.sums {H:Hp} {Z:KK->Option Nat}: ∀ {fm:Fm} {v:V} {vs out:List V} {gs:List Fm},Rep H fm v->fm.wf->Ts H vs out->Paired (λg u=>Rep H g u/\g.wf) gs out-> ∃ out' gs',Ts H (v::vs) out'/\out'.length=fm.size+out.length/\Paired (λg u=>Rep H g u/\g.wf) gs' out'/\fi Z gs'=fm.szw Z+fi Z gs
 | .num n,_,vs,out,gs,R,w,t,h=>by
  obtain ⟨a,rfl,ha⟩:=id R;exact ⟨_,_,.cons ha (by decide +kernel) (by simp) (by rw [show bn [.str "num",.int n]=[] by simp only [bn,fZ];rfl];exact t),by show out.length+1=1+out.length;lia,.cons ⟨R,w⟩ h,rfl⟩
 | .own x,_,vs,out,gs,R,w,t,h=>by
  obtain ⟨a,rfl,ha⟩:=id R;exact ⟨_,_,.cons ha (by decide +kernel) (by simp) (by rw [show bn [.str "own",.str x]=[] by simp only [bn,eE];rfl];exact t),by show out.length+1=1+out.length;lia,.cons ⟨R,w⟩ h,rfl⟩
 | .part k x,_,vs,out,gs,R,w,t,h=>by
  obtain ⟨a,rfl,ha⟩:=id R;exact ⟨_,_,.cons ha (by decide +kernel) (by simp) (by rw [show bn [.str "part",.int k,.str x]=[] by simp only [bn,dE];rfl];exact t),by show out.length+1=1+out.length;lia,.cons ⟨R,w⟩ h,rfl⟩
 | .bin op A B,_,vs,out,gs,R,w,t,h=>by
  obtain ⟨a,u,v,rfl,ha,r1,r2⟩:=id R;obtain ⟨o1,g1,t1,l1,h1,e1⟩:=Ts.sums (Z:=Z) r2 w.2.2 t h;obtain ⟨o2,g2,t2,l2,h2,e2⟩:=Ts.sums (Z:=Z) r1 w.2.1 t1 h1;refine ⟨_,_,.cons ha (iy w.1) (by simp) (by rw [show bn [.str op,u,v]=[u,v] by simp only [bn,iD w.1];rfl];exact t2),by rw [AM,l2,l1];show _=A.size+B.size+1+out.length;lia,.cons ⟨R,w⟩ h2,?_⟩;show 1+fi Z g2=A.szw Z+B.szw Z+1+fi Z gs;rw [e2,e1];lia
 | .whn A B C,_,vs,out,gs,R,w,t,h=>by
  obtain ⟨a,u,v,x,rfl,ha,r1,r2,r3⟩:=id R;obtain ⟨o0,g0,t0,l0,h0,e0⟩:=Ts.sums (Z:=Z) r3 w.2.2 t h;obtain ⟨o1,g1,t1,l1,h1,e1⟩:=Ts.sums (Z:=Z) r2 w.2.1 t0 h0;obtain ⟨o2,g2,t2,l2,h2,e2⟩:=Ts.sums (Z:=Z) r1 w.1 t1 h1;refine ⟨_,_,.cons ha (by decide +kernel) (by simp) (by rw [show bn [.str "when",u,v,x]=[u,v,x] by simp only [bn,jz];rfl];exact t2),by rw [AM,l2,l1,l0];show _=A.size+B.size+C.size+1+out.length;lia,.cons ⟨R,w⟩ h2,?_⟩;show 1+fi Z g2=A.szw Z+B.szw Z+C.szw Z+1+fi Z gs;rw [e2,e1,e0];lia
noncomputable def fh (dn:List KK) (U:KK->Fm) (k:KK):Option Nat:=if k∈dn then some (U k).size else none
theorem vJ (dn:List KK) (U:KK->Fm):fh dn U=λk=>(gn dn U k).map Fm.size:=by
 funext k;unfold fh gn;by_cases c:k∈dn
 ·rw [AX c,AX c];rfl
 ·rw [AQ c,AQ c];rfl
def At (kvs:List (KK×V)) (Z:KK->Option Nat):Prop:= ∀ k,aW kvs k=(Z k).map λn=>V.int ((n:Nat):Int)
theorem jC (z:Option Nat):(z.map λn=>V.int ((n:Nat):Int)).getD (.int 1)=V.int ((z.getD 1:Nat):Int):=by cases z <;> rfl
def tP (CG:Addr):Sp:=λvs H Q E=> ∃ (v:V) (fr:Frm) (p:Addr) (ys:List V) (ord:List KK) (U:KK->Fm),vs=[v,.ref p]/\RepF H fr v/\RsOk fr.rules/\H p=some (.lst ys)/\KsOf H ys ord/\qL fr.rules ord/\(∀ r∈fr.rules,Unf fr.rules r.fm (U (ao r)))/\((∀ r∈fr.rules,(U (ao r)).size<=400)-> ∀ H',Same H H'->Q .non H')/\((∃ r∈fr.rules,400< (U (ao r)).size)-> ∀ H',Same H H'->E (.ref CG) none H')
noncomputable def unR (U:KK->Fm) (r:Rul):Rul:=⟨r.pl,r.word,U (ao r)⟩
noncomputable def unF (U:KK->Fm) (fr:Frm):Frm:=⟨fr.name,fr.own,fr.parts,fr.rules.map (unR U)⟩
abbrev RsS (rs:List Rul):Prop:= ∀ r∈rs,r.fm.size<=15
def qa (tbA:Addr):Sp:=λvs H Q _=> ∃ (v:V) (fr:Frm) (p:Addr) (ys:List V) (ord:List KK) (U:KK->Fm),vs=[v,.ref p]/\RepF H fr v/\RsOk fr.rules/\RsS fr.rules/\H p=some (.lst ys)/\KsOf H ys ord/\qL fr.rules ord/\UOk fr.rules U/\TabSt tbA H/\ ∀ u H',Kp tbA H H'->TabSt tbA H'->RepF H' (unF U fr) u->Q u H'
theorem kj {H:Hp} {rs:List Rul} {kv:List (KK×V)} (hok:RsOk rs) (hP:Paired (KvR H) rs kv) {k:KK} (hk:k∈rs.map ao): ∃ r∈rs,ao r=k/\ ∃ u,aW kv k=some u/\Rep H r.fm u:=by
 obtain ⟨r,hr,rfl⟩:=AK.mp hk;obtain ⟨j,hj⟩:=Ba hr;obtain ⟨⟨k',u⟩,hu,e,hR⟩:=bX hP hj;have e:k'=ao r:=e;subst e;exact ⟨r,hr,rfl,u,fN (by rw [ib hP];exact hok.nd) hu,hR⟩
abbrev NFt:List Str:=["form","order","formulas","sizes","key","size","one"]
theorem scFewT:av NFt ["form","order"] (ak tY):=fsc
theorem wu {tM:Tok} {CG:Addr} (mX:mg "TooGreat"=some (.ref CG)) (qX:W.excIn K CG bmV "ValueError.__new__"=true) (F:Fun K "need_few_tuples" "need_few_tuples" tY f fd) (mR:mg "READINGS"=some (.ref aR)) (hR: ∀ H,SqT K H aR (rdgs.map V.str)) (mM:mg "MOST_TUPLES_MADE"=some (.int 400 tM))
  (GB:Cl P w K mg base CX0 2 f2 fd2 ["form"] gQ "formulas_by_key")
  (GT:Cl P w K mg base CX0 2 f3 fd3 ["formula"] gO "tuples_of")
  (GK:Cl P w K mg base CX0 1 f4 fd4 ["reading"] iX "key_of"):
  a8 P w K mg base (CX1 P w CG) 3 f fd ["form","order"] (tP CG):=by
 refine F.ok1 scFewT (λvs H Q E h=>?_) (λcdv A outer s H vs Q E hr h=>?_)
 ·obtain ⟨v,fr,p,ys,ord,U,rfl,_⟩:=h;rfl
 obtain ⟨v,fr,p,ys,ord,U,rfl,hF,hok,gp,hys,hO,hU,q,qE⟩:=h;have h12:=hok.few;have hu:=da hr;have hr1:=hr.mono (show 1<=2 by decide);refine ⟨_,af (psz 2 scFewT.nd (pcl GB hr (aa (pv 0) ae)))
  (af (psz 3 scFewT.nd cq)
  (aj (bi Fe rfl (cA (pv 1)) (pgz 4 scFewT.nd)
   (af (psz 5 scFewT.nd ag)
   (af (bi Fe rfl (cA (pcl GT hr (aa (bK hu (pv 2) (pv 4) (λ_ _=>rfl)) ae))) (pgz 6 scFewT.nd)
    (aj (uh (i:=5) scFewT.nd rfl (Or.inl rfl) (fF (ax cV (ar (r:=bf K) aA (pv 6) ag (λ_ _=>rfl)) (bh (v:=.ref aR) rfl mR rfl) (by with_unfolding_all rfl))
     (fG hu (pv 3) (pcl GK hr1 (aa (pv 6) ae)) ag ⟨rfl,rfl,rfl,rfl⟩) ag) u8)))
   (af (bc (ax gj (pv 5) (bh (v:=.int 400) rfl mM ⟨_,rfl⟩) (aL _)) (aj (rm (E:=E) rfl rfl mX qX DD (λpins σ H s h' y vs I m z=>sD I m z) (aa aJ ae))) aK)
   (aj (cz hu (pv 3) (pv 4) (pv 5) rfl)))))))),?_⟩
 refine ⟨_,rfl,v,fr,rfl,hF,hok,λfd kv H1 hfd s1 gfd hP=>?_⟩;refine λsz hsz=>?_;have nfs:fd≠sz:=ai gfd hsz;have s2:=al hsz (.dT []);have g2:(upd H1 sz (.dT [])) sz=some (.dT []):=ad;have hsz0:H sz=none:=s1.free hsz;have npz:p≠sz:=ai gp hsz0;generalize upd H1 sz (.dT [])=H2 at s2 g2 ⊢;have S2:=s1.trans s2;have lys:ys.length=ord.length:=AZ hys;have lord:=hO.len;refine ⟨_,rfl,p,rfl,⟨_,SqL.of (S2 _ _ gp)⟩,?_⟩;refine cN (xs:=ys) (λi σ H'=>i<=ys.length/\ ∃ o4 o5 o6 kvs,σ=[some v,some (.ref p),some (.ref fd),some (.ref sz),o4,o5,o6]/\Same H1 H'/\H' sz=some (.dT kvs)/\kvs.length<=i/\At kvs (fh (ord.take i) U)/\ ∀ k∈ord.take i,(U k).size<=400)
  ⟨A6 _,none,none,none,[],rfl,s2,g2,AJ _,λk=>by unfold fh;rw [BI,AQ (by simp)];rfl,λk hk=>by rw [BI]at hk;cases hk⟩ (λi σ H' _ h=>by obtain ⟨_,_,_,_,_,_,s',_⟩:=h;exact SqL.of (s' _ _ (s1 _ _ gp))) ?_ ?_
 ·rintro i x σ H3 hx ⟨hi,o4,o5,o6,kvs,rfl,S3,gs3,hl3,hZ3,h43⟩;have hil:i<ys.length:=(AF.mp hx).1;obtain ⟨k,hk,b,eb,hb⟩: ∃ k,ord[i]? =some k/\ ∃ b,x=.ref b/\H b=some (.tup (List.map kV k)):=by
   obtain ⟨k,h1,b,h2,h3⟩:=bX hys hx;exact ⟨k,h1,b,h2,h3⟩
  subst eb;have hkk:=hO.sub k (AH hk);obtain ⟨r,hrm,rfl,u,hval,hRu⟩:=kj hok hP hkk;obtain ⟨hwf,hsz15⟩:=hok.fm r hrm;have hb1:=s1 _ _ hb;have gfd3:=S3 _ _ gfd;have hsub:r.fm.sub (gn (ord.take i) U)=U (ao r):=pQ hok hU (λo ho=>hO.sub o (BP ho)) hrm (hO.top i _ hk);have hW:r.fm.szw (fh (ord.take i) U)=(U (ao r)).size:=by rw [vJ,eM,hsub]
  obtain ⟨out,gs,hTs,hol,hgs,hsum⟩:=Ts.sums (Z:=fh (ord.take i) U) (hRu.mono (aq S3)) hwf Ts.nil .nil;have hol:out.length=r.fm.size:=hol;have hsum:fi (fh (ord.take i) U) gs=r.fm.szw (fh (ord.take i) U):=hsum;have lgs:gs.length=out.length:=AZ hgs;refine ⟨_,rfl,_,rfl,fd,u,rfl,(by rw [<- hval];exact DGet.t (k:=ao r) gfd3 (S3 _ _ hb1)),u,out,rfl,hTs,by lia,λtl H4 s4 g4=>?_⟩;refine ⟨tl,rfl,⟨_,SqL.of g4⟩,?_⟩;refine cN (xs:=out) (λm σ H'=>m<=out.length/\ ∃ o6,σ=[some v,some (.ref p),some (.ref fd),some (.ref sz),some (.ref b),some (.int ((fi (fh (ord.take i) U) (gs.take m):Nat):Int)),o6]/\Same H4 H')
   ⟨A6 _,o6,rfl,Same.refl _⟩ (λm σ H' _ h=>by obtain ⟨_,_,_,s'⟩:=h;exact SqL.of (s' _ _ g4)) ?_ ?_
  ·rintro m y σ H5 hy ⟨hm,o6,rfl,s5⟩;have hml:m<out.length:=(AF.mp hy).1;obtain ⟨g,hg,hRg,hwg⟩:=aH hgs hy;have S35:=s4.trans s5;have hRg:=hRg.mono (aq S35);have gs5:=S35 _ _ gs3;have etk:fi (fh (ord.take i) U) (gs.take (m+1))=fi (fh (ord.take i) U) (gs.take m) +hJ (fh (ord.take i) U) g:=by rw [aP hg,j6]
   have fin: ∀ H6,Same H5 H6->m+1<=out.length/\ ∃ o6',[some v,some (V.ref p),some (.ref fd),some (.ref sz),some (.ref b),some (V.int (((fi (fh (ord.take i) U) (gs.take m):Nat):Int) + ((hJ (fh (ord.take i) U) g:Nat):Int))),some y]=[some v,some (.ref p),some (.ref fd),some (.ref sz),some (.ref b),some (.int ((fi (fh (ord.take i) U) (gs.take (m+1)):Nat):Int)),o6']/\Same H4 H6:=λH6 s6=>by
    refine ⟨hml,some y,?_,s5.trans s6⟩;rw [etk,Int.natCast_add]
   obtain ⟨a,rr,rfl,ha⟩:=gU hRg;refine ⟨_,rfl,_,rfl,a,_,0,.str (eG g),rfl,rfl,SqT.of ha,bx,?_⟩;cases g with
   | num n=>
    refine ⟨aR,_,rfl,.inr (hR H5),rfl,bq,false,(kN (by show ("num":Str)∉rdgs;decide +kernel)),bt ?_⟩;exact ⟨_,_,rfl,rfl,fin H5 (Same.refl _)⟩
   | own x=>
    obtain ⟨a',e,ha'⟩:=id hRg;cases e;refine ⟨aR,_,rfl,.inr (hR H5),rfl,bq,true,(wZ (by show ("own":Str)∈rdgs;decide +kernel)),bL ?_⟩;refine ⟨_,rfl,sz,rfl,.inr ⟨kvs,.inl gs5⟩,_,rfl,a,[.inr "own",.inr x],rfl,ha',(.inl ⟨x,rfl,bJ hwg⟩),λp9 i9 y9 hor hp9=>?_⟩;have s9:=al hp9 (.tup [.int i9,.str y9]);have g9:(upd H5 p9 (.tup [.int i9,.str y9])) p9=some (.tup (List.map kV (pk i9 y9))):=ad;generalize upd H5 p9 (.tup [.int i9,.str y9])=H9 at s9 g9 ⊢;have ek:pk i9 y9=pk (-1) x:=by
     rcases hor with ⟨e1,e2⟩ | e1
     ·obtain ⟨_,e3⟩:=A1 e1;rw [e2,BO (A1 e3).1]
     ·cases (A1 (A1 e1).2).1
    rw [ek]at g9;refine ⟨_,DGet.t (k:=pk (-1) x) (s9 _ _ gs5) g9,?_⟩;rw [hZ3 (pk (-1) x),jC];exact ⟨_,_,rfl,rfl,fin H9 s9⟩
   | part k x=>
    obtain ⟨a',e,ha'⟩:=id hRg;cases e;refine ⟨aR,_,rfl,.inr (hR H5),rfl,bq,true,(wZ (by show ("part":Str)∈rdgs;decide +kernel)),bL ?_⟩;refine ⟨_,rfl,sz,rfl,.inr ⟨kvs,.inl gs5⟩,_,rfl,a,[.inr "part",.inl k,.inr x],rfl,ha',(.inr ⟨k,x,rfl,bJ hwg.2⟩),λp9 i9 y9 hor hp9=>?_⟩;have s9:=al hp9 (.tup [.int i9,.str y9]);have g9:(upd H5 p9 (.tup [.int i9,.str y9])) p9=some (.tup (List.map kV (pk i9 y9))):=ad;generalize upd H5 p9 (.tup [.int i9,.str y9])=H9 at s9 g9 ⊢;have ek:pk i9 y9=pk k x:=by
     rcases hor with ⟨e1,e2⟩ | e1
     ·cases (A1 (A1 e1).2).1
     ·obtain ⟨_,e3⟩:=A1 e1;obtain ⟨e4,e5⟩:=A1 e3;rw [CM e4,BO (A1 e5).1]
    rw [ek]at g9;refine ⟨_,DGet.t (k:=pk k x) (s9 _ _ gs5) g9,?_⟩;rw [hZ3 (pk k x),jC];exact ⟨_,_,rfl,rfl,fin H9 s9⟩
   | bin op A B=>
    obtain ⟨ho,_,_⟩:op∈ops/\A.wf/\B.wf:=hwg;have hnr:op∉rdgs:=λz=>by
     simp only [rdgs,AY,Bz,CV]at z;rcases z with z | z <;> (rw [z]at ho;exact absurd ho (by decide +kernel))
    refine ⟨aR,_,rfl,.inr (hR H5),rfl,bq,false,(kN hnr),bt ?_⟩;exact ⟨_,_,rfl,rfl,fin H5 (Same.refl _)⟩
   | whn A B C=>
    refine ⟨aR,_,rfl,.inr (hR H5),rfl,bq,false,(kN (by show ("when":Str)∉rdgs;decide +kernel)),bt ?_⟩;exact ⟨_,_,rfl,rfl,fin H5 (Same.refl _)⟩
  ·rintro σ H5 ⟨_,o6,rfl,s5⟩;rw [<- lgs,Bc,hsum,hW];refine ⟨_,rfl,_,_,rfl,rfl,_,rfl,?_⟩;have S35:=s4.trans s5;have S15:=S3.trans S35;by_cases c4:400< (U (ao r)).size
   ·rw [AO (by lia)];exact bL ⟨fc,qE ⟨r,hrm,c4⟩ _ (s1.trans S15)⟩
   rw [AW (by lia)];refine bt ?_;refine ⟨_,rfl,_,rfl,_,rfl,sz,_,rfl,DPut.t (k:=ao r) (S35 _ _ gs3) (S15 _ _ hb1) (am (by lia)),?_⟩;have hlp:=bI kvs (ao r) (V.int ((U (ao r)).size:Int));refine ⟨hil,_,_,_,_,rfl,λb' u' h=>?_,ad,by lia,λk=>?_,λk hk'=>?_⟩
   ·rw [ah (ai h hsz)];exact S15 _ _ h
   ·rw [cI];by_cases ck:k=ao r
    ·subst ck;rw [AX rfl];unfold fh;rw [aP hk,AX (by simp)];rfl
    ·rw [AQ ck,hZ3 k];unfold fh;rw [aP hk];have:(k∈ord.take i++[ao r])↔k∈ord.take i:=by rw [AT,AE];exact ⟨λz=>z.elim id (λz=>absurd z ck),.inl⟩
     by_cases cm:k∈ord.take i
     ·rw [AX cm,AX (this.mpr cm)]
     ·rw [AQ cm,AQ (λz=>cm (this.mp z))]
   ·rw [aP hk,AT,AE]at hk';rcases hk' with z | z
    ·exact h43 k z
    ·rw [z];lia
 ·rintro σ H3 ⟨_,o4,o5,o6,kvs,rfl,S3,gs3,hl3,hZ3,h43⟩;rw [lys,Bc]at h43;exact q (λr hr=>h43 _ (hO.all r hr)) H3 (s1.trans S3)
end My
namespace HT
open PySem PyProof.Rows
section
variable {prog:Program} {w:World} {A:Around} {s:Shared} {E:Value->Shared->Prop}
noncomputable def zK2 (h:Heap) (l1 l2:Addr):Heap:=(h.push (tIt l1)).push (zw l2)
noncomputable def zK3 (h:Heap) (l1 l2:Addr):Heap:=(zK2 h l1 l2).push {cls:=.type "tuple",data:=.seq #[.ref h.objs.size,.ref (h.push (tIt l1)).objs.size]}
noncomputable def zK4 (h:Heap) (l1 l2:Addr):Heap:=(zK3 h l1 l2).push {cls:=.type "tuple",data:=.seq #[.none,.none]}
noncomputable def zK5 (h:Heap) (l1 l2:Addr):Heap:=(zK4 h l1 l2).push {cls:=.type "zip",data:=.fields #[.none,.bool false,.bool false,.ref (zK2 h l1 l2).objs.size,.ref (zK3 h l1 l2).objs.size]}
theorem sS (l1 l2:Addr) (xs ys:Array Value):Meets (Builtin.«zip.__new__» ⟨[.type "zip",.ref l1,.ref l2],[]⟩)
  (λ_ R s=>s.heap.IsTuple l1 xs/\s.heap.IsList l2 ys/\R (.ok (.ret (.ref (zK4 s.heap l1 l2).objs.size))) {s with heap:=zK5 s.heap l1 l2}):=
 .of_wp λprog w A R s h=>by
  obtain ⟨hp,g,d,tk,os⟩:=s;obtain ⟨a1,a2,h⟩:=h;have sub:=sub_zip;have b1:Heap.IsTuple (Shared.heap ⟨hp,g,d,tk,os⟩) l1 xs:=a1;have b2:Heap.IsList (Shared.heap ⟨hp.push {cls:=.type "tuple_iterator",data:=.fields #[.ref l1,.int 0 0]},g,d,tk,os⟩) l2 ys:=Heap.IsList.push a2 _
  wp_walk using wpAny_pyIter_tuple b1,Eh b2
  exact ⟨_,rfl,h⟩
theorem call_zipK {l1 l2:Addr} {xs ys:Array Value} {Q:Value->Shared->Prop} (a1:SSeq true s.heap l1 xs) (a2:SSeq false s.heap l2 ys)
  (q: ∀ h',IsZip h' (s.heap.objs.size+4) (s.heap.objs.size+2) (s.heap.objs.size+3) .none->IsPair h' (s.heap.objs.size+2) (.ref s.heap.objs.size) (.ref (s.heap.objs.size+1))->
   IsPair h' (s.heap.objs.size+3) .none .none->SIter true h' s.heap.objs.size l1 0->SIter false h' (s.heap.objs.size+1) l2 0->
   (∀ b o,s.heap.get? b=some o->h'.get? b=some o)->Q (.ref (s.heap.objs.size+4)) {s with heap:=h'}):wpAny (model prog w) A (call (.type "zip") [.ref l1,.ref l2]) Q E s:=by
 refine callType_new PySem.F.called_zip (by decide) (PySem.F.typeCall_zip_2 _ _) (PySem.F.newCall_zip_2 _ _) (λobj=>PySem.F.args_object_init_3 obj _ _) PySem.F.entry_zip_new (sS l1 l2 xs ys) ⟨a1,a2,?_⟩;have z1:(s.heap.push (tIt l1)).objs.size=s.heap.objs.size+1:=B8 ..;have z2:(zK2 s.heap l1 l2).objs.size=s.heap.objs.size+2:=by unfold zK2;rw [B8,z1]
 have z3:(zK3 s.heap l1 l2).objs.size=s.heap.objs.size+3:=by unfold zK3;rw [B8,z2]
 have z4:(zK4 s.heap l1 l2).objs.size=s.heap.objs.size+4:=by unfold zK4;rw [B8,z3]
 have g5:(zK5 s.heap l1 l2).get? (zK4 s.heap l1 l2).objs.size=some {cls:=.type "zip",data:=.fields #[.none,.bool false,.bool false,.ref (zK2 s.heap l1 l2).objs.size,.ref (zK3 s.heap l1 l2).objs.size]}:=AU _ rfl;have g4:(zK5 s.heap l1 l2).get? (zK3 s.heap l1 l2).objs.size=some {cls:=.type "tuple",data:=.seq #[.none,.none]}:=AC _ (AU _ rfl);have g3:(zK5 s.heap l1 l2).get? (zK2 s.heap l1 l2).objs.size=some {cls:=.type "tuple",data:=.seq #[.ref s.heap.objs.size,.ref (s.heap.push (tIt l1)).objs.size]}:=AC _ (AC _ (AU _ rfl));have g2:(zK5 s.heap l1 l2).get? (s.heap.push (tIt l1)).objs.size=some (zw l2):=AC _ (AC _ (AC _ (AU _ rfl)));have g1:(zK5 s.heap l1 l2).get? s.heap.objs.size=some (tIt l1):=AC _ (AC _ (AC _ (AC _ (AU _ rfl))));show _/\_;rw [z2,z3,z4]at g5;rw [z1,z2]at g3;rw [z3]at g4;rw [z1]at g2;rw [z4];exact ⟨⟨_,g5,rfl⟩,q _ g5 g3 g4 (show Heap.IsTupleIter _ _ _ _ from ⟨_,g1,rfl,rfl⟩) (show Heap.IsListIter _ _ _ _ from ⟨_,g2,rfl,rfl⟩) λb o x=>
  AC _ (AC _ (AC _ (AC _ (AC _ x))))⟩
end
end HT
namespace L2
open PySem PySem.Spec PyProof.Rows
theorem xo {X:Cx} {pins:List (Addr×Obj)} {σ:St} {H:Hp} {s:Shared} {l b:Addr} {xs:List V} (I:Inv X pins σ H s) (h:SqT X.K H l xs) (f:jP X pins H b):b≠l:=by
 rintro rfl;rcases h with (h | ⟨o,h⟩) | ⟨o,its,n,hk,_⟩
 ·rw [f.1]at h;cases h
 ·rw [f.1]at h;cases h
 ·have e:=I.ok.mod.kin b o hk;rcases f.2.2.2.1 with z | z
  ·exact I.ok.noex b o e z
  ·exact absurd (Bl (AN e) I.ok.bsz) (C7.mpr z)
noncomputable def sO (K:W.Frag) (l1 l2:Addr):It:=
 ⟨λi H=> ∃ xs ys x y,SqT K H l1 xs/\H l2=some (.lst ys)/\xs[i]? =some x/\ys[i]? =some y,
  λi H v H'=> ∃ T x y,H T=none/\v=.ref T/\H'=upd H T (.tup [x,y])/\ ∀ xs ys,SqT K H l1 xs->H l2=some (.lst ys)->xs[i]? =some x/\ys[i]? =some y,
  λi H=> ∃ xs ys,SqT K H l1 xs/\H l2=some (.lst ys)/\xs.length=i/\ys.length=i⟩
def Ar (z TI TO i1 i2 l1 l2:Addr) (i:Nat) (h:Heap):Prop:=IsZip h z TI TO .none/\IsPair h TI (.ref i1) (.ref i2)/\(∃ a b,IsPair h TO a b)/\HT.SIter true h i1 l1 i/\HT.SIter false h i2 l2 i
theorem qS {P:Program} {w:World} {K:W.Frag} {es:List Expr} {kk:Nat} {tpos:Pos} (z TI TO i1 i2 l1 l2:Addr) (nd:[z,TI,TO,i1,i2].Nodup):
  jY P w K (.Tuple es kk tpos) (sO K l1 l2) [z,TI,TO,i1,i2] z (Ar z TI TO i1 i2 l1 l2):=by
 simp only [BG,AY,Bz,CV,not_or,CU,and_true]at nd;obtain ⟨⟨n1,n2,n3,n4⟩,⟨n5,n6,n7⟩,⟨n8,n9⟩,n10,_⟩:=nd;have ap: ∀ {X:Cx} {pins:List (Addr×Obj)} {H:Hp} {ys:List V},(∀ b∈[z,TI,TO,i1,i2],jP X pins H b)->(∀ b∈[z,TI,TO,i1,i2],b≠l1)->H l2=some (.lst ys)->
   HT.ZAp z TI TO i1 i2 [i1,l1] [i2,l2]/\l1≠i1/\l2≠i2:=by
  intro X pins H ys hf h1 h2;have a: ∀ b∈[z,TI,TO,i1,i2],b≠l1/\b≠l2:=λb hb=>⟨h1 b hb,(ai h2 (hf b hb).1).symm⟩;have az:=a z (by simp);have aO:=a TO (by simp);have a1:=a i1 (by simp);have a2:=a i2 (by simp);refine ⟨⟨Bg n1,Bg n2,Bg n3,Bg n4,n5,n6,n7,n8,n9,n10,?_,?_,?_,?_,?_,?_⟩,Bg a1.1,Bg a2.2⟩ <;> simp only [AY,Bz,CV,not_or]
  ·exact ⟨n3,az.1⟩
  ·exact ⟨n4,az.2⟩
  ·exact ⟨n8,aO.1⟩
  ·exact ⟨n9,aO.2⟩
  ·exact ⟨Bg n10,a2.1⟩
  ·exact ⟨n10,a1.2⟩
 refine ⟨by simp,λi h st b hb=>?_,λi h h' st k=>?_,?_,?_,λ_ _ _ _ _ st h=>wpAny_pyIter_zip st.1 h⟩
 ·obtain ⟨h1,h2,⟨a,b',h3⟩,h4,h5⟩:=st;rcases fp5 hb with rfl | rfl | rfl | rfl | rfl
  ·exact ⟨_,h1,λv e=>nomatch e⟩
  ·exact ⟨_,h2,λv e=>nomatch e⟩
  ·exact ⟨_,h3,λv e=>nomatch e⟩
  ·exact h4.obj
  ·exact h5.obj
 ·obtain ⟨h1,h2,⟨a,b',h3⟩,h4,h5⟩:=st;exact ⟨k z (by simp) _ h1,k TI (by simp) _ h2,⟨a,b',k TO (by simp) _ h3⟩,h4.at λo e=>k i1 (by simp) o e,h5.at λo e=>k i2 (by simp) o e⟩
 ·intro X hP hw hK hc i pins s σ H E I hf st hg;subst hP hw hK;obtain ⟨xs,ys,x,y,hx,hy,ex,ey⟩:=hg;obtain ⟨its1,r1,q1,_⟩:=I.tuple hx;have q1:HT.SSeq true s.heap l1 its1.toArray:=q1;obtain ⟨its2,r2,q2,_⟩:=I.seqS (c:=false) hy;obtain ⟨u,hu,ru⟩:=r1.get ex;obtain ⟨v,hv,rv⟩:=r2.get ey;obtain ⟨z0,t0,⟨a,b,o0⟩,s1,s2⟩:=st;obtain ⟨D,e1,e2⟩:=ap hf (λb hb=>xo I hx (hf b hb)) hy;refine HT.next_zip (HT.draws_seq (A:=X.A.in1) true (I.ok.hd hc) i1 l1 e1 its1.toArray) (HT.draws_seq (A:=X.A.in1) false (I.ok.hd hc) i2 l2 e2 its2.toArray) D z0 t0 o0 ⟨s1,q1⟩ ⟨s2,q2⟩
   (by rw [AL];exact (AF.mp hu).1) (by rw [AL];exact (AF.mp hv).1) λx' y' h' tk px py z1 o1 t1 t2 pr kk=>?_
  have ex':x'=u:=by
   have p1:its1[i]? =some x':=by simpa using px
   rw [hu]at p1;exact (A0 p1).symm
  have ey':y'=v:=by
   have p1:its2[i]? =some y':=by simpa using py
   rw [hv]at p1;exact (A0 p1).symm
  subst ex' ey';refine ⟨_,rfl,wpAny_letOwnedTupleGo_zip z1 λh'' z2 sb=>?_⟩;have lt: ∀ {b:Addr} {ob:Obj},s.heap.get? b=some ob->b≠s.heap.objs.size:=λe=>Bf (AN e);have fT:H s.heap.objs.size=none:=I.hok.fresh (AJ _);have keep: ∀ b ob,b∉[z,TO,i1,i2]->s.heap.get? b=some ob->h''.get? b=some ob:=λb ob hb e=>by
   simp only [AY,Bz,CV,not_or]at hb;exact sb.extBut b ob hb.1 (kk b ob hb.1 hb.2.1 hb.2.2.1 hb.2.2.2 e)
  have sub: ∀ b,b∈[z,TO,i1,i2]->b∈[z,TI,TO,i1,i2]:=λb hb=>by
   simp only [AY,Bz,CV]at hb ⊢;rcases hb with h | h | h | h
   ·exact .inl h
   ·exact .inr (.inr (.inl h))
   ·exact .inr (.inr (.inr (.inl h)))
   ·exact .inr (.inr (.inr (.inr h)))
  have trk: ∀ b uo,H b=some uo->b∉[z,TO,i1,i2]:=λb uo e hb=>by rw [(hf b (sub b hb)).1]at e;cases e
  have ptT:IsPair h'' s.heap.objs.size x' y':=sb.extBut _ _ (Bg (lt z0)) pr;have I2:Inv X pins σ (upd H s.heap.objs.size (.tup [x,y])) {s with heap:=h'',toks:=tk}:=by
   refine I.step (g':=s.gens) (d':=s.drawn) (ch:=[z,TO,i1,i2]) (λb hb=>?_) (λb ob _ _ hb e _=>keep b ob hb e) (λb ob _ _ hb e _=>⟨ob.slots,keep b ob hb e⟩) (λb ob hb e n=>by rw [ah (lt e)];exact n)
    (λb ob hb e=>⟨ob,keep b ob hb e⟩) (λb zs e=>by rw [ah (ai e fT)];exact e) (λb ob uo e=>by rw [ah (ai e fT)];exact e) (λb ps e=>⟨#[],by rw [ah (ai e fT),e];simp⟩) (λm hm=>?_) (λb uo e=>?_) I.bare
   ·obtain ⟨_,f1,_,f3,f4,f5⟩:=hf b (sub b hb);exact ⟨f3,f1,f4,f5⟩
   ·obtain ⟨ob,es',ep,ho,r⟩:=hm;exact ⟨ob,es',ep,keep _ ob (λhb=>(hf _ (sub _ hb)).2.1 rfl) ho,r⟩
   ·by_cases hb:b=s.heap.objs.size
    ·subst hb;rw [ad]at e;cases e;exact ⟨by show 2<=sizeLine;decide,[x',y'],.cons ru (.cons rv .nil),_,ptT,rfl,_,rfl⟩
    ·rw [ah hb]at e;refine (I.hok b uo e).stay (λc' v' hc' q=>keep c' v' ?_ q) (λc' q=>by rw [ah (ai q fT)];exact q) λc' zs q=>by rw [ah (ai q fT)];exact q
     rcases hc' with h | h
     ·rw [h];exact trk b uo e
     ·exact trk c' _ h
  refine ⟨.ref s.heap.objs.size,_,I2,rfl,⟨_,x,y,fT,rfl,rfl,λxs' ys' h1 h2=>?_⟩,⟨z2,sb.extBut _ _ (Bg n1) (kk _ _ (Bg n1) n5 n6 n7 t0),⟨_,_,sb.extBut _ _ (Bg n2) o1⟩,t1.1.at λo e=>sb.extBut _ o (Bg n3) e,t2.1.at λo e=>sb.extBut _ o (Bg n4) e⟩,λb hb=>?_⟩
  ·cases I.tuple_inj hx h1;rw [hy]at h2;cases h2;exact ⟨ex,ey⟩
  ·have hb': ∃ ob,s.heap.get? b=some ob:=by
    rcases fp5 hb with rfl | rfl | rfl | rfl | rfl
    ·exact ⟨_,z0⟩
    ·exact ⟨_,t0⟩
    ·exact ⟨_,o0⟩
    ·obtain ⟨ob,e,_⟩:=s1.obj;exact ⟨ob,e⟩
    ·obtain ⟨ob,e,_⟩:=s2.obj;exact ⟨ob,e⟩
   obtain ⟨ob,e⟩:=hb';rw [ah (lt e)];exact (hf b hb).1
 ·intro X hP hw hK hc i pins s σ H E I hf st hg;subst hP hw hK;obtain ⟨xs,ys,hx,hy,l,l'⟩:=hg;obtain ⟨its1,r1,q1,_⟩:=I.tuple hx;have q1:HT.SSeq true s.heap l1 its1.toArray:=q1;obtain ⟨z0,t0,⟨a,b,o0⟩,s1,s2⟩:=st;obtain ⟨D,e1,e2⟩:=ap hf (λb hb=>xo I hx (hf b hb)) hy;have hi:i=its1.toArray.size:=by rw [AL,<- l];exact r1.length
  rw [hi]at s1;refine HT.end_zip (HT.draws_seq (A:=X.A.in1) true (I.ok.hd hc) i1 l1 e1 its1.toArray) D z0 t0 o0 ⟨s1,q1⟩ λh' kk=>⟨rfl,?_⟩;have keep: ∀ b ob,b∉[z,TO,i1,i2]->s.heap.get? b=some ob->h'.get? b=some ob:=λb ob hb e=>by
   simp only [AY,Bz,CV,not_or]at hb;exact kk b ob hb.1 hb.2.1 hb.2.2.1 hb.2.2.2 e
  have sub: ∀ b,b∈[z,TO,i1,i2]->b∈[z,TI,TO,i1,i2]:=λb hb=>by
   simp only [AY,Bz,CV]at hb ⊢;rcases hb with h | h | h | h
   ·exact .inl h
   ·exact .inr (.inr (.inl h))
   ·exact .inr (.inr (.inr (.inl h)))
   ·exact .inr (.inr (.inr (.inr h)))
  have trk: ∀ b uo,H b=some uo->b∉[z,TO,i1,i2]:=λb uo e hb=>by rw [(hf b (sub b hb)).1]at e;cases e
  refine I.step (g':=s.gens) (d':=s.drawn) (t':=s.toks) (ch:=[z,TO,i1,i2]) (λb hb=>?_) (λb ob _ _ hb e _=>keep b ob hb e) (λb ob _ _ hb e _=>⟨ob.slots,keep b ob hb e⟩) (λb ob hb e n=>n)
   (λb ob hb e=>⟨ob,keep b ob hb e⟩) (λb zs e=>e) (λb ob uo e=>e) (λb ps e=>⟨#[],by rw [e];simp⟩) (λm hm=>?_) (λb uo e=>?_) I.bare
  ·obtain ⟨_,f1,_,f3,f4,f5⟩:=hf b (sub b hb);exact ⟨f3,f1,f4,f5⟩
  ·obtain ⟨ob,es',ep,ho,r⟩:=hm;exact ⟨ob,es',ep,keep _ ob (λhb=>(hf _ (sub _ hb)).2.1 rfl) ho,r⟩
  ·refine (I.hok b uo e).stay (λc' v' hc' q=>keep c' v' ?_ q) (λ_ q=>q) λ_ _ q=>q;rcases hc' with h | h
   ·rw [h];exact trk b uo e
   ·exact trk c' _ h
noncomputable def zy (K:W.Frag) (ta:TA):TI:=λσ H R=>ta σ H λvs H1=> ∃ l1 l2 xs ys,vs=[.ref l1,.ref l2]/\SqT K H1 l1 xs/\H1 l2=some (.lst ys)/\R (sO K l1 l2) H1
theorem qg {X:Cx} {es:List Expr} {kk:Nat} {tpos:Pos} {a b:Expr} {ta:TA} {p pos:Pos} (hg:Gl X "zip") (hm:X.mg "zip"=none) (ha:PA X [a,b] ta) (hs:starEach [a,b] X.env=[(false,eval a X.env),(false,eval b X.env)]:=by rfl) (hs2:starEach [b] X.env=[(false,eval b X.env)]:=by rfl):
  PI X (.Tuple es kk tpos) (.Call (.Name "zip" p) [a,b] [] pos) (zy X.K ta):=by
 intro pins s σ H R I h;refine Call_ (gH I hg hm (show bootBuiltins "zip"=some (.type "zip") by decide +kernel) (Ce (thn (ha pos pins s σ H _ I h) λus s1 ⟨vs,H1,I1,r1,q1⟩=>?_) (by rw [hs,hs2]) (by rw [hs2];rfl)));obtain ⟨l1,l2,xs,ys,rfl,hx,hy,q⟩:=q1;obtain ⟨u,v,rfl,ru,rv⟩:=iH r1;cases (show u=Value.ref l1 from ru);cases (show v=Value.ref l2 from rv);obtain ⟨its1,_,e1,_⟩:=I1.tuple hx;have e1:HT.SSeq true s1.heap l1 its1.toArray:=e1;obtain ⟨its2,_,e2,_⟩:=I1.seqS (c:=false) hy;refine HT.call_zipK e1 e2 λh' a1 a2 a3 a4 a5 kp=>?_;have I2:Inv X pins σ H1 {s1 with heap:=h'}:=I1.kept (t':=s1.toks) kp;refine wpAny_pyIter_zip a1 ?_;refine ⟨s1.heap.objs.size+4,[s1.heap.objs.size+4,s1.heap.objs.size+2,s1.heap.objs.size+3,s1.heap.objs.size,s1.heap.objs.size+1],_,_,H1,rfl,I2,qS _ _ _ _ _ l1 l2 (by simp),⟨a1,a2,⟨_,_,a3⟩,a4,a5⟩,λb hb=>?_,q⟩;have hb':s1.heap.objs.size<=b:=by rcases fp5 hb with rfl | rfl | rfl | rfl | rfl <;> lia
 exact I1.fpOk hb' (I1.hok.fresh hb')
theorem vf {K:W.Frag} {l1 l2:Addr} {xs ys:List V} {g:TG} {tb:TS} {D:dW} {σ:St} {H:Hp} (hl:xs.length=ys.length) (Pv:Nat->St->Hp->Prop) (h0:Pv 0 σ H)
  (hh: ∀ i σ H,Pv i σ H->SqT K H l1 xs/\H l2=some (.lst ys))
  (hs: ∀ i x y σ H T,xs[i]? =some x->ys[i]? =some y->Pv i σ H->H T=none->g (.ref T) σ (upd H T (.tup [x,y])) λσ2 H2=>tb {D with nx:=Pv (i+1),ct:=Pv (i+1),bk:=D.nx} σ2 H2) (hd: ∀ σ H,Pv xs.length σ H->D.nx σ H):
  ∃ W:Nat->Nat->St->Hp->Prop,(∃ m,W 0 m σ H)/\ ∀ i m σ H,W i m σ H->
   ((sO K l1 l2).stop i H/\D.nx σ H)\/((sO K l1 l2).go i H/\ ∃ N:St->Hp->Prop,(∀ σ' H',N σ' H'-> ∃ m',m'<m/\W (i+1) m' σ' H')/\ ∀ x H',(sO K l1 l2).yld i H x H'->g x σ H' λσ2 H2=>tb {D with nx:=N,ct:=N,bk:=D.nx} σ2 H2):=by
 refine ⟨λi m σ H=>m=xs.length-i/\i<=xs.length/\Pv i σ H,⟨xs.length,by simp,A6 _,h0⟩,?_⟩;rintro i m σ H ⟨rfl,hi,p⟩;obtain ⟨q1,q2⟩:=hh i σ H p;by_cases hlt:i<xs.length
 ·refine .inr ⟨⟨xs,ys,xs[i],ys[i],q1,q2,AG hlt,AG (by lia)⟩,Pv (i+1),λσ' H' p'=>⟨xs.length- (i+1),by lia,rfl,hlt,p'⟩,?_⟩;rintro _ _ ⟨T,x,y,fT,rfl,rfl,hxy⟩;obtain ⟨ex,ey⟩:=hxy xs ys q1 q2;exact hs i x y σ H T ex ey p fT
 ·have e:i=xs.length:=by lia
  subst e;exact .inl ⟨⟨xs,ys,q1,q2,rfl,hl.symm⟩,hd σ H p⟩
end L2
namespace My
open PySem L2
theorem j5 {ord:List KK} {i:Nat} {k:KK} (hk:ord[i]? =some k) (U:KK->Fm) (j:KK):gn (ord.take (i+1)) U j=if j=k then some (U k)else gn (ord.take i) U j:=by
 unfold gn;rw [aP hk];by_cases c:j=k
 ·subst c;rw [AX (by simp),AX rfl]
 ·rw [AQ c];have:(j∈ord.take i++[k])↔j∈ord.take i:=by rw [AT,AE];exact ⟨λz=>z.elim id (λz=>absurd z c),.inl⟩
  by_cases cm:j∈ord.take i
  ·rw [AX cm,AX (this.mpr cm)]
  ·rw [AQ cm,AQ (λz=>cm (this.mp z))]
abbrev NFs:List Str:=["form","order","formulas","made","key","rules"]
theorem scFormS:av NFs ["form","order"] (ak lx):=fsc
theorem uL (F:Fun K "form_made_straight" "form_made_straight" lx f fd) (G:Gb mg)
  (GB:Cl P w K mg base CX0 2 f2 fd2 ["form"] gQ "formulas_by_key")
  (GP:Cl P w K mg base CX0 5 f3 fd3 ["formula","made"] (tO tbA) "put_otherwise")
  (GR:Cl P w K mg base CX0 1 f4 fd4 ["form"] ip "rules_of"):
  a8 P w K mg base CX0 6 f fd ["form","order"] (qa tbA):=by
 refine F.ok scFormS (λvs H Q E h=>?_) (λcdv A outer s H vs Q E hr h=>?_)
 ·obtain ⟨v,fr,p,ys,ord,U,rfl,_⟩:=h;rfl
 obtain ⟨v,fr,p,ys,ord,U,rfl,hF,hok,hss,gp,hys,hO,hU,tt,q⟩:=h;have h12:=hok.few;have hu:=da hr;have hr1:=hr.mono (show 1<=5 by decide);have hr2:=hr.mono (show 2<=5 by decide);refine ⟨_,af (psz 2 scFormS.nd (pcl GB hr2 (aa (pv 0) ae)))
  (af (de (i:=3) scFormS.nd rfl (Or.inr rfl) cq)
  (af (bi A5 rfl (cA (pv 1)) (pgz 4 scFormS.nd)
   (aj (cz hu (pv 3) (pv 4) (pcl GP hr (aa (bK hu (pv 2) (pv 4) (λ_ _=>rfl)) (aa (pv 3) ae))) rfl)))
  (af (di (i:=5) (sc0:=ak lx) (N0:=NFs) (ys:=["made"]) (fr:=[3]) rfl scFormS.nd rfl (Or.inl rfl) (bV (pcl GR hr1 (aa (pv 0) ae))) rfl rfl
    cok
    (λC s H ex=>aw dq (aT dg (pv 0) bg (aX ag)) (aF (aa (bK hu (pv 1) (aT dg (pv 0) bg (aX ag)) (λ_ _=>rfl)) ae))))
  (aj (ay (aw dq (aT dg (pv 0) bg (aX ag)) (aF (aa (aU (r:=bU K) aN rfl G.tuple (by decide +kernel) (aa (pv 5) ae)) ae)))))))),?_⟩
 refine ⟨_,rfl,v,fr,rfl,hF,hok,λfd kv H1 hfd s1 gfd hP=>?_⟩;have tt1:=tt.same s1;refine λmd hmd=>?_;have hmd0:H md=none:=s1.free hmd;have nfm:fd≠md:=ai gfd hmd;have s2:=al hmd (.dT []);have g2:(upd H1 md (.dT [])) md=some (.dT []):=ad;have tt2:=tt1.same s2;generalize upd H1 md (.dT [])=H2 at s2 g2 tt2 ⊢;have S2:=s1.trans s2;have nmt:md≠tbA:=tt2.ne g2 λ_ e=>by cases e
 have nft:fd≠tbA:=tt1.ne gfd λ_ e=>by cases e
 have npt:p≠tbA:=tt.ne gp λ_ e=>by cases e
 have lys:ys.length=ord.length:=AZ hys;have lord:=hO.len;refine ⟨_,rfl,p,rfl,⟨_,SqL.of (S2 _ _ gp)⟩,?_⟩;refine cN (xs:=ys) (λi σ H'=>i<=ys.length/\ ∃ o4 kvs,σ=[some v,some (.ref p),some (.ref fd),some (.ref md),o4,none]/\Kp tbA H1 H'/\TabSt tbA H'/\H' md=some (.dT kvs)/\kvs.length<=i/\MdAt H' kvs (gn (ord.take i) U))
  ⟨A6 _,none,[],rfl,Kp.refl.same s2,tt2,g2,AJ _,λk=>⟨λg e=>(by unfold gn at e;rw [BI,AQ (by simp)]at e;cases e),λ_=>rfl⟩⟩ (λi σ H' _ h=>by obtain ⟨_,_,_,_,k',_⟩:=h;exact SqL.of (k' _ _ (s1 _ _ gp) npt)) ?_ ?_
 ·rintro i x σ H3 hx ⟨hi,o4,kvs,rfl,k3,tt3,gm3,hl3,hM3⟩;have hil:i<ys.length:=(AF.mp hx).1;obtain ⟨k,hk,b,eb,hb⟩: ∃ k,ord[i]? =some k/\ ∃ b,x=.ref b/\H b=some (.tup (List.map kV k)):=by
   obtain ⟨k,h1,b,h2,h3⟩:=bX hys hx;exact ⟨k,h1,b,h2,h3⟩
  subst eb;have hkk:=hO.sub k (AH hk);obtain ⟨r,hrm,rfl,u,hval,hRu⟩:=kj hok hP hkk;obtain ⟨hwf,_⟩:=hok.fm r hrm;have hsz15:=hss r hrm;have tk3:=tt1.tk k3;have hb3:=tk3 _ _ (s1 _ _ hb);have hsub:r.fm.sub (gn (ord.take i) U)=U (ao r):=pQ hok hU.un (λo ho=>hO.sub o (BP ho)) hrm (hO.top i _ hk);refine ⟨_,rfl,_,rfl,fd,u,rfl,(by rw [<- hval];exact DGet.t (k:=ao r) (k3 _ _ gfd nft) hb3),_,rfl,r.fm,u,md,kvs,gn (ord.take i) U,rfl,hRu.mono tk3,hwf,hsz15,gm3,hM3,tt3,λu2 H4 k4 tt4 hu2=>?_⟩;rw [hsub]at hu2;have tk4:=tt3.tk k4;have gm4:=k4 _ _ gm3 nmt;refine ⟨_,rfl,_,rfl,md,_,rfl,DPut.t (k:=ao r) gm4 (tk4 _ _ hb3) (am (by lia)),?_⟩;have hlp:=bI kvs (ao r) u2;have tk5:TK H4 (upd H4 md (.dT (bw kvs (ao r) u2))):=λb xs h=>by rw [ah (λz=>by rw [z,gm4]at h;cases h)];exact h
  refine ⟨hil,_,_,rfl,λb' u' h hn=>?_,tt4.dT gm4,ad,by lia,λj=>⟨λg e=>?_,λe=>?_⟩⟩
  ·rw [ah (ai h hmd)];exact k4 _ _ (k3 _ _ h hn) hn
  ·rw [j5 hk]at e;rw [cI];by_cases cj:j=ao r
   ·rw [AX cj]at e ⊢;cases e;exact ⟨u2,rfl,hu2.mono tk5⟩
   ·rw [AQ cj]at e ⊢;obtain ⟨u',h1,h2⟩:=(hM3 j).1 g e;exact ⟨u',h1,(h2.mono tk4).mono tk5⟩
  ·rw [j5 hk]at e;rw [cI];by_cases cj:j=ao r
   ·rw [AX cj]at e;cases e
   ·rw [AQ cj]at e ⊢;exact (hM3 j).2 e
 ·rintro σ H3 ⟨_,o4,kvs,rfl,k3,tt3,gm3,hl3,hM3⟩;rw [BC (by lia)]at hM3;have tk3:=tt1.tk k3;have hF3:=(hF.mono (aq s1)).mono tk3;refine ⟨_,rfl,v,fr,rfl,hF3,λra rv hra hRr=>⟨ra,rfl,⟨rv,SqT.of hra⟩,?_⟩⟩;have lR:=hRr.len;refine dG (by lia) hRr (fY hra) (fX hra) (iB hra) (λH r v=>RepR H (unR U r) v) (λt h=>h.mono t) ?_ ?_
  ·rintro r x H4 k hrm ⟨a,u,rfl,ha,hRu⟩ s4 hk;have ha4:=s4 _ _ ha;refine ⟨_,rfl,2,rfl,a,_,rfl,ha4,λp5 H5 s5 g5=>?_⟩;have g5:H5 p5=some (.tup [.int r.pl,.str r.word]):=g5;refine ⟨_,rfl,_,rfl,2,rfl,a,_,rfl,s5 _ _ ha4,λp6 H6 s6 g6=>?_⟩;have g6:H6 p6=some (.tup (List.map kV (ao r))):=g6;obtain ⟨u',hv,hR'⟩:=(hM3 (ao r)).1 (U (ao r)) (by unfold gn;rw [AX (hO.all r hrm)]);have S36:Same H3 H6:=λb u h=>s6 _ _ (s5 _ _ (s4 _ _ h));refine ⟨md,u',rfl,(by rw [<- hv];exact DGet.t (k:=ao r) (S36 _ _ gm3) g6),fc,λp7 hp7=>?_⟩;obtain ⟨H7,eW,s7,g7⟩:=nw hp7 (.tup [u']);rw [eW];refine ⟨p5,p7,_,_,rfl,rfl,s7 _ _ (s6 _ _ g5),g7,(by show 2+1<=sizeLine;decide),λp8 H8 s8 g8=>?_⟩;have S48:Same H4 H8:=λb u h=>s8 _ _ (s7 _ _ (s6 _ _ (s5 _ _ h)));exact hk _ H8 S48 ⟨p8,u',rfl,g8,hR'.mono (aq (s4.trans S48))⟩
  intro rl zs H4 hrl s4 grl hzs;obtain ⟨a,pa,ra',rv',rfl,ha,hpa,hra',hRr'⟩:=id hF3;refine ⟨_,rfl,3,rfl,a,_,rfl,s4 _ _ ha,λp5 H5 s5 g5=>?_⟩;have g5:H5 p5=some (.tup [.str fr.name,.str fr.own.name,.ref pa]):=g5;refine ⟨_,rfl,rl,_,rfl,.inl ⟨SqL.of (s5 _ _ grl),λp6 hp6=>?_⟩⟩;obtain ⟨H6,eW,s6,g6⟩:=nw hp6 (.tup zs);rw [eW];refine ⟨fc,λp7 hp7=>?_⟩;obtain ⟨H7,eW,s7,g7⟩:=nw hp7 (.tup [.ref p6]);rw [eW];refine ⟨p5,p7,_,_,rfl,rfl,s7 _ _ (s6 _ _ g5),g7,(by show 3+1<=sizeLine;decide),λp8 H8 s8 g8=>?_⟩;have S48:Same H4 H8:=λb u h=>s8 _ _ (s7 _ _ (s6 _ _ (s5 _ _ h)));have S38:=s4.trans S48;refine q _ H8 (((Kp.refl.same s1).trans k3).same S38) (tt3.same S38) ⟨p8,pa,p6,zs,rfl,g8,S38 _ _ hpa,s8 _ _ (s7 _ _ g6),?_⟩;exact dj (g:=unR U) (Paired.mapP hzs λ_ _ h=>RepR.mono (aq S48) h)
theorem vw {J:It} {α:Type} {as:List α} {A:α->V->Prop} {xs:List V} {fr:List Nat} {te:TE} {σ:St} {H1:Hp} {Q:VK} (hn:xs.length<=1000) (hP:Paired A as xs)
  (hgo: ∀ i H,Same H1 H->i<xs.length->J.go i H) (hst: ∀ H,Same H1 H->J.stop xs.length H) (hy: ∀ i H v H',Same H1 H->J.yld i H v H'->H'=H/\xs[i]? =some v)
  (G:α->Prop) (R:Hp->α->Addr->Prop) (mono: ∀ {H H':Hp} {a:α} {q:Addr},TK H H'->(∀ o,H q=some o->H' q=some o)->R H a q->R H' a q)
  (hte: ∀ i a v H (k:VK),as[i]? =some a->(∀ b∈as.take i,G b)->A a v->Same H1 H->(G a-> ∀ q H',H q=none->Same H H'->R H' a q->k (.ref q) H')->te (some v::bH fr σ) H k)
  (hd: ∀ p zs H',(∀ b∈as,G b)->H1 p=none->Same H1 H'->H' p=some (.lst zs)->Paired (λa z=> ∃ q,z=.ref q/\R H' a q) as zs->Q (.ref p) H'):gu fr te σ J H1 Q:=by
 intro p hp;have hl:as.length=xs.length:=AZ hP;refine ⟨λi m zs H=>i<=xs.length/\m=xs.length-i/\Same H1 H/\H p=some (.lst zs)/\zs.length=i/\Paired (λa z=> ∃ q,z=V.ref q/\q≠p/\R H a q) (as.take i) zs/\ ∀ b∈as.take i,G b,⟨_,A6 _,rfl,al hp _,ad,rfl,.nil,λb hb=>by rw [BI]at hb;cases hb⟩,?_⟩;rintro i m zs H ⟨hi,hm,sm,gp,hz,hT,hG⟩;refine ⟨gp,?_⟩;by_cases e:i=xs.length
 ·subst e;rw [<- hl,Bc]at hT hG;exact .inl ⟨hst H sm,hd p zs H hG hp sm gp (Paired.mapP hT λ_ _ ⟨q,e,_,h⟩=>⟨q,e,h⟩)⟩
 ·have hlt:i<xs.length:=by lia
  refine .inr ⟨hgo i H sm hlt,am (by lia),λv H' hv=>?_⟩;obtain ⟨rfl,hv2⟩:=hy i H v H' sm hv;obtain ⟨a,ha,hA⟩:=aH hP hv2;refine hte i a v _ _ ha hG hA sm λga q H2 hq s2 r=>?_;have gp2:=s2 _ _ gp;have nqp:q≠p:=λz=>by rw [z,gp]at hq;cases hq
  have tk:TK H2 (upd H2 p (.lst (zs++[.ref q]))):=TK.lst gp2;refine ⟨gp2,xs.length- (i+1),by lia,by lia,rfl,?_,ad,by rw [AI,hz];rfl,?_,λb hb=>?_⟩
  ·intro b o hb;rw [ah (ai hb hp)];exact s2 _ _ (sm _ _ hb)
  rotate_left
  ·rw [By,ha]at hb;rcases AT.mp hb with z | z
   ·exact hG b z
   ·rw [AE.mp z];exact ga
  ·rw [By,ha];refine BH (Paired.mapP hT λ_ _ ⟨q',e,n,r⟩=>⟨q',e,n,mono ((aq s2).trans tk) (λo h=>?_) r⟩) ⟨q,rfl,nqp,mono tk (λo h=>by rw [ah nqp];exact h) r⟩;rw [ah n];exact s2 _ _ h
theorem pK {K:W.Frag} {l1 l2 tp:Addr} {α:Type} {as:List α} {A B:α->V->Prop} {xs ys:List V} {fr:List Nat} {te:TE} {σ:St} {H1:Hp} {Q:VK} (hn:xs.length<=1000) (tt:TabSt tp H1) (hA:Paired A as xs) (hB:Paired B as ys)
  (h1:H1 l1=some (.tup xs)) (h2:H1 l2=some (.lst ys))
  (R:Hp->α->V->Prop) (mono: ∀ {H H':Hp} {a:α} {v:V},TK H H'->R H a v->R H' a v)
  (hte: ∀ a v u H (k:VK),a∈as->A a v->B a u->Kp tp H1 H->TabSt tp H->(∀ z H',Kp tp H H'->TabSt tp H'->R H' a z->k z H')->te (some v::some u::bH fr σ) H k)
  (hd: ∀ p zs H',H1 p=none->Kp tp H1 H'->TabSt tp H'->H' p=some (.lst zs)->Paired (R H') as zs->Q (.ref p) H'):pR fr te σ (sO K l1 l2) H1 Q:=by
 intro p hp;have hl:as.length=xs.length:=AZ hA;have hl2:as.length=ys.length:=AZ hB;have npt:=tt.fr hp;have n2t:l2≠tp:=tt.ne h2 λ_ e=>by cases e
 refine ⟨λi m zs H=>i<=xs.length/\m=xs.length-i/\Kp tp H1 H/\TabSt tp H/\H p=some (.lst zs)/\zs.length=i/\Paired (R H) (as.take i) zs,⟨_,A6 _,rfl,Kp.refl.new hp,tt.same (al hp _),ad,rfl,.nil⟩,?_⟩;rintro i m zs H ⟨hi,hm,km,th,gp,hz,hT⟩;refine ⟨gp,?_⟩;have q1:SqT K H l1 xs:=SqT.of (tt.tk km _ _ h1);have q2:H l2=some (.lst ys):=km _ _ h2 n2t;by_cases e:i=xs.length
 ·subst e;rw [<- hl,Bc]at hT;exact .inl ⟨⟨xs,ys,q1,q2,rfl,by lia⟩,hd p zs H hp km th gp hT⟩
 ·have hlt:i<xs.length:=by lia
  refine .inr ⟨⟨xs,ys,xs[i],ys[i],q1,q2,AG hlt,AG (by lia)⟩,am (by lia),?_⟩;rintro _ _ ⟨T,x,y,fT,rfl,rfl,hxy⟩;obtain ⟨ex,ey⟩:=hxy xs ys q1 q2;obtain ⟨a,ha,hAa⟩:=aH hA ex;obtain ⟨a',ha',hBa⟩:=aH hB ey;rw [ha]at ha';cases ha';have sT:=al fT (.tup [x,y]);refine ⟨T,x,y,rfl,ad,hte a x y _ _ (AH ha) hAa hBa (km.same sT) (th.same sT) λu H2 k2 t2 r=>?_⟩;have gp2:=k2 _ _ (sT _ _ gp) npt;have tk:TK H2 (upd H2 p (.lst (zs++[u]))):=TK.lst gp2;have tkH:TK H H2:=(aq sT).trans ((th.same sT).tk k2);refine ⟨gp2,xs.length- (i+1),by lia,by lia,rfl,?_,t2.lst gp2,ad,by rw [AI,hz];rfl,?_⟩
  ·intro b o hb hn;rw [ah (ai hb hp)];exact k2 _ _ (sT _ _ (km _ _ hb hn)) hn
  ·rw [By,ha];exact BH (Paired.mapP hT λ_ _ r=>mono (tkH.trans tk) r) (mono tk r)
def OrdL (H:Hp) (fr:Frm) (q:Addr):Prop:= ∃ ys ord,H q=some (.lst ys)/\KsOf H ys ord/\qL fr.rules ord
theorem iA {H H':Hp} {ys:List V} {ord:List KK} (t:TK H H') (h:KsOf H ys ord):KsOf H' ys ord:=Paired.mapP h λ_ _ ⟨b,e,hb⟩=>⟨b,e,t _ _ hb⟩
theorem OrdL.mono {H H':Hp} {fr:Frm} {q:Addr} (t:TK H H') (k: ∀ o,H q=some o->H' q=some o):OrdL H fr q->OrdL H' fr q:=λ⟨ys,ord,h1,h2,h3⟩=>⟨ys,ord,k _ h1,iA t h2,h3⟩
structure qJ (fr:Frm) (U:KK->Fm):Prop where
 rs:RsOk fr.rules
 ss:RsS fr.rules
 ac:Acy fr.rules
 un:UOk fr.rules U
noncomputable def yV (UF:Frm->KK->Fm) (bk:Bk):Bk:=⟨bk.wheel,bk.sorts,bk.forms.map λfr=>unF (UF fr) fr⟩
def j7:Sp:=λvs H Q _=> ∃ bv bk,vs=[bv]/\RepB H bk bv/\Q (.int bk.wheel) H
def pY (CT CG tbA:Addr):Sp:=λvs H Q E=> ∃ (bv:V) (bk:Bk),vs=[bv]/\RepB H bk bv/\bk.forms.length<=12/\(∀ fr∈bk.forms,RsOk fr.rules/\RsS fr.rules)/\TabSt tbA H/\
 (∀ i fr,bk.forms[i]? =some fr->(∀ g∈bk.forms.take i,Acy g.rules)-> ¬ Acy fr.rules-> ∀ d H',Same H H'->H' d=some (.xd [("form",.str fr.name)])->E (.ref CT) (some d) H')/\
 ((∀ fr∈bk.forms,Acy fr.rules)-> ∃ UF:Frm->KK->Fm,(∀ fr∈bk.forms,∀ r∈fr.rules,Unf fr.rules r.fm (UF fr (ao r)))/\((∃ fr∈bk.forms,∃ r∈fr.rules,400< (UF fr (ao r)).size)-> ∀ H',Same H H'->E (.ref CG) none H')/\
  ((∀ fr∈bk.forms,qJ fr (UF fr))-> ∀ u H',Kp tbA H H'->TabSt tbA H'->RepB H' (yV UF bk) u->Q u H'))
theorem q8:av ["book"] ["book"] (ak jg):=fsc
theorem oO (F:Fun K "wheel_of" "wheel_of" jg f fd):a8 P w K mg base CX0 1 f fd ["book"] j7:=by
 refine F.ok q8 (λvs H Q E h=>?_) (λcdv A outer s H vs Q E hr h=>?_)
 ·obtain ⟨bv,bk,rfl,_⟩:=h;rfl
 obtain ⟨bv,bk,rfl,⟨a,sa,fa,fv,rfl,ha,_⟩,q⟩:=h;refine ⟨_,aj (ay (ar (r:=bf K) aA (pv 0) ag (λ_ _=>rfl))),?_⟩;exact ⟨_,rfl,a,_,0,_,rfl,rfl,SqT.of ha,bx,q⟩
abbrev NMs:List Str:=["book","orders","form","order","forms"]
theorem scMadeS:av NMs ["book"] (ak jn):=fsc
theorem uG {CT CG:Addr} (F:Fun K "made_straight" "made_straight" jn f fd) (G:Gb mg) (hzip:mg "zip"=none)
  (GF:Cl P w K mg base CX0 1 f2 fd2 ["book"] fR "forms_of")
  (GO:Cl P w K mg base (CX1 P w CT) 5 f3 fd3 ["form"] (mx CT) "order_of_keys")
  (GN:Cl P w K mg base (CX1 P w CG) 3 f4 fd4 ["form","order"] (tP CG) "need_few_tuples")
  (GS:Cl P w K mg base CX0 6 f5 fd5 ["form","order"] (qa tbA) "form_made_straight")
  (GW:Cl P w K mg base CX0 1 f6 fd6 ["book"] j7 "wheel_of")
  (GT:Cl P w K mg base CX0 1 f7 fd7 ["book"] j8 "sorts_of"):
  a8 P w K mg base (CXm P w [CT,CG]) 7 f fd ["book"] (pY CT CG tbA):=by
 refine F.okG scMadeS (λvs H Q E h=>?_) (λcdv A outer s H vs Q E hr h=>?_)
 ·obtain ⟨bv,bk,rfl,_⟩:=h;rfl
 obtain ⟨bv,bk,rfl,hB,h12,hok,tt,qT,qA⟩:=h;have hu:=da hr;have hr1:=hr.mono (show 1<=6 by decide);have hr3:=hr.mono (show 3<=6 by decide);have hr5:=hr.mono (show 5<=6 by decide);refine ⟨_,af (uf (E:=E) (C:=CT) (i:=1) (sc0:=ak jn) (N0:=NMs) (ys:=[]) (fr:=[]) rfl rfl rfl (yt λe s' z=>⟨CT,by simp,z⟩) rfl scMadeS.nd rfl (Or.inl rfl) (bV (pcl GF hr1 (aa (pv 0) ae))) rfl rfl
    cok
    (λL s H ex pn hp=>xk GO hr5 (zo hp) (aa (pv 0) ae)))
  (af (bi Fe rfl (qg rfl hzip (aa (pcl GF hr1 (aa (pv 0) ae)) (aa (pv 1) ae))) (cT rfl (aM (pgz 2 scMadeS.nd) (aM (pgz 3 scMadeS.nd) ce)))
   (aj (bC (gX (E:=E) GN.F hr3 rfl GN.m GN.c GN.b .nil (zj (by simp)) (aa (pv 2) (aa (pv 3) ae))))))
  (af (ug (i:=4) (sc0:=ak jn) (N0:=NMs) (ys:=[]) (fr:=[]) rfl scMadeS.nd rfl (Or.inl rfl) (qg rfl hzip (aa (pcl GF hr1 (aa (pv 0) ae)) (aa (pv 1) ae))) rfl rfl
    ⟨rfl,by decide +kernel,by decide +kernel,by decide +kernel,by decide +kernel,by decide +kernel,by decide +kernel,rfl,by decide +kernel⟩
    (λC s H ex=>pcl GS hr (aa (pv 0) (aa (pv 1) ae))))
  (aj (ay (aF (aa (pcl GW hr1 (aa (pv 0) ae)) (aa (pcl GT hr1 (aa (pv 0) ae)) (aa (aU (r:=bU K) aN rfl G.tuple (by decide +kernel) (aa (pv 4) ae)) ae)))))))),?_⟩
 refine ⟨_,rfl,bv,bk,rfl,hB,λfa fv hfa hF=>⟨fa,rfl,⟨fv,SqT.of hfa⟩,?_⟩⟩;have lF:=hF.len;refine vw (by lia) hF (fY hfa) (fX hfa) (iB hfa) (λfr=>Acy fr.rules) OrdL (λt k h=>h.mono t k) ?_ ?_
 ·intro i fr v H2 k hfr hbe hR s2 hk;have ho:=hok fr (AH hfr);exact ⟨_,rfl,v,fr,rfl,hR.mono (aq s2),ho.1,λhA p ys ord H3 hp s3 gp hys hO=>hk hA p H3 hp s3 ⟨ys,ord,gp,hys,hO⟩,λhA d H3 s3 gd=>qT i fr hfr hbe hA d H3 (s2.trans s3) gd⟩
 intro p zs H1 hAll hp s1 gp hzs;obtain ⟨UF,hUn,qG,q⟩:=qA hAll;have lz:bk.forms.length=zs.length:=AZ hzs;have hB1:=hB.mono (aq s1);have tt1:=tt.same s1;refine ⟨_,rfl,bv,bk,rfl,hB1,λfa2 fv2 hfa2 hF2=>?_⟩;have lF2:=hF2.len;refine ⟨_,rfl,fa2,p,fv2,zs,rfl,SqT.of hfa2,gp,?_⟩;refine vf (xs:=fv2) (ys:=zs) (by lia) (λi σ H'=> ∃ o2 o3,σ=[some bv,some (.ref p),o2,o3,none]/\Same H1 H'/\ ∀ fr∈bk.forms.take i,∀ r∈fr.rules,(UF fr (ao r)).size<=400) ⟨none,none,rfl,Same.refl _,λfr h=>by rw [BI]at h;cases h⟩ (λi σ H' h=>by obtain ⟨_,_,_,s',_⟩:=h;exact ⟨SqT.of (s' _ _ hfa2),s' _ _ gp⟩) ?_ ?_
 ·rintro i x y σ H2 T ex ey ⟨o2,o3,rfl,s2,h42⟩ hT;obtain ⟨H3,eW,sT,gT⟩:=nw hT (.tup [x,y]);rw [eW];obtain ⟨fr,hfr,hRx⟩:=aH hF2 ex;obtain ⟨fr',hfr',a,rfl,ys,ord,ga,hys,hO⟩:=aH hzs ey;rw [hfr]at hfr';cases hfr';have S3:=s2.trans sT;have hfm:=AH hfr;have ho:=hok fr hfm;refine ⟨T,_,rfl,SqT.of gT,rfl,_,_,rfl,_,_,rfl,rfl,?_⟩;refine ⟨_,rfl,_,rfl,x,fr,a,ys,ord,UF fr,rfl,hRx.mono (aq S3),ho.1,S3 _ _ ga,iA (aq S3) hys,hO,hUn fr hfm,λh4 H4 s4=>⟨_,_,rfl,S3.trans s4,λg hg=>?_⟩,λ⟨r,hr,h4⟩ H4 s4=>qG ⟨fr,hfm,r,hr,h4⟩ _ (s1.trans (S3.trans s4))⟩;rw [aP hfr]at hg;rcases AT.mp hg with z | z
  ·exact h42 g z
  ·rw [AE.mp z];exact h4
 ·rintro σ H2 ⟨o2,o3,rfl,s2,h42⟩;rw [<- lF2,Bc]at h42;have hok2: ∀ fr∈bk.forms,qJ fr (UF fr):=λfr h=>⟨(hok fr h).1,(hok fr h).2,hAll fr h,⟨hUn fr h,h42 fr h⟩⟩;replace q:=q hok2;clear hok;have hok:=hok2;have hB2:=hB1.mono (aq s2);have tt2:=tt1.same s2;refine ⟨_,rfl,bv,bk,rfl,hB2,λfa3 fv3 hfa3 hF3=>?_⟩;have lF3:=hF3.len;have gp2:=s2 _ _ gp;refine ⟨_,rfl,fa3,p,fv3,zs,rfl,SqT.of hfa3,gp2,?_⟩;have hzs2:=Paired.mapP hzs λfr z ⟨q,e,h⟩=>(⟨q,e,OrdL.mono (aq s2) (λo h=>s2 _ _ h) h⟩: ∃ q,z=V.ref q/\OrdL H2 fr q);refine pK (by lia) tt2 hF3 hzs2 hfa3 gp2 (λH fr v=>RepF H (unF (UF fr) fr) v) (λt h=>h.mono t) ?_ ?_
  ·rintro fr v _ H3 k hfr hR ⟨a,rfl,ys,ord,ga,hys,hO⟩ k3 tt3 hk;have ho:=hok fr hfr;have tk3:=tt2.tk k3;exact ⟨_,rfl,_,rfl,v,fr,a,ys,ord,UF fr,rfl,hR.mono tk3,ho.rs,ho.ss,k3 _ _ ga (tt2.ne ga λ_ e=>by cases e),iA tk3 hys,hO,ho.un,tt3,hk⟩
  intro pf zf H3 hpf k3 tt3 gpf hzf;have tk3:=tt2.tk k3;have hB3:=hB2.mono tk3;refine ⟨_,rfl,bv,bk,rfl,hB3,_,rfl,bv,bk,rfl,hB3,λsa sv hsa hS=>?_⟩;have lzf:bk.forms.length=zf.length:=AZ hzf;refine ⟨_,rfl,pf,_,rfl,.inl ⟨SqL.of gpf,λp6 hp6=>?_⟩⟩;obtain ⟨H6,eW,s6,g6⟩:=nw hp6 (.tup zf);rw [eW];refine ⟨dU,λp7 hp7=>?_⟩;obtain ⟨H7,eW,s7,g7⟩:=nw hp7 (.tup [.int bk.wheel,.ref sa,.ref p6]);rw [eW];have S37:=s6.trans s7;refine q _ H7 ((((Kp.refl.same s1).same s2).trans k3).same S37) (tt3.same S37) ⟨p7,sa,p6,zf,rfl,g7,⟨sv,S37 _ _ hsa,hS.mono (aq S37)⟩,s7 _ _ g6,?_⟩;exact dj (g:=λfr=>unF (UF fr) fr) (Paired.mapP hzf λ_ _ h=>RepF.mono (aq S37) h)
noncomputable def lk (i:Int) (x:Str):KK:=if i<0 then [.inr "own",.inr x]else [.inr "part",.inl i,.inr x]
noncomputable def aS (r:Rul):KK:=lk r.pl r.word
def fq:Sp:=λvs H Q _=> ∃ (i:Int) (x:Str),vs=[.int i,.str x]/\ ∀ p,H p=none->Q (.ref p) (upd H p (.tup ((lk i x).map kV)))
def KvL (H:Hp) (r:Rul) (kv:KK×V):Prop:=kv.1=aS r/\Rep H r.fm kv.2
theorem KvL.mono {H H':Hp} (t:TK H H') {r:Rul} {kv:KK×V} (h:KvL H r kv):KvL H' r kv:=⟨h.1,h.2.mono t⟩
theorem ic {H:Hp}: ∀ {rs:List Rul} {kvs:List (KK×V)},Paired (KvL H) rs kvs->kvs.map (·.1)=rs.map aS
 | _,_,.nil=>rfl
 | r::rs,kv::kvs,.cons h t=>by
  show kv.1::kvs.map (·.1)=aS r::rs.map aS;rw [h.1,ic t]
theorem zK (x:V) (r:List V):db (x::r) none (some 1)=[x]:=by
 have e1:HT.sIx (x::r).length (x::r).length (some 1)=1:=by
  have:HT.sIx (x::r).length (x::r).length (some 1)=min 1 (x::r).length:=HT.sIx_nat _ _ 1;rw [this,AM];lia
 unfold db;rw [e1,HT.sIx_none];rfl
def RsL (rs:List Rul):Prop:= ∀ r∈rs,r.pl= -1\/0<=r.pl
theorem yd {i:Int} {x:Str} (h:i= -1\/0<=i):l2p (lk i x)=pk i x:=by
 unfold lk;rcases h with rfl | h
 ·rw [AX (by decide)];rfl
 ·rw [AQ (by lia)];rfl
theorem uT (i:Int) (x:Str):uZ (lk i x):=by
 unfold lk;by_cases c:i<0
 ·rw [AX c];exact .inl ⟨x,rfl⟩
 ·rw [AQ c];exact .inr ⟨i,x,rfl,by lia⟩
theorem cu {rs:List Rul} (h:RsL rs) {r:Rul} (hr:r∈rs):l2p (aS r)=ao r:=yd (h r hr)
theorem qk {rs:List Rul} (ok:RsOk rs) (h:RsL rs):(rs.map aS).Nodup:=by
 have e:(rs.map aS).map l2p=rs.map ao:=by
  rw [BB];exact DN λr hr=>cu h hr
 have nd:=ok.nd;rw [<- e]at nd;exact List.Pairwise.of_map l2p (λa b n z=>n (by rw [z])) nd
def mv:Sp:=λvs H Q _=> ∃ v fr,vs=[v]/\RepF H fr v/\RsOk fr.rules/\RsL fr.rules/\ ∀ d kvs H',H d=none->Same H H'->H' d=some (.dT kvs)->Paired (KvL H') fr.rules kvs->Q (.ref d) H'
noncomputable def lfk:Fm->KK
 | .num n=>[.inr "num",.inl n]
 | .own x=>[.inr "own",.inr x]
 | .part k x=>[.inr "part",.inl k,.inr x]
 | _=>[]
noncomputable def eC:Fm->Prop
 | .bin _ _ _=>False
 | .whn _ _ _=>False
 | _=>True
theorem mH {H:Hp} {g:Fm} {v:V} (l:eC g) (h:Rep H g v): ∃ a,v=.ref a/\H a=some (.tup ((lfk g).map kV)):=by
 cases g with
 | num n=>exact h
 | own x=>exact h
 | part k x=>exact h
 | bin op a b=>exact l.elim
 | whn a b c=>exact l.elim
theorem fV {g:Fm} (w:g.wf):decide (eG g∈(["num","own","part"]:List Str))=true↔eC g:=by
 cases g with
 | num n=>exact ⟨λ_=>trivial,λ_=>AO (by show ("num":Str)∈_;decide +kernel)⟩
 | own x=>exact ⟨λ_=>trivial,λ_=>AO (by show ("own":Str)∈_;decide +kernel)⟩
 | part k x=>exact ⟨λ_=>trivial,λ_=>AO (by show ("part":Str)∈_;decide +kernel)⟩
 | bin op a b=>
  refine ⟨λz=>?_,λz=>z.elim⟩;have z:op∈(["num","own","part"]:List Str):=A7 z;have ho:op∈ops:=w.1;simp only [AY,Bz,CV]at z;rcases z with z | z | z <;> (rw [z]at ho;exact absurd ho (by decide +kernel))
 | whn a b c=>exact ⟨λz=>absurd (A7 z) (by show ("when":Str)∉_;decide +kernel),λz=>z.elim⟩
theorem kf {H:Hp} {g:Fm} {v:V} (l: ¬ eC g) (w:g.wf) (h:Rep H g v): ∃ a us,v=.ref a/\H a=some (.tup (.str (eG g)::us))/\us.length<=3/\Paired (λk u=>Rep H k u/\k.wf/\k.size<g.size) (eD g) us:=by
 cases g with
 | num n=>exact (l trivial).elim
 | own x=>exact (l trivial).elim
 | part k x=>exact (l trivial).elim
 | bin op A B=>
  obtain ⟨a,u,v,rfl,ha,r1,r2⟩:=h;exact ⟨a,[u,v],rfl,ha,(by show 2<=3;decide),.cons ⟨r1,w.2.1,(by show _<A.size+B.size+1;lia)⟩ (.cons ⟨r2,w.2.2,(by show _<A.size+B.size+1;lia)⟩ .nil)⟩
 | whn A B C=>
  obtain ⟨a,u,v,x,rfl,ha,r1,r2,r3⟩:=h;exact ⟨a,[u,v,x],rfl,ha,(by show 3<=3;decide),.cons ⟨r1,w.1,(by show _<A.size+B.size+C.size+1;lia)⟩ (.cons ⟨r2,w.2.1,(by show _<A.size+B.size+C.size+1;lia)⟩ (.cons ⟨r3,w.2.2,(by show _<A.size+B.size+C.size+1;lia)⟩ .nil))⟩
theorem vZ {H:Hp} {M:KK->Option Fm} {g:Fm} {p:Addr} {us:List V} (l: ¬ eC g) (h:H p=some (.tup (.str (eG g)::us))) (hp:Paired (λk u=>Rep H (k.sub M) u) (eD g) us):Rep H (g.sub M) (.ref p):=by
 cases g with
 | num n=>exact (l trivial).elim
 | own x=>exact (l trivial).elim
 | part k x=>exact (l trivial).elim
 | bin op A B=>
  cases hp with
  | cons r1 t=>cases t with
   | cons r2 t=>cases t;exact ⟨p,_,_,rfl,h,r1,r2⟩
 | whn A B C=>
  cases hp with
  | cons r1 t=>cases t with
   | cons r2 t=>cases t with
    | cons r3 t=>cases t;exact ⟨p,_,_,_,rfl,h,r1,r2,r3⟩
theorem tI {Z:KK->Option Nat} {g:Fm} (l: ¬ eC g):((g.szw Z:Nat):Int)=1+ms ((eD g).map λk=>((k.szw Z:Nat):Int)):=by
 cases g with
 | num n=>exact (l trivial).elim
 | own x=>exact (l trivial).elim
 | part k x=>exact (l trivial).elim
 | bin op A B=>
  show ((A.szw Z+B.szw Z+1:Nat):Int)=1+ ((A.szw Z:Int) + ((B.szw Z:Int) +0));lia
 | whn A B C=>
  show ((A.szw Z+B.szw Z+C.szw Z+1:Nat):Int)=1+ ((A.szw Z:Int) + ((B.szw Z:Int) + ((C.szw Z:Int) +0)));lia
theorem tH {Z:KK->Option Nat} {g:Fm} (l:eC g):g.szw Z=((kyP g).bind Z).getD 1:=by
 cases g with
 | num n=>rfl
 | own x=>rfl
 | part k x=>rfl
 | bin op a b=>exact l.elim
 | whn a b c=>exact l.elim
theorem tJ {M:KK->Option Fm} {g:Fm} (l:eC g):g.sub M=((kyP g).bind M).getD g:=by
 cases g with
 | num n=>rfl
 | own x=>rfl
 | part k x=>rfl
 | bin op a b=>exact l.elim
 | whn a b c=>exact l.elim
noncomputable def lfW:Fm->Prop
 | .part k _=>0<=k
 | _=>True
theorem nM {g:Fm} (w:g.wf):lfW g:=by
 cases g with
 | part k x=>exact w.1.1
 | _=>trivial
def DZ (kvs:List (KK×V)) (Z:KK->Option Nat):Prop:= ∀ g,eC g->lfW g->aW kvs (lfk g)=((kyP g).bind Z).map λn=>V.int ((n:Nat):Int)
def DM (H:Hp) (kvs:List (KK×V)) (M:KK->Option Fm):Prop:= ∀ g,eC g->lfW g->(∀ h,(kyP g).bind M=some h-> ∃ u,aW kvs (lfk g)=some u/\Rep H h u)/\((kyP g).bind M=none->aW kvs (lfk g)=none)
theorem DM.mono {H H':Hp} (t:TK H H') {kvs:List (KK×V)} {M:KK->Option Fm} (h:DM H kvs M):DM H' kvs M:=λg l w=>⟨λx e=>by
 obtain ⟨u,h1,h2⟩:=(h g l w).1 x e;exact ⟨u,h1,h2.mono t⟩,(h g l w).2⟩
def fO (n:Nat):Sp:=λvs H Q _=> ∃ v d g kvs Z,vs=[v,.ref d]/\Rep H g v/\Fm.wf g/\g.size<=n/\H d=some (.dT kvs)/\DZ kvs Z/\ ∀ H',Same H H'->Q (.int ((g.szw Z:Nat):Int)) H'
def fP (n:Nat):Sp:=λvs H Q _=> ∃ v d g kvs M,vs=[v,.ref d]/\Rep H g v/\Fm.wf g/\g.size<=n/\H d=some (.dT kvs)/\DM H kvs M/\ ∀ u H',Same H H'->Rep H' (g.sub M) u->Q u H'
theorem tT:av ["at","word"] ["at","word"] (ak ll):=fsc
theorem rH (F:Fun K "_law_target" "_law_target" ll f fd):a8 P w K mg base CX0 1 f fd ["at","word"] fq:=by
 refine F.ok tT (λvs H Q E h=>?_) (λcdv A outer s H vs Q E hr h=>?_)
 ·obtain ⟨i,x,rfl,_⟩:=h;rfl
 obtain ⟨i,x,rfl,q⟩:=h;refine ⟨_,af (bc (ax gi (pv 0) ag (aL _)) (aj (ay (aF (aa aJ (aa (pv 1) ae))))) aK)
  (aj (ay (aF (aa aJ (aa (pv 0) (aa (pv 1) ae)))))),?_⟩
 refine ⟨_,rfl,i,0,rfl,rfl,_,rfl,?_⟩;unfold lk at q;by_cases c:i<0
 ·rw [AO c];rw [AX c]at q;exact bL ⟨_,rfl,cB,λp hp=>q p hp⟩
 ·rw [AW c];rw [AQ c]at q;exact bt ⟨_,rfl,_,rfl,dU,λp hp=>q p hp⟩
abbrev NTi:List Str:=["form","told","at","word","formula"]
theorem scToldIn:av NTi ["form"] (ak lj):=fsc
theorem rG (F:Fun K "_law_told_in" "_law_told_in" lj f fd)
  (GT:Cl P w K mg base CX0 1 f2 fd2 ["at","word"] fq "_law_target"):a8 P w K mg base CX0 2 f fd ["form"] mv:=by
 refine F.ok scToldIn (λvs H Q E h=>?_) (λcdv A outer s H vs Q E hr h=>?_)
 ·obtain ⟨v,fr,rfl,_⟩:=h;rfl
 obtain ⟨v,fr,rfl,hF,hok,hL,q⟩:=h;have h12:=hok.few;have hu:=da hr;have hnd:=qk hok hL;refine ⟨_,af (psz 1 scToldIn.nd cq)
  (af (bi A5 rfl (bV (ar (r:=bf K) aA (pv 0) ag (λ_ _=>rfl)))
    (cT rfl (aM (pgz 2 scToldIn.nd) (aM (pgz 3 scToldIn.nd) (aM (pgz 4 scToldIn.nd) ce))))
   (aj (cz hu (pv 1) (pcl GT hr (aa (pv 2) (aa (pv 3) ae))) (pv 4) rfl)))
  (aj (ay (pv 1)))),?_⟩
 refine λd hd=>?_;obtain ⟨H0,eW,s0,g0⟩:=nw hd (.dT []);rw [eW];obtain ⟨a,pa,ra,rv,rfl,ha,hpa,hra,hR⟩:=hF.mono (aq s0);refine ⟨_,rfl,a,_,3,.ref ra,rfl,rfl,SqT.of ha,aZ (j:=3) rfl,ra,rfl,⟨rv,SqT.of hra⟩,?_⟩;have lR:=hR.len;refine eV (xs:=rv) (λi σ H'=>i<=rv.length/\ ∃ o2 o3 o4 kvs,σ=[some (.ref a),some (.ref d),o2,o3,o4]/\Same H H'/\H' ra=some (.tup rv)/\RepRs H' fr.rules rv/\H' d=some (.dT kvs)/\kvs.length=i/\Paired (KvL H') (fr.rules.take i) kvs)
  ⟨A6 _,none,none,none,[],rfl,s0,hra,hR,g0,rfl,.nil⟩ (λi σ H' _ h=>by obtain ⟨_,_,_,_,_,_,_,g,_⟩:=h;exact SqT.of g) ?_ ?_
 ·rintro i x σ H1 hx ⟨_,o2,o3,o4,kvs,rfl,S1,gra,hR1,gd,hl,hP⟩;have hil:i<rv.length:=(AF.mp hx).1;obtain ⟨r,hr',a',u,rfl,ha',hu'⟩:=aH hR1 hx;refine ⟨a',_,rfl,SqT.of ha',rfl,_,_,rfl,_,_,rfl,_,_,rfl,rfl,?_⟩;refine ⟨_,rfl,_,rfl,_,rfl,_,rfl,r.pl,r.word,rfl,λt ht=>?_⟩;have s2:=al ht (.tup ((aS r).map kV));have g2:(upd H1 t (.tup ((aS r).map kV))) t=some (.tup ((aS r).map kV)):=ad;rw [show lk r.pl r.word=aS r from rfl];generalize upd H1 t (.tup ((aS r).map kV))=H2 at s2 g2 ⊢;refine ⟨d,_,rfl,DPut.t (s2 _ _ gd) g2 (am (by lia)),?_⟩;have hn:aS r∉kvs.map (·.1):=by
   rw [ic hP,Cg];exact dZ hnd (by rw [AS,hr'];rfl)
  rw [dw hn];have tk:TK H1 (upd H2 d (.dT (kvs++[(aS r,u)]))):=λb xs e=>by
   rw [ah (λz=>by rw [z,gd]at e;cases e)];exact s2 _ _ e
  refine ⟨hil,_,_,_,_,rfl,?_,tk _ _ gra,hR1.mono tk,ad,?_,?_⟩
  ·intro y o h;rw [ah (ai h hd)];exact s2 _ _ (S1 _ _ h)
  ·rw [AI,hl];rfl
  ·rw [aP hr'];exact BH (Paired.mapP hP λ_ _ h=>h.mono tk) ⟨rfl,hu'.mono tk⟩
 ·rintro σ H1 ⟨_,o2,o3,o4,kvs,rfl,S1,gra,hR1,gd,hl,hP⟩;rw [<- lR,Bc]at hP;exact ⟨_,rfl,q d kvs H1 hd S1 gd hP⟩
theorem vT:av ["formula","sizes"] ["formula","sizes"] (ak ji):=fsc
theorem rJ {n:Nat} (F:Fun K "_law_size_with" "_law_size_with" ji f fd) (hsum:mg "sum"=none)
  (GS:a8 P w K mg base CX0 (n+1) f fd ["formula","sizes"] (fO n)) (bS:Binds K fd ["formula","sizes"] []) (mS:mg "_law_size_with"=some (.ref f)):
  a8 P w K mg base CX0 (n+2) f fd ["formula","sizes"] (fO (n+1)):=by
 refine F.ok vT (λvs H Q E h=>?_) (λcdv A outer s H vs Q E hr h=>?_)
 ·obtain ⟨v,d,g,kvs,Z,rfl,_⟩:=h;rfl
 obtain ⟨v,d,g,kvs,Z,rfl,hR,hwf,hsz,gd,hZ,q⟩:=h;have hu:=da hr;refine ⟨_,af (bc (ax cV (ar (r:=bf K) aA (pv 0) ag (λ_ _=>rfl)) (aF (pac aJ (pac aJ (pac aJ ae)))) (by with_unfolding_all rfl)) (aj (ay (fG hu (pv 1) (pv 0) ag ⟨rfl,rfl,rfl,rfl⟩))) aK)
  (aj (ay (aw bj ag (au (sI rfl) rfl hsum (by decide +kernel) (aa (dN (sc0:=ak ji) (N0:=["formula","sizes"]) (ys:=["sizes"]) (fr:=[1]) rfl (bV (aT dg (pv 0) (aX ag) bg)) rfl rfl
    cok (λC s H ex=>gX GS hr rfl mS F.kp bS .nil mY (aa (pv 0) (aa (pv 1) ae)))) ae))))),?_⟩
 obtain ⟨a,r,rfl,ha⟩:=gU hR;refine ⟨_,rfl,a,_,0,.str (eG g),rfl,rfl,SqT.of ha,bx,dU,λp1 h1=>?_⟩;have s1:=al h1 (.tup [.str "num",.str "own",.str "part"]);have g1:(upd H p1 (.tup [.str "num",.str "own",.str "part"])) p1=some (.tup (([("num":Str),"own","part"]:List Str).map V.str)):=ad;generalize upd H p1 (.tup [.str "num",.str "own",.str "part"])=HX at s1 g1 ⊢;refine ⟨p1,_,rfl,.inr (SqT.of g1),rfl,bq,_,rfl,?_⟩;refine (show if inV (.str (eG g)) ((["num","own","part"]:List Str).map V.str)=true then _ else _ from ?_);rw [eF];by_cases l:eC g
 ·rw [(fV hwf).mpr l];obtain ⟨a',e,hl⟩:=mH l hR;cases e;refine bL ⟨_,rfl,d,rfl,.inr ⟨kvs,.inl (s1 _ _ gd)⟩,_,rfl,_,(DGet.t (s1 _ _ gd) (s1 _ _ hl)),?_⟩;rw [hZ g l (nM hwf),jC,<- tH l];exact q HX s1
 ·rw [show decide (eG g∈(["num","own","part"]:List Str))=false from Fb.mpr λz=>l ((fV hwf).mp z)];obtain ⟨a',us,e,ha',hus,hK⟩:=kf l hwf hR;cases e;refine bt ⟨_,rfl,1,rfl,a,_,rfl,s1 _ _ ha',λp5 H5 s5 g5=>?_⟩;have g5:H5 p5=some (.tup us):=by rw [g5,wY]
  have S5:=s1.trans s5;refine ⟨p5,rfl,⟨_,SqT.of g5⟩,?_⟩;refine dG (by lia) hK (fY g5) (fX g5) (iB g5) (λ_ k v=>v=.int ((k.szw Z:Nat):Int)) (λ_ h=>h) ?_ ?_
  ·rintro k v' H6 kk hk ⟨hRk,hwk,hsk⟩ s6 hkk;exact ⟨_,rfl,_,rfl,v',d,k,kvs,Z,rfl,hRk.mono (aq (S5.trans s6)),hwk,by lia,s6 _ _ (S5 _ _ gd),hZ,λH7 s7=>hkk _ H7 s7 rfl⟩
  ·intro p7 zs H7 hp7 s7 g7 hz7;have e7:=kl (g:=λk:Fm=>V.int ((k.szw Z:Nat):Int)) hz7;have e8:zs=((eD g).map λk=>((k.szw Z:Nat):Int)).map V.int:=by rw [e7,BB];rfl
   rw [e8]at g7;refine ⟨p7,_,rfl,SqL.of g7,_,_,rfl,rfl,?_⟩;have:=q H7 (S5.trans s7);rw [tI l]at this;exact this
theorem vU:av ["formula","made"] ["formula","made"] (ak jm):=fsc
theorem rM {n:Nat} (F:Fun K "_law_put_in" "_law_put_in" jm f fd) (G:Gb mg)
  (GS:a8 P w K mg base CX0 (n+1) f fd ["formula","made"] (fP n)) (bS:Binds K fd ["formula","made"] []) (mS:mg "_law_put_in"=some (.ref f)):
  a8 P w K mg base CX0 (n+2) f fd ["formula","made"] (fP (n+1)):=by
 refine F.ok vU (λvs H Q E h=>?_) (λcdv A outer s H vs Q E hr h=>?_)
 ·obtain ⟨v,d,g,kvs,M,rfl,_⟩:=h;rfl
 obtain ⟨v,d,g,kvs,M,rfl,hR,hwf,hsz,gd,hM,q⟩:=h;have hu:=da hr;refine ⟨_,af (bc (ax cV (ar (r:=bf K) aA (pv 0) ag (λ_ _=>rfl)) (aF (pac aJ (pac aJ (pac aJ ae)))) (by with_unfolding_all rfl)) (aj (ay (fG hu (pv 1) (pv 0) (pv 0) ⟨rfl,rfl,rfl,rfl⟩))) aK)
  (aj (ay (aw dq (aT dg (pv 0) bg (aX ag)) (aU (r:=bU K) aN rfl G.tuple (by decide +kernel) (aa (dN (sc0:=ak jm) (N0:=["formula","made"]) (ys:=["made"]) (fr:=[1]) rfl (bV (aT dg (pv 0) (aX ag) bg)) rfl rfl
    cok (λC s H ex=>gX GS hr rfl mS F.kp bS .nil mY (aa (pv 0) (aa (pv 1) ae)))) ae))))),?_⟩
 obtain ⟨a,r,rfl,ha⟩:=gU hR;refine ⟨_,rfl,a,_,0,.str (eG g),rfl,rfl,SqT.of ha,bx,dU,λp1 h1=>?_⟩;have s1:=al h1 (.tup [.str "num",.str "own",.str "part"]);have g1:(upd H p1 (.tup [.str "num",.str "own",.str "part"])) p1=some (.tup (([("num":Str),"own","part"]:List Str).map V.str)):=ad;generalize upd H p1 (.tup [.str "num",.str "own",.str "part"])=HX at s1 g1 ⊢;refine ⟨p1,_,rfl,.inr (SqT.of g1),rfl,bq,_,rfl,?_⟩;refine (show if inV (.str (eG g)) ((["num","own","part"]:List Str).map V.str)=true then _ else _ from ?_);rw [eF];by_cases l:eC g
 ·rw [(fV hwf).mpr l];obtain ⟨a',e,hl⟩:=mH l hR;cases e;refine bL ⟨_,rfl,d,rfl,.inr ⟨kvs,.inl (s1 _ _ gd)⟩,_,rfl,_,rfl,_,(DGet.t (s1 _ _ gd) (s1 _ _ hl)),?_⟩;have es:=tJ (M:=M) l;cases em:(kyP g).bind M with
  | none=>
   rw [em]at es;rw [(hM g l (nM hwf)).2 em];refine q _ HX s1 ?_;rw [es];exact hR.mono (aq s1)
  | some h=>
   rw [em]at es;obtain ⟨u,h1,h2⟩:=(hM g l (nM hwf)).1 h em;rw [h1];refine q _ HX s1 ?_;rw [es];exact h2.mono (aq s1)
 ·rw [show decide (eG g∈(["num","own","part"]:List Str))=false from Fb.mpr λz=>l ((fV hwf).mp z)];obtain ⟨a',us,e,ha',hus,hK⟩:=kf l hwf hR;cases e;refine bt ⟨_,rfl,1,rfl,a,_,rfl,s1 _ _ ha',λp4 H4 s4 g4=>?_⟩;have g4:H4 p4=some (.tup [.str (eG g)]):=by rw [g4,zK]
  have S4:=s1.trans s4;refine ⟨_,rfl,1,rfl,a,_,rfl,S4 _ _ ha',λp5 H5 s5 g5=>?_⟩;have g5:H5 p5=some (.tup us):=by rw [g5,wY]
  have S5:=S4.trans s5;refine ⟨p5,rfl,⟨_,SqT.of g5⟩,?_⟩;refine dG (by lia) hK (fY g5) (fX g5) (iB g5) (λH k v=>Rep H (k.sub M) v) (λt h=>h.mono t) ?_ ?_
  ·rintro k v' H6 kk hk ⟨hRk,hwk,hsk⟩ s6 hkk;have S6:=S5.trans s6;exact ⟨_,rfl,_,rfl,v',d,k,kvs,M,rfl,hRk.mono (aq S6),hwk,by lia,S6 _ _ gd,hM.mono (aq S6),λu H7 s7 h7=>hkk _ H7 s7 h7⟩
  ·intro p7 zs H7 hp7 s7 g7 hz7;have lz:(eD g).length=zs.length:=AZ hz7;have lk:(eD g).length=us.length:=AZ hK;refine ⟨p7,_,rfl,.inl ⟨SqL.of g7,λp8 hp8=>?_⟩⟩;obtain ⟨H8,eW,s8,g8⟩:=nw hp8 (.tup zs);rw [eW];refine ⟨p4,p8,_,_,rfl,rfl,s8 _ _ (s7 _ _ (s5 _ _ g4)),g8,Bj (am (by show 1+zs.length<=1000;lia)),λp9 H9 s9 g9=>?_⟩;have S79:=s8.trans s9;refine q _ H9 ((S5.trans s7).trans S79) (vZ l g9 (Paired.mapP hz7 λ_ _ h=>h.mono (aq S79)))
theorem rK:a8 P w K mg base CX0 1 f fd ["formula","sizes"] (fO 0):=by
 have no: ∀ vs H Q E,¬ fO 0 vs H Q E:=λvs H Q E h=>by
  obtain ⟨v,d,g,kvs,Z,_,_,_,h,_⟩:=h;have:=g.size_pos;lia
 exact ⟨λvs H Q E h=>absurd h (no vs H Q E),λA outer s H args us vs Q E _ _ _ _ h=>absurd h (no vs H Q E)⟩
theorem ng (F:Fun K "_law_size_with" "_law_size_with" ji f fd) (hsum:mg "sum"=none) (bS:Binds K fd ["formula","sizes"] []) (mS:mg "_law_size_with"=some (.ref f)): ∀ n:Nat,a8 P w K mg base CX0 (n+1) f fd ["formula","sizes"] (fO n)
 | 0=>rK
 | n+1=>rJ F hsum (ng F hsum bS mS n) bS mS
theorem rN:a8 P w K mg base CX0 1 f fd ["formula","made"] (fP 0):=by
 have no: ∀ vs H Q E,¬ fP 0 vs H Q E:=λvs H Q E h=>by
  obtain ⟨v,d,g,kvs,M,_,_,_,h,_⟩:=h;have:=g.size_pos;lia
 exact ⟨λvs H Q E h=>absurd h (no vs H Q E),λA outer s H args us vs Q E _ _ _ _ h=>absurd h (no vs H Q E)⟩
theorem nh (F:Fun K "_law_put_in" "_law_put_in" jm f fd) (G:Gb mg) (bS:Binds K fd ["formula","made"] []) (mS:mg "_law_put_in"=some (.ref f)): ∀ n:Nat,a8 P w K mg base CX0 (n+1) f fd ["formula","made"] (fP n)
 | 0=>rN
 | n+1=>rM F G (nh F G bS mS n) bS mS
end My
namespace L2
open PySem PySem.Spec PyProof.Rows
theorem iG {X:Cx}:cQ X (.builtin "len") (λxs H Q=> ∃ a kvs,xs=[V.ref a]/\Rd H a (.dT kvs)/\Q (.int (kvs.length:Int)) H):=by
 intro pins s σ H xs us Q I r h;obtain ⟨a,kvs,rfl,ha,q⟩:=h;rcases ha with ha | ⟨o,ha⟩
 ·obtain ⟨u,rfl,ru⟩:=gh r;cases ru;obtain ⟨_,_,xs,_,o,es,ep,h1,_⟩:=(show ObjOk X.prog X.w H s.heap a (.dT kvs)from I.hok a _ ha);have I2:=I.freeze ha h1;have ha2:(upd H a (.frz o (.dT kvs))) a=some (.frz o (.dT kvs)):=ad;obtain ⟨ys,kt,lo,hn,m,_,_⟩:=bY I2 ha2;have hz:=(show ObjOk X.prog X.w (upd H a (.frz o (.dT kvs))) s.heap a (.frz o (.dT kvs))from I2.hok a _ ha2).2.1;have hl:ys.length=kvs.length:=(AZ kt).symm;refine HT.len_des lo (ig m) (by rw [AD];lia) ?_;rw [AD,hl];exact ⟨.int kvs.length,H,I.tok _,⟨_,rfl⟩,q⟩
 ·exact kM pins s σ H _ _ Q I r ⟨a,o,kvs,rfl,ha,q⟩
section
variable {X:Cx}
theorem oN (hu:X.A.units<cLine):OpR X (compareOp .Eq) (λx y H Q=> ∃ a b xs,x=.ref a/\y=.ref b/\SqL X.K H a xs/\SqL X.K H b []/\Q (.bl xs.isEmpty) H):=by
 intro pins s σ H x y v u Q I rx ry h;obtain ⟨a,b,xs,rfl,rfl,ha,hb,q⟩:=h;cases rx;cases ry;obtain ⟨its,r,pl,_⟩:=I.list ha;obtain ⟨its2,r2,pl2,_⟩:=I.list hb;cases r2;cases r with
 | nil=>exact SeqAt.eq_listAt (e:=λ_=>true) pl.isList pl2.isList rfl hu (λj h1 _=>absurd h1 (Fx _)) ⟨.bl _,H,I,rfl,q⟩
 | cons r1 t=>exact SeqAt.eq_list_lengthsAt pl.isList pl2.isList (by simp) hu ⟨.bl _,H,I,rfl,q⟩
end
end L2
namespace My
open PySem L2
theorem iZ {g:Fm} (l:eC g) (w:lfW g) {i:Int} {x:Str} (h:i= -1\/0<=i):lfk g=lk i x↔kyP g=some (pk i x):=by
 unfold lk;cases g with
 | num n=>
  refine ⟨λe=>?_,λe=>by cases e⟩;by_cases c:i<0
  ·rw [AX c]at e;have e:=(A1 e).1;exact absurd (BO e) (by decide +kernel)
  ·rw [AQ c]at e;have e:=(A1 e).1;exact absurd (BO e) (by decide +kernel)
 | own y=>
  by_cases c:i<0
  ·have hi:i= -1:=by lia
   subst hi;rw [AX c];exact ⟨λe=>by
    have e2:=BO (A1 (A1 e).2).1;rw [e2];rfl,λe=>by
    have e2:=BO (A1 (A1 (A0 e)).2).1;rw [e2];rfl⟩
  ·rw [AQ c];refine ⟨λe=>absurd (A1 e).1 (λz=>absurd (BO z) (by decide +kernel)),λe=>?_⟩;have e2:=CM (A1 (A0 e)).1;lia
 | part k y=>
  have hk:0<=k:=w;by_cases c:i<0
  ·rw [AX c];refine ⟨λe=>absurd (A1 e).1 (λz=>absurd (BO z) (by decide +kernel)),λe=>?_⟩;have e2:=CM (A1 (A0 e)).1;lia
  ·rw [AQ c];exact ⟨λe=>by
    have e1:=CM (A1 (A1 e).2).1;have e2:=BO (A1 (A1 (A1 e).2).2).1;rw [e1,e2];rfl,λe=>by
    have e1:=CM (A1 (A0 e)).1;have e2:=BO (A1 (A1 (A0 e)).2).1;rw [e1,e2];rfl⟩
 | bin op a b=>exact l.elim
 | whn a b c=>exact l.elim
noncomputable def gV {α:Type} (Z:KK->Option α) (k:KK) (v:α) (j:KK):Option α:=if j=k then some v else Z j
theorem yw {kvs:List (KK×V)} {Z:KK->Option Nat} (h:DZ kvs Z) {r:Rul} (hr:r.pl= -1\/0<=r.pl) (n:Nat):DZ (bw kvs (aS r) (.int ((n:Nat):Int))) (gV Z (ao r) n):=λg l w=>by
 rw [cI];by_cases c:lfk g=aS r
 ·rw [AX c,(iZ l w hr).mp c];have e:(some (pk r.pl r.word)).bind (gV Z (ao r) n)=some n:=AX rfl;rw [e];rfl
 ·rw [AQ c,h g l w];cases e:kyP g with
  | none=>rfl
  | some k=>
   show (Z k).map _=(if k=ao r then some n else Z k).map _;rw [AQ λz=>c ((iZ l w hr).mpr (by rw [e,z];rfl))]
theorem yy {H:Hp} {kvs:List (KK×V)} {M:KK->Option Fm} (h:DM H kvs M) {r:Rul} (hr:r.pl= -1\/0<=r.pl) {f:Fm} {u:V} (hu:Rep H f u):DM H (bw kvs (aS r) u) (gV M (ao r) f):=λg l w=>by
 rw [cI];by_cases c:lfk g=aS r
 ·rw [AX c,(iZ l w hr).mp c];have e:(some (pk r.pl r.word)).bind (gV M (ao r) f)=some f:=AX rfl;rw [e];exact ⟨λx e=>⟨u,rfl,by cases e;exact hu⟩,λe=>by cases e⟩
 ·rw [AQ c];have e:(kyP g).bind (gV M (ao r) f)=(kyP g).bind M:=by
   cases e:kyP g with
   | none=>rfl
   | some k=>exact AQ λz=>c ((iZ l w hr).mpr (by rw [e,z];rfl))
  rw [e];exact h g l w
structure Stt (rs L:List Rul) (Z:KK->Option Nat):Prop where
 sub: ∀ r∈L,r∈rs
 top: ∀ (i:Nat) r,L[i]? =some r-> ∀ k∈r.fm.pks,k∈rs.map ao->k∈(L.take i).map ao
 nd:(L.map aS).Nodup
 z: ∀ k,(Z k).isSome=true↔k∈L.map ao
structure Mdt (rs:List Rul) (Z:KK->Option Nat) (M:KK->Option Fm):Prop where
 zm: ∀ k,Z k=(M k).map Fm.size
 mko:zO rs M
theorem vP (rs:List Rul):Stt rs [] λ_=>none:=⟨λr h=>(by cases h),λi r h=>(by simp at h),CU,λk=>⟨λz=>(by cases z),λz=>(by cases z)⟩⟩
theorem wE (rs:List Rul):Mdt rs (λ_=>none) λ_=>none:=⟨λ_=>rfl,λ_ _ e=>(by cases e)⟩
theorem yx:DZ [] λ_=>none:=λg _ _=>by cases kyP g <;> rfl
theorem yz (H:Hp):DM H [] λ_=>none:=λg _ _=>⟨λx e=>(by cases h:kyP g <;> rw [h]at e <;> cases e),λ_=>rfl⟩
theorem vO {rs L:List Rul} {Z:KK->Option Nat} (h:Stt rs L Z) {r:Rul} (hr:r∈rs) (hn:aS r∉L.map aS) (hw: ∀ k∈r.fm.pks,k∈rs.map ao->(Z k).isSome=true) (n:Nat):Stt rs (L++[r]) (gV Z (ao r) n):=by
 refine ⟨λx hx=>(AT.mp hx).elim (h.sub x) λz=>by rw [AE.mp z];exact hr,λi x hx k hk hk'=>?_,?_,λk=>?_⟩
 ·have hil:=(AF.mp hx).1;rw [AI,Cq]at hil;by_cases c:i<L.length
  ·rw [Bu c]at hx;rw [B7 (by lia)];exact h.top i x hx k hk hk'
  ·have e:i=L.length:=by lia
   subst e;rw [Bx (AJ _),DH]at hx;cases hx;rw [List.take_left];exact (h.z k).mp (hw k hk hk')
 ·rw [Be,B6];exact ⟨h.nd,CI _ _,λa ha b hb e=>hn (by rw [E1,AE]at hb;rw [<- hb,<- e];exact ha)⟩
 ·rw [Be,AT,E1,AE,<- h.z k];unfold gV;by_cases c:k=ao r
  ·rw [AX c];exact ⟨λ_=>.inr c,λ_=>rfl⟩
  ·rw [AQ c];exact ⟨.inl,λz=>z.elim id λz=>absurd z c⟩
theorem wD {rs:List Rul} {Z:KK->Option Nat} {M:KK->Option Fm} (ok:RsOk rs) (h:Mdt rs Z M) {r:Rul} (hr:r∈rs) (hw: ∀ k∈r.fm.pks,k∈rs.map ao->(Z k).isSome=true):Mdt rs (gV Z (ao r) (r.fm.szw Z)) (gV M (ao r) (r.fm.sub M)):=by
 have ez:Z=λk=>(M k).map Fm.size:=funext h.zm;have es:r.fm.szw Z=(r.fm.sub M).size:=by rw [ez];exact eM _
 refine ⟨λk=>?_,λk g e=>?_⟩
 ·unfold gV;by_cases c:k=ao r
  ·rw [AX c,AX c,es];rfl
  ·rw [AQ c,AQ c];exact h.zm k
 ·unfold gV at e;by_cases c:k=ao r
  ·rw [AX c]at e;cases e;subst c;refine ⟨_,dY ok hr,eK h.mko λk hk ht=>?_⟩;have:=hw k hk (io ht);rw [h.zm k]at this;cases e:M k with
   | none=>rw [e]at this;cases this
   | some _=>rfl
  ·rw [AQ c]at e;exact h.mko k g e
theorem pS {rs L:List Rul} {Z:KK->Option Nat} (ok:RsOk rs) (hL:RsL rs) (h:Stt rs L Z) (hn:rs.length<=L.length): ∀ r∈rs,ao r∈L.map ao:=by
 intro r hr;by_cases c:aS r∈L.map aS
 ·obtain ⟨r',h1,h2⟩:=AK.mp c;refine AK.mpr ⟨r',h1,?_⟩;rw [<- cu hL (h.sub r' h1),<- cu hL hr,h2]
 ·have:=cF (a:=aS r::L.map aS) (b:=rs.map aS) (BG.mpr ⟨c,h.nd⟩) λx hx=>by
   rcases AY.mp hx with rfl | hx
   ·exact AK.mpr ⟨r,hr,rfl⟩
   ·obtain ⟨r',h1,rfl⟩:=AK.mp hx;exact AK.mpr ⟨r',h.sub r' h1,rfl⟩
  rw [AM,AD,AD]at this;lia
theorem vR {rs L:List Rul} {Z:KK->Option Nat} (ok:RsOk rs) (hL:RsL rs) (h:Stt rs L Z) (hn:rs.length<=L.length):Acy rs:=by
 have hall:=pS ok hL h hn;refine ⟨L.map ao,λk hk=>?_,λk hk=>?_,λi k hk o ho=>?_⟩
 ·obtain ⟨r,hr,rfl⟩:=AK.mp hk;exact hall r hr
 ·obtain ⟨r,hr,rfl⟩:=AK.mp hk;exact AK.mpr ⟨r,h.sub r hr,rfl⟩
 ·rw [AS]at hk;obtain ⟨r,hr,rfl⟩:=Bw.mp hk;obtain ⟨h1,h2⟩:=(oE ok (h.sub r (AH hr)) o).mp ho;rw [<- Cg];exact h.top i r hr o h1 h2
theorem wF {rs L:List Rul} {Z:KK->Option Nat} {M:KK->Option Fm} (ok:RsOk rs) (hL:RsL rs) (h:Stt rs L Z) (hm:Mdt rs Z M) (hn:rs.length<=L.length): ∃ U:KK->Fm,(∀ r∈rs,Unf rs r.fm (U (ao r)))/\ ∀ r∈rs,M (ao r)=some (U (ao r)):=by
 have hs: ∀ r∈rs,∃ g,M (ao r)=some g:=λr hr=>by
  have:=(h.z _).mpr (pS ok hL h hn r hr);rw [hm.zm]at this;cases e:M (ao r)with
  | none=>rw [e]at this;cases this
  | some g=>exact ⟨g,rfl⟩
 refine ⟨λk=>(M k).getD (.num 0),λr hr=>?_,λr hr=>?_⟩
 ·obtain ⟨g,e⟩:=hs r hr;obtain ⟨f,h1,h2⟩:=hm.mko _ _ e;rw [dY ok hr]at h1;cases h1;show Unf rs r.fm ((M (ao r)).getD _);rw [e];exact h2
 ·obtain ⟨g,e⟩:=hs r hr;show M (ao r)=some ((M (ao r)).getD _);rw [e];rfl
theorem vD {rs:List Rul} (ok:RsOk rs) (h:Acy rs) {S:List KK} {k0:KK} (h0:k0∈rs.map ao) (hn:k0∉S): ∃ r∈rs,ao r∉S/\ ∀ k∈r.fm.pks,k∈rs.map ao->k∈S:=by
 obtain ⟨L,a1,a2,a3⟩:=h;obtain ⟨i0,hi0⟩:=Ba (a1 k0 h0);have go: ∀ (n i:Nat) (k:KK),i<n->L[i]? =some k->k∉S-> ∃ r∈rs,ao r∉S/\ ∀ k∈r.fm.pks,k∈rs.map ao->k∈S:=by
  intro n;induction n with
  | zero=>intro i k h;lia
  | succ n ih=>
   intro i k hi hk hkS;obtain ⟨r,hr,rfl⟩:=AK.mp (a2 k (AH hk));by_cases c: ∀ o∈r.fm.pks,o∈rs.map ao->o∈S
   ·exact ⟨r,hr,hkS,c⟩
   ·have: ∃ o,o∈r.fm.pks/\o∈rs.map ao/\o∉S:=by
     refine C1 λhc=>c λo h1 h2=>C1 λh3=>hc ⟨o,h1,h2,h3⟩
    obtain ⟨o,h1,h2,h3⟩:=this;have:=a3 i _ hk o ((oE ok hr o).mpr ⟨h1,h2⟩);obtain ⟨j,hj⟩:=Ba this;have hji:j<i:=by
     have:=(AF.mp hj).1;rw [A4]at this;lia
    rw [C6 hji]at hj;exact ih j o (by lia) hj h3
 exact go (i0+1) i0 k0 (by lia) hi0 hn
def LR (H:Hp) (v:V) (p1:Addr) (rs:List (List Key)) (m:Nat) (σ:St) (H':Hp):Prop:= ∃ (pw:Addr) (ws done rest:List V) (dk rs':List (List Key)) (o:Option V),
 σ=[some v,some (.ref p1),some (.ref pw),o]/\p1≠pw/\H' p1=some (.lst done)/\H' pw=some (.lst ws)/\Same H H'/\Tw H ws rest rs'/\KsOf H' done dk/\dd dk rs'=dd [] rs/\done.length+rest.length<=1000/\m=rest.length
theorem scLReads:av ["formula","found","waiting","one"] ["formula"] (ak lu):=fsc
theorem dJ (k x:Str):decide (V.str k=V.str x)=decide (k=x):=by
 by_cases h:k=x
 ·subst h;rw [AO rfl,AO rfl]
 ·rw [AW h,AW λe=>h (V.str.inj e)]
theorem rS (F:Fun K "_law_reads" "_law_reads" lu f fd) (hlist:mg "list"=none):a8 P w K mg base CX0 1 f fd ["formula"] iW:=by
 refine F.ok scLReads (λvs H Q E h=>?_) (λcdv A outer s H vs Q E hr h=>?_)
 ·obtain ⟨v,b,_,rfl,_⟩:=h;rfl
 obtain ⟨v,out,rs,rfl,hT,hout,q⟩:=h;have hu:=hr.units;refine ⟨_,af (psz 1 scLReads.nd (bd ae))
  (af (psz 2 scLReads.nd (bd (aa (pv 0) ae)))
  (af (gW A5 (ax (rF hr.units0) (pv 2) (bd ae) (aL _))
   (af (psz 3 scLReads.nd (ar (r:=cC K) aY (pv 2) ag (λ_ _=>rfl)))
   (af (psz 2 scLReads.nd (aT cy (pv 2) (aX ag) bg))
   (aj (bc (PW.pt (qf (ax cr (ar (r:=bf K) aA (pv 3) ag (λ_ _=>rfl)) aJ (aL _)) (oG (ax cr (ar (r:=bf K) aA (pv 3) ag (λ_ _=>rfl)) aJ (aL _)))))
    (aj (bc (ax (mZ (EX (Nat.add_le_add_left (show 1<=16 by decide) _) (da hr))) (pv 3) (pv 1) (by with_unfolding_all rfl))
     (aj (bC (dC A8 Bq Br bp (pv 1) (aa (pv 3) ae)))) aK))
    (aj (bc (ax xm (ar (r:=bf K) aA (pv 3) ag (λ_ _=>rfl)) aJ (aL _))
     (aj (psz 2 scLReads.nd (aw fH (aU (r:=lH K) l7 rfl hlist (by decide +kernel) (aa (aT oj (pv 3) (aX ag) bg) ae)) (pv 2)))) aK)))))))
  (aj (ay (pv 1))))),?_⟩
 refine ⟨iq,λp1 h1=>?_⟩;refine ⟨_,rfl,fc,λp2 h2=>?_⟩;dsimp only [xx,jR,dF,tC];have n21:p1≠p2:=λe=>by
  subst e;rw [ad]at h2;cases h2
 have h2':H p2=none:=by rw [ah (Bg n21)]at h2;exact h2
 refine ⟨LR H v p1 rs,⟨_,p2,[v],[],out,[],rs,none,rfl,n21,by rw [ah n21,ad],ad,(al h1 _).trans (al h2 _),hT,.nil,rfl,by simpa using hout,rfl⟩,?_⟩;rintro m σ H' ⟨pw,ws,done,rest,dk,rs',o,rfl,n1w,g1,g2,sm,hW,hk,hdd,hl,rfl⟩;refine ⟨_,rfl,iq,λp3 h3=>?_⟩;have n13:p1≠p3:=ai g1 h3;have nw3:pw≠p3:=ai g2 h3;have sm3:=sm.trans (al h3 (.lst []));have g1':(upd H' p3 (.lst [])) p1=some (.lst done):=by rw [ah n13];exact g1
 have g2':(upd H' p3 (.lst [])) pw=some (.lst ws):=by rw [ah nw3];exact g2
 have g3':(upd H' p3 (.lst [])) p3=some (.lst []):=ad;have hk':KsOf (upd H' p3 (.lst [])) done dk:=hk.mono λb xs h=>by rw [ah (ai h h3)];exact h
 generalize upd H' p3 (.lst [])=H3 at sm3 g1' g2' g3' hk' ⊢;refine ⟨pw,p3,ws,rfl,rfl,SqL.of g2',SqL.of g3',_,rfl,?_⟩;cases ws with
 | nil=>
  refine bt ?_;cases hW;refine ⟨_,rfl,?_⟩;have e:dk=dd [] rs:=hdd;subst e;exact q p1 done H3 h1 sm3 g1' hk'
 | cons x vs=>
  refine bL ⟨λσ' H''=> ∃ m',m'<rest.length/\LR H v p1 rs m' σ' H'',λσ' H'' h=>h,?_⟩;refine ⟨_,rfl,pw,_,0,x,rfl,rfl,SqL.of g2',bx,?_⟩;refine ⟨_,rfl,1,rfl,pw,_,rfl,SqL.of g2',λp4 h4=>?_⟩;rw [wY];have n14:p1≠p4:=ai g1' h4;have sm4:=sm3.trans (al h4 (.lst vs));have g1'':(upd H3 p4 (.lst vs)) p1=some (.lst done):=by rw [ah n14];exact g1'
  have g4:(upd H3 p4 (.lst vs)) p4=some (.lst vs):=ad;have hk'':KsOf (upd H3 p4 (.lst vs)) done dk:=hk'.mono λb xs h=>by rw [ah (ai h h4)];exact h
  generalize upd H3 p4 (.lst vs)=H4 at sm4 g1'' g4 hk'' ⊢;cases hW with
  | @rd a ks _ rest' rs'' ha hrk t=>
   rw [AM]at hl ⊢;obtain ⟨k,r,e,hk2,_,_⟩:=lE hrk;have ha4:=sm4 _ _ ha;have ha4':H4 a=some (.tup (.str k::r)):=by rw [<- e];exact ha4
   have ed:dd dk (ks::rs'')=dd (if ks∈dk then dk else dk++[ks]) rs'':=rfl;rw [ed]at hdd;have old:ks∈dk->LR H v p1 rs rest'.length [some v,some (.ref p1),some (.ref p4),some (.ref a)] H4:=λhm=>by
    rw [AX hm]at hdd;exact ⟨p4,vs,done,rest',dk,rs'',_,rfl,n14,g1'',g4,sm4,t,hk'',hdd,by lia,rfl⟩
   have new: ¬ ks∈dk->LR H v p1 rs rest'.length [some v,some (.ref p1),some (.ref p4),some (.ref a)] (upd H4 p1 (.lst (done++[.ref a]))):=λhm=>by
    rw [AQ hm]at hdd;refine ⟨p4,vs,done++[.ref a],rest',dk++[ks],rs'',_,rfl,n14,ad,by rw [ah (Bg n14)];exact g4,λc oo h=>by rw [ah (ai h h1)];exact sm4 c oo h,t,?_,hdd,by rw [AI,Cq];lia,rfl⟩;refine BH (hk''.mono λb xs h=>?_) ⟨a,rfl,?_⟩
    ·rw [ah (λz=>by subst z;rw [g1'']at h;cases h)];exact h
    ·rw [ah (λz=>by subst z;rw [g1'']at ha4;cases ha4)];exact ha4
   have goal: ∀ {A' B':Hp->Prop},(∀ m',m'<rest'.length+1->LR H v p1 rs m' [some v,some (.ref p1),some (.ref p4),some (.ref a)] H4->B' H4)->(∀ m',m'<rest'.length+1->LR H v p1 rs m' [some v,some (.ref p1),some (.ref p4),some (.ref a)] (upd H4 p1 (.lst (done++[.ref a])))->A' H4)->
     if (if true=true then !decide (ks∈dk)else decide (ks∈dk))=true then A' H4 else B' H4:=λhB hA=>by
    rw [AX rfl];by_cases hm:ks∈dk
    ·rw [AO hm];exact bt (hB _ (Cw _) (old hm))
    ·rw [AW hm];exact bL (hA _ (Cw _) (new hm))
   refine ⟨_,rfl,a,_,0,_,rfl,rfl,SqT.of ha4',bx,rfl,_,rfl,?_⟩;rw [dJ];rcases hk2 with rfl | rfl
   ·rw [AO rfl];refine bL (bL ?_);refine ⟨_,rfl,_,rfl,a,p1,ks,done,dk,rfl,rfl,ha4,SqL.of g1'',hk'',_,rfl,?_⟩;refine goal (λm' h1 h2=>⟨m',h1,h2⟩) (λm' h1 h2=>?_);exact ⟨_,rfl,.inl ⟨rfl,_,SqL.of g1''⟩,_,rfl,p1,done,.ref a,rfl,rfl,g1'',am (by lia),m',h1,h2⟩
   ·rw [AW (by decide +kernel)];refine bt ?_;refine ⟨_,rfl,a,_,0,_,rfl,rfl,SqT.of ha4',bx,rfl,_,rfl,?_⟩;rw [dJ,AO rfl];refine bL ?_;refine ⟨_,rfl,_,rfl,a,p1,ks,done,dk,rfl,rfl,ha4,SqL.of g1'',hk'',_,rfl,?_⟩;refine goal (λm' h1 h2=>⟨m',h1,h2⟩) (λm' h1 h2=>?_);exact ⟨_,rfl,.inl ⟨rfl,_,SqL.of g1''⟩,_,rfl,p1,done,.ref a,rfl,rfl,g1'',am (by lia),m',h1,h2⟩
  | @num a r _ rest' _ ha _ t=>
   rw [AM]at hl ⊢;have ha4:=sm4 _ _ ha;refine ⟨_,rfl,a,_,0,_,rfl,rfl,SqT.of ha4,bx,rfl,_,rfl,?_⟩;rw [dJ,AW (by decide +kernel)];refine bt ⟨_,rfl,a,_,0,_,rfl,rfl,SqT.of ha4,bx,rfl,_,rfl,?_⟩;rw [dJ,AW (by decide +kernel)];refine bt ⟨_,rfl,a,_,0,_,rfl,rfl,SqT.of ha4,bx,rfl,_,rfl,?_⟩;rw [dJ,AO rfl];refine bt ?_;exact ⟨_,Cw _,p4,vs,done,rest',dk,rs',_,rfl,n14,g1'',g4,sm4,t,hk'',hdd,by lia,rfl⟩
  | @inn a k r _ rest' _ ha hi hk3 hr3 t=>
   rw [AM]at hl ⊢;have ha4:=sm4 _ _ ha;have k1: ¬ k="own":=λe=>by rw [e,eE]at hi;cases hi
   have k2: ¬ k="part":=λe=>by rw [e,dE]at hi;cases hi
   have k3: ¬ k="num":=λe=>by rw [e,fZ]at hi;cases hi
   refine ⟨_,rfl,a,_,0,_,rfl,rfl,SqT.of ha4,bx,rfl,_,rfl,?_⟩;rw [dJ,AW k1];refine bt ⟨_,rfl,a,_,0,_,rfl,rfl,SqT.of ha4,bx,rfl,_,rfl,?_⟩;rw [dJ,AW k2];refine bt ⟨_,rfl,a,_,0,_,rfl,rfl,SqT.of ha4,bx,rfl,_,rfl,?_⟩;rw [dJ,AW k3];refine bL ?_;refine ⟨_,rfl,1,rfl,a,_,rfl,SqT.of ha4,rZ _ _,λp5 h5=>?_⟩;rw [wY];have s5:=al h5 (.tup r);have g5:(upd H4 p5 (.tup r)) p5=some (.tup r):=ad;have g15:=s5 _ _ g1'';have g45:=s5 _ _ g4;have hk5:KsOf (upd H4 p5 (.tup r)) done dk:=hk''.mono λb xs h=>s5 _ _ h;have sm5:=sm4.trans s5;generalize upd H4 p5 (.tup r)=H5 at s5 g5 g15 g45 hk5 sm5 ⊢;refine ⟨p5,r,rfl,.inr (SqT.of g5),λp6 h6=>?_⟩;have s6:=al h6 (.lst r);have g6:(upd H5 p6 (.lst r)) p6=some (.lst r):=ad;have g16:=s6 _ _ g15;have g46:=s6 _ _ g45;have hk6:KsOf (upd H5 p6 (.lst r)) done dk:=hk5.mono λb xs h=>s6 _ _ h;have sm6:=sm5.trans s6;generalize upd H5 p6 (.lst r)=H6 at s6 g6 g16 g46 hk6 sm6 ⊢;have hlen:=t.len;rw [AI]at hlen;refine ⟨_,rfl,p6,p4,r,vs,rfl,rfl,g6,g46,Bj (am (by lia)),λp7 h7=>?_⟩;have s7:=al h7 (.lst (r++vs));have n17:p1≠p7:=ai g16 h7;exact ⟨_,Cw _,p7,r++vs,done,rest',dk,rs',_,rfl,n17,s7 _ _ g16,ad,sm6.trans s7,t,hk6.mono λb xs h=>s7 _ _ h,hdd,by lia,rfl⟩
def StH (rs:List Rul) (kv:List (KK×V)) (d sd md:Addr) (HB H':Hp) (gr:Bool) (L:List Rul):Prop:=
 ∃ skv mkv Z M,Rd H' d (.dT kv)/\H' sd=some (.dT skv)/\H' md=some (.dT mkv)/\Kp d HB H'/\skv.map (·.1)=L.map aS/\DZ skv Z/\Stt rs L Z/\mkv.length<=L.length/\Mdt rs Z M/\(gr=true-> ∃ k n,Z k=some n/\400<n)/\(gr=false->(∀ k n,Z k=some n->n<=400)/\DM H' mkv M)
theorem sC {rs:List Rul} {kv:List (KK×V)} {d sd md:Addr} {HB H':Hp} {gr:Bool} {L:List Rul} (h:StH rs kv d sd md HB H' gr L) (nds:sd≠d) (ndm:md≠d):
  (H' d=some (.dT kv)/\ ∀ o,StH rs kv d sd md HB (upd H' d (.frz o (.dT kv))) gr L)\/ ∃ o,H' d=some (.frz o (.dT kv)):=by
 obtain ⟨skv,mkv,Z,M,h1,h2,h3,h4,h5,h6,h7,h8,hm,hg,h9⟩:=id h;rcases h1 with h1 | ⟨o,h1⟩
 ·refine .inl ⟨h1,λo=>⟨skv,mkv,Z,M,.inr ⟨o,ad⟩,by rw [ah nds];exact h2,by rw [ah ndm];exact h3,λb u e n=>by rw [ah n];exact h4 b u e n,h5,h6,h7,h8,hm,hg,λe=>⟨(h9 e).1,(h9 e).2.mono λb xs e=>?_⟩⟩⟩;rw [ah (λz=>by rw [z,h1]at e;cases e)];exact e
 ·exact .inr ⟨o,h1⟩
def iK:Sp:=λvs H Q _=> ∃ d kv rs,vs=[.ref d]/\H d=some (.dT kv)/\Paired (KvL H) rs kv/\RsOk rs/\RsS rs/\RsL rs/\ ∀ (p md:Addr) (wd:Str) mkv H',Kp d H H'->H' p=some (.tup [.str wd,.ref md])->H' md=some (.dT mkv)->
 ((wd="tangled"/\ ¬ Acy rs)\/(Acy rs/\ ∃ U:KK->Fm,(∀ r∈rs,Unf rs r.fm (U (ao r)))/\((wd="great"/\ ∃ r∈rs,400< (U (ao r)).size)\/(wd="made"/\ ∀ r∈rs,(U (ao r)).size<=400))))->Q (.ref p) H'
def Rdy (rs L0 L:List Rul) (j:Nat):Prop:= ∀ i r,i<j->rs[i]? =some r->(∀ k∈r.fm.pks,k∈rs.map ao->k∈L0.map ao)->ao r∈L.map ao
theorem Rdy.snoc {rs L0 L:List Rul} {j:Nat} {r:Rul} (h:Rdy rs L0 L j) (hr:rs[j]? =some r) (q:(∀ k∈r.fm.pks,k∈rs.map ao->k∈L0.map ao)->ao r∈L.map ao):Rdy rs L0 L (j+1):=λi r' hi hr' hk=>by
 by_cases c:i=j
 ·rw [c,hr]at hr';cases hr';exact q hk
 ·exact h i r' (by lia) hr' hk
theorem Rdy.more {rs L0 L L':List Rul} {j:Nat} (h:Rdy rs L0 L j) (hs: ∀ k∈L.map ao,k∈L'.map ao):Rdy rs L0 L' j:=λi r hi hr hk=>hs _ (h i r hi hr hk)
theorem lB {rs:List Rul} (hL:RsL rs) {L:List Rul} (hs: ∀ r∈L,r∈rs) {r:Rul} (hr:r∈rs) (h:aS r∈L.map aS):ao r∈L.map ao:=by
 obtain ⟨x,hx,e⟩:=AK.mp h;exact AK.mpr ⟨x,hx,by rw [<- cu hL (hs x hx),e,cu hL hr]⟩
theorem ia {rs:List Rul} (hL:RsL rs) {L:List Rul} (hs: ∀ r∈L,r∈rs) {r:Rul} (hr:r∈rs) (h:ao r∈L.map ao):aS r∈L.map aS:=by
 obtain ⟨x,hx,e⟩:=AK.mp h;refine AK.mpr ⟨x,hx,lU (uT _ _) (uT _ _) ?_⟩;show l2p (aS x)=l2p (aS r);rw [cu hL (hs x hx),cu hL hr,e]
theorem ua {rs L0 L1:List Rul} {n i:Nat} (ok:RsOk rs) (hn:n=rs.length) (hA:Acy rs) (h:i<=L0.length\/n<=L0.length) (hr:Rdy rs L0 (L0++L1) rs.length) (nd:((L0++L1).map aS).Nodup):i+1<=(L0++L1).length\/n<=(L0++L1).length:=by
 rw [AI];by_cases c:n<=L0.length
 ·exact .inr (by lia)
 by_cases hall: ∀ k∈rs.map ao,k∈L0.map ao
 ·have:=cF (a:=rs.map ao) (b:=L0.map ao) ok.nd hall;rw [AD,AD]at this;lia
 ·have: ∃ k0,k0∈rs.map ao/\k0∉L0.map ao:=C1 λhc=>hall λk hk=>C1 λh3=>hc ⟨k,hk,h3⟩;obtain ⟨k0,h0,hn0⟩:=this;obtain ⟨r,hrm,hrS,hrd⟩:=vD ok hA h0 hn0;obtain ⟨j,hj⟩:=Ba hrm;have:=hr j r (AF.mp hj).1 hj hrd;rw [Be,AT]at this;rcases this with z | z
  ·exact absurd z hrS
  ·obtain ⟨x,hx,_⟩:=AK.mp z;have:=List.length_pos_of_mem hx;exact .inl (by lia)
theorem ye {H:Hp} {rs:List Rul} {kv:List (KK×V)} (nd:(rs.map aS).Nodup) (h:Paired (KvL H) rs kv) {j:Nat} {k:KK} (hk:(kv.map (·.1))[j]? =some k): ∃ r,rs[j]? =some r/\k=aS r/\ ∃ u,aW kv (aS r)=some u/\Rep H r.fm u:=by
 rw [AS]at hk;obtain ⟨e,he,rfl⟩:=Bw.mp hk;obtain ⟨r,hr,h1,h2⟩:=aH h he;obtain ⟨k,u⟩:=e;have h1:k=aS r:=h1;subst h1;exact ⟨r,hr,rfl,u,fN (by rw [ic h];exact nd) he,h2⟩
theorem vQ {rs L:List Rul} {Z:KK->Option Nat} (ok:RsOk rs) (h:Stt rs L Z):L.length<=12:=by
 have:=cF (a:=L.map aS) (b:=rs.map aS) h.nd λx hx=>by
  obtain ⟨r',h1,rfl⟩:=AK.mp hx;exact AK.mpr ⟨r',h.sub r' h1,rfl⟩
 rw [AD,AD]at this;have:=ok.few;lia
theorem uQ {rs L:List Rul} {Z:KK->Option Nat} {kv skv:List (KK×V)} (hL:RsL rs) (hk:kv.map (·.1)=rs.map aS) (hs:skv.map (·.1)=L.map aS) (hS:Stt rs L Z) {r:Rul} (hw:r.fm.wf)
  (h:(dd [] r.fm.rdk).filter (λk=>(aW kv k).isSome&& !(aW skv k).isSome)=[]): ∀ k∈r.fm.pks,k∈rs.map ao->(Z k).isSome=true:=by
 intro k hk1 hk2;rw [<- dh]at hk1;obtain ⟨ks,hks,rfl⟩:=AK.mp hk1;obtain ⟨r',hr',e⟩:=AK.mp hk2;have e2:ks=aS r':=lU (gB hw ks hks) (uT _ _) (by rw [<- e];exact (cu hL hr').symm);subst e2;have hm:aS r'∈dd [] r.fm.rdk:=dd_iff.mpr (.inr hks);have h1:(aW kv (aS r')).isSome=true:=by
  cases hv:aW kv (aS r')with
  | none=>
   have:=gM hv;rw [hk]at this;exact absurd (AK.mpr ⟨r',hr',rfl⟩) this
  | some _=>rfl
 have h2:(aW skv (aS r')).isSome=true:=by
  cases hv:(aW skv (aS r')).isSome with
  | true=>rfl
  | false=>
   have:aS r'∈(dd [] r.fm.rdk).filter (λk=>(aW kv k).isSome&& !(aW skv k).isSome):=BL.mpr ⟨hm,by rw [h1,hv];rfl⟩;rw [h]at this;cases this
 rw [hS.z];cases hv:aW skv (aS r')with
 | none=>rw [hv]at h2;cases h2
 | some u=>
  have:=gN hv;rw [hs]at this;obtain ⟨x,hx,ex⟩:=AK.mp this;refine AK.mpr ⟨x,hx,?_⟩;rw [<- cu hL (hS.sub x hx),ex]
theorem qQ {rs L:List Rul} {Z:KK->Option Nat} {kv skv:List (KK×V)} (hL:RsL rs) (hk:kv.map (·.1)=rs.map aS) (hs:skv.map (·.1)=L.map aS) (hS:Stt rs L Z) {r:Rul} (hw:r.fm.wf)
  (h: ∀ k∈r.fm.pks,k∈rs.map ao->k∈L.map ao):(dd [] r.fm.rdk).filter (λk=>(aW kv k).isSome&& !(aW skv k).isSome)=[]:=by
 rw [Ep];intro ks hks hc;rw [Bb]at hc;obtain ⟨u,hu⟩:=DQ.mp hc.1;have h1:=gN hu;rw [hk]at h1;obtain ⟨r',hr',rfl⟩:=AK.mp h1;have h2:aS r'∈r.fm.rdk:=(dd_iff.mp hks).elim (λz=>by cases z) id;have h3:ao r'∈r.fm.pks:=by rw [<- dh];exact AK.mpr ⟨_,h2,cu hL hr'⟩
 have h4:=ia hL hS.sub hr' (h _ h3 (AK.mpr ⟨r',hr',rfl⟩));rw [<- hs]at h4;cases hv:aW skv (aS r')with
 | none=>exact gM hv h4
 | some _=>rw [hv]at hc;exact absurd hc.2 (by simp)
theorem wJ {H:Hp} {ys:List V} {kss:List KK} (h:KsOf H ys kss):Paired (λks y=> ∃ b,y=V.ref b/\H b=some (.tup (List.map kV ks))) kss ys:=by
 induction h with
 | nil=>exact .nil
 | cons a _ ih=>exact .cons a ih
abbrev NSt:List Str:=["told","sizes","made","great","turn","target","waits"]
theorem scStraightT:av NSt ["told"] (ak eP):=fsc
theorem lM (F:Fun K "_law_straight_told" "_law_straight_told" eP f fd) (G:Gb mg)
  (GR:Cl P w K mg base CX0 1 f2 fd2 ["formula"] iW "_law_reads")
  (GZ:Cl P w K mg base CX0 16 f3 fd3 ["formula","sizes"] (fO 15) "_law_size_with")
  (GP:Cl P w K mg base CX0 16 f4 fd4 ["formula","made"] (fP 15) "_law_put_in"):
  a8 P w K mg base CX0 17 f fd ["told"] iK:=by
 refine F.ok scStraightT (λvs H Q E h=>?_) (λcdv A outer s H vs Q E hr h=>?_)
 ·obtain ⟨d,kv,rs,rfl,_⟩:=h;rfl
 obtain ⟨d,kv,rs,rfl,gd,hP,hok,hss,hL,q⟩:=h;have h12:=hok.few;have hu:=da hr;have hr1:=hr.mono (show 1<=16 by decide);have hnd:=qk hok hL;have hkeys:=ic hP;have lkv:rs.length=kv.length:=AZ hP;refine ⟨_,af (de (i:=1) scStraightT.nd rfl (Or.inr rfl) cq)
  (af (psz 2 scStraightT.nd cq)
  (af (psz 3 scStraightT.nd gY)
  (af (bi A5 rfl (bz rfl G.range (aa (au iG rfl G.len Bd (aa (pv 0) ae)) ae)) (pgz 4 scStraightT.nd)
   (aj (bi A5 rfl (jr (pv 0)) (pgz 5 scStraightT.nd)
    (af (mT (i:=6) (sc0:=ak eP) (N0:=NSt) (ys:=["told","sizes"]) (fr:=[0,1]) rfl scStraightT.nd rfl (Or.inl rfl) (cA (pcl GR hr1 (aa (bK hu (pv 0) (pv 5) (λ_ _=>rfl)) ae))) rfl rfl
      cok
      (λC s H ex=>PW.pt (fE (lI (ux hu (pv 0) (pv 1))) (dM (lI (ki hu (pv 0) (pv 2)))))) (λC s H ex=>pv 0))
    (aj (bc (PW.pt (fE (lI (ki hu (pv 5) (pv 1))) (dM (ax (oN hr.units0) (pv 6) (bd ae) (aL _)))))
     (af (cz hu (pv 1) (pv 5) (pcl GZ hr (aa (bK hu (pv 0) (pv 5) (λ_ _=>rfl)) (aa (pv 1) ae))) rfl)
     (af (bc (ax gj (bK hu (pv 1) (pv 5) (λ_ _=>rfl)) ag (aL _)) (aj (psz 3 scStraightT.nd gY)) aK)
     (aj (bc (jp (cR (pv 3))) (aj (cz hu (pv 2) (pv 5) (pcl GP hr (aa (bK hu (pv 0) (pv 5) (λ_ _=>rfl)) (aa (pv 2) ae))) rfl)) aK)))) aK))))))
  (af (bc (ax gi (au iG rfl G.len Bd (aa (pv 1) ae)) (au iG rfl G.len Bd (aa (pv 0) ae)) (aL _)) (aj (ay (aF (aa aJ (aa (pv 2) ae))))) aK)
  (aj (ay (aF (aa (ar (r:=cC K) aY (bd (pac aJ (pac aJ ae))) (aU eJ rfl G.int (by decide +kernel) (aa (pv 3) ae)) (λ_ _=>rfl)) (aa (pv 2) ae))))))))),?_⟩
 refine λsd hsd=>?_;have nds:sd≠d:=λz=>by rw [z,gd]at hsd;cases hsd
 obtain ⟨H0,eW,s0,g0⟩:=nw hsd (.dT []);rw [eW];refine λmd hmd=>?_;have hmd0:H md=none:=s0.free hmd;have ndm:md≠d:=λz=>by rw [z,gd]at hmd0;cases hmd0
 have nsm:sd≠md:=ai g0 hmd;obtain ⟨H1,eW,s1,g1⟩:=nw hmd (.dT []);rw [eW];have S1:=s0.trans s1;have hS1:StH rs kv d sd md H H1 false []:=⟨[],[],λ_=>none,λ_=>none,.inl (S1 _ _ gd),s1 _ _ g0,g1,Kp.refl.same S1,rfl,yx,vP rs,AJ _,wE rs,λe=>(by cases e),λ_=>⟨λ_ _ e=>(by cases e),yz H1⟩⟩;refine ⟨_,rfl,d,kv,rfl,.inl (S1 _ _ gd),_,rfl,by lia,by lia,?_⟩;refine cW (λi σ H'=> ∃ gr o4 o5 o6 L,σ=[some (.ref d),some (.ref sd),some (.ref md),some (.bl gr),o4,o5,o6]/\StH rs kv d sd md H H' gr L/\(Acy rs->i<=L.length\/rs.length<=L.length)) ⟨false,none,none,none,[],rfl,hS1,λ_=>.inl (A6 _)⟩ ?_ ?_
 ·rintro i σ H2 hi ⟨gr,o4,o5,o6,L0,rfl,hS2,hpr⟩;refine ⟨_,rfl,d,kv,rfl,?_⟩;rcases sC hS2 nds ndm with ⟨h1,h2⟩ | ⟨o,h1⟩;refine .inl ⟨h1,λo=>?_⟩;have gd3:(upd H2 d (.frz o (.dT kv))) d=some (.frz o (.dT kv)):=ad;have hS3:=h2 o;generalize upd H2 d (.frz o (.dT kv))=H3 at gd3 hS3 ⊢;rotate_left
  refine .inr ⟨o,h1,?_⟩;have gd3:=h1;have hS3:=hS2;generalize H2=H3 at gd3 hS3 ⊢;all_goals
   refine kD (kvs:=kv) (λj σ H'=> ∃ gr o5 o6 L1,σ=[some (.ref d),some (.ref sd),some (.ref md),some (.bl gr),some (.int (0+ (i:Int))),o5,o6]/\H' d=some (.frz o (.dT kv))/\StH rs kv d sd md H H' gr (L0++L1)/\Rdy rs L0 (L0++L1) j) ⟨gr,o5,o6,[],rfl,gd3,by rw [Bh];exact hS3,λi r h=>absurd h (Fx _)⟩ (λj σ H' _ h=>by obtain ⟨_,_,_,_,_,h,_⟩:=h;exact h) ?_ ?_
   ·rintro j k b σ H4 hkj hb ⟨gr,o5,o6,L1,rfl,gd4,⟨skv,mkv,Z,M,_,gs4,gm4,k4,hsk,hZ,hS,hml,hMd,hgt,hgr⟩,hrdy⟩;generalize hLL:L0++L1=L at hsk hS hml hrdy;obtain ⟨r,hrj,rfl,u,hval,hRu⟩:=ye hnd hP hkj;have hrm:=AH hrj;obtain ⟨hwf,_⟩:=hok.fm r hrm;have hsz:=hss r hrm;have hpl:=hL r hrm;have hL12:=vQ hok hS;have lsk:skv.length=L.length:=by have:=congrArg List.length hsk;rw [AD,AD]at this;exact this
    have tk4:TK H H4:=λb xs h=>k4 _ _ h λz=>by rw [z,gd]at h;cases h
    have hR4:=hRu.mono tk4;obtain ⟨out,hTw,hol⟩:=Tw.of1 hR4 hwf;refine ⟨_,rfl,_,rfl,d,u,rfl,(by rw [<- hval];exact .inr (.inl ⟨kv,aS r,b,.inr ⟨o,gd4⟩,rfl,hb,rfl⟩)),u,out,r.fm.rdk,rfl,hTw,by lia,λrl ys H5 hrl s5 grl hys=>⟨rl,rfl,⟨_,SqL.of grl⟩,?_⟩⟩;have lys:ys.length<=15:=by
     have h1:ys.length=(dd [] r.fm.rdk).length:=AZ hys;have h2:=pH (rs:=r.fm.rdk) (acc:=[]);have h3:=eQ r.fm;have h2:(dd [] r.fm.rdk).length<=0+r.fm.rdk.length:=h2;lia
    refine qH (by lia) (wJ hys) (lY grl) (lX grl) (pi grl) (λk=>(aW kv k).isSome&& !(aW skv k).isSome) (λ_ _ _=>True) (λ_ h=>h) ?_ ?_ ?_
    ·rintro ks y H6 kk _ ⟨b',rfl,hb'⟩ s6 hk;have S6:=s5.trans s6;refine ⟨_,rfl,_,rfl,d,aW kv ks,rfl,.inr (.inl ⟨kv,ks,b',.inr ⟨o,S6 _ _ gd4⟩,rfl,s6 _ _ hb',rfl⟩),_,rfl,?_⟩;have hk:=hk H6 (Same.refl _);cases hv:(aW kv ks).isSome with
     | false=>
      simp only [hv,Bool.false_and]at hk;exact bt hk
     | true=>
      simp only [hv,Bool.true_and]at hk;exact bL ⟨_,rfl,_,rfl,sd,aW skv ks,rfl,DGet.t (S6 _ _ gs4) (s6 _ _ hb'),_,rfl,hk⟩
    ·rintro ks y H6 kk _ ⟨b',rfl,hb'⟩ _ s6 hk;exact ⟨_,rfl,hk _ _ (Same.refl _) trivial⟩
    intro wl zs H6 hwl s6 gwl hzs;have S6:=s5.trans s6;have gd6:=S6 _ _ gd4;have gs6:=S6 _ _ gs4;have gm6:=S6 _ _ gm4;have hb6:=S6 _ _ hb;have lzs:=AZ hzs;have keep: ∀ H7,Same H6 H7->StH rs kv d sd md H H7 gr L:=λH7 s7=>by
     have S7:=S6.trans s7;exact ⟨skv,mkv,Z,M,.inr ⟨o,S7 _ _ gd4⟩,S7 _ _ gs4,S7 _ _ gm4,k4.same S7,hsk,hZ,hS,hml,hMd,hgt,λe=>⟨(hgr e).1,(hgr e).2.mono (aq S7)⟩⟩
    refine ⟨_,rfl,_,rfl,sd,aW skv (aS r),rfl,DGet.t gs6 hb6,_,rfl,?_⟩;cases hv:aW skv (aS r)with
    | some x=>exact bt (bt ⟨gr,_,_,L1,rfl,gd6,by rw [hLL];exact keep H6 (Same.refl _),by rw [hLL];exact hrdy.snoc hrj λ_=>lB hL hS.sub hrm (by rw [<- hsk];exact gN hv)⟩)
    | none=>
    refine bL ⟨_,rfl,iq,λp7 hp7=>?_⟩;obtain ⟨H7,eW,s7,g7⟩:=nw hp7 (.lst []);rw [eW];refine ⟨wl,p7,zs,rfl,rfl,SqL.of (s7 _ _ gwl),SqL.of g7,_,rfl,?_⟩;cases zs with
    | cons z0 zs=>
     refine bt ⟨gr,_,_,L1,rfl,s7 _ _ gd6,by rw [hLL];exact keep H7 s7,?_⟩;rw [hLL];refine hrdy.snoc hrj λhk=>?_;have:=qQ hL hkeys hsk hS hwf λk h1 h2=>by
      have:=hk k h1 h2;rw [<- hLL,Be];exact Bo _ this
     rw [this]at lzs;cases lzs
    | nil=>
    have hno:=uQ hL hkeys hsk hS hwf (B5 lzs);have hnL:aS r∉L.map aS:=by rw [<- hsk];exact gM hv
    have S7:=S6.trans s7;have gd7:=S7 _ _ gd4;have gs7:=S7 _ _ gs4;have hb7:=S7 _ _ hb;refine bL ⟨_,rfl,_,rfl,d,u,rfl,(by rw [<- hval];exact .inr (.inl ⟨kv,aS r,b,.inr ⟨o,gd7⟩,rfl,hb7,rfl⟩)),_,rfl,u,sd,r.fm,skv,Z,rfl,hR4.mono (aq S7),hwf,hsz,gs7,hZ,λH8 s8=>?_⟩;have S8:=S7.trans s8;have gs8:=S8 _ _ gs4;refine ⟨_,rfl,_,rfl,sd,_,rfl,DPut.t (k:=aS r) gs8 (S8 _ _ hb) (am (by lia)),?_⟩;have gd9:(upd H8 sd (.dT (bw skv (aS r) (.int ((r.fm.szw Z:Nat):Int))))) d=some (.frz o (.dT kv)):=by rw [ah (Bg nds)];exact S8 _ _ gd4
    have gs9:(upd H8 sd (.dT (bw skv (aS r) (.int ((r.fm.szw Z:Nat):Int))))) sd=some (.dT (bw skv (aS r) (.int ((r.fm.szw Z:Nat):Int)))):=ad;have gm9:(upd H8 sd (.dT (bw skv (aS r) (.int ((r.fm.szw Z:Nat):Int))))) md=some (.dT mkv):=by rw [ah (Bg nsm)];exact S8 _ _ gm4
    have k9:Kp d H (upd H8 sd (.dT (bw skv (aS r) (.int ((r.fm.szw Z:Nat):Int))))):=λb u h n=>by rw [ah (ai h hsd)];exact S8 _ _ (k4 _ _ h n)
    have tk9:TK H4 (upd H8 sd (.dT (bw skv (aS r) (.int ((r.fm.szw Z:Nat):Int))))):=λb xs h=>by rw [ah (λz=>by rw [z,gs4]at h;cases h)];exact S8 _ _ h
    generalize upd H8 sd (.dT (bw skv (aS r) (.int ((r.fm.szw Z:Nat):Int))))=H9 at gd9 gs9 gm9 k9 tk9 ⊢;have hb9:=tk9 _ _ hb;have hv9:aW (bw skv (aS r) (.int ((r.fm.szw Z:Nat):Int))) (aS r)=some (.int ((r.fm.szw Z:Nat):Int)):=by rw [cI,AX rfl]
    have hsk9:(bw skv (aS r) (.int ((r.fm.szw Z:Nat):Int))).map (·.1)=(L++[r]).map aS:=by
     rw [dw (by rw [hsk];exact hnL),Be,Be,hsk];rfl
    have hS9:=vO hS hrm hnL hno (r.fm.szw Z);have hZ9:=yw hZ hpl (r.fm.szw Z);have hM9:=wD hok hMd hrm hno;have hrd9:Rdy rs L0 (L0++(L1++[r])) (j+1):=by
     rw [<- BD,hLL];refine (hrdy.more λk hk=>by rw [Be];exact Bo _ hk).snoc hrj λ_=>?_;rw [Be];exact AV _ (AE.mpr rfl)
    have grt:(400<r.fm.szw Z\/gr=true)-> ∀ o5 o6,∃ gr' o5' o6' L1',[some (V.ref d),some (.ref sd),some (.ref md),some (.bl true),some (.int (0+ (i:Int))),o5,o6]=[some (V.ref d),some (.ref sd),some (.ref md),some (.bl gr'),some (.int (0+ (i:Int))),o5',o6']/\H9 d=some (.frz o (.dT kv))/\StH rs kv d sd md H H9 gr' (L0++L1')/\Rdy rs L0 (L0++L1') (j+1):=λhg o5 o6=>by
     refine ⟨true,o5,o6,L1++[r],rfl,gd9,?_,hrd9⟩;rw [<- BD,hLL];refine ⟨_,mkv,_,_,.inr ⟨o,gd9⟩,gs9,gm9,k9,hsk9,hZ9,hS9,by rw [AI];lia,hM9,λ_=>?_,λe=>(by cases e)⟩;by_cases c:400<r.fm.szw Z
     ·exact ⟨ao r,_,AX rfl,c⟩
     ·rcases hg with hg | hg
      ·exact absurd hg c
      ·obtain ⟨k,n,h1,h2⟩:=hgt hg;refine ⟨k,n,?_,h2⟩;unfold gV;rw [AQ λz=>?_]
       ·exact h1
       ·have hkL:=(hS.z k).mp (by rw [h1];rfl);rw [z]at hkL;exact hnL (ia hL hS.sub hrm hkL)
    refine ⟨_,rfl,_,rfl,sd,_,rfl,(by rw [<- hv9];exact DGet.t gs9 hb9),_,400,rfl,rfl,_,rfl,?_⟩;by_cases c4:(400:Int) < ((r.fm.szw Z:Nat):Int)
    ·rw [AO (show ((r.fm.szw Z:Nat):Int) >400 from c4)];exact bL ⟨_,rfl,_,rfl,bt (grt (.inl (by lia)) _ _)⟩
    ·rw [AW (show ¬ ((r.fm.szw Z:Nat):Int) >400 from c4)];refine bt ⟨_,rfl,_,rfl,?_⟩;cases gr with
     | true=>exact bt (grt (.inr rfl) _ _)
     | false=>
      obtain ⟨hle,hD⟩:=hgr rfl;refine bL ⟨_,rfl,_,rfl,d,u,rfl,(by rw [<- hval];exact .inr (.inl ⟨kv,aS r,b,.inr ⟨o,gd9⟩,rfl,hb9,rfl⟩)),_,rfl,u,md,r.fm,mkv,M,rfl,hR4.mono tk9,hwf,hsz,gm9,hD.mono tk9,λu2 HA sA hA=>?_⟩;have gmA:=sA _ _ gm9;refine ⟨_,rfl,_,rfl,md,_,rfl,DPut.t (k:=aS r) gmA (sA _ _ hb9) (am (by lia)),?_⟩;have tkB:TK HA (upd HA md (.dT (bw mkv (aS r) u2))):=λb xs h=>by rw [ah (λz=>by rw [z,gmA]at h;cases h)];exact h
      have gdB:(upd HA md (.dT (bw mkv (aS r) u2))) d=some (.frz o (.dT kv)):=by rw [ah (Bg ndm)];exact sA _ _ gd9
      have hlp:=bI mkv (aS r) u2;refine ⟨false,_,_,L1++[r],rfl,gdB,?_,hrd9⟩;rw [<- BD,hLL];refine ⟨_,_,_,gV M (ao r) (r.fm.sub M),.inr ⟨o,gdB⟩,by rw [ah nsm];exact sA _ _ gs9,ad,λb u h n=>by rw [ah (ai h hmd0)];exact sA _ _ (k9 _ _ h n),hsk9,hZ9,hS9,by rw [AI];show _<=L.length+1;lia,hM9,λe=>(by cases e),λ_=>⟨λk n e=>?_,yy ((hD.mono tk9).mono ((aq sA).trans tkB)) hpl (hA.mono tkB)⟩⟩;unfold gV at e;by_cases c:k=ao r
      ·rw [AX c]at e;cases e;lia
      ·rw [AQ c]at e;exact hle k n e
   ·rintro σ H4 ⟨gr,o5,o6,L1,rfl,gd4,hS4,hrd4⟩;refine ⟨gr,_,o5,o6,L0++L1,rfl,hS4,λhA=>?_⟩;obtain ⟨_,_,_,_,_,_,_,_,_,_,hS,_⟩:=id hS4;exact ua hok rfl hA (hpr hA) (by rw [lkv];exact hrd4) hS.nd
 ·rintro σ H2 ⟨gr,o4,o5,o6,L,rfl,⟨skv,mkv,Z,M,gd2,gs2,gm2,k2,hsk,hZ,hS,hml,hMd,hgt,hgr⟩,hpr⟩;have lsk:skv.length=L.length:=by have:=congrArg List.length hsk;rw [AD,AD]at this;exact this
  refine ⟨_,rfl,sd,skv,rfl,.inl gs2,_,rfl,d,kv,rfl,gd2,_,_,rfl,rfl,_,rfl,?_⟩;by_cases c:(skv.length:Int) < (kv.length:Int)
  ·rw [AO c];refine bL ⟨_,rfl,cB,λp hp=>?_⟩;have s3:=al hp (.tup [.str "tangled",.ref md]);exact q p md "tangled" mkv _ (k2.same s3) ad (s3 _ _ gm2) (.inl ⟨rfl,λhA=>by have:=hpr hA;lia⟩)
  ·rw [AW c];refine bt ⟨cB,λp3 hp3=>?_⟩;obtain ⟨H3,eW,s3,g3⟩:=nw hp3 (.lst [.str "made",.str "great"]);rw [eW];have hA:=vR hok hL hS (by lia);obtain ⟨U,hU,hMU⟩:=wF hok hL hS hMd (by lia);have hZU: ∀ r∈rs,Z (ao r)=some (U (ao r)).size:=λr hr=>by rw [hMd.zm,hMU r hr];rfl
   cases gr with
   | true=>
    refine ⟨_,rfl,.inr ⟨true,rfl,p3,_,1,.str "great",rfl,rfl,SqL.of g3,aZ (j:=1) rfl,_,rfl,cB,λp hp=>?_⟩⟩;have s4:=al hp (.tup [.str "great",.ref md]);obtain ⟨k,n,h1,h2⟩:=hgt rfl;obtain ⟨r,hr,rfl⟩:=AK.mp ((hS.z k).mp (by rw [h1];rfl));have hrm:=hS.sub r hr;rw [hZU r hrm]at h1;exact q p md "great" mkv _ ((k2.same s3).same s4) ad (s4 _ _ (s3 _ _ gm2)) (.inr ⟨hA,U,hU,.inl ⟨rfl,r,hrm,by rw [A0 h1];exact h2⟩⟩)
   | false=>
    refine ⟨_,rfl,.inr ⟨false,rfl,p3,_,0,.str "made",rfl,rfl,SqL.of g3,bx,_,rfl,cB,λp hp=>?_⟩⟩;have s4:=al hp (.tup [.str "made",.ref md]);exact q p md "made" mkv _ ((k2.same s3).same s4) ad (s4 _ _ (s3 _ _ gm2)) (.inr ⟨hA,U,hU,.inr ⟨rfl,λr hr=>(hgr rfl).1 _ _ (hZU r hr)⟩⟩)
abbrev Un0 (rs:List Rul) (U:KK->Fm):Prop:= ∀ r∈rs,Unf rs r.fm (U (ao r))
open Classical in
noncomputable def iT (fr:Frm):KK->Fm:=if h: ∃ U,Un0 fr.rules U then h.choose else λ_=>.num 0
theorem vH {fr:Frm} {U:KK->Fm} (h:Un0 fr.rules U):Un0 fr.rules (iT fr)/\ ∀ r∈fr.rules,iT fr (ao r)=U (ao r):=by
 have hx: ∃ U,Un0 fr.rules U:=⟨U,h⟩;have h1:Un0 fr.rules (iT fr):=by
  unfold iT;rw [dif_pos hx];exact hx.choose_spec
 exact ⟨h1,λr hr=>(h1 r hr).det (h r hr)⟩
def lZ (fr:Frm):Prop:= ∃ r∈fr.rules,400< (iT fr (ao r)).size
def vb (fr:Frm):Prop:= ∀ r∈fr.rules,(iT fr (ao r)).size<=400
def Due (bk:Bk) (wd:Str) (x:V):Prop:=
 (wd="tangled"/\ ∃ i fr,bk.forms[i]? =some fr/\(∀ g∈bk.forms.take i,Acy g.rules)/\ ¬ Acy fr.rules/\x=.str fr.name)\/
 ((∀ fr∈bk.forms,Acy fr.rules/\Un0 fr.rules (iT fr))/\((wd="great"/\ ∃ fr∈bk.forms,lZ fr)\/(wd="made"/\ ∀ fr∈bk.forms,vb fr)))
def iL:Sp:=λvs H Q _=> ∃ bv bk,vs=[bv]/\RepB H bk bv/\bk.forms.length<=12/\(∀ fr∈bk.forms,RsOk fr.rules/\RsS fr.rules/\RsL fr.rules)/\ ∀ (p:Addr) (wd:Str) (x:V) H',Same H H'->H' p=some (.tup [.str wd,x])->Due bk wd x->Q (.ref p) H'
theorem fj (k x:Str):decide (V.str k=V.str x)=decide (k=x):=by
 by_cases h:k=x
 ·subst h;rw [AO rfl,AO rfl]
 ·rw [AW h,AW λe=>h (V.str.inj e)]
theorem uY {c:Bool} {A:Prop} {D:dW} {σ:St} {H:Hp} (i:Nat) (R:V->Hp->Prop) (v:V) (e:σ.set i (some v)=σ) (hb:c=false->R v H) (h: ∀ v H',R v H'->D.nx (σ.set i (some v)) H') (ha:c=true->(∀ v H',R v H'->D.nx (σ.set i (some v)) H')->A):if c=true then A else xf D σ H:=by
 cases c with
 | false=>exact bt (e▸h _ _ (hb rfl))
 | true=>exact bL (ha rfl h)
abbrev NSl:List Str:=["book","forms","word","form","found","made","rules","at","name","formula"]
theorem scStraightL:av NSl ["book"] (ak gA):=fsc
theorem lN (F:Fun K "_law_straight" "_law_straight" gA f fd) (G:Gb mg)
  (GT:Cl P w K mg base CX0 1 f2 fd2 ["at","word"] fq "_law_target")
  (GI:Cl P w K mg base CX0 2 f3 fd3 ["form"] mv "_law_told_in")
  (GS:Cl P w K mg base CX0 17 f4 fd4 ["told"] iK "_law_straight_told"):
  a8 P w K mg base CX0 18 f fd ["book"] iL:=by
 refine F.ok scStraightL (λvs H Q E h=>?_) (λcdv A outer s H vs Q E hr h=>?_)
 ·obtain ⟨bv,bk,rfl,_⟩:=h;rfl
 obtain ⟨bv,bk,rfl,hB,hf12,hok,q⟩:=h;have hu:=da hr;have hr1:=hr.mono (show 1<=17 by decide);have hr2:=hr.mono (show 2<=17 by decide);refine ⟨_,af (psz 1 scStraightL.nd (bd ae))
  (af (psz 2 scStraightL.nd aJ)
  (af (bi A5 rfl (bV (ar (r:=bf K) aA (pv 0) ag (λ_ _=>rfl))) (pgz 3 scStraightL.nd)
   (af (ui (pcl GS hr (aa (pcl GI hr2 (aa (pv 3) ae)) ae)) (cT rfl (aM (pgz 4 scStraightL.nd) (aM (pgz 5 scStraightL.nd) ce))))
   (af (bc (ax cr (pv 4) aJ (aL _)) (aj (ay (aF (aa aJ (aa (ar (r:=bf K) aA (pv 3) ag (λ_ _=>rfl)) ae))))) aK)
   (af (bc (ax cr (pv 4) aJ (aL _)) (aj (psz 2 scStraightL.nd aJ)) aK)
   (af (psz 6 scStraightL.nd (bd ae))
   (af (bi A5 rfl (bV (ar (r:=bf K) aA (pv 3) ag (λ_ _=>rfl))) (cT rfl (aM (pgz 7 scStraightL.nd) (aM (pgz 8 scStraightL.nd) (aM (pgz 9 scStraightL.nd) ce))))
    (aj (bC (dC A8 Bq Br bp (pv 6) (aa (aF (aa (pv 7) (aa (pv 8) (aa (fG hu (pv 5) (pcl GT hr1 (aa (pv 7) (aa (pv 8) ae))) (pv 9) ⟨rfl,rfl,rfl,rfl⟩) ae)))) ae)))))
   (aj (bC (dC A8 Bq Br bp (pv 1) (aa
    (aw dq (aT dg (pv 3) bg (aX ag)) (aF (aa (aU (r:=bU K) aN rfl G.tuple (by decide +kernel) (aa (pv 6) ae)) ae))) ae))))))))))
  (aj (ay (aF (aa (pv 2) (aa (aF (aa (ar (r:=bf K) aA (pv 0) ag (λ_ _=>rfl)) (aa (ar (r:=bf K) aA (pv 0) ag (λ_ _=>rfl)) (aa (aU (r:=bU K) aN rfl G.tuple (by decide +kernel) (aa (pv 1) ae)) ae)))) ae))))))),?_⟩
 obtain ⟨a,sa,fa,fv,rfl,ha,hSa,hfa,hF⟩:=id hB;have lF:=hF.len;refine ⟨iq,λfl hfl=>?_⟩;obtain ⟨H0,eW,s0,g0⟩:=nw hfl (.lst []);rw [eW];refine ⟨_,rfl,a,_,2,.ref fa,rfl,rfl,SqT.of (s0 _ _ ha),aZ (j:=2) rfl,fa,rfl,⟨fv,SqT.of (s0 _ _ hfa)⟩,?_⟩;refine eV (xs:=fv) (λi σ H'=>i<=fv.length/\ ∃ wd o3 o4 o5 o6 o7 o8 o9 zs,σ=[some (.ref a),some (.ref fl),some (.str wd),o3,o4,o5,o6,o7,o8,o9]/\Same H H'/\H' fl=some (.lst zs)/\zs.length=i/\(∀ g∈bk.forms.take i,Acy g.rules/\Un0 g.rules (iT g))/\((wd="great"/\ ∃ g∈bk.forms.take i,lZ g)\/(wd="made"/\ ∀ g∈bk.forms.take i,vb g)))
  ⟨A6 _,"made",none,none,none,none,none,none,none,[],rfl,s0,g0,rfl,λg h=>(by rw [BI]at h;cases h),.inr ⟨rfl,λg h=>by rw [BI]at h;cases h⟩⟩ (λi σ H' _ h=>by obtain ⟨_,_,_,_,_,_,_,_,_,_,_,s',_⟩:=h;exact SqT.of (s' _ _ hfa)) ?_ ?_
 ·rintro i v σ H3 hv ⟨_,wd,o3,o4,o5,o6,o7,o8,o9,zs,rfl,S3,gfl3,hl3,hac,hcase⟩;have hil:i<fv.length:=(AF.mp hv).1;obtain ⟨fr,hfr,hRF⟩:=aH hF hv;obtain ⟨hrs,hrss,hrl⟩:=hok fr (AH hfr);have h12:=hrs.few;have hRF3:=hRF.mono (aq S3);refine ⟨_,rfl,v,fr,rfl,hRF3,hrs,hrl,λd kv H4 hd s4 gd hkv=>?_⟩;refine ⟨d,kv,fr.rules,rfl,gd,hkv,hrs,hrss,hrl,λp md wd' mkv H5 k5 g5 gm5 hw=>?_⟩;have s35:Same H3 H5:=λb u h=>k5 _ _ (s4 _ _ h) (ai h hd);have hRF5:=hRF3.mono (aq s35);obtain ⟨fa1,pa,ra,rv,rfl,hfa1,hpa,hra,hRr⟩:=id hRF5;have lR:=hRr.len;refine ⟨p,_,rfl,SqT.of g5,rfl,_,_,rfl,_,_,rfl,rfl,?_⟩;refine ⟨_,rfl,rfl,_,rfl,?_⟩;rw [fj];rcases hw with ⟨c1,hnA⟩ | ⟨hA,U,hU,hw⟩
  ·rw [AO c1];refine bL ⟨_,rfl,fa1,_,0,.str fr.name,rfl,rfl,SqT.of hfa1,bx,cB,λp6 hp6=>?_⟩;exact q p6 "tangled" _ _ ((S3.trans s35).trans (al hp6 _)) ad (.inl ⟨rfl,i,fr,hfr,λg hg=>(hac g hg).1,hnA,rfl⟩)
  have c1: ¬ wd'="tangled":=by rcases hw with ⟨h,_⟩ | ⟨h,_⟩ <;> rw [h] <;> decide +kernel
  rw [AW c1];refine bt ⟨_,rfl,rfl,_,rfl,?_⟩;rw [fj];obtain ⟨hUt,hUe⟩:=vH hU;have hac2: ∀ g∈bk.forms.take (i+1),Acy g.rules/\Un0 g.rules (iT g):=λg hg=>by
   rw [aP hfr]at hg;rcases AT.mp hg with z | z
   ·exact hac g z
   ·rw [AE.mp z];exact ⟨hA,hUt⟩
  have hin:fr∈bk.forms.take (i+1):=by rw [aP hfr];exact AV _ (AE.mpr rfl)
  have hsb: ∀ g∈bk.forms.take i,g∈bk.forms.take (i+1):=λg hg=>by rw [aP hfr];exact Bo _ hg
  obtain ⟨wd2,hcase2,hgoal⟩: ∃ wd2:Str,((wd2="great"/\ ∃ g∈bk.forms.take (i+1),lZ g)\/(wd2="made"/\ ∀ g∈bk.forms.take (i+1),vb g))/\((wd'="great"/\wd2="great")\/(wd'≠"great"/\wd2=wd)):=by
   rcases hw with ⟨h,r,hr,h4⟩ | ⟨h,h4⟩
   ·exact ⟨"great",.inl ⟨rfl,fr,hin,r,hr,by rw [hUe r hr];exact h4⟩,.inl ⟨h,rfl⟩⟩
   ·refine ⟨wd,?_,.inr ⟨by rw [h];decide +kernel,rfl⟩⟩;rcases hcase with ⟨e,g,hg,h5⟩ | ⟨e,h5⟩
    ·exact .inl ⟨e,g,hsb g hg,h5⟩
    ·refine .inr ⟨e,λg hg=>?_⟩;rw [aP hfr]at hg;rcases AT.mp hg with z | z
     ·exact h5 g z
     ·rw [AE.mp z];exact λr hr=>by rw [hUe r hr];exact h4 r hr
  refine uY 2 (λv H'=>H5=H'/\v=.str wd2) (.str wd) rfl (λhc=>⟨rfl,?_⟩) (λv H5' ⟨eH,ev⟩=>?_) (λhc hN=>hN _ _ ⟨rfl,?_⟩)
  ·rcases hgoal with ⟨c2,_⟩ | ⟨_,e⟩
   ·exact absurd c2 (of_decide_eq_false hc)
   ·rw [e]
  rotate_left
  ·rcases hgoal with ⟨_,e⟩ | ⟨c2,_⟩
   ·rw [e]
   ·exact absurd (A7 hc) c2
  subst eH ev
  focus
   refine ⟨iq,λrl hrl0=>?_⟩;have s6:=al hrl0 (.lst []);have g6:(upd H5 rl (.lst [])) rl=some (.lst []):=ad;have nmr:md≠rl:=ai gm5 hrl0;have nfr:fl≠rl:=ai (s35 _ _ gfl3) hrl0;generalize upd H5 rl (.lst [])=H6 at s6 g6 ⊢;refine ⟨_,rfl,fa1,_,3,.ref ra,rfl,rfl,SqT.of (s6 _ _ hfa1),aZ (j:=3) rfl,ra,rfl,⟨rv,SqT.of (s6 _ _ hra)⟩,?_⟩;have keepT: ∀ H',Kp rl H6 H'->TK H6 H':=λH' k b xs h=>k _ _ h λz=>by rw [z,g6]at h;cases h
   refine eV (xs:=rv) (λj σ H'=>j<=rv.length/\ ∃ o7 o8 o9 ws,σ=[some (.ref a),some (.ref fl),some (.str _),some (.ref fa1),some (.str wd'),some (.ref md),some (.ref rl),o7,o8,o9]/\Kp rl H6 H'/\H' rl=some (.lst ws)/\ws.length=j)
    ⟨A6 _,o7,o8,o9,[],rfl,Kp.refl,g6,rfl⟩ (λj σ H' _ h=>by obtain ⟨_,_,_,_,_,_,k',_⟩:=h;exact SqT.of (keepT _ k' _ _ (s6 _ _ hra))) ?_ ?_
   ·rintro j x σ H7 hx ⟨_,o7,o8,o9,ws,rfl,k7,g7,hl7⟩;have hjl:j<rv.length:=(AF.mp hx).1;obtain ⟨r,hrj,a7,u7,rfl,ha7,hu7⟩:=aH hRr hx;have ha7':=keepT _ k7 _ _ (s6 _ _ ha7);have gm7:=k7 _ _ (s6 _ _ gm5) nmr;refine ⟨a7,_,rfl,SqT.of ha7',rfl,_,_,rfl,_,_,rfl,_,_,rfl,rfl,?_⟩;refine ⟨_,rfl,.inl ⟨rfl,_,SqL.of g7⟩,_,rfl,_,rfl,_,rfl,md,rfl,.inr ⟨mkv,.inl gm7⟩,_,rfl,_,rfl,r.pl,r.word,rfl,λt ht=>?_⟩;have s8:=al ht (.tup ((aS r).map kV));have g8:(upd H7 t (.tup ((aS r).map kV))) t=some (.tup ((aS r).map kV)):=ad;rw [show lk r.pl r.word=aS r from rfl];generalize upd H7 t (.tup ((aS r).map kV))=H8 at s8 g8 ⊢;refine ⟨_,rfl,aW mkv (aS r),DGet.t (s8 _ _ gm7) g8,dU,λp9 hp9=>?_⟩;obtain ⟨H9,eW,s9,g9⟩:=nw hp9 (.tup [.int r.pl,.str r.word,(aW mkv (aS r)).getD u7]);rw [eW];have S79:=s8.trans s9;have g79:=S79 _ _ g7;refine ⟨rl,_,_,rfl,rfl,g79,am (by lia),?_⟩;have tkA:TK H9 (upd H9 rl (.lst (ws++[.ref p9]))):=TK.lst g79;exact ⟨hjl,_,_,_,_,rfl,λb u h n=>by rw [ah n];exact S79 _ _ (k7 _ _ h n),ad,by rw [AI,hl7];rfl⟩
   ·rintro σ H7 ⟨_,o7,o8,o9,ws,rfl,k7,g7,hl7⟩;have tk57:TK H5 H7:=(aq s6).trans (keepT _ k7);have gfl7:=k7 _ _ (s6 _ _ (s35 _ _ gfl3)) nfr;refine ⟨_,rfl,.inl ⟨rfl,_,SqL.of gfl7⟩,_,rfl,3,rfl,fa1,_,rfl,tk57 _ _ hfa1,λp8 H8 s8 g8=>?_⟩;have g8:H8 p8=some (.tup [.str fr.name,.str fr.own.name,.ref pa]):=g8;refine ⟨_,rfl,rl,_,rfl,.inl ⟨SqL.of (s8 _ _ g7),λp9 hp9=>?_⟩⟩;obtain ⟨H9,eW,s9,g9⟩:=nw hp9 (.tup ws);rw [eW];refine ⟨fc,λp10 hp10=>?_⟩;obtain ⟨H10,eW,s10,g10⟩:=nw hp10 (.tup [.ref p9]);rw [eW];refine ⟨p8,p10,_,_,rfl,rfl,s10 _ _ (s9 _ _ g8),g10,(by show 3+1<=sizeLine;decide),λp11 H11 s11 g11=>?_⟩;have S711:Same H7 H11:=λb u h=>s11 _ _ (s10 _ _ (s9 _ _ (s8 _ _ h)));have gfl11:=S711 _ _ gfl7;refine ⟨fl,_,_,rfl,rfl,gfl11,am (by lia),?_⟩;have tkA:TK H11 (upd H11 fl (.lst (zs++[.ref p11]))):=TK.lst gfl11;have tkE:TK H3 (upd H11 fl (.lst (zs++[.ref p11]))):=(aq s35).trans (tk57.trans ((aq S711).trans tkA));refine ⟨hil,_,_,_,_,_,_,_,_,_,rfl,λb u h=>?_,ad,by rw [AI,hl3];rfl,hac2,hcase2⟩
    ·rw [ah (ai h hfl)];refine S711 _ _ (k7 _ _ (s6 _ _ (s35 _ _ (S3 _ _ h))) λz=>?_);rw [z]at h;have:=s35 _ _ (S3 _ _ h);rw [hrl0]at this;cases this
 ·rintro σ H3 ⟨_,wd,o3,o4,o5,o6,o7,o8,o9,zs,rfl,S3,gfl3,hl3,hac,hcase⟩;have ha3:=S3 _ _ ha;refine ⟨_,rfl,_,rfl,a,_,0,.int bk.wheel,rfl,rfl,SqT.of ha3,bx,_,rfl,a,_,1,.ref sa,rfl,rfl,SqT.of ha3,aZ (j:=1) rfl,_,rfl,fl,_,rfl,.inl ⟨SqL.of gfl3,λp4 hp4=>?_⟩⟩;obtain ⟨H4,eW,s4,g4⟩:=nw hp4 (.tup zs);rw [eW];refine ⟨dU,λp5 hp5=>?_⟩;obtain ⟨H5,eW,s5,g5⟩:=nw hp5 (.tup [.int bk.wheel,.ref sa,.ref p4]);rw [eW];refine ⟨cB,λp6 hp6=>?_⟩;have s6:=al hp6 (.tup [.str wd,.ref p5]);have S36:=(s4.trans s5).trans s6;rw [<- lF,Bc]at hac hcase;exact q p6 wd (.ref p5) _ (S3.trans S36) ad (.inr ⟨hac,hcase⟩)
theorem w4 {cdv:Value} {A:Around} {outer:List Env} {s:Shared} {H:Hp} {Q:VK} {E:XK} {sc:Addr} {ns:List Int} {st:Int} {few:Bool} (G:Gb mg)
  (GD:Cl P w K mg base CX0 1 g gd ["tape","many"] bZ "_law_digit")
  (GF:Cl P w K mg base CX0 5 f2 fd2 ["tape","sorts","name","own","parts","mode"] fQ "_law_form")
  (GT:Cl P w K mg base CX0 2 f3 fd3 ["script","k"] (je K) "_law_tape")
  (hS:SqL K H sc (ns.map V.int)) (hns:ns.length<=63) (hst0:0<=st) (hst1:st<900) (q: ∀ v bk H',RepB H' bk v->pP bk->Same H H'->Q v H')
  (hr:Room 5 (cG CX0 P w K mg base iS "_law_book" (ak fb) f cdv A outer s H E).nox.A):
  ∃ t,PSs (cG CX0 P w K mg base iS "_law_book" (ak fb) f cdv A outer s H E).nox ((bE fb).drop 8) t/\
   ∀ (hd sa nl fl:Addr) (wh mode gr mo:Int) (ss:List Srt) (ws:List Str) (H5:Hp),du ss->NamesAre 10 ws->2<=wh->wh<=10^30->(mode=0\/mode=1\/mode=2)->0<=mo->mo<=7->H fl=none->nl≠fl->H fl=none->
    Same H H5->SrtsAt H5 sa ss->H5 nl=some (.lst (ws.map V.str))->H5 fl=some (.lst [])->
    t {nx:=λ_ H'=>Q .non H',rt:=Q} [some (.ref sc),some (.int st),some (.bl few),some (.ref hd),some (.int wh),some (.int mode),some (.int gr),some (.int mo),some (.ref sa),some (.ref nl),some (.ref fl),none,none,none,none,none] H5:=by
 have hr1:=hr.mono (show 1<=5 by decide);have hr2:=hr.mono (show 2<=5 by decide);obtain ⟨t1,ht1,hread1⟩:=vC (cdv:=cdv) (A:=A) (outer:=outer) (s:=s) (H:=H) (H0:=H) (E:=E) (f:=f) G GD GF hr;refine ⟨_,af (bi A5 rfl (bz rfl G.range (aa (au (kK rfl) rfl G.min (by decide +kernel) (aa ag (aa (aw bj (au (r:=cZ K) aE rfl G.len Bd (aa (pv 8) ae)) (pv 7)) ae))) ae)) (pgz 11 scBook.nd)
   (af (de (i:=12) scBook.nd rfl (Or.inr rfl) (pcl GT hr2 (aa (pv 0) (aa (aw bj (aw bj (pv 1) ag) (pv 11)) ae))))
   (af (psz 13 scBook.nd (ar (r:=bf K) aA (ar (r:=bf K) aA (pv 8) (aw cD (pv 11) (au (r:=cZ K) aE rfl G.len Bd (aa (pv 8) ae))) (λ_ _=>rfl)) ag (λ_ _=>rfl)))
   (af (bc (ax zp (pv 11) (au (r:=cZ K) aE rfl G.len Bd (aa (pv 8) ae)) (aL _))
    (aj (psz 13 scBook.nd (ar (r:=bf K) aA (ar (r:=bf K) aA (pv 8) (pcl GD hr1 (aa (pv 12) (aa (au (r:=cZ K) aE rfl G.len Bd (aa (pv 8) ae)) ae))) (λ_ _=>rfl)) ag (λ_ _=>rfl)))) aK) ht1))))
  (aj (ay (aF (aa (pv 4) (aa (pv 8) (aa (aU (r:=bU K) aN rfl G.tuple (by decide +kernel) (aa (pv 10) ae)) ae)))))),?_⟩
 intro hd sa nl fl wh mode gr mo ss ws H5 hok hN hw2 hw3 hmode hmo0 hmo7 hfl0 hnf _ S5 hsa gnl gfl;obtain ⟨nLen,nNd,nWd⟩:=hN.ok (by decide);obtain ⟨xs,gsa,hR⟩:=hsa;have lxs:=hR.len;have l1:=hok.1;have l4:=hok.2.1;obtain ⟨n,en,hn1,hn2⟩: ∃ n:Int,(if (xs.length:Int) +mo<10 then (xs.length:Int) +mo else 10)=n/\(xs.length:Int)<=n/\n<=10:=⟨_,rfl,by split <;> lia,by split <;> lia⟩;refine ⟨_,rfl,sa,xs,rfl,.inr (SqT.of gsa),_,rfl,_,_,rfl,rfl,_,_,rfl,?_⟩;rw [en];refine ⟨n,rfl,by lia,by lia,?_⟩;refine cW (λi σ H'=>kS H sc hd sa nl fl st wh mode gr mo few ss ws i σ H')
  ⟨none,none,none,none,none,[],[],rfl,S5,⟨xs,gsa,hR⟩,gnl,gfl,.nil,rfl,rfl,λ_ h=>(by cases h),λk h=>(by lia),λfr h=>(by cases h)⟩ ?_ ?_
 ·intro i σ H6 hi hB;have hB':=hB;obtain ⟨o11,o12,o13,o14,o15,fv,frs,rfl,S6,hsa6,gnl6,gfl6,hF6,_⟩:=hB';obtain ⟨xs6,gsa6,hR6⟩:=hsa6;have lx6:=hR6.len;refine ⟨_,rfl,_,rfl,_,_,rfl,rfl,_,rfl,_,_,rfl,rfl,sc,ns,_,rfl,SqL.keep hS (λoo h=>S6 _ _ h),hns,by lia,by lia,λtp t0 htp=>?_⟩;have s7:=al htp (.lst [.int t0]);have tt7:Tp (upd H6 tp (.lst [.int t0])) tp:=⟨t0,ad⟩;generalize upd H6 tp (.lst [.int t0])=H7 at s7 tt7 ⊢;have gsa7:=s7 _ _ gsa6;have hR7:=hR6.mono (aq s7);have hm0:0<=(0+ (i:Int)) % (xs6.length:Int):=Co _ (by lia);have hm1:(0+ (i:Int)) % (xs6.length:Int) <xs6.length:=BZ _ (by lia);obtain ⟨o,a,b,c,ho,eat,ha⟩:=lc hR7 hm0 hm1;refine ⟨_,rfl,_,rfl,_,rfl,sa,xs6,rfl,.inr (SqT.of gsa7),_,_,rfl,rfl,(by show (0:Int) <xs6.length;lia),sa,xs6,_,.ref a,rfl,rfl,SqT.of gsa7,eat,a,_,0,_,rfl,rfl,SqT.of ha,bx,?_⟩;refine ⟨_,rfl,_,rfl,sa,xs6,rfl,.inr (SqT.of gsa7),_,_,rfl,rfl,_,rfl,?_⟩;refine dD (λc=>?_) (λc=>?_)
  ·have c':(xs6.length:Int)<=0+ (i:Int):=A7 c;refine ⟨_,rfl,_,rfl,_,rfl,sa,xs6,rfl,.inr (SqT.of gsa7),tp,_,rfl,tt7,by lia,by lia,λd t1 hd0 hd1=>?_⟩;have k8:Kp tp H7 (upd H7 tp (.lst [.int t1])):=Kp.tape;have tt8:Tp (upd H7 tp (.lst [.int t1])) tp:=⟨t1,ad⟩;generalize upd H7 tp (.lst [.int t1])=H8 at k8 tt8 ⊢;have tk8:=k8.tk tt7;obtain ⟨o2,a2,b2,c2,ho2,eat2,ha2⟩:=lc hR7 hd0 hd1;refine ⟨sa,xs6,d,.ref a2,rfl,rfl,SqT.of (tk8 _ _ gsa7),eat2,a2,_,0,_,rfl,rfl,SqT.of (tk8 _ _ ha2),bx,?_⟩;exact hread1 sc hd sa nl fl st wh mode gr mo few ss ws hok nLen hfl0 hnf _ i _ H6 H8 tp o2 _ _ hB (by lia) htp (λy oo h=>k8 y oo (s7 y oo h) (ai h htp)) tt8 (AH ho2) (λh=>by lia) (λσ' H' h=>h)
  ·have c': ¬ (xs6.length:Int)<=0+ (i:Int):=λe=>c (AO e);have ei:((0+ (i:Int)) % (xs6.length:Int)).toNat=i:=by
    rw [Int.emod_eq_of_lt (by lia) (by lia)];lia
   rw [ei]at ho;exact hread1 sc hd sa nl fl st wh mode gr mo few ss ws hok nLen hfl0 hnf _ i _ H6 H7 tp o _ _ hB (by lia) htp s7 tt7 (AH ho) (λ_=>ho) (λσ' H' h=>h)
 ·rintro σ H6 ⟨o11,o12,o13,o14,o15,fv,frs,rfl,S6,hsa6,gnl6,gfl6,hF6,lfr,hnm,hfok,hown,hnil⟩;refine ⟨_,rfl,_,rfl,_,rfl,fl,fv,rfl,.inl ⟨SqL.of gfl6,λfa hfa=>?_⟩⟩;obtain ⟨H7,eW,s7,g7⟩:=nw hfa (.tup fv);rw [eW];refine ⟨dU,λpb hpb=>?_⟩;have s8:=al hpb (.tup [.int wh,.ref sa,.ref fa]);have tk68:=aq (s7.trans s8);refine q (.ref pb) ⟨wh,ss,frs⟩ _ ⟨pb,sa,fa,fv,rfl,ad,hsa6.mono tk68,s8 _ _ g7,hF6.mono tk68⟩ ?_ (S6.trans (s7.trans s8));refine ⟨hok,⟨hw2,hw3⟩,?_,?_,?_,?_,⟨mode,hmode,hfok⟩,?_,hnil⟩
  ·show frs.length<=10;lia
  ·show ss.length<=frs.length;lia
  ·show (frs.map Frm.name).Nodup;rw [hnm];exact nNd.sublist (Dx _ _)
  ·intro fr hfr;refine nWd _ (BP (i:=n.toNat) ?_);rw [<- hnm];exact List.mem_map_of_mem hfr
  ·intro k hk;exact hown k (by have:k<ss.length:=hk;lia) hk
theorem wx (F:Fun K "_law_book" "_law_book" fb f fd) (G:Gb mg)
  (GD:Cl P w K mg base CX0 1 g gd ["tape","many"] bZ "_law_digit")
  (GF:Cl P w K mg base CX0 5 f2 fd2 ["tape","sorts","name","own","parts","mode"] fQ "_law_form")
  (GT:Cl P w K mg base CX0 2 f3 fd3 ["script","k"] (je K) "_law_tape")
  (GS:Cl P w K mg base CX0 3 f4 fd4 ["tape","few"] kY "_law_sorts")
  (GN:Cl P w K mg base CX0 2 f5 fd5 ["tape","many"] fu "_law_names"):
  a8 P w K mg base CX0 6 f fd ["script","start","few"] (oh K):=by
 refine F.ok scBook (λvs H Q E h=>?_) (λcdv A outer s H vs Q E hr h=>?_)
 ·obtain ⟨sc,ns,st,few,rfl,_⟩:=h;rfl
 obtain ⟨sc,ns,st,few,rfl,hS,hns,hst0,hst1,q⟩:=h;have hr1:=hr.mono (show 1<=5 by decide);have hr2:=hr.mono (show 2<=5 by decide);have hr3:=hr.mono (show 3<=5 by decide);obtain ⟨t,ht,hread⟩:=w4 (cdv:=cdv) (A:=A) (outer:=outer) (s:=s) (H:=H) (Q:=Q) (E:=E) (f:=f) (few:=few) G GD GF GT hS hns hst0 hst1 q hr;refine ⟨_,af (psz 3 scBook.nd (pcl GT hr2 (pac (pv 0) (pac (pv 1) ae))))
  (af (psz 4 scBook.nd (ar (r:=cC K) aY (bd (pac ag (pac ag (pac ag (pac ag (pac (aw xU ag ag) (pac (aw bj ag (pcl GD hr1 (pac (pv 3) (pac ag ae)))) ae)))))))
   (pcl GD hr1 (pac (pv 3) (pac ag ae))) (λ_ _=>rfl)))
  (af (psz 5 scBook.nd (ar (r:=cC K) aY (bd (pac ag (pac ag (pac ag (pac ag (pac ag ae)))))) (pcl GD hr1 (pac (pv 3) (pac ag ae))) (λ_ _=>rfl)))
  (af (psz 6 scBook.nd (pcl GD hr1 (pac (pv 3) (pac ag ae))))
  (af (psz 7 scBook.nd (pcl GD hr1 (pac (pv 3) (pac (ar (r:=cC K) aY (bd (pac ag (pac ag (pac ag ae)))) (pcl GD hr1 (pac (pv 3) (pac ag ae))) (λ_ _=>rfl)) ae))))
  (af (de (i:=8) scBook.nd rfl (Or.inr rfl) (pcl GS hr3 (pac (pv 3) (pac (pv 2) ae))))
  (af (psz 9 scBook.nd (pcl GN hr2 (pac (pv 3) (pac ag ae))))
  (af (psz 10 scBook.nd (bd ae)) ht))))))),?_⟩
 refine ⟨_,rfl,_,rfl,sc,ns,st,rfl,hS,hns,hst0,by lia,λhd t0 hhd=>?_⟩;have S1:=al hhd (.lst [.int t0]);have tt1:Tp (upd H hd (.lst [.int t0])) hd:=⟨t0,ad⟩;generalize upd H hd (.lst [.int t0])=H1 at S1 tt1 ⊢;refine ⟨10,30,rfl,rfl,⟨by decide,by decide,by decide +kernel⟩,?_⟩;refine ⟨_,rfl,hd,1000,rfl,tt1,by decide,by decide,λz t1 hz0 hz1=>⟨2,z,rfl,rfl,?_⟩⟩;have k2:Kp hd H1 (upd H1 hd (.lst [.int t1])):=Kp.tape;have tt2:Tp (upd H1 hd (.lst [.int t1])) hd:=⟨t1,ad⟩;generalize upd H1 hd (.lst [.int t1])=H2 at k2 tt2 ⊢;refine ⟨(by show 6<=sizeLine;decide),λp hp=>?_⟩;have np:=dI tt2 hp;refine ⟨_,rfl,hd,6,rfl,tt2.new hp,by decide,by decide,λd t2 hd0 hd1=>?_⟩;obtain ⟨wh,ewh,hw2,hw3⟩:=sW hz0 hz1 hd0 hd1;refine ⟨p,_,d,.int wh,rfl,rfl,SqL.of (by rw [ah np];exact ad),ewh,?_⟩;have k3:Kp hd H1 (upd (upd H2 p (.lst [.int 2,.int 7,.int 10,.int 97,.int (10^ (30:Int).toNat),.int (2+z)])) hd (.lst [.int t2])):=(k2.new hp).trans Kp.tape;have tt3:Tp (upd (upd H2 p (.lst [.int 2,.int 7,.int 10,.int 97,.int (10^ (30:Int).toNat),.int (2+z)])) hd (.lst [.int t2])) hd:=⟨t2,ad⟩;generalize upd (upd H2 p (.lst [.int 2,.int 7,.int 10,.int 97,.int (10^ (30:Int).toNat),.int (2+z)])) hd (.lst [.int t2])=H3 at k3 tt3 ⊢;refine ⟨(by show 5<=sizeLine;decide),λp hp=>?_⟩;have np:=dI tt3 hp;refine ⟨_,rfl,hd,5,rfl,tt3.new hp,by decide,by decide,λd t2 hd0 hd1=>?_⟩;obtain ⟨mode,emo,hmode⟩:=wC hd0 hd1;refine ⟨p,_,d,.int mode,rfl,rfl,SqL.of (by rw [ah np];exact ad),emo,?_⟩;have k4:Kp hd H1 (upd (upd H3 p (.lst [.int 0,.int 0,.int 1,.int 2,.int 2])) hd (.lst [.int t2])):=(k3.new hp).trans Kp.tape;have tt4:Tp (upd (upd H3 p (.lst [.int 0,.int 0,.int 1,.int 2,.int 2])) hd (.lst [.int t2])) hd:=⟨t2,ad⟩;generalize upd (upd H3 p (.lst [.int 0,.int 0,.int 1,.int 2,.int 2])) hd (.lst [.int t2])=H4 at k4 tt4 ⊢;refine ⟨_,rfl,hd,2,rfl,tt4,by decide,by decide,λgr t3 _ _=>?_⟩;have k5:Kp hd H1 (upd H4 hd (.lst [.int t3])):=k4.trans Kp.tape;have tt5:Tp (upd H4 hd (.lst [.int t3])) hd:=⟨t3,ad⟩;generalize upd H4 hd (.lst [.int t3])=H5 at k5 tt5 ⊢;refine ⟨_,rfl,dU,λp hp=>?_⟩;have np:=dI tt5 hp;refine ⟨_,rfl,hd,3,rfl,tt5.new hp,by decide,by decide,λd t4 hd0 hd1=>?_⟩;obtain ⟨mm,emm,hmm3,hmm7⟩:=wB hd0 hd1;refine ⟨p,_,d,.int mm,rfl,rfl,SqL.of (by rw [ah np];exact ad),emm,?_⟩;have k6:Kp hd H1 (upd (upd H5 p (.lst [.int 3,.int 4,.int 7])) hd (.lst [.int t4])):=(k5.new hp).trans Kp.tape;have tt6:Tp (upd (upd H5 p (.lst [.int 3,.int 4,.int 7])) hd (.lst [.int t4])) hd:=⟨t4,ad⟩;generalize upd (upd H5 p (.lst [.int 3,.int 4,.int 7])) hd (.lst [.int t4])=H6 at k6 tt6 ⊢;refine ⟨hd,mm,rfl,tt6,by lia,by lia,λmo t5 hmo0 hmo1=>?_⟩;have k7:Kp hd H1 (upd H6 hd (.lst [.int t5])):=k6.trans Kp.tape;have tt7:Tp (upd H6 hd (.lst [.int t5])) hd:=⟨t5,ad⟩;generalize upd H6 hd (.lst [.int t5])=H7 at k7 tt7 ⊢;refine ⟨_,rfl,_,rfl,hd,few,rfl,tt7,λsa ss xs H8 gsa hR hok k8 tt8=>?_⟩;refine ⟨_,rfl,hd,10,rfl,tt8,by decide,by decide,λnl ws H9 gnl hnl hN hnh k9 tt9=>?_⟩;refine ⟨iq,λfl hfl=>?_⟩;have k19:Kp hd H1 H9:=k7.trans (k8.trans k9);have S9:Same H H9:=λb oo h=>k19 b oo (S1 b oo h) (ai h hhd);have s10:=al hfl (.lst []);exact hread hd sa nl fl wh mode gr mo ss ws _ hok hN hw2 hw3 hmode hmo0 (by lia) (S9.free hfl) (ai gnl hfl) (S9.free hfl) (S9.trans s10) (SrtsAt.mono (aq s10) (SrtsAt.mono (k9.tk tt8) ⟨xs,gsa,hR⟩)) (s10 _ _ gnl) ad
theorem j4: ∀ {qs:List Srt} {k:Int},(∀ s∈qs,s.ok)->(cJ k qs).Nodup
 | [],_,_=>CU
 | q::r,k,h=>by
  have hq:=h q A3;have hd:q.downs.Nodup:=(B6.mp hq.1).1;unfold cJ;rw [B6];refine ⟨jw hd λa _ b _ e=>(EA e).2,j4 λs hs=>h s (A2 _ hs),λa ha b hb e=>?_⟩;obtain ⟨x,_,rfl⟩:=AK.mp ha;have:=(eL hb).1;rw [<- e]at this;have:k+1<=k:=this;lia
theorem tw {o:Srt} {qs:List Srt} {t:Int×Str} (h:t∈cP o qs):(t.1= -1/\t.2∈o.ups)\/(0<=t.1/\ ∃ q∈qs,t.2∈q.downs):=by
 unfold cP at h;rcases AT.mp h with h | h
 ·obtain ⟨x,hx,rfl⟩:=AK.mp h;exact .inl ⟨rfl,hx⟩
 ·obtain ⟨h1,_,h2⟩:=eL h;exact .inr ⟨h1,h2⟩
theorem vI {o:Srt} {qs:List Srt} (ho:o.ok) (h: ∀ s∈qs,s.ok):(cP o qs).Nodup:=by
 have hu:o.ups.Nodup:=(B6.mp ho.1).2.1;unfold cP;rw [B6];refine ⟨jw hu λa _ b _ e=>(EA e).2,j4 h,λa ha b hb e=>?_⟩;obtain ⟨x,_,rfl⟩:=AK.mp ha;have:=(eL hb).1;rw [<- e]at this;have:(0:Int)<= -1:=this;lia
def shS (x:Str):Prop:=x.length<=1000
theorem cK {x:Str} (h:cH x=true):shS x:=by
 have:=bJ h;unfold shS;lia
structure FrC (fr:Frm):Prop where
 rs:RsOk fr.rules
 ss:RsS fr.rules
 rl:RsL fr.rules
 nm:shS fr.name
 ow:shS fr.own.name
 pn: ∀ q∈fr.parts,shS q.name
 pl:fr.parts.length<=3
 wd: ∀ r∈fr.rules,shS r.word
structure SrC (s:Srt):Prop where
 nm:shS s.name
 dn: ∀ x∈s.downs,shS x
 up: ∀ x∈s.ups,shS x
 dl:s.downs.length<=3
 ul:s.ups.length<=3
structure BkC (bk:Bk):Prop where
 fl:bk.forms.length<=12
 sl:bk.sorts.length<=4
 so: ∀ s∈bk.sorts,SrC s
 fo: ∀ fr∈bk.forms,FrC fr
theorem tN {s:Srt} (h:s.ok) (hn:shS s.name):SrC s:=⟨hn,λx hx=>cK (h.2.1 x (Bo _ hx)),λx hx=>cK (h.2.1 x (AV _ hx)),h.2.2.1,h.2.2.2.1⟩
theorem vd {ss:List Srt} {fr:Frm} (hok: ∀ s∈ss,s.ok) (hnm: ∀ s∈ss,shS s.name) (ho:fr.own∈ss) (hq: ∀ q∈fr.parts,q∈ss) (hl:fr.parts.length<=3) (hn:shS fr.name)
  (ht:fr.rules.map (λr=>(r.pl,r.word))=cP fr.own fr.parts) (hf: ∀ r∈fr.rules,r.fm.wf/\r.fm.size<=15):FrC fr:=by
 have hlen:fr.rules.length=(cP fr.own fr.parts).length:=by rw [<- ht,AD]
 have hmem: ∀ r∈fr.rules,(r.pl,r.word)∈cP fr.own fr.parts:=λr hr=>by rw [<- ht];exact AK.mpr ⟨r,hr,rfl⟩
 refine ⟨⟨?_,?_,λr hr=>⟨(hf r hr).1,Bm (hf r hr).2 (by decide)⟩⟩,λr hr=>(hf r hr).2,λr hr=>?_,hn,hnm _ ho,λq hq'=>hnm _ (hq q hq'),hl,λr hr=>?_⟩
 ·rw [hlen];exact fg hok ho hq hl
 ·have e:fr.rules.map ao=(cP fr.own fr.parts).map λt=>([.inl t.1,.inr t.2]:KK):=by
   rw [<- ht,BB];rfl
  rw [e];exact jw (vI (hok _ ho) λs hs=>hok _ (hq s hs)) λa _ b _ e=>by
   have h1:=CM (A1 e).1;have h2:=BO (A1 (A1 e).2).1;exact ER h1 h2
 ·rcases tw (hmem r hr)with ⟨h,_⟩ | ⟨h,_⟩
  ·exact .inl h
  ·exact .inr h
 ·rcases tw (hmem r hr)with ⟨_,h⟩ | ⟨_,q,h1,h⟩
  ·exact cK ((hok _ ho).2.1 _ (AV _ h))
  ·exact cK ((hok _ (hq q h1)).2.1 _ (Bo _ h))
theorem nJ {bk:Bk} (h:pP bk):BkC bk:=by
 obtain ⟨mode,_,hfo⟩:=h.fo;have hsh: ∀ s∈bk.sorts,shS s.name:=λs hs=>cK (h.so.2.2.2.1 s hs);refine ⟨Bm h.few (by decide),h.so.2.1,λs hs=>tN (h.so.2.2.2.2 s hs) (hsh s hs),λfr hfr=>?_⟩;obtain ⟨h1,h2,h3,h4,h5⟩:=hfo fr hfr;exact vd h.so.2.2.2.2 hsh h1 h2 h3 (cK (h.wd fr hfr)) h4 λr hr=>by
  obtain ⟨j,hj⟩:=Ba hr;exact ⟨(h5 j r hj).1.wf,(h5 j r hj).2⟩
theorem vy {d:Int} (h0:0<=d) (h1:d<3): ∃ m:Int,atI [V.int 2,.int 3,.int 8] d=some (.int m)/\2<=m/\m<=8:=by
 have h5:d=0\/d=1\/d=2:=by lia
 rcases h5 with h | h | h <;> subst h <;> exact ⟨_,rfl,by decide,by decide⟩
theorem si {f:Fm} (h:gG f):f.wf/\f.size=1/\eC f:=by
 cases f with
 | num n=>exact h.elim
 | own x=>exact ⟨h,rfl,trivial⟩
 | part k x=>exact ⟨h,rfl,trivial⟩
 | bin op a b=>exact h.elim
 | whn a b c=>exact h.elim
theorem xO {H:Hp} {p:Addr} {t:Int×Str} (h:H p=some (.tup ((lk t.1 t.2).map kV))):Rep H (tgF t) (.ref p):=by
 unfold tgF;unfold lk at h;by_cases c:t.1<0
 ·rw [AX c]at h ⊢;exact ⟨p,rfl,h⟩
 ·rw [AQ c]at h ⊢;exact ⟨p,rfl,h⟩
def qb (K:W.Frag):Sp:=λvs H Q _=> ∃ (sc:Addr) (ns:List Int) (st:Int),vs=[.ref sc,.int st]/\SqL K H sc (ns.map V.int)/\ns.length<=63/\0<=st/\st<900/\ ∀ v bk H',RepB H' bk v->(BkC bk/\bk.forms≠[]/\bk.sorts≠[])->Same H H'->Q v H'
abbrev NCh:List Str:=["script","start","tape","words","sort","parts","rules","last","at","word","formula","j"]
theorem scChain:av NCh ["script","start"] (ak iu):=fsc
theorem pL {cdv:Value} {A:Around} {outer:List Env} {s:Shared} {H0:Hp} {E:XK} (G:Gb mg)
  (GD:Cl P w K mg base CX0 1 g gd ["tape","many"] bZ "_law_digit")
  (GA:Cl P w K mg base CX0 1 f2 fd2 ["sorts","own","parts"] dv "_law_targets")
  (GT:Cl P w K mg base CX0 1 f3 fd3 ["at","word"] fq "_law_target")
  (hr:Room 2 (cG CX0 P w K mg base NCh "_law_chain" (ak iu) f cdv A outer s H0 E).nox.A):
  ∃ t,PSs (cG CX0 P w K mg base NCh "_law_chain" (ak iu) f cdv A outer s H0 E).nox ((bE iu).drop 4) t/\
   ∀ (D:dW) (v0 v1:V) (tp wl so pp:Addr) (ws:List Str) (sr:Srt) (n:Nat) (H5:Hp),Tp H5 tp->H5 wl=some (.lst (ws.map V.str))->wl≠tp->ws.length=6->(∀ x∈ws,cH x=true)->RepS H5 sr (.ref so)->sr.name="s"->sr.ok->n<=3->H5 pp=some (.tup (List.replicate n (.str "s")))->
    (∀ v bk H',RepB H' bk v->(BkC bk/\bk.forms≠[]/\bk.sorts≠[])->Kp tp H5 H'->D.rt v H')->
    t D [some v0,some v1,some (.ref tp),some (.ref wl),some (.ref so),some (.ref pp),none,none,none,none,none,none] H5:=by
 have hr1:=hr.mono (show 1<=2 by decide);refine ⟨_,af (psz 6 scChain.nd (bd ae))
  (af (psz 7 scChain.nd (aF (pac aJ (pac (ar (r:=cC K) aY (pv 3) ag (λ_ _=>rfl)) ae))))
  (af (bi A5 rfl (cA (pcl GA hr1 (pac (aF (pac (pv 4) ae)) (pac aJ (pac (pv 5) ae))))) (cT rfl (aM (pgz 8 scChain.nd) (aM (pgz 9 scChain.nd) ce)))
   (af (psz 10 scChain.nd (pv 7))
   (af (bi A5 rfl (bz rfl G.range (aa (pcl GD hr1 (pac (pv 2) (pac (ar (r:=cC K) aY (bd (pac ag (pac ag (pac ag ae)))) (pcl GD hr1 (pac (pv 2) (pac ag ae))) (λ_ _=>rfl)) ae))) ae)) (pgz 11 scChain.nd)
    (aj (psz 10 scChain.nd (aF (pac aJ (pac (pv 10) (pac (pv 7) ae)))))))
   (af (bC (dC A8 Bq Br bp (pv 6) (aa (aF (pac (pv 8) (pac (pv 9) (pac (pv 10) ae)))) ae)))
   (aj (psz 7 scChain.nd (pcl GT hr1 (aa (pv 8) (aa (pv 9) ae)))))))))
  (aj (ay (aF (pac ag (pac (aF (pac (pv 4) ae)) (pac (aF (pac (aF (pac aJ (pac aJ (pac (pv 5) (pac (aU (r:=bU K) aN rfl G.tuple (by decide +kernel) (aa (pv 6) ae)) ae))))) ae)) ae)))))))),?_⟩
 intro D v0 v1 tp wl so pp ws sr n H5 tt5 hwl hwne hwlen hww hRs hsn hsok hn hpp q;have tkK: ∀ {Ha Hb:Hp},Tp Ha tp->Kp tp Ha Hb->TK Ha Hb:=λt k=>k.tk t;refine ⟨iq,λrl hrl=>?_⟩;have nrt:=dI tt5 hrl;obtain ⟨H6,eW,s6,g6⟩:=nw hrl (.lst []);rw [eW];obtain ⟨w0,ew0⟩: ∃ w0,ws[0]? =some w0:=⟨ws[0]'(by lia),AG (by lia)⟩;refine ⟨_,rfl,wl,_,0,.str w0,rfl,rfl,SqL.of (s6 _ _ hwl),aZ (j:=0) (by rw [AS,ew0];rfl),cB,λl0 hl0=>?_⟩;obtain ⟨H7,eW,s7,g7⟩:=nw hl0 (.tup [.str "own",.str w0]);rw [eW];refine ⟨_,rfl,fc,λsa hsa=>?_⟩;obtain ⟨H8,eW,s8,g8⟩:=nw hsa (.tup [.ref so]);rw [eW];have S58:Same H5 H8:=λb u h=>s8 _ _ (s7 _ _ (s6 _ _ h));have hss:du [sr]:=⟨AJ _,(by show 1<=4;decide),CI _ _,λx hx=>by rw [AE.mp hx,hsn];decide +kernel,λx hx=>by rw [AE.mp hx];exact hsok⟩;have hps: ∀ q∈List.replicate n sr,q∈[sr]:=λq hq=>by rw [(List.mem_replicate.mp hq).2];exact AE.mpr rfl
 have hpp8:H8 pp=some (.tup ((List.replicate n sr).map λq=>V.str (Srt.name q))):=by rw [List.map_replicate,hsn];exact S58 _ _ hpp
 refine ⟨_,rfl,sa,pp,[sr],sr,List.replicate n sr,by rw [hsn];rfl,⟨_,g8,.cons (hRs.mono (aq S58)) .nil⟩,hss,AE.mpr rfl,hpp8,hps,by rw [CW];exact hn,λtl zs H9 htl s9 gtl hzs=>?_⟩;have lzs:=hzs.len;have l12:(cP sr (List.replicate n sr)).length<=12:=fg hss.2.2.2.2 (AE.mpr rfl) hps (by rw [CW];exact hn);have hlf: ∀ t∈cP sr (List.replicate n sr),gG (tgF t):=λt ht=>mq hss.2.2.2.2 (AE.mpr rfl) hps (by rw [CW];exact hn) ht;rw [AD]at lzs;have S59:=S58.trans s9;have tt9:=tt5.same S59;have grl9:H9 rl=some (.lst []):=s9 _ _ (s8 _ _ (s7 _ _ g6));have gl09:=s9 _ _ (s8 _ _ g7);have ntt:tl≠tp:=dI (tt5.same S58) htl;have ntr:tl≠rl:=λz=>by rw [z,s8 _ _ (s7 _ _ g6)]at htl;cases htl
 refine ⟨tl,rfl,⟨_,SqL.of gtl⟩,?_⟩;refine cN (xs:=zs) (λi σ H'=>i<=zs.length/\ ∃ lv lf o8 o9 o10 o11 rws rls,σ=[some v0,some v1,some (.ref tp),some (.ref wl),some (.ref so),some (.ref pp),some (.ref rl),some lv,o8,o9,o10,o11]/\(∀ b u,H9 b=some u->b≠tp->b≠rl->H' b=some u)/\Tp H' tp/\H' rl=some (.lst rws)/\RepRs H' rls rws/\rls.map (λr=>(r.pl,r.word))=(cP sr (List.replicate n sr)).take i/\(∀ r∈rls,r.fm.wf/\r.fm.size<=15)/\Rep H' lf lv/\gG lf)
  ⟨A6 _,.ref l0,.own w0,none,none,none,none,[],[],rfl,λb u h _ _=>h,tt9,grl9,.nil,rfl,λr h=>(by cases h),⟨l0,rfl,gl09⟩,hww w0 (AH ew0)⟩ (λi σ H' _ h=>by obtain ⟨_,_,_,_,_,_,_,_,_,_,k',_⟩:=h;exact SqL.of (k' _ _ gtl ntt ntr)) ?_ ?_
 ·rintro i x σ H10 hx ⟨_,lv,lf,o8,o9,o10,o11,rws,rls,rfl,k10,tt10,grl10,hRr,hmap,hfm,hRl,hll⟩;have hil:i<zs.length:=(AF.mp hx).1;obtain ⟨tv,htv,at0,rfl,hat0⟩:=aH hzs hx;rw [AS]at htv;obtain ⟨t,ht,rfl⟩:=Bw.mp htv;have htm:=AH ht;have tk910:TK H9 H10:=λb xs h=>k10 _ _ h (λz=>by obtain ⟨t',ht'⟩:=tt9;rw [z,ht']at h;cases h) (λz=>by rw [z,grl9]at h;cases h);have hat:=tk910 _ _ hat0;have lrl:rls.length=i:=by have:=congrArg List.length hmap;rw [AD,A4]at this;lia
  have lrw:rws.length=i:=by have:=hRr.len;lia
  refine ⟨at0,_,rfl,SqT.of hat,rfl,_,_,rfl,_,_,rfl,rfl,?_⟩;refine ⟨_,rfl,_,rfl,dU,λp1 hp1=>?_⟩;have np1:=dI tt10 hp1;refine ⟨_,rfl,tp,3,rfl,tt10.new hp1,by decide,by decide,λd t1 hd0 hd1=>?_⟩;obtain ⟨m,em,hm0,hm1⟩:=vy hd0 hd1;refine ⟨p1,_,d,.int m,rfl,rfl,SqL.of (by rw [ah np1];exact ad),em,?_⟩;have k11:Kp tp H10 (upd (upd H10 p1 (.lst [.int 2,.int 3,.int 8])) tp (.lst [.int t1])):=(Kp.refl.new hp1).trans Kp.tape;have tt11:Tp (upd (upd H10 p1 (.lst [.int 2,.int 3,.int 8])) tp (.lst [.int t1])) tp:=⟨t1,ad⟩;generalize upd (upd H10 p1 (.lst [.int 2,.int 3,.int 8])) tp (.lst [.int t1])=H11 at k11 tt11 ⊢;refine ⟨tp,m,rfl,tt11,by lia,by lia,λc t2 hc0 hc1=>?_⟩;have k12:Kp tp H10 (upd H11 tp (.lst [.int t2])):=k11.trans Kp.tape;have tt12:Tp (upd H11 tp (.lst [.int t2])) tp:=⟨t2,ad⟩;generalize upd H11 tp (.lst [.int t2])=H12 at k12 tt12 ⊢;have tk12:TK H10 H12:=k12.tk tt10;have hRl12:=hRl.mono tk12;obtain ⟨lwf,lsz,_⟩:=si hll;refine ⟨c,rfl,by lia,by lia,?_⟩;refine cW (λj σ H'=> ∃ fv fm o11,σ=[some v0,some v1,some (.ref tp),some (.ref wl),some (.ref so),some (.ref pp),some (.ref rl),some lv,some (.int t.1),some (.str t.2),some fv,o11]/\Same H12 H'/\Rep H' fm fv/\fm.wf/\fm.size=1+2*j) ⟨lv,lf,_,rfl,Same.refl _,hRl12,lwf,lsz⟩ ?_ ?_
  ·rintro j σ H13 hj ⟨fv,fm,o11,rfl,s13,hRf,hwf,hsz⟩;refine ⟨_,rfl,_,rfl,dU,λp2 hp2=>?_⟩;obtain ⟨H14,eW,s14,g14⟩:=nw hp2 (.tup [.str "plus",fv,lv]);rw [eW];refine ⟨_,.bin "plus" fm lf,_,rfl,s13.trans s14,⟨p2,fv,lv,rfl,g14,hRf.mono (aq s14),hRl12.mono (aq (s13.trans s14))⟩,⟨by decide +kernel,hwf,lwf⟩,?_⟩;show fm.size+lf.size+1=_;lia
  ·rintro σ H13 ⟨fv,fm,o11,rfl,s13,hRf,hwf,hsz⟩;have K13:Kp tp H10 H13:=k12.same s13;have tk13:TK H10 H13:=K13.tk tt10;have grl13:=K13 _ _ grl10 nrt;refine ⟨_,rfl,.inl ⟨rfl,_,SqL.of grl13⟩,_,rfl,_,rfl,_,rfl,dU,λp3 hp3=>?_⟩;obtain ⟨H15,eW,s15,g15⟩:=nw hp3 (.tup [.int t.1,.str t.2,fv]);rw [eW];have grl15:=s15 _ _ grl13;refine ⟨rl,_,_,rfl,rfl,grl15,am (by lia),?_⟩;have tk16:TK H15 (upd H15 rl (.lst (rws++[.ref p3]))):=TK.lst grl15;have g16:(upd H15 rl (.lst (rws++[.ref p3]))) rl=some (.lst (rws++[.ref p3])):=ad;have k16: ∀ b u,H9 b=some u->b≠tp->b≠rl->(upd H15 rl (.lst (rws++[.ref p3]))) b=some u:=λb u h n1 n2=>by rw [ah n2];exact s15 _ _ (K13 _ _ (k10 _ _ h n1 n2) n1)
   have tt16:Tp (upd H15 rl (.lst (rws++[.ref p3]))) tp:=by
    obtain ⟨t',ht'⟩:=tt12.same (s13.trans s15);exact ⟨t',by rw [ah (Bg nrt)];exact ht'⟩
   have tkE:TK H13 (upd H15 rl (.lst (rws++[.ref p3]))):=(aq s15).trans tk16;have gt16:=tk16 _ _ g15;generalize upd H15 rl (.lst (rws++[.ref p3]))=H16 at tk16 g16 k16 tt16 tkE gt16 ⊢;refine ⟨_,rfl,_,rfl,t.1,t.2,rfl,λp4 hp4=>?_⟩;obtain ⟨H17,eW,s17,g17⟩:=nw hp4 (.tup ((lk t.1 t.2).map kV));rw [eW];have tkF:=tkE.trans (aq s17);refine ⟨hil,.ref p4,tgF t,_,_,_,_,_,rls++[⟨t.1,t.2,fm⟩],rfl,λb u h n1 n2=>s17 _ _ (k16 _ _ h n1 n2),tt16.same s17,s17 _ _ g16,?_,?_,?_,xO g17,hlf t htm⟩
   ·exact BH (Paired.mapP hRr λ_ _ h=>RepR.mono (tk13.trans tkF) h) ⟨p3,fv,rfl,s17 _ _ gt16,hRf.mono tkF⟩
   ·rw [aP ht,Be,hmap];rfl
   ·intro r hr;rcases AT.mp hr with h | h
    ·exact hfm r h
    ·rw [AE.mp h];exact ⟨hwf,by show fm.size<=15;lia⟩
 ·rintro σ H10 ⟨_,lv,lf,o8,o9,o10,o11,rws,rls,rfl,k10,tt10,grl10,hRr,hmap,hfm,hRl,hll⟩;rw [BC (by lia)]at hmap;have tk910:TK H9 H10:=λb xs h=>k10 _ _ h (λz=>by obtain ⟨t',ht'⟩:=tt9;rw [z,ht']at h;cases h) (λz=>by rw [z,grl9]at h;cases h);have tk510:TK H5 H10:=(aq S59).trans tk910;refine ⟨_,rfl,fc,λq1 hq1=>?_⟩;obtain ⟨H11,eW,s11,g11⟩:=nw hq1 (.tup [.ref so]);rw [eW];refine ⟨_,rfl,_,rfl,rl,_,rfl,.inl ⟨SqL.of (s11 _ _ grl10),λq2 hq2=>?_⟩⟩;obtain ⟨H12,eW,s12,g12⟩:=nw hq2 (.tup rws);rw [eW];refine ⟨(by show 4<=sizeLine;decide),λq3 hq3=>?_⟩;obtain ⟨H13,eW,s13,g13⟩:=nw hq3 (.tup [.str "f",.str "s",.ref pp,.ref q2]);rw [eW];refine ⟨fc,λq4 hq4=>?_⟩;obtain ⟨H14,eW,s14,g14⟩:=nw hq4 (.tup [.ref q3]);rw [eW];refine ⟨dU,λq5 hq5=>?_⟩;obtain ⟨H15,eW,s15,g15⟩:=nw hq5 (.tup [.int 7,.ref q1,.ref q4]);rw [eW];have S15:Same H10 H15:=λb u h=>s15 _ _ (s14 _ _ (s13 _ _ (s12 _ _ (s11 _ _ h))));have tk15:=tk510.trans (aq S15);refine q (.ref q5) ⟨7,[sr],[⟨"f",sr,List.replicate n sr,rls⟩]⟩ H15 ⟨q5,q1,q4,_,rfl,g15,⟨_,s15 _ _ (s14 _ _ (s13 _ _ (s12 _ _ g11))),.cons (hRs.mono tk15) .nil⟩,s15 _ _ g14,.cons ⟨q3,pp,q2,rws,rfl,?_,?_,s15 _ _ (s14 _ _ (s13 _ _ g12)),?_⟩ .nil⟩ ⟨⟨(by show 1<=12;decide),(by show 1<=4;decide),λx hx=>?_,λfr hfr=>?_⟩,(λe=>by cases e),(λe=>by cases e)⟩ ?_
  ·show H15 q3=some (.tup [.str "f",.str sr.name,.ref pp,.ref q2]);rw [hsn];exact s15 _ _ (s14 _ _ g13)
  ·show H15 pp=some (.tup (cU (List.replicate n sr)));have e:cU (List.replicate n sr)=List.replicate n (.str "s"):=by unfold cU;rw [List.map_replicate,hsn]
   rw [e];exact tk15 _ _ hpp
  ·exact Paired.mapP hRr λ_ _ h=>RepR.mono (aq S15) h
  ·rw [AE.mp hx];exact tN hsok (by rw [hsn];exact cK (by decide +kernel))
  ·rw [AE.mp hfr];exact vd (ss:=[sr]) hss.2.2.2.2 (λx hx=>by rw [AE.mp hx,hsn];exact cK (by decide +kernel)) (AE.mpr rfl) hps (by show (List.replicate n sr).length<=3;rw [CW];exact hn) (show shS "f" from cK (by decide +kernel)) hmap hfm
  ·intro b u h hb;exact S15 _ _ (k10 _ _ (S59 _ _ h) hb λz=>by rw [z,hrl]at h;cases h)
theorem uO (F:Fun K "_law_chain" "_law_chain" iu f fd) (G:Gb mg)
  (GD:Cl P w K mg base CX0 1 g gd ["tape","many"] bZ "_law_digit")
  (GA:Cl P w K mg base CX0 1 f2 fd2 ["sorts","own","parts"] dv "_law_targets")
  (GT:Cl P w K mg base CX0 1 f3 fd3 ["at","word"] fq "_law_target")
  (GP:Cl P w K mg base CX0 2 f4 fd4 ["script","k"] (je K) "_law_tape")
  (GN:Cl P w K mg base CX0 2 f5 fd5 ["tape","many"] fu "_law_names"):
  a8 P w K mg base CX0 3 f fd ["script","start"] (qb K):=by
 refine F.ok scChain (λvs H Q E h=>?_) (λcdv A outer s H vs Q E hr h=>?_)
 ·obtain ⟨sc,ns,st,rfl,_⟩:=h;rfl
 obtain ⟨sc,ns,st,rfl,hS,hns,hst0,hst1,q⟩:=h;have hr1:=hr.mono (show 1<=2 by decide);obtain ⟨t,ht,hread⟩:=pL (f:=f) (cdv:=cdv) (A:=A) (outer:=outer) (s:=s) (H0:=H) (E:=E) G GD GA GT hr;refine ⟨_,af (psz 2 scChain.nd (pcl GP hr (pac (pv 0) (pac (pv 1) ae))))
  (af (psz 3 scChain.nd (pcl GN hr (pac (pv 2) (pac ag ae))))
  (af (psz 4 scChain.nd (aF (pac aJ
    (pac (aU (r:=bU K) aN rfl G.tuple (by decide +kernel) (aa (aT cy (pv 3) bg (aX ag)) ae))
    (pac (aU (r:=bU K) aN rfl G.tuple (by decide +kernel) (aa (aT cy (pv 3) (aX ag) (aX (aw bj ag (pcl GD hr1 (pac (pv 2) (pac ag ae)))))) ae)) ae)))))
  (af (psz 5 scChain.nd (aw wp (aF (pac aJ ae)) (pcl GD hr1 (pac (pv 2) (pac ag ae))))) ht))),?_⟩
 refine ⟨_,rfl,_,rfl,sc,ns,st,rfl,hS,hns,hst0,by lia,λtp t0 htp=>?_⟩;have S1:=al htp (.lst [.int t0]);have tt1:Tp (upd H tp (.lst [.int t0])) tp:=⟨t0,ad⟩;generalize upd H tp (.lst [.int t0])=H1 at S1 tt1 ⊢;refine ⟨_,rfl,tp,6,rfl,tt1,by decide,by decide,λwl ws H2 hwl hwlen hW hwne k2 tt2=>?_⟩;obtain ⟨wLen,wNd,wWd⟩:=hW.ok (by decide);have wLen6:ws.length=6:=wLen;have lw:(ws.map V.str).length=6:=by rw [AD];exact wLen6
 refine ⟨_,rfl,3,rfl,wl,_,rfl,SqL.of hwl,λp3 hp3=>?_⟩;rw [eI (ws.map V.str) (by decide:(0:Int)<=3) (by rw [lw];decide),<- Cg];have s3:=al hp3 (.lst ((ws.take (3:Int).toNat).map V.str));have g3:(upd H2 p3 (.lst ((ws.take (3:Int).toNat).map V.str))) p3=some (.lst ((ws.take 3).map V.str)):=ad;generalize upd H2 p3 (.lst ((ws.take (3:Int).toNat).map V.str))=H3 at s3 g3 ⊢;refine ⟨p3,_,rfl,.inl ⟨SqL.of g3,λp4 hp4=>?_⟩⟩;obtain ⟨H4,eW,s4,g4⟩:=nw hp4 (.tup ((ws.take 3).map V.str));rw [eW];have S24:=s3.trans s4;have tt4:=tt2.same S24;refine ⟨_,rfl,3,rfl,_,rfl,tp,4,rfl,tt4,by decide,by decide,λu t5 hu0 hu1=>?_⟩;have k5:Kp tp H4 (upd H4 tp (.lst [.int t5])):=Kp.tape;have tt5:Tp (upd H4 tp (.lst [.int t5])) tp:=⟨t5,ad⟩;generalize upd H4 tp (.lst [.int t5])=H5 at k5 tt5 ⊢;have hwl5:=k5 _ _ (S24 _ _ hwl) hwne;refine ⟨3,u,rfl,rfl,3+u,rfl,wl,_,rfl,SqL.of hwl5,λp6 hp6=>?_⟩;have ecm:db (ws.map V.str) (some 3) (some (3+u))=((ws.drop 3).take u.toNat).map V.str:=by
  have:=qF (ws.map V.str) (a:=3) (b:=u.toNat) (by rw [lw];lia);rw [show ((3:Nat):Int)=3 from rfl,show ((u.toNat:Nat):Int)=u by lia]at this;rw [this,Cg,List.map_drop]
 rw [ecm];obtain ⟨H6,eW,s6,g6⟩:=nw hp6 (.lst (((ws.drop 3).take u.toNat).map V.str));rw [eW];refine ⟨p6,_,rfl,.inl ⟨SqL.of g6,λp7 hp7=>?_⟩⟩;obtain ⟨H7,eW,s7,g7⟩:=nw hp7 (.tup (((ws.drop 3).take u.toNat).map V.str));rw [eW];refine ⟨dU,λso hso=>?_⟩;obtain ⟨H8,eW,s8,g8⟩:=nw hso (.tup [.str "s",.ref p4,.ref p7]);rw [eW];have S58:Same H5 H8:=λb u h=>s8 _ _ (s7 _ _ (s6 _ _ h));have hok:=j2 wNd wWd wLen6 0 3 u.toNat (by lia) (by lia) (by lia) "s";have e0:ws.drop 0++ws.take 0=ws:=by rw [EZ,BI,Bh]
 rw [e0]at hok;have tt8:=tt5.same S58;have hR8:RepS H8 ⟨"s",ws.take 3,(ws.drop 3).take u.toNat⟩ (.ref so):=⟨so,p4,p7,rfl,g8,S58 _ _ (k5 _ _ g4 λz=>by obtain ⟨t',ht'⟩:=tt4;rw [z,ht']at g4;cases g4),s8 _ _ g7⟩;refine ⟨fc,λp9 hp9=>?_⟩;obtain ⟨H9,eW,s9,g9⟩:=nw hp9 (.tup [.str "s"]);rw [eW];have tt9:=tt8.same s9;refine ⟨_,rfl,tp,4,rfl,tt9,by decide,by decide,λn t10 hn0 hn1=>?_⟩;have k10:Kp tp H9 (upd H9 tp (.lst [.int t10])):=Kp.tape;have tt10:Tp (upd H9 tp (.lst [.int t10])) tp:=⟨t10,ad⟩;generalize upd H9 tp (.lst [.int t10])=H10 at k10 tt10 ⊢;have S59:=S58.trans s9;have tk10:TK H9 H10:=k10.tk tt9;have hR10:=(hR8.mono (aq s9)).mono tk10;have hwl10:=k10 _ _ (S59 _ _ hwl5) hwne;have K10:Kp tp H1 H10:=(((k2.same S24).trans k5).same S59).trans k10;refine ⟨p9,.str "s",n,rfl,rfl,SqT.of (tk10 _ _ g9),by lia,λe=>?_,λp11 hp11 hne=>?_⟩
 ·subst e;exact hread _ _ _ tp wl so p9 ws _ 1 H10 tt10 hwl10 hwne wLen6 wWd hR10 rfl hok (by decide) (tk10 _ _ g9) λv bk H' hB hC k'=>q v bk H' hB hC λb u h=>(K10.trans k') _ _ (S1 _ _ h) (ai h htp)
 ·have s11:=al hp11 (.tup (List.replicate n.toNat (.str "s")));exact hread _ _ _ tp wl so p11 ws _ n.toNat _ (tt10.same s11) (s11 _ _ hwl10) hwne wLen6 wWd (hR10.mono (aq s11)) rfl hok (by lia) ad λv bk H' hB hC k'=>q v bk H' hB hC λb u h=>((K10.same s11).trans k') _ _ (S1 _ _ h) (ai h htp)
theorem Unf.free {rs:List Rul} (ok:RsOk rs) {f g:Fm} (h:Unf rs f g):(f.wf->g.wf)/\ ∀ k∈g.pks,k∉rs.map ao:=by
 induction h with
 | num n=>exact ⟨id,λk hk=>by cases hk⟩
 | @keep f k h t=>
  refine ⟨id,λk' hk' hm=>?_⟩;have:k'=k:=by
   cases f with
   | num n=>cases h
   | own x=>cases h;exact AE.mp hk'
   | part i x=>cases h;exact AE.mp hk'
   | bin op a b=>cases h
   | whn a b c=>cases h
  subst this;obtain ⟨r,hr,rfl⟩:=AK.mp hm;rw [dY ok hr]at t;cases t
 | @put f h g k e t u ih=>
  refine ⟨λ_=>ih.1 ?_,ih.2⟩;have hm:=io (rs:=rs) (k:=k) (by rw [t];rfl);obtain ⟨r,hr,rfl⟩:=AK.mp hm;rw [dY ok hr]at t;cases t;exact (ok.fm r hr).1
 | bin h1 h2 ih1 ih2=>exact ⟨λw=>⟨w.1,ih1.1 w.2.1,ih2.1 w.2.2⟩,λk hk=>(AT.mp hk).elim (ih1.2 k) (ih2.2 k)⟩
 | whn h1 h2 h3 ih1 ih2 ih3=>exact ⟨λw=>⟨ih1.1 w.1,ih2.1 w.2.1,ih3.1 w.2.2⟩,λk hk=>(AT.mp hk).elim (ih1.2 k) λhk=>(AT.mp hk).elim (ih2.2 k) (ih3.2 k)⟩
theorem tK {fr:Frm} {U:KK->Fm} (h:qJ fr U):RsOk (unF U fr).rules/\ ∀ e∈rdF (unF U fr).rules,e.2=[]:=by
 have hk:(unF U fr).rules.map ao=fr.rules.map ao:=by
  show (fr.rules.map (unR U)).map ao=_;rw [BB];rfl
 refine ⟨⟨?_,by rw [hk];exact h.rs.nd,λr hr=>?_⟩,λe he=>?_⟩
 ·show (fr.rules.map (unR U)).length<=12;rw [AD];exact h.rs.few
 ·obtain ⟨r0,h0,rfl⟩:=AK.mp (show r∈fr.rules.map (unR U)from hr);exact ⟨((h.un.un r0 h0).free h.rs).1 (h.rs.fm r0 h0).1,h.un.sz r0 h0⟩
 ·obtain ⟨r,hr,rfl⟩:=AK.mp (show e∈(unF U fr).rules.map _ from he);obtain ⟨r0,h0,rfl⟩:=AK.mp (show r∈fr.rules.map (unR U)from hr);show (((dd [] (U (ao r0)).rdk).map l2p).filter λo=>decide (o∈(unF U fr).rules.map ao))=[];rw [Ep];intro k hk' hc;have hc:=A7 hc;rw [hk]at hc;obtain ⟨x,hx,rfl⟩:=AK.mp hk';refine ((h.un.un r0 h0).free h.rs).2 _ ?_ hc;rw [<- dh];exact AK.mpr ⟨x,(dd_iff.mp hx).elim (λz=>by cases z) id,rfl⟩
def pZ:Sp:=λvs H Q _=> ∃ bv bk,vs=[bv]/\RepB H bk bv/\bk.forms.length<=12/\(∀ fr∈bk.forms,RsOk fr.rules/\ ∀ e∈rdF fr.rules,e.2=[])/\ ∀ H',Same H H'->Q (.bl true) H'
theorem scIsStr:av ["book","form"] ["book"] (ak dL):=fsc
theorem uK (F:Fun K "is_straight" "is_straight" dL f fd) (G:Gb mg) (hany:mg "any"=none)
  (GF:Cl P w K mg base CX0 1 f2 fd2 ["book"] fR "forms_of")
  (GK:Cl P w K mg base CX0 4 f3 fd3 ["form"] gw "keys_read_by_key"):
  a8 P w K mg base CX0 5 f fd ["book"] pZ:=by
 refine F.ok scIsStr (λvs H Q E h=>?_) (λcdv A outer s H vs Q E hr h=>?_)
 ·obtain ⟨bv,bk,rfl,_⟩:=h;rfl
 obtain ⟨bv,bk,rfl,hB,hf12,hok,q⟩:=h;have hr1:=hr.mono (show 1<=4 by decide);refine ⟨_,af (bi A5 rfl (bV (pcl GF hr1 (aa (pv 0) ae))) (pgz 1 scIsStr.nd)
   (aj (bc (cR (au (vA rfl) rfl hany (by decide +kernel) (aa (dN (sc0:=ak dL) (N0:=["book","form"]) (ys:=[]) (fr:=[]) rfl (wk (pcl GK hr (aa (pv 1) ae))) rfl rfl
     cok
     (λC s H ex=>dQ gj (au (r:=cZ K) aE rfl G.len Bd (aa (pv 0) ae)) ag (aL _))) ae)))
    (aj (ay gY)) aK)))
  (aj (ay gY)),?_⟩
 refine ⟨_,rfl,bv,bk,rfl,hB,λfa fv hfa hF=>⟨fa,rfl,⟨fv,SqT.of hfa⟩,?_⟩⟩;refine eV (xs:=fv) (λi σ H'=> ∃ o1,σ=[some bv,o1]/\Same H H') ⟨none,rfl,Same.refl _⟩ (λi σ H' _ h=>by obtain ⟨_,_,s'⟩:=h;exact SqT.of (s' _ _ hfa)) ?_ ?_
 ·rintro i v σ H2 hv ⟨o1,rfl,s2⟩;obtain ⟨fr,hfr,hRF⟩:=aH hF hv;obtain ⟨hrs,hem⟩:=hok fr (AH hfr);refine ⟨_,rfl,v,fr,rfl,hRF.mono (aq s2),hrs,λd kvs H3 hd s3 g3 hP=>?_⟩;have lP:=AZ hP;have l12:=hrs.few;have lrd:(rdF fr.rules).length=fr.rules.length:=by unfold rdF;rw [AD]
  refine ⟨d,kvs,rfl,.inl ⟨g3,λo=>?_⟩⟩;have gF:(upd H3 d (.frz o (.dT kvs))) d=some (.frz o (.dT kvs)):=ad;have sF:Same H2 (upd H3 d (.frz o (.dT kvs))):=λb u h=>by rw [ah (ai h hd)];exact s3 _ _ h
  have hv0:Paired (λ(e:KK×List KK) v=> ∃ l,v=V.ref l/\(upd H3 d (.frz o (.dT kvs))) l=some (.lst [])) (rdF fr.rules) (kvs.map (·.2)):=by
   have go: ∀ {l:Rds} {kv:List (KK×V)},(∀ e∈l,e.2=[])->Paired (RdE H3) l kv->Paired (λ(e:KK×List KK) v=> ∃ l,v=V.ref l/\(upd H3 d (.frz o (.dT kvs))) l=some (.lst [])) l (kv.map (·.2)):=by
    intro l kv he h;induction h with
    | nil=>exact .nil
    | @cons e x l' r' h1 h2 ih=>
     refine .cons ?_ (ih λe' h'=>he e' (A2 _ h'));obtain ⟨_,a,ys,e1,e2,e3⟩:=h1;rw [he e A3]at e3;cases e3;exact ⟨a,e1,by rw [ah (λz=>by rw [z,g3]at e2;cases e2)];exact e2⟩
   exact go hem hP
  generalize upd H3 d (.frz o (.dT kvs))=HF at gF sF hv0 ⊢;refine dG (by rw [AD];lia) hv0 (wN gF) (wM gF) (yl gF) (λ_ _ v=>v=.bl false) (λ_ h=>h) ?_ ?_
  ·rintro e v' H4 k _ ⟨l,rfl,hl⟩ s4 hk;exact ⟨_,rfl,l,[],rfl,.inl (SqL.of (s4 _ _ hl)),_,_,rfl,rfl,hk _ H4 (Same.refl _) rfl⟩
  ·intro p4 zs H4 hp4 s4 g4 hz;have lz:=AZ hz;have ez:zs=(List.replicate (rdF fr.rules).length false).map V.bl:=by
    have: ∀ {l:Rds} {zs:List V},Paired (λ(_:KK×List KK) v=>v=V.bl false) l zs->zs=(List.replicate l.length false).map V.bl:=by
     intro l zs h;induction h with
     | nil=>rfl
     | cons h1 _ ih=>rw [h1,ih];rfl
    exact this hz
   rw [ez]at g4;refine ⟨p4,_,rfl,SqL.of g4,_,rfl,?_⟩;rw [show (List.replicate (rdF fr.rules).length false).any id=false by simp];exact bt ⟨_,rfl,s2.trans (sF.trans s4)⟩
 ·rintro σ H2 ⟨o1,rfl,s2⟩;exact q H2 s2
structure CF (K:W.Frag) (X CB:Addr) (Ds:List Addr) (C D:Addr) (b1 b2:Bool):Prop where
 exc:ExC K X
 cac:CaC K X CB
 no:W.kitAny K (.ref X) (Ds.map Value.ref)=some false
 i1:W.kitOne K (.ref X) (.ref C)=some b1
 i2:W.kitOne K (.ref X) (.ref D)=some b2
 val:W.kitOne K (.ref X) (.type "ValueError")=some true
structure zQ (K:W.Frag) (mg:Str->Option Value) (C D CB D0 D1 D2 D3 D4 D5 D6 D7 D8 D9 D10 D11 D12 D13 D14 D15:Addr):Prop where
 d0:mg "NoBook"=some (.ref D0)
 d1:mg "NoBuild"=some (.ref D1)
 d2:mg "NoChange"=some (.ref D2)
 d3:mg "NoFit"=some (.ref D3)
 d4:mg "NoGiven"=some (.ref D4)
 d5:mg "NoName"=some (.ref D5)
 d6:mg "NoPlace"=some (.ref D6)
 d7:mg "NoPlain"=some (.ref D7)
 d8:mg "NoPrice"=some (.ref D8)
 d9:mg "NoRow"=some (.ref D9)
 d10:mg "NoSpot"=some (.ref D10)
 d11:mg "NoText"=some (.ref D11)
 d12:mg "NoTree"=some (.ref D12)
 d13:mg "NoWorth"=some (.ref D13)
 d14:mg "Ring"=some (.ref D14)
 d15:mg "TooMany"=some (.ref D15)
 c:mg "Tangled"=some (.ref C)
 d:mg "TooGreat"=some (.ref D)
 cb:mg "BoughError"=some (.ref CB)
 ve:mg "ValueError"=none
 fC:CF K C CB [D0,D1,D2,D3,D4,D5,D6,D7,D8,D9,D10,D11,D12,D13,D14,D15] C D true false
 fD:CF K D CB [D0,D1,D2,D3,D4,D5,D6,D7,D8,D9,D10,D11,D12,D13,D14,D15] C D false true
 st:vG K C "form"
def mz (tbA:Addr):Sp:=λvs H Q _=> ∃ bv bk wd y,vs=[bv]/\RepB H bk bv/\bk.forms.length<=12/\(∀ fr∈bk.forms,RsOk fr.rules/\RsS fr.rules)/\TabSt tbA H/\Due bk wd y/\
 (wd="tangled"-> ∀ r H',Same H H'->H' r=some (.tup [.str "tangled",y])->Q (.ref r) H')/\(wd="great"-> ∀ r H',Same H H'->H' r=some (.tup [.str "great",.non])->Q (.ref r) H')/\
 (wd="made"-> ∀ r u H',Kp tbA H H'->TabSt tbA H'->H' r=some (.tup [.str "made",u])->RepB H' (yV iT bk) u->(∀ fr∈bk.forms,qJ fr (iT fr))->Q (.ref r) H')
abbrev Au:List Str:=["book","found","caught","e"]
theorem scAns:av Au ["book"] (ak ly):=fsc
theorem rW (F:Fun K "_law_answer" "_law_answer" ly f fd) (hisi:mg "isinstance"=none) (h:zQ K mg C D CB D0 D1 D2 D3 D4 D5 D6 D7 D8 D9 D10 D11 D12 D13 D14 D15)
  (GB:Cl P w K mg base (CXm P w [C,D]) 7 g gd ["book"] (pY C D tbA) "made_straight"):
  a8 P w K mg base CX0 8 f fd ["book"] (mz tbA):=by
 refine F.ok scAns (λvs H Q E h=>?_) (λcdv A outer s H vs Q E hr hq=>?_)
 ·obtain ⟨bv,bk,wd,y,rfl,_⟩:=h;rfl
 obtain ⟨bv,bk,wd,y,rfl,hB,h12,hok,tt,hDue,qT,qG,qM⟩:=hq;refine ⟨_,af (psz 1 scAns.nd eS)
  (af (psz 2 scAns.nd eS)
  (af (v8 (j:=1) (i:=3) (λ_ _ z=>z) rfl rfl scAns.nd GB.F hr rfl GB.m GB.c GB.b (aa (pv 0) ae) rfl (Or.inl rfl) rfl rfl rfl h.cb
    (λX hX=>(AY.mp hX).elim (λe=>by rw [e];exact h.fC.cac) λe=>by rw [AE.mp e];exact h.fD.cac) (λx=>aj (psz 2 scAns.nd (pv 3))))
  (af (bc (ax uz (pv 2) eS (aL _)) (aj (ay (aF (aa aJ (aa (pv 1) ae))))) aK)
  (af (bc (jp (cR (au fK rfl hisi (by decide +kernel) (aa (pv 2) (aa (fU (v:=.ty "ValueError") rfl h.ve (by decide +kernel) rfl) ae))))) (aj (ay (aF (aa aJ (aa eS ae))))) aK)
  (af (bc (cR (au sJ rfl hisi (by decide +kernel) (aa (pv 2) (aa (aF (pac (bh (v:=.ref D0) rfl h.d0 rfl) (pac (bh (v:=.ref D1) rfl h.d1 rfl) (pac (bh (v:=.ref D2) rfl h.d2 rfl) (pac (bh (v:=.ref D3) rfl h.d3 rfl) (pac (bh (v:=.ref D4) rfl h.d4 rfl) (pac (bh (v:=.ref D5) rfl h.d5 rfl) (pac (bh (v:=.ref D6) rfl h.d6 rfl) (pac (bh (v:=.ref D7) rfl h.d7 rfl) (pac (bh (v:=.ref D8) rfl h.d8 rfl) (pac (bh (v:=.ref D9) rfl h.d9 rfl) (pac (bh (v:=.ref D10) rfl h.d10 rfl) (pac (bh (v:=.ref D11) rfl h.d11 rfl) (pac (bh (v:=.ref D12) rfl h.d12 rfl) (pac (bh (v:=.ref D13) rfl h.d13 rfl) (pac (bh (v:=.ref D14) rfl h.d14 rfl) (pac (bh (v:=.ref D15) rfl h.d15 rfl) ae))))))))))))))))) ae)))) (aj (ay (aF (aa aJ (aa eS ae))))) aK)
  (af (bc (PW.pt (fE (cR (au fK rfl hisi (by decide +kernel) (aa (pv 2) (aa (bh (v:=.ref C) rfl h.c rfl) ae)))) (dM (jp (cR (au fK rfl hisi (by decide +kernel) (aa (pv 2) (aa (bh (v:=.ref D) rfl h.d rfl) ae))))))))
    (aj (ay (aF (aa aJ (aa (wm h.fC.exc h.st (pv 2) rfl) ae))))) aK)
  (af (bc (PW.pt (fE (cR (au fK rfl hisi (by decide +kernel) (aa (pv 2) (aa (bh (v:=.ref D) rfl h.d rfl) ae)))) (dM (jp (cR (au fK rfl hisi (by decide +kernel) (aa (pv 2) (aa (bh (v:=.ref C) rfl h.c rfl) ae))))))))
    (aj (ay (aF (aa aJ (aa eS ae))))) aK)
  (aj (ay (aF (aa aJ (aa eS ae)))))))))))),?_⟩
 refine ⟨_,rfl,bv,bk,rfl,hB,h12,hok,tt,λi fr hfr hbe hA d H1 S1 gd X x e hx=>?A,λhAll=>⟨iT,?U,λhG H1 S1 X x e hx=>?B,λhst u H1 k1 t1 hu=>?M⟩⟩
 case U=>
  rcases hDue with ⟨_,i,fr,hfr,_,hn,_⟩ | ⟨ha,_⟩
  ·exact absurd (hAll fr (AH hfr)) hn
  ·exact λfr hfr=>(ha fr hfr).2
 case M=>
  refine ⟨_,rfl,rfl,_,rfl,?_⟩;refine bL ⟨_,rfl,cB,λr hc=>?_⟩;have s2:=al hc (.tup [.str "made",u]);refine qM ?_ r u _ (k1.same s2) (t1.same s2) ad (hu.mono (aq s2)) hst;rcases hDue with ⟨_,i,fr,hfr,_,hn,_⟩ | ⟨ha,⟨_,fr,hfr,r,hr,h4⟩ | ⟨e,_⟩⟩
  ·exact absurd (hAll fr (AH hfr)) hn
  ·exact absurd ((hst fr hfr).un.sz r hr) (by lia)
  ·exact e
 case' A=>
  obtain ⟨b1,b2,od,Z,W⟩: ∃ b1 b2,∃ od:Option Addr,CF K X CB [D0,D1,D2,D3,D4,D5,D6,D7,D8,D9,D10,D11,D12,D13,D14,D15] C D b1 b2/\od=some d/\((b1=true/\b2=false/\X=C/\ ∃ d y,od=some d/\H1 d=some (.xd [("form",y)])/\ ∀ r H',Same H H'->H' r=some (.tup [.str "tangled",y])->Q (.ref r) H')\/(b1=false/\b2=true/\ ∀ r H',Same H H'->H' r=some (.tup [.str "great",.non])->Q (.ref r) H')):=by
   refine ⟨true,false,some d,by rw [<- Fk e];exact h.fC,rfl,.inl ⟨rfl,rfl,(Fk e).symm,d,_,rfl,gd,?_⟩⟩;rcases hDue with ⟨e,i',fr',hfr',hbe',hn',ey⟩ | ⟨ha,_⟩
   ·have:i=i':=by
     rcases Nat.lt_trichotomy i i' with c | c | c
     ·exact absurd (hbe' fr (AH (by rw [C6 c];exact hfr))) hA
     ·exact c
     ·exact absurd (hbe fr' (AH (by rw [C6 c];exact hfr'))) hn'
    subst this;rw [hfr]at hfr';cases hfr';rw [<- ey];exact qT e
   ·exact absurd (ha fr (AH hfr)).1 hA
  obtain ⟨eo,W⟩:=W;rw [<- eo]
 case' B=>
  obtain ⟨b1,b2,od,Z,W⟩: ∃ b1 b2,∃ od:Option Addr,CF K X CB [D0,D1,D2,D3,D4,D5,D6,D7,D8,D9,D10,D11,D12,D13,D14,D15] C D b1 b2/\od=none/\((b1=true/\b2=false/\X=C/\ ∃ d y,od=some d/\H1 d=some (.xd [("form",y)])/\ ∀ r H',Same H H'->H' r=some (.tup [.str "tangled",y])->Q (.ref r) H')\/(b1=false/\b2=true/\ ∀ r H',Same H H'->H' r=some (.tup [.str "great",.non])->Q (.ref r) H')):=by
   refine ⟨false,true,none,by rw [<- Fk e];exact h.fD,rfl,.inr ⟨rfl,rfl,qG ?_⟩⟩;rcases hDue with ⟨_,i,fr,hfr,_,hn,_⟩ | ⟨ha,⟨e,_⟩ | ⟨_,hf⟩⟩
   ·exact absurd (hAll fr (AH hfr)) hn
   ·exact e
   ·obtain ⟨fr,hfr,r,hr,h4⟩:=hG;exact absurd (hf fr hfr r hr) (by lia)
  obtain ⟨eo,W⟩:=W;rw [<- eo]
 all_goals
  have s2':=al hx (ExO x X od);have S2:=S1.trans s2';have g2:(upd H1 x (ExO x X od)) x=some (ExO x X od):=ad;generalize upd H1 x (ExO x X od)=H2 at S2 g2 s2' ⊢;refine ⟨_,rfl,_,rfl,rfl,_,rfl,?_⟩;refine bt ?_;refine ⟨_,rfl,x,_,od,.ty "ValueError",.type "ValueError",true,rfl,g2,Z.exc,λu z=>z,Z.val,_,rfl,?_⟩;refine bt ?_;refine ⟨_,rfl,(by show 16<=sizeLine;decide),λp hp=>?_⟩;have s3:=al hp (.tup [V.ref D0,V.ref D1,V.ref D2,V.ref D3,V.ref D4,V.ref D5,V.ref D6,V.ref D7,V.ref D8,V.ref D9,V.ref D10,V.ref D11,V.ref D12,V.ref D13,V.ref D14,V.ref D15]);have g3:(upd H2 p (.tup [V.ref D0,V.ref D1,V.ref D2,V.ref D3,V.ref D4,V.ref D5,V.ref D6,V.ref D7,V.ref D8,V.ref D9,V.ref D10,V.ref D11,V.ref D12,V.ref D13,V.ref D14,V.ref D15])) p=some (.tup [V.ref D0,V.ref D1,V.ref D2,V.ref D3,V.ref D4,V.ref D5,V.ref D6,V.ref D7,V.ref D8,V.ref D9,V.ref D10,V.ref D11,V.ref D12,V.ref D13,V.ref D14,V.ref D15]):=ad;have gx:=s3 _ _ g2;generalize upd H2 p (.tup [V.ref D0,V.ref D1,V.ref D2,V.ref D3,V.ref D4,V.ref D5,V.ref D6,V.ref D7,V.ref D8,V.ref D9,V.ref D10,V.ref D11,V.ref D12,V.ref D13,V.ref D14,V.ref D15])=H3 at s3 g3 gx ⊢;refine ⟨x,_,od,p,[D0,D1,D2,D3,D4,D5,D6,D7,D8,D9,D10,D11,D12,D13,D14,D15],false,rfl,gx,Z.exc,g3,Z.no,_,rfl,?_⟩;refine bt ?_;refine ⟨_,rfl,x,_,od,.ref C,.ref C,b1,rfl,gx,Z.exc,λu z=>z,Z.i1,_,rfl,?_⟩;rcases W with ⟨rfl,rfl,rfl,d',y',rfl,gd',W⟩ | ⟨rfl,rfl,W⟩
  ·refine bL ⟨_,rfl,x,_,_,.ref D,.ref D,false,rfl,gx,Z.exc,λu z=>z,Z.i2,_,rfl,bL ⟨_,rfl,x,d',_,y',rfl,gx,s3 _ _ (s2' _ _ gd'),rfl,cB,λr hr=>?_⟩⟩;exact W r _ ((S2.trans s3).trans (al hr _)) ad
  ·refine bt ⟨_,rfl,x,_,_,.ref D,.ref D,true,rfl,gx,Z.exc,λu z=>z,Z.i2,_,rfl,bL ⟨_,rfl,x,_,_,.ref C,.ref C,false,rfl,gx,Z.exc,λu z=>z,Z.i1,_,rfl,bL ⟨cB,λr hr=>?_⟩⟩⟩;exact W r _ ((S2.trans s3).trans (al hr _)) ad
structure BkR (bk:Bk):Prop where
 fl:bk.forms.length<=12
 fo: ∀ fr∈bk.forms,RsOk fr.rules/\RsS fr.rules/\RsL fr.rules/\shS fr.name
theorem BkC.r {bk:Bk} (h:BkC bk):BkR bk:=⟨h.fl,λfr hfr=>⟨(h.fo fr hfr).rs,(h.fo fr hfr).ss,(h.fo fr hfr).rl,(h.fo fr hfr).nm⟩⟩
def pW:Sp:=λvs H Q _=> ∃ x:Str,vs=[.str x,.str x]/\x.length<=1000/\ ∀ H',Same H H'->Q (.bl true) H'
def mw (tbA:Addr):Sp:=λvs H Q _=> ∃ bv bk,vs=[bv]/\RepB H bk bv/\BkR bk/\TabSt tbA H/\ ∀ H',Kp tbA H H'->TabSt tbA H'->Q (.bl true) H'
def tQ:Sp:=λvs H Q _=> ∃ bv bk cv ck,vs=[bv,cv]/\RepB H bk bv/\BkC bk/\RepB H ck cv/\BkC ck/\ck.forms≠[]/\ck.sorts≠[]/\
 ∀ l v1 v2 b1 b2 H',Same H H'->H' l=some (.lst [v1,v2])->RepB H' b1 v1->BkR b1->RepB H' b2 v2->BkR b2->Q (.ref l) H'
inductive my (K:W.Frag) (tbA:Addr) (vs:List V) (H:Hp) (Q:VK) (E_:XK):Prop
 | mk: ∀ (a:Addr) (ns:List Int),(vs=[.ref a])->(SqL K H a (ns.map V.int))->(ns.length<=63)->(TabSt tbA H)->(∀ H',Q (.bl true) H')->my K tbA vs H Q E_
theorem xJ:av ["found","due"] ["found","due"] (ak tW):=fsc
theorem uE (F:Fun K "_law_same" "_law_same" tW f fd) (G:Gb mg) (hlist:mg "list"=none):a8 P w K mg base CX0 1 f fd ["found","due"] pW:=by
 refine F.ok xJ (λvs H Q E h=>?_) (λcdv A outer s H vs Q E hr h=>?_)
 ·obtain ⟨v,rfl,_⟩:=h;rfl
 obtain ⟨x,rfl,hx,q⟩:=h;refine ⟨_,af (bc (cR (au sK rfl G.isi (by decide +kernel) (aa (pv 1) (aa (aF (aa (fU (v:=.ty "tuple") rfl G.tuple (by decide +kernel) rfl) (aa (fU (v:=.ty "list") rfl hlist (by decide +kernel) rfl) ae))) ae)))) dy aK)
  (af (bc (ax uz (pv 1) eS (aL _)) dy aK)
  (af (bc (cR (au jN rfl G.isi (by decide +kernel) (aa (pv 1) (aa (fU (v:=.ty "bool") rfl G.bool (by decide +kernel) rfl) ae)))) dy aK)
  (af (bc (cR (au jN rfl G.isi (by decide +kernel) (aa (pv 1) (aa (fU (v:=.ty "str") rfl G.str (by decide +kernel) rfl) ae))))
   (aj (ay (xT (au jN rfl G.isi (by decide +kernel) (aa (pv 0) (aa (fU (v:=.ty "str") rfl G.str (by decide +kernel) rfl) ae))) (um (dQ cr (pv 0) (pv 1) (aL _)))))) aK)
  dy))),?_⟩
 refine ⟨_,rfl,cB,λp0 h0=>?_⟩;obtain ⟨H0,eW,s0,g0⟩:=nw h0 (.tup [.ty "tuple",.ty "list"]);rw [eW];refine ⟨_,p0,false,rfl,g0,.str x,_,rfl,?_⟩;refine bt ⟨_,rfl,rfl,_,rfl,?_⟩;rw [show decide (V.str x=V.non)=false from AW λe=>nomatch e];refine bt ⟨_,rfl,_,"bool",rfl,hx,by simp,_,rfl,?_⟩;rw [show isV "bool" H0 (V.str x)=false from rfl];refine bt ⟨_,rfl,_,"str",rfl,hx,by simp,_,rfl,?_⟩;rw [show isV "str" H0 (V.str x)=true from rfl];refine bL ⟨_,rfl,_,"str",rfl,hx,by simp,_,rfl,?_⟩;rw [show isV "str" H0 (V.str x)=true from rfl];refine bL ⟨_,rfl,_,rfl,rfl,?_⟩;rw [AO rfl];exact q H0 s0
theorem scRightT:av ["book","due","found"] ["book"] (ak lm):=fsc
theorem rL (F:Fun K "_law_right" "_law_right" lm f fd)
  (GS:Cl P w K mg base CX0 18 f2 fd2 ["book"] iL "_law_straight")
  (GM:Cl P w K mg base CX0 8 f3 fd3 ["book"] (mz tbA) "_law_answer")
  (GE:Cl P w K mg base CX0 1 f4 fd4 ["found","due"] pW "_law_same")
  (GI:Cl P w K mg base CX0 5 f5 fd5 ["book"] pZ "is_straight"):
  a8 P w K mg base CX0 19 f fd ["book"] (mw tbA):=by
 refine F.ok scRightT (λvs H Q E h=>?_) (λcdv A outer s H vs Q E hr h=>?_)
 ·obtain ⟨bv,bk,rfl,_⟩:=h;rfl
 obtain ⟨bv,bk,rfl,hB,hC,tt,q⟩:=h;have hr1:=hr.mono (show 1<=18 by decide);have hr5:=hr.mono (show 5<=18 by decide);have hr8:=hr.mono (show 8<=18 by decide);refine ⟨_,af (psz 1 scRightT.nd (pcl GS hr (aa (pv 0) ae)))
  (af (psz 2 scRightT.nd (pcl GM hr8 (aa (pv 0) ae)))
  (af (bc (ax xm (ar (r:=bf K) aA (pv 2) ag (λ_ _=>rfl)) (ar (r:=bf K) aA (pv 1) ag (λ_ _=>rfl)) (aL _)) dy aK)
  (af (bc (ax cr (ar (r:=bf K) aA (pv 1) ag (λ_ _=>rfl)) aJ (aL _)) (aj (ay (pcl GE hr1 (aa (ar (r:=bf K) aA (pv 2) ag (λ_ _=>rfl)) (aa (ar (r:=bf K) aA (pv 1) ag (λ_ _=>rfl)) ae))))) aK)
  (aj (ay (zi (dQ cr (ar (r:=bf K) aA (pv 1) ag (λ_ _=>rfl)) aJ (aL _)) (um (dQ uy (pcl GI hr5 (aa (ar (r:=bf K) aA (pv 2) ag (λ_ _=>rfl)) ae)) gY (aL _))))))))),?_⟩
 refine ⟨_,rfl,bv,bk,rfl,hB,hC.fl,λfr hfr=>⟨(hC.fo fr hfr).1,(hC.fo fr hfr).2.1,(hC.fo fr hfr).2.2.1⟩,λp wd y H1 s1 g1 hDue=>?_⟩;have tt1:=tt.same s1;refine ⟨_,rfl,bv,bk,wd,y,rfl,hB.mono (aq s1),hC.fl,λfr hfr=>⟨(hC.fo fr hfr).1,(hC.fo fr hfr).2.1⟩,tt1,hDue,λe r H2 s2 g2=>?T,λe r H2 s2 g2=>?G,λe r u H2 k2 tt2 g2 hBu hst=>?M⟩
 case T=>
  subst e;have g1':=s2 _ _ g1;obtain ⟨x,rfl,hx⟩: ∃ x:Str,y=.str x/\x.length<=1000:=by
   rcases hDue with ⟨_,i,fr,hfr,_,_,ey⟩ | ⟨_,⟨e,_⟩ | ⟨e,_⟩⟩
   ·exact ⟨_,ey,(hC.fo fr (AH hfr)).2.2.2⟩
   ·exact absurd e (by decide +kernel)
   ·exact absurd e (by decide +kernel)
  refine ⟨_,rfl,r,_,0,.str "tangled",rfl,rfl,SqT.of g2,bx,_,rfl,p,_,0,.str "tangled",rfl,rfl,SqT.of g1',bx,rfl,_,rfl,?_⟩;rw [AO rfl];refine bt ⟨_,rfl,p,_,0,.str "tangled",rfl,rfl,SqT.of g1',bx,rfl,_,rfl,?_⟩;rw [AO rfl];refine bL ⟨_,rfl,r,_,1,.str x,rfl,rfl,SqT.of g2,me,_,rfl,p,_,1,.str x,rfl,rfl,SqT.of g1',me,x,rfl,hx,λH3 s3=>?_⟩;exact q H3 (((Kp.refl.same s1).same s2).same s3) ((tt1.same s2).same s3)
 case G=>
  subst e;have g1':=s2 _ _ g1;refine ⟨_,rfl,r,_,0,.str "great",rfl,rfl,SqT.of g2,bx,_,rfl,p,_,0,.str "great",rfl,rfl,SqT.of g1',bx,rfl,_,rfl,?_⟩;rw [AO rfl];refine bt ⟨_,rfl,p,_,0,.str "great",rfl,rfl,SqT.of g1',bx,rfl,_,rfl,?_⟩;rw [fj,AW (show ¬ ("great":Str)="tangled" by decide +kernel)];refine bt ⟨_,rfl,p,_,0,.str "great",rfl,rfl,SqT.of g1',bx,rfl,_,rfl,?_⟩;rw [AO rfl];exact bL (q H2 ((Kp.refl.same s1).same s2) (tt1.same s2))
 case M=>
  subst e;have g1':=tt1.tk k2 _ _ g1;refine ⟨_,rfl,r,_,0,.str "made",rfl,rfl,SqT.of g2,bx,_,rfl,p,_,0,.str "made",rfl,rfl,SqT.of g1',bx,rfl,_,rfl,?_⟩;rw [AO rfl];refine bt ⟨_,rfl,p,_,0,.str "made",rfl,rfl,SqT.of g1',bx,rfl,_,rfl,?_⟩;rw [fj,AW (show ¬ ("made":Str)="tangled" by decide +kernel)];refine bt ⟨_,rfl,p,_,0,.str "made",rfl,rfl,SqT.of g1',bx,rfl,_,rfl,?_⟩;rw [fj,AW (show ¬ ("made":Str)="great" by decide +kernel)];refine bt ⟨_,rfl,r,_,1,u,rfl,rfl,SqT.of g2,me,u,_,rfl,hBu,?_,?_,λH3 s3=>⟨true,true,rfl,rfl,?_⟩⟩
  ·show (List.map _ bk.forms).length<=12;rw [AD];exact hC.fl
  ·intro fr hfr;obtain ⟨fr0,h0,rfl⟩:=AK.mp (show fr∈List.map _ bk.forms from hfr);exact tK (hst fr0 h0)
  ·exact q H3 (((Kp.refl.same s1).trans k2).same s3) (tt2.same s3)
abbrev NBo:List Str:=["book","other","taken","name","form","sorts"]
theorem scBoth:av NBo ["book","other"] (ak mG):=fsc
theorem l3 {α:Type}: ∀ {as:List α} {zs:List V},Paired (λ_ v=>dS v=true) as zs->zs.all dS=true
 | _,_,.nil=>rfl
 | _,_,.cons a t=>by rw [Fh,a,l3 t];rfl
theorem lJ {α:Type} {R:α->V->Prop}: ∀ {as bs:List α} {xs ys:List V},Paired R as xs->Paired R bs ys->Paired R (as++bs) (xs++ys)
 | _,_,_,_,.nil,h=>h
 | _,_,_,_,.cons a t,h=>.cons a (lJ t h)
theorem ww (F:Fun K "_law_both" "_law_both" mG f fd) (G:Gb mg):a8 P w K mg base CX0 1 f fd ["book","other"] tQ:=by
 refine F.ok scBoth (λvs H Q E h=>?_) (λcdv A outer s H vs Q E hr h=>?_)
 ·obtain ⟨bv,bk,cv,ck,rfl,_⟩:=h;rfl
 obtain ⟨bv,bk,cv,ck,rfl,hB,hC,hB2,hC2,hnf,hns,q⟩:=h;refine ⟨_,af (psz 2 scBoth.nd (aw fH
    (dN (sc0:=ak mG) (N0:=NBo) (ys:=[]) (fr:=[]) rfl (bV (ar (r:=bf K) aA (pv 0) ag (λ_ _=>rfl))) rfl rfl
     cok (λC s H ex=>ar (r:=bf K) aA (pv 0) ag (λ_ _=>rfl)))
    (dN (sc0:=ak mG) (N0:=NBo) (ys:=[]) (fr:=[]) rfl (bV (ar (r:=bf K) aA (pv 0) ag (λ_ _=>rfl))) rfl rfl
     cok (λC s H ex=>ar (r:=bf K) aA (pv 0) ag (λ_ _=>rfl)))))
  (af (psz 3 scBoth.nd aJ)
  (af (bc (ax cV (pv 3) (pv 2) (by with_unfolding_all rfl)) (aj (psz 3 scBoth.nd aJ)) aK)
  (af (bc (PW.pt (qf (ax gj (au (r:=cZ K) aE rfl G.len Bd (aa (ar (r:=bf K) aA (pv 0) ag (λ_ _=>rfl)) ae)) ag (aL _))
    (qf (ax gj (au (r:=cZ K) aE rfl G.len Bd (aa (ar (r:=bf K) aA (pv 0) ag (λ_ _=>rfl)) ae)) ag (aL _))
    (oG (ax cV (ar (r:=bf K) aA (ar (r:=bf K) aA (ar (r:=bf K) aA (pv 1) ag (λ_ _=>rfl)) ag (λ_ _=>rfl)) ag (λ_ _=>rfl)) (pv 2) (by with_unfolding_all rfl))))))
   (aj (ay (bd (aa (pv 0) (aa (pv 1) ae))))) aK)
  (af (psz 4 scBoth.nd (aw dq (aF (aa (pv 3) ae)) (aT dg (ar (r:=bf K) aA (ar (r:=bf K) aA (pv 1) ag (λ_ _=>rfl)) ag (λ_ _=>rfl)) (aX ag) bg)))
  (af (psz 5 scBoth.nd (aw dq (ar (r:=bf K) aA (pv 0) ag (λ_ _=>rfl)) (ar (r:=bf K) aA (pv 1) ag (λ_ _=>rfl))))
  (aj (ay (bd (aa (aF (aa (ar (r:=bf K) aA (pv 0) ag (λ_ _=>rfl)) (aa (pv 5) (aa (aw dq (ar (r:=bf K) aA (pv 0) ag (λ_ _=>rfl)) (aF (aa (pv 4) ae))) ae))))
   (aa (aF (aa (ar (r:=bf K) aA (pv 0) ag (λ_ _=>rfl)) (aa (pv 5) (aa (aw dq (aF (aa (pv 4) ae)) (ar (r:=bf K) aA (pv 0) ag (λ_ _=>rfl))) ae)))) ae)))))))))),?_⟩
 obtain ⟨b,sa,fa,fv,rfl,hb,⟨sx,hsa,hSs⟩,hfa,hF⟩:=id hB;obtain ⟨c,ca,ga,gv,rfl,hc,⟨cx,hca,hCs⟩,hga,hF2⟩:=id hB2;have lF:=hF.len;have lS:bk.sorts.length=sx.length:=hSs.len;have l12:=hC.fl;have l4:=hC.sl;have lC:ck.sorts.length=cx.length:=hCs.len;have l4':=hC2.sl;refine ⟨_,rfl,b,_,2,.ref fa,rfl,rfl,SqT.of hb,sM,fa,rfl,⟨fv,SqT.of hfa⟩,?_⟩;refine dG (xs:=fv) (by lia) hF (fY hfa) (fX hfa) (iB hfa) (λ_ _ v=>dS v=true) (λ_ h=>h) ?_ ?_
 ·rintro fr v H1 k _ ⟨a1,pa,ra,rv,rfl,h1,_⟩ s1 hk;exact ⟨_,rfl,a1,_,0,_,rfl,rfl,SqT.of (s1 _ _ h1),bx,hk _ H1 (Same.refl _) rfl⟩
 intro p1 z1 H1 hp1 s1 g1 hz1;have lz1:=AZ hz1;refine ⟨_,rfl,b,_,1,.ref sa,rfl,rfl,SqT.of (s1 _ _ hb),me,sa,rfl,⟨sx,SqT.of (s1 _ _ hsa)⟩,?_⟩;refine dG (xs:=sx) (by lia) (hSs.mono (aq s1)) (fY (s1 _ _ hsa)) (fX (s1 _ _ hsa)) (iB (s1 _ _ hsa)) (λ_ _ v=>dS v=true) (λ_ h=>h) ?_ ?_
 ·rintro sr v H2 k _ ⟨a1,b1,c1,rfl,h1,_⟩ s2 hk;exact ⟨_,rfl,a1,_,0,_,rfl,rfl,SqT.of (s2 _ _ h1),bx,hk _ H2 (Same.refl _) rfl⟩
 intro p2 z2 H2 hp2 s2 g2 hz2;have lz2:=AZ hz2;refine ⟨p1,p2,z1,z2,rfl,rfl,s2 _ _ g1,g2,Bj (am (show z1.length+z2.length<=1000 by lia)),λp3 hp3=>?_⟩;have s3:=al hp3 (.lst (z1++z2));have g3:(upd H2 p3 (.lst (z1++z2))) p3=some (.lst (z1++z2)):=ad;have hz3:(z1++z2).all dS=true:=by rw [List.all_append,l3 hz1,l3 hz2];rfl
 generalize upd H2 p3 (.lst (z1++z2))=H3 at s3 g3 ⊢;have S3:Same H H3:=(s1.trans s2).trans s3;refine ⟨_,rfl,_,rfl,p3,_,rfl,.inl (SqL.of g3),rfl,hz3,_,rfl,?_⟩;obtain ⟨v0,hv0⟩: ∃ v0,gv[0]? =some v0:=⟨gv[0]'(by rw [<- hF2.len];exact List.length_pos_iff.mpr hnf),AG _⟩;obtain ⟨f0,hf0,a0,pa0,ra0,rv0,rfl,ha0,hpa0,hra0,hR0⟩:=aH hF2 hv0;obtain ⟨y0,hy0⟩: ∃ y0,cx[0]? =some y0:=⟨cx[0]'(by rw [<- lC];exact List.length_pos_iff.mpr hns),AG _⟩;obtain ⟨r0,hr0,a9,b9,c9,rfl,ha9,_,_⟩:=aH hCs hy0;have h0C:=hC2.fo f0 (AH hf0);have ret: ∀ l,H3 l=none->Q (.ref l) (upd H3 l (.lst [.ref b,.ref c])):=λl hl=>q l _ _ bk ck _ (S3.trans (al hl _)) ad (hB.mono (aq (S3.trans (al hl _)))) hC.r (hB2.mono (aq (S3.trans (al hl _)))) hC2.r;refine uY 3 (λv H'=>H3=H'/\ ∃ nm:Str,v=.str nm/\shS nm) (.str "lastone") rfl (λ_=>⟨rfl,_,rfl,cK (by decide +kernel)⟩) (λvn H3' ⟨eH,nm,ev,hs⟩=>?_) (λ_ hN=>hN _ _ ⟨rfl,_,rfl,cK (by decide +kernel)⟩);subst eH ev
 focus
  refine ⟨_,rfl,b,_,1,.ref sa,rfl,rfl,SqT.of (S3 _ _ hb),me,sa,sx,rfl,.inr (SqT.of (S3 _ _ hsa)),_,_,rfl,rfl,_,rfl,?_⟩;by_cases c1:(3:Int) < (sx.length:Int)
  ·rw [AO c1];exact bL ⟨_,rfl,_,rfl,cB,ret⟩
  rw [AW c1];refine bt ⟨_,rfl,b,_,2,.ref fa,rfl,rfl,SqT.of (S3 _ _ hb),sM,fa,fv,rfl,.inr (SqT.of (S3 _ _ hfa)),_,_,rfl,rfl,_,rfl,?_⟩;by_cases c2:(9:Int) < (fv.length:Int)
  ·rw [AO c2];exact bL ⟨_,rfl,_,rfl,cB,ret⟩
  rw [AW c2];refine bt ⟨_,rfl,c,_,1,.ref ca,rfl,rfl,SqT.of (S3 _ _ hc),me,ca,cx,0,.ref a9,rfl,rfl,SqT.of (S3 _ _ hca),aZ hy0,a9,_,0,_,rfl,rfl,SqT.of (S3 _ _ ha9),bx,_,rfl,p3,_,rfl,.inl (SqL.of g3),rfl,hz3,_,rfl,?_⟩;cases inV (V.str r0.name) (z1++z2)
  ·refine bt ⟨_,rfl,fc,λt1 ht1=>?_⟩;obtain ⟨H4,eW,s4,g4⟩:=nw ht1 (.tup [V.str nm]);rw [eW];refine ⟨_,rfl,c,_,2,.ref ga,rfl,rfl,SqT.of (s4 _ _ (S3 _ _ hc)),sM,ga,gv,0,.ref a0,rfl,rfl,SqT.of (s4 _ _ (S3 _ _ hga)),aZ hv0,1,rfl,a0,_,rfl,s4 _ _ (S3 _ _ ha0),λp5 H5 s5 g5=>?_⟩;have g5:H5 p5=some (.tup [.str f0.own.name,.ref pa0,.ref ra0]):=g5;refine ⟨t1,p5,_,_,rfl,rfl,s5 _ _ g4,g5,(by show 1+3<=sizeLine;decide),λp6 H6 s6 g6=>?_⟩;have g6:H6 p6=some (.tup [.str nm,.str f0.own.name,.ref pa0,.ref ra0]):=g6;have S6:Same H H6:=λb u h=>s6 _ _ (s5 _ _ (s4 _ _ (S3 _ _ h)));refine ⟨_,rfl,b,_,1,.ref sa,rfl,rfl,SqT.of (S6 _ _ hb),me,_,rfl,c,_,1,.ref ca,rfl,rfl,SqT.of (S6 _ _ hc),me,sa,ca,_,_,rfl,rfl,S6 _ _ hsa,S6 _ _ hca,Bj (am (show sx.length+cx.length<=1000 by lia)),λp7 H7 s7 g7=>?_⟩;have s7:Same H6 H7:=s7;have S7:=S6.trans s7;refine ⟨_,rfl,b,_,0,.int bk.wheel,rfl,rfl,SqT.of (S7 _ _ hb),bx,_,rfl,_,rfl,b,_,2,.ref fa,rfl,rfl,SqT.of (S7 _ _ hb),sM,_,rfl,fc,λt8 ht8=>?_⟩;obtain ⟨H8,eW,s8,g8⟩:=nw ht8 (.tup [.ref p6]);rw [eW];refine ⟨fa,t8,_,_,rfl,rfl,s8 _ _ (S7 _ _ hfa),g8,Bj (am (show fv.length+1<=1000 by lia)),λp9 H9 s9 g9=>?_⟩;have s9:Same H8 H9:=s9;refine ⟨dU,λq1 hq1=>?_⟩;obtain ⟨H10,eW,s10,g10⟩:=nw hq1 (.tup [.int bk.wheel,.ref p7,.ref p9]);rw [eW];have s70:=(s8.trans s9).trans s10;have S10:=S7.trans s70;refine ⟨_,rfl,b,_,0,.int bk.wheel,rfl,rfl,SqT.of (S10 _ _ hb),bx,_,rfl,_,rfl,fc,λt11 ht11=>?_⟩;obtain ⟨H11,eW,s11,g11⟩:=nw ht11 (.tup [.ref p6]);rw [eW];have S11:=S10.trans s11;refine ⟨_,rfl,b,_,2,.ref fa,rfl,rfl,SqT.of (S11 _ _ hb),sM,t11,fa,_,_,rfl,rfl,g11,S11 _ _ hfa,Bj (am (show 1+fv.length<=1000 by lia)),λp12 H12 s12 g12=>?_⟩;have s12:Same H11 H12:=s12;refine ⟨dU,λq2 hq2=>?_⟩;obtain ⟨H13,eW,s13,g13⟩:=nw hq2 (.tup [.int bk.wheel,.ref p7,.ref p12]);rw [eW];refine ⟨cB,λl hl=>?_⟩;obtain ⟨HF,eW,s14,g14⟩:=nw hl (.lst [.ref q1,.ref q2]);rw [eW];have e12:Same H12 HF:=s13.trans s14;have e10:Same H10 HF:=(s11.trans s12).trans e12;have e9:Same H9 HF:=s10.trans e10;have e7:Same H7 HF:=s70.trans e10;have SF:Same H HF:=S7.trans e7;have hso:SrtsAt HF p7 (bk.sorts++ck.sorts):=⟨_,e7 _ _ g7,lJ (hSs.mono (aq SF)) (hCs.mono (aq SF))⟩;have hff:RepF HF ⟨nm,f0.own,f0.parts,f0.rules⟩ (.ref p6):=⟨p6,pa0,ra0,rv0,rfl,e7 _ _ (s7 _ _ g6),SF _ _ hpa0,SF _ _ hra0,hR0.mono (aq SF)⟩;have hfC: ∀ fr∈[(⟨nm,f0.own,f0.parts,f0.rules⟩:Frm)],RsOk fr.rules/\RsS fr.rules/\RsL fr.rules/\shS fr.name:=λfr h=>by
    rw [AE.mp h];exact ⟨h0C.rs,h0C.ss,h0C.rl,hs⟩
   refine q l (.ref q1) (.ref q2) ⟨bk.wheel,bk.sorts++ck.sorts,bk.forms++[⟨nm,f0.own,f0.parts,f0.rules⟩]⟩ ⟨bk.wheel,bk.sorts++ck.sorts,[⟨nm,f0.own,f0.parts,f0.rules⟩]++bk.forms⟩ HF SF g14
    ⟨q1,p7,p9,_,rfl,e10 _ _ g10,hso,e9 _ _ g9,lJ (hF.mono (aq SF)) (.cons hff .nil)⟩ ⟨?_,λfr h=>(AT.mp h).elim (hC.r.fo fr) (hfC fr)⟩
    ⟨q2,p7,p12,_,rfl,s14 _ _ g13,hso,e12 _ _ g12,lJ (.cons hff .nil) (hF.mono (aq SF))⟩ ⟨?_,λfr h=>(AT.mp h).elim (hfC fr) (hC.r.fo fr)⟩
   ·show (bk.forms++[_]).length<=12;rw [AI];show bk.forms.length+1<=12;lia
   ·show ([_]++bk.forms).length<=12;rw [AI];show 1+bk.forms.length<=12;lia
  ·exact bL ⟨_,rfl,_,rfl,cB,ret⟩
theorem scLaw:av ["script","start","book","chain","one"] ["script"] (ak ke):=fsc
theorem xX (F:Fun K "law" "law" ke f fd) (G:Gb mg)
  (GB:Cl P w K mg base CX0 6 f2 fd2 ["script","start","few"] (oh K) "_law_book")
  (GC:Cl P w K mg base CX0 3 f3 fd3 ["script","start"] (qb K) "_law_chain")
  (GO:Cl P w K mg base CX0 1 f5 fd5 ["book","other"] tQ "_law_both")
  (GR:Cl P w K mg base CX0 19 f4 fd4 ["book"] (mw tbA) "_law_right"):
  a8 P w K mg base CX0 20 f fd ["script"] (my K tbA):=by
 refine F.ok scLaw (λvs H Q E h=>?_) (λcdv A outer s H vs Q E hr h=>?_)
 ·obtain ⟨a,ns,rfl,_⟩:=h;rfl
 obtain ⟨a,ns,rfl,hS,hlen,tt,q⟩:=h;have hr1:=hr.mono (show 1<=19 by decide);have hr3:=hr.mono (show 3<=19 by decide);have hr6:=hr.mono (show 6<=19 by decide);refine ⟨_,af (bi A5 rfl (rE rfl G.range (aa ag (aa (au (kL rfl) rfl G.max (by decide +kernel) (aa ag (aa (au (kK rfl) rfl G.min (by decide +kernel) (aa ag (aa (au (r:=cZ K) aE rfl G.len Bd (aa (pv 0) ae)) ae))) ae))) (aa ag ae)))) (pgz 1 scLaw.nd)
   (af (psz 2 scLaw.nd (pcl GB hr6 (aa (pv 0) (aa (pv 1) (aa gY ae)))))
   (af (psz 3 scLaw.nd (pcl GC hr3 (aa (pv 0) (aa (aw bj (pv 1) ag) ae))))
   (aj (bi A5 rfl (cA (aw fH (bd (aa (pv 2) (aa (pv 3) ae))) (pcl GO hr1 (aa (pv 2) (aa (pv 3) ae))))) (pgz 4 scLaw.nd)
    (aj (bc (jp (cR (pcl GR hr (aa (pv 4) ae)))) dy aK)))))))
  (aj (ay gY)),?_⟩
 have hll:(ns.map V.int).length=ns.length:=AD _;refine ⟨_,rfl,a,_,rfl,.inl hS,24,_,rfl,1,_,rfl,0,_,12,rfl,?_,?_⟩
 ·rw [hll];refine ⟨by decide,by decide,?_,?_,by decide,by decide⟩ <;> split <;> split <;> lia
 rw [hll];have hb:Builtin.Range.rangeSize 0 (if (if (ns.length:Int) <24 then (ns.length:Int)else 24) >1 then (if (ns.length:Int) <24 then (ns.length:Int)else 24)else 1) 12<=2:=by
  unfold Builtin.Range.rangeSize;rw [AX (by decide)];split <;> (try split) <;> (try split) <;> lia
 refine vg (λi σ H'=> ∃ o1 o2 o3 o4,σ=[some (.ref a),o1,o2,o3,o4]/\Kp tbA H H'/\TabSt tbA H') ⟨none,none,none,none,rfl,Kp.refl,tt⟩ ?_ ?_
 ·rintro i x σ H2 hi rfl ⟨o1,o2,o3,o4,rfl,k2,tt2⟩;have hi2:(i:Int) <2:=by lia
  refine ⟨_,rfl,_,rfl,a,ns,_,false,rfl,tt.sql k2 hS,hlen,by lia,by lia,λbv bk H3 hB hok s3=>?_⟩;have tt3:=tt2.same s3;have K3:=k2.same s3;refine ⟨_,rfl,_,rfl,_,11,rfl,rfl,?_⟩;refine ⟨a,ns,_,rfl,tt.sql K3 hS,hlen,by lia,by lia,λcv ck H5 hB5 hC5 s5=>?_⟩;have tt5:=tt3.same s5;have K5:=K3.same s5;have hB':=hB.mono (aq s5);refine ⟨_,rfl,_,rfl,cB,λl6 hl6=>?_⟩;obtain ⟨H6,eW,s6,g6⟩:=nw hl6 (.lst [bv,cv]);rw [eW];refine ⟨_,rfl,_,rfl,bv,bk,cv,ck,rfl,hB'.mono (aq s6),nJ hok,hB5.mono (aq s6),hC5.1,hC5.2.1,hC5.2.2,λl v1 v2 b1 b2 H7 s7 g7 hV1 hR1 hV2 hR2=>?_⟩;refine ⟨l6,l,_,_,rfl,rfl,s7 _ _ g6,g7,(by show 2+2<=sizeLine;decide),λl8 hl8=>?_⟩;have g8:(upd H7 l8 (.lst ([bv,cv]++[v1,v2]))) l8=some (.lst [bv,cv,v1,v2]):=ad;have s8:Same H7 (upd H7 l8 (.lst ([bv,cv]++[v1,v2]))):=al hl8 _;generalize upd H7 l8 (.lst ([bv,cv]++[v1,v2]))=H8 at s8 g8 ⊢;have s58:=(s6.trans s7).trans s8;have tt8:=tt5.same s58;have hall: ∀ x∈[bv,cv,v1,v2],∃ b,RepB H8 b x/\BkR b:=by
   intro x hx;rcases AY.mp hx with rfl | hx
   ·exact ⟨bk,hB'.mono (aq s58),(nJ hok).r⟩
   rcases AY.mp hx with rfl | hx
   ·exact ⟨ck,hB5.mono (aq s58),hC5.1.r⟩
   rcases AY.mp hx with rfl | hx
   ·exact ⟨b1,hV1.mono (aq s8),hR1⟩
   rw [AE.mp hx];exact ⟨b2,hV2.mono (aq s8),hR2⟩
  refine ⟨l8,rfl,⟨_,SqL.of g8⟩,?_⟩;refine cN (xs:=[bv,cv,v1,v2]) (λi σ H'=> ∃ o4,σ=[some (.ref a),some _,some bv,some cv,o4]/\Kp tbA H8 H'/\TabSt tbA H') ⟨o4,rfl,Kp.refl,tt8⟩ (λi σ H' _ h=>by obtain ⟨_,_,k',_⟩:=h;exact tt8.sql k' (SqL.of g8)) ?_ ?_
  ·rintro j x σ H9 hx ⟨o4,rfl,k9,tt9⟩;obtain ⟨b,hb1,hb2⟩:=hall x (AH hx);exact ⟨_,rfl,x,b,rfl,hb1.mono (tt8.tk k9),hb2,tt9,λH10 k10 tt10=>⟨true,rfl,bt ⟨_,rfl,k9.trans k10,tt10⟩⟩⟩
  ·rintro σ H9 ⟨o4,rfl,k9,tt9⟩;exact ⟨_,_,_,_,rfl,((K5.same s58).trans k9),tt9⟩
 ·rintro σ H2 ⟨o1,o2,o3,o4,rfl,k2,tt2⟩;exact q H2
theorem wW {P:Program} {w:World} {K:W.Frag} {aD:Addr} {h1 h2 h3 h4 h5 h6:Int} {t1 t2 t3 t4 t5 t6 u1 u2 u3 u4 u5 u6:Tok} {ep:Nat}
  (lD:K.lookup aD=some ⟨.type "dict",none,.dict #[⟨h1,.str "plus" t1,.int 2 u1⟩,⟨h2,.str "less" t2,.int 2 u2⟩,⟨h3,.str "times" t3,.int 2 u3⟩,⟨h4,.str "least" t4,.int 2 u4⟩,⟨h5,.str "most" t5,.int 2 u5⟩,⟨h6,.str "when" t6,.int 3 u6⟩] ep,#[]⟩)
  (e1:h1=hashStr w "plus") (e2:h2=hashStr w "less") (e3:h3=hashStr w "times") (e4:h4=hashStr w "least") (e5:h5=hashStr w "most") (e6:h6=hashStr w "when") (nD:(aD==sysModules)=false):xc P w K aD kC:=by
 refine ⟨nD,λh X=>⟨[(.inr "plus",.int 2 u1),(.inr "less",.int 2 u2),(.inr "times",.int 2 u3),(.inr "least",.int 2 u4),(.inr "most",.int 2 u5),(.inr "when",.int 3 u6)],?_,?_⟩⟩
 ·exact .cons ⟨rfl,_,rfl⟩ (.cons ⟨rfl,_,rfl⟩ (.cons ⟨rfl,_,rfl⟩ (.cons ⟨rfl,_,rfl⟩ (.cons ⟨rfl,_,rfl⟩ (.cons ⟨rfl,_,rfl⟩ .nil)))))
 ·refine ⟨_,_,_,X _ _ lD,⟨rfl,rfl,rfl⟩,rfl,?_,?_,by dsimp only [List.map];decide +kernel⟩
  ·intro e he;simp only [List.mem_toArray,AY,Bz,CV]at he;rcases he with rfl | rfl | rfl | rfl | rfl | rfl
   ·exact ⟨.inr "plus",bA "plus" t1,e1⟩
   ·exact ⟨.inr "less",bA "less" t2,e2⟩
   ·exact ⟨.inr "times",bA "times" t3,e3⟩
   ·exact ⟨.inr "least",bA "least" t4,e4⟩
   ·exact ⟨.inr "most",bA "most" t5,e5⟩
   ·exact ⟨.inr "when",bA "when" t6,e6⟩
  ·exact .cons (bA "plus" t1) rfl (.cons (bA "less" t2) rfl (.cons (bA "times" t3) rfl (.cons (bA "least" t4) rfl (.cons (bA "most" t5) rfl (.cons (bA "when" t6) rfl .nil)))))
theorem eU {K:W.Frag} {C:Addr} {b:Value} {r:Bool} (h:W.mroIn K C b=some r):(W.clsIn K C).isSome=true:=by
 unfold W.mroIn at h;cases e:W.clsIn K C with
 | none=>rw [e]at h;cases h
 | some c=>rfl
theorem bi1 {P:List Value->Prop} (h: ∀ a,P [a]): ∀ us:List Value,us.length=1->P us:=λus hl=>match us,hl with
 | [a],_=>h a
theorem bi2 {P:List Value->Prop} (h: ∀ a b,P [a,b]): ∀ us:List Value,us.length=2->P us:=λus hl=>match us,hl with
 | [a,b],_=>h a b
theorem bi3 {P:List Value->Prop} (h: ∀ a b c,P [a,b,c]): ∀ us:List Value,us.length=3->P us:=λus hl=>match us,hl with
 | [a,b,c],_=>h a b c
theorem bi4 {P:List Value->Prop} (h: ∀ a b c d,P [a,b,c,d]): ∀ us:List Value,us.length=4->P us:=λus hl=>match us,hl with
 | [a,b,c,d],_=>h a b c d
theorem bi5 {P:List Value->Prop} (h: ∀ a b c d e,P [a,b,c,d,e]): ∀ us:List Value,us.length=5->P us:=λus hl=>match us,hl with
 | [a,b,c,d,e],_=>h a b c d e
theorem bi6 {P:List Value->Prop} (h: ∀ a b c d e f,P [a,b,c,d,e,f]): ∀ us:List Value,us.length=6->P us:=λus hl=>match us,hl with
 | [a,b,c,d,e,f],_=>h a b c d e f
theorem v6 {K:W.Frag} {aR:Addr} {od:Option Addr} {sl:Array (Option Value)} {t1 t2:Tok} {m:Nat} (l:K.lookup aR=some ⟨.type "tuple",od,.seq #[.str "own" t1,.str "part" t2] m,sl⟩): ∀ H,SqT K H aR (rdgs.map V.str):=
 λH=>.inr ⟨_,_,_,l,rfl,rfl,(show 2<=sizeLine by decide),.cons ⟨_,rfl⟩ (.cons ⟨_,rfl⟩ .nil)⟩
structure Df (K:W.Frag) (nm:Str) (st:Stmt) (f:Addr) (fd:FuncData):Prop where
 a:W.nsIn K mainGlobals nm=some (some (.ref f))
 k:W.keepIn K (.ref f)=true
 F:Fun K nm nm st f fd
theorem Df.m {K:W.Frag} {nm:Str} {st:Stmt} {f:Addr} {fd:FuncData} {h:Heap} {mg:Str->Option Value} (d:Df K nm st f fd) (X:K.In h) (G:h.Ns mainGlobals mg):mg nm=some (.ref f):=Bv X G d.a
theorem Df.of {K:W.Frag} {nm:Str} {st:Stmt} {f:Addr} {oc:Value} {od an:Option Addr} {osl:Array (Option Value)} {kV doc pm cdv ct:Value} (a:W.nsIn K mainGlobals nm=some (some (.ref f))) (k:W.keepIn K (.ref f)=true)
  (l:K.lookup f=some ⟨oc,od,.func (W.fnOf nm nm (gb st) (bE st) (ak st) .none kV doc pm an cdv ct),osl⟩) (c:W.codeIn K cdv nm=true):Df K nm st f (W.fnOf nm nm (gb st) (bE st) (ak st) .none kV doc pm an cdv ct):=
 ⟨a,k,⟨⟨oc,od,kV,doc,pm,an,cdv,ct,osl,rfl,l,c⟩,k⟩⟩
theorem Df.n {K:W.Frag} {nm:Str} {st:Stmt} {f:Addr} {fd:FuncData} {h:Heap} {mg:Str->Option Value} (d:Df K nm st f fd) (X:K.In h) (G:h.Ns mainGlobals mg) (ps:List Str)
  (e: ∀ (kV doc pm:Value) (an:Option Addr) (cdv ct:Value) (us:List Value),us.length=ps.length->bindArgs (W.fnOf nm nm (gb st) (bE st) (ak st) .none kV doc pm an cdv ct) ⟨us,[]⟩=pure (ps.zip us)):Binds K fd ps []/\mg nm=some (.ref f):=⟨d.F.binds e,d.m X G⟩
theorem all_mk {l:W.OpenLaw} {w:World} {K:W.Frag} {h:Heap} {mg:Str->Option Value} {fa cS Pt aD aR C CG CB fT D0 D1 D2 D3 D4 D5 D6 D7 D8 D9 D10 D11 D12 D13 D14 D15 f1 f2 f3 f4 f5 f6 f7 f8 f9 f10 f11 f12 f13 f14 f15 f16 f17 f18 f19 f20 f21 f22 f23 f24 f25 f26 f27 f28 f29 f30 f31 f32 f33 f34 f35 f36 f37 f38 f39 f40 f41 f42 f43 f44 f45:Addr} {rT r1 r2 r3 r4 r5 r6 r7 r8 r9 r10 r11 r12 r13 r14 r15 r16 r17 r18 r19 r20 r21 r22 r23 r24 r25 r26 r27 r28 r29 r30 r31 r32 r33 r34 r35 r36 r37 r38 r39 r40 r41 r42 r43 r44 r45:FuncData} (X:K.In h) (G:h.Ns mainGlobals mg) (hfa:mg "law"=some (.ref fa)) (hTb:vF h mg "put_otherwise" cS Pt)
  {odR:Option Addr} {slR:Array (Option Value)} {w1 w2 t1 t2 t3 t4 t5 t6 u1 u2 u3 u4 u5 u6 q1:Tok} {h1 h2 h3 h4 h5 h6:Int} {ep mR:Nat}
  (d1:Df K "inner_of" oy f1 r1)
  (d2:Df K "tuples_of" li f2 r2)
  (d3:Df K "folded" iY f3 r3)
  (d4:Df K "readings_of" oq f4 r4)
  (d5:Df K "wheel_of" jg f5 r5)
  (d6:Df K "sorts_of" jh f6 r6)
  (d7:Df K "forms_of" jo f7 r7)
  (d8:Df K "rules_of" jk f8 r8)
  (d9:Df K "key_of" ou f9 r9)
  (d10:Df K "formulas_by_key" oB f10 r10)
  (d11:Df K "order_of" gS f11 r11)
  (d12:Df K "readers_of" jl f12 r12)
  (d13:Df K "is_straight" dL f13 r13)
  (d14:Df K "made_straight" jn f14 r14)
  (d15:Df K "keys_read_by_key" eh f15 r15)
  (d16:Df K "order_of_keys" lp f16 r16)
  (d17:Df K "need_few_tuples" tY f17 r17)
  (d18:Df K "form_made_straight" lx f18 r18)
  (d19:Df K "put_otherwise" mE f19 r19)
  (d20:Df K "one_put_otherwise" lq f20 r20)
  (d21:Df K "_law_cell_at" tZ f21 r21)
  (d22:Df K "_law_tape" tV f22 r22)
  (d23:Df K "_law_digit" oA f23 r23)
  (d24:Df K "_law_names" fA f24 r24)
  (d25:Df K "_law_number" lr f25 r25)
  (d26:Df K "_law_leaf" tX f26 r26)
  (d27:Df K "_law_formula" et f27 r27)
  (d28:Df K "_law_sorts" on f28 r28)
  (d29:Df K "_law_targets" fz f29 r29)
  (d30:Df K "_law_readings" dB f30 r30)
  (d31:Df K "_law_form" ot f31 r31)
  (d32:Df K "_law_book" fb f32 r32)
  (d33:Df K "_law_same" tW f33 r33)
  (d34:Df K "_law_reads" lu f34 r34)
  (d35:Df K "_law_target" ll f35 r35)
  (d36:Df K "_law_told_in" lj f36 r36)
  (d37:Df K "_law_size_with" ji f37 r37)
  (d38:Df K "_law_put_in" jm f38 r38)
  (d39:Df K "_law_straight_told" eP f39 r39)
  (d40:Df K "_law_straight" gA f40 r40)
  (d41:Df K "_law_chain" iu f41 r41)
  (d42:Df K "_law_answer" ly f42 r42)
  (d43:Df K "_law_right" lm f43 r43)
  (d44:Df K "_law_both" mG f44 r44)
  (d45:Df K "law" ke f45 r45)
  (z1:W.nsIn K mainGlobals "isinstance"=some none)
  (z2:W.nsIn K mainGlobals "int"=some none)
  (z3:W.nsIn K mainGlobals "bool"=some none)
  (z4:W.nsIn K mainGlobals "str"=some none)
  (z5:W.nsIn K mainGlobals "tuple"=some none)
  (z6:W.nsIn K mainGlobals "len"=some none)
  (z7:W.nsIn K mainGlobals "all"=some none)
  (z8:W.nsIn K mainGlobals "range"=some none)
  (z9:W.nsIn K mainGlobals "max"=some none)
  (z10:W.nsIn K mainGlobals "min"=some none)
  (z11:W.nsIn K mainGlobals "list"=some none)
  (z12:W.nsIn K mainGlobals "sum"=some none)
  (z13:W.nsIn K mainGlobals "zip"=some none)
  (z14:W.nsIn K mainGlobals "reversed"=some none)
  (z15:W.nsIn K mainGlobals "any"=some none)
  (z16:W.nsIn K mainGlobals "ValueError"=some none)
  (i1:W.nsIn K mainGlobals "MOST_TUPLES_MADE"=some (some (.int 400 q1)))
  (aI:W.nsIn K mainGlobals "INNER_COUNTS"=some (some (.ref aD)))
  (lD:K.lookup aD=some ⟨.type "dict",none,.dict #[⟨h1,.str "plus" t1,.int 2 u1⟩,⟨h2,.str "less" t2,.int 2 u2⟩,⟨h3,.str "times" t3,.int 2 u3⟩,⟨h4,.str "least" t4,.int 2 u4⟩,⟨h5,.str "most" t5,.int 2 u5⟩,⟨h6,.str "when" t6,.int 3 u6⟩] ep,#[]⟩)
  (e1:h1=hashStr w "plus")    (e2:h2=hashStr w "less")    (e3:h3=hashStr w "times")    (e4:h4=hashStr w "least")    (e5:h5=hashStr w "most")    (e6:h6=hashStr w "when")
  (nD:(aD==sysModules)=false)
  (aC:W.nsIn K mainGlobals "Tangled"=some (some (.ref C))) (aG:W.nsIn K mainGlobals "TooGreat"=some (some (.ref CG))) (aB:W.nsIn K mainGlobals "BoughError"=some (some (.ref CB)))
  (c0:W.nsIn K mainGlobals "NoBook"=some (some (.ref D0)))
  (c1:W.nsIn K mainGlobals "NoBuild"=some (some (.ref D1)))
  (c2:W.nsIn K mainGlobals "NoChange"=some (some (.ref D2)))
  (c3:W.nsIn K mainGlobals "NoFit"=some (some (.ref D3)))
  (c4:W.nsIn K mainGlobals "NoGiven"=some (some (.ref D4)))
  (c5:W.nsIn K mainGlobals "NoName"=some (some (.ref D5)))
  (c6:W.nsIn K mainGlobals "NoPlace"=some (some (.ref D6)))
  (c7:W.nsIn K mainGlobals "NoPlain"=some (some (.ref D7)))
  (c8:W.nsIn K mainGlobals "NoPrice"=some (some (.ref D8)))
  (c9:W.nsIn K mainGlobals "NoRow"=some (some (.ref D9)))
  (c10:W.nsIn K mainGlobals "NoSpot"=some (some (.ref D10)))
  (c11:W.nsIn K mainGlobals "NoText"=some (some (.ref D11)))
  (c12:W.nsIn K mainGlobals "NoTree"=some (some (.ref D12)))
  (c13:W.nsIn K mainGlobals "NoWorth"=some (some (.ref D13)))
  (c14:W.nsIn K mainGlobals "Ring"=some (some (.ref D14)))
  (c15:W.nsIn K mainGlobals "TooMany"=some (some (.ref D15)))
  (t0:W.findIn K (.ref C) "__init__"=some (some (.ref fT))) (t1:Fun K "__init__" "Tangled.__init__" om fT rT) (t2:jD K C fT [.type "ValueError",.type "Exception",.type "BaseException",.type "object"] "ValueError.__new__"=true) (t3:W.typeIn K (.ref fT)=some (.type "function")) (t4:W.keepIn K (.ref C)=true)
  (t5:W.typeIn K (.ref C)=some (.type "type")) (t6:W.findIn K (.ref C) "__setattr__"=some (some (.builtin "object.__setattr__"))) (t7:(W.clsIn K C).any (λcd=>kq cd.mro)=true) (t8:W.findIn K (.ref C) "form"=some none) (t9:W.hasDictIn K C=true)
  (t10:W.specialIn K (.ref CB) "__getattribute__"=some (some (.builtin "type.__getattribute__"))) (t11:W.readsIn K CB (.type "type")=true) (t12:W.findCls K (.ref CB) (.type "type") "__init__"=some (.val (.builtin "ValueError.__init__")))
  (y0:W.excIn K CG [.type "ValueError",.type "Exception",.type "BaseException",.type "object"] "ValueError.__new__"=true)
  (x2:W.findIn K (.ref C) "__getattribute__"=some (some (.builtin "BaseException.__getattribute__"))) (x3:W.findIn K (.ref C) "__getattr__"=some none) (x4:W.findIn K (.ref C) "__class__"=some (some (.builtin "object.__class__")))
  (x7:W.mroIn K C (.type "object")=some true) (x8:W.mroIn K C (.type "BaseException")=some true) (x9:W.mroIn K C (.ref CB)=some true)
  (x12:W.kitAny K (.ref C) [.ref D0,.ref D1,.ref D2,.ref D3,.ref D4,.ref D5,.ref D6,.ref D7,.ref D8,.ref D9,.ref D10,.ref D11,.ref D12,.ref D13,.ref D14,.ref D15]=some false) (x13:W.kitOne K (.ref C) (.type "ValueError")=some true) (x14:W.kitOne K (.ref C) (.ref CG)=some false)
  (y2:W.findIn K (.ref CG) "__getattribute__"=some (some (.builtin "BaseException.__getattribute__"))) (y3:W.findIn K (.ref CG) "__getattr__"=some none) (y4:W.findIn K (.ref CG) "__class__"=some (some (.builtin "object.__class__")))
  (y7:W.mroIn K CG (.type "object")=some true) (y8:W.mroIn K CG (.type "BaseException")=some true) (y9:W.mroIn K CG (.ref CB)=some true)
  (y12:W.kitAny K (.ref CG) [.ref D0,.ref D1,.ref D2,.ref D3,.ref D4,.ref D5,.ref D6,.ref D7,.ref D8,.ref D9,.ref D10,.ref D11,.ref D12,.ref D13,.ref D14,.ref D15]=some false) (y13:W.kitOne K (.ref CG) (.type "ValueError")=some true) (y14:W.kitOne K (.ref CG) (.ref C)=some false)
  (x5:W.specialIn K (.builtin "object.__class__") "__get__"=some (some (.builtin "getset_descriptor.__get__"))) (x6:W.takesIn K (.builtin "object.__class__")=some true) (x10:W.mroIn K CB (.type "BaseException")=some true) (x11:W.typeIn K (.ref CB)=some (.type "type"))
  (aQ:W.nsIn K mainGlobals "READINGS"=some (some (.ref aR))) (lR:K.lookup aR=some ⟨.type "tuple",odR,.seq #[.str "own" w1,.str "part" w2] mR,slR⟩):
  ∃ fd:FuncData,(∀ (s:Shared) (v:Value),BindsTo s fd ⟨[v],[]⟩ [("script",v)])/\ ∀ base:Heap,K.In base->base.Ns mainGlobals mg->W.CodeHd base cS Pt->base.BuiltinsAt mg Pt->a8 l.prog w K mg base CX0 20 fa fd ["script"] (my K Pt):=by
 have e:=hfa.symm.trans (d45.m X G);cases e;have ⟨b1,m1⟩:=d1.n X G ["formula"] λ_ _ _ _ _ _=>bi1 λ_=>rfl;have ⟨b2,m2⟩:=d2.n X G ["formula"] λ_ _ _ _ _ _=>bi1 λ_=>rfl;have ⟨b3,m3⟩:=d3.n X G ["formula","tell"] λ_ _ _ _ _ _=>bi2 λ_ _=>rfl;have ⟨b4,m4⟩:=d4.n X G ["formula"] λ_ _ _ _ _ _=>bi1 λ_=>rfl;have ⟨b5,m5⟩:=d5.n X G ["book"] λ_ _ _ _ _ _=>bi1 λ_=>rfl;have ⟨b6,m6⟩:=d6.n X G ["book"] λ_ _ _ _ _ _=>bi1 λ_=>rfl;have ⟨b7,m7⟩:=d7.n X G ["book"] λ_ _ _ _ _ _=>bi1 λ_=>rfl;have ⟨b8,m8⟩:=d8.n X G ["form"] λ_ _ _ _ _ _=>bi1 λ_=>rfl;have ⟨b9,m9⟩:=d9.n X G ["reading"] λ_ _ _ _ _ _=>bi1 λ_=>rfl;have ⟨b10,m10⟩:=d10.n X G ["form"] λ_ _ _ _ _ _=>bi1 λ_=>rfl;have ⟨b11,m11⟩:=d11.n X G ["reads"] λ_ _ _ _ _ _=>bi1 λ_=>rfl;have ⟨b12,m12⟩:=d12.n X G ["reads"] λ_ _ _ _ _ _=>bi1 λ_=>rfl;have ⟨b13,m13⟩:=d13.n X G ["book"] λ_ _ _ _ _ _=>bi1 λ_=>rfl;have ⟨b14,m14⟩:=d14.n X G ["book"] λ_ _ _ _ _ _=>bi1 λ_=>rfl;have ⟨b15,m15⟩:=d15.n X G ["form"] λ_ _ _ _ _ _=>bi1 λ_=>rfl;have ⟨b16,m16⟩:=d16.n X G ["form"] λ_ _ _ _ _ _=>bi1 λ_=>rfl;have ⟨b17,m17⟩:=d17.n X G ["form","order"] λ_ _ _ _ _ _=>bi2 λ_ _=>rfl;have ⟨b18,m18⟩:=d18.n X G ["form","order"] λ_ _ _ _ _ _=>bi2 λ_ _=>rfl;have ⟨b19,m19⟩:=d19.n X G ["formula","made"] λ_ _ _ _ _ _=>bi2 λ_ _=>rfl;have ⟨b20,m20⟩:=d20.n X G ["one","inner","made"] λ_ _ _ _ _ _=>bi3 λ_ _ _=>rfl;have ⟨b21,m21⟩:=d21.n X G ["script","k"] λ_ _ _ _ _ _=>bi2 λ_ _=>rfl;have ⟨b22,m22⟩:=d22.n X G ["script","k"] λ_ _ _ _ _ _=>bi2 λ_ _=>rfl;have ⟨b23,m23⟩:=d23.n X G ["tape","many"] λ_ _ _ _ _ _=>bi2 λ_ _=>rfl;have ⟨b24,m24⟩:=d24.n X G ["tape","many"] λ_ _ _ _ _ _=>bi2 λ_ _=>rfl;have ⟨b25,m25⟩:=d25.n X G ["tape"] λ_ _ _ _ _ _=>bi1 λ_=>rfl;have ⟨b26,m26⟩:=d26.n X G ["tape","readings"] λ_ _ _ _ _ _=>bi2 λ_ _=>rfl;have ⟨b27,m27⟩:=d27.n X G ["tape","readings"] λ_ _ _ _ _ _=>bi2 λ_ _=>rfl;have ⟨b28,m28⟩:=d28.n X G ["tape","few"] λ_ _ _ _ _ _=>bi2 λ_ _=>rfl;have ⟨b29,m29⟩:=d29.n X G ["sorts","own","parts"] λ_ _ _ _ _ _=>bi3 λ_ _ _=>rfl;have ⟨b30,m30⟩:=d30.n X G ["sorts","own","parts","mode","j"] λ_ _ _ _ _ _=>bi5 λ_ _ _ _ _=>rfl;have ⟨b31,m31⟩:=d31.n X G ["tape","sorts","name","own","parts","mode"] λ_ _ _ _ _ _=>bi6 λ_ _ _ _ _ _=>rfl;have ⟨b32,m32⟩:=d32.n X G ["script","start","few"] λ_ _ _ _ _ _=>bi3 λ_ _ _=>rfl;have ⟨b33,m33⟩:=d33.n X G ["found","due"] λ_ _ _ _ _ _=>bi2 λ_ _=>rfl;have ⟨b34,m34⟩:=d34.n X G ["formula"] λ_ _ _ _ _ _=>bi1 λ_=>rfl;have ⟨b35,m35⟩:=d35.n X G ["at","word"] λ_ _ _ _ _ _=>bi2 λ_ _=>rfl;have ⟨b36,m36⟩:=d36.n X G ["form"] λ_ _ _ _ _ _=>bi1 λ_=>rfl;have ⟨b37,m37⟩:=d37.n X G ["formula","sizes"] λ_ _ _ _ _ _=>bi2 λ_ _=>rfl;have ⟨b38,m38⟩:=d38.n X G ["formula","made"] λ_ _ _ _ _ _=>bi2 λ_ _=>rfl;have ⟨b39,m39⟩:=d39.n X G ["told"] λ_ _ _ _ _ _=>bi1 λ_=>rfl;have ⟨b40,m40⟩:=d40.n X G ["book"] λ_ _ _ _ _ _=>bi1 λ_=>rfl;have ⟨b41,m41⟩:=d41.n X G ["script","start"] λ_ _ _ _ _ _=>bi2 λ_ _=>rfl;have ⟨b42,m42⟩:=d42.n X G ["book"] λ_ _ _ _ _ _=>bi1 λ_=>rfl;have ⟨b43,m43⟩:=d43.n X G ["book"] λ_ _ _ _ _ _=>bi1 λ_=>rfl;have ⟨b44,m44⟩:=d44.n X G ["book","other"] λ_ _ _ _ _ _=>bi2 λ_ _=>rfl;have Gb0:Gb mg:=⟨Bt X G z1,Bt X G z2,Bt X G z3,Bt X G z4,Bt X G z5,Bt X G z6,Bt X G z7,Bt X G z8,Bt X G z9,Bt X G z10⟩;have D:xc l.prog w K aD kC:=wW lD e1 e2 e3 e4 e5 e6 nD;have mI:=Bv X G aI;have mQ:=Bv X G aQ;have hR:=v6 lR;have v11:=Bt X G z11;have v12:=Bt X G z12;have v13:=Bt X G z13;have v14:=Bt X G z14;have v15:=Bt X G z15;have v16:=Bt X G z16;have j1:=Bv X G i1;have mC:=Bv X G aC;have mCG:=Bv X G aG;have mCB:=Bv X G aB;have bT:=t1.binds (ps:=["self","form"]) λ_ _ _ _ _ _=>bi2 λ_ _=>rfl;have Z:vG K C "form":=⟨t6,t7,t8,t9⟩;have self1: ∀ a,W.kitOne K (.ref a) (.ref a)=some true:=λa=>by unfold W.kitOne;rw [AX (Fn _)]
 have cl:zQ K mg C CG CB D0 D1 D2 D3 D4 D5 D6 D7 D8 D9 D10 D11 D12 D13 D14 D15:=⟨Bv X G c0,Bv X G c1,Bv X G c2,Bv X G c3,Bv X G c4,Bv X G c5,Bv X G c6,Bv X G c7,Bv X G c8,Bv X G c9,Bv X G c10,Bv X G c11,Bv X G c12,Bv X G c13,Bv X G c14,Bv X G c15,mC,mCG,mCB,v16,⟨⟨x2,x3,x4,x5,x6,x7,x8,eU x7⟩,⟨x9,x10,x11,eU x10⟩,x12,self1 C,x14,x13⟩,⟨⟨y2,y3,y4,x5,x6,y7,y8,eU y7⟩,⟨y9,x10,x11,eU x10⟩,y12,y14,self1 CG,y13⟩,Z⟩;have hfc:r19.code=.ref cS:=by
  obtain ⟨⟨a,o,fd,t1,t2,t3,t4⟩,_⟩:=hTb;rw [m19]at t1;cases t1;obtain ⟨oc,od,kV,doc,pm,an,cdv,ct,osl,_,lk,_⟩:=d19.F.ex;rw [X _ _ lk]at t2;cases t2;cases t3;exact t4
 have F45:=d45.F;obtain ⟨_,_,kV,dc,pm,an,cd,ct,_,rfl,_,_⟩:=d45.F.ex;refine ⟨W.fnOf "law" "law" (gb ke) (bE ke) (ak ke) .none kV dc pm an cd ct,λs v=>.of_eq rfl,λbase _ _ hC hB=>?_⟩;have g_inner:=ju (base:=base) d1.F mI D;have g_tuples:=kr d2.F ⟨g_inner,b1,d1.k,m1⟩;have g_folded:=λb=>uM d3.F Gb0 v14 ⟨(kr (base:=b) d2.F ⟨(ju (base:=b) d1.F mI D),b1,d1.k,m1⟩),b2,d2.k,m2⟩ ⟨(ju (base:=b) d1.F mI D),b1,d1.k,m1⟩;have g_keyOf:=λb=>uJ (P:=l.prog) (w:=w) (mg:=mg) (base:=b) d9.F;have g_onePut:=λb=>rP d20.F Gb0 mQ hR ⟨(g_keyOf b),b9,d9.k,m9⟩;have g_putO:=wt d19.F hfc hC hB g_folded b3 d3.k m3 g_onePut b20 d20.k m20;have g_reads:=uF d4.F v11 mQ hR ⟨g_tuples,b2,d2.k,m2⟩;have g_sortsOf:=oQ (P:=l.prog) (w:=w) (mg:=mg) (base:=base) d6.F;have g_formsOf:=oV (P:=l.prog) (w:=w) (mg:=mg) (base:=base) d7.F;have g_wheelOf:=oO (P:=l.prog) (w:=w) (mg:=mg) (base:=base) d5.F;have g_rules:=oR (P:=l.prog) (w:=w) (mg:=mg) (base:=base) d8.F;have g_byKey:=rV d10.F ⟨g_rules,b8,d8.k,m8⟩;have g_keysRead:=ni d15.F ⟨g_byKey,b10,d10.k,m10⟩ ⟨g_reads,b4,d4.k,m4⟩ ⟨(g_keyOf base),b9,d9.k,m9⟩;have g_readers:=oS (P:=l.prog) (w:=w) (mg:=mg) (base:=base) d12.F;have g_orderOf:=oU d11.F Gb0 ⟨g_readers,b12,d12.k,m12⟩;have g_tg:=(⟨mC,t2,t3,t4,uC (P:=l.prog) (w:=w) (mg:=mg) (base:=base) t1 mCB t2 t10 t11 t12 Z,bT,⟨x8,t5⟩⟩:TgC l.prog w K mg base C fT rT);have g_orderK:=rO d16.F Gb0 g_tg ⟨g_keysRead,b15,d15.k,m15⟩ ⟨g_orderOf,b11,d11.k,m11⟩;have g_fewT:=wu mCG y0 d17.F mQ hR j1 ⟨g_byKey,b10,d10.k,m10⟩ ⟨g_tuples,b2,d2.k,m2⟩ ⟨(g_keyOf base),b9,d9.k,m9⟩;have g_formS:=uL d18.F Gb0 ⟨g_byKey,b10,d10.k,m10⟩ ⟨g_putO,b19,d19.k,m19⟩ ⟨g_rules,b8,d8.k,m8⟩;have g_madeS:=uG d14.F Gb0 v13 ⟨g_formsOf,b7,d7.k,m7⟩ ⟨g_orderK,b16,d16.k,m16⟩ ⟨g_fewT,b17,d17.k,m17⟩ ⟨g_formS,b18,d18.k,m18⟩ ⟨g_wheelOf,b5,d5.k,m5⟩ ⟨g_sortsOf,b6,d6.k,m6⟩;have g_same:=uE (P:=l.prog) (w:=w) (mg:=mg) (base:=base) d33.F Gb0 v11;have g_cell:=wv (P:=l.prog) (w:=w) (base:=base) d21.F Gb0;have g_tape:=wr d22.F ⟨g_cell,b21,d21.k,m21⟩;have g_digit:=uN (P:=l.prog) (w:=w) (mg:=mg) (base:=base) d23.F;have g_names:=rR d24.F Gb0 ⟨g_digit,b23,d23.k,m23⟩;have g_number:=rQ d25.F ⟨g_digit,b23,d23.k,m23⟩;have g_leaf:=λρ=>uI (ρ:=ρ) d26.F Gb0 ⟨g_digit,b23,d23.k,m23⟩ ⟨g_number,b25,d25.k,m25⟩;have g_formula:=λρ=>nj d27.F Gb0 ⟨g_digit,b23,d23.k,m23⟩ ⟨(g_leaf ρ),b26,d26.k,m26⟩;have g_sorts:=uD d28.F Gb0 ⟨g_digit,b23,d23.k,m23⟩ ⟨g_names,b24,d24.k,m24⟩;have g_targets:=oP (P:=l.prog) (w:=w) (mg:=mg) (base:=base) d29.F Gb0;have g_lreadings:=lO d30.F Gb0 ⟨g_targets,b29,d29.k,m29⟩;have g_lform:=uH d31.F Gb0 ⟨g_targets,b29,d29.k,m29⟩ ⟨g_lreadings,b30,d30.k,m30⟩ g_formula b27 d27.k m27;have g_book:=wx d32.F Gb0 ⟨g_digit,b23,d23.k,m23⟩ ⟨g_lform,b31,d31.k,m31⟩ ⟨g_tape,b22,d22.k,m22⟩ ⟨g_sorts,b28,d28.k,m28⟩ ⟨g_names,b24,d24.k,m24⟩;have g_lreads:=rS (P:=l.prog) (w:=w) (mg:=mg) (base:=base) d34.F v11;have g_target:=rH (P:=l.prog) (w:=w) (mg:=mg) (base:=base) d35.F;have g_toldIn:=rG d36.F ⟨g_target,b35,d35.k,m35⟩;have g_sizeW:=ng (P:=l.prog) (w:=w) (mg:=mg) (base:=base) d37.F v12 b37 m37 15;have g_putIn:=nh (P:=l.prog) (w:=w) (mg:=mg) (base:=base) d38.F Gb0 b38 m38 15;have g_straightT:=lM d39.F Gb0 ⟨g_lreads,b34,d34.k,m34⟩ ⟨g_sizeW,b37,d37.k,m37⟩ ⟨g_putIn,b38,d38.k,m38⟩;have g_straightL:=lN d40.F Gb0 ⟨g_target,b35,d35.k,m35⟩ ⟨g_toldIn,b36,d36.k,m36⟩ ⟨g_straightT,b39,d39.k,m39⟩;have g_chain:=uO d41.F Gb0 ⟨g_digit,b23,d23.k,m23⟩ ⟨g_targets,b29,d29.k,m29⟩ ⟨g_target,b35,d35.k,m35⟩ ⟨g_tape,b22,d22.k,m22⟩ ⟨g_names,b24,d24.k,m24⟩;have g_isStr:=uK d13.F Gb0 v15 ⟨g_formsOf,b7,d7.k,m7⟩ ⟨g_keysRead,b15,d15.k,m15⟩;have g_answer:=rW d42.F Gb0.isi cl ⟨g_madeS,b14,d14.k,m14⟩;have g_right:=rL d43.F ⟨g_straightL,b40,d40.k,m40⟩ ⟨g_answer,b42,d42.k,m42⟩ ⟨g_same,b33,d33.k,m33⟩ ⟨g_isStr,b13,d13.k,m13⟩;have g_both:=ww (P:=l.prog) (w:=w) (mg:=mg) (base:=base) d44.F Gb0;exact xX F45 Gb0 ⟨g_book,b32,d32.k,m32⟩ ⟨g_chain,b41,d41.k,m41⟩ ⟨g_both,b44,d44.k,m44⟩ ⟨g_right,b43,d43.k,m43⟩
theorem walk {l:W.OpenLaw} {q:Program} {loose:List Str} {XP:(Str->Option Value)->Heap->Prop} {YP:World->Heap->Prop} {d:DefRec} {K:Params->W.Frag} (hn:l.most=some 63) (hdf:d.params.defaults=[])
  (hY: ∀ (w:World) (h:Heap),YP w h->(K w.params).In h) (hrec: ∃ e∈PyProof.Rows.recsOf q,e.name="put_otherwise") (hKt: ∀ w:World,W.noTabs (K w.params)=true)
  (F: ∀ (w:World) (mg:Str->Option Value) (fa c Pt:Addr) (h:Heap),(K w.params).In h->h.Ns mainGlobals mg->mg d.name=some (.ref fa)->vF h mg "put_otherwise" c Pt->
   ∃ fd:FuncData,(∀ (s:Shared) (u:Value),BindsTo s fd ⟨[u],[]⟩ [("script",u)])/\ ∀ base:Heap,(K w.params).In base->base.Ns mainGlobals mg->W.CodeHd base c Pt->base.BuiltinsAt mg Pt->a8 l.prog w (K w.params) mg base CX0 20 fa fd ["script"] (my (K w.params) Pt)):
  W.WalkO q loose XP YP l.row.toRowW d [] (λf vs=>PySem.call f vs):=
 L2.walk_ofT (n:=63) (k:=20) (x:="script") (nm:="put_otherwise") (sp:=λw Pt=>my (K w.params) Pt) hn (by decide) hdf ⟨rfl,by decide,by decide⟩ hY hrec hKt F (λ_ Pt H a ns hl hP hS=>⟨a,ns,rfl,hS,hl,.inl hP,λ_=>rfl⟩)
end My
open PySem PySem.W PyProof.Rows
set_option maxRecDepth 100000 in
set_option maxHeartbeats 0 in
theorem PySem.Challenge.cw_boughworth_k12_tangled_and_too_great_holds : PySem.Challenge.rw_boughworth_k12_tangled_and_too_great.Holds := by
 refine My.parts.c My.parts.a0 My.parts.a1 My.parts.e0 My.parts.e1 My.parts.b0 My.parts.b1 ?_
 delta My.parts
 dsimp only
 k_fill
 refine My.walk (l:=PySem.Challenge.rw_boughworth_k12_tangled_and_too_great) rfl rfl (λw h Y=>W.km_in_of Y) ?R ?T ?F
 case R=>exact ⟨_,AH (i:=18) rfl,rfl⟩
 case T=>exact λw=>rfl
 case F=>
  intro w mg fa cS Pt h KX G hmg hTb
  refine' My.all_mk KX G hmg hTb ?_ ?_ ?_ ?_ ?_ ?_ ?_ ?_ ?_ ?_ ?_ ?_ ?_ ?_ ?_ ?_ ?_ ?_ ?_ ?_ ?_ ?_ ?_ ?_ ?_ ?_ ?_ ?_ ?_ ?_ ?_ ?_ ?_ ?_ ?_ ?_ ?_ ?_ ?_ ?_ ?_ ?_ ?_ ?_ ?_ ?_ ?_ ?_ ?_ ?_ ?_ ?_ ?_ ?_ ?_ ?_ ?_ ?_ ?_ ?_ ?_ ?_ ?_ ?_ ?_ ?_ ?_ ?_ ?_ ?_ ?_ ?_ ?_ ?_ ?_ ?_ ?_ ?_ ?_ ?_ ?_ ?_ ?_ ?_ ?_ ?_ ?_ ?_ ?_ ?_ ?_ ?_ ?_ ?_ ?_ ?_ ?_ ?_ ?_ ?_ ?_ ?_ ?_ ?_ ?_ ?_ ?_ ?_ ?_ ?_ ?_ ?_ ?_ ?_ ?_ ?_ ?_ ?_ ?_ ?_ ?_ ?_ ?_ ?_ ?_ ?_ ?_ ?_
  all_goals first
   | exact My.Df.of (by k_is) (by k_is) (by k_is) (by k_is)
   | k_is
   | kit_is
   | k_exc
   | exact ⟨⟨_,_,_,_,_,_,_,_,_,rfl,by k_is,by k_is⟩,by k_is⟩
   | kernel_rfl
   | skip
