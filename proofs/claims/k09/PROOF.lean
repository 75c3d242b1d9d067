import PyProof.Rows.All
import Wide.All
import OpenK.AllK
import Wide.FinOn
import OpenK.ZGo
import Lean
import PyProof.EqAt
import PyProof.EqKinds
import PyProof.TupleCall
import PyProof.TupleKey
import PyProof.DictKeyH
import PyProof.SumWalk
import KE.KDictList
import PyProof.NeKinds
import PyProof.Draws
import PyProof.ZipIter
import PyProof.ListMulRoad
import PyProof.Commute
import KE.RegKIsAll
import OpenK.KOwn
import PyProof.EnumMake
import PyProof.Rows.StrNews
import Flt.Sum
import PyProof.FitsBits
import PyProof.DictTable
import KE.KItemsList
import PyProof.StrCalls6
import PyProof.ToksMono
import PyProof.StrLawsReplace
import PyProof.StrLawsJoin
import PyProof.Rows.StrSplitJoin
import PyProof.DictValues
import PyProof.DictWalks
import KE.KRevIter
import PyProof.DictItems
import KE.KPairComp
import OpenK.KCls
import PyProof.InstStoreFacts
import PyProof.MinMaxWalk
import PyProof.SeqI3
import PyProof.WalkInts
import PySem.Challenge.RW_boughworth_k09_why_it_is_no_book
set_option Elab.async false
set_option linter.all false
set_option bootstrap.genMatcherCode false
set_option compiler.extract_closed false
set_option genSizeOfSpec false
set_option maxRecDepth 100000
set_option maxHeartbeats 4000000
def Dw:=@PySem.wpAny_bind
def Dx:=@List.length_map
def Dy:=@PySem.wpAny_pure
def Dz:=@PySem.Heap.get?_push_of_some
def DA:=@List.length_append
def DB:=@decide_eq_true
def DC:=@List.mem_of_getElem?
def DD:=@List.getElem?_eq_getElem
def DE:=@Bool.and_false
def DF:=@List.mem_singleton
def DG:=@decide_eq_false
def DH:=@List.getElem?_eq_some_iff
def DI:=@Nat.le_refl
def DJ:=@List.length_cons
def DK:=@List.mem_cons
def DL:=@List.size_toArray
def DM:=@Bool.false_ne_true
def DN:=@Bool.false_and
def DO:=@List.mem_append_right
def DP:=@List.getElem?_map
def DQ:=@List.mem_append
def DR:=@PySem.Heap.lt_size
def DS:=@PySem.Heap.get?_push_size
def DT:=@of_decide_eq_true
def DU:=@if_neg
def DV:=@PySem.boot_len
def DW:=@List.mem_cons_self
def DX:=@List.length_take
def DY:=@List.mem_map
def DZ:=@List.mem_cons_of_mem
def Ea:=@if_pos
def Eb:=@List.not_mem_nil
def Ec:=@Bool.true_and
def Ed:=@List.all_eq_true
def Ee:=@PySem.F.plainAttrs_list
def Ef:=@List.map_append
def Eg:=@Nat.ne_of_lt
def Eh:=@Nat.le_trans
def Ei:=@PySem.W.mg_of
def Ej:=@Option.some.inj
def Ek:=@Bool.and_eq_true
def El:=@Bool.false_eq_true
def Em:=@PySem.wpAny_newObj_type
def En:=@List.append_nil
def Eo:=@List.mem_append_left
def Ep:=@PySem.PassesOwn.never
def Er:=@Nat.zero_le
def Es:=@List.map_map
def Et:=@List.append_assoc
def Eu:=@List.mem_of_mem_take
def Ev:=@PySem.Paired.length
def Ew:=@Nat.lt_of_lt_of_le
def Ex:=@Prod.mk.inj
def Ey:=@PySem.wpAny_holding
def Ez:=@Option.map_eq_some_iff
def EA:=@Nat.le_of_lt
def EB:=@List.take_add_one
def EC:=@PySem.wpAny_callSpecial?_slot
def ED:=@PySem.W.mg_none_of
def EF:=@PySem.F.slot_list_append
def EG:=@PySem.F.type_list_append
def EH:=@PySem.wpAny_call_entry
def EI:=@Ne.symm
def EJ:=@Array.length_toList
def EK:=@Bool.eq_false_iff
def EL:=@List.take_of_length_le
def EM:=@PySem.Obj.data_mapFields
def EN:=@if_false
def EO:=@PyProof.Rows.slot_tuple_getitem
def EQ:=@or_false
def ER:=@List.getElem?_eq_none
def ES:=@List.filterMap_cons
def ET:=@Int.toNat_natCast
def EU:=@List.drop_eq_getElem_cons
def EV:=@PySem.W.kia_one
def EW:=@PySem.wpAny_isInstance
def EX:=@List.take_length
def EY:=@PySem.F.slot_list_extend
def EZ:=@PySem.F.type_list_extend
def E1:=@PySem.wpAny_field
def E2:=@PySem.wpAny_mono
def E3:=@PySem.Heap.get?_update_self
def E4:=@PySem.wpAny_truthy_bool
def E5:=@List.mem_range
def E6:=@Int.emod_lt_of_pos
def E7:=@PySem.Heap.get?_update_other
def E8:=@List.length_reverse
def E9:=@PySem.F.slot_dict_valueiterator_next
def Fa:=@List.map_cons
def Fb:=@PySem.F.slot_dict_keyiterator_next
def Fc:=@PySem.codeAny_call_builtin
def Fd:=@List.getElem?_of_mem
def Fe:=@PyProof.Rows.callWith_type1
def Ff:=@Bool.not_true
def Fg:=@List.all_cons
def Fh:=@List.getElem?_append_right
def Fi:=@PySem.wpAny_setField
def Fj:=@PySem.F.slot_tuple_iterator_next
def Fk:=@Array.getElem?_eq_some_iff
def Fn:=@beq_eq_false_iff_ne
def Fo:=@List.forIn_cons
def Fp:=@List.mem_filter
def Fq:=@List.length_set
def Ft:=@List.nil_append
def Fu:=@Int.emod_nonneg
def Fv:=@Array.getElem?_eq_getElem
def Fw:=@List.take_append_drop
def Fx:=@PySem.Obj.isFreed_of_fields
def Fy:=@PySem.wpAny_call
def Fz:=@PySem.wpAny_Call_Name_kw
def FA:=@List.length_drop
def FB:=@Nat.lt_of_le_of_lt
def FC:=@PySem.AutoSeq1.wpAny_loadPart'
def FD:=@Bool.and_eq_true_iff
def FE:=@PySem.Paired.snoc
def FF:=@PySem.wpAny_typeNameOfWhole_keyiter
def FG:=@PySem.wpAny_typeNameOfWhole_valiter
def FH:=@List.nodup_append
def FI:=@decide_eq_true_eq
def FJ:=@List.find?_cons
def FK:=@List.all_append
def FL:=@PySem.Heap.SameBut.update
def FM:=@PySem.Heap.size_push
def FN:=@PySem.wpAny_fieldsOf
def FO:=@List.getElem?_take
def FP:=@List.length_replicate
def FQ:=@Array.getElem?_toList
def FR:=@List.mem_iff_getElem?
def FS:=@List.getElem?_append_left
def FT:=@PySem.wpAny_passesOwn
def FU:=@List.nodup_cons
def FW:=@PySem.wpAny_loadPart'
def FX:=@PySem.Heap.get?_none_of_le
def FY:=@PySem.wpAny_typeOf
def FZ:=@PySem.wpAny_dictEntries
def F1:=@List.length_range
def F2:=@Int.zero_add
def F5:=@List.all_eq_false
def F6:=@PySem.wpAny_typeNameOf_keyiter
def F7:=@PySem.wpAny_typeNameOf_valiter
def F8:=@PySem.mem_of_lookup
def F9:=@List.mem_map_of_mem
def Ga:=@PyProof.Rows.callWith_builtin1
def Gc:=@List.any_eq_true
def Gd:=@List.getElem?_set_self
def Ge:=@Nat.ne_of_gt
def Gf:=@PySem.Code.quiet_builtin
def Gg:=@PySem.wpAny_execs_nil
def Gh:=@PySem.wpAny_dictEpoch
def Gi:=@Nat.min_eq_left
def Gj:=@Nat.lt_irrefl
def Gk:=@PySem.wpAny_standAt
def Gm:=@PySem.wpAny_attempt
def Gn:=@List.map_take
def Go:=@List.length_singleton
def Gp:=@PySem.wpAny_isOneOf_valiter
def Gq:=@List.ext_getElem?
def Gr:=@PySem.Obj.cls_mapFields
def Gs:=@Prod.ext
def Gu:=@PySem.F.args_dict_valueiterator_next_1
def Gv:=@List.getD_eq_getElem?_getD
def Gw:=@if_true
def Gx:=@PySem.codeAny_mono
def Gy:=@Nat.lt_succ_self
def Gz:=@PySem.F.entry_dict_valueiterator_next
def GG:=@List.map_set
def GJ:=@List.getElem?_zip_eq_some
def GQ:=@List.map_congr_left
def GV:=@PySem.F.args_dict_keyiterator_next_1
def GY:=@Option.isSome_iff_exists
def GZ:=@PySem.F.args_tuple_add_2
def G0:=@PySem.wpAny_comprehension_free
def G1:=@PySem.F.entry_dict_keyiterator_next
def G2:=@PySem.wpAny_specialOf
def G3:=@Bool.eq_iff_iff
def G4:=@PySem.W.kia_tup
def G5:=@PySem.codeAny_builtin
def G6:=@PySem.wpAny_pyIter_tuple
def G7:=@List.filterMap_map
def G8:=@PySem.F.args_tuple_iterator_next_1
def G9:=@PySem.F.entry_tuple_add
def Hi:=@PyProof.Rows.F.plain_set_update_loop
def Hj:=@PySem.F.entry_tuple_iterator_next
def Hk:=@PySem.Calls.spliced_nil
def Hl:=@List.take_sublist
def Hm:=@PySem.F.slot_tuple_add
def Hn:=@PySem.Calls.callWith_builtin
def Ho:=@List.nodup_nil
def Hq:=@PySem.codeAny_compStart_list
def Hr:=@Nat.lt_succ_of_lt
def Ht:=@List.length_eq_one_iff
def Hu:=@PySem.isSubtype_tuple_tuple
def Hv:=@PySem.wpAny_isOneOf_keyiter
def Hw:=@List.cons_append
def Hy:=@Nat.not_lt
def Hz:=@PySem.Heap.size_update
def HA:=@beq_iff_eq
def HB:=@List.any_cons
def HC:=@List.getElem?_set_ne
def HD:=@PySem.wpAny_newFunctionEnv
def HE:=@PySem.F.slot_dict_values_iter
def HG:=@PySem.W.looks_findIn
def HH:=@Option.map_some
def HI:=@PyProof.Rows.entry_tuple_getitem
def HJ:=@List.toList_toArray
def HK:=@PySem.W.looks_mroIn
def HL:=@List.length_pos_iff
def HM:=@List.all_map
def HN:=@List.mem_set
def HP:=@PySem.wpAny_tupleItemsOf
def HQ:=@Array.forIn_toList
def HR:=@List.forIn_nil
def HS:=@PySem.wpAny_seqItems
def HU:=@PySem.SeqAt.EqAt.int_str
def HV:=@PySem.SeqAt.EqAt.str_int
def HW:=@List.mem_filterMap
def HX:=@PySem.Calls.spliced_cons
def HY:=@PySem.W.callWith_K
def HZ:=@PySem.Heap.IsSliceOf.new
def Ia:=@PySem.call_meets
def Ib:=@PySem.wpAny_assign_Name
def Ic:=@PySem.wpAny_pyIter_list
def Ie:=@PySem.W.kitx_list
def Ig:=@PySem.wpAny_sequenceKey
def Ih:=@PySem.wpAny_of_eq
def Ii:=@Nat.le_succ
def Ij:=@Bool.not_eq_true'
def Ik:=@List.reverse_cons
def Il:=@List.getElem?_inj
def Im:=@PySem.wpAny_loadPart_at
def Io:=@List.getElem?_set
def Ip:=@List.Pairwise.map
def Iq:=@Nat.add_assoc
def Ir:=@PySem.evalPart_none
def Iu:=@beq_self_eq_true
def Iv:=@PySem.wpAny_execs_cons
def Iw:=@PySem.noFill_tuple_add
def Ix:=@Option.getD_some
def Iy:=@decide_eq_decide
def Iz:=@List.map_reverse
def IA:=@List.mem_reverse
def IB:=@List.getElem_mem
def IC:=@Int.ediv_one
def ID:=@Nat.sub_self
def IE:=@List.of_mem_zip
def IF:=@PySem.codeAny_of_tree
def IG:=@Nat.not_lt_zero
def IH:=@Sum.inr.inj
namespace My
open PySem PySem.W PySem.Calls PyProof.Rows
theorem with_hl {P R Q:Prop} (hl:P) (hc:R) (main:Q):Q:=main
structure Parts (Q:Prop):Type where
 {P1:Prop}
 {P2:Prop}
 {W:Prop}
 h0:P1
 h1:P2
 c:P1->P2->W->Q
noncomputable def Dh (_:Params):Obj:={cls:=Value.type "tuple",data:=Data.seq #[]}
noncomputable def Dg (_:Params):Obj:={cls:=Value.none,data:=Data.fields #[]}
noncomputable def De (_:Params):Obj:={cls:=Value.type "code",data:=Data.fields #[Value.str (Str.ofString "<module>") 182,Value.str (Str.ofString "<module>") 183,Value.str (Str.ofString "/claim/cut.py") 184,Value.int 1 0,Value.int 0 0,Value.int 0 0,Value.int 0 0,Value.int 0 0,Value.ref 11,Value.bool false,Value.int 181 0,Value.ref 12,Value.none,Value.none,Value.none,Value.none,Value.int 185 0,Value.int 1 0,Value.str (Str.ofString "/claim/cut.py") 186]}
noncomputable def Dd (_:Params):Obj:={cls:=Value.type "frame",slots:= #[some (Value.ref 13),some (Value.ref 3),some (Value.ref 3),none,some (Value.str (Str.ofString "__main__") 164),none,some (Value.ref 0)]}
noncomputable def Cu (P:Params):BT:=(BT.node (boot_o_0 P) (BT.node (boot_o_1 P) (BT.node (boot_o_3 P) (BT.node (boot_o_7 P) BT.nil BT.nil) (BT.node (Dh P) BT.nil BT.nil)) (BT.node (boot_o_5 P) (BT.node (boot_o_9 P) BT.nil BT.nil) (BT.node (De P) BT.nil BT.nil))) (BT.node (boot_o_2 P) (BT.node (boot_o_4 P) (BT.node (boot_o_8 P) BT.nil BT.nil) (BT.node (Dg P) BT.nil BT.nil)) (BT.node (boot_o_6 P) (BT.node (boot_o_10 P) BT.nil BT.nil) (BT.node (Dd P) BT.nil BT.nil))))
noncomputable def Bv (p:Program):Env:={scope:=p.main.scope,locals:=mainNs,globals:=mainNs,cells:=[],code:=.ref 13,frame:=some 14}
noncomputable abbrev hC (p:Program):Code:=.body (behindTheImports p) (Bv p)
noncomputable def hSt (w:World) (os:OsState):SharedT:=⟨Cu w.params,15,{},#[],{},187,os⟩
abbrev qd:Pos:=⟨0,0,0,0⟩
noncomputable abbrev Cv (p:Program):Thread:=piecesOf (behindTheImports p) (Bv p) (hC p) qd [topFrame qd]
noncomputable abbrev qc (p:Program) (n:Nat) (w:World) (os:OsState):Option (Flow×SharedT×Code×Pos):=W.Fast.tw10110043849684766642 W.Fast.tw14364793385576792824 p w 11 (some (.ref 6)) 1 n (hSt w os) (Cv p)
noncomputable def dF (s:Seen):=(s.ownsOk,s.names,s.globalsOk,s.builtinsOk,s.noLimit,s.gens)
theorem yV {a b:Seen} (h:a.defs.take 40=b.defs.take 40) (k:(dF a,a.defs.drop 40)=(dF b,b.defs.drop 40)):a=b:=by
 obtain ⟨k1,k2⟩:=Ex k
 have h:=(Fw 40 a.defs).symm.trans ((congrArg (· ++a.defs.drop 40) h).trans ((congrArg (b.defs.take 40++ ·) k2).trans (Fw 40 b.defs)))
 cases a
 cases b
 cases h
 cases k1
 rfl
theorem Di {p:Program} {w:World} {n₀:Nat} {ann:Option Value} (s:Shared) (c:Code) (pos:Pos):topRun treeTable p w n₀ ann 2 s ⟨doneF .next,c,pos,[topFrame qd]⟩=some s:=by
 obtain ⟨h,g,d,t,o⟩:=s
 kernel_rfl
theorem Cw (P:Params):((boot_heap P).isNs mainGlobals&&(#[]:Array GenState).size==0,(boot_heap P).objs.size,(boot_heap P).nsMap mainGlobals "__annotations__")=(true,11,some (.ref 6)):=by kernel_rfl
def u9 (p q:Program) (loose:List Str) (Xt:Shared->Bool) (n:Nat) (posE:Pos) (w:World) (os:OsState):Prop:=(qc p n w os).map (λr=>((r.1,r.2.2,(staticsOk (importedModules p.main.body) (boot_heap w.params) r.2.1.abs.heap&&namesBound p r.2.1.abs.heap&&gensDone r.2.1.abs&&laidKept (boot_heap w.params) r.2.1.abs.heap)),r.2.1.abs.heap.bltView,clsSeenW q loose r.2.1.abs,(r.2.1.abs.heap.accountedOkI (importedModules p.main.body),r.2.1.abs.heap.isNs mainGlobals,r.2.1.abs.heap.isNs builtinsNs,tablesOk q r.2.1.abs.heap,(if true=true then r.2.1.abs.gens.size==0 else !leftWithCleanup r.2.1.abs.gens))))=some ((Flow.next,(hC p,posE),true),bltViewBooted,clsGoodW q loose,(true,true,true,true,true))
def u8 (p q:Program) (loose:List Str) (Xt:Shared->Bool) (n:Nat) (posE:Pos) (w:World) (os:OsState):Prop:=(qc p n w os).map (λr=>((seen ((recsOf q).map (·.name)) (ownsOf q) [] {r.2.1.abs with gens:= #[]}).defs.take 40,(dF (seen ((recsOf q).map (·.name)) (ownsOf q) [] {r.2.1.abs with gens:= #[]}),(seen ((recsOf q).map (·.name)) (ownsOf q) [] {r.2.1.abs with gens:= #[]}).defs.drop 40)))=some ((expectedOf q).defs.take 40,(dF (expectedOf q),(expectedOf q).defs.drop 40))
def uY (p q:Program) (loose:List Str) (Xt:Shared->Bool) (n:Nat) (posE:Pos) (w:World) (os:OsState):Prop:=(qc p n w os).map (λr=>(tabsOk q r.2.1.abs))=some (true)
def u0 (p q:Program) (loose:List Str) (Xt:Shared->Bool) (n:Nat) (posE:Pos) (w:World) (os:OsState):Prop:=(qc p n w os).map (λr=>(((r.2.1.abs.heap.keysOk (looseW q loose) (List.map (λx=>x.name) (recsOf q)) (List.map (λx=>x.fst) (litsOf q)) (List.map (λx=>x.name) (clssOf q (looseW q loose)))),Xt r.2.1.abs)))=some ((true,true))
def uZ (p q:Program) (loose:List Str) (Xt:Shared->Bool) (n:Nat) (posE:Pos) (w:World) (os:OsState):Prop:=(qc p n w os).map (λr=>(pinSeenD q (drecsOf q) r.2.1.abs,plainSeenE q (looseW q loose) r.2.1.abs,plainSeenD q loose r.2.1.abs,wideSeen q r.2.1.abs))=some (pinGoodD (drecsOf q),plainGoodE q (looseW q loose),plainGoodD q loose,wideGood q)
theorem left_of {p q:Program} {loose:List Str} {Xt:Shared->Bool} {α:Type} {Yf:Shared->α} {Ya:World->α} {N:Nat} {posE:Pos}
  (q':Program) (loose':List Str) (Xt':Shared->Bool) (n:Nat) (hq:q=q') (hl':loose=loose') (hX:Xt=Xt')
  (e:opening p=plainProg p.main.scope.names) (hN:Nat.ble 600 N=true) (f: ∀ s,fenceModules? p s=some s) (le:Nat.ble (12+ (1+ (n+2))) N=true)
  (pre: ∀ (w:World) (os:OsState),topGo treeTable p w 11 (some (.ref 6)) 12 ⟨boot_heap w.params,#[],boot_drawn,boot_toks,os⟩ (topStub p)=some ((hSt w os).abs,⟨denote treeTable (hC p),hC p,qd,[topFrame qd]⟩))
  (block: ∀ (w:World) (os:OsState),segRun treeTable p w 11 (some (.ref 6)) 1 1 (hSt w os).abs (blockOf (behindTheImports p) (Bv p) (hC p) qd [topFrame qd])=some (.next,(hSt w os).abs,hC p,qd))
  (run_b: ∀ (w:World) (os:OsState),u9 p q' loose' Xt' n posE w os)
  (run_d: ∀ (w:World) (os:OsState),u8 p q' loose' Xt' n posE w os)
  (run_t: ∀ (w:World) (os:OsState),uY p q' loose' Xt' n posE w os)
  (run_f: ∀ (w:World) (os:OsState),u0 p q' loose' Xt' n posE w os)
  (run_p: ∀ (w:World) (os:OsState),uZ p q' loose' Xt' n posE w os)
  (run_h: ∀ (w:World) (os:OsState),(qc p n w os).map (λr=>Yf r.2.1.abs)=some (Ya w)):LeftO p q loose Xt Yf Ya N true:=by
 subst hq hl' hX
 intro w
 obtain ⟨⟨h,gs,d,k,os⟩,e1,e'⟩:=Ez.mp (boot_open e hN f w)
 obtain ⟨rfl,rfl,rfl,rfl⟩:h=boot_heap w.params/\gs= #[]/\d=boot_drawn/\k=boot_toks:=by simpa using e'
 obtain ⟨z1,z2,z3⟩:_/\_/\_:=by simpa only [Prod.mk.injEq]using Cw w.params
 have E:segRunT treeTable p w 11 (some (.ref 6)) 1 n (hSt w os) (Cv p)=qc p n w os:=by
  unfold qc
  rw [<- W.Fast.te10110043849684766642,<- W.Fast.te14364793385576792824]
 have A:=run_b w os
 unfold u9 at A
 obtain ⟨⟨fl,x,c,pos⟩,r1,r2⟩:=Ez.mp A
 have T_b:(fl,(c,pos),(staticsOk (importedModules p.main.body) (boot_heap w.params) x.abs.heap&&namesBound p x.abs.heap&&gensDone x.abs&&laidKept (boot_heap w.params) x.abs.heap))=(Flow.next,(hC p,posE),true):=(Ex r2).1
 have T_e:x.abs.heap.bltView=bltViewBooted:=(Ex (Ex r2).2).1
 have T_c:clsSeenW q loose x.abs=clsGoodW q loose:=(Ex (Ex (Ex r2).2).2).1
 have T_g:(x.abs.heap.accountedOkI (importedModules p.main.body),x.abs.heap.isNs mainGlobals,x.abs.heap.isNs builtinsNs,tablesOk q x.abs.heap,(if true=true then x.abs.gens.size==0 else !leftWithCleanup x.abs.gens))=(true,true,true,true,true):=(Ex (Ex (Ex r2).2).2).2
 simp only [Prod.mk.injEq]at T_b
 obtain ⟨rfl,⟨rfl,rfl⟩,l1⟩:=T_b
 have yb:=run_h w os
 rw [r1]at yb
 have yb:Yf x.abs=Ya w:=Ej yb
 have R_d:=run_d w os
 unfold u8 at R_d
 rw [r1]at R_d
 have S_d:((seen ((recsOf q).map (·.name)) (ownsOf q) [] {x.abs with gens:= #[]}).defs.take 40,(dF (seen ((recsOf q).map (·.name)) (ownsOf q) [] {x.abs with gens:= #[]}),(seen ((recsOf q).map (·.name)) (ownsOf q) [] {x.abs with gens:= #[]}).defs.drop 40))=((expectedOf q).defs.take 40,(dF (expectedOf q),(expectedOf q).defs.drop 40)):=Ej R_d
 have T_d:(seen ((recsOf q).map (·.name)) (ownsOf q) [] {x.abs with gens:= #[]}).defs.take 40=(expectedOf q).defs.take 40:=(Ex S_d).1
 have T_r:(dF (seen ((recsOf q).map (·.name)) (ownsOf q) [] {x.abs with gens:= #[]}),(seen ((recsOf q).map (·.name)) (ownsOf q) [] {x.abs with gens:= #[]}).defs.drop 40)=(dF (expectedOf q),(expectedOf q).defs.drop 40):=(Ex S_d).2
 have R_t:=run_t w os
 unfold uY at R_t
 rw [r1]at R_t
 have S_t:(tabsOk q x.abs)=(true):=Ej R_t
 have T_t:tabsOk q x.abs=true:=S_t
 have R_f:=run_f w os
 unfold u0 at R_f
 rw [r1]at R_f
 have S_f:(((x.abs.heap.keysOk (looseW q loose) (List.map (λx=>x.name) (recsOf q)) (List.map (λx=>x.fst) (litsOf q)) (List.map (λx=>x.name) (clssOf q (looseW q loose)))),Xt x.abs))=((true,true)):=Ej R_f
 have T_f:((x.abs.heap.keysOk (looseW q loose) (List.map (λx=>x.name) (recsOf q)) (List.map (λx=>x.fst) (litsOf q)) (List.map (λx=>x.name) (clssOf q (looseW q loose)))),Xt x.abs)=(true,true):=S_f
 have R_p:=run_p w os
 unfold uZ at R_p
 rw [r1]at R_p
 have S_p:(pinSeenD q (drecsOf q) x.abs,plainSeenE q (looseW q loose) x.abs,plainSeenD q loose x.abs,wideSeen q x.abs)=(pinGoodD (drecsOf q),plainGoodE q (looseW q loose),plainGoodD q loose,wideGood q):=Ej R_p
 have T_p:pinSeenD q (drecsOf q) x.abs=pinGoodD (drecsOf q):=(Ex S_p).1
 have T_u:plainSeenE q (looseW q loose) x.abs=plainGoodE q (looseW q loose):=(Ex (Ex S_p).2).1
 have T_v:plainSeenD q loose x.abs=plainGoodD q loose:=(Ex (Ex (Ex S_p).2).2).1
 have T_w:wideSeen q x.abs=wideGood q:=(Ex (Ex (Ex S_p).2).2).2
 obtain ⟨f1,f2⟩:=Ex T_f
 obtain ⟨g1,g2⟩:=Ex T_g
 obtain ⟨g2,g3⟩:=Ex g2
 obtain ⟨g3,g4⟩:=Ex g3
 obtain ⟨g4,g5⟩:=Ex g4
 have T_F:((x.abs.heap.keysOk (looseW q loose) (List.map (λx=>x.name) (recsOf q)) (List.map (λx=>x.fst) (litsOf q)) (List.map (λx=>x.name) (clssOf q (looseW q loose))))&&x.abs.heap.accountedOkI (importedModules p.main.body)&&x.abs.heap.isNs mainGlobals&&x.abs.heap.isNs builtinsNs&&tablesOk q x.abs.heap&&Xt x.abs&&(if true=true then x.abs.gens.size==0 else !leftWithCleanup x.abs.gens))=true:=FD.mpr ⟨FD.mpr ⟨FD.mpr ⟨FD.mpr ⟨FD.mpr ⟨FD.mpr ⟨f1,g1⟩,g2⟩,g3⟩,g4⟩,f2⟩,g5⟩
 have l2:openSeen q loose (importedModules p.main.body) Xt true x.abs=openGood q loose:=Gs (yV T_d T_r) (Gs T_e (Gs T_F (Gs T_t (Gs T_p (Gs T_u (Gs T_v (Gs T_w T_c)))))))
 have s1:=segRun_of (E.trans r1)
 have t1:=piece_app (rest:=[]) s1 (piece_nil (Di x.abs _ _))
 rw [En]at t1
 have t3:=go_top (pre w os) (piece_block (block w os) t1)
 have r:=topRun_mono (N- (12+ (1+ (n+2)))) _ _ _ _ t3
 rw [show 12+ (1+ (n+2)) + (N- (12+ (1+ (n+2))))=N by have:=Nat.le_of_ble_eq_true le;omega]at r
 have t:topFrom treeTable p w N ⟨boot_heap w.params,#[],boot_drawn,boot_toks,os⟩=some x.abs:=by
  unfold topFrom
  dsimp only
  rw [z1,z2,z3,r]
  show (match staticsOk _ _ _&&namesBound _ _&&gensDone _&&laidKept _ _ with | true=>_ | false=>_)=_
  rw [l1]
 unfold openEnds
 rw [e1]
 change Option.map _ (topFrom treeTable p w N _)=_
 rw [t]
 exact congrArg some (Gs l2 yb)
open PySem PySem.W PySem.Calls PyProof.Rows
noncomputable abbrev hp:Program:=PySem.Challenge.rw_boughworth_k09_why_it_is_no_book.row.prog
noncomputable def hq:Program:=view hp [1,2,3,4,5,6,7,8,9,10,11,12,13,14,15,16,17,18,19,21,22,23,24,26,27,28,29,30,31,32,33,34,35,37,38,39,40,41,42,43,44,45,46,47,48,49,50,51,52,53,54,55,56,57,58,59,60,61,62,63,64,65,66,67,68,69,70,71,73,74,75,76,77,78,79,80,81,82,83,84,85,86,87,88,89,90,91,92,93,94,95,96]
def hl:List Str:=[Str.ofString "INNER_COUNTS"]
noncomputable def hX (s:Shared):Bool:=xlAt hq [] s&&recOk PySem.Challenge.rw_boughworth_k09_why_it_is_no_book.row.records s
theorem o_b0 (w:World): ∀ os:OsState,u9 hp hq hl hX 6400 ⟨465,0,486,15⟩ (w.withFollow "special-get-raises" false) os:=by intro os;delta u9;kernel_rfl
theorem o_b1 (w:World): ∀ os:OsState,u9 hp hq hl hX 6400 ⟨465,0,486,15⟩ (w.withFollow "special-get-raises" true) os:=by intro os;delta u9;kernel_rfl
theorem o_d0 (w:World): ∀ os:OsState,u8 hp hq hl hX 6400 ⟨465,0,486,15⟩ (w.withFollow "special-get-raises" false) os:=by intro os;delta u8;kernel_rfl
theorem o_d1 (w:World): ∀ os:OsState,u8 hp hq hl hX 6400 ⟨465,0,486,15⟩ (w.withFollow "special-get-raises" true) os:=by intro os;delta u8;kernel_rfl
theorem o_t0 (w:World): ∀ os:OsState,uY hp hq hl hX 6400 ⟨465,0,486,15⟩ (w.withFollow "special-get-raises" false) os:=by intro os;delta uY;kernel_rfl
theorem o_t1 (w:World): ∀ os:OsState,uY hp hq hl hX 6400 ⟨465,0,486,15⟩ (w.withFollow "special-get-raises" true) os:=by intro os;delta uY;kernel_rfl
theorem o_f0 (w:World): ∀ os:OsState,u0 hp hq hl hX 6400 ⟨465,0,486,15⟩ (w.withFollow "special-get-raises" false) os:=by intro os;delta u0;kernel_rfl
theorem o_f1 (w:World): ∀ os:OsState,u0 hp hq hl hX 6400 ⟨465,0,486,15⟩ (w.withFollow "special-get-raises" true) os:=by intro os;delta u0;kernel_rfl
theorem o_p0 (w:World): ∀ os:OsState,uZ hp hq hl hX 6400 ⟨465,0,486,15⟩ (w.withFollow "special-get-raises" false) os:=by intro os;delta uZ;kernel_rfl
theorem o_p1 (w:World): ∀ os:OsState,uZ hp hq hl hX 6400 ⟨465,0,486,15⟩ (w.withFollow "special-get-raises" true) os:=by intro os;delta uZ;kernel_rfl
end My
noncomputable def W.Fast.tw467751106788289770:PySem.Program:=PySem.Challenge.pw_boughworth_k09_why_it_is_no_book
theorem W.Fast.te467751106788289770:PySem.Challenge.pw_boughworth_k09_why_it_is_no_book=W.Fast.tw467751106788289770:=rfl
open PySem PySem.W PyProof.Rows in
set_option maxHeartbeats 0 in
noncomputable def My.parts:My.Parts PySem.Challenge.rw_boughworth_k09_why_it_is_no_book.Holds:=by
 apply My.Parts.mk
 case c=>
  intro uh0 uh1 hW
  w_on;o_law
  apply My.with_hl
  case main=>
   k_head;(case hw=>w_witness2)
  case hc=>exact hW
  case hl=>
   refine My.left_of (posE:=⟨465,0,486,15⟩) My.hq My.hl My.hX 6400 ?q ?l ?X ?e ?hN ?f ?le ?pre ?block (byRow2 "special-get-raises" My.o_b0 My.o_b1) (byRow2 "special-get-raises" My.o_d0 My.o_d1) (byRow2 "special-get-raises" My.o_t0 My.o_t1) (byRow2 "special-get-raises" My.o_f0 My.o_f1) (byRow2 "special-get-raises" My.o_p0 My.o_p1) (byRow2 "special-get-raises" uh0 uh1)
   case q=>kernel_rfl
   case l=>kernel_rfl
   case X=>kernel_rfl
   case e=>kernel_rfl
   case hN=>decide
   case f=>intro s;kernel_rfl
   case le=>decide
   case pre=>(intro w os;kernel_rfl)
   case block=>(intro w os;kernel_rfl)
 case h0=>(intro w os;kernel_rfl)
 case h1=>(intro w os;kernel_rfl)
namespace PySem
section
variable {prog:Program} {w:World} {K K2:Type} [DecidableEq K] [DecidableEq K2] {knd:KeyKind prog w K} {kn2:KeyKind prog w K2}
def IsPairKey (knd:KeyKind prog w K) (kn2:KeyKind prog w K2) (h:Heap) (p:List K×K2) (a:Addr):Prop:=
 ∃ o items n b v,h.get? a=some o/\o.cls=.type "tuple"/\o.data=.seq items n/\items.toList=[.ref b,v]/\IsTupleKey knd h p.1 b/\kn2.is p.2 v=true
noncomputable def kT (knd:KeyKind prog w K) (kn2:KeyKind prog w K2) (p:List K×K2):Int:=reduceHash (Builtin.Tuple.tupleHashOf [tupleKeyHash knd p.1,kn2.hash p.2])
variable {A:Around} {E:Value->Shared->Prop} {s:Shared}
theorem IsPairKey.typeIs {p:List K×K2} {a:Addr} (x:IsPairKey knd kn2 s.heap p a):s.TypeIs (.ref a) "tuple":=by
 obtain ⟨o,_,_,_,_,e,c,_⟩:=x;exact ⟨o,e,c⟩
theorem IsPairKey.inj {h:Heap} {p q:List K×K2} {a:Addr} (x:IsPairKey knd kn2 h p a) (y:IsPairKey knd kn2 h q a):p=q:=by
 obtain ⟨o,i,n,b,v,e,_,d,t,k,m⟩:=x;obtain ⟨o',i',n',b',v',e',_,d',t',k',m'⟩:=y;rw [e]at e';cases e';rw [d]at d';cases d';rw [t]at t';have h1:b=b'/\v=v':=by simpa using t'
 obtain ⟨rfl,rfl⟩:=h1;exact Gs (k.inj k') (kn2.inj _ _ _ m m')
theorem IsPairKey.keeps {h h':Heap} {p:List K×K2} {a d:Addr} {o:Obj} {es ep} (x:IsPairKey knd kn2 h p a) (ho:h.get? d=some o) (hd:o.data=.dict es ep) (hs:Heap.SameBut d h h'):IsPairKey knd kn2 h' p a:=by
 obtain ⟨o',i,n,b,v,e,c,dt,t,k,m⟩:=x;refine ⟨o',i,n,b,v,?_,c,dt,t,k.keeps ho hd hs,m⟩;have ne:a≠d:=λz=>by
  subst z;rw [ho]at e;cases e;rw [hd]at dt;cases dt
 rw [<- e];exact hs.2 a ne
theorem iK {p:List K×K2} {a:Addr} {Q:Int->Shared->Prop} (hu:A.units+8<cLine) (hk:IsPairKey knd kn2 s.heap p a) (h:Q (kT knd kn2 p) {s with toks:=s.toks+ (p.1.length+1+1+1)}):
  wpAny (model prog w) A (pyHash (.ref a)) Q E s:=by
 have hT:=hk.typeIs;obtain ⟨o,items,n,b,v,ho,_,hd,hi,hb,hv⟩:=hk;unfold pyHash;first | unfold pyHashByItsType | skip
 first | refine Dw (wpAny_cRoomFor_or (.inr (by lia)) ?_) | skip
 refine Dw (G2 hT F.slot_tuple_hash.lookup ?_);show wpAny _ _ (if (some (Value.builtin "tuple.__hash__")==some Value.none)=true then _ else _) Q E s;rw [DU (by rw [beq_builtin_none];exact DM)];refine Dw (G2 hT F.slot_tuple_hash.lookup ?_);show wpAny _ _ (callSpecialIfBoundUnlessNone? (.ref a) "__hash__" _ >>= _) Q E s;refine Dw (wpAny_callSpecialIfBoundUnlessNone?_slot hT F.slot_tuple_hash (EH F.slot_tuple_hash hT F.entry_tuple_hash ?_ (F.args_tuple_hash_1 _)));show wpAny _ _ (Builtin.Tuple.tupleItemsOf (.ref a) >>= _) _ _ s;refine Dw (HP ho hd ?_);refine Dw ?_;rw [<- HQ,hi,Fo];refine Dw (Dw (wpAny_pyHash_tuple (by show _<cLine;simp;lia) hb ?_));refine Dy ?_;show wpAny _ _ (forIn [v] #[tupleKeyHash knd p.1] _) _ _ _;rw [Fo];refine Dw (Dw (kn2.pyHash hv ?_));refine Dy ?_;show wpAny _ _ (forIn [] _ _) _ _ _;rw [HR];refine Dy ?_;show wpAny _ _ (retInt (Builtin.Tuple.tupleHashOf [tupleKeyHash knd p.1,kn2.hash p.2])) _ _ _;refine wpAny_ret_mkInt ?_;generalize hz:Builtin.Tuple.tupleHashOf [tupleKeyHash knd p.1,kn2.hash p.2]=z;show wpAny _ _ (if (decide (-(2:Int) ^63<=z)&&decide (z<2^63))=true then _ else _) Q E _;unfold kT reduceHash at h;rw [hz]at h;by_cases hr:(decide (-(2:Int) ^63<=z)&&decide (z<2^63))=true
 ·rw [Ea hr];rw [Ea hr]at h;exact Dy (by simpa [Iq]using h)
 ·rw [DU hr];rw [DU hr]at h;exact Dw (wpAny_rule (Dy (by simpa [Iq]using h)))
theorem pC (m:Nat) {ks:List K} {a:Addr} {Q:Bool->Shared->Prop} (hk:IsTupleKey knd s.heap ks a) (h:Q true s):wpAny (model prog w) A (eqIsQuiet (m+1) (.ref a)) Q E s:=by
 have hT:=hk.typeIs;obtain ⟨o,items,n,ho,_,hd,hi⟩:=hk;unfold eqIsQuiet;refine Dw (G2 hT F.slot_tuple_eq.lookup ?_);show wpAny _ _ (isInstance (.ref a) (.type "tuple") >>= _) _ _ s;refine Dw (EW hT Hu ?_);simp only [Ff,El,EN];refine Dw (HS ho hd (Dw ?_));show wpAny _ _ (forIn items _ _) _ _ s;rw [<- HQ];refine wpAny_forIn_list _ (λrest r s'=>r.1=none/\s'=s/\ ∀ v∈rest,carriedByValue v=true) _ ?_ ?_ _ _ ⟨rfl,rfl,hi.byValue⟩
 ·rintro v rest r s' ⟨hr,rfl,hall⟩;rw [eqIsQuiet_byValue _ (hall v DW)];refine Dw (Dy ?_);simp only [Ff,El,EN];exact Dy ⟨rfl,rfl,λu hu'=>hall u (DZ _ hu')⟩
 ·rintro ⟨r1,r2⟩ s' ⟨hr,rfl,_⟩;simp only at hr;subst hr;exact Dy h
theorem gA {p:List K×K2} {a:Addr} {Q:Bool->Shared->Prop} (hk:IsPairKey knd kn2 s.heap p a) (h:Q true s):wpAny (model prog w) A (eqIsQuiet 8 (.ref a)) Q E s:=by
 have hT:=hk.typeIs;obtain ⟨o,items,n,b,v,ho,_,hd,hi,hb,hv⟩:=hk;unfold eqIsQuiet;refine Dw (G2 hT F.slot_tuple_eq.lookup ?_);show wpAny _ _ (isInstance (.ref a) (.type "tuple") >>= _) _ _ s;refine Dw (EW hT Hu ?_);simp only [Ff,El,EN];refine Dw (HS ho hd ?_);refine Dw ?_;show wpAny _ _ (forIn items _ _) _ _ s;rw [<- HQ,hi,Fo];refine Dw (Dw (pC 6 hb ?_));simp only [Ff,El,EN];refine Dy ?_;show wpAny _ _ (forIn [v] (none,()) _) _ _ _;rw [Fo,eqIsQuiet_byValue _ (kn2.byValue _ _ hv)];refine Dw (Dw (Dy ?_));simp only [Ff,El,EN];refine Dy ?_;show wpAny _ _ (forIn [] _ _) _ _ _;rw [HR];exact Dy (Dy h)
theorem nV {p q:List K×K2} {a b:Addr} {R:Fin->Shared->Prop} (hu:A.units+4<cLine) (hx:IsPairKey knd kn2 s.heap p a) (hy:IsPairKey knd kn2 s.heap q b) (h:R (.done (.ret (.bool (decide (p=q))))) s):
  wpAny (model prog w) A (Builtin.«tuple.__eq__» ⟨[.ref a,.ref b],[]⟩) R E s:=by
 have hTb:=hy.typeIs;obtain ⟨oa,xs,na,a1,v1,hoa,_,hda,hia,hka,hva⟩:=hx;obtain ⟨ob,ys,nb,b1,v2,hob,_,hdb,hib,hkb,hvb⟩:=hy;show wpAny _ _ (isInstance (.ref b) (.type "tuple") >>= _) _ _ s;refine Dw (EW hTb Hu ?_);simp only [Ff,El,EN];refine Dw (HP hoa hda (Dw (HP hob hdb (Dw ?_))));have hs:xs.size=ys.size:=by rw [<- EJ,<- EJ,hia,hib];rfl
 rw [hia,hib];show wpAny _ _ (forIn [(Value.ref a1,Value.ref b1),(v1,v2)] (none,()) _) _ _ _;rw [Fo];refine Dw (Dw (wpAny_eqBool_tuple (by lia) hka hkb ?_));by_cases h1:p.1=q.1
 ·rw [DB h1];simp only [Ff,El,EN];refine Dy ?_;show wpAny _ _ (forIn [(v1,v2)] (none,()) _) _ _ _;rw [Fo];refine Dw (Dw (kn2.eqBool (a:=p.2) (b:=q.2) hva hvb ?_));by_cases h2:p.2=q.2
  ·rw [DB h2];simp only [Ff,El,EN];refine Dy ?_;show wpAny _ _ (forIn [] _ _) _ _ _;rw [HR];rw [DB (Gs h1 h2)]at h;refine Dy (Dy ?_);show R (.done (.ret (.bool (xs.size==ys.size)))) s;rw [hs,Iu];exact h
  ·rw [DG h2];simp only [Bool.not_false,Gw];rw [DG λe=>h2 (congrArg Prod.snd e)]at h;exact Dw (Dy (Dy (Dy (Dy h))))
 ·rw [DG h1];simp only [Bool.not_false,Gw];rw [DG λe=>h1 (congrArg Prod.fst e)]at h;exact Dw (Dy (Dy (Dy (Dy h))))
theorem iL {p q:List K×K2} {a b:Addr} {Q:Bool->Shared->Prop} (hu:A.units+8<cLine) (hx:IsPairKey knd kn2 s.heap p a) (hy:IsPairKey knd kn2 s.heap q b) (h:Q (decide (p=q)) s):
  wpAny (model prog w) A (eqBool (.ref a) (.ref b)) Q E s:=by
 unfold eqBool;try with_reducible refine Ey ?_
 show wpAny _ _ (if (Value.ref a==Value.ref b)=true then _ else _) Q E s;by_cases hab:(Value.ref a==Value.ref b)=true
 ·rw [Ea hab];have e:a=b:=by have:=eq_of_beq hab;injection this
  subst e;obtain rfl:=hx.inj hy;exact Dw (wpAny_rule (Dy (by simpa using h)))
 ·rw [DU hab];exact Dw (wpAny_richCompare_same_room (op:=.Eq) hx.typeIs hy.typeIs F.slot_tuple_eq
   (EH F.slot_tuple_eq hx.typeIs F.entry_tuple_eq (nV (by simp;lia) hx hy ⟨_,rfl,(λe=>nomatch e),E4 h⟩) (F.args_tuple_eq_2 _ _)) (by lia))
end
noncomputable def gO {prog:Program} {w:World} {K K2:Type} [DecidableEq K] [DecidableEq K2] (knd:KeyKind prog w K) (kn2:KeyKind prog w K2):HeapKind prog w (List K×K2) where
 is:=IsPairKey knd kn2
 hash:=kT knd kn2
 draws:=λp=>p.1.length+1+1+1
 room:=λA=>A.units+8<cLine
 inj:=λhx hy=>hx.inj hy
 keeps:=λx ho hd hs=>x.keeps ho hd hs
 pyHash:=λhu hk h=>iK hu hk h
 eqBool:=λhu hx hy h=>iL hu hx hy h
 quiet:=λhk h=>gA hk h
end PySem
namespace L2
open PySem PySem.Spec PyProof.Rows
abbrev Key:=Sum Int Str
noncomputable def kX:Key->Value->Bool
 | .inl k,v=>Value.isInt k v
 | .inr x,v=>Value.isStrOf x v
noncomputable def Da (w:World):Key->Int
 | .inl k=>hashInt k
 | .inr x=>hashStr w x
theorem bC: ∀ {k:Key} {v:Value},kX k v=true->(∃ i t,k=Sum.inl i/\v=Value.int i t)\/(∃ x t,k=Sum.inr x/\v=Value.str x t)
 | .inl i,v,h=>by
  obtain ⟨t,e⟩:=Value.isInt_shape (k:=i) (v:=v) h;exact .inl ⟨i,t,rfl,e⟩
 | .inr x,v,h=>by
  obtain ⟨t,e⟩:=Value.isStrOf_shape (x:=x) (v:=v) h;exact .inr ⟨x,t,rfl,e⟩
theorem vg (i:Int) (t:Tok):kX (.inl i) (.int i t)=true:=by simp [kX,Value.isInt]
theorem bD (x:Str) (t:Tok):kX (.inr x) (.str x t)=true:=by simp [kX,Value.isStrOf]
theorem Bp (a b:Int):decide ((Sum.inl a:Key)=Sum.inl b)=(a==b):=by
 by_cases e:a=b
 ·subst e;simp
 ·have h: ¬ (Sum.inl a:Key)=Sum.inl b:=λq=>e (Sum.inl.inj q);rw [DG h];exact (Fn.mpr e).symm
theorem Bm (a b:Str):decide ((Sum.inr a:Key)=Sum.inr b)=decide (a=b):=by
 by_cases e:a=b
 ·subst e;simp
 ·have h: ¬ (Sum.inr a:Key)=Sum.inr b:=λq=>e (IH q);rw [DG h,DG e]
theorem Bo (a:Int) (b:Str):decide ((Sum.inl a:Key)=Sum.inr b)=false:=DG (λq=>nomatch q)
theorem Bn (a:Str) (b:Int):decide ((Sum.inr a:Key)=Sum.inl b)=false:=DG (λq=>nomatch q)
noncomputable def a4 (prog:Program) (w:World):PySem.KeyKind prog w Key where
 is:=kX
 hash:=Da w
 inj:=λv a b ha hb=>by
  rcases bC ha with ⟨i,t,rfl,rfl⟩ | ⟨x,t,rfl,rfl⟩
  ·rcases bC hb with ⟨j,u,rfl,e⟩ | ⟨y,u,rfl,e⟩
   ·injection e with e1 _;rw [e1]
   ·exact nomatch e
  ·rcases bC hb with ⟨j,u,rfl,e⟩ | ⟨y,u,rfl,e⟩
   ·exact nomatch e
   ·injection e with e1 _;rw [e1]
 byValue:=λk v h=>by
  rcases bC h with ⟨i,t,rfl,rfl⟩ | ⟨x,t,rfl,rfl⟩ <;> rfl
 pyHash:=λhv h=>by
  rcases bC hv with ⟨i,t,rfl,rfl⟩ | ⟨x,t,rfl,rfl⟩
  ·exact wpAny_pyHash_int h
  ·exact wpAny_pyHash_str h
 eqBool:=λhu hv h=>by
  rcases bC hu with ⟨i,t,rfl,rfl⟩ | ⟨x,t,rfl,rfl⟩
  ·rcases bC hv with ⟨j,u,rfl,rfl⟩ | ⟨y,u,rfl,rfl⟩
   ·rw [Bp]at h;exact wpAny_eqBool_int h
   ·rw [Bo]at h;exact HU i t y u _ _ _ _ h
  ·rcases bC hv with ⟨j,u,rfl,rfl⟩ | ⟨y,u,rfl,rfl⟩
   ·rw [Bn]at h;exact HV x t j u _ _ _ _ h
   ·rw [Bm]at h;exact wpAny_eqBool_str h
 «strs» :=λk x t v h=>by
  rcases bC h with ⟨i,u,rfl,e⟩ | ⟨y,u,rfl,e⟩
  ·exact nomatch e
  ·injection e with e1 _
   subst e1;cases v <;> rfl
theorem rM (prog:Program) (w:World) (k:Key) (v:Value):(a4 prog w).is k v=kX k v:=rfl
theorem pT (prog:Program) (w:World) (i:Int) (t:Tok):(a4 prog w).is (.inl i) (.int i t)=true:=vg i t
theorem pS (prog:Program) (w:World) (x:Str) (t:Tok):(a4 prog w).is (.inr x) (.str x t)=true:=bD x t
inductive V where
 | non | bl (b:Bool) | int (i:Int) | str (x:Str) | byt (b:Array UInt8) | flt (b:UInt64) | ref (a:Addr) | ty (n:String)
 deriving DecidableEq
noncomputable def RelV:V->Value->Prop
 | .non,u=>u=Value.none
 | .bl b,u=>u=Value.bool b
 | .int i,u=> ∃ t,u=Value.int i t
 | .str x,u=> ∃ t,u=Value.str x t
 | .byt b,u=> ∃ t,u=Value.bytes b t
 | .flt b,u=> ∃ t,u=Value.float b t
 | .ref a,u=>u=Value.ref a
 | .ty n,u=>u=Value.type n
noncomputable abbrev Vals:List V->List Value->Prop:=Paired RelV
theorem Vals.length {xs:List V} {us:List Value} (r:Vals xs us):xs.length=us.length:=Ev r
theorem Vals.get: ∀ {xs:List V} {us:List Value} {i:Nat} {x:V},Vals xs us->xs[i]? =some x-> ∃ u,us[i]? =some u/\RelV x u
 | _,_,_,_,.nil,e=>by simp at e
 | _,_,0,_,.cons r _,e=>by simp at e;subst e;exact ⟨_,rfl,r⟩
 | _,_,i+1,x,.cons _ t,e=>by
  obtain ⟨u,h1,h2⟩:=Vals.get (i:=i) (x:=x) t (by simpa using e);exact ⟨u,by simpa using h1,h2⟩
theorem Vals.set {x:V} {u:Value} (r:RelV x u): ∀ {xs:List V} {us:List Value} (i:Nat),Vals xs us->Vals (xs.set i x) (us.set i u)
 | _,_,_,.nil=>.nil
 | _,_,0,.cons _ t=>.cons r t
 | _,_,i+1,.cons q t=>.cons q (Vals.set r i t)
theorem Vals.append: ∀ {xs ys:List V} {us ws:List Value},Vals xs us->Vals ys ws->Vals (xs++ys) (us++ws)
 | _,_,_,_,.nil,s=>s
 | _,_,_,_,.cons r t,s=>.cons r (Vals.append t s)
theorem Vals.take: ∀ {xs:List V} {us:List Value} (n:Nat),Vals xs us->Vals (xs.take n) (us.take n)
 | _,_,0,_=>.nil
 | _,_,_+1,.nil=>.nil
 | _,_,n+1,.cons r t=>.cons r (Vals.take n t)
theorem Vals.drop: ∀ {xs:List V} {us:List Value} (n:Nat),Vals xs us->Vals (xs.drop n) (us.drop n)
 | _,_,0,r=>r
 | _,_,_+1,.nil=>.nil
 | _,_,n+1,.cons _ t=>Vals.drop n t
theorem Vals.none_of: ∀ {xs:List V} {us:List Value} {i:Nat},Vals xs us->xs[i]? =none->us[i]? =none:=λ{xs us i} r e=>by
 have h1:=r.length;have h2:xs.length<=i:=List.getElem?_eq_none_iff.mp e;exact List.getElem?_eq_none_iff.mpr (by lia)
noncomputable def RelO:Option V->Option Value->Prop
 | some v,some u=>RelV v u
 | none,none=>True
 | _,_=>False
noncomputable def KV {κ:Type}:List (κ×V)->List (κ×Value)->Prop:=Paired λ(p:κ×V) (q:κ×Value)=>p.1=q.1/\RelV p.2 q.2
noncomputable def kV:Key->V
 | .inl i=>.int i
 | .inr x=>.str x
inductive HO where
 | lst (xs:List V)
 | tup (xs:List V)
 | dK (kvs:List (Key×V)) | dT (kvs:List (List Key×V)) | dP (kvs:List ((List Key×Key)×V))
 | set (S:Int->Bool) (n:Nat)
 | ins (C dx:Addr) (fs:List (Str×V))
 | own (x:Addr)
 | xd (fs:List (Str×V))
 | met (f x:Addr)
 | rng (lo hi:Int)
 | frz (o:Obj) (u:HO)
 | tbl (ps:Array Value)
 | ext (φ:Heap->Prop)
abbrev Hp:=Addr->Option HO
noncomputable def upd (H:Hp) (a:Addr) (o:HO):Hp:=λb=>if b=a then some o else H b
theorem ae {H:Hp} {a:Addr} {o:HO}:upd H a o a=some o:=by unfold upd;rw [Ea rfl]
theorem aj {H:Hp} {a b:Addr} {o:HO} (h:b≠a):upd H a o b=H b:=by unfold upd;rw [DU h]
theorem dW {H:Hp} {a:Addr} {o u:HO}:upd (upd H a o) a u=upd H a u:=by
 funext b;unfold upd;split <;> rfl
theorem Ay {H:Hp} {a b:Addr} {o u:HO} (h:H a=some o) (h':H b=some u) (d:o≠u):a≠b:=by
 intro e;subst e;rw [h]at h';exact d (Ej h')
theorem al {H:Hp} {a b:Addr} {o:HO} (h:H a=some o) (h':H b=none):a≠b:=by
 intro e;subst e;rw [h]at h';cases h'
section
variable (P:Program) (w:World)
noncomputable def ObjOk (H:Hp) (h:Heap) (a:Addr):HO->Prop
 | .lst xs=>xs.length<=sizeLine/\ ∃ (its:List Value) (n:Nat),Vals xs its/\h.get? a=some {cls:=.type "list",data:=.seq its.toArray n}
 | .tup xs=>xs.length<=sizeLine/\ ∃ its:List Value,Vals xs its/\IsTup h a its.toArray
 | .dK kvs=>kvs.length<=sizeLine/\(a==sysModules)=false/\ ∃ vs,KV kvs vs/\h.DictOf (a4 P w) a vs
 | .dT kvs=>kvs.length<=sizeLine/\(a==sysModules)=false/\ ∃ xs:List (List Key×Addr×Value),
   Paired (λ(p:List Key×V) (q:List Key×Addr×Value)=>p.1=q.1/\H q.2.1=some (.tup (p.1.map kV))/\RelV p.2 q.2.2) kvs xs/\
   ∃ o es ep,h.get? a=some o/\o.ExactDict/\o.data=.dict es ep/\es.toList=xs.map (entryOfKey (tupleKind (a4 P w)))/\(xs.map (·.1)).Nodup
 | .dP kvs=>kvs.length<=sizeLine/\(a==sysModules)=false/\ ∃ xs:List ((List Key×Key)×Addr×Value),
   Paired (λ(p:(List Key×Key)×V) (q:(List Key×Key)×Addr×Value)=>p.1=q.1/\(∃ b,H q.2.1=some (.tup [.ref b,kV p.1.2])/\H b=some (.tup (p.1.1.map kV)))/\RelV p.2 q.2.2) kvs xs/\
   ∃ o es ep,h.get? a=some o/\o.ExactDict/\o.data=.dict es ep/\es.toList=xs.map (entryOfKey (gO (a4 P w) (a4 P w)))/\(xs.map (·.1)).Nodup
 | .set S n=>h.SetOf (intKind P w) a S n
 | .ins C dx fs=>H dx=some (.own a)/\fs.length<=1000/\dx≠a/\h.get? a=some (W.instObj C dx)/\
   ∃ mA,h.Ns1 dx mA/\(∀ f,RelO (fs.lookup f) (mA f))/\PySem.Within mA (fs.map (·.1))
 | .own _=> ∃ o,h.get? a=some o
 | .xd fs=> ∃ mA,h.Ns1 a mA/\ ∀ f,RelO (fs.lookup f) (mA f)
 | .rng lo hi=> ∃ t u v,h.get? a=some {cls:=.type "range",data:=.fields #[.int lo t,.int hi u,.int 1 v]}
 | .frz o u=>h.get? a=some o/\ObjOk H h a u
 | .tbl ps=>h.get? a=some {cls:=.none,data:=.fields ps}
 | .met f x=>h.get? a=some (W.methodObj (.ref f) (.ref x))
 | .ext φ=>φ h/\(∃ o,h.get? a=some o)/\ ∀ h1 h2:Heap,φ h1->(∀ o,h1.get? a=some o->h2.get? a=some o)->φ h2
def HOk (H:Hp) (h:Heap):Prop:= ∀ a o,H a=some o->ObjOk P w H h a o
end
section
variable {P:Program} {w:World} {H H':Hp} {h h':Heap} {a:Addr} {o:HO}
theorem ObjOk.lt (x:ObjOk P w H h a o):a<h.objs.size:=by
 cases o with
 | lst xs=>obtain ⟨_,_,_,_,e⟩:=x;exact DR e
 | tup xs=>obtain ⟨_,_,_,p⟩:=x;exact p.lt
 | dK kvs=>obtain ⟨_,_,_,_,o,_,_,e,_⟩:=x;exact DR e
 | dT kvs=>obtain ⟨_,_,_,_,o,_,_,e,_⟩:=x;exact DR e
 | dP kvs=>obtain ⟨_,_,_,_,o,_,_,e,_⟩:=x;exact DR e
 | set S n=>obtain ⟨o,_,_,_,e,_⟩:=x;exact DR e
 | ins C dx fs=>obtain ⟨_,_,_,e,_⟩:=x;exact DR e
 | own y=>obtain ⟨_,e⟩:=x;exact DR e
 | xd fs=>obtain ⟨_,⟨_,_,_,e,_⟩,_⟩:=x;exact DR e
 | rng lo hi=>obtain ⟨_,_,_,e⟩:=x;exact DR e
 | frz ob u=>obtain ⟨e,_⟩:=x;exact DR e
 | tbl ps=>exact DR (show h.get? a=some _ from x)
 | met f y=>exact DR (show h.get? a=some _ from x)
 | ext φ=>obtain ⟨_,⟨_,e⟩,_⟩:=x;exact DR e
theorem Paired.mapP {α β:Type} {F G:α->β->Prop}: ∀ {l₁:List α} {l₂:List β},Paired F l₁ l₂->(∀ a b,F a b->G a b)->Paired G l₁ l₂
 | _,_,.nil,_=>.nil
 | _,_,.cons r t,f=>.cons (f _ _ r) (Paired.mapP t f)
theorem ObjOk.stay (x:ObjOk P w H h a o) (k: ∀ b u,(b=a\/H b=some (.own a))->h.get? b=some u->h'.get? b=some u)
  (ho: ∀ b,H b=some (.own a)->H' b=some (.own a)) (ht: ∀ b xs,H b=some (.tup xs)->H' b=some (.tup xs)):ObjOk P w H' h' a o:=by
 induction o with
 | lst xs=>obtain ⟨z,its,n,r,e⟩:=x;exact ⟨z,its,n,r,k _ _ (.inl rfl) e⟩
 | tup xs=>obtain ⟨z,its,r,ob,e,c⟩:=x;exact ⟨z,its,r,ob,k _ _ (.inl rfl) e,c⟩
 | dK kvs=>obtain ⟨z,y,vs,r,ob,es,ep,e,c⟩:=x;exact ⟨z,y,vs,r,ob,es,ep,k _ _ (.inl rfl) e,c⟩
 | dT kvs=>
  obtain ⟨z,y,xs,r,ob,es,ep,e,c⟩:=x;exact ⟨z,y,xs,Paired.mapP r λp q z=>⟨z.1,ht _ _ z.2.1,z.2.2⟩,ob,es,ep,k _ _ (.inl rfl) e,c⟩
 | dP kvs=>
  obtain ⟨z,y,xs,r,ob,es,ep,e,c⟩:=x;exact ⟨z,y,xs,Paired.mapP r λp q z=>⟨z.1,let ⟨b,e1,e2⟩:=z.2.1;⟨b,ht _ _ e1,ht _ _ e2⟩,z.2.2⟩,ob,es,ep,k _ _ (.inl rfl) e,c⟩
 | set S n=>obtain ⟨ob,es,ep,t,e,c⟩:=x;exact ⟨ob,es,ep,t,k _ _ (.inl rfl) e,c⟩
 | ins C dx fs=>
  obtain ⟨d,z,ne,e,mA,⟨od,es,ep,e2,c⟩,r⟩:=x;exact ⟨ho _ d,z,ne,k _ _ (.inl rfl) e,mA,⟨od,es,ep,k _ _ (.inr d) e2,c⟩,r⟩
 | own y=>obtain ⟨ob,e⟩:=x;exact ⟨ob,k _ _ (.inl rfl) e⟩
 | xd fs=>obtain ⟨mA,⟨od,es,ep,e,c⟩,r⟩:=x;exact ⟨mA,⟨od,es,ep,k _ _ (.inl rfl) e,c⟩,r⟩
 | rng lo hi=>obtain ⟨t,u,v,e⟩:=x;exact ⟨t,u,v,k _ _ (.inl rfl) e⟩
 | frz ob u ih=>obtain ⟨e,q⟩:=x;exact ⟨k _ _ (.inl rfl) e,ih q⟩
 | tbl ps=>
  have e:h.get? a=some {cls:=.none,data:=.fields ps}:=x;show h'.get? a=some {cls:=.none,data:=.fields ps};exact k a _ (.inl rfl) e
 | met f y=>
  have e:h.get? a=some (W.methodObj (.ref f) (.ref y)):=x;show h'.get? a=some (W.methodObj (.ref f) (.ref y));exact k a _ (.inl rfl) e
 | ext φ=>obtain ⟨p,⟨o,e⟩,st⟩:=x;exact ⟨st _ _ p λo q=>k _ _ (.inl rfl) q,⟨o,k _ _ (.inl rfl) e⟩,st⟩
theorem HOk.lt (x:HOk P w H h) (e:H a=some o):a<h.objs.size:=(x a o e).lt
theorem HOk.fresh (x:HOk P w H h) (e:h.objs.size<=a):H a=none:=by
 cases q:H a with
 | none=>rfl
 | some u=>exact absurd (Ew (x.lt q) e) (Gj _)
theorem HOk.kept (x:HOk P w H h) (k: ∀ b u,h.get? b=some u->h'.get? b=some u):HOk P w H h':=λa o e=>
 (x a o e).stay (λb u _ q=>k b u q) (λ_ q=>q) λ_ _ q=>q
theorem HOk.laid (x:HOk P w H h) (k: ∀ b u,h.get? b=some u->h'.get? b=some u) (hp:h.objs.size<=a) (new:ObjOk P w (upd H a o) h' a o):HOk P w (upd H a o) h':=λb u e=>by
 have hn:=x.fresh hp;by_cases hb:b=a
 ·subst hb;rw [ae]at e;cases e;exact new
 ·rw [aj hb]at e;exact (x b u e).stay (λc v _ q=>k c v q) (λc q=>by rw [aj (al q hn)];exact q) λc xs q=>by rw [aj (al q hn)];exact q
end
def Rd (H:Hp) (a:Addr) (u:HO):Prop:=H a=some u\/ ∃ o,H a=some (.frz o u)
theorem Rd.ok {P:Program} {w:World} {H:Hp} {h:Heap} {a:Addr} {u:HO} (r:Rd H a u) (x:HOk P w H h):ObjOk P w H h a u:=by
 rcases r with r | ⟨o,r⟩
 ·exact x a u r
 ·obtain ⟨_,q⟩:=x a _ r;exact q
noncomputable def Mut:Option HO->Prop
 | some (.lst _)=>True
 | some (.dK _)=>True
 | some (.dT _)=>True
 | some (.dP _)=>True
 | some (.set _ _)=>True
 | some (.ins _ _ _)=>True
 | some (.ext _)=>True
 | _=>False
section
variable {P:Program} {w:World} {H:Hp} {h h':Heap} {x e:Addr} {o':HO}
theorem HOk.write (ok:HOk P w H h) (mu:Mut (H x)) (he:e=x\/H e=some (.own x)) (k: ∀ b u,b≠e->h.get? b=some u->h'.get? b=some u) (heo: ∃ u,h'.get? e=some u)
  (new:ObjOk P w (upd H x o') h' x o'):HOk P w (upd H x o') h':=λb u q=>by
 have nown: ∀ c y,H c=some (.own y)->c≠x:=λc y r z=>by subst z;rw [r]at mu;exact mu
 have ntup: ∀ c xs,H c=some (.tup xs)->c≠x:=λc xs r z=>by subst z;rw [r]at mu;exact mu
 by_cases hb:b=x
 ·subst hb;rw [ae]at q;cases q;exact new
 ·rw [aj hb]at q;by_cases hbe:b=e
  ·have q':H b=some (.own x):=by
    rcases he with z | z
    ·exact absurd (hbe.trans z) hb
    ·rw [hbe];exact z
   rw [q]at q';cases q';obtain ⟨v,hv⟩:=heo;exact ⟨v,by rw [hbe];exact hv⟩
  ·refine (ok b u q).stay (λc v hc r=>k c v ?_ r) (λc r=>by rw [aj (nown c b r)];exact r) λc xs r=>by rw [aj (ntup c xs r)];exact r
   rcases hc with rfl | hc
   ·exact hbe
   ·rintro rfl;rcases he with z | z
    ·exact nown c b hc z
    ·rw [hc]at z;cases z;exact hb rfl
end
structure Un (fs ex:List Addr) (H H':Hp) (h h':Heap):Prop where
 keep: ∀ b o,h.get? b=some o->H b=none->b∉fs->b∉ex->h'.get? b=some o
 slot: ∀ b o,h.get? b=some o->H b=none->b∈fs->b∉ex-> ∃ sl,h'.get? b=some {o with slots:=sl}
 free: ∀ b o,h.get? b=some o->H b=none->b∉ex->H' b=none
 there: ∀ b o,h.get? b=some o->b∉ex-> ∃ o',h'.get? b=some o'
 tups: ∀ b xs,H b=some (.tup xs)->H' b=some (.tup xs)
 frzs: ∀ b o u,H b=some (.frz o u)->H' b=some (.frz o u)
 tbls: ∀ b ps,H b=some (.tbl ps)-> ∃ more,H' b=some (.tbl (ps++more))
section
variable {fs fs' ex ex':List Addr} {H H1 H2:Hp} {h h1 h2 h':Heap} {a x e:Addr} {o:HO}
theorem Un.any (u:Un fs ex H H1 h h1) {b:Addr} {ob:Obj} (q:h.get? b=some ob) (n:H b=none) (hx:b∉ex): ∃ sl,h1.get? b=some {ob with slots:=sl}:=by
 by_cases hb:b∈fs
 ·exact u.slot b ob q n hb hx
 ·exact ⟨ob.slots,u.keep b ob q n hb hx⟩
theorem Un.kept (k: ∀ b u,h.get? b=some u->h'.get? b=some u):Un fs ex H H h h':=
 ⟨λb ob q _ _ _=>k b ob q,λb ob q _ _ _=>⟨ob.slots,k b ob q⟩,λ_ _ _ n _=>n,λb ob q _=>⟨ob,k b ob q⟩,λ_ _ q=>q,λ_ _ _ q=>q,λ_ ps q=>⟨#[],by rw [q];simp⟩⟩
theorem Un.refl:Un fs ex H H h h:=Un.kept λ_ _ q=>q
theorem Un.laid (k: ∀ b u,h.get? b=some u->h'.get? b=some u) (hp:h.objs.size<=a) (hn:H a=none):Un fs ex H (upd H a o) h h' where
 keep:=λb u q _ _ _=>k b u q
 slot:=λb u q _ _ _=>⟨u.slots,k b u q⟩
 free:=λb u q n _=>by rw [aj (Eg (Ew (DR q) hp))];exact n
 there:=λb u q _=>⟨u,k b u q⟩
 tups:=λb xs q=>by rw [aj (al q hn)];exact q
 frzs:=λb u xs q=>by rw [aj (al q hn)];exact q
 tbls:=λb ps q=>⟨#[],by rw [aj (al q hn),q];simp⟩
theorem Un.write (mu:Mut (H x)) (he:e=x\/H e=some (.own x)) (k: ∀ b u,b≠e->h.get? b=some u->h'.get? b=some u) (heo: ∃ u,h'.get? e=some u):Un fs ex H (upd H x o) h h':=by
 have hx: ∀ b,H b=none->b≠x:=λb n z=>by subst z;rw [n]at mu;exact mu
 have hb: ∀ b,H b=none->b≠e:=λb n z=>by
  subst z;rcases he with r | r
  ·exact hx b n r
  ·rw [n]at r;cases r
 have hm: ∀ b u,H b=some u-> ¬ Mut (some u)->b≠x:=λb u q nm z=>by subst z;rw [q]at mu;exact nm mu
 refine ⟨λb u q n _ _=>k b u (hb b n) q,λb u q n _ _=>⟨u.slots,k b u (hb b n) q⟩,λb u q n _=>by rw [aj (hx b n)];exact n,λb u q _=>?_,
  λb xs q=>by rw [aj (hm b _ q λz=>z)];exact q,λb u xs q=>by rw [aj (hm b _ q λz=>z)];exact q,λb ps q=>⟨#[],by rw [aj (hm b _ q λz=>z),q];simp⟩⟩
 by_cases hbe:b=e
 ·subst hbe;exact heo
 ·exact ⟨u,k b u hbe q⟩
end
noncomputable def trk (h:Heap) (H:Hp):List Addr:=(List.range h.objs.size).filter λa=>(H a).isSome
noncomputable def oq (h:Heap) (H:Hp):Heap:=W.hideAll h (trk h H)
theorem vj (h:Heap) (H:Hp):(oq h H).objs.size=h.objs.size:=W.hideAll_size _ _
theorem ye {h:Heap} {H:Hp} {b:Addr} {o:Obj} (e:h.get? b=some o) (n:H b=none):(oq h H).get? b=some o:=
 W.hideAll_get _ e λhm=>by
  have q:(H b).isSome=true:=(Fp.mp hm).2;rw [n]at q;simp at q
theorem zI {h:Heap} {H:Hp} {b:Addr} {o:Obj} (e:(oq h H).get? b=some o):h.get? b=some o/\H b=none:=by
 have e':h.get? b=some o:=W.of_hideAll (trk h H) e;refine ⟨e',?_⟩;cases q:H b with
 | none=>rfl
 | some x=>
  have hm:b∈trk h H:=Fp.mpr ⟨E5.mpr (DR e'),by simp [q]⟩;have z:(oq h H).get? b=none:=W.hideAll_none (trk h H) hm;rw [z]at e;cases e
structure Mod (K:W.Frag) (mg:Str->Option Value) (base:Heap):Prop where
 kin:K.In base
 glob:base.Ns mainGlobals mg
 blt: ∃ mb,base.Ns builtinsNs mb/\ ∀ x:Str,x≠"__name__"->mb x=bootBuiltins x
 nolimit:base.NoLimit
structure Cx where
 prog:Program
 w:World
 K:W.Frag
 mg:Str->Option Value
 base:Heap
 A:Around
 N:List Str
 s₀:Shared
 H₀:Hp
 env:Env
 outer:List Env
 stack:List Env
 ex:List Addr
 fn:Str->Bool
 calm:Bool
 pn:List (Addr×Obj)
 xe:Value->Shared->Prop
noncomputable def frs (l:List Env):List Addr:=l.filterMap (·.frame)
noncomputable abbrev Cx.fs (X:Cx):List Addr:=frs X.outer
def Vis (sc:Scope) (x:Str):Prop:=sc.names.lookup x=some .local\/sc.names.lookup x=some .cell\/sc.names.lookup x=some .free
def Loc (sc:Scope) (x:Str):Prop:=sc.names.lookup x=some .local\/sc.names.lookup x=some .cell
def Dq (env:Env) (h:Heap) (m:Str->Option Value) (x:Str) (u:Value):Prop:=
 (env.kindOf x=some .local/\m x=some u)\/((env.kindOf x=some .cell\/env.kindOf x=some .free)/\ ∃ c,env.cells.lookup x=some c/\h.IsCell c (some u))
structure Cx.Ok (X:Cx):Prop where
 mod:Mod X.K X.mg X.base
 kind:X.env.scope.kind=.function
 glob:X.env.globals=mainGlobals
 blt:X.env.builtins=builtinsNs
 above:X.s₀.heap.objs.size<=X.env.locals
 inj: ∀ x y c,X.env.cells.lookup x=some c->X.env.cells.lookup y=some c->x=y
 has: ∀ x,(X.env.kindOf x=some .cell\/X.env.kindOf x=some .free)-> ∃ c,X.env.cells.lookup x=some c
 cab: ∀ x c,X.fn x=true->X.env.cells.lookup x=some c->X.s₀.heap.objs.size<=c
 hd:X.calm=true->X.A.handled=none
 frames:X.A.frames=some X.stack
 stk:X.stack=X.outer\/(X.stack=X.env::X.outer/\X.env.frame=some X.env.locals)
 exf: ∀ b∈X.ex,b≠X.env.locals/\ ∀ x c,X.env.cells.lookup x=some c->c≠b
 bs: ∀ b o,X.base.get? b=some o->X.s₀.heap.get? b=some o/\X.H₀ b=none
 bsz:X.base.objs.size<=X.s₀.heap.objs.size
 noex: ∀ b o,X.base.get? b=some o->b∉X.ex
 exfs: ∀ b∈X.ex,b∉X.fs
 funs:X.s₀.heap.FunFrames X.base X.outer
 frf: ∀ b∈X.fs,X.H₀ b=none
structure Inv (X:Cx) (pins:List (Addr×Obj)) (σ:List (Option V)) (H:Hp) (s:Shared):Prop where
 ok:X.Ok
 os:s.os=X.s₀.os
 bare:AllBare s.gens
 base:Un X.fs X.ex X.H₀ H X.s₀.heap s.heap
 loc: ∃ m,s.heap.Ns X.env.locals m/\ ∀ (i:Nat) (x:Str) (v:V),X.N[i]? =some x->σ[i]? =some (some v)->Vis X.env.scope x-> ∃ u,RelV v u/\Dq X.env s.heap m x u
 cell: ∀ x c,X.env.cells.lookup x=some c-> ∃ v,s.heap.IsCell c v
 free:H X.env.locals=none
 freeC: ∀ x c,X.env.cells.lookup x=some c->H c=none
 pin: ∀ p∈X.pn++pins,s.heap.get? p.1=some p.2/\H p.1=none/\p.1≠X.env.locals/\p.1∉X.fs/\ ∀ v,p.2.data≠ .cell v
 hok:HOk X.prog X.w H s.heap
 len:σ.length=X.N.length
section
variable {X:Cx} {pins:List (Addr×Obj)} {σ:List (Option V)} {H H':Hp} {s:Shared} {h':Heap}
theorem Cx.Ok.nofr (ok:X.Ok) {b:Addr} {o:Obj} (e:X.base.get? b=some o):b∉X.fs:=λhb=>by
 have:=(ok.funs.mem hb).1;rw [e]at this;cases this
theorem Inv.bs (I:Inv X pins σ H s): ∀ b o,X.base.get? b=some o->s.heap.get? b=some o/\H b=none:=λb o e=>
 ⟨I.base.keep b o (I.ok.bs b o e).1 (I.ok.bs b o e).2 (I.ok.nofr e) (I.ok.noex b o e),I.base.free b o (I.ok.bs b o e).1 (I.ok.bs b o e).2 (I.ok.noex b o e)⟩
theorem Inv.bk (I:Inv X pins σ H s): ∀ b o,X.base.get? b=some o->s.heap.get? b=some o:=λb o e=>(I.bs b o e).1
theorem Inv.mod (I:Inv X pins σ H s):Mod X.K X.mg X.base:=I.ok.mod
theorem Inv.kIn (I:Inv X pins σ H s):X.K.In s.heap:=I.ok.mod.kin.keeps I.bk
theorem Inv.lt (I:Inv X pins σ H s):X.env.locals<s.heap.objs.size:=let ⟨_,hn,_⟩:=I.loc;hn.lt
theorem Inv.sz (I:Inv X pins σ H s):X.s₀.heap.objs.size<=s.heap.objs.size:=Eh I.ok.above (EA I.lt)
theorem Inv.nofs (I:Inv X pins σ H s) {a:Addr} (h:s.heap.objs.size<=a):a∉X.fs:=λhb=>by
 obtain ⟨_,o,ho,_⟩:=I.ok.funs.mem hb;exact absurd (Ew (DR ho) (Eh I.sz h)) (Gj _)
theorem Inv.cne (I:Inv X pins σ H s): ∀ x c,X.env.cells.lookup x=some c->c≠X.env.locals:=λx c e z=>by
 obtain ⟨v,o,ho,hd⟩:=I.cell x c e;obtain ⟨m,⟨o',es,ep,ho',hd',_⟩,_⟩:=I.loc;rw [z,ho']at ho;cases ho;rw [hd']at hd;cases hd
theorem Inv.funs (I:Inv X pins σ H s):s.heap.FunFrames X.base X.outer:=by
 have all: ∀ (l:List Env),(∀ b∈frs l,b∈X.fs)->X.s₀.heap.FunFrames X.base l->s.heap.FunFrames X.base l:=by
  intro l;induction l with
  | nil=>intro _ _;trivial
  | cons env r ih=>
   intro hs hl;obtain ⟨hk,⟨L,o,hf,hn,ho,hd⟩,hr⟩:=hl;have hL:L∈X.fs:=hs L (by unfold frs;rw [ES,hf];exact DW);obtain ⟨sl,e⟩:=I.base.slot L o ho (I.ok.frf L hL) hL λz=>I.ok.exfs L z hL;exact ⟨hk,⟨L,_,hf,hn,e,hd⟩,ih (λb hb=>hs b (by unfold frs;rw [ES,hf];exact DZ _ hb)) hr⟩
 exact all X.outer (λ_ hb=>hb) I.ok.funs
theorem Inv.stack (I:Inv X pins σ H s):s.heap.FunFrames X.base X.stack:=by
 rcases I.ok.stk with e | ⟨e,hf⟩
 ·rw [e];exact I.funs
 ·rw [e];obtain ⟨m,hn,_⟩:=I.loc;refine .cons (by rw [I.ok.kind];decide) hf hn ?_ I.funs;exact FX (Eh I.ok.bsz I.ok.above)
theorem Inv.stkSub (I:Inv X pins σ H s): ∀ b∈frs X.stack,b∈X.env.locals::X.fs:=λb hb=>by
 rcases I.ok.stk with e | ⟨e,hf⟩
 ·rw [e]at hb;exact DZ _ hb
 ·rw [e]at hb;unfold frs at hb;rw [ES,hf]at hb;exact hb
theorem Inv.stkFree (I:Inv X pins σ H s): ∀ b∈frs X.stack,H b=none:=λb hb=>by
 rcases DK.mp (I.stkSub b hb)with e | hb
 ·rw [e];exact I.free
 ·obtain ⟨_,o,ho,_⟩:=I.ok.funs.mem hb;exact I.base.free b o ho (I.ok.frf b hb) λz=>I.ok.exfs b z hb
theorem Inv.step {g':Array GenState} {t':Nat} {d':Drawn} {ch:List Addr} (I:Inv X pins σ H s)
  (hch: ∀ b∈ch,(b∈X.ex\/X.s₀.heap.objs.size<=b)/\b≠X.env.locals/\(∀ x c,X.env.cells.lookup x=some c->c≠b)/\ ∀ p∈X.pn++pins,p.1≠b)
  (keep: ∀ b o,b≠X.env.locals->b∉X.fs->b∉ch->s.heap.get? b=some o->H b=none->h'.get? b=some o)
  (slot: ∀ b o,b≠X.env.locals->b∈X.fs->b∉ch->s.heap.get? b=some o->H b=none-> ∃ sl,h'.get? b=some {o with slots:=sl}) (free: ∀ b o,b∉ch->s.heap.get? b=some o->H b=none->H' b=none)
  (there: ∀ b o,b∉ch->s.heap.get? b=some o-> ∃ o',h'.get? b=some o')
  (tups: ∀ b xs,H b=some (.tup xs)->H' b=some (.tup xs)) (frzs: ∀ b o u,H b=some (.frz o u)->H' b=some (.frz o u)) (tbls: ∀ b ps,H b=some (.tbl ps)-> ∃ more,H' b=some (.tbl (ps++more)))
  (ns: ∀ m,s.heap.Ns X.env.locals m->h'.Ns X.env.locals m) (hok:HOk X.prog X.w H' h') (hg:AllBare g'):
  Inv X pins σ H' {s with heap:=h',gens:=g',drawn:=d',toks:=t'}:=by
 have neL: ∀ b o,X.s₀.heap.get? b=some o->b≠X.env.locals:=λb o e=>Eg (Ew (DR e) I.ok.above);have neC: ∀ b o,X.s₀.heap.get? b=some o->b∉X.ex->b∉ch:=λb o e hx hb=>by
  rcases (hch b hb).1 with z | z
  ·exact hx z
  ·exact absurd (Ew (DR e) z) (Gj _)
 have cellK: ∀ x c,X.env.cells.lookup x=some c-> ∀ v,s.heap.IsCell c v->h'.IsCell c v:=λx c e v ⟨o,ho,hd⟩=>by
  have nch:c∉ch:=λz=>(hch c z).2.2.1 x c e rfl;by_cases hc:c∈X.fs
  ·obtain ⟨sl,q⟩:=slot c o (I.cne x c e) hc nch ho (I.freeC x c e);exact ⟨_,q,hd⟩
  ·exact ⟨o,keep c o (I.cne x c e) hc nch ho (I.freeC x c e),hd⟩
 refine ⟨I.ok,I.os,hg,⟨λb o e n hb hx=>?_,λb o e n hb hx=>?_,λb o e n hx=>?_,λb o e hx=>?_,λb xs e=>tups b xs (I.base.tups b xs e),λb o xs e=>frzs b o xs (I.base.frzs b o xs e),λb ps e=>?_⟩,?_,λx c e=>?_,?_,λx c e=>?_,λp hp=>?_,hok,I.len⟩
 ·exact keep b o (neL b o e) hb (neC b o e hx) (I.base.keep b o e n hb hx) (I.base.free b o e n hx)
 ·obtain ⟨sl,e1⟩:=I.base.slot b o e n hb hx;obtain ⟨sl',e2⟩:=slot b _ (neL b o e) hb (neC b o e hx) e1 (I.base.free b o e n hx);exact ⟨sl',e2⟩
 ·obtain ⟨o',e1⟩:=I.base.there b o e hx;exact free b o' (neC b o e hx) e1 (I.base.free b o e n hx)
 ·obtain ⟨o',e1⟩:=I.base.there b o e hx;exact there b o' (neC b o e hx) e1
 ·obtain ⟨m1,e1⟩:=I.base.tbls b ps e;obtain ⟨m2,e2⟩:=tbls b _ e1;exact ⟨m1++m2,by rw [e2,Array.append_assoc]⟩
 ·obtain ⟨m,hn,hl⟩:=I.loc;refine ⟨m,ns m hn,λi x v e1 e2 e3=>?_⟩;obtain ⟨u,r,l⟩:=hl i x v e1 e2 e3;refine ⟨u,r,?_⟩;rcases l with l | ⟨k,c,e,z⟩
  ·exact .inl l
  ·exact .inr ⟨k,c,e,cellK x c e _ z⟩
 ·obtain ⟨v,z⟩:=I.cell x c e;exact ⟨v,cellK x c e v z⟩
 ·obtain ⟨m,⟨o,_,_,ho,_⟩,_⟩:=I.loc;exact free _ o (λz=>(hch _ z).2.1 rfl) ho I.free
 ·obtain ⟨v,o,ho,hd⟩:=I.cell x c e;exact free c o (λz=>(hch c z).2.2.1 x c e rfl) ho (I.freeC x c e)
 ·obtain ⟨e,n,ne,nf,d⟩:=I.pin p hp;have nch:p.1∉ch:=λz=>(hch p.1 z).2.2.2 p hp rfl;exact ⟨keep p.1 p.2 ne nf nch e n,free p.1 p.2 nch e n,ne,nf,d⟩
theorem Inv.un {t':Nat} (I:Inv X pins σ H s) (u:Un X.fs [] H H' s.heap h') (hok:HOk X.prog X.w H' h'):Inv X pins σ H' {s with heap:=h',toks:=t'}:=by
 obtain ⟨m,⟨o,es,ep,ho,r⟩,_⟩:=id I.loc;obtain ⟨sl,hL⟩:=u.any ho I.free (by simp);exact I.step (g':=s.gens) (d':=s.drawn) (ch:=[]) (λ_ z=>nomatch z) (λb o _ hb _ e n=>u.keep b o e n hb (by simp)) (λb o _ hb _ e n=>u.slot b o e n hb (by simp)) (λb o _ e n=>u.free b o e n (by simp)) (λb o _ e=>u.there b o e (by simp)) u.tups u.frzs u.tbls (λm' hm=>by
  obtain ⟨o',es',ep',ho',r'⟩:=hm;rw [ho]at ho';cases ho';exact ⟨_,es',ep',hL,r'⟩) hok I.bare
theorem Inv.call {g':Array GenState} {t':Nat} {d':Drawn} {ch:List Addr} (I:Inv X pins σ H s) (u:Un (frs X.stack) ch H H' s.heap h') (hok:HOk X.prog X.w H' h') (hg:AllBare g')
  (hch: ∀ b∈ch,(b∈X.ex\/X.s₀.heap.objs.size<=b)/\b≠X.env.locals/\(∀ x c,X.env.cells.lookup x=some c->c≠b)/\ ∀ p∈X.pn++pins,p.1≠b):
  Inv X pins σ H' {s with heap:=h',gens:=g',drawn:=d',toks:=t'}:=by
 obtain ⟨m,⟨o,es,ep,ho,r⟩,_⟩:=id I.loc;obtain ⟨sl,hL⟩:=u.any ho I.free λz=>(hch _ z).2.1 rfl;exact I.step (ch:=ch) hch (λb o hL hb hc e n=>u.keep b o e n (λz=>(DK.mp (I.stkSub b z)).elim hL hb) hc) (λb o _ _ hc e n=>u.any e n hc) (λb o hc e n=>u.free b o e n hc) (λb o hc e=>u.there b o e hc) u.tups u.frzs u.tbls (λm' hm=>by
  obtain ⟨o',es',ep',ho',r'⟩:=hm;rw [ho]at ho';cases ho';exact ⟨_,es',ep',hL,r'⟩) hok hg
theorem Inv.turned {t':Nat} {it:Addr} (I:Inv X pins σ H s) (k: ∀ b o,b≠it->s.heap.get? b=some o->h'.get? b=some o) (hn:H it=none) (hL:it≠X.env.locals)
  (h1:it∈X.ex\/X.s₀.heap.objs.size<=it) (h2: ∀ x c,X.env.cells.lookup x=some c->c≠it) (h3: ∀ p∈X.pn++pins,p.1≠it):Inv X pins σ H {s with heap:=h',toks:=t'}:=by
 have nit: ∀ b u,H b=some u->b≠it:=λb u e z=>by rw [z,hn]at e;cases e
 refine I.step (g':=s.gens) (d':=s.drawn) (ch:=[it]) (λb hb=>?_) (λb o _ _ hc e _=>k b o (λz=>hc (by simp [z])) e) (λb o _ _ hc e _=>⟨o.slots,k b o (λz=>hc (by simp [z])) e⟩) (λ_ _ _ _ n=>n)
  (λb o hc e=>⟨o,k b o (λz=>hc (by simp [z])) e⟩) (λ_ _ e=>e) (λ_ _ _ e=>e) (λb ps e=>⟨#[],by rw [e];simp⟩) (λm hm=>?_) (λb u e=>?_) I.bare
 ·have e:b=it:=by simpa using hb
  subst e;exact ⟨h1,hL,h2,h3⟩
 ·obtain ⟨o,es,ep,ho,r⟩:=hm;exact ⟨o,es,ep,k _ o (EI hL) ho,r⟩
 ·refine (I.hok b u e).stay (λc v hc q=>k c v ?_ q) (λ_ q=>q) λ_ _ q=>q;rcases hc with z | z
  ·rw [z];exact nit b u e
  ·exact nit c _ z
theorem Inv.tok (I:Inv X pins σ H s) (t:Nat):Inv X pins σ H {s with toks:=t}:=I.un (h':=s.heap) (t':=t) Un.refl I.hok
theorem Inv.kept {t':Nat} (I:Inv X pins σ H s) (k: ∀ b u,s.heap.get? b=some u->h'.get? b=some u):Inv X pins σ H {s with heap:=h',toks:=t'}:=I.un (Un.kept k) (I.hok.kept k)
theorem Inv.laid {a:Addr} {o:HO} {t':Nat} (I:Inv X pins σ H s) (k: ∀ b u,s.heap.get? b=some u->h'.get? b=some u) (hp:s.heap.objs.size<=a) (new:ObjOk X.prog X.w (upd H a o) h' a o):
  Inv X pins σ (upd H a o) {s with heap:=h',toks:=t'}:=I.un (Un.laid k hp (I.hok.fresh hp)) (I.hok.laid k hp new)
theorem Inv.write {x e:Addr} {o:HO} {t':Nat} (I:Inv X pins σ H s) (mu:Mut (H x)) (he:e=x\/H e=some (.own x)) (k: ∀ b u,b≠e->s.heap.get? b=some u->h'.get? b=some u) (heo: ∃ u,h'.get? e=some u)
  (new:ObjOk X.prog X.w (upd H x o) h' x o):Inv X pins σ (upd H x o) {s with heap:=h',toks:=t'}:=I.un (Un.write mu he k heo) (I.hok.write mu he k heo new)
theorem Inv.pins_of {pins':List (Addr×Obj)} (I:Inv X pins σ H s) (h: ∀ p∈pins',s.heap.get? p.1=some p.2/\H p.1=none/\p.1≠X.env.locals/\p.1∉X.fs/\ ∀ v,p.2.data≠ .cell v):Inv X pins' σ H s:=
 ⟨I.ok,I.os,I.bare,I.base,I.loc,I.cell,I.free,I.freeC,λp hp=>(DQ.mp hp).elim (λz=>I.pin p (Eo _ z)) (h p),I.hok,I.len⟩
theorem jd {N:List Str} (hN:N.Nodup) {i j:Nat} {x:Str} (a:N[i]? =some x) (b:N[j]? =some x):i=j:=by
 obtain ⟨h1,e1⟩:=DH.mp a;obtain ⟨h2,e2⟩:=DH.mp b;exact (List.getElem_inj hN).mp (e1.trans e2.symm)
theorem jv {M:Model} {A:Around} {E:Value->Shared->Prop} {i:Nat} {x:Str} {v:V} {u:Value} {Q:Unit->Shared->Prop} (I:Inv X pins σ H s) (hN:X.N.Nodup) (hi:X.N[i]? =some x) (hx:Loc X.env.scope x) (r:RelV v u)
  (h: ∀ s',Inv X pins (σ.set i (some v)) H s'->(∃ a,Heap.SameBut a s.heap s'.heap/\(a=X.env.locals\/X.env.cells.lookup x=some a))->Q () s') (hf:X.fn x=true\/X.env.scope.names.lookup x=some .local:=by first | exact .inl rfl | exact .inr rfl | assumption):wpAny M A (storeName X.env x u) Q E s:=by
 obtain ⟨m,hn,hl⟩:=id I.loc;have hcls:(X.env.scope.kind== .class||(X.env.scope.kind== .module&&X.env.locals !=X.env.globals))=false:=by rw [I.ok.kind];rfl
 have hiσ:i<σ.length:=by rw [I.len];exact (DH.mp hi).1
 have cne:=I.cne;have tracked: ∀ {a:Addr} {h':Heap},(∃ o,s.heap.get? a=some o/\H a=none)->Heap.SameBut a s.heap h'->HOk X.prog X.w H h':=λ{a h'} ha hs b ob e=>by
  obtain ⟨_,_,hfree⟩:=ha;refine (I.hok b ob e).stay (λc w' hc q=>(hs.2 c ?_).trans q) (λ_ q=>q) λ_ _ q=>q;rintro rfl;rcases hc with rfl | hc
  ·rw [hfree]at e;cases e
  ·rw [hfree]at hc;cases hc
 rcases hx with hk | hk
 ·refine wpAny_storeName_local hk hn (λh' hn' hs=>?_) hcls;obtain ⟨oL,_,_,hoL,_⟩:=id hn;refine h _ ⟨I.ok,I.os,I.bare,⟨λb o e n hb hx=>?_,λb o e n hb hx=>?_,I.base.free,λb o e hx=>?_,I.base.tups,I.base.frzs,I.base.tbls⟩,⟨_,hn',λj y v' e1 e2 e3=>?_⟩,λy c e=>?_,I.free,I.freeC,λp hp=>?_,tracked ⟨oL,hoL,I.free⟩ hs,by simpa using I.len⟩ ⟨_,hs,.inl rfl⟩
  ·exact (hs.2 b (Eg (Ew (DR e) I.ok.above))).trans (I.base.keep b o e n hb hx)
  ·obtain ⟨sl,e1⟩:=I.base.slot b o e n hb hx;exact ⟨sl,(hs.2 b (Eg (Ew (DR e) I.ok.above))).trans e1⟩
  ·obtain ⟨o',e1⟩:=I.base.there b o e hx;exact ⟨o',(hs.2 b (Eg (Ew (DR e) I.ok.above))).trans e1⟩
  ·by_cases hj:j=i
   ·subst hj;rw [hi]at e1;cases e1;rw [Gd hiσ]at e2;cases e2;exact ⟨u,r,.inl ⟨hk,by simp⟩⟩
   ·rw [HC (EI hj)]at e2;obtain ⟨u',r',q⟩:=hl j y v' e1 e2 e3;refine ⟨u',r',?_⟩;rcases q with ⟨k,e⟩ | ⟨k,c,e,z⟩
    ·refine .inl ⟨k,?_⟩;have:y≠x:=λe=>hj (jd hN e1 (e▸hi));simp [this,e]
    ·exact .inr ⟨k,c,e,z.sameBut hs (cne y c e)⟩
  ·obtain ⟨w',z⟩:=I.cell y c e;exact ⟨w',z.sameBut hs (cne y c e)⟩
  ·obtain ⟨e,n,ne,nf,d⟩:=I.pin p hp;exact ⟨(hs.2 p.1 ne).trans e,n,ne,nf,d⟩
 ·have hfn:X.fn x=true:=by
   rcases hf with z | z
   ·exact z
   ·rw [z]at hk;cases hk
  obtain ⟨c,hc⟩:=I.ok.has x (.inl hk);obtain ⟨w',z⟩:=I.cell x c hc;refine wpAny_storeName_cell I.ok.kind hk hc z (λh' hc' hs=>?_);obtain ⟨oc,hoc,hocd⟩:=id z;refine h {s with heap:=h'} ⟨I.ok,I.os,I.bare,⟨λb o e n hb hx=>?_,λb o e n hb hx=>?_,I.base.free,λb o e hx=>?_,I.base.tups,I.base.frzs,I.base.tbls⟩,⟨m,hn.sameBut hs (EI (cne x c hc)),λj y v' e1 e2 e3=>?_⟩,λy c' e=>?_,I.free,I.freeC,λp hp=>?_,tracked ⟨oc,hoc,I.freeC x c hc⟩ hs,by simpa using I.len⟩ ⟨c,hs,.inr hc⟩
  ·exact (hs.2 b (Eg (Ew (DR e) (I.ok.cab x c hfn hc)))).trans (I.base.keep b o e n hb hx)
  ·obtain ⟨sl,e1⟩:=I.base.slot b o e n hb hx;exact ⟨sl,(hs.2 b (Eg (Ew (DR e) (I.ok.cab x c hfn hc)))).trans e1⟩
  ·obtain ⟨o',e1⟩:=I.base.there b o e hx;exact ⟨o',(hs.2 b (Eg (Ew (DR e) (I.ok.cab x c hfn hc)))).trans e1⟩
  ·by_cases hj:j=i
   ·subst hj;rw [hi]at e1;cases e1;rw [Gd hiσ]at e2;cases e2;exact ⟨u,r,.inr ⟨.inl hk,c,hc,hc'⟩⟩
   ·rw [HC (EI hj)]at e2;obtain ⟨u',r',q⟩:=hl j y v' e1 e2 e3;refine ⟨u',r',?_⟩;rcases q with q | ⟨k,c',e,z'⟩
    ·exact .inl q
    ·refine .inr ⟨k,c',e,z'.sameBut hs ?_⟩;rintro rfl;exact hj (jd hN e1 (I.ok.inj _ _ _ e hc▸hi))
  ·by_cases hcc:c'=c
   ·subst hcc;exact ⟨_,hc'⟩
   ·obtain ⟨w2,z2⟩:=I.cell y c' e;exact ⟨w2,z2.sameBut hs hcc⟩
  ·obtain ⟨e,n,ne,nf,d⟩:=I.pin p hp;refine ⟨(hs.2 p.1 ?_).trans e,n,ne,nf,d⟩;intro q;rw [q,hoc]at e;have q':oc=p.2:=Ej e;exact d w' (by rw [<- q'];exact hocd)
theorem gD {M:Model} {A:Around} {E:Value->Shared->Prop} {i:Nat} {x:Str} {v:V} {u:Value} {Q:Unit->Shared->Prop} (I:Inv X pins σ H s) (hN:X.N.Nodup) (hi:X.N[i]? =some x) (hx:Loc X.env.scope x) (r:RelV v u)
  (h: ∀ s',Inv X pins (σ.set i (some v)) H s'->Q () s') (hf:X.fn x=true\/X.env.scope.names.lookup x=some .local:=by first | exact .inl rfl | exact .inr rfl | assumption):wpAny M A (storeName X.env x u) Q E s:=
 jv I hN hi hx r (λs' I' _=>h s' I') hf
theorem Inv.call' {s':Shared} {ch:List Addr} (I:Inv X pins σ H s) (ho:s'.os=s.os) (u:Un (frs X.stack) ch H H' s.heap s'.heap) (hok:HOk X.prog X.w H' s'.heap) (hg:AllBare s'.gens)
  (hch: ∀ b∈ch,(b∈X.ex\/X.s₀.heap.objs.size<=b)/\b≠X.env.locals/\(∀ x c,X.env.cells.lookup x=some c->c≠b)/\ ∀ p∈X.pn++pins,p.1≠b):Inv X pins σ H' s':=by
 obtain ⟨h',g',d',t',o'⟩:=s';have e:o'=s.os:=ho;subst e;exact I.call (g':=g') (t':=t') (d':=d') u hok hg hch
end
abbrev XK:=Value->Option Addr->Hp->Prop
abbrev St:=List (Option V)
abbrev VK:=V->Hp->Prop
abbrev TE:=St->Hp->VK->Prop
abbrev TT:=St->Hp->(Bool->Hp->Prop)->Prop
abbrev TA:=St->Hp->(List V->Hp->Prop)->Prop
structure eS where
 nx:St->Hp->Prop
 rt:VK
 bk:St->Hp->Prop:=λ_ _=>False
 ct:St->Hp->Prop:=λ_ _=>False
abbrev TS:=eS->St->Hp->Prop
inductive EP (X:Cx) (pins:List (Addr×Obj)) (σ:St) (Q:VK) (u:Value) (s':Shared):Prop
 | mk: ∀ v H',(Inv X pins σ H' s')->(RelV v u)->(Q v H')->EP X pins σ Q u s'
def TP (X:Cx) (pins:List (Addr×Obj)) (σ:St) (Q:Bool->Hp->Prop) (b:Bool) (s':Shared):Prop:= ∃ H',Inv X pins σ H' s'/\Q b H'
inductive AP (X:Cx) (pins:List (Addr×Obj)) (σ:St) (Q:List V->Hp->Prop) (us:List Value) (s':Shared):Prop
 | mk: ∀ vs H',(Inv X pins σ H' s')->(Vals vs us)->(Q vs H')->AP X pins σ Q us s'
def SP (X:Cx) (pins:List (Addr×Obj)) (D:eS) (f:Flow) (s':Shared):Prop:=
 match f with
 | .next=> ∃ σ' H',Inv X pins σ' H' s'/\D.nx σ' H'
 | .brk=> ∃ σ' H',Inv X pins σ' H' s'/\D.bk σ' H'
 | .cont=> ∃ σ' H',Inv X pins σ' H' s'/\D.ct σ' H'
 | .ret u=> ∃ v σ' H',Inv X pins σ' H' s'/\RelV v u/\D.rt v H'
def PE (X:Cx) (e:Expr) (t:TE):Prop:=
 ∀ (pins:List (Addr×Obj)) (s:Shared) (σ:St) (H:Hp) (Q:VK),Inv X pins σ H s->t σ H Q->wpAny (model X.prog X.w) X.A (eval e X.env) (EP X pins σ Q) X.xe s
def PT (X:Cx) (e:Expr) (t:TT):Prop:=
 ∀ (pins:List (Addr×Obj)) (s:Shared) (σ:St) (H:Hp) (Q:Bool->Hp->Prop),Inv X pins σ H s->t σ H Q->wpAny (model X.prog X.w) X.A (isTrue e X.env (eval e X.env)) (TP X pins σ Q) X.xe s
def PW (X:Cx) (e:Expr) (t:TT):Prop:=
 ∀ (whole:Sem Value) (pins:List (Addr×Obj)) (s:Shared) (σ:St) (H:Hp) (Q:Bool->Hp->Prop),Inv X pins σ H s->t σ H Q->wpAny (model X.prog X.w) X.A (isTrue e X.env whole) (TP X pins σ Q) X.xe s
theorem PW.pt {X:Cx} {e:Expr} {t:TT} (h:PW X e t):PT X e t:=h _
def PA (X:Cx) (es:List Expr) (t:TA):Prop:=
 ∀ (pos:Pos) (pins:List (Addr×Obj)) (s:Shared) (σ:St) (H:Hp) (Q:List V->Hp->Prop),Inv X pins σ H s->t σ H Q->wpAny (model X.prog X.w) X.A (spliced (backTo pos (starEach es X.env))) (AP X pins σ Q) X.xe s
def PS (X:Cx) (st:Stmt) (t:TS):Prop:=
 ∀ (pins:List (Addr×Obj)) (s:Shared) (σ:St) (H:Hp) (D:eS),Inv X pins σ H s->t D σ H->wpAny (model X.prog X.w) X.A (exec st X.env) (SP X pins D) X.xe s
def PSs (X:Cx) (st:List Stmt) (t:TS):Prop:=
 ∀ (pins:List (Addr×Obj)) (s:Shared) (σ:St) (H:Hp) (D:eS),Inv X pins σ H s->t D σ H->wpAny (model X.prog X.w) X.A (execs st X.env) (SP X pins D) X.xe s
theorem thn {α:Type} {t:Sem α} {Q Q':α->Shared->Prop} {M:Model} {A:Around} {E:Value->Shared->Prop} {s:Shared} (h:wpAny M A t Q E s) (hQ: ∀ a s,Q a s->Q' a s):wpAny M A t Q' E s:=E2 h hQ λ_ _ x=>x
section
variable {X:Cx}
inductive gC (i:Nat) (σ:St) (H:Hp) (Q:VK):Prop
 | mk: ∀ v,(σ[i]? =some (some v))->(Q v H)->gC i σ H Q
def tC (v:V):TE:=λ_ H Q=>Q v H
theorem wY {i:Nat} {x:Str} {pos:Pos} (hN:X.N[i]? =some x) (hv:Vis X.env.scope x) (hd:(x==("__debug__":Str))=false:=by decide) (hcd:(x==("__classdict__":Str))=false:=by decide):PE X (.Name x pos) (gC i):=by
 intro pins s σ H Q I h;obtain ⟨v,e,h⟩:=h;obtain ⟨m,hn,hl⟩:=I.loc;obtain ⟨u,r,l⟩:=hl i x v hN e hv;have fin:EP X pins σ Q u s:=⟨v,H,I,r,h⟩;rcases l with ⟨hk,hm⟩ | ⟨hk,c,hc,hcell⟩
 ·exact wpAny_Name (wpAny_loadName_local I.ok.kind hk hn hm fin) hd
 ·rcases hk with hk | hk
  ·exact wpAny_Name (wpAny_loadName_cell I.ok.kind hk hc hcell fin) hd
  ·exact wpAny_Name (wpAny_loadName_free I.ok.kind hk hc hcell fin hcd) hd
theorem ag {i j pos}:PE X (.Constant (.int i) j pos) (tC (.int i)):=λ_ _ _ H _ I h=>wpAny_Constant_int ⟨.int i,H,I.tok _,⟨_,rfl⟩,h⟩
theorem cx {b j pos}:PE X (.Constant (.bool b) j pos) (tC (.bl b)):=λ_ _ _ H _ I h=>Constant_bool ⟨.bl b,H,I,rfl,h⟩
theorem eL {j pos}:PE X (.Constant .none j pos) (tC .non):=λ_ _ _ H _ I h=>Constant_none ⟨.non,H,I,rfl,h⟩
theorem aV {x j pos}:PE X (.Constant (.str x) j pos) (tC (.str x)):=λ_ _ _ H _ I h=>Calls.Constant_str ⟨.str x,H,I.tok _,⟨_,rfl⟩,h⟩
def Gl (X:Cx) (x:Str):Prop:=X.env.kindOf x=some .globalImplicit
theorem il {E:Value->Shared->Prop} {pins:List (Addr×Obj)} {s:Shared} {σ:St} {H:Hp} {x:Str} {u:Value} {pos:Pos} {Q:Value->Shared->Prop} (I:Inv X pins σ H s) (hg:Gl X x) (hm:X.mg x=some u) (h:Q u s)
  (hd:(x==("__debug__":Str))=false:=by decide):wpAny (model X.prog X.w) X.A (eval (.Name x pos) X.env) Q E s:=
 Calls.Name_function_global I.ok.kind hg (Calls.loadGlobal_global (by rw [I.ok.glob];exact I.mod.glob.keeps I.bk) hm h) hd
theorem gR {E:Value->Shared->Prop} {pins:List (Addr×Obj)} {s:Shared} {σ:St} {H:Hp} {x:Str} {u:Value} {pos:Pos} {Q:Value->Shared->Prop} (I:Inv X pins σ H s) (hg:Gl X x) (hm:X.mg x=none) (hv:bootBuiltins x=some u) (h:Q u s)
  (hn:x≠"__name__":=by decide) (hd:(x==("__debug__":Str))=false:=by decide):wpAny (model X.prog X.w) X.A (eval (.Name x pos) X.env) Q E s:=by
 obtain ⟨mb,h1,h2⟩:=I.mod.blt;exact Calls.Name_function_global I.ok.kind hg (Calls.loadGlobal_builtin (by rw [I.ok.glob];exact I.mod.glob.keeps I.bk) hm (by rw [I.ok.blt];exact h1.keeps I.bk) ((h2 x hn).trans hv) h) hd
theorem aW {x:Str} {v:V} {u:Value} {pos:Pos} (hg:Gl X x) (hm:X.mg x=some u) (r:RelV v u) (hd:(x==("__debug__":Str))=false:=by decide):PE X (.Name x pos) (tC v):=
 λ_ _ _ H _ I h=>il I hg hm ⟨v,H,I,r,h⟩ hd
theorem cE {x:Str} {v:V} {u:Value} {pos:Pos} (hg:Gl X x) (hm:X.mg x=none) (hv:bootBuiltins x=some u) (r:RelV v u) (hn:x≠"__name__":=by decide) (hd:(x==("__debug__":Str))=false:=by decide):PE X (.Name x pos) (tC v):=
 λ_ _ _ H _ I h=>gR I hg hm hv ⟨v,H,I,r,h⟩ hn hd
variable {a b:Expr} {ta tb:TE} {pos:Pos}
inductive rBl  (x:V) (H1:Hp) (Q:(Bool->Hp->Prop)):Prop
 | mk: ∀ c,(x=.bl c)->(Q c H1)->rBl x H1 Q
def tB (t:TE):TT:=λσ H Q=>t σ H λx H1=>rBl x H1 Q
theorem aZ {e:Expr} {t:TE} (h:PE X e t) (he: ∀ whole,isTrue e X.env whole=(do let v <- whole;standAt e.pos;holding [v] (truthy v)):=by intro _;rfl):PT X e (tB t):=by
 intro pins s σ H Q I hw;refine isTrue_plain (thn (h pins s σ H _ I hw) λv s1 ⟨x,H1,I1,r1,q1⟩=>?_) (he _);obtain ⟨d,rfl,q⟩:=q1;cases r1;exact E4 ⟨H1,I1,q⟩
variable {tA tB':TT} {rest:List Expr}
def C4 (t u:TT):TT:=λσ H Q=>t σ H λc H1=>if c=true then u σ H1 Q else Q false H1
def tOr (t u:TT):TT:=λσ H Q=>t σ H λc H1=>if c=true then Q true H1 else u σ H1 Q
def CY (t:TT):TT:=λσ H Q=>t σ H λc H1=>Q (!c) H1
theorem iZ (ha:PT X a tA):PW X (.BoolOp .And [a] pos) tA:=by
 intro wh pins s σ H Q I h;refine isTrue_and (thn (ha pins s σ H Q I h) λc s1 e=>?_);cases c with
 | true=>exact isTrue_and_nil e
 | false=>exact e
theorem cX (ha:PT X a tA):PW X (.BoolOp .Or [a] pos) tA:=by
 intro wh pins s σ H Q I h;refine isTrue_or (thn (ha pins s σ H Q I h) λc s1 e=>?_);cases c with
 | false=>exact isTrue_or_nil e
 | true=>exact e
theorem kN (ha:PT X a tA) (hb:PW X (.BoolOp .And (b::rest) pos) tB'):PW X (.BoolOp .And (a::b::rest) pos) (C4 tA tB'):=by
 intro wh pins s σ H Q I h;refine isTrue_and (thn (ha pins s σ H _ I h) λc s1 ⟨H1,I1,q1⟩=>?_);cases c with
 | true=>exact hb wh pins s1 σ H1 Q I1 q1
 | false=>exact ⟨H1,I1,q1⟩
theorem dR (ha:PT X a tA) (hb:PW X (.BoolOp .Or (b::rest) pos) tB'):PW X (.BoolOp .Or (a::b::rest) pos) (tOr tA tB'):=by
 intro wh pins s σ H Q I h;refine isTrue_or (thn (ha pins s σ H _ I h) λc s1 ⟨H1,I1,q1⟩=>?_);cases c with
 | true=>exact ⟨H1,I1,q1⟩
 | false=>exact hb wh pins s1 σ H1 Q I1 q1
theorem a9 (ha:PT X a tA):PT X (.UnaryOp .Not a pos) (CY tA):=by
 intro pins s σ H Q I h;exact isTrue_not (ha pins s σ H (λc H1=>Q (!c) H1) I h)
def BZ (ta tb:TE):TE:=λσ H Q=>ta σ H λx H1=> ∃ c,x=.bl c/\if c=true then tb σ H1 Q else Q (.bl false) H1
def BV (ta:TE):TE:=λσ H Q=>ta σ H λx H1=> ∃ c,x=.bl c/\Q (.bl (!c)) H1
theorem dk {op} {t:TE} (h:PE X a t):PE X (.BoolOp op [a] pos) t:=λpins s σ H Q I hw=>BoolOp_one (h pins s σ H Q I hw)
theorem cM (ha:PE X a ta) (hb:PE X (.BoolOp .And (b::rest) pos) tb):PE X (.BoolOp .And (a::b::rest) pos) (BZ ta tb):=by
 intro pins s σ H Q I h;refine BoolOp_and (thn (ha pins s σ H _ I h) λv s1 ⟨x,H1,I1,r1,q1⟩=>?_);obtain ⟨c,rfl,q1⟩:=q1;cases r1;refine E4 ?_;cases c with
 | true=>exact hb pins s1 σ H1 Q I1 q1
 | false=>exact ⟨.bl false,H1,I1,rfl,q1⟩
theorem Bb (ha:PE X a ta):PE X (.UnaryOp .Not a pos) (BV ta):=by
 intro pins s σ H Q I h;refine UnaryOp_ (thn (ha pins s σ H _ I h) λv s1 ⟨x,H1,I1,r1,q1⟩=>?_);obtain ⟨c,rfl,q1⟩:=q1;cases r1;exact not_of (E4 ⟨.bl (!c),H1,I1,rfl,q1⟩)
def tIf (t:TT) (ta tb:TE):TE:=λσ H Q=>t σ H λc H1=>if c=true then ta σ H1 Q else tb σ H1 Q
theorem ja {c:Expr} (hc:PT X c tA) (ha:PE X a ta) (hb:PE X b tb):PE X (.IfExp c a b pos) (tIf tA ta tb):=by
 intro pins s σ H Q I h;refine wpAny_IfExp (thn (hc pins s σ H _ I h) λd s1 ⟨H1,I1,q1⟩=>?_);cases d with
 | true=>exact ha pins s1 σ H1 Q I1 q1
 | false=>exact hb pins s1 σ H1 Q I1 q1
end
def SqL (K:W.Frag) (H:Hp) (a:Addr) (xs:List V):Prop:=
 Rd H a (.lst xs)\/
  ∃ (o:Obj) (its:Array Value) (n:Nat),K.lookup a=some o/\o.cls=.type "list"/\o.dict=none/\o.data=.seq its n/\its.size<=sizeLine/\Vals xs its.toList
def SqT (K:W.Frag) (H:Hp) (a:Addr) (xs:List V):Prop:=
 Rd H a (.tup xs)\/
  ∃ (o:Obj) (its:Array Value) (n:Nat),K.lookup a=some o/\o.cls=.type "tuple"/\o.data=.seq its n/\its.size<=sizeLine/\Vals xs its.toList
noncomputable def Do:Value->Option V
 | .none=>some .non
 | .bool b=>some (.bl b)
 | .int i _=>some (.int i)
 | .str x _=>some (.str x)
 | .bytes b _=>some (.byt b)
 | .float b _=>some (.flt b)
 | .ref a=>some (.ref a)
 | .type n=>some (.ty n)
 | _=>none
theorem RelV.abs {x:V} {u:Value} (r:RelV x u):Do u=some x:=by
 cases x with
 | non=>cases r;rfl
 | bl _=>cases r;rfl
 | int _=>obtain ⟨t,rfl⟩:=r;rfl
 | str _=>obtain ⟨t,rfl⟩:=r;rfl
 | byt _=>obtain ⟨t,rfl⟩:=r;rfl
 | flt _=>obtain ⟨t,rfl⟩:=r;rfl
 | ref _=>cases r;rfl
 | ty _=>cases r;rfl
theorem RelV.inj {x y:V} {u:Value} (r:RelV x u) (q:RelV y u):x=y:=Ej (r.abs.symm.trans q.abs)
theorem Vals.inj: ∀ {xs ys:List V} {us:List Value},Vals xs us->Vals ys us->xs=ys
 | _,_,_,.nil,.nil=>rfl
 | _,_,_,.cons r t,.cons r' t'=>by rw [r.inj r',Vals.inj t t']
section
variable {X:Cx} {pins:List (Addr×Obj)} {σ:St} {H:Hp} {s:Shared} {a:Addr} {xs ys:List V}
theorem SqL.of {K:W.Frag} (h:H a=some (.lst xs)):SqL K H a xs:=.inl (.inl h)
theorem SqT.of {K:W.Frag} (h:H a=some (.tup xs)):SqT K H a xs:=.inl (.inl h)
theorem Inv.list (I:Inv X pins σ H s) (h:SqL X.K H a xs): ∃ its:List Value,Vals xs its/\PlainL s.heap a its.toArray/\xs.length<=sizeLine:=by
 rcases h with h | ⟨o,its,n,hk,hc,hd,hs,hz,r⟩
 ·obtain ⟨z,its,n,r,e⟩:=h.ok I.hok;exact ⟨its,r,⟨_,n,e,rfl,rfl,rfl⟩,z⟩
 ·refine ⟨its.toList,r,⟨o,n,I.kIn a o hk,hc,hd,by simpa using hs⟩,?_⟩;have e:=r.length;simp only [EJ]at e;lia
theorem Inv.tuple (I:Inv X pins σ H s) (h:SqT X.K H a xs): ∃ its:List Value,Vals xs its/\IsTup s.heap a its.toArray/\xs.length<=sizeLine:=by
 rcases h with h | ⟨o,its,n,hk,hc,hs,hz,r⟩
 ·obtain ⟨z,its,r,p⟩:=h.ok I.hok;exact ⟨its,r,p,z⟩
 ·refine ⟨its.toList,r,⟨o,I.kIn a o hk,hc,n,by simpa using hs⟩,?_⟩;have e:=r.length;simp only [EJ]at e;lia
theorem Inv.list_inj (I:Inv X pins σ H s) (h:SqL X.K H a xs) (h':SqL X.K H a ys):xs=ys:=by
 obtain ⟨its,r,⟨o,n,e,_,_,d⟩,_⟩:=I.list h;obtain ⟨its',r',⟨o',n',e',_,_,d'⟩,_⟩:=I.list h';rw [e]at e';cases e';rw [d]at d';injection d' with d1 _
 have:its=its':=by simpa using congrArg Array.toList d1
 subst this;exact r.inj r'
theorem Inv.tuple_inj (I:Inv X pins σ H s) (h:SqT X.K H a xs) (h':SqT X.K H a ys):xs=ys:=by
 obtain ⟨its,r,⟨o,e,_,n,d⟩,_⟩:=I.tuple h;obtain ⟨its',r',⟨o',e',_,n',d'⟩,_⟩:=I.tuple h';rw [e]at e';cases e';rw [d]at d';injection d' with d1 _
 have:its=its':=by simpa using congrArg Array.toList d1
 subst this;exact r.inj r'
end
noncomputable abbrev Cx.wish (X:Cx) (E:Value->Shared->Prop):Cx:={X with xe:=E}
noncomputable abbrev Cx.nox (X:Cx):Cx:=X.wish λ_ _=>False
theorem Cx.Ok.wish {X:Cx} (ok:X.Ok) (E:Value->Shared->Prop):(X.wish E).Ok:=
 ⟨ok.mod,ok.kind,ok.glob,ok.blt,ok.above,ok.inj,ok.has,ok.cab,ok.hd,ok.frames,ok.stk,ok.exf,ok.bs,ok.bsz,ok.noex,ok.exfs,ok.funs,ok.frf⟩
theorem Cx.Ok.unwish {X:Cx} {E:Value->Shared->Prop} (ok:(X.wish E).Ok):X.Ok:=
 ⟨ok.mod,ok.kind,ok.glob,ok.blt,ok.above,ok.inj,ok.has,ok.cab,ok.hd,ok.frames,ok.stk,ok.exf,ok.bs,ok.bsz,ok.noex,ok.exfs,ok.funs,ok.frf⟩
section
variable {X:Cx} {pins:List (Addr×Obj)} {σ:St} {H:Hp} {s:Shared} {E:Value->Shared->Prop}
theorem Inv.wish (I:Inv X pins σ H s) (E:Value->Shared->Prop):Inv (X.wish E) pins σ H s:=⟨I.ok.wish E,I.os,I.bare,I.base,I.loc,I.cell,I.free,I.freeC,I.pin,I.hok,I.len⟩
theorem Inv.unwish (I:Inv (X.wish E) pins σ H s):Inv X pins σ H s:=⟨I.ok.unwish,I.os,I.bare,I.base,I.loc,I.cell,I.free,I.freeC,I.pin,I.hok,I.len⟩
theorem SP.unwish {D:eS} {f:Flow} {s':Shared} (h:SP (X.wish E) pins D f s'):SP X pins D f s':=by
 cases f with
 | next=>obtain ⟨σ',H',I,q⟩:=h;exact ⟨σ',H',I.unwish,q⟩
 | brk=>obtain ⟨σ',H',I,q⟩:=h;exact ⟨σ',H',I.unwish,q⟩
 | cont=>obtain ⟨σ',H',I,q⟩:=h;exact ⟨σ',H',I.unwish,q⟩
 | ret u=>obtain ⟨v,σ',H',I,r,q⟩:=h;exact ⟨v,σ',H',I.unwish,r,q⟩
theorem PSs.nox {st:List Stmt} {t:TS} (h:PSs X.nox st t):PSs X st t:=λpins s σ H D I hw=>
 E2 (h pins s σ H D (I.wish _) hw) (λ_ _ q=>q.unwish) λ_ _ z=>False.elim z
end
section
variable {X:Cx} {st:Stmt} {rest:List Stmt} {t u:TS} {e:Expr} {te:TE} {pos:Pos}
def BW:TS:=λD σ H=>D.nx σ H
def vQ (t u:TS):TS:=λD σ H=>t {D with nx:=u D} σ H
theorem aE:PSs X [] BW:=λ_ _ σ H _ I h=>Gg ⟨σ,H,I,h⟩
theorem ad (h1:PS X st t) (h2:PSs X rest u):PSs X (st::rest) (vQ t u):=by
 intro pins s σ H D I h;refine Iv (thn (h1 pins s σ H {D with nx:=u D} I h) λf s1 q=>?_);cases f with
 | next=>
  obtain ⟨σ',H',I',q⟩:=q;exact h2 pins s1 σ' H' D I' q
 | ret v=>exact q
 | brk=>exact q
 | cont=>exact q
theorem ai (h1:PS X st t):PSs X [st] t:=by
 intro pins s σ H D I h;refine Iv (thn (h1 pins s σ H D I h) λf s1 q=>?_);cases f with
 | next=>exact Gg q
 | ret v=>exact q
 | brk=>exact q
 | cont=>exact q
theorem Inv.quiet {pins:List (Addr×Obj)} {σ:St} {H:Hp} {s:Shared} (I:Inv X pins σ H s):interactive X.env=false:=by simp [interactive,I.ok.kind]
def At (te:TE):TS:=λD σ H=>te σ H λ_ H1=>D.nx σ H1
theorem bP (he:PE X e te) (hs:swapsWith e none pos.line X.env=pure false:=by rfl):PS X (.Expr e pos) (At te):=by
 intro pins s σ H D I h;exact wpAny_Expr_any (thn (he pins s σ H _ I h) λv s1 ⟨x,H1,I1,r1,q1⟩=>⟨σ,H1,I1,q1⟩) I.quiet hs
def CW (te:TE):TS:=λD σ H=>te σ H D.rt
theorem aw (he:PE X e te):PS X (.Return (some e) pos) (CW te):=by
 intro pins s σ H D I h;exact wpAny_Return_some (thn (he pins s σ H _ I h) λv s1 ⟨x,H1,I1,r1,q1⟩=>⟨x,σ,H1,I1,r1,q1⟩)
def CZ (c:TT) (t u:TS):TS:=λD σ H=>c σ H λb H1=>if b=true then t D σ H1 else u D σ H1
theorem aS {c:Expr} {a b:List Stmt} {tc:TT} (hc:PT X c tc) (ha:PSs X a t) (hb:PSs X b u):PS X (.If c a b pos) (CZ tc t u):=by
 intro pins s σ H D I h;refine wpAny_If (thn (hc pins s σ H _ I h) λd s1 ⟨H1,I1,q1⟩=>?_);cases d with
 | true=>exact ha pins s1 σ H1 D I1 q1
 | false=>exact hb pins s1 σ H1 D I1 q1
def AN:TS:=λ_ _ _=>False
theorem bK {sts:List Stmt}:PSs X sts AN:=λ_ _ _ _ _ _ h=>h.elim
end
abbrev TG:=V->St->Hp->(St->Hp->Prop)->Prop
abbrev TGs:=List V->St->Hp->(St->Hp->Prop)->Prop
def PG (X:Cx) (target:Expr) (t:TG):Prop:=
 ∀ (pins:List (Addr×Obj)) (s:Shared) (σ:St) (H:Hp) (v:V) (u:Value) (Q:St->Hp->Prop),Inv X pins σ H s->RelV v u->t v σ H Q->
  wpAny (model X.prog X.w) X.A (assign target X.env u) (λ_ s'=> ∃ σ' H',Inv X pins σ' H' s'/\Q σ' H') X.xe s
def PGs (X:Cx) (ts:List Expr) (t:TGs):Prop:=
 ∀ (pins:List (Addr×Obj)) (s:Shared) (σ:St) (H:Hp) (vs:List V) (us:List Value) (Q:St->Hp->Prop),Inv X pins σ H s->Vals vs us->t vs σ H Q->
  wpAny (model X.prog X.w) X.A (assignInOrder ((assignEach ts X.env).map (·.2)) us) (λ_ s'=> ∃ σ' H',Inv X pins σ' H' s'/\Q σ' H') X.xe s
abbrev BI:=V->V->V->Hp->(Hp->Prop)->Prop
def CQ (X:Cx) (t:BI):Prop:=
 ∀ (pins:List (Addr×Obj)) (s:Shared) (σ:St) (H:Hp) (o i v:V) (ov iv u:Value) (Q:Hp->Prop),Inv X pins σ H s->RelV o ov->RelV i iv->RelV v u->t o i v H Q->
  wpAny (model X.prog X.w) X.A (setItem ov iv u) (λ_ s'=> ∃ H',Inv X pins σ H' s'/\Q H') X.xe s
abbrev TIp:=V->V->Hp->VK->Prop
def PIp (X:Cx) (op:Operator) (t:TIp):Prop:=
 ∀ (pins:List (Addr×Obj)) (s:Shared) (σ:St) (H:Hp) (x y:V) (v u:Value) (Q:VK),Inv X pins σ H s->RelV x v->RelV y u->t x y H Q->
  wpAny (model X.prog X.w) X.A (inplaceOp op v u) (EP X pins σ Q) X.xe s
section
variable {X:Cx} {pos:Pos}
noncomputable def eM (i:Nat):TG:=λv σ H Q=>Q (σ.set i (some v)) H
theorem dD {i:Nat} {x:Str} (hN:X.N.Nodup) (hi:X.N[i]? =some x) (hx:Loc X.env.scope x) (hf:X.fn x=true\/X.env.scope.names.lookup x=some .local:=by first | exact .inl rfl | exact .inr rfl | assumption):PG X (.Name x pos) (eM i):=by
 intro pins s σ H v u Q I r h;exact Ib (gD I hN hi hx r (λs' I'=>⟨_,H,I',h⟩) hf)
noncomputable def Cy:TGs:=λvs σ H Q=>vs=[]/\Q σ H
inductive qe (t:TG) (u:TGs) (vs:List V) (σ:St) (H:Hp) (Q:(St->Hp->Prop)):Prop
 | mk: ∀ v r,(vs=v::r)->(t v σ H λσ' H'=>u r σ' H' Q)->qe t u vs σ H Q
theorem bW:PGs X [] Cy:=by
 intro pins s σ H vs us Q I r h;obtain ⟨e,h⟩:=h;subst e;cases r;exact assignInOrder_nil ⟨σ,H,I,h⟩
theorem aA {e:Expr} {es:List Expr} {t:TG} {u:TGs} (h1:PG X e t) (h2:PGs X es u)
  (hs:(assignEach (e::es) X.env).map (·.2)=assign e X.env::(assignEach es X.env).map (·.2):=by rfl):PGs X (e::es) (qe t u):=by
 intro pins s σ H vs us Q I r h;obtain ⟨v,vr,e1,h⟩:=h;subst e1;cases r with
 | cons r rr=>
  rw [hs];refine assignInOrder_cons (thn (h1 pins s σ H _ _ _ I r h) λ_ s1 ⟨σ1,H1,I1,q1⟩=>?_);exact h2 pins s1 σ1 H1 _ _ Q I1 rr q1
inductive Bw (K:W.Frag) (n:Nat) (t:TGs) (v:V) (σ:St) (H:Hp) (Q:(St->Hp->Prop)):Prop
 | mk: ∀ a xs,(v=.ref a)->(SqT K H a xs)->(xs.length=n)->(t xs σ H Q)->Bw K n t v σ H Q
theorem cL {es:List Expr} {k:Nat} {t:TGs} {n:Nat} (hc:X.calm=true) (h:PGs X es t)
  (hn:(assignEach es X.env).length=n:=by rfl) (hst:(assignEach es X.env).findIdx? (·.1)=none:=by rfl):PG X (.Tuple es k pos) (Bw X.K n t):=by
 intro pins s σ H v u Q I r hw;obtain ⟨a,xs,e1,hq,hl,hw⟩:=hw;subst e1;cases r;obtain ⟨its,rv,ht,hz⟩:=I.tuple hq;refine assign_Tuple_tuple (I.ok.hd hc) ht (by simp [hn,<- hl,rv.length]) hst λh' hx=>?_;have I1:Inv X pins σ H {s with heap:=h'}:=I.kept (t':=s.toks) λb o e=>hx b o (Eg (DR e)) e;exact h pins _ σ H xs _ Q I1 (by simpa using rv) hw
noncomputable def Dj (to ti:TE) (t:BI):TG:=λv σ H Q=>to σ H λo H1=>ti σ H1 λi H2=>t o i v H2 λH3=>Q σ H3
theorem wX {o i:Expr} {to ti:TE} {t:BI} (ho:PE X o to) (hi:PE X i ti) (hs:CQ X t)
  (ha: ∀ v,assign (.Subscript o i pos) X.env v=(do
   let ov <- holding [v] (eval o X.env);let iv <- holding [v,ov] (eval i X.env)
   standAt pos
   holding [v,ov,iv] (setItem ov iv v)
   release [v,ov,iv] []):=by intro _;rfl):PG X (.Subscript o i pos) (Dj to ti t):=by
 intro pins s σ H v u Q I r h;rw [ha];refine Dw (Ey (thn (ho pins s σ H _ I h) λov s1 ⟨x,H1,I1,r1,q1⟩=>?_));refine Dw (Ey (thn (hi pins s1 σ H1 _ I1 q1) λiv s2 ⟨y,H2,I2,r2,q2⟩=>?_));refine Dw (Gk (Dw (Ey (thn (hs pins s2 σ H2 x y v ov iv u _ I2 r1 r2 r q2) λ_ s3 ⟨H3,I3,q3⟩=>?_))));exact wpAny_release ⟨σ,H3,I3,q3⟩
def mX (te:TE) (g:TG):TS:=λD σ H=>te σ H λx H1=>g x σ H1 D.nx
theorem eJ {tg e:Expr} {te:TE} {g:TG} (he:PE X e te) (hg:PG X tg g) (hs:swapsWithSole [tg] e pos.line X.env=pure false:=by rfl) (hw:swappedStores [tg] e X.env=pure none:=by rfl)
  (h1:(assignEach [tg] X.env).map (·.2)=[assign tg X.env]:=by rfl):PS X (.Assign [tg] e pos) (mX te g):=by
 intro pins s σ H D I h;refine wpAny_Assign_stores (thn (he pins s σ H _ I h) λv s1 ⟨x,H1,I1,r1,q1⟩=>?_) hs hw;rw [h1];exact thn (hg pins s1 σ H1 x v _ I1 r1 q1) λ_ s2 q=>q
theorem cY {i:Nat} {x:Str} {e:Expr} {te:TE} {pos':Pos} (hN:X.N.Nodup) (hi:X.N[i]? =some x) (hx:Loc X.env.scope x) (he:PE X e te) (hs:swapsWith e (some (.Name x pos')) pos.line X.env=pure false:=by rfl) (hf:X.fn x=true\/X.env.scope.names.lookup x=some .local:=by first | exact .inl rfl | exact .inr rfl | assumption):
  PS X (.Assign [.Name x pos'] e pos) (mX te (eM i)):=by
 intro pins s σ H D I h;refine wpAny_Assign_Name (thn (he pins s σ H _ I h) λv s1 ⟨y,H1,I1,r1,q1⟩=>?_) hs;exact gD I1 hN hi hx r1 (λs2 I2=>⟨_,H1,I2,q1⟩) hf
inductive BY (i:Nat) (te:TE) (ti:TIp) (D:eS) (σ:St) (H:Hp):Prop
 | mk: ∀ x,(σ[i]? =some (some x))->(te σ H λy H1=>ti x y H1 λz H2=>D.nx (σ.set i (some z)) H2)->BY i te ti D σ H
theorem A9 {i:Nat} {x:Str} {e:Expr} {te:TE} {op:Operator} {ti:TIp} {pos':Pos} (hN:X.N.Nodup) (hi:X.N[i]? =some x) (hx:Loc X.env.scope x) (he:PE X e te) (ho:PIp X op ti) (hf:X.fn x=true\/X.env.scope.names.lookup x=some .local:=by first | exact .inl rfl | exact .inr rfl | assumption):
  PS X (.AugAssign (.Name x pos') op e pos) (BY i te ti):=by
 intro pins s σ H D I h;obtain ⟨v,e1,h⟩:=h;obtain ⟨m,hn,hl⟩:=I.loc;have vis:Vis X.env.scope x:=by rcases hx with k | k;exact .inl k;exact .inr (.inl k)
 obtain ⟨u,r,l⟩:=hl i x v hi e1 vis;refine wpAny_AugAssign_Name ?_;have go:wpAny (model X.prog X.w) X.A (eval e X.env) (λw s₂=>wpAny (model X.prog X.w) X.A (inplaceOp op u w) (λr s₃=>wpAny (model X.prog X.w) X.A (storeName X.env x r) (λ_=>SP X pins D .next) X.xe s₃) X.xe s₂) X.xe s:=by
  refine thn (he pins s σ H _ I h) λw s1 ⟨y,H1,I1,r1,q1⟩=>?_;refine thn (ho pins s1 σ H1 v y u w _ I1 r r1 q1) λz s2 ⟨zv,H2,I2,r2,q2⟩=>?_;exact gD I2 hN hi hx r2 (λs3 I3=>⟨_,H2,I3,q2⟩) hf
 rcases l with ⟨hk,hm⟩ | ⟨hk,c,hc,hcell⟩
 ·exact wpAny_loadName_local I.ok.kind hk hn hm go
 ·rcases hk with hk | hk
  ·exact wpAny_loadName_cell I.ok.kind hk hc hcell go
  ·rcases hx with k | k
   ·have:X.env.scope.names.lookup x=some .free:=hk;rw [k]at this;cases this
   ·have:X.env.scope.names.lookup x=some .free:=hk;rw [k]at this;cases this
inductive ipI (f:Int->Int->Int) (x:V) (y:V) (H:Hp) (Q:VK):Prop
 | mk: ∀ i j,(x=.int i)->(y=.int j)->(Q (.int (f i j)) H)->ipI f x y H Q
theorem Bt:PIp X .Add (ipI λi j=>i+j):=by
 intro pins s σ H x y v u Q I r1 r2 h;obtain ⟨i,j,e1,e2,q⟩:=h;subst e1;subst e2;obtain ⟨t,rfl⟩:=r1;obtain ⟨t',rfl⟩:=r2;exact iadd_int ⟨.int _,H,I.tok _,⟨_,rfl⟩,q⟩
end
section
variable {X:Cx} {pos:Pos}
inductive qB (c:TT) (tb:TS) (D:eS) (σ:St) (H:Hp):Prop
 | mk: ∀ (W:Nat->St->Hp->Prop),((∃ m,W m σ H))->(∀ m σ H,W m σ H->c σ H λb H1=>if b=true then ∃ N:St->Hp->Prop,(∀ σ' H',N σ' H'-> ∃ m',m'<m/\W m' σ' H')/\tb {D with nx:=N,ct:=N,bk:=D.nx} σ H1 else D.nx σ H1)->qB c tb D σ H
theorem kO {c:Expr} {body:List Stmt} {tc:TT} {tb:TS} (hp:PassesOwn (model X.prog X.w) X.A X.env X.xe) (hc:PT X c tc) (hb:PSs X body tb):PS X (.While c body [] pos) (qB tc tb):=by
 intro pins s σ H D I h;obtain ⟨W,⟨m0,w0⟩,turn⟩:=h;refine wpAny_While (codeAny_whileLoop (λn s'=> ∃ σ' H',Inv X pins σ' H' s'/\W n σ' H') ?_ m0 ⟨σ,H,I,w0⟩);rintro n s1 ⟨σ1,H1,I1,w1⟩;refine FT hp (thn (hc pins s1 σ1 H1 _ I1 (turn n σ1 H1 w1)) λb s2 ⟨H2,I2,q2⟩=>?_);cases b with
 | true=>
  obtain ⟨N,hN,q2⟩:=q2;rw [Ea rfl];refine FT hp (thn (hb pins s2 σ1 H2 _ I2 q2) λf s3 q3=>?_);cases f with
  | next=>
   obtain ⟨σ3,H3,I3,n3⟩:=q3;obtain ⟨m',hm,w3⟩:=hN σ3 H3 n3;exact ⟨m',hm,σ3,H3,I3,w3⟩
  | cont=>
   obtain ⟨σ3,H3,I3,n3⟩:=q3;obtain ⟨m',hm,w3⟩:=hN σ3 H3 n3;exact ⟨m',hm,σ3,H3,I3,w3⟩
  | brk=>exact q3
  | ret v=>exact q3
 | false=>
  rw [DU DM];exact Gg ⟨σ1,H2,I2,q2⟩
end
structure It where
 go:Nat->Hp->Prop
 yld:Nat->Hp->V->Hp->Prop
 stop:Nat->Hp->Prop
def lO (X:Cx) (pins:List (Addr×Obj)) (H:Hp) (b:Addr):Prop:=
 H b=none/\b≠X.env.locals/\b∉X.fs/\(b∈X.ex\/X.s₀.heap.objs.size<=b)/\(∀ x c,X.env.cells.lookup x=some c->c≠b)/\ ∀ p∈X.pn++pins,p.1≠b
theorem Inv.fpOk {X:Cx} {pins:List (Addr×Obj)} {σ:St} {H H':Hp} {s:Shared} {b:Addr} (I:Inv X pins σ H s) (hb:s.heap.objs.size<=b) (hn:H' b=none):lO X pins H' b:=by
 refine ⟨hn,Ge (Ew I.lt hb),I.nofs hb,.inr (Eh I.sz hb),λx c e z=>?_,λp hp z=>?_⟩
 ·obtain ⟨v,q⟩:=I.cell x c e;exact absurd (Ew q.lt (by rw [z];exact hb)) (Gj _)
 ·exact absurd (Ew (DR (I.pin p hp).1) (by rw [z];exact hb)) (Gj _)
structure qt (P:Program) (w:World) (K:W.Frag) (tg:Expr) (J:It) (fp:List Addr) (it:Addr) (tn:Nat->Heap->Prop):Prop where
 mem:it∈fp
 obj: ∀ i h,tn i h-> ∀ b∈fp,∃ o,h.get? b=some o/\ ∀ v,o.data≠ .cell v
 keep: ∀ i h h',tn i h->(∀ b∈fp,∀ o,h.get? b=some o->h'.get? b=some o)->tn i h'
 item: ∀ (X:Cx),X.prog=P->X.w=w->X.K=K->X.calm=true-> ∀ (i:Nat) (pins:List (Addr×Obj)) (s:Shared) (σ:St) (H:Hp) (E:Value->Shared->Prop),Inv X pins σ H s->(∀ b∈fp,lO X pins H b)->tn i s.heap->J.go i H->
  wpAny (model P w) X.A (pyNext (.ref it)) (λr s1=> ∃ u,r=some u/\
   wpAny (model P w) X.A (letOwnedTupleGo tg (.ref it) u) (λ_ s2=> ∃ x H',Inv X pins σ H' s2/\RelV x u/\J.yld i H x H'/\tn (i+1) s2.heap/\ ∀ b∈fp,H' b=none) E s1) E s
 done: ∀ (X:Cx),X.prog=P->X.w=w->X.K=K->X.calm=true-> ∀ (i:Nat) (pins:List (Addr×Obj)) (s:Shared) (σ:St) (H:Hp) (E:Value->Shared->Prop),Inv X pins σ H s->(∀ b∈fp,lO X pins H b)->tn i s.heap->J.stop i H->
  wpAny (model P w) X.A (pyNext (.ref it)) (λr s1=>r=none/\Inv X pins σ H s1) E s
 self: ∀ (A:Around) (i:Nat) (s:Shared) (Q:Value->Shared->Prop) (E:Value->Shared->Prop),tn i s.heap->Q (.ref it) s->wpAny (model P w) A (pyIter (.ref it)) Q E s
abbrev TI:=St->Hp->(It->Hp->Prop)->Prop
inductive PIE (X:Cx) (pins:List (Addr×Obj)) (σ:St) (tg:Expr) (R:It->Hp->Prop) (itv:Value) (s2:Shared):Prop
 | mk: ∀ (it:Addr) (fp:List Addr) (tn:Nat->Heap->Prop) (J:It) (H':Hp),(itv=.ref it)->(Inv X pins σ H' s2)->(qt X.prog X.w X.K tg J fp it tn)->(tn 0 s2.heap)->((∀ b∈fp,lO X pins H' b))->(R J H')->PIE X pins σ tg R itv s2
def PI (X:Cx) (tg iter:Expr) (wi:TI):Prop:=
 ∀ (pins:List (Addr×Obj)) (s:Shared) (σ:St) (H:Hp) (R:It->Hp->Prop),Inv X pins σ H s->wi σ H R->
  wpAny (model X.prog X.w) X.A (eval iter X.env) (λv s1=>wpAny (model X.prog X.w) X.A (pyIter v) (PIE X pins σ tg R) X.xe s1) X.xe s
theorem mw {M:Model} {A:Around} {E:Value->Shared->Prop} {s:Shared} {tg:Expr} {it:Addr} {u:Value} {o:Obj} {n:String} {vs:Array Value} {Q:Unit->Shared->Prop} (ho:s.heap.get? it=some o) (hc:o.cls=.type n) (hd:o.data=.fields vs)
  (hn:["enumerate","zip","dict_itemiterator","dict_reverseitemiterator","odict_iterator","itertools.zip_longest","itertools.pairwise"].contains n=false) (hQ:Q () s):wpAny M A (letOwnedTupleGo tg (.ref it) u) Q E s:=by
 unfold letOwnedTupleGo;cases tg <;> first
  | exact Dy hQ
  | (cases u <;> first
    | exact Dy hQ
    | (refine Dw (wpAny_load ho ?_)
       rw [hc,hd];show wpAny M A (if (["enumerate","zip","dict_itemiterator","dict_reverseitemiterator","odict_iterator","itertools.zip_longest","itertools.pairwise"].contains n&&vs[0]? ==some (rawInt _))=true then _ else _) Q E s;rw [DU (by intro h;rw [hn,DN]at h;cases h)];exact Dy hQ))
noncomputable def Itl (K:W.Frag) (a:Addr):It:=
 ⟨λi H=> ∃ xs x,SqL K H a xs/\xs[i]? =some x,λi H x H'=>H'=H/\ ∀ xs,SqL K H a xs->xs[i]? =some x,λi H=> ∃ xs,SqL K H a xs/\xs.length<=i⟩
noncomputable def Itt (K:W.Frag) (a:Addr):It:=
 ⟨λi H=> ∃ xs x,SqT K H a xs/\xs[i]? =some x,λi H x H'=>H'=H/\ ∀ xs,SqT K H a xs->xs[i]? =some x,λi H=> ∃ xs,SqT K H a xs/\xs.length<=i⟩
noncomputable def Itr (lo:Int) (n:Nat):It:=⟨λi _=>i<n,λi H x H'=>H'=H/\x=.int (lo+i),λi _=>n<=i⟩
theorem uh {P:Program} {w:World} {K:W.Frag} {tg:Expr} (a it:Addr):qt P w K tg (Itl K a) [it] it (λi h=>h.IsListIter it a i) where
 mem:=by simp
 obj:=λi h st b hb=>by
  have e:b=it:=by simpa using hb
  subst e;obtain ⟨o,e,c,d⟩:=st;exact ⟨o,e,λv z=>by rw [d]at z;cases z⟩
 keep:=λi h h' st k=>st.at λo e=>k it (by simp) o e
 item:=by
  intro X hP hw hK hc i pins s σ H E I hf st hg;subst hP hw hK;obtain ⟨xs,x,hq,hx⟩:=hg;obtain ⟨its,rv,p,hz⟩:=I.list hq;obtain ⟨u,hu,ru⟩:=rv.get hx;obtain ⟨f0,f1,f2,f3,f4,f5⟩:=hf it (by simp);refine wpAny_pyNext_list_item st p.isList (x:=u) (by simpa using hu) λh' st' sb=>?_;have I1:Inv X pins σ H {s with heap:=h'}:=I.turned (t':=s.toks) (λb o hb e=>(sb.2 b hb).trans e) f0 f1 f3 f4 f5;obtain ⟨o,e,c,d⟩:=id st';exact ⟨u,rfl,mw (s:={s with heap:=h'}) e c d (by decide) ⟨x,H,I1,ru,⟨rfl,λys hy=>by rw [I.list_inj hy hq];exact hx⟩,st',λb hb=>(hf b hb).1⟩⟩
 done:=by
  intro X hP hw hK hc i pins s σ H E I hf st hg;subst hP hw hK;obtain ⟨xs,hq,hx⟩:=hg;obtain ⟨its,rv,p,hz⟩:=I.list hq;obtain ⟨f0,f1,f2,f3,f4,f5⟩:=hf it (by simp);have hl:=rv.length;exact wpAny_pyNext_list_end (I.ok.hd hc) st p.isList (by simp;lia) λh' eb=>⟨rfl,I.turned (t':=s.toks) (λb o hb e=>eb b o hb e) f0 f1 f3 f4 f5⟩
 self:=λ_ _ _ _ _ st h=>wpAny_pyIter_listiter st h
theorem qy {P:Program} {w:World} {K:W.Frag} {tg:Expr} (a it:Addr):qt P w K tg (Itt K a) [it] it (λi h=>h.IsTupleIter it a i) where
 mem:=by simp
 obj:=λi h st b hb=>by
  have e:b=it:=by simpa using hb
  subst e;obtain ⟨o,e,c,d⟩:=st;exact ⟨o,e,λv z=>by rw [d]at z;cases z⟩
 keep:=λi h h' st k=>st.at λo e=>k it (by simp) o e
 item:=by
  intro X hP hw hK hc i pins s σ H E I hf st hg;subst hP hw hK;obtain ⟨xs,x,hq,hx⟩:=hg;obtain ⟨its,rv,p,hz⟩:=I.tuple hq;obtain ⟨u,hu,ru⟩:=rv.get hx;obtain ⟨f0,f1,f2,f3,f4,f5⟩:=hf it (by simp);refine wpAny_pyNext_tuple_item st (show s.heap.IsTuple a its.toArray from p) (x:=u) (by simpa using hu) λh' st' sb=>?_;have I1:Inv X pins σ H {s with heap:=h'}:=I.turned (t':=s.toks) (λb o hb e=>(sb.2 b hb).trans e) f0 f1 f3 f4 f5;obtain ⟨o,e,c,d⟩:=id st';exact ⟨u,rfl,mw (s:={s with heap:=h'}) e c d (by decide) ⟨x,H,I1,ru,⟨rfl,λys hy=>by rw [I.tuple_inj hy hq];exact hx⟩,st',λb hb=>(hf b hb).1⟩⟩
 done:=by
  intro X hP hw hK hc i pins s σ H E I hf st hg;subst hP hw hK;obtain ⟨xs,hq,hx⟩:=hg;obtain ⟨its,rv,p,hz⟩:=I.tuple hq;obtain ⟨f0,f1,f2,f3,f4,f5⟩:=hf it (by simp);have hl:=rv.length;exact wpAny_pyNext_tuple_end (I.ok.hd hc) st (show s.heap.IsTuple a its.toArray from p) (by simp;lia) λh' eb=>⟨rfl,I.turned (t':=s.toks) (λb o hb e=>eb b o hb e) f0 f1 f3 f4 f5⟩
 self:=λ_ _ _ _ _ st h=>wpAny_pyIter_tupleiter st h
theorem qz {P:Program} {w:World} {K:W.Frag} {tg:Expr} (it:Addr) (lo:Int) (n:Nat):qt P w K tg (Itr lo n) [it] it (λi h=>IsRangeIter h it (lo+ (i:Nat) *1) ((n:Int) - (i:Nat)) 1) where
 mem:=by simp
 obj:=λi h st b hb=>by
  have e:b=it:=by simpa using hb
  subst e;exact ⟨_,st,λv z=>by
   have z':Data.fields _=Data.cell v:=z;cases z'⟩
 keep:=λi h h' st k=>k it (by simp) _ st
 item:=by
  intro X hP hw hK hc i pins s σ H E I hf st hg;subst hP hw hK;obtain ⟨f0,f1,f2,f3,f4,f5⟩:=hf it (by simp);have W:=Walks.range (prog:=X.prog) (w:=X.w) (I.ok.hd hc) it lo 1 n;refine W.item i s _ _ hg st λv h' tk hv st' kk=>?_;obtain ⟨t,rfl⟩:=hv;have I1:Inv X pins σ H {s with heap:=h',toks:=tk}:=I.turned (λb o hb e=>kk b o (by simpa using hb) e) f0 f1 f3 f4 f5;refine ⟨_,rfl,mw (s:={s with heap:=h',toks:=tk}) (n:="range_iterator") st' rfl rfl (by decide) ⟨.int (lo+i),H,I1,⟨t,?_⟩,⟨rfl,rfl⟩,st',λb hb=>(hf b hb).1⟩⟩;rw [Int.mul_one]
 done:=by
  intro X hP hw hK hc i pins s σ H E I hf st hg;subst hP hw hK;obtain ⟨f0,f1,f2,f3,f4,f5⟩:=hf it (by simp);exact wpAny_pyNext_range_end (I.ok.hd hc) st (by have:n<=i:=hg;lia) λh' eb=>⟨rfl,I.turned (t':=s.toks) (λb o hb e=>eb b o hb e) f0 f1 f3 f4 f5⟩
 self:=λ_ _ _ _ _ st h=>wpAny_pyIter_rangeiter st h
section
variable {X:Cx} {tg:Expr}
noncomputable def Cr (K:W.Frag) (tl:TE):TI:=λσ H R=>tl σ H λx H1=> ∃ a,x=.ref a/\(∃ xs,SqL K H1 a xs)/\R (Itl K a) H1
noncomputable def Co (K:W.Frag) (tl:TE):TI:=λσ H R=>tl σ H λx H1=> ∃ a,x=.ref a/\(∃ xs,SqT K H1 a xs)/\R (Itt K a) H1
theorem km {l:Expr} {tl:TE} (hl:PE X l tl):PI X tg l (Cr X.K tl):=by
 intro pins s σ H R I h;refine thn (hl pins s σ H _ I h) λv s1 ⟨x,H1,I1,r1,q1⟩=>?_;obtain ⟨a,e,⟨xs,hq⟩,q⟩:=q1;subst e;cases r1;obtain ⟨its,rv,p,hz⟩:=I1.list hq;refine Ic p.isList ?_;refine ⟨s1.heap.objs.size,[s1.heap.objs.size],_,_,H1,rfl,I1.kept (t':=s1.toks) λb o e=>Dz _ e,uh a _,⟨_,DS _ rfl,rfl,rfl⟩,λb hb=>?_,q⟩;have e:b=s1.heap.objs.size:=by simpa using hb
 subst e;exact I1.fpOk (DI _) (I1.hok.fresh (DI _))
theorem bB {l:Expr} {tl:TE} (hl:PE X l tl):PI X tg l (Co X.K tl):=by
 intro pins s σ H R I h;refine thn (hl pins s σ H _ I h) λv s1 ⟨x,H1,I1,r1,q1⟩=>?_;obtain ⟨a,e,⟨xs,hq⟩,q⟩:=q1;subst e;cases r1;obtain ⟨its,rv,p,hz⟩:=I1.tuple hq;refine G6 (show s1.heap.IsTuple a its.toArray from p) ?_;refine ⟨s1.heap.objs.size,[s1.heap.objs.size],_,_,H1,rfl,I1.kept (t':=s1.toks) λb o e=>Dz _ e,qy a _,⟨_,DS _ rfl,rfl,rfl⟩,λb hb=>?_,q⟩;have e:b=s1.heap.objs.size:=by simpa using hb
 subst e;exact I1.fpOk (DI _) (I1.hok.fresh (DI _))
theorem pB {pins:List (Addr×Obj)} {σ:St} {H:Hp} {s:Shared} {R:It->Hp->Prop} {E:Value->Shared->Prop} {lo hi:Int} {t u v:Tok} {tk:Nat} (I:Inv X pins σ H s) (h1: -(2^62)<=lo) (h2:lo<2^62) (h3: -(2^62)<=hi) (h4:hi<2^62)
  (q:R (Itr lo (hi-lo).toNat) H):wpAny (model X.prog X.w) X.A (pyIter (.ref s.heap.objs.size)) (PIE X pins σ tg R) E {s with heap:=s.heap.push {cls:=.type "range",data:=.fields #[.int lo t,.int hi u,.int 1 v]},toks:=tk}:=by
 refine wpAny_pyIter_range (IsRange.new ..) (small_one h1 h2 h3 h4) ?_;have I1:Inv X pins σ H {s with heap:=s.heap.push {cls:=.type "range",data:=.fields #[.int lo t,.int hi u,.int 1 v]},toks:=tk}:=I.kept λb o e=>Dz _ e;refine ⟨(s.heap.push {cls:=.type "range",data:=.fields #[.int lo t,.int hi u,.int 1 v]}).objs.size,[(s.heap.push {cls:=.type "range",data:=.fields #[.int lo t,.int hi u,.int 1 v]}).objs.size],_,_,H,rfl,
  I1.kept (t':=tk) λb o e=>Dz _ e,qz _ lo (hi-lo).toNat,?_,λb hb=>?_,q⟩
 ·have e1:lo+ ((0:Nat):Int) *1=lo:=by simp
  have e2:(((hi-lo).toNat:Nat):Int) - ((0:Nat):Int)=Builtin.Range.rangeSize lo hi 1:=by rw [rangeSize_one];split <;> lia
  show IsRangeIter _ _ (lo+ ((0:Nat):Int) *1) ((((hi-lo).toNat:Nat):Int) - ((0:Nat):Int)) 1;rw [e1,e2];exact DS _ rfl
 ·have e:b=(s.heap.push {cls:=.type "range",data:=.fields #[.int lo t,.int hi u,.int 1 v]}).objs.size:=by simpa using hb
  subst e;exact I1.fpOk (DI _) (I1.hok.fresh (DI _))
noncomputable def Cq (ta:TA):TI:=λσ H R=>ta σ H λvs H1=> ∃ j:Int,vs=[.int j]/\ -(2^62)<=j/\j<2^62/\R (Itr 0 j.toNat) H1
noncomputable def Cp (ta:TA):TI:=λσ H R=>ta σ H λvs H1=> ∃ i j:Int,vs=[.int i,.int j]/\(-(2^62)<=i/\i<2^62/\ -(2^62)<=j/\j<2^62)/\R (Itr i (j-i).toNat) H1
theorem bL {a:Expr} {ta:TA} {p pos:Pos} (hg:Gl X "range") (hm:X.mg "range"=none) (ha:PA X [a] ta) (hs:starEach [a] X.env=[(false,eval a X.env)]:=by rfl):PI X tg (.Call (.Name "range" p) [a] [] pos) (Cq ta):=by
 intro pins s σ H R I h;refine Call_ (gR I hg hm boot_range (Fe (thn (ha pos pins s σ H _ I h) λus s1 ⟨vs,H1,I1,r1,q1⟩=>?_) hs rfl));obtain ⟨j,e,q1,q2,q⟩:=q1;subst e;cases r1 with
 | cons r rr=>
  cases rr;obtain ⟨t,rfl⟩:=r;exact call_range_1 (pB I1 (by lia) (by lia) q1 q2 (by simpa using q))
theorem uG {a b:Expr} {ta:TA} {p pos:Pos} (hg:Gl X "range") (hm:X.mg "range"=none) (ha:PA X [a,b] ta) (hs:starEach [a,b] X.env=[(false,eval a X.env),(false,eval b X.env)]:=by rfl) (hs2:starEach [b] X.env=[(false,eval b X.env)]:=by rfl):
  PI X tg (.Call (.Name "range" p) [a,b] [] pos) (Cp ta):=by
 intro pins s σ H R I h;refine Call_ (gR I hg hm boot_range (Fe (thn (ha pos pins s σ H _ I h) λus s1 ⟨vs,H1,I1,r1,q1⟩=>?_) (by rw [hs,hs2]) (by rw [hs2];rfl)));obtain ⟨i,j,e,⟨q1,q2,q3,q4⟩,q⟩:=q1;subst e;cases r1 with
 | cons r rr=>
  cases rr with
  | cons r' rr=>
   cases rr;obtain ⟨t,rfl⟩:=r;obtain ⟨t',rfl⟩:=r';exact call_range_2 (pB I1 q1 q2 q3 q4 q)
def C0 (wi:TI) (g:TG) (tb:TS):TS:=λD σ H=>wi σ H λJ H1=> ∃ W:Nat->Nat->St->Hp->Prop,(∃ m,W 0 m σ H1)/\ ∀ i m σ H,W i m σ H->
 (J.stop i H/\D.nx σ H)\/(J.go i H/\ ∃ N:St->Hp->Prop,(∀ σ' H',N σ' H'-> ∃ m',m'<m/\W (i+1) m' σ' H')/\ ∀ x H',J.yld i H x H'->g x σ H' λσ2 H2=>tb {D with nx:=N,ct:=N,bk:=D.nx} σ2 H2)
noncomputable def jE (fp:List Addr) (h:Heap):List (Addr×Obj):=fp.filterMap λb=>(h.get? b).map λo=>(b,o)
theorem bG {fp:List Addr} {h:Heap} {b:Addr} {o:Obj} (hb:b∈fp) (e:h.get? b=some o):(b,o)∈jE fp h:=HW.mpr ⟨b,hb,by rw [e];rfl⟩
theorem uU {fp:List Addr} {h:Heap} {p:Addr×Obj} (hp:p∈jE fp h):p.1∈fp/\h.get? p.1=some p.2:=by
 obtain ⟨b,hb,e⟩:=HW.mp hp;cases q:h.get? b with
 | none=>rw [q]at e;cases e
 | some o=>
  rw [q]at e;have e':(b,o)=p:=Ej e;subst e';exact ⟨hb,q⟩
theorem Inv.pinned {pins:List (Addr×Obj)} {σ:St} {H:Hp} {s:Shared} {fp:List Addr} (I:Inv X pins σ H s) (hf: ∀ b∈fp,lO X pins H b) (ho: ∀ b∈fp,∃ o,s.heap.get? b=some o/\ ∀ v,o.data≠ .cell v):Inv X (pins++jE fp s.heap) σ H s:=
 I.pins_of λp hp=>(DQ.mp hp).elim (λz=>I.pin p (DO _ z)) λz=>by
  obtain ⟨hb,e⟩:=uU z;obtain ⟨f0,f1,f2,_⟩:=hf p.1 hb;obtain ⟨o,e',d⟩:=ho p.1 hb;rw [e]at e';cases e';exact ⟨e,f0,f1,f2,d⟩
theorem Inv.unpinned {pins pl:List (Addr×Obj)} {σ:St} {H:Hp} {s:Shared} (I:Inv X (pins++pl) σ H s):Inv X pins σ H s:=I.pins_of λp hp=>I.pin p (DO _ (Eo _ hp))
theorem cC {iter:Expr} {body:List Stmt} {wi:TI} {g:TG} {tb:TS} {pos:Pos} (hp:PassesOwn (model X.prog X.w) X.A X.env X.xe) (hc:X.calm=true) (hi:PI X tg iter wi) (hg:PG X tg g) (hb:PSs X body tb)
  (hs: ∀ x,foldedSetIterable iter X.env x=pure x:=by intro _;rfl):PS X (.For tg iter body [] pos) (C0 wi g tb):=by
 intro pins s σ H D I h;refine wpAny_For (thn (hi pins s σ H _ I h) λv s1 h1=>thn h1 λitv s2 h2=>?_) hs;obtain ⟨it,fp,tn,J,H2,e,I2,T,st2,f2,W,⟨m0,w0⟩,turn⟩:=h2;subst e;have stat: ∀ {H':Hp},(∀ b∈fp,H' b=none)-> ∀ b∈fp,lO X pins H' b:=λhn b hb=>⟨hn b hb,(f2 b hb).2⟩;refine codeAny_forLoop_any (λn s'=> ∃ i σ' H',Inv X pins σ' H' s'/\tn i s'.heap/\(∀ b∈fp,H' b=none)/\W i n σ' H') ?_ m0 ⟨0,σ,H2,I2,st2,λb hb=>(f2 b hb).1,w0⟩;rintro n s3 ⟨i,σ3,H3,I3,st3,fr3,w3⟩;rcases turn i n σ3 H3 w3 with ⟨stop,qn⟩ | ⟨go,N,hN,step⟩
 ·refine FT hp (thn (T.done X rfl rfl rfl hc i pins s3 σ3 H3 X.xe I3 (stat fr3) st3 stop) λr s4 ⟨hr,I4⟩=>?_);subst hr;exact Gg ⟨σ3,H3,I4,qn⟩
 ·refine FT hp (thn (T.item X rfl rfl rfl hc i pins s3 σ3 H3 X.xe I3 (stat fr3) st3 go) λr s4 ⟨u,hr,h4⟩=>?_);subst hr;refine FT hp (thn h4 λ_ s5 ⟨x,H5,I5,r5,y5,st5,fr5⟩=>?_);have I5':=I5.pinned (stat fr5) (T.obj _ _ st5);refine FT hp (thn (hg _ s5 σ3 H5 x u _ I5' r5 (step x H5 y5)) λ_ s6 ⟨σ6,H6,I6,q6⟩=>?_);refine FT hp (thn (hb _ s6 σ6 H6 _ I6 q6) λf s7 q7=>?_);have again: ∀ {σ7:St} {H7:Hp},Inv X (pins++jE fp s5.heap) σ7 H7 s7->N σ7 H7-> ∃ m,m<n/\ ∃ i σ' H',Inv X pins σ' H' s7/\tn i s7.heap/\(∀ b∈fp,H' b=none)/\W i m σ' H':=λ{σ7 H7} I7 n7=>by
   obtain ⟨m',hm,w7⟩:=hN σ7 H7 n7;refine ⟨m',hm,i+1,σ7,H7,I7.unpinned,T.keep _ _ _ st5 λb hb o e=>(I7.pin (b,o) (DO _ (DO _ (bG hb e)))).1,λb hb=>?_,w7⟩;obtain ⟨o,e,d⟩:=T.obj _ _ st5 b hb;exact (I7.pin (b,o) (DO _ (DO _ (bG hb e)))).2.1
  cases f with
  | next=>obtain ⟨σ7,H7,I7,n7⟩:=q7;exact again I7 n7
  | cont=>obtain ⟨σ7,H7,I7,n7⟩:=q7;exact again I7 n7
  | brk=>obtain ⟨σ7,H7,I7,q7⟩:=q7;exact ⟨σ7,H7,I7.unpinned,q7⟩
  | ret v=>obtain ⟨x7,σ7,H7,I7,r7,q7⟩:=q7;exact ⟨x7,σ7,H7,I7.unpinned,r7,q7⟩
end
theorem lj {K:W.Frag} {a:Addr} {xs:List V} {g:TG} {tb:TS} {D:eS} {σ:St} {H:Hp} (Pv:Nat->St->Hp->Prop) (h0:Pv 0 σ H) (hl: ∀ i σ H,i<=xs.length->Pv i σ H->SqL K H a xs)
  (hs: ∀ i x σ H,xs[i]? =some x->Pv i σ H->g x σ H λσ2 H2=>tb {D with nx:=Pv (i+1),ct:=Pv (i+1),bk:=D.nx} σ2 H2) (hd: ∀ σ H,Pv xs.length σ H->D.nx σ H):
  ∃ W:Nat->Nat->St->Hp->Prop,(∃ m,W 0 m σ H)/\ ∀ i m σ H,W i m σ H->
   ((Itl K a).stop i H/\D.nx σ H)\/((Itl K a).go i H/\ ∃ N:St->Hp->Prop,(∀ σ' H',N σ' H'-> ∃ m',m'<m/\W (i+1) m' σ' H')/\ ∀ x H',(Itl K a).yld i H x H'->g x σ H' λσ2 H2=>tb {D with nx:=N,ct:=N,bk:=D.nx} σ2 H2):=by
 refine ⟨λi m σ H=>m=xs.length-i/\i<=xs.length/\Pv i σ H,⟨xs.length,by simp,Er _,h0⟩,?_⟩;rintro i m σ H ⟨rfl,hi,p⟩;have q:=hl i σ H hi p;by_cases hlt:i<xs.length
 ·refine .inr ⟨⟨xs,xs[i],q,by simp [hlt]⟩,Pv (i+1),λσ' H' p'=>⟨xs.length- (i+1),by lia,rfl,hlt,p'⟩,λx H' y=>?_⟩;obtain ⟨e,y⟩:=y;subst e;exact hs i x σ _ (y xs q) p
 ·have e:i=xs.length:=by lia
  subst e;exact .inl ⟨⟨xs,q,DI _⟩,hd σ H p⟩
theorem jk {K:W.Frag} {a:Addr} {xs:List V} {g:TG} {tb:TS} {D:eS} {σ:St} {H:Hp} (Pv:Nat->St->Hp->Prop) (h0:Pv 0 σ H) (hl: ∀ i σ H,i<=xs.length->Pv i σ H->SqT K H a xs)
  (hs: ∀ i x σ H,xs[i]? =some x->Pv i σ H->g x σ H λσ2 H2=>tb {D with nx:=Pv (i+1),ct:=Pv (i+1),bk:=D.nx} σ2 H2) (hd: ∀ σ H,Pv xs.length σ H->D.nx σ H):
  ∃ W:Nat->Nat->St->Hp->Prop,(∃ m,W 0 m σ H)/\ ∀ i m σ H,W i m σ H->
   ((Itt K a).stop i H/\D.nx σ H)\/((Itt K a).go i H/\ ∃ N:St->Hp->Prop,(∀ σ' H',N σ' H'-> ∃ m',m'<m/\W (i+1) m' σ' H')/\ ∀ x H',(Itt K a).yld i H x H'->g x σ H' λσ2 H2=>tb {D with nx:=N,ct:=N,bk:=D.nx} σ2 H2):=by
 refine ⟨λi m σ H=>m=xs.length-i/\i<=xs.length/\Pv i σ H,⟨xs.length,by simp,Er _,h0⟩,?_⟩;rintro i m σ H ⟨rfl,hi,p⟩;have q:=hl i σ H hi p;by_cases hlt:i<xs.length
 ·refine .inr ⟨⟨xs,xs[i],q,by simp [hlt]⟩,Pv (i+1),λσ' H' p'=>⟨xs.length- (i+1),by lia,rfl,hlt,p'⟩,λx H' y=>?_⟩;obtain ⟨e,y⟩:=y;subst e;exact hs i x σ _ (y xs q) p
 ·have e:i=xs.length:=by lia
  subst e;exact .inl ⟨⟨xs,q,DI _⟩,hd σ H p⟩
theorem dA {lo:Int} {n:Nat} {g:TG} {tb:TS} {D:eS} {σ:St} {H:Hp} (Pv:Nat->St->Hp->Prop) (h0:Pv 0 σ H)
  (hs: ∀ i σ H,i<n->Pv i σ H->g (.int (lo+i)) σ H λσ2 H2=>tb {D with nx:=Pv (i+1),ct:=Pv (i+1),bk:=D.nx} σ2 H2) (hd: ∀ σ H,Pv n σ H->D.nx σ H):
  ∃ W:Nat->Nat->St->Hp->Prop,(∃ m,W 0 m σ H)/\ ∀ i m σ H,W i m σ H->
   ((Itr lo n).stop i H/\D.nx σ H)\/((Itr lo n).go i H/\ ∃ N:St->Hp->Prop,(∀ σ' H',N σ' H'-> ∃ m',m'<m/\W (i+1) m' σ' H')/\ ∀ x H',(Itr lo n).yld i H x H'->g x σ H' λσ2 H2=>tb {D with nx:=N,ct:=N,bk:=D.nx} σ2 H2):=by
 refine ⟨λi m σ H=>m=n-i/\i<=n/\Pv i σ H,⟨n,by simp,Er _,h0⟩,?_⟩;rintro i m σ H ⟨rfl,hi,p⟩;by_cases hlt:i<n
 ·refine .inr ⟨hlt,Pv (i+1),λσ' H' p'=>⟨n- (i+1),by lia,rfl,hlt,p'⟩,λx H' y=>?_⟩;obtain ⟨e,y⟩:=y;subst e y;exact hs i σ _ hlt p
 ·have e:i=n:=by lia
  subst e;exact .inl ⟨DI _,hd σ H p⟩
theorem ku {c:TT} {tb:TS} {D:eS} {σ:St} {H:Hp} (Pv:St->Hp->Prop) (μ:St->Hp->Nat) (h0:Pv σ H)
  (hs: ∀ σ H,Pv σ H->c σ H λb H1=>if b=true then tb {D with nx:=λσ' H'=>Pv σ' H'/\μ σ' H'<μ σ H,ct:=λσ' H'=>Pv σ' H'/\μ σ' H'<μ σ H,bk:=D.nx} σ H1 else D.nx σ H1)
  (mono: ∀ σ H Q Q',(∀ b H1,Q b H1->Q' b H1)->c σ H Q->c σ H Q'):qB c tb D σ H:=by
 refine ⟨λm σ H=>m=μ σ H/\Pv σ H,⟨_,rfl,h0⟩,?_⟩;rintro m σ H ⟨rfl,p⟩;refine mono σ H _ _ (λb H1 q=>?_) (hs σ H p);cases b with
 | true=>exact ⟨_,λσ' H' ⟨p',l⟩=>⟨_,l,rfl,p'⟩,q⟩
 | false=>exact q
abbrev R2:=V->V->Hp->VK->Prop
def OpR (X:Cx) (f:Value->Value->Sem Value) (r:R2):Prop:=
 ∀ (pins:List (Addr×Obj)) (s:Shared) (σ:St) (H:Hp) (x y:V) (v u:Value) (Q:VK),Inv X pins σ H s->RelV x v->RelV y u->r x y H Q->
  wpAny (model X.prog X.w) X.A (f v u) (EP X pins σ Q) X.xe s
def UnR (X:Cx) (f:Value->Sem Value) (r:V->Hp->VK->Prop):Prop:=
 ∀ (pins:List (Addr×Obj)) (s:Shared) (σ:St) (H:Hp) (x:V) (v:Value) (Q:VK),Inv X pins σ H s->RelV x v->r x H Q->
  wpAny (model X.prog X.w) X.A (f v) (EP X pins σ Q) X.xe s
def dU (X:Cx) (f:Value) (r:List V->Hp->VK->Prop):Prop:=
 ∀ (pins:List (Addr×Obj)) (s:Shared) (σ:St) (H:Hp) (xs:List V) (us:List Value) (Q:VK),Inv X pins σ H s->Vals xs us->r xs H Q->
  wpAny (model X.prog X.w) X.A (call f us) (EP X pins σ Q) X.xe s
def Dp (X:Cx) (r:V->Hp->(Bool->Hp->Prop)->Prop):Prop:=
 ∀ (pins:List (Addr×Obj)) (s:Shared) (σ:St) (H:Hp) (x:V) (v:Value) (Q:Bool->Hp->Prop),Inv X pins σ H s->RelV x v->r x H Q->
  wpAny (model X.prog X.w) X.A (truthy v) (TP X pins σ Q) X.xe s
def tOp (r:R2) (ta tb:TE):TE:=λσ H Q=>ta σ H λx H1=>tb σ H1 λy H2=>r x y H2 Q
def tUn (r:V->Hp->VK->Prop) (ta:TE):TE:=λσ H Q=>ta σ H λx H1=>r x H1 Q
inductive rI (C:Int->Int->Prop) (g:Int->Int->V) (x:V) (y:V) (H:Hp) (Q:VK):Prop
 | mk: ∀ i j,(x=.int i)->(y=.int j)->(C i j)->(Q (g i j) H)->rI C g x y H Q
inductive rI0 (g:Int->Int->V) (x:V) (y:V) (H:Hp) (Q:VK):Prop
 | mk: ∀ i j,(x=.int i)->(y=.int j)->(Q (g i j) H)->rI0 g x y H Q
inductive rU (g:Int->V) (x:V) (H:Hp) (Q:VK):Prop
 | mk: ∀ i,(x=.int i)->(Q (g i) H)->rU g x H Q
section
variable {X:Cx} {a b c:Expr} {ta tb tc:TE} {pos:Pos}
theorem BF (ha:PE X a ta) (hb:PE X b tb) {pins:List (Addr×Obj)} {s:Shared} {σ:St} {H:Hp} {R:V->V->Hp->Prop} (I:Inv X pins σ H s)
  (h:ta σ H λx H1=>tb σ H1 λy H2=>R x y H2) {Q:Value->Shared->Prop} {f:Value->Value->Sem Value}
  (hf: ∀ v u s2 x y H2,Inv X pins σ H2 s2->RelV x v->RelV y u->R x y H2->wpAny (model X.prog X.w) X.A (f v u) Q X.xe s2):
  wpAny (model X.prog X.w) X.A (eval a X.env) (λv s₁=>wpAny (model X.prog X.w) X.A (eval b X.env) (λu s₂=>wpAny (model X.prog X.w) X.A (f v u) Q X.xe s₂) X.xe s₁) X.xe s:=by
 refine thn (ha pins s σ H _ I h) λv s1 ⟨x,H1,I1,r1,q1⟩=>?_;refine thn (hb pins s1 σ H1 _ I1 q1) λu s2 ⟨y,H2,I2,r2,q2⟩=>?_;exact hf v u s2 x y H2 I2 r1 r2 q2
theorem aF {op:Operator} {r:R2} (ho:OpR X (binaryOp op) r) (ha:PE X a ta) (hb:PE X b tb):PE X (.BinOp a op b pos) (tOp r ta tb):=by
 intro pins s σ H Q I h;exact wpAny_BinOp (BF ha hb I h λv u s2 x y H2 I2 rx ry q=>ho pins s2 σ H2 x y v u Q I2 rx ry q)
theorem gN {op:UnaryOp} {r:V->Hp->VK->Prop} (ho:UnR X (unaryOp op) r) (ha:PE X a ta):PE X (.UnaryOp op a pos) (tUn r ta):=by
 intro pins s σ H Q I h;exact UnaryOp_ (thn (ha pins s σ H _ I h) λv s1 ⟨x,H1,I1,r1,q1⟩=>ho pins s1 σ H1 x v Q I1 r1 q1)
theorem opI {f:Value->Value->Sem Value} {C:Int->Int->Prop} {g:Int->Int->Int}
  (rule: ∀ (i j:Int) (t u:Tok) (s:Shared) (Q:Value->Shared->Prop) (E:Value->Shared->Prop),C i j->Q (.int (g i j) s.toks) {s with toks:=s.toks+1}->wpAny (model X.prog X.w) X.A (f (.int i t) (.int j u)) Q E s):
  OpR X f (rI C λi j=>.int (g i j)):=by
 intro pins s σ H x y v u Q I rx ry h;obtain ⟨i,j,rfl,rfl,hc,q⟩:=h;obtain ⟨t,rfl⟩:=rx;obtain ⟨t',rfl⟩:=ry;exact rule i j t t' s _ _ hc ⟨.int (g i j),H,I.tok _,⟨_,rfl⟩,q⟩
theorem Cf {f:Value->Value->Sem Value} {g:Int->Int->Int}
  (rule: ∀ (i j:Int) (t u:Tok) (s:Shared) (Q:Value->Shared->Prop) (E:Value->Shared->Prop),Q (.int (g i j) s.toks) {s with toks:=s.toks+1}->wpAny (model X.prog X.w) X.A (f (.int i t) (.int j u)) Q E s):
  OpR X f (rI0 λi j=>.int (g i j)):=by
 intro pins s σ H x y v u Q I rx ry h;obtain ⟨i,j,rfl,rfl,q⟩:=h;obtain ⟨t,rfl⟩:=rx;obtain ⟨t',rfl⟩:=ry;exact rule i j t t' s _ _ ⟨.int (g i j),H,I.tok _,⟨_,rfl⟩,q⟩
theorem zy {f:Value->Value->Sem Value} {g:Int->Int->Bool}
  (rule: ∀ (i j:Int) (t u:Tok) (s:Shared) (Q:Value->Shared->Prop) (E:Value->Shared->Prop),Q (.bool (g i j)) s->wpAny (model X.prog X.w) X.A (f (.int i t) (.int j u)) Q E s):
  OpR X f (rI0 λi j=>.bl (g i j)):=by
 intro pins s σ H x y v u Q I rx ry h;obtain ⟨i,j,rfl,rfl,q⟩:=h;obtain ⟨t,rfl⟩:=rx;obtain ⟨t',rfl⟩:=ry;exact rule i j t t' s _ _ ⟨.bl (g i j),H,I,rfl,q⟩
def Du (i j:Int):Prop:=0<j/\j<1073741824
def Dt (i j:Int):Prop:=0<=j/\j<=1000000/\i.natAbs<2^64
def CMul (i j:Int):Prop:=(-(2^64) <i/\i<2^64)\/(-(2^64) <j/\j<2^64)
theorem CMul.ok {i j:Int} (h:CMul i j):IntMulOk i j:=by
 rcases h with ⟨h1,h2⟩ | ⟨h1,h2⟩
 ·exact .of_left (intBits_le_64 h1 h2)
 ·exact .of_right (intBits_le_64 h1 h2)
theorem bn:OpR X (binaryOp .Add) (rI0 λi j=>.int (i+j)):=Cf λ_ _ _ _ _ _ _ q=>add_int q
theorem fX:OpR X (binaryOp .Sub) (rI0 λi j=>.int (i-j)):=Cf λ_ _ _ _ _ _ _ q=>sub_int q
theorem dM:OpR X (binaryOp .Mult) (rI CMul λi j=>.int (i*j)):=opI λ_ _ _ _ _ _ _ hc q=>mul_int q hc.ok
theorem nX:OpR X (binaryOp .FloorDiv) (rI Du λi j=>.int (i/j)):=opI λi j _ _ _ _ _ hc q=>by
 have h1:(0:Int) <j:=hc.1;have h2:j<1073741824:=hc.2;exact floordiv_int (by lia) (by rw [Int.fdiv_eq_ediv_of_nonneg i (by lia)];exact q) (.inl (PyProof.noPylong_small (by lia)))
theorem cZ:OpR X (binaryOp .Mod) (rI (λ_ j=>0<j) λi j=>.int (i%j)):=opI λi j _ _ _ _ _ hc q=>by
 have h1:(0:Int) <j:=hc;exact mod_int' (by lia) (by rw [Int.fmod_eq_emod_of_nonneg i (by lia)];exact q)
theorem rm:OpR X (binaryOp .Pow) (rI Dt λi j=>.int (i^j.toNat)):=opI λ_ _ _ _ _ _ _ hc q=>pow_int_small hc.1 hc.2.1 hc.2.2 q
theorem unI {f:Value->Sem Value} {g:Int->Int}
  (rule: ∀ (i:Int) (t:Tok) (s:Shared) (Q:Value->Shared->Prop) (E:Value->Shared->Prop),Q (.int (g i) s.toks) {s with toks:=s.toks+1}->wpAny (model X.prog X.w) X.A (f (.int i t)) Q E s):
  UnR X f (rU λi=>.int (g i)):=by
 intro pins s σ H x v Q I rx h;obtain ⟨i,rfl,q⟩:=h;obtain ⟨t,rfl⟩:=rx;exact rule i t s _ _ ⟨.int (g i),H,I.tok _,⟨_,rfl⟩,q⟩
theorem eE:UnR X (unaryOp .USub) (rU λi=>.int (-i)):=unI λ_ _ _ _ _ q=>neg_int q
end
noncomputable def B0:V->V->Bool
 | .non,.non=>true | .non,.int _=>true | .int _,.non=>true | .non,.bl _=>true | .bl _,.non=>true | .non,.str _=>true | .str _,.non=>true
 | .int _,.int _=>true | .bl _,.bl _=>true | .str _,.str _=>true | .byt _,.byt _=>true
 | .int _,.str _=>true | .str _,.int _=>true | .bl _,.str _=>true | .str _,.bl _=>true
 | _,_=>false
def rEq:R2:=λx y H Q=>B0 x y=true/\Q (.bl (decide (x=y))) H
def rNe:R2:=λx y H Q=>B0 x y=true/\Q (.bl (!decide (x=y))) H
theorem tQ {i j:Int}:decide (V.int i=V.int j)=(i==j):=by
 rw [G3];simp
theorem yz {i j:Bool}:decide (V.bl i=V.bl j)=(i==j):=by
 rw [G3];simp
theorem tO {i j:Str}:decide (V.str i=V.str j)=(i==j):=by
 rw [G3];simp
theorem tR {i j:Array UInt8}:decide (V.byt i=V.byt j)=(i.toList==j.toList):=by
 rw [G3];cases i;cases j;simp
section
variable {X:Cx} {a b c:Expr} {ta tb tc:TE} {pos:Pos}
theorem bd {pins:List (Addr×Obj)} {σ:St} {H:Hp} {s:Shared} {Q:VK} {k k':Bool} (I:Inv X pins σ H s) (q:Q (.bl k) H) (e:k=k'):EP X pins σ Q (.bool k') s:=by
 subst e;exact ⟨.bl k,H,I,rfl,q⟩
theorem bJ:OpR X (compareOp .Eq) rEq:=by
 intro pins s σ H x y v u Q I rx ry h;obtain ⟨hs,q⟩:=h;cases x with
 | non=>
  cases rx;cases y with
  | non=>cases ry;exact PySem.EqNone.eq_none_none (bd I q (by simp))
  | bl j=>cases ry;exact PySem.EqNone.eq_none_bool (bd I q (by simp))
  | int j=>obtain ⟨t',rfl⟩:=ry;exact PySem.EqNone.eq_none_int (bd I q (by simp))
  | str j=>obtain ⟨t',rfl⟩:=ry;exact PySem.EqNone.eq_none_str (bd I q (by simp))
  | _=>exact absurd (show false=true from hs) DM
 | bl i=>
  cases rx;cases y with
  | non=>cases ry;exact PySem.EqNone.eq_bool_none (bd I q (by simp))
  | bl j=>cases ry;exact eq_bool (bd I q yz)
  | str j=>obtain ⟨t',rfl⟩:=ry;exact PySem.EqMixed.eq_bool_str (bd I q (by simp))
  | _=>exact absurd (show false=true from hs) DM
 | int i=>
  obtain ⟨t,rfl⟩:=rx;cases y with
  | non=>cases ry;exact PySem.EqNone.eq_int_none (bd I q (by simp))
  | int j=>obtain ⟨t',rfl⟩:=ry;exact eq_int (bd I q tQ)
  | str j=>obtain ⟨t',rfl⟩:=ry;exact PySem.EqMixed.eq_int_str (bd I q (by simp))
  | _=>exact absurd (show false=true from hs) DM
 | str i=>
  obtain ⟨t,rfl⟩:=rx;cases y with
  | non=>cases ry;exact PySem.EqNone.eq_str_none (bd I q (by simp))
  | bl j=>cases ry;exact PySem.EqMixed.eq_str_bool (bd I q (by simp))
  | int j=>obtain ⟨t',rfl⟩:=ry;exact PySem.EqMixed.eq_str_int (bd I q (by simp))
  | str j=>obtain ⟨t',rfl⟩:=ry;exact eq_str (bd I q tO)
  | _=>exact absurd (show false=true from hs) DM
 | byt i=>
  obtain ⟨t,rfl⟩:=rx;cases y with
  | byt j=>obtain ⟨t',rfl⟩:=ry;exact W.eq_bytes (bd I q tR)
  | _=>exact absurd (show false=true from hs) DM
 | _=>cases y <;> exact absurd (show false=true from hs) DM
theorem Cd:OpR X (compareOp .NotEq) rNe:=by
 intro pins s σ H x y v u Q I rx ry h;obtain ⟨hs,q⟩:=h;cases x with
 | non=>
  cases rx;cases y with
  | non=>cases ry;exact PySem.EqNone.ne_none_none (bd I q (by simp))
  | bl j=>cases ry;exact PySem.EqNone.ne_none_bool (bd I q (by simp))
  | int j=>obtain ⟨t',rfl⟩:=ry;exact PySem.EqNone.ne_none_int (bd I q (by simp))
  | str j=>obtain ⟨t',rfl⟩:=ry;exact PySem.EqNone.ne_none_str (bd I q (by simp))
  | _=>exact absurd (show false=true from hs) DM
 | bl i=>
  cases rx;cases y with
  | non=>cases ry;exact PySem.EqNone.ne_bool_none (bd I q (by simp))
  | bl j=>cases ry;exact ne_bool (bd I q (congrArg not yz))
  | str j=>obtain ⟨t',rfl⟩:=ry;exact PySem.EqMixed.ne_bool_str (bd I q (by simp))
  | _=>exact absurd (show false=true from hs) DM
 | int i=>
  obtain ⟨t,rfl⟩:=rx;cases y with
  | non=>cases ry;exact PySem.EqNone.ne_int_none (bd I q (by simp))
  | int j=>obtain ⟨t',rfl⟩:=ry;exact ne_int (bd I q (congrArg not tQ))
  | str j=>obtain ⟨t',rfl⟩:=ry;exact PySem.EqMixed.ne_int_str (bd I q (by simp))
  | _=>exact absurd (show false=true from hs) DM
 | str i=>
  obtain ⟨t,rfl⟩:=rx;cases y with
  | non=>cases ry;exact PySem.EqNone.ne_str_none (bd I q (by simp))
  | bl j=>cases ry;exact PySem.EqMixed.ne_str_bool (bd I q (by simp))
  | int j=>obtain ⟨t',rfl⟩:=ry;exact PySem.EqMixed.ne_str_int (bd I q (by simp))
  | str j=>obtain ⟨t',rfl⟩:=ry;exact ne_str (bd I q (congrArg not tO))
  | _=>exact absurd (show false=true from hs) DM
 | byt i=>
  obtain ⟨t,rfl⟩:=rx;cases y with
  | byt j=>obtain ⟨t',rfl⟩:=ry;exact W.ne_bytes (bd I q (congrArg not tR))
  | _=>exact absurd (show false=true from hs) DM
 | _=>cases y <;> exact absurd (show false=true from hs) DM
theorem jc:OpR X (compareOp .Lt) (rI0 λi j=>.bl (decide (i<j))):=zy λ_ _ _ _ _ _ _ q=>lt_int q
theorem md:OpR X (compareOp .LtE) (rI0 λi j=>.bl (decide (i<=j))):=zy λ_ _ _ _ _ _ _ q=>le_int q
theorem jU:OpR X (compareOp .Gt) (rI0 λi j=>.bl (decide (j<i))):=zy λ_ _ _ _ _ _ _ q=>gt_int q
theorem Ce:OpR X (compareOp .GtE) (rI0 λi j=>.bl (decide (j<=i))):=zy λ_ _ _ _ _ _ _ q=>ge_int q
theorem xh:OpR X (compareOp .Is) (λx y H Q=>y=.non/\Q (.bl (decide (x=.non))) H):=by
 intro pins s σ H x y v u Q I rx ry h;obtain ⟨rfl,q⟩:=h;cases ry;refine is_none_gen (bd I q ?_);cases x <;> first
  | (cases rx;rfl)
  | (obtain ⟨t,rfl⟩:=rx;rfl)
theorem nW:OpR X (compareOp .IsNot) (λx y H Q=>y=.non/\Q (.bl (!decide (x=.non))) H):=by
 intro pins s σ H x y v u Q I rx ry h;obtain ⟨rfl,q⟩:=h;cases ry;refine isnot_none_gen (bd I q ?_);cases x <;> first
  | (cases rx;rfl)
  | (obtain ⟨t,rfl⟩:=rx;rfl)
theorem aJ (b:Expr) {op:CmpOp} (h:op≠ .In:=by decide) (h2:op≠ .NotIn:=by decide):behindInMarks op b=false:=by
 have e1:(op==CmpOp.In)=false:=by cases op <;> first | rfl | exact absurd rfl h
 have e2:(op==CmpOp.NotIn)=false:=by cases op <;> first | rfl | exact absurd rfl h2
 cases b <;> simp [behindInMarks,e1,e2]
theorem cj {op:CmpOp} {r:R2} (ho:OpR X (compareOp op) r) (ha:PE X a ta) (hb:PE X b tb) (hm:behindInMarks op b=false):PE X (.Compare a [op] [b] pos) (tOp r ta tb):=by
 intro pins s σ H Q I h;exact wpAny_Compare1 (BF ha hb I h λv u s2 x y H2 I2 rx ry q=>ho pins s2 σ H2 x y v u Q I2 rx ry q) hm
def vP (t:TE):TT:=λσ H Q=>t σ H λx H'=>rBl x H' Q
theorem aG {op:CmpOp} {r:R2} (ho:OpR X (compareOp op) r) (ha:PE X a ta) (hb:PE X b tb) (hm:behindInMarks op b=false):PT X (.Compare a [op] [b] pos) (vP (tOp r ta tb)):=by
 intro pins s σ H Q I h;refine wpAny_isTrue_Compare1 (thn (ha pins s σ H _ I h) λv s1 ⟨x,H1,I1,r1,q1⟩=>thn (hb pins s1 σ H1 _ I1 q1) λu s2 ⟨y,H2,I2,r2,q2⟩=>
  thn (ho pins s2 σ H2 x y v u _ I2 r1 r2 q2) λc s3 ⟨z,H3,I3,r3,k,e,q3⟩=>?_) hm
 subst e;cases r3;exact E4 ⟨H3,I3,q3⟩
def vT (r r':R2) (ta tb tc:TE):TE:=λσ H Q=>ta σ H λx H1=>tb σ H1 λy H2=>r x y H2 λz H3=> ∃ k,z=.bl k/\
 (if k=true then tc σ H3 λw' H4=>r' y w' H4 Q else Q (.bl false) H3)
theorem kQ {op op':CmpOp} {r r':R2} (ho:OpR X (compareOp op) r) (ho':OpR X (compareOp op') r') (ha:PE X a ta) (hb:PE X b tb) (hc:PE X c tc)
  (hm:lastMarks [op,op'] [b,c]=false:=by with_unfolding_all rfl):PE X (.Compare a [op,op'] [b,c] pos) (vT r r' ta tb tc):=by
 intro pins s σ H Q I h;refine Compare_chain (thn (ha pins s σ H _ I h) λv s1 ⟨x,H1,I1,r1,q1⟩=>chain_link (thn (hb pins s1 σ H1 _ I1 q1) λu s2 ⟨y,H2,I2,r2,q2⟩=>
  thn (ho pins s2 σ H2 x y v u _ I2 r1 r2 q2) λd s3 ⟨z,H3,I3,r3,k,e,q3⟩=>?_)) hm
 subst e;cases r3;refine E4 ?_;cases k with
 | false=>exact ite_ff ⟨.bl false,H3,I3,rfl,q3⟩
 | true=>exact ite_tt (chain_last (thn (hc pins s3 σ H3 _ I3 q3) λw' s4 ⟨z',H4,I4,r4,q4⟩=>ho' pins s4 σ H4 y z' u w' Q I4 r2 r4 q4))
theorem wT {op op':CmpOp} {r r':R2} (ho:OpR X (compareOp op) r) (ho':OpR X (compareOp op') r') (ha:PE X a ta) (hb:PE X b tb) (hc:PE X c tc)
  (hm:lastMarks [op,op'] [b,c]=false:=by with_unfolding_all rfl):PT X (.Compare a [op,op'] [b,c] pos) (vP (vT r r' ta tb tc)):=by
 intro pins s σ H Q I h;refine isTrue_chain (thn (ha pins s σ H _ I h) λv s1 ⟨x,H1,I1,r1,q1⟩=>test_link (thn (hb pins s1 σ H1 _ I1 q1) λu s2 ⟨y,H2,I2,r2,q2⟩=>
  thn (ho pins s2 σ H2 x y v u _ I2 r1 r2 q2) λd s3 ⟨z,H3,I3,r3,k,e,q3⟩=>?_)) hm
 subst e;cases r3;refine E4 ?_;cases k with
 | false=>
  obtain ⟨k',e',q'⟩:=q3;cases e';exact ite_ff ⟨H3,I3,q'⟩
 | true=>
  refine ite_tt (test_last (thn (hc pins s3 σ H3 _ I3 q3) λw' s4 ⟨z',H4,I4,r4,q4⟩=>thn (ho' pins s4 σ H4 y z' u w' _ I4 r2 r4 q4) λd' s5 ⟨z2,H5,I5,r5,k2,e2,q5⟩=>?_));subst e2;cases r5;exact E4 ⟨H5,I5,q5⟩
def CP (K:W.Frag) (x:V) (H:Hp) (k:Bool):Prop:=
 match x with
 | .non=>k=false
 | .bl b=>k=b
 | .int i=>k=(i !=0)
 | .str y=>y.length<=sizeLine/\k=((y.length:Int)!=0)
 | .byt y=>y.size<=sizeLine/\k=((y.size:Int)!=0)
 | .ref p=>(∃ xs,SqL K H p xs/\k= !xs.isEmpty)\/(∃ xs,SqT K H p xs/\k= !xs.isEmpty)\/ ∃ kvs,H p=some (.dK kvs)/\k= !kvs.isEmpty
 | _=>False
theorem rR {κ:Type} {kvs:List (κ×V)} {vs:List (κ×Value)} (r:KV kvs vs):(!vs.isEmpty)= !kvs.isEmpty:=by
 cases r <;> rfl
theorem kZ {xs:List V} {its:List Value} (r:Vals xs its):(!its.toArray.isEmpty)= !xs.isEmpty:=by
 cases r <;> simp
theorem iG:(sizeLine:Nat) <2^63:=by rw [sizeLine_eq];decide
theorem AM:Dp X (λx H Q=> ∃ k,CP X.K x H k/\Q k H):=by
 intro pins s σ H x v Q I rx h;obtain ⟨k,e,q⟩:=h;have hl:=iG;have hs:sizeLine=16777216:=sizeLine_eq;cases x with
 | non=>
  cases rx;have e':k=false:=e;subst e';exact truthy_none ⟨H,I,q⟩
 | bl b=>
  cases rx;have e':k=b:=e;subst e';exact E4 ⟨H,I,q⟩
 | int i=>
  obtain ⟨t,rfl⟩:=rx;have e':k=(i !=0):=e;subst e';exact PySem.P.truthy_int ⟨H,I,q⟩
 | str y=>
  obtain ⟨t,rfl⟩:=rx;obtain ⟨hy,e'⟩:y.length<=sizeLine/\k=((y.length:Int)!=0):=e;subst e';exact PySem.P.truthy_str (by lia) ⟨H,I.tok _,q⟩
 | byt y=>
  obtain ⟨t,rfl⟩:=rx;obtain ⟨hy,e'⟩:y.size<=sizeLine/\k=((y.size:Int)!=0):=e;subst e';exact W.truthy_bytes (by lia) ⟨H,I.tok _,q⟩
 | ref p=>
  cases rx;have e':(∃ xs,SqL X.K H p xs/\k= !xs.isEmpty)\/(∃ xs,SqT X.K H p xs/\k= !xs.isEmpty)\/ ∃ kvs,H p=some (.dK kvs)/\k= !kvs.isEmpty:=e;rcases e' with ⟨xs,hx,e'⟩ | ⟨xs,hx,e'⟩ | ⟨kvs,hx,e'⟩
  ·subst e';obtain ⟨its,r,pl,hz⟩:=I.list hx;have hlen:=r.length;exact wpAny_truthy_list pl.isList (by simp only [DL];lia) ⟨H,I.tok _,by rw [kZ r];exact q⟩
  ·subst e';obtain ⟨its,r,pl,hz⟩:=I.tuple hx;have hlen:=r.length;exact truthy_tuple pl (by simp only [DL];lia) ⟨H,I.tok _,by rw [kZ r];exact q⟩
  ·subst e';obtain ⟨hz,hS,vs,r,m⟩:kvs.length<=sizeLine/\(p==sysModules)=false/\ ∃ vs,KV kvs vs/\s.heap.DictOf (a4 X.prog X.w) p vs:=I.hok p _ hx;have hlen:kvs.length=vs.length:=Ev r;exact wpAny_truthy_dict hS m (by lia) ⟨H,I.tok _,by rw [rR r];exact q⟩
 | _=>exact (show False from e).elim
theorem pD (ha:PE X a ta) (he: ∀ whole,isTrue a X.env whole=(do let v <- whole;standAt a.pos;holding [v] (truthy v))):
  PT X a (λσ H Q=>ta σ H λx H'=> ∃ k,CP X.K x H' k/\Q k H'):=by
 intro pins s σ H Q I h;exact isTrue_plain (thn (ha pins s σ H _ I h) λv s1 ⟨x,H1,I1,r1,q1⟩=>AM pins s1 σ H1 x v Q I1 r1 q1) (he _)
theorem iF:OpR X (binaryOp .Add) (λx y H Q=> ∃ i j,x=.str i/\y=.str j/\i.length+j.length<=sizeLine/\Q (.str (i++j)) H):=by
 intro pins s σ H x y v u Q I rx ry h;obtain ⟨i,j,rfl,rfl,hz,q⟩:=h;obtain ⟨t,rfl⟩:=rx;obtain ⟨t',rfl⟩:=ry;exact add_str (λt' tk=>⟨.str (i++j),H,I.tok _,⟨_,rfl⟩,q⟩) hz
theorem iN {x:V} {us:List Value} (r:Vals [x] us): ∃ u,us=[u]/\RelV x u:=by
 cases r with
 | cons r1 r2=>cases r2;exact ⟨_,rfl,r1⟩
theorem kx {x y:V} {us:List Value} (r:Vals [x,y] us): ∃ u w',us=[u,w']/\RelV x u/\RelV y w':=by
 cases r with
 | cons r1 r2=>
  cases r2 with
  | cons r3 r4=>cases r4;exact ⟨_,_,rfl,r1,r3⟩
theorem mH (hc:X.calm=true):dU X (.builtin "max") (λxs H Q=> ∃ i j,xs=[.int i,.int j]/\Q (.int (if j>i then j else i)) H):=by
 intro pins s σ H xs us Q I r h;obtain ⟨i,j,rfl,q⟩:=h;obtain ⟨u,w',rfl,⟨t,rfl⟩,⟨t',rfl⟩⟩:=kx r;refine max_two_ints (I.ok.hd hc) λh' tk k=>⟨_,H,I.kept k,?_,q⟩;by_cases hj:j>i
 ·rw [Ea hj,Ea hj];exact ⟨_,rfl⟩
 ·rw [DU hj,DU hj];exact ⟨_,rfl⟩
theorem mG (hc:X.calm=true):dU X (.builtin "min") (λxs H Q=> ∃ i j,xs=[.int i,.int j]/\Q (.int (if j<i then j else i)) H):=by
 intro pins s σ H xs us Q I r h;obtain ⟨i,j,rfl,q⟩:=h;obtain ⟨u,w',rfl,⟨t,rfl⟩,⟨t',rfl⟩⟩:=kx r;refine min_two_ints (I.ok.hd hc) λh' tk k=>⟨_,H,I.kept k,?_,q⟩;by_cases hj:j<i
 ·rw [Ea hj,Ea hj];exact ⟨_,rfl⟩
 ·rw [DU hj,DU hj];exact ⟨_,rfl⟩
theorem iw:dU X (.type "int") (λxs H Q=>(∃ i,xs=[.int i]/\Q (.int i) H)\/ ∃ k,xs=[.bl k]/\Q (.int (if k then 1 else 0)) H):=by
 intro pins s σ H xs us Q I r h;rcases h with ⟨i,rfl,q⟩ | ⟨k,rfl,q⟩
 ·obtain ⟨u,rfl,t,rfl⟩:=iN r;exact call_int_int ⟨.int i,H,I,⟨_,rfl⟩,q⟩
 ·obtain ⟨u,rfl,r1⟩:=iN r;cases r1;exact call_int_bool ⟨.int (if k then 1 else 0),H,I.tok _,⟨_,rfl⟩,q⟩
end
structure ObjM (h:Heap) (x dx C:Addr) (mA:Str->Option Value):Prop where
 obj:h.get? x=some (W.instObj C dx)
 ns:h.Ns1 dx mA
 ne:dx≠x
theorem mh {h:Heap} {dx:Addr} {mA:Str->Option Value} (n:h.Ns1 dx mA): ∃ od,h.get? dx=some od/\ ∀ name,W.lookIn name od=some (mA name):=by
 obtain ⟨o,es,ep,ho,hd,hk,_,hm⟩:=n;refine ⟨o,ho,λname=>?_⟩;have e:=hm name;unfold nsFind findBy at e;rw [<- Array.find?_toList]at e;unfold W.lookIn;rw [hd];dsimp only;split
 ·rename_i y q;rw [q]at e;exact congrArg some e
 ·rename_i q;rw [q]at e;have a:es.toList.any (·.refKey)=false:=by
   rw [List.any_eq_false];intro y hy;obtain ⟨z,t,hkey⟩:=hk y (Array.mem_toList_iff.mp hy);simp [DictEntry.refKey,hkey]
  have a': ¬ es.toList.any (·.refKey)=true:=by rw [a];exact DM
  rw [DU a'];exact congrArg some e
theorem ObjM.look {h:Heap} {x dx C:Addr} {mA:Str->Option Value} (I:ObjM h x dx C mA): ∃ od,W.InstAt h x (W.instObj C dx) C (some od)/\ ∀ name,W.lookIn name od=some (mA name):=
 let ⟨od,ho,hl⟩:=mh I.ns
 ⟨od,⟨I.obj,rfl,rfl,ho⟩,hl⟩
theorem RelO.some_of {v:V} {o:Option Value} (r:RelO (some v) o): ∃ u,o=some u/\RelV v u:=by
 cases o with
 | none=>exact (show False from r).elim
 | some u=>exact ⟨u,rfl,r⟩
theorem vn {v:V} {u:Value} (r:RelV v u):W.handedIn u=true:=by
 cases v with
 | non=>cases (show u=Value.none from r);rfl
 | bl b=>cases (show u=Value.bool b from r);rfl
 | int i=>obtain ⟨t,e⟩:=(show ∃ t,u=Value.int i t from r);cases e;rfl
 | str x=>obtain ⟨t,e⟩:=(show ∃ t,u=Value.str x t from r);cases e;rfl
 | byt b=>obtain ⟨t,e⟩:=(show ∃ t,u=Value.bytes b t from r);cases e;rfl
 | flt b=>obtain ⟨t,e⟩:=(show ∃ t,u=Value.float b t from r);cases e;rfl
 | ref a=>cases (show u=Value.ref a from r);rfl
 | ty n=>cases (show u=Value.type n from r);rfl
section
variable {P:Program} {w:World} {H H':Hp} {h h':Heap} {a C dx:Addr} {fs fs':List (Str×V)}
theorem zZ (hok:HOk P w H h) (e:H a=some (.ins C dx fs)): ∃ mA,ObjM h a dx C mA/\(∀ f,RelO (fs.lookup f) (mA f))/\PySem.Within mA (fs.map (·.1))/\fs.length<=1000/\H dx=some (.own a):=by
 obtain ⟨d,z,ne,ob,mA,n,r,q⟩:=(show ObjOk P w H h a (.ins C dx fs)from hok a _ e);exact ⟨mA,⟨ob,n,ne⟩,r,q,z,d⟩
end
structure Cls (K:W.Frag) (C:Addr):Prop where
 pg:W.plainGet K C Str.empty=true
 hd:W.hasDictIn K C=true
 po:W.plainOver K C=true
 sa:W.findIn K (.ref C) "__setattr__"=some (some (.builtin "object.__setattr__"))
theorem Cls.get {K:W.Frag} {C:Addr} (c:Cls K C) (f:Str):W.plainGet K C f=true:=c.pg
section
variable {X:Cx} {pins:List (Addr×Obj)} {σ:St} {H:Hp} {s:Shared} {a C dx:Addr} {fs:List (Str×V)} {f:Str} {v:V} {A:Around} {E:Value->Shared->Prop}
theorem An {prog:Program} {w:World} {env:Env} {e:Expr} {f:Str} {pos:Pos} {s:Shared} {Q:Value->Shared->Prop} (hb:attributeBase e f env (eval e env)=eval e env)
  (h:wpAny (model prog w) A (eval e env) (λo s₁=>wpAny (model prog w) A (getAttr o f true) Q E s₁) E s):wpAny (model prog w) A (eval (.Attribute e f pos) env) Q E s:=
 Attribute_any_ h (by rw [arm_eval_Attribute,hb])
end
section
variable {X:Cx} {pins:List (Addr×Obj)} {σ:St} {H:Hp} {s:Shared} {A:Around} {E:Value->Shared->Prop} {Q:Value->Shared->Prop} {c:Value} {b:Bool}
inductive jt (K:W.Frag) (H:Hp):V->Value->Prop where
 | non:jt K H .non (.type "NoneType")
 | bl (x:Bool):jt K H (.bl x) (.type "bool")
 | int (i:Int):jt K H (.int i) (.type "int")
 | str (x:Str):jt K H (.str x) (.type "str")
 | flt (x:UInt64):jt K H (.flt x) (.type "float")
 | lst {a:Addr} {xs:List V} (e:H a=some (.lst xs)):jt K H (.ref a) (.type "list")
 | frz {a:Addr} {o:Obj} {xs:List V} (e:H a=some (.frz o (.lst xs))):jt K H (.ref a) (.type "list")
 | tup {a:Addr} {xs:List V} (e:H a=some (.tup xs)):jt K H (.ref a) (.type "tuple")
 | dK {a:Addr} {kvs:List (Key×V)} (e:H a=some (.dK kvs)):jt K H (.ref a) (.type "dict")
 | dT {a:Addr} {kvs:List (List Key×V)} (e:H a=some (.dT kvs)):jt K H (.ref a) (.type "dict")
 | ins {a C dx:Addr} {fs:List (Str×V)} (e:H a=some (.ins C dx fs)) (cl:Cls K C) (ha:W.findIn K (.ref C) "__class__"=some (some (.builtin "object.__class__")))
   (hn:W.specialIn K (.builtin "object.__class__") "__get__"=some (some (.builtin "getset_descriptor.__get__"))) (htk:W.takesIn K (.builtin "object.__class__")=some true)
   (hm:W.mroIn K C (.type "object")=some true):jt K H (.ref a) (.ref C)
theorem vh {x:V} {u t:Value} (I:Inv X pins σ H s) (rx:RelV x u) (ty:jt X.K H x t) (e:W.kitOne X.K t c=some b) (h: ∀ tk,Q (.bool b) {s with toks:=tk}):
  wpAny (model X.prog X.w) A (call (.builtin "isinstance") [u,c]) Q E s:=by
 cases ty with
 | non=>cases (show u=Value.none from rx);exact EV W.kitx_none I.kIn True.intro e (λz=>nomatch z) h
 | bl y=>cases (show u=Value.bool y from rx);exact EV W.kitx_bool I.kIn True.intro e (λz=>nomatch z) h
 | int i=>obtain ⟨t,q⟩:=(show ∃ t,u=Value.int i t from rx);cases q;exact EV W.kitx_int I.kIn True.intro e (λz=>nomatch z) h
 | str y=>obtain ⟨t,q⟩:=(show ∃ t,u=Value.str y t from rx);cases q;exact EV W.kitx_str I.kIn True.intro e (λz=>nomatch z) h
 | flt y=>obtain ⟨t,q⟩:=(show ∃ t,u=Value.float y t from rx);cases q;exact EV W.kitx_float I.kIn True.intro e (λz=>nomatch z) h
 | @lst a xs ea=>
  cases (show u=Value.ref a from rx);obtain ⟨_,_,n,_,h1⟩:=(show ObjOk X.prog X.w H s.heap a (.lst xs)from I.hok a _ ea);exact EV Ie I.kIn ⟨_,h1,rfl⟩ e (λz=>nomatch z) h
 | @frz a ob xs ea=>
  cases (show u=Value.ref a from rx);obtain ⟨_,_,_,n,_,h1⟩:=(show ObjOk X.prog X.w H s.heap a (.frz ob (.lst xs))from I.hok a _ ea);exact EV Ie I.kIn ⟨_,h1,rfl⟩ e (λz=>nomatch z) h
 | @tup a xs ea=>
  cases (show u=Value.ref a from rx);obtain ⟨_,_,_,p⟩:=(show ObjOk X.prog X.w H s.heap a (.tup xs)from I.hok a _ ea);obtain ⟨o,h1,h2,_⟩:=p;exact EV W.kitx_tuple I.kIn ⟨o,h1,h2⟩ e (λz=>nomatch z) h
 | @dK a kvs ea=>
  cases (show u=Value.ref a from rx);obtain ⟨_,_,vs,_,p⟩:=(show ObjOk X.prog X.w H s.heap a (.dK kvs)from I.hok a _ ea);obtain ⟨o,es,ep,h1,h2,_⟩:=p;exact EV W.kitx_dict I.kIn ⟨o,h1,h2.1⟩ e (λz=>nomatch z) h
 | @dT a kvs ea=>
  cases (show u=Value.ref a from rx);obtain ⟨_,_,xs,_,o,es,ep,h1,h2,_⟩:=(show ObjOk X.prog X.w H s.heap a (.dT kvs)from I.hok a _ ea);exact EV W.kitx_dict I.kIn ⟨o,h1,h2.1⟩ e (λz=>nomatch z) h
 | @ins a C dx fs ea cl ha hn htk hm=>
  cases (show u=Value.ref a from rx);obtain ⟨mA,O,_⟩:=zZ I.hok ea;obtain ⟨od,J,_⟩:=O.look;exact EV (W.kitx_own (cl.get _) cl.hd ha hn htk hm) I.kIn J e (λz=>nomatch z) h
end
structure Room (k:Nat) (A:Around):Prop where
 hd:A.handled=none
 dp:A.depth+3*k+5<recursionLimit
 un:A.units+16*k+200<cLine
theorem Room.mono {j k:Nat} {A:Around} (r:Room k A) (h:j<=k):Room j A:=⟨r.hd,by have:=r.dp;lia,by have:=r.un;lia⟩
theorem Room.deeper {k:Nat} {A:Around} (r:Room (k+1) A) (env:Env):Room k (A.deeper env):=
 ⟨r.hd,by have:=r.dp;show A.depth+1+3*k+5<_;lia,by have:=r.un;show A.units+3+16*k+200<_;lia⟩
theorem rP {A:Around} {C:Addr} {us:List Value} {kw:List (Str×Value)}:(A.under (.builtin "type.__call__" ⟨.ref C::us,kw⟩)).depth=A.depth+1:=by
 first | rfl | simp [Around.under,Code.weight,Code.isCreation,Code.isGuard,Code.isCaller,Code.frames,Code.isFrame,guardIds]
theorem rO {A:Around} {C:Addr} {us:List Value} {kw:List (Str×Value)}:(A.under (.builtin "type.__call__" ⟨.ref C::us,kw⟩)).units=A.units+1:=by
 first | rfl | simp [Around.under,Code.cUnits,Code.frames,Code.isFrame]
theorem Room.make {k:Nat} {A:Around} (r:Room (k+1) A) (C:Addr) (us:List Value) (kw:List (Str×Value)):Room k (A.under (.builtin "type.__call__" ⟨.ref C::us,kw⟩)):=
 ⟨r.hd,by have:=r.dp;rw [rP];lia,by have:=r.un;rw [rO];lia⟩
theorem Room.depth {k:Nat} {A:Around} (r:Room k A):A.depth<recursionLimit:=by have:=r.dp;lia
theorem Room.units {k:Nat} {A:Around} (r:Room k A):A.units+64<cLine:=by have:=r.un;lia
theorem Room.units0 {k:Nat} {A:Around} (r:Room k A):A.units<cLine:=by have:=r.un;lia
def ul:TA:=λ_ H Q=>Q [] H
def eF (ta:TE) (tr:TA):TA:=λσ H Q=>ta σ H λx H1=>tr σ H1 λxs H2=>Q (x::xs) H2
section
variable {X:Cx} {e:Expr} {es:List Expr} {te:TE} {t:TA} {pos:Pos}
theorem ac:PA X [] ul:=λ_ _ _ _ H Q I h=>Hk ⟨[],H,I,.nil,h⟩
theorem aa (ha:PE X e te) (hr:PA X es t) (hs:starEach (e::es) X.env=(false,eval e X.env)::starEach es X.env:=by rfl):PA X (e::es) (eF te t):=by
 intro pos pins s σ H Q I h;rw [hs];show wpAny _ _ (spliced ((false,eval e X.env)::backTo pos (starEach es X.env))) _ _ s;refine HX (thn (ha pins s σ H _ I h) λu s1 ⟨x,H1,I1,r1,q1⟩=>?_);exact thn (hr pos pins s1 σ H1 _ I1 q1) λus s2 ⟨xs,H2,I2,r2,q2⟩=>⟨x::xs,H2,I2,.cons r1 r2,q2⟩
def CV (t:TA):TE:=λσ H Q=>t σ H λxs H1=>xs.length<=sizeLine/\ ∀ p,H1 p=none->Q (.ref p) (upd H1 p (.tup xs))
def AQ (t:TA):TE:=λσ H Q=>t σ H λxs H1=>xs.length<=sizeLine/\ ∀ p,H1 p=none->Q (.ref p) (upd H1 p (.lst xs))
theorem aU {x1} (h:PA X es t):PE X (.Tuple es x1 pos) (CV t):=by
 intro pins s σ H Q I hq;refine wpAny_Tuple_spliced (thn (h pos pins s σ H _ I hq) λus s1 ⟨xs,H1,I1,r,z,q⟩=>⟨by rw [<- r.length];exact z,?_⟩);have hf:H1 s1.heap.objs.size=none:=I1.hok.fresh (DI _);refine ⟨.ref s1.heap.objs.size,upd H1 s1.heap.objs.size (.tup xs),I1.laid (t':=s1.toks) (λb u e=>Dz _ e) (DI _) ?_,rfl,q _ hf⟩;exact ⟨z,us,r,⟨_,DS _ rfl,rfl,_,rfl⟩⟩
theorem bh (h:PA X es t):PE X (.List es pos) (AQ t):=by
 intro pins s σ H Q I hq;refine wpAny_List_spliced (thn (h pos pins s σ H _ I hq) λus s1 ⟨xs,H1,I1,r,z,q⟩=>⟨by rw [<- r.length];exact z,?_⟩);have hf:H1 s1.heap.objs.size=none:=I1.hok.fresh (DI _);refine ⟨.ref s1.heap.objs.size,upd H1 s1.heap.objs.size (.lst xs),I1.laid (t':=s1.toks) (λb u e=>Dz _ e) (DI _) ?_,rfl,q _ hf⟩;exact ⟨z,us,0,r,DS _ rfl⟩
end
abbrev Sp:=List V->Hp->VK->XK->Prop
abbrev CXT:=List Env->Hp->Shared->XK->Value->Shared->Prop
structure Env0 (P:Program) (w:World) (K:W.Frag) (mg:Str->Option Value) (base:Heap) (A:Around) (outer:List Env) (s:Shared) (H:Hp):Prop where
 frames:A.frames=some outer
 mod:Mod K mg base
 bs: ∀ b o,base.get? b=some o->s.heap.get? b=some o/\H b=none
 bsz:base.objs.size<=s.heap.objs.size
 funs:s.heap.FunFrames base outer
 frf: ∀ b∈frs outer,H b=none
 hok:HOk P w H s.heap
 bare:AllBare s.gens
inductive CE (outer:List Env) (P:Program) (w:World) (H:Hp) (s:Shared) (Q:VK) (u:Value) (s':Shared):Prop
 | mk: ∀ v H',(s'.os=s.os)->(AllBare s'.gens)->(Un (frs outer) [] H H' s.heap s'.heap)->(HOk P w H' s'.heap)->(RelV v u)->(Q v H')->CE outer P w H s Q u s'
def CR (CX:CXT) (outer:List Env) (P:Program) (w:World) (H:Hp) (s:Shared) (Q:VK) (E:XK) (r:Result) (s':Shared):Prop:=
 match r with
 | .ok (.ret u)=>CE outer P w H s Q u s'
 | .ok _=>False
 | .error e=>CX outer H s E e s'
structure aX (P:Program) (w:World) (K:W.Frag) (mg:Str->Option Value) (base:Heap) (CX:CXT) (k:Nat) (f:Addr) (fd:FuncData) (ps:List Str) (sp:Sp):Prop where
 len: ∀ vs H Q E,sp vs H Q E->vs.length=ps.length
 run: ∀ (A:Around) (outer:List Env) (s:Shared) (H:Hp) (args:Args) (us:List Value) (vs:List V) (Q:VK) (E:XK),Room k A->Env0 P w K mg base A outer s H->BindsTo s fd args (ps.zip us)->Vals vs us->sp vs H Q E->
  codeAny (model P w) A (.call (.ref f) args) (CR CX outer P w H s Q E) s
theorem Env0.make {P:Program} {w:World} {K:W.Frag} {mg:Str->Option Value} {base:Heap} {A:Around} {outer:List Env} {s:Shared} {H:Hp} (e:Env0 P w K mg base A outer s H) (C:Addr) (us:List Value) (kw:List (Str×Value)):
  Env0 P w K mg base (A.under (.builtin "type.__call__" ⟨.ref C::us,kw⟩)) outer s H:=⟨by first | exact e.frames | (simpa [Around.under,Code.envs,Code.isFrame,pushEnvs]using e.frames),e.mod,e.bs,e.bsz,e.funs,e.frf,e.hok,e.bare⟩
section
variable {X:Cx} {pins:List (Addr×Obj)} {σ:St} {H:Hp} {s s':Shared}
theorem Inv.env0 (I:Inv X pins σ H s):Env0 X.prog X.w X.K X.mg X.base X.A X.stack s H:=
 ⟨I.ok.frames,I.ok.mod,I.bs,Eh I.ok.bsz I.sz,I.stack,I.stkFree,I.hok,I.bare⟩
theorem Inv.after {Q:VK} {u:Value} (I:Inv X pins σ H s) (h:CE X.stack X.prog X.w H s Q u s'):EP X pins σ Q u s':=by
 obtain ⟨v,H',os,bare,un,hok,r,q⟩:=h;obtain ⟨hh,g,d,t,os'⟩:=s';obtain rfl:os'=s.os:=os;exact ⟨v,H',I.call (h':=hh) (g':=g) (d':=d) (t':=t) (ch:=[]) un hok bare (λb z=>absurd z (by simp)),r,q⟩
end
def lW (sp:Sp) (dvs:List V) (E:XK) (t:TA):TE:=λσ H Q=>t σ H λvs H1=>sp (vs++dvs) H1 Q E
def Binds (K:W.Frag) (fd:FuncData) (ps:List Str) (ds:List Value):Prop:=
 ∀ (s:Shared) (us:List Value),K.In s.heap->(us++ds).length=ps.length->BindsTo s fd ⟨us,[]⟩ (ps.zip (us++ds))
theorem Binds.all {K:W.Frag} {fd:FuncData} {ps:List Str} (h: ∀ us:List Value,us.length=ps.length->bindArgs fd ⟨us,[]⟩=pure (ps.zip us)):Binds K fd ps []:=λs us _ hl=>by
 rw [En]at hl ⊢;exact .of_eq (h us hl)
def lJ (CX:CXT) (X:Cx) (E:XK):Prop:= ∀ (pins:List (Addr×Obj)) (σ:St) (H:Hp) (s:Shared) (e:Value) (s':Shared),Inv X pins σ H s->CX X.stack H s E e s'->X.xe e s'
structure Cl (P:Program) (w:World) (K:W.Frag) (mg:Str->Option Value) (base:Heap) (CX:CXT) (k:Nat) (f:Addr) (fd:FuncData) (ps:List Str) (sp:Sp) (x:Str):Prop where
 F:aX P w K mg base CX k f fd ps sp
 b:Binds K fd ps []
 c:W.keepIn K (.ref f)=true
 m:mg x=some (.ref f)
section
variable {X:Cx} {CX:CXT} {k:Nat} {f C:Addr} {fd:FuncData} {ps:List Str} {sp:Sp} {dvs:List V} {ds:List Value} {E:XK} {x m:Str} {p pos apos:Pos} {e o:Expr} {es:List Expr} {ta:TE} {t:TA}
theorem A4 {pins:List (Addr×Obj)} {σ:St} {H:Hp} {s:Shared} {Q:VK} {us:List Value} {vs:List V} (F:aX X.prog X.w X.K X.mg X.base CX k f fd ps sp) (hr:Room k X.A) (hb:Binds X.K fd ps ds) (hd:Vals dvs ds) (hx:lJ CX X E)
  (I:Inv X pins σ H s) (r:Vals vs us) (h:sp (vs++dvs) H Q E):wpAny (model X.prog X.w) X.A (call (.ref f) us) (EP X pins σ Q) X.xe s:=by
 have r2:Vals (vs++dvs) (us++ds):=r.append hd;have hl:(us++ds).length=ps.length:=by rw [<- r2.length];exact F.len _ _ _ _ h
 refine Fy (Gx (F.run X.A X.stack s H ⟨us,[]⟩ (us++ds) (vs++dvs) Q E hr I.env0 (hb s us I.kIn hl) r2 h) λr s' hq=>?_);cases r with
 | error e=>exact hx pins σ H s e s' I hq
 | ok fl=>
  cases fl with
  | ret u=>exact I.after hq
  | next=>exact False.elim hq
  | brk=>exact False.elim hq
  | cont=>exact False.elim hq
theorem nU (F:aX X.prog X.w X.K X.mg X.base CX k f fd ps sp) (hr:Room k X.A) (hg:Gl X x) (hm:X.mg x=some (.ref f)) (hk:W.keepIn X.K (.ref f)=true) (hb:Binds X.K fd ps ds) (hd:Vals dvs ds) (hx:lJ CX X E)
  (ha:PA X (e::es) t) (hdb:(x==("__debug__":Str))=false:=by decide) (he:starEach (e::es) X.env=(false,eval e X.env)::starEach es X.env:=by rfl) (hpl:(backTo pos (starEach es X.env)).any (·.1)=false:=by rfl):
  PE X (.Call (.Name x p) (e::es) [] pos) (lW sp dvs E t):=by
 intro pins s σ H Q I h;refine Fz (il I hg hm ?_ hdb);refine HY (h₀:=X.base) I.ok.mod.kin hk (thn (ha pos pins s σ H _ I h) λus s1 ⟨vs,H1,I1,r,q⟩=>⟨I1.kIn,?_⟩) he hpl;exact A4 F hr hb hd hx I1 r q
end
structure av (N P:List Str) (sc:Scope):Prop where
 kind:sc.kind=.function
 co:sc.isCoroutine=false
 gen:sc.isGenerator=false
 nd:N.Nodup
 pre:N.take P.length=P
 par: ∀ x∈P,sc.names.lookup x=some .local\/sc.names.lookup x=some .cell
 nofree: ∀ y∈sc.names,y.2≠ .free
theorem mJ {kindOf:Str->Option NameKind} {x:Str}: ∀ {binds:List (Str×Value)} {m:Str->Option Value},(∀ v,(x,v)∉binds)->bindL kindOf binds m x=m x
 | [],_,_=>rfl
 | (n,v)::r,m,h=>by
  unfold bindL;rw [mJ λw hw=>h w (DZ _ hw)];split
  ·have:x≠n:=by rintro rfl;exact h v DW
   simp [this]
  ·rfl
theorem mM {kindOf:Str->Option NameKind} {x:Str}: ∀ {binds:List (Str×Value)} {m:Str->Option Value},(∀ v,(x,v)∉binds)->bindC kindOf binds m x=m x
 | [],_,_=>rfl
 | (n,v)::r,m,h=>by
  unfold bindC;rw [mM λw hw=>h w (DZ _ hw)];split
  ·rfl
  ·have:x≠n:=by rintro rfl;exact h v DW
   simp [this]
theorem mK {kindOf:Str->Option NameKind} {x:Str} {v:Value}: ∀ {P:List Str} {vs:List Value} {i:Nat} {m:Str->Option Value},P.Nodup->P[i]? =some x->vs[i]? =some v->kindOf x=some .local->
  bindL kindOf (P.zip vs) m x=some v
 | [],_,_,_,_,h,_,_=>by simp at h
 | _::_,[],_,_,_,_,h,_=>by simp at h
 | p::P,w::vs,0,m,nd,h1,h2,hk=>by
  simp at h1 h2;subst h1;subst h2;show bindL kindOf ((p,w)::P.zip vs) m p=_;unfold bindL;rw [mJ λv hv=>(FU.mp nd).1 (IE hv).1,Ea hk];simp
 | p::P,w::vs,i+1,m,nd,h1,h2,hk=>by
  show bindL kindOf ((p,w)::P.zip vs) m x=_;unfold bindL;exact mK (i:=i) (FU.mp nd).2 (by simpa using h1) (by simpa using h2) hk
theorem mO {kindOf:Str->Option NameKind} {x:Str} {v:Value}: ∀ {P:List Str} {vs:List Value} {i:Nat} {m:Str->Option Value},P.Nodup->P[i]? =some x->vs[i]? =some v->kindOf x≠some .local->
  bindC kindOf (P.zip vs) m x=some v
 | [],_,_,_,_,h,_,_=>by simp at h
 | _::_,[],_,_,_,_,h,_=>by simp at h
 | p::P,w::vs,0,m,nd,h1,h2,hk=>by
  simp at h1 h2;subst h1;subst h2;show bindC kindOf ((p,w)::P.zip vs) m p=_;unfold bindC;rw [mM λv hv=>(FU.mp nd).1 (IE hv).1,DU hk];simp
 | p::P,w::vs,i+1,m,nd,h1,h2,hk=>by
  show bindC kindOf ((p,w)::P.zip vs) m x=_;unfold bindC;exact mO (i:=i) (FU.mp nd).2 (by simpa using h1) (by simpa using h2) hk
noncomputable def start (N:List Str) (vs:List V):St:=vs.map some++List.replicate (N.length-vs.length) none
noncomputable def dv (CX:CXT) (P:Program) (w:World) (K:W.Frag) (mg:Str->Option Value) (base:Heap) (N:List Str) (qual:Str) (scope:Scope) (f:Addr) (cd:Value) (A:Around) (outer:List Env) (s:Shared) (H:Hp) (E:XK):Cx where
 prog:=P
 w:=w
 K:=K
 mg:=mg
 base:=base
 A:=A.deeper (envOfC qual scope s.heap.objs.size f cd)
 N:=N
 s₀:=s
 H₀:=H
 env:=envOfC qual scope s.heap.objs.size f cd
 outer:=outer
 stack:=envOfC qual scope s.heap.objs.size f cd::outer
 ex:=[]
 calm:=true
 fn:=λ_=>true
 pn:=[]
 xe:=λe s'=>wpAny (model P w) (A.deeper (envOfC qual scope s.heap.objs.size f cd)) (leaving (envOfC qual scope s.heap.objs.size f cd) e) (λ_ s''=>CX outer H s E e s'') (λe' s''=>CX outer H s E e' s'') s'
theorem qm {sc:Scope} {n:Nat} {x:Str} (h:sc.names.lookup x=some .cell): ∃ c,(cellsFrom n sc.names []).lookup x=some c:=by
 have q:=W.cellsFrom_some sc.names n [] (.inl h);exact GY.mp q
theorem vi {CX:CXT} {P:Program} {w:World} {K:W.Frag} {mg:Str->Option Value} {base:Heap} {N ps:List Str} {qual:Str} {scope:Scope} {f:Addr} {cd:Value} {A:Around} {outer:List Env} {s s1:Shared} {H:Hp} {E:XK} {us:List Value} {vs:List V}
  (S:av N ps scope) (hd:A.handled=none) (e0:Env0 P w K mg base A outer s H) (hl:vs.length=ps.length) (r:Vals vs us)
  (x:InCallC s s.heap.objs.size (bindL (envOfC qual scope s.heap.objs.size f cd).kindOf (ps.zip us) λ_=>none) (cellsFrom (s.heap.objs.size+1) scope.names []) (bindC (envOfC qual scope s.heap.objs.size f cd).kindOf (ps.zip us) λ_=>none) s1):
  Inv (dv CX P w K mg base N qual scope f cd A outer s H E) [] (start N vs) H s1:=by
 have hpl:ps.length<=N.length:=by have:=congrArg List.length S.pre;rw [DX]at this;lia
 obtain ⟨h1,tk,rfl,hk⟩:=x.done;have noA: ∀ b:Addr,b∉(dv CX P w K mg base N qual scope f cd A outer s H E).ex:=λb z=>absurd (show b∈([]:List Addr)from z) (by simp);refine ⟨⟨e0.mod,S.kind,rfl,rfl,DI _,λy z c h1 h2=>?_,λy hy=>?_,λy c _ h=>?_,λ_=>hd,Around.frames_deeper e0.frames,.inr ⟨rfl,rfl⟩,λb z=>absurd z (noA b),e0.bs,e0.bsz,λb _ _=>noA b,λb z=>absurd z (noA b),e0.funs,e0.frf⟩,
  rfl,e0.bare,Un.kept hk,⟨_,x.toInCall.ns,λi y v h1 h2 h3=>?_⟩,λy c h=>⟨_,x.cell y c h⟩,e0.hok.fresh (DI _),λy c h=>?_,λp hp=>absurd (show p∈([]:List (Addr×Obj))from hp) (by simp),e0.hok.kept hk,?_⟩
 ·exact name_of_addr x.apart (F8 h1) (F8 h2)
 ·have hy:scope.names.lookup y=some .cell\/scope.names.lookup y=some .free:=hy;rcases hy with hy | hy
  ·exact qm hy
  ·exact absurd rfl (S.nofree _ (F8 hy))
 ·exact EA (x.above y c (F8 h))
 ·have hi:i<vs.length:=by
   unfold start at h2;by_cases hi:i<vs.length
   ·exact hi
   ·rw [Fh (by simpa using hi)]at h2;rw [List.getElem?_replicate]at h2;split at h2 <;> cases h2
  have ha:vs[i]? =some v:=by
   unfold start at h2;rw [FS (by simpa using hi),DP]at h2;cases e:vs[i]? with
   | none=>rw [e]at h2;cases h2
   | some a=>rw [e]at h2;cases h2;rfl
  obtain ⟨u,hu,rv⟩:=r.get ha;have hp:ps[i]? =some y:=by
   rw [<- S.pre,List.getElem?_take_of_lt (by lia)];exact h1
  have ndP:ps.Nodup:=by rw [<- S.pre];exact S.nd.sublist (Hl _ _)
  refine ⟨u,rv,?_⟩;rcases S.par y (DC hp)with k | k
  ·exact .inl ⟨k,mK ndP hp hu k⟩
  ·obtain ⟨c,e⟩:=qm (n:=s.heap.objs.size+1) k;refine .inr ⟨.inl k,c,e,?_⟩;have q:=x.cell y c e;rw [mO ndP hp hu (by show scope.names.lookup y≠_;rw [k];decide)]at q;exact q
 ·exact e0.hok.fresh (EA (x.above y c (F8 h)))
 ·unfold start;show _=N.length;rw [DA,Dx,FP];lia
theorem AD {CX:CXT} {P:Program} {w:World} {K:W.Frag} {mg:Str->Option Value} {base:Heap} {k:Nat} {f:Addr} {name qual:Str} {params:Arguments} {body:List Stmt} {scope:Scope} {dV kV doc pm cdv ct oc:Value} {an od:Option Addr}
  {osl:Array (Option Value)} {N ps:List Str} {sp:Sp} (lk:K.lookup f=some ⟨oc,od,.func (W.fnOf name qual params body scope dV kV doc pm an cdv ct),osl⟩) (hcd:W.codeIn K cdv qual=true) (S:av N ps scope)
  (len: ∀ vs H Q E,sp vs H Q E->vs.length=ps.length)
  (hbody: ∀ (A:Around) (outer:List Env) (s:Shared) (H:Hp) (vs:List V) (Q:VK) (E:XK),Room k (A.deeper (envOfC qual scope s.heap.objs.size f cdv))->sp vs H Q E->
   ∃ t,PSs (dv CX P w K mg base N qual scope f cdv A outer s H E) body t/\t {nx:=λ_ H'=>Q .non H',rt:=Q} (start N vs) H):
  aX P w K mg base CX (k+1) f (W.fnOf name qual params body scope dV kV doc pm an cdv ct) ps sp:=by
 refine ⟨len,λA outer s H args us vs Q E hr e0 hb r hsp=>?_⟩;have hl:=len _ _ _ _ hsp;have KX:K.In s.heap:=e0.mod.kin.keeps λb o e=>(e0.bs b o e).1;have lim:s.heap.NoLimit:=e0.mod.nolimit.keeps λb o e=>(e0.bs b o e).1;have hkind: ∀ y∈ps.zip us,scope.names.lookup y.1=some .local\/(scope.names.lookup y.1=some .cell/\((cellsFrom (s.heap.objs.size+1) scope.names []).lookup y.1).isSome=true):=λ⟨n,v⟩ hy=>by
  rcases S.par n (IE hy).1 with q | q
  ·exact .inl q
  ·exact .inr ⟨q,W.cellsFrom_some _ _ _ (.inl q)⟩
 refine codeAny_call_function hr.depth (KX _ _ lk) rfl S.co S.gen rfl (W.codeRec_of KX hcd) (hb _ _ _ _ ?_);refine wpAny_newFunctionEnv_cells S.kind hkind λenv he s1 x=>?_;subst he;refine ⟨lim.keeps x.toInCall.keep,codeAny_func ?_⟩;obtain ⟨t,ht,hq⟩:=hbody A outer s H vs Q E (hr.deeper _) hsp;have I:Inv (dv CX P w K mg base N qual scope f cdv A outer s H E) [] (start N vs) H s1:=vi S hr.hd e0 hl r x;refine E2 (ht [] s1 (start N vs) H _ I hq) (λfl s' hs=>?_) λe s' hs=>hs;have fin: ∀ {σ':St} {H':Hp} {v:V} {u:Value},Inv (dv CX P w K mg base N qual scope f cdv A outer s H E) [] σ' H' s'->RelV v u->Q v H'->CE outer P w H s Q u s':=
  λ{σ' H' v u} J rv q=>⟨v,H',J.os,J.bare,J.base,J.hok,rv,q⟩
 cases fl with
 | ret u=>
  obtain ⟨v,σ',H',J,rv,q⟩:=hs;exact fin J rv q
 | next=>
  obtain ⟨σ',H',J,q⟩:=hs;exact fin (v:=V.non) (u:=Value.none) J rfl q
 | brk=>
  obtain ⟨_,_,_,q⟩:=hs;exact False.elim q
 | cont=>
  obtain ⟨_,_,_,q⟩:=hs;exact False.elim q
section
variable {X:Cx} {x:Str} {p pos:Pos} {e:Expr} {es:List Expr} {t:TA} {id T:String} {r:List V->Hp->VK->Prop}
def tCB (r:List V->Hp->VK->Prop) (t:TA):TE:=λσ H Q=>t σ H λvs H1=>r vs H1 Q
theorem ao (hc:dU X (.builtin id) r) (hg:Gl X x) (hm:X.mg x=none) (hv:bootBuiltins x=some (.builtin id)) (ha:PA X (e::es) t) (hn:x≠"__name__":=by decide) (hdb:(x==("__debug__":Str))=false:=by decide)
  (he:starEach (e::es) X.env=(false,eval e X.env)::starEach es X.env:=by rfl) (hpl:(backTo pos (starEach es X.env)).any (·.1)=false:=by rfl):PE X (.Call (.Name x p) (e::es) [] pos) (tCB r t):=by
 intro pins s σ H Q I h;refine Fz (gR I hg hm hv ?_ hn hdb);exact Ga (thn (ha pos pins s σ H _ I h) λus s1 ⟨vs,H1,I1,r1,q1⟩=>hc pins s1 σ H1 vs us Q I1 r1 q1) he hpl
theorem bz (hc:dU X (.type T) r) (hg:Gl X x) (hm:X.mg x=none) (hv:bootBuiltins x=some (.type T)) (ha:PA X (e::es) t) (hn:x≠"__name__":=by decide) (hdb:(x==("__debug__":Str))=false:=by decide)
  (he:starEach (e::es) X.env=(false,eval e X.env)::starEach es X.env:=by rfl) (hpl:(backTo pos (starEach es X.env)).any (·.1)=false:=by rfl):PE X (.Call (.Name x p) (e::es) [] pos) (tCB r t):=by
 intro pins s σ H Q I h;refine Fz (gR I hg hm hv ?_ hn hdb);exact Fe (thn (ha pos pins s σ H _ I h) λus s1 ⟨vs,H1,I1,r1,q1⟩=>hc pins s1 σ H1 vs us Q I1 r1 q1) he hpl
end
end L2
namespace HT
open PySem PyProof.Rows
section
variable {prog:Program} {w:World} {A:Around} {E:Value->Shared->Prop} {s:Shared}
theorem cat_tup {t b:Addr} {vs ws:List Value} {Q:Value->Shared->Prop} (ht:IsTup s.heap t vs.toArray) (hb:IsTup s.heap b ws.toArray) (hv:vs≠[])
  (h1:ws=[]->Q (.ref t) s) (h2:ws≠[]->Q (.ref s.heap.objs.size) {s with heap:=s.heap.push {cls:=.type "tuple",data:=.seq (vs++ws).toArray}})
  (hsz:vs.length+ws.length<=sizeLine):wpAny (model prog w) A (binaryOp .Add (.ref t) (.ref b)) Q E s:=by
 obtain ⟨⟨cls,dd,data,sl⟩,ho,hc,n,hd⟩:=id ht;obtain ⟨⟨cls2,dd2,data2,sl2⟩,ho2,hc2,n2,hd2⟩:=id hb;simp only at hc hd hc2 hd2;subst hc hd hc2 hd2;have e:vs.toArray++ws.toArray=(vs++ws).toArray:=by simp
 by_cases hw:ws=[]
 ·exact concat_meets ⟨_,ho,rfl⟩ ⟨_,ho2,rfl⟩ Iw seq_tuple_add Hm G9 (GZ _ _)
   (tuple_addW1 t b vs.toArray ws.toArray n n2 dd dd2 sl sl2 (by simpa using hv) (by simp [hw])) ⟨ho,ho2,h1 hw⟩
 ·refine concat_meets ⟨_,ho,rfl⟩ ⟨_,ho2,rfl⟩ Iw seq_tuple_add Hm G9 (GZ _ _)
   (tuple_addW2 t b vs.toArray ws.toArray n n2 dd dd2 sl sl2 (by simpa using hv) (by simpa using hw) (by rw [DL,DL];exact hsz)) ⟨ho,ho2,?_⟩
  rw [e];exact h2 hw
noncomputable def sIx (n d:Nat):Option Int->Nat
 | none=>d
 | some v=>if v<0 then (v+ (n:Int)).toNat else min v.toNat n
theorem sIx_none (n d:Nat):sIx n d none=d:=rfl
theorem sIx_nat (n d k:Nat):sIx n d (some (k:Int))=min k n:=by
 show (if (k:Int) <0 then ((k:Int) + (n:Int)).toNat else min (k:Int).toNat n)=min k n;rw [DU (by lia),ET]
theorem A3 (n d:Nat) (hd:d<=n) (o:Option Int):sIx n d o<=n:=by
 cases o with
 | none=>exact hd
 | some v=>
  show (if v<0 then (v+ (n:Int)).toNat else min v.toNat n)<=n;by_cases hv:v<0
  ·rw [Ea hv];lia
  ·rw [DU hv];exact Nat.min_le_right _ _
theorem tS (v:Int) (n d:Nat):(if v<0 then max (v+ (n:Int)) 0 else min v (n:Int))=((sIx n d (some v):Nat):Int):=by
 show (if v<0 then max (v+ (n:Int)) 0 else min v (n:Int))=(((if v<0 then (v+ (n:Int)).toNat else min v.toNat n):Nat):Int);by_cases hv:v<0
 ·simp only [Ea hv];lia
 ·simp only [DU hv];lia
theorem sA (lo hi:Option Int) (n:Nat):Builtin.Slice.sliceAdjust lo hi 1 (n:Int)=(((sIx n 0 lo:Nat):Int),((sIx n n hi:Nat):Int)):=by
 have h1: ¬ ((1:Int) <0):=by lia
 unfold Builtin.Slice.sliceAdjust;simp only [h1,EN];refine Gs ?_ ?_
 ·cases lo with
  | none=>rfl
  | some v=>exact tS v n 0
 ·cases hi with
  | none=>rfl
  | some v=>exact tS v n n
theorem rj (i j:Nat):Builtin.Slice.slicePlaces (i:Int) (j:Int) 1=j-i:=by
 unfold Builtin.Slice.slicePlaces;have h1:(1:Int) >0:=by lia
 simp only [h1,Gw,IC];split <;> lia
theorem eG {v:Value} {o:Option Int} {Q:Option Int->Shared->Prop} (p:IsPart v o) (h:Q o s):wpAny (model prog w) A (Builtin.Slice.slicePartIndex v) Q E s:=by
 cases p with
 | none=>exact slicePart_none h
 | int i t=>exact slicePart_int h
theorem fk {sl:Addr} {vl vu:Value} {lo hi:Option Int} {n:Nat} {Q:Int×Int×Nat->Shared->Prop} (hs:s.heap.IsSliceOf sl vl vu .none) (pl:IsPart vl lo) (pu:IsPart vu hi)
  (h:Q (((sIx n 0 lo:Nat):Int),1,sIx n n hi-sIx n 0 lo) s):wpAny (model prog w) A (Builtin.Slice.sliceApplied (.ref sl) (pure (n:Int))) Q E s:=by
 obtain ⟨os,hos,hcs,hds⟩:=id hs;unfold Builtin.Slice.sliceApplied Builtin.Slice.sliceFields;refine Dw (Dw (E1 hos hds (x:=vl) rfl (Dw (E1 hos hds (x:=vu) rfl (Dw (E1 hos hds (x:=.none) rfl (Dy ?_)))))));refine Dw (slicePart_none ?_);show wpAny _ _ (if ((1:Int)==0)=true then _ else _) _ _ s;rw [DU (by decide)];refine Dw (eG pl (Dw (eG pu (Dw (Dy ?_)))));show wpAny _ _ (match Builtin.Slice.sliceAdjust lo hi 1 (n:Int)with | (lo,hi)=>pure (lo,(1:Int),Builtin.Slice.slicePlaces lo hi 1)) _ _ s;rw [sA lo hi n];show wpAny _ _ (pure (((sIx n 0 lo:Nat):Int),(1:Int),Builtin.Slice.slicePlaces ((sIx n 0 lo:Nat):Int) ((sIx n n hi:Nat):Int) 1)) _ _ s;rw [rj];exact Dy h
theorem wV (xs:Array Value) (i k:Nat):((List.range k).filterMap λ(m:Nat)=>xs[((i:Int) + (m:Int) *1).toNat]?).toArray=((xs.toList.drop i).take k).toArray:=by
 have e:(λ(m:Nat)=>xs[((i:Int) + (m:Int) *1).toNat]?)=λm=>xs[i+m]? :=by
  funext m;have:((i:Int) + (m:Int) *1).toNat=i+m:=by lia
  rw [this]
 rw [e];have:=pick_run xs i k;rw [G7]at this;have e2:((λx=>xs[x]?)∘λx=>i+x)=λm=>xs[i+m]? :=rfl;rw [e2]at this;rw [this]
theorem getItem_tuple_cut {t sl:Addr} {items:Array Value} {vl vu:Value} {lo hi:Option Int} {Q:Value->Shared->Prop} (ht:IsTup s.heap t items) (hs:s.heap.IsSliceOf sl vl vu .none) (pl:IsPart vl lo) (pu:IsPart vu hi)
  (hw: ¬ (sIx items.size 0 lo=0/\sIx items.size items.size hi=items.size))
  (h:Q (.ref s.heap.objs.size) {s with heap:=s.heap.push {cls:=.type "tuple",data:=.seq ((items.toList.drop (sIx items.size 0 lo)).take (sIx items.size items.size hi-sIx items.size 0 lo)).toArray}})
  (hsz:items.size<=sizeLine):wpAny (model prog w) A (getItem (.ref t) (.ref sl)) Q E s:=by
 have htake:sizeOk (.seq ((items.toList.drop (sIx items.size 0 lo)).take (sIx items.size items.size hi-sIx items.size 0 lo)).toArray):=by
  show ((items.toList.drop (sIx items.size 0 lo)).take (sIx items.size items.size hi-sIx items.size 0 lo)).toArray.size<=sizeLine;rw [DL,DX,FA,EJ];lia
 have hj:sIx items.size items.size hi<=items.size:=A3 _ _ (DI _) hi;obtain ⟨os,hos,hcs,hds⟩:=id hs;have hTs:s.TypeIs (.ref sl) "slice":=⟨os,hos,hcs⟩;unfold getItem;try with_reducible refine Ey ?_
 first | refine Dw (Dy ?_) | skip
 refine Dw (Ig ht.typeIs (by decide) ?_);refine Dw (EC (name:=Str.ofString "__getitem__") ht.typeIs EO
  (EH EO ht.typeIs HI ?_ (args_tuple_getitem _ _)))
 show wpAny _ _ (Builtin.Tuple.tupleItemsOf (.ref t) >>= _) _ _ s;refine Dw (tupleItemsOf_ ht ?_);refine Dw (FY hTs ?_);rw [Ea (by decide)];refine Dw (fk hs pl pu ?_);have hno: ¬ ((((sIx items.size 0 lo:Nat):Int)==0&&(1:Int)==1&&(sIx items.size items.size hi-sIx items.size 0 lo)==items.size)=true):=by
  intro q;rw [Ek,Ek]at q;have q1:((sIx items.size 0 lo:Nat):Int)=0:=eq_of_beq q.1.1;have q2:sIx items.size items.size hi-sIx items.size 0 lo=items.size:=eq_of_beq q.2;exact hw ⟨by lia,by lia⟩
 show wpAny _ _ (if (((sIx items.size 0 lo:Nat):Int)==0&&(1:Int)==1&&(sIx items.size items.size hi-sIx items.size 0 lo)==items.size)=true then _ else _) _ _ s;rw [DU hno,wV];first
  | exact Dw (m:=Builtin.Tuple.tupleExact _) (Em (Dy ⟨_,rfl,Dy h⟩) htake)
  | exact Dw (m:=Builtin.Tuple.tupleExact _) (Em (Dw (Dy (Dy ⟨_,rfl,Dy h⟩))) htake)
  | exact Dw (Dw (m:=Builtin.Tuple.tupleExact _) (Em (Dy (Dy ⟨_,rfl,Dy h⟩)) htake))
  | exact Dw (Dw (m:=Builtin.Tuple.tupleExact _) (Em (Dy ⟨_,rfl,Dy h⟩) htake))
end
end HT
namespace L2
open PySem PySem.Spec PyProof.Rows
abbrev TO:=St->Hp->(Option Int->Hp->Prop)->Prop
def PO (X:Cx) (e:Option Expr) (t:TO):Prop:=
 ∀ (pins:List (Addr×Obj)) (s:Shared) (σ:St) (H:Hp) (Q:Option Int->Hp->Prop),Inv X pins σ H s->t σ H Q->
  wpAny (model X.prog X.w) X.A (evalPart e X.env) (λu s'=> ∃ o H',Inv X pins σ H' s'/\IsPart u o/\Q o H') X.xe s
noncomputable def yR:TO:=λ_ H Q=>Q none H
inductive Aw  (x:V) (H1:Hp) (Q:(Option Int->Hp->Prop)):Prop
 | mk: ∀ i,(x=.int i)->(Q (some i) H1)->Aw x H1 Q
noncomputable def BU (t:TE):TO:=λσ H Q=>t σ H λx H1=>Aw x H1 Q
section
variable {X:Cx} {e:Expr} {te:TE} {lo hi:Option Expr} {tl th:TO} {pos p2:Pos}
theorem cg:PO X none yR:=by
 intro pins s σ H Q I h;rw [Ir];exact Dy ⟨none,H,I,.none,h⟩
theorem bI (h:PE X e te):PO X (some e) (BU te):=by
 intro pins s σ H Q I hw;rw [evalPart_some];refine thn (h pins s σ H _ I hw) λu s1 ⟨x,H1,I1,r1,q1⟩=>?_;obtain ⟨i,rfl,q⟩:=q1;obtain ⟨t,rfl⟩:=r1;exact ⟨some i,H1,I1,.int i t,q⟩
def SlR (X:Cx) (r:V->Option Int->Option Int->Hp->VK->Prop):Prop:=
 ∀ (pins:List (Addr×Obj)) (s:Shared) (σ:St) (H:Hp) (x:V) (v vl vu:Value) (lo hi:Option Int) (sl:Addr) (Q:VK),Inv X pins σ H s->RelV x v->s.heap.IsSliceOf sl vl vu .none->IsPart vl lo->IsPart vu hi->r x lo hi H Q->
  ∃ T id,typeLookup (.type T) "__getitem__"=pure (some (.builtin id))/\s.TypeIs v T/\wpAny (model X.prog X.w) X.A (getItem v (.ref sl)) (EP X pins σ Q) X.xe s
def tSl (r:V->Option Int->Option Int->Hp->VK->Prop) (te:TE) (tl th:TO):TE:=λσ H Q=>te σ H λx H1=>tl σ H1 λl H2=>th σ H2 λu H3=>r x l u H3 Q
theorem bw {r:V->Option Int->Option Int->Hp->VK->Prop} (hr:SlR X r) (he:PE X e te) (hl:PO X lo tl) (hu:PO X hi th):PE X (.Subscript e (.Slice lo hi none p2) pos) (tSl r te tl th):=by
 intro pins s σ H Q I h;refine Subscript_ (thn (he pins s σ H _ I h) λv s1 ⟨x,H1,I1,r1,q1⟩=>?_);refine wpAny_Slice (thn (hl pins s1 σ H1 _ I1 q1) λvl s2 ⟨l,H2,I2,pl,q2⟩=>thn (hu pins s2 σ H2 _ I2 q2) λvu s3 ⟨u,H3,I3,pu,q3⟩=>?_);rw [Ir];refine Dy ?_;have I4:Inv X pins σ H3 {s3 with heap:=s3.heap.push {cls:=.type "slice",data:=.fields #[vl,vu,.none]}}:=I3.kept (t':=s3.toks) λb ob q=>Dz _ q;obtain ⟨T,id,hT,ht,hg⟩:=hr pins {s3 with heap:=s3.heap.push {cls:=.type "slice",data:=.fields #[vl,vu,.none]}} σ H3 x v vl vu l u s3.heap.objs.size Q I4 r1 (HZ ..) pl pu q3;show wpAny (model X.prog X.w) X.A (subscriptTail e (.Slice lo hi none p2) v (.ref s3.heap.objs.size)) (EP X pins σ Q) X.xe {s3 with heap:=s3.heap.push {cls:=.type "slice",data:=.fields #[vl,vu,.none]}};exact tail_any (ops:=[.ref s3.heap.objs.size,v]) ht hT hg (by with_unfolding_all rfl)
noncomputable def eQ (xs:List V) (lo hi:Option Int):List V:=(xs.drop (HT.sIx xs.length 0 lo)).take (HT.sIx xs.length xs.length hi-HT.sIx xs.length 0 lo)
theorem jY (xs:List V) (lo hi:Option Int):(eQ xs lo hi).length<=xs.length:=by
 unfold eQ;rw [DX,FA];lia
inductive A7 (K:W.Frag) (x:V) (lo:Option Int) (hi:Option Int) (H:Hp) (Q:VK):Prop
 | mk: ∀ a xs,(x=.ref a)->(SqT K H a xs)->(¬ (HT.sIx xs.length 0 lo=0/\HT.sIx xs.length xs.length hi=xs.length))->(∀ p,H p=none->Q (.ref p) (upd H p (.tup (eQ xs lo hi))))->A7 K x lo hi H Q
theorem qL:SlR X (A7 X.K):=by
 intro pins s σ H x v vl vu lo hi sl Q I rx hs pl pu h;obtain ⟨a,xs,rfl,hx,hw,q⟩:=h;cases rx;obtain ⟨its,r,ht,hz⟩:=I.tuple hx;have hlen:its.toArray.size=xs.length:=by rw [DL];exact r.length.symm
 refine ⟨"tuple",_,PyProof.Rows.slot_tuple_getitem.lookup,ht.typeIs,?_⟩;refine HT.getItem_tuple_cut ht hs pl pu (by rw [hlen];exact hw) ?_ (by rw [hlen];exact hz);rw [hlen];refine ⟨.ref s.heap.objs.size,_,I.laid (t':=s.toks) (o:=.tup (eQ xs lo hi)) (λb ob q=>Dz _ q) (DI _) ?_,rfl,q _ (I.hok.fresh (DI _))⟩;exact ⟨Eh (jY xs lo hi) hz,_,(r.drop (HT.sIx xs.length 0 lo)).take (HT.sIx xs.length xs.length hi-HT.sIx xs.length 0 lo),IsTup.new _ _⟩
inductive Ax (K:W.Frag) (x:V) (y:V) (H:Hp) (Q:VK):Prop
 | mk: ∀ a b xs ys,(x=.ref a)->(y=.ref b)->(SqT K H a xs)->(SqT K H b ys)->(xs≠[])->(xs.length+ys.length<=sizeLine)->((ys=[]->Q (.ref a) H))->((ys≠[]-> ∀ p,H p=none->Q (.ref p) (upd H p (.tup (xs++ys)))))->Ax K x y H Q
theorem Vals.nil_iff {xs:List V} {us:List Value} (r:Vals xs us):us=[]↔xs=[]:=by
 cases r with
 | nil=>simp
 | cons _ _=>simp
theorem zx:OpR X (binaryOp .Add) (Ax X.K):=by
 intro pins s σ H x y v u Q I rx ry h;obtain ⟨a,b,xs,ys,rfl,rfl,ha,hb,hx,hz,q1,q2⟩:=h;cases rx;cases ry;obtain ⟨its,r1,p1,_⟩:=I.tuple ha;obtain ⟨its2,r2,p2,_⟩:=I.tuple hb;refine HT.cat_tup p1 p2 (λz=>hx (r1.nil_iff.mp z)) (λz=>⟨.ref a,H,I,rfl,q1 (r2.nil_iff.mp z)⟩) (λz=>?_) (by rw [<- r1.length,<- r2.length];exact hz);refine ⟨.ref s.heap.objs.size,_,I.laid (t':=s.toks) (o:=.tup (xs++ys)) (λb ob q=>Dz _ q) (DI _) ?_,rfl,q2 (λw=>z (r2.nil_iff.mpr w)) _ (I.hok.fresh (DI _))⟩;exact ⟨by rw [DA];exact hz,_,r1.append r2,IsTup.new _ _⟩
end
noncomputable def ixN (n:Nat) (i:Int):Option Nat:=if 0<=i then (if i<n then some i.toNat else none)else if -(n:Int)<=i then some (i+n).toNat else none
noncomputable def atI {α:Type} (xs:List α) (i:Int):Option α:=(ixN xs.length i).bind λj=>xs[j]?
theorem tw {n:Nat} {i:Int} {j:Nat} (h:ixN n i=some j):seqIndex? i n=some j/\j<n/\ -(n:Int)<=i/\i<n:=by
 unfold ixN at h;by_cases h0:0<=i
 ·rw [Ea h0]at h;by_cases h1:i<n
  ·rw [Ea h1]at h;have e:i.toNat=j:=Ej h;exact ⟨by rw [seqIndex_of h0 h1,e],by lia,by lia,h1⟩
  ·rw [DU h1]at h;cases h
 ·rw [DU h0]at h;by_cases h1: -(n:Int)<=i
  ·rw [Ea h1]at h;have e:(i+n).toNat=j:=Ej h;exact ⟨by rw [seqIndex_neg (by lia) h1,e],by lia,h1,by lia⟩
  ·rw [DU h1]at h;cases h
theorem oG {α:Type} {xs:List α} {i:Int} {v:α} (h:atI xs i=some v): ∃ j,seqIndex? i xs.length=some j/\xs[j]? =some v/\j<xs.length/\ -(xs.length:Int)<=i/\i<xs.length:=by
 unfold atI at h;cases e:ixN xs.length i with
 | none=>rw [e]at h;cases h
 | some j=>
  rw [e]at h;obtain ⟨h1,h2,h3,h4⟩:=tw e;exact ⟨j,h1,h,h2,h3,h4⟩
theorem aM {α:Type} {xs:List α} {j:Nat} {v:α} (h:xs[j]? =some v):atI xs (j:Int)=some v:=by
 have hj:j<xs.length:=(DH.mp h).1;have e:ixN xs.length (j:Int)=some j:=by
  unfold ixN;rw [Ea (by lia),Ea (by lia)];simp
 unfold atI;rw [e];exact h
def tW (b:Expr):Prop:= ∀ o i,subscripted b false o i=operate [o,i] (getItem o i)
def IxR (X:Cx) (r:R2):Prop:=
 ∀ (value slice:Expr) (pins:List (Addr×Obj)) (s:Shared) (σ:St) (H:Hp) (x y:V) (v u:Value) (Q:VK),Inv X pins σ H s->RelV x v->RelV y u->r x y H Q->
  subscripted slice false v u=operate [v,u] (getItem v u)->wpAny (model X.prog X.w) X.A (subscriptTail value slice v u) (EP X pins σ Q) X.xe s
def MtR (X:Cx) (id:String) (r:V->List V->Hp->VK->Prop):Prop:=
 ∀ (pins:List (Addr×Obj)) (s:Shared) (σ:St) (H:Hp) (x:V) (xs:List V) (v:Value) (us:List Value) (Q:VK),Inv X pins σ H s->RelV x v->Vals xs us->r x xs H Q->
  wpAny (model X.prog X.w) X.A (call (.builtin id) (v::us)) (EP X pins σ Q) X.xe s
section
variable {X:Cx} {a b:Expr} {ta tb:TE} {pos:Pos}
theorem ax {r:R2} (hr:IxR X r) (ha:PE X a ta) (hb:PE X b tb) (hs:tW b):PE X (.Subscript a b pos) (tOp r ta tb):=by
 intro pins s σ H Q I h;exact Subscript_ (BF ha hb I h λv u s2 x y H2 I2 rx ry q=>hr a b pins s2 σ H2 x y v u Q I2 rx ry q (hs _ _))
inductive bO (K:W.Frag) (x:V) (y:V) (H:Hp) (Q:VK):Prop
 | mk: ∀ p xs i v,(x=.ref p)->(y=.int i)->(SqL K H p xs)->(atI xs i=some v)->(Q v H)->bO K x y H Q
inductive bc (K:W.Frag) (x:V) (y:V) (H:Hp) (Q:VK):Prop
 | mk: ∀ p xs i v,(x=.ref p)->(y=.int i)->(SqT K H p xs)->(atI xs i=some v)->(Q v H)->bc K x y H Q
inductive B9  (x:V) (y:V) (H:Hp) (Q:VK):Prop
 | mk: ∀ z i c,(x=.str z)->(y=.int i)->(z.length<=sizeLine)->(atI z.cps.toList i=some c)->(Q (.str ⟨#[c]⟩) H)->B9 x y H Q
theorem aL:IxR X (bO X.K):=by
 intro value slice pins s σ H x y v u Q I rx ry h hs;obtain ⟨p,xs,i,z,rfl,rfl,hq,he,q⟩:=h;cases rx;obtain ⟨t,rfl⟩:=ry;obtain ⟨its,r,pl,hz⟩:=I.list hq;obtain ⟨j,h1,h2,h3,h4,h5⟩:=oG he;obtain ⟨w,ew,rw'⟩:=r.get h2;have hl:=r.length;have hn:=iG;have fin:EP X pins σ Q w s:=⟨z,H,I,rw',q⟩;by_cases h0:0<=i
 ·have hj:i.toNat=j:=by
   rw [seqIndex_of h0 h5]at h1;exact Ej h1
  exact item_listR pl.isList h0 (by lia) (by rw [hj];simpa using ew) fin hs
 ·have hj:(i+ (its.toArray.size:Int)).toNat=j:=by
   rw [seqIndex_neg (by lia) h4]at h1;rw [DL,<- hl];exact Ej h1
  exact subscriptTail_builtinR (x:=w) pl.isList.typeIs slot_list_getitem.lookup
   (wpAny_getItem_list_neg (Q:=λr s'=>r=w/\EP X pins σ Q r s') pl.isList (by lia) (by rw [DL] <;> lia) (by lia) (by rw [hj];simpa using ew) ⟨rfl,fin⟩) hs
theorem aH:IxR X (bc X.K):=by
 intro value slice pins s σ H x y v u Q I rx ry h hs;obtain ⟨p,xs,i,z,rfl,rfl,hq,he,q⟩:=h;cases rx;obtain ⟨t,rfl⟩:=ry;obtain ⟨its,r,pl,hz⟩:=I.tuple hq;obtain ⟨j,h1,h2,h3,h4,h5⟩:=oG he;obtain ⟨w,ew,rw'⟩:=r.get h2;have hl:=r.length;have hn:=iG;have fin:EP X pins σ Q w s:=⟨z,H,I,rw',q⟩;exact subscriptTail_builtinR (x:=w) pl.typeIs slot_tuple_getitem.lookup
  (getItem_tuple (j:=j) (Q:=λr s'=>r=w/\EP X pins σ Q r s') pl (by lia) (by lia) (by rw [DL,<- hl];exact h1) (by simpa using ew) ⟨rfl,fin⟩) hs
theorem rQ:IxR X B9:=by
 intro value slice pins s σ H x y v u Q I rx ry h hs;obtain ⟨z,i,c,rfl,rfl,hz,he,q⟩:=h;obtain ⟨t,rfl⟩:=rx;obtain ⟨t',rfl⟩:=ry;obtain ⟨j,h1,h2,h3,h4,h5⟩:=oG he;have hl:z.cps.toList.length=z.length:=by simp [Str.length]
 rw [hl]at h1 h4 h5;have hn:=iG;exact tail_any (typeIs_str s z t) slot_str_getitem.lookup (getItem_str (c:=c) (by
  have e1:decide (i< -(2^63:Int))=false:=DG (by lia);have e2:decide (i≥2^63)=false:=DG (by lia);rw [e1,e2,Bool.or_false]) (by rw [h1];simpa using h2) ⟨.str ⟨#[c]⟩,H,I.tok _,⟨_,rfl⟩,q⟩) hs
theorem rN (its:List Value) (n j:Nat) (u:Value):Obj.mapSeq (·.setIfInBounds j u) {cls:=.type "list",data:=.seq its.toArray n}={cls:=.type "list",data:=.seq (its.set j u).toArray n}:=by
 simp [Obj.mapSeq]
theorem Inv.lst {pins:List (Addr×Obj)} {σ:St} {H:Hp} {s:Shared} {p:Addr} {xs:List V} (I:Inv X pins σ H s) (h:H p=some (.lst xs)):
  ∃ (its:List Value) (n:Nat),Vals xs its/\s.heap.get? p=some {cls:=.type "list",data:=.seq its.toArray n}/\xs.length<=sizeLine:=by
 obtain ⟨z,its,n,r,e⟩:=I.hok p _ h;exact ⟨its,n,r,e,z⟩
theorem Inv.lstUpd {pins:List (Addr×Obj)} {σ:St} {H:Hp} {s:Shared} {p:Addr} {xs ys:List V} {its its':List Value} {n n':Nat} {f:Obj->Obj} (I:Inv X pins σ H s) (h:H p=some (.lst xs))
  (ho:s.heap.get? p=some {cls:=.type "list",data:=.seq its.toArray n}) (hf:f {cls:=.type "list",data:=.seq its.toArray n}={cls:=.type "list",data:=.seq its'.toArray n'}) (r:Vals ys its') (hz:ys.length<=sizeLine) (t:Nat):
  Inv X pins σ (upd H p (.lst ys)) {s with heap:=s.heap.update p f,toks:=t}:=by
 have e:(s.heap.update p f).get? p=some {cls:=.type "list",data:=.seq its'.toArray n'}:=by
  rw [E3 f ho (by rw [hf] <;> rfl),hf]
 refine I.write (x:=p) (e:=p) (by rw [h];trivial) (.inl rfl) (λb u hb q=>(E7 _ _ (EI hb)).trans q) ⟨_,e⟩ ?_;exact ⟨hz,its',n',r,e⟩
inductive Av  (o:V) (i:V) (v:V) (H:Hp) (Q:(Hp->Prop)):Prop
 | mk: ∀ p xs k j,(o=.ref p)->(i=.int k)->(H p=some (.lst xs))->(ixN xs.length k=some j)->(Q (upd H p (.lst (xs.set j v))))->Av o i v H Q
theorem pf:CQ X Av:=by
 intro pins s σ H o i v ov iv u Q I ro ri rv h;obtain ⟨p,xs,k,j,rfl,rfl,hp,hj,q⟩:=h;cases ro;obtain ⟨t,rfl⟩:=ri;obtain ⟨its,n,r,ho,hz⟩:=I.lst hp;obtain ⟨h1,h2,h3,h4⟩:=tw hj;have hl:=r.length;have hn:=iG;have I':Inv X pins σ (upd H p (.lst (xs.set j v))) {s with heap:=s.heap.update p (Obj.mapSeq (·.setIfInBounds j u))}:=
  I.lstUpd hp ho (rN its n j u) (r.set rv j) (by rw [Fq];exact hz) s.toks
 by_cases h0:0<=k
 ·have hk:k.toNat=j:=by
   rw [seqIndex_of h0 h4]at h1;exact Ej h1
  exact W.ki_setAt ho h0 (by lia) (by rw [DL,<- hl];exact h4) (by rw [hk];exact ⟨_,I',q⟩)
 ·have hk:(k+ (its.toArray.size:Int)).toNat=j:=by
   rw [seqIndex_neg (by lia) h3]at h1;rw [DL,<- hl];exact Ej h1
  exact W.ki_setBack ho (by lia) (by rw [DL,<- hl];exact h3) (by lia) (by rw [hk];exact ⟨_,I',q⟩)
theorem nu (lo hi:Option Int) (n:Nat):(sliceBounds lo hi none n).1=((HT.sIx n 0 lo:Nat):Int)/\(sliceBounds lo hi none n).2.1=((HT.sIx n n hi:Nat):Int)/\(sliceBounds lo hi none n).2.2=1:=by
 refine ⟨?_,?_,rfl⟩
 ·cases lo with
  | none=>simp [sliceBounds,HT.sIx]
  | some i=>
   simp only [sliceBounds,HT.sIx,Option.getD_none,show (1:Int) >0 by decide,Gw];by_cases h:i<0
   ·simp only [h,Gw] <;> lia
   ·simp only [h,EN] <;> lia
 ·cases hi with
  | none=>simp [sliceBounds,HT.sIx]
  | some i=>
   simp only [sliceBounds,HT.sIx,Option.getD_none,show (1:Int) >0 by decide,Gw];by_cases h:i<0
   ·simp only [h,Gw] <;> lia
   ·simp only [h,EN] <;> lia
theorem lK (its:List Value) (lo hi:Option Int):slicePick its.toArray lo hi none=((its.drop (HT.sIx its.length 0 lo)).take (HT.sIx its.length its.length hi-HT.sIx its.length 0 lo)).toArray:=by
 obtain ⟨h1,h2,h3⟩:=nu lo hi its.toArray.size;unfold slicePick;rw [h1,h2,h3];simp only [sliceRange_one,pick_run,DL] <;> rfl
inductive A8 (K:W.Frag) (x:V) (lo:Option Int) (hi:Option Int) (H:Hp) (Q:VK):Prop
 | mk: ∀ a xs,(x=.ref a)->(SqL K H a xs)->(∀ p,H p=none->Q (.ref p) (upd H p (.lst (eQ xs lo hi))))->A8 K x lo hi H Q
theorem dC:SlR X (A8 X.K):=by
 intro pins s σ H x v vl vu lo hi sl Q I rx hs pl pu h;obtain ⟨a,xs,rfl,hx,q⟩:=h;cases rx;obtain ⟨its,r,ht,hz⟩:=I.list hx;have hlen:=r.length;refine ⟨"list",_,slot_list_getitem.lookup,ht.isList.typeIs,?_⟩;refine wpAny_getItem_list_slice ht.isList hs pl pu .none (by simp) ?_ (by rw [DL] <;> lia);rw [lK,<- hlen];refine ⟨.ref s.heap.objs.size,_,I.laid (t':=s.toks) (o:=.lst (eQ xs lo hi)) (λb ob q=>Dz _ q) (DI _) ?_,rfl,q _ (I.hok.fresh (DI _))⟩;exact ⟨Eh (jY xs lo hi) hz,_,0,(r.drop (HT.sIx xs.length 0 lo)).take (HT.sIx xs.length xs.length hi-HT.sIx xs.length 0 lo),DS _ rfl⟩
noncomputable def jm:V->Bool
 | .non=>true
 | .bl _=>true
 | .int _=>true
 | .str _=>true
 | _=>false
noncomputable def eqV:V->V->Bool
 | .non,.non=>true
 | .bl a,.bl b=>a==b
 | .bl a,.int b=>(if a then 1 else 0)==b
 | .int a,.bl b=>a==(if b then 1 else 0)
 | .int a,.int b=>a==b
 | .str a,.str b=>a==b
 | _,_=>false
theorem BC {A:Around} {s:Shared} {y x:V} {u v:Value} (ry:RelV y u) (rx:RelV x v) (fy:jm y=true) (fx:jm x=true):SeqAt.EqAt A s u v (eqV y x):=by
 cases y with
 | non=>
  cases ry;cases x with
  | non=>cases rx;exact SeqAt.EqAt.same _
  | bl b=>cases rx;exact SeqAt.EqAt.none_bool b
  | int b=>obtain ⟨t,rfl⟩:=rx;exact SeqAt.EqAt.none_int b t
  | str b=>obtain ⟨t,rfl⟩:=rx;exact SeqAt.EqAt.none_str b t
  | _=>exact absurd (show false=true from fx) DM
 | bl a=>
  cases ry;cases x with
  | non=>cases rx;exact SeqAt.EqAt.bool_none a
  | bl b=>cases rx;exact SeqAt.EqAt.bool_bool a b
  | int b=>obtain ⟨t,rfl⟩:=rx;exact SeqAt.EqAt.bool_int a b t
  | str b=>obtain ⟨t,rfl⟩:=rx;exact SeqAt.EqAt.bool_str a b t
  | _=>exact absurd (show false=true from fx) DM
 | int a=>
  obtain ⟨t',rfl⟩:=ry;cases x with
  | non=>cases rx;exact SeqAt.EqAt.int_none a t'
  | bl b=>cases rx;exact SeqAt.EqAt.int_bool a t' b
  | int b=>obtain ⟨t,rfl⟩:=rx;exact SeqAt.EqAt.int_int a t' b t
  | str b=>obtain ⟨t,rfl⟩:=rx;exact HU a t' b t
  | _=>exact absurd (show false=true from fx) DM
 | str a=>
  obtain ⟨t',rfl⟩:=ry;cases x with
  | non=>cases rx;exact SeqAt.EqAt.str_none a t'
  | bl b=>cases rx;exact SeqAt.EqAt.str_bool a t' b
  | int b=>obtain ⟨t,rfl⟩:=rx;exact HV a t' b t
  | str b=>obtain ⟨t,rfl⟩:=rx;exact SeqAt.EqAt.str_str a t' b t
  | _=>exact absurd (show false=true from fx) DM
 | _=>exact absurd (show false=true from fy) DM
noncomputable def eqU (x:V) (u:Value):Bool:=match u with
 | .none=>eqV .non x
 | .bool b=>eqV (.bl b) x
 | .int i _=>eqV (.int i) x
 | .str z _=>eqV (.str z) x
 | _=>false
theorem yn {x y:V} {u:Value} (r:RelV y u) (f:jm y=true):eqU x u=eqV y x:=by
 cases y with
 | non=>cases r;rfl
 | bl b=>cases r;rfl
 | int i=>obtain ⟨t,rfl⟩:=r;rfl
 | str z=>obtain ⟨t,rfl⟩:=r;rfl
 | _=>exact absurd (show false=true from f) DM
theorem js {x:V}: ∀ {xs:List V} {us:List Value},Vals xs us->xs.all jm=true->us.any (eqU x)=xs.any λy=>eqV y x
 | _,_,.nil,_=>rfl
 | y::xs,u::us,.cons r t,f=>by
  rw [Fg,Ek]at f;rw [HB,HB,yn r f.1,js t f.2]
theorem gQ {A:Around} {s:Shared} {x:V} {v:Value} (rx:RelV x v) (fx:jm x=true): ∀ {xs:List V} {us:List Value},Vals xs us->xs.all jm=true-> ∀ u∈us,SeqAt.EqAt A s u v (eqU x u)
 | _,_,.nil,_=>λu hu=>by cases hu
 | y::xs,u::us,.cons r t,f=>λu' hu=>by
  rw [Fg,Ek]at f;rcases DK.mp hu with rfl | hu
  ·rw [yn r f.1];exact BC r rx f.1 fx
  ·exact gQ rx fx t f.2 u' hu
noncomputable def inV (x:V) (xs:List V):Bool:=xs.any λy=>eqV y x
inductive rIn (K:W.Frag) (neg:Bool) (x:V) (y:V) (H:Hp) (Q:VK):Prop
 | mk: ∀ p xs,(y=.ref p)->((SqL K H p xs\/SqT K H p xs))->(jm x=true)->(xs.all jm=true)->(Q (.bl (if neg then !inV x xs else inV x xs)) H)->rIn K neg x y H Q
theorem jG:OpR X (compareOp .In) (rIn X.K false):=by
 intro pins s σ H x y v u Q I rx ry h;obtain ⟨p,xs,rfl,hq,fx,fs,q⟩:=h;cases ry;rcases hq with hq | hq
 ·obtain ⟨its,r,pl,hz⟩:=I.list hq;refine SeqAt.in_listAt (eqU x) pl.isList (λw hw=>gQ rx fx r fs w (by simpa using hw)) ⟨.bl _,H,I,rfl,?_⟩;rw [show its.toArray.any (eqU x)=its.any (eqU x) by simp,js r fs];exact q
 ·obtain ⟨its,r,pl,hz⟩:=I.tuple hq;refine SeqAt.in_tupleAt (eqU x) pl (λw hw=>gQ rx fx r fs w (by simpa using hw)) ⟨.bl _,H,I,rfl,?_⟩;rw [show its.toArray.any (eqU x)=its.any (eqU x) by simp,js r fs];exact q
theorem fY:OpR X (compareOp .NotIn) (rIn X.K true):=by
 intro pins s σ H x y v u Q I rx ry h;obtain ⟨p,xs,rfl,hq,fx,fs,q⟩:=h;cases ry;rcases hq with hq | hq
 ·obtain ⟨its,r,pl,hz⟩:=I.list hq;refine SeqAt.notIn_listAt (eqU x) pl.isList (λw hw=>gQ rx fx r fs w (by simpa using hw)) ⟨.bl _,H,I,rfl,?_⟩;rw [show its.toArray.any (eqU x)=its.any (eqU x) by simp,js r fs];exact q
 ·obtain ⟨its,r,pl,hz⟩:=I.tuple hq;refine SeqAt.notIn_tupleAt (eqU x) pl (λw hw=>gQ rx fx r fs w (by simpa using hw)) ⟨.bl _,H,I,rfl,?_⟩;rw [show its.toArray.any (eqU x)=its.any (eqU x) by simp,js r fs];exact q
inductive bU (K:W.Frag) (xs:List V) (H:Hp) (Q:VK):Prop
 | mk: ∀ p ys,(xs=[.ref p])->((SqL K H p ys\/SqT K H p ys))->(Q (.int ys.length) H)->bU K xs H Q
theorem au:dU X (.builtin "len") (bU X.K):=by
 intro pins s σ H xs us Q I r h;obtain ⟨p,ys,rfl,hq,q⟩:=h;obtain ⟨u,rfl,rx⟩:=iN r;cases rx;have hn:=iG;rcases hq with hq | hq
 ·obtain ⟨its,r',pl,hz⟩:=I.list hq;have hlen:=r'.length;exact Calls.call_len_list pl.isList (by simp only [DL] <;> lia) ⟨.int ys.length,H,I.tok _,⟨s.toks+1,by rw [DL,hlen]⟩,q⟩
 ·obtain ⟨its,r',pl,hz⟩:=I.tuple hq;have hlen:=r'.length;exact len_tuple pl (by simp only [DL] <;> lia) ⟨.int ys.length,H,I.tok _,⟨s.toks+1,by rw [DL,hlen]⟩,q⟩
theorem oC:dU X (.builtin "len") (λxs H Q=> ∃ z,xs=[.str z]/\z.length<=sizeLine/\Q (.int z.length) H):=by
 intro pins s σ H xs us Q I r h;obtain ⟨z,rfl,hz,q⟩:=h;obtain ⟨u,rfl,t,rfl⟩:=iN r;have hn:=iG;exact len_str (by lia) ⟨.int z.length,H,I.tok _,⟨_,rfl⟩,q⟩
inductive nP (K:W.Frag) (xs:List V) (H:Hp) (Q:VK):Prop
 | mk: ∀ p ys,(xs=[.ref p])->((SqL K H p ys\/SqT K H p ys))->(∀ l,H l=none->Q (.ref l) (upd H l (.lst ys)))->nP K xs H Q
theorem jq:dU X (.type "list") (nP X.K):=by
 intro pins s σ H xs us Q I r h;obtain ⟨p,ys,rfl,hq,q⟩:=h;obtain ⟨u,rfl,rx⟩:=iN r;cases rx;have fin: ∀ (its:List Value),Vals ys its->ys.length<=sizeLine-> ∀ (h':Heap) (c':Nat),(∀ b o',s.heap.get? b=some o'->h'.get? b=some o')->
   h'.get? s.heap.objs.size=some {cls:=.type "list",dict:=none,data:=.seq its.toArray c',slots:= #[]}->EP X pins σ Q (.ref s.heap.objs.size) {s with heap:=h'}:=λits r' hz h' c' kp e=>
  ⟨.ref s.heap.objs.size,_,I.laid (t':=s.toks) kp (DI _) (show ObjOk X.prog X.w _ h' _ (.lst ys)from ⟨hz,its,c',r',e⟩),rfl,q _ (I.hok.fresh (DI _))⟩
 rcases hq with hq | hq
 ·obtain ⟨its,r',pl,hz⟩:=I.list hq;have hlen:=r'.length;obtain ⟨o,ho,hc,n,hd⟩:=pl.isList;exact call_list_seq p (.inl rfl) ho hc hd (λh' c' kp e=>fin its r' hz h' c' kp e) (by simp only [DL] <;> lia)
 ·obtain ⟨its,r',pl,hz⟩:=I.tuple hq;have hlen:=r'.length;obtain ⟨o,ho,hc,n,hd⟩:=pl;exact call_list_seq p (.inr rfl) ho hc hd (λh' c' kp e=>fin its r' hz h' c' kp e) (by simp only [DL] <;> lia)
inductive fV (K:W.Frag) (xs:List V) (H:Hp) (Q:VK):Prop
 | mk: ∀ p ys,(xs=[.ref p])->(((SqL K H p ys/\ ∀ l,H l=none->Q (.ref l) (upd H l (.tup ys)))\/(SqT K H p ys/\Q (.ref p) H)))->fV K xs H Q
theorem bR:dU X (.type "tuple") (fV X.K):=by
 intro pins s σ H xs us Q I r h;obtain ⟨p,ys,rfl,h⟩:=h;obtain ⟨u,rfl,rx⟩:=iN r;cases rx;rcases h with ⟨hq,q⟩ | ⟨hq,q⟩
 ·obtain ⟨its,r',pl,hz⟩:=I.list hq;have hlen:=r'.length;refine call_tuple_list pl.isList (λh' kp=>?_) (by simp only [DL] <;> lia);have I1:Inv X pins σ H {s with heap:=h'}:=I.kept (t':=s.toks) kp;have I2:Inv X pins σ (upd H h'.objs.size (.tup ys)) {s with heap:=h'.push {cls:=.type "tuple",data:=.seq its.toArray}}:=
   I1.laid (t':=s.toks) (λb o e=>Dz _ e) (DI _) (show ObjOk X.prog X.w _ _ _ (.tup ys)from ⟨hz,its,r',IsTup.new _ _⟩)
  exact ⟨.ref h'.objs.size,_,I2,rfl,q _ (I1.hok.fresh (DI _))⟩
 ·obtain ⟨its,r',pl,hz⟩:=I.tuple hq;exact call_tuple_same pl ⟨.ref p,H,I,rfl,q⟩
def tyV (K:W.Frag) (T:String) (x:V) (H:Hp):Prop:=match x with
 | .str _=>T="str"
 | .int _=>T="int"
 | .ref p=>(T="list"/\ ∃ xs,SqL K H p xs)\/(T="tuple"/\ ∃ o,K.lookup p=some o/\o.cls=.type "tuple"/\o.dict=none)\/
   (T="dict"/\((∃ kvs,H p=some (.dK kvs))\/ ∃ kvs,H p=some (.dT kvs)))\/(T="set"/\ ∃ S n,H p=some (.set S n))
 | _=>False
theorem vM {pins:List (Addr×Obj)} {σ:St} {H:Hp} {s:Shared} {T:String} {x:V} {v:Value} (I:Inv X pins σ H s) (r:RelV x v) (ty:tyV X.K T x H):
  s.TypeIs v T/\ ∀ a,v=.ref a-> ∃ ob,s.heap.get? a=some ob/\ob.dict=none:=by
 cases x with
 | str z=>
  obtain ⟨t,rfl⟩:=r;cases (show T="str" from ty);exact ⟨typeIs_str s z t,λ_ e=>nomatch e⟩
 | int i=>
  obtain ⟨t,rfl⟩:=r;cases (show T="int" from ty);exact ⟨typeIs_int s i t,λ_ e=>nomatch e⟩
 | ref p=>
  cases r;rcases ty with ⟨rfl,xs,hq⟩ | ⟨rfl,o,hk,hc,hd⟩ | ⟨rfl,hk⟩ | ⟨rfl,S,n,hk⟩
  ·obtain ⟨its,_,pl,_⟩:=I.list hq;refine ⟨pl.isList.typeIs,λa e=>?_⟩;cases e;obtain ⟨o,n,e,c,hd,_⟩:=pl;exact ⟨o,e,hd⟩
  ·refine ⟨⟨o,I.kIn p o hk,hc⟩,λa e=>?_⟩;cases e;exact ⟨o,I.kIn _ o hk,hd⟩
  ·have z: ∃ o,s.heap.get? p=some o/\o.ExactDict:=by
    rcases hk with ⟨kvs,hk⟩ | ⟨kvs,hk⟩
    ·obtain ⟨_,_,_,_,o,_,_,e,ex,_⟩:=I.hok p _ hk;exact ⟨o,e,ex⟩
    ·obtain ⟨_,_,_,_,o,_,_,e,ex,_⟩:=I.hok p _ hk;exact ⟨o,e,ex⟩
   obtain ⟨o,e,ex⟩:=z;refine ⟨⟨o,e,ex.1⟩,λa e2=>?_⟩;cases e2;exact ⟨o,e,ex.2.1⟩
  ·obtain ⟨o,_,_,_,e,ex,_⟩:=I.hok p _ hk;refine ⟨⟨o,e,ex.1⟩,λa e2=>?_⟩;cases e2;exact ⟨o,e,ex.2.1⟩
 | _=>exact False.elim ty
def C3 (K:W.Frag) (T:String) (r:V->List V->Hp->VK->Prop) (to:TE):TE:=λσ H Q=>to σ H λx H1=>tyV K T x H1/\r x [] H1 Q
def tBM (K:W.Frag) (T:String) (r:V->List V->Hp->VK->Prop) (to:TE) (t:TA):TE:=λσ H Q=>to σ H λx H1=>tyV K T x H1/\t σ H1 λxs H2=>r x xs H2 Q
variable {o e:Expr} {es:List Expr} {to:TE} {t:TA} {name:Str} {apos cpos:Pos} {T id:String} {r:V->List V->Hp->VK->Prop}
theorem xc (pa:PlainAttrs T) (slot:Slot T name id) (hty:typeOf (.builtin id)=pure (.type "method_descriptor")) (hm:MtR X id r) (ho:PE X o to)
  (hbase:attributeBase o name X.env (eval o X.env)=eval o X.env:=by rfl) (hline:(apos.endLine==cpos.line)=true:=by rfl):PE X (.Call (.Attribute o name apos) [] [] cpos) (C3 X.K T r to):=by
 intro pins s σ H Q I h;refine wpAny_Call_method0_late hbase hline (thn (ho pins s σ H _ I h) λv s1 ⟨x,H1,I1,r1,ty,q1⟩=>?_);obtain ⟨h1,h2⟩:=vM I1 r1 ty;exact ⟨T,id,pa,slot,hty,h1,h2,Hn rfl (PySem.evalArgs_none (hm pins s1 σ H1 x [] v [] Q I1 r1 .nil q1))⟩
theorem dS (pa:PlainAttrs T) (slot:Slot T name id) (hty:typeOf (.builtin id)=pure (.type "method_descriptor")) (hm:MtR X id r) (ho:PE X o to) (ha:PA X (e::es) t)
  (hbase:attributeBase o name X.env (eval o X.env)=eval o X.env:=by rfl)
  (hfew:((backTo cpos (starEach (e::es) X.env)).all (λx=> !x.1)&&(backToKw cpos (keywordEach [] X.env)).all (λx=>x.1.isSome)
   &&decide ((e::es).length+ ([]:List Keyword).length+ (if ([]:List Keyword).isEmpty then 0 else 1) <30))=true:=by rfl)
  (hline:(apos.endLine==cpos.line)=true:=by rfl) (hs:starEach (e::es) X.env=(false,eval e X.env)::starEach es X.env:=by rfl) (hplain:(backTo cpos (starEach es X.env)).any (·.1)=false:=by rfl):
  PE X (.Call (.Attribute o name apos) (e::es) [] cpos) (tBM X.K T r to t):=by
 intro pins s σ H Q I h;refine wpAny_Call_method_late hbase hfew hline rfl (thn (ho pins s σ H _ I h) λv s1 ⟨x,H1,I1,r1,ty,q1⟩=>?_);obtain ⟨h1,h2⟩:=vM I1 r1 ty;refine ⟨T,id,pa,slot,hty,h1,h2,?_⟩;have hA:=ha cpos pins s1 σ H1 _ I1 q1;rw [hs]at hA ⊢;refine Hn (by show (false||(backTo cpos (starEach es X.env)).any (·.1))=false;rw [hplain] <;> rfl) (Calls.evalArgs_plain ?_);exact thn hA λus s2 ⟨vs,H2,I2,r2,q2⟩=>hm pins s2 σ H2 x vs v us Q I2 r1 r2 q2
end
def MtM (X:Cx) (id:String) (r:V->List V->Hp->VK->Prop):Prop:=
 ∀ (pins:List (Addr×Obj)) (s:Shared) (σ:St) (H:Hp) (x:V) (xs:List V) (v:Value) (us:List Value) (Q:VK),Inv X pins σ H s->RelV x v->Vals xs us->r x xs H Q->
  wpAny (model X.prog X.w) X.A (call (.builtin id) (v::us)) (EP X pins σ Q) X.xe s
theorem Vals.one: ∀ {x:V} {us:List Value},Vals [x] us-> ∃ u,us=[u]/\RelV x u
 | _,_,.cons r .nil=>⟨_,rfl,r⟩
theorem Vals.two: ∀ {x y:V} {us:List Value},Vals [x,y] us-> ∃ u v,us=[u,v]/\RelV x u/\RelV y v
 | _,_,_,.cons r (.cons q .nil)=>⟨_,_,rfl,r,q⟩
theorem Vals.zero: ∀ {us:List Value},Vals [] us->us=[]
 | _,.nil=>rfl
theorem Vals.dropLast {xs:List V} {us:List Value} (h:Vals xs us):Vals xs.dropLast us.dropLast:=by
 induction h with
 | nil=>exact .nil
 | cons r t ih=>
  cases t with
  | nil=>exact .nil
  | cons q t'=>exact .cons r ih
theorem sf {α:Type} (l:List α):l.eraseIdx (l.length-1)=l.dropLast:=by
 induction l with
 | nil=>rfl
 | cons a r ih=>
  cases r with
  | nil=>rfl
  | cons b r=>
   have e:(a::b::r).length-1=((b::r).length-1) +1:=by
    have h1:(a::b::r).length=r.length+2:=rfl;have h2:(b::r).length=r.length+1:=rfl;lia
   rw [e,List.eraseIdx_cons_succ,ih];all_goals rfl
section
variable {X:Cx} {pins:List (Addr×Obj)} {σ:St} {H:Hp} {s:Shared} {l b:Addr} {xs ys zs:List V}
theorem Inv.lset {its its':List Value} {n:Nat} {f:Array Value->Array Value} {t':Nat} (I:Inv X pins σ H s) (hH:H l=some (.lst xs))
  (e:s.heap.get? l=some {cls:=.type "list",data:=.seq its.toArray n}) (hf:f its.toArray=its'.toArray) (hv:Vals ys its') (hz:ys.length<=sizeLine):
  Inv X pins σ (upd H l (.lst ys)) {s with heap:=s.heap.update l (Obj.mapSeq f),toks:=t'}:=by
 have q:=PySem.IsL.update e f;rw [hf]at q;refine I.write (x:=l) (e:=l) (by rw [hH];exact trivial) (.inl rfl) (λb' u hb hu=>(E7 s.heap (Obj.mapSeq f) (EI hb)).trans hu) ⟨_,q⟩ ?_;exact ⟨hz,its',_,hv,q⟩
theorem Inv.lnew {its:List Value} {t':Nat} (I:Inv X pins σ H s) (hv:Vals ys its) (hz:ys.length<=sizeLine):
  Inv X pins σ (upd H s.heap.objs.size (.lst ys)) {s with heap:=s.heap.push {cls:=.type "list",data:=.seq its.toArray},toks:=t'}:=
 I.laid (λ_ _ q=>Dz _ q) (DI _) ⟨hz,its,0,hv,DS _ rfl⟩
theorem Inv.fresh (I:Inv X pins σ H s):H s.heap.objs.size=none:=I.hok.fresh (DI _)
theorem Inv.lstM (I:Inv X pins σ H s) (hH:H l=some (.lst xs)):xs.length<=sizeLine/\ ∃ (its:List Value) (n:Nat),Vals xs its/\xs.length=its.length/\s.heap.get? l=some {cls:=.type "list",data:=.seq its.toArray n}:=by
 obtain ⟨z,its,n,r,e⟩:=I.hok l _ hH;exact ⟨z,its,n,r,r.length,e⟩
theorem pQ {n:Nat} (h:n<=sizeLine):Builtin.List.listTooLong n=false:=by
 unfold Builtin.List.listTooLong;exact DG (by lia)
end
section
variable {X:Cx}
inductive sU  (x:V) (vs:List V) (H:Hp) (Q:VK):Prop
 | mk: ∀ l xs y,(x=.ref l)->(vs=[y])->(H l=some (.lst xs))->(xs.length<sizeLine)->(Q .non (upd H l (.lst (xs++[y]))))->sU x vs H Q
theorem bM:MtM X "list.append" sU:=by
 intro pins s σ H x vs v us Q I rx rv h;obtain ⟨l,xs,y,rfl,rfl,hH,hz,q⟩:=h;cases rx;obtain ⟨u,rfl,ru⟩:=rv.one;obtain ⟨z,its,n,r,hl,e⟩:=I.lstM hH;refine Ia F.slot_list_append ⟨_,e,rfl⟩ F.entry_list_append (F.args_list_append_2 _ _) (PySem.list_append l its.toArray n u (by rw [DL];lia)) ⟨e,?_⟩;refine ⟨.non,_,I.lset (its':=its++[u]) hH e (by simp) (r.append (.cons ru .nil)) ?_,rfl,q⟩;rw [DA,Go];lia
inductive nQ  (x:V) (vs:List V) (H:Hp) (Q:VK):Prop
 | mk: ∀ l b xs zs,(x=.ref l)->(vs=[.ref b])->(H l=some (.lst xs))->(H b=some (.lst zs))->(xs.length+zs.length<=sizeLine)->(Q .non (upd H l (.lst (xs++zs))))->nQ x vs H Q
theorem fB:MtM X "list.extend" nQ:=by
 intro pins s σ H x vs v us Q I rx rv h;obtain ⟨l,b,xs,zs,rfl,rfl,hH,hB,hz,q⟩:=h;cases rx;obtain ⟨u,rfl,ru⟩:=rv.one;cases ru;obtain ⟨z,its,n,r,hl,e⟩:=I.lstM hH;obtain ⟨z2,its2,n2,r2,hl2,e2⟩:=I.lstM hB;have hsz:its.toArray.size+its2.toArray.size<=sizeLine:=by rw [DL,DL];lia
 have hlong: ¬ (!its.toArray.isEmpty&&Builtin.List.listTooLong (its.toArray.size+its2.toArray.size))=true:=by
  rw [pQ hsz,DE];exact DM
 refine Ia F.slot_list_extend ⟨_,e,rfl⟩ F.entry_list_extend (F.args_list_extend_2 _ _)
  (AutoSeq1.list_extend_list_list_0 l its.toArray n b its2.toArray n2 hlong (by rw [DL];lia) (by lia)) ⟨e,e2,?_⟩
 refine ⟨.non,_,I.lset (its':=its++its2) hH e (by simp) (r.append r2) ?_,rfl,q⟩;rw [DA];lia
inductive B7  (x:V) (vs:List V) (H:Hp) (Q:VK):Prop
 | mk: ∀ l xs y,(x=.ref l)->(vs=[])->(H l=some (.lst xs))->(xs[xs.length-1]? =some y)->(Q y (upd H l (.lst xs.dropLast)))->B7 x vs H Q
theorem xE:MtM X "list.pop" B7:=by
 intro pins s σ H x vs v us Q I rx rv h;obtain ⟨l,xs,y,rfl,rfl,hH,hy,q⟩:=h;cases rx;have hus:=rv.zero;subst hus;obtain ⟨z,its,n,r,hl,e⟩:=I.lstM hH;obtain ⟨u,hu,ru⟩:=r.get hy;have hy':its.toArray[its.toArray.size-1]? =some u:=by
  show its.toArray[its.length-1]? =some u;rw [<- FQ,<- hl];exact hu
 refine Ia F.slot_list_pop ⟨_,e,rfl⟩ F.entry_list_pop (F.args_list_pop_1 _) (MeetsSeq.list_pop_last l its.toArray n u hy' (by rw [DL];lia)) ⟨e,?_⟩;refine ⟨y,_,I.lset (its':=its.dropLast) hH e ?_ r.dropLast ?_,ru,q⟩
 ·show its.toArray.eraseIdxIfInBounds (its.toArray.size-1)=its.dropLast.toArray;rw [DL,List.eraseIdxIfInBounds_toArray,sf]
 ·rw [List.length_dropLast];lia
inductive Cb  (x:V) (y:V) (H:Hp) (Q:VK):Prop
 | mk: ∀ l b xs zs,(x=.ref l)->(y=.ref b)->(H l=some (.lst xs))->(H b=some (.lst zs))->(xs.length+zs.length<=sizeLine)->(∀ p,H p=none->Q (.ref p) (upd H p (.lst (xs++zs))))->Cb x y H Q
theorem gP:OpR X (binaryOp .Add) Cb:=by
 intro pins s σ H x y v u Q I rx ry h;obtain ⟨l,b,xs,zs,rfl,rfl,hH,hB,hz,q⟩:=h;cases rx;cases ry;obtain ⟨z,its,n,r,hl,e⟩:=I.lstM hH;obtain ⟨z2,its2,n2,r2,hl2,e2⟩:=I.lstM hB;refine PySem.P.add_list e e2 ?_ (by rw [DL,DL];lia);have ea:its.toArray++its2.toArray=(its++its2).toArray:=by simp
 rw [ea];exact ⟨.ref _,_,I.lnew (t':=s.toks) (r.append r2) (by rw [DA];lia),rfl,q _ I.fresh⟩
end
section
variable {κ:Type} [DecidableEq κ]
noncomputable def cz (kvs:List (κ×V)) (k:κ):Option V:=(kvs.find? λkv=>decide (kv.1=k)).map (·.2)
noncomputable def dj (kvs:List (κ×V)) (k:κ) (v:V):List (κ×V):=
 if (kvs.any λkv=>decide (kv.1=k))=true then kvs.map (λkv=>if kv.1=k then (kv.1,v)else kv)else kvs++[(k,v)]
theorem vL {k:κ}:cz ([]:List (κ×V)) k=none:=rfl
theorem cq {p:κ×V} {r:List (κ×V)} {k:κ} (e:p.1=k):cz (p::r) k=some p.2:=by simp [cz,FJ,e]
theorem bq {p:κ×V} {r:List (κ×V)} {k:κ} (e: ¬ p.1=k):cz (p::r) k=cz r k:=by simp [cz,FJ,e]
theorem eD (k:κ): ∀ kvs:List (κ×V),(kvs.any λkv=>decide (kv.1=k))=(cz kvs k).isSome
 | []=>rfl
 | p::r=>by
  rw [HB];by_cases e:p.1=k
  ·simp only [cq e,DB e,Bool.true_or,Option.isSome_some]
  ·rw [bq e,DG e,Bool.false_or];exact eD k r
theorem oO (k j:κ) (y:V): ∀ kvs:List (κ×V),cz (kvs.map λkv=>if kv.1=k then (kv.1,y)else kv) j=(cz kvs j).map λx=>if j=k then y else x
 | []=>rfl
 | p::r=>by
  have ih:=oO k j y r;rw [Fa];by_cases h:p.1=k
  ·rw [Ea h];by_cases e:p.1=j
   ·rw [cq (p:=(p.1,y)) e,cq e,HH,Ea (e.symm.trans h)]
   ·rw [bq (p:=(p.1,y)) e,bq e,ih]
  ·rw [DU h];by_cases e:p.1=j
   ·rw [cq (p:=p) e,cq e,HH,DU (λz=>h (e.trans z))]
   ·rw [bq (p:=p) e,bq e,ih]
theorem lS (k j:κ) (y:V): ∀ kvs:List (κ×V),cz kvs k=none->cz (kvs++[(k,y)]) j=if j=k then some y else cz kvs j
 | [],_=>by
  by_cases e:k=j
  ·rw [Ea e.symm];exact cq (p:=(k,y)) e
  ·rw [DU (λz=>e z.symm)];exact bq (p:=(k,y)) e
 | p::r,hn=>by
  rw [Hw];have hk: ¬ p.1=k:=λz=>by rw [cq z]at hn;cases hn
  rw [bq hk]at hn;have ih:=lS k j y r hn;by_cases e:p.1=j
  ·rw [cq e,cq e,DU (λz=>hk (e.trans z))]
  ·rw [bq e,bq e,ih]
theorem oN (kvs:List (κ×V)) (k j:κ) (y:V):cz (dj kvs k y) j=if j=k then some y else cz kvs j:=by
 unfold dj;by_cases a:(kvs.any λkv=>decide (kv.1=k))=true
 ·rw [Ea a,oO];rw [eD]at a;by_cases e:j=k
  ·obtain ⟨x,hx⟩:=GY.mp a;rw [Ea e,e,hx,HH,Ea rfl]
  ·rw [DU e];cases cz kvs j with
   | none=>rfl
   | some x=>rw [HH,DU e]
 ·rw [DU a];refine lS k j y kvs ?_;rw [eD]at a;cases q:cz kvs k with
  | none=>rfl
  | some x=>rw [q]at a;exact (a rfl).elim
theorem dG (kvs:List (κ×V)) (k:κ) (v:V):(dj kvs k v).length<=kvs.length+1:=by
 unfold dj;split
 ·rw [Dx];lia
 ·rw [DA,DJ,List.length_nil];lia
theorem putK_new {kvs:List (κ×V)} {k:κ} (v:V) (h:cz kvs k=none):dj kvs k v=kvs++[(k,v)]:=by
 unfold dj;rw [eD,h];exact DU (by decide)
theorem RelO.isSome_eq {o:Option V} {u:Option Value} (r:RelO o u):o.isSome=u.isSome:=by
 cases o with
 | none=>cases u with
  | none=>rfl
  | some _=>exact (show False from r).elim
 | some _=>cases u with
  | none=>exact (show False from r).elim
  | some _=>rfl
theorem KV.val {kvs:List (κ×V)} {vs:List (κ×Value)} (r:KV kvs vs) (k:κ):RelO (cz kvs k) (valueAt vs k):=by
 unfold KV at r;induction r with
 | nil=>exact True.intro
 | @cons p q ps qs h t ih=>
  obtain ⟨h1,h2⟩:=h;by_cases e:p.1=k
  ·have e':q.1=k:=h1.symm.trans e;have b:valueAt (q::qs) k=some q.2:=by simp [valueAt,FJ,e']
   rw [cq e,b];exact h2
  ·have e': ¬ q.1=k:=λz=>e (h1.trans z);have b:valueAt (q::qs) k=valueAt qs k:=by simp [valueAt,FJ,e']
   rw [bq e,b];exact ih
theorem KV.any {kvs:List (κ×V)} {vs:List (κ×Value)} (r:KV kvs vs) (k:κ):(kvs.any λkv=>decide (kv.1=k))=vs.any λkv=>decide (kv.1=k):=by
 unfold KV at r;induction r with
 | nil=>rfl
 | cons h t ih=>rw [HB,HB,ih,h.1]
theorem KV.repl {kvs:List (κ×V)} {vs:List (κ×Value)} (r:KV kvs vs) (k:κ) {y:V} {u:Value} (ry:RelV y u):
  KV (kvs.map λkv=>if kv.1=k then (kv.1,y)else kv) (vs.map λkv=>if kv.1=k then (kv.1,u)else kv):=by
 unfold KV at r ⊢;induction r with
 | nil=>exact .nil
 | @cons p q ps qs h t ih=>
  rw [Fa,Fa];refine .cons ?_ ih;obtain ⟨h1,h2⟩:=h;by_cases e:p.1=k
  ·rw [Ea e,Ea (h1.symm.trans e)];exact ⟨h1,ry⟩
  ·rw [DU e,DU (λz=>e (h1.trans z))];exact ⟨h1,h2⟩
theorem KV.put {kvs:List (κ×V)} {vs:List (κ×Value)} (r:KV kvs vs) (k:κ) {y:V} {u:Value} (ry:RelV y u):KV (dj kvs k y) (stored vs k u):=by
 unfold dj stored;rw [r.any k];by_cases e:(vs.any λkv=>decide (kv.1=k))=true
 ·rw [Ea e,Ea e];exact r.repl k ry
 ·rw [DU e,DU e];exact FE r ⟨rfl,ry⟩
theorem KV.length {kvs:List (κ×V)} {vs:List (κ×Value)} (r:KV kvs vs):kvs.length=vs.length:=Ev r
end
theorem mi {P:Program} {w:World} {k:Key} {u:Value} (r:RelV (kV k) u):(a4 P w).is k u=true:=by
 cases k with
 | inl i=>obtain ⟨t,e⟩:=(show ∃ t,u=Value.int i t from r);subst e;exact pT P w i t
 | inr x=>obtain ⟨t,e⟩:=(show ∃ t,u=Value.str x t from r);subst e;exact pS P w x t
theorem mj {P:Program} {w:World}: ∀ {ks:List Key} {us:List Value},Vals (ks.map kV) us->ItemsAre (a4 P w) ks us
 | [],_,r=>by rw [List.map_nil]at r;cases r;exact .nil
 | k::ks,_,r=>by
  rw [Fa]at r;cases r with
  | cons h t=>exact .cons (mi h) (mj t)
noncomputable abbrev KT (H:Hp):List (List Key×V)->List (List Key×Addr×Value)->Prop:=Paired λp q=>p.1=q.1/\H q.2.1=some (.tup (p.1.map kV))/\RelV p.2 q.2.2
theorem KT.val {H:Hp} {kvs:List (List Key×V)} {xs:List (List Key×Addr×Value)} (r:KT H kvs xs) (k:List Key):RelO (cz kvs k) ((atKey xs k).map (·.2)):=by
 induction r with
 | nil=>exact True.intro
 | @cons p q ps qs h t ih=>
  obtain ⟨h1,_,h2⟩:=h;by_cases e:p.1=k
  ·have e':q.1=k:=h1.symm.trans e;have b:atKey (q::qs) k=some q.2:=by simp [atKey,FJ,e']
   rw [cq e,b];exact h2
  ·have e': ¬ q.1=k:=λz=>e (h1.trans z);have b:atKey (q::qs) k=atKey qs k:=by simp [atKey,FJ,e']
   rw [bq e,b];exact ih
theorem KT.repl {H:Hp} {kvs:List (List Key×V)} {xs:List (List Key×Addr×Value)} (r:KT H kvs xs) (k:List Key) {y:V} {u:Value} (ry:RelV y u):
  KT H (kvs.map λkv=>if kv.1=k then (kv.1,y)else kv) (xs.map (putAt k u)):=by
 induction r with
 | nil=>exact .nil
 | @cons p q ps qs h t ih=>
  rw [Fa,Fa];refine .cons ?_ ih;obtain ⟨h1,h2,h3⟩:=h;unfold putAt;by_cases e:p.1=k
  ·rw [Ea e,Ea (h1.symm.trans e)];exact ⟨h1,h2,ry⟩
  ·rw [DU e,DU (λz=>e (h1.trans z))];exact ⟨h1,h2,h3⟩
theorem KT.put {H:Hp} {kvs:List (List Key×V)} {xs:List (List Key×Addr×Value)} (r:KT H kvs xs) (k:List Key) {b:Addr} {y:V} {u:Value} (hb:H b=some (.tup (k.map kV))) (ry:RelV y u):
  KT H (dj kvs k y) (storedH xs k b u):=by
 have e:(kvs.any λkv=>decide (kv.1=k))=(atKey xs k).isSome:=by
  rw [eD,(r.val k).isSome_eq,Option.isSome_map]
 unfold dj storedH;rw [e];by_cases q:(atKey xs k).isSome=true
 ·rw [Ea q,Ea q];exact r.repl k ry
 ·rw [DU q,DU q];exact FE r ⟨rfl,hb,ry⟩
theorem KT.keeps {H H':Hp} {kvs:List (List Key×V)} {xs:List (List Key×Addr×Value)} (r:KT H kvs xs) (ht: ∀ b ys,H b=some (.tup ys)->H' b=some (.tup ys)):KT H' kvs xs:=
 Paired.mapP r λ_ _ z=>⟨z.1,ht _ _ z.2.1,z.2.2⟩
noncomputable abbrev KP (H:Hp):List ((List Key×Key)×V)->List ((List Key×Key)×Addr×Value)->Prop:=Paired λp q=>p.1=q.1/\(∃ c,H q.2.1=some (.tup [.ref c,kV p.1.2])/\H c=some (.tup (p.1.1.map kV)))/\RelV p.2 q.2.2
theorem KP.val {H:Hp} {kvs:List ((List Key×Key)×V)} {xs:List ((List Key×Key)×Addr×Value)} (r:KP H kvs xs) (k:List Key×Key):RelO (cz kvs k) ((atKey xs k).map (·.2)):=by
 induction r with
 | nil=>exact True.intro
 | @cons p q ps qs h t ih=>
  obtain ⟨h1,_,h2⟩:=h;by_cases e:p.1=k
  ·have e':q.1=k:=h1.symm.trans e;have b:atKey (q::qs) k=some q.2:=by simp [atKey,FJ,e']
   rw [cq e,b];exact h2
  ·have e': ¬ q.1=k:=λz=>e (h1.trans z);have b:atKey (q::qs) k=atKey qs k:=by simp [atKey,FJ,e']
   rw [bq e,b];exact ih
theorem KP.repl {H:Hp} {kvs:List ((List Key×Key)×V)} {xs:List ((List Key×Key)×Addr×Value)} (r:KP H kvs xs) (k:List Key×Key) {y:V} {u:Value} (ry:RelV y u):
  KP H (kvs.map λkv=>if kv.1=k then (kv.1,y)else kv) (xs.map (putAt k u)):=by
 induction r with
 | nil=>exact .nil
 | @cons p q ps qs h t ih=>
  rw [Fa,Fa];refine .cons ?_ ih;obtain ⟨h1,h2,h3⟩:=h;unfold putAt;by_cases e:p.1=k
  ·rw [Ea e,Ea (h1.symm.trans e)];exact ⟨h1,h2,ry⟩
  ·rw [DU e,DU (λz=>e (h1.trans z))];exact ⟨h1,h2,h3⟩
theorem KP.put {H:Hp} {kvs:List ((List Key×Key)×V)} {xs:List ((List Key×Key)×Addr×Value)} (r:KP H kvs xs) (k:List Key×Key) {b:Addr} {y:V} {u:Value} (hb: ∃ c,H b=some (.tup [.ref c,kV k.2])/\H c=some (.tup (k.1.map kV))) (ry:RelV y u):
  KP H (dj kvs k y) (storedH xs k b u):=by
 have e:(kvs.any λkv=>decide (kv.1=k))=(atKey xs k).isSome:=by
  rw [eD,(r.val k).isSome_eq,Option.isSome_map]
 unfold dj storedH;rw [e];by_cases q:(atKey xs k).isSome=true
 ·rw [Ea q,Ea q];exact r.repl k ry
 ·rw [DU q,DU q];exact FE r ⟨rfl,hb,ry⟩
theorem KP.keeps {H H':Hp} {kvs:List ((List Key×Key)×V)} {xs:List ((List Key×Key)×Addr×Value)} (r:KP H kvs xs) (ht: ∀ b ys,H b=some (.tup ys)->H' b=some (.tup ys)):KP H' kvs xs:=
 Paired.mapP r λ_ _ z=>⟨z.1,let ⟨c,e1,e2⟩:=z.2.1;⟨c,ht _ _ e1,ht _ _ e2⟩,z.2.2⟩
section
variable {P:Program} {w:World} {H:Hp} {h:Heap} {a:Addr}
theorem wR {u:HO} (ok:HOk P w H h) (e:Rd H a u):ObjOk P w H h a u:=e.ok ok
theorem yw {kvs:List (Key×V)} (ok:HOk P w H h) (e:Rd H a (.dK kvs)):kvs.length<=sizeLine/\(a==sysModules)=false/\ ∃ vs,KV kvs vs/\h.DictOf (a4 P w) a vs:=
 show ObjOk P w H h a (.dK kvs)from wR ok e
theorem AE {kvs:List (Key×V)} (ok:HOk P w H h) (e:H a=some (.dK kvs)):kvs.length<=sizeLine/\(a==sysModules)=false/\ ∃ vs,KV kvs vs/\h.DictOf (a4 P w) a vs:=yw ok (.inl e)
theorem oj {ks:List Key} (ok:HOk P w H h) (e:H a=some (.tup (ks.map kV))):(tupleKind (a4 P w)).is h ks a:=by
 obtain ⟨_,its,r,o,h1,h2,n,h3⟩:=(show ObjOk P w H h a (.tup (ks.map kV))from ok a _ e);exact ⟨o,its.toArray,n,h1,h2,h3,by simpa using mj r⟩
theorem yq {kvs:List (List Key×V)} (ok:HOk P w H h) (e:Rd H a (.dT kvs)):kvs.length<=sizeLine/\(a==sysModules)=false/\
  ∃ xs,KT H kvs xs/\h.DictOfH (tupleKind (a4 P w)) a xs:=by
 obtain ⟨z,y,xs,r,o,es,ep,h1,h2,h3,h4,h5⟩:=(show ObjOk P w H h a (.dT kvs)from wR ok e);refine ⟨z,y,xs,r,o,es,ep,h1,h2,h3,h4,λx hx=>?_,h5⟩;have all: ∀ {l:List (List Key×V)} {m:List (List Key×Addr×Value)},KT H l m-> ∀ x∈m,(tupleKind (a4 P w)).is h x.1 x.2.1:=by
  intro l m q;induction q with
  | nil=>intro x hx;exact nomatch hx
  | @cons p q ps qs hq t ih=>
   intro x hx;rcases DK.mp hx with e | hx
   ·subst e;exact oj ok (by rw [<- hq.1];exact hq.2.1)
   ·exact ih x hx
 exact all r x hx
theorem CH {kvs:List (List Key×V)} (ok:HOk P w H h) (e:H a=some (.dT kvs)):kvs.length<=sizeLine/\(a==sysModules)=false/\
  ∃ xs,KT H kvs xs/\h.DictOfH (tupleKind (a4 P w)) a xs:=yq ok (.inl e)
theorem om {k:List Key×Key} (ok:HOk P w H h) (e: ∃ c,H a=some (.tup [.ref c,kV k.2])/\H c=some (.tup (k.1.map kV))):(gO (a4 P w) (a4 P w)).is h k a:=by
 obtain ⟨c,e1,e2⟩:=e;obtain ⟨_,its,r,o,h1,h2,n,h3⟩:=(show ObjOk P w H h a (.tup [.ref c,kV k.2])from ok a _ e1);obtain ⟨u,v,rfl,ru,rv⟩:=r.two;cases (show u=Value.ref c from ru);exact ⟨o,_,n,c,v,h1,h2,h3,by simp,oj ok e2,mi rv⟩
theorem yu {kvs:List ((List Key×Key)×V)} (ok:HOk P w H h) (e:Rd H a (.dP kvs)):kvs.length<=sizeLine/\(a==sysModules)=false/\
  ∃ xs,KP H kvs xs/\h.DictOfH (gO (a4 P w) (a4 P w)) a xs:=by
 obtain ⟨z,y,xs,r,o,es,ep,h1,h2,h3,h4,h5⟩:=(show ObjOk P w H h a (.dP kvs)from wR ok e);refine ⟨z,y,xs,r,o,es,ep,h1,h2,h3,h4,λx hx=>?_,h5⟩;have all: ∀ {l:List ((List Key×Key)×V)} {m:List ((List Key×Key)×Addr×Value)},KP H l m-> ∀ x∈m,(gO (a4 P w) (a4 P w)).is h x.1 x.2.1:=by
  intro l m q;induction q with
  | nil=>intro x hx;exact nomatch hx
  | @cons p q ps qs hq t ih=>
   intro x hx;rcases DK.mp hx with e | hx
   ·subst e;rw [<- hq.1];exact om ok hq.2.1
   ·exact ih x hx
 exact all r x hx
theorem CI {kvs:List ((List Key×Key)×V)} (ok:HOk P w H h) (e:H a=some (.dP kvs)):kvs.length<=sizeLine/\(a==sysModules)=false/\
  ∃ xs,KP H kvs xs/\h.DictOfH (gO (a4 P w) (a4 P w)) a xs:=yu ok (.inl e)
end
def DGet (H:Hp) (a:Addr) (y:V) (r:Option V):Prop:=
 (∃ kvs k,Rd H a (.dK kvs)/\y=kV k/\r=cz kvs k)\/(∃ kvs k b,Rd H a (.dT kvs)/\y=.ref b/\H b=some (.tup (k.map kV))/\r=cz kvs k)\/
 ∃ kvs k b,Rd H a (.dP kvs)/\y=.ref b/\(∃ c,H b=some (.tup [.ref c,kV k.2])/\H c=some (.tup (k.1.map kV)))/\r=cz kvs k
def DPut (H:Hp) (a:Addr) (y v:V) (H':Hp):Prop:=
 (∃ kvs k,H a=some (.dK kvs)/\y=kV k/\kvs.length<sizeLine/\H'=upd H a (.dK (dj kvs k v)))\/
 (∃ kvs k b,H a=some (.dT kvs)/\y=.ref b/\H b=some (.tup (k.map kV))/\kvs.length<sizeLine/\H'=upd H a (.dT (dj kvs k v)))\/
 ∃ kvs k b,H a=some (.dP kvs)/\y=.ref b/\(∃ c,H b=some (.tup [.ref c,kV k.2])/\H c=some (.tup (k.1.map kV)))/\kvs.length<sizeLine/\H'=upd H a (.dP (dj kvs k v))
theorem DGet.k {H:Hp} {a:Addr} {kvs:List (Key×V)} {k:Key} (e:H a=some (.dK kvs)):DGet H a (kV k) (cz kvs k):=.inl ⟨kvs,k,.inl e,rfl,rfl⟩
theorem DPut.k {H:Hp} {a:Addr} {kvs:List (Key×V)} {k:Key} {v:V} (e:H a=some (.dK kvs)) (hl:kvs.length<sizeLine):DPut H a (kV k) v (upd H a (.dK (dj kvs k v))):=.inl ⟨kvs,k,e,rfl,hl,rfl⟩
theorem DPut.t {H:Hp} {a b:Addr} {kvs:List (List Key×V)} {k:List Key} {v:V} (e:H a=some (.dT kvs)) (eb:H b=some (.tup (k.map kV))) (hl:kvs.length<sizeLine):
  DPut H a (.ref b) v (upd H a (.dT (dj kvs k v))):=.inr (.inl ⟨kvs,k,b,e,rfl,eb,hl,rfl⟩)
section
variable {X:Cx} {pins:List (Addr×Obj)} {σ:St} {H:Hp} {s:Shared} {a:Addr} {y v:V} {u r:Value} {o:Option V} {A:Around} {E:Value->Shared->Prop}
theorem Inv.big (I:Inv X pins σ H s):sysModules<s.heap.objs.size:=by
 have h:mainGlobals<s.heap.objs.size:=(I.mod.glob.keeps I.bk).lt;exact Nat.lt_trans (by decide) h
theorem vy {Q:Value->Shared->Prop} (hu:A.units+16<cLine) (I:Inv X pins σ H s) (g:DGet H a y (some v)) (ry:RelV y u) (h: ∀ w' s',Inv X pins σ H s'->RelV v w'->Q w' s'):
  wpAny (model X.prog X.w) A (getItem (.ref a) u) Q E s:=by
 rcases g with ⟨kvs,k,e,ey,l⟩ | ⟨kvs,k,b,e,ey,eb,l⟩ | ⟨kvs,k,b,e,ey,eb,l⟩
 ·subst ey;obtain ⟨z,hd,vs,rel,dd⟩:=yw I.hok e;obtain ⟨w',hw,rw'⟩:=RelO.some_of (v:=v) (o:=valueAt vs k) (by rw [l];exact rel.val k);exact wpAny_getItem_of (mi ry) dd.mapOf hw (h w' _ (I.tok _) rw')
 ·subst ey;cases (show u=Value.ref b from ry);obtain ⟨z,hd,xs,rel,dd⟩:=yq I.hok e;obtain ⟨w',hw,rw'⟩:=RelO.some_of (v:=v) (o:=(atKey xs k).map (·.2)) (by rw [l];exact rel.val k);obtain ⟨p,hp,hp2⟩:=Ez.mp hw;refine wpAny_getItem_heap (tupleKind_room_in1 (by lia)) (oj I.hok eb) dd hp ?_;rw [hp2];exact h w' _ (I.tok _) rw'
 ·subst ey;cases (show u=Value.ref b from ry);obtain ⟨z,hd,xs,rel,dd⟩:=yu I.hok e;obtain ⟨w',hw,rw'⟩:=RelO.some_of (v:=v) (o:=(atKey xs k).map (·.2)) (by rw [l];exact rel.val k);obtain ⟨p,hp,hp2⟩:=Ez.mp hw;refine wpAny_getItem_heap (show _+8<cLine by show A.units+1+8<cLine;lia) (om I.hok eb) dd hp ?_;rw [hp2];exact h w' _ (I.tok _) rw'
theorem jo {h':Heap} {t':Nat} {ob:HO} (I:Inv X pins σ H s) (mu:Mut (H a)) (hs:Heap.SameBut a s.heap h') (he: ∃ q,h'.get? a=some q) (new:ObjOk X.prog X.w (upd H a ob) h' a ob):
  Inv X pins σ (upd H a ob) {s with heap:=h',toks:=t'}:=
 I.write (x:=a) (e:=a) mu (.inl rfl) (λb q hb z=>(hs.2 b hb).trans z) he new
theorem BD {P:Program} {w:World} {H':Hp} {h':Heap} {kvs:List (Key×V)} {vs:List (Key×Value)} (z:kvs.length<=sizeLine) (hd:(a==sysModules)=false) (rel:KV kvs vs) (dd:h'.DictOf (a4 P w) a vs):
  ObjOk P w H' h' a (.dK kvs):=⟨z,hd,vs,rel,dd⟩
theorem vx {H':Hp} {Q:Unit->Shared->Prop} (hu:A.units+16<cLine) (I:Inv X pins σ H s) (g:DPut H a y v H') (ry:RelV y u) (rv:RelV v r) (h: ∀ s',Inv X pins σ H' s'->Q () s'):
  wpAny (model X.prog X.w) A (setItem (.ref a) u r) Q E s:=by
 rcases g with ⟨kvs,k,e,ey,l,eH⟩ | ⟨kvs,k,b,e,ey,eb,l,eH⟩ | ⟨kvs,k,b,e,ey,eb,l,eH⟩
 ·subst ey eH;obtain ⟨z,hd,vs,rel,dd⟩:=AE I.hok e;have hz:vs.length<=sizeLine:=by rw [<- rel.length];exact z
  have hl:(dj kvs k v).length<=sizeLine:=by have:=dG kvs k v;lia
  refine wpAny_setItem_pairs (hsz:=hz) (mi ry) dd λh' dd' hs=>h _ ?_;have he: ∃ q,h'.get? a=some q:=let ⟨q,_,_,hq,_⟩:=dd';⟨q,hq⟩;exact jo I (by rw [e];exact True.intro) hs he (BD hl hd (rel.put k rv) dd')
 ·subst ey eH;cases (show u=Value.ref b from ry);obtain ⟨z,hd,xs,rel,dd⟩:=CH I.hok e;have hz:xs.length<=sizeLine:=by rw [<- Ev rel];exact z
  have hl:(dj kvs k v).length<=sizeLine:=by have:=dG kvs k v;lia
  refine wpAny_setItem_heap (hsz:=hz) (tupleKind_room_in1 (by lia)) (oj I.hok eb) dd λh' dd' hs=>h _ ?_;obtain ⟨q,es,ep,hq,h2,h3,h4,_,h5⟩:=dd';refine jo I (by rw [e];exact True.intro) hs ⟨q,hq⟩ ⟨hl,hd,_,(rel.put k eb rv).keeps λc ys ec=>?_,q,es,ep,hq,h2,h3,h4,h5⟩;rw [aj (Ay ec e (λz=>nomatch z))];exact ec
 ·subst ey eH;cases (show u=Value.ref b from ry);obtain ⟨z,hd,xs,rel,dd⟩:=CI I.hok e;have hz:xs.length<=sizeLine:=by rw [<- Ev rel];exact z
  have hl:(dj kvs k v).length<=sizeLine:=by have:=dG kvs k v;lia
  refine wpAny_setItem_heap (hsz:=hz) (show _+8<cLine by show A.units+1+8<cLine;lia) (om I.hok eb) dd λh' dd' hs=>h _ ?_;obtain ⟨q,es,ep,hq,h2,h3,h4,_,h5⟩:=dd';refine jo I (by rw [e];exact True.intro) hs ⟨q,hq⟩ ⟨hl,hd,_,(rel.put k eb rv).keeps λc ys ec=>?_,q,es,ep,hq,h2,h3,h4,h5⟩;rw [aj (Ay ec e (λz=>nomatch z))];exact ec
end
def BK (i:Expr):Prop:= ∀ ov iv,subscripted i false ov iv=operate [ov,iv] (getItem ov iv)
theorem sG {prog:Program} {w:World} {A:Around} {E:Value->Shared->Prop} {s:Shared} {env:Env} {value slice:Expr} {pos:Pos} {T id:String} {Q:Value->Shared->Prop}
  (hl:typeLookup (.type T) "__getitem__"=pure (some (.builtin id))) (hs:BK slice)
  (h:wpAny (model prog w) A (eval value env) (λo s₁=>wpAny (model prog w) A (eval slice env) (λi s₂=>s₂.TypeIs o T/\wpAny (model prog w) A (getItem o i) Q E s₂) E s₁) E s):
  wpAny (model prog w) A (eval (.Subscript value slice pos) env) Q E s:=by
 refine Subscript_ (E2 h (λo s₁ h₁=>E2 h₁ (λi s₂ h₂=>?_) λ_ _ x=>x) λ_ _ x=>x);obtain ⟨hT,h₂⟩:=h₂;unfold subscriptTail;refine Dw ?_;rw [getitemInPython_of_ne hT.not_modules];refine Dw (G2 hT hl ?_);have fin:wpAny (model prog w) A (subscripted slice false o i) (λr s₃=>wpAny (model prog w) A (letTemporaryGo value o r >>= λ_=>pure r) Q E s₃) E s₂:=by
  rw [hs o i];exact wpAny_operating (E2 h₂ (λr s₃ h₃=>Dw (wpAny_letTemporaryGo (Dy h₃))) λ_ _ x=>x)
 first
  | exact Dy (Dw fin)
  | exact Dw (Dy (Dw fin))
  | exact Dw fin
theorem qi {X:Cx} {pins:List (Addr×Obj)} {σ:St} {H:Hp} {s:Shared} {a:Addr} {y:V} {o:Option V} (I:Inv X pins σ H s) (g:DGet H a y o):s.TypeIs (.ref a) "dict":=by
 rcases g with ⟨kvs,k,e,_,_⟩ | ⟨kvs,k,b,e,_,_,_⟩ | ⟨kvs,k,b,e,_,_,_⟩
 ·obtain ⟨_,_,vs,_,dd⟩:=yw I.hok e;exact dd.typeIs
 ·obtain ⟨_,_,xs,_,dd⟩:=yq I.hok e;exact dd.typeIs
 ·obtain ⟨_,_,xs,_,dd⟩:=yu I.hok e;exact dd.typeIs
def vR (td ty:TE):TE:=λσ H Q=>td σ H λx H1=>ty σ H1 λy H2=> ∃ a v,x=.ref a/\DGet H2 a y (some v)/\Q v H2
def B4 (td ty tv:TE):TS:=λD σ H=>tv σ H λv H1=>td σ H1 λx H2=>ty σ H2 λy H3=> ∃ a H4,x=.ref a/\DPut H3 a y v H4/\D.nx σ H4
section
variable {X:Cx} {o i e value:Expr} {pos pos' tpos:Pos} {td ty tv:TE}
theorem eX (hu:X.A.units+16<cLine) (ho:PE X o td) (hi:PE X i ty) (hs:BK i):PE X (.Subscript o i pos) (vR td ty):=by
 intro pins s σ H Q I h;refine sG PySem.F.slot_dict_getitem.lookup hs (thn (ho pins s σ H _ I h) λu s1 ⟨x,H1,I1,rx,q1⟩=>thn (hi pins s1 σ H1 _ I1 q1) λiv s2 ⟨y,H2,I2,ry,a,v,ex,g,q2⟩=>?_);subst ex;obtain rfl:u=Value.ref a:=rx;exact ⟨qi I2 g,vy hu I2 g ry λw' s3 I3 rw'=>⟨v,H2,I3,rw',q2⟩⟩
theorem i9 (hu:X.A.units+16<cLine) (ho:PE X o td) (hi:PE X i ty) (hv:PE X value tv) (hs:swapsWith value (some (.Subscript o i pos')) pos.line X.env=pure false):
  PS X (.Assign [.Subscript o i pos'] value pos) (B4 td ty tv):=by
 intro pins s σ H D I h;refine wpAny_Assign_Subscript (thn (hv pins s σ H _ I h) λr s1 ⟨v,H1,I1,rv,q1⟩=>thn (ho pins s1 σ H1 _ I1 q1) λu s2 ⟨x,H2,I2,rx,q2⟩=>thn (hi pins s2 σ H2 _ I2 q2) λiv s3 ⟨y,H3,I3,ry,a,H4,ex,g,q3⟩=>?_) hs;subst ex;obtain rfl:u=Value.ref a:=rx;exact vx hu I3 g ry rv λs4 I4=>⟨σ,H4,I4,q3⟩
end
theorem yx {P:Program} {w:World} {H:Hp} (h:Heap) (hb:sysModules<h.objs.size):ObjOk P w H (h.push {cls:=.type "dict",data:=.dict #[]}) h.objs.size (.dK []):=
 ⟨Er _,Fn.mpr (EI (Eg hb)),[],.nil,Heap.DictOf.new h⟩
theorem yr {P:Program} {w:World} {H:Hp} (h:Heap) (hb:sysModules<h.objs.size):ObjOk P w H (h.push {cls:=.type "dict",data:=.dict #[]}) h.objs.size (.dT []):=
 ⟨Er _,Fn.mpr (EI (Eg hb)),[],.nil,_,#[],0,DS _ rfl,⟨rfl,rfl,rfl⟩,rfl,rfl,Ho⟩
def AS:TE:=λ_ H Q=> ∀ p,H p=none->Q (.ref p) (upd H p (.dK []))
def AR:TE:=λ_ H Q=> ∀ p,H p=none->Q (.ref p) (upd H p (.dT []))
section
variable {X:Cx} {pos:Pos}
theorem jb:PE X (.Dict [] [] pos) AS:=λpins s σ H Q I h=>
 wpAny_Dict_empty ⟨.ref s.heap.objs.size,_,I.laid (a:=s.heap.objs.size) (o:=.dK []) (t':=s.toks) (λ_ _ q=>Dz _ q) (DI _) (yx s.heap I.big),rfl,h _ (I.hok.fresh (DI _))⟩
theorem pF:PE X (.Dict [] [] pos) AR:=λpins s σ H Q I h=>
 wpAny_Dict_empty ⟨.ref s.heap.objs.size,_,I.laid (a:=s.heap.objs.size) (o:=.dT []) (t':=s.toks) (λ_ _ q=>Dz _ q) (DI _) (yr s.heap I.big),rfl,h _ (I.hok.fresh (DI _))⟩
end
end L2
namespace Att
open PySem PySem.W PySem.Calls PyProof.Rows
theorem j9 {P:Params} {h:Heap}: ∀ (ns:List Int) (vs:List Value),WellAll P h vs (ns.map WData.int)->IntsAre vs ns:=by
 intro ns;induction ns with
 | nil=>
  intro vs w;rw [List.map_nil]at w;cases w;exact .nil
 | cons n ns ih=>
  intro vs w;rw [Fa]at w;cases w with
  | cons a b=>
   cases a;exact .cons _ _ (ih _ b)
theorem uu {l:OpenLaw} {n:Nat} (hn:l.most=some n) {P:Params} {h:Heap} {args:List WData} {vals:List Value}
  (hpre:l.row.toRowW.claim.pre args=true) (hwl:WellAll P h vals args):
  ∃ a vs ns,vals=[Value.ref a]/\args=[WData.list (ns.map WData.int)]/\h.get? a=some {cls:=.type "list",data:=.seq vs.toArray}/\IntsAre vs ns/\ns.length<=n:=by
 have hsh:WShape.hasAll [] args [.list .int]=true:=(pre_splitW hpre).1;have hc:l.pre.holds [] {args:=args}=true:=(pre_splitW hpre).2;obtain ⟨d,r,rfl,h1,h2⟩:=hasAllW_cons hsh;obtain rfl:=hasAllW_nil h2;obtain ⟨xs,rfl,h3⟩:=hasW_list h1;obtain ⟨ns,rfl⟩:=items_int h3;have hlen:ns.length<=n:=by
  unfold OpenLaw.pre at hc;have h4:(WTm.not (.lt (.lit (.int (n:Int))) (.len (.arg 0)))).holds [] {args:=[.list (ns.map .int)]}=true:=by
   have h4:=(holds_andW hc).1;rw [hn]at h4;exact h4
  have h5:=condW_of h4 (w_not (w_lt w_lit (w_len_list (w_arg rfl))));rw [Dx]at h5;refine Nat.le_of_not_lt λq=>?_;have q':(n:Int) < ((ns.length:Nat):Int):=by lia
  first
   | (rw [DB q']at h5;exact absurd h5 (by decide))
   | (simp at h5;lia)
 cases hwl with
 | cons w1 w2=>
  cases w2;cases w1 with
  | list ho hall=>exact ⟨_,_,ns,rfl,rfl,ho,j9 ns _ hall,hlen⟩
theorem uE (l:OpenLaw) (args:List WData):l.row.toRowW.claim.post args (.bool true) args=true:=
 postW_of (r:=l.row.toRowW) (X:=(true==true))
  (show WShape.has [] (.bool true) .bool=true by first | rfl | decide | simp [WShape.has,WShape.arms,WShape.armsAll])
  (show (WTm.eq .res (.lit (.bool true))).value [] {args:=args,res:=some (.bool true),after:=args}=some (.bool (true==true))from w_eq_bool (w_res rfl) w_lit) rfl
theorem attach_call {l:OpenLaw} {n:Nat} {q:Program} {loose:List Str} {XP:(Str->Option Value)->Heap->Prop} {YP:World->Heap->Prop} {d:DefRec}
  (hn:l.most=some n) (hdf:d.params.defaults=[])
  (call: ∀ (w:World) (s₀ s₁:Shared) (mg mb:Str->Option Value) (fa:Addr) (o:Obj) (pm cd doc:Value) (a:Addr) (vs:List Value) (ns:List Int),
   Ground q loose [] XP w s₀ mg mb s₁.heap->YP w s₁.heap->
   s₁.heap.get? fa=some o->o.data=.func (docDef d.name d.params d.body d.scope pm cd doc)->s₁.heap.CodeRec cd d.name->mg d.name=some (.ref fa)->
   s₁.heap.get? a=some {cls:=.type "list",data:=.seq vs.toArray}->IntsAre vs ns->ns.length<=n->s₁.gens= #[]->
   codeAny (model l.prog w) callerA (.call (.ref fa) ⟨[.ref a],[]⟩) (λr s'=>r=.ok (.ret (.bool true))/\OldK s₁.heap s'.heap/\s'.os=s₁.os/\AllBare s'.gens) s₁):
  WalkO q loose XP YP l.row.toRowW d [] (λf vs=>PySem.call f vs):=by
 intro w s₀ s₁ mg mb G Y fa o pm cd doc dV kV ho hd hcd hD hmg hg args vals as hpre hlay hrd hwl hlo;obtain rfl:dV=.none:=Dflts.none hD hdf;obtain rfl:kV=.none:=Dflts.noKw hD;obtain ⟨a,vs,ns,rfl,rfl,hobj,hints,hlen⟩:=uu hn hpre hwl;refine enter_call (Gx (call w s₀ s₁ mg mb fa o pm cd doc a vs ns G Y ho (fd_plain hd) hcd hmg hobj hints hlen hg) λr s' hq=>?_);obtain ⟨rfl,h2,h3,h4⟩:=hq;exact ⟨.inl ⟨.bool true,.bool true,[],rfl,λ_=>rfl,.bool true,uE l _,λ_=>⟨List.Pairwise.nil,λ_ hm=>(nomatch hm)⟩⟩,h2,h3,h4⟩
end Att
namespace L2
open PySem PySem.Spec PyProof.Rows
theorem lQ: ∀ {vs:List Value} {ns:List Int},IntsAre vs ns->Vals (ns.map V.int) vs
 | _,_,.nil=>.nil
 | _,_,.cons n t h=>.cons ⟨t,rfl⟩ (lQ h)
def BJ (H:Hp):Prop:= ∀ b,H b=none\/ ∃ o xs,H b=some (.frz o (.lst xs))
theorem xM {P:Program} {w:World} {K:W.Frag} {mg mb:Str->Option Value} {CX:CXT} {k:Nat} {fa a:Addr} {fd:FuncData} {x:Str} {sp:Sp} {s₁:Shared} {vs:List Value} {ns:List Int}
  (KX:K.In s₁.heap) (hns:s₁.heap.Ns mainGlobals mg) (hb:s₁.heap.Ns builtinsNs mb) (hbb: ∀ x:Str,x≠"__name__"->mb x=bootBuiltins x) (hlim:s₁.heap.NoLimit) (hg:s₁.gens= #[])
  (ha:s₁.heap.get? a=some {cls:=.type "list",data:=.seq vs.toArray}) (hi:IntsAre vs ns) (hl:ns.length<=sizeLine) (hr:Room k callerA)
  (F: ∀ base:Heap,K.In base->base.Ns mainGlobals mg->aX P w K mg base CX k fa fd [x] sp) (hbind: ∀ (s:Shared) (u:Value),BindsTo s fd ⟨[u],[]⟩ [(x,u)])
  (hsp: ∀ H:Hp,BJ H->SqL K H a (ns.map V.int)->sp [.ref a] H (λv _=>v=.bl true) λ_ _ _=>False)
  (hCX: ∀ H e s',CX [] H s₁ (λ_ _ _=>False) e s'->False):
  codeAny (model P w) callerA (.call (.ref fa) ⟨[.ref a],[]⟩) (λr s'=>r=.ok (.ret (.bool true))/\OldK s₁.heap s'.heap/\s'.os=s₁.os/\AllBare s'.gens) s₁:=by
 have rv:=lQ hi;have lenV:=hi.length;have core: ∀ H:Hp,BJ H->SqL K H a (ns.map V.int)->HOk P w H s₁.heap->(∀ b,H b≠none->b=a)->(H a≠none->K.lookup a=none)->
   codeAny (model P w) callerA (.call (.ref fa) ⟨[.ref a],[]⟩) (λr s'=>r=.ok (.ret (.bool true))/\OldK s₁.heap s'.heap/\s'.os=s₁.os/\AllBare s'.gens) s₁:=by
  intro H hO hS hok hA hK;have base_of: ∀ {b:Addr} {o:Obj},s₁.heap.get? b=some o->H b=none->(oq s₁.heap H).get? b=some o:=λe n=>ye e n;have noA: ∀ {b:Addr} {o:Obj} {es:Array DictEntry} {ep:Nat},s₁.heap.get? b=some o->o.data=.dict es ep->H b=none:=λ{b o es ep} e d=>by
   cases q:H b with
   | none=>rfl
   | some u=>
    have e':b=a:=hA b (by rw [q];simp);subst e';rw [ha]at e;cases e;have d':Data.seq vs.toArray _=Data.dict es ep:=d;cases d'
  have nsK: ∀ {b:Addr} {m:Str->Option Value},s₁.heap.Ns b m->(oq s₁.heap H).Ns b m:=λ{b m} ⟨o,es,ep,e,d,r⟩=>⟨o,es,ep,base_of e (noA e d),d,r⟩;have hKb:K.In (oq s₁.heap H):=λb o e=>base_of (KX b o e) (by
   cases q:H b with
   | none=>rfl
   | some u=>
    have e':b=a:=hA b (by rw [q];simp);subst e';rw [hK (by rw [q];simp)]at e;cases e)
  have hM:Mod K mg (oq s₁.heap H):=⟨hKb,nsK hns,⟨mb,nsK hb,hbb⟩,let ⟨mc,h1,h2⟩:=hlim;⟨mc,nsK h1,h2⟩⟩;have e0:Env0 P w K mg (oq s₁.heap H) callerA [] s₁ H:=⟨rfl,hM,λb o e=>zI e,Nat.le_of_eq (vj _ _),trivial,λb hb=>absurd (show b∈([]:List Addr)from hb) (by simp),hok,.of_eq hg⟩;refine Gx ((F _ hKb (nsK hns)).run callerA [] s₁ H ⟨[.ref a],[]⟩ [.ref a] [.ref a] _ _ hr e0 (hbind s₁ (.ref a)) (.cons rfl .nil) (hsp H hO hS)) λr s' h=>?_;cases r with
  | error e=>exact (hCX H e s' h).elim
  | ok fl=>
   cases fl with
   | next=>exact False.elim h
   | brk=>exact False.elim h
   | cont=>exact False.elim h
   | ret u=>
    obtain ⟨v,H',os,bare,un,hok',r',q⟩:=h;have q':v=.bl true:=q;subst q';obtain rfl:u=Value.bool true:=r';refine ⟨rfl,OldK.of_keep λb o e=>?_,os,bare⟩;cases q:H b with
    | none=>exact un.keep b o e q (by intro z;exact absurd (show b∈([]:List Addr)from z) (by simp)) (by simp)
    | some u=>
     rcases hO b with z | ⟨ob,xs,z⟩
     ·rw [q]at z;cases z
     ·have z2:=un.frzs b ob _ z;obtain ⟨e1,_⟩:=hok b _ z;obtain ⟨e2,_⟩:=hok' b _ z2;rw [e]at e1;cases e1;exact e2
 cases hk:K.lookup a with
 | some o=>
  have e:=KX a o hk;rw [ha]at e;cases e;refine core (λ_=>none) (λ_=>.inl rfl) (.inr ⟨_,vs.toArray,_,hk,rfl,rfl,rfl,by rw [DL,lenV];exact hl,by simpa using rv⟩) (λb u z=>by have z':(none:Option HO)=some u:=z;cases z') (λb z=>absurd rfl z) λz=>absurd rfl z
 | none=>
  refine core (λb=>if b=a then some (.frz {cls:=.type "list",data:=.seq vs.toArray} (.lst (ns.map V.int)))else none) (λb=>?_) (.inl (.inr ⟨{cls:=.type "list",data:=.seq vs.toArray},Ea rfl⟩)) (λb u z=>?_) (λb z=>?_) λ_=>hk
  ·by_cases hb:b=a
   ·exact .inr ⟨_,_,Ea hb⟩
   ·exact .inl (DU hb)
  ·by_cases hb:b=a
   ·have z':=(Ea hb).symm.trans z;cases z';subst hb;exact ⟨ha,by rw [Dx];exact hl,vs,_,rv,ha⟩
   ·have z':=(DU hb).symm.trans z;cases z'
  ·by_cases hb:b=a
   ·exact hb
   ·exact absurd (DU hb) z
theorem walk_of {l:W.OpenLaw} {n k:Nat} {q:Program} {loose:List Str} {XP:(Str->Option Value)->Heap->Prop} {YP:World->Heap->Prop} {d:DefRec} {K:Params->W.Frag} {CX:World->CXT} {sp:World->Sp} {x:Str}
  (hn:l.most=some n) (hn2:n<=sizeLine) (hdf:d.params.defaults=[]) (hr:Room k callerA)
  (hY: ∀ (w:World) (h:Heap),YP w h->(K w.params).In h)
  (F: ∀ (w:World) (mg:Str->Option Value) (fa:Addr) (h:Heap),(K w.params).In h->h.Ns mainGlobals mg->mg d.name=some (.ref fa)->
   ∃ fd:FuncData,(∀ (s:Shared) (u:Value),BindsTo s fd ⟨[u],[]⟩ [(x,u)])/\
    ∀ base:Heap,(K w.params).In base->base.Ns mainGlobals mg->aX l.prog w (K w.params) mg base (CX w) k fa fd [x] (sp w))
  (hsp: ∀ (w:World) (H:Hp) (a:Addr) (ns:List Int),ns.length<=n->BJ H->SqL (K w.params) H a (ns.map V.int)->sp w [.ref a] H (λv _=>v=.bl true) λ_ _ _=>False)
  (hCX: ∀ (w:World) (H:Hp) (s:Shared) (e:Value) (s':Shared),CX w [] H s (λ_ _ _=>False) e s'->False):
  W.WalkO q loose XP YP l.row.toRowW d [] (λf vs=>PySem.call f vs):=by
 refine Att.attach_call hn hdf λw s₀ s₁ mg mb fa o pm cd doc a vs ns G Y ho hd hcd hmg hobj hints hlen hg=>?_;have KX:=hY w _ Y;obtain ⟨fd,hb,hF⟩:=F w mg fa _ KX G.T.g hmg;exact xM KX G.T.g G.T.b G.T.builtins G.T.nolimit hg hobj hints (Eh hlen hn2) hr hF hb (λH hO hS=>hsp w H a ns hlen hO hS) λH e s'=>hCX w H s₁ e s'
noncomputable def iq (s:Stmt):Arguments:=match s with
 | .FunctionDef _ a _ _ _ _ _ _ _ _=>a
 | _=>{posonlyargs:=[],args:=[],vararg:=none,kwonlyargs:=[],kw_defaults:=[],kwarg:=none,defaults:=[]}
noncomputable def aO (s:Stmt):List Stmt:=match s with
 | .FunctionDef _ _ b _ _ _ _ _ _ _=>b
 | _=>[]
noncomputable def ah (s:Stmt):Scope:=match s with
 | .FunctionDef _ _ _ _ _ _ sc _ _ _=>sc
 | _=>{kind:=.function,names:=[],isGenerator:=false,isCoroutine:=false}
noncomputable abbrev CX0:CXT:=λ_ _ _ _ _ _=>False
noncomputable abbrev E0:XK:=λ_ _ _=>False
theorem sV {X:Cx}:lJ CX0 X E0:=λ_ _ _ _ _ _ _ h=>h.elim
section
variable {X:Cx} {CX:CXT} {k:Nat} {f C:Addr} {fd:FuncData} {ps:List Str} {sp:Sp} {E:XK} {x:Str} {p pos:Pos} {e:Expr} {es:List Expr} {t:TA}
theorem Cc (G:Cl X.prog X.w X.K X.mg X.base CX k f fd ps sp x) (hr:Room k X.A) (hx:lJ CX X E) (ha:PA X (e::es) t) (hg:Gl X x:=by rfl) (hdb:(x==("__debug__":Str))=false:=by decide) (he:starEach (e::es) X.env=(false,eval e X.env)::starEach es X.env:=by rfl) (hpl:(backTo pos (starEach es X.env)).any (·.1)=false:=by rfl):
  PE X (.Call (.Name x p) (e::es) [] pos) (lW sp [] E t):=nU G.F hr hg G.m G.c G.b .nil hx ha hdb he hpl
theorem pcl (G:Cl X.prog X.w X.K X.mg X.base CX0 k f fd ps sp x) (hr:Room k X.A) (ha:PA X (e::es) t) (hg:Gl X x:=by rfl) (hdb:(x==("__debug__":Str))=false:=by decide) (he:starEach (e::es) X.env=(false,eval e X.env)::starEach es X.env:=by rfl) (hpl:(backTo pos (starEach es X.env)).any (·.1)=false:=by rfl):
  PE X (.Call (.Name x p) (e::es) [] pos) (lW sp [] E0 t):=Cc G hr sV ha hg hdb he hpl
end
structure Fun (K:W.Frag) (x qual:Str) (st:Stmt) (f:Addr) (fd:FuncData):Prop where
 ex: ∃ (oc:Value) (od:Option Addr) (kV doc pm:Value) (an:Option Addr) (cdv ct:Value) (osl:Array (Option Value)),
  fd=W.fnOf x qual (iq st) (aO st) (ah st) .none kV doc pm an cdv ct/\K.lookup f=some ⟨oc,od,.func fd,osl⟩/\W.codeIn K cdv qual=true
 kp:W.keepIn K (.ref f)=true
section
variable {P:Program} {w:World} {K:W.Frag} {mg:Str->Option Value} {base:Heap}
theorem Fun.ok {x qual:Str} {st:Stmt} {f:Addr} {fd:FuncData} {N ps:List Str} {k:Nat} {sp:Sp} (F:Fun K x qual st f fd) (S:av N ps (ah st)) (len: ∀ vs H Q E,sp vs H Q E->vs.length=ps.length)
  (hbody: ∀ (cdv:Value) (A:Around) (outer:List Env) (s:Shared) (H:Hp) (vs:List V) (Q:VK) (E:XK),Room k (A.deeper (envOfC qual (ah st) s.heap.objs.size f cdv))->sp vs H Q E->
   ∃ t,PSs (dv CX0 P w K mg base N qual (ah st) f cdv A outer s H E).nox (aO st) t/\t {nx:=λ_ H'=>Q .non H',rt:=Q} (start N vs) H):aX P w K mg base CX0 (k+1) f fd ps sp:=by
 obtain ⟨oc,od,kV,doc,pm,an,cdv,ct,osl,rfl,lk,hcd⟩:=F.ex;refine AD lk hcd S len λA outer s H vs Q E hr hsp=>?_;obtain ⟨t,h,q⟩:=hbody cdv A outer s H vs Q E hr hsp;exact ⟨t,h.nox,q⟩
theorem Fun.binds {x qual:Str} {st:Stmt} {f:Addr} {fd:FuncData} {ps:List Str} (F:Fun K x qual st f fd)
  (h: ∀ (kV doc pm:Value) (an:Option Addr) (cdv ct:Value) (us:List Value),us.length=ps.length->bindArgs (W.fnOf x qual (iq st) (aO st) (ah st) .none kV doc pm an cdv ct) ⟨us,[]⟩=pure (ps.zip us)):Binds K fd ps []:=by
 obtain ⟨oc,od,kV,doc,pm,an,cdv,ct,osl,rfl,lk,hcd⟩:=F.ex;exact .all (h kV doc pm an cdv ct)
end
theorem mq {A:Around} {k:Nat} (hr:Room k A):A.units+16<cLine:=FB (Nat.add_le_add_left (by decide:16<=64) _) hr.units
theorem aK {n:Nat} (h:n<=1000):n<sizeLine:=FB h (by decide)
section
variable {X:Cx}
theorem pv (i:Nat) {x:Str} {pos:Pos} (hN:X.N[i]? =some x:=by rfl) (hv:Vis X.env.scope x:=by first | exact Or.inl rfl | exact Or.inr (Or.inl rfl) | exact Or.inr (Or.inr rfl)) (hd:(x==("__debug__":Str))=false:=by decide)
  (hcd:(x==("__classdict__":Str))=false:=by decide):PE X (.Name x pos) (gC i):=wY hN hv hd hcd
end
theorem bx {A B:Prop} (h:B):if false=true then A else B:=by
 rw [DU DM];exact h
theorem bE {A B:Prop} (h:A):if true=true then A else B:=by
 rw [Ea rfl];exact h
theorem bp {c A B:Prop} [Decidable c] (h1:c->A) (h2: ¬ c->B):if c then A else B:=by
 by_cases h:c
 ·rw [Ea h];exact h1 h
 ·rw [DU h];exact h2 h
def Same (H H':Hp):Prop:= ∀ b o,H b=some o->H' b=some o
theorem Same.refl (H:Hp):Same H H:=λ_ _ h=>h
theorem Same.trans {H H1 H2:Hp} (a:Same H H1) (b:Same H1 H2):Same H H2:=λc o h=>b c o (a c o h)
theorem Same.free {H H':Hp} (e:Same H H') {l:Addr} (h:H' l=Option.none):H l=Option.none:=by
 cases q:H l with
 | none=>rfl
 | some o=>
  rw [e l o q]at h;cases h
section
variable {κ:Type} [DecidableEq κ]
theorem yO {kvs:List (κ×V)} {k:κ} {v:V} (h:cz kvs k=some v):k∈kvs.map (·.1):=by
 have q:(kvs.any λkv=>decide (kv.1=k))=true:=by
  rw [eD,h];all_goals rfl
 obtain ⟨p,hp,e⟩:=Gc.mp q;exact DY.mpr ⟨p,hp,DT e⟩
end
theorem psz {X:Cx} {x:Str} {e:Expr} {te:TE} {pos pos':Pos} (i:Nat) (hN:X.N.Nodup) (he:PE X e te) (hs:swapsWith e (some (.Name x pos')) pos.line X.env=pure false:=by rfl) (hf:X.fn x=true\/X.env.scope.names.lookup x=some .local:=by first | exact .inl rfl | exact .inr rfl | assumption) (hi:X.N[i]? =some x:=by rfl) (hx:Loc X.env.scope x:=by exact .inl rfl):PS X (.Assign [.Name x pos'] e pos) (mX te (eM i)):=cY hN hi hx he hs hf
theorem pgz {X:Cx} {x:Str} {pos:Pos} (i:Nat) (hN:X.N.Nodup) (hf:X.fn x=true\/X.env.scope.names.lookup x=some .local:=by first | exact .inl rfl | exact .inr rfl | assumption) (hi:X.N[i]? =some x:=by rfl) (hx:Loc X.env.scope x:=by exact .inl rfl):PG X (.Name x pos) (eM i):=dD hN hi hx hf
theorem wo:0<=sizeLine:=by decide
theorem qK:1<=sizeLine:=by decide
theorem gH:2<=sizeLine:=by decide
theorem oZ:3<=sizeLine:=by decide
theorem fsc {N P:List Str} {sc:Scope} (a:sc.kind=.function:=by rfl) (b:sc.isCoroutine=false:=by rfl) (c:sc.isGenerator=false:=by rfl) (d:N.Nodup:=by decide +kernel) (e:N.take P.length=P:=by rfl) (f: ∀ x∈P,sc.names.lookup x=some .local\/sc.names.lookup x=some .cell:=by decide +kernel) (g: ∀ y∈sc.names,y.2≠ .free:=by decide +kernel):av N P sc:=⟨a,b,c,d,e,f,g⟩
theorem Fun.okz {P:Program} {w:World} {K:W.Frag} {mg:Str->Option Value} {base:Heap} {x qual:Str} {st:Stmt} {f:Addr} {fd:FuncData} {N ps:List Str} {k:Nat} {sp:Sp} (F:Fun K x qual st f fd) (S:av N ps (ah st))
  (hbody: ∀ (cdv:Value) (A:Around) (outer:List Env) (s:Shared) (H:Hp) (vs:List V) (Q:VK) (E:XK),Room k (A.deeper (envOfC qual (ah st) s.heap.objs.size f cdv))->sp vs H Q E->
   ∃ t,PSs (dv CX0 P w K mg base N qual (ah st) f cdv A outer s H E).nox (aO st) t/\t {nx:=λ_ H'=>Q .non H',rt:=Q} (start N vs) H)
  (len: ∀ vs H Q E,sp vs H Q E->vs.length=ps.length:=by (intro vs H Q E h;first | (cases h;subst_vars;rfl) | ((repeat rcases h with ⟨_,h⟩);subst_vars;rfl))):aX P w K mg base CX0 (k+1) f fd ps sp:=F.ok S len hbody
section
variable {X:Cx}
theorem yD:dU X (.builtin "isinstance") (λxs H Q=> ∃ x T t b,xs=[x,.ty T]/\jt X.K H x t/\W.kitOne X.K t (.type T)=some b/\Q (.bl b) H):=by
 intro pins s σ H xs us Q I r h;obtain ⟨x,T,t,b,rfl,ty,e,q⟩:=h;obtain ⟨u,w',rfl,ru,rw'⟩:=kx r;cases (show w'=Value.type T from rw');exact vh I ru ty e λtk=>⟨.bl b,H,I.tok tk,rfl,q⟩
theorem ma:OpR X (compareOp .LtE) (λx y H Q=> ∃ i j,x=.str i/\y=.str j/\Q (.bl (!decide (j.cps.toList<i.cps.toList))) H):=by
 intro pins s σ H x y v u Q I rx ry h;obtain ⟨i,j,rfl,rfl,q⟩:=h;obtain ⟨t,rfl⟩:=rx;obtain ⟨t',rfl⟩:=ry;exact PySem.P.le_str (bd I q rfl)
end
noncomputable def Itw (n:Nat) (R:Nat->V->Prop):It:=⟨λi _=>i<n,λi H x H'=>H'=H/\R i x,λi _=>i=n⟩
theorem qw {P:Program} {w:World} {K:W.Frag} {tg:Expr} (it:Addr) (n:Nat) (Pv:Nat->Value->Prop) (tn:Nat->Heap->Prop) (R:Nat->V->Prop)
  (hW: ∀ A:Around,A.handled=none->Walks P w A it [it] [it] n Pv tn)
  (hobj: ∀ i h,tn i h-> ∃ (o:Obj) (nm:String) (vs:Array Value),h.get? it=some o/\o.cls=.type nm/\o.data=.fields vs/\
   ["enumerate","zip","dict_itemiterator","dict_reverseitemiterator","odict_iterator","itertools.zip_longest","itertools.pairwise"].contains nm=false)
  (hP: ∀ i v,Pv i v-> ∃ x,RelV x v/\R i x)
  (hself: ∀ (A:Around) (i:Nat) (s:Shared) (Q:Value->Shared->Prop) (E:Value->Shared->Prop),tn i s.heap->Q (.ref it) s->wpAny (model P w) A (pyIter (.ref it)) Q E s):qt P w K tg (Itw n R) [it] it tn where
 mem:=by simp
 obj:=λi h st b hb=>by
  have e:b=it:=by simpa using hb
  subst e;obtain ⟨o,nm,vs,e,_,d,_⟩:=hobj i h st;exact ⟨o,e,λv z=>by rw [d]at z;cases z⟩
 keep:=λi h h' st k=>(hW callerA rfl).frame i h h' st λb hb o e=>k b hb o e
 item:=by
  intro X hP' hw hK hc i pins s σ H E I hf st hg;subst hP' hw hK;obtain ⟨f0,f1,f2,f3,f4,f5⟩:=hf it (by simp);refine (hW X.A (I.ok.hd hc)).item i s _ _ hg st λv h' tk hv st' kk=>?_;obtain ⟨x,rx,qx⟩:=hP i v hv;have I1:Inv X pins σ H {s with heap:=h',toks:=tk}:=I.turned (λb o hb e=>kk b o (by simpa using hb) e) f0 f1 f3 f4 f5;obtain ⟨o,nm,vs,e,c,d,ne⟩:=hobj _ _ st';exact ⟨v,rfl,mw (s:={s with heap:=h',toks:=tk}) e c d ne ⟨x,H,I1,rx,⟨rfl,qx⟩,st',λb hb=>(hf b hb).1⟩⟩
 done:=by
  intro X hP' hw hK hc i pins s σ H E I hf st hg;subst hP' hw hK;obtain ⟨f0,f1,f2,f3,f4,f5⟩:=hf it (by simp);have hg':i=n:=hg;subst hg';exact (hW X.A (I.ok.hd hc)).done s _ _ st λh' tk kk=>⟨rfl,I.turned (t':=tk) (λb o hb e=>kk b o (by simpa using hb) e) f0 f1 f3 f4 f5⟩
 self:=hself
section
variable {X:Cx} {tg:Expr}
noncomputable def Db (tl:TE):TI:=λσ H R=>tl σ H λx H1=> ∃ z,x=.str z/\R (Itw z.length λi v=> ∃ c,z.cps[i]? =some c/\v=.str ⟨#[c]⟩) H1
theorem Ba {l:Expr} {tl:TE} (hl:PE X l tl):PI X tg l (Db tl):=by
 intro pins s σ H R I h;refine thn (hl pins s σ H _ I h) λv s1 ⟨x,H1,I1,r1,z,ez,q⟩=>?_;subst ez;obtain ⟨t,rfl⟩:=r1;have go: ∀ (T:String) (o:Obj),(∀ (A:Around) (i:Nat) (s:Shared) (Q:Value->Shared->Prop) (E:Value->Shared->Prop),s.heap.IsStrIter s1.heap.objs.size T z t i->Q (.ref s1.heap.objs.size) s->wpAny (model X.prog X.w) A (pyIter (.ref s1.heap.objs.size)) Q E s)->(∀ A:Around,A.handled=none->Walks X.prog X.w A s1.heap.objs.size [s1.heap.objs.size] [s1.heap.objs.size] z.cps.size (SignAt z) (λi h=>h.IsStrIter s1.heap.objs.size T z t i))->
   ["enumerate","zip","dict_itemiterator","dict_reverseitemiterator","odict_iterator","itertools.zip_longest","itertools.pairwise"].contains T=false->
   (s1.heap.push o).IsStrIter s1.heap.objs.size T z t 0->PIE X pins σ tg R (.ref s1.heap.objs.size) {s1 with heap:=s1.heap.push o}:=by
  intro T o hS hW hT st;refine ⟨s1.heap.objs.size,[s1.heap.objs.size],_,Itw z.length λi v=> ∃ c,z.cps[i]? =some c/\v=.str ⟨#[c]⟩,H1,rfl,I1.kept (t':=s1.toks) λb o e=>Dz _ e,
   qw s1.heap.objs.size z.length (SignAt z) (λi h=>h.IsStrIter s1.heap.objs.size T z t i) _ hW (λi h st=>?_) (λi v hv=>?_) hS,st,λb hb=>?_,q⟩
  ·obtain ⟨o,e,c,d⟩:=st;exact ⟨o,T,_,e,c,d,hT⟩
  ·obtain ⟨c,u,e,rfl⟩:=hv;exact ⟨.str ⟨#[c]⟩,⟨u,rfl⟩,c,e,rfl⟩
  ·have e:b=s1.heap.objs.size:=by simpa using hb
   subst e;exact I1.fpOk (DI _) I1.fresh
 cases ha:z.cps.all (· <128)
 ·exact wpAny_pyIter_wide ha (go "str_iterator" _ (λ_ _ _ _ _ st h=>wpAny_pyIter_striter_wide st h) (λA hA=>Walks.strWide hA _ z t) (by decide) ⟨_,DS _ rfl,rfl,rfl⟩)
 ·exact wpAny_pyIter_ascii ha (go "str_ascii_iterator" _ (λ_ _ _ _ _ st h=>wpAny_pyIter_striter_ascii st h) (λA hA=>Walks.strAscii hA _ z t) (by decide) ⟨_,DS _ rfl,rfl,rfl⟩)
end
theorem jl {α β:Type} {f:α->β->Sem (ForInStep β)} (g:β->α->β): ∀ {l:List α} (c:β),(∀ x∈l,∀ c,f x c=pure (.yield (g c x)))->forIn l c f=pure (l.foldl g c)
 | [],c,_=>rfl
 | x::l,c,h=>by
  have hx:=h x DW c;rw [Fo,hx,pure_bind];exact jl g (g c x) λy hy=>h y (DZ _ hy)
noncomputable def cy (cells:List (Str×Addr)) (c:List (Str×Addr)) (x:Str×NameKind):List (Str×Addr):=
 if x.2=.free then (match cells.lookup x.1 with | some a=>(x.1,a)::c | none=>c)else c
noncomputable def dQ (cells:List (Str×Addr)) (names:List (Str×NameKind)):List (Str×Addr):=names.foldl (cy cells) []
theorem ff {scope:Scope} {env:Env} (h: ∀ x∈scope.names,x.2=.free-> ∃ c,env.cells.lookup x.1=some c):closureFor scope env=pure (dQ env.cells scope.names):=by
 simp only [closureFor];rw [jl (cy env.cells) [] (λx hx c=>by
  obtain ⟨n,kind⟩:=x;by_cases hk:kind=.free
  ·subst hk;obtain ⟨a,ha⟩:=h _ hx rfl;simp only [cy,Gw,Iu,cellOf,ha,pure_bind]
  ·have hb:(kind==NameKind.free)=false:=by simpa using hk
   simp only [cy,hb,hk,El,EN])]
 rfl
theorem lF {cells:List (Str×Addr)}: ∀ {names:List (Str×NameKind)} {acc:List (Str×Addr)},(∀ p∈acc,cells.lookup p.1=some p.2)-> ∀ p∈names.foldl (cy cells) acc,cells.lookup p.1=some p.2
 | [],_,h=>h
 | x::r,acc,h=>by
  refine lF (names:=r) (acc:=cy cells acc x) ?_;intro p hp;unfold cy at hp;split at hp
  ·split at hp
   ·rename_i a ha;rcases DK.mp hp with e | e
    ·subst e;exact ha
    ·exact h p e
   ·exact h p hp
  ·exact h p hp
theorem lG {cells:List (Str×Addr)}: ∀ {names:List (Str×NameKind)} {acc:List (Str×Addr)} {p:Str×Addr},p∈acc->p∈names.foldl (cy cells) acc
 | [],_,_,h=>h
 | x::r,acc,p,h=>by
  refine lG (names:=r) (acc:=cy cells acc x) ?_;unfold cy;split
  ·split
   ·exact DZ _ h
   ·exact h
  ·exact h
theorem ql {cells:List (Str×Addr)} {n:Str} {c:Addr} (hc:cells.lookup n=some c): ∀ {names:List (Str×NameKind)} {acc:List (Str×Addr)},(n,NameKind.free)∈names->(n,c)∈names.foldl (cy cells) acc
 | [],_,h=>by simp at h
 | x::r,acc,h=>by
  rcases DK.mp h with e | e
  ·subst e;refine lG (names:=r) ?_;simp [cy,hc]
  ·exact ql hc (names:=r) e
theorem mem_of_lookup {α β:Type} [BEq α] [LawfulBEq α] {k:α} {v:β}: ∀ {l:List (α×β)},l.lookup k=some v->(k,v)∈l
 | [],h=>by simp at h
 | (a,b)::r,h=>by
  rw [List.lookup_cons]at h;split at h
  ·rename_i e;have:=eq_of_beq e;subst this;cases h;exact DW
  ·exact DZ _ (mem_of_lookup h)
theorem iz {α β:Type} [BEq α] [LawfulBEq α] {k:α} {v:β}: ∀ {l:List (α×β)},(k,v)∈l-> ∃ v',l.lookup k=some v'
 | [],h=>by simp at h
 | (a,b)::r,h=>by
  rw [List.lookup_cons];split
  ·exact ⟨b,rfl⟩
  ·rename_i e;rcases DK.mp h with q | q
   ·cases q;simp at e
   ·exact iz q
theorem dZ {cells:List (Str×Addr)} {names:List (Str×NameKind)} {n:Str} {c:Addr} (h:(dQ cells names).lookup n=some c):cells.lookup n=some c:=
 lF (names:=names) (acc:=[]) (by simp) (n,c) (mem_of_lookup h)
theorem dB {cells:List (Str×Addr)} {names:List (Str×NameKind)} {n:Str} {c:Addr} (hc:cells.lookup n=some c) (h:(n,NameKind.free)∈names):(dQ cells names).lookup n=some c:=by
 obtain ⟨c',e⟩:=iz (ql hc (acc:=[]) h);have:=dZ e;rw [hc]at this;cases this;exact e
noncomputable def bi (sc0 scope:Scope):List (Str×NameKind):=
 scope.names.map λ(n,k)=>if (k== .free&&sc0.kind== .function&&sc0.names.lookup n==some .cell)then (n,.cell)else (n,k)
structure gw (sc0:Scope) (N0:List Str) (scope:Scope) (x:Str) (ys:List Str) (fr:List Nat):Prop where
 kind:scope.kind=.function
 nocell: ∀ y∈scope.names,y.2≠ .cell
 loc: ∀ y∈scope.names,y.2=.local->scope.names.lookup y.1=some .local
 xl:(bi sc0 scope).lookup x=some .local
 free: ∀ y∈scope.names,y.2=.free->sc0.names.lookup y.1=some .cell
 nd:(x::ys).Nodup
 len:ys.length=fr.length
 sl: ∀ q∈ys.zip fr,N0[q.2]? =some q.1/\sc0.names.lookup q.1=some .cell/\(bi sc0 scope).lookup q.1=some .cell
theorem cok {sc0:Scope} {N0:List Str} {scope:Scope} {x:Str} {ys:List Str} {fr:List Nat} (kind_:scope.kind=.function:=by rfl) (nocell_: ∀ y∈scope.names,y.2≠ .cell:=by decide +kernel) (loc_: ∀ y∈scope.names,y.2=.local->scope.names.lookup y.1=some .local:=by decide +kernel) (xl_:(bi sc0 scope).lookup x=some .local:=by decide +kernel) (free_: ∀ y∈scope.names,y.2=.free->sc0.names.lookup y.1=some .cell:=by decide +kernel) (nd_:(x::ys).Nodup:=by decide +kernel) (len_:ys.length=fr.length:=by rfl) (sl_: ∀ q∈ys.zip fr,N0[q.2]? =some q.1/\sc0.names.lookup q.1=some .cell/\(bi sc0 scope).lookup q.1=some .cell:=by decide +kernel):gw sc0 N0 scope x ys fr:=⟨kind_,nocell_,loc_,xl_,free_,nd_,len_,sl_⟩
noncomputable def cG (X:Cx) (x:Str) (ys:List Str) (scope:Scope) (C:Addr) (s:Shared) (H:Hp) (ex:List Addr) (pn:List (Addr×Obj)) (xe:Value->Shared->Prop):Cx:=
 {X with N:=x::ys,s₀:=s,H₀:=H,env:=compEnvC scope (dQ X.env.cells scope.names) C X.env,outer:=X.stack,stack:=X.stack,ex:=ex,fn:=λ_=>false,pn:=pn,xe:=xe}
noncomputable abbrev cc (X:Cx) (x:Str) (ys:List Str) (scope:Scope) (C:Addr) (s:Shared) (H:Hp) (ex:List Addr):Cx:=cG X x ys scope C s H ex [] λ_ _=>False
section
variable {prog:Program} {w:World} {A:Around} {R:Result->Shared->Prop} {s:Shared}
theorem gY {EE:Value->Shared->Prop} {elt target iter:Expr} {scope:Scope} {pos:Pos} {it acc:Value} {env:Env} (I:Nat->Shared->Prop)
  (turn: ∀ n s,I n s->wpAny (model prog w) A (pyNext it) (λr s₁=>match r with
   | none=>R (.ok .next) s₁
   | some v=>wpAny (model prog w) A (letOwnedTupleGo target it v) (λ_ s₁'=>wpAny (model prog w) A (assign target env v) (λ_ s₂=>wpAny (model prog w) A (eval elt env) (λx s₃=>
     wpAny (model prog w) A (call (.builtin "list.append") [acc,x]) (λ_ s₄=> ∃ m,m<n/\I m s₄) (λ_ _=>False) s₃) EE s₂) (λ_ _=>False) s₁') (λ_ _=>False) s₁) (λ_ _=>False) s)
  (hEE: ∀ e s',EE e s'->notedBy (model prog w) A env (λe s''=>R (.error e) s'') e s') (n:Nat) (h:I n s):codeAny (model prog w) A (.compLoop (.ListComp elt [⟨target,iter,[],0⟩] scope pos) 0 it acc env) R s:=by
 refine codeAny_loop rfl I (λn s hI=>?_) n h;show wpAny _ _ ((compTurn (.ListComp elt [⟨target,iter,[],0⟩] scope pos) 0 it acc env).onRaise (λx=>do noteFrame x env;theTreesLotGoes x)) _ _ s;refine wpAny_noted ?_;rw [compTurn_list1];refine Dw (Gk (Dw (E2 (turn n s hI) (λr s₁ h₁=>?_) λ_ _ h'=>h'.elim)));cases r with
 | none=>exact Dy h₁
 | some v=>
  refine Dw (E2 h₁ (λ_ s₁' h₁'=>?_) λ_ _ h'=>h'.elim);exact Dw (E2 h₁' (λ_ s₂ h₂=>Dw (Dw (E2 h₂ (λx s₃ h₃=>Dw (E2 h₃
   (λ_ s₄ h₄=>Dy (Dy ⟨rfl,h₄⟩)) λ_ _ h'=>h'.elim)) λe s h'=>hEE e s h'))) λ_ _ h'=>h'.elim)
theorem lN {elt target iter:Expr} {scope:Scope} {pos:Pos} {it acc:Value} {env:Env} (I:Nat->Shared->Prop)
  (turn: ∀ n s,I n s->wpAny (model prog w) A (pyNext it) (λr s₁=>match r with
   | none=>R (.ok .next) s₁
   | some v=>wpAny (model prog w) A (letOwnedTupleGo target it v) (λ_ s₁'=>wpAny (model prog w) A (assign target env v) (λ_ s₂=>wpAny (model prog w) A (eval elt env) (λx s₃=>
     wpAny (model prog w) A (call (.builtin "list.append") [acc,x]) (λ_ s₄=> ∃ m,m<n/\I m s₄) (λ_ _=>False) s₃) (λ_ _=>False) s₂) (λ_ _=>False) s₁') (λ_ _=>False) s₁) (λ_ _=>False) s)
  (n:Nat) (h:I n s):codeAny (model prog w) A (.compLoop (.ListComp elt [⟨target,iter,[],0⟩] scope pos) 0 it acc env) R s:=
 gY (EE:=λ_ _=>False) I turn (λ_ _ h=>h.elim) n h
end
theorem Inv.alt {X:Cx} {pins pins' P:List (Addr×Obj)} {σ:St} {H:Hp} {s:Shared} (I:Inv X pins σ H s) (E:Value->Shared->Prop) (h: ∀ p∈P++pins',p∈X.pn++pins):Inv {X with xe:=E,pn:=P} pins' σ H s:=
 ⟨⟨I.ok.mod,I.ok.kind,I.ok.glob,I.ok.blt,I.ok.above,I.ok.inj,I.ok.has,I.ok.cab,I.ok.hd,I.ok.frames,I.ok.stk,I.ok.exf,I.ok.bs,I.ok.bsz,I.ok.noex,I.ok.exfs,I.ok.funs,I.ok.frf⟩,
  I.os,I.bare,I.base,I.loc,I.cell,I.free,I.freeC,λp hp=>I.pin p (h p hp),I.hok,I.len⟩
theorem Inv.xe {X:Cx} {pins:List (Addr×Obj)} {σ:St} {H:Hp} {s:Shared} (I:Inv X pins σ H s) (E:Value->Shared->Prop):Inv {X with xe:=E} pins σ H s:=I.alt E λ_ h=>h
noncomputable def bV (fr:List Nat) (σ:St):St:=fr.map λj=>(σ[j]?).join
def fb (fr:List Nat) (te:TE) (σ:St) (J:It) (H1:Hp) (Q:VK):Prop:=
 ∀ p,H1 p=none-> ∃ W:Nat->Nat->List V->Hp->Prop,(∃ m,W 0 m [] (upd H1 p (.lst [])))/\ ∀ i m ys H,W i m ys H->H p=some (.lst ys)/\
  ((J.stop i H/\Q (.ref p) H)\/(J.go i H/\ys.length<sizeLine/\ ∀ x H',J.yld i H x H'->te (some x::bV fr σ) H' λv H2=>
   H2 p=some (.lst ys)/\ ∃ m',m'<m/\W (i+1) m' (ys++[v]) (upd H2 p (.lst (ys++[v])))))
def sE (wi:TI) (fr:List Nat) (te:TE):TE:=λσ H Q=>wi σ H λJ H1=>fb fr te σ J H1 Q
section
variable {X:Cx} {x:Str} {px pos fpos:Pos} {iter elt:Expr} {scope sc0:Scope} {N0 ys:List Str} {fr:List Nat} {wi:TI} {te:TE} {pins:List (Addr×Obj)} {σ:St} {H:Hp} {s:Shared}
theorem sk {XE:Addr->Shared->Hp->List Addr->Value->Shared->Prop} {use:Option (Value->Sem Unit)} {Qv:Value->Shared->Prop} {Q:VK} (hcalm:X.calm=true) (hi:PI X (.Name x px) iter wi) (hsc:X.env.scope=sc0) (hN:X.N=N0) (ok:gw sc0 N0 scope x ys fr)
  (hE: ∀ C s H ex pn,(∀ b∈ex,∃ o,(b,o)∈pn)->PE (cG X x ys scope C s H ex pn (XE C s H ex)) elt te) (I:Inv X pins σ H s) (h:sE wi fr te σ H Q) (hs: ∀ v,foldedSetIterable iter X.env v=pure v)
  (hX: ∀ (p:Addr) (s3:Shared) (H3:Hp) (ex:List Addr),Inv X pins σ H3 s3->(∀ b∈ex,b<s3.heap.objs.size)->(∀ b∈ex,(b∈X.ex\/X.s₀.heap.objs.size<=b)/\b≠X.env.locals/\(∀ x c,X.env.cells.lookup x=some c->c≠b)/\ ∀ p∈X.pn++pins,p.1≠b)-> ∀ e s',XE s3.heap.objs.size s3 H3 ex e s'->notedBy (model X.prog X.w) X.A (compEnvC scope (dQ X.env.cells scope.names) s3.heap.objs.size X.env) (λe s''=>compPost (model X.prog X.w) X.A X.xe use Qv (.ref p) s3.heap.objs.size (.error e) s'') e s')
  (fin: ∀ (p C:Addr) (H':Hp) (s':Shared) (m:Str->Option Value),Inv X pins σ H' s'->s'.heap.Ns C m->H' C=none->C≠X.env.locals->X.s₀.heap.objs.size<=C->(∀ y c,X.env.cells.lookup y=some c->c≠C)->(∀ q∈X.pn++pins,q.1≠C)->Q (.ref p) H'->
   compPost (model X.prog X.w) X.A X.xe use Qv (.ref p) C (.ok .next) s'):
  wpAny (model X.prog X.w) X.A (comprehension (.ListComp elt [⟨.Name x px,iter,[],0⟩] scope pos) scope X.env fpos (newList []) false (eval iter X.env) use) Qv X.xe s:=by
 subst hsc hN;have hkof: ∀ y,X.env.kindOf y=X.env.scope.names.lookup y:=λy=>rfl;have hfree: ∀ y∈scope.names,y.2=.free-> ∃ c,X.env.cells.lookup y.1=some c:=λy hy e=>I.ok.has y.1 (.inl (ok.free y hy e));refine G0 (gs:=[]) rfl hs (ff hfree) ok.kind ok.loc (thn (hi pins s σ H _ I h) λv s1 h1=>thn h1 λitv s2 h2=>?_);obtain ⟨it,fp,tn,J,H2,e,I2,T,st2,f2,hp⟩:=h2;subst e;refine Em (HD ok.nocell (by intro y hy;simp at hy) (λh₁ hns₁ hsb₁=>?_) ok.kind);dsimp only at hns₁ hsb₁ ⊢;have I3:Inv X pins σ (upd H2 s2.heap.objs.size (.lst [])) {s2 with heap:=s2.heap.push {cls:=.type "list",data:=.seq ([]:List Value).toArray}}:=
  I2.lnew (its:=[]) (ys:=[]) (t':=s2.toks) .nil (Er _)
 have hf2: ∀ b∈fp,b<s2.heap.objs.size:=λb hb=>by
  obtain ⟨o,e,_⟩:=T.obj _ _ st2 b hb;exact DR e
 have hps:s2.heap.objs.size< (s2.heap.push {cls:=.type "list",data:=.seq ([]:List Value).toArray}).objs.size:=by rw [FM];exact Gy _
 have W0:=hp s2.heap.objs.size I2.fresh;have st3:tn 0 (s2.heap.push {cls:=.type "list",data:=.seq ([]:List Value).toArray}):=T.keep _ _ _ st2 λb hb o e=>Dz _ e;generalize hpp:s2.heap.objs.size=p at I3 W0 hf2 hps ⊢;generalize hh3:(s2.heap.push {cls:=.type "list",data:=.seq ([]:List Value).toArray})=h3 at I3 hns₁ hsb₁ hps st3 ⊢;generalize hH3:upd H2 p (.lst [])=H3 at I3 W0;have hold: ∀ b o,h3.get? b=some o->h₁.get? b=some o:=λb o e=>hsb₁.extBut b o (Eg (DR e)) (Dz _ e);have fH3: ∀ b∈fp,H3 b=none:=λb hb=>by
  rw [<- hH3,aj (Eg (hf2 b hb))];exact (f2 b hb).1
 have hclos: ∀ y c,(dQ X.env.cells scope.names).lookup y=some c->X.env.cells.lookup y=some c:=λy c e=>dZ e;have hcell3: ∀ y c,X.env.cells.lookup y=some c->c<h3.objs.size:=λy c e=>by
  obtain ⟨v,o,ho,_⟩:=I3.cell y c e;exact DR ho
 have hlt3:X.env.locals<h3.objs.size:=I3.lt;have Yok:(cG X x ys scope h3.objs.size {s2 with heap:=h3} H3 fp [] (XE h3.objs.size {s2 with heap:=h3} H3 fp)).Ok:={
  mod:=I.ok.mod
  kind:=ok.kind
  glob:=I.ok.glob
  blt:=I.ok.blt
  above:=DI _
  inj:=λy z c e1 e2=>I.ok.inj y z c (hclos _ _ e1) (hclos _ _ e2)
  has:=λy hk=>by
   have hfr:(y,NameKind.free)∈scope.names:=by
    have hm: ∃ k,(bi X.env.scope scope).lookup y=some k/\(k=.cell\/k=.free):=by
     rcases hk with hk | hk
     ·exact ⟨_,hk,.inl rfl⟩
     ·exact ⟨_,hk,.inr rfl⟩
    obtain ⟨k,hk,hkk⟩:=hm;have hmem:=mem_of_lookup hk;unfold bi at hmem;obtain ⟨⟨n,k0⟩,hn,en⟩:=DY.mp hmem;dsimp only at en;split at en
    ·rename_i hc;simp only [Ek]at hc;have hk0:k0=.free:=by simpa using hc.1.1
     cases en;rw [<- hk0];exact hn
    ·cases en;rcases hkk with e | e
     ·exact absurd e (ok.nocell _ hn)
     ·rw [<- e];exact hn
   obtain ⟨c,hc⟩:=hfree _ hfr rfl;exact ⟨c,dB hc hfr⟩
  cab:=λy c hf _=>by cases hf
  hd:=I.ok.hd
  frames:=I.ok.frames
  stk:=.inl rfl
  exf:=λb hb=>⟨λe=>absurd (hf2 b hb) (by rw [e];exact Hy.mpr (EA hps)),λy c e=>(f2 b hb).2.2.2.2.1 y c (hclos _ _ e)⟩
  bs:=λb o e=>⟨(I3.bs b o e).1,(I3.bs b o e).2⟩
  bsz:=Eh I.ok.bsz I3.sz
  noex:=λb o e hb=>by
   rcases (f2 b hb).2.2.2.1 with q | q
   ·exact I.ok.noex b o e q
   ·have h1:b<X.base.objs.size:=DR e;exact absurd h1 (Hy.mpr (Eh I.ok.bsz q))
  exfs:=λb hb hm=>by
   rcases DK.mp (I3.stkSub b hm)with q | q
   ·exact (f2 b hb).2.1 q
   ·exact (f2 b hb).2.2.1 q
  funs:=I3.stack
  frf:=I3.stkFree}
 have IY:Inv (cG X x ys scope h3.objs.size {s2 with heap:=h3} H3 fp [] (XE h3.objs.size {s2 with heap:=h3} H3 fp)) [] (none::bV fr σ) H3 {s2 with heap:=h₁,toks:=s2.toks+ ([]:List (Str×Value)).length}:={
  ok:=Yok
  os:=rfl
  bare:=I2.bare
  base:=Un.kept hold
  loc:=by
   refine ⟨_,hns₁,λi y v hy hv hvis=>?_⟩;cases i with
   | zero=>cases hv
   | succ j=>
    have hy':ys[j]? =some y:=hy;have hv':(bV fr σ)[j]? =some (some v):=hv;unfold bV at hv';rw [DP]at hv';obtain ⟨i0,hi0,hv0⟩:=Ez.mp hv';have hz:(y,i0)∈ys.zip fr:=by
     refine FR.mpr ⟨j,?_⟩;rw [GJ];exact ⟨hy',hi0⟩
    obtain ⟨hn,hk,hk2⟩:=ok.sl _ hz;have hσ:σ[i0]? =some (some v):=by
     cases e:σ[i0]? with
     | none=>rw [e]at hv0;cases hv0
     | some o=>
      rw [e]at hv0;rw [show o=some v from hv0]
    obtain ⟨m,hm,hl⟩:=I3.loc;obtain ⟨u,ru,lk⟩:=hl i0 y v hn hσ (.inr (.inl hk));refine ⟨u,ru,.inr ⟨.inl hk2,?_⟩⟩;rcases lk with ⟨a,_⟩ | ⟨_,c,hc,hcell⟩
    ·have a':X.env.scope.names.lookup y=some .local:=a;have hk':X.env.scope.names.lookup y=some .cell:=hk;rw [hk']at a';cases a'
    ·have hfr:(y,NameKind.free)∈scope.names:=by
      have hmem:=mem_of_lookup hk2;unfold bi at hmem;obtain ⟨⟨n,k0⟩,hn0,en⟩:=DY.mp hmem;dsimp only at en;split at en
      ·rename_i hc0;simp only [Ek]at hc0;have hk0:k0=.free:=by simpa using hc0.1.1
       cases en;rw [<- hk0];exact hn0
      ·cases en;exact absurd rfl (ok.nocell _ hn0)
     exact ⟨c,dB hc hfr,hcell.keeps hold⟩
  cell:=λy c e=>by
   obtain ⟨v,hv⟩:=I3.cell y c (hclos _ _ e);exact ⟨v,hv.keeps hold⟩
  free:=I3.fresh
  freeC:=λy c e=>I3.freeC y c (hclos _ _ e)
  pin:=λq hq=>by cases hq
  hok:=I3.hok.kept hold
  len:=by
   show (none::bV fr σ).length=(x::ys).length;rw [DJ,DJ,ok.len];unfold bV;rw [Dx]}
 have hxl:(cG X x ys scope h3.objs.size {s2 with heap:=h3} H3 fp [] (XE h3.objs.size {s2 with heap:=h3} H3 fp)).env.scope.names.lookup x=some .local:=ok.xl;have pgx:PG (cc X x ys scope h3.objs.size {s2 with heap:=h3} H3 fp) (.Name x px) (eM 0):=dD (i:=0) ok.nd rfl (.inl hxl) (.inr hxl);have pel:=hE h3.objs.size {s2 with heap:=h3} H3 fp;obtain ⟨W,⟨m0,w0⟩,turn⟩:=W0;have stat: ∀ {H':Hp},(∀ b∈fp,H' b=none)-> ∀ b∈fp,lO (cG X x ys scope h3.objs.size {s2 with heap:=h3} H3 fp [] (XE h3.objs.size {s2 with heap:=h3} H3 fp)) [] H' b:=λhn b hb=>
  ⟨hn b hb,(Yok.exf b hb).1,Yok.exfs b hb,.inl hb,(Yok.exf b hb).2,λq hq=>by cases hq⟩
 have loop:codeAny (model X.prog X.w) X.A (.compLoop (.ListComp elt [⟨.Name x px,iter,[],0⟩] scope pos) 0 (.ref it) (.ref p) (compEnvC scope (dQ X.env.cells scope.names) h3.objs.size X.env))
   (compPost (model X.prog X.w) X.A X.xe use Qv (.ref p) h3.objs.size) {s2 with heap:=h₁,toks:=s2.toks+ ([]:List (Str×Value)).length}:=by
  refine gY (EE:=XE h3.objs.size {s2 with heap:=h3} H3 fp) (λn s'=> ∃ i zs v0 H',Inv (cG X x ys scope h3.objs.size {s2 with heap:=h3} H3 fp [] (XE h3.objs.size {s2 with heap:=h3} H3 fp)) [] (v0::bV fr σ) H' s'/\tn i s'.heap/\(∀ b∈fp,H' b=none)/\W i n zs H') ?_ (hX p {s2 with heap:=h3} H3 fp I3 (λb hb=>Nat.lt_trans (hf2 b hb) hps) λb hb=>⟨(f2 b hb).2.2.2.1,(f2 b hb).2.1,(f2 b hb).2.2.2.2.1,(f2 b hb).2.2.2.2.2⟩) m0
   ⟨0,[],none,H3,IY,T.keep _ _ _ st3 λb hb o e=>hold b o e,fH3,w0⟩
  rintro n s5 ⟨i,zs,v0,H5,I5,st5,fr5,w5⟩;obtain ⟨hacc,turn5⟩:=turn i n zs H5 w5;rcases turn5 with ⟨stop,qn⟩ | ⟨go,hlen,step⟩
  ·refine thn (T.done (cG X x ys scope h3.objs.size {s2 with heap:=h3} H3 fp [] (XE h3.objs.size {s2 with heap:=h3} H3 fp)) rfl rfl rfl hcalm i [] s5 _ H5 _ I5 (stat fr5) st5 stop) λr s6 ⟨hr,I6⟩=>?_;subst hr;obtain ⟨m6,n6,_⟩:=I6.loc;refine fin p h3.objs.size H5 s6 m6 (I3.call' I6.os I6.base I6.hok I6.bare λb hb=>⟨(f2 b hb).2.2.2.1,(f2 b hb).2.1,(f2 b hb).2.2.2.2.1,(f2 b hb).2.2.2.2.2⟩) n6 I6.free (Ge hlt3) I3.sz (λy c e=>Eg (hcell3 y c e)) (λq hq=>?_) qn;exact Eg (DR (I3.pin q hq).1)
  ·refine thn (T.item (cG X x ys scope h3.objs.size {s2 with heap:=h3} H3 fp [] (XE h3.objs.size {s2 with heap:=h3} H3 fp)) rfl rfl rfl hcalm i [] s5 _ H5 _ I5 (stat fr5) st5 go) λr s6 ⟨u,hr,h6⟩=>?_;subst hr;refine thn h6 λ_ s7 ⟨xv,H7,I7,r7,y7,st7,fr7⟩=>?_;have I7':=I7.pinned (stat fr7) (T.obj _ _ st7);refine thn (pgx _ s7 _ H7 xv u (λσ' H'=>σ'=some xv::bV fr σ/\H'=H7) (I7'.xe _) r7 ⟨rfl,rfl⟩) λ_ s8 ⟨σ8,H8,I8,e8,e8'⟩=>?_;subst e8 e8';refine thn (pel (jE fp s7.heap) (λb hb=>let ⟨o,e,_⟩:=T.obj _ _ st7 b hb;⟨o,bG hb e⟩) [] s8 _ H8 _ (I8.alt _ λp hp=>by simpa [cG]using hp) (step xv H8 y7)) λyv s9 ⟨v9,H9,I9',r9,hp9,m',hm',w9⟩=>?_;have I9:Inv (cc X x ys scope h3.objs.size {s2 with heap:=h3} H3 fp) ([]++jE fp s7.heap) _ H9 s9:=I9'.alt _ λp hp=>by simpa [cG]using hp
   refine thn (bM (X:=cc X x ys scope h3.objs.size {s2 with heap:=h3} H3 fp) _ s9 _ H9 (.ref p) [v9] (.ref p) [yv] (λ_ H'=>H'=upd H9 p (.lst (zs++[v9]))) I9 rfl (.cons r9 .nil) ⟨p,zs,v9,rfl,rfl,hp9,hlen,rfl⟩) λ_ s10 ⟨_,H10,I10,_,e10⟩=>?_;subst e10;refine ⟨m',hm',i+1,zs++[v9],some xv,_,(I10.xe _).unpinned,T.keep _ _ _ st7 λb hb o e=>(I10.pin (b,o) (DO _ (DO _ (bG hb e)))).1,λb hb=>?_,w9⟩;obtain ⟨o,e,d⟩:=T.obj _ _ st7 b hb;exact (I10.pin (b,o) (DO _ (DO _ (bG hb e)))).2.1
 exact Hq loop (T.self X.A 0 _ _ _ (T.keep _ _ _ st3 λb hb o e=>hold b o e) loop)
theorem mE {use:Option (Value->Sem Unit)} {Qv:Value->Shared->Prop} {Q:VK} (hcalm:X.calm=true) (hi:PI X (.Name x px) iter wi) (hsc:X.env.scope=sc0) (hN:X.N=N0) (ok:gw sc0 N0 scope x ys fr)
  (hE: ∀ C s H ex,PE (cc X x ys scope C s H ex) elt te) (I:Inv X pins σ H s) (h:sE wi fr te σ H Q) (hs: ∀ v,foldedSetIterable iter X.env v=pure v)
  (fin: ∀ (p C:Addr) (H':Hp) (s':Shared) (m:Str->Option Value),Inv X pins σ H' s'->s'.heap.Ns C m->H' C=none->C≠X.env.locals->X.s₀.heap.objs.size<=C->(∀ y c,X.env.cells.lookup y=some c->c≠C)->(∀ q∈X.pn++pins,q.1≠C)->Q (.ref p) H'->
   compPost (model X.prog X.w) X.A X.xe use Qv (.ref p) C (.ok .next) s'):
  wpAny (model X.prog X.w) X.A (comprehension (.ListComp elt [⟨.Name x px,iter,[],0⟩] scope pos) scope X.env fpos (newList []) false (eval iter X.env) use) Qv X.xe s:=
 sk (XE:=λ_ _ _ _ _ _=>False) hcalm hi hsc hN ok (λC s H ex pn _ pins s' σ' H' Q' I' h'=>thn (hE C s H ex (pn++pins) s' σ' H' Q' (I'.alt _ λp hp=>by simpa [cG]using hp) h') λv s2 ⟨y,H2,I2,r,q⟩=>⟨y,H2,I2.alt _ λp hp=>by simpa [cG]using hp,r,q⟩) I h hs (λ_ _ _ _ _ _ _ _ _ z=>z.elim) fin
theorem bX (hcalm:X.calm=true) (hi:PI X (.Name x px) iter wi) (hsc:X.env.scope=sc0) (hN:X.N=N0) (ok:gw sc0 N0 scope x ys fr)
  (hE: ∀ C s H ex,PE (cc X x ys scope C s H ex) elt te) (hs: ∀ v,foldedSetIterable iter X.env v=pure v:=by intro _;rfl):
  PE X (.ListComp elt [⟨.Name x px,iter,[],0⟩] scope pos) (sE wi fr te):=by
 intro pins s σ H Q I h;rw [eval_ListComp];refine mE (use:=none) (Qv:=EP X pins σ Q) (Q:=Q) hcalm hi hsc hN ok hE I h hs λp C H' s' m I' hn h0 h1 h2 h3 h4 q=>?_;refine ⟨m,hn,λh' sb=>⟨.ref p,H',I'.turned (t':=s'.toks) (λb o hb e=>sb.extBut b o hb e) h0 (EI (EI h1)) (.inr h2) h3 h4,rfl,q⟩⟩
theorem fW {i:Nat} {y:Str} {py spos:Pos} (hcalm:X.calm=true) (hnd:X.N.Nodup) (hiN:X.N[i]? =some y) (hy:Loc X.env.scope y) (hi:PI X (.Name x px) iter wi) (hsc:X.env.scope=sc0) (hN:X.N=N0) (ok:gw sc0 N0 scope x ys fr)
  (hE: ∀ C s H ex,PE (cc X x ys scope C s H ex) elt te) (hsw:swapsWith (.ListComp elt [⟨.Name x px,iter,[],0⟩] scope pos) (some (.Name y py)) spos.line X.env=pure true:=by rfl)
  (hs: ∀ v,foldedSetIterable iter X.env v=pure v:=by intro _;rfl) (hf:X.fn y=true\/X.env.scope.names.lookup y=some .local:=by first | exact .inl rfl | exact .inr rfl | assumption):
  PS X (.Assign [.Name y py] (.ListComp elt [⟨.Name x px,iter,[],0⟩] scope pos) spos) (mX (sE wi fr te) (eM i)):=by
 intro pins s σ H D I h;rw [exec_Assign_Name_used _ _ _ _ hsw];refine Dw (Gk (Dw ?_));show wpAny _ X.A (do let _ <- comprehension (.ListComp elt [⟨.Name x px,iter,[],0⟩] scope pos) scope X.env _ (newList []) false (eval iter X.env) (some (assign (.Name y py) X.env))) _ _ s;refine Dw (thn (mE (use:=some (assign (.Name y py) X.env)) (Qv:=λ_ s'=>SP X pins D .next s') (Q:=λv H'=>D.nx (σ.set i (some v)) H') hcalm hi hsc hN ok hE I h hs λp C H' s' m I' hn h0 h1 h2 h3 h4 q=>?_) λ_ s' hq=>Dy (Dy hq));show wpAny _ X.A (assign (.Name y py) X.env (.ref p)) _ _ s';refine Ib (jv (v:=.ref p) I' hnd hiN hy rfl (λs'' I'' ⟨a,sb,ha⟩=>?_) hf);have hCa:C≠a:=by
  rcases ha with e | e
  ·rw [e];exact h1
  ·exact (h3 y a e).symm
 refine ⟨m,hn.sameBut sb hCa,λh' sb'=>⟨_,H',I''.turned (t':=s''.toks) (λb o hb e=>sb'.extBut b o hb e) h0 h1 (.inr h2) h3 h4,q⟩⟩
theorem fH {n:Nat} {J:It} {H1:Hp} {Q:VK} {R:Nat->V->Prop} (hn:n<=1000) (hgo: ∀ i H,i<n->J.go i H) (hstop: ∀ H,J.stop n H) (hy: ∀ i H v H',J.yld i H v H'->H'=H/\R i v)
  (Pv:Addr->Nat->List V->Hp->Prop) (h0: ∀ p,H1 p=none->Pv p 0 [] (upd H1 p (.lst []))) (hl: ∀ p i zs H,Pv p i zs H->H p=some (.lst zs)/\zs.length=i)
  (hs: ∀ p i zs H v (k:VK),H1 p=none->i<n->R i v->Pv p i zs H->(∀ u H2,H2 p=some (.lst zs)->Pv p (i+1) (zs++[u]) (upd H2 p (.lst (zs++[u])))->k u H2)->te (some v::bV fr σ) H k)
  (hd: ∀ p zs H,H1 p=none->Pv p n zs H->Q (.ref p) H):fb fr te σ J H1 Q:=by
 intro p hp;refine ⟨λi m zs H=>i<=n/\m=n-i/\Pv p i zs H,⟨n,Er _,by simp,h0 p hp⟩,?_⟩;rintro i m zs H ⟨hi,hm,q⟩;obtain ⟨hp',hz⟩:=hl p i zs H q;refine ⟨hp',?_⟩;by_cases e:i=n
 ·subst e;exact .inl ⟨hstop H,hd p zs H hp q⟩
 ·have hlt:i<n:=by lia
  refine .inr ⟨hgo i H hlt,aK (by lia),λv H' hv=>?_⟩;obtain ⟨rfl,r⟩:=hy i H v H' hv;refine hs p i zs H' v _ hp hlt r q λu H2 a b=>?_;exact ⟨a,n- (i+1),by lia,by lia,rfl,b⟩
theorem on {lo:Int} {n:Nat}: ∀ i H,i<n->(Itr lo n).go i H:=λ_ _ h=>h
theorem jg {lo:Int} {n:Nat}: ∀ H,(Itr lo n).stop n H:=λ_=>DI n
theorem ko {lo:Int} {n:Nat}: ∀ i H v H',(Itr lo n).yld i H v H'->H'=H/\v=.int (lo+i):=λ_ _ _ _ h=>h
theorem Br {n:Nat} {R:Nat->V->Prop}: ∀ i H,i<n->(Itw n R).go i H:=λ_ _ h=>h
theorem xW {n:Nat} {R:Nat->V->Prop}: ∀ H,(Itw n R).stop n H:=λ_=>rfl
theorem zU {n:Nat} {R:Nat->V->Prop}: ∀ i H v H',(Itw n R).yld i H v H'->H'=H/\R i v:=λ_ _ _ _ h=>h
end
theorem csc {sc0:Scope} {N0:List Str} {scope:Scope} {x:Str} {ys:List Str} {fr:List Nat} (a:scope.kind=.function:=by rfl) (b: ∀ y∈scope.names,y.2≠ .cell:=by decide +kernel) (c: ∀ y∈scope.names,y.2=.local->scope.names.lookup y.1=some .local:=by decide +kernel) (d:(bi sc0 scope).lookup x=some .local:=by decide +kernel)
  (e: ∀ y∈scope.names,y.2=.free->sc0.names.lookup y.1=some .cell:=by decide +kernel) (f:(x::ys).Nodup:=by decide +kernel) (g:ys.length=fr.length:=by rfl) (h: ∀ q∈ys.zip fr,N0[q.2]? =some q.1/\sc0.names.lookup q.1=some .cell/\(bi sc0 scope).lookup q.1=some .cell:=by decide +kernel):gw sc0 N0 scope x ys fr:=⟨a,b,c,d,e,f,g,h⟩
section
variable {X:Cx} {e k:Expr} {te tk:TE} {pos p2:Pos}
theorem fh: ∀ (ix:List Nat) {xs:List V} {us:List Value},Vals xs us->Vals (ix.filterMap (xs[·]?)) (ix.filterMap (us[·]?))
 | [],_,_,_=>.nil
 | i::r,xs,us,h=>by
  rw [ES,ES];cases ex:xs[i]? with
  | none=>
   rw [h.none_of ex];exact fh r h
  | some x=>
   obtain ⟨u,eu,ru⟩:=h.get ex;rw [eu];exact .cons ru (fh r h)
noncomputable def gE (n:Nat) (c:Int):List Nat:=sliceRange (sliceBounds none none (some c) n).1 (sliceBounds none none (some c) n).2.1 (sliceBounds none none (some c) n).2.2
noncomputable def jO (xs:List V) (c:Int):List V:=(gE xs.length c).filterMap (xs[·]?)
theorem rh {α:Type} (xs:List α):(List.range xs.length).filterMap (xs[·]?)=xs:=by
 induction xs with
 | nil=>rfl
 | cons x r ih=>
  rw [DJ,List.range_succ_eq_map,ES,G7];show x::List.filterMap ((λj=>(x::r)[j]?)∘Nat.succ) (List.range r.length)=x::r
  congr 1
theorem qC (n:Nat):gE n 1=List.range n:=by
 unfold gE sliceBounds sliceRange;simp only [Ix,show (1:Int) >0 by decide,Gw];by_cases h:n=0
 ·subst h;rfl
 ·rw [Ea (by lia)];have e:(((n:Int) -0+1-1) /1).toNat=n:=by rw [IC];lia
  rw [e]
  conv=>rhs;rw [<- List.map_id (List.range n)]
  apply GQ;intro k hk;show (0+1* (k:Int)).toNat=k;lia
theorem um (xs:List V):jO xs 1=xs:=by
 unfold jO;rw [qC];exact rh xs
theorem qD (n:Nat):gE n (-1)=(List.range n).map λk=>n-1-k:=by
 unfold gE sliceBounds sliceRange;simp only [Ix,show ¬ ((-1:Int) >0) by decide,EN];by_cases h:n=0
 ·subst h;rfl
 ·rw [Ea (by lia)];have e:(((n:Int) -1- -1- -1-1) / (- -1)).toNat=n:=by
   rw [show (- -1:Int)=1 by decide,IC];lia
  rw [e];apply GQ;intro k hk;have:=E5.mp hk;show ((n:Int) -1+ -1* (k:Int)).toNat=n-1-k;lia
theorem rev_pick {α:Type} (xs:List α):((List.range xs.length).map λk=>xs.length-1-k).filterMap (xs[·]?)=xs.reverse:=by
 apply Gq;intro i;have hall:((List.range xs.length).map λk=>xs.length-1-k).filterMap (xs[·]?)=(List.range xs.length).filterMap λk=>xs[xs.length-1-k]? :=by
  rw [G7];rfl
 rw [hall];have hsome: ∀ (l:List Nat),(∀ k∈l,k<xs.length)-> ∀ j:Nat,(l.filterMap λk=>xs[xs.length-1-k]?)[j]? =l[j]?.bind λk=>xs[xs.length-1-k]? :=by
  intro l;induction l with
  | nil=>intro _ j;rfl
  | cons a r ih=>
   intro hl j;have ha:=hl a DW;have hx:xs[xs.length-1-a]? =some xs[xs.length-1-a]:=DD (by lia);rw [ES,hx];cases j with
   | zero=>simp [hx]
   | succ j=>
    rw [List.getElem?_cons_succ,List.getElem?_cons_succ];exact ih (λk hk=>hl k (DZ _ hk)) j
 rw [hsome _ (λk hk=>E5.mp hk) i];by_cases hi:i<xs.length
 ·rw [List.getElem?_range hi,List.getElem?_reverse hi];rfl
 ·rw [ER (by simpa using hi),ER (by simpa using hi)];rfl
theorem uq (xs:List V):jO xs (-1)=xs.reverse:=by
 unfold jO;rw [qD];exact rev_pick xs
def BS (K:W.Frag) (te tk:TE):TE:=λσ H Q=>te σ H λx H1=>tk σ H1 λy H2=> ∃ a xs c,x=.ref a/\y=.int c/\SqL K H2 a xs/\c≠0/\ ∀ p,H2 p=none->Q (.ref p) (upd H2 p (.lst (jO xs c)))
theorem zm (he:PE X e te) (hk:PE X k tk):PE X (.Subscript e (.Slice none none (some k) p2) pos) (BS X.K te tk):=by
 intro pins s σ H Q I h;refine Subscript_ (thn (he pins s σ H _ I h) λv s1 ⟨x,H1,I1,r1,q1⟩=>?_);refine wpAny_Slice ?_;rw [Ir,evalPart_some];refine Dy (Dy ?_);refine thn (hk pins s1 σ H1 _ I1 q1) λvk s3 ⟨y,H3,I3,ry,a,xs,c,ex,ey,hq,hc,q⟩=>?_;subst ex ey;obtain ⟨t,rfl⟩:=ry;cases r1;have I4:Inv X pins σ H3 {s3 with heap:=s3.heap.push {cls:=.type "slice",data:=.fields #[.none,.none,.int c t]}}:=I3.kept (t':=s3.toks) λb ob q=>Dz _ q;obtain ⟨its,r,ht,hz⟩:=I4.list hq;have hlen:=r.length;have hpick:slicePick its.toArray none none (some c)=((gE xs.length c).filterMap (its[·]?)).toArray:=by
  unfold slicePick gE;rw [DL,hlen];simp
 have hle:(jO xs c).length<=sizeLine:=by
  have h1:=slicePick_size_le its.toArray none none (some c);rw [hpick,DL,DL]at h1;have h2:=(fh (gE xs.length c) r).length;unfold jO;lia
 show wpAny (model X.prog X.w) X.A (subscriptTail e (.Slice none none (some k) p2) (.ref a) (.ref s3.heap.objs.size)) (EP X pins σ Q) X.xe {s3 with heap:=s3.heap.push {cls:=.type "slice",data:=.fields #[.none,.none,.int c t]}};refine tail_any (ops:=[.ref a,.ref s3.heap.objs.size]) ht.isList.typeIs slot_list_getitem.lookup (wpAny_getItem_list_slice ht.isList (HZ ..) .none .none (.int c t) (by simpa using hc) ?_ (by rw [DL];lia)) (by with_unfolding_all rfl);rw [hpick];refine ⟨.ref (s3.heap.push {cls:=.type "slice",data:=.fields #[.none,.none,.int c t]}).objs.size,_,I4.laid (t':=s3.toks) (o:=.lst (jO xs c)) (λb ob q=>Dz _ q) (DI _) ?_,rfl,q _ I4.fresh⟩;exact ⟨hle,_,0,fh _ r,DS _ rfl⟩
inductive B5  (x:V) (lo:Option Int) (hi:Option Int) (H:Hp) (Q:VK):Prop
 | mk: ∀ z,(x=.str z)->(z.length<=sizeLine)->(Q (.str (Txt.slice z lo hi)) H)->B5 x lo hi H Q
theorem ny:SlR X B5:=by
 intro pins s σ H x v vl vu lo hi sl Q I rx hs pl pu h;obtain ⟨z,rfl,hz,q⟩:=h;obtain ⟨t,rfl⟩:=rx;refine ⟨"str",_,F.slot_str_getitem.lookup,typeIs_str _ _ _,?_⟩;have go: ∀ (l u:Option (Int×Tok)),vl=partValue l->vu=partValue u->lo=l.map (·.1)->hi=u.map (·.1)->wpAny (model X.prog X.w) X.A (getItem (.str z t) (.ref sl)) (EP X pins σ Q) X.xe s:=by
  intro l u e1 e2 e3 e4;subst e1 e2 e3 e4;refine wpAny_getItem_str_slice (l:=l) (u:=u) (st:=none) hs rfl ?_;exact post_val_or_str ⟨Eh (Txt.slice_le z _ _) hz,λt' k=>⟨.str (Txt.slice z (l.map (·.1)) (u.map (·.1))),H,I.tok k,⟨t',rfl⟩,q⟩⟩
 cases pl with
 | none=>
  cases pu with
  | none=>exact go none none rfl rfl rfl rfl
  | int j tj=>exact go none (some (j,tj)) rfl rfl rfl rfl
 | int i ti=>
  cases pu with
  | none=>exact go (some (i,ti)) none rfl rfl rfl rfl
  | int j tj=>exact go (some (i,ti)) (some (j,tj)) rfl rfl rfl rfl
open PySem.AutoSeq1 (wpAny_loadPart')in
theorem rY (l:Addr) (items:Array Value) (n:Nat) (b:Addr) (items2:Array Value) (n2:Nat) (dd:Option Addr) (sl:Array (Option Value)) (hs0: ¬(!items.isEmpty&&Builtin.List.listTooLong (items.size+items2.size))=true) (hs1:items.size<=sizeLine) (hs2:items.size+items2.size<=sizeLine+1):
  Meets (Builtin.«list.extend» ⟨[.ref l,.ref b],[]⟩) (λ_ R s=>s.heap.get? l=some {cls:=.type "list",dict:=none,data:=.seq items n,slots:= #[]}/\s.heap.get? b=some {cls:=.type "tuple",dict:=dd,data:=.seq items2 n2,slots:=sl}/\R (.ok (.ret Value.none)) {s with heap:=s.heap.update l (Obj.mapSeq λx=>x++items2),toks:=s.toks}):=
 .of_wp λprog w A R s h=>by
  obtain ⟨hp,g,d,tk,os⟩:=s;obtain ⟨hl,hb,h⟩:=h;have f1:=AutoSeq1.idx_int;have f2:=AutoSeq1.sub_tuple_tuple;have f3:=AutoSeq1.sub_list_list;have f4:=AutoSeq1.sub_tuple_list;have f5:=AutoSeq1.sub_list_tuple;
  have hz':(items++items2).size<=sizeLine+1:=by rw [Array.size_append];exact hs2
  wp_walk using (wpAny_updateSeq hl rfl (hz:=hs1) (_hz':=hz')),FW hl,FW hb;exact ⟨_,rfl,h⟩
noncomputable def Ca (K:W.Frag):V->List V->Hp->VK->Prop:=λx vs H Q=> ∃ l b xs zs,x=.ref l/\vs=[.ref b]/\H l=some (.lst xs)/\SqT K H b zs/\xs.length+zs.length<=sizeLine/\Q .non (upd H l (.lst (xs++zs)))
theorem sZ:MtM X "list.extend" (Ca X.K):=by
 intro pins s σ H x vs v us Q I rx rv h;obtain ⟨l,b,xs,zs,rfl,rfl,hH,hB,hz,q⟩:=h;cases rx;obtain ⟨u,rfl,ru⟩:=rv.one;cases ru;obtain ⟨z,its,n,r,hl,e⟩:=I.lstM hH;obtain ⟨its2,r2,ht2,hz2⟩:=I.tuple hB;obtain ⟨⟨c2,d2,dat2,sl2⟩,e2,hc2,n2,hd2⟩:=ht2;dsimp only at hc2 hd2;subst hc2 hd2;have hl2:=r2.length;have hsz:its.toArray.size+its2.toArray.size<=sizeLine:=by rw [DL,DL];lia
 have hlong: ¬ (!its.toArray.isEmpty&&Builtin.List.listTooLong (its.toArray.size+its2.toArray.size))=true:=by
  rw [pQ hsz,DE];exact DM
 refine Ia F.slot_list_extend ⟨_,e,rfl⟩ F.entry_list_extend (F.args_list_extend_2 _ _)
  (rY l its.toArray n b its2.toArray n2 d2 sl2 hlong (by rw [DL];lia) (by lia)) ⟨e,e2,?_⟩
 refine ⟨.non,_,I.lset (its':=its++its2) hH e (by simp) (r.append r2) ?_,rfl,q⟩;rw [DA];lia
theorem uC (bs:List Bool):((List.range bs.length).all λi=>(bs[i]?).getD true)=bs.all id:=by
 induction bs with
 | nil=>rfl
 | cons b r ih=>
  rw [DJ,List.range_succ_eq_map,Fg,HM];show (b&&(List.range r.length).all (λi=>((b::r)[i+1]?).getD true))=(b&&r.all id);rw [<- ih];rfl
theorem cT (hc:X.calm=true):dU X (.builtin "all") (λxs H Q=> ∃ (p:Addr) (bs:List Bool),xs=[.ref p]/\SqL X.K H p (bs.map V.bl)/\Q (.bl (bs.all id)) H):=by
 intro pins s σ H xs us Q I r h;obtain ⟨p,bs,rfl,hq,q⟩:=h;obtain ⟨u,rfl,ru⟩:=iN r;cases ru;obtain ⟨its,rv,pl,hz⟩:=I.list hq;have hl:=pl.isList;have hlt:p<s.heap.objs.size:=by obtain ⟨_,e,_⟩:=hl;exact DR e
 have hn:its.toArray.size=bs.length:=by have:=rv.length;rw [Dx]at this;rw [DL];lia
 refine call_all_walk (Ic hl ?_);refine ⟨s.heap.objs.size,[s.heap.objs.size,p],[s.heap.objs.size],its.toArray.size,_,_,λi=>(bs[i]?).getD true,rfl,Walks.list (A:=X.A.in1) (I.ok.hd hc) _ p (Eg hlt) its.toArray,
  ⟨⟨_,DS _ rfl,rfl,rfl⟩,hl.push _⟩,λi v s' Q' E' hP hQ=>?_,λh' tk hk=>?_⟩
 ·have hv:its[i]? =some v:=by simpa using hP
  have hi:i<bs.length:=by
   have:=(DH.mp hv).1;have:=rv.length;rw [Dx]at this;lia
  have hb:(bs.map V.bl)[i]? =some (V.bl bs[i]):=by rw [DP,DD hi] <;> rfl
  obtain ⟨u,eu,ru⟩:=rv.get hb;rw [hv]at eu;cases eu;cases (show v=Value.bool bs[i]from ru);have hQ':=hQ;simp only [DD hi,Ix]at hQ';exact E4 hQ'
 ·rw [hn,uC];refine ⟨.bl (bs.all id),H,I.kept (t':=tk) λb x e=>?_,rfl,q⟩;exact hk b x (λhm=>by rw [DF.mp hm]at e;exact Gj _ (DR e)) (Dz _ e)
def vG (P:Program) (w:World) (K:W.Frag) (a:Addr) (kvs:List (Key×V)):Prop:=
 (a==sysModules)=false/\ ∀ h:Heap,K.In h-> ∃ vs,KV kvs vs/\h.DictOf (a4 P w) a vs
def C8 (P:Program) (w:World) (K:W.Frag) (neg:Bool):R2:=λx y H Q=> ∃ k a kvs,x=kV k/\y=.ref a/\vG P w K a kvs/\Q (.bl (if neg then !(cz kvs k).isSome else (cz kvs k).isSome)) H
theorem xi:OpR X (compareOp .In) (C8 X.prog X.w X.K false):=by
 intro pins s σ H x y v u Q I rx ry h;obtain ⟨k,a,kvs,rfl,rfl,⟨hd,T⟩,q⟩:=h;cases (show u=Value.ref a from ry);obtain ⟨vs,rel,dd⟩:=T _ I.kIn;refine wpAny_in_of (mi rx) hd dd.mapOf ?_;rw [<- (rel.val k).isSome_eq];exact ⟨.bl (cz kvs k).isSome,H,I.tok _,rfl,q⟩
def BX (P:Program) (w:World) (K:W.Frag) (td ty:TE):TE:=λσ H Q=>td σ H λx H1=>ty σ H1 λy H2=> ∃ a kvs k v,x=.ref a/\y=kV k/\vG P w K a kvs/\cz kvs k=some v/\Q v H2
theorem zn {o i:Expr} {td ty:TE} (ho:PE X o td) (hi:PE X i ty) (hs:BK i):PE X (.Subscript o i pos) (BX X.prog X.w X.K td ty):=by
 intro pins s σ H Q I h;refine sG PySem.F.slot_dict_getitem.lookup hs (thn (ho pins s σ H _ I h) λu s1 ⟨x,H1,I1,rx,q1⟩=>thn (hi pins s1 σ H1 _ I1 q1) λiv s2 ⟨y,H2,I2,ry,a,kvs,k,v,ex,ey,⟨hd,T⟩,l,q2⟩=>?_);subst ex ey;obtain rfl:u=Value.ref a:=rx;obtain ⟨vs,rel,dd⟩:=T _ I2.kIn;obtain ⟨w',hw,rw'⟩:=RelO.some_of (v:=v) (o:=valueAt vs k) (by rw [<- l];exact rel.val k);exact ⟨dd.typeIs,wpAny_getItem_of (mi ry) dd.mapOf hw ⟨v,H2,I2.tok _,rw',q2⟩⟩
end
noncomputable def n8:Expr->Bool
 | .Starred _ _=>false
 | _=>true
theorem iy {e:Expr} {es:List Expr} {env:Env} (h:n8 e=true):starEach (e::es) env=(false,eval e env)::starEach es env:=by
 cases e <;> first | rfl | cases h
theorem pac {X:Cx} {e:Expr} {es:List Expr} {te:TE} {t:TA} (ha:PE X e te) (hr:PA X es t) (h:n8 e=true:=by rfl):PA X (e::es) (eF te t):=aa ha hr (iy h)
noncomputable def sj:Const->Option V
 | .str x=>some (.str x)
 | .int i=>some (.int i)
 | .bool b=>some (.bl b)
 | .none=>some .non
 | _=>none
noncomputable def jp:List Expr->Option (List V)
 | []=>some []
 | .Constant c _ _::r=>(match sj c,jp r with | some v,some vs=>some (v::vs) | _,_=>none)
 | _::_=>none
theorem w6 {X:Cx} {c:Const} {j:Nat} {pos:Pos} {v:V} (h:sj c=some v):PE X (.Constant c j pos) (tC v):=by
 cases c with
 | str x=>cases h;exact aV
 | int i=>cases h;exact ag
 | bool b=>cases h;exact cx
 | none=>cases h;exact eL
 | _=>cases h
theorem l7 {X:Cx}: ∀ {es:List Expr} {vs:List V},jp es=some vs->PA X es (λ_ H Q=>Q vs H)
 | [],vs,h=>by
  cases h;exact ac
 | e::r,vs,h=>by
  cases e with
  | Constant c j pos=>
   simp only [jp]at h;cases hc:sj c with
   | none=>rw [hc]at h;cases h
   | some v=>
    cases hr:jp r with
    | none=>rw [hc,hr]at h;cases h
    | some ws=>
     rw [hc,hr]at h;cases h;exact pac (w6 hc) (l7 hr)
  | _=>cases h
theorem zh {X:Cx} {i:Nat} {x:Str} {es:List Expr} {vs:List V} {pos p pos':Pos} (hN:X.N.Nodup) (hi:X.N[i]? =some x) (hx:Loc X.env.scope x) (hf:X.fn x=true\/X.env.scope.names.lookup x=some .local) (h:jp es=some vs):
  PS X (.Assign [.Name x pos'] (.List es p) pos) (mX (AQ (λ_ H Q=>Q vs H)) (eM i)):=
 cY hN hi hx (bh (l7 h)) rfl hf
end L2
namespace HT
open PySem PyProof.Rows
section
variable {prog:Program} {w:World} {A:Around} {s:Shared} {E:Value->Shared->Prop}
theorem qq (n:Nat):Builtin.Slice.sliceAdjust none none (-1) (n:Int)=((n:Int) -1,-1):=by
 unfold Builtin.Slice.sliceAdjust;simp
theorem pE (n:Nat):Builtin.Slice.slicePlaces ((n:Int) -1) (-1) (-1)=n:=by
 unfold Builtin.Slice.slicePlaces;have h1: ¬ ((-1:Int) >0):=by lia
 simp only [h1,EN];rw [show (- -1:Int)=1 by decide,IC];split <;> lia
theorem oH {sl:Addr} {t:Tok} {n:Nat} {Q:Int×Int×Nat->Shared->Prop} (hs:s.heap.IsSliceOf sl .none .none (.int (-1) t)) (h:Q ((n:Int) -1,-1,n) s):
  wpAny (model prog w) A (Builtin.Slice.sliceApplied (.ref sl) (pure (n:Int))) Q E s:=by
 obtain ⟨os,hos,hcs,hds⟩:=id hs;unfold Builtin.Slice.sliceApplied Builtin.Slice.sliceFields;refine Dw (Dw (E1 hos hds (x:=.none) rfl (Dw (E1 hos hds (x:=.none) rfl (Dw (E1 hos hds (x:=.int (-1) t) rfl (Dy ?_)))))));refine Dw (eG (.int (-1) t) ?_);show wpAny _ _ (if ((-1:Int)==0)=true then _ else _) _ _ s;rw [DU (by decide)];refine Dw (eG .none (Dw (eG .none (Dw (Dy ?_)))));show wpAny _ _ (match Builtin.Slice.sliceAdjust none none (-1) (n:Int)with | (lo,hi)=>pure (lo,(-1:Int),Builtin.Slice.slicePlaces lo hi (-1))) _ _ s;rw [qq n];show wpAny _ _ (pure ((n:Int) -1,(-1:Int),Builtin.Slice.slicePlaces ((n:Int) -1) (-1) (-1))) _ _ s;rw [pE];exact Dy h
theorem qg {α β:Type} {f g:α->Option β}: ∀ {l:List α},(∀ x∈l,f x=g x)->l.filterMap f=l.filterMap g
 | [],_=>rfl
 | x::r,h=>by rw [ES,ES,h x DW,qg λy hy=>h y (DZ _ hy)]
theorem uF (xs:Array Value):((List.range xs.size).filterMap λ(m:Nat)=>xs[((xs.size:Int) -1+ (m:Int) * -1).toNat]?).toArray=xs.toList.reverse.toArray:=by
 congr 1
 rw [<- L2.rev_pick xs.toList,G7,EJ];refine qg λm hm=>?_;have:=E5.mp hm;have e:((xs.size:Int) -1+ (m:Int) * -1).toNat=xs.size-1-m:=by lia
 rw [e];simp
theorem getItem_tuple_back {a sl:Addr} {items:Array Value} {t:Tok} {Q:Value->Shared->Prop} (ht:IsTup s.heap a items) (hs:s.heap.IsSliceOf sl .none .none (.int (-1) t))
  (h:Q (.ref s.heap.objs.size) {s with heap:=s.heap.push {cls:=.type "tuple",data:=.seq items.toList.reverse.toArray}})
  (hsz:items.size<=sizeLine):wpAny (model prog w) A (getItem (.ref a) (.ref sl)) Q E s:=by
 have hok:sizeOk (.seq items.toList.reverse.toArray):=by
  show items.toList.reverse.toArray.size<=sizeLine;rw [DL,E8,EJ];exact hsz
 obtain ⟨os,hos,hcs,hds⟩:=id hs;have hTs:s.TypeIs (.ref sl) "slice":=⟨os,hos,hcs⟩;unfold getItem;try with_reducible refine Ey ?_
 first | refine Dw (Dy ?_) | skip
 refine Dw (Ig ht.typeIs (by decide) ?_);refine Dw (EC (name:=Str.ofString "__getitem__") ht.typeIs EO
  (EH EO ht.typeIs HI ?_ (args_tuple_getitem _ _)))
 show wpAny _ _ (Builtin.Tuple.tupleItemsOf (.ref a) >>= _) _ _ s;refine Dw (tupleItemsOf_ ht ?_);refine Dw (FY hTs ?_);rw [Ea (by decide)];refine Dw (oH hs ?_);show wpAny _ _ (if (((items.size:Int) -1)==0&&(-1:Int)==1&&items.size==items.size)=true then _ else _) _ _ s;rw [DU (by simp),uF];first
  | exact Dw (m:=Builtin.Tuple.tupleExact _) (Em (Dy ⟨_,rfl,Dy h⟩) hok)
  | exact Dw (m:=Builtin.Tuple.tupleExact _) (Em (Dw (Dy (Dy ⟨_,rfl,Dy h⟩))) hok)
  | exact Dw (Dw (m:=Builtin.Tuple.tupleExact _) (Em (Dy (Dy ⟨_,rfl,Dy h⟩)) hok))
  | exact Dw (Dw (m:=Builtin.Tuple.tupleExact _) (Em (Dy ⟨_,rfl,Dy h⟩) hok))
end
end HT
namespace L2
open PySem PySem.Spec PyProof.Rows
section
variable {X:Cx} {e k:Expr} {te tk:TE} {pos p2:Pos}
def AT (K:W.Frag) (te tk:TE):TE:=λσ H Q=>te σ H λx H1=>tk σ H1 λy H2=> ∃ a xs,x=.ref a/\y=.int (-1)/\SqT K H2 a xs/\ ∀ p,H2 p=none->Q (.ref p) (upd H2 p (.tup xs.reverse))
theorem vK {xs:List V} {us:List Value} (h:Vals xs us):Vals xs.reverse us.reverse:=by
 rw [<- rev_pick xs,<- rev_pick us,h.length];exact fh _ h
theorem pG (he:PE X e te) (hk:PE X k tk):PE X (.Subscript e (.Slice none none (some k) p2) pos) (AT X.K te tk):=by
 intro pins s σ H Q I h;refine Subscript_ (thn (he pins s σ H _ I h) λv s1 ⟨x,H1,I1,r1,q1⟩=>?_);refine wpAny_Slice ?_;rw [Ir,evalPart_some];refine Dy (Dy ?_);refine thn (hk pins s1 σ H1 _ I1 q1) λvk s3 ⟨y,H3,I3,ry,a,xs,ex,ey,hq,q⟩=>?_;subst ex ey;obtain ⟨t,rfl⟩:=ry;cases r1;have I4:Inv X pins σ H3 {s3 with heap:=s3.heap.push {cls:=.type "slice",data:=.fields #[.none,.none,.int (-1) t]}}:=I3.kept (t':=s3.toks) λb ob q=>Dz _ q;obtain ⟨its,r,ht,hz⟩:=I4.tuple hq;show wpAny (model X.prog X.w) X.A (subscriptTail e (.Slice none none (some k) p2) (.ref a) (.ref s3.heap.objs.size)) (EP X pins σ Q) X.xe {s3 with heap:=s3.heap.push {cls:=.type "slice",data:=.fields #[.none,.none,.int (-1) t]}};refine tail_any (ops:=[.ref a,.ref s3.heap.objs.size]) ht.typeIs PyProof.Rows.slot_tuple_getitem.lookup (HT.getItem_tuple_back ht (HZ ..) ?_ (by rw [DL,<- r.length];exact hz)) (by with_unfolding_all rfl);refine ⟨.ref (s3.heap.push {cls:=.type "slice",data:=.fields #[.none,.none,.int (-1) t]}).objs.size,_,I4.laid (t':=s3.toks) (o:=.tup xs.reverse) (λb ob q=>Dz _ q) (DI _) ?_,rfl,q _ I4.fresh⟩;exact ⟨by rw [E8];exact hz,_,vK r,IsTup.new _ _⟩
end
end L2
namespace HT
open PySem PyProof.Rows
section
variable {prog:Program} {w:World} {A:Around} {s:Shared} {E:Value->Shared->Prop} {d j:Addr} {ks:List Value} {i ep:Nat}
def DEs (h:Heap) (d:Addr) (ks:List Value) (ep:Nat):Prop:= ∃ o es,h.get? d=some o/\o.ExactDict/\o.data=.dict es ep/\es.toList.map (·.key)=ks
theorem DEs.type (m:DEs s.heap d ks ep):s.TypeIs (.ref d) "dict":=by
 obtain ⟨o,_,ho,hc,_⟩:=m;exact ⟨o,ho,hc.1⟩
theorem DEs.keeps {h h':Heap} (m:DEs h d ks ep) (k: ∀ o,h.get? d=some o->h'.get? d=some o):DEs h' d ks ep:=by
 obtain ⟨o,es,ho,r⟩:=m;exact ⟨o,es,k o ho,r⟩
theorem DEs.lt {h:Heap} (m:DEs h d ks ep):d<h.objs.size:=by
 obtain ⟨o,es,ho,_⟩:=m;exact DR ho
theorem jB {es:Array DictEntry} (e:es.toList.map (·.key)=ks):es.size=ks.length:=by
 rw [<- e,Dx,EJ]
theorem iter_des {Q:Value->Shared->Prop} (lo:(d==sysModules)=false) (m:DEs s.heap d ks ep)
  (q:Q (.ref s.heap.objs.size) {s with heap:=s.heap.push {cls:=.type "dict_keyiterator",data:=.fields #[.ref d,.int 0 0,.int ks.length 0,.int ep 0]}}):wpAny (model prog w) A (pyIter (.ref d)) Q E s:=by
 have ty:=m.type;obtain ⟨o,es,ho,hc,hdat,hk⟩:=m;refine wpAny_pyIter_slot ty PySem.F.slot_dict_iter (EH PySem.F.slot_dict_iter ty PySem.F.entry_dict_iter ?_ (PySem.F.args_dict_iter_1 _));unfold Builtin.«dict.__iter__» Builtin.Dict.dictSlotNone;refine Dw (Dw (wpAny_notOrdered_dict ty ?_));refine Dy (show wpAny _ _ (Builtin.Dict.showsAll d >>= _) _ _ s from ?_);unfold Builtin.Dict.showsAll;rw [DU (by rw [lo];exact DM)];refine Dw (Dy (Dw (FZ ho hdat (Dw (Gh ho hdat ?_)))));refine Dw (Em (Dy ⟨_,rfl,"dict_keyiterator",_,⟨_,DS _ rfl,rfl⟩,PySem.F.slot_dict_keyiterator_next.lookup,?_⟩));simpa [rawInt,jB hk]using q
theorem next_des {x:Value} {Q:Option Value->Shared->Prop} (st:s.heap.IsKeyIter j d i ks.length ep) (m:DEs s.heap d ks ep) (hx:ks[i]? =some x)
  (q: ∀ h',h'.IsKeyIter j d (i+1) ks.length ep->Heap.SameBut j s.heap h'->Q (some x) {s with heap:=h'}):wpAny (model prog w) A (pyNext (.ref j)) Q E s:=by
 have ty:=st.typeIs;obtain ⟨o,ho,hc,hd⟩:=id st;obtain ⟨od,es,hod,hcd,hdd,hk⟩:=m;have hz:=jB hk;have hlt:i<ks.length:=(DH.mp hx).1;have hes:i<es.size:=by lia
 have hkey:es[i].key=x:=by
  have e1:(es.toList.map (·.key))[i]? =some x:=by rw [hk];exact hx
  rw [DP,FQ,Fv hes]at e1;exact Ej e1
 unfold pyNext;refine Dw (Gm (EC (name:=Str.ofString "__next__") ty Fb (EH Fb ty G1 ?_ (GV _))));refine Dw (Dy (Dw (Dw ?_)));first | refine Dw (FF ty (Dy (Dw (FN ho hd ?_)))) | refine Dw (F6 ty (Dy (Dw (FN ho hd ?_))))
 have own:Builtin.Dict_items.ownsTuple "dict_keyiterator"=false:=by decide
 simp only [own,El,EN];refine (show wpAny _ _ (if (Value.ref d==Value.none)=true then _ else _) _ _ s from ?_);rw [DU λb0:(Value.ref d==Value.none)=true=>DM b0];refine Dw (Dy (Dw (FZ hod hdd ?_)));rw [DU (by rw [hz];simp)];refine Dw (Dy (Dw (Gh hod hdd ?_)));rw [DU (by simp)];refine Dy ?_;simp only [show ¬ ((i:Int) <0)from by lia,EN,ET,Fv hes];refine Dw ?_;first | refine Dw (FF ty (Dy (Dw (Hv ty ?_)))) | refine Dw (F6 ty (Dy (Dw (Hv ty ?_))))
 refine (show wpAny _ _ (setField (.ref j) 1 (rawInt ((i:Int) +1)) >>= _) _ _ s from ?_);refine Dw (Fi ho hd (by simp) ?_);have st':(s.heap.update j (Obj.mapFields (·.setIfInBounds 1 (rawInt ((i:Int) +1))))).IsKeyIter j d (i+1) ks.length ep:=by
  refine ⟨_,E3 _ ho (Fx (EM hd _)),(Gr ..).trans hc,?_⟩;rw [EM hd];simp [rawInt]
 refine Dw (Ey (Dw (Hv (s:={s with heap:=s.heap.update j (Obj.mapFields (·.setIfInBounds 1 (rawInt ((i:Int) +1))))}) st'.typeIs ?_)));refine (show wpAny _ _ (pure es[i].key) _ _ _ from ?_);rw [hkey];exact Dy (Dy ⟨_,rfl,Dy (q _ st' (FL ..))⟩)
theorem end_des {Q:Option Value->Shared->Prop} (hh:A.handled=none) (st:s.heap.IsKeyIter j d i ks.length ep) (m:DEs s.heap d ks ep) (hx:ks.length<=i)
  (q: ∀ h',Heap.ExtBut j s.heap h'->Q none {s with heap:=h'}):wpAny (model prog w) A (pyNext (.ref j)) Q E s:=by
 have ty:=st.typeIs;obtain ⟨o,ho,hc,hd⟩:=id st;obtain ⟨od,es,hod,hcd,hdd,hk⟩:=m;have hz:=jB hk;unfold pyNext;refine Dw (Gm (EC (name:=Str.ofString "__next__") ty Fb (EH Fb ty G1 ?_ (GV _))));refine Dw (Dy (Dw (Dw ?_)));first | refine Dw (FF ty (Dy (Dw (FN ho hd ?_)))) | refine Dw (F6 ty (Dy (Dw (FN ho hd ?_))))
 have own:Builtin.Dict_items.ownsTuple "dict_keyiterator"=false:=by decide
 simp only [own,El,EN];refine (show wpAny _ _ (if (Value.ref d==Value.none)=true then _ else _) _ _ s from ?_);rw [DU λb0:(Value.ref d==Value.none)=true=>DM b0];refine Dw (Dy (Dw (FZ hod hdd ?_)));rw [DU (by rw [hz];simp)];refine Dw (Dy (Dw (Gh hod hdd ?_)));rw [DU (by simp)];refine Dy ?_;have hge:es.size<=i:=by lia
 simp only [show ¬ ((i:Int) <0)from by lia,EN,ET,Array.getElem?_eq_none hge];refine Dw ?_;first | refine Dw (FF ty (Dy ?_)) | refine Dw (F6 ty (Dy ?_))
 refine (show wpAny _ _ (setField (.ref j) 0 .none >>= _) _ _ s from Dw (Fi ho hd (by simp) ?_));refine (show wpAny _ _ (newExc (.type "StopIteration") [] >>= _) _ _ _ from Dw ?_);simp only [newExc,newTuple];refine Dw (Em (Dw (m:=firstArgMember _ _) (Ih (a:=Value.none) (by first | rfl | (simp only [firstArgMember];rfl)) (Em ?_ (by size_fits)))) (by size_fits));simp only [raiseNew];refine Dw (wpAny_handled ?_);rw [show A.in1.handled=none from hh];refine (Dw (Dy (wpAny_throw (?_))));refine Dw (EW (T:="StopIteration") (b:=true) ⟨_,DS _ rfl,rfl⟩ isSubtype_stop (Dy (q _ ?_)));exact ((FL ..).extBut.push _).push _
theorem ud (hh:A.handled=none) (hne:d≠j):Walks prog w A j [j,d] [j] ks.length (λi v=>ks[i]? =some v) (λi h=>h.IsKeyIter j d i ks.length ep/\DEs h d ks ep) where
 sub:=λb hb=>by rw [DF.mp hb];exact DW
 frame:=λ_ _ _ st k=>⟨st.1.at λo e=>k j (by simp) o e,st.2.keeps λo e=>k d (by simp) o e⟩
 item:=λi s Q E hi st hQ=>by
  have hx:ks[i]? =some ks[i]:=DD hi;refine next_des st.1 st.2 hx λh' st' sb=>?_;exact hQ _ h' s.toks hx ⟨st',st.2.keeps λo e=>sb.extBut d o hne e⟩ λb o hb e=>sb.extBut b o (λz=>hb (by rw [z];exact DW)) e
 done:=λs Q E st hQ=>end_des hh st.1 st.2 (DI _) λh' eb=>hQ h' s.toks λb o hb e=>eb b o (λz=>hb (by rw [z];exact DW)) e
 self:=λ_ _ _ _ st hQ=>wpAny_pyIter_keyiter st.1 hQ
theorem src_des (lo:(d==sysModules)=false):W.KdlSrc prog w "dict" d d ks.length (λi v=>ks[i]? =some v) (λh=>DEs h d ks ep) where
 type:=λ_ m=>m.type
 there:=λ_ m=>⟨m.lt,m.lt⟩
 keep:=λ_ _ m k=>m.keeps λo e=>k d (.inl rfl) o e
 notList:=by decide
 notTuple:=by decide
 hint:=λ_ _ _ _ m q=>W.kdl_hint_dict m.type q
 iter:=λ_ _ hh m=>⟨_,_,λ_ _ q=>iter_des lo m q,ud hh (Eg m.lt),⟨⟨_,DS _ rfl,rfl,rfl⟩,m.keeps λo e=>Dz _ e⟩⟩
end
end HT
namespace L2
open PySem PySem.Spec PyProof.Rows
section
variable {X:Cx}
noncomputable def KsOf (H:Hp):List V->List (List Key)->Prop:=Paired λy ks=> ∃ b,y=.ref b/\H b=some (.tup (ks.map kV))
theorem KsOf.mono {H H':Hp} {ys:List V} {kss:List (List Key)} (h:KsOf H ys kss) (t: ∀ b xs,H b=some (.tup xs)->H' b=some (.tup xs)):KsOf H' ys kss:=
 Paired.mapP h λ_ _ ⟨b,e,hb⟩=>⟨b,e,t _ _ hb⟩
theorem xR {H:Hp} {kvs:List (List Key×V)} {xs:List (List Key×Addr×Value)} (r:KT H kvs xs):KsOf H (xs.map λq=>V.ref q.2.1) (kvs.map (·.1)):=by
 induction r with
 | nil=>exact .nil
 | cons h _ ih=>exact .cons ⟨_,rfl,h.2.1⟩ ih
theorem sy (hc:X.calm=true):dU X (.type "list") (λxs H Q=> ∃ a kvs,xs=[.ref a]/\H a=some (.dT kvs)/\ ∀ p ys,H p=none->KsOf H ys (kvs.map (·.1))->Q (.ref p) (upd H p (.lst ys))):=by
 intro pins s σ H xs us Q I r h;obtain ⟨a,kvs,rfl,ha,q⟩:=h;obtain ⟨u,rfl,ru⟩:=iN r;cases ru;obtain ⟨hz,lo,ys,kt,o,es,ep,h1,h2,h3,h4,h5⟩:=(show ObjOk X.prog X.w H s.heap a (.dT kvs)from I.hok a _ ha);have hm:HT.DEs s.heap a (ys.map λq=>Value.ref q.2.1) ep:=by
  refine ⟨o,es,h1,h2,h3,?_⟩;rw [h4,Es];rfl
 have hl:ys.length=kvs.length:=(Ev kt).symm;refine W.kdl_call (HT.src_des lo) (I.ok.hd hc) hm (by rw [Dx];lia) λh' tk acc c' kp e hi=>?_;obtain ⟨i1,i2⟩:=hi;have hacc:acc.toList=ys.map λq=>Value.ref q.2.1:=by
  refine Gq λi=>?_;rw [FQ];cases hv:acc[i]? with
  | some v=>exact (i2 i v hv).symm
  | none=>
   have:acc.size<=i:=Array.getElem?_eq_none_iff.mp hv;exact (ER (by rw [<- i1];exact this)).symm
 have rv:Vals (ys.map λq=>V.ref q.2.1) (ys.map λq=>Value.ref q.2.1):=by
  clear kt h4 h5 hl i1 i2 hacc hm;induction ys with
  | nil=>exact .nil
  | cons y r ih=>exact .cons rfl ih
 refine ⟨.ref s.heap.objs.size,_,I.laid (t':=tk) (o:=.lst (ys.map λq=>V.ref q.2.1)) kp (DI _) ?_,rfl,q _ _ (I.hok.fresh (DI _)) (xR kt)⟩;refine ⟨by rw [Dx];lia,_,c',rv,?_⟩;rw [<- hacc,Array.toArray_toList];exact e
end
section
variable {X:Cx}
instance Dv (ks:List Key) (kss:List (List Key)):Decidable (ks∈kss):=decidable_of_iff (kss.any (λl=>decide (l=ks))=true) ⟨λh=>by
  obtain ⟨x,hx,e⟩:=Gc.mp h;rw [<- DT e];exact hx,λh=>Gc.mpr ⟨ks,h,DB rfl⟩⟩
theorem kn (K:W.Frag) (t:String) (ht:t∈["NoneType","bool","int","str","list","tuple","dict"]):
  W.kitAny K (.type t) [.type "tuple",.type "list"]=some (t=="tuple"||t=="list"):=by
 simp only [DK,Eb,EQ]at ht;rcases ht with rfl | rfl | rfl | rfl | rfl | rfl | rfl <;> first | rfl | (with_unfolding_all rfl) | (with_unfolding_all decide)
inductive TL (H:Hp):V->Bool->Prop where
 | str (z:Str):TL H (.str z) false
 | int (i:Int):TL H (.int i) false
 | tup {a:Addr} {xs:List V}:H a=some (.tup xs)->TL H (.ref a) true
 | lst {a:Addr} {xs:List V}:H a=some (.lst xs)->TL H (.ref a) true
theorem vD:dU X (.builtin "isinstance") (λxs H Q=> ∃ x p b,xs=[x,.ref p]/\H p=some (.tup [.ty "tuple",.ty "list"])/\TL H x b/\Q (.bl b) H):=by
 intro pins s σ H xs us Q I r h;obtain ⟨x,p,b,rfl,hp,ty,q⟩:=h;obtain ⟨u,w',rfl,rx,rp⟩:=kx r;cases (show w'=Value.ref p from rp);obtain ⟨_,its,rv,o,h1,h2,n,h3⟩:=(show ObjOk X.prog X.w H s.heap p (.tup [.ty "tuple",.ty "list"])from I.hok p _ hp);obtain ⟨u1,u2,rfl,r1,r2⟩:=kx rv;cases (show u1=Value.type "tuple" from r1);cases (show u2=Value.type "list" from r2);obtain ⟨c,d,dt,sl⟩:=o;simp only at h2 h3;subst h2 h3;have k: ∀ tk,EP X pins σ Q (.bool b) {s with toks:=tk}:=λtk=>⟨.bl b,H,I.tok tk,rfl,q⟩;cases ty with
 | int i=>
  obtain ⟨t,e⟩:=(show ∃ t,u=Value.int i t from rx);cases e;exact G4 W.kitx_int I.kIn True.intro h1 (kn _ "int" (by simp)) (λz=>nomatch z) k
 | str y=>
  obtain ⟨t,e⟩:=(show ∃ t,u=Value.str y t from rx);cases e;exact G4 W.kitx_str I.kIn True.intro h1 (kn _ "str" (by simp)) (λz=>nomatch z) k
 | @lst a xs ea=>
  cases (show u=Value.ref a from rx);obtain ⟨_,_,_,_,h4⟩:=(show ObjOk X.prog X.w H s.heap a (.lst xs)from I.hok a _ ea);exact G4 Ie I.kIn ⟨_,h4,rfl⟩ h1 (kn _ "list" (by simp)) (λz=>nomatch z) k
 | @tup a xs ea=>
  cases (show u=Value.ref a from rx);obtain ⟨_,_,_,o2,h4,h5,_⟩:=(show ObjOk X.prog X.w H s.heap a (.tup xs)from I.hok a _ ea);exact G4 W.kitx_tuple I.kIn ⟨o2,h4,h5⟩ h1 (kn _ "tuple" (by simp)) (λz=>nomatch z) k
end
end L2
namespace HT
open PySem PyProof.Rows
section
variable {prog:Program} {w:World} {A:Around} {s:Shared} {E:Value->Shared->Prop} {j t:Addr} {i:Nat} {items:Array Value}
theorem yt {x:Value} {Q:Value->Shared->Prop} (st:s.heap.IsTupleIter j t i) (ht:s.heap.IsTuple t items) (hx:items[i]? =some x)
  (q: ∀ h',h'.IsTupleIter j t (i+1)->Heap.SameBut j s.heap h'->Q x {s with heap:=h'}):wpAny (model prog w) A (Builtin.SmallTypes.nextOf (.ref j)) Q E s:=by
 have ty:=st.typeIs;obtain ⟨o,ho,hc,hd⟩:=id st;obtain ⟨ol,hol,_,nl,hdl⟩:=ht;unfold Builtin.SmallTypes.nextOf;refine Dw (EC (name:=Str.ofString "__next__") ty Fj (EH Fj ty Hj ?_ (G8 _)));refine (show wpAny _ _ (field (.ref j) 0 >>= _) _ _ s from Dw (E1 ho hd (x:=.ref t) rfl ?_));refine (show wpAny _ _ (if (Value.ref t==Value.none)=true then _ else _) _ _ s from ?_);rw [DU λb0:(Value.ref t==Value.none)=true=>DM b0];refine (show wpAny _ _ (field (.ref j) 1 >>= _) _ _ s from Dw (E1 ho hd (x:=.int i 0) rfl ?_));refine (show wpAny _ _ (seqItems? (.ref t) >>= _) _ _ s from Dw (HS hol hdl ?_));simp only [ET,hx];refine Dw (Fi ho hd (by simp) (Dy ⟨x,rfl,Dy (q _ ⟨_,E3 _ ho (Fx (EM hd _)),(Gr ..).trans hc,?_⟩ (FL ..))⟩));rw [EM hd];simp [rawInt]
theorem qh {Q:Value->Shared->Prop} (hh:A.handled=none) (st:s.heap.IsTupleIter j t i) (ht:s.heap.IsTuple t items) (hx:items[i]? =none)
  (q: ∀ h' e,Heap.ExtBut j s.heap h'->(∃ o,h'.get? e=some o/\o.cls=.type "StopIteration")->E (.ref e) {s with heap:=h'}):wpAny (model prog w) A (Builtin.SmallTypes.nextOf (.ref j)) Q E s:=by
 have ty:=st.typeIs;obtain ⟨o,ho,hc,hd⟩:=id st;obtain ⟨ol,hol,_,nl,hdl⟩:=ht;unfold Builtin.SmallTypes.nextOf;refine Dw (EC (name:=Str.ofString "__next__") ty Fj (EH Fj ty Hj ?_ (G8 _)));refine (show wpAny _ _ (field (.ref j) 0 >>= _) _ _ s from Dw (E1 ho hd (x:=.ref t) rfl ?_));refine (show wpAny _ _ (if (Value.ref t==Value.none)=true then _ else _) _ _ s from ?_);rw [DU λb0:(Value.ref t==Value.none)=true=>DM b0];refine (show wpAny _ _ (field (.ref j) 1 >>= _) _ _ s from Dw (E1 ho hd (x:=.int i 0) rfl ?_));refine (show wpAny _ _ (seqItems? (.ref t) >>= _) _ _ s from Dw (HS hol hdl ?_));simp only [ET,hx];refine Dw (wpAny_rule (Dw (Fi ho hd (by simp) (show wpAny _ _ (newExc (.type "StopIteration") [] >>= _) _ _ _ from Dw ?_))));simp only [newExc,newTuple];refine Dw (Em (Dw (m:=firstArgMember _ _) (Ih (a:=Value.none) (by first | rfl | (simp only [firstArgMember];rfl)) (Em ?_ (by size_fits)))) (by size_fits));simp only [raiseNew];refine Dw (wpAny_handled ?_);rw [show A.in1.handled=none from hh];exact Dw (Dy (wpAny_throw (q _ _ (((FL ..).extBut.push _).push _) ⟨_,DS _ rfl,rfl⟩)))
def SIter (c:Bool) (h:Heap) (j l:Addr) (i:Nat):Prop:=if c=true then h.IsTupleIter j l i else h.IsListIter j l i
def SSeq (c:Bool) (h:Heap) (l:Addr) (items:Array Value):Prop:=if c=true then h.IsTuple l items else h.IsList l items
theorem SIter.obj {c:Bool} {h:Heap} {l:Addr} (x:SIter c h j l i): ∃ o,h.get? j=some o/\ ∀ v,o.data≠ .cell v:=by
 cases c with
 | true=>obtain ⟨o,e,_,d⟩:=(show h.IsTupleIter j l i from x);exact ⟨o,e,λv z=>by rw [d]at z;cases z⟩
 | false=>obtain ⟨o,e,_,d⟩:=(show h.IsListIter j l i from x);exact ⟨o,e,λv z=>by rw [d]at z;cases z⟩
theorem SIter.at {c:Bool} {h h':Heap} {l:Addr} (x:SIter c h j l i) (k: ∀ o,h.get? j=some o->h'.get? j=some o):SIter c h' j l i:=by
 cases c with
 | true=>obtain ⟨o,e,r⟩:=(show h.IsTupleIter j l i from x);exact (show h'.IsTupleIter j l i from ⟨o,k o e,r⟩)
 | false=>obtain ⟨o,e,r⟩:=(show h.IsListIter j l i from x);exact (show h'.IsListIter j l i from ⟨o,k o e,r⟩)
theorem SSeq.at {c:Bool} {h h':Heap} {l:Addr} (x:SSeq c h l items) (k: ∀ o,h.get? l=some o->h'.get? l=some o):SSeq c h' l items:=by
 cases c with
 | true=>obtain ⟨o,e,r⟩:=(show h.IsTuple l items from x);exact (show h'.IsTuple l items from ⟨o,k o e,r⟩)
 | false=>obtain ⟨o,e,r⟩:=(show h.IsList l items from x);exact (show h'.IsList l items from ⟨o,k o e,r⟩)
theorem draws_seq (c:Bool) (hh:A.handled=none) (j l:Addr) (hne:l≠j) (items:Array Value):
  Draws prog w A j [j,l] items.size (λi v=>items[i]? =some v) (λi h=>SIter c h j l i/\SSeq c h l items) where
 live:=λ_ _ st=>let ⟨o,e,_⟩:=st.1.obj;⟨o,e⟩
 frame:=λ_ _ _ st k=>⟨st.1.at λo e=>k j (by simp) o e,st.2.at λo e=>k l (by simp) o e⟩
 item:=λi s Q E hi st hQ=>by
  have hx:items[i]? =some items[i]:=Fv hi;cases c with
  | true=>exact yt st.1 st.2 hx λh' st' sb=>hQ _ h' s.toks hx ⟨st',st.2.at λo e=>sb.extBut l o hne e⟩ sb
  | false=>exact wpAny_nextOf_list_item st.1 st.2 hx λh' st' sb=>hQ _ h' s.toks hx ⟨st',st.2.at λo e=>sb.extBut l o hne e⟩ sb
 done:=λs Q E st hE=>by
  cases c with
  | true=>exact qh hh st.1 st.2 (by simp) hE
  | false=>exact wpAny_nextOf_list_end hh st.1 st.2 (by simp) hE
end
section
variable {prog:Program} {w:World} {A:Around} {s:Shared} {E:Value->Shared->Prop}
noncomputable def tIt (l:Addr):Obj:={cls:=.type "tuple_iterator",data:=.fields #[.ref l,.int 0 0]}
end
end HT
namespace L2
open PySem PySem.Spec PyProof.Rows
noncomputable def C5 (c:Bool) (xs:List V):HO:=if c=true then .tup xs else .lst xs
theorem Inv.seqS {X:Cx} {pins:List (Addr×Obj)} {σ:St} {H:Hp} {s:Shared} {c:Bool} {a:Addr} {xs:List V} (I:Inv X pins σ H s) (h:H a=some (C5 c xs)): ∃ its:List Value,Vals xs its/\HT.SSeq c s.heap a its.toArray/\xs.length<=sizeLine:=by
 cases c with
 | true=>obtain ⟨its,r,p,z⟩:=I.tuple (SqT.of (K:=X.K) h);exact ⟨its,r,p,z⟩
 | false=>obtain ⟨its,r,p,z⟩:=I.list (SqL.of (K:=X.K) h);exact ⟨its,r,p.isList,z⟩
section
variable {prog:Program} {w:World} {A:Around} {R:Result->Shared->Prop} {s:Shared}
theorem lC {elt target iter cnd:Expr} {scope:Scope} {pos:Pos} {it acc:Value} {env:Env} (I:Nat->Shared->Prop)
  (turn: ∀ n s,I n s->wpAny (model prog w) A (pyNext it) (λr s₁=>match r with
   | none=>R (.ok .next) s₁
   | some v=>wpAny (model prog w) A (letOwnedTupleGo target it v) (λ_ s₁'=>wpAny (model prog w) A (assign target env v) (λ_ s₂=>wpAny (model prog w) A (isTrue cnd env (eval cnd env)) (λok s₃=>
     if ok=true then wpAny (model prog w) A (eval elt env) (λx s₄=>
      wpAny (model prog w) A (call (.builtin "list.append") [acc,x]) (λ_ s₅=> ∃ m,m<n/\I m s₅) (λ_ _=>False) s₄) (λ_ _=>False) s₃
     else ∃ m,m<n/\I m s₃) (λ_ _=>False) s₂) (λ_ _=>False) s₁') (λ_ _=>False) s₁) (λ_ _=>False) s)
  (n:Nat) (h:I n s):codeAny (model prog w) A (.compLoop (.ListComp elt [⟨target,iter,[cnd],0⟩] scope pos) 0 it acc env) R s:=by
 refine codeAny_loop rfl I (λn s hI=>?_) n h;show wpAny _ _ ((compTurn (.ListComp elt [⟨target,iter,[cnd],0⟩] scope pos) 0 it acc env).onRaise (λx=>do noteFrame x env;theTreesLotGoes x)) _ _ s;refine wpAny_noted ?_;rw [compTurn_list];refine wpAny_noRaise ?_;refine Dw (Gk (Dw (E2 (turn n s hI) (λr s₁ h₁=>?_) λ_ _ h'=>h')));cases r with
 | none=>exact Dy h₁
 | some v=>
  refine Dw (E2 h₁ (λ_ s₁' h₁'=>?_) λ_ _ h'=>h');refine Dw (E2 h₁' (λ_ s₂ h₂=>Dw (E2 (wpAny_tests_one h₂) (λok s₃ h₃=>?_) λ_ _ h'=>h')) λ_ _ h'=>h');cases ok with
  | false=>exact Dy ⟨rfl,h₃⟩
  | true=>
   exact Dw (Dw (E2 h₃ (λx s₄ h₄=>Dw (E2 h₄ (λ_ s₅ h₅=>Dy (Dy ⟨rfl,h₅⟩)) λ_ _ h'=>h')) λ_ _ h'=>h'))
end
def kg (fr:List Nat) (tc:TT) (te:TE) (σ:St) (J:It) (H1:Hp) (Q:VK):Prop:=
 ∀ p,H1 p=none-> ∃ W:Nat->Nat->List V->Hp->Prop,(∃ m,W 0 m [] (upd H1 p (.lst [])))/\ ∀ i m ys H,W i m ys H->H p=some (.lst ys)/\
  ((J.stop i H/\Q (.ref p) H)\/(J.go i H/\ys.length<sizeLine/\ ∀ x H',J.yld i H x H'->tc (some x::bV fr σ) H' λb H2=>if b=true then te (some x::bV fr σ) H2 λv H3=>
   H3 p=some (.lst ys)/\ ∃ m',m'<m/\W (i+1) m' (ys++[v]) (upd H3 p (.lst (ys++[v])))else ∃ m',m'<m/\W (i+1) m' ys H2))
def mW (wi:TI) (fr:List Nat) (tc:TT) (te:TE):TE:=λσ H Q=>wi σ H λJ H1=>kg fr tc te σ J H1 Q
section
variable {X:Cx} {x:Str} {px pos fpos:Pos} {iter elt cnd:Expr} {scope sc0:Scope} {N0 ys:List Str} {fr:List Nat} {wi:TI} {tc:TT} {te:TE} {pins:List (Addr×Obj)} {σ:St} {H:Hp} {s:Shared}
theorem lB {use:Option (Value->Sem Unit)} {Qv:Value->Shared->Prop} {Q:VK} (hcalm:X.calm=true) (hi:PI X (.Name x px) iter wi) (hsc:X.env.scope=sc0) (hN:X.N=N0) (ok:gw sc0 N0 scope x ys fr)
  (hT: ∀ C s H ex,PT (cc X x ys scope C s H ex) cnd tc) (hE: ∀ C s H ex,PE (cc X x ys scope C s H ex) elt te) (I:Inv X pins σ H s) (h:mW wi fr tc te σ H Q) (hs: ∀ v,foldedSetIterable iter X.env v=pure v)
  (fin: ∀ (p C:Addr) (H':Hp) (s':Shared) (m:Str->Option Value),Inv X pins σ H' s'->s'.heap.Ns C m->H' C=none->C≠X.env.locals->X.s₀.heap.objs.size<=C->(∀ y c,X.env.cells.lookup y=some c->c≠C)->(∀ q∈X.pn++pins,q.1≠C)->Q (.ref p) H'->
   compPost (model X.prog X.w) X.A X.xe use Qv (.ref p) C (.ok .next) s'):
  wpAny (model X.prog X.w) X.A (comprehension (.ListComp elt [⟨.Name x px,iter,[cnd],0⟩] scope pos) scope X.env fpos (newList []) false (eval iter X.env) use) Qv X.xe s:=by
 subst hsc hN;have hkof: ∀ y,X.env.kindOf y=X.env.scope.names.lookup y:=λy=>rfl;have hfree: ∀ y∈scope.names,y.2=.free-> ∃ c,X.env.cells.lookup y.1=some c:=λy hy e=>I.ok.has y.1 (.inl (ok.free y hy e));refine G0 (gs:=[]) rfl hs (ff hfree) ok.kind ok.loc (thn (hi pins s σ H _ I h) λv s1 h1=>thn h1 λitv s2 h2=>?_);obtain ⟨it,fp,tn,J,H2,e,I2,T,st2,f2,hp⟩:=h2;subst e;refine Em (HD ok.nocell (by intro y hy;simp at hy) (λh₁ hns₁ hsb₁=>?_) ok.kind);dsimp only at hns₁ hsb₁ ⊢;have I3:Inv X pins σ (upd H2 s2.heap.objs.size (.lst [])) {s2 with heap:=s2.heap.push {cls:=.type "list",data:=.seq ([]:List Value).toArray}}:=
  I2.lnew (its:=[]) (ys:=[]) (t':=s2.toks) .nil (Er _)
 have hf2: ∀ b∈fp,b<s2.heap.objs.size:=λb hb=>by
  obtain ⟨o,e,_⟩:=T.obj _ _ st2 b hb;exact DR e
 have hps:s2.heap.objs.size< (s2.heap.push {cls:=.type "list",data:=.seq ([]:List Value).toArray}).objs.size:=by rw [FM];exact Gy _
 have W0:=hp s2.heap.objs.size I2.fresh;have st3:tn 0 (s2.heap.push {cls:=.type "list",data:=.seq ([]:List Value).toArray}):=T.keep _ _ _ st2 λb hb o e=>Dz _ e;generalize hpp:s2.heap.objs.size=p at I3 W0 hf2 hps ⊢;generalize hh3:(s2.heap.push {cls:=.type "list",data:=.seq ([]:List Value).toArray})=h3 at I3 hns₁ hsb₁ hps st3 ⊢;generalize hH3:upd H2 p (.lst [])=H3 at I3 W0;have hold: ∀ b o,h3.get? b=some o->h₁.get? b=some o:=λb o e=>hsb₁.extBut b o (Eg (DR e)) (Dz _ e);have fH3: ∀ b∈fp,H3 b=none:=λb hb=>by
  rw [<- hH3,aj (Eg (hf2 b hb))];exact (f2 b hb).1
 have hclos: ∀ y c,(dQ X.env.cells scope.names).lookup y=some c->X.env.cells.lookup y=some c:=λy c e=>dZ e;have hcell3: ∀ y c,X.env.cells.lookup y=some c->c<h3.objs.size:=λy c e=>by
  obtain ⟨v,o,ho,_⟩:=I3.cell y c e;exact DR ho
 have hlt3:X.env.locals<h3.objs.size:=I3.lt;have Yok:(cc X x ys scope h3.objs.size {s2 with heap:=h3} H3 fp).Ok:={
  mod:=I.ok.mod
  kind:=ok.kind
  glob:=I.ok.glob
  blt:=I.ok.blt
  above:=DI _
  inj:=λy z c e1 e2=>I.ok.inj y z c (hclos _ _ e1) (hclos _ _ e2)
  has:=λy hk=>by
   have hfr:(y,NameKind.free)∈scope.names:=by
    have hm: ∃ k,(bi X.env.scope scope).lookup y=some k/\(k=.cell\/k=.free):=by
     rcases hk with hk | hk
     ·exact ⟨_,hk,.inl rfl⟩
     ·exact ⟨_,hk,.inr rfl⟩
    obtain ⟨k,hk,hkk⟩:=hm;have hmem:=mem_of_lookup hk;unfold bi at hmem;obtain ⟨⟨n,k0⟩,hn,en⟩:=DY.mp hmem;dsimp only at en;split at en
    ·rename_i hc;simp only [Ek]at hc;have hk0:k0=.free:=by simpa using hc.1.1
     cases en;rw [<- hk0];exact hn
    ·cases en;rcases hkk with e | e
     ·exact absurd e (ok.nocell _ hn)
     ·rw [<- e];exact hn
   obtain ⟨c,hc⟩:=hfree _ hfr rfl;exact ⟨c,dB hc hfr⟩
  cab:=λy c hf _=>by cases hf
  hd:=I.ok.hd
  frames:=I.ok.frames
  stk:=.inl rfl
  exf:=λb hb=>⟨λe=>absurd (hf2 b hb) (by rw [e];exact Hy.mpr (EA hps)),λy c e=>(f2 b hb).2.2.2.2.1 y c (hclos _ _ e)⟩
  bs:=λb o e=>⟨(I3.bs b o e).1,(I3.bs b o e).2⟩
  bsz:=Eh I.ok.bsz I3.sz
  noex:=λb o e hb=>by
   rcases (f2 b hb).2.2.2.1 with q | q
   ·exact I.ok.noex b o e q
   ·have h1:b<X.base.objs.size:=DR e;exact absurd h1 (Hy.mpr (Eh I.ok.bsz q))
  exfs:=λb hb hm=>by
   rcases DK.mp (I3.stkSub b hm)with q | q
   ·exact (f2 b hb).2.1 q
   ·exact (f2 b hb).2.2.1 q
  funs:=I3.stack
  frf:=I3.stkFree}
 have IY:Inv (cc X x ys scope h3.objs.size {s2 with heap:=h3} H3 fp) [] (none::bV fr σ) H3 {s2 with heap:=h₁,toks:=s2.toks+ ([]:List (Str×Value)).length}:={
  ok:=Yok
  os:=rfl
  bare:=I2.bare
  base:=Un.kept hold
  loc:=by
   refine ⟨_,hns₁,λi y v hy hv hvis=>?_⟩;cases i with
   | zero=>cases hv
   | succ j=>
    have hy':ys[j]? =some y:=hy;have hv':(bV fr σ)[j]? =some (some v):=hv;unfold bV at hv';rw [DP]at hv';obtain ⟨i0,hi0,hv0⟩:=Ez.mp hv';have hz:(y,i0)∈ys.zip fr:=by
     refine FR.mpr ⟨j,?_⟩;rw [GJ];exact ⟨hy',hi0⟩
    obtain ⟨hn,hk,hk2⟩:=ok.sl _ hz;have hσ:σ[i0]? =some (some v):=by
     cases e:σ[i0]? with
     | none=>rw [e]at hv0;cases hv0
     | some o=>
      rw [e]at hv0;rw [show o=some v from hv0]
    obtain ⟨m,hm,hl⟩:=I3.loc;obtain ⟨u,ru,lk⟩:=hl i0 y v hn hσ (.inr (.inl hk));refine ⟨u,ru,.inr ⟨.inl hk2,?_⟩⟩;rcases lk with ⟨a,_⟩ | ⟨_,c,hc,hcell⟩
    ·have a':X.env.scope.names.lookup y=some .local:=a;have hk':X.env.scope.names.lookup y=some .cell:=hk;rw [hk']at a';cases a'
    ·have hfr:(y,NameKind.free)∈scope.names:=by
      have hmem:=mem_of_lookup hk2;unfold bi at hmem;obtain ⟨⟨n,k0⟩,hn0,en⟩:=DY.mp hmem;dsimp only at en;split at en
      ·rename_i hc0;simp only [Ek]at hc0;have hk0:k0=.free:=by simpa using hc0.1.1
       cases en;rw [<- hk0];exact hn0
      ·cases en;exact absurd rfl (ok.nocell _ hn0)
     exact ⟨c,dB hc hfr,hcell.keeps hold⟩
  cell:=λy c e=>by
   obtain ⟨v,hv⟩:=I3.cell y c (hclos _ _ e);exact ⟨v,hv.keeps hold⟩
  free:=I3.fresh
  freeC:=λy c e=>I3.freeC y c (hclos _ _ e)
  pin:=λq hq=>by cases hq
  hok:=I3.hok.kept hold
  len:=by
   show (none::bV fr σ).length=(x::ys).length;rw [DJ,DJ,ok.len];unfold bV;rw [Dx]}
 have hxl:(cc X x ys scope h3.objs.size {s2 with heap:=h3} H3 fp).env.scope.names.lookup x=some .local:=ok.xl;have pgx:PG (cc X x ys scope h3.objs.size {s2 with heap:=h3} H3 fp) (.Name x px) (eM 0):=dD (i:=0) ok.nd rfl (.inl hxl) (.inr hxl);have pel:=hE h3.objs.size {s2 with heap:=h3} H3 fp;have ptl:=hT h3.objs.size {s2 with heap:=h3} H3 fp;obtain ⟨W,⟨m0,w0⟩,turn⟩:=W0;have stat: ∀ {H':Hp},(∀ b∈fp,H' b=none)-> ∀ b∈fp,lO (cc X x ys scope h3.objs.size {s2 with heap:=h3} H3 fp) [] H' b:=λhn b hb=>
  ⟨hn b hb,(Yok.exf b hb).1,Yok.exfs b hb,.inl hb,(Yok.exf b hb).2,λq hq=>by cases hq⟩
 have loop:codeAny (model X.prog X.w) X.A (.compLoop (.ListComp elt [⟨.Name x px,iter,[cnd],0⟩] scope pos) 0 (.ref it) (.ref p) (compEnvC scope (dQ X.env.cells scope.names) h3.objs.size X.env))
   (compPost (model X.prog X.w) X.A X.xe use Qv (.ref p) h3.objs.size) {s2 with heap:=h₁,toks:=s2.toks+ ([]:List (Str×Value)).length}:=by
  refine lC (λn s'=> ∃ i zs v0 H',Inv (cc X x ys scope h3.objs.size {s2 with heap:=h3} H3 fp) [] (v0::bV fr σ) H' s'/\tn i s'.heap/\(∀ b∈fp,H' b=none)/\W i n zs H') ?_ m0
   ⟨0,[],none,H3,IY,T.keep _ _ _ st3 λb hb o e=>hold b o e,fH3,w0⟩
  rintro n s5 ⟨i,zs,v0,H5,I5,st5,fr5,w5⟩;obtain ⟨hacc,turn5⟩:=turn i n zs H5 w5;rcases turn5 with ⟨stop,qn⟩ | ⟨go,hlen,step⟩
  ·refine thn (T.done (cc X x ys scope h3.objs.size {s2 with heap:=h3} H3 fp) rfl rfl rfl hcalm i [] s5 _ H5 _ I5 (stat fr5) st5 stop) λr s6 ⟨hr,I6⟩=>?_;subst hr;obtain ⟨m6,n6,_⟩:=I6.loc;refine fin p h3.objs.size H5 s6 m6 (I3.call' I6.os I6.base I6.hok I6.bare λb hb=>⟨(f2 b hb).2.2.2.1,(f2 b hb).2.1,(f2 b hb).2.2.2.2.1,(f2 b hb).2.2.2.2.2⟩) n6 I6.free (Ge hlt3) I3.sz (λy c e=>Eg (hcell3 y c e)) (λq hq=>?_) qn;exact Eg (DR (I3.pin q hq).1)
  ·refine thn (T.item (cc X x ys scope h3.objs.size {s2 with heap:=h3} H3 fp) rfl rfl rfl hcalm i [] s5 _ H5 _ I5 (stat fr5) st5 go) λr s6 ⟨u,hr,h6⟩=>?_;subst hr;refine thn h6 λ_ s7 ⟨xv,H7,I7,r7,y7,st7,fr7⟩=>?_;have I7':=I7.pinned (stat fr7) (T.obj _ _ st7);refine thn (pgx _ s7 _ H7 xv u (λσ' H'=>σ'=some xv::bV fr σ/\H'=H7) I7' r7 ⟨rfl,rfl⟩) λ_ s8 ⟨σ8,H8,I8,e8,e8'⟩=>?_;subst e8 e8';refine thn (ptl _ s8 _ H8 _ I8 (step xv H8 y7)) λbb s8' ⟨H8',I8',hb⟩=>?_;cases bb with
   | false=>
    obtain ⟨m',hm',w9⟩:=hb;refine ⟨m',hm',i+1,zs,some xv,_,I8'.unpinned,T.keep _ _ _ st7 λb hb o e=>(I8'.pin (b,o) (DO _ (DO _ (bG hb e)))).1,λb hb=>?_,w9⟩;obtain ⟨o,e,d⟩:=T.obj _ _ st7 b hb;exact (I8'.pin (b,o) (DO _ (DO _ (bG hb e)))).2.1
   | true=>
   refine thn (pel _ s8' _ H8' _ I8' hb) λyv s9 ⟨v9,H9,I9,r9,hp9,m',hm',w9⟩=>?_;refine thn (bM _ s9 _ H9 (.ref p) [v9] (.ref p) [yv] (λ_ H'=>H'=upd H9 p (.lst (zs++[v9]))) I9 rfl (.cons r9 .nil) ⟨p,zs,v9,rfl,rfl,hp9,hlen,rfl⟩) λ_ s10 ⟨_,H10,I10,_,e10⟩=>?_;subst e10;refine ⟨m',hm',i+1,zs++[v9],some xv,_,I10.unpinned,T.keep _ _ _ st7 λb hb o e=>(I10.pin (b,o) (DO _ (DO _ (bG hb e)))).1,λb hb=>?_,w9⟩;obtain ⟨o,e,d⟩:=T.obj _ _ st7 b hb;exact (I10.pin (b,o) (DO _ (DO _ (bG hb e)))).2.1
 exact Hq loop (T.self X.A 0 _ _ _ (T.keep _ _ _ st3 λb hb o e=>hold b o e) loop)
theorem kP (hcalm:X.calm=true) (hi:PI X (.Name x px) iter wi) (hsc:X.env.scope=sc0) (hN:X.N=N0) (ok:gw sc0 N0 scope x ys fr)
  (hT: ∀ C s H ex,PT (cc X x ys scope C s H ex) cnd tc) (hE: ∀ C s H ex,PE (cc X x ys scope C s H ex) elt te) (hs: ∀ v,foldedSetIterable iter X.env v=pure v:=by intro _;rfl):
  PE X (.ListComp elt [⟨.Name x px,iter,[cnd],0⟩] scope pos) (mW wi fr tc te):=by
 intro pins s σ H Q I h;rw [eval_ListComp];refine lB (use:=none) (Qv:=EP X pins σ Q) (Q:=Q) hcalm hi hsc hN ok hT hE I h hs λp C H' s' m I' hn h0 h1 h2 h3 h4 q=>?_;refine ⟨m,hn,λh' sb=>⟨.ref p,H',I'.turned (t':=s'.toks) (λb o hb e=>sb.extBut b o hb e) h0 (EI (EI h1)) (.inr h2) h3 h4,rfl,q⟩⟩
theorem wU {i:Nat} {y:Str} {py spos:Pos} (hcalm:X.calm=true) (hnd:X.N.Nodup) (hiN:X.N[i]? =some y) (hy:Loc X.env.scope y) (hi:PI X (.Name x px) iter wi) (hsc:X.env.scope=sc0) (hN:X.N=N0) (ok:gw sc0 N0 scope x ys fr)
  (hT: ∀ C s H ex,PT (cc X x ys scope C s H ex) cnd tc) (hE: ∀ C s H ex,PE (cc X x ys scope C s H ex) elt te) (hsw:swapsWith (.ListComp elt [⟨.Name x px,iter,[cnd],0⟩] scope pos) (some (.Name y py)) spos.line X.env=pure true:=by rfl)
  (hs: ∀ v,foldedSetIterable iter X.env v=pure v:=by intro _;rfl) (hf:X.fn y=true\/X.env.scope.names.lookup y=some .local:=by first | exact .inl rfl | exact .inr rfl | assumption):
  PS X (.Assign [.Name y py] (.ListComp elt [⟨.Name x px,iter,[cnd],0⟩] scope pos) spos) (mX (mW wi fr tc te) (eM i)):=by
 intro pins s σ H D I h;rw [exec_Assign_Name_used _ _ _ _ hsw];refine Dw (Gk (Dw ?_));show wpAny _ X.A (do let _ <- comprehension (.ListComp elt [⟨.Name x px,iter,[cnd],0⟩] scope pos) scope X.env _ (newList []) false (eval iter X.env) (some (assign (.Name y py) X.env))) _ _ s;refine Dw (thn (lB (use:=some (assign (.Name y py) X.env)) (Qv:=λ_ s'=>SP X pins D .next s') (Q:=λv H'=>D.nx (σ.set i (some v)) H') hcalm hi hsc hN ok hT hE I h hs λp C H' s' m I' hn h0 h1 h2 h3 h4 q=>?_) λ_ s' hq=>Dy (Dy hq));show wpAny _ X.A (assign (.Name y py) X.env (.ref p)) _ _ s';refine Ib (jv (v:=.ref p) I' hnd hiN hy rfl (λs'' I'' ⟨a,sb,ha⟩=>?_) hf);have hCa:C≠a:=by
  rcases ha with e | e
  ·rw [e];exact h1
  ·exact (h3 y a e).symm
 refine ⟨m,hn.sameBut sb hCa,λh' sb'=>⟨_,H',I''.turned (t':=s''.toks) (λb o hb e=>sb'.extBut b o hb e) h0 h1 (.inr h2) h3 h4,q⟩⟩
end
end L2
namespace HT
open PySem PyProof.Rows
theorem noFill_tuple_mul:fillsNumberSlot (.type "tuple") "mul"=pure false:=
 PySem.fillsNumberSlot_seq (id:="tuple.__mul__") (r:=some (.builtin "tuple.__rmul__")) F.slot_tuple_mul.lookup (by decide +kernel) F.slot_tuple_rmul.lookup (by decide +kernel)
theorem repeat_tuple:seqRepeat? (.type "tuple")=pure (some (.builtin "tuple.__mul__")):=by
 unfold seqRepeat?;rw [PySem.seqSlot_of (T:="tuple") (name:="__mul__") (id:="tuple.__mul__") F.slot_tuple_mul.lookup (by decide +kernel),PySem.seqSlot_of (T:="tuple") (name:="__rmul__") (id:="tuple.__rmul__") F.slot_tuple_rmul.lookup (by decide +kernel)];rfl
theorem int_rmul_tuple (a:Int) (t:Tok) (l:Addr) (items:Array Value) (n:Nat) (dd:Option Addr) (sl:Array (Option Value)):
  Meets (Builtin.«int.__rmul__» ⟨[.int a t,.ref l],[]⟩) (λ_ R s=>s.heap.get? l=some {cls:=.type "tuple",dict:=dd,data:=.seq items n,slots:=sl}/\R (.ok (.ret Value.notImplemented)) s):=
 .of_wp λprog w A R s h=>by obtain ⟨hp,g,d,tk,os⟩:=s;obtain ⟨hl,h⟩:=h;wp_walk;exact ⟨_,rfl,h⟩
end HT
namespace L2
open PySem PySem.Spec PyProof.Rows
section
variable {X:Cx}
theorem xj:OpR X (binaryOp .Add) (λx y H Q=> ∃ a b xs ys,x=.ref a/\y=.ref b/\SqT X.K H a xs/\SqT X.K H b ys/\xs.length+ys.length<=sizeLine/\(xs=[]->Q (.ref b) H)/\(xs≠[]->ys=[]->Q (.ref a) H)/\
  (xs≠[]->ys≠[]-> ∀ p,H p=none->Q (.ref p) (upd H p (.tup (xs++ys))))):=by
 intro pins s σ H x y v u Q I rx ry h;obtain ⟨a,b,xs,ys,rfl,rfl,ha,hb,hz,q0,q1,q2⟩:=h;by_cases hx:xs=[]
 ·subst hx;cases rx;cases ry;obtain ⟨its,r1,p1,_⟩:=I.tuple ha;obtain ⟨its2,r2,p2,_⟩:=I.tuple hb;cases r1;obtain ⟨⟨cls,dd,data,sl⟩,ho,hc,n,hd⟩:=id p1;obtain ⟨⟨cls2,dd2,data2,sl2⟩,ho2,hc2,n2,hd2⟩:=id p2;simp only at hc hd hc2 hd2;subst hc hd hc2 hd2;exact concat_meets ⟨_,ho,rfl⟩ ⟨_,ho2,rfl⟩ Iw seq_tuple_add Hm G9 (GZ _ _)
   (tuple_addW0 a b #[] its2.toArray n n2 dd dd2 sl sl2 rfl) ⟨ho,ho2,⟨.ref b,H,I,rfl,q0 rfl⟩⟩
 ·exact zx pins s σ H _ _ v u Q I rx ry ⟨a,b,xs,ys,rfl,rfl,ha,hb,hx,hz,q1 hx,q2 hx⟩
end
section
variable {base G h h':Heap}
theorem n9 {env:Env} {r:List Env} {b:Addr} (hb:b∈frs r):b∈frs (env::r):=by
 unfold frs;rw [ES];cases env.frame with
 | none=>exact hb
 | some L=>exact DZ _ hb
end
inductive Rec (h:Heap) (x C:Addr) (od:Option Addr) (fl:Value) (T:Addr):Prop
 | mk (oe:Obj) (vs:Array Value) (oT:Obj) (ts:Array Value) (he:h.get? x=some oe) (hc:oe.cls=.ref C) (ho:oe.dict=od) (hd:oe.data=.fields vs) (h1:vs[1]? =some (.ref T)) (ne:T≠x)
   (hT:h.get? T=some oT) (hdT:oT.data=.fields ts) (h3:ts[3]? =some fl):Rec h x C od fl T
structure LeftF (l:List Env) (x C:Addr) (od:Option Addr) (fl:Value) (hs:List Addr) (h h':Heap):Prop where
 keep: ∀ b o,b≠x->b∉hs->b∉frs l->h.get? b=some o->h'.get? b=some o
 slot: ∀ b o,b∈frs l->h.get? b=some o-> ∃ sl,h'.get? b=some {o with slots:=sl}
 rc: ∃ T,Rec h' x C od fl T/\(T∈hs\/h.objs.size<=T)
 sz:h.objs.size<=h'.objs.size
theorem Rec.notFr {h base:Heap} {l:List Env} {x C T:Addr} {od:Option Addr} {fl:Value} (r:Rec h x C od fl T) (hl:h.FunFrames base l):x∉frs l/\T∉frs l:=by
 obtain ⟨oe,vs,oT,ts,he,hc,ho,hd,h1,ne,hT,hdT,h3⟩:=r;refine ⟨λz=>?_,λz=>?_⟩ <;> obtain ⟨_,o,e,nf⟩:=hl.mem z
 ·rw [he]at e;cases e;exact nf _ hd
 ·rw [hT]at e;cases e;exact nf _ hdT
theorem LeftF.trans {l:List Env} {x C T:Addr} {od:Option Addr} {fl fl':Value} {hs:List Addr} {h h1 h2:Heap} (a:LeftF l x C od fl hs h h1) (hT:T∈hs\/h.objs.size<=T) (b:LeftF l x C od fl' [T] h1 h2):LeftF l x C od fl' hs h h2:=by
 refine ⟨λc o n1 n2 n3 e=>b.keep c o n1 (λz=>?_) n3 (a.keep c o n1 n2 n3 e),λc o hc e=>?_,?_,Eh a.sz b.sz⟩
 ·rcases hT with z' | z' <;> rw [<- DF.mp z]at z'
  ·exact n2 z'
  ·exact absurd (DR e) (Hy.mpr z')
 ·obtain ⟨sl,e1⟩:=a.slot c o hc e;obtain ⟨sl',e2⟩:=b.slot c _ hc e1;exact ⟨sl',e2⟩
 ·obtain ⟨T2,r,h2⟩:=b.rc;refine ⟨T2,r,?_⟩;rcases h2 with z | z
  ·rw [DF.mp z];exact hT
  ·exact .inr (Eh a.sz z)
theorem mf {o:Obj} (f:Array Value->Array Value):(o.mapFields f).dict=o.dict:=by
 obtain ⟨c,d,dt,sl⟩:=o;cases dt <;> rfl
section
variable {M:Model} {A:Around} {E:Value->Shared->Prop} {s:Shared} {base:Heap} {env:Env} {outer:List Env} {L x C T:Addr} {od:Option Addr} {fl:Value} {Q:Unit->Shared->Prop}
theorem kJ {l:List Env} {fa:Option Addr} (hl:s.heap.FunFrames base l) (r:Rec s.heap x C od fl T) (k: ∀ h',LeftF l x C od (fa.elim .none λf=>rawInt f) [T] s.heap h'->Q () {s with heap:=h'}):wpAny M A (setFlight (.ref x) fa) Q E s:=by
 obtain ⟨_,hTf⟩:=r.notFr hl;obtain ⟨oe,vs,oT,ts,he,hc,ho,hd,h1,ne,hT,hdT,h3⟩:=r;have hsz3:3<ts.size:=(Fk.mp h3).1;have other: ∀ b,b≠T->(s.heap.update T (Obj.mapFields (·.setIfInBounds 3 (fa.elim Value.none λf=>rawInt f)))).get? b=s.heap.get? b:=λb hb=>E7 _ _ (EI hb);unfold setFlight;refine Dw (E1 he hd h1 ?_);rw [Ea (show (Value.ref T !=Value.none)=true from by simp)];refine Fi hT hdT hsz3 (k _ ⟨λb o n1 n2 n3 e=>(other b λz=>n2 (by rw [z];exact DF.mpr rfl)).trans e,λb o hb e=>⟨o.slots,(other b λz=>hTf (z▸hb)).trans e⟩,⟨T,?_,.inl (DF.mpr rfl)⟩,by rw [Hz];exact DI _⟩);exact .mk oe vs _ _ ((other x (EI ne)).trans he) hc ho hd h1 ne (E3 _ hT (Fx (EM hdT _))) (EM hdT _) (by simp [hsz3])
theorem tM {oe:Obj} {vs:Array Value} {head:Value} {hadNext:Bool} (hfr:A.frames=some (env::outer)) (hl:s.heap.FunFrames base (env::outer)) (hf:env.frame=some L) (he:s.heap.get? x=some oe) (hc:oe.cls=.ref C) (ho:oe.dict=od)
  (hd:oe.data=.fields vs) (hsz:1<vs.size) (k: ∀ h',LeftF (env::outer) x C od (rawInt L) [] s.heap h'->Q () {s with heap:=h'}):
  wpAny M A (do let a <- frameOf env;let pl <- entryPlaceOf L hadNext;let b <- EntryCells.newEntry head a .none (rawInt L) .none pl;setField (.ref x) 1 b) Q E s:=by
 have hene:x∉frs (env::outer):=λhm=>by
  obtain ⟨_,o,e,nf⟩:=hl.mem hm;rw [he]at e;cases e;exact nf _ hd
 refine Dw (wpAny_frameOf_fun hfr hl hf λh₁ hs₁=>?_);refine Dw (wpAny_entryPlaceOf λpl hpl=>?_);unfold EntryCells.newEntry newFields;refine Dw (Em ?_ (hpl.sizeOk5 _ _ _ _ _));have he₁:h₁.get? x=some oe:=(hs₁.2.1 x hene).trans he;generalize hn:({cls:=.type "traceback",dict:=none,data:=.fields ([head,.ref L,.none,rawInt L,.none]++(if pl.isEmpty then List.replicate 6 Value.none else pl)).toArray}:Obj)=nO;have he₂:=Dz (h:=h₁) nO he₁;refine Fi he₂ hd hsz (k _ ?_);have hTe:h₁.objs.size≠x:=Ge (DR he₁);have other: ∀ b o,b≠x->h₁.get? b=some o->((h₁.push nO).update x (Obj.mapFields (·.setIfInBounds 1 (Value.ref h₁.objs.size)))).get? b=some o:=λb o hb e=>by
  rw [E7 _ _ (EI hb)];exact Dz _ e
 refine ⟨λb o n1 _ n3 e=>other b o n1 ((hs₁.2.1 b n3).trans e),λb o hb e=>?_,⟨h₁.objs.size,?_,.inr ?_⟩,?_⟩
 ·obtain ⟨sl,e1⟩:=hs₁.2.2 b o e;exact ⟨sl,other b _ (λz=>hene (z▸hb)) e1⟩
 ·refine .mk _ _ nO _ (E3 _ he₂ (Fx (EM hd _))) ((Gr _ _).trans hc) ((mf _).trans ho) (EM hd _) (by simp [hsz]) hTe ?_ (by rw [<- hn]) ?_
  ·rw [E7 _ _ (EI hTe)];exact DS h₁ (by rw [<- hn];rfl)
  ·simp
 ·rw [hs₁.1];exact DI _
 ·rw [Hz,FM,hs₁.1];exact Ii _
theorem rK {oe:Obj} {vs:Array Value} (hfr:A.frames=some (env::outer)) (hl:s.heap.FunFrames base (env::outer)) (hf:env.frame=some L) (he:s.heap.get? x=some oe) (hc:oe.cls=.ref C) (ho:oe.dict=od)
  (hd:oe.data=.fields vs) (h1:vs[1]? =some .none) (k: ∀ h',LeftF (env::outer) x C od (rawInt L) [] s.heap h'->Q () {s with heap:=h'}):wpAny M A (noteFrame (.ref x) env) Q E s:=by
 unfold noteFrame;simp only [hf];refine Dw (E1 he hd h1 ?_);rw [DU (by decide)];exact tM hfr hl hf he hc ho hd (Fk.mp h1).1 k
theorem uV (hfr:A.frames=some (env::outer)) (hl:s.heap.FunFrames base (env::outer)) (hf:env.frame=some L) (r:Rec s.heap x C od fl T)
  (k: ∀ h',LeftF (env::outer) x C od (rawInt L) [T] s.heap h'->Q () {s with heap:=h'}):wpAny M A (noteFrame (.ref x) env) Q E s:=by
 obtain ⟨hxf,hTf⟩:=r.notFr hl;obtain ⟨oe,vs,oT,ts,he,hc,ho,hd,h1,ne,hT,hdT,h3⟩:=r;unfold noteFrame;simp only [hf];refine Dw (E1 he hd h1 ?_);rw [Ea (show (Value.ref T !=Value.none)=true from by simp)];refine Dw (E1 hT hdT h3 ?_);by_cases cf:(fl==rawInt L)=true
 ·rw [Ea cf];exact Dy (k s.heap ⟨λ_ _ _ _ _ e=>e,λ_ o _ e=>⟨o.slots,e⟩,⟨T,.mk oe vs oT ts he hc ho hd h1 ne hT hdT (h3.trans (congrArg some (HA.mp cf))),.inl (DF.mpr rfl)⟩,DI _⟩)
 rw [DU cf];refine Dw (Fi hT hdT (Fk.mp h3).1 ?_);have other: ∀ b,b≠T->(s.heap.update T (Obj.mapFields (·.setIfInBounds 3 Value.none))).get? b=s.heap.get? b:=λb hb=>E7 _ _ (EI hb);refine tM hfr (hl.of_keeps λb o hb hnf=>⟨o,(other b λz=>?_).trans hb,rfl⟩) hf ((other x (EI ne)).trans he) hc ho hd (Fk.mp h1).1 λh' L'=>k h' ⟨λb o n1 n2 n3 e=>L'.keep b o n1 (by simp) n3 ((other b λz=>n2 (by rw [z];exact DF.mpr rfl)).trans e),λb o hb e=>L'.slot b o hb ((other b λz=>hTf (z▸hb)).trans e),?_,?_⟩
 ·rw [z,hT]at hb;cases hb;exact hnf ts hdT
 ·obtain ⟨T',r',h'⟩:=L'.rc;refine ⟨T',r',.inr ?_⟩;rcases h' with z | z
  ·cases z
  ·exact Eh (by rw [Hz];exact DI _) z
 ·exact Eh (by rw [Hz];exact DI _) L'.sz
theorem jK {h h1:Heap} {hs:List Addr} {l:List Env} (hl:h.FunFrames base l) (a:LeftF l x C od fl hs h h1): ∀ {m:List Env},(∀ e∈m,e∈l)->h.FunFrames base m->h1.FunFrames base m
 | [],_,_=>trivial
 | e::m,hm,⟨hk,⟨L,o,hf,hn,ho,hd⟩,hr⟩=>by
  have hb:L∈frs l:=by
   unfold frs;exact HW.mpr ⟨e,hm e DW,hf⟩
  obtain ⟨sl,e1⟩:=a.slot L o hb ho;exact ⟨hk,⟨L,_,hf,hn,e1,hd⟩,jK hl a (λe he=>hm e (DZ _ he)) hr⟩
theorem pW {oe:Obj} {vs:Array Value} (hfr:A.frames=some (env::outer)) (hl:s.heap.FunFrames base (env::outer)) (hf:env.frame=some L) (he:s.heap.get? x=some oe) (hc:oe.cls=.ref C) (ho:oe.dict=od)
  (hd:oe.data=.fields vs) (h1:vs[1]? =some .none) (k: ∀ h',LeftF (env::outer) x C od .none [] s.heap h'->Q () {s with heap:=h'}):wpAny M A (leaving env (.ref x)) Q E s:=by
 unfold leaving;refine Dw (rK hfr hl hf he hc ho hd h1 λh1 a=>?_);obtain ⟨T,r,hT⟩:=a.rc;exact kJ (s:={s with heap:=h1}) (jK hl a (λ_ z=>z) hl) r λh2 b=>k h2 (a.trans hT b)
theorem uW (hfr:A.frames=some (env::outer)) (hl:s.heap.FunFrames base (env::outer)) (hf:env.frame=some L) (r:Rec s.heap x C od fl T)
  (k: ∀ h',LeftF (env::outer) x C od .none [T] s.heap h'->Q () {s with heap:=h'}):wpAny M A (noteFrame (.ref x) env) (λ_ s₂=>wpAny M A (setFlight (.ref x) none) Q E s₂) E s:=by
 refine uV hfr hl hf r λh1 a=>?_;obtain ⟨T',r',hT⟩:=a.rc;exact kJ (s:={s with heap:=h1}) (jK hl a (λ_ z=>z) hl) r' λh2 b=>k h2 (a.trans hT b)
end
theorem ObjOk.there {P:Program} {w:World} {H:Hp} {h:Heap} {a:Addr} {o:HO} (x:ObjOk P w H h a o): ∃ ob,h.get? a=some ob:=by
 cases o with
 | lst xs=>obtain ⟨_,_,_,_,e⟩:=x;exact ⟨_,e⟩
 | tup xs=>obtain ⟨_,_,_,ob,e,_⟩:=x;exact ⟨_,e⟩
 | dK kvs=>obtain ⟨_,_,_,_,o,_,_,e,_⟩:=x;exact ⟨_,e⟩
 | set S n=>obtain ⟨o,_,_,_,e,_⟩:=x;exact ⟨_,e⟩
 | ins C dx fs=>obtain ⟨_,_,_,e,_⟩:=x;exact ⟨_,e⟩
 | own y=>exact x
 | xd fs=>obtain ⟨_,⟨_,_,_,e,_⟩,_⟩:=x;exact ⟨_,e⟩
 | rng lo hi=>obtain ⟨_,_,_,e⟩:=x;exact ⟨_,e⟩
 | frz ob u=>obtain ⟨e,_⟩:=x;exact ⟨_,e⟩
 | tbl ps=>exact ⟨_,show h.get? a=some _ from x⟩
 | met f y=>exact ⟨_,show h.get? a=some _ from x⟩
 | ext φ=>obtain ⟨_,e,_⟩:=x;exact e
 | _=>obtain ⟨_,_,_,_,o,_,_,e,_⟩:=x;exact ⟨_,e⟩
theorem HOk.none_of {P:Program} {w:World} {H:Hp} {h:Heap} {a:Addr} (x:HOk P w H h) (e:h.get? a=none):H a=none:=by
 cases q:H a with
 | none=>rfl
 | some u=>obtain ⟨ob,z⟩:=(x a u q).there;rw [e]at z;cases z
inductive CX1 (P:Program) (w:World) (C:Addr) (outer:List Env) (H:Hp) (s:Shared) (E:XK) (e:Value) (s':Shared):Prop
 | mk (x T:Addr) (od:Option Addr) (H':Hp) (he:e=.ref x) (os:s'.os=s.os) (bare:AllBare s'.gens) (un:Un (frs outer) [] H H' s.heap s'.heap) (hok:HOk P w H' s'.heap)
   (rc:Rec s'.heap x C od .none T) (nx:s.heap.get? x=none) (nT:s.heap.get? T=none) (fx:H' x=none) (fT:H' T=none) (q:E (.ref C) od H'):CX1 P w C outer H s E e s'
section
variable {P:Program} {w:World} {K:W.Frag} {mg:Str->Option Value} {base:Heap} {N:List Str} {qual:Str} {scope:Scope} {f:Addr} {cd:Value} {A:Around} {outer:List Env} {s:Shared} {H:Hp} {E:XK} {C:Addr}
theorem Ae {CX:CXT} {od:Option Addr} {pins:List (Addr×Obj)} {σ:St} {H1:Hp} {s1:Shared} {x:Addr} {hs:List Addr} {h':Heap} (J:Inv (dv CX P w K mg base N qual scope f cd A outer s H E) pins σ H1 s1)
  (fx:H1 x=none) (nx:s.heap.get? x=none) (hh: ∀ T∈hs,H1 T=none/\s.heap.get? T=none) (L:LeftF (envOfC qual scope s.heap.objs.size f cd::outer) x C od .none hs s1.heap h') (q:E (.ref C) od H1):
  CX1 P w C outer H s E (.ref x) {s1 with heap:=h'}:=by
 obtain ⟨T,rc,hT⟩:=L.rc;have B:Un (frs outer) [] H H1 s.heap s1.heap:=J.base;have nx': ∀ b o,s.heap.get? b=some o->b≠x:=λb o e z=>by rw [z,nx]at e;cases e
 have nh': ∀ b o,s.heap.get? b=some o->b∉hs:=λb o e z=>by rw [(hh b z).2]at e;cases e
 have nfr: ∀ b o,s.heap.get? b=some o->b∉frs outer->b∉frs (envOfC qual scope s.heap.objs.size f cd::outer):=λb o e nb z=>by
  rcases DK.mp (J.stkSub b z)with z | z
  ·have:b<s.heap.objs.size:=DR e;rw [show b=s.heap.objs.size from z]at this;exact Gj _ this
  ·exact nb z
 refine .mk x T od H1 rfl J.os J.bare ⟨λb o e n hb hx=>?_,λb o e n hb hx=>?_,B.free,λb o e hx=>?_,B.tups,B.frzs,B.tbls⟩ (λa o e=>?_) rc nx ?_ fx ?_ q
 ·exact L.keep b o (nx' b o e) (nh' b o e) (nfr b o e hb) (B.keep b o e n hb hx)
 ·obtain ⟨sl,e1⟩:=B.slot b o e n hb hx;obtain ⟨sl',e2⟩:=L.slot b _ (n9 hb) e1;exact ⟨sl',e2⟩
 ·obtain ⟨o1,e1⟩:=B.there b o e hx;by_cases hb:b∈frs (envOfC qual scope s.heap.objs.size f cd::outer)
  ·obtain ⟨sl',e2⟩:=L.slot b _ hb e1;exact ⟨_,e2⟩
  ·exact ⟨o1,L.keep b o1 (nx' b o e) (nh' b o e) hb e1⟩
 ·have tr: ∀ b u,H1 b=some u-> ∀ v,s1.heap.get? b=some v->h'.get? b=some v:=λb u e1 v e2=>
   L.keep b v (λz=>by rw [z,fx]at e1;cases e1) (λz=>by rw [(hh b z).1]at e1;cases e1) (λz=>by rw [J.stkFree b z]at e1;cases e1) e2
  refine (J.hok a o e).stay (λb u hb e2=>?_) (λ_ z=>z) λ_ _ z=>z;rcases hb with z | z
  ·rw [z]at e2 ⊢;exact tr a o e u e2
  ·exact tr b _ z u e2
 ·rcases hT with z | z
  ·exact (hh T z).2
  ·cases r:s.heap.get? T with
   | none=>rfl
   | some o=>obtain ⟨o1,e1⟩:=B.there T o r (by simp);rw [FX z]at e1;cases e1
 ·rcases hT with z | z
  ·exact (hh T z).1
  ·exact J.hok.fresh z
end
theorem Fun.okG {CX:CXT} {P:Program} {w:World} {K:W.Frag} {mg:Str->Option Value} {base:Heap} {x qual:Str} {st:Stmt} {f:Addr} {fd:FuncData} {N ps:List Str} {k:Nat} {sp:Sp} (F:Fun K x qual st f fd) (S:av N ps (ah st))
  (len: ∀ vs H Q E,sp vs H Q E->vs.length=ps.length)
  (hbody: ∀ (cdv:Value) (A:Around) (outer:List Env) (s:Shared) (H:Hp) (vs:List V) (Q:VK) (E:XK),Room k (A.deeper (envOfC qual (ah st) s.heap.objs.size f cdv))->sp vs H Q E->
   ∃ t,PSs (dv CX P w K mg base N qual (ah st) f cdv A outer s H E) (aO st) t/\t {nx:=λ_ H'=>Q .non H',rt:=Q} (start N vs) H):aX P w K mg base CX (k+1) f fd ps sp:=by
 obtain ⟨oc,od,kV,doc,pm,an,cdv,ct,osl,rfl,lk,hcd⟩:=F.ex;exact AD lk hcd S len λA outer s H vs Q E hr hsp=>hbody cdv A outer s H vs Q E hr hsp
theorem Fun.ok1 {P:Program} {w:World} {K:W.Frag} {mg:Str->Option Value} {base:Heap} {C:Addr} {x qual:Str} {st:Stmt} {f:Addr} {fd:FuncData} {N ps:List Str} {k:Nat} {sp:Sp} (F:Fun K x qual st f fd) (S:av N ps (ah st))
  (len: ∀ vs H Q E,sp vs H Q E->vs.length=ps.length)
  (hbody: ∀ (cdv:Value) (A:Around) (outer:List Env) (s:Shared) (H:Hp) (vs:List V) (Q:VK) (E:XK),Room k (A.deeper (envOfC qual (ah st) s.heap.objs.size f cdv))->sp vs H Q E->
   ∃ t,PSs (dv (CX1 P w C) P w K mg base N qual (ah st) f cdv A outer s H E) (aO st) t/\t {nx:=λ_ H'=>Q .non H',rt:=Q} (start N vs) H):aX P w K mg base (CX1 P w C) (k+1) f fd ps sp:=F.okG S len hbody
open PySem.W (findIn specialIn takesIn mroIn clsIn Looks)
def ExAt (x C:Addr) (od:Option Addr) (h:Heap):Prop:= ∃ oe vs,h.get? x=some oe/\oe.cls=.ref C/\oe.data=.fields vs/\oe.dict=od
noncomputable def ExO (x C:Addr) (od:Option Addr):HO:=.ext (ExAt x C od)
theorem ExAt.type {M:Model} {h:Heap} {x C:Addr} {od:Option Addr} (p:ExAt x C od h):Looks M h (typeOf (.ref x)) (.ref C):=by
 obtain ⟨oe,_,e,c,_⟩:=p;exact c▸(Looks.ld e).andThen .now
structure ExC (K:W.Frag) (C:Addr):Prop where
 ga:findIn K (.ref C) "__getattribute__"=some (some (.builtin "BaseException.__getattribute__"))
 gno:findIn K (.ref C) "__getattr__"=some none
 cls:findIn K (.ref C) "__class__"=some (some (.builtin "object.__class__"))
 get:specialIn K (.builtin "object.__class__") "__get__"=some (some (.builtin "getset_descriptor.__get__"))
 tk:takesIn K (.builtin "object.__class__")=some true
 ob:mroIn K C (.type "object")=some true
 ba:mroIn K C (.type "BaseException")=some true
 is:(clsIn K C).isSome=true
section
variable {prog:Program} {w:World} {A:Around} {E:Value->Shared->Prop} {K:W.Frag} {x C:Addr} {od:Option Addr}
open PySem.Builtin PySem.Builtin.ObjectAttr PySem.Builtin.Getset_descriptor PySem.W
theorem Af {M:Model} {h:Heap} (X:K.In h) (Z:ExC K C):Looks M h (find (.ref x) (.ref C) "__class__") (.bind (.builtin "getset_descriptor.__get__") (.builtin "object.__class__")):=
 (looks_findIn X Z.cls).andThen ((show Looks M h (getOf (some (.builtin "object.__class__"))) (some (.builtin "getset_descriptor.__get__"))from looks_specialIn X Z.get).andThen
  ((show Looks M h (dataDescriptor? (some (.builtin "object.__class__")) (some (.builtin "getset_descriptor.__get__"))) (some (.builtin "getset_descriptor.__get__",.builtin "object.__class__"))from (looks_takesIn X Z.tk).andThen .now).andThen (Looks.tag .now)))
theorem ot {s:Shared} {tp:Value} {R:Result->Shared->Prop} (X:K.In s.heap) (Z:ExC K C) (p:ExAt x C od s.heap) (h:R (.ok (.ret (.ref C))) s):
  codeAny (model prog w) A (.call (.builtin "getset_descriptor.__get__") ⟨[.builtin "object.__class__",.ref x,tp],[]⟩) R s:=by
 obtain ⟨hh,g,dr,t,os⟩:=s;have L0:=p.type (M:=model prog w);have L1:=looks_mroIn (M:=model prog w) X Z.ob;refine Fc KF.slot_gs.plain KF.entry_gs (KF.slot_gs.check _ _ _ _ _ _ _ _ KF.type_class (KF.args_gs _ _ _) ?_);unfold Builtin.«getset_descriptor.__get__» descrGet;rw [dga_obj];refine Dw (Dy ?_);unfold descrGetter descrCheckInstance descrNameAndClass isInstance;simp only [KF.owner_class]
 repeat lk
 refine ⟨Gf _ (by decide +kernel),G5 KF.entry_class ?_⟩;unfold Builtin.«object.__class__» shownTypeOf
 repeat lk
 exact h
theorem yl {s:Shared} {tk:Tok} {Q:Fin->Shared->Prop} (X:K.In s.heap) (Z:ExC K C) (p:ExAt x C od s.heap) (h:Q (.done (.ret (.ref C))) s):
  wpAny (model prog w) A (Builtin.«object.__getattribute__» ⟨[.ref x,.str "__class__" tk],[]⟩) Q E s:=by
 obtain ⟨hh,g,dr,t,os⟩:=s;have L0:=p.type (M:=model prog w);have L1:=Af (M:=model prog w) (x:=x) X Z;unfold Builtin.«object.__getattribute__»;refine Dw (Dy ?_);refine Dw (Dy ?_);refine Dw (L0.at ?_);refine Dw (L1.at ?_);show wpAny _ _ (bindTo _ _ _ _) _ _ _;unfold bindTo;refine Dw (Ey (Fy (ot X Z p (Dy h))))
theorem CG {s:Shared} {tk:Tok} {R:Result->Shared->Prop} (X:K.In s.heap) (Z:ExC K C) (p:ExAt x C od s.heap) (h:R (.ok (.ret (.ref C))) s):
  codeAny (model prog w) A (.call (.builtin "BaseException.__getattribute__") ⟨[.ref x,.str "__class__" tk],[]⟩) R s:=by
 refine Fc PySem.F.attr_ValueError.ga.plain PySem.F.entry_bexc_ga ?_;have L0:=p.type (M:=model prog w);have L2:Looks (model prog w) s.heap (isInstance (.ref x) (.type "BaseException")) true:=L0.andThen (looks_mroIn X Z.ba);have hk:builtinKind "BaseException.__getattribute__"=some .slot:=by decide +kernel
 have hsp:splitId "BaseException.__getattribute__"=some ("BaseException","__getattribute__"):=by decide +kernel
 have ha:=PySem.F.args_bexc_ga (.ref x) (.str "__class__" tk);simp only [checkBuiltinCall,hk,hsp];refine Dw (L2.at ?_);rw [DU (by decide)]
 repeat (first | exact yl X Z p h | wp_step)
theorem rZ {s:Shared} {Q:Option Value->Shared->Prop} (X:K.In s.heap) (Z:ExC K C) (p:ExAt x C od s.heap) (h:Q (some (.ref C)) {s with toks:=s.toks+1}):wpAny (model prog w) A (getAttr? (.ref x) "__class__") Q E s:=by
 obtain ⟨hh,g,d,t,os⟩:=s;have L0:=p.type (M:=model prog w);have L1:=looks_findIn (M:=model prog w) X Z.ga;have L2:Looks (model prog w) hh (typeLookup (.ref C) "__getattr__") none:=looks_findIn X Z.gno;unfold getAttr? getAttrBy? getAttrBy;refine Dw (wpAny_mkText (Dw (Gm (Ey (Dw (L0.at (Dw (L1.at ?_))))))));have hn0:(Value.builtin "BaseException.__getattribute__"==Value.builtin "object.__getattribute__")=false:=by decide +kernel
 have hne:(onTheHeap (Value.ref C)&&Value.builtin "BaseException.__getattribute__"==Value.builtin "object.__getattribute__")=false:=by rw [hn0];rfl
 simp only [hne];rw [DU (by decide)];unfold getAttrByItsOwn hookBefore callGetattribute boundAndCalled;rw [Ea (show onTheHeap (Value.ref C)=true from rfl)];refine Dw (Looks.at (h:=hh) L2 (Dw (Gm (Ey ?_))));rw [DU (by decide),PySem.F.attr_ValueError.ga.bind (.ref x)];exact Dw (Dy (Fy (CG (s:=⟨hh,g,d,t+1,os⟩) X Z p (Dy (Dy h)))))
theorem lE {M:Model} {h:Heap} (X:K.In h) (e:(clsIn K C).isSome=true):Looks M h (isType (.ref C)) true:=by
 unfold clsIn at e;split at e
 case h_1 c' d' cd' sl' ho=>
  intro A' Q' E' s' k q;unfold isType loadHead;exact Dw (wpAny_loadPart (k _ _ (X _ _ ho)) (Dy q))
 case h_2=>cases e
theorem pY (Z:ExC K C):KitX K (.ref x) (.ref C) (ExAt x C od) where
 ty:=λ_ _ _ p=>p.type
 it:=λ_ _ X _=>lE X Z.is
 ne:=λh tp dd its n sl X htp=>by
  have e:=Z.is;refine EK.mpr λq=>?_;have e2:C=tp:=Value.ref.inj (HA.mp q);subst e2;unfold clsIn at e;split at e
  case h_1 ho=>cases (X _ _ ho).symm.trans htp
  case h_2=>cases e
 ca:=λX p k=>rZ X Z p k
theorem vp {M:Model} {s:Shared} {CB:Addr} {Q:Bool->Shared->Prop} (X:K.In s.heap) (p:ExAt x C od s.heap) (m1:mroIn K C (.ref CB)=some true) (m2:mroIn K CB (.type "BaseException")=some true)
  (ty:typeIn K (.ref CB)=some (.type "type")) (is:(clsIn K CB).isSome=true) (hq:Q true s):wpAny M A (excMatches (.ref x) (.ref CB)) Q E s:=by
 obtain ⟨h,g,d,t,os⟩:=s;have L0:=p.type (M:=M);have L1:Looks M h (isInstance (.ref CB) (.type "tuple")) false:=(looks_typeIn X ty).andThen (Looks.of_pure tc_notTuple);have L2:Looks M h (isExcClass (.ref CB)) true:=(lE X is).andThen (looks_mroIn X m2);have L3:=looks_mroIn (M:=M) X m1;unfold excMatches;refine Dw (L1.at ?_);simp only [El,EN];refine Dw (Dy ?_);rw [Fo];refine Dw (Dw (Dw (L2.at ?_)));simp only [Ff,El,EN];refine Dy ?_;show wpAny _ _ (forIn [] _ _) _ _ _;rw [HR];refine Dy (Dw (L0.at ?_));rw [Fo];refine Dw (Dw (Dw (L3.at ?_)));simp only [Gw];exact Dy (Dy (Dy hq))
end
section
variable {X:Cx}
theorem qo:dU X (.builtin "isinstance") (λxs H Q=> ∃ x C od y c b,xs=[.ref x,y]/\H x=some (ExO x C od)/\ExC X.K C/\(∀ u,RelV y u->u=c)/\W.kitOne X.K (.ref C) c=some b/\Q (.bl b) H):=by
 intro pins s σ H xs us Q I r h;obtain ⟨x,C,od,y,c,b,rfl,hx,Z,rc,e,q⟩:=h;obtain ⟨u,w',rfl,ru,rw'⟩:=kx r;cases (show u=Value.ref x from ru);cases rc w' rw';have p:ExAt x C od s.heap:=(show ObjOk X.prog X.w H s.heap x (ExO x C od)from I.hok x _ hx).1;exact EV (pY Z) I.kIn p e (λz=>nomatch z) λtk=>⟨.bl b,H,I.tok tk,rfl,q⟩
theorem vC:dU X (.builtin "isinstance") (λxs H Q=> ∃ (x C:Addr) (od:Option Addr) (p:Addr) (Ds:List Addr) (b:Bool),xs=[.ref x,.ref p]/\H x=some (ExO x C od)/\ExC X.K C/\H p=some (.tup (Ds.map V.ref))/\W.kitAny X.K (.ref C) (Ds.map Value.ref)=some b/\Q (.bl b) H):=by
 intro pins s σ H xs us Q I r h;obtain ⟨x,C,od,p,Ds,b,rfl,hx,Z,hp,e,q⟩:=h;obtain ⟨u,w',rfl,ru,rw'⟩:=kx r;cases (show u=Value.ref x from ru);cases (show w'=Value.ref p from rw');have pe:ExAt x C od s.heap:=(show ObjOk X.prog X.w H s.heap x (ExO x C od)from I.hok x _ hx).1;obtain ⟨_,its,rv,o,h1,h2,n,h3⟩:=(show ObjOk X.prog X.w H s.heap p (.tup (Ds.map V.ref))from I.hok p _ hp);have all: ∀ (l:List Addr) (us:List Value),Vals (l.map V.ref) us->us=l.map Value.ref:=by
  intro l;induction l with
  | nil=>intro us r;cases r;rfl
  | cons a l ih=>intro us r;cases r with | cons r1 r2=>rw [show _=Value.ref a from r1,ih _ r2];rfl
 cases all Ds its rv;obtain ⟨c,d,dt,sl⟩:=o;simp only at h2 h3;subst h2 h3;exact G4 (pY Z) I.kIn pe h1 e (λz=>nomatch z) λtk=>⟨.bl b,H,I.tok tk,rfl,q⟩
end
open PySem.W (findIn specialIn takesIn mroIn clsIn typeIn Looks)
structure Fl (P:Program) (w:World) (C:Addr) (od:Option Addr) (fl:Value) (stack:List Env) (ch:List Addr) (H:Hp) (h₀:Heap) (x T:Addr) (H':Hp) (h:Heap):Prop where
 un:Un (frs stack) ch H H' h₀ h
 hok:HOk P w H' h
 rc:Rec h x C od fl T
 nx:h₀.get? x=none
 nT:h₀.get? T=none
 fx:H' x=none
 fT:H' T=none
 cl: ∀ b∈ch,b<h.objs.size
section
variable {P:Program} {w:World} {C:Addr} {od:Option Addr} {fl fl':Value} {stack:List Env} {ch:List Addr} {H H':Hp} {h₀ h h' base:Heap} {x T:Addr}
theorem Fl.left (F:Fl P w C od fl stack ch H h₀ x T H' h) (fr: ∀ b∈frs stack,H' b=none) (L:LeftF stack x C od fl' [T] h h'): ∃ T',Fl P w C od fl' stack ch H h₀ x T' H' h':=by
 obtain ⟨T',rc,hT⟩:=L.rc;have nx': ∀ b o,h₀.get? b=some o->b≠x:=λb o e z=>by rw [z,F.nx]at e;cases e
 have nT': ∀ b o,h₀.get? b=some o->b∉[T]:=λb o e z=>by rw [DF.mp z,F.nT]at e;cases e
 refine ⟨T',⟨λb o e n hb hx=>?_,λb o e n hb hx=>?_,F.un.free,λb o e hx=>?_,F.un.tups,F.un.frzs,F.un.tbls⟩,λa o e=>?_,rc,F.nx,?_,F.fx,?_,λb hb=>Ew (F.cl b hb) L.sz⟩
 ·exact L.keep b o (nx' b o e) (nT' b o e) hb (F.un.keep b o e n hb hx)
 ·obtain ⟨sl,e1⟩:=F.un.slot b o e n hb hx;obtain ⟨sl',e2⟩:=L.slot b _ hb e1;exact ⟨sl',e2⟩
 ·obtain ⟨o1,e1⟩:=F.un.there b o e hx;by_cases hb:b∈frs stack
  ·obtain ⟨sl',e2⟩:=L.slot b _ hb e1;exact ⟨_,e2⟩
  ·exact ⟨o1,L.keep b o1 (nx' b o e) (nT' b o e) hb e1⟩
 ·have tr: ∀ b u,H' b=some u-> ∀ v,h.get? b=some v->h'.get? b=some v:=λb u e1 v e2=>
   L.keep b v (λz=>by rw [z,F.fx]at e1;cases e1) (λz=>by rw [DF.mp z,F.fT]at e1;cases e1) (λz=>by rw [fr b z]at e1;cases e1) e2
  refine (F.hok a o e).stay (λb u hb e2=>?_) (λ_ z=>z) λ_ _ z=>z;rcases hb with z | z
  ·rw [z]at e2 ⊢;exact tr a o e u e2
  ·exact tr b _ z u e2
 ·rcases hT with z | z
  ·rw [DF.mp z];exact F.nT
  ·cases r:h₀.get? T' with
   | none=>rfl
   | some o=>
    obtain ⟨o1,e1⟩:=F.un.there T' o r λhc=>Nat.not_le.mpr (F.cl T' hc) z;rw [FX z]at e1;cases e1
 ·rcases hT with z | z
  ·rw [DF.mp z];exact F.fT
  ·exact F.hok.fresh z
theorem Fl.track (F:Fl P w C od fl stack ch H h₀ x T H' h):Un (frs stack) ch H (upd H' x (ExO x C od)) h₀ h/\HOk P w (upd H' x (ExO x C od)) h:=by
 have ne: ∀ b o,h₀.get? b=some o->b≠x:=λb o e z=>by rw [z,F.nx]at e;cases e
 have nt: ∀ b u,H' b=some u->b≠x:=λb u e z=>by rw [z,F.fx]at e;cases e
 refine ⟨⟨F.un.keep,F.un.slot,λb o e n hx=>?_,F.un.there,λb xs e=>?_,λb o u e=>?_,λb ps e=>?_⟩,λa o e=>?_⟩
 ·rw [aj (ne b o e)];exact F.un.free b o e n hx
 ·rw [aj (nt _ _ (F.un.tups b xs e))];exact F.un.tups b xs e
 ·rw [aj (nt _ _ (F.un.frzs b o u e))];exact F.un.frzs b o u e
 ·obtain ⟨m,e1⟩:=F.un.tbls b ps e;exact ⟨m,by rw [aj (nt _ _ e1)];exact e1⟩
 ·by_cases z:a=x
  ·subst z;rw [ae]at e;cases e;obtain ⟨oe,vs,oT,ts,he,hc,ho,hd,_,_,_,_,_⟩:=F.rc;exact ⟨⟨oe,vs,he,hc,hd,ho⟩,⟨oe,he⟩,λh1 h2 ⟨o1,v1,a1,a2,a3⟩ k=>⟨o1,v1,k o1 a1,a2,a3⟩⟩
  ·rw [aj z]at e;exact (F.hok a o e).stay (λb u _ q=>q) (λb q=>by rw [aj (nt _ _ q)];exact q) λb xs q=>by rw [aj (nt _ _ q)];exact q
end
open PySem.W (findIn specialIn takesIn mroIn clsIn typeIn Looks)
noncomputable def Cx.marked (X:Cx) (e:Value):Cx:={X with A:=X.A.mark (some e),calm:=false,xe:=λ_ _=>False}
section
variable {X:Cx} {pins:List (Addr×Obj)} {σ:St} {H:Hp} {s:Shared} {e:Value}
theorem Inv.mark (I:Inv X pins σ H s) (e:Value):Inv (X.marked e) pins σ H s:=
 ⟨⟨I.ok.mod,I.ok.kind,I.ok.glob,I.ok.blt,I.ok.above,I.ok.inj,I.ok.has,I.ok.cab,λh=>Bool.noConfusion (show false=true from h),I.ok.frames,I.ok.stk,I.ok.exf,I.ok.bs,I.ok.bsz,I.ok.noex,I.ok.exfs,I.ok.funs,I.ok.frf⟩,
  I.os,I.bare,I.base,I.loc,I.cell,I.free,I.freeC,I.pin,I.hok,I.len⟩
theorem Inv.unmark (ok:X.Ok) (I:Inv (X.marked e) pins σ H s):Inv X pins σ H s:=⟨ok,I.os,I.bare,I.base,I.loc,I.cell,I.free,I.freeC,I.pin,I.hok,I.len⟩
theorem ue {M:Model} {A:Around} {E:Value->Shared->Prop} {i:Nat} {n:Str} {pos:Pos} {Q:Unit->Shared->Prop} (I:Inv X pins σ H s) (hN:X.N.Nodup) (hi:X.N[i]? =some n) (hk:X.env.scope.names.lookup n=some .local)
  (h: ∀ s',Inv X pins (σ.set i none) H s'->Q () s'):wpAny M A (do bindName X.env n .none;unbindBehindTheSuite X.env n pos) Q E s:=by
 have hcls:(X.env.scope.kind== .class||(X.env.scope.kind== .module&&X.env.locals !=X.env.globals))=false:=by rw [I.ok.kind];rfl
 have hiσ:i<σ.length:=by rw [I.len];exact (DH.mp hi).1
 refine Dw (wpAny_bindName (gD I hN hi (.inl hk) (v:=.non) rfl (λs1 I1=>?_) (.inr hk)));unfold unbindBehindTheSuite;refine wpAny_onRaise ?_;obtain ⟨m,hn,hl⟩:=id I1.loc;obtain ⟨u,_,lk⟩:=hl i n .non hi (by rw [Gd hiσ]) (.inl hk);have hv:m n=some u:=by
  rcases lk with ⟨_,z⟩ | ⟨z,_⟩
  ·exact z
  ·have z:X.env.scope.names.lookup n=some .cell\/X.env.scope.names.lookup n=some .free:=z;rw [hk]at z;rcases z with z | z <;> cases z
 refine wpAny_unbindName_local hk hn hv hcls λh' u' hn' hs=>?_;have ne: ∀ b o,X.s₀.heap.get? b=some o->b≠X.env.locals:=λb o e=>Eg (Ew (DR e) I.ok.above);have cne:=I1.cne;refine h _ ⟨I.ok,I1.os,I1.bare,⟨λb o e n hb hx=>(hs.2 b (ne b o e)).trans (I1.base.keep b o e n hb hx),λb o e n hb hx=>?_,I1.base.free,λb o e hx=>?_,I1.base.tups,I1.base.frzs,I1.base.tbls⟩,
  ⟨_,hn',λj y v' e1 e2 e3=>?_⟩,λy c e=>?_,I1.free,I1.freeC,λp hp=>?_,λb o e=>?_,by simpa using I.len⟩
 ·obtain ⟨sl,e1⟩:=I1.base.slot b o e n hb hx;exact ⟨sl,(hs.2 b (ne b o e)).trans e1⟩
 ·obtain ⟨o',e1⟩:=I1.base.there b o e hx;exact ⟨o',(hs.2 b (ne b o e)).trans e1⟩
 ·by_cases hj:j=i
  ·subst hj;rw [Gd hiσ]at e2;cases e2
  ·have e4:(σ.set i (some V.non))[j]? =some (some v'):=by
    rw [HC (EI hj)]at e2 ⊢;exact e2
   obtain ⟨u',r',q⟩:=hl j y v' e1 e4 e3;refine ⟨u',r',?_⟩;rcases q with ⟨k,e⟩ | ⟨k,c,e,z⟩
   ·refine .inl ⟨k,?_⟩;have:y≠n:=λe=>hj (jd hN e1 (e▸hi));simp [this,e]
   ·exact .inr ⟨k,c,e,z.sameBut hs (cne y c e)⟩
 ·obtain ⟨w',z⟩:=I1.cell y c e;exact ⟨w',z.sameBut hs (cne y c e)⟩
 ·obtain ⟨e,n,ne,nf,d⟩:=I1.pin p hp;exact ⟨(hs.2 p.1 ne).trans e,n,ne,nf,d⟩
 ·refine (I1.hok b o e).stay (λc w' hc q=>(hs.2 c ?_).trans q) (λ_ q=>q) λ_ _ q=>q;rintro rfl;have fr:=I1.free;rcases hc with rfl | hc
  ·rw [fr]at e;cases e
  ·rw [fr]at hc;cases hc
end
structure CaC (K:W.Frag) (C CB:Addr):Prop where
 m1:mroIn K C (.ref CB)=some true
 m2:mroIn K CB (.type "BaseException")=some true
 ty:typeIn K (.ref CB)=some (.type "type")
 is:(clsIn K CB).isSome=true
section
variable {X:Cx}
theorem Aa {pins:List (Addr×Obj)} {σ:St} {H H':Hp} {s s1:Shared} {C CB x T:Addr} {od:Option Addr} {D:eS} {cb n:Str} {np hp:Pos} {b₀:Stmt} {suite:List Stmt} {rest:List ExceptHandler} {i:Nat} {ts:TS}
  (I:Inv X pins σ H s) (F:Fl X.prog X.w C od .none X.stack [] H s.heap x T H' s1.heap) (os:s1.os=s.os) (bare:AllBare s1.gens) (hst:X.stack=X.env::X.outer) (hfr:X.env.frame=some X.env.locals)
  (hN:X.N.Nodup) (hi:X.N[i]? =some n) (hk:X.env.scope.names.lookup n=some .local) (hg:Gl X cb) (hm:X.mg cb=some (.ref CB)) (Z:CaC X.K C CB)
  (hs:PSs (X.marked (.ref x)) (b₀::suite) ts) (q:ts {nx:=λσ' H3=>D.nx (σ'.set i none) H3,rt:=λ_ _=>False} (σ.set i (some (.ref x))) (upd H' x (ExO x C od))) (hd:(cb==("__debug__":Str))=false:=by decide):
  wpAny (model X.prog X.w) X.A (noteFrame (.ref x) X.env) (λ_ s₂=>wpAny (model X.prog X.w) X.A (setFlight (.ref x) none) (λ_ s₃=>
   wpAny (model X.prog X.w) X.A (handleBy (.ref x) X.env (.ExceptHandler (some (.Name cb np)) (some n) (b₀::suite) hp::rest)) (SP X pins D) X.xe s₃) X.xe s₂) X.xe s1:=by
 have fr: ∀ b∈frs X.stack,H' b=none:=λb hb=>by
  obtain ⟨_,o,e,_⟩:=I.stack.mem hb;exact F.un.free b o e (I.stkFree b hb) (by simp)
 have nil: ∀ b∈([]:List Addr),(b∈X.ex\/X.s₀.heap.objs.size<=b)/\b≠X.env.locals/\(∀ x c,X.env.cells.lookup x=some c->c≠b)/\ ∀ p∈X.pn++pins,p.1≠b:=λb z=>absurd z (by simp);have J1:Inv X pins σ H' s1:=I.call' (ch:=[]) os F.un F.hok bare nil;have hff:=J1.ok.frames;have hfs:=J1.stack;rw [hst]at hff hfs;refine uW (base:=X.base) hff hfs hfr F.rc λh3 L3=>?_;rw [<- hst]at L3;obtain ⟨T3,F3⟩:=F.left fr L3;have J3:Inv X pins σ H' {s1 with heap:=h3}:=I.call' (ch:=[]) os F3.un F3.hok bare nil;have p3:ExAt x C od h3:=by obtain ⟨oe,vs,oT,ts,he,hc,ho,hd,_,_,_,_,_⟩:=F3.rc;exact ⟨oe,vs,he,hc,hd,ho⟩
 refine wpAny_handleBy_cons (codeAny_handlers_test (il (X:=X.marked (.ref x)) (J3.mark (.ref x)) hg hm ?_ hd)) (by intro q;cases q);refine vp J3.kIn p3 Z.m1 Z.m2 Z.ty Z.is (codeAny_handlers_suite_as ?_);have hfs3:=J3.stack;rw [hst]at hfs3;refine kJ (base:=X.base) hfs3 F3.rc λh4 L4=>?_;rw [<- hst]at L4;obtain ⟨T4,F4⟩:=F3.left fr L4;obtain ⟨un4,hok4⟩:=F4.track;have J4:Inv X pins σ (upd H' x (ExO x C od)) {s1 with heap:=h4}:=I.call' (ch:=[]) os un4 hok4 bare nil;refine gD (v:=.ref x) J4 hN hi (.inl hk) rfl (λs5 J5=>?_) (.inr hk);refine E2 (hs pins s5 _ _ _ (J5.mark (.ref x)) q) (λf s6 z=>?_) λ_ _ z=>False.elim z;cases f with
 | next=>
  obtain ⟨σ6,H6,I6,q6⟩:=z;exact ue (I6.unmark J5.ok) hN hi hk λs7 I7=>⟨_,_,I7,q6⟩
 | ret v=>obtain ⟨_,_,_,_,_,z⟩:=z;exact False.elim z
 | brk=>obtain ⟨_,_,_,z⟩:=z;exact False.elim z
 | cont=>obtain ⟨_,_,_,z⟩:=z;exact False.elim z
end
end L2
namespace HT
open PySem PyProof.Rows
open PySem.AutoSeq1 (wpAny_loadPart')
section
variable {prog:Program} {w:World} {A:Around} {s:Shared} {E:Value->Shared->Prop}
noncomputable def eO (it:Addr):Obj:={cls:=.type "enumerate",data:=.fields #[.none,.bool false,.ref it,rawInt 0,.none,.none]}
theorem vq (l:Addr) (o:Obj) (items:Array Value):Meets (Builtin.«enumerate.__new__» ⟨[.type "enumerate",.ref l],[]⟩)
  (λ_ R s=>s.heap.get? l=some o/\s.heap.IsTuple l items/\R (.ok (.ret (.ref (s.heap.push (tIt l)).objs.size))) {s with heap:=(s.heap.push (tIt l)).push (eO s.heap.objs.size)}):=
 .of_wp λprog w A R s h=>by
  obtain ⟨hp,g,d,tk,os⟩:=s;obtain ⟨hl,a1,h⟩:=h;have hsub:=sub_enumerate;have b1:Heap.IsTuple (Shared.heap ⟨hp,g,d,tk,os⟩) l items:=a1
  wp_walk using FW hl
  refine wpAny_stack_any λst=>Dy ?_;split
  ·rename_i c _ _ _ _ _;cases (c==Value.type "enumerate") <;> (wp_walk using FW hl,G6 b1;exact ⟨_,rfl,h⟩)
  ·wp_walk using FW hl,G6 b1
   exact ⟨_,rfl,h⟩
theorem call_enumT {l:Addr} {items:Array Value} {Q:Value->Shared->Prop} (a1:s.heap.IsTuple l items)
  (q: ∀ h',IsEnum h' (s.heap.objs.size+1) s.heap.objs.size 0 .none->h'.IsTupleIter s.heap.objs.size l 0->(∀ b o,s.heap.get? b=some o->h'.get? b=some o)->Q (.ref (s.heap.objs.size+1)) {s with heap:=h'}):
  wpAny (model prog w) A (call (.type "enumerate") [.ref l]) Q E s:=by
 obtain ⟨o,ho,_⟩:=id a1;refine callType_new PySem.F.called_enumerate (by decide) (PySem.F.typeCall_enumerate_1 _) (PySem.F.newCall_enumerate_1 _) (λobj=>PySem.F.args_object_init_2 obj _) PySem.F.entry_enumerate_new (vq l o items) ⟨ho,a1,?_⟩;have z1:(s.heap.push (tIt l)).objs.size=s.heap.objs.size+1:=FM ..;have g2:((s.heap.push (tIt l)).push (eO s.heap.objs.size)).get? (s.heap.push (tIt l)).objs.size=some (eO s.heap.objs.size):=DS _ rfl;have g1:((s.heap.push (tIt l)).push (eO s.heap.objs.size)).get? s.heap.objs.size=some (tIt l):=Dz _ (DS _ rfl);show _/\_;rw [z1]at g2 ⊢;exact ⟨⟨_,g2,rfl⟩,q _ g2 ⟨_,g1,rfl,rfl⟩ λb o x=>Dz _ (Dz _ x)⟩
end
end HT
namespace L2
open PySem PySem.Spec PyProof.Rows
noncomputable def Ite (l:Addr):It:=
 ⟨λi H=> ∃ xs x,H l=some (.tup xs)/\xs[i]? =some x,
  λi H v H'=> ∃ T x,H T=none/\v=.ref T/\H'=upd H T (.tup [.int (i:Int),x])/\ ∀ xs,H l=some (.tup xs)->xs[i]? =some x,
  λi H=> ∃ xs,H l=some (.tup xs)/\xs.length=i⟩
def Dr (e it l:Addr) (i:Nat) (h:Heap):Prop:=(∃ old,IsEnum h e it (i:Int) old)/\HT.SIter true h it l i
theorem fp2 {e it b:Addr} (h:b∈[e,it]):b=e\/b=it:=by simpa using h
theorem ui {P:Program} {w:World} {K:W.Frag} {es:List Expr} {kk:Nat} {tpos:Pos} (e it l:Addr) (nd:e≠it):qt P w K (.Tuple es kk tpos) (Ite l) [e,it] e (Dr e it l):=by
 have ap: ∀ {X:Cx} {pins:List (Addr×Obj)} {H:Hp} {xs:List V},(∀ b∈[e,it],lO X pins H b)->H l=some (.tup xs)->e≠l/\l≠it:=by
  intro X pins H xs hf h1;have a: ∀ b∈[e,it],b≠l:=λb hb=>(al h1 (hf b hb).1).symm;exact ⟨a e (by simp),EI (a it (by simp))⟩
 refine ⟨by simp,λi h st b hb=>?_,λi h h' st k=>?_,?_,?_,λ_ _ _ _ _ st h=>wpAny_pyIter_enum st.1.choose_spec h⟩
 ·obtain ⟨⟨old,h1⟩,h2⟩:=st;rcases fp2 hb with rfl | rfl
  ·exact ⟨_,h1,λv e=>nomatch e⟩
  ·exact h2.obj
 ·obtain ⟨⟨old,h1⟩,h2⟩:=st;exact ⟨⟨old,k e (by simp) _ h1⟩,h2.at λo z=>k it (by simp) o z⟩
 ·intro X hP hw hK hc i pins s σ H E I hf st hg;subst hP hw hK;obtain ⟨xs,x,hx,ex⟩:=hg;obtain ⟨its,r1,q1,_⟩:=I.seqS (c:=true) hx;obtain ⟨u,hu,ru⟩:=r1.get ex;obtain ⟨⟨old,z0⟩,s1⟩:=st;obtain ⟨a1,a2⟩:=ap hf hx;refine wpAny_pyNext_enum_itemD (HT.draws_seq (A:=X.A.in1) true (I.ok.hd hc) it l a2 its.toArray) z0 ⟨s1,q1⟩ (by rw [DL];exact (DH.mp hu).1) nd
   (by simp only [DK,Eb,EQ,not_or];exact ⟨nd,a1⟩) λx' h' tk px z1 t1 pr _ kk=>?_
  have ex':x'=u:=by
   have p1:its[i]? =some x':=by simpa using px
   rw [hu]at p1;exact (Ej p1).symm
  subst ex';refine ⟨_,rfl,wpAny_letOwnedTupleGo_enum z1 λh'' z2 sb=>?_⟩;have lt: ∀ {b:Addr} {ob:Obj},s.heap.get? b=some ob->b≠s.heap.objs.size:=λe=>Eg (DR e);have fT:H s.heap.objs.size=none:=I.hok.fresh (DI _);have keep: ∀ b ob,b∉[e,it]->s.heap.get? b=some ob->h''.get? b=some ob:=λb ob hb z=>by
   simp only [DK,Eb,EQ,not_or]at hb;exact sb.extBut b ob hb.1 (kk b ob hb.1 hb.2 z)
  have trk: ∀ b uo,H b=some uo->b∉[e,it]:=λb uo z hb=>by rw [(hf b hb).1]at z;cases z
  have ptT:=sb.extBut _ _ (EI (lt z0)) pr;have I2:Inv X pins σ (upd H s.heap.objs.size (.tup [.int (i:Int),x])) {s with heap:=h'',toks:=tk+1}:=by
   refine I.step (g':=s.gens) (d':=s.drawn) (ch:=[e,it]) (λb hb=>?_) (λb ob _ _ hb z _=>keep b ob hb z) (λb ob _ _ hb z _=>⟨ob.slots,keep b ob hb z⟩) (λb ob hb z n=>by rw [aj (lt z)];exact n)
    (λb ob hb z=>⟨ob,keep b ob hb z⟩) (λb zs z=>by rw [aj (al z fT)];exact z) (λb ob uo z=>by rw [aj (al z fT)];exact z) (λb ps z=>⟨#[],by rw [aj (al z fT),z];simp⟩) (λm hm=>?_) (λb uo z=>?_) I.bare
   ·obtain ⟨_,f1,_,f3,f4,f5⟩:=hf b hb;exact ⟨f3,f1,f4,f5⟩
   ·obtain ⟨ob,es',ep,ho,r⟩:=hm;exact ⟨ob,es',ep,keep _ ob (λhb=>(hf _ hb).2.1 rfl) ho,r⟩
   ·by_cases hb:b=s.heap.objs.size
    ·subst hb;rw [ae]at z;cases z;exact ⟨by show 2<=sizeLine;decide,[.int (i:Int) tk,x'],.cons ⟨tk,rfl⟩ (.cons ru .nil),_,ptT,rfl,_,rfl⟩
    ·rw [aj hb]at z;refine (I.hok b uo z).stay (λc' v' hc' q=>keep c' v' ?_ q) (λc' q=>by rw [aj (al q fT)];exact q) λc' zs q=>by rw [aj (al q fT)];exact q
     rcases hc' with h | h
     ·rw [h];exact trk b uo z
     ·exact trk c' _ h
  refine ⟨.ref s.heap.objs.size,_,I2,rfl,⟨_,x,fT,rfl,rfl,λxs' h1=>?_⟩,⟨⟨_,by rw [Int.natCast_add];exact z2⟩,t1.1.at λo z=>sb.extBut _ o (EI nd) z⟩,λb hb=>?_⟩
  ·rw [hx]at h1;cases h1;exact ex
  ·have hb': ∃ ob,s.heap.get? b=some ob:=by
    rcases fp2 hb with rfl | rfl
    ·exact ⟨_,z0⟩
    ·obtain ⟨ob,z,_⟩:=s1.obj;exact ⟨ob,z⟩
   obtain ⟨ob,z⟩:=hb';rw [aj (lt z)];exact (hf b hb).1
 ·intro X hP hw hK hc i pins s σ H E I hf st hg;subst hP hw hK;obtain ⟨xs,hx,l'⟩:=hg;obtain ⟨its,r1,q1,_⟩:=I.seqS (c:=true) hx;obtain ⟨⟨old,z0⟩,s1⟩:=st;obtain ⟨a1,a2⟩:=ap hf hx;have hi:i=its.toArray.size:=by rw [DL,<- l'];exact r1.length
  rw [hi]at s1;refine wpAny_pyNext_enum_endD (HT.draws_seq (A:=X.A.in1) true (I.ok.hd hc) it l a2 its.toArray) z0 ⟨s1,q1⟩ λh' eb=>⟨rfl,?_⟩;exact I.turned (t':=s.toks) (it:=it) (λb ob hb z=>eb b ob hb z) (hf it (by simp)).1 (hf it (by simp)).2.1 (hf it (by simp)).2.2.2.1 (hf it (by simp)).2.2.2.2.1 (hf it (by simp)).2.2.2.2.2
noncomputable def Ct (ta:TA):TI:=λσ H R=>ta σ H λvs H1=> ∃ l xs,vs=[.ref l]/\H1 l=some (.tup xs)/\R (Ite l) H1
theorem zj {X:Cx} {es:List Expr} {kk:Nat} {tpos:Pos} {a:Expr} {ta:TA} {p pos:Pos} (hg:Gl X "enumerate") (hm:X.mg "enumerate"=none) (ha:PA X [a] ta) (hs:starEach [a] X.env=[(false,eval a X.env)]:=by rfl):
  PI X (.Tuple es kk tpos) (.Call (.Name "enumerate" p) [a] [] pos) (Ct ta):=by
 intro pins s σ H R I h;refine Call_ (gR I hg hm (show bootBuiltins "enumerate"=some (.type "enumerate") by decide +kernel) (Fe (thn (ha pos pins s σ H _ I h) λus s1 ⟨vs,H1,I1,r1,q1⟩=>?_) (by rw [hs];rfl) rfl));obtain ⟨l,xs,rfl,hx,q⟩:=q1;obtain ⟨u,rfl,ru⟩:=iN r1;cases (show u=Value.ref l from ru);obtain ⟨its,_,e1,_⟩:=I1.seqS (c:=true) hx;refine HT.call_enumT e1 λh' a1 a2 kp=>?_;have I2:Inv X pins σ H1 {s1 with heap:=h'}:=I1.kept (t':=s1.toks) kp;refine wpAny_pyIter_enum a1 ?_;refine ⟨s1.heap.objs.size+1,[s1.heap.objs.size+1,s1.heap.objs.size],_,_,H1,rfl,I2,ui _ _ l (Nat.succ_ne_self _),⟨⟨_,a1⟩,a2⟩,λb hb=>?_,q⟩;have hb':s1.heap.objs.size<=b:=by rcases fp2 hb with rfl | rfl <;> lia
 exact I1.fpOk hb' (I1.hok.fresh hb')
section
variable {X:Cx} {x x2:Str} {px px2 tpos pos fpos:Pos} {kk:Nat} {iter elt:Expr} {scope sc0:Scope} {N0 ys:List Str} {fr:List Nat} {wi:TI} {te:TE}
def iE (K:W.Frag):R2:=λx y H Q=> ∃ a b xs ys,x=.ref a/\y=.ref b/\SqT K H a xs/\SqT K H b ys/\xs.length+ys.length<=sizeLine/\(xs=[]->Q (.ref b) H)/\(xs≠[]->ys=[]->Q (.ref a) H)/\
 (xs≠[]->ys≠[]-> ∀ p,H p=none->Q (.ref p) (upd H p (.tup (xs++ys))))
theorem fA:OpR X (binaryOp .Add) (iE X.K):=by
 intro pins s σ H x y v u Q I rx ry h;obtain ⟨a,b,xs,ys,e1,e2,h1,h2,h3,q1,q2,q3⟩:=h;exact xj pins s σ H x y v u Q I rx ry ⟨a,b,xs,ys,e1,e2,h1,h2,h3,q1,q2,q3⟩
end
end L2
namespace HT
open PySem PyProof.Rows
section
variable {prog:Program} {w:World} {A:Around} {s:Shared} {E:Value->Shared->Prop}
theorem getItem_tuple_all {t sl:Addr} {items:Array Value} {vl vu:Value} {lo hi:Option Int} {Q:Value->Shared->Prop} (ht:IsTup s.heap t items) (hs:s.heap.IsSliceOf sl vl vu .none) (pl:IsPart vl lo) (pu:IsPart vu hi)
  (i1:sIx items.size 0 lo=0) (i2:sIx items.size items.size hi=items.size) (h:Q (.ref t) s):wpAny (model prog w) A (getItem (.ref t) (.ref sl)) Q E s:=by
 obtain ⟨os,hos,hcs,hds⟩:=id hs;have hTs:s.TypeIs (.ref sl) "slice":=⟨os,hos,hcs⟩;unfold getItem;try with_reducible refine Ey ?_
 first | refine Dw (Dy ?_) | skip
 refine Dw (Ig ht.typeIs (by decide) (Dw (EC (name:=Str.ofString "__getitem__") ht.typeIs EO
  (EH EO ht.typeIs HI ?_ (args_tuple_getitem _ _)))))
 refine (show wpAny _ _ (Builtin.Tuple.tupleItemsOf (.ref t) >>= _) _ _ s from Dw (tupleItemsOf_ ht (Dw (FY hTs ?_))));rw [Ea (by decide)];refine Dw (fk hs pl pu ?_);rw [i1,i2];refine (show wpAny _ _ (if (((0:Nat):Int)==0&&(1:Int)==1&&(items.size-0)==items.size)=true then _ else _) _ _ s from ?_);rw [Ea (by simp)];refine Dw (m:=Builtin.Tuple.tupleIsExact _) ?_;unfold Builtin.Tuple.tupleIsExact;refine Dw (FY ht.typeIs (Dy ?_));rw [Ea (by decide)];exact Dw (wpAny_rule (Dy ⟨_,rfl,Dy h⟩))
end
section
variable {prog:Program} {w:World} {A:Around} {s:Shared} {E:Value->Shared->Prop} {d j:Addr} {ks:List Value} {i ep:Nat}
def VEs (h:Heap) (d:Addr) (ks:List Value) (ep:Nat):Prop:= ∃ o es,h.get? d=some o/\o.ExactDict/\o.data=.dict es ep/\es.toList.map (·.val)=ks
theorem VEs.type (m:VEs s.heap d ks ep):s.TypeIs (.ref d) "dict":=by
 obtain ⟨o,_,ho,hc,_⟩:=m;exact ⟨o,ho,hc.1⟩
theorem VEs.keeps {h h':Heap} (m:VEs h d ks ep) (k: ∀ o,h.get? d=some o->h'.get? d=some o):VEs h' d ks ep:=by
 obtain ⟨o,es,ho,r⟩:=m;exact ⟨o,es,k o ho,r⟩
theorem jA {es:Array DictEntry} (e:es.toList.map (·.val)=ks):es.size=ks.length:=by
 rw [<- e,Dx,EJ]
theorem iter_ves {r:Addr} {Q:Value->Shared->Prop} (hv:s.heap.IsValuesView r d) (m:VEs s.heap d ks ep)
  (q:Q (.ref s.heap.objs.size) {s with heap:=s.heap.push {cls:=.type "dict_valueiterator",data:=.fields #[.ref d,.int 0 0,.int ks.length 0,.int ep 0]}}):wpAny (model prog w) A (pyIter (.ref r)) Q E s:=by
 obtain ⟨ov,hov,hcv,hdv⟩:=(show ∃ o,s.heap.get? r=some o/\o.cls=.type "dict_values"/\o.data=.fields #[.ref d]from hv);obtain ⟨o,es,ho,hc,hdat,hk⟩:=m;refine wpAny_pyIter_slot hv.typeIs HE (EH HE hv.typeIs PySem.F.entry_dict_values_iter ?_ (PySem.F.args_dict_values_iter_1 _));unfold Builtin.«dict_values.__iter__» Builtin.Dict_items.dictOf Builtin.Dict_items.newIterator;refine Dw (Dy (Dw (Dw (E1 hov hdv (x:=.ref d) rfl (Dy (Dw (Dw (FZ ho hdat (Dw (Gh ho hdat ?_))))))))));have own:Builtin.Dict_items.ownsTuple "dict_valueiterator"=false:=by decide
 simp only [own,El,EN];refine Em (Dy ⟨_,rfl,"dict_valueiterator",_,⟨_,DS _ rfl,rfl⟩,PySem.F.slot_dict_valueiterator_next.lookup,?_⟩);simpa [rawInt,jA hk]using q
theorem call_ves {Q:Value->Shared->Prop} (lo:(d==sysModules)=false) (m:VEs s.heap d ks ep)
  (q:Q (.ref s.heap.objs.size) {s with heap:=s.heap.push {cls:=.type "dict_values",data:=.fields #[.ref d]}}):wpAny (model prog w) A (call (.builtin "dict.values") [.ref d]) Q E s:=by
 have ty:=m.type;refine EH PySem.F.slot_dict_values ty PySem.F.entry_dict_values ?_ (PySem.F.args_dict_values_1 _);refine Dw ?_;unfold Builtin.Dict.noArgs;refine Dw (wpAny_notOrdered_dict ty ?_);refine (show wpAny _ _ (pure d) _ _ s from Dy (show wpAny _ _ (Builtin.Dict.showsAll d >>= _) _ _ s from ?_));unfold Builtin.Dict.showsAll;rw [DU (by rw [lo];exact DM)];exact Dw (Dy (Dw (Em (Dy ⟨_,rfl,q⟩))))
theorem next_ves {x:Value} {Q:Option Value->Shared->Prop} (st:s.heap.IsValIter j d i ks.length ep) (m:VEs s.heap d ks ep) (hx:ks[i]? =some x)
  (q: ∀ h',h'.IsValIter j d (i+1) ks.length ep->Heap.SameBut j s.heap h'->Q (some x) {s with heap:=h'}):wpAny (model prog w) A (pyNext (.ref j)) Q E s:=by
 have ty:=st.typeIs;obtain ⟨o,ho,hc,hd⟩:=id st;obtain ⟨od,es,hod,hcd,hdd,hk⟩:=m;have hz:=jA hk;have hlt:i<ks.length:=(DH.mp hx).1;have hes:i<es.size:=by lia
 have hkey:es[i].val=x:=by
  have e1:(es.toList.map (·.val))[i]? =some x:=by rw [hk];exact hx
  rw [DP,FQ,Fv hes]at e1;exact Ej e1
 unfold pyNext;refine Dw (Gm (EC (name:=Str.ofString "__next__") ty E9 (EH E9 ty Gz ?_ (Gu _))));refine Dw (Dy (Dw (Dw ?_)));first | refine Dw (FG ty (Dy (Dw (FN ho hd ?_)))) | refine Dw (F7 ty (Dy (Dw (FN ho hd ?_))))
 have own:Builtin.Dict_items.ownsTuple "dict_valueiterator"=false:=by decide
 simp only [own,El,EN];refine (show wpAny _ _ (if (Value.ref d==Value.none)=true then _ else _) _ _ s from ?_);rw [DU λb0:(Value.ref d==Value.none)=true=>DM b0];refine Dw (Dy (Dw (FZ hod hdd ?_)));rw [DU (by rw [hz];simp)];refine Dw (Dy (Dw (Gh hod hdd ?_)));rw [DU (by simp)];refine Dy ?_;simp only [show ¬ ((i:Int) <0)from by lia,EN,ET,Fv hes];refine Dw ?_;first | refine Dw (FG ty (Dy (Dw (Gp ty ?_)))) | refine Dw (F7 ty (Dy (Dw (Gp ty ?_))))
 refine (show wpAny _ _ (setField (.ref j) 1 (rawInt ((i:Int) +1)) >>= _) _ _ s from ?_);refine Dw (Fi ho hd (by simp) ?_);have st':(s.heap.update j (Obj.mapFields (·.setIfInBounds 1 (rawInt ((i:Int) +1))))).IsValIter j d (i+1) ks.length ep:=by
  refine ⟨_,E3 _ ho (Fx (EM hd _)),(Gr ..).trans hc,?_⟩;rw [EM hd];simp [rawInt]
 refine Dw (Ey (Dw (Gp (s:={s with heap:=s.heap.update j (Obj.mapFields (·.setIfInBounds 1 (rawInt ((i:Int) +1))))}) st'.typeIs (Dw (Gp (s:={s with heap:=s.heap.update j (Obj.mapFields (·.setIfInBounds 1 (rawInt ((i:Int) +1))))}) st'.typeIs ?_)))));refine (show wpAny _ _ (pure es[i].val) _ _ _ from ?_);rw [hkey];exact Dy (Dy ⟨_,rfl,Dy (q _ st' (FL ..))⟩)
theorem end_ves {Q:Option Value->Shared->Prop} (hh:A.handled=none) (st:s.heap.IsValIter j d i ks.length ep) (m:VEs s.heap d ks ep) (hx:ks.length<=i)
  (q: ∀ h',Heap.ExtBut j s.heap h'->Q none {s with heap:=h'}):wpAny (model prog w) A (pyNext (.ref j)) Q E s:=by
 have ty:=st.typeIs;obtain ⟨o,ho,hc,hd⟩:=id st;obtain ⟨od,es,hod,hcd,hdd,hk⟩:=m;have hz:=jA hk;unfold pyNext;refine Dw (Gm (EC (name:=Str.ofString "__next__") ty E9 (EH E9 ty Gz ?_ (Gu _))));refine Dw (Dy (Dw (Dw ?_)));first | refine Dw (FG ty (Dy (Dw (FN ho hd ?_)))) | refine Dw (F7 ty (Dy (Dw (FN ho hd ?_))))
 have own:Builtin.Dict_items.ownsTuple "dict_valueiterator"=false:=by decide
 simp only [own,El,EN];refine (show wpAny _ _ (if (Value.ref d==Value.none)=true then _ else _) _ _ s from ?_);rw [DU λb0:(Value.ref d==Value.none)=true=>DM b0];refine Dw (Dy (Dw (FZ hod hdd ?_)));rw [DU (by rw [hz];simp)];refine Dw (Dy (Dw (Gh hod hdd ?_)));rw [DU (by simp)];refine Dy ?_;have hge:es.size<=i:=by lia
 simp only [show ¬ ((i:Int) <0)from by lia,EN,ET,Array.getElem?_eq_none hge];refine Dw ?_;first | refine Dw (FG ty (Dy ?_)) | refine Dw (F7 ty (Dy ?_))
 refine (show wpAny _ _ (setField (.ref j) 0 .none >>= _) _ _ s from Dw (Fi ho hd (by simp) ?_));refine (show wpAny _ _ (newExc (.type "StopIteration") [] >>= _) _ _ _ from Dw ?_);simp only [newExc,newTuple];refine Dw (Em (Dw (m:=firstArgMember _ _) (Ih (a:=Value.none) (by first | rfl | (simp only [firstArgMember];rfl)) (Em ?_ (by size_fits)))) (by size_fits));simp only [raiseNew];refine Dw (wpAny_handled ?_);rw [show A.in1.handled=none from hh];refine (Dw (Dy (wpAny_throw (?_))));refine Dw (EW (T:="StopIteration") (b:=true) ⟨_,DS _ rfl,rfl⟩ isSubtype_stop (Dy (q _ ?_)));exact ((FL ..).extBut.push _).push _
end
section
variable {prog:Program} {w:World} {A:Around} {s:Shared} {E:Value->Shared->Prop} {d it:Addr} {ks:List (Value×Value)} {i ep:Nat}
def IEs (h:Heap) (d:Addr) (ks:List (Value×Value)) (ep:Nat):Prop:= ∃ o es,h.get? d=some o/\o.ExactDict/\o.data=.dict es ep/\es.toList.map (λe=>(e.key,e.val))=ks
end
end HT
namespace L2
open PySem PySem.Spec PyProof.Rows
theorem Inv.freeze {X:Cx} {pins:List (Addr×Obj)} {σ:St} {H:Hp} {s:Shared} {d:Addr} {o:Obj} {kvs:List (List Key×V)} (I:Inv X pins σ H s) (hd:H d=some (.dT kvs)) (ho:s.heap.get? d=some o):Inv X pins σ (upd H d (.frz o (.dT kvs))) s:=by
 refine jo (t':=s.toks) (h':=s.heap) I (by rw [hd];exact True.intro) ⟨rfl,λ_ _=>rfl⟩ ⟨o,ho⟩ ⟨ho,?_⟩;obtain ⟨z,lo,xs,kt,r⟩:=(show ObjOk X.prog X.w H s.heap d (.dT kvs)from I.hok d _ hd);refine ⟨z,lo,xs,Paired.mapP kt λp q h=>⟨h.1,?_,h.2.2⟩,r⟩;rw [aj (λz=>by rw [z,hd]at h;cases h.2.1)];exact h.2.1
noncomputable def nO (o:Obj):Nat:=match o.data with
 | .dict es _=>es.size
 | _=>0
noncomputable def epO (o:Obj):Nat:=match o.data with
 | .dict _ ep=>ep
 | _=>0
theorem lg {X:Cx} {pins:List (Addr×Obj)} {σ:St} {H:Hp} {s:Shared} {d:Addr} {o:Obj} {kvs:List (List Key×V)} (I:Inv X pins σ H s) (hd:H d=some (.frz o (.dT kvs))):
  ∃ xs:List (List Key×Addr×Value),KT H kvs xs/\(d==sysModules)=false/\nO o=xs.length/\HT.IEs s.heap d (xs.map λq=>(Value.ref q.2.1,q.2.2)) (epO o)/\HT.VEs s.heap d (xs.map λq=>q.2.2) (epO o)/\s.heap.get? d=some o:=by
 obtain ⟨ho,z,lo,xs,kt,o',es,ep,h1,h2,h3,h4,h5⟩:=(show ObjOk X.prog X.w H s.heap d (.frz o (.dT kvs))from I.hok d _ hd);rw [ho]at h1;cases h1;have e1:nO o=es.size:=by unfold nO;rw [h3]
 have e2:epO o=ep:=by unfold epO;rw [h3]
 refine ⟨xs,kt,lo,?_,⟨o,es,ho,h2,by rw [e2];exact h3,?_⟩,⟨o,es,ho,h2,by rw [e2];exact h3,?_⟩,ho⟩
 ·rw [e1,<- EJ,h4,Dx]
 ·rw [h4,Es];rfl
 ·rw [h4,Es];rfl
theorem AA {H:Hp}: ∀ {kvs:List (List Key×V)} {xs:List (List Key×Addr×Value)} {i:Nat} {kv:List Key×V},KT H kvs xs->kvs[i]? =some kv-> ∃ q:List Key×Addr×Value,xs[i]? =some q/\H q.2.1=some (.tup (kv.1.map kV))/\RelV kv.2 q.2.2
 | _,_,i,_,.nil,e=>by cases i <;> cases e
 | _,_,0,_,.cons h _,e=>by cases e;exact ⟨_,rfl,h.2.1,h.2.2⟩
 | _,_,i+1,_,.cons _ t,e=>AA (i:=i) t e
noncomputable def Dc (J:Addr->Obj->It) (to:TE):TI:=λσ H R=>to σ H λx H1=> ∃ d kvs,x=.ref d/\((H1 d=some (.dT kvs)/\ ∀ o,R (J d o) (upd H1 d (.frz o (.dT kvs))))\/ ∃ o,H1 d=some (.frz o (.dT kvs))/\R (J d o) H1)
theorem Bz {X:Cx} {pins:List (Addr×Obj)} {σ:St} {H:Hp} {s:Shared} {d:Addr} {kvs:List (List Key×V)} {J:Addr->Obj->It} {R:It->Hp->Prop} (I:Inv X pins σ H s)
  (h:(H d=some (.dT kvs)/\ ∀ o,R (J d o) (upd H d (.frz o (.dT kvs))))\/ ∃ o,H d=some (.frz o (.dT kvs))/\R (J d o) H): ∃ o H',Inv X pins σ H' s/\H' d=some (.frz o (.dT kvs))/\R (J d o) H':=by
 rcases h with ⟨hd,q⟩ | ⟨o,hd,q⟩
 ·obtain ⟨_,_,xs,kt,o,es,ep,h1,_⟩:=(show ObjOk X.prog X.w H s.heap d (.dT kvs)from I.hok d _ hd);exact ⟨o,_,I.freeze hd h1,ae,q o⟩
 ·exact ⟨o,H,I,hd,q⟩
noncomputable def Itj (d:Addr) (o:Obj):It:=
 ⟨λi H=> ∃ kvs kv,H d=some (.frz o (.dT kvs))/\kvs[i]? =some kv,
  λi H x H'=>H'=H/\ ∀ kvs,H d=some (.frz o (.dT kvs))->(kvs.map (·.2))[i]? =some x,
  λi H=> ∃ kvs,H d=some (.frz o (.dT kvs))/\kvs.length=i⟩
theorem ug {P:Program} {w:World} {K:W.Frag} {tg:Expr} (it d:Addr) (o:Obj):qt P w K tg (Itj d o) [it] it (λi h=>h.IsValIter it d i (nO o) (epO o)) where
 mem:=by simp
 obj:=λi h st b hb=>by
  have e:b=it:=by simpa using hb
  subst e;obtain ⟨o,e,c,d⟩:=st;exact ⟨o,e,λv z=>by rw [d]at z;cases z⟩
 keep:=λi h h' st k=>st.at λo e=>k it (by simp) o e
 item:=by
  intro X hP hw hK hc i pins s σ H E I hf st hg;subst hP hw hK;obtain ⟨kvs,kv,hd,hx⟩:=hg;obtain ⟨xs,kt,lo,hn,_,m,_⟩:=lg I hd;obtain ⟨q,hq,hc',rv⟩:=AA kt hx;obtain ⟨f0,f1,f2,f3,f4,f5⟩:=hf it (by simp);rw [hn,<- Dx (f:=λq:List Key×Addr×Value=>q.2.2)]at st;refine HT.next_ves st m (by rw [DP,hq];rfl) λh' st' sb=>?_;have I1:Inv X pins σ H {s with heap:=h'}:=I.turned (t':=s.toks) (λb o hb e=>sb.extBut b o hb e) f0 f1 f3 f4 f5;obtain ⟨o',e,c,d'⟩:=id st';rw [Dx,<- hn]at st';exact ⟨q.2.2,rfl,mw (s:={s with heap:=h'}) e c d' (by decide) ⟨_,H,I1,rv,⟨rfl,λys hy=>by rw [hd]at hy;cases hy;rw [DP,hx];rfl⟩,st',λb hb=>(hf b hb).1⟩⟩
 done:=by
  intro X hP hw hK hc i pins s σ H E I hf st hg;subst hP hw hK;obtain ⟨kvs,hd,hl⟩:=hg;obtain ⟨xs,kt,lo,hn,_,m,_⟩:=lg I hd;have hle:xs.length=kvs.length:=(Ev kt).symm;obtain ⟨f0,f1,f2,f3,f4,f5⟩:=hf it (by simp);rw [hn,<- Dx (f:=λq:List Key×Addr×Value=>q.2.2)]at st;exact HT.end_ves (I.ok.hd hc) st m (by rw [Dx];lia) λh' eb=>⟨rfl,I.turned (t':=s.toks) (λb o hb e=>eb b o hb e) f0 f1 f3 f4 f5⟩
 self:=λ_ _ _ _ _ st h=>wpAny_pyIter_valiter st h
theorem zi {X:Cx} {tg:Expr} {o:Expr} {to:TE} {apos cpos:Pos} (ho:PE X o to)
  (hbase:attributeBase o "values" X.env (eval o X.env)=eval o X.env:=by rfl) (hline:(apos.endLine==cpos.line)=true:=by rfl):
  PI X tg (.Call (.Attribute o "values" apos) [] [] cpos) (Dc Itj to):=by
 intro pins s σ H R I h;refine wpAny_Call_method0_late hbase hline (thn (ho pins s σ H _ I h) λv s1 ⟨x,H1,I1,r1,d,kvs,ex,q1⟩=>?_);subst ex;cases r1;obtain ⟨ob,H2,I2,hd,q⟩:=Bz I1 q1;obtain ⟨xs,kt,lo,hn,_,m,hob⟩:=lg I2 hd;refine ⟨"dict","dict.values",PySem.F.plainAttrs_dict,PySem.F.slot_dict_values,PySem.F.type_dict_values,m.type,(λb e=>?_),Hn rfl (PySem.evalArgs_none (HT.call_ves lo m ?_))⟩
 ·cases e;obtain ⟨o',es',e1,e2,_⟩:=m;exact ⟨o',e1,e2.2.1⟩
 have kp0: ∀ b o,s1.heap.get? b=some o->(s1.heap.push {cls:=.type "dict_values",data:=.fields #[.ref d]}).get? b=some o:=λb o e=>Dz _ e;refine HT.iter_ves ⟨_,DS _ rfl,rfl,rfl⟩ (m.keeps λo e=>kp0 _ o e) ?_;have hsz:(s1.heap.push {cls:=.type "dict_values",data:=.fields #[.ref d]}).objs.size=s1.heap.objs.size+1:=FM ..;refine ⟨_,[_],_,_,H2,rfl,I2.kept (t':=s1.toks) λb o e=>Dz _ (kp0 b o e),ug _ d ob,?_,λb hb=>?_,q⟩
 ·rw [Dx,<- hn];exact ⟨_,DS _ rfl,rfl,rfl⟩
 ·have e:b=(s1.heap.push {cls:=.type "dict_values",data:=.fields #[.ref d]}).objs.size:=by simpa using hb
  have hb':s1.heap.objs.size<=b:=by rw [e,hsz];lia
  exact I2.fpOk hb' (I2.hok.fresh hb')
end L2
namespace HT
open PySem PyProof.Rows
noncomputable def ins {K:Type} [DecidableEq K] (u:List K):List K->List K
 | []=>u
 | k::r=>ins (if k∈u then u else u++[k]) r
theorem SetOf.keep {prog:Program} {w:World} {K:Type} [DecidableEq K] {knd:KeyKind prog w K} {h h':Heap} {a:Addr} {S:K->Bool} {n:Nat} (H:Heap.SetOf knd h a S n) (k: ∀ o,h.get? a=some o->h'.get? a=some o):Heap.SetOf knd h' a S n:=by
 obtain ⟨o,es,ep,t,h1,h2⟩:=H;exact ⟨o,es,ep,t,k o h1,h2⟩
theorem SetOf.cong {prog:Program} {w:World} {K:Type} [DecidableEq K] {knd:KeyKind prog w K} {h:Heap} {a:Addr} {S S':K->Bool} {n n':Nat} (H:Heap.SetOf knd h a S n) (e: ∀ k,S k=S' k) (en:n=n'):Heap.SetOf knd h a S' n':=by
 have:S=S':=funext e;subst this;subst en;exact H
theorem pc {prog:Program} {w:World} {A:Around} {R:Result->Shared->Prop} {I:Addr} {fp wr:List Addr} {G:Array GenState->Array GenState->Prop} {P:Nat->Value->Prop} {St:Nat->Shared->Prop} {K:Type} [DecidableEq K] {knd:KeyKind prog w K} {n:Nat}
  (W:WalksS prog w A.in1 I fp wr G n P St) (S:Addr) (hS:S∉fp) (val:List K) (hl:val.length=n) (hP: ∀ i v,P i v-> ∃ k,val[i]? =some k/\knd.is k v=true/\v.scannable=true) (hn:n+1<scanBound):
  ∀ (k i:Nat) (s:Shared) (u:List K),n-i=k->i<=n->St i s->Heap.SetOf knd s.heap S (λk'=>decide (k'∈u)) u.length->u.length<=i->
   (∀ s',Moved (S::wr) G s s'->Heap.SetOf knd s'.heap S (λk'=>decide (k'∈ins u (val.drop i))) (ins u (val.drop i)).length->R (.ok (.ret .none)) s')->
   codeAny (model prog w) A (.builtin "set.update.loop" {pos:=[.ref S,.ref I]}) R s:=by
 intro k;induction k with
 | zero=>
  intro i s u hk hi hst hset hu hR;have e:i=n:=by lia
  subst e;refine G5 F.entry_set_update_loop ?_;rw [Around.under_plainId Hi];refine Dw (W.done s _ _ hst λs' mv=>?_);have hd:val.drop i=[]:=List.drop_eq_nil_of_le (by lia);refine Dy (hR s' (mv.mono λb hb=>DZ _ hb) ?_);rw [hd];exact SetOf.keep hset λo ho=>mv.heap S o (λhb=>hS (W.sub S hb)) ho
 | succ k ih=>
  intro i s u hk hi hst hset hu hR;refine G5 F.entry_set_update_loop ?_;rw [Around.under_plainId Hi];refine Dw (W.item i s _ _ (by lia) hst λv s' hv st' mv=>?_);obtain ⟨x,hx,hkx,hsc⟩:=hP i v hv;have hset':=SetOf.keep hset λo ho=>mv.heap S o (λhb=>hS (W.sub S hb)) ho;have hd:val.drop i=x::val.drop (i+1):=by
   obtain ⟨hlt,hx'⟩:=DH.mp hx;rw [EU hlt,hx']
  refine Dw (Ey (Ey (Dw (knd.pyHash hkx (wpAny_setAddHashed_of hkx hsc hset' (by lia) λh' sb so=>?_)))));refine Dy ⟨plainId_quiet Hi _,?_⟩;refine ih (i+1) _ (if x∈u then u else u++[x]) (by lia) (by lia) ?_ ?_ ?_ ?_
  ·exact W.frame (i+1) s' h' (s'.toks+1) st' (Ii _) λb hb o ho=>(sb.2 b (λz=>hS (z▸hb))).trans ho
  ·refine SetOf.cong so (λk'=>?_) ?_
   ·by_cases c:x∈u
    ·rw [Ea c];by_cases c2:k'=x
     ·subst c2;simp [c]
     ·simp [c2]
    ·rw [DU c];simp
   ·by_cases c:x∈u
    ·rw [Ea c,Ea (DB c)]
    ·rw [DU c,DU (by rw [DG c];exact DM),DA];rfl
  ·split
   ·lia
   ·rw [DA];show u.length+1<=_;lia
  ·intro s2 mv2 hs2;refine hR s2 ?_ (by rw [hd];exact hs2);refine Moved.trans W.gtrans (Moved.then_heap (mv.mono λb hb=>DZ _ hb) (Ii _) λb o hb ho=>(sb.2 b (λz=>hb (z▸DW))).trans ho) mv2
theorem call_setS {prog:Program} {w:World} {A:Around} {E:Value->Shared->Prop} {s:Shared} {l:Addr} {items:Array Value} {K:Type} [DecidableEq K] {knd:KeyKind prog w K} {val:List K} {Q:Value->Shared->Prop} (hh:A.handled=none)
  (hL:s.heap.IsList l items) (hl:val.length=items.size) (hP: ∀ (i:Nat) (v:Value),items[i]? =some v-> ∃ k,val[i]? =some k/\knd.is k v=true/\v.scannable=true) (hn:items.size+1<scanBound)
  (q: ∀ (h':Heap) (tk:Nat),Heap.SetOf knd h' s.heap.objs.size (λk'=>decide (k'∈ins [] val)) (ins [] val).length->(∀ b o,b<s.heap.objs.size->s.heap.get? b=some o->h'.get? b=some o)->
   Q (.ref s.heap.objs.size) {s with heap:=h',toks:=tk}):
  wpAny (model prog w) A (call (.type "set") [.ref l]) Q E s:=by
 refine Fy (IF ?_);refine Dy ⟨Gf _ (by decide +kernel),G5 F.entry_type_call ?_⟩;rw [Around.under_plain (weight_type_call_type _ _ _) rfl];obtain ⟨c,tl,em⟩:=F.called_set.mro;unfold Builtin.«type.__call__»;simp only [F.called_set.notType,El,EN,F.called_set.canCreate,F.typeCall_set_1,F.called_set.made,pure_bind,em,List.isEmpty_cons];refine Dw (Ey (Fy (code_set_new_1 _ λled=>?_)));generalize ho0:({cls:=Value.type "set",data:=Data.set #[] 0 (SetTable.fresh 0 0 led)}:Obj)=o0;have hset0:Heap.SetOf knd (s.heap.push o0) s.heap.objs.size (λk'=>decide (k'∈([]:List K))) 0:=by
  subst ho0;exact SetOf.cong ((setObjOf_fresh (knd:=knd) led).setOf (DS _ rfl) (by decide)) (λk=>by simp) rfl
 have hty:Shared.TypeIs {s with heap:=s.heap.push o0} (.ref s.heap.objs.size) "set":=hset0.typeIs;refine Dw (EW hty F.called_set.sub ?_);simp only [Ff,El,EN];refine Dw (Ey (EC hty F.called_set.init (Fy (Fc (by decide +kernel) F.entry_set_init (check_set_init_1 hty ?_)))));unfold Builtin.«set.__init__»;simp only [noKeywords,List.isEmpty_nil,Gw,pure_bind];refine Dw (show wpAny _ _ (typeNameOfCut 200 (.ref s.heap.objs.size)) _ _ _ from Dw (Dw (FY hty (Dy (Dy ?_)))));refine Dw (Ih (show checkCount _ 0 1 1=pure ()from rfl) ?_);refine Dw (Dy ?_);have hload:(s.heap.push o0).get? s.heap.objs.size=some o0:=by subst ho0;exact DS _ rfl
 refine Dw (show wpAny _ _ (setUsed s.heap.objs.size) _ _ _ from Dw (Dw (wpAny_load' hload ?_)));subst ho0;refine Dy (Dy ?_);refine Dw (?_:wpAny _ _ (Builtin.Frozenset.updateFrom "set.__init__" s.heap.objs.size (.ref l)) _ _ _);have hL':=hL.push {cls:=Value.type "set",data:=Data.set #[] 0 (SetTable.fresh 0 0 led)};have htyl:Shared.TypeIs {s with heap:=s.heap.push {cls:=Value.type "set",data:=Data.set #[] 0 (SetTable.fresh 0 0 led)}} (.ref l) "list":=Heap.IsList.typeIs hL';unfold Builtin.Frozenset.updateFrom;refine Dw (show wpAny _ _ (Builtin.Frozenset.isAnySet (.ref l)) _ _ _ from Dw (EW htyl F.sub_list_set (EW htyl F.sub_list_frozenset ?_)));refine Dw (FY htyl ?_);refine Dw (Ic hL' ?_);refine Dw (wpAny_runValue ?_);have hsz:(s.heap.push {cls:=Value.type "set",data:=Data.set #[] 0 (SetTable.fresh 0 0 led)}).objs.size=s.heap.objs.size+1:=FM _ _;have hlt:l<s.heap.objs.size:=by
  obtain ⟨o,ho,_⟩:=hL;exact DR ho
 clear hload hty htyl;dsimp only;generalize hh1:s.heap.push {cls:=Value.type "set",data:=Data.set #[] 0 (SetTable.fresh 0 0 led)}=h1 at hset0 hL' hsz ⊢;have hold: ∀ b o,s.heap.get? b=some o->h1.get? b=some o:=λb o e=>by rw [<- hh1];exact Dz _ e
 have hno:s.heap.objs.size∉[h1.objs.size,l]:=λhm=>by
  rw [hsz]at hm;rcases DK.mp hm with z | z
  ·exact absurd z (Eg (Gy _))
  ·rcases DK.mp z with z | z
   ·exact absurd z (Ge hlt)
   ·cases z
 refine pc (knd:=knd) (Walks.toS (Walks.list (show A.in1.in1.in1.handled=none from hh) h1.objs.size l (by rw [hsz];exact Eg (Hr hlt)) items)) s.heap.objs.size hno val hl hP hn items.size 0 _ [] rfl (Er _)
  ⟨⟨_,DS _ rfl,rfl,rfl⟩,hL'.push _⟩ (SetOf.keep hset0 λo ho=>Dz _ ho) (Er _) λs' mv hs=>?_
 obtain ⟨h',g',d',tk',os'⟩:=s';have e1:g'=s.gens:=mv.gens;have e2:d'=s.drawn:=mv.drawn;have e3:os'=s.os:=mv.os;subst e1 e2 e3;refine Dy (Dy (Dy (q h' tk' hs λb o hb ho=>mv.heap b o (λhm=>?_) (Dz _ (hold b o ho)))));rw [hsz]at hm;rcases DK.mp hm with z | z
 ·exact absurd z (Eg hb)
 ·rcases DK.mp z with z | z
  ·exact absurd z (Eg (Hr hb))
  ·cases z
theorem call_setT {prog:Program} {w:World} {A:Around} {E:Value->Shared->Prop} {s:Shared} {l:Addr} {items:Array Value} {K:Type} [DecidableEq K] {knd:KeyKind prog w K} {val:List K} {Q:Value->Shared->Prop} (hh:A.handled=none)
  (hL:s.heap.IsTuple l items) (hl:val.length=items.size) (hP: ∀ (i:Nat) (v:Value),items[i]? =some v-> ∃ k,val[i]? =some k/\knd.is k v=true/\v.scannable=true) (hn:items.size+1<scanBound)
  (q: ∀ (h':Heap) (tk:Nat),Heap.SetOf knd h' s.heap.objs.size (λk'=>decide (k'∈ins [] val)) (ins [] val).length->(∀ b o,b<s.heap.objs.size->s.heap.get? b=some o->h'.get? b=some o)->
   Q (.ref s.heap.objs.size) {s with heap:=h',toks:=tk}):
  wpAny (model prog w) A (call (.type "set") [.ref l]) Q E s:=by
 refine Fy (IF ?_);refine Dy ⟨Gf _ (by decide +kernel),G5 F.entry_type_call ?_⟩;rw [Around.under_plain (weight_type_call_type _ _ _) rfl];obtain ⟨c,tl,em⟩:=F.called_set.mro;unfold Builtin.«type.__call__»;simp only [F.called_set.notType,El,EN,F.called_set.canCreate,F.typeCall_set_1,F.called_set.made,pure_bind,em,List.isEmpty_cons];refine Dw (Ey (Fy (code_set_new_1 _ λled=>?_)));generalize ho0:({cls:=Value.type "set",data:=Data.set #[] 0 (SetTable.fresh 0 0 led)}:Obj)=o0;have hset0:Heap.SetOf knd (s.heap.push o0) s.heap.objs.size (λk'=>decide (k'∈([]:List K))) 0:=by
  subst ho0;exact SetOf.cong ((setObjOf_fresh (knd:=knd) led).setOf (DS _ rfl) (by decide)) (λk=>by simp) rfl
 have hty:Shared.TypeIs {s with heap:=s.heap.push o0} (.ref s.heap.objs.size) "set":=hset0.typeIs;refine Dw (EW hty F.called_set.sub ?_);simp only [Ff,El,EN];refine Dw (Ey (EC hty F.called_set.init (Fy (Fc (by decide +kernel) F.entry_set_init (check_set_init_1 hty ?_)))));unfold Builtin.«set.__init__»;simp only [noKeywords,List.isEmpty_nil,Gw,pure_bind];refine Dw (show wpAny _ _ (typeNameOfCut 200 (.ref s.heap.objs.size)) _ _ _ from Dw (Dw (FY hty (Dy (Dy ?_)))));refine Dw (Ih (show checkCount _ 0 1 1=pure ()from rfl) ?_);refine Dw (Dy ?_);have hload:(s.heap.push o0).get? s.heap.objs.size=some o0:=by subst ho0;exact DS _ rfl
 refine Dw (show wpAny _ _ (setUsed s.heap.objs.size) _ _ _ from Dw (Dw (wpAny_load' hload ?_)));subst ho0;refine Dy (Dy ?_);refine Dw (?_:wpAny _ _ (Builtin.Frozenset.updateFrom "set.__init__" s.heap.objs.size (.ref l)) _ _ _);have hL':=hL.push {cls:=Value.type "set",data:=Data.set #[] 0 (SetTable.fresh 0 0 led)};have htyl:Shared.TypeIs {s with heap:=s.heap.push {cls:=Value.type "set",data:=Data.set #[] 0 (SetTable.fresh 0 0 led)}} (.ref l) "tuple":=Heap.IsTuple.typeIs hL';unfold Builtin.Frozenset.updateFrom;refine Dw (show wpAny _ _ (Builtin.Frozenset.isAnySet (.ref l)) _ _ _ from Dw (EW htyl F.sub_tuple_set (EW htyl F.sub_tuple_frozenset ?_)));refine Dw (FY htyl ?_);refine Dw (G6 hL' ?_);refine Dw (wpAny_runValue ?_);have hsz:(s.heap.push {cls:=Value.type "set",data:=Data.set #[] 0 (SetTable.fresh 0 0 led)}).objs.size=s.heap.objs.size+1:=FM _ _;have hlt:l<s.heap.objs.size:=by
  obtain ⟨o,ho,_⟩:=hL;exact DR ho
 clear hload hty htyl;dsimp only;generalize hh1:s.heap.push {cls:=Value.type "set",data:=Data.set #[] 0 (SetTable.fresh 0 0 led)}=h1 at hset0 hL' hsz ⊢;have hold: ∀ b o,s.heap.get? b=some o->h1.get? b=some o:=λb o e=>by rw [<- hh1];exact Dz _ e
 have hno:s.heap.objs.size∉[h1.objs.size,l]:=λhm=>by
  rw [hsz]at hm;rcases DK.mp hm with z | z
  ·exact absurd z (Eg (Gy _))
  ·rcases DK.mp z with z | z
   ·exact absurd z (Ge hlt)
   ·cases z
 refine pc (knd:=knd) (Walks.toS (Walks.tuple (show A.in1.in1.in1.handled=none from hh) h1.objs.size l (by rw [hsz];exact Eg (Hr hlt)) items)) s.heap.objs.size hno val hl hP hn items.size 0 _ [] rfl (Er _)
  ⟨⟨_,DS _ rfl,rfl,rfl⟩,hL'.push _⟩ (SetOf.keep hset0 λo ho=>Dz _ ho) (Er _) λs' mv hs=>?_
 obtain ⟨h',g',d',tk',os'⟩:=s';have e1:g'=s.gens:=mv.gens;have e2:d'=s.drawn:=mv.drawn;have e3:os'=s.os:=mv.os;subst e1 e2 e3;refine Dy (Dy (Dy (q h' tk' hs λb o hb ho=>mv.heap b o (λhm=>?_) (Dz _ (hold b o ho)))));rw [hsz]at hm;rcases DK.mp hm with z | z
 ·exact absurd z (Eg hb)
 ·rcases DK.mp z with z | z
  ·exact absurd z (Eg (Hr hb))
  ·cases z
end HT
namespace L2
open PySem
section
variable {X:Cx}
def yS (K:W.Frag) (te:TE):TE:=λσ H Q=>te σ H λx H1=> ∃ (a:Addr) (xs:List Str),x=.ref a/\(SqL K H1 a (xs.map V.str)\/SqT K H1 a (xs.map V.str))/\xs.length<=1000/\Q (.int ((HT.ins [] xs).length:Int)) H1
theorem oK {xs:List Str} {its:List Value} (r:Vals (xs.map V.str) its): ∀ (i:Nat) (v:Value),its.toArray[i]? =some v-> ∃ k,xs[i]? =some k/\(∃ t,v=.str k t):=by
 induction xs generalizing its with
 | nil=>cases r;intro i v h;simp at h
 | cons x l ih=>
  cases r with
  | cons r1 r2=>
   intro i v h;rw [List.getElem?_toArray]at h;cases i with
   | zero=>
    cases h;obtain ⟨t,e⟩:=r1;exact ⟨x,rfl,t,e⟩
   | succ i=>exact ih r2 i v (by rw [List.getElem?_toArray];exact h)
theorem uH {e:Expr} {p1 p2 p3 p4:Pos} {te:TE} (hcalm:X.calm=true) (gl:Gl X "len") (ml:X.mg "len"=none) (gs:Gl X "set") (ms:X.mg "set"=none) (he:PE X e te)
  (h1:starEach [.Call (.Name "set" p2) [e] [] p3] X.env=[(false,eval (.Call (.Name "set" p2) [e] [] p3) X.env)]:=by rfl) (h2:starEach [e] X.env=[(false,eval e X.env)]:=by rfl):
  PE X (.Call (.Name "len" p1) [.Call (.Name "set" p2) [e] [] p3] [] p4) (yS X.K te):=by
 intro pins s σ H Q I h;refine Fz (gR I gl ml DV ?_);refine Ga ?_ h1 rfl;rw [h1];refine HX (Fz (gR I gs ms (show bootBuiltins "set"=some (.type "set") by decide +kernel) (Fe ?_ h2 rfl)));rw [h2];refine HX (thn (he pins s σ H _ I h) λu s1 ⟨x,H1,I1,r1,q1⟩=>Hk ?_);obtain ⟨a,xs,rfl,hq,hx,q⟩:=q1;cases r1;have hh:X.A.handled=none:=I1.ok.hd hcalm;have fin: ∀ (h':Heap) (tk:Nat),Heap.SetOf (strKind X.prog X.w) h' s1.heap.objs.size (λk'=>decide (k'∈HT.ins [] xs)) (HT.ins [] xs).length->(∀ b o,b<s1.heap.objs.size->s1.heap.get? b=some o->h'.get? b=some o)->
   wpAny (model X.prog X.w) X.A (call (Value.builtin "len") [.ref s1.heap.objs.size]) (EP X pins σ Q) X.xe {s1 with heap:=h',toks:=tk}:=λh' tk hs k=>by
  obtain ⟨o,es,ep,t,g1,g2,g3,_,_,g4,g5,g6⟩:=hs;refine call_len_set g1 g2 g3 g5 (Int.lt_trans (Int.ofNat_lt.mpr g4) (by decide)) ?_;rw [g6];exact ⟨.int _,H1,I1.kept λb o e=>k b o (DR e) e,⟨_,rfl⟩,q⟩
 have hmem: ∀ {its:List Value},Vals (xs.map V.str) its-> ∀ (i:Nat) (v:Value),its.toArray[i]? =some v-> ∃ k,xs[i]? =some k/\(strKind X.prog X.w).is k v=true/\v.scannable=true:=λr' i v hv=>by
  obtain ⟨k,e1,t,rfl⟩:=oK r' i v hv;exact ⟨k,e1,strKind_is _ _ _ _,rfl⟩
 have hsz: ∀ {its:List Value},Vals (xs.map V.str) its->xs.length=its.toArray.size:=λr'=>by
  rw [DL,<- r'.length,Dx]
 have hb: ∀ {its:List Value},Vals (xs.map V.str) its->its.toArray.size+1<scanBound:=λr'=>by
  rw [<- hsz r'];exact FB (Nat.succ_le_succ hx) (by decide)
 rcases hq with hq | hq
 ·obtain ⟨its,r',pl,hz⟩:=I1.list hq;exact HT.call_setS (knd:=strKind X.prog X.w) (val:=xs) hh pl.isList (hsz r') (hmem r') (hb r') λh' tk hs k=>Hk (fin h' tk hs k)
 ·obtain ⟨its,r',pl,hz⟩:=I1.tuple hq;obtain ⟨o,ho,hc,n,hd⟩:=pl;exact HT.call_setT (knd:=strKind X.prog X.w) (val:=xs) hh ⟨o,ho,hc,n,hd⟩ (hsz r') (hmem r') (hb r') λh' tk hs k=>Hk (fin h' tk hs k)
theorem mn {K:Type} [DecidableEq K]: ∀ {l u:List K},(u++l).Nodup->HT.ins u l=u++l
 | [],u,_=>(En u).symm
 | x::r,u,h=>by
  have hx:x∉u:=λm=>(FH.mp h).2.2 x m x DW rfl;show HT.ins (if x∈u then u else u++[x]) r=_;rw [DU hx,mn (by rw [Et];exact h),Et];rfl
end
end L2
namespace L2
open PySem PyProof.Rows
structure tX (sc0:Scope) (N0:List Str) (scope:Scope) (x x2 x3:Str) (ys:List Str) (fr:List Nat):Prop where
 kind:scope.kind=.function
 nocell: ∀ y∈scope.names,y.2≠ .cell
 loc: ∀ y∈scope.names,y.2=.local->scope.names.lookup y.1=some .local
 xl:(bi sc0 scope).lookup x=some .local
 xl2:(bi sc0 scope).lookup x2=some .local
 xl3:(bi sc0 scope).lookup x3=some .local
 free: ∀ y∈scope.names,y.2=.free->sc0.names.lookup y.1=some .cell
 nd:(x::x2::x3::ys).Nodup
 len:ys.length=fr.length
 sl: ∀ q∈ys.zip fr,N0[q.2]? =some q.1/\sc0.names.lookup q.1=some .cell/\(bi sc0 scope).lookup q.1=some .cell
noncomputable def cV (X:Cx) (x x2 x3:Str) (ys:List Str) (scope:Scope) (C:Addr) (s:Shared) (H:Hp) (ex:List Addr):Cx:=
 {X with N:=x::x2::x3::ys,s₀:=s,H₀:=H,env:=compEnvC scope (dQ X.env.cells scope.names) C X.env,outer:=X.stack,stack:=X.stack,ex:=ex,fn:=λ_=>false,pn:=[],xe:=λ_ _=>False}
def sD (fr:List Nat) (te:TE) (σ:St) (J:It) (H1:Hp) (Q:VK):Prop:=
 ∀ p,H1 p=none-> ∃ W:Nat->Nat->List V->Hp->Prop,(∃ m,W 0 m [] (upd H1 p (.lst [])))/\ ∀ i m ys H,W i m ys H->H p=some (.lst ys)/\
  ((J.stop i H/\Q (.ref p) H)\/(J.go i H/\ys.length<sizeLine/\ ∀ x H',J.yld i H x H'-> ∃ T v1 v2 v3,x=.ref T/\H' T=some (.tup [v1,v2,v3])/\te (some v1::some v2::some v3::bV fr σ) H' λv H2=>
   H2 p=some (.lst ys)/\ ∃ m',m'<m/\W (i+1) m' (ys++[v]) (upd H2 p (.lst (ys++[v])))))
def vS (wi:TI) (fr:List Nat) (te:TE):TE:=λσ H Q=>wi σ H λJ H1=>sD fr te σ J H1 Q
section
variable {X:Cx} {x x2 x3:Str} {px px2 px3 tpos pos fpos:Pos} {kk:Nat} {iter elt:Expr} {scope sc0:Scope} {N0 ys:List Str} {fr:List Nat} {wi:TI} {te:TE} {pins:List (Addr×Obj)} {σ:St} {H:Hp} {s:Shared}
theorem su {use:Option (Value->Sem Unit)} {Qv:Value->Shared->Prop} {Q:VK} (hcalm:X.calm=true) (hi:PI X (.Tuple [.Name x px,.Name x2 px2,.Name x3 px3] kk tpos) iter wi) (hsc:X.env.scope=sc0) (hN:X.N=N0) (ok:tX sc0 N0 scope x x2 x3 ys fr)
  (hE: ∀ C s H ex,PE (cV X x x2 x3 ys scope C s H ex) elt te) (I:Inv X pins σ H s) (h:vS wi fr te σ H Q) (hs: ∀ v,foldedSetIterable iter X.env v=pure v)
  (fin: ∀ (p C:Addr) (H':Hp) (s':Shared) (m:Str->Option Value),Inv X pins σ H' s'->s'.heap.Ns C m->H' C=none->C≠X.env.locals->X.s₀.heap.objs.size<=C->(∀ y c,X.env.cells.lookup y=some c->c≠C)->(∀ q∈X.pn++pins,q.1≠C)->Q (.ref p) H'->
   compPost (model X.prog X.w) X.A X.xe use Qv (.ref p) C (.ok .next) s'):
  wpAny (model X.prog X.w) X.A (comprehension (.ListComp elt [⟨.Tuple [.Name x px,.Name x2 px2,.Name x3 px3] kk tpos,iter,[],0⟩] scope pos) scope X.env fpos (newList []) false (eval iter X.env) use) Qv X.xe s:=by
 subst hsc hN;have hkof: ∀ y,X.env.kindOf y=X.env.scope.names.lookup y:=λy=>rfl;have hfree: ∀ y∈scope.names,y.2=.free-> ∃ c,X.env.cells.lookup y.1=some c:=λy hy e=>I.ok.has y.1 (.inl (ok.free y hy e));refine G0 (gs:=[]) rfl hs (ff hfree) ok.kind ok.loc (thn (hi pins s σ H _ I h) λv s1 h1=>thn h1 λitv s2 h2=>?_);obtain ⟨it,fp,tn,J,H2,e,I2,T,st2,f2,hp⟩:=h2;subst e;refine Em (HD ok.nocell (by intro y hy;simp at hy) (λh₁ hns₁ hsb₁=>?_) ok.kind);dsimp only at hns₁ hsb₁ ⊢;have I3:Inv X pins σ (upd H2 s2.heap.objs.size (.lst [])) {s2 with heap:=s2.heap.push {cls:=.type "list",data:=.seq ([]:List Value).toArray}}:=
  I2.lnew (its:=[]) (ys:=[]) (t':=s2.toks) .nil (Er _)
 have hf2: ∀ b∈fp,b<s2.heap.objs.size:=λb hb=>by
  obtain ⟨o,e,_⟩:=T.obj _ _ st2 b hb;exact DR e
 have hps:s2.heap.objs.size< (s2.heap.push {cls:=.type "list",data:=.seq ([]:List Value).toArray}).objs.size:=by rw [FM];exact Gy _
 have W0:=hp s2.heap.objs.size I2.fresh;have st3:tn 0 (s2.heap.push {cls:=.type "list",data:=.seq ([]:List Value).toArray}):=T.keep _ _ _ st2 λb hb o e=>Dz _ e;generalize hpp:s2.heap.objs.size=p at I3 W0 hf2 hps ⊢;generalize hh3:(s2.heap.push {cls:=.type "list",data:=.seq ([]:List Value).toArray})=h3 at I3 hns₁ hsb₁ hps st3 ⊢;generalize hH3:upd H2 p (.lst [])=H3 at I3 W0;have hold: ∀ b o,h3.get? b=some o->h₁.get? b=some o:=λb o e=>hsb₁.extBut b o (Eg (DR e)) (Dz _ e);have fH3: ∀ b∈fp,H3 b=none:=λb hb=>by
  rw [<- hH3,aj (Eg (hf2 b hb))];exact (f2 b hb).1
 have hclos: ∀ y c,(dQ X.env.cells scope.names).lookup y=some c->X.env.cells.lookup y=some c:=λy c e=>dZ e;have hcell3: ∀ y c,X.env.cells.lookup y=some c->c<h3.objs.size:=λy c e=>by
  obtain ⟨v,o,ho,_⟩:=I3.cell y c e;exact DR ho
 have hlt3:X.env.locals<h3.objs.size:=I3.lt;have Yok:(cV X x x2 x3 ys scope h3.objs.size {s2 with heap:=h3} H3 fp).Ok:={
  mod:=I.ok.mod
  kind:=ok.kind
  glob:=I.ok.glob
  blt:=I.ok.blt
  above:=DI _
  inj:=λy z c e1 e2=>I.ok.inj y z c (hclos _ _ e1) (hclos _ _ e2)
  has:=λy hk=>by
   have hfr:(y,NameKind.free)∈scope.names:=by
    have hm: ∃ k,(bi X.env.scope scope).lookup y=some k/\(k=.cell\/k=.free):=by
     rcases hk with hk | hk
     ·exact ⟨_,hk,.inl rfl⟩
     ·exact ⟨_,hk,.inr rfl⟩
    obtain ⟨k,hk,hkk⟩:=hm;have hmem:=mem_of_lookup hk;unfold bi at hmem;obtain ⟨⟨n,k0⟩,hn,en⟩:=DY.mp hmem;dsimp only at en;split at en
    ·rename_i hc;simp only [Ek]at hc;have hk0:k0=.free:=by simpa using hc.1.1
     cases en;rw [<- hk0];exact hn
    ·cases en;rcases hkk with e | e
     ·exact absurd e (ok.nocell _ hn)
     ·rw [<- e];exact hn
   obtain ⟨c,hc⟩:=hfree _ hfr rfl;exact ⟨c,dB hc hfr⟩
  cab:=λy c hf _=>by cases hf
  hd:=I.ok.hd
  frames:=I.ok.frames
  stk:=.inl rfl
  exf:=λb hb=>⟨λe=>absurd (hf2 b hb) (by rw [e];exact Hy.mpr (EA hps)),λy c e=>(f2 b hb).2.2.2.2.1 y c (hclos _ _ e)⟩
  bs:=λb o e=>⟨(I3.bs b o e).1,(I3.bs b o e).2⟩
  bsz:=Eh I.ok.bsz I3.sz
  noex:=λb o e hb=>by
   rcases (f2 b hb).2.2.2.1 with q | q
   ·exact I.ok.noex b o e q
   ·have h1:b<X.base.objs.size:=DR e;exact absurd h1 (Hy.mpr (Eh I.ok.bsz q))
  exfs:=λb hb hm=>by
   rcases DK.mp (I3.stkSub b hm)with q | q
   ·exact (f2 b hb).2.1 q
   ·exact (f2 b hb).2.2.1 q
  funs:=I3.stack
  frf:=I3.stkFree}
 have IY:Inv (cV X x x2 x3 ys scope h3.objs.size {s2 with heap:=h3} H3 fp) [] (none::none::none::bV fr σ) H3 {s2 with heap:=h₁,toks:=s2.toks+ ([]:List (Str×Value)).length}:={
  ok:=Yok
  os:=rfl
  bare:=I2.bare
  base:=Un.kept hold
  loc:=by
   refine ⟨_,hns₁,λi y v hy hv hvis=>?_⟩
   match i,hy,hv with
   | 0,_,hv=>cases hv
   | 1,_,hv=>cases hv
   | 2,_,hv=>cases hv
   | j+3,hy,hv=>
    have hy':ys[j]? =some y:=hy;have hv':(bV fr σ)[j]? =some (some v):=hv;unfold bV at hv';rw [DP]at hv';obtain ⟨i0,hi0,hv0⟩:=Ez.mp hv';have hz:(y,i0)∈ys.zip fr:=by
     refine FR.mpr ⟨j,?_⟩;rw [GJ];exact ⟨hy',hi0⟩
    obtain ⟨hn,hk,hk2⟩:=ok.sl _ hz;have hσ:σ[i0]? =some (some v):=by
     cases e:σ[i0]? with
     | none=>rw [e]at hv0;cases hv0
     | some o=>
      rw [e]at hv0;rw [show o=some v from hv0]
    obtain ⟨m,hm,hl⟩:=I3.loc;obtain ⟨u,ru,lk⟩:=hl i0 y v hn hσ (.inr (.inl hk));refine ⟨u,ru,.inr ⟨.inl hk2,?_⟩⟩;rcases lk with ⟨a,_⟩ | ⟨_,c,hc,hcell⟩
    ·have a':X.env.scope.names.lookup y=some .local:=a;have hk':X.env.scope.names.lookup y=some .cell:=hk;rw [hk']at a';cases a'
    ·have hfr:(y,NameKind.free)∈scope.names:=by
      have hmem:=mem_of_lookup hk2;unfold bi at hmem;obtain ⟨⟨n,k0⟩,hn0,en⟩:=DY.mp hmem;dsimp only at en;split at en
      ·rename_i hc0;simp only [Ek]at hc0;have hk0:k0=.free:=by simpa using hc0.1.1
       cases en;rw [<- hk0];exact hn0
      ·cases en;exact absurd rfl (ok.nocell _ hn0)
     exact ⟨c,dB hc hfr,hcell.keeps hold⟩
  cell:=λy c e=>by
   obtain ⟨v,hv⟩:=I3.cell y c (hclos _ _ e);exact ⟨v,hv.keeps hold⟩
  free:=I3.fresh
  freeC:=λy c e=>I3.freeC y c (hclos _ _ e)
  pin:=λq hq=>by cases hq
  hok:=I3.hok.kept hold
  len:=by
   show (none::none::none::bV fr σ).length=(x::x2::x3::ys).length;rw [DJ,DJ,DJ,DJ,DJ,DJ,ok.len];unfold bV;rw [Dx]}
 have hxl:(cV X x x2 x3 ys scope h3.objs.size {s2 with heap:=h3} H3 fp).env.scope.names.lookup x=some .local:=ok.xl;have hxl2:(cV X x x2 x3 ys scope h3.objs.size {s2 with heap:=h3} H3 fp).env.scope.names.lookup x2=some .local:=ok.xl2;have hxl3:(cV X x x2 x3 ys scope h3.objs.size {s2 with heap:=h3} H3 fp).env.scope.names.lookup x3=some .local:=ok.xl3;have pgx:PG (cV X x x2 x3 ys scope h3.objs.size {s2 with heap:=h3} H3 fp) (.Tuple [.Name x px,.Name x2 px2,.Name x3 px3] kk tpos) (Bw X.K 3 (qe (eM 0) (qe (eM 1) (qe (eM 2) Cy)))):=
  cL hcalm (aA (dD (i:=0) ok.nd rfl (.inl hxl) (.inr hxl)) (aA (dD (i:=1) ok.nd rfl (.inl hxl2) (.inr hxl2)) (aA (dD (i:=2) ok.nd rfl (.inl hxl3) (.inr hxl3)) bW)))
 have pel:=hE h3.objs.size {s2 with heap:=h3} H3 fp;obtain ⟨W,⟨m0,w0⟩,turn⟩:=W0;have stat: ∀ {H':Hp},(∀ b∈fp,H' b=none)-> ∀ b∈fp,lO (cV X x x2 x3 ys scope h3.objs.size {s2 with heap:=h3} H3 fp) [] H' b:=λhn b hb=>
  ⟨hn b hb,(Yok.exf b hb).1,Yok.exfs b hb,.inl hb,(Yok.exf b hb).2,λq hq=>by cases hq⟩
 have loop:codeAny (model X.prog X.w) X.A (.compLoop (.ListComp elt [⟨.Tuple [.Name x px,.Name x2 px2,.Name x3 px3] kk tpos,iter,[],0⟩] scope pos) 0 (.ref it) (.ref p) (compEnvC scope (dQ X.env.cells scope.names) h3.objs.size X.env))
   (compPost (model X.prog X.w) X.A X.xe use Qv (.ref p) h3.objs.size) {s2 with heap:=h₁,toks:=s2.toks+ ([]:List (Str×Value)).length}:=by
  refine lN (λn s'=> ∃ i zs v0 w0 z0 H',Inv (cV X x x2 x3 ys scope h3.objs.size {s2 with heap:=h3} H3 fp) [] (v0::w0::z0::bV fr σ) H' s'/\tn i s'.heap/\(∀ b∈fp,H' b=none)/\W i n zs H') ?_ m0
   ⟨0,[],none,none,none,H3,IY,T.keep _ _ _ st3 λb hb o e=>hold b o e,fH3,w0⟩
  rintro n s5 ⟨i,zs,v0,wv0,zv0,H5,I5,st5,fr5,w5⟩;obtain ⟨hacc,turn5⟩:=turn i n zs H5 w5;rcases turn5 with ⟨stop,qn⟩ | ⟨go,hlen,step⟩
  ·refine thn (T.done (cV X x x2 x3 ys scope h3.objs.size {s2 with heap:=h3} H3 fp) rfl rfl rfl hcalm i [] s5 _ H5 _ I5 (stat fr5) st5 stop) λr s6 ⟨hr,I6⟩=>?_;subst hr;obtain ⟨m6,n6,_⟩:=I6.loc;refine fin p h3.objs.size H5 s6 m6 (I3.call' I6.os I6.base I6.hok I6.bare λb hb=>⟨(f2 b hb).2.2.2.1,(f2 b hb).2.1,(f2 b hb).2.2.2.2.1,(f2 b hb).2.2.2.2.2⟩) n6 I6.free (Ge hlt3) I3.sz (λy c e=>Eg (hcell3 y c e)) (λq hq=>?_) qn;exact Eg (DR (I3.pin q hq).1)
  ·refine thn (T.item (cV X x x2 x3 ys scope h3.objs.size {s2 with heap:=h3} H3 fp) rfl rfl rfl hcalm i [] s5 _ H5 _ I5 (stat fr5) st5 go) λr s6 ⟨u,hr,h6⟩=>?_;subst hr;refine thn h6 λ_ s7 ⟨xv,H7,I7,r7,y7,st7,fr7⟩=>?_;have I7':=I7.pinned (stat fr7) (T.obj _ _ st7);obtain ⟨T7,v1,v2,v3,eT,hT7,step7⟩:=step xv H7 y7;refine thn (pgx _ s7 _ H7 xv u (λσ' H'=>σ'=some v1::some v2::some v3::bV fr σ/\H'=H7) I7' r7 ⟨T7,[v1,v2,v3],eT,SqT.of hT7,rfl,v1,[v2,v3],rfl,v2,[v3],rfl,v3,[],rfl,rfl,rfl,rfl⟩) λ_ s8 ⟨σ8,H8,I8,e8,e8'⟩=>?_;subst e8 e8';refine thn (pel _ s8 _ H8 _ I8 step7) λyv s9 ⟨v9,H9,I9,r9,hp9,m',hm',w9⟩=>?_;refine thn (bM _ s9 _ H9 (.ref p) [v9] (.ref p) [yv] (λ_ H'=>H'=upd H9 p (.lst (zs++[v9]))) I9 rfl (.cons r9 .nil) ⟨p,zs,v9,rfl,rfl,hp9,hlen,rfl⟩) λ_ s10 ⟨_,H10,I10,_,e10⟩=>?_;subst e10;refine ⟨m',hm',i+1,zs++[v9],some v1,some v2,some v3,_,I10.unpinned,T.keep _ _ _ st7 λb hb o e=>(I10.pin (b,o) (DO _ (DO _ (bG hb e)))).1,λb hb=>?_,w9⟩;obtain ⟨o,e,d⟩:=T.obj _ _ st7 b hb;exact (I10.pin (b,o) (DO _ (DO _ (bG hb e)))).2.1
 exact Hq loop (T.self X.A 0 _ _ _ (T.keep _ _ _ st3 λb hb o e=>hold b o e) loop)
theorem w8 (hcalm:X.calm=true) (hi:PI X (.Tuple [.Name x px,.Name x2 px2,.Name x3 px3] kk tpos) iter wi) (hsc:X.env.scope=sc0) (hN:X.N=N0) (ok:tX sc0 N0 scope x x2 x3 ys fr)
  (hE: ∀ C s H ex,PE (cV X x x2 x3 ys scope C s H ex) elt te) (hs: ∀ v,foldedSetIterable iter X.env v=pure v:=by intro _;rfl):
  PE X (.ListComp elt [⟨.Tuple [.Name x px,.Name x2 px2,.Name x3 px3] kk tpos,iter,[],0⟩] scope pos) (vS wi fr te):=by
 intro pins s σ H Q I h;rw [eval_ListComp];refine su (use:=none) (Qv:=EP X pins σ Q) (Q:=Q) hcalm hi hsc hN ok hE I h hs λp C H' s' m I' hn h0 h1 h2 h3 h4 q=>?_;refine ⟨m,hn,λh' sb=>⟨.ref p,H',I'.turned (t':=s'.toks) (λb o hb e=>sb.extBut b o hb e) h0 (EI (EI h1)) (.inr h2) h3 h4,rfl,q⟩⟩
end
end L2
namespace L2
open PySem PySem.Spec PyProof.Rows
theorem yk {l:Addr} {xs:List V} {g:TG} {tb:TS} {D:eS} {σ:St} {H:Hp} (Pv:Nat->St->Hp->Prop) (h0:Pv 0 σ H) (hl: ∀ i σ H,i<=xs.length->Pv i σ H->H l=some (.tup xs))
  (step: ∀ i x T σ H,xs[i]? =some x->H T=none->Pv i σ H->g (.ref T) σ (upd H T (.tup [.int (i:Int),x])) λσ2 H2=>tb {D with nx:=Pv (i+1),ct:=Pv (i+1),bk:=D.nx} σ2 H2) (fin: ∀ σ H,Pv xs.length σ H->D.nx σ H):
  ∃ W:Nat->Nat->St->Hp->Prop,(∃ m,W 0 m σ H)/\ ∀ i m σ H,W i m σ H->
   ((Ite l).stop i H/\D.nx σ H)\/((Ite l).go i H/\ ∃ N:St->Hp->Prop,(∀ σ' H',N σ' H'-> ∃ m',m'<m/\W (i+1) m' σ' H')/\ ∀ x H',(Ite l).yld i H x H'->g x σ H' λσ2 H2=>tb {D with nx:=N,ct:=N,bk:=D.nx} σ2 H2):=by
 refine ⟨λi m σ H=>m=xs.length-i/\i<=xs.length/\Pv i σ H,⟨xs.length,by simp,Er _,h0⟩,?_⟩;rintro i m σ H ⟨rfl,hi,p⟩;have q:=hl i σ H hi p;by_cases hlt:i<xs.length
 ·refine .inr ⟨⟨xs,xs[i],q,DD hlt⟩,Pv (i+1),λσ' H' p'=>⟨xs.length- (i+1),by lia,rfl,hlt,p'⟩,λx H' y=>?_⟩;obtain ⟨T,v,fT,rfl,rfl,hk⟩:=y;exact step i v T σ H (hk xs q) fT p
 ·have e:i=xs.length:=by lia
  subst e;exact .inl ⟨⟨xs,q,rfl⟩,fin σ H p⟩
theorem yj {d:Addr} {o:Obj} {kvs:List (List Key×V)} {g:TG} {tb:TS} {D:eS} {σ:St} {H:Hp} (Pv:Nat->St->Hp->Prop) (h0:Pv 0 σ H) (hl: ∀ i σ H,i<=kvs.length->Pv i σ H->H d=some (.frz o (.dT kvs)))
  (step: ∀ i kv σ H,kvs[i]? =some kv->Pv i σ H->g kv.2 σ H λσ2 H2=>tb {D with nx:=Pv (i+1),ct:=Pv (i+1),bk:=D.nx} σ2 H2) (fin: ∀ σ H,Pv kvs.length σ H->D.nx σ H):
  ∃ W:Nat->Nat->St->Hp->Prop,(∃ m,W 0 m σ H)/\ ∀ i m σ H,W i m σ H->
   ((Itj d o).stop i H/\D.nx σ H)\/((Itj d o).go i H/\ ∃ N:St->Hp->Prop,(∀ σ' H',N σ' H'-> ∃ m',m'<m/\W (i+1) m' σ' H')/\ ∀ x H',(Itj d o).yld i H x H'->g x σ H' λσ2 H2=>tb {D with nx:=N,ct:=N,bk:=D.nx} σ2 H2):=by
 refine ⟨λi m σ H=>m=kvs.length-i/\i<=kvs.length/\Pv i σ H,⟨kvs.length,by simp,Er _,h0⟩,?_⟩;rintro i m σ H ⟨rfl,hi,p⟩;have q:=hl i σ H hi p;by_cases hlt:i<kvs.length
 ·refine .inr ⟨⟨kvs,kvs[i],q,DD hlt⟩,Pv (i+1),λσ' H' p'=>⟨kvs.length- (i+1),by lia,rfl,hlt,p'⟩,λx H' y=>?_⟩;obtain ⟨rfl,hk⟩:=y;have hx:=hk kvs q;rw [DP]at hx;obtain ⟨kv,hkv,rfl⟩:=Ez.mp hx;exact step i kv σ H' hkv p
 ·have e:i=kvs.length:=by lia
  subst e;exact .inl ⟨⟨kvs,q,rfl⟩,fin σ H p⟩
end L2
namespace HT
open PySem PyProof.Rows
theorem my (v:Value): ∀ (m:Nat) (acc:List Value),List.foldl (λx1 x2=>x1++x2) acc.toArray (List.replicate m (#[v]:Array Value))=(acc++List.replicate m v).toArray
 | 0,acc=>by rw [List.replicate_zero,List.replicate_zero,En];rfl
 | m+1,acc=>by
  rw [List.replicate_succ,List.replicate_succ,List.foldl_cons];have:=my v m (acc++[v]);rw [Et]at this;rw [show acc.toArray++(#[v]:Array Value)=(acc++[v]).toArray by simp];exact this
theorem tuple_mulN (k:Nat) (hk:2<=k) (hk2:k<=1000) (l:Addr) (v:Value) (n:Nat) (dd:Option Addr) (sl:Array (Option Value)) (u:Tok):
  Meets (Builtin.«tuple.__mul__» ⟨[.ref l,.int (k:Int) u],[]⟩) (λ_ R s=>s.heap.get? l=some {cls:=.type "tuple",dict:=dd,data:=.seq #[v] n,slots:=sl}/\R (.ok (.ret (.ref s.heap.objs.size))) {s with heap:=s.heap.push {cls:=.type "tuple",data:=.seq (List.replicate k v).toArray},toks:=s.toks}):=
 .of_wp λprog w A R s h=>by
  obtain ⟨hp,g,d,tk,os⟩:=s;obtain ⟨hl,h⟩:=h;have f1:=AutoSeq1.idx_int;have f2:=AutoSeq1.sub_tuple_tuple;have c1:(decide ((k:Int) < -(2^63))||decide ((k:Int)≥2^63))=false:=by
   rw [DG (by lia),DG (by lia)];rfl
  have c2:((k:Int)==1)=false:=by
   rw [Fn];lia
  have c3:decide ((k:Int)<=0)=false:=DG (by lia)
  wp_walk using FC hl
  rw [c1,DU DM]
  wp_walk using FC hl
  have c4:(decide ((k:Int)<=0)||(#[v]:Array Value).isEmpty)=false:=by rw [c3];rfl
  rw [c4,DU DM];have c5: ¬ ((#[v]:Array Value).size:Int) * (k:Int) > (2^63-1) /8:=by
   show ¬ ((1:Nat):Int) * (k:Int) >_;lia
  have c6:Builtin.Tuple.tupleTooMany (((#[v]:Array Value).size:Int) * (k:Int))=false:=by
   unfold Builtin.Tuple.tupleTooMany;refine DG ?_;have:(1000:Int)<=(sizeLine:Int):=by decide
   show ¬ ((1:Nat):Int) * (k:Int) >_;lia
  rw [DU c5]
  wp_walk using FC hl
  have c7:List.foldl (λx1 x2=>x1++x2) #[] (List.replicate (k:Int).toNat (#[v]:Array Value))=(List.replicate k v).toArray:=by
   have:=my v k [];rw [Ft]at this;rw [show ((k:Int)).toNat=k from rfl];exact this
  rw [c6,DU DM,c7];have c8: ¬ (List.replicate k v).toArray.size>sizeLine:=by
   rw [DL,FP];have:1000<=sizeLine:=by decide
   lia
  wp_walk using FC hl
  rw [DU c8]
  wp_walk using FC hl
  exact ⟨_,rfl,h⟩
end HT
namespace L2
open PySem PySem.Spec PyProof.Rows
theorem oM {v:V} {z:Value} (r:RelV v z): ∀ m:Nat,Vals (List.replicate m v) (List.replicate m z)
 | 0=>.nil
 | m+1=>.cons r (oM r m)
theorem zp {X:Cx}:OpR X (binaryOp .Mult) (λx y H Q=> ∃ a v k,x=.ref a/\y=.int k/\SqT X.K H a [v]/\2<=k/\k<=1000/\ ∀ p,H p=none->Q (.ref p) (upd H p (.tup (List.replicate k.toNat v)))):=by
 intro pins s σ H x y vv u Q I rx ry h;obtain ⟨a,v,k,rfl,rfl,ha,hk1,hk2,q2⟩:=h;obtain ⟨m,rfl⟩: ∃ m:Nat,k=(m:Int):=⟨k.toNat,by lia⟩;cases rx;obtain ⟨t,rfl⟩:=ry;obtain ⟨its,r,p1,_⟩:=I.tuple ha;cases r with
 | @cons _ z _ _ rz r0=>
  cases r0;obtain ⟨⟨cls,dd,data,sl⟩,ho,hc,n,hd⟩:=id p1;simp only at hc hd;subst hc hd;have go: ∀ {Q':Value->Shared->Prop},wpAny (model X.prog X.w) X.A (call (.builtin "tuple.__mul__") [.ref a,.int (m:Int) t]) Q' X.xe s->wpAny (model X.prog X.w) X.A (binaryOp .Mult (.ref a) (.int (m:Int) t)) Q' X.xe s:=λhq=>
   wpAny_binaryOp_repeat_ref (T:="tuple") (U:="int") (by decide) ⟨_,ho,rfl⟩ (λs'=>typeIs_int s' m t) HT.noFill_tuple_mul F.fills_int_mul F.slot_int_rmul HT.repeat_tuple F.slot_int_index.lookup
    (Ia F.slot_int_rmul (typeIs_int s m t) F.entry_int_rmul (F.args_int_rmul_2 _ _) (HT.int_rmul_tuple m t a _ n dd sl) ⟨ho,rfl,⟨_,ho,rfl⟩,hq⟩)
  refine go (Ia F.slot_tuple_mul ⟨_,ho,rfl⟩ F.entry_tuple_mul (F.args_tuple_mul_2 _ _) (HT.tuple_mulN m (by lia) (by lia) a z n dd sl t) ⟨ho,?_⟩);refine ⟨.ref s.heap.objs.size,_,I.laid (t':=s.toks) (o:=.tup (List.replicate m v)) (λb ob q=>Dz _ q) (DI _) ?_,rfl,q2 _ (I.hok.fresh (DI _))⟩;exact ⟨EA (aK (by rw [FP];lia)),_,oM rz m,IsTup.new _ _⟩
inductive Th where
 | non
 | bl (b:Bool)
 | i (n:Int)
 | s (x:Str)
 | t (l:List Th)
 | l (l:List Th)
 | d
mutual
inductive RepT (H:Hp):Th->V->Prop where
 | non:RepT H .non .non
 | bl {b:Bool}:RepT H (.bl b) (.bl b)
 | i {n:Int}:RepT H (.i n) (.int n)
 | s {x:Str}:x.length<=1000->RepT H (.s x) (.str x)
 | t {l:List Th} {a:Addr} {vs:List V}:H a=some (.tup vs)->l.length<=1000->RepTs H l vs->RepT H (.t l) (.ref a)
 | l {l:List Th} {a:Addr} {vs:List V}:H a=some (.lst vs)->l.length<=1000->RepTs H l vs->RepT H (.l l) (.ref a)
 | d {a:Addr}:H a=some (.dK [])->RepT H .d (.ref a)
inductive RepTs (H:Hp):List Th->List V->Prop where
 | nil:RepTs H [] []
 | cons {x:Th} {v:V} {r:List Th} {vs:List V}:RepT H x v->RepTs H r vs->RepTs H (x::r) (v::vs)
end
def SameH (H H':Hp):Prop:= ∀ b o,H b=some o->H' b=some o
theorem SameH.refl (H:Hp):SameH H H:=λ_ _ h=>h
theorem SameH.trans {a b c:Hp} (h:SameH a b) (k:SameH b c):SameH a c:=λx o e=>k x o (h x o e)
theorem a7 {H:Hp} {p:Addr} (h:H p=none) (o:HO):SameH H (upd H p o):=λb u e=>by rw [aj (al e h)];exact e
noncomputable def okO:HO->Prop
 | .tup _=>True
 | .lst _=>True
 | .dK _=>True
 | _=>False
def mS (H H':Hp):Prop:= ∀ b o,okO o->H b=some o->H' b=some o
theorem SameH.keep {H H':Hp} (s:SameH H H'):mS H H':=λb o _ h=>s b o h
mutual
theorem RepT.keep {H H':Hp} (s:mS H H') {x:Th} {v:V} (h:RepT H x v):RepT H' x v:=by
 cases h with
 | non=>exact .non
 | bl=>exact .bl
 | i=>exact .i
 | s e=>exact .s e
 | t h1 h2 h3=>exact .t (s _ _ trivial h1) h2 (RepTs.keep s h3)
 | l h1 h2 h3=>exact .l (s _ _ trivial h1) h2 (RepTs.keep s h3)
 | d h1=>exact .d (s _ _ trivial h1)
theorem RepTs.keep {H H':Hp} (s:mS H H') {x:List Th} {v:List V} (h:RepTs H x v):RepTs H' x v:=by
 cases h with
 | nil=>exact .nil
 | cons a b=>exact .cons (RepT.keep s a) (RepTs.keep s b)
end
theorem RepT.mono {H H':Hp} (s:SameH H H') {x:Th} {v:V} (h:RepT H x v):RepT H' x v:=h.keep s.keep
theorem RepTs.mono {H H':Hp} (s:SameH H H') {x:List Th} {v:List V} (h:RepTs H x v):RepTs H' x v:=h.keep s.keep
theorem RepTs.pr {H:Hp}: ∀ {l:List Th} {vs:List V},RepTs H l vs->Paired (RepT H) l vs
 | [],_,h=>by cases h;exact .nil
 | _::_,_,h=>by cases h with | cons a b=>exact .cons a b.pr
theorem RepTs.len {H:Hp} {l:List Th} {vs:List V} (h:RepTs H l vs):l.length=vs.length:=Ev h.pr
theorem RepTs.app {H:Hp} {l l':List Th} {vs ws:List V} (h:RepTs H l vs) (k:RepTs H l' ws):RepTs H (l++l') (vs++ws):=by
 induction l generalizing vs with
 | nil=>cases h;exact k
 | cons a r ih=>cases h with | cons x y=>exact .cons x (ih y)
theorem RepTs.get {H:Hp} {l:List Th} {vs:List V} (h:RepTs H l vs) {j:Nat} {x:Th} (e:l[j]? =some x): ∃ v,vs[j]? =some v/\RepT H x v:=by
 induction l generalizing vs j with
 | nil=>cases e
 | cons a r ih=>
  cases h with
  | cons p q=>
   cases j with
   | zero=>cases e;exact ⟨_,rfl,p⟩
   | succ j=>exact ih q e
theorem RepTs.at {H:Hp} {l:List Th} {vs:List V} (h:RepTs H l vs) {k:Int} {x:Th} (e:atI l k=some x): ∃ v,atI vs k=some v/\RepT H x v:=by
 unfold atI at e ⊢;rw [<- h.len];cases hi:ixN l.length k with
 | none=>rw [hi]at e;cases e
 | some j=>rw [hi]at e;exact h.get e
theorem RepTs.drop {H:Hp} (n:Nat): ∀ {l:List Th} {vs:List V},RepTs H l vs->RepTs H (l.drop n) (vs.drop n):=by
 induction n with
 | zero=>exact λh=>h
 | succ n ih=>
  intro l vs h;cases h with
  | nil=>exact .nil
  | cons _ b=>exact ih b
theorem RepTs.take {H:Hp} (n:Nat): ∀ {l:List Th} {vs:List V},RepTs H l vs->RepTs H (l.take n) (vs.take n):=by
 induction n with
 | zero=>exact λ_=>.nil
 | succ n ih=>
  intro l vs h;cases h with
  | nil=>exact .nil
  | cons a b=>exact .cons a (ih b)
theorem RepTs.rep {H:Hp} {x:Th} {v:V} (h:RepT H x v): ∀ n,RepTs H (List.replicate n x) (List.replicate n v)
 | 0=>.nil
 | n+1=>.cons h (RepTs.rep h n)
theorem RepTs.mem {H:Hp} {l:List Th} {vs:List V} (h:RepTs H l vs) {v:V} (hv:v∈vs): ∃ x,x∈l/\RepT H x v:=by
 induction l generalizing vs with
 | nil=>cases h;cases hv
 | cons a r ih=>
  cases h with
  | cons p q=>
   rcases DK.mp hv with e | e
   ·subst e;exact ⟨a,DW,p⟩
   ·obtain ⟨x,hx,r⟩:=ih q e;exact ⟨x,DZ _ hx,r⟩
noncomputable def iJ {α:Type} (xs:List α) (lo hi:Option Int):List α:=(xs.drop (HT.sIx xs.length 0 lo)).take (HT.sIx xs.length xs.length hi-HT.sIx xs.length 0 lo)
theorem RepTs.cut {H:Hp} {l:List Th} {vs:List V} (h:RepTs H l vs) (lo hi:Option Int):RepTs H (iJ l lo hi) (eQ vs lo hi):=by
 unfold iJ eQ;rw [h.len];exact (h.drop _).take _
theorem lA {α:Type} (xs:List α) (lo hi:Option Int):(iJ xs lo hi).length<=xs.length:=by
 unfold iJ;rw [DX,FA];lia
inductive EnR (H:Hp):List (Option Th)->St->Prop where
 | nil {σ:St}:EnR H [] σ
 | no {en:List (Option Th)} {o:Option V} {σ:St}:EnR H en σ->EnR H (none::en) (o::σ)
 | th {en:List (Option Th)} {x:Th} {v:V} {σ:St}:RepT H x v->EnR H en σ->EnR H (some x::en) (some v::σ)
theorem EnR.mono {H H':Hp} (s:SameH H H') {en:List (Option Th)} {σ:St} (h:EnR H en σ):EnR H' en σ:=by
 induction h with
 | nil=>exact .nil
 | no _ ih=>exact .no ih
 | th r _ ih=>exact .th (r.mono s) ih
theorem EnR.get {H:Hp} {en:List (Option Th)} {σ:St} (h:EnR H en σ): ∀ {j:Nat} {x:Th},en[j]? =some (some x)-> ∃ v,σ[j]? =some (some v)/\RepT H x v:=by
 induction h with
 | nil=>intro j x e;cases e
 | no _ ih=>
  intro j x e;cases j with
  | zero=>cases e
  | succ j=>exact ih e
 | th r _ ih=>
  intro j x e;cases j with
  | zero=>cases e;exact ⟨_,rfl,r⟩
  | succ j=>exact ih e
noncomputable def xV (x:Str):List Str->Option Nat
 | []=>none
 | y::r=>if y=x then some 0 else (xV x r).map (· +1)
theorem qa {x:Str}: ∀ {l:List Str} {j:Nat},xV x l=some j->l[j]? =some x
 | [],_,h=>by cases h
 | y::r,j,h=>by
  unfold xV at h;split at h
  ·rename_i e;cases h;rw [e];rfl
  ·cases hr:xV x r with
   | none=>rw [hr]at h;cases h
   | some k=>
    rw [hr]at h;cases h;show r[k]? =some x;exact qa hr
noncomputable def j0 (sc:Scope) (N:List Str):Bool:=N.all λx=>(sc.names.lookup x==some .local||sc.names.lookup x==some .cell||sc.names.lookup x==some .free)&& !(x==("__debug__":Str))&& !(x==("__classdict__":Str))
noncomputable def BH:Th->Th->Option Th
 | .i x,.i y=>some (.i (x+y))
 | .t x,.t y=>if x.length+y.length<=1000 then some (.t (x++y))else none
 | .l x,.l y=>if x.length+y.length<=1000 then some (.l (x++y))else none
 | _,_=>none
noncomputable def ixT:Th->Int->Option Th
 | .t x,k=>atI x k
 | .l x,k=>atI x k
 | _,_=>none
noncomputable def qk:Th->Option Int->Option Int->Option Th
 | .t x,lo,hi=>some (.t (iJ x lo hi))
 | .l x,lo,hi=>some (.l (iJ x lo hi))
 | _,_,_=>none
noncomputable def tm:Th->Option Th
 | .t x=>some (.l x)
 | .l x=>some (.l x)
 | _=>none
noncomputable def Bh:Th->Int->Option Th
 | .t [x],k=>if 2<=k/\k<=1000 then some (.t (List.replicate k.toNat x))else none
 | _,_=>none
noncomputable def evs (g:Expr->Option Th):List Expr->Option (List Th)
 | []=>some []
 | e::r=>match g e,evs g r with
  | some c,some l=>some (c::l)
  | _,_=>none
noncomputable def evP:Option Expr->Option (Option Int)
 | none=>some none
 | some (.Constant (.int i) _ _)=>some (some i)
 | some (.UnaryOp .USub (.Constant (.int i) _ _) _)=>some (some (-i))
 | _=>none
noncomputable def yB:Const->Option Th
 | .str x=>if x.length<=1000 then some (.s x)else none
 | .int i=>some (.i i)
 | .bool b=>some (.bl b)
 | .none=>some .non
 | _=>none
noncomputable def Cj:UnaryOp->Th->Option Th
 | .USub,.i k=>some (.i (-k))
 | _,_=>none
noncomputable def opT:Operator->Th->Th->Option Th
 | .Add,x,y=>BH x y
 | .Mult,x,.i k=>Bh x k
 | _,_,_=>none
noncomputable def kI:Expr->Option (Option Int×Option Int)
 | .Slice lo hi none _=>match evP lo,evP hi with
  | some l,some h=>some (l,h)
  | _,_=>none
 | _=>none
noncomputable def nS:Expr->Bool
 | .Constant _ _ _=>true
 | .Name _ _=>true
 | _=>false
noncomputable def ixI:Th->Th->Option Th
 | x,.i k=>ixT x k
 | _,_=>none
noncomputable def Az:Expr->Bool
 | .Name f _=>decide (f="list")
 | _=>false
noncomputable def yy:List (Option Expr)->List Expr->Option Th
 | [],[]=>some .d
 | _,_=>none
noncomputable def evE (w:Bool) (N:List Str) (en:List (Option Th)):Nat->Expr->Option Th
 | 0,_=>none
 | n+1,e=>match e with
  | .Constant c _ _=>yB c
  | .Name x _=>(xV x N).bind λj=>(en[j]?).join
  | .UnaryOp op a _=>(evE w N en n a).bind (Cj op)
  | .Tuple es _ _=>if es.length<=100 then (evs (evE w N en n) es).map .t else none
  | .List es _=>if es.length<=100 then (evs (evE w N en n) es).map .l else none
  | .BinOp a op b _=>(evE w N en n a).bind λx=>(evE w N en n b).bind λy=>opT op x y
  | .Subscript a i _=>(evE w N en n a).bind λx=>match kI i with
   | some (l,h)=>qk x l h
   | none=>if nS i=true then (evE w N en n i).bind λy=>ixI x y else none
  | .Call f as ks _=>if w=true/\Az f=true/\ks=[]then match as with
   | [a]=>(evE w N en n a).bind tm
   | _=>none else none
  | .Dict ks vs _=>yy ks vs
  | _=>none
noncomputable def B6:V->Option Int->Option Int->Hp->VK->Prop:=λx lo hi H Q=> ∃ a xs,x=.ref a/\H a=some (.tup xs)/\(eQ xs lo hi=xs->Q (.ref a) H)/\ ∀ p,H p=none->Q (.ref p) (upd H p (.tup (eQ xs lo hi)))
theorem yU {X:Cx}:SlR X B6:=by
 intro pins s σ H x v vl vu lo hi sl Q I rx hs pl pu h;obtain ⟨a,xs,ex,hx,q1,q2⟩:=h;by_cases hw:HT.sIx xs.length 0 lo=0/\HT.sIx xs.length xs.length hi=xs.length
 ·subst ex;cases rx;obtain ⟨its,r,ht,hz⟩:=I.tuple (SqT.of (K:=X.K) hx);have hl:=r.length;refine ⟨"tuple",_,PyProof.Rows.slot_tuple_getitem.lookup,ht.typeIs,HT.getItem_tuple_all ht hs pl pu (by rw [DL,<- hl];exact hw.1) (by rw [DL,<- hl];exact hw.2) ⟨.ref a,H,I,rfl,q1 ?_⟩⟩;unfold eQ;rw [hw.1,hw.2,List.drop_zero,Nat.sub_zero,EX]
 ·exact qL pins s σ H x v vl vu lo hi sl Q I rx hs pl pu ⟨a,xs,ex,SqT.of hx,hw,q2⟩
structure qr where
 φ:Hp->Hp
 ok:Hp->Prop
 sub: ∀ H,SameH (φ H) H
 mono: ∀ {H H':Hp},SameH H H'->SameH (φ H) (φ H')
 okm: ∀ {H H':Hp},SameH H H'->ok H->ok H'
 new: ∀ {H:Hp} {p:Addr} (o:HO),ok H->H p=none->φ (upd H p o) p=some o
noncomputable def BO:qr:=⟨λH=>H,λ_=>True,λ_ _ _ h=>h,λs=>s,λ_ _=>trivial,λ_ _ _=>ae⟩
noncomputable def fD (T:Addr) (H:Hp):Hp:=λa=>if a=T then none else H a
theorem tF {T a:Addr} {H:Hp} (h:a≠T):fD T H a=H a:=DU h
noncomputable def a5 (T:Addr):qr where
 φ:=fD T
 ok:=λH=>H T≠none
 sub:=λH b o h=>by
  unfold fD at h;split at h
  ·cases h
  ·exact h
 mono:=λs b o h=>by
  unfold fD at h ⊢;split at h
  ·cases h
  ·rename_i hb;rw [DU hb];exact s _ _ h
 okm:=λ{H H'} s h e=>by
  cases hh:H T with
  | none=>exact h hh
  | some o=>rw [s _ _ hh]at e;cases e
 new:=λ{H p} o hk hp=>by
  have hne:p≠T:=λe=>hk (by rw [<- e];exact hp);rw [tF hne,ae]
def tEv (V:qr) (w:Bool) (N:List Str) (n:Nat) (e:Expr):TE:=λσ H Q=> ∃ en x,V.ok H/\EnR (V.φ H) en σ/\evE w N en n e=some x/\ ∀ v H',SameH H H'->RepT (V.φ H') x v->Q v H'
def C1 (V:qr) (w:Bool) (N:List Str) (n:Nat) (es:List Expr):TA:=λσ H Q=> ∃ en l,V.ok H/\EnR (V.φ H) en σ/\evs (evE w N en n) es=some l/\ ∀ vs H',SameH H H'->RepTs (V.φ H') l vs->Q vs H'
theorem iI {w:Bool} {N:List Str} {en:List (Option Th)} {n:Nat} {e:Expr} {x:Th} (h:evE w N en n e=some x):n8 e=true:=by
 cases n with
 | zero=>cases h
 | succ n=>cases e <;> first | rfl | cases h
theorem AI {sc:Scope} {N:List Str} (h:j0 sc N=true) {x:Str} (hx:x∈N):Vis sc x/\(x==("__debug__":Str))=false/\(x==("__classdict__":Str))=false:=by
 have:=Ed.mp h x hx;simp only [Ek,Bool.or_eq_true,HA,Ij]at this;obtain ⟨⟨h1,h2⟩,h3⟩:=this;refine ⟨?_,h2,h3⟩;rcases h1 with (h1 | h1) | h1
 ·exact .inl h1
 ·exact .inr (.inl h1)
 ·exact .inr (.inr h1)
theorem a6 {n:Nat} (h:n<=1000):n<=sizeLine:=Eh h (by decide)
theorem bind_some {α β:Type} {o:Option α} {f:α->Option β} {y:β} (h:o.bind f=some y): ∃ x,o=some x/\f x=some y:=by
 cases o with
 | none=>cases h
 | some x=>exact ⟨x,rfl,h⟩
theorem ou {g:Expr->Option Th}: ∀ {es:List Expr} {l:List Th},evs g es=some l->l.length=es.length
 | [],l,h=>by cases h;rfl
 | e::r,l,h=>by
  unfold evs at h;split at h
  ·rename_i c l' h1 h2;cases h;rw [DJ,DJ,ou h2]
  ·cases h
theorem nR {X:Cx} {o:Option Expr} {l:Option Int} (h:evP o=some l):PO X o λ_ H Q=>Q l H:=by
 unfold evP at h;split at h
 ·cases h;exact λpins s σ H Q I q=>cg pins s σ H Q I q
 ·cases h;exact λpins s σ H Q I q=>bI ag pins s σ H Q I ⟨_,rfl,q⟩
 ·cases h;exact λpins s σ H Q I q=>bI (gN eE ag) pins s σ H Q I ⟨_,rfl,_,rfl,q⟩
 ·cases h
theorem be {X:Cx} (V:qr) {w:Bool} {N:List Str} (hN:X.N=N) (hv:j0 X.env.scope N=true) (hl:w=true->Gl X "list"/\X.mg "list"=none): ∀ (n:Nat) {e:Expr},PE X e (tEv V w N n e)
 | 0,_=>λ_ _ _ _ _ _ ⟨_,_,_,_,h,_⟩=>by cases h
 | n+1,e=>by
  have hs: ∀ {es:List Expr},PA X es (C1 V w N n es):=by
   intro es;induction es with
   | nil=>
    intro pos pins s σ H Q I ⟨en,l,hok,hE,h,q⟩;cases h;exact ac pos pins s σ H Q I (q [] H (SameH.refl H) .nil)
   | cons e r ih=>
    intro pos pins s σ H Q I ⟨en,l,hok,hE,h,q⟩;unfold evs at h;split at h
    ·rename_i c l' h1 h2;cases h;exact pac (be V hN hv hl n) ih (iI h1) pos pins s σ H Q I ⟨en,c,hok,hE,h1,λv H1 s1 r1=>⟨en,l',V.okm s1 hok,hE.mono (V.mono s1),h2,λvs H2 s2 r2=>q (v::vs) H2 (s1.trans s2) (.cons (r1.mono (V.mono s2)) r2)⟩⟩
    ·cases h
  intro pins s σ H Q I ⟨en,x,hok,hE,h,q⟩;cases e with
  | Constant c k2 p2=>
   have h:yB c=some x:=h;cases c with
   | str z=>
    have h:(if z.length<=1000 then some (Th.s z)else none)=some x:=h;split at h
    ·rename_i hx;cases h;exact aV pins s σ H Q I (q _ H (SameH.refl H) (.s hx))
    ·cases h
   | int i=>cases h;exact ag pins s σ H Q I (q _ H (SameH.refl H) .i)
   | bool b=>cases h;exact cx pins s σ H Q I (q _ H (SameH.refl H) .bl)
   | none=>cases h;exact eL pins s σ H Q I (q _ H (SameH.refl H) .non)
   | _=>cases h
  | Name y p2=>
   obtain ⟨j,hj,h⟩:=bind_some h;have hx:=qa hj;obtain ⟨v1,v2,v3⟩:=AI hv (DC hx);have he:en[j]? =some (some x):=by
    cases hq:en[j]? with
    | none=>rw [hq]at h;cases h
    | some o=>rw [hq]at h;rw [show o=some x from h]
   obtain ⟨v,e1,r1⟩:=hE.get he;exact wY (by rw [hN];exact hx) v1 v2 v3 pins s σ H Q I ⟨v,e1,q v H (SameH.refl H) r1⟩
  | UnaryOp op a p2=>
   obtain ⟨y,h1,h⟩:=bind_some h;unfold Cj at h;split at h
   ·cases h;exact gN eE (be V hN hv hl n) pins s σ H Q I ⟨en,_,hok,hE,h1,λv H1 s1 r1=>by cases r1;exact ⟨_,rfl,q _ H1 s1 .i⟩⟩
   ·cases h
  | Tuple es k2 p2=>
   have h:(if es.length<=100 then (evs (evE w N en n) es).map Th.t else none)=some x:=h;split at h
   ·rename_i h100;cases hl':evs (evE w N en n) es with
    | none=>rw [hl']at h;cases h
    | some l=>
     rw [hl']at h;cases h;refine aU hs pins s σ H Q I ⟨en,l,hok,hE,hl',λvs H1 s1 r1=>?_⟩;have h1:=ou hl';have h2:=r1.len;exact ⟨a6 (by lia),λp hp=>q (.ref p) _ (s1.trans (a7 hp _)) (.t (V.new _ (V.okm s1 hok) hp) (by lia) (r1.mono (V.mono (a7 hp _))))⟩
   ·cases h
  | List es p2=>
   have h:(if es.length<=100 then (evs (evE w N en n) es).map Th.l else none)=some x:=h;split at h
   ·rename_i h100;cases hl':evs (evE w N en n) es with
    | none=>rw [hl']at h;cases h
    | some l=>
     rw [hl']at h;cases h;refine bh hs pins s σ H Q I ⟨en,l,hok,hE,hl',λvs H1 s1 r1=>?_⟩;have h1:=ou hl';have h2:=r1.len;exact ⟨a6 (by lia),λp hp=>q (.ref p) _ (s1.trans (a7 hp _)) (.l (V.new _ (V.okm s1 hok) hp) (by lia) (r1.mono (V.mono (a7 hp _))))⟩
   ·cases h
  | BinOp a op b p2=>
   obtain ⟨x1,x2,h1,h2,h⟩: ∃ x1 x2,evE w N en n a=some x1/\evE w N en n b=some x2/\opT op x1 x2=some x:=by
    obtain ⟨x1,h1,h⟩:=bind_some h;obtain ⟨x2,h2,h⟩:=bind_some h;exact ⟨x1,x2,h1,h2,h⟩
   have pa:=be V hN hv hl n (e:=a);have pb:=be V hN hv hl n (e:=b)
   (cases op <;> try (cases h;done))
   ·replace h:BH x1 x2=some x:=h
    (cases x1 <;> cases x2 <;> try (simp [BH]at h;done))
    ·rename_i i1 i2;cases h;exact aF bn pa pb pins s σ H Q I ⟨en,_,hok,hE,h1,λv H1 s1 r1=>⟨en,_,V.okm s1 hok,hE.mono (V.mono s1),h2,λu H2 s2 r2=>by
      cases r1;cases r2;exact ⟨_,_,rfl,rfl,q _ H2 (s1.trans s2) .i⟩⟩⟩
    ·rename_i l1 l2;have h:(if l1.length+l2.length<=1000 then some (Th.t (l1++l2))else none)=some x:=h;split at h
     ·rename_i hle;cases h;refine aF (r:=iE X.K) fA pa pb pins s σ H Q I ⟨en,_,hok,hE,h1,λv H1 s1 r1=>⟨en,_,V.okm s1 hok,hE.mono (V.mono s1),h2,λu H2 s2 r2=>?_⟩⟩;have r1:=r1.mono (V.mono s2);cases r1 with
      | t e1 b1 t1=>
       cases r2 with
       | t e2 b2 t2=>
        have n1:=t1.len;have n2:=t2.len;refine ⟨_,_,_,_,rfl,rfl,SqT.of (V.sub _ _ _ e1),SqT.of (V.sub _ _ _ e2),a6 (by lia),λz=>?_,λ_ z=>?_,λ_ _ p hp=>?_⟩
        ·subst z;cases t1;exact q _ H2 (s1.trans s2) (.t e2 b2 t2)
        ·subst z;cases t2;rw [En]at q;exact q _ H2 (s1.trans s2) (.t e1 b1 t1)
        ·exact q _ _ ((s1.trans s2).trans (a7 hp _)) (.t (V.new _ (V.okm (s1.trans s2) hok) hp) (by rw [DA];lia) ((t1.app t2).mono (V.mono (a7 hp _))))
     ·cases h
    ·rename_i l1 l2;have h:(if l1.length+l2.length<=1000 then some (Th.l (l1++l2))else none)=some x:=h;split at h
     ·rename_i hle;cases h;refine aF gP pa pb pins s σ H Q I ⟨en,_,hok,hE,h1,λv H1 s1 r1=>⟨en,_,V.okm s1 hok,hE.mono (V.mono s1),h2,λu H2 s2 r2=>?_⟩⟩;have r1:=r1.mono (V.mono s2);cases r1 with
      | l e1 b1 t1=>
       cases r2 with
       | l e2 b2 t2=>
        have n1:=t1.len;have n2:=t2.len;exact ⟨_,_,_,_,rfl,rfl,V.sub _ _ _ e1,V.sub _ _ _ e2,a6 (by lia),λp hp=>q _ _ ((s1.trans s2).trans (a7 hp _)) (.l (V.new _ (V.okm (s1.trans s2) hok) hp) (by rw [DA];lia) ((t1.app t2).mono (V.mono (a7 hp _))))⟩
     ·cases h
   ·obtain ⟨k,y,rfl,rfl,hk1,hk2,hx⟩: ∃ k y,x1=.t [y]/\x2=.i k/\2<=k/\k<=1000/\x=.t (List.replicate k.toNat y):=by
     (cases x2 <;> try (cases h;done))
     rename_i k;have h:Bh x1 k=some x:=h;unfold Bh at h;split at h
     ·split at h
      ·rename_i hk;cases h;exact ⟨_,_,rfl,rfl,hk.1,hk.2,rfl⟩
      ·cases h
     ·cases h
    subst hx;refine aF zp pa pb pins s σ H Q I ⟨en,_,hok,hE,h1,λv H1 s1 r1=>⟨en,_,V.okm s1 hok,hE.mono (V.mono s1),h2,λu H2 s2 r2=>?_⟩⟩;have r1:=r1.mono (V.mono s2);cases r2;cases r1 with
    | t e1 b1 t1=>
     cases t1 with
     | cons ry t0=>
      cases t0;refine ⟨_,_,k,rfl,rfl,SqT.of (V.sub _ _ _ e1),hk1,hk2,λp hp=>q _ _ ((s1.trans s2).trans (a7 hp _)) (.t (V.new _ (V.okm (s1.trans s2) hok) hp) (by rw [FP];lia) (RepTs.rep (ry.mono (V.mono (a7 hp _))) _))⟩
  | Subscript a i p2=>
   obtain ⟨x1,h1,h⟩:=bind_some h;have pa:=be V hN hv hl n (e:=a);cases hsl:kI i with
   | some lh=>
    obtain ⟨l1,l2⟩:=lh;have h:(match kI i with | some (l,h)=>qk x1 l h | none=>if nS i=true then (evE w N en n i).bind λy=>ixI x1 y else none)=some x:=h;rw [hsl]at h;have h:qk x1 l1 l2=some x:=h;obtain ⟨lo,hi,p3,rfl,h2,h3⟩: ∃ lo hi p3,i=.Slice lo hi none p3/\evP lo=some l1/\evP hi=some l2:=by
     unfold kI at hsl;split at hsl
     ·split at hsl
      ·rename_i e1 e2;cases hsl;exact ⟨_,_,_,rfl,e1,e2⟩
      ·cases hsl
     ·cases hsl
    (cases x1 <;> try (simp [qk]at h;done))
    ·cases h;refine bw (r:=B6) yU pa (nR h2) (nR h3) pins s σ H Q I ⟨en,_,hok,hE,h1,λv H1 s1 r1=>?_⟩;cases r1 with
     | t e1 b1 t1=>
      have t2:=t1.cut l1 l2;exact ⟨_,_,rfl,V.sub _ _ _ e1,λz=>q _ H1 s1 (.t e1 (Eh (lA _ _ _) b1) (by rw [z]at t2;exact t2)),λp hp=>q _ _ (s1.trans (a7 hp _)) (.t (V.new _ (V.okm s1 hok) hp) (Eh (lA _ _ _) b1) (t2.mono (V.mono (a7 hp _))))⟩
    ·cases h;refine bw (r:=A8 X.K) dC pa (nR h2) (nR h3) pins s σ H Q I ⟨en,_,hok,hE,h1,λv H1 s1 r1=>?_⟩;cases r1 with
     | l e1 b1 t1=>exact ⟨_,_,rfl,SqL.of (V.sub _ _ _ e1),λp hp=>q _ _ (s1.trans (a7 hp _)) (.l (V.new _ (V.okm s1 hok) hp) (Eh (lA _ _ _) b1) ((t1.cut l1 l2).mono (V.mono (a7 hp _))))⟩
   | none=>
    have h:(match kI i with | some (l,h)=>qk x1 l h | none=>if nS i=true then (evE w N en n i).bind λy=>ixI x1 y else none)=some x:=h;rw [hsl]at h;have h:(if nS i=true then (evE w N en n i).bind λy=>ixI x1 y else none)=some x:=h;split at h
    ·rename_i hpl;obtain ⟨x2,h2,h⟩:=bind_some h;have hp:tW i:=by cases i <;> first | exact λ_ _=>rfl | cases hpl
     obtain ⟨k,rfl,h⟩: ∃ k,x2=.i k/\ixT x1 k=some x:=by
      (cases x2 <;> try (cases h;done))
      exact ⟨_,rfl,h⟩
     have pb:=be V hN hv hl n (e:=i)
     (cases x1 <;> try (cases h;done))
     ·refine ax (r:=bc X.K) aH pa pb hp pins s σ H Q I ⟨en,_,hok,hE,h1,λv H1 s1 r1=>⟨en,_,V.okm s1 hok,hE.mono (V.mono s1),h2,λu H2 s2 r2=>?_⟩⟩;have r1:=r1.mono (V.mono s2);cases r2;cases r1 with
      | t e1 b1 t1=>
       obtain ⟨u,e2,r2⟩:=t1.at h;exact ⟨_,_,_,u,rfl,rfl,SqT.of (V.sub _ _ _ e1),e2,q u H2 (s1.trans s2) r2⟩
     ·refine ax (r:=bO X.K) aL pa pb hp pins s σ H Q I ⟨en,_,hok,hE,h1,λv H1 s1 r1=>⟨en,_,V.okm s1 hok,hE.mono (V.mono s1),h2,λu H2 s2 r2=>?_⟩⟩;have r1:=r1.mono (V.mono s2);cases r2;cases r1 with
      | l e1 b1 t1=>
       obtain ⟨u,e2,r2⟩:=t1.at h;exact ⟨_,_,_,u,rfl,rfl,SqL.of (V.sub _ _ _ e1),e2,q u H2 (s1.trans s2) r2⟩
    ·cases h
  | Call f as ks p2=>
   replace h:(if w=true/\Az f=true/\ks=[]then (match as with | [a]=>(evE w N en n a).bind tm | _=>none)else none)=some x:=h;split at h
   ·rename_i hf;obtain ⟨hw,hf,rfl⟩:=hf;obtain ⟨p3,rfl⟩: ∃ p3,f=.Name "list" p3:=by
     cases f <;> first | (rename_i f p3;exact ⟨p3,by rw [DT hf]⟩) | cases hf
    obtain ⟨hg,hm⟩:=hl hw;obtain ⟨a,rfl,h⟩: ∃ a,as=[a]/\(evE w N en n a).bind tm=some x:=by
     split at h
     ·exact ⟨_,rfl,h⟩
     ·cases h
    ·obtain ⟨x1,h1,h⟩:=bind_some h;have pa:=be V hN hv hl n (e:=a);refine (bz jq hg hm (by decide +kernel) (pac pa ac (iI h1)) (he:=iy (iI h1))) pins s σ H Q I ⟨en,_,hok,hE,h1,λv H1 s1 r1=>?_⟩
     (cases x1 <;> try (simp [tm]at h;done))
     ·cases h;cases r1 with
      | t e1 b1 t1=>exact ⟨_,_,rfl,.inr (SqT.of (V.sub _ _ _ e1)),λp hp=>q _ _ (s1.trans (a7 hp _)) (.l (V.new _ (V.okm s1 hok) hp) b1 (t1.mono (V.mono (a7 hp _))))⟩
     ·cases h;cases r1 with
      | l e1 b1 t1=>exact ⟨_,_,rfl,.inl (SqL.of (V.sub _ _ _ e1)),λp hp=>q _ _ (s1.trans (a7 hp _)) (.l (V.new _ (V.okm s1 hok) hp) b1 (t1.mono (V.mono (a7 hp _))))⟩
   ·cases h
  | Dict ks vs p2=>
   replace h:yy ks vs=some x:=h;unfold yy at h;split at h
   ·cases h;exact jb pins s σ H Q I λp hp=>q (.ref p) _ (a7 hp _) (.d (V.new _ hok hp))
   ·cases h
  | _=>cases h
structure EqR {α:Type} [DecidableEq α] (A:Around) (s:Shared) (R:α->Value->Prop):Prop where
 eq: ∀ a b v u,R a v->R b u->SeqAt.EqAt A s v u (decide (a=b))
 inj: ∀ a b v,R a v->R b v->a=b
def Ar {α:Type} (s:Shared) (R:α->Value->Prop) (xs:List α) (v:Value):Prop:= ∃ a its,v=Value.ref a/\s.heap.IsTuple a its/\Paired R xs its.toList
theorem kS {α β:Type} {R:α->β->Prop} (h: ∀ a b v,R a v->R b v->a=b): ∀ {xs ys:List α} {vs:List β},Paired R xs vs->Paired R ys vs->xs=ys
 | _,_,_,.nil,.nil=>rfl
 | _,_,_,.cons a t,.cons b u=>by rw [h _ _ _ a b,kS h t u]
theorem dl {α β:Type} {R:α->β->Prop}: ∀ {xs:List α} {vs:List β},Paired R xs vs-> ∀ j (h:j<vs.length),∃ a,xs[j]? =some a/\R a vs[j]
 | _,_,.nil,j,h=>absurd h (IG _)
 | _,_,.cons a t,0,h=>⟨_,rfl,a⟩
 | _,_,.cons a t,j+1,h=>dl t j (Nat.lt_of_succ_lt_succ h)
theorem tU {α:Type} [DecidableEq α] {xs ys:List α} (h:xs.length=ys.length):(List.range xs.length).all (λj=>decide (xs[j]? =ys[j]?))=decide (xs=ys):=by
 by_cases e:xs=ys
 ·rw [DB e];exact Ed.mpr λj _=>DB (by rw [e])
 ·rw [DG e];rw [EK];intro hall;refine e (Gq λj=>?_);by_cases hj:j<xs.length
  ·exact DT (Ed.mp hall j (E5.mpr hj))
  ·rw [ER (by lia),ER (by lia)]
theorem Ah {α:Type} [DecidableEq α] {A:Around} {s:Shared} {R:α->Value->Prop} (h:EqR A.in1 s R) (hu:A.units<cLine):EqR A s (Ar s R):=by
 have inj: ∀ a b v,Ar s R a v->Ar s R b v->a=b:=by
  rintro xs ys _ ⟨a,its,rfl,⟨o,h1,h2,n,h3⟩,p⟩ ⟨b,its2,e,⟨o',h1',h2',n',h3'⟩,p'⟩;cases e;rw [h1]at h1';cases h1';rw [h3]at h3';cases h3';exact kS h.inj p p'
 refine ⟨?_,inj⟩;rintro xs ys v u hx hy;have hx':=hx;have hy':=hy;obtain ⟨a,its,rfl,ht,p⟩:=hx;obtain ⟨b,its2,rfl,ht2,p2⟩:=hy;by_cases hab:a=b
 ·subst hab;rw [DB (inj _ _ _ hx' hy')];exact SeqAt.EqAt.same _
 have l1:xs.length=its.size:=Ev p;have l2:ys.length=its2.size:=Ev p2;have:=SeqAt.RcAt.tuples (A:=A) (e:=λj=>decide (xs[j]? =ys[j]?)) ht ht2 hu (λj h1 h2=>by
  obtain ⟨x,ex,rx⟩:=dl p j (by simpa using h1);obtain ⟨y,ey,ry⟩:=dl p2 j (by simpa using h2);have:=h.eq x y _ _ rx ry;rw [ex,ey,show decide (some x=some y)=decide (x=y) by by_cases e:x=y <;> simp [e]];simpa using this)
 rw [show ((List.range (min its.size its2.size)).all (λj=>decide (xs[j]? =ys[j]?))&&its.size==its2.size)=decide (xs=ys) by
  by_cases e:its.size=its2.size
  ·rw [e,Nat.min_self,<- l2,<- tU (by lia),l1,e,<- l2];simp
  ·rw [show (its.size==its2.size)=false by simp [e],DE,DG (λz=>e (by rw [<- l1,<- l2,z]))]]at this
 exact SeqAt.EqAt.of_refs hab this
theorem ze {α:Type} [DecidableEq α] {A:Around} {s:Shared} {R:α->Value->Prop} (h:EqR A.in1 s R) (hu:A.units<cLine) {a b:Addr} {its its2:Array Value} {xs ys:List α} (ht:s.heap.IsList a its) (ht2:s.heap.IsList b its2) (p:Paired R xs its.toList) (p2:Paired R ys its2.toList):
  SeqAt.RcAt A s (.ref a) (.ref b) (decide (xs=ys)):=by
 have l1:xs.length=its.size:=Ev p;have l2:ys.length=its2.size:=Ev p2;by_cases e:its.size=its2.size
 ·have:=SeqAt.RcAt.lists (A:=A) (e:=λj=>decide (xs[j]? =ys[j]?)) ht ht2 e hu (λj h1 h2=>by
   obtain ⟨x,ex,rx⟩:=dl p j (by simpa using h1);obtain ⟨y,ey,ry⟩:=dl p2 j (by simpa using h2);have:=h.eq x y _ _ rx ry;rw [ex,ey,show decide (some x=some y)=decide (x=y) by by_cases e:x=y <;> simp [e]];simpa using this)
  rw [<- l1,tU (by lia)]at this;exact this
 ·rw [DG (λz=>e (by rw [<- l1,<- l2,z]))];exact SeqAt.RcAt.lists_lengths ht ht2 (by simpa using e) hu
noncomputable def RKy:Key->Value->Prop
 | .inl i,v=> ∃ t,v=Value.int i t
 | .inr x,v=> ∃ t,v=Value.str x t
theorem BB {A:Around} {s:Shared}:EqR A s RKy:=by
 refine ⟨?_,?_⟩
 ·rintro (a | a) (b | b) v u ⟨t,rfl⟩ ⟨t2,rfl⟩
  ·have:=SeqAt.EqAt.int_int (A:=A) (s:=s) a t b t2;rw [show (a==b)=decide ((Sum.inl a:Key)=.inl b) by by_cases h:a=b <;> simp [h]]at this;exact this
  ·rw [DG (by simp)];exact HU _ _ _ _
  ·rw [DG (by simp)];exact HV _ _ _ _
  ·have:=SeqAt.EqAt.str_str (A:=A) (s:=s) a t b t2;rw [show (a==b)=decide ((Sum.inr a:Key)=.inr b) by by_cases h:a=b <;> simp [h]]at this;exact this
 ·rintro (a | a) (b | b) v ⟨t,rfl⟩ ⟨t2,e⟩ <;> cases e <;> rfl
theorem xQ: ∀ {ks:List Key} {its:List Value},Vals (ks.map kV) its->Paired RKy ks its
 | [],_,h=>by cases h;exact .nil
 | k::r,_,h=>by
  cases h with
  | cons a b=>
   refine .cons ?_ (xQ b);cases k <;> exact a
theorem oi {X:Cx} {pins:List (Addr×Obj)} {σ:St} {H:Hp} {s:Shared} (I:Inv X pins σ H s): ∀ {xs:List V} {kss:List (List Key)} {its:List Value},KsOf H xs kss->Vals xs its->Paired (Ar s RKy) kss its
 | [],_,_,h,v=>by cases h;cases v;exact .nil
 | x::r,_,_,h,v=>by
  cases h with
  | cons a t=>
   cases v with
   | cons rv vt=>
    refine .cons ?_ (oi I t vt);obtain ⟨b,rfl,hb⟩:=a;cases rv;obtain ⟨its',r',p',_⟩:=I.tuple (SqT.of (K:=X.K) hb);exact ⟨b,its'.toArray,rfl,p',by rw [HJ];exact xQ r'⟩
theorem zw {X:Cx} (hu:X.A.units+2<cLine):OpR X (compareOp .Eq) (λx y H Q=> ∃ a b xs ys ks ls,x=.ref a/\y=.ref b/\H a=some (.lst xs)/\H b=some (.lst ys)/\KsOf H xs ks/\KsOf H ys ls/\Q (.bl (decide (ks=ls))) H):=by
 intro pins s σ H x y v u Q I rx ry h;obtain ⟨a,b,xs,ys,ks,ls,rfl,rfl,ha,hb,h1,h2,q⟩:=h;cases rx;cases ry;obtain ⟨its,r,p,_⟩:=I.seqS (c:=false) ha;obtain ⟨its2,r2,p2,_⟩:=I.seqS (c:=false) hb;have hu1:X.A.in1.units<cLine:=by show X.A.units+1<cLine;lia
 have:=ze (A:=X.A) (Ah (A:=X.A.in1) BB hu1) (by lia) p p2 (by rw [HJ];exact oi I h1 r) (by rw [HJ];exact oi I h2 r2);exact this X.prog X.w X.xe _ ⟨.bl _,H,I,rfl,q⟩
section
variable {X:Cx}
theorem sX (hu:X.A.units<cLine):OpR X (compareOp .NotEq) (λx y H Q=> ∃ a b xs,x=.ref a/\y=.ref b/\SqT X.K H a xs/\SqT X.K H b []/\Q (.bl (!xs.isEmpty)) H):=by
 intro pins s σ H x y v u Q I rx ry h;obtain ⟨a,b,xs,rfl,rfl,ha,hb,q⟩:=h;cases rx;cases ry;obtain ⟨its,r,p,_⟩:=I.tuple ha;obtain ⟨its2,r2,p2,_⟩:=I.tuple hb;cases r2;refine SeqAt.RcNeAt.tuples (e:=λ_=>true) p p2 hu (λj _ h2=>absurd h2 (IG _)) X.prog X.w X.xe _ ⟨.bl (!xs.isEmpty),H,I,?_,q⟩;cases r with
 | nil=>rfl
 | cons r1 t=>simp;rfl
theorem zq (hu:X.A.units<cLine):OpR X (compareOp .Eq) (λx y H Q=> ∃ a b xs,x=.ref a/\y=.ref b/\SqL X.K H a xs/\SqL X.K H b []/\Q (.bl xs.isEmpty) H):=by
 intro pins s σ H x y v u Q I rx ry h;obtain ⟨a,b,xs,rfl,rfl,ha,hb,q⟩:=h;cases rx;cases ry;obtain ⟨its,r,pl,_⟩:=I.list ha;obtain ⟨its2,r2,pl2,_⟩:=I.list hb;cases r2;cases r with
 | nil=>exact SeqAt.eq_listAt (e:=λ_=>true) pl.isList pl2.isList rfl hu (λj h1 _=>absurd h1 (IG _)) ⟨.bl _,H,I,rfl,q⟩
 | cons r1 t=>exact SeqAt.eq_list_lengthsAt pl.isList pl2.isList (by simp) hu ⟨.bl _,H,I,rfl,q⟩
end
end L2
namespace My
open PySem L2
variable {P:Program} {w:World} {K:W.Frag} {mg:Str->Option Value} {base:Heap} {C CB D0 D1 D10 D11 D12 D13 D14 D15 D16 D2 D3 D4 D5 D6 D7 D8 D9 aD aR f f10 f2 f3 f4 f5 f6 f7 f8 f9 g:Addr} {fd fd10 fd2 fd3 fd4 fd5 fd6 fd7 fd8 fd9 gd:FuncData}
noncomputable def iH (c:Nat):Bool:=decide (97<=c/\c<=122)
noncomputable def aY (x:Str):Bool:=decide (1<=x.length)&&decide (x.length<=8)&&x.cps.toList.all iH
def ops:List Str:=["plus","less","times","least","most"]
inductive Fm where
 | num (n:Int)
 | own (x:Str)
 | part (k:Int) (x:Str)
 | bin (op:Str) (a b:Fm)
 | whn (a b c:Fm)
noncomputable def Fm.size:Fm->Nat
 | .num _=>1
 | .own _=>1
 | .part _ _=>1
 | .bin _ a b=>a.size+b.size+1
 | .whn a b c=>a.size+b.size+c.size+1
noncomputable def Fm.wf:Fm->Prop
 | .num n=> -999999<=n/\n<=999999
 | .own x=>aY x=true
 | .part k x=>(0<=k/\k<=2)/\aY x=true
 | .bin op a b=>op∈ops/\a.wf/\b.wf
 | .whn a b c=>a.wf/\b.wf/\c.wf
theorem Fm.size_pos: ∀ f:Fm,1<=f.size
 | .num _=>DI 1
 | .own _=>DI 1
 | .part _ _=>DI 1
 | .bin _ a b=>by show 1<=a.size+b.size+1;lia
 | .whn a b c=>by show 1<=a.size+b.size+c.size+1;lia
noncomputable def Rep (H:Hp):Fm->V->Prop
 | .num n,v=> ∃ a,v=.ref a/\H a=some (.tup [.str "num",.int n])
 | .own x,v=> ∃ a,v=.ref a/\H a=some (.tup [.str "own",.str x])
 | .part k x,v=> ∃ a,v=.ref a/\H a=some (.tup [.str "part",.int k,.str x])
 | .bin op A B,v=> ∃ a u w,v=.ref a/\H a=some (.tup [.str op,u,w])/\Rep H A u/\Rep H B w
 | .whn A B C,v=> ∃ a u w z,v=.ref a/\H a=some (.tup [.str "when",u,w,z])/\Rep H A u/\Rep H B w/\Rep H C z
def TK (H H':Hp):Prop:= ∀ a xs,H a=some (.tup xs)->H' a=some (.tup xs)
theorem TK.trans {H H1 H2:Hp} (a:TK H H1) (b:TK H1 H2):TK H H2:=λc o h=>b c o (a c o h)
theorem TK.upd {H:Hp} {p:Addr} {o:HO} (h: ∀ xs,H p≠some (.tup xs)):TK H (upd H p o):=λa xs e=>by
 by_cases q:a=p
 ·subst q;exact absurd e (h xs)
 ·rw [aj q];exact e
theorem TK.lst {H:Hp} {p:Addr} {o:HO} {ys:List V} (h:H p=some (.lst ys)):TK H (L2.upd H p o):=TK.upd λxs e=>by rw [h]at e;cases e
theorem TK.new {H:Hp} {p:Addr} {o:HO} (h:H p=none):TK H (L2.upd H p o):=TK.upd λxs e=>by rw [h]at e;cases e
theorem Rep.mono {H H':Hp} (t:TK H H'): ∀ {f:Fm} {v:V},Rep H f v->Rep H' f v
 | .num _,_,⟨a,e,h⟩=>⟨a,e,t _ _ h⟩
 | .own _,_,⟨a,e,h⟩=>⟨a,e,t _ _ h⟩
 | .part _ _,_,⟨a,e,h⟩=>⟨a,e,t _ _ h⟩
 | .bin _ _ _,_,⟨a,u,w,e,h,r1,r2⟩=>⟨a,u,w,e,t _ _ h,Rep.mono t r1,Rep.mono t r2⟩
 | .whn _ _ _,_,⟨a,u,w,z,e,h,r1,r2,r3⟩=>⟨a,u,w,z,e,t _ _ h,Rep.mono t r1,Rep.mono t r2,Rep.mono t r3⟩
noncomputable def isV (T:String) (H:Hp) (v:V):Bool:=match v with
 | .bl _=>T=="bool"||T=="int"
 | .int _=>T=="int"
 | .str _=>T=="str"
 | .ref a=>(match H a with | some (.lst _)=>T=="list" | some (.tup _)=>T=="tuple" | some (.dK _)=>T=="dict" | _=>false)
 | _=>false
noncomputable def Sh (H:Hp):V->Prop
 | .non=>True
 | .bl _=>True
 | .int _=>True
 | .str x=>x.length<=1000
 | .ref a=>(∃ xs,H a=some (.lst xs))\/(∃ xs,H a=some (.tup xs))\/ ∃ kvs,H a=some (.dK kvs)
 | _=>False
section
variable {X:Cx}
theorem zT (K:W.Frag) (t T:String) (ht:t∈["NoneType","bool","int","str","list","tuple","dict"]) (hT:T∈["bool","int","str","list","tuple","dict"]):
  W.kitOne K (.type t) (.type T)=some (t==T||(t=="bool"&&T=="int")):=by
 simp only [DK,Eb,EQ]at ht hT;rcases ht with rfl | rfl | rfl | rfl | rfl | rfl | rfl <;> rcases hT with rfl | rfl | rfl | rfl | rfl | rfl <;> first | rfl | (with_unfolding_all rfl) | (with_unfolding_all decide)
theorem cS:dU X (.builtin "isinstance") (λxs H Q=> ∃ x T,xs=[x,.ty T]/\Sh H x/\T∈["bool","int","str","list","tuple","dict"]/\Q (.bl (isV T H x)) H):=by
 intro pins s σ H xs us Q I r h;obtain ⟨x,T,rfl,hs,hT,q⟩:=h;have go: ∀ t,jt X.K H x (.type t)->t∈["NoneType","bool","int","str","list","tuple","dict"]->isV T H x=(t==T||(t=="bool"&&T=="int"))->wpAny (model X.prog X.w) X.A (call (.builtin "isinstance") us) (EP X pins σ Q) X.xe s:=by
  intro t ty ht e;refine yD pins s σ H _ us Q I r ⟨x,T,.type t,_,rfl,ty,zT X.K t T ht hT,?_⟩;rw [<- e];exact q
 have hTT:=hT;simp only [DK,Eb,EQ]at hTT;cases x with
 | non=>exact go _ .non (by simp) (by rcases hTT with rfl | rfl | rfl | rfl | rfl | rfl <;> rfl)
 | bl b=>exact go _ (.bl b) (by simp) (by rcases hTT with rfl | rfl | rfl | rfl | rfl | rfl <;> rfl)
 | int i=>exact go _ (.int i) (by simp) (by rcases hTT with rfl | rfl | rfl | rfl | rfl | rfl <;> rfl)
 | str z=>exact go _ (.str z) (by simp) (by rcases hTT with rfl | rfl | rfl | rfl | rfl | rfl <;> rfl)
 | ref a=>
  rcases hs with ⟨ys,e⟩ | ⟨ys,e⟩ | ⟨ys,e⟩
  ·exact go _ (.lst e) (by simp) (by simp only [isV,e];rcases hTT with rfl | rfl | rfl | rfl | rfl | rfl <;> rfl)
  ·exact go _ (.tup e) (by simp) (by simp only [isV,e];rcases hTT with rfl | rfl | rfl | rfl | rfl | rfl <;> rfl)
  ·exact go _ (.dK e) (by simp) (by simp only [isV,e];rcases hTT with rfl | rfl | rfl | rfl | rfl | rfl <;> rfl)
 | byt _=>exact hs.elim
 | flt _=>exact hs.elim
 | ty _=>exact hs.elim
end
def top (i:Nat):Stmt:=PySem.Challenge.pw_boughworth_k09_why_it_is_no_book.main.body.getD i (.Pass ⟨0,0,0,0⟩)
abbrev qP:Stmt:=top 22
abbrev nC:Stmt:=top 23
abbrev sO:Stmt:=top 24
abbrev wG:Stmt:=top 31
abbrev wF:Stmt:=top 32
abbrev qW:Stmt:=top 33
abbrev nF:Stmt:=top 34
abbrev qS:Stmt:=top 35
abbrev wx:Stmt:=top 41
abbrev wD:Stmt:=top 42
abbrev iR:Stmt:=top 43
abbrev iS:Stmt:=top 44
abbrev iW:Stmt:=top 45
abbrev fS:Stmt:=top 46
abbrev qX:Stmt:=top 47
abbrev A2:Stmt:=top 48
abbrev jC:Stmt:=top 49
abbrev eV:Stmt:=top 50
abbrev iV:Stmt:=top 51
abbrev iU:Stmt:=top 52
abbrev kj:Stmt:=top 53
abbrev qU:Stmt:=top 54
abbrev nG:Stmt:=top 55
abbrev qZ:Stmt:=top 56
abbrev gK:Stmt:=top 57
abbrev fq:Stmt:=top 58
abbrev qV:Stmt:=top 59
abbrev ic:Stmt:=top 60
abbrev kL:Stmt:=top 61
abbrev iB:Stmt:=top 62
abbrev fU:Stmt:=top 63
abbrev iC:Stmt:=top 64
abbrev dy:Stmt:=top 65
abbrev nE:Stmt:=top 66
abbrev ig:Stmt:=top 67
abbrev nJ:Stmt:=top 68
abbrev wH:Stmt:=top 73
abbrev wA:Stmt:=top 74
abbrev qY:Stmt:=top 75
abbrev gJ:Stmt:=top 76
abbrev nH:Stmt:=top 77
abbrev wE:Stmt:=top 78
abbrev fz:Stmt:=top 79
abbrev qR:Stmt:=top 80
abbrev gI:Stmt:=top 81
abbrev eI:Stmt:=top 82
abbrev qT:Stmt:=top 83
abbrev gy:Stmt:=top 84
abbrev wB:Stmt:=top 86
abbrev sP:Stmt:=top 87
abbrev kK:Stmt:=top 88
abbrev iT:Stmt:=top 89
abbrev iX:Stmt:=top 90
abbrev ki:Stmt:=top 91
abbrev ie:Stmt:=top 92
abbrev ib:Stmt:=top 93
abbrev cD:Stmt:=top 94
abbrev nI:Stmt:=top 95
abbrev bS:Stmt:=top 96
structure Gb (mg:Str->Option Value):Prop where
 isi:mg "isinstance"=none
 int:mg "int"=none
 bool:mg "bool"=none
 str:mg "str"=none
 tuple:mg "tuple"=none
 len:mg "len"=none
 all:mg "all"=none
 range:mg "range"=none
 max:mg "max"=none
 min:mg "min"=none
noncomputable def qv:V->Bool
 | .int _=>true
 | _=>false
noncomputable def cU (lo hi:Int):V->Bool
 | .int i=>decide (lo<=i)&&decide (i<=hi)
 | _=>false
noncomputable def eA:V->Bool
 | .str x=>aY x
 | _=>false
theorem zY {H:Hp} {v:V} (h:Sh H v):(if isV "int" H v=true then !isV "bool" H v else false)=qv v:=by
 cases v with
 | ref a=>rcases h with ⟨ys,e⟩ | ⟨ys,e⟩ | ⟨ys,e⟩ <;> (simp only [isV,e];rfl)
 | _=>rfl
theorem tD {H:Hp} {v:V} (h:isV "str" H v=true): ∃ z,v=.str z:=by
 cases v with
 | str z=>exact ⟨z,rfl⟩
 | ref a=>
  simp only [isV]at h;split at h <;> simp at h
 | _=>simp [isV]at h
theorem zX {H:Hp} {v:V} (h:isV "tuple" H v=true): ∃ a xs,v=.ref a/\H a=some (.tup xs):=by
 cases v with
 | ref a=>
  simp only [isV]at h;split at h
  ·simp at h
  ·rename_i xs e;exact ⟨a,xs,rfl,e⟩
  ·simp at h
  ·simp at h
 | _=>simp [isV]at h
theorem qb {Q:VK} {b b':Bool} {H:Hp} (q:Q (.bl b) H) (e:b=b'):Q (.bl b') H:=e▸q
theorem am {H:Hp} {p:Addr} (h:H p=none) (o:HO):Same H (upd H p o):=λb u q=>by rw [aj (al q h)];exact q
theorem nw {H:Hp} {p:Addr} (h:H p=none) (o:HO): ∃ H',upd H p o=H'/\Same H H'/\H' p=some o:=⟨_,rfl,am h o,ae⟩
def nh:Sp:=λvs H Q _=> ∃ v,vs=[v]/\Sh H v/\Q (.bl (qv v)) H
def kE:Sp:=λvs H Q _=> ∃ v lo hi,vs=[v,.int lo,.int hi]/\Sh H v/\Q (.bl (cU lo hi v)) H
def jw:Sp:=λvs H Q _=> ∃ v,vs=[v]/\Sh H v/\ ∀ H',Same H H'->Q (.bl (eA v)) H'
theorem yW:av ["thing"] ["thing"] (ah qP):=fsc
theorem xk (F:Fun K "is_whole" "is_whole" qP f fd) (G:Gb mg):aX P w K mg base CX0 1 f fd ["thing"] nh:=by
 refine F.okz yW λcdv A outer s H vs Q E hr h=>?_;obtain ⟨v,rfl,hS,q⟩:=h;refine ⟨_,ai (aw (cM (ao cS rfl G.isi (by decide +kernel) (aa (pv 0) (aa (cE (v:=.ty "int") rfl G.int (by decide +kernel) rfl) ac)))
  (dk (Bb (ao cS rfl G.isi (by decide +kernel) (aa (pv 0) (aa (cE (v:=.ty "bool") rfl G.bool (by decide +kernel) rfl) ac))))))),?_⟩
 have e:=zY hS;refine ⟨_,rfl,v,"int",rfl,hS,by simp,_,rfl,?_⟩;refine bp (λc=>?_) (λc=>?_)
 ·rw [Ea c]at e;refine ⟨_,rfl,v,"bool",rfl,hS,by simp,_,rfl,?_⟩;exact qb q e.symm
 ·rw [DU c]at e;exact qb q e.symm
theorem wt:av ["thing","lowest","highest"] ["thing","lowest","highest"] (ah nC):=fsc
theorem uK (F:Fun K "is_whole_within" "is_whole_within" nC f fd) (GW:Cl P w K mg base CX0 1 g gd ["thing"] nh "is_whole"):
  aX P w K mg base CX0 2 f fd ["thing","lowest","highest"] kE:=by
 refine F.okz wt λcdv A outer s H vs Q E hr h=>?_;obtain ⟨v,lo,hi,rfl,hS,q⟩:=h;refine ⟨_,ai (aw (cM (pcl GW hr (aa (pv 0) ac)) (dk (kQ md md (pv 1) (pv 0) (pv 2))))),?_⟩;refine ⟨_,rfl,v,rfl,hS,_,rfl,?_⟩;refine bp (λc=>?_) (λc=>?_)
 ·cases v with
  | int i=>
   refine ⟨_,rfl,_,rfl,lo,i,rfl,rfl,_,rfl,?_⟩;refine bp (λc1=>?_) (λc1=>?_)
   ·refine ⟨_,rfl,i,hi,rfl,rfl,?_⟩;have e:cU lo hi (.int i)=decide (i<=hi):=by
     show (decide (lo<=i)&&decide (i<=hi))=_;rw [c1,Ec]
    exact qb q e
   ·have e:cU lo hi (.int i)=false:=by
     show (decide (lo<=i)&&decide (i<=hi))=_;rw [EK.mpr c1,DN]
    exact qb q e
  | _=>cases c
 ·have e:cU lo hi v=false:=by
   cases v with
   | int i=>exact absurd rfl c
   | _=>rfl
  exact qb q e
theorem xI (a b:Nat):decide ([a] <[b])=decide (a<b):=by
 rw [Iy];simp [List.cons_lt_cons_iff]
theorem CO (c:Nat):(!decide ((⟨#[c]⟩:Str).cps.toList< ("a":Str).cps.toList))=decide (97<=c):=by
 have e:("a":Str).cps.toList=[97]:=by decide +kernel
 rw [e];show (!decide ([c] <[97]))=_;rw [xI];by_cases h:c<97
 ·rw [DB h,DG (by lia)];rfl
 ·rw [DG h,DB (by lia)];rfl
theorem C9 (c:Nat):(!decide (("z":Str).cps.toList< (⟨#[c]⟩:Str).cps.toList))=decide (c<=122):=by
 have e:("z":Str).cps.toList=[122]:=by decide +kernel
 rw [e];show (!decide ([122] <[c]))=_;rw [xI];by_cases h:122<c
 ·rw [DB h,DG (by lia)];rfl
 ·rw [DG h,DB (by lia)];rfl
theorem zQ (c:Nat):iH c=(decide (97<=c)&&decide (c<=122)):=by
 unfold iH;by_cases h1:97<=c <;> by_cases h2:c<=122 <;> simp [h1,h2]
theorem AY:av ["thing"] ["thing"] (ah sO):=fsc
theorem zA (F:Fun K "is_word" "is_word" sO f fd) (G:Gb mg) {tk:Tok} (mL:mg "MOST_LETTERS"=some (.int 8 tk)):aX P w K mg base CX0 1 f fd ["thing"] jw:=by
 refine F.okz AY λcdv A outer s H vs Q E hr h=>?_;obtain ⟨v,rfl,hS,q⟩:=h;refine ⟨_,ad (aS (PW.pt (dR (a9 (aZ (ao cS rfl G.isi (by decide +kernel) (aa (pv 0) (aa (cE (v:=.ty "str") rfl G.str (by decide +kernel) rfl) ac)))))
   (cX (a9 (wT md md ag (ao oC rfl G.len DV (aa (pv 0) ac)) (aW (v:=.int 8) rfl mL ⟨_,rfl⟩)))))) (ai (aw cx)) aE)
  (ai (aw (ao (cT rfl) rfl G.all (by decide +kernel) (aa (bX (sc0:=ah sO) (N0:=["thing"]) (ys:=[]) (fr:=[]) rfl (Ba (pv 0)) rfl rfl
   csc (λC s H ex=>kQ ma ma aV (pv 0) aV)) ac)))),?_⟩
 refine ⟨_,rfl,v,"str",rfl,hS,by simp,_,rfl,?_⟩;refine bp (λc=>?_) (λc=>?_)
 ·-- no text
  refine bE ?_;have e:eA v=false:=by
   cases v with
   | str z=>simp [isV]at c
   | _=>rfl
  exact qb (q H (Same.refl H)) e
 ·obtain ⟨z,rfl⟩:=tD (H:=H) (v:=v) (by cases h:isV "str" H v with
   | true=>rfl
   | false=>rw [h]at c;exact absurd rfl c)
  have hz:z.length<=sizeLine:=EA (aK hS);refine ⟨_,rfl,z,rfl,hz,1,_,rfl,rfl,_,rfl,?_⟩;have ew:eA (.str z)=(decide (1<=z.length)&&decide (z.length<=8)&&z.cps.toList.all iH):=rfl;refine bp (λc1=>?_) (λc1=>?_)
  ·have c1':1<=z.length:=by have:=DT c1;lia
   refine ⟨_,8,rfl,rfl,_,rfl,?_⟩;refine bp (λc2=>?_) (λc2=>?_)
   ·have c2': ¬ z.length<=8:=λz8=>by
     have:((z.length:Int)<=8):=by lia
     rw [DB this]at c2;exact absurd c2 (by decide)
    have e:eA (.str z)=false:=by rw [ew,DG c2',DE,DN]
    exact qb (q H (Same.refl H)) e
   ·have c2':z.length<=8:=by
     by_cases h:((z.length:Int)<=8)
     ·lia
     ·rw [DG h]at c2;exact absurd rfl c2
    refine ⟨_,rfl,z,rfl,?_⟩;refine fH (n:=z.length) (R:=λi v=> ∃ c,z.cps[i]? =some c/\v=.str ⟨#[c]⟩) (by lia) Br xW zU
     (λp i zs H'=>H'=upd H p (.lst zs)/\i<=z.length/\zs=((z.cps.toList.take i).map iH).map V.bl) (λp hp=>⟨rfl,Er _,rfl⟩) ?_ ?_ ?_
    ·rintro p i zs H' ⟨rfl,hi,rfl⟩;refine ⟨ae,?_⟩;rw [Dx,Dx,DX];exact Gi hi
    ·rintro p i zs H' v k hp hi ⟨ch,hc,rfl⟩ ⟨rfl,_,rfl⟩ hk;have hc':z.cps.toList[i]? =some ch:=by rw [FQ];exact hc
     have nxt:((z.cps.toList.take i).map iH).map V.bl++[V.bl (iH ch)]=((z.cps.toList.take (i+1)).map iH).map V.bl:=by
      rw [EB,hc'];simp
     have fin:k (.bl (iH ch)) (upd H p (.lst (((z.cps.toList.take i).map iH).map V.bl))):=hk _ _ ae ⟨by rw [dW],hi,nxt⟩;rw [zQ]at fin;refine ⟨_,rfl,_,_,rfl,rfl,_,rfl,?_⟩;refine bp (λc3=>?_) (λc3=>?_)
     ·refine ⟨_,_,rfl,rfl,?_⟩;rw [CO]at c3;rw [c3,Ec]at fin;exact qb fin (C9 ch).symm
     ·rw [CO]at c3;rw [EK.mpr c3,DN]at fin;exact fin
    ·rintro p zs H' hp ⟨rfl,_,rfl⟩;refine ⟨p,(z.cps.toList.take z.length).map iH,rfl,SqL.of ae,?_⟩;have e:eA (.str z)=((z.cps.toList.take z.length).map iH).all id:=by
      rw [ew,DB c1',DB c2',EL (show z.cps.toList.length<=z.length from DI _),HM];rfl
     exact qb (q _ (am hp _)) e
  ·have c1': ¬ 1<=z.length:=λz1=>by
    have:((1:Int)<=(z.length:Int)):=by lia
    rw [DB this]at c1;exact c1 rfl
   refine ⟨_,rfl,?_⟩;refine bE ?_;have e:eA (.str z)=false:=by rw [ew,DG c1',DN,DN]
   exact qb (q H (Same.refl H)) e
noncomputable def df (k:Str):Option Nat:=if k∈ops then some 2 else if k="when" then some 3 else none
noncomputable def uJ (p:V->Bool):List V->Bool
 | [x]=>p x
 | _=>false
noncomputable def AK (p:V->V->Bool):List V->Bool
 | [x,y]=>p x y
 | _=>false
theorem sY {p:V->Bool} {r:List V} (h: ¬ r.length=1):uJ p r=false:=by
 match r with
 | []=>rfl
 | [x]=>exact absurd rfl h
 | _::_::_=>rfl
theorem yP {p:V->V->Bool} {r:List V} (h: ¬ r.length=2):AK p r=false:=by
 match r with
 | []=>rfl
 | [_]=>rfl
 | [x,y]=>exact absurd rfl h
 | _::_::_::_=>rfl
noncomputable def cN:List V->Bool
 | .str k::r=>(match df k with
  | some n=>decide (r.length=n)
  | none=>if k="num" then uJ (cU (-999999) 999999) r
   else if k="own" then uJ eA r
   else if k="part" then AK (λx y=>cU 0 2 x&&eA y) r else false)
 | _=>false
noncomputable def cQ (H:Hp):V->Bool
 | .ref a=>(match H a with | some (.tup xs)=>cN xs | _=>false)
 | _=>false
theorem io {H:Hp} {a:Addr} {xs:List V} (h:H a=some (.tup xs)):cQ H (.ref a)=cN xs:=by simp only [cQ,h]
theorem vm {H:Hp} {a:Addr} {xs:List V} (h:H a=some (.lst xs)):cQ H (.ref a)=false:=by simp only [cQ,h]
theorem yf {H:Hp} {a:Addr} {xs:List (Key×V)} (h:H a=some (.dK xs)):cQ H (.ref a)=false:=by simp only [cQ,h]
noncomputable def bo:List V->List V
 | .str k::r=>if (df k).isSome then r else []
 | _=>[]
noncomputable def jh:List (Key×V):=[(.inr "plus",.int 2),(.inr "less",.int 2),(.inr "times",.int 2),(.inr "least",.int 2),(.inr "most",.int 2),(.inr "when",.int 3)]
theorem yc (k:Str):cz jh (.inr k)=(df k).map λ(n:Nat)=>V.int n:=by
 unfold df ops jh;by_cases h1:k="plus"
 ·subst h1;decide +kernel
 by_cases h2:k="less"
 ·subst h2;decide +kernel
 by_cases h3:k="times"
 ·subst h3;decide +kernel
 by_cases h4:k="least"
 ·subst h4;decide +kernel
 by_cases h5:k="most"
 ·subst h5;decide +kernel
 by_cases h6:k="when"
 ·subst h6;decide +kernel
 have ne: ∀ {y:Str},¬ k=y-> ¬ (Sum.inr y:Key)=Sum.inr k:=λh e=>h (IH e).symm;rw [bq (ne h1),bq (ne h2),bq (ne h3),bq (ne h4),bq (ne h5),bq (ne h6),vL,DU,DU h6]
 ·rfl
 ·simp only [DK,Eb,EQ,not_or];exact ⟨h1,h2,h3,h4,h5⟩
theorem du {α:Type} {x:α} {r:List α}:atI (x::r) 0=some x:=aM (j:=0) rfl
theorem Ao {α:Type} {x y:α} {r:List α}:atI (x::y::r) 1=some y:=aM (j:=1) rfl
theorem CN {α:Type} {x y z:α} {r:List α}:atI (x::y::z::r) 2=some z:=aM (j:=2) rfl
def Ask (H:Hp) (v:V):Prop:=Sh H v/\ ∀ a xs,v=.ref a->H a=some (.tup xs)->xs.length<=1000/\ ∀ x∈xs,Sh H x
def vX:Sp:=λvs H Q _=> ∃ v,vs=[v]/\Ask H v/\ ∀ H',Same H H'->Q (.bl (cQ H v)) H'
def nq:Sp:=λvs H Q _=> ∃ a k r,vs=[.ref a]/\H a=some (.tup (.str k::r))/\r.length<=1000/\ ∀ p H',Same H H'->H' p=some (.tup (bo (.str k::r)))->Q (.ref p) H'
theorem lq {m n:Nat}:decide (V.int (m:Int)=V.int (n:Int))=decide (m=n):=by
 by_cases h:m=n
 ·subst h;rw [DB rfl,DB rfl]
 ·rw [DG h,DG (λe=>h (by injection e with e;lia))]
theorem y8:av ["formula"] ["formula"] (ah qW):=fsc
theorem xy (F:Fun K "inner_of" "inner_of" qW f fd) (mD:mg "INNER_COUNTS"=some (.ref aD)) (D:vG P w K aD jh):aX P w K mg base CX0 1 f fd ["formula"] nq:=by
 refine F.okz y8 λcdv A outer s H vs Q E hr h=>?_;obtain ⟨a,k,r,rfl,ha,hl,q⟩:=h;refine ⟨_,ai (aw (ja (aG xi (ax (r:=bc K) aH (pv 0) ag (λ_ _=>rfl)) (aW (v:=.ref aD) rfl mD rfl) (by with_unfolding_all rfl)) (bw qL (pv 0) (bI ag) cg) (aU ac))),?_⟩;refine ⟨_,rfl,a,_,0,_,rfl,rfl,SqT.of ha,du,.inr k,aD,jh,rfl,rfl,D,_,rfl,?_⟩;have hv:=yc k;cases hk:df k with
 | none=>
  rw [hk]at hv;refine bp (λc=>?_) (λc=>?_)
  ·rw [hv]at c;exact absurd c (by decide)
  ·refine ⟨wo,λp hp=>?_⟩;refine q p _ (am hp _) ?_;rw [ae];show some (HO.tup [])=some (HO.tup (if (df k).isSome=true then r else []));rw [hk];rfl
 | some n=>
  rw [hk]at hv;refine bp (λc=>?_) (λc=>?_)
  ·refine ⟨_,rfl,1,rfl,a,_,rfl,SqT.of ha,?_,λp hp=>?_⟩
   ·rintro ⟨h1,_⟩;have:HT.sIx (V.str k::r).length 0 (some 1)=min 1 (V.str k::r).length:=HT.sIx_nat _ _ 1;rw [this,DJ]at h1;lia
   ·refine q p _ (am hp _) ?_;rw [ae];have e1:HT.sIx (V.str k::r).length 0 (some 1)=1:=by
     have:HT.sIx (V.str k::r).length 0 (some 1)=min 1 (V.str k::r).length:=HT.sIx_nat _ _ 1;rw [this,DJ];lia
    have e2:eQ (V.str k::r) (some 1) none=r:=by
     unfold eQ;rw [e1,HT.sIx_none,DJ,List.drop_one,List.tail_cons,Nat.add_sub_cancel,EX]
    show some (HO.tup (eQ (V.str k::r) (some 1) none))=some (HO.tup (if (df k).isSome=true then r else []));rw [hk,e2];rfl
  ·rw [hv]at c;exact absurd rfl c
theorem scHead:av ["thing","kind"] ["thing"] (ah wF):=fsc
theorem zE (F:Fun K "is_head" "is_head" wF f fd) (G:Gb mg) (mD:mg "INNER_COUNTS"=some (.ref aD)) (D:vG P w K aD jh) {tN tP:Tok} (mN:mg "MOST_NUM"=some (.int 999999 tN)) (mP:mg "MOST_PART"=some (.int 2 tP))
  (GW:Cl P w K mg base CX0 2 g gd ["thing","lowest","highest"] kE "is_whole_within")
  (GX:Cl P w K mg base CX0 1 f2 fd2 ["thing"] jw "is_word"):
  aX P w K mg base CX0 3 f fd ["thing"] vX:=by
 refine F.okz scHead λcdv A outer s H vs Q E hr h=>?_;obtain ⟨v,rfl,⟨hS,hI⟩,q⟩:=h;have hr1:=hr.mono (show 1<=2 by decide);refine ⟨_,ad (aS (PW.pt (dR (a9 (aZ (ao cS rfl G.isi (by decide +kernel) (aa (pv 0) (aa (cE (v:=.ty "tuple") rfl G.tuple (by decide +kernel) rfl) ac)))))
   (cX (aG bJ (ao (r:=bU K) au rfl G.len DV (aa (pv 0) ac)) ag (aJ _))))) (ai (aw cx)) aE)
  (ad (psz 1 scHead.nd (ax (r:=bc K) aH (pv 0) ag (λ_ _=>rfl)))
  (ad (aS (a9 (aZ (ao cS rfl G.isi (by decide +kernel) (aa (pv 1) (aa (cE (v:=.ty "str") rfl G.str (by decide +kernel) rfl) ac))))) (ai (aw cx)) aE)
  (ad (aS (aG xi (pv 1) (aW (v:=.ref aD) rfl mD rfl) (by with_unfolding_all rfl))
   (ai (aw (cj bJ (ao (r:=bU K) au rfl G.len DV (aa (pv 0) ac)) (aF bn ag (zn (aW (v:=.ref aD) rfl mD rfl) (pv 1) (λ_ _=>rfl))) (aJ _)))) aE)
  (ad (aS (aG bJ (pv 1) aV (aJ _))
   (ai (aw (cM (cj bJ (ao (r:=bU K) au rfl G.len DV (aa (pv 0) ac)) ag (aJ _))
    (dk (pcl GW hr (aa (ax (r:=bc K) aH (pv 0) ag (λ_ _=>rfl)) (aa (gN eE (aW (v:=.int 999999) rfl mN ⟨_,rfl⟩)) (aa (aW (v:=.int 999999) rfl mN ⟨_,rfl⟩) ac)))))))) aE)
  (ad (aS (aG bJ (pv 1) aV (aJ _))
   (ai (aw (cM (cj bJ (ao (r:=bU K) au rfl G.len DV (aa (pv 0) ac)) ag (aJ _))
    (dk (pcl GX hr1 (aa (ax (r:=bc K) aH (pv 0) ag (λ_ _=>rfl)) ac)))))) aE)
  (ad (aS (aG bJ (pv 1) aV (aJ _))
   (ai (aw (cM (cj bJ (ao (r:=bU K) au rfl G.len DV (aa (pv 0) ac)) ag (aJ _))
    (cM (pcl GW hr (aa (ax (r:=bc K) aH (pv 0) ag (λ_ _=>rfl)) (aa ag (aa (aW (v:=.int 2) rfl mP ⟨_,rfl⟩) ac))))
    (dk (pcl GX hr1 (aa (ax (r:=bc K) aH (pv 0) ag (λ_ _=>rfl)) ac))))))) aE)
  (ai (aw cx)))))))),?_⟩
 have fin: ∀ b,cQ H v=b->Q (.bl b) H:=λb e=>by
  exact qb (q H (Same.refl H)) e
 refine ⟨_,rfl,v,"tuple",rfl,hS,by simp,_,rfl,?_⟩;refine bp (λc=>?_) (λc=>?_)
 ·refine bE ?_;refine fin false ?_;have c':isV "tuple" H v=false:=by simpa using c
  cases v with
  | ref a=>
   rcases hS with ⟨ys,e⟩ | ⟨ys,e⟩ | ⟨ys,e⟩
   ·exact vm e
   ·simp only [isV,e]at c';simp at c'
   ·exact yf e
  | _=>rfl
 have c':isV "tuple" H v=true:=by
  cases h:isV "tuple" H v with
  | true=>rfl
  | false=>rw [h]at c;exact absurd rfl c
 obtain ⟨a,xs,rfl,ha⟩:=zX c';obtain ⟨hl,hx⟩:=hI a xs rfl ha;have hH:cQ H (.ref a)=cN xs:=io ha;refine ⟨_,rfl,a,xs,rfl,.inr (SqT.of ha),rfl,_,rfl,?_⟩;cases xs with
 | nil=>exact bE (fin false (by rw [hH];rfl))
 | cons x0 r=>
  have c0: ¬ (decide (V.int (((x0::r).length:Nat):Int)=V.int 0))=true:=λz=>by
   have:=DT z;injection this with this
   rw [DJ]at this;lia
  refine bp (λz=>absurd z c0) (λ_=>?_);refine ⟨_,rfl,a,_,0,x0,rfl,rfl,SqT.of ha,du,?_⟩;refine ⟨_,rfl,x0,"str",rfl,hx x0 DW,by simp,_,rfl,?_⟩;refine bp (λc1=>?_) (λc1=>?_)
  ·refine fin false ?_;rw [hH];cases x0 with
   | str k=>simp [isV]at c1
   | _=>rfl
  have c1':isV "str" H x0=true:=by
   cases h:isV "str" H x0 with
   | true=>rfl
   | false=>rw [h]at c1;exact absurd rfl c1
  obtain ⟨k,rfl⟩:=tD c1';have hlen: ∀ n:Nat,decide (V.int (((V.str k::r).length:Nat):Int)=V.int ((n+1:Nat):Int))=decide (r.length=n):=λn=>by
   rw [lq,DJ];by_cases h:r.length=n
   ·rw [DB h,DB (by lia)]
   ·rw [DG h,DG (by lia)]
  have hv:=yc k;refine ⟨_,rfl,.inr k,aD,jh,rfl,rfl,D,_,rfl,?_⟩;cases hk:df k with
  | some n=>
   rw [hk]at hv;refine bp (λ_=>?_) (λc2=>?_)
   ·refine ⟨_,rfl,a,_,rfl,.inr (SqT.of ha),_,rfl,aD,jh,.inr k,_,rfl,rfl,D,hv,1,_,rfl,rfl,rfl,?_⟩;refine fin _ ?_;have e:=hlen n;have e2:(1:Int) + (n:Int)=((n+1:Nat):Int):=by lia
    rw [hH];show cN (V.str k::r)=decide (V.int (((V.str k::r).length:Nat):Int)=V.int (1+ (n:Int)));rw [e2,e];simp only [cN,hk]
   ·rw [hv]at c2;exact absurd rfl c2
  | none=>
   rw [hk]at hv;refine bp (λc2=>?_) (λ_=>?_)
   ·rw [hv]at c2;exact absurd c2 (by decide)
   have hh:cN (V.str k::r)=(if k="num" then uJ (cU (-999999) 999999) r
     else if k="own" then uJ eA r
     else if k="part" then AK (λx y=>cU 0 2 x&&eA y) r else false):=by
    simp only [cN,hk]
   refine ⟨_,rfl,rfl,_,rfl,?_⟩;refine bp (λc3=>?_) (λc3=>?_)
   ·have ek:k="num":=by have:=DT c3;injection this
    rw [Ea ek]at hh;refine ⟨_,rfl,a,_,rfl,.inr (SqT.of ha),rfl,_,rfl,?_⟩;refine bp (λc4=>?_) (λc4=>?_)
    ·have e4:r.length=1:=DT ((hlen 1).symm.trans c4);obtain ⟨x1,rfl⟩: ∃ x1,r=[x1]:=Ht.mp e4;refine ⟨_,rfl,a,_,1,x1,rfl,rfl,SqT.of ha,Ao,999999,rfl,x1,-999999,999999,rfl,hx x1 (by simp),?_⟩;exact fin _ (by rw [hH,hh];rfl)
    ·refine fin false ?_;rw [hH,hh];exact sY λe1=>c4 ((hlen 1).trans (DB e1))
   have nk: ¬ k="num":=λe=>c3 (DB (by rw [e]));rw [DU nk]at hh;refine ⟨_,rfl,rfl,_,rfl,?_⟩;refine bp (λc3=>?_) (λc3=>?_)
   ·have ek:k="own":=by have:=DT c3;injection this
    rw [Ea ek]at hh;refine ⟨_,rfl,a,_,rfl,.inr (SqT.of ha),rfl,_,rfl,?_⟩;refine bp (λc4=>?_) (λc4=>?_)
    ·have e4:r.length=1:=DT ((hlen 1).symm.trans c4);obtain ⟨x1,rfl⟩: ∃ x1,r=[x1]:=Ht.mp e4;refine ⟨_,rfl,a,_,1,x1,rfl,rfl,SqT.of ha,Ao,x1,rfl,hx x1 (by simp),λH' sm=>?_⟩;have e:cQ H (.ref a)=eA x1:=by rw [hH,hh];rfl
     exact qb (q H' sm) e
    ·refine fin false ?_;rw [hH,hh];exact sY λe1=>c4 ((hlen 1).trans (DB e1))
   have nk2: ¬ k="own":=λe=>c3 (DB (by rw [e]));rw [DU nk2]at hh;refine ⟨_,rfl,rfl,_,rfl,?_⟩;refine bp (λc3=>?_) (λc3=>?_)
   ·have ek:k="part":=by have:=DT c3;injection this
    rw [Ea ek]at hh;refine ⟨_,rfl,a,_,rfl,.inr (SqT.of ha),rfl,_,rfl,?_⟩;refine bp (λc4=>?_) (λc4=>?_)
    ·have e4:r.length=2:=DT ((hlen 2).symm.trans c4);obtain ⟨x1,x2,rfl⟩: ∃ x1 x2,r=[x1,x2]:=by
      match r,e4 with
      | [x1,x2],_=>exact ⟨x1,x2,rfl⟩
     refine ⟨_,rfl,a,_,1,x1,rfl,rfl,SqT.of ha,Ao,x1,0,2,rfl,hx x1 (by simp),_,rfl,?_⟩;refine bp (λc5=>?_) (λc5=>?_)
     ·refine ⟨_,rfl,a,_,2,x2,rfl,rfl,SqT.of ha,CN,x2,rfl,hx x2 (by simp),λH' sm=>?_⟩;have e:cQ H (.ref a)=eA x2:=by rw [hH,hh];show (cU 0 2 x1&&eA x2)=_;rw [c5,Ec]
      exact qb (q H' sm) e
     ·refine fin false ?_;rw [hH,hh];show (cU 0 2 x1&&eA x2)=_;rw [EK.mpr c5,DN]
    ·refine fin false ?_;rw [hH,hh];exact yP λe1=>c4 ((hlen 2).trans (DB e1))
   have nk3: ¬ k="part":=λe=>c3 (DB (by rw [e]));rw [DU nk3]at hh;exact fin false (by rw [hH,hh])
inductive Bad (H:Hp):V->Prop where
 | sc {v:V}:Ask H v->cQ H v=false->Bad H v
 | inn {a:Addr} {k:Str} {pre post:List V} {u:V}:H a=some (.tup (.str k::(pre++u::post)))->k.length<=1000->df k=some (pre++u::post).length->(∀ x∈pre++post,∃ f,Rep H f x/\f.wf)->Bad H u->Bad H (.ref a)
inductive Fs (H:Hp):List V->Nat->Prop where
 | nil:Fs H [] 0
 | cons {v:V} {f:Fm} {vs:List V} {n:Nat}:Rep H f v->f.wf->Fs H vs n->Fs H (v::vs) (f.size+n)
theorem Fs.append {H:Hp} {xs ys:List V} {m n:Nat} (a:Fs H xs m) (b:Fs H ys n):Fs H (xs++ys) (m+n):=by
 induction a with
 | nil=>rw [Nat.zero_add];exact b
 | cons r w _ ih=>rw [Iq];exact .cons r w ih
theorem Fs.split {H:Hp}: ∀ {xs ys:List V} {n:Nat},Fs H (xs++ys) n-> ∃ a b,Fs H xs a/\Fs H ys b/\n=a+b
 | [],ys,n,h=>⟨0,n,.nil,h,by lia⟩
 | x::r,ys,n,h=>by
  cases h with
  | cons rp wf t=>
   obtain ⟨a,b,h1,h2,e⟩:=Fs.split t;exact ⟨_,b,.cons rp wf h1,h2,by lia⟩
theorem Fs.mem {H:Hp} {xs:List V} {n:Nat} (h:Fs H xs n): ∀ x∈xs,∃ f,Rep H f x/\f.wf:=by
 induction h with
 | nil=>intro x hx;cases hx
 | cons r w _ ih=>
  intro x hx;rcases DK.mp hx with e | e
  ·subst e;exact ⟨_,r,w⟩
  ·exact ih x e
theorem jF {k:Str} (h:k∈ops):k.length<=1000:=by
 unfold ops at h;simp only [DK,Eb,EQ]at h;rcases h with rfl | rfl | rfl | rfl | rfl <;> decide +kernel
theorem gM {H:Hp}: ∀ {f:Fm} {v:V},Rep H f v->Sh H v
 | .num _,_,⟨a,e,h⟩=>by subst e;exact .inr (.inl ⟨_,h⟩)
 | .own _,_,⟨a,e,h⟩=>by subst e;exact .inr (.inl ⟨_,h⟩)
 | .part _ _,_,⟨a,e,h⟩=>by subst e;exact .inr (.inl ⟨_,h⟩)
 | .bin _ _ _,_,⟨a,u,w,e,h,_⟩=>by subst e;exact .inr (.inl ⟨_,h⟩)
 | .whn _ _ _,_,⟨a,u,w,z,e,h,_⟩=>by subst e;exact .inr (.inl ⟨_,h⟩)
theorem bf {x:Str} (h:aY x=true):x.length<=1000:=by
 unfold aY at h;simp only [Ek,FI]at h;lia
theorem jH {op:Str} (h:op∈ops):df op=some 2:=by unfold df;rw [Ea h]
theorem gi:df "when"=some 3:=by decide +kernel
theorem jI:df "num"=none:=by decide +kernel
theorem im:df "own"=none:=by decide +kernel
theorem gj:df "part"=none:=by decide +kernel
theorem nL {H:Hp} {f:Fm} {v:V} (r:Rep H f v) (wf:f.wf): ∃ a k xs n,v=.ref a/\H a=some (.tup (.str k::xs))/\xs.length<=3/\k.length<=1000/\(∀ x∈xs,Sh H x)/\cN (.str k::xs)=true/\Fs H (bo (.str k::xs)) n/\f.size=n+1:=by
 cases f with
 | num n=>
  obtain ⟨a,rfl,h⟩:=r;refine ⟨a,_,_,0,rfl,h,by simp,by decide +kernel,by simp [Sh],?_,?_,rfl⟩
  ·simp only [cN,jI,Gw,uJ,cU];have w1: -999999<=n/\n<=999999:=wf;rw [DB w1.1,DB w1.2];rfl
  ·simp only [bo,jI];exact .nil
 | own x=>
  obtain ⟨a,rfl,h⟩:=r;have w1:aY x=true:=wf;refine ⟨a,_,_,0,rfl,h,by simp,by decide +kernel,by simpa [Sh]using bf w1,?_,?_,rfl⟩
  ·simp only [cN,im];rw [DU (by decide +kernel),Ea True.intro];exact w1
  ·simp only [bo,im];exact .nil
 | part k x=>
  obtain ⟨a,rfl,h⟩:=r;obtain ⟨w0,w1⟩:(0<=k/\k<=2)/\aY x=true:=wf;refine ⟨a,_,_,0,rfl,h,by simp,by decide +kernel,by simpa [Sh]using bf w1,?_,?_,rfl⟩
  ·simp only [cN,gj];rw [DU (by decide +kernel),DU (by decide +kernel),Ea True.intro];show (decide (0<=k)&&decide (k<=2)&&aY x)=true;rw [w1,DB w0.1,DB w0.2];rfl
  ·simp only [bo,gj];exact .nil
 | bin op A B=>
  obtain ⟨a,u,w,rfl,h,r1,r2⟩:=r;obtain ⟨ho,w1,w2⟩:op∈ops/\A.wf/\B.wf:=wf;refine ⟨a,_,_,A.size+ (B.size+0),rfl,h,by simp,jF ho,?_,?_,?_,by show A.size+B.size+1=_;lia⟩
  ·intro x hx;simp only [DK,Eb,EQ]at hx;rcases hx with rfl | rfl
   ·exact gM r1
   ·exact gM r2
  ·simp only [cN,jH ho];rfl
  ·simp only [bo,jH ho];exact .cons r1 w1 (.cons r2 w2 .nil)
 | whn A B C=>
  obtain ⟨a,u,w,z,rfl,h,r1,r2,r3⟩:=r;obtain ⟨w1,w2,w3⟩:A.wf/\B.wf/\C.wf:=wf;refine ⟨a,_,_,A.size+ (B.size+ (C.size+0)),rfl,h,by simp,by decide +kernel,?_,?_,?_,by show A.size+B.size+C.size+1=_;lia⟩
  ·intro x hx;simp only [DK,Eb,EQ]at hx;rcases hx with rfl | rfl | rfl
   ·exact gM r1
   ·exact gM r2
   ·exact gM r3
  ·simp only [cN,gi];rfl
  ·simp only [bo,gi];exact .cons r1 w1 (.cons r2 w2 (.cons r3 w3 .nil))
theorem nM {H:Hp} {f:Fm} {v:V} (r:Rep H f v) (wf:f.wf):Ask H v/\cQ H v=true:=by
 obtain ⟨a,k,xs,n,rfl,h,hl,hk,hs,hh,_,_⟩:=nL r wf;refine ⟨⟨gM r,λb ys e h'=>?_⟩,by rw [io h];exact hh⟩;cases e;rw [h]at h';cases h';refine ⟨by rw [DJ];lia,λx hx=>?_⟩;rcases DK.mp hx with e | e
 ·subst e;exact hk
 ·exact hs x e
theorem BG {H:Hp} {v:V} (b:Bad H v):Sh H v:=by
 cases b with
 | sc a _=>exact a.1
 | inn h _ _ _ _=>exact .inr (.inl ⟨_,h⟩)
noncomputable def Res (H:Hp) (ws:List V) (n:Nat):Bool->Prop
 | true=> ∃ t,Fs H ws t/\t+n<=15
 | false=>(∃ t,Fs H ws t/\15<t+n)\/ ∃ pre u post,ws=pre++u::post/\(∀ x∈pre++post,∃ f,Rep H f x/\f.wf)/\Bad H u
theorem za {H:Hp} {n:Nat} {b:Bool} (hn:n<=15) (h:Res H [] n b):b=true:=by
 cases b with
 | true=>rfl
 | false=>
  rcases h with ⟨t,f,e⟩ | ⟨pre,u,post,e,_⟩
  ·cases f;lia
  ·cases pre <;> cases e
theorem wN {H:Hp} {ws:List V} {x:V} {b:Bool} (h:Res H (ws++[x]) 15 b):b=false:=by
 cases b with
 | false=>rfl
 | true=>
  obtain ⟨t,f,e⟩:=h;obtain ⟨a,c,f1,f2,e2⟩:=f.split;cases f2 with
  | cons r w f3=>
   have:=Fm.size_pos (by assumption);lia
theorem wM {H:Hp} {ws:List V} {x:V} {n:Nat} {b:Bool} (hn:n<15) (h:Res H (ws++[x]) n b):
  Ask H x/\((cQ H x=false/\b=false)\/(cQ H x=true/\ ∃ a k r,x=.ref a/\H a=some (.tup (.str k::r))/\r.length<=3/\Res H (ws++bo (.str k::r)) (n+1) b)):=by
 have good: ∀ {t:Nat},Fs H (ws++[x]) t-> ∃ f m,Rep H f x/\f.wf/\Fs H ws m/\t=m+f.size:=λf=>by
  obtain ⟨a,c,f1,f2,e2⟩:=f.split;cases f2 with
  | cons r w f3=>
   cases f3;exact ⟨_,a,r,w,f1,by lia⟩
 have step: ∀ {f:Fm} {m:Nat},Rep H f x->f.wf->Fs H ws m-> ∃ a k r,x=.ref a/\H a=some (.tup (.str k::r))/\r.length<=3/\Fs H (ws++bo (.str k::r)) (m+ (f.size-1)):=λrp wf fm=>by
  obtain ⟨a,k,xs,q,e,h1,hl,hk,hs,hh,hi,sz⟩:=nL rp wf;refine ⟨a,k,xs,e,h1,hl,?_⟩;rw [sz];exact fm.append hi
 cases b with
 | true=>
  obtain ⟨t,f,e⟩:=h;obtain ⟨fm,m,rp,wf,fw,et⟩:=good f;obtain ⟨ak,hv⟩:=nM rp wf;obtain ⟨a,k,r,ex,ha,hl,hf⟩:=step rp wf fw;have:=fm.size_pos;exact ⟨ak,.inr ⟨hv,a,k,r,ex,ha,hl,_,hf,by lia⟩⟩
 | false=>
  rcases h with ⟨t,f,e⟩ | ⟨pre,u,post,e,hpp,bu⟩
  ·obtain ⟨fm,m,rp,wf,fw,et⟩:=good f;obtain ⟨ak,hv⟩:=nM rp wf;obtain ⟨a,k,r,ex,ha,hl,hf⟩:=step rp wf fw;have:=fm.size_pos;exact ⟨ak,.inr ⟨hv,a,k,r,ex,ha,hl,.inl ⟨_,hf,by lia⟩⟩⟩
  ·rcases List.eq_nil_or_concat post with hp | ⟨post',y,hp⟩
   ·-- the spoilt one itself
    subst hp;have ee:ws++[x]=pre++[u]:=e;obtain ⟨e1,e2⟩:=List.append_inj' ee rfl;cases e2;subst e1;cases bu with
    | sc ak hv=>exact ⟨ak,.inl ⟨hv,rfl⟩⟩
    | @inn a k p2 q2 u2 h1 hk hi hpq b2=>
     have hh:cN (.str k::(p2++u2::q2))=true:=by simp only [cN,hi];simp
     have hlen:(p2++u2::q2).length<=3:=by
      unfold df at hi;split at hi
      ·injection hi with hi;lia
      ·split at hi
       ·injection hi with hi;lia
       ·cases hi
     refine ⟨⟨.inr (.inl ⟨_,h1⟩),λb ys eb h'=>?_⟩,.inr ⟨by rw [io h1];exact hh,a,k,_,rfl,h1,hlen,.inr ⟨ws++p2,u2,q2,?_,?_,b2⟩⟩⟩
     ·cases eb;rw [h1]at h';cases h';refine ⟨by rw [DJ];lia,λz hz=>?_⟩;rcases DK.mp hz with q | q
      ·subst q;exact hk
      ·rcases DQ.mp q with q | q
       ·obtain ⟨f,rp,_⟩:=hpq z (Eo _ q);exact gM rp
       ·rcases DK.mp q with q | q
        ·subst q;exact BG b2
        ·obtain ⟨f,rp,_⟩:=hpq z (DO _ q);exact gM rp
     ·show ws++bo (.str k::(p2++u2::q2))=_;simp only [bo,hi,Option.isSome_some,Gw];rw [Et]
     ·intro z hz;rcases DQ.mp hz with q | q
      ·rcases DQ.mp q with q | q
       ·exact hpp z (Eo _ q)
       ·exact hpq z (Eo _ q)
      ·exact hpq z (DO _ q)
   ·-- a formula behind it
    rw [List.concat_eq_append]at hp;subst hp;have ee:ws++[x]=(pre++u::post')++[y]:=by rw [e];simp
    obtain ⟨e1,e2⟩:=List.append_inj' ee rfl;cases e2;obtain ⟨fm,rp,wf⟩:=hpp x (by simp);obtain ⟨ak,hv⟩:=nM rp wf;obtain ⟨a,k,xs,q,ex,h1,hl,hk,hs,hh,hi,sz⟩:=nL rp wf;refine ⟨ak,.inr ⟨hv,a,k,xs,ex,h1,hl,.inr ⟨pre,u,post'++bo (.str k::xs),by rw [e1];simp,?_,bu⟩⟩⟩;intro z hz;rcases DQ.mp hz with q | q
    ·exact hpp z (Eo _ q)
    ·rcases DQ.mp q with q | q
     ·exact hpp z (DO _ (Eo _ q))
     ·exact hi.mem z q
theorem uB {H H':Hp} {v:V} (sm:Same H H') (a:Ask H v):Ask H' v/\cQ H' v=cQ H v:=by
 have sh: ∀ {x:V},Sh H x->Sh H' x:=λ{x} h=>by
  cases x with
  | ref b=>
   rcases h with ⟨ys,e⟩ | ⟨ys,e⟩ | ⟨ys,e⟩
   ·exact .inl ⟨_,sm _ _ e⟩
   ·exact .inr (.inl ⟨_,sm _ _ e⟩)
   ·exact .inr (.inr ⟨_,sm _ _ e⟩)
  | _=>exact h
 cases v with
 | ref b=>
  obtain ⟨o,eo⟩: ∃ o,H b=some o:=by rcases a.1 with ⟨ys,e⟩ | ⟨ys,e⟩ | ⟨ys,e⟩ <;> exact ⟨_,e⟩
  refine ⟨⟨sh a.1,λc ys ec h'=>?_⟩,by simp only [cQ,sm _ _ eo,eo]⟩;cases ec;have h2:H b=some (.tup ys):=by rw [sm _ _ eo]at h';rw [eo];exact h'
  obtain ⟨h3,h4⟩:=a.2 b ys rfl h2;exact ⟨h3,λx hx=>sh (h4 x hx)⟩
 | _=>exact ⟨⟨sh a.1,λc ys ec=>by cases ec⟩,rfl⟩
def we:Sp:=λvs H Q _=> ∃ v b,vs=[v]/\Res H [v] 0 b/\ ∀ H',Same H H'->Q (.bl b) H'
theorem scForm:av ["thing","waiting","seen","one"] ["thing"] (ah wG):=fsc
theorem zF (F:Fun K "is_formula" "is_formula" wG f fd) {tT:Tok} (mT:mg "MOST_TUPLES"=some (.int 15 tT))
  (GH:Cl P w K mg base CX0 3 g gd ["thing"] vX "is_head")
  (GI:Cl P w K mg base CX0 1 f2 fd2 ["formula"] nq "inner_of"):
  aX P w K mg base CX0 4 f fd ["thing"] we:=by
 refine F.okz scForm λcdv A outer s H vs Q E hr h=>?_;obtain ⟨v,b,rfl,hR,q⟩:=h;have hr1:=hr.mono (show 1<=3 by decide);refine ⟨_,ad (psz 1 scForm.nd (bh (aa (pv 0) ac)))
  (ad (psz 2 scForm.nd ag)
  (ad (kO Ep (pD (pv 1) (λ_=>rfl))
   (ad (psz 3 scForm.nd (xc Ee PySem.F.slot_list_pop PySem.F.type_list_pop xE (pv 1)))
   (ad (aS (PW.pt (dR (aG bJ (pv 2) (aW (v:=.int 15) rfl mT ⟨_,rfl⟩) (aJ _)) (cX (a9 (aZ (pcl GH hr (aa (pv 3) ac))))))) (ai (aw cx)) aE)
   (ad (A9 (i:=2) scForm.nd rfl (Or.inl rfl) ag Bt)
   (ai (bP (dS Ee EY EZ sZ (pv 1) (aa (pcl GI hr1 (aa (pv 3) ac)) ac))))))))
  (ai (aw cx)))),?_⟩
 refine ⟨_,rfl,qK,λl hl=>?_⟩;dsimp only [vQ,mX,eM,tC];refine ku (λσ H'=> ∃ (ws:List V) (n:Nat) (o:Option V),σ=[some v,some (.ref l),some (.int n),o]/\H' l=some (.lst ws)/\Same H H'/\n<=15/\ws.length<=1+3*n/\Res H ws n b)
  (λσ _=>match σ with | [_,_,some (.int n),_]=>15-n.toNat | _=>0) ⟨[v],0,none,rfl,ae,am hl _,Er _,by simp,hR⟩ ?_ ?_
 ·rintro σ H' ⟨ws,n,o,rfl,hw,sm,hn,hlen,hR⟩;refine ⟨_,rfl,_,.inl ⟨ws,SqL.of hw,rfl⟩,?_⟩;rcases List.eq_nil_or_concat ws with hz | ⟨ws',x,hz⟩
  ·subst hz;refine bx ?_;have eb:=za hn hR;subst eb;exact q H' sm
  ·rw [List.concat_eq_append]at hz;subst hz;have ne:(!(ws'++[x]).isEmpty)=true:=by cases ws' <;> rfl
   refine bp (λ_=>?_) (λc=>absurd ne c);refine ⟨_,rfl,.inl ⟨rfl,_,SqL.of hw⟩,l,_,x,rfl,rfl,hw,by simp,?_⟩;rw [List.dropLast_concat];have lne: ∀ {c:Addr} {oo:HO},H c=some oo->c≠l:=λh=>al h hl;have sm1:Same H (upd H' l (.lst ws')):=λc oo h=>by rw [aj (lne h)];exact sm c oo h
   refine ⟨_,rfl,rfl,_,rfl,?_⟩;refine bp (λc=>?_) (λc=>?_)
   ·-- fifteen were seen
    refine bE ?_;have e15:n=15:=by have:=DT c;injection this with this;lia
    subst e15;have eb:=wN hR;subst eb;exact q _ sm1
   ·have hn':n<15:=by
     rcases Nat.lt_or_ge n 15 with z | z
     ·exact z
     ·have:n=15:=by lia
      subst this;exact absurd (DB rfl) c
    obtain ⟨ak,alt⟩:=wM hn' hR;obtain ⟨ak1,hv1⟩:=uB sm1 ak;refine ⟨_,rfl,x,rfl,ak1,λH2 sm2=>⟨_,rfl,?_⟩⟩;rw [hv1];rcases alt with ⟨hv,eb⟩ | ⟨hv,a,k,r,ex,ha,hl3,hR'⟩
    ·rw [hv];refine bE ?_;subst eb;exact q _ (sm1.trans sm2)
    ·rw [hv];refine bx ?_;subst ex;have sm3:=sm1.trans sm2;refine ⟨_,rfl,_,1,rfl,rfl,?_⟩;have hl2:H2 l=some (.lst ws'):=sm2 _ _ ae;refine ⟨_,rfl,.inl ⟨rfl,_,SqL.of hl2⟩,_,rfl,a,k,r,rfl,sm3 _ _ ha,by lia,λp H3 sm4 hp=>?_⟩;have hl3':H3 l=some (.lst ws'):=sm4 _ _ hl2;have hil:(bo (.str k::r)).length<=3:=by
      show (if (df k).isSome=true then r else []).length<=3;split
      ·exact hl3
      ·exact Er _
     refine ⟨l,p,_,_,rfl,rfl,hl3',SqT.of hp,?_,?_⟩
     ·rw [DA]at hlen;exact EA (aK (by simp at hlen;lia))
     ·refine ⟨⟨ws'++bo (.str k::r),n+1,_,rfl,ae,λc oo h=>?_,by lia,?_,hR'⟩,?_⟩
      ·rw [aj (lne h)];exact sm4 _ _ (sm3 c oo h)
      ·simp at hlen;rw [DA];lia
      ·show 15- ((n:Int) +1).toNat<15- ((n:Int)).toNat;lia
 ·rintro σ H' Q1 Q2 hq ⟨y,e1,k,t,h⟩;exact ⟨y,e1,k,t,hq _ _ h⟩
inductive Ts (H:Hp):List V->List V->Prop where
 | nil:Ts H [] []
 | cons {a:Addr} {k:Str} {r vs out:List V}:H a=some (.tup (.str k::r))->k.length<=1000->r.length<=3->Ts H (bo (.str k::r)++vs) out->Ts H (.ref a::vs) (.ref a::out)
theorem Ts.len {H:Hp} {ws out:List V} (h:Ts H ws out):ws.length<=out.length:=by
 induction h with
 | nil=>exact DI _
 | cons _ _ _ _ ih=>
  rw [DA]at ih;rw [DJ,DJ];lia
def oU:Sp:=λvs H Q _=> ∃ v out,vs=[v]/\Ts H [v] out/\out.length<=1000/\ ∀ p H',Same H H'->H' p=some (.lst out)->Q (.ref p) H'
theorem scTuples:av ["formula","found","waiting","one"] ["formula"] (ah nF):=fsc
theorem uM (F:Fun K "tuples_of" "tuples_of" nF f fd)
  (GI:Cl P w K mg base CX0 1 f2 fd2 ["formula"] nq "inner_of"):
  aX P w K mg base CX0 2 f fd ["formula"] oU:=by
 refine F.okz scTuples λcdv A outer s H vs Q E hr h=>?_;obtain ⟨v,out,rfl,hT,hout,q⟩:=h;refine ⟨_,ad (psz 1 scTuples.nd (bh ac))
  (ad (psz 2 scTuples.nd (bh (aa (pv 0) ac)))
  (ad (kO Ep (pD (pv 2) (λ_=>rfl))
   (ad (psz 3 scTuples.nd (xc Ee PySem.F.slot_list_pop PySem.F.type_list_pop xE (pv 2)))
   (ad (bP (dS Ee EF EG bM (pv 1) (aa (pv 3) ac)))
   (ai (bP (dS Ee EY EZ sZ (pv 2) (aa (pG (pcl GI hr (aa (pv 3) ac)) (gN eE ag)) ac)))))))
  (ai (aw (pv 1))))),?_⟩
 refine ⟨wo,λp1 h1=>?_⟩;refine ⟨_,rfl,qK,λp2 h2=>?_⟩;dsimp only [vQ,mX,eM,tC];have n21:p1≠p2:=λe=>by
  subst e;rw [ae]at h2;cases h2
 have h2':H p2=none:=by rw [aj (EI n21)]at h2;exact h2
 refine ku (λσ H'=> ∃ (ws done rest:List V) (o:Option V),σ=[some v,some (.ref p1),some (.ref p2),o]/\H' p1=some (.lst done)/\H' p2=some (.lst ws.reverse)/\Same H H'/\Ts H ws rest/\done++rest=out)
  (λ_ H'=>match H' p1 with | some (.lst d)=>out.length-d.length | _=>0) ⟨[v],[],out,none,rfl,by rw [aj n21,ae],ae,(am h1 _).trans (am h2 _),hT,rfl⟩ ?_ ?_
 ·rintro σ H' ⟨ws,done,rest,o,rfl,g1,g2,sm,hW,he⟩;refine ⟨_,rfl,_,.inl ⟨ws.reverse,SqL.of g2,rfl⟩,?_⟩;have hle:done.length+rest.length=out.length:=by rw [<- he,DA]
  cases hW with
  | nil=>
   refine bx ?_;refine ⟨_,rfl,?_⟩;rw [En]at he;subst he;exact q _ _ sm g1
  | @cons a k r vs rest' ha hk hr3 ht=>
   have ne:(!((V.ref a::vs).reverse).isEmpty)=true:=by simp
   refine bp (λ_=>?_) (λc=>absurd ne c);rw [Ik]at g2;refine ⟨_,rfl,.inl ⟨rfl,_,SqL.of g2⟩,p2,_,.ref a,rfl,rfl,g2,by simp,?_⟩;rw [List.dropLast_concat];have l1: ∀ {c:Addr} {oo:HO},H c=some oo->c≠p1:=λh=>al h h1;have l2: ∀ {c:Addr} {oo:HO},H c=some oo->c≠p2:=λh=>al h h2';rw [DJ]at hle;refine ⟨_,rfl,.inl ⟨rfl,_,SqL.of (show upd H' p2 (.lst vs.reverse) p1=some (.lst done) by rw [aj n21];exact g1)⟩,_,rfl,p1,done,.ref a,rfl,rfl,by rw [aj n21];exact g1,aK (by lia),?_⟩;have sm1:Same H (upd (upd H' p2 (.lst vs.reverse)) p1 (.lst (done++[.ref a]))):=λc oo h=>by rw [aj (l1 h),aj (l2 h)];exact sm c oo h
   have k2:upd (upd H' p2 (.lst vs.reverse)) p1 (.lst (done++[.ref a])) p2=some (.lst vs.reverse):=by rw [aj (EI n21),ae]
   refine ⟨_,rfl,.inl ⟨rfl,_,SqL.of k2⟩,_,rfl,a,k,r,rfl,sm1 _ _ ha,by lia,λp H3 sm4 hp=>?_⟩;have k1':H3 p1=some (.lst (done++[.ref a])):=sm4 _ _ ae;have k2':H3 p2=some (.lst vs.reverse):=sm4 _ _ k2;have hil:(bo (.str k::r)).length<=3:=by
    show (if (df k).isSome=true then r else []).length<=3;split
    ·exact hr3
    ·exact Er _
   refine ⟨_,rfl,p,_,rfl,rfl,SqT.of hp,λp4 h4=>?_⟩;have n41:p1≠p4:=al k1' h4;have n42:p2≠p4:=al k2' h4;have hlv:=ht.len;rw [DA]at hlv;refine ⟨p2,p4,_,_,rfl,rfl,by rw [aj n42];exact k2',SqT.of ae,?_,?_⟩
   ·rw [E8,E8];exact EA (aK (by lia))
   ·refine ⟨⟨bo (.str k::r)++vs,done++[.ref a],rest',_,rfl,by rw [aj n21,aj n41];exact k1',by rw [ae,List.reverse_append],λc oo h=>?_,ht,by rw [Et];exact he⟩,?_⟩
    ·have h3:=sm4 _ _ (sm1 c oo h);rw [aj (l2 h),aj (al h3 h4)];exact h3
    ·rw [aj n21,aj n41,k1',g1];show out.length- (done++[V.ref a]).length<out.length-done.length;rw [DA,Go];lia
 ·rintro σ H' Q1 Q2 hq ⟨y,e1,k,t,h⟩;exact ⟨y,e1,k,t,hq _ _ h⟩
def RK (ks:List Key):Prop:=(∃ x:Str,ks=[.inr "own",.inr x]/\x.length<=1000)\/ ∃ (i:Int) (x:Str),ks=[.inr "part",.inl i,.inr x]/\x.length<=1000
inductive Tw (H:Hp):List V->List V->List (List Key)->Prop where
 | nil:Tw H [] [] []
 | rd {a:Addr} {ks:List Key} {vs out:List V} {rs:List (List Key)}:H a=some (.tup (ks.map kV))->RK ks->Tw H vs out rs->Tw H (.ref a::vs) (.ref a::out) (ks::rs)
 | num {a:Addr} {r vs out:List V} {rs:List (List Key)}:H a=some (.tup (.str "num"::r))->r.length<=3->Tw H vs out rs->Tw H (.ref a::vs) (.ref a::out) rs
 | inn {a:Addr} {k:Str} {r vs out:List V} {rs:List (List Key)}:H a=some (.tup (.str k::r))->(df k).isSome=true->k.length<=1000->r.length<=3->Tw H (r++vs) out rs->Tw H (.ref a::vs) (.ref a::out) rs
theorem Tw.mono {H H':Hp} {ws out:List V} {rs:List (List Key)} (t:TK H H') (h:Tw H ws out rs):Tw H' ws out rs:=by
 induction h with
 | nil=>exact .nil
 | rd a b _ ih=>exact .rd (t _ _ a) b ih
 | num a b _ ih=>exact .num (t _ _ a) b ih
 | inn a b c d _ ih=>exact .inn (t _ _ a) b c d ih
theorem sR {ks:List Key} (h:RK ks): ∃ (k:Str) (r:List V),ks.map kV=.str k::r/\(k="own"\/k="part")/\r.length<=3/\df k=none:=by
 rcases h with ⟨x,rfl,_⟩ | ⟨i,x,rfl,_⟩
 ·exact ⟨"own",_,rfl,.inl rfl,by simp,im⟩
 ·exact ⟨"part",_,rfl,.inr rfl,by simp,gj⟩
theorem Tw.ts {H:Hp} {ws out:List V} {rs:List (List Key)} (h:Tw H ws out rs):Ts H ws out:=by
 induction h with
 | nil=>exact .nil
 | @rd a ks vs out rs ha hk t ih=>
  obtain ⟨k,r,e,hk2,hl,hi⟩:=sR hk;rw [e]at ha;refine .cons ha ?_ hl ?_
  ·rcases hk2 with rfl | rfl <;> decide +kernel
  ·have:bo (.str k::r)=[]:=by simp only [bo,hi];rfl
   rw [this];exact ih
 | @num a r vs out rs ha hl t ih=>
  refine .cons ha (by decide +kernel) hl ?_;have:bo (.str "num"::r)=[]:=by simp only [bo,jI];rfl
  rw [this];exact ih
 | @inn a k r vs out rs ha hi hk hl t ih=>
  refine .cons ha hk hl ?_;have:bo (.str k::r)=r:=by simp only [bo,hi];rfl
  rw [this];exact ih
inductive Tr (H:Hp):List V->List (List Key)->Prop where
 | nil:Tr H [] []
 | rd {a:Addr} {ks:List Key} {out:List V} {rs:List (List Key)}:H a=some (.tup (ks.map kV))->RK ks->Tr H out rs->Tr H (.ref a::out) (ks::rs)
 | no {a:Addr} {k:Str} {r out:List V} {rs:List (List Key)}:H a=some (.tup (.str k::r))-> ¬ k="own"-> ¬ k="part"->Tr H out rs->Tr H (.ref a::out) rs
theorem Tw.tr {H:Hp} {ws out:List V} {rs:List (List Key)} (h:Tw H ws out rs):Tr H out rs:=by
 induction h with
 | nil=>exact .nil
 | rd a b _ ih=>exact .rd a b ih
 | num a _ _ ih=>exact .no a (by decide +kernel) (by decide +kernel) ih
 | @inn a k r vs out rs ha hi _ _ _ ih=>
  refine .no ha (λe=>?_) (λe=>?_) ih
  ·rw [e,im]at hi;cases hi
  ·rw [e,gj]at hi;cases hi
noncomputable def dd (acc:List (List Key)):List (List Key)->List (List Key)
 | []=>acc
 | k::r=>dd (if k∈acc then acc else acc++[k]) r
theorem yA: ∀ {rs acc:List (List Key)},(dd acc rs).length<=acc.length+rs.length
 | [],acc=>DI _
 | x::r,acc=>by
  have:=yA (rs:=r) (acc:=if x∈acc then acc else acc++[x]);show (dd (if x∈acc then acc else acc++[x]) r).length<=acc.length+ (r.length+1);refine Eh this ?_;split
  ·lia
  ·rw [DA,Go];lia
theorem pZ (kvs:List (List Key×V)) (k:List Key) (v:V):(dj kvs k v).map (·.1)=if k∈kvs.map (·.1)then kvs.map (·.1)else kvs.map (·.1)++[k]:=by
 unfold dj;by_cases h:k∈kvs.map (·.1)
 ·rw [Ea h,Ea,Es]
  ·refine GQ λx _=>?_;show (if x.1=k then (x.1,v)else x).1=x.1;split <;> rfl
  ·obtain ⟨x,hx,e⟩:=DY.mp h;exact Gc.mpr ⟨x,hx,DB e⟩
 ·rw [DU h,DU,Ef]
  ·rfl
  ·intro z;obtain ⟨x,hx,e⟩:=Gc.mp z;exact h (DY.mpr ⟨x,hx,DT e⟩)
theorem jX (k:Str):inV (.str k) [.str "own",.str "part"]=(decide (k="own")||decide (k="part")):=by
 show (("own"==k)||(("part"==k)||false))=_;rw [Bool.or_false];by_cases h1:k="own"
 ·subst h1;decide +kernel
 ·by_cases h2:k="part"
  ·subst h2;decide +kernel
  ·rw [DG h1,DG h2];have e1:(("own":Str)==k)=false:=Fn.mpr λe=>h1 e.symm;have e2:(("part":Str)==k)=false:=Fn.mpr λe=>h2 e.symm;rw [e1,e2]
def sM:Sp:=λvs H Q _=> ∃ v out rs,vs=[v]/\Tw H [v] out rs/\out.length<=1000/\ ∀ p ys H',H p=none->Same H H'->H' p=some (.lst ys)->KsOf H' ys (dd [] rs)->Q (.ref p) H'
theorem scReads:av ["formula","found","one"] ["formula"] (ah qS):=fsc
theorem xq (F:Fun K "readings_of" "readings_of" qS f fd) (hlist:mg "list"=none) (mR:mg "READINGS"=some (.ref aR)) (hR: ∀ H,SqT K H aR [.str "own",.str "part"])
  (GT:Cl P w K mg base CX0 2 f2 fd2 ["formula"] oU "tuples_of"):
  aX P w K mg base CX0 3 f fd ["formula"] sM:=by
 refine F.okz scReads λcdv A outer s H vs Q E hr h=>?_;obtain ⟨v,out,rs,rfl,hT,hout,q⟩:=h;have hu:=hr.units;refine ⟨_,ad (psz 1 scReads.nd pF)
  (ad (cC Ep rfl (km (pcl GT hr (aa (pv 0) ac))) (pgz 2 scReads.nd)
   (ai (aS (aG jG (ax (r:=bc K) aH (pv 2) ag (λ_ _=>rfl)) (aW (v:=.ref aR) rfl mR rfl) (by with_unfolding_all rfl))
    (ai (i9 (mq hr) (pv 1) (pv 2) cx rfl)) aE)))
  (ai (aw (bz (sy rfl) rfl hlist (by decide +kernel) (aa (pv 1) ac))))),?_⟩
 refine λpd hd=>?_;obtain ⟨H0,eW,s0,g0⟩:=nw hd (.dT []);rw [eW];refine ⟨_,rfl,v,out,rfl,(hT.mono (λ_ _ h=>s0 _ _ h)).ts,hout,λp1 H1 s1 h1=>⟨p1,rfl,⟨out,SqL.of h1⟩,?_⟩⟩;have S1:=s0.trans s1;have n1:pd≠p1:=λe=>by
  subst e;have:=s1 _ _ g0;rw [h1]at this;cases this
 refine lj (xs:=out) (λi σ H'=>i<=out.length/\ ∃ o kvs rs',σ=[some v,some (.ref pd),o]/\H' pd=some (.dT kvs)/\H' p1=some (.lst out)/\Same H H'/\Tr H (out.drop i) rs'/\dd (kvs.map (·.1)) rs'=dd [] rs/\kvs.length<=i)
  ⟨Er _,none,[],rs,rfl,s1 _ _ g0,h1,S1,hT.tr,rfl,DI _⟩ (λi σ H' _ h=>by obtain ⟨_,_,_,_,_,_,gp,_⟩:=h;exact SqL.of gp) ?_ ?_
 ·rintro i x σ H' hx ⟨hi,o,kvs,rs',rfl,gd,gp,sm,hTr,hdd,hl⟩;have hlt:i<out.length:=(DH.mp hx).1;have hdr:out.drop i=x::out.drop (i+1):=by
   rw [EU hlt];have:out[i]? =some out[i]:=DD hlt;rw [hx]at this;rw [Ej this]
  rw [hdr]at hTr;cases hTr with
  | @rd a ks _ rs'' ha hk t=>
   obtain ⟨k,r,e,hk2,_,_⟩:=sR hk;have ha':=sm _ _ ha;refine ⟨_,rfl,a,_,0,_,rfl,rfl,SqT.of (by rw [<- e];exact ha'),du,aR,_,rfl,.inr (hR _),rfl,rfl,_,rfl,?_⟩;refine bp (λ_=>?_) (λc=>absurd ?_ c)
   ·refine ⟨_,rfl,_,rfl,pd,_,rfl,DPut.t gd ha' (aK (by lia)),?_⟩;refine ⟨hlt,_,_,rs'',rfl,ae,by rw [aj (EI n1)];exact gp,λc oo h=>by rw [aj (al h hd)];exact sm c oo h,t,?_,?_⟩
    ·rw [pZ];exact hdd
    ·have:=congrArg List.length (pZ kvs ks (.bl true));rw [Dx]at this;rw [this];split
     ·rw [Dx];lia
     ·rw [DA,Dx,Go];lia
   ·show inV (.str k) [.str "own",.str "part"]=true;rw [jX];rcases hk2 with rfl | rfl <;> rfl
  | @no a k r _ _ ha h1' h2' t=>
   refine ⟨_,rfl,a,_,0,_,rfl,rfl,SqT.of (sm _ _ ha),du,aR,_,rfl,.inr (hR _),rfl,rfl,_,rfl,?_⟩;refine bp (λc=>absurd c ?_) (λ_=>?_)
   ·show ¬ inV (.str k) [.str "own",.str "part"]=true;rw [jX,DG h1',DG h2'];decide
   ·exact ⟨hlt,_,_,rs',rfl,gd,gp,sm,t,hdd,by lia⟩
 ·rintro σ H' ⟨_,o,kvs,rs',rfl,gd,gp,sm,hTr,hdd,hl⟩;rw [List.drop_length]at hTr;cases hTr;refine ⟨_,rfl,pd,kvs,rfl,gd,λp ys hp hk=>?_⟩;have e:kvs.map (·.1)=dd [] rs:=hdd;rw [e]at hk;exact q p ys _ (sm.free hp) (λc oo h=>by rw [aj (al (sm c oo h) hp)];exact sm c oo h) ae (hk.mono λb xs h=>by rw [aj (al h hp)];exact h)
def Kp (tp:Addr) (H H':Hp):Prop:= ∀ b o,H b=some o->b≠tp->H' b=some o
theorem Kp.refl {tp:Addr} {H:Hp}:Kp tp H H:=λ_ _ h _=>h
theorem Kp.trans {tp:Addr} {H H1 H2:Hp} (a:Kp tp H H1) (b:Kp tp H1 H2):Kp tp H H2:=λc o h n=>b c o (a c o h n) n
theorem Kp.same {tp:Addr} {H H1 H2:Hp} (a:Kp tp H H1) (b:Same H1 H2):Kp tp H H2:=λc o h n=>b c o (a c o h n)
theorem Kp.tape {tp:Addr} {H:Hp} {o:HO}:Kp tp H (upd H tp o):=λb u h n=>by rw [aj n];exact h
theorem Kp.new {tp p:Addr} {H H1:Hp} {o:HO} (a:Kp tp H H1) (h:H1 p=none):Kp tp H (upd H1 p o):=a.same (am h _)
def Tp (H:Hp) (tp:Addr):Prop:= ∃ t:Int,H tp=some (.lst [.int t])
theorem Kp.tk {tp:Addr} {H H':Hp} (a:Kp tp H H') (t:Tp H tp):TK H H':=λb xs h=>a b _ h λe=>by
 obtain ⟨t,ht⟩:=t;subst e;rw [ht]at h;cases h
theorem Tp.new {H:Hp} {tp p:Addr} {o:HO} (t:Tp H tp) (h:H p=none):Tp (upd H p o) tp:=by
 obtain ⟨t,ht⟩:=t;exact ⟨t,by rw [aj (al ht h)];exact ht⟩
inductive qI (K:W.Frag) (vs:List V) (H:Hp) (Q:VK) (E_:XK):Prop
 | mk: ∀ (a:Addr) (ns:List Int) (k:Int),(vs=[.ref a,.int k])->(SqL K H a (ns.map V.int))->(ns.length<=63)->(0<=k)->(∀ c:Int,Q (.int c) H)->qI K vs H Q E_
inductive jx (K:W.Frag) (vs:List V) (H:Hp) (Q:VK) (E_:XK):Prop
 | mk: ∀ (a:Addr) (ns:List Int) (k:Int),(vs=[.ref a,.int k])->(SqL K H a (ns.map V.int))->(ns.length<=63)->(0<=k)->(k<1000)->(∀ p t,H p=none->Q (.ref p) (upd H p (.lst [.int t])))->jx K vs H Q E_
inductive br  (vs:List V) (H:Hp) (Q:VK) (E_:XK):Prop
 | mk: ∀ (tp:Addr) (m:Int),(vs=[.ref tp,.int m])->(Tp H tp)->(0<m)->(m<1073741824)->(∀ d t:Int,0<=d->d<m->Q (.int d) (upd H tp (.lst [.int t])))->br vs H Q E_
inductive iO  (vs:List V) (H:Hp) (Q:VK) (E_:XK):Prop
 | mk: ∀ tp,(vs=[.ref tp])->(Tp H tp)->(∀ (n:Int) H',-999999<=n->n<=999999->Kp tp H H'->Tp H' tp->Q (.int n) H')->iO vs H Q E_
theorem A1:av ["script","k"] ["script","k"] (ah wH):=fsc
theorem zG (F:Fun K "_law_cell_at" "_law_cell_at" wH f fd) (G:Gb mg):aX P w K mg base CX0 1 f fd ["script","k"] (qI K):=by
 refine F.okz A1 λcdv A outer s H vs Q E hr h=>?_;obtain ⟨a,ns,k,rfl,hS,hl,hk,q⟩:=h;refine ⟨_,ad (aS (aG jc (pv 1) (ao (r:=bU K) au rfl G.len DV (aa (pv 0) ac)) (aJ _)) (ai (aw (ax (r:=bO K) aL (pv 0) (pv 1) (λ_ _=>rfl)))) aE) (ai (aw ag)),?_⟩;refine ⟨_,rfl,_,rfl,a,_,rfl,.inl hS,_,_,rfl,rfl,_,rfl,?_⟩;refine bp (λc=>?_) (λc=>?_)
 ·have c':k< (((ns.map V.int).length:Nat):Int):=DT c;rw [Dx]at c';have hk':k.toNat<ns.length:=by lia
  have e:atI (ns.map V.int) k=some (V.int ns[k.toNat]):=by
   have ek:k=((k.toNat:Nat):Int):=by lia
   have q:atI (ns.map V.int) ((k.toNat:Nat):Int)=some (V.int ns[k.toNat]):=aM (by rw [DP,DD hk'] <;> rfl);rw [<- ek]at q;exact q
  exact ⟨_,rfl,_,rfl,a,_,k,_,rfl,rfl,hS,e,q _⟩
 ·exact q 0
theorem scTape:av ["script","k","cell","p","one","two","three","four"] ["script","k"] (ah wA):=fsc
theorem zB (F:Fun K "_law_tape" "_law_tape" wA f fd) (GC:Cl P w K mg base CX0 1 g gd ["script","k"] (qI K) "_law_cell_at"):
  aX P w K mg base CX0 2 f fd ["script","k"] (jx K):=by
 refine F.okz scTape λcdv A outer s H vs Q E hr h=>?_;obtain ⟨a,ns,k,rfl,hS,hl,hk,hk2,q⟩:=h;refine ⟨_,ad (psz 2 scTape.nd (pcl GC hr (aa (pv 0) (aa (pv 1) ac))))
  (ad (aS (aG bJ (aF cZ (pv 2) ag) ag (aJ _)) (ai (aw (bh (aa (aF nX (pv 2) ag) ac)))) aE)
  (ad (psz 3 scTape.nd ag)
  (ad (psz 4 scTape.nd (aF cZ (aF bn (aF bn (aF dM (aF cZ (pv 2) (pv 3)) ag) (aF dM ag (pv 1))) ag) (pv 3)))
  (ad (psz 5 scTape.nd (aF cZ (aF bn (aF bn (aF dM (pv 4) (pv 4)) (aF dM ag (pv 1))) (pv 4)) (pv 3)))
  (ad (psz 6 scTape.nd (aF cZ (aF bn (aF dM (pv 5) (pv 5)) (pv 4)) (pv 3)))
  (ad (psz 7 scTape.nd (aF cZ (aF bn (aF dM (pv 6) (pv 6)) (pv 5)) (pv 3)))
  (ai (aw (bh (aa (aF bn (aF dM (aF bn (aF dM (aF bn (aF dM (pv 4) (pv 3)) (pv 5)) (pv 3)) (pv 6)) (pv 3)) (pv 7)) ac)))))))))),?_⟩
 refine ⟨_,rfl,_,rfl,a,ns,k,rfl,hS,hl,hk,λc=>?_⟩;refine ⟨_,rfl,_,_,rfl,rfl,(by show (0:Int) <2;decide),rfl,_,rfl,?_⟩;refine bp (λ_=>?_) (λ_=>?_)
 ·exact ⟨_,rfl,_,_,rfl,rfl,⟨by decide,by decide⟩,qK,λp hp=>q p _ hp⟩
 have hp0:(0:Int) <2305843009213693951:=by decide
 have mm: ∀ x:Int,-(2^64) <x%2305843009213693951/\x%2305843009213693951<2^64:=λx=>by
  have h1:=Fu x (show (2305843009213693951:Int)≠0 by decide);have h2:=E6 x hp0;lia
 have hkk: -(2^64) <k/\k<2^64:=by lia
 have hpp:(-(2^64):Int) <2305843009213693951/\(2305843009213693951:Int) <2^64:=by decide
 refine ⟨_,rfl,_,rfl,_,_,rfl,rfl,hp0,_,_,rfl,rfl,.inl (mm _),_,rfl,_,_,rfl,rfl,.inr hkk,_,_,rfl,rfl,_,_,rfl,rfl,_,rfl,_,_,rfl,rfl,hp0,?_⟩;refine ⟨_,rfl,_,rfl,_,_,rfl,rfl,.inl (mm _),_,rfl,_,_,rfl,rfl,.inr hkk,_,_,rfl,rfl,_,rfl,_,_,rfl,rfl,_,rfl,_,_,rfl,rfl,hp0,?_⟩;refine ⟨_,rfl,_,rfl,_,_,rfl,rfl,.inl (mm _),_,rfl,_,_,rfl,rfl,_,rfl,_,_,rfl,rfl,hp0,?_⟩;refine ⟨_,rfl,_,rfl,_,_,rfl,rfl,.inl (mm _),_,rfl,_,_,rfl,rfl,_,rfl,_,_,rfl,rfl,hp0,?_⟩;refine ⟨_,rfl,_,rfl,_,_,rfl,rfl,.inr hpp,_,rfl,_,_,rfl,rfl,_,rfl,_,_,rfl,rfl,.inr hpp,_,rfl,_,_,rfl,rfl,_,rfl,_,_,rfl,rfl,.inr hpp,_,rfl,_,_,rfl,rfl,qK,λp hp=>q p _ hp⟩
theorem scDigit:av ["tape","many","found"] ["tape","many"] (ah qY):=fsc
theorem xA (F:Fun K "_law_digit" "_law_digit" qY f fd):aX P w K mg base CX0 1 f fd ["tape","many"] br:=by
 refine F.okz scDigit λcdv A outer s H vs Q E hr h=>?_;obtain ⟨tp,m,rfl,⟨t,ht⟩,hm,hm2,q⟩:=h;refine ⟨_,ad (psz 2 scDigit.nd (aF cZ (ax (r:=bO K) aL (pv 0) ag (λ_ _=>rfl)) (pv 1)))
  (ad (eJ (aF nX (ax (r:=bO K) aL (pv 0) ag (λ_ _=>rfl)) (pv 1)) (wX (pv 0) ag pf))
  (ai (aw (pv 2)))),?_⟩
 refine ⟨_,rfl,tp,_,0,_,rfl,rfl,SqL.of ht,du,_,rfl,_,_,rfl,rfl,hm,?_⟩;refine ⟨_,rfl,tp,_,0,_,rfl,rfl,SqL.of ht,du,_,rfl,_,_,rfl,rfl,⟨hm,hm2⟩,?_⟩;refine ⟨_,rfl,tp,_,0,0,rfl,rfl,ht,rfl,?_⟩;exact ⟨_,rfl,q (t%m) (t/m) (Fu _ (by lia)) (E6 _ hm)⟩
theorem scNumber:av ["tape","way"] ["tape"] (ah nH):=fsc
theorem uO (F:Fun K "_law_number" "_law_number" nH f fd) (GD:Cl P w K mg base CX0 1 g gd ["tape","many"] br "_law_digit"):
  aX P w K mg base CX0 2 f fd ["tape"] iO:=by
 refine F.okz scNumber λcdv A outer s H vs Q E hr h=>?_;obtain ⟨tp,rfl,hT,q⟩:=h;refine ⟨_,ad (psz 1 scNumber.nd (pcl GD hr (aa (pv 0) (aa ag ac))))
  (ad (aS (aG jc (pv 1) ag (aJ _)) (ai (aw (pv 1))) aE)
  (ai (aw (ax (r:=bO K) aL (bh (aa (gN eE ag) (aa (aF fX (pcl GD hr (aa (pv 0) (aa ag ac))) ag)
   (aa (aF fX (pcl GD hr (aa (pv 0) (aa ag ac))) ag) ac)))) (aF fX (pv 1) ag) (λ_ _=>rfl))))),?_⟩
 refine ⟨_,rfl,tp,6,rfl,hT,by decide,by decide,λd t h0 h1=>?_⟩;refine ⟨_,rfl,_,_,rfl,rfl,_,rfl,?_⟩;refine bp (λc=>?_) (λc=>?_)
 ·exact ⟨_,rfl,q d _ (by lia) (by lia) Kp.tape ⟨t,ae⟩⟩
 have c':3<=d:=by
  rcases Int.lt_or_le d 3 with z | z
  ·exact absurd (DB z) c
  ·exact z
 refine ⟨_,rfl,_,rfl,tp,1001,rfl,⟨t,ae⟩,by decide,by decide,λd2 t2 h20 h21=>?_⟩;refine ⟨_,_,rfl,rfl,_,rfl,tp,1999999,rfl,⟨t2,ae⟩,by decide,by decide,λd3 t3 h30 h31=>?_⟩;refine ⟨_,_,rfl,rfl,oZ,λp hp=>?_⟩;rw [dW,dW]at hp ⊢;have hd:d=3\/d=4\/d=5:=by lia
 have fin: ∀ n:Int,-999999<=n->n<=999999->Q (.int n) (upd (upd H tp (.lst [.int t3])) p (.lst [.int (-1),.int (d2-500),.int (d3-999999)])):=λn h1 h2=>
  q n _ h1 h2 (Kp.tape.new hp) (Tp.new ⟨t3,ae⟩ hp)
 rcases hd with rfl | rfl | rfl
 ·exact ⟨_,rfl,_,_,rfl,rfl,p,_,0,_,rfl,rfl,SqL.of ae,du,fin _ (by lia) (by lia)⟩
 ·exact ⟨_,rfl,_,_,rfl,rfl,p,_,1,_,rfl,rfl,SqL.of ae,Ao,fin _ (by lia) (by lia)⟩
 ·exact ⟨_,rfl,_,_,rfl,rfl,p,_,2,_,rfl,rfl,SqL.of ae,CN,fin _ (by lia) (by lia)⟩
theorem oF {α:Type} {xs:List α} {d:Int} (h0:0<=d) (h1:d<xs.length): ∃ x,atI xs d=some x/\xs[d.toNat]? =some x:=by
 have hk:d.toNat<xs.length:=by lia
 have ek:d=((d.toNat:Nat):Int):=by lia
 have q:atI xs ((d.toNat:Nat):Int)=some xs[d.toNat]:=aM (DD hk);rw [<- ek]at q;exact ⟨_,q,DD hk⟩
theorem lZ (z:Str) {j:Int} (h0:0<=j) (h1:j<=z.length):((Txt.slice z none (some j)).length:Int)=j:=by
 rcases PyProof.Rows.slice_ns_cases z j h0 with ⟨_,h⟩ | ⟨h,_⟩
 ·exact h
 ·lia
noncomputable def letters:Str:="abcdefghijklmnopqrstuvwxyz"
theorem pU:letters.cps.toList.all iH=true:=by decide +kernel
theorem jW:letters.length=26:=by decide +kernel
theorem vf {d:Int} (h0:0<=d) (h1:d<26): ∃ c,atI letters.cps.toList d=some c/\iH c=true:=by
 have hl:letters.cps.toList.length=26:=by decide +kernel
 obtain ⟨c,e,e2⟩:=oF (xs:=letters.cps.toList) h0 (by rw [hl];lia);exact ⟨c,e,Ed.mp pU c (DC e2)⟩
theorem Ap (x y:Str):(x++y).length=x.length+y.length:=by
 show (x.cps++y.cps).size=_;rw [Array.size_append];rfl
def names13:List Str:=["own","up","down","min","max","of","top","form","sort","wheel","book","tree","ok"]
theorem aneq:(Txt.slice "aneqoubi" none (some 7)).length=7/\(Txt.slice "aneqoubi" none (some 7)).cps.toList.all iH=true:=by decide +kernel
theorem tI:("eyzmopq":Str).length=7:=by decide +kernel
theorem Tp.same {H H':Hp} {tp:Addr} (t:Tp H tp) (s:Same H H'):Tp H' tp:=by
 obtain ⟨t0,e⟩:=t;exact ⟨t0,s _ _ e⟩
noncomputable def pV (d:Int):Nat:=(atI letters.cps.toList d).getD 0
noncomputable def fL (tu:Int):Str:=(⟨#[pV tu]⟩:Str)++Txt.slice "aneqoubi" none (some 7)
noncomputable def nm0 (tu:Int) (i:Nat):Str:=if (0+ (i:Int)) <8 then Txt.slice (fL tu) none (some (0+ (i:Int) +1))else (⟨#[pV ((tu+1) %26)]⟩:Str)++Txt.slice (fL tu) none (some (0+ (i:Int) -8))
noncomputable def nm1 (tu:Int) (i:Nat):Str:=((names13)[((tu+ (0+ (i:Int))) %13).toNat]?).getD ""
noncomputable def nm2 (tu:Int) (i:Nat):Str:=(⟨#[pV ((tu+ (0+ (i:Int))) %26)]⟩:Str)++Txt.slice "eyzmopq" none (some ((tu+3* (0+ (i:Int))) %8))
noncomputable def je (way:Nat) (tu:Int) (i:Nat):Str:=if way=0 then nm0 tu i else if way=1 then nm1 tu i else nm2 tu i
def NamesAre (m:Nat) (ws:List Str):Prop:= ∃ (way tu:Nat) (back:Bool),way<3/\tu<26/\ws=(if back=true then ((List.range m).map (je way tu)).reverse else (List.range m).map (je way tu))
inductive iP  (vs:List V) (H:Hp) (Q:VK) (E_:XK):Prop
 | mk: ∀ tp m,(vs=[.ref tp,.int m])->(Tp H tp)->(0<=m)->(m<=13)->(∀ l (ws:List Str) H',H' l=some (.lst (ws.map V.str))->(ws.length:Int)=m->NamesAre m.toNat ws->l≠tp->Kp tp H H'->Tp H' tp->Q (.ref l) H')->iP vs H Q E_
theorem og {d:Int} (h0:0<=d) (h1:d<26):atI letters.cps.toList d=some (pV d):=by
 obtain ⟨c,e,_⟩:=vf h0 h1;unfold pV;rw [e];rfl
theorem vV (tu:Int):(fL tu).length=8:=by unfold fL;rw [Ap,aneq.1];rfl
theorem scNamesX:av ["tape","many","letters","way","turn","back","stem","names","words"] ["tape","many"] (ah gJ):=fsc
theorem uP (F:Fun K "_law_names" "_law_names" gJ f fd) (G:Gb mg) (GD:Cl P w K mg base CX0 1 g gd ["tape","many"] br "_law_digit"):
  aX P w K mg base CX0 2 f fd ["tape","many"] iP:=by
 refine F.okz scNamesX λcdv A outer s H vs Q E hr h=>?_;obtain ⟨tp,m,rfl,hT,hm0,hm1,q⟩:=h;obtain ⟨t,ht,hread⟩: ∃ t,PSs (dv CX0 P w K mg base ["tape","many","letters","way","turn","back","stem","names","words"] "_law_names" (ah gJ) f cdv A outer s H E).nox ((aO gJ).drop 5) t/\
   ∀ (b:Int) (l:Addr) (way tu:Nat) (H2:Hp) (o2 o3 o4 o6 o8:Option V),(b=1\/b= -1)->way<3->tu<26->H2 l=some (.lst (((List.range m.toNat).map (je way tu)).map V.str))->Kp tp H H2->Tp H2 tp->
    t {nx:=λ_ H'=>Q .non H',rt:=Q} [some (.ref tp),some (.int m),o2,o3,o4,some (.int b),o6,some (.ref l),o8] H2:=by
  refine ⟨_,ai (aw (zm (pv 7) (pv 5))),λb l way tu H2 o2 o3 o4 o6 o8 hb hw1 hw2 hl k2 t2=>?_⟩;have hlen:(((List.range m.toNat).map (je way tu)).length:Int)=m:=by rw [Dx,F1];lia
  refine ⟨_,rfl,_,rfl,l,_,b,rfl,rfl,SqL.of hl,by lia,λp hp=>?_⟩;have hpt:p≠tp:=λe=>by
   obtain ⟨t0,e0⟩:=t2;subst e;rw [e0]at hp;cases hp
  rcases hb with rfl | rfl
  ·rw [um];exact q p _ _ ae hlen ⟨way,tu,false,hw1,hw2,rfl⟩ hpt (k2.new hp) (t2.new hp)
  ·rw [uq,<- Iz];exact q p _ _ ae (by rw [E8];exact hlen) ⟨way,tu,true,hw1,hw2,rfl⟩ hpt (k2.new hp) (t2.new hp)
 have cw: ∀ {te:TE} {fr:List Nat} {σ:St} {H2:Hp} {Q2:VK} (g:Nat->Str),(∀ (i:Nat) (H3:Hp) (k:VK),(i:Int) <m->k (.str (g i)) H3->te (some (.int (0+i))::bV fr σ) H3 k)->
   (∀ p,H2 p=none->Q2 (.ref p) (upd H2 p (.lst (((List.range m.toNat).map g).map V.str))))->fb fr te σ (Itr 0 m.toNat) H2 Q2:=by
  intro te fr σ H2 Q2 g hs hd;refine fH (n:=m.toNat) (R:=λi v=>v=.int (0+i)) (by lia) on jg ko
   (λp i zs H'=>H'=upd H2 p (.lst zs)/\zs=((List.range i).map g).map V.str) (λp hp=>⟨rfl,rfl⟩) ?_ ?_ ?_
  ·rintro p i zs H' ⟨rfl,rfl⟩;exact ⟨ae,by rw [Dx,Dx,F1]⟩
  ·rintro p i zs H' v k hp hi rfl ⟨rfl,rfl⟩ hk;exact hs i _ k (by lia) (hk (.str (g i)) _ ae ⟨dW,by rw [List.range_succ];simp⟩)
  ·rintro p zs H' hp ⟨rfl,rfl⟩;exact hd p hp
 refine ⟨_,ad (cY (i:=2) scNamesX.nd rfl (Or.inr rfl) aV)
  (ad (psz 3 scNamesX.nd (pcl GD hr (aa (pv 0) (aa ag ac))))
  (ad (cY (i:=4) scNamesX.nd rfl (Or.inr rfl) (pcl GD hr (aa (pv 0) (aa ag ac))))
  (ad (psz 5 scNamesX.nd (aF fX ag (aF dM ag (pcl GD hr (aa (pv 0) (aa ag ac))))))
  (ad (aS (aG bJ (pv 3) ag (aJ _))
   (ad (cY (i:=6) scNamesX.nd rfl (Or.inr rfl) (aF iF (ax rQ (pv 2) (pv 4) (λ_ _=>rfl)) (bw ny aV cg (bI ag))))
   (ai (fW (i:=7) (sc0:=ah gJ) (N0:=["tape","many","letters","way","turn","back","stem","names","words"]) (ys:=["letters","stem","turn"]) (fr:=[2,6,4]) rfl scNamesX.nd rfl (Or.inl rfl) (bL rfl G.range (aa (pv 1) ac)) rfl rfl
    csc
    (λC s H ex=>ja (aG jc (pv 0) ag (aJ _)) (bw ny (pv 2) cg (bI (aF bn (pv 0) ag)))
     (aF iF (ax rQ (pv 1) (aF cZ (aF bn (pv 3) ag) ag) (λ_ _=>rfl)) (bw ny (pv 2) cg (bI (aF fX (pv 0) ag))))))))
   (ai (aS (aG bJ (pv 3) ag (aJ _))
    (@ad _ _ _ _ _ (@zh _ 8 _ _ (names13.map V.str) _ _ _ scNamesX.nd rfl (Or.inr rfl) (Or.inl rfl) rfl)
    (ai (fW (i:=7) (sc0:=ah gJ) (N0:=["tape","many","letters","way","turn","back","stem","names","words"]) (ys:=["turn","words"]) (fr:=[4,8]) rfl scNamesX.nd rfl (Or.inl rfl) (bL rfl G.range (aa (pv 1) ac)) rfl rfl
     csc
     (λC s H ex=>ax (r:=bO K) aL (pv 2) (aF cZ (aF bn (pv 1) (pv 0)) ag) (λ_ _=>rfl)))))
    (ai (fW (i:=7) (sc0:=ah gJ) (N0:=["tape","many","letters","way","turn","back","stem","names","words"]) (ys:=["letters","turn"]) (fr:=[2,4]) rfl scNamesX.nd rfl (Or.inl rfl) (bL rfl G.range (aa (pv 1) ac)) rfl rfl
     csc
     (λC s H ex=>aF iF (ax rQ (pv 1) (aF cZ (aF bn (pv 2) (pv 0)) ag) (λ_ _=>rfl)) (bw ny aV cg (bI (aF cZ (aF bn (pv 2) (aF dM ag (pv 0))) ag)))))))))
  ht)))),?_⟩
 refine ⟨_,rfl,tp,3,rfl,hT,by decide,by decide,λwy t1 hw0 hw1=>?_⟩;refine ⟨_,rfl,tp,26,rfl,⟨t1,ae⟩,by decide,by decide,λtu t2 htu0 htu1=>?_⟩;rw [dW];refine ⟨_,rfl,tp,2,rfl,⟨t2,ae⟩,by decide,by decide,λbk t3 hb0 hb1=>?_⟩;rw [dW];refine ⟨2,_,rfl,rfl,.inl ⟨by decide,by decide⟩,1,_,rfl,rfl,?_⟩;have hb:(1-2*bk=1\/1-2*bk= -1):=by lia
 have k3:Kp tp H (upd H tp (.lst [.int t3])):=Kp.tape;have tt3:Tp (upd H tp (.lst [.int t3])) tp:=⟨t3,ae⟩;generalize upd H tp (.lst [.int t3])=H3 at k3 tt3 ⊢;have l26:(letters.length:Int)=26:=by rw [jW];rfl
 have lsz:letters.length<=sizeLine:=by rw [jW];exact EA (aK (by decide))
 refine ⟨_,rfl,rfl,_,rfl,?_⟩;refine bp (λc=>?_) (λc=>?_)
 ·-- stems
  have hwy:wy=0:=V.int.inj (DT c);have ec0:=og htu0 htu1;refine ⟨_,rfl,_,rfl,letters,tu,pV tu,rfl,rfl,lsz,ec0,7,rfl,"aneqoubi",rfl,(by decide +kernel),_,_,rfl,rfl,?_,?_⟩
  ·rw [aneq.1];show 1+7<=sizeLine;exact EA (aK (by decide))
  have zl:=vV tu;have zsz:(fL tu).length<=sizeLine:=by rw [zl];exact EA (aK (by decide))
  refine ⟨_,rfl,m,rfl,by lia,by lia,?_⟩;refine cw (nm0 tu) ?_ ?_
  ·intro i H4 k hi hk;refine ⟨_,rfl,_,_,rfl,rfl,_,rfl,?_⟩;refine bp (λci=>?_) (λci=>?_)
   ·have ci':(0+ (i:Int)) <8:=DT ci;refine ⟨_,rfl,_,rfl,_,_,rfl,rfl,_,rfl,fL tu,rfl,zsz,?_⟩;unfold nm0 at hk;rw [Ea ci']at hk;exact hk
   ·have ci': ¬ (0+ (i:Int)) <8:=λy=>ci (DB y);have ec1:=og (d:=(tu+1) %26) (Fu _ (by decide)) (E6 _ (by decide));have e:=lZ (fL tu) (j:=0+ (i:Int) -8) (by lia) (by rw [zl];lia);unfold nm0 at hk;rw [DU ci']at hk;refine ⟨_,rfl,_,rfl,_,_,rfl,rfl,_,_,rfl,rfl,(by show (0:Int) <26;decide),letters,_,pV ((tu+1) %26),rfl,rfl,lsz,ec1,_,rfl,_,rfl,_,_,rfl,rfl,_,rfl,fL tu,rfl,zsz,_,_,rfl,rfl,?_,hk⟩;show 1+ (Txt.slice (fL tu) none (some (0+ (i:Int) -8))).length<=sizeLine;exact EA (aK (by lia))
  ·intro p hp;have etu:((tu.toNat:Nat):Int)=tu:=by lia
   refine hread (1-2*bk) p 0 tu.toNat _ _ _ _ _ _ hb (by decide) (by lia) ?_ (k3.new hp) (tt3.new hp);rw [etu];exact ae
 ·refine ⟨_,rfl,rfl,_,rfl,?_⟩;refine bp (λc2=>?_) (λc2=>?_)
  ·-- written words
   refine ⟨(by show 13<=sizeLine;decide),λpw hpw=>?_⟩;refine ⟨_,rfl,m,rfl,by lia,by lia,?_⟩;have s4:Same H3 (upd H3 pw (.lst (names13.map V.str))):=am hpw _;have g4:(upd H3 pw (.lst (names13.map V.str))) pw=some (.lst (names13.map V.str)):=ae;have k4:Kp tp H (upd H3 pw (.lst (names13.map V.str))):=k3.same s4;have tt4:Tp (upd H3 pw (.lst (names13.map V.str))) tp:=tt3.new hpw;generalize upd H3 pw (.lst (names13.map V.str))=H4 at s4 g4 k4 tt4 ⊢;refine fH (n:=m.toNat) (R:=λi v=>v=.int (0+i)) (by lia) on jg ko
    (λp i zs H'=>H'=upd H4 p (.lst zs)/\H4 p=none/\zs=((List.range i).map (nm1 tu)).map V.str) (λp hp=>⟨rfl,hp,rfl⟩) ?_ ?_ ?_
   ·rintro p i zs H' ⟨rfl,_,rfl⟩;exact ⟨ae,by rw [Dx,Dx,F1]⟩
   ·rintro p i zs H' v k hp hi rfl ⟨rfl,hp4,rfl⟩ hk;have h1:=Fu (tu+ (0+ (i:Int))) (show (13:Int)≠0 by decide);have h2:=E6 (tu+ (0+ (i:Int))) (show (0:Int) <13 by decide);obtain ⟨xv,ex,ex2⟩:=oF (xs:=names13.map V.str) h1 (by rw [Dx];exact h2);have exv:xv=.str (nm1 tu i):=by
     rw [DP]at ex2;unfold nm1;cases hx:names13[((tu+ (0+ (i:Int))) %13).toNat]? with
     | none=>rw [hx]at ex2;cases ex2
     | some y=>rw [hx]at ex2;exact (Ej ex2).symm
    subst exv;have g5:(upd H4 p (.lst (((List.range i).map (nm1 tu)).map V.str))) pw=some (.lst (names13.map V.str)):=by rw [aj (al g4 hp4)];exact g4
    refine ⟨_,rfl,_,rfl,_,rfl,_,_,rfl,rfl,_,_,rfl,rfl,(by show (0:Int) <13;decide),pw,_,_,_,rfl,rfl,SqL.of g5,ex,?_⟩;exact hk _ _ ae ⟨dW,hp4,by rw [List.range_succ];simp⟩
   ·rintro p zs H' hp ⟨rfl,hp4,rfl⟩;have etu:((tu.toNat:Nat):Int)=tu:=by lia
    refine hread (1-2*bk) p 1 tu.toNat _ _ _ _ _ _ hb (by decide) (by lia) ?_ (k4.new hp4) (tt4.new hp4);rw [etu];exact ae
  ·-- a letter and a tail
   refine ⟨_,rfl,m,rfl,by lia,by lia,?_⟩;refine cw (nm2 tu) ?_ ?_
   ·intro i H4 k hi hk;have ec1:=og (d:=(tu+ (0+ (i:Int))) %26) (Fu _ (by decide)) (E6 _ (by decide));have h1:=Fu (tu+3* (0+ (i:Int))) (show (8:Int)≠0 by decide);have h2:=E6 (tu+3* (0+ (i:Int))) (show (0:Int) <8 by decide);have e:=lZ "eyzmopq" (j:=(tu+3* (0+ (i:Int))) %8) h1 (by rw [tI];lia);refine ⟨_,rfl,_,rfl,_,rfl,_,_,rfl,rfl,_,_,rfl,rfl,(by show (0:Int) <26;decide),letters,_,pV ((tu+ (0+ (i:Int))) %26),rfl,rfl,lsz,ec1,_,rfl,_,rfl,3,_,rfl,rfl,.inl ⟨by decide,by decide⟩,_,_,rfl,rfl,_,_,rfl,rfl,(by show (0:Int) <8;decide),_,rfl,"eyzmopq",rfl,(by rw [tI];exact EA (aK (by decide))),_,_,rfl,rfl,?_,hk⟩
    ·show 1+ (Txt.slice "eyzmopq" none (some ((tu+3* (0+ (i:Int))) %8))).length<=sizeLine;exact EA (aK (by lia))
   ·intro p hp;have etu:((tu.toNat:Nat):Int)=tu:=by lia
    refine hread (1-2*bk) p 2 tu.toNat _ _ _ _ _ _ hb (by decide) (by lia) ?_ (k3.new hp) (tt3.new hp);rw [etu];exact ae
theorem gX (xs:List V) {j:Int} (h0:0<=j) (h1:j<=xs.length):eQ xs none (some j)=xs.take j.toNat:=by
 have ej:j=((j.toNat:Nat):Int):=by lia
 have e:HT.sIx xs.length xs.length (some j)=j.toNat:=by
  rw [ej,HT.sIx_nat];lia
 unfold eQ;rw [e,HT.sIx_none,List.drop_zero,Nat.sub_zero]
theorem lx (xs:List V) {j:Int} (h0:0<=j) (h1:j<=xs.length):eQ xs (some j) none=xs.drop j.toNat:=by
 have ej:j=((j.toNat:Nat):Int):=by lia
 have e:HT.sIx xs.length 0 (some j)=j.toNat:=by
  rw [ej,HT.sIx_nat];lia
 unfold eQ;rw [e,HT.sIx_none];apply EL;rw [FA];lia
theorem AW {xs:List V} {j:Nat} (h:j+2<=xs.length): ∃ a x y b,xs=a++x::y::b/\a.length=j/\xs.take j=a/\xs.drop (j+2)=b:=by
 refine ⟨xs.take j,xs[j],xs[j+1],xs.drop (j+2),?_,by rw [DX];lia,rfl,rfl⟩;rw [<- EU (by lia),<- EU (by lia),Fw]
theorem AV {xs:List V} {j:Nat} (h:j+3<=xs.length): ∃ a x y z b,xs=a++x::y::z::b/\a.length=j/\xs.take j=a/\xs.drop (j+3)=b:=by
 refine ⟨xs.take j,xs[j],xs[j+1],xs[j+2],xs.drop (j+3),?_,by rw [DX];lia,rfl,rfl⟩;rw [<- EU (by lia),<- EU (by lia),<- EU (by lia),Fw]
theorem lI {a b:List V} {x:V} {d:Int} (h:d=(a.length:Int)):atI (a++x::b) d=some x:=by
 subst h;exact aM (by rw [Fh (DI _),ID];rfl)
theorem BP {A B R:Prop} {c1 c2:Bool} (hr:(if c2=true then A else B)->R) (h1:c1=true->c2=true->A) (h2: ¬ (c1=true/\c2=true)->B):if c1=true then R else (if false=true then A else B):=by
 cases c1 with
 | true=>
  rw [Ea rfl];apply hr;cases c2 with
  | true=>rw [Ea rfl];exact h1 rfl rfl
  | false=>exact bx (h2 λz=>DM z.2)
 | false=>exact bx (bx (h2 λz=>DM z.1))
noncomputable def Fm.wfp (ρ:Fm->Prop):Fm->Prop
 | .num n=> -999999<=n/\n<=999999
 | .own x=>aY x=true/\ρ (.own x)
 | .part k x=>((0<=k/\k<=2)/\aY x=true)/\ρ (.part k x)
 | .bin op a b=>op∈ops/\a.wfp ρ/\b.wfp ρ
 | .whn a b c=>a.wfp ρ/\b.wfp ρ/\c.wfp ρ
theorem Fm.wfp.wf {ρ:Fm->Prop}: ∀ {f:Fm},f.wfp ρ->f.wf
 | .num _,h=>h
 | .own _,h=>h.1
 | .part _ _,h=>h.1
 | .bin _ _ _,h=>⟨h.1,Fm.wfp.wf h.2.1,Fm.wfp.wf h.2.2⟩
 | .whn _ _ _,h=>⟨Fm.wfp.wf h.1,Fm.wfp.wf h.2.1,Fm.wfp.wf h.2.2⟩
inductive FsP (ρ:Fm->Prop) (H:Hp):List V->Nat->Prop where
 | nil:FsP ρ H [] 0
 | cons {v:V} {f:Fm} {vs:List V} {n:Nat}:Rep H f v->f.wfp ρ->FsP ρ H vs n->FsP ρ H (v::vs) (f.size+n)
theorem FsP.append {ρ:Fm->Prop} {H:Hp} {xs ys:List V} {m n:Nat} (a:FsP ρ H xs m) (b:FsP ρ H ys n):FsP ρ H (xs++ys) (m+n):=by
 induction a with
 | nil=>rw [Nat.zero_add];exact b
 | cons r w _ ih=>rw [Iq];exact .cons r w ih
theorem FsP.split {ρ:Fm->Prop} {H:Hp}: ∀ {xs ys:List V} {n:Nat},FsP ρ H (xs++ys) n-> ∃ a b,FsP ρ H xs a/\FsP ρ H ys b/\n=a+b
 | [],ys,n,h=>⟨0,n,.nil,h,by lia⟩
 | x::r,ys,n,h=>by
  cases h with
  | cons rp wf t=>
   obtain ⟨a,b,h1,h2,e⟩:=FsP.split t;exact ⟨_,b,.cons rp wf h1,h2,by lia⟩
theorem FsP.mono {ρ:Fm->Prop} {H H':Hp} (t:TK H H') {xs:List V} {n:Nat} (h:FsP ρ H xs n):FsP ρ H' xs n:=by
 induction h with
 | nil=>exact .nil
 | cons r w _ ih=>exact .cons (r.mono t) w ih
def LvsP (ρ:Fm->Prop) (H:Hp) (rs:List V):Prop:= ∀ v∈rs,∃ f,Rep H f v/\f.wfp ρ/\f.size=1
theorem LvsP.mono {ρ:Fm->Prop} {H H':Hp} (t:TK H H') {rs:List V} (h:LvsP ρ H rs):LvsP ρ H' rs:=λv hv=>by
 obtain ⟨f,r,w,s⟩:=h v hv;exact ⟨f,r.mono t,w,s⟩
inductive nn (ρ:Fm->Prop) (vs:List V) (H:Hp) (Q:VK) (E_:XK):Prop
 | mk: ∀ tp rl rs,(vs=[.ref tp,.ref rl])->(Tp H tp)->(rl≠tp)->(H rl=some (.lst rs))->(rs.length<=1000)->(LvsP ρ H rs)->(∀ v f H',Rep H' f v->f.wfp ρ->f.size=1->Kp tp H H'->Tp H' tp->Q v H')->nn ρ vs H Q E_
inductive fO (ρ:Fm->Prop) (vs:List V) (H:Hp) (Q:VK) (E_:XK):Prop
 | mk: ∀ tp rl rs,(vs=[.ref tp,.ref rl])->(Tp H tp)->(rl≠tp)->(H rl=some (.lst rs))->(rs.length<=1000)->(LvsP ρ H rs)->(∀ v f H',Rep H' f v->f.wfp ρ->f.size<=15->Kp tp H H'->Tp H' tp->Q v H')->fO ρ vs H Q E_
theorem yY:av ["tape","readings"] ["tape","readings"] (ah wE):=fsc
theorem xu {ρ:Fm->Prop} (F:Fun K "_law_leaf" "_law_leaf" wE f fd) (G:Gb mg) (GD:Cl P w K mg base CX0 1 g gd ["tape","many"] br "_law_digit")
  (GN:Cl P w K mg base CX0 2 f2 fd2 ["tape"] iO "_law_number"):
  aX P w K mg base CX0 3 f fd ["tape","readings"] (nn ρ):=by
 refine F.okz yY λcdv A outer s H vs Q E hr h=>?_;obtain ⟨tp,rl,rs,rfl,hT,hne,hrl,hlen,hL,q⟩:=h;have hr1:=hr.mono (show 1<=2 by decide);refine ⟨_,ad (aS (PW.pt (kN (aG jU (ao (r:=bU K) au rfl G.len DV (aa (pv 1) ac)) ag (aJ _))
   (iZ (aG jc (pcl GD hr1 (aa (pv 0) (aa ag ac))) ag (aJ _)))))
   (ai (aw (ax (r:=bO K) aL (pv 1) (pcl GD hr1 (aa (pv 0) (aa (ao (r:=bU K) au rfl G.len DV (aa (pv 1) ac)) ac))) (λ_ _=>rfl)))) aE)
  (ai (aw (aU (aa aV (aa (pcl GN hr (aa (pv 0) ac)) ac))))),?_⟩
 have num: ∀ H1,Kp tp H H1->Tp H1 tp->(gC 0 ([some (V.ref tp),some (.ref rl)]:St) H1 λv H1=>iO [v] H1 (λx H2=>[V.str "num",x].length<=sizeLine/\ ∀ p,H2 p=none->Q (.ref p) (upd H2 p (.tup [V.str "num",x]))) E0):=λH1 k1 t1=>by
  refine ⟨_,rfl,tp,rfl,t1,λn H2 h1 h2 k2 t2=>⟨gH,λp hp=>?_⟩⟩;exact q _ (.num n) _ ⟨p,rfl,ae⟩ ⟨h1,h2⟩ rfl ((k1.trans k2).new hp) (t2.new hp)
 refine ⟨_,rfl,rl,rs,rfl,.inl (SqL.of hrl),_,_,rfl,rfl,_,rfl,?_⟩;refine bp (λc=>?_) (λc=>?_)
 ·have c':0<rs.length:=by have:=DT c;lia
  refine ⟨_,rfl,tp,4,rfl,hT,by decide,by decide,λd t h0 h1=>?_⟩;refine ⟨_,_,rfl,rfl,_,rfl,?_⟩;refine bp (λc2=>?_) (λc2=>?_)
  ·have h2:(upd H tp (.lst [.int t])) rl=some (.lst rs):=by rw [aj hne];exact hrl
   refine ⟨_,rfl,_,rfl,_,rfl,rl,rs,rfl,.inl (SqL.of h2),tp,_,rfl,⟨t,ae⟩,by lia,by lia,λd2 t2 h20 h21=>?_⟩;rw [dW];have h3:(upd H tp (.lst [.int t2])) rl=some (.lst rs):=by rw [aj hne];exact hrl
   obtain ⟨x,ex,ex2⟩:=oF (xs:=rs) h20 h21;obtain ⟨fm,r,wf,sz⟩:=hL x (DC ex2);have k2:Kp tp H (upd H tp (.lst [.int t2])):=Kp.tape;exact ⟨rl,rs,d2,x,rfl,rfl,SqL.of h3,ex,q x fm _ (r.mono (k2.tk hT)) wf sz k2 ⟨t2,ae⟩⟩
  ·exact num _ Kp.tape ⟨t,ae⟩
 ·exact num _ Kp.refl hT
theorem Ad {H:Hp} {a b:List V} {x y:V} {n:Nat} (h:FsP ρ H (a++x::y::b) n): ∃ A B,Rep H A x/\Rep H B y/\A.wfp ρ/\B.wfp ρ/\ ∃ m1 m2,FsP ρ H a m1/\FsP ρ H b m2/\n=m1+ (A.size+ (B.size+m2)):=by
 obtain ⟨m1,r,h1,h2,e⟩:=h.split;cases h2 with
 | cons ra wa h3=>
  cases h3 with
  | cons rb wb h4=>exact ⟨_,_,ra,rb,wa,wb,m1,_,h1,h4,e⟩
theorem Ac {H:Hp} {a b:List V} {x y z:V} {n:Nat} (h:FsP ρ H (a++x::y::z::b) n): ∃ A B C,Rep H A x/\Rep H B y/\Rep H C z/\A.wfp ρ/\B.wfp ρ/\C.wfp ρ/\ ∃ m1 m2,FsP ρ H a m1/\FsP ρ H b m2/\n=m1+ (A.size+ (B.size+ (C.size+m2))):=by
 obtain ⟨m1,r,h1,h2,e⟩:=h.split;cases h2 with
 | cons ra wa h3=>
  cases h3 with
  | cons rb wb h4=>
   cases h4 with
   | cons rc wc h5=>exact ⟨_,_,_,ra,rb,rc,wa,wb,wc,m1,_,h1,h5,e⟩
theorem scFormulaP:av ["tape","readings","many","j","stack","way","sign"] ["tape","readings"] (ah fz):=fsc
theorem pO (F:Fun K "_law_formula" "_law_formula" fz f fd) (G:Gb mg) (GD:Cl P w K mg base CX0 1 g gd ["tape","many"] br "_law_digit")
  (GL:Cl P w K mg base CX0 3 f2 fd2 ["tape","readings"] (nn ρ) "_law_leaf"):
  aX P w K mg base CX0 4 f fd ["tape","readings"] (fO ρ):=by
 refine F.okz scFormulaP λcdv A outer s H vs Q E hr h=>?_;obtain ⟨tp,rl,rs,rfl,hT,hne,hrl,hlen,hL,q⟩:=h;have hr1:=hr.mono (show 1<=3 by decide);obtain ⟨t,ht,hread⟩: ∃ t,PSs (dv CX0 P w K mg base ["tape","readings","many","j","stack","way","sign"] "_law_formula" (ah fz) f cdv A outer s H E).nox ((aO fz).drop 2) t/\
   ∀ (m:Int) (H2:Hp),1<=m->m<=8->Kp tp H H2->Tp H2 tp->t {nx:=λ_ H'=>Q .non H',rt:=Q} [some (.ref tp),some (.ref rl),some (.int m),none,none,none,none] H2:=by
  refine ⟨_,ad (fW (i:=4) (sc0:=ah fz) (N0:=["tape","readings","many","j","stack","way","sign"]) (ys:=["tape","readings"]) (fr:=[0,1]) rfl scFormulaP.nd rfl (Or.inl rfl) (bL rfl G.range (aa (pv 2) ac)) rfl rfl
    csc
    (λC s H ex=>pcl GL hr (aa (pv 1) (aa (pv 2) ac))))
   (ad (kO Ep (aG jU (ao (r:=bU K) au rfl G.len DV (aa (pv 4) ac)) ag (aJ _))
    (ad (psz 5 scFormulaP.nd (pcl GD hr1 (aa (pv 0) (aa ag ac))))
    (ai (aS (PW.pt (kN (aG bJ (pv 5) ag (aJ _)) (iZ (aG jU (ao (r:=bU K) au rfl G.len DV (aa (pv 4) ac)) ag (aJ _)))))
     (ad (psz 3 scFormulaP.nd (pcl GD hr1 (aa (pv 0) (aa (aF fX (ao (r:=bU K) au rfl G.len DV (aa (pv 4) ac)) ag) ac))))
     (ai (psz 4 scFormulaP.nd (aF gP (aF gP (bw dC (pv 4) cg (bI (pv 3)))
      (bh (aa (aU (aa aV (aa (ax (r:=bO K) aL (pv 4) (pv 3) (λ_ _=>rfl)) (aa (ax (r:=bO K) aL (pv 4) (aF bn (pv 3) ag) (λ_ _=>rfl)) (aa (ax (r:=bO K) aL (pv 4) (aF bn (pv 3) ag) (λ_ _=>rfl)) ac))))) ac)))
      (bw dC (pv 4) (bI (aF bn (pv 3) ag)) cg)))))
     (ad (psz 3 scFormulaP.nd (pcl GD hr1 (aa (pv 0) (aa (aF fX (ao (r:=bU K) au rfl G.len DV (aa (pv 4) ac)) ag) ac))))
     (ad (psz 6 scFormulaP.nd (ax (r:=bO K) aL (bh (aa aV (aa aV (aa aV (aa aV (aa aV ac)))))) (aF cZ (pv 5) ag) (λ_ _=>rfl)))
     (ai (psz 4 scFormulaP.nd (aF gP (aF gP (bw dC (pv 4) cg (bI (pv 3)))
      (bh (aa (aU (aa (pv 6) (aa (ax (r:=bO K) aL (pv 4) (pv 3) (λ_ _=>rfl)) (aa (ax (r:=bO K) aL (pv 4) (aF bn (pv 3) ag) (λ_ _=>rfl)) ac)))) ac)))
      (bw dC (pv 4) (bI (aF bn (pv 3) ag)) cg))))))))))
   (ai (aw (ax (r:=bO K) aL (pv 4) ag (λ_ _=>rfl))))),λm H2 hm1 hm8 k2 tt2=>?_⟩
  have tpn: ∀ {p:Addr} {Hx:Hp},Tp Hx tp->Hx p=none->p≠tp:=λt hp e=>by
   obtain ⟨t0,e0⟩:=t;subst e;rw [e0]at hp;cases hp
  refine ⟨_,rfl,m,rfl,by lia,by lia,?_⟩;refine fH (n:=m.toNat) (R:=λi v=>v=.int (0+i)) (by lia) on jg ko
   (λp i zs H'=>Kp tp H H'/\Tp H' tp/\H' p=some (.lst zs)/\p≠tp/\zs.length=i/\FsP ρ H' zs i) ?_ ?_ ?_ ?_
  ·intro p hp;exact ⟨k2.new hp,tt2.new hp,ae,tpn tt2 hp,rfl,.nil⟩
  ·rintro p i zs H' ⟨_,_,h,_,e,_⟩;exact ⟨h,e⟩
  ·rintro p i zs H' v k hp hi rfl ⟨k3,t3,hz,hpn,hzl,hf⟩ hk;have hrl':H' rl=some (.lst rs):=k3 _ _ hrl hne;refine ⟨_,rfl,_,rfl,tp,rl,rs,rfl,t3,hne,hrl',hlen,hL.mono (k3.tk hT),λv f H3 rp wf sz k4 t4=>?_⟩;refine hk v H3 (k4 _ _ hz hpn) ⟨?_,?_,ae,hpn,by rw [DA,hzl];rfl,?_⟩
   ·intro b o hb hne';have hbp:b≠p:=λe=>by
     subst e;have:=k2 b o hb hne';rw [hp]at this;cases this
    rw [aj hbp];exact k4 _ _ (k3 _ _ hb hne') hne'
   ·obtain ⟨t0,e0⟩:=t4;exact ⟨t0,by rw [aj (EI hpn)];exact e0⟩
   ·have tk:TK H3 (upd H3 p (.lst (zs++[v]))):=TK.lst (k4 _ _ hz hpn);have e1:FsP ρ H3 zs i:=hf.mono (k4.tk t3);have e2:=e1.append (FsP.cons rp wf .nil);rw [sz]at e2;exact e2.mono tk
  ·rintro p zs H' hp ⟨k3,t3,hz,hpn,hzl,hf⟩;refine ku (λσ H'=> ∃ (sl:Addr) (ws:List V) (n:Nat) (j wy sg:Option V),σ=[some (.ref tp),some (.ref rl),some (.int m),j,some (.ref sl),wy,sg]/\H' sl=some (.lst ws)/\sl≠tp/\1<=ws.length/\ws.length<=8/\
     FsP ρ H' ws n/\n+ws.length<=16/\Kp tp H H'/\Tp H' tp)
    (λσ H'=>match σ with | [_,_,_,_,some (.ref sl),_,_]=>(match H' sl with | some (.lst ws)=>ws.length | _=>0) | _=>0)
    ⟨p,zs,m.toNat,none,none,none,rfl,hz,hpn,by lia,by lia,hf,by lia,k3,t3⟩ ?_ ?_
   ·rintro σ H3 ⟨sl,ws,n,j,wy,sg,rfl,hsl,hsn,hw1,hw8,hfs,hsz,k4,t4⟩;refine ⟨_,rfl,sl,ws,rfl,.inl (SqL.of hsl),_,_,rfl,rfl,_,rfl,?_⟩;refine bp (λc=>?_) (λc=>?_)
    ·have c':1<ws.length:=by have:=DT c;lia
     refine ⟨_,rfl,tp,6,rfl,t4,by decide,by decide,λwy t5 hw0 hw6=>?_⟩;have k5:Kp tp H3 (upd H3 tp (.lst [.int t5])):=Kp.tape;have tt5:Tp (upd H3 tp (.lst [.int t5])) tp:=⟨t5,ae⟩;have hsl5:=k5 _ _ hsl hsn;have hfs5:=hfs.mono (k5.tk t4);have k5':=k4.trans k5;generalize upd H3 tp (.lst [.int t5])=H5 at k5 tt5 hsl5 hfs5 k5' ⊢;refine ⟨_,rfl,rfl,_,rfl,?_⟩;refine BP (c2:=decide (2< (ws.length:Int))) (λh=>⟨_,rfl,sl,ws,rfl,.inl (SqL.of hsl5),_,_,rfl,rfl,_,rfl,h⟩) (λ_ cw=>?_) (λ_=>?_)
     ·-- when
      have cw':2<ws.length:=by have:=DT cw;lia
      refine ⟨_,rfl,_,rfl,sl,ws,rfl,.inl (SqL.of hsl5),_,_,rfl,rfl,tp,_,rfl,tt5,by lia,by lia,λjj t6 hj0 hj1=>?_⟩;have k6:Kp tp H5 (upd H5 tp (.lst [.int t6])):=Kp.tape;have tt6:Tp (upd H5 tp (.lst [.int t6])) tp:=⟨t6,ae⟩;have hsl6:=k6 _ _ hsl5 hsn;have hfs6:=hfs5.mono (k6.tk tt5);have k6':=k5'.trans k6;generalize upd H5 tp (.lst [.int t6])=H6 at k6 tt6 hsl6 hfs6 k6' ⊢;obtain ⟨a,x,y,z,b,ew,ea,etk,edr⟩:=AV (xs:=ws) (j:=jj.toNat) (by lia);have ej:jj=(a.length:Int):=by lia
      obtain ⟨A,B,C,ra,rb,rc,wa,wb,wc,m1,m2,f1,f2,en⟩:=Ac (ew▸hfs6);have hlw:ws.length=a.length+3+b.length:=by rw [ew];simp;lia
      refine ⟨_,rfl,_,rfl,jj,rfl,sl,ws,rfl,SqL.of hsl6,λp1 hp1=>?_⟩;rw [gX ws hj0 (by lia),etk];have s1:Same H6 (upd H6 p1 (.lst a)):=am hp1 _;have g1:(upd H6 p1 (.lst a)) p1=some (.lst a):=ae;generalize upd H6 p1 (.lst a)=H7 at s1 g1 ⊢;have hsl7:=s1 _ _ hsl6;refine ⟨_,rfl,_,rfl,sl,ws,jj,x,rfl,rfl,SqL.of hsl7,ew▸lI ej,_,rfl,_,rfl,_,_,rfl,rfl,sl,ws,jj+1,y,rfl,rfl,SqL.of hsl7,?_,_,rfl,_,rfl,_,_,rfl,rfl,sl,ws,jj+2,z,rfl,rfl,SqL.of hsl7,?_,(by show 4<=sizeLine;decide),λp2 hp2=>?_⟩
      ·rw [ew,show a++x::y::z::b=(a++[x])++y::z::b by simp];exact lI (by simp;lia)
      ·rw [ew,show a++x::y::z::b=(a++[x,y])++z::b by simp];exact lI (by simp;lia)
      have s2:Same H7 (upd H7 p2 (.tup [.str "when",x,y,z])):=am hp2 _;have g2:(upd H7 p2 (.tup [.str "when",x,y,z])) p2=some (.tup [.str "when",x,y,z]):=ae;generalize upd H7 p2 (.tup [.str "when",x,y,z])=H8 at s2 g2 ⊢;refine ⟨qK,λp3 hp3=>?_⟩;have s3:Same H8 (upd H8 p3 (.lst [.ref p2])):=am hp3 _;have g3:(upd H8 p3 (.lst [.ref p2])) p3=some (.lst [.ref p2]):=ae;generalize upd H8 p3 (.lst [.ref p2])=H9 at s3 g3 ⊢;refine ⟨p1,p3,a,_,rfl,rfl,s3 _ _ (s2 _ _ g1),g3,EA (aK (by simp;lia)),λp4 hp4=>?_⟩;have s4:Same H9 (upd H9 p4 (.lst (a++[.ref p2]))):=am hp4 _;have g4:(upd H9 p4 (.lst (a++[.ref p2]))) p4=some (.lst (a++[.ref p2])):=ae;generalize upd H9 p4 (.lst (a++[.ref p2]))=H10 at s4 g4 ⊢;have s7:Same H7 H10:=s2.trans (s3.trans s4);refine ⟨_,rfl,_,rfl,_,_,rfl,rfl,jj+3,rfl,sl,ws,rfl,SqL.of (s7 _ _ hsl7),λp5 hp5=>?_⟩;rw [lx ws (by lia) (by lia),show (jj+3).toNat=jj.toNat+3 by lia,edr];have s5:Same H10 (upd H10 p5 (.lst b)):=am hp5 _;have g5:(upd H10 p5 (.lst b)) p5=some (.lst b):=ae;generalize upd H10 p5 (.lst b)=H11 at s5 g5 ⊢;refine ⟨p4,p5,_,b,rfl,rfl,s5 _ _ g4,g5,EA (aK (by simp;lia)),λp6 hp6=>?_⟩;have s6:Same H6 H11:=s1.trans (s7.trans s5);have st:Same H6 (upd H11 p6 (.lst (a++[.ref p2]++b))):=s6.trans (am hp6 _);have tk:TK H6 (upd H11 p6 (.lst (a++[.ref p2]++b))):=λc xs h=>st _ _ h;have g2':(upd H11 p6 (.lst (a++[.ref p2]++b))) p2=some (.tup [.str "when",x,y,z]):=(am hp6 _) _ _ (s5 _ _ (s4 _ _ (s3 _ _ g2)));have tt7:Tp (upd H11 p6 (.lst (a++[.ref p2]++b))) tp:=by obtain ⟨t0,e0⟩:=tt6;exact ⟨t0,st _ _ e0⟩
      refine ⟨⟨p6,_,m1+ ((Fm.whn A B C).size+0) +m2,_,_,_,rfl,ae,?_,by simp;lia,by simp;lia,?_,?_,k6'.same st,tt7⟩,?_⟩
      ·intro e;obtain ⟨t0,e0⟩:=tt6;have:=s6 _ _ e0;rw [<- e,hp6]at this;cases this
      ·exact ((f1.mono tk).append (FsP.cons (f:=.whn A B C) ⟨p2,x,y,z,rfl,g2',ra.mono tk,rb.mono tk,rc.mono tk⟩ ⟨wa,wb,wc⟩ .nil)).append (f2.mono tk)
      ·show m1+ ((A.size+B.size+C.size+1) +0) +m2+ (a++[V.ref p2]++b).length<=16;simp;lia
      ·show (match (upd H11 p6 (.lst (a++[.ref p2]++b))) p6 with | some (.lst ws)=>ws.length | _=>0) < (match H3 sl with | some (.lst ws)=>ws.length | _=>0);rw [ae,hsl];simp;lia
     ·-- one of the five signs
      refine ⟨_,rfl,_,rfl,sl,ws,rfl,.inl (SqL.of hsl5),_,_,rfl,rfl,tp,_,rfl,tt5,by lia,by lia,λjj t6 hj0 hj1=>?_⟩;have k6:Kp tp H5 (upd H5 tp (.lst [.int t6])):=Kp.tape;have tt6:Tp (upd H5 tp (.lst [.int t6])) tp:=⟨t6,ae⟩;have hsl6:=k6 _ _ hsl5 hsn;have hfs6:=hfs5.mono (k6.tk tt5);have k6':=k5'.trans k6;generalize upd H5 tp (.lst [.int t6])=H6 at k6 tt6 hsl6 hfs6 k6' ⊢;refine ⟨(by show 5<=sizeLine;decide),λp0 hp0=>?_⟩;have s0:Same H6 (upd H6 p0 (.lst [.str "plus",.str "less",.str "times",.str "least",.str "most"])):=am hp0 _;have g0:(upd H6 p0 (.lst [.str "plus",.str "less",.str "times",.str "least",.str "most"])) p0=some (.lst [.str "plus",.str "less",.str "times",.str "least",.str "most"]):=ae;generalize upd H6 p0 (.lst [.str "plus",.str "less",.str "times",.str "least",.str "most"])=H6b at s0 g0 ⊢;obtain ⟨op,hop,hopm⟩: ∃ op,atI [V.str "plus",.str "less",.str "times",.str "least",.str "most"] (wy%5)=some (.str op)/\op∈ops:=by
       have h1:=Fu wy (show (5:Int)≠0 by decide);have h2:=E6 wy (show (0:Int) <5 by decide);have h5:wy%5=0\/wy%5=1\/wy%5=2\/wy%5=3\/wy%5=4:=by lia
       rcases h5 with h | h | h | h | h <;> rw [h]
       ·exact ⟨"plus",rfl,by simp [ops]⟩
       ·exact ⟨"less",rfl,by simp [ops]⟩
       ·exact ⟨"times",rfl,by simp [ops]⟩
       ·exact ⟨"least",rfl,by simp [ops]⟩
       ·exact ⟨"most",rfl,by simp [ops]⟩
      refine ⟨_,rfl,_,_,rfl,rfl,(by show (0:Int) <5;decide),p0,_,_,_,rfl,rfl,SqL.of g0,hop,?_⟩;obtain ⟨a,x,y,b,ew,ea,etk,edr⟩:=AW (xs:=ws) (j:=jj.toNat) (by lia);have ej:jj=(a.length:Int):=by lia
      obtain ⟨A,B,ra,rb,wa,wb,m1,m2,f1,f2,en⟩:=Ad (ew▸hfs6);have hlw:ws.length=a.length+2+b.length:=by rw [ew];simp;lia
      have hsl6b:=s0 _ _ hsl6;refine ⟨_,rfl,_,rfl,jj,rfl,sl,ws,rfl,SqL.of hsl6b,λp1 hp1=>?_⟩;rw [gX ws hj0 (by lia),etk];have s1:Same H6b (upd H6b p1 (.lst a)):=am hp1 _;have g1:(upd H6b p1 (.lst a)) p1=some (.lst a):=ae;generalize upd H6b p1 (.lst a)=H7 at s1 g1 ⊢;have hsl7:=s1 _ _ hsl6b;refine ⟨_,rfl,_,rfl,_,rfl,sl,ws,jj,x,rfl,rfl,SqL.of hsl7,ew▸lI ej,_,rfl,_,rfl,_,_,rfl,rfl,sl,ws,jj+1,y,rfl,rfl,SqL.of hsl7,?_,oZ,λp2 hp2=>?_⟩
      ·rw [ew,show a++x::y::b=(a++[x])++y::b by simp];exact lI (by simp;lia)
      have s2:Same H7 (upd H7 p2 (.tup [.str op,x,y])):=am hp2 _;have g2:(upd H7 p2 (.tup [.str op,x,y])) p2=some (.tup [.str op,x,y]):=ae;generalize upd H7 p2 (.tup [.str op,x,y])=H8 at s2 g2 ⊢;refine ⟨qK,λp3 hp3=>?_⟩;have s3:Same H8 (upd H8 p3 (.lst [.ref p2])):=am hp3 _;have g3:(upd H8 p3 (.lst [.ref p2])) p3=some (.lst [.ref p2]):=ae;generalize upd H8 p3 (.lst [.ref p2])=H9 at s3 g3 ⊢;refine ⟨p1,p3,a,_,rfl,rfl,s3 _ _ (s2 _ _ g1),g3,EA (aK (by simp;lia)),λp4 hp4=>?_⟩;have s4:Same H9 (upd H9 p4 (.lst (a++[.ref p2]))):=am hp4 _;have g4:(upd H9 p4 (.lst (a++[.ref p2]))) p4=some (.lst (a++[.ref p2])):=ae;generalize upd H9 p4 (.lst (a++[.ref p2]))=H10 at s4 g4 ⊢;have s7:Same H7 H10:=s2.trans (s3.trans s4);refine ⟨_,rfl,_,rfl,_,_,rfl,rfl,jj+2,rfl,sl,ws,rfl,SqL.of (s7 _ _ hsl7),λp5 hp5=>?_⟩;rw [lx ws (by lia) (by lia),show (jj+2).toNat=jj.toNat+2 by lia,edr];have s5:Same H10 (upd H10 p5 (.lst b)):=am hp5 _;have g5:(upd H10 p5 (.lst b)) p5=some (.lst b):=ae;generalize upd H10 p5 (.lst b)=H11 at s5 g5 ⊢;refine ⟨p4,p5,_,b,rfl,rfl,s5 _ _ g4,g5,EA (aK (by simp;lia)),λp6 hp6=>?_⟩;have s6:Same H6 H11:=s0.trans (s1.trans (s7.trans s5));have st:Same H6 (upd H11 p6 (.lst (a++[.ref p2]++b))):=s6.trans (am hp6 _);have tk:TK H6 (upd H11 p6 (.lst (a++[.ref p2]++b))):=λc xs h=>st _ _ h;have g2':(upd H11 p6 (.lst (a++[.ref p2]++b))) p2=some (.tup [.str op,x,y]):=(am hp6 _) _ _ (s5 _ _ (s4 _ _ (s3 _ _ g2)));have tt7:Tp (upd H11 p6 (.lst (a++[.ref p2]++b))) tp:=by obtain ⟨t0,e0⟩:=tt6;exact ⟨t0,st _ _ e0⟩
      refine ⟨⟨p6,_,m1+ ((Fm.bin op A B).size+0) +m2,_,_,_,rfl,ae,?_,by simp;lia,by simp;lia,?_,?_,k6'.same st,tt7⟩,?_⟩
      ·intro e;obtain ⟨t0,e0⟩:=tt6;have:=s6 _ _ e0;rw [<- e,hp6]at this;cases this
      ·exact ((f1.mono tk).append (FsP.cons (f:=.bin op A B) ⟨p2,x,y,rfl,g2',ra.mono tk,rb.mono tk⟩ ⟨hopm,wa,wb⟩ .nil)).append (f2.mono tk)
      ·show m1+ ((A.size+B.size+1) +0) +m2+ (a++[V.ref p2]++b).length<=16;simp;lia
      ·show (match (upd H11 p6 (.lst (a++[.ref p2]++b))) p6 with | some (.lst ws)=>ws.length | _=>0) < (match H3 sl with | some (.lst ws)=>ws.length | _=>0);rw [ae,hsl];simp;lia
    ·have c':ws.length=1:=by
      have: ¬ (1:Int) < (ws.length:Int):=λz=>c (DB z);lia
     obtain ⟨x,ex⟩:=Ht.mp c';subst ex;cases hfs with
     | cons rp wf f2=>
      cases f2;refine ⟨_,rfl,sl,_,0,x,rfl,rfl,SqL.of hsl,du,q x _ H3 rp wf (by simp at hsz;lia) k4 t4⟩
   ·rintro σ H3 Q1 Q2 hq ⟨y,e1,p,ys,e2,h2,i,j,e3,e4,k,e5,h⟩;exact ⟨y,e1,p,ys,e2,h2,i,j,e3,e4,k,e5,hq _ _ h⟩
 refine ⟨_,ad (psz 2 scFormulaP.nd (aF bn ag (pcl GD hr1 (aa (pv 0) (aa ag ac)))))
  (ad (aS (aG bJ (pcl GD hr1 (aa (pv 0) (aa ag ac))) ag (aJ _)) (ai (psz 2 scFormulaP.nd ag)) aE) ht),?_⟩
 refine ⟨_,rfl,tp,4,rfl,hT,by decide,by decide,λd1 t1 h10 h11=>?_⟩;refine ⟨1,_,rfl,rfl,?_⟩;refine ⟨_,rfl,tp,16,rfl,⟨t1,ae⟩,by decide,by decide,λd2 t2 h20 h21=>?_⟩;rw [dW];refine ⟨rfl,_,rfl,?_⟩;refine bp (λc9=>?_) (λc9=>?_)
 ·exact hread 8 _ (by decide) (by decide) Kp.tape ⟨t2,ae⟩
 ·exact hread (1+d1) _ (by lia) (by lia) Kp.tape ⟨t2,ae⟩
noncomputable def ndB:List Str->Bool
 | []=>true
 | x::r=> !(r.any λy=>x.cps.toList==y.cps.toList)&&ndB r
theorem xD: ∀ {l:List Str},ndB l=true->l.Nodup
 | [],_=>Ho
 | x::r,h=>by
  unfold ndB at h;rw [Ek]at h;refine FU.mpr ⟨λm=>?_,xD h.2⟩;have h1:=h.1;rw [Ij,List.any_eq_false]at h1;exact h1 x m (by simp)
theorem uX:((List.range 3).all λway=>(List.range 26).all λtu=>ndB ((List.range 13).map (je way tu))&&((List.range 13).map (je way tu)).all aY)=true:=by
 decide +kernel
theorem NamesAre.ok {m:Nat} {ws:List Str} (h:NamesAre m ws) (hm:m<=13):ws.length=m/\ws.Nodup/\ ∀ x∈ws,aY x=true:=by
 obtain ⟨way,tu,back,h1,h2,e⟩:=h;have a:=uX;rw [Ed]at a;have a:=a way (E5.mpr h1);rw [Ed]at a;have a:=a tu (E5.mpr h2);rw [Ek]at a;have n13:=xD a.1;have w13:=Ed.mp a.2;have sub:((List.range m).map (je way tu)).Sublist ((List.range 13).map (je way tu)):=List.Sublist.map _ (List.range_sublist.mpr hm);have nd:=n13.sublist sub;have wd: ∀ x∈(List.range m).map (je way tu),aY x=true:=λx hx=>w13 x (sub.subset hx);have ln:((List.range m).map (je way tu)).length=m:=by rw [Dx,F1]
 cases back with
 | false=>
  rw [DU (by decide)]at e;subst e;exact ⟨ln,nd,wd⟩
 | true=>
  rw [Ea rfl]at e;subst e;exact ⟨by rw [E8];exact ln,(List.reverse_perm _).nodup_iff.mpr nd,λx hx=>wd x (IA.mp hx)⟩
theorem zJ:((List.range 3).all λway=>(List.range 26).all λtu=>((List.range 13).map (je way tu)).all λx=> !(x.cps.toList==("zzzzzzzz":Str).cps.toList)&& !(x.cps.toList==("nosuch":Str).cps.toList))=true:=by
 decide +kernel
theorem NamesAre.noz {m:Nat} {ws:List Str} (h:NamesAre m ws) (hm:m<=13): ∀ x∈ws,x≠"zzzzzzzz"/\x≠"nosuch":=by
 obtain ⟨way,tu,back,h1,h2,e⟩:=h;have a:=zJ;rw [Ed]at a;have a:=a way (E5.mpr h1);rw [Ed]at a;have a:=Ed.mp (a tu (E5.mpr h2));have sub:((List.range m).map (je way tu)).Sublist ((List.range 13).map (je way tu)):=List.Sublist.map _ (List.range_sublist.mpr hm);have wd: ∀ x∈(List.range m).map (je way tu),x≠"zzzzzzzz"/\x≠"nosuch":=λx hx=>by
  have:=a x (sub.subset hx);constructor <;> (intro z;rw [z]at this;revert this;decide +kernel)
 cases back with
 | false=>
  rw [DU (by decide)]at e;subst e;exact wd
 | true=>
  rw [Ea rfl]at e;subst e;exact λx hx=>wd x (IA.mp hx)
theorem NamesAre.no {m:Nat} {ws:List Str} (h:NamesAre m ws) (hm:m<=13): ∀ x∈ws,x≠"zzzzzzzz":=λx hx=>(h.noz hm x hx).1
structure Srt where
 name:Str
 downs:List Str
 ups:List Str
inductive RepS (H:Hp) (s:Srt) (v:V):Prop
 | mk: ∀ a b c,(v=.ref a)->(H a=some (.tup [.str s.name,.ref b,.ref c]))->(H b=some (.tup (s.downs.map V.str)))->(H c=some (.tup (s.ups.map V.str)))->RepS H s v
theorem RepS.mono {H H':Hp} (t:TK H H') {s:Srt} {v:V}:RepS H s v->RepS H' s v:=λ⟨a,b,c,e,h1,h2,h3⟩=>⟨a,b,c,e,t _ _ h1,t _ _ h2,t _ _ h3⟩
def Srt.ok (s:Srt):Prop:=(s.downs++s.ups).Nodup/\(∀ x∈s.downs++s.ups,aY x=true)/\s.downs.length<=3/\s.ups.length<=3/\1<=s.downs.length+s.ups.length/\ ∀ x∈s.downs++s.ups,x≠"zzzzzzzz"
def RepSs (H:Hp) (ss:List Srt) (vs:List V):Prop:=Paired (RepS H) ss vs
theorem RepSs.mono {H H':Hp} (t:TK H H') {ss:List Srt} {vs:List V} (h:RepSs H ss vs):RepSs H' ss vs:=Paired.mapP h λ_ _ r=>r.mono t
theorem RepSs.len {H:Hp} {ss:List Srt} {vs:List V} (h:RepSs H ss vs):ss.length=vs.length:=Ev h
theorem bj {α β:Type} {F:α->β->Prop}: ∀ {l:List α} {r:List β} {i:Nat} {b:β},Paired F l r->r[i]? =some b-> ∃ a,l[i]? =some a/\F a b
 | _,_,i,b,.nil,e=>by cases i <;> cases e
 | _,_,0,b,.cons h _,e=>⟨_,rfl,by cases e;exact h⟩
 | _,_,i+1,b,.cons _ t,e=>bj (i:=i) t e
def eZ (ss:List Srt):Prop:=1<=ss.length/\ss.length<=4/\(ss.map Srt.name).Nodup/\(∀ s∈ss,aY s.name=true/\s.name≠"nosuch")/\ ∀ s∈ss,s.ok
theorem uf {ws:List Str} (n:ws.Nodup) (w: ∀ x∈ws,aY x=true) (nz: ∀ x∈ws,x≠"zzzzzzzz") (hl:ws.length=6) (k d u:Nat) (hd:d<=3) (hu:u<=3) (h1:1<=d+u) (nm:Str):
  (Srt.mk nm ((ws.drop k++ws.take k).take d) (((ws.drop k++ws.take k).drop d).take u)).ok:=by
 have nt:(ws.drop k++ws.take k).Nodup:=by
  have:(ws.drop k++ws.take k).Perm (ws.take k++ws.drop k):=List.perm_append_comm;rw [Fw]at this;exact this.nodup_iff.mpr n
 have mt: ∀ x∈ws.drop k++ws.take k,aY x=true/\x≠"zzzzzzzz":=λx hx=>by
  rw [DQ]at hx;rcases hx with h | h
  ·exact ⟨w x (List.mem_of_mem_drop h),nz x (List.mem_of_mem_drop h)⟩
  ·exact ⟨w x (Eu h),nz x (Eu h)⟩
 have lt:(ws.drop k++ws.take k).length=6:=by rw [DA,FA,DX];lia
 generalize ws.drop k++ws.take k=ts at nt mt lt;have sub:(ts.take d++(ts.drop d).take u).Sublist ts:=by
  have:=Fw d ts
  conv=>rhs;rw [<- this]
  exact List.Sublist.append (List.Sublist.refl _) (Hl _ _)
 refine ⟨nt.sublist sub,λx hx=>(mt x (sub.subset hx)).1,?_,?_,?_,λx hx=>(mt x (sub.subset hx)).2⟩
 ·show (ts.take d).length<=3;rw [DX];lia
 ·show ((ts.drop d).take u).length<=3;rw [DX];lia
 ·show 1<=(ts.take d).length+ ((ts.drop d).take u).length;rw [DX,DX,FA];lia
inductive ni  (vs:List V) (H:Hp) (Q:VK) (E_:XK):Prop
 | mk: ∀ tp c,(vs=[.ref tp,.bl c])->(Tp H tp)->(∀ a ss xs H',H' a=some (.tup xs)->RepSs H' ss xs->eZ ss->Kp tp H H'->Tp H' tp->Q (.ref a) H')->ni vs H Q E_
theorem Cm (k:Bool): ∃ m:Int,atI [V.int 3,V.int 4] (if k then 1 else 0)=some (.int m)/\3<=m/\m<=4:=by
 cases k
 ·exact ⟨3,rfl,by decide,by decide⟩
 ·exact ⟨4,rfl,by decide,by decide⟩
theorem xH {d u:Int} (hd:0<=d) (hu:0<=u) (hu3:u<=3): ∃ u1:Int,(if (if decide (V.int d=V.int 0)=true then (1:Int)else 0) >u then (if decide (V.int d=V.int 0)=true then (1:Int)else 0)else u)=u1/\0<=u1/\u1<=3/\1<=d+u1:=by
 refine ⟨_,rfl,?_⟩;by_cases c:d=0
 ·subst c;rw [Ea (DB rfl)];split <;> lia
 ·rw [DU (λe=>c (V.int.inj (DT e)))];split <;> lia
theorem gB {H:Hp} {tp p:Addr} (t:Tp H tp) (hp:H p=none):p≠tp:=λe=>by
 obtain ⟨t0,e0⟩:=t;subst e;rw [e0]at hp;cases hp
theorem Aj (xs:List V) {a b:Nat} (h:a+b<=xs.length):eQ xs (some (a:Int)) (some ((a:Int) + (b:Int)))=(xs.drop a).take b:=by
 unfold eQ;rw [show ((a:Int) + (b:Int))=((a+b:Nat):Int) by lia,HT.sIx_nat,HT.sIx_nat,Gi h,Gi (by lia),Nat.add_sub_cancel_left]
theorem scSorts:av ["tape","few","many","names","words","sorts","k","most","downs","ups","turned"] ["tape","few"] (ah qR):=fsc
theorem xn (F:Fun K "_law_sorts" "_law_sorts" qR f fd) (G:Gb mg) (GD:Cl P w K mg base CX0 1 g gd ["tape","many"] br "_law_digit")
  (GN:Cl P w K mg base CX0 2 f2 fd2 ["tape","many"] iP "_law_names"):
  aX P w K mg base CX0 3 f fd ["tape","few"] ni:=by
 refine F.okz scSorts λcdv A outer s H vs Q E hr h=>?_;obtain ⟨tp,few,rfl,hT,q⟩:=h;have hr1:=hr.mono (show 1<=2 by decide);refine ⟨_,ad (psz 2 scSorts.nd (aF bn ag (pcl GD hr1 (aa (pv 0) (aa
    (ax (r:=bO K) aL (bh (aa ag (aa ag ac))) (bz iw rfl G.int (by decide +kernel) (aa (cj bJ (pcl GD hr1 (aa (pv 0) (aa ag ac))) ag (aJ _)) ac)) (λ_ _=>rfl)) ac)))))
  (ad (psz 3 scSorts.nd (pcl GN hr (aa (pv 0) (aa (pv 2) ac))))
  (ad (psz 4 scSorts.nd (pcl GN hr (aa (pv 0) (aa ag ac))))
  (ad (psz 5 scSorts.nd (bh ac))
  (ad (cC Ep rfl (bL rfl G.range (aa (pv 2) ac)) (pgz 6 scSorts.nd)
   (ad (psz 7 scSorts.nd (ax (r:=bO K) aL (bh (aa ag (aa ag ac))) (bz iw rfl G.int (by decide +kernel) (aa (cj bJ (pcl GD hr1 (aa (pv 0) (aa ag ac))) ag (aJ _)) ac)) (λ_ _=>rfl)))
   (ad (psz 8 scSorts.nd (pcl GD hr1 (aa (pv 0) (aa (pv 7) ac))))
   (ad (psz 9 scSorts.nd (ao (mH rfl) rfl G.max (by decide +kernel) (aa (pcl GD hr1 (aa (pv 0) (aa (pv 7) ac)))
    (aa (bz iw rfl G.int (by decide +kernel) (aa (cj bJ (pv 8) ag (aJ _)) ac)) ac))))
   (ad (aS (PW.pt (kN (aZ (pv 1)) (iZ (aG jU (aF dM (pv 8) (pv 9)) ag (aJ _))))) (ai (psz 9 scSorts.nd (aF nX ag (pv 8)))) aE)
   (ad (psz 10 scSorts.nd (aF gP (bw dC (pv 4) (bI (aF cZ (pv 6) ag)) cg) (bw dC (pv 4) cg (bI (aF cZ (pv 6) ag)))))
   (ai (bP (dS Ee EF EG bM (pv 5) (aa (aU (aa (ax (r:=bO K) aL (pv 3) (pv 6) (λ_ _=>rfl))
    (aa (bz (r:=fV K) bR rfl G.tuple (by decide +kernel) (aa (bw dC (pv 10) cg (bI (pv 8))) ac))
    (aa (bz (r:=fV K) bR rfl G.tuple (by decide +kernel) (aa (bw dC (pv 10) (bI (pv 8)) (bI (aF bn (pv 8) (pv 9)))) ac)) ac)))) ac))))))))))
  (ai (aw (bz (r:=fV K) bR rfl G.tuple (by decide +kernel) (aa (pv 5) ac)))))))),?_⟩
 refine ⟨_,rfl,gH,λp0 hp0=>?_⟩;refine ⟨_,rfl,tp,8,rfl,hT.new hp0,by decide,by decide,λd0 t0 _ _=>⟨rfl,?_⟩⟩;obtain ⟨m0,em0,hm3,hm4⟩:=Cm (decide (V.int d0=V.int 5));refine .inr ⟨_,rfl,p0,_,_,_,rfl,rfl,SqL.of (by rw [aj (gB hT hp0)];exact ae),em0,?_⟩;have k0:Kp tp H (upd (upd H p0 (.lst [.int 3,.int 4])) tp (.lst [.int t0])):=(Kp.refl.new hp0).trans Kp.tape;have tt0:Tp (upd (upd H p0 (.lst [.int 3,.int 4])) tp (.lst [.int t0])) tp:=⟨t0,ae⟩;generalize upd (upd H p0 (.lst [.int 3,.int 4])) tp (.lst [.int t0])=H1 at k0 tt0 ⊢;refine ⟨tp,_,rfl,tt0,by lia,by lia,λdm t1 hdm0 hdm1=>?_⟩;have k1:Kp tp H (upd H1 tp (.lst [.int t1])):=k0.trans Kp.tape;have tt1:Tp (upd H1 tp (.lst [.int t1])) tp:=⟨t1,ae⟩;generalize upd H1 tp (.lst [.int t1])=H2 at k1 tt1 ⊢;refine ⟨1,_,rfl,rfl,?_⟩;refine ⟨_,rfl,_,rfl,tp,_,rfl,tt1,by lia,by lia,λnl ns H3 hnl hnlen hN hnne k2' tt2=>?_⟩;have k2:=k1.trans k2';refine ⟨_,rfl,tp,6,rfl,tt2,by decide,by decide,λwl ws H4 hwl hwlen hW hwne k3' tt3=>?_⟩;have k3:=k2.trans k3';have hnl4:=k3' _ _ hnl hnne;refine ⟨wo,λsl hsl=>?_⟩;have hslt:=gB tt3 hsl;have k4:Kp tp H (upd H4 sl (.lst [])):=k3.new hsl;have tt4:=tt3.new (o:=.lst []) hsl;have s4:=am hsl (.lst []);have nsl:nl≠sl:=al hnl4 hsl;have wsl:wl≠sl:=al hwl hsl;have hnl5:=s4 _ _ hnl4;have hwl5:=s4 _ _ hwl;have hsl5:(upd H4 sl (.lst [])) sl=some (.lst []):=ae;generalize upd H4 sl (.lst [])=H5 at k4 tt4 hnl5 hwl5 hsl5 ⊢;obtain ⟨nLen,nNd,nWd⟩:=hN.ok (by lia);have nNo:=λx hx=>(hN.noz (by lia) x hx).2;obtain ⟨wLen,wNd,wWd⟩:=hW.ok (by decide);have wLen6:ws.length=6:=wLen;refine ⟨_,rfl,1+dm,rfl,by lia,by lia,?_⟩;refine dA (λi σ H'=> ∃ o6 o7 o8 o9 o10 zs ss,σ=[some (.ref tp),some (.bl few),some (.int (1+dm)),some (.ref nl),some (.ref wl),some (.ref sl),o6,o7,o8,o9,o10]/\Kp tp H H'/\Tp H' tp/\H' nl=some (.lst (ns.map V.str))/\H' wl=some (.lst (ws.map V.str))/\H' sl=some (.lst zs)/\RepSs H' ss zs/\ss.length=i/\(∀ s∈ss,s.ok)/\ss.map Srt.name=ns.take i)
  ⟨none,none,none,none,none,[],[],rfl,k4,tt4,hnl5,hwl5,hsl5,.nil,rfl,λs h=>(by cases h),rfl⟩ ?_ ?_
 ·rintro i σ H6 hi ⟨o6,o7,o8,o9,o10,zs,ss,rfl,k6,tt6,hnl6,hwl6,hsl6,hR,hssl,hok,hnm⟩;refine ⟨gH,λp0 hp0=>?_⟩;refine ⟨_,rfl,tp,8,rfl,tt6.new hp0,by decide,by decide,λd0 t0 _ _=>⟨rfl,?_⟩⟩;obtain ⟨m1,em1,hm3,hm4⟩:=Cm (decide (V.int d0=V.int 5));refine .inr ⟨_,rfl,p0,_,_,_,rfl,rfl,SqL.of (by rw [aj (gB tt6 hp0)];exact ae),em1,?_⟩;have k7:Kp tp H6 (upd (upd H6 p0 (.lst [.int 3,.int 4])) tp (.lst [.int t0])):=(Kp.refl.new hp0).trans Kp.tape;have tt7:Tp (upd (upd H6 p0 (.lst [.int 3,.int 4])) tp (.lst [.int t0])) tp:=⟨t0,ae⟩;generalize upd (upd H6 p0 (.lst [.int 3,.int 4])) tp (.lst [.int t0])=H7 at k7 tt7 ⊢;refine ⟨_,rfl,_,rfl,tp,_,rfl,tt7,by lia,by lia,λd t2 hd0 hd1=>?_⟩;have k8:Kp tp H6 (upd H7 tp (.lst [.int t2])):=k7.trans Kp.tape;have tt8:Tp (upd H7 tp (.lst [.int t2])) tp:=⟨t2,ae⟩;generalize upd H7 tp (.lst [.int t2])=H8 at k8 tt8 ⊢;refine ⟨_,rfl,_,rfl,tp,_,rfl,tt8,by lia,by lia,λu t3 hu0 hu1=>?_⟩;have k9:Kp tp H6 (upd H8 tp (.lst [.int t3])):=k8.trans Kp.tape;have tt9:Tp (upd H8 tp (.lst [.int t3])) tp:=⟨t3,ae⟩;generalize upd H8 tp (.lst [.int t3])=H9 at k9 tt9 ⊢;obtain ⟨u1,eu1,hu10,hu13,hdu⟩:=xH (d:=d) (u:=u) hd0 hu0 (by lia);refine ⟨_,rfl,rfl,.inr ⟨_,rfl,_,_,rfl,?_⟩⟩;rw [eu1];refine ⟨_,rfl,few,rfl,?_⟩;refine BP (c2:=decide (3<d*u1)) (λh=>⟨_,rfl,_,rfl,_,_,rfl,rfl,.inl ⟨by lia,by lia⟩,_,_,rfl,rfl,_,rfl,h⟩) (λ_ c=>?A) (λ_=>?B)
  case' A=>
   have c':3<d*u1:=DT c;have hdp:0<d:=by
    rcases (show d=0\/0<d by lia)with h | h
    ·subst h;lia
    ·exact h
   refine ⟨_,rfl,3,d,rfl,rfl,⟨hdp,by lia⟩,?_⟩;obtain ⟨v,hv,ev⟩: ∃ v:Int,(0<=v/\v<=3/\1<=d+v)/\V.int (3/d)=V.int v:=by
    refine ⟨3/d,?_,rfl⟩;rcases (show d=1\/d=2\/d=3 by lia)with h | h | h <;> subst h <;> decide
   rw [ev]
  case' B=>
   have hv:0<=u1/\u1<=3/\1<=d+u1:=⟨hu10,hu13,hdu⟩;generalize u1=v at hv ⊢
  all_goals
   have hwl9:=k9 _ _ hwl6 hwne;have hnl9:=k9 _ _ hnl6 hnne;have hsl9:=k9 _ _ hsl6 hslt;have hkk0:0<=(0+ (i:Int)) %6:=Fu _ (by decide);have hkk1:(0+ (i:Int)) %6<6:=E6 _ (by decide);refine ⟨_,rfl,_,rfl,_,_,rfl,rfl,(by show (0:Int) <6;decide),_,rfl,wl,_,rfl,SqL.of hwl9,λp1 hp1=>?_⟩;rw [lx (ws.map V.str) hkk0 (by rw [Dx];lia)];have hn6:((0+ (i:Int)) %6).toNat<=6:=by lia
   have hct:eQ (ws.map V.str) none (some ((0+ (i:Int)) %6))=(ws.map V.str).take ((0+ (i:Int)) %6).toNat:=gX (ws.map V.str) hkk0 (by rw [Dx];lia);generalize hn:((0+ (i:Int)) %6).toNat=n at hct hn6 ⊢;obtain ⟨Ha,eW,s1,g1⟩:=nw hp1 (.lst ((ws.map V.str).drop n));rw [eW];refine ⟨_,rfl,_,rfl,_,_,rfl,rfl,(by show (0:Int) <6;decide),_,rfl,wl,_,rfl,SqL.of (s1 _ _ hwl9),λp2 hp2=>?_⟩;rw [hct];obtain ⟨Hb,eW,s2,g2⟩:=nw hp2 (.lst ((ws.map V.str).take n));rw [eW];have lcat:((ws.map V.str).drop n).length+ ((ws.map V.str).take n).length<=12:=by rw [FA,DX,Dx];lia
   refine ⟨p1,p2,_,_,rfl,rfl,s2 _ _ g1,g2,EA (aK (by lia)),λp3 hp3=>?_⟩;have e3:(ws.map V.str).drop n++(ws.map V.str).take n=(ws.drop n++ws.take n).map V.str:=by rw [Ef,List.map_drop,Gn]
   rw [e3];have lts:(ws.drop n++ws.take n).length=6:=by rw [DA,FA,DX];lia
   have hsok:=λnm=>uf wNd wWd (hW.no (by decide)) wLen6 n d.toNat v.toNat (by lia) (by lia) (by lia) nm;generalize ws.drop n++ws.take n=ts at lts hsok ⊢;obtain ⟨Hc,eW,s3,g3⟩:=nw hp3 (.lst (ts.map V.str));rw [eW];have S9:Same H9 Hc:=s1.trans (s2.trans s3);have hslc:=S9 _ _ hsl9;have hnlc:=S9 _ _ hnl9;have hwlc:=S9 _ _ hwl9;have kc:Kp tp H6 Hc:=k9.same S9;have ttc:Tp Hc tp:=tt9.same S9;refine ⟨_,rfl,.inl ⟨rfl,_,SqL.of hslc⟩,?_⟩;obtain ⟨nm,enm⟩: ∃ nm,ns[i]? =some nm:=⟨ns[i]'(by lia),DD (by lia)⟩;have eat:atI (ns.map V.str) (0+ (i:Int))=some (V.str nm):=by
    rw [F2];exact aM (by rw [DP,enm];rfl)
   refine ⟨_,rfl,_,rfl,nl,_,_,_,rfl,rfl,SqL.of hnlc,eat,?_⟩;refine ⟨_,rfl,_,rfl,d,rfl,p3,_,rfl,SqL.of g3,λp4 hp4=>?_⟩;rw [gX (ts.map V.str) hd0 (by rw [Dx];lia),<- Gn];obtain ⟨Hd,eW,s4,g4⟩:=nw hp4 (.lst ((ts.take d.toNat).map V.str));rw [eW];refine ⟨p4,_,rfl,.inl ⟨SqL.of g4,λp5 hp5=>?_⟩⟩;obtain ⟨He,eW,s5,g5⟩:=nw hp5 (.tup ((ts.take d.toNat).map V.str));rw [eW];refine ⟨_,rfl,_,rfl,d,rfl,_,rfl,_,rfl,_,_,rfl,rfl,_,rfl,p3,_,rfl,SqL.of (s5 _ _ (s4 _ _ g3)),λp6 hp6=>?_⟩;have ecm:eQ (ts.map V.str) (some d) (some (d+v))=((ts.drop d.toNat).take v.toNat).map V.str:=by
    have:=Aj (ts.map V.str) (a:=d.toNat) (b:=v.toNat) (by rw [Dx];lia);rw [show ((d.toNat:Nat):Int)=d by lia,show ((v.toNat:Nat):Int)=v by lia]at this;rw [this,Gn,List.map_drop]
   rw [ecm];obtain ⟨Hf,eW,s6,g6⟩:=nw hp6 (.lst (((ts.drop d.toNat).take v.toNat).map V.str));rw [eW];refine ⟨p6,_,rfl,.inl ⟨SqL.of g6,λp7 hp7=>?_⟩⟩;obtain ⟨Hg,eW,s7,g7⟩:=nw hp7 (.tup (((ts.drop d.toNat).take v.toNat).map V.str));rw [eW];refine ⟨oZ,λp8 hp8=>?_⟩;obtain ⟨Hh,eW,s8,g8⟩:=nw hp8 (.tup [.str nm,.ref p5,.ref p7]);rw [eW];have Sc:Same Hc Hh:=s4.trans (s5.trans (s6.trans (s7.trans s8)));have hslh:=Sc _ _ hslc;have hzl:zs.length=i:=by rw [<- hR.len];exact hssl
   refine ⟨sl,zs,.ref p8,rfl,rfl,hslh,aK (by lia),?_⟩;have tk:TK Hh (upd Hh sl (.lst (zs++[.ref p8]))):=TK.lst hslh;have kh:Kp tp H6 Hh:=kc.same Sc;refine ⟨_,_,_,_,_,zs++[.ref p8],ss++[⟨nm,ts.take d.toNat,(ts.drop d.toNat).take v.toNat⟩],rfl,?_,?_,?_,?_,ae,?_,?_,?_,?_⟩
   ·intro b o hb hbn;rw [aj (al (k3 _ _ hb hbn) hsl)];exact kh _ _ (k6 _ _ hb hbn) hbn
   ·obtain ⟨t9,e9⟩:=ttc.same Sc;exact ⟨t9,by rw [aj (EI hslt)];exact e9⟩
   ·rw [aj nsl];exact Sc _ _ hnlc
   ·rw [aj wsl];exact Sc _ _ hwlc
   ·exact FE (hR.mono ((kh.tk tt6).trans tk)) ⟨p8,p5,p7,rfl,tk _ _ g8,tk _ _ (s8 _ _ (s7 _ _ (s6 _ _ g5))),tk _ _ (s8 _ _ g7)⟩
   ·rw [DA,hssl];rfl
   ·intro s hs;rw [DQ,DF]at hs;rcases hs with h | h
    ·exact hok s h
    ·subst h;exact hsok nm
   ·rw [Ef,hnm,List.map_singleton,EB,enm];rfl
 ·rintro σ H6 ⟨o6,o7,o8,o9,o10,zs,ss,rfl,k6,tt6,hnl6,hwl6,hsl6,hR,hssl,hok,hnm⟩;refine ⟨_,rfl,sl,zs,rfl,.inl ⟨SqL.of hsl6,λpt hpt=>?_⟩⟩;refine q pt ss zs _ ae (hR.mono (TK.new hpt)) ⟨by lia,by lia,?_,?_,hok⟩ (k6.new hpt) (tt6.new hpt)
  ·rw [hnm];exact nNd.sublist (Hl _ _)
  ·intro s hs;have hm:s.name∈ns:=Eu (i:=(1+dm).toNat) (by rw [<- hnm];exact F9 hs);exact ⟨nWd _ hm,nNo _ hm⟩
def yK (H:Hp) (ys:List V) (z:V):Prop:= ∃ a,z=.ref a/\H a=some (.tup ys)
def Tups (H:Hp) (yss:List (List V)) (zs:List V):Prop:=Paired (yK H) yss zs
theorem Tups.mono {H H':Hp} (t:TK H H') {yss:List (List V)} {zs:List V} (h:Tups H yss zs):Tups H' yss zs:=Paired.mapP h λ_ _ ⟨a,e,g⟩=>⟨a,e,t _ _ g⟩
theorem Tups.len {H:Hp} {yss:List (List V)} {zs:List V} (h:Tups H yss zs):yss.length=zs.length:=Ev h
theorem Tups.append {H:Hp}: ∀ {a c:List (List V)} {b d:List V},Tups H a b->Tups H c d->Tups H (a++c) (b++d)
 | _,_,_,_,.nil,h=>h
 | _,_,_,_,.cons x t,h=>.cons x (Tups.append t h)
theorem bN {H H':Hp} (s:Same H H'):TK H H':=λa xs h=>s _ _ h
theorem ir {K:W.Frag} {a:Addr} {xs:List V} {fr:List Nat} {te:TE} {σ:St} {H1:Hp} {Q:VK} (hn:xs.length<=1000) (ha:H1 a=some (.tup xs)) (g:V->List V)
  (hte: ∀ v H k,v∈xs->(∀ p,H p=none->k (.ref p) (upd H p (.tup (g v))))->te (some v::bV fr σ) H k)
  (hd: ∀ p zs H',H1 p=none->Same H1 H'->H' p=some (.lst zs)->Tups H' (xs.map g) zs->Q (.ref p) H'):fb fr te σ (Itt K a) H1 Q:=by
 intro p hp;refine ⟨λi m zs H=>i<=xs.length/\m=xs.length-i/\Same H1 H/\H p=some (.lst zs)/\zs.length=i/\Tups H ((xs.take i).map g) zs,⟨_,Er _,rfl,am hp _,ae,rfl,.nil⟩,?_⟩;rintro i m zs H ⟨hi,hm,sm,gp,hz,hT⟩;refine ⟨gp,?_⟩;by_cases e:i=xs.length
 ·subst e;rw [EX]at hT;exact .inl ⟨⟨xs,SqT.of (sm _ _ ha),DI _⟩,hd p zs H hp sm gp hT⟩
 ·have hlt:i<xs.length:=by lia
  refine .inr ⟨⟨xs,xs[i],SqT.of (sm _ _ ha),DD hlt⟩,aK (by lia),λv H' hv=>?_⟩;obtain ⟨rfl,hv⟩:=hv;have hv:=hv xs (SqT.of (sm _ _ ha));refine hte v _ _ (DC hv) λq hq=>?_;have s2:=am hq (.tup (g v));have gq:(upd H' q (.tup (g v))) q=some (.tup (g v)):=ae;generalize upd H' q (.tup (g v))=H2 at s2 gq ⊢;have gp2:=s2 _ _ gp;have tk:TK H2 (upd H2 p (.lst (zs++[.ref q]))):=TK.lst gp2;refine ⟨gp2,xs.length- (i+1),by lia,by lia,rfl,?_,ae,by rw [DA,hz];rfl,?_⟩
  ·intro b o hb;rw [aj (al hb hp)];exact s2 _ _ (sm _ _ hb)
  ·rw [EB,hv,Ef];exact FE (hT.mono ((bN s2).trans tk)) ⟨q,rfl,tk _ _ gq⟩
theorem jR {α β:Type} {F:α->β->Prop}: ∀ {l:List α} {r:List β},Paired F l r-> ∀ n,Paired F (l.take n) (r.take n)
 | _,_,.nil,n=>by rw [List.take_nil,List.take_nil];exact .nil
 | _,_,.cons h t,0=>.nil
 | _,_,.cons h t,n+1=>.cons h (jR t n)
noncomputable def bY (k:Int):List Srt->List (Int×Str)
 | []=>[]
 | q::r=>q.downs.map (λx=>(k,x))++bY (k+1) r
noncomputable def cA (o:Srt) (qs:List Srt):List (Int×Str):=o.ups.map (λx=>(-1,x))++bY 0 qs
noncomputable def tgV (t:Int×Str):List V:=[.int t.1,.str t.2]
theorem fK (k:Int): ∀ (qs:List Srt),(∀ s∈qs,s.ok)->(bY k qs).length<=3*qs.length:=by
 intro qs;induction qs generalizing k with
 | nil=>intro _;exact DI _
 | cons q r ih=>
  intro h;have h1:=ih (k+1) λs hs=>h s (DZ _ hs);have h2:=(h q DW).2.2.1;unfold bY;rw [DA,Dx,DJ];lia
theorem jN (k:Int): ∀ (qs:List Srt) (q:Srt),bY k (qs++[q])=bY k qs++q.downs.map (λx=>(k+qs.length,x)):=by
 intro qs;induction qs generalizing k with
 | nil=>intro q;show q.downs.map (λx=>(k,x))++[]=_;rw [En];show _=q.downs.map (λx=>(k+ ((0:Nat):Int),x));rw [show k+ ((0:Nat):Int)=k by lia]
 | cons r rs ih=>
  intro q;show r.downs.map _++bY (k+1) (rs++[q])=(r.downs.map _++bY (k+1) rs)++_;rw [ih,Et];have:k+1+ (rs.length:Int)=k+ ((r::rs).length:Int):=by rw [DJ];lia
  rw [this]
def TabOk (H:Hp) (kvs:List (Key×V)) (ss:List Srt):Prop:= ∀ s∈ss,∃ a b c,cz kvs (.inr s.name)=some (.ref a)/\H a=some (.tup [.ref b,.ref c])/\H b=some (.tup (s.downs.map V.str))/\H c=some (.tup (s.ups.map V.str))
theorem TabOk.mono {H H':Hp} (t:TK H H') {kvs:List (Key×V)} {ss:List Srt} (h:TabOk H kvs ss):TabOk H' kvs ss:=λs hs=>by
 obtain ⟨a,b,c,e,h1,h2,h3⟩:=h s hs;exact ⟨a,b,c,e,t _ _ h1,t _ _ h2,t _ _ h3⟩
theorem TabOk.put {H:Hp} {kvs:List (Key×V)} {ss:List Srt} {i:Nat} {s:Srt} {a b c:Addr} (nd:(ss.map Srt.name).Nodup) (hs:ss[i]? =some s) (h:TabOk H kvs (ss.take i))
  (h1:H a=some (.tup [.ref b,.ref c])) (h2:H b=some (.tup (s.downs.map V.str))) (h3:H c=some (.tup (s.ups.map V.str))):TabOk H (dj kvs (.inr s.name) (.ref a)) (ss.take (i+1)):=by
 intro x hx;rw [EB,hs,DQ]at hx;rcases hx with hx | hx
 ·obtain ⟨a',b',c',e,r⟩:=h x hx;refine ⟨a',b',c',?_,r⟩;rw [oN,DU]
  ·exact e
  ·intro z;have z:x.name=s.name:=IH z;obtain ⟨j,hj⟩:=Fd hx;have hji:j<i:=by
    have:=(DH.mp hj).1;rw [DX]at this;lia
   rw [FO,Ea hji]at hj;have q1:(ss.map Srt.name)[j]? =some s.name:=by rw [DP,hj,<- z];rfl
   have q2:(ss.map Srt.name)[i]? =some s.name:=by rw [DP,hs];rfl
   have:=jd nd q1 q2;lia
 ·have hx:x=s:=by simpa using hx
  subst hx;exact ⟨a,b,c,by rw [oN,Ea rfl],h1,h2,h3⟩
def SrtsAt (H:Hp) (a:Addr) (ss:List Srt):Prop:= ∃ xs,H a=some (.tup xs)/\RepSs H ss xs
theorem SrtsAt.mono {H H':Hp} (t:TK H H') {a:Addr} {ss:List Srt}:SrtsAt H a ss->SrtsAt H' a ss:=λ⟨xs,h,r⟩=>⟨xs,t _ _ h,r.mono t⟩
inductive hV  (vs:List V) (H:Hp) (Q:VK) (E_:XK):Prop
 | mk: ∀ sa pa ss o qs,(vs=[.ref sa,.str (Srt.name o),.ref pa])->(SrtsAt H sa ss)->(eZ ss)->(o∈ss)->(H pa=some (.tup (qs.map λq=>V.str (Srt.name q))))->((∀ q∈qs,q∈ss))->(qs.length<=3)->(∀ p zs H',H p=none->Same H H'->H' p=some (.lst zs)->Tups H' ((cA o qs).map tgV) zs->Q (.ref p) H')->hV vs H Q E_
theorem scTargets:av ["sorts","own","parts","table","name","downs","ups","found","k"] ["sorts","own","parts"] (ah gI):=fsc
theorem rq (F:Fun K "_law_targets" "_law_targets" gI f fd) (G:Gb mg):
  aX P w K mg base CX0 1 f fd ["sorts","own","parts"] hV:=by
 refine F.okz scTargets λcdv A outer s H vs Q E hr h=>?_;obtain ⟨sa,pa,ss,o,qs,rfl,⟨xs,hsa,hR⟩,hok,ho,hpa,hqs,hql,q⟩:=h;have hu:=mq hr;refine ⟨_,ad (psz 3 scTargets.nd jb)
  (ad (cC Ep rfl (bB (pv 0)) (cL rfl (aA (pgz 4 scTargets.nd) (aA (pgz 5 scTargets.nd) (aA (pgz 6 scTargets.nd) bW))))
   (ai (i9 hu (pv 3) (pv 4) (aU (aa (pv 5) (aa (pv 6) ac))) rfl)))
  (ad (fW (i:=7) (sc0:=ah gI) (N0:=["sorts","own","parts","table","name","downs","ups","found","k"]) (ys:=[]) (fr:=[]) rfl scTargets.nd rfl (Or.inl rfl)
    (bB (ax (r:=bc K) aH (eX hu (pv 3) (pv 1) (λ_ _=>rfl)) ag (λ_ _=>rfl))) rfl rfl
    csc
    (λC s H ex=>aU (aa (gN eE ag) (aa (pv 0) ac))))
  (ad (cC Ep rfl (bL rfl G.range (aa (ao (r:=bU K) au rfl G.len DV (aa (pv 2) ac)) ac)) (dD (i:=8) scTargets.nd rfl (Or.inr rfl))
   (ai (bP (dS Ee EY EZ fB (pv 7) (aa
    (bX (sc0:=ah gI) (N0:=["sorts","own","parts","table","name","downs","ups","found","k"]) (ys:=["k"]) (fr:=[8]) rfl
     (bB (ax (r:=bc K) aH (eX hu (pv 3) (ax (r:=bc K) aH (pv 2) (pv 8) (λ_ _=>rfl)) (λ_ _=>rfl)) ag (λ_ _=>rfl))) rfl rfl
     csc
     (λC s H ex=>aU (aa (pv 1) (aa (pv 0) ac)))) ac)))))
  (ai (aw (pv 7)))))),?_⟩
 refine λtd htd=>?_;obtain ⟨H0,eW,s0,g0⟩:=nw htd (.dK []);rw [eW];have hlen:=hR.len;refine ⟨_,rfl,sa,rfl,⟨xs,SqT.of (s0 _ _ hsa)⟩,?_⟩;refine jk (xs:=xs) (λi σ H'=>i<=xs.length/\ ∃ o4 o5 o6 kvs,σ=[some (.ref sa),some (.str o.name),some (.ref pa),some (.ref td),o4,o5,o6,none,none]/\Same H H'/\H' td=some (.dK kvs)/\kvs.length<=i/\TabOk H' kvs (ss.take i))
  ⟨Er _,none,none,none,[],rfl,s0,g0,DI _,λs hs=>(by cases hs)⟩ (λi σ H' _ h=>by obtain ⟨_,_,_,_,_,_,sm,_⟩:=h;exact SqT.of (sm _ _ hsa)) ?_ ?_
 ·rintro i x σ H1 hx ⟨hi,o4,o5,o6,kvs,rfl,sm,gd,hl,hT⟩;have hlt:i<xs.length:=(DH.mp hx).1;obtain ⟨sr,hsr,a,b,c,rfl,ha,hb,hc⟩:=bj hR hx;refine ⟨a,_,rfl,SqT.of (sm _ _ ha),rfl,_,_,rfl,_,_,rfl,_,_,rfl,rfl,?_⟩;refine ⟨_,rfl,_,rfl,gH,λpt hpt=>?_⟩;obtain ⟨H2,eW,s1,g1⟩:=nw hpt (.tup [.ref b,.ref c]);rw [eW];have gd2:=s1 _ _ gd;have S2:Same H H2:=sm.trans s1;refine ⟨_,rfl,_,rfl,td,_,rfl,DPut.k (k:=.inr sr.name) gd2 (aK (by have:=hok.2.1;lia)),?_⟩;have tk:TK H2 (upd H2 td (.dK (dj kvs (.inr sr.name) (.ref pt)))):=TK.upd λys e=>by rw [gd2]at e;cases e
  refine ⟨hlt,_,_,_,_,rfl,?_,ae,?_,?_⟩
  ·intro y oo h;rw [aj (al h htd)];exact S2 _ _ h
  ·have:=dG kvs (.inr sr.name) (.ref pt);lia
  ·exact TabOk.put hok.2.2.1 hsr (hT.mono ((bN s1).trans tk)) (tk _ _ g1) (tk _ _ (S2 _ _ hb)) (tk _ _ (S2 _ _ hc))
 ·rintro σ H1 ⟨_,o4,o5,o6,kvs,rfl,sm,gd,hl,hT⟩;rw [<- hlen,EX]at hT;obtain ⟨a,b,c,eo,ha,hb,hc⟩:=hT o ho;refine ⟨_,rfl,_,rfl,td,.ref a,rfl,(by rw [<- eo];exact DGet.k (k:=.inr o.name) gd),a,_,1,.ref c,rfl,rfl,SqT.of ha,aM (j:=1) rfl,c,rfl,⟨_,SqT.of hc⟩,?_⟩;have lo:o.ups.length<=3:=(hok.2.2.2.2 o ho).2.2.2.1;refine ir (by rw [Dx];lia) hc (λv=>[.int (-1),v]) (λv H k _ hk=>⟨1,rfl,_,rfl,gH,λp hp=>hk p hp⟩) λfl zs H2 hfl s2 gfl hTz=>?_;have ez:(o.ups.map V.str).map (λv=>[V.int (-1),v])=(o.ups.map λx=>((-1:Int),x)).map tgV:=by rw [Es,Es];rfl
  rw [ez]at hTz;have S2:Same H H2:=sm.trans s2;have hfl0:H fl=none:=sm.free hfl;have gd2:=s2 _ _ gd;have hT2:=hT.mono (bN s2);have dfl:fl≠td:=EI (al gd hfl);have hlp:(qs.map λq=>V.str (Srt.name q)).length=qs.length:=Dx _;refine ⟨_,rfl,pa,_,rfl,.inr (SqT.of (S2 _ _ hpa)),_,rfl,by lia,by lia,?_⟩;refine dA (λi σ H'=> ∃ o8 zs,σ=[some (.ref sa),some (.str o.name),some (.ref pa),some (.ref td),o4,o5,o6,some (.ref fl),o8]/\Same H H'/\H' td=some (.dK kvs)/\TabOk H' kvs ss/\H' fl=some (.lst zs)/\
    Tups H' ((o.ups.map (λx=>((-1:Int),x))++bY 0 (qs.take i)).map tgV) zs)
   ⟨none,zs,rfl,S2,gd2,hT2,gfl,by rw [List.take_zero];show Tups H2 ((_++[]).map tgV) zs;rw [En];exact hTz⟩ ?_ ?_
  ·rintro i σ H3 hi ⟨o8,zs3,rfl,S3,gd3,hT3,gfl3,hTz3⟩;have hi':i<qs.length:=by lia
   obtain ⟨sq,hsq⟩: ∃ sq,qs[i]? =some sq:=⟨qs[i],DD hi'⟩;obtain ⟨a,b,c,eq,ha,hb,hc⟩:=hT3 sq (hqs sq (DC hsq));have eat:atI (qs.map λq=>V.str (Srt.name q)) (0+ (i:Int))=some (V.str sq.name):=by
    rw [F2];exact aM (by rw [DP,hsq];rfl)
   refine ⟨_,rfl,.inl ⟨rfl,_,SqL.of gfl3⟩,?_⟩;refine ⟨_,rfl,_,rfl,_,rfl,pa,_,_,_,rfl,rfl,SqT.of (S3 _ _ hpa),eat,td,.ref a,rfl,(by rw [<- eq];exact DGet.k (k:=.inr sq.name) gd3),a,_,0,.ref b,rfl,rfl,SqT.of ha,du,b,rfl,⟨_,SqT.of hb⟩,?_⟩;have ld:sq.downs.length<=3:=(hok.2.2.2.2 sq (hqs sq (DC hsq))).2.2.1;refine ir (by rw [Dx];lia) hb (λv=>[.int (0+ (i:Int)),v]) (λv H k _ hk=>⟨_,rfl,_,rfl,gH,λp hp=>hk p hp⟩) λpl ws H4 hpl s4 gpl hTw=>?_;have ew:(sq.downs.map V.str).map (λv=>[V.int (0+ (i:Int)),v])=(sq.downs.map λx=>(0+ (i:Int),x)).map tgV:=by rw [Es,Es];rfl
   rw [ew]at hTw;have gfl4:=s4 _ _ gfl3;have lz:=hTz3.len;have lw:=hTw.len;have lt:=fK 0 (qs.take i) λs hs=>hok.2.2.2.2 s (hqs s (Eu hs));rw [Dx,DA,Dx]at lz;rw [Dx,Dx]at lw;rw [DX]at lt;refine ⟨fl,pl,zs3,ws,rfl,rfl,gfl4,gpl,EA (aK (by lia)),?_⟩;have tk:TK H4 (upd H4 fl (.lst (zs3++ws))):=TK.lst gfl4;have tk3:TK H3 (upd H4 fl (.lst (zs3++ws))):=(bN s4).trans tk;refine ⟨_,zs3++ws,rfl,?_,?_,hT3.mono tk3,ae,?_⟩
   ·intro y oo h;rw [aj (al h hfl0)];exact s4 _ _ (S3 _ _ h)
   ·rw [aj (EI dfl)];exact s4 _ _ gd3
   ·rw [EB,hsq];show Tups _ ((_++bY 0 (qs.take i++[sq])).map tgV) _;rw [jN,<- Et,Ef];have e9:(0:Int) + ((qs.take i).length:Int)=0+ (i:Int):=by rw [DX];lia
    rw [e9];exact (hTz3.mono tk3).append (hTw.mono tk)
  ·rintro σ H3 ⟨o8,zs3,rfl,S3,gd3,hT3,gfl3,hTz3⟩;have e9:qs.take (((qs.map λq=>V.str (Srt.name q)).length:Int)).toNat=qs:=by rw [hlp];exact EL (by lia)
   rw [e9]at hTz3;exact ⟨_,rfl,q fl zs3 H3 hfl0 S3 gfl3 hTz3⟩
noncomputable def cK (k:Int):List Srt->List Fm
 | []=>[]
 | q::r=>q.ups.map (λx=>Fm.part k x)++cK (k+1) r
noncomputable def tgF (t:Int×Str):Fm:=if t.1<0 then .own t.2 else .part t.1 t.2
noncomputable def fj (o:Srt) (qs:List Srt) (mode j:Int):List (Int×Str):=if mode=2 then (cA o qs).take j.toNat else cA o qs
noncomputable def rds (o:Srt) (qs:List Srt) (mode j:Int):List Fm:=(o.downs.map Fm.own++cK 0 qs)++(if mode>0 then (fj o qs mode j).map tgF else [])
noncomputable def fmV:Fm->List V
 | .own x=>[.str "own",.str x]
 | .part k x=>[.str "part",.int k,.str x]
 | _=>[]
theorem iD (k:Int): ∀ (qs:List Srt),(∀ s∈qs,s.ok)->(cK k qs).length<=3*qs.length:=by
 intro qs;induction qs generalizing k with
 | nil=>intro _;exact DI _
 | cons q r ih=>
  intro h;have h1:=ih (k+1) λs hs=>h s (DZ _ hs);have h2:=(h q DW).2.2.2.1;unfold cK;rw [DA,Dx,DJ];lia
theorem pA (k:Int): ∀ (qs:List Srt) (q:Srt),cK k (qs++[q])=cK k qs++q.ups.map (λx=>Fm.part (k+qs.length) x):=by
 intro qs;induction qs generalizing k with
 | nil=>intro q;show q.ups.map (λx=>Fm.part k x)++[]=_;rw [En];show _=q.ups.map (λx=>Fm.part (k+ ((0:Nat):Int)) x);rw [show k+ ((0:Nat):Int)=k by lia]
 | cons r rs ih=>
  intro q;show r.ups.map _++cK (k+1) (rs++[q])=(r.ups.map _++cK (k+1) rs)++_;rw [ih,Et];have:k+1+ (rs.length:Int)=k+ ((r::rs).length:Int):=by rw [DJ];lia
  rw [this]
theorem kA {ss:List Srt} {o:Srt} {qs:List Srt} (hok: ∀ s∈ss,s.ok) (ho:o∈ss) (hq: ∀ q∈qs,q∈ss) (hl:qs.length<=3):(cA o qs).length<=12:=by
 have h1:=fK 0 qs λs hs=>hok s (hq s hs);have h2:=(hok o ho).2.2.2.1;unfold cA;rw [DA,Dx];lia
theorem lT (o:Srt) (qs:List Srt) (mode j:Int):(fj o qs mode j).length<=(cA o qs).length:=by
 unfold fj;by_cases c:mode=2
 ·rw [Ea c,DX];exact Nat.min_le_right _ _
 ·rw [DU c];exact DI _
inductive gG  (vs:List V) (H:Hp) (Q:VK) (E_:XK):Prop
 | mk: ∀ sa pa ss o qs mode j,(vs=[.ref sa,.str (Srt.name o),.ref pa,.int mode,.int j])->(SrtsAt H sa ss)->(eZ ss)->(o∈ss)->(H pa=some (.tup (qs.map λq=>V.str (Srt.name q))))->((∀ q∈qs,q∈ss))->(qs.length<=3)->(0<=j)->(j<=(cA o qs).length)->(∀ p zs H',H p=none->Same H H'->H' p=some (.lst zs)->Tups H' ((rds o qs mode j).map fmV) zs->Q (.ref p) H')->gG vs H Q E_
theorem Bq {z u:V} (k:Bool):atI [z,u] (if k then 1 else 0)=some (if k then u else z):=by cases k <;> rfl
theorem scLReadings:av ["sorts","own","parts","mode","j","table","name","downs","ups","word","found","k","targets","at"] ["sorts","own","parts","mode","j"] (ah eI):=fsc
theorem n4 (F:Fun K "_law_readings" "_law_readings" eI f fd) (G:Gb mg) (GT:Cl P w K mg base CX0 1 g gd ["sorts","own","parts"] hV "_law_targets"):
  aX P w K mg base CX0 2 f fd ["sorts","own","parts","mode","j"] gG:=by
 refine F.okz scLReadings λcdv A outer s H vs Q E hr h=>?_;obtain ⟨sa,pa,ss,o,qs,mode,j,rfl,⟨xs,hsa,hR⟩,hok,ho,hpa,hqs,hql,hj0,hj1,q⟩:=h;have hu:=mq hr;refine ⟨_,ad (psz 5 scLReadings.nd jb)
  (ad (cC Ep rfl (bB (pv 0)) (cL rfl (aA (pgz 6 scLReadings.nd) (aA (pgz 7 scLReadings.nd) (aA (pgz 8 scLReadings.nd) bW))))
   (ai (i9 hu (pv 5) (pv 6) (aU (aa (pv 7) (aa (pv 8) ac))) rfl)))
  (ad (fW (i:=10) (sc0:=ah eI) (N0:=["sorts","own","parts","mode","j","table","name","downs","ups","word","found","k","targets","at"]) (ys:=[]) (fr:=[]) rfl scLReadings.nd rfl (Or.inl rfl)
    (bB (ax (r:=bc K) aH (eX hu (pv 5) (pv 1) (λ_ _=>rfl)) ag (λ_ _=>rfl))) rfl rfl
    csc
    (λC s H ex=>aU (aa aV (aa (pv 0) ac))))
  (ad (cC Ep rfl (bL rfl G.range (aa (ao (r:=bU K) au rfl G.len DV (aa (pv 2) ac)) ac)) (dD (i:=11) scLReadings.nd rfl (Or.inr rfl))
   (ai (bP (dS Ee EY EZ fB (pv 10) (aa
    (bX (sc0:=ah eI) (N0:=["sorts","own","parts","mode","j","table","name","downs","ups","word","found","k","targets","at"]) (ys:=["k"]) (fr:=[11]) rfl
     (bB (ax (r:=bc K) aH (eX hu (pv 5) (ax (r:=bc K) aH (pv 2) (pv 11) (λ_ _=>rfl)) (λ_ _=>rfl)) ag (λ_ _=>rfl))) rfl rfl
     csc
     (λC s H ex=>aU (aa aV (aa (pv 1) (aa (pv 0) ac))))) ac)))))
  (ad (psz 12 scLReadings.nd (pcl GT hr (aa (pv 0) (aa (pv 1) (aa (pv 2) ac)))))
  (ad (aS (aG bJ (pv 3) ag (aJ _)) (ai (psz 12 scLReadings.nd (bw dC (pv 12) cg (bI (pv 4))))) aE)
  (ad (cC Ep rfl (km (pv 12)) (cL rfl (aA (pgz 13 scLReadings.nd) (aA (pgz 9 scLReadings.nd) bW)))
   (ai (aS (aG jU (pv 3) ag (aJ _))
    (ai (bP (dS Ee EF EG bM (pv 10) (aa
     (ax (r:=bO K) aL (bh (aa (aU (aa aV (aa (pv 13) (aa (pv 9) ac)))) (aa (aU (aa aV (aa (pv 9) ac))) ac)))
      (bz iw rfl G.int (by decide +kernel) (aa (cj jc (pv 13) ag (aJ _)) ac)) (λ_ _=>rfl)) ac)))) aE)))
  (ai (aw (pv 10))))))))),?_⟩
 refine λtd htd=>?_;obtain ⟨H0,eW,s0,g0⟩:=nw htd (.dK []);rw [eW];have hlen:=hR.len;refine ⟨_,rfl,sa,rfl,⟨xs,SqT.of (s0 _ _ hsa)⟩,?_⟩;refine jk (xs:=xs) (λi σ H'=>i<=xs.length/\ ∃ o4 o5 o6 kvs,σ=[some (.ref sa),some (.str o.name),some (.ref pa),some (.int mode),some (.int j),some (.ref td),o4,o5,o6,none,none,none,none,none]/\Same H H'/\H' td=some (.dK kvs)/\kvs.length<=i/\TabOk H' kvs (ss.take i))
  ⟨Er _,none,none,none,[],rfl,s0,g0,DI _,λs hs=>(by cases hs)⟩ (λi σ H' _ h=>by obtain ⟨_,_,_,_,_,_,sm,_⟩:=h;exact SqT.of (sm _ _ hsa)) ?_ ?_
 ·rintro i x σ H1 hx ⟨hi,o4,o5,o6,kvs,rfl,sm,gd,hl,hT⟩;have hlt:i<xs.length:=(DH.mp hx).1;obtain ⟨sr,hsr,a,b,c,rfl,ha,hb,hc⟩:=bj hR hx;refine ⟨a,_,rfl,SqT.of (sm _ _ ha),rfl,_,_,rfl,_,_,rfl,_,_,rfl,rfl,?_⟩;refine ⟨_,rfl,_,rfl,gH,λpt hpt=>?_⟩;obtain ⟨H2,eW,s1,g1⟩:=nw hpt (.tup [.ref b,.ref c]);rw [eW];have gd2:=s1 _ _ gd;have S2:Same H H2:=sm.trans s1;refine ⟨_,rfl,_,rfl,td,_,rfl,DPut.k (k:=.inr sr.name) gd2 (aK (by have:=hok.2.1;lia)),?_⟩;have tk:TK H2 (upd H2 td (.dK (dj kvs (.inr sr.name) (.ref pt)))):=TK.upd λys e=>by rw [gd2]at e;cases e
  refine ⟨hlt,_,_,_,_,rfl,?_,ae,?_,?_⟩
  ·intro y oo h;rw [aj (al h htd)];exact S2 _ _ h
  ·have:=dG kvs (.inr sr.name) (.ref pt);lia
  ·exact TabOk.put hok.2.2.1 hsr (hT.mono ((bN s1).trans tk)) (tk _ _ g1) (tk _ _ (S2 _ _ hb)) (tk _ _ (S2 _ _ hc))
 ·rintro σ H1 ⟨_,o4,o5,o6,kvs,rfl,sm,gd,hl,hT⟩;rw [<- hlen,EX]at hT;obtain ⟨a,b,c,eo,ha,hb,hc⟩:=hT o ho;refine ⟨_,rfl,_,rfl,td,.ref a,rfl,(by rw [<- eo];exact DGet.k (k:=.inr o.name) gd),a,_,0,.ref b,rfl,rfl,SqT.of ha,du,b,rfl,⟨_,SqT.of hb⟩,?_⟩;have lo:o.downs.length<=3:=(hok.2.2.2.2 o ho).2.2.1;refine ir (by rw [Dx];lia) hb (λv=>[.str "own",v]) (λv H k _ hk=>⟨_,rfl,gH,λp hp=>hk p hp⟩) λfl zs H2 hfl s2 gfl hTz=>?_;have ez:(o.downs.map V.str).map (λv=>[V.str "own",v])=(o.downs.map Fm.own).map fmV:=by rw [Es,Es];rfl
  rw [ez]at hTz;have S2:Same H H2:=sm.trans s2;have hfl0:H fl=none:=sm.free hfl;have gd2:=s2 _ _ gd;have hT2:=hT.mono (bN s2);have dfl:fl≠td:=EI (al gd hfl);have hlp:(qs.map λq=>V.str (Srt.name q)).length=qs.length:=Dx _;refine ⟨_,rfl,pa,_,rfl,.inr (SqT.of (S2 _ _ hpa)),_,rfl,by lia,by lia,?_⟩;refine dA (λi σ H'=> ∃ o8 zs,σ=[some (.ref sa),some (.str o.name),some (.ref pa),some (.int mode),some (.int j),some (.ref td),o4,o5,o6,none,some (.ref fl),o8,none,none]/\Same H H'/\H' td=some (.dK kvs)/\TabOk H' kvs ss/\H' fl=some (.lst zs)/\
    Tups H' ((o.downs.map Fm.own++cK 0 (qs.take i)).map fmV) zs)
   ⟨none,zs,rfl,S2,gd2,hT2,gfl,by rw [List.take_zero];show Tups H2 ((_++[]).map fmV) zs;rw [En];exact hTz⟩ ?_ ?_
  ·rintro i σ H3 hi ⟨o8,zs3,rfl,S3,gd3,hT3,gfl3,hTz3⟩;have hi':i<qs.length:=by lia
   obtain ⟨sq,hsq⟩: ∃ sq,qs[i]? =some sq:=⟨qs[i],DD hi'⟩;obtain ⟨a,b,c,eq,ha,hb,hc⟩:=hT3 sq (hqs sq (DC hsq));have eat:atI (qs.map λq=>V.str (Srt.name q)) (0+ (i:Int))=some (V.str sq.name):=by
    rw [F2];exact aM (by rw [DP,hsq];rfl)
   refine ⟨_,rfl,.inl ⟨rfl,_,SqL.of gfl3⟩,?_⟩;refine ⟨_,rfl,_,rfl,_,rfl,pa,_,_,_,rfl,rfl,SqT.of (S3 _ _ hpa),eat,td,.ref a,rfl,(by rw [<- eq];exact DGet.k (k:=.inr sq.name) gd3),a,_,1,.ref c,rfl,rfl,SqT.of ha,aM (j:=1) rfl,c,rfl,⟨_,SqT.of hc⟩,?_⟩;have ld:sq.ups.length<=3:=(hok.2.2.2.2 sq (hqs sq (DC hsq))).2.2.2.1;refine ir (by rw [Dx];lia) hc (λv=>[.str "part",.int (0+ (i:Int)),v]) (λv H k _ hk=>⟨_,rfl,_,rfl,oZ,λp hp=>hk p hp⟩) λpl ws H4 hpl s4 gpl hTw=>?_;have ew:(sq.ups.map V.str).map (λv=>[V.str "part",V.int (0+ (i:Int)),v])=(sq.ups.map λx=>Fm.part (0+ (i:Int)) x).map fmV:=by rw [Es,Es];rfl
   rw [ew]at hTw;have gfl4:=s4 _ _ gfl3;have lz:=hTz3.len;have lw:=hTw.len;have lt:=iD 0 (qs.take i) λs hs=>hok.2.2.2.2 s (hqs s (Eu hs));rw [Dx,DA,Dx]at lz;rw [Dx,Dx]at lw;rw [DX]at lt;refine ⟨fl,pl,zs3,ws,rfl,rfl,gfl4,gpl,EA (aK (by lia)),?_⟩;have tk:TK H4 (upd H4 fl (.lst (zs3++ws))):=TK.lst gfl4;have tk3:TK H3 (upd H4 fl (.lst (zs3++ws))):=(bN s4).trans tk;refine ⟨_,zs3++ws,rfl,?_,?_,hT3.mono tk3,ae,?_⟩
   ·intro y oo h;rw [aj (al h hfl0)];exact s4 _ _ (S3 _ _ h)
   ·rw [aj (EI dfl)];exact s4 _ _ gd3
   ·rw [EB,hsq];show Tups _ ((_++cK 0 (qs.take i++[sq])).map fmV) _;rw [pA,<- Et,Ef];have e9:(0:Int) + ((qs.take i).length:Int)=0+ (i:Int):=by rw [DX];lia
    rw [e9];exact (hTz3.mono tk3).append (hTw.mono tk)
  ·rintro σ H3 ⟨o8,zs3,rfl,S3,gd3,hT3,gfl3,hTz3⟩;have e9:qs.take (((qs.map λq=>V.str (Srt.name q)).length:Int)).toNat=qs:=by rw [hlp];exact EL (by lia)
   rw [e9]at hTz3;have lt12:=kA hok.2.2.2.2 ho hqs hql;have l12:zs3.length<=12:=by
    have lt:=iD 0 qs λs hs=>hok.2.2.2.2 s (hqs s hs);have lz:=hTz3.len;rw [Dx,DA,Dx]at lz;lia
   refine ⟨_,rfl,_,rfl,_,rfl,sa,pa,ss,o,qs,rfl,⟨xs,S3 _ _ hsa,hR.mono (bN S3)⟩,hok,ho,S3 _ _ hpa,hqs,hql,λtl zt H4 htl s4 gtl hTt=>?_⟩;have S4:Same H H4:=S3.trans s4;have gfl4:=s4 _ _ gfl3;have hTz4:=hTz3.mono (bN s4);have nft:fl≠tl:=al gfl3 htl;refine ⟨_,rfl,rfl,_,rfl,?_⟩;refine bp (λc=>?A) (λc=>?B)
   case' A=>
    have cm:mode=2:=V.int.inj (DT c);have lzt:zt.length=(cA o qs).length:=by rw [<- hTt.len,Dx]
    refine ⟨_,rfl,_,rfl,j,rfl,tl,zt,rfl,SqL.of gtl,λtl2 htl2=>?_⟩;rw [gX zt hj0 (by lia)];have hsel:Tups H4 ((fj o qs mode j).map tgV) (zt.take j.toNat):=by
     unfold fj;rw [Ea cm,Gn];exact jR hTt _
    have s5:=am htl2 (.lst (zt.take j.toNat));have gt:(upd H4 tl2 (.lst (zt.take j.toNat))) tl2=some (.lst (zt.take j.toNat)):=ae;have nft2:fl≠tl2:=al gfl4 htl2;have gfl5:=s5 _ _ gfl4;have hTz5:=hTz4.mono (bN s5);have hsel5:=hsel.mono (bN s5);have S5:Same H (upd H4 tl2 (.lst (zt.take j.toNat))):=S4.trans s5;generalize upd H4 tl2 (.lst (zt.take j.toNat))=H5 at gt gfl5 hTz5 hsel5 S5 ⊢;generalize zt.take j.toNat=zu at gt hsel5;generalize tl2=tx at gt nft2 ⊢
   case' B=>
    have cm: ¬ mode=2:=λe=>c (DB (by rw [e]));have hsel5:Tups H4 ((fj o qs mode j).map tgV) zt:=by
     unfold fj;rw [DU cm];exact hTt
    have gt:=gtl;have nft2:=nft;have gfl5:=gfl4;have hTz5:=hTz4;have S5:=S4;generalize H4=H5 at gt gfl5 hTz5 hsel5 S5 ⊢;generalize zt=zu at gt hsel5;generalize tl=tx at gt nft2 ⊢
   all_goals
    have ltg:(fj o qs mode j).length<=12:=Eh (lT o qs mode j) lt12;have lzu:zu.length=(fj o qs mode j).length:=by rw [<- hsel5.len,Dx]
    have hrd:rds o qs mode j=(o.downs.map Fm.own++cK 0 qs)++(if mode>0 then (fj o qs mode j).map tgF else []):=rfl;generalize fj o qs mode j=tg at ltg lzu hrd hsel5;have e0:(if mode>0 then (tg.take 0).map tgF else [])=[]:=by split <;> rfl
    refine ⟨_,rfl,tx,rfl,⟨zu,SqL.of gt⟩,?_⟩;refine lj (xs:=zu) (λi σ H'=>i<=zu.length/\ ∃ o9 zs o13,σ=[some (.ref sa),some (.str o.name),some (.ref pa),some (.int mode),some (.int j),some (.ref td),o4,o5,o6,o9,some (.ref fl),o8,some (.ref tx),o13]/\Same H H'/\H' tx=some (.lst zu)/\Tups H' (tg.map tgV) zu/\H' fl=some (.lst zs)/\zs.length<=12+i/\
      Tups H' (((o.downs.map Fm.own++cK 0 qs)++(if mode>0 then (tg.take i).map tgF else [])).map fmV) zs)
     ⟨Er _,none,zs3,none,rfl,S5,gt,hsel5,gfl5,l12,by rw [e0,En];exact hTz5⟩ (λi σ H' _ h=>by obtain ⟨_,_,_,_,_,_,gg,_⟩:=h;exact SqL.of gg) ?_ ?_
    ·rintro i x σ H6 hx ⟨hi,o9,zs6,o13,rfl,S6,gt6,hsel6,gfl6,l6,hT6⟩;have hlt:i<zu.length:=(DH.mp hx).1;obtain ⟨ys,hys,a,rfl,ha⟩:=bj hsel6 hx;obtain ⟨t,ht,rfl⟩: ∃ t,tg[i]? =some t/\tgV t=ys:=by
      rw [DP]at hys;cases he:tg[i]? with
      | none=>rw [he]at hys;cases hys
      | some t=>rw [he]at hys;exact ⟨t,rfl,Ej hys⟩
     refine ⟨a,_,rfl,SqT.of ha,rfl,_,_,rfl,_,_,rfl,rfl,?_⟩;refine ⟨_,rfl,_,_,rfl,rfl,_,rfl,?_⟩;refine bp (λcm=>?_) (λcm=>?_)
     ·have cm':mode>0:=DT cm;refine ⟨_,rfl,.inl ⟨rfl,_,SqL.of gfl6⟩,?_⟩;refine ⟨_,rfl,_,rfl,oZ,λp1 hp1=>?_⟩;obtain ⟨H7,eW,s1,g1⟩:=nw hp1 (.tup [.str "part",.int t.1,.str t.2]);rw [eW];refine ⟨_,rfl,gH,λp2 hp2=>?_⟩;obtain ⟨H8,eW,s2,g2⟩:=nw hp2 (.tup [.str "own",.str t.2]);rw [eW];refine ⟨gH,λp3 hp3=>?_⟩;obtain ⟨H9,eW,s3,g3⟩:=nw hp3 (.lst [.ref p1,.ref p2]);rw [eW];have S69:Same H6 H9:=s1.trans (s2.trans s3);refine ⟨_,rfl,_,_,rfl,rfl,.inr ⟨_,rfl,p3,_,_,_,rfl,rfl,SqL.of g3,Bq _,?_⟩⟩;have gfl9:=S69 _ _ gfl6;refine ⟨fl,zs6,_,rfl,rfl,gfl9,aK (by lia),?_⟩;have hz:yK H9 (fmV (tgF t)) (if decide (t.1<0)=true then .ref p2 else .ref p1):=by
       by_cases cn:t.1<0
       ·rw [Ea (DB cn)];unfold tgF;rw [Ea cn];exact ⟨p2,rfl,s3 _ _ g2⟩
       ·rw [DU (λe=>cn (DT e))];unfold tgF;rw [DU cn];exact ⟨p1,rfl,s3 _ _ (s2 _ _ g1)⟩
      generalize (if decide (t.1<0)=true then V.ref p2 else .ref p1)=zv at hz ⊢;have tk:TK H9 (upd H9 fl (.lst (zs6++[zv]))):=TK.lst gfl9;have tk6:TK H6 (upd H9 fl (.lst (zs6++[zv]))):=(bN S69).trans tk;refine ⟨hlt,_,zs6++[zv],_,rfl,?_,?_,hsel6.mono tk6,ae,by rw [DA];show zs6.length+1<=_;lia,?_⟩
      ·intro y oo h;rw [aj (al h hfl0)];exact S69 _ _ (S6 _ _ h)
      ·rw [aj (EI nft2)];exact S69 _ _ gt6
      ·rw [Ea cm']at hT6 ⊢;rw [EB,ht];show Tups _ ((_++(tg.take i++[t]).map tgF).map fmV) _;rw [Ef (f:=tgF),<- Et,Ef (f:=fmV)];obtain ⟨az,ez,gz⟩:=hz;exact FE (hT6.mono tk6) ⟨az,ez,tk _ _ gz⟩
     ·have cm': ¬ mode>0:=λe=>cm (DB e);refine ⟨hlt,_,zs6,_,rfl,S6,gt6,hsel6,gfl6,by lia,?_⟩;rw [DU cm']at hT6 ⊢;exact hT6
    ·rintro σ H6 ⟨_,o9,zs6,o13,rfl,S6,gt6,hsel6,gfl6,l6,hT6⟩;rw [EL (by lia),<- hrd]at hT6;exact ⟨_,rfl,q fl zs6 H6 hfl0 S6 gfl6 hT6⟩
structure Rul where
 pl:Int
 word:Str
 fm:Fm
structure Frm where
 name:Str
 own:Srt
 parts:List Srt
 rules:List Rul
inductive RepR (H:Hp) (r:Rul) (v:V):Prop
 | mk: ∀ a u,(v=.ref a)->(H a=some (.tup [.int r.pl,.str r.word,u]))->(Rep H r.fm u)->RepR H r v
theorem RepR.mono {H H':Hp} (t:TK H H') {r:Rul} {v:V}:RepR H r v->RepR H' r v:=λ⟨a,u,e,h,p⟩=>⟨a,u,e,t _ _ h,p.mono t⟩
def RepRs (H:Hp) (rs:List Rul) (vs:List V):Prop:=Paired (RepR H) rs vs
theorem RepRs.mono {H H':Hp} (t:TK H H') {rs:List Rul} {vs:List V} (h:RepRs H rs vs):RepRs H' rs vs:=Paired.mapP h λ_ _ r=>r.mono t
theorem RepRs.len {H:Hp} {rs:List Rul} {vs:List V} (h:RepRs H rs vs):rs.length=vs.length:=Ev h
noncomputable def fe (qs:List Srt):List V:=qs.map λq=>V.str (Srt.name q)
inductive RepF (H:Hp) (fr:Frm) (v:V):Prop
 | mk: ∀ a pa ra rv,(v=.ref a)->(H a=some (.tup [.str fr.name,.str fr.own.name,.ref pa,.ref ra]))->(H pa=some (.tup (fe fr.parts)))->(H ra=some (.tup rv))->(RepRs H fr.rules rv)->RepF H fr v
theorem RepF.mono {H H':Hp} (t:TK H H') {fr:Frm} {v:V}:RepF H fr v->RepF H' fr v:=λ⟨a,pa,ra,rv,e,h1,h2,h3,h4⟩=>⟨a,pa,ra,rv,e,t _ _ h1,t _ _ h2,t _ _ h3,h4.mono t⟩
def tV (o:Srt) (qs:List Srt) (mode:Int) (rules:List Rul):Prop:=rules.map (λr=>(r.pl,r.word))=cA o qs/\ ∀ (j:Nat) r,rules[j]? =some r->r.fm.wfp (λf=>f∈rds o qs mode j)/\r.fm.size<=15
noncomputable def oh:Fm->Prop
 | .own x=>aY x=true
 | .part k x=>(0<=k/\k<=2)/\aY x=true
 | _=>False
theorem kC {k:Int}: ∀ {qs:List Srt} {t:Int×Str},t∈bY k qs->k<=t.1/\t.1<k+qs.length/\ ∃ q∈qs,t.2∈q.downs:=by
 intro qs;induction qs generalizing k with
 | nil=>intro t h;cases h
 | cons q r ih=>
  intro t h;unfold bY at h;rw [DQ]at h;rcases h with h | h
  ·obtain ⟨x,hx,rfl⟩:=DY.mp h;exact ⟨Int.le_refl _,by rw [DJ];show k<_;lia,q,DW,hx⟩
  ·obtain ⟨h1,h2,q',h3,h4⟩:=ih h;exact ⟨by lia,by rw [DJ];lia,q',DZ _ h3,h4⟩
theorem rg {k:Int}: ∀ {qs:List Srt} {f:Fm},f∈cK k qs-> ∃ j x,f=.part j x/\k<=j/\j<k+qs.length/\ ∃ q∈qs,x∈q.ups:=by
 intro qs;induction qs generalizing k with
 | nil=>intro t h;cases h
 | cons q r ih=>
  intro t h;unfold cK at h;rw [DQ]at h;rcases h with h | h
  ·obtain ⟨x,hx,rfl⟩:=DY.mp h;exact ⟨k,x,rfl,Int.le_refl _,by rw [DJ];lia,q,DW,hx⟩
  ·obtain ⟨j,x,e,h1,h2,q',h3,h4⟩:=ih h;exact ⟨j,x,e,by lia,by rw [DJ];lia,q',DZ _ h3,h4⟩
theorem vO {ss:List Srt} {o:Srt} {qs:List Srt} (hok: ∀ s∈ss,s.ok) (ho:o∈ss) (hq: ∀ q∈qs,q∈ss) (hl:qs.length<=3) {t:Int×Str} (ht:t∈cA o qs):oh (tgF t):=by
 unfold cA at ht;rw [DQ]at ht;unfold tgF;rcases ht with h | h
 ·obtain ⟨x,hx,rfl⟩:=DY.mp h;rw [Ea (show ((-1:Int),x).1<0 from (by decide:(-1:Int) <0))];exact (hok o ho).2.1 x (DO _ hx)
 ·obtain ⟨h1,h2,q,h3,h4⟩:=kC h;rw [DU (by lia)];exact ⟨⟨h1,by lia⟩,(hok q (hq q h3)).2.1 _ (Eo _ h4)⟩
theorem wQ {ss:List Srt} {o:Srt} {qs:List Srt} {mode j:Int} (hok: ∀ s∈ss,s.ok) (ho:o∈ss) (hq: ∀ q∈qs,q∈ss) (hl:qs.length<=3) {f:Fm} (hf:f∈rds o qs mode j):oh f:=by
 unfold rds at hf;rw [DQ,DQ]at hf;rcases hf with (h | h) | h
 ·obtain ⟨x,hx,rfl⟩:=DY.mp h;exact (hok o ho).2.1 x (Eo _ hx)
 ·obtain ⟨k,x,rfl,h1,h2,q,h3,h4⟩:=rg h;exact ⟨⟨h1,by lia⟩,(hok q (hq q h3)).2.1 _ (DO _ h4)⟩
 ·by_cases c:mode>0
  ·rw [Ea c]at h;obtain ⟨t,ht,rfl⟩:=DY.mp h;refine vO hok ho hq hl ?_;unfold fj at ht;by_cases c2:mode=2
   ·rw [Ea c2]at ht;exact Eu ht
   ·rw [DU c2]at ht;exact ht
  ·rw [DU c]at h;cases h
theorem rk {α β:Type} {F:α->β->Prop}: ∀ {l:List α} {r:List β} {b:β},Paired F l r->b∈r-> ∃ a∈l,F a b:=λ{l r b} h m=>by
 obtain ⟨i,hi⟩:=Fd m;obtain ⟨a,ha,f⟩:=bj h hi;exact ⟨a,DC ha,f⟩
theorem xK {H:Hp} {f:Fm} {v:V} (hl:oh f) (h:yK H (fmV f) v):Rep H f v/\f.size=1:=by
 obtain ⟨a,rfl,ha⟩:=h;cases f with
 | own x=>exact ⟨⟨a,rfl,ha⟩,rfl⟩
 | part k x=>exact ⟨⟨a,rfl,ha⟩,rfl⟩
 | num n=>exact hl.elim
 | bin op x y=>exact hl.elim
 | whn x y z=>exact hl.elim
theorem xJ {ρ:Fm->Prop} {f:Fm} (hl:oh f) (h:ρ f):f.wfp ρ:=by
 cases f with
 | own x=>exact ⟨hl,h⟩
 | part k x=>exact ⟨hl,h⟩
 | num n=>exact hl.elim
 | bin op x y=>exact hl.elim
 | whn x y z=>exact hl.elim
theorem zb {H:Hp} {ss:List Srt} {o:Srt} {qs:List Srt} {mode j:Int} {zs:List V} (hok: ∀ s∈ss,s.ok) (ho:o∈ss) (hq: ∀ q∈qs,q∈ss) (hl:qs.length<=3) (h:Tups H ((rds o qs mode j).map fmV) zs):LvsP (λf=>f∈rds o qs mode j) H zs:=λv hv=>by
 obtain ⟨ys,hy,hz⟩:=rk h hv;obtain ⟨f,hf,rfl⟩:=DY.mp hy;have lf:=wQ hok ho hq hl hf;obtain ⟨r,s⟩:=xK lf hz;exact ⟨f,r,xJ lf hf,s⟩
theorem zc {ss:List Srt} {o:Srt} {qs:List Srt} {mode j:Int} (hok: ∀ s∈ss,s.ok) (ho:o∈ss) (hq: ∀ q∈qs,q∈ss) (hl:qs.length<=3):(rds o qs mode j).length<=24:=by
 have h1:=iD 0 qs λs hs=>hok s (hq s hs);have h2:=(hok o ho).2.2.1;have h3:=kA hok ho hq hl;have h4:=lT o qs mode j;unfold rds;rw [DA,DA,Dx];by_cases c:mode>0
 ·rw [Ea c,Dx];lia
 ·rw [DU c];show _+0<=24;lia
inductive ia  (vs:List V) (H:Hp) (Q:VK) (E_:XK):Prop
 | mk: ∀ tp sa pa ss nm o qs mode,(vs=[.ref tp,.ref sa,.str nm,.str (Srt.name o),.ref pa,.int mode])->(Tp H tp)->(SrtsAt H sa ss)->(eZ ss)->(o∈ss)->(H pa=some (.tup (fe qs)))->((∀ q∈qs,q∈ss))->(qs.length<=3)->(∀ v rules H',RepF H' ⟨nm,o,qs,rules⟩ v->tV o qs mode rules->Kp tp H H'->Tp H' tp->Q v H')->ia vs H Q E_
theorem scLForm:av ["tape","sorts","name","own","parts","mode","rules","targets","j","readings"] ["tape","sorts","name","own","parts","mode"] (ah qT):=fsc
theorem xr (F:Fun K "_law_form" "_law_form" qT f fd) (G:Gb mg) (GT:Cl P w K mg base CX0 1 g gd ["sorts","own","parts"] hV "_law_targets")
  (GR:Cl P w K mg base CX0 2 f2 fd2 ["sorts","own","parts","mode","j"] gG "_law_readings")
  (GF: ∀ ρ,aX P w K mg base CX0 4 f3 fd3 ["tape","readings"] (fO ρ)) (bF:Binds K fd3 ["tape","readings"] []) (kF:W.keepIn K (.ref f3)=true) (mF:mg "_law_formula"=some (.ref f3)):
  aX P w K mg base CX0 5 f fd ["tape","sorts","name","own","parts","mode"] ia:=by
 have GF':aX P w K mg base CX0 4 f3 fd3 ["tape","readings"] (λvs H Q E=> ∃ ρ,fO ρ vs H Q E):=⟨λvs H Q E ⟨ρ,h⟩=>(GF ρ).len vs H Q E h,λA outer s H args us vs Q E hr he hb hv ⟨ρ,h⟩=>(GF ρ).run A outer s H args us vs Q E hr he hb hv h⟩;refine F.okz scLForm λcdv A outer s H vs Q E hr h=>?_;obtain ⟨tp,sa,pa,ss,nm,o,qs,mode,rfl,hT,hsa,hok,ho,hpa,hqs,hql,q⟩:=h;refine ⟨_,ad (psz 6 scLForm.nd (bh ac))
  (ad (psz 7 scLForm.nd (pcl GT (hr.mono (show 1<=4 by decide)) (aa (pv 1) (aa (pv 3) (aa (pv 4) ac)))))
  (ad (cC Ep rfl (bL rfl G.range (aa (ao (r:=bU K) au rfl G.len DV (aa (pv 7) ac)) ac)) (pgz 8 scLForm.nd)
   (ad (psz 9 scLForm.nd (pcl GR (hr.mono (show 2<=4 by decide)) (aa (pv 1) (aa (pv 3) (aa (pv 4) (aa (pv 5) (aa (pv 8) ac)))))))
   (ai (bP (dS Ee EF EG bM (pv 6) (aa
    (aU (aa (ax (r:=bc K) aH (ax (r:=bO K) aL (pv 7) (pv 8) (λ_ _=>rfl)) ag (λ_ _=>rfl)) (aa (ax (r:=bc K) aH (ax (r:=bO K) aL (pv 7) (pv 8) (λ_ _=>rfl)) ag (λ_ _=>rfl))
     (aa (nU GF' hr rfl mF kF bF .nil sV (aa (pv 0) (aa (pv 9) ac))) ac)))) ac))))))
  (ai (aw (aU (aa (pv 2) (aa (pv 3) (aa (pv 4) (aa (bz (r:=fV K) bR rfl G.tuple (by decide +kernel) (aa (pv 6) ac)) ac))))))))),?_⟩
 refine ⟨wo,λrl hrl=>?_⟩;have s0:=am hrl (.lst []);have g0:(upd H rl (.lst [])) rl=some (.lst []):=ae;have nrt:=gB hT hrl;have t0:=hT.new (o:=.lst []) hrl;generalize upd H rl (.lst [])=H0 at s0 g0 t0 ⊢;refine ⟨_,rfl,_,rfl,_,rfl,sa,pa,ss,o,qs,rfl,hsa.mono (bN s0),hok,ho,s0 _ _ hpa,hqs,hql,λtl zt H1 htl s1 gtl hTt=>?_⟩;have S1:Same H H1:=s0.trans s1;have grl1:=s1 _ _ g0;have tt1:=t0.same s1;have ntt:tl≠tp:=gB t0 htl;have nrl:rl≠tl:=al g0 htl;have lt12:=kA hok.2.2.2.2 ho hqs hql;have lzt:zt.length=(cA o qs).length:=by rw [<- hTt.len,Dx]
 refine ⟨_,rfl,tl,zt,rfl,.inl (SqL.of gtl),_,rfl,by lia,by lia,?_⟩;refine dA (λi σ H'=> ∃ o8 o9 rv rules,σ=[some (.ref tp),some (.ref sa),some (.str nm),some (.str o.name),some (.ref pa),some (.int mode),some (.ref rl),some (.ref tl),o8,o9]/\Kp tp H H'/\Tp H' tp/\H' tl=some (.lst zt)/\Tups H' ((cA o qs).map tgV) zt/\
   H' rl=some (.lst rv)/\RepRs H' rules rv/\rules.map (λr=>(r.pl,r.word))=(cA o qs).take i/\ ∀ (j:Nat) r,rules[j]? =some r->r.fm.wfp (λf=>f∈rds o qs mode j)/\r.fm.size<=15)
  ⟨none,none,[],[],rfl,Kp.refl.same S1,tt1,gtl,hTt,grl1,.nil,rfl,λj r h=>by cases h⟩ ?_ ?_
 ·rintro i σ H2 hi ⟨o8,o9,rv,rules,rfl,k2,tt2,gtl2,hTt2,grl2,hRr,hmap,hfm⟩;have hi':i< (cA o qs).length:=by lia
  have tk2:=k2.tk hT;have lrules:rules.length=i:=by
   have:=congrArg List.length hmap;rw [Dx,DX]at this;lia
  have lrv:rv.length=i:=by rw [<- hRr.len];exact lrules
  refine ⟨_,rfl,_,rfl,_,rfl,_,rfl,_,rfl,sa,pa,ss,o,qs,mode,0+ (i:Int),rfl,hsa.mono tk2,hok,ho,tk2 _ _ hpa,hqs,hql,by lia,by lia,λrdl zr H3 hrdl s3 grdl hTr=>?_⟩;have tt3:=tt2.same s3;have grl3:=s3 _ _ grl2;have gtl3:=s3 _ _ gtl2;have hTt3:=hTt2.mono (bN s3);have nrdt:rdl≠tp:=gB tt2 hrdl;obtain ⟨t,ht⟩: ∃ t,(cA o qs)[i]? =some t:=⟨(cA o qs)[i],DD hi'⟩;obtain ⟨x,hx⟩: ∃ x,zt[i]? =some x:=⟨zt[i]'(by lia),DD (by lia)⟩;obtain ⟨ys,hys,a,rfl,ha⟩:=bj hTt3 hx;have eys:ys=tgV t:=by
   rw [DP,ht]at hys;exact (Ej hys).symm
  subst eys;have eat:atI zt (0+ (i:Int))=some (.ref a):=by
   rw [F2];exact aM hx
  refine ⟨_,rfl,.inl ⟨rfl,_,SqL.of grl3⟩,?_⟩;refine ⟨_,rfl,_,rfl,tl,_,_,_,rfl,rfl,SqL.of gtl3,eat,a,_,0,.int t.1,rfl,rfl,SqT.of ha,du,?_⟩;refine ⟨_,rfl,_,rfl,tl,_,_,_,rfl,rfl,SqL.of gtl3,eat,a,_,1,.str t.2,rfl,rfl,SqT.of ha,aM (j:=1) rfl,?_⟩;have lzr:zr.length<=24:=by
   rw [<- hTr.len,Dx];exact zc hok.2.2.2.2 ho hqs hql
  refine ⟨_,rfl,_,rfl,λfm=>fm∈rds o qs mode (0+ (i:Int)),tp,rdl,zr,rfl,tt3,nrdt,grdl,by lia,zb hok.2.2.2.2 ho hqs hql hTr,λv fm H4 rp wf sz k4 tt4=>?_⟩;have k24:Kp tp H2 H4:=(Kp.refl.same s3).trans k4;have grl4:=k24 _ _ grl2 nrt;have gtl4:=k24 _ _ gtl2 ntt;refine ⟨oZ,λp5 hp5=>?_⟩;have s5:=am hp5 (.tup [.int t.1,.str t.2,v]);have g5:(upd H4 p5 (.tup [.int t.1,.str t.2,v])) p5=some (.tup [.int t.1,.str t.2,v]):=ae;have tt5:=tt4.same s5;generalize upd H4 p5 (.tup [.int t.1,.str t.2,v])=H5 at s5 g5 tt5 ⊢;have k25:Kp tp H2 H5:=k24.same s5;have grl5:=s5 _ _ grl4;refine ⟨rl,rv,.ref p5,rfl,rfl,grl5,aK (by lia),?_⟩;have tk:TK H5 (upd H5 rl (.lst (rv++[.ref p5]))):=TK.lst grl5;have tk26:TK H2 (upd H5 rl (.lst (rv++[.ref p5]))):=(k25.tk tt2).trans tk;refine ⟨_,_,rv++[.ref p5],rules++[⟨t.1,t.2,fm⟩],rfl,?_,?_,?_,hTt2.mono tk26,ae,?_,?_,?_⟩
  ·intro b oo hb hbn;rw [aj (al hb hrl)];exact k25 _ _ (k2 _ _ hb hbn) hbn
  ·obtain ⟨t9,e9⟩:=tt5;exact ⟨t9,by rw [aj (EI nrt)];exact e9⟩
  ·rw [aj (EI nrl)];exact s5 _ _ gtl4
  ·exact FE (hRr.mono tk26) ⟨p5,v,rfl,tk _ _ g5,rp.mono ((bN s5).trans tk)⟩
  ·rw [Ef,hmap,EB,ht];rfl
  ·intro j r hj;by_cases c:j<i
   ·rw [FS (by lia)]at hj;exact hfm j r hj
   ·rw [Fh (by lia),lrules]at hj;have hji:j=i:=by
     by_cases c2:j=i
     ·exact c2
     ·have:j-i≠0:=by lia
      rw [ER (by show 1<=j-i;lia)]at hj;cases hj
    subst hji;rw [ID]at hj;have:r=⟨t.1,t.2,fm⟩:=(Ej hj).symm;subst this;rw [F2]at wf;exact ⟨wf,sz⟩
 ·rintro σ H2 ⟨o8,o9,rv,rules,rfl,k2,tt2,gtl2,hTt2,grl2,hRr,hmap,hfm⟩;have tk2:=k2.tk hT;rw [EL (by lia)]at hmap;refine ⟨_,rfl,_,rfl,_,rfl,_,rfl,rl,rv,rfl,.inl ⟨SqL.of grl2,λp3 hp3=>?_⟩⟩;obtain ⟨H3,eW,s3,g3⟩:=nw hp3 (.tup rv);rw [eW];refine ⟨(by show 4<=sizeLine;decide),λp4 hp4=>?_⟩;have s4:=am hp4 (.tup [.str nm,.str o.name,.ref pa,.ref p3]);refine q (.ref p4) rules _ ⟨p4,pa,p3,rv,rfl,ae,s4 _ _ (s3 _ _ (tk2 _ _ hpa)),s4 _ _ g3,hRr.mono (bN (s3.trans s4))⟩ ⟨hmap,hfm⟩ (k2.same (s3.trans s4)) (tt2.same (s3.trans s4))
structure Bk where
 wheel:Int
 sorts:List Srt
 forms:List Frm
def RepFs (H:Hp) (fs:List Frm) (vs:List V):Prop:=Paired (RepF H) fs vs
theorem RepFs.mono {H H':Hp} (t:TK H H') {fs:List Frm} {vs:List V} (h:RepFs H fs vs):RepFs H' fs vs:=Paired.mapP h λ_ _ r=>r.mono t
theorem RepFs.len {H:Hp} {fs:List Frm} {vs:List V} (h:RepFs H fs vs):fs.length=vs.length:=Ev h
inductive Aq (H:Hp) (b:Bk) (v:V):Prop
 | mk: ∀ a sa fa fv,(v=.ref a)->(H a=some (.tup [.int b.wheel,.ref sa,.ref fa]))->(SrtsAt H sa b.sorts)->(H fa=some (.tup fv))->(RepFs H b.forms fv)->Aq H b v
def AG (ss:List Srt) (mode:Int) (fr:Frm):Prop:=fr.own∈ss/\(∀ q∈fr.parts,q∈ss)/\fr.parts.length<=3/\tV fr.own fr.parts mode fr.rules
structure BookOk (b:Bk):Prop where
 so:eZ b.sorts
 wh:2<=b.wheel/\b.wheel<=10^30
 few:b.forms.length<=10
 more:b.sorts.length<=b.forms.length
 nd:(b.forms.map Frm.name).Nodup
 wd: ∀ fr∈b.forms,aY fr.name=true
 fo: ∃ mode:Int,(mode=0\/mode=1\/mode=2)/\ ∀ fr∈b.forms,AG b.sorts mode fr
 nil: ∃ fr,fr∈b.forms/\fr.parts=[]
theorem SqL.keep {K:W.Frag} {H H':Hp} {a:Addr} {xs:List V} (h:SqL K H a xs) (k: ∀ o,H a=some o->H' a=some o):SqL K H' a xs:=by
 rcases h with (h | ⟨o,h⟩) | h
 ·exact .inl (.inl (k _ h))
 ·exact .inl (.inr ⟨o,k _ h⟩)
 ·exact .inr h
theorem nr {H:Hp} {ss:List Srt} {xs:List V} (h:RepSs H ss xs) {d:Int} (h0:0<=d) (h1:d<xs.length): ∃ q a b c,ss[d.toNat]? =some q/\atI xs d=some (.ref a)/\H a=some (.tup [.str (Srt.name q),b,c]):=by
 obtain ⟨x,ex,ex2⟩:=oF h0 h1;obtain ⟨q,hq,a,b,c,rfl,ha,_⟩:=bj h ex2;exact ⟨q,a,.ref b,.ref c,hq,ex,ha⟩
inductive qJ (K:W.Frag) (vs:List V) (H:Hp) (Q:VK) (E_:XK):Prop
 | mk: ∀ (sc:Addr) (ns:List Int) (st:Int) (few:Bool),(vs=[.ref sc,.int st,.bl few])->(SqL K H sc (ns.map V.int))->(ns.length<=63)->(0<=st)->(st<900)->(∀ v bk H',Aq H' bk v->BookOk bk->Same H H'->Q v H')->qJ K vs H Q E_
noncomputable def tH (s:Stmt):List Stmt:=match s with
 | .For _ _ b _ _=>b
 | _=>[]
noncomputable def bkFor:List Stmt:=tH ((aO gy).getD 8 (.Pass ⟨0,0,0,0⟩))
inductive mU (H:Hp) (sc hd sa nl fl:Addr) (st wh mode gr mo:Int) (few:Bool) (ss:List Srt) (ws:List Str) (i:Nat) (σ:St) (H':Hp):Prop
 | mk: ∀ o11 o12 o13 o14 o15 fv frs,(σ=[some (.ref sc),some (.int st),some (.bl few),some (.ref hd),some (.int wh),some (.int mode),some (.int gr),some (.int mo),some (.ref sa),some (.ref nl),some (.ref fl),o11,o12,o13,o14,o15])->(Same H H')->(SrtsAt H' sa ss)->(H' nl=some (.lst (ws.map V.str)))->(H' fl=some (.lst fv))->(RepFs H' frs fv)->(frs.length=i)->(frs.map Frm.name=ws.take i)->((∀ fr∈frs,AG ss mode fr))->((∀ k,k<i->k<ss.length->(frs[k]?).map Frm.own=ss[k]?))->(∀ fr,frs[0]? =some fr->fr.parts=[])->mU H sc hd sa nl fl st wh mode gr mo few ss ws i σ H'
theorem wm {α:Type} {l:List α} {x y:α} {j:Nat} (h:(l++[x])[j]? =some y):(j<l.length/\l[j]? =some y)\/(j=l.length/\y=x):=by
 by_cases c:j<l.length
 ·rw [FS c]at h;exact .inl ⟨c,h⟩
 ·rw [Fh (by lia)]at h;by_cases c2:j-l.length=0
  ·rw [c2]at h;exact .inr ⟨by lia,(Ej h).symm⟩
  ·rw [ER (by show 1<=j-l.length;lia)]at h;cases h
abbrev jZ:List Str:=["script","start","few","head","wheel","mode","grown","more","sorts","names","forms","k","tape","own","many","parts"]
theorem scBook:av jZ ["script","start","few"] (ah gy):=fsc
theorem yE {cdv:Value} {A:Around} {outer:List Env} {s:Shared} {H H0:Hp} {E:XK} (G:Gb mg)
  (GD:Cl P w K mg base CX0 1 g gd ["tape","many"] br "_law_digit")
  (GF:Cl P w K mg base CX0 5 f2 fd2 ["tape","sorts","name","own","parts","mode"] ia "_law_form")
  (hr:Room 5 (dv CX0 P w K mg base jZ "_law_book" (ah gy) f cdv A outer s H0 E).nox.A):
  ∃ t,PSs (dv CX0 P w K mg base jZ "_law_book" (ah gy) f cdv A outer s H0 E).nox (bkFor.drop 5) t/\
   ∀ (sc hd sa nl fl:Addr) (st wh mode gr mo:Int) (few:Bool) (ss:List Srt) (ws:List Str),eZ ss->ws.length=10->H fl=none->nl≠fl-> ∀ (D:eS) (i:Nat) (σ:St) (H2 H5:Hp) (tp:Addr) (o:Srt) (m:Int) (o15:Option V),mU H sc hd sa nl fl st wh mode gr mo few ss ws i σ H2->i<10->H2 tp=none->Same H2 H5->Tp H5 tp->o∈ss->(i<ss.length->ss[i]? =some o)->0<=m->m<=3->(i=0->m=0)->
    (∀ σ' H',mU H sc hd sa nl fl st wh mode gr mo few ss ws (i+1) σ' H'->D.nx σ' H')->
    t D [some (.ref sc),some (.int st),some (.bl few),some (.ref hd),some (.int wh),some (.int mode),some (.int gr),some (.int mo),some (.ref sa),some (.ref nl),some (.ref fl),some (.int (0+ (i:Int))),some (.ref tp),some (.str o.name),some (.int m),o15] H5:=by
 have hr1:=hr.mono (show 1<=5 by decide);refine ⟨_,ad (psz 15 scBook.nd (bz (r:=fV K) bR rfl G.tuple (by decide +kernel) (aa
   (bX (sc0:=ah gy) (N0:=jZ) (ys:=["sorts","tape"]) (fr:=[8,12]) rfl (bL rfl G.range (aa (pv 14) ac)) rfl rfl
    csc
    (λC s H ex=>ax (r:=bc K) aH (ax (r:=bc K) aH (pv 1) (pcl GD hr1 (aa (pv 2) (aa (ao (r:=bU K) au rfl G.len DV (aa (pv 1) ac)) ac))) (λ_ _=>rfl)) ag (λ_ _=>rfl))) ac)))
  (ai (bP (dS Ee EF EG bM (pv 10) (aa
   (pcl GF hr (aa (pv 12) (aa (pv 8) (aa (ax (r:=bO K) aL (pv 9) (pv 11) (λ_ _=>rfl)) (aa (pv 13) (aa (pv 15) (aa (pv 5) ac))))))) ac)))),?_⟩
 rintro sc hd sa nl fl st wh mode gr mo few ss ws hok hws hfl0 hnf D i σ H2 H5 tp o m o15 ⟨o11,o12,o13,o14,o15',fv,frs,rfl,sm,hsa,gnl,gfl,hF,hfl,hnm,hfok,hown,hnil⟩ hi htp s5 tt5 ho hoi hm0 hm3 hmi hD;obtain ⟨xs,gsa,hR⟩:=hsa.mono (bN s5);have lxs:=hR.len;refine ⟨_,rfl,m,rfl,by lia,by lia,?_⟩;refine fH (n:=m.toNat) (R:=λi v=>v=.int (0+i)) (by lia) on jg ko
  (λp n zs H'=>Kp tp H5 H'/\Tp H' tp/\H' p=some (.lst zs)/\p≠tp/\ ∃ qs,zs=fe qs/\qs.length=n/\ ∀ q∈qs,q∈ss) ?_ ?_ ?_ ?_
 ·intro p hp;exact ⟨Kp.refl.new hp,tt5.new hp,ae,gB tt5 hp,[],rfl,rfl,λq h=>by cases h⟩
 ·rintro p n zs H' ⟨_,_,gp,_,qs,rfl,hl,_⟩;exact ⟨gp,by unfold fe;rw [Dx];exact hl⟩
 ·rintro p n zs H' v k hp hn rfl ⟨k6,tt6,gp,hpn,qs,rfl,hl,hqs⟩ hk;have tk6:=k6.tk tt5;have h1:=hok.1;refine ⟨_,rfl,_,rfl,_,rfl,sa,_,rfl,.inr (SqT.of (tk6 _ _ gsa)),tp,_,rfl,tt6,by lia,by have:=hok.2.1;lia,λd t hd0 hd1=>?_⟩;obtain ⟨q,a,b,c,hq,eat,ha⟩:=nr hR hd0 hd1;have k7:Kp tp H5 (upd H' tp (.lst [.int t])):=k6.trans Kp.tape;have tk7:=k7.tk tt5;refine ⟨sa,xs,d,.ref a,rfl,rfl,SqT.of (tk7 _ _ gsa),eat,a,_,0,_,rfl,rfl,SqT.of (tk7 _ _ ha),du,?_⟩;have gp7:(upd H' tp (.lst [.int t])) p=some (.lst (fe qs)):=by rw [aj hpn];exact gp
  refine hk _ _ gp7 ⟨?_,⟨t,?_⟩,ae,hpn,qs++[q],?_,?_,?_⟩
  ·intro b' o' hb hbn;rw [aj (al hb hp)];exact k7 _ _ hb hbn
  ·rw [aj (EI hpn),ae]
  ·unfold fe;rw [Ef];rfl
  ·rw [DA,hl];rfl
  ·intro x hx;rw [DQ,DF]at hx;rcases hx with h | rfl
   ·exact hqs x h
   ·exact DC hq
 ·rintro p zs H6 hp ⟨k6,tt6,gp,hpn,qs,rfl,hl,hqs⟩;refine ⟨p,_,rfl,.inl ⟨SqL.of gp,λpa hpa=>?_⟩⟩;have s7:=am hpa (.tup (fe qs));have g7:(upd H6 pa (.tup (fe qs))) pa=some (.tup (fe qs)):=ae;have tt7:=tt6.same s7;generalize upd H6 pa (.tup (fe qs))=H7 at s7 g7 tt7 ⊢;have k27:Kp tp H2 H7:=((Kp.refl.same s5).trans k6).same s7;have S27:Same H2 H7:=λb oo h=>k27 b oo h (al h htp);have gfl7:=S27 _ _ gfl;obtain ⟨nm,enm⟩: ∃ nm,ws[i]? =some nm:=⟨ws[i]'(by lia),DD (by lia)⟩;have eat:atI (ws.map V.str) (0+ (i:Int))=some (V.str nm):=by
   rw [F2];exact aM (by rw [DP,enm];rfl)
  refine ⟨_,rfl,.inl ⟨rfl,_,SqL.of gfl7⟩,?_⟩;refine ⟨_,rfl,_,rfl,_,rfl,_,rfl,nl,_,_,_,rfl,rfl,SqL.of (S27 _ _ gnl),eat,_,rfl,_,rfl,_,rfl,tp,sa,pa,ss,nm,o,qs,mode,rfl,tt7,hsa.mono (bN S27),hok,ho,g7,hqs,by lia,λv rules H8 rf rok k8 tt8=>?_⟩;have S28:Same H2 H8:=λb oo h=>k8 b oo (S27 b oo h) (al h htp);have gfl8:=S28 _ _ gfl;have lfv:=hF.len;refine ⟨fl,fv,v,rfl,rfl,gfl8,aK (by lia),?_⟩;have tk:TK H8 (upd H8 fl (.lst (fv++[v]))):=TK.lst gfl8;have tk2:TK H2 (upd H8 fl (.lst (fv++[v]))):=(bN S28).trans tk;refine hD _ _ ⟨_,_,_,_,_,fv++[v],frs++[⟨nm,o,qs,rules⟩],rfl,?_,hsa.mono tk2,?_,ae,?_,?_,?_,?_,?_,?_⟩
  ·intro b oo h;rw [aj (al h hfl0)];exact S28 _ _ (sm _ _ h)
  ·rw [aj hnf];exact S28 _ _ gnl
  ·exact FE (hF.mono tk2) (rf.mono tk)
  ·rw [DA,hfl];rfl
  ·rw [Ef,hnm,EB,enm];rfl
  ·intro fr hfr;rw [DQ,DF]at hfr;rcases hfr with h | rfl
   ·exact hfok fr h
   ·exact ⟨ho,hqs,by show qs.length<=3;lia,rok⟩
  ·intro k hk hks;by_cases c:k<i
   ·rw [FS (by lia)];exact hown k c hks
   ·have:k=i:=by lia
    subst this;rw [Fh (by lia),hfl,ID];show some o=_;rw [hoi hks]
  ·intro fr hfr;rcases wm hfr with ⟨h,e⟩ | ⟨h,e⟩
   ·exact hnil fr e
   ·subst e;have:qs.length=0:=by rw [hl,hmi (by lia)];rfl
    exact List.eq_nil_of_length_eq_zero this
theorem zP {d:Int} (h0:0<=d) (h1:d<5): ∃ m:Int,atI [V.int 2,.int 1,.int 3,.int 2,.int 0] d=some (.int m)/\0<=m/\m<=3:=by
 have h5:d=0\/d=1\/d=2\/d=3\/d=4:=by lia
 rcases h5 with h | h | h | h | h <;> subst h <;> exact ⟨_,rfl,by decide,by decide⟩
theorem zO {d:Int} (h0:0<=d) (h1:d<5): ∃ m:Int,atI [V.int 0,.int 0,.int 1,.int 2,.int 2] d=some (.int m)/\(m=0\/m=1\/m=2):=by
 have h5:d=0\/d=1\/d=2\/d=3\/d=4:=by lia
 rcases h5 with h | h | h | h | h <;> subst h <;> exact ⟨_,rfl,by decide⟩
theorem zN {d:Int} (h0:0<=d) (h1:d<3): ∃ m:Int,atI [V.int 3,.int 4,.int 7] d=some (.int m)/\3<=m/\m<=7:=by
 have h5:d=0\/d=1\/d=2:=by lia
 rcases h5 with h | h | h <;> subst h <;> exact ⟨_,rfl,by decide,by decide⟩
theorem vJ {z d:Int} (hz0:0<=z) (hz1:z<1000) (h0:0<=d) (h1:d<6): ∃ m:Int,atI [V.int 2,.int 7,.int 10,.int 97,.int (10^ (30:Int).toNat),.int (2+z)] d=some (.int m)/\2<=m/\m<=10^30:=by
 have e:(10:Int) ^ (30:Int).toNat=10^30:=rfl;have b:(2000:Int)<=10^30:=by decide +kernel
 have h5:d=0\/d=1\/d=2\/d=3\/d=4\/d=5:=by lia
 rcases h5 with h | h | h | h | h | h <;> subst h
 ·exact ⟨2,rfl,by lia,by lia⟩
 ·exact ⟨7,rfl,by lia,by lia⟩
 ·exact ⟨10,rfl,by lia,by lia⟩
 ·exact ⟨97,rfl,by lia,by lia⟩
 ·exact ⟨_,rfl,by rw [e];lia,by rw [e];lia⟩
 ·exact ⟨_,rfl,by lia,by lia⟩
theorem yF {cdv:Value} {A:Around} {outer:List Env} {s:Shared} {H H0:Hp} {E:XK} (G:Gb mg)
  (GD:Cl P w K mg base CX0 1 g gd ["tape","many"] br "_law_digit")
  (GF:Cl P w K mg base CX0 5 f2 fd2 ["tape","sorts","name","own","parts","mode"] ia "_law_form")
  (hr:Room 5 (dv CX0 P w K mg base jZ "_law_book" (ah gy) f cdv A outer s H0 E).nox.A):
  ∃ t,PSs (dv CX0 P w K mg base jZ "_law_book" (ah gy) f cdv A outer s H0 E).nox (bkFor.drop 3) t/\
   ∀ (sc hd sa nl fl:Addr) (st wh mode gr mo:Int) (few:Bool) (ss:List Srt) (ws:List Str),eZ ss->ws.length=10->H fl=none->nl≠fl-> ∀ (D:eS) (i:Nat) (σ:St) (H2 H5:Hp) (tp:Addr) (o:Srt) (o14 o15:Option V),mU H sc hd sa nl fl st wh mode gr mo few ss ws i σ H2->i<10->H2 tp=none->Same H2 H5->Tp H5 tp->o∈ss->(i<ss.length->ss[i]? =some o)->
    (∀ σ' H',mU H sc hd sa nl fl st wh mode gr mo few ss ws (i+1) σ' H'->D.nx σ' H')->
    t D [some (.ref sc),some (.int st),some (.bl few),some (.ref hd),some (.int wh),some (.int mode),some (.int gr),some (.int mo),some (.ref sa),some (.ref nl),some (.ref fl),some (.int (0+ (i:Int))),some (.ref tp),some (.str o.name),o14,o15] H5:=by
 have hr1:=hr.mono (show 1<=5 by decide);obtain ⟨t2,ht2,hread2⟩:=yE (cdv:=cdv) (A:=A) (outer:=outer) (s:=s) (H:=H) (H0:=H0) (E:=E) (f:=f) G GD GF hr;refine ⟨_,ad (psz 14 scBook.nd (ax (r:=bO K) aL (bh (aa ag (aa ag (aa ag (aa ag (aa ag ac)))))) (pcl GD hr1 (aa (pv 12) (aa ag ac))) (λ_ _=>rfl)))
  (ad (aS (PW.pt (dR (aG bJ (pv 11) ag (aJ _)) (cX (PW.pt (kN (aG bJ (pv 6) ag (aJ _)) (iZ (aG jc (pv 11) (ao (r:=bU K) au rfl G.len DV (aa (pv 8) ac)) (aJ _))))))))
   (ai (psz 14 scBook.nd ag)) aE) ht2),?_⟩
 intro sc hd sa nl fl st wh mode gr mo few ss ws hok hws hfl0 hnf D i σ H2 H5 tp o o14 o15 hB hi htp s5 tt5 ho hoi hD;obtain ⟨xs,gsa,hR⟩:SrtsAt H5 sa ss:=by
  obtain ⟨_,_,_,_,_,_,_,_,_,h,_⟩:=hB;exact h.mono (bN s5)
 refine ⟨(by show 5<=sizeLine;decide),λp hp=>?_⟩;have npt:=gB tt5 hp;refine ⟨_,rfl,tp,5,rfl,tt5.new hp,by decide,by decide,λd t hd0 hd1=>?_⟩;obtain ⟨m,em,hm0,hm3⟩:=zP hd0 hd1;refine ⟨p,_,d,.int m,rfl,rfl,SqL.of (by rw [aj npt];exact ae),em,?_⟩;have k6:Kp tp H5 (upd (upd H5 p (.lst [.int 2,.int 1,.int 3,.int 2,.int 0])) tp (.lst [.int t])):=(Kp.refl.new hp).trans Kp.tape;have tt6:Tp (upd (upd H5 p (.lst [.int 2,.int 1,.int 3,.int 2,.int 0])) tp (.lst [.int t])) tp:=⟨t,ae⟩;generalize upd (upd H5 p (.lst [.int 2,.int 1,.int 3,.int 2,.int 0])) tp (.lst [.int t])=H6 at k6 tt6 ⊢;have s6:Same H2 H6:=λb oo h=>k6 b oo (s5 b oo h) (al h htp);have gsa6:=k6.tk tt5 _ _ gsa;refine ⟨_,rfl,rfl,_,rfl,?_⟩;refine bp (λc=>bE ?_) (λc=>?_)
 ·exact hread2 sc hd sa nl fl st wh mode gr mo few ss ws hok hws hfl0 hnf D i σ H2 H6 tp o 0 o15 hB hi htp s6 tt6 ho hoi (by decide) (by decide) (λ_=>rfl) hD
 have hne:i=0->m=0:=λe=>by
  subst e;exact absurd (DB rfl) c
 refine ⟨_,rfl,rfl,_,rfl,?_⟩;refine bp (λc2=>?_) (λc2=>bx ?_)
 ·refine ⟨_,rfl,_,rfl,sa,xs,rfl,.inr (SqT.of gsa6),_,_,rfl,rfl,_,rfl,?_⟩;refine bp (λc3=>?_) (λc3=>?_)
  ·exact hread2 sc hd sa nl fl st wh mode gr mo few ss ws hok hws hfl0 hnf D i σ H2 H6 tp o 0 o15 hB hi htp s6 tt6 ho hoi (by decide) (by decide) (λ_=>rfl) hD
  ·exact hread2 sc hd sa nl fl st wh mode gr mo few ss ws hok hws hfl0 hnf D i σ H2 H6 tp o m o15 hB hi htp s6 tt6 ho hoi hm0 hm3 hne hD
 ·exact hread2 sc hd sa nl fl st wh mode gr mo few ss ws hok hws hfl0 hnf D i σ H2 H6 tp o m o15 hB hi htp s6 tt6 ho hoi hm0 hm3 hne hD
theorem Am {cdv:Value} {A:Around} {outer:List Env} {s:Shared} {H:Hp} {Q:VK} {E:XK} {sc:Addr} {ns:List Int} {st:Int} {few:Bool} (G:Gb mg)
  (GD:Cl P w K mg base CX0 1 g gd ["tape","many"] br "_law_digit")
  (GF:Cl P w K mg base CX0 5 f2 fd2 ["tape","sorts","name","own","parts","mode"] ia "_law_form")
  (GT:Cl P w K mg base CX0 2 f3 fd3 ["script","k"] (jx K) "_law_tape")
  (hS:SqL K H sc (ns.map V.int)) (hns:ns.length<=63) (hst0:0<=st) (hst1:st<900) (q: ∀ v bk H',Aq H' bk v->BookOk bk->Same H H'->Q v H')
  (hr:Room 5 (dv CX0 P w K mg base jZ "_law_book" (ah gy) f cdv A outer s H E).nox.A):
  ∃ t,PSs (dv CX0 P w K mg base jZ "_law_book" (ah gy) f cdv A outer s H E).nox ((aO gy).drop 8) t/\
   ∀ (hd sa nl fl:Addr) (wh mode gr mo:Int) (ss:List Srt) (ws:List Str) (H5:Hp),eZ ss->NamesAre 10 ws->2<=wh->wh<=10^30->(mode=0\/mode=1\/mode=2)->0<=mo->mo<=7->H fl=none->nl≠fl->H fl=none->
    Same H H5->SrtsAt H5 sa ss->H5 nl=some (.lst (ws.map V.str))->H5 fl=some (.lst [])->
    t {nx:=λ_ H'=>Q .non H',rt:=Q} [some (.ref sc),some (.int st),some (.bl few),some (.ref hd),some (.int wh),some (.int mode),some (.int gr),some (.int mo),some (.ref sa),some (.ref nl),some (.ref fl),none,none,none,none,none] H5:=by
 have hr1:=hr.mono (show 1<=5 by decide);have hr2:=hr.mono (show 2<=5 by decide);obtain ⟨t1,ht1,hread1⟩:=yF (cdv:=cdv) (A:=A) (outer:=outer) (s:=s) (H:=H) (H0:=H) (E:=E) (f:=f) G GD GF hr;refine ⟨_,ad (cC Ep rfl (bL rfl G.range (aa (ao (mG rfl) rfl G.min (by decide +kernel) (aa ag (aa (aF bn (ao (r:=bU K) au rfl G.len DV (aa (pv 8) ac)) (pv 7)) ac))) ac)) (pgz 11 scBook.nd)
   (ad (cY (i:=12) scBook.nd rfl (Or.inr rfl) (pcl GT hr2 (aa (pv 0) (aa (aF bn (aF bn (pv 1) ag) (pv 11)) ac))))
   (ad (psz 13 scBook.nd (ax (r:=bc K) aH (ax (r:=bc K) aH (pv 8) (aF cZ (pv 11) (ao (r:=bU K) au rfl G.len DV (aa (pv 8) ac))) (λ_ _=>rfl)) ag (λ_ _=>rfl)))
   (ad (aS (aG Ce (pv 11) (ao (r:=bU K) au rfl G.len DV (aa (pv 8) ac)) (aJ _))
    (ai (psz 13 scBook.nd (ax (r:=bc K) aH (ax (r:=bc K) aH (pv 8) (pcl GD hr1 (aa (pv 12) (aa (ao (r:=bU K) au rfl G.len DV (aa (pv 8) ac)) ac))) (λ_ _=>rfl)) ag (λ_ _=>rfl)))) aE) ht1))))
  (ai (aw (aU (aa (pv 4) (aa (pv 8) (aa (bz (r:=fV K) bR rfl G.tuple (by decide +kernel) (aa (pv 10) ac)) ac)))))),?_⟩
 intro hd sa nl fl wh mode gr mo ss ws H5 hok hN hw2 hw3 hmode hmo0 hmo7 hfl0 hnf _ S5 hsa gnl gfl;obtain ⟨nLen,nNd,nWd⟩:=hN.ok (by decide);obtain ⟨xs,gsa,hR⟩:=hsa;have lxs:=hR.len;have l1:=hok.1;have l4:=hok.2.1;obtain ⟨n,en,hn1,hn2⟩: ∃ n:Int,(if (xs.length:Int) +mo<10 then (xs.length:Int) +mo else 10)=n/\(xs.length:Int)<=n/\n<=10:=⟨_,rfl,by split <;> lia,by split <;> lia⟩;refine ⟨_,rfl,sa,xs,rfl,.inr (SqT.of gsa),_,rfl,_,_,rfl,rfl,_,_,rfl,?_⟩;rw [en];refine ⟨n,rfl,by lia,by lia,?_⟩;refine dA (λi σ H'=>mU H sc hd sa nl fl st wh mode gr mo few ss ws i σ H')
  ⟨none,none,none,none,none,[],[],rfl,S5,⟨xs,gsa,hR⟩,gnl,gfl,.nil,rfl,rfl,λ_ h=>(by cases h),λk h=>(by lia),λfr h=>(by cases h)⟩ ?_ ?_
 ·intro i σ H6 hi hB;have hB':=hB;obtain ⟨o11,o12,o13,o14,o15,fv,frs,rfl,S6,hsa6,gnl6,gfl6,hF6,_⟩:=hB';obtain ⟨xs6,gsa6,hR6⟩:=hsa6;have lx6:=hR6.len;refine ⟨_,rfl,_,rfl,_,_,rfl,rfl,_,rfl,_,_,rfl,rfl,sc,ns,_,rfl,SqL.keep hS (λoo h=>S6 _ _ h),hns,by lia,by lia,λtp t0 htp=>?_⟩;have s7:=am htp (.lst [.int t0]);have tt7:Tp (upd H6 tp (.lst [.int t0])) tp:=⟨t0,ae⟩;generalize upd H6 tp (.lst [.int t0])=H7 at s7 tt7 ⊢;have gsa7:=s7 _ _ gsa6;have hR7:=hR6.mono (bN s7);have hm0:0<=(0+ (i:Int)) % (xs6.length:Int):=Fu _ (by lia);have hm1:(0+ (i:Int)) % (xs6.length:Int) <xs6.length:=E6 _ (by lia);obtain ⟨o,a,b,c,ho,eat,ha⟩:=nr hR7 hm0 hm1;refine ⟨_,rfl,_,rfl,_,rfl,sa,xs6,rfl,.inr (SqT.of gsa7),_,_,rfl,rfl,(by show (0:Int) <xs6.length;lia),sa,xs6,_,.ref a,rfl,rfl,SqT.of gsa7,eat,a,_,0,_,rfl,rfl,SqT.of ha,du,?_⟩;refine ⟨_,rfl,_,rfl,sa,xs6,rfl,.inr (SqT.of gsa7),_,_,rfl,rfl,_,rfl,?_⟩;refine bp (λc=>?_) (λc=>?_)
  ·have c':(xs6.length:Int)<=0+ (i:Int):=DT c;refine ⟨_,rfl,_,rfl,_,rfl,sa,xs6,rfl,.inr (SqT.of gsa7),tp,_,rfl,tt7,by lia,by lia,λd t1 hd0 hd1=>?_⟩;have k8:Kp tp H7 (upd H7 tp (.lst [.int t1])):=Kp.tape;have tt8:Tp (upd H7 tp (.lst [.int t1])) tp:=⟨t1,ae⟩;generalize upd H7 tp (.lst [.int t1])=H8 at k8 tt8 ⊢;have tk8:=k8.tk tt7;obtain ⟨o2,a2,b2,c2,ho2,eat2,ha2⟩:=nr hR7 hd0 hd1;refine ⟨sa,xs6,d,.ref a2,rfl,rfl,SqT.of (tk8 _ _ gsa7),eat2,a2,_,0,_,rfl,rfl,SqT.of (tk8 _ _ ha2),du,?_⟩;exact hread1 sc hd sa nl fl st wh mode gr mo few ss ws hok nLen hfl0 hnf _ i _ H6 H8 tp o2 _ _ hB (by lia) htp (λy oo h=>k8 y oo (s7 y oo h) (al h htp)) tt8 (DC ho2) (λh=>by lia) (λσ' H' h=>h)
  ·have c': ¬ (xs6.length:Int)<=0+ (i:Int):=λe=>c (DB e);have ei:((0+ (i:Int)) % (xs6.length:Int)).toNat=i:=by
    rw [Int.emod_eq_of_lt (by lia) (by lia)];lia
   rw [ei]at ho;exact hread1 sc hd sa nl fl st wh mode gr mo few ss ws hok nLen hfl0 hnf _ i _ H6 H7 tp o _ _ hB (by lia) htp s7 tt7 (DC ho) (λ_=>ho) (λσ' H' h=>h)
 ·rintro σ H6 ⟨o11,o12,o13,o14,o15,fv,frs,rfl,S6,hsa6,gnl6,gfl6,hF6,lfr,hnm,hfok,hown,hnil⟩;refine ⟨_,rfl,_,rfl,_,rfl,fl,fv,rfl,.inl ⟨SqL.of gfl6,λfa hfa=>?_⟩⟩;obtain ⟨H7,eW,s7,g7⟩:=nw hfa (.tup fv);rw [eW];refine ⟨oZ,λpb hpb=>?_⟩;have s8:=am hpb (.tup [.int wh,.ref sa,.ref fa]);have tk68:=bN (s7.trans s8);refine q (.ref pb) ⟨wh,ss,frs⟩ _ ⟨pb,sa,fa,fv,rfl,ae,hsa6.mono tk68,s8 _ _ g7,hF6.mono tk68⟩ ?_ (S6.trans (s7.trans s8));refine ⟨hok,⟨hw2,hw3⟩,?_,?_,?_,?_,⟨mode,hmode,hfok⟩,?_⟩
  ·show frs.length<=10;lia
  ·show ss.length<=frs.length;lia
  ·show (frs.map Frm.name).Nodup;rw [hnm];exact nNd.sublist (Hl _ _)
  ·intro fr hfr;refine nWd _ (Eu (i:=n.toNat) ?_);rw [<- hnm];exact F9 hfr
  ·have l0:0<frs.length:=by have:=hok.1;lia
   exact ⟨frs[0],IB l0,hnil _ (DD l0)⟩
theorem zH (F:Fun K "_law_book" "_law_book" gy f fd) (G:Gb mg)
  (GD:Cl P w K mg base CX0 1 g gd ["tape","many"] br "_law_digit")
  (GF:Cl P w K mg base CX0 5 f2 fd2 ["tape","sorts","name","own","parts","mode"] ia "_law_form")
  (GT:Cl P w K mg base CX0 2 f3 fd3 ["script","k"] (jx K) "_law_tape")
  (GS:Cl P w K mg base CX0 3 f4 fd4 ["tape","few"] ni "_law_sorts")
  (GN:Cl P w K mg base CX0 2 f5 fd5 ["tape","many"] iP "_law_names"):
  aX P w K mg base CX0 6 f fd ["script","start","few"] (qJ K):=by
 refine F.okz scBook λcdv A outer s H vs Q E hr h=>?_;obtain ⟨sc,ns,st,few,rfl,hS,hns,hst0,hst1,q⟩:=h;have hr1:=hr.mono (show 1<=5 by decide);have hr2:=hr.mono (show 2<=5 by decide);have hr3:=hr.mono (show 3<=5 by decide);obtain ⟨t,ht,hread⟩:=Am (cdv:=cdv) (A:=A) (outer:=outer) (s:=s) (H:=H) (Q:=Q) (E:=E) (f:=f) (few:=few) G GD GF GT hS hns hst0 hst1 q hr;refine ⟨_,ad (psz 3 scBook.nd (pcl GT hr2 (pac (pv 0) (pac (pv 1) ac))))
  (ad (psz 4 scBook.nd (ax (r:=bO K) aL (bh (pac ag (pac ag (pac ag (pac ag (pac (aF rm ag ag) (pac (aF bn ag (pcl GD hr1 (pac (pv 3) (pac ag ac)))) ac)))))))
   (pcl GD hr1 (pac (pv 3) (pac ag ac))) (λ_ _=>rfl)))
  (ad (psz 5 scBook.nd (ax (r:=bO K) aL (bh (pac ag (pac ag (pac ag (pac ag (pac ag ac)))))) (pcl GD hr1 (pac (pv 3) (pac ag ac))) (λ_ _=>rfl)))
  (ad (psz 6 scBook.nd (pcl GD hr1 (pac (pv 3) (pac ag ac))))
  (ad (psz 7 scBook.nd (pcl GD hr1 (pac (pv 3) (pac (ax (r:=bO K) aL (bh (pac ag (pac ag (pac ag ac)))) (pcl GD hr1 (pac (pv 3) (pac ag ac))) (λ_ _=>rfl)) ac))))
  (ad (cY (i:=8) scBook.nd rfl (Or.inr rfl) (pcl GS hr3 (pac (pv 3) (pac (pv 2) ac))))
  (ad (psz 9 scBook.nd (pcl GN hr2 (pac (pv 3) (pac ag ac))))
  (ad (psz 10 scBook.nd (bh ac)) ht))))))),?_⟩
 refine ⟨_,rfl,_,rfl,sc,ns,st,rfl,hS,hns,hst0,by lia,λhd t0 hhd=>?_⟩;have S1:=am hhd (.lst [.int t0]);have tt1:Tp (upd H hd (.lst [.int t0])) hd:=⟨t0,ae⟩;generalize upd H hd (.lst [.int t0])=H1 at S1 tt1 ⊢;refine ⟨10,30,rfl,rfl,⟨by decide,by decide,by decide +kernel⟩,?_⟩;refine ⟨_,rfl,hd,1000,rfl,tt1,by decide,by decide,λz t1 hz0 hz1=>⟨2,z,rfl,rfl,?_⟩⟩;have k2:Kp hd H1 (upd H1 hd (.lst [.int t1])):=Kp.tape;have tt2:Tp (upd H1 hd (.lst [.int t1])) hd:=⟨t1,ae⟩;generalize upd H1 hd (.lst [.int t1])=H2 at k2 tt2 ⊢;refine ⟨(by show 6<=sizeLine;decide),λp hp=>?_⟩;have np:=gB tt2 hp;refine ⟨_,rfl,hd,6,rfl,tt2.new hp,by decide,by decide,λd t2 hd0 hd1=>?_⟩;obtain ⟨wh,ewh,hw2,hw3⟩:=vJ hz0 hz1 hd0 hd1;refine ⟨p,_,d,.int wh,rfl,rfl,SqL.of (by rw [aj np];exact ae),ewh,?_⟩;have k3:Kp hd H1 (upd (upd H2 p (.lst [.int 2,.int 7,.int 10,.int 97,.int (10^ (30:Int).toNat),.int (2+z)])) hd (.lst [.int t2])):=(k2.new hp).trans Kp.tape;have tt3:Tp (upd (upd H2 p (.lst [.int 2,.int 7,.int 10,.int 97,.int (10^ (30:Int).toNat),.int (2+z)])) hd (.lst [.int t2])) hd:=⟨t2,ae⟩;generalize upd (upd H2 p (.lst [.int 2,.int 7,.int 10,.int 97,.int (10^ (30:Int).toNat),.int (2+z)])) hd (.lst [.int t2])=H3 at k3 tt3 ⊢;refine ⟨(by show 5<=sizeLine;decide),λp hp=>?_⟩;have np:=gB tt3 hp;refine ⟨_,rfl,hd,5,rfl,tt3.new hp,by decide,by decide,λd t2 hd0 hd1=>?_⟩;obtain ⟨mode,emo,hmode⟩:=zO hd0 hd1;refine ⟨p,_,d,.int mode,rfl,rfl,SqL.of (by rw [aj np];exact ae),emo,?_⟩;have k4:Kp hd H1 (upd (upd H3 p (.lst [.int 0,.int 0,.int 1,.int 2,.int 2])) hd (.lst [.int t2])):=(k3.new hp).trans Kp.tape;have tt4:Tp (upd (upd H3 p (.lst [.int 0,.int 0,.int 1,.int 2,.int 2])) hd (.lst [.int t2])) hd:=⟨t2,ae⟩;generalize upd (upd H3 p (.lst [.int 0,.int 0,.int 1,.int 2,.int 2])) hd (.lst [.int t2])=H4 at k4 tt4 ⊢;refine ⟨_,rfl,hd,2,rfl,tt4,by decide,by decide,λgr t3 _ _=>?_⟩;have k5:Kp hd H1 (upd H4 hd (.lst [.int t3])):=k4.trans Kp.tape;have tt5:Tp (upd H4 hd (.lst [.int t3])) hd:=⟨t3,ae⟩;generalize upd H4 hd (.lst [.int t3])=H5 at k5 tt5 ⊢;refine ⟨_,rfl,oZ,λp hp=>?_⟩;have np:=gB tt5 hp;refine ⟨_,rfl,hd,3,rfl,tt5.new hp,by decide,by decide,λd t4 hd0 hd1=>?_⟩;obtain ⟨mm,emm,hmm3,hmm7⟩:=zN hd0 hd1;refine ⟨p,_,d,.int mm,rfl,rfl,SqL.of (by rw [aj np];exact ae),emm,?_⟩;have k6:Kp hd H1 (upd (upd H5 p (.lst [.int 3,.int 4,.int 7])) hd (.lst [.int t4])):=(k5.new hp).trans Kp.tape;have tt6:Tp (upd (upd H5 p (.lst [.int 3,.int 4,.int 7])) hd (.lst [.int t4])) hd:=⟨t4,ae⟩;generalize upd (upd H5 p (.lst [.int 3,.int 4,.int 7])) hd (.lst [.int t4])=H6 at k6 tt6 ⊢;refine ⟨hd,mm,rfl,tt6,by lia,by lia,λmo t5 hmo0 hmo1=>?_⟩;have k7:Kp hd H1 (upd H6 hd (.lst [.int t5])):=k6.trans Kp.tape;have tt7:Tp (upd H6 hd (.lst [.int t5])) hd:=⟨t5,ae⟩;generalize upd H6 hd (.lst [.int t5])=H7 at k7 tt7 ⊢;refine ⟨_,rfl,_,rfl,hd,few,rfl,tt7,λsa ss xs H8 gsa hR hok k8 tt8=>?_⟩;refine ⟨_,rfl,hd,10,rfl,tt8,by decide,by decide,λnl ws H9 gnl hnl hN hnh k9 tt9=>?_⟩;refine ⟨wo,λfl hfl=>?_⟩;have k19:Kp hd H1 H9:=k7.trans (k8.trans k9);have S9:Same H H9:=λb oo h=>k19 b oo (S1 b oo h) (al h hhd);have s10:=am hfl (.lst []);exact hread hd sa nl fl wh mode gr mo ss ws _ hok hN hw2 hw3 hmode hmo0 (by lia) (S9.free hfl) (al gnl hfl) (S9.free hfl) (S9.trans s10) (SrtsAt.mono (bN s10) (SrtsAt.mono (k9.tk tt8) ⟨xs,gsa,hR⟩)) (s10 _ _ gnl) ae
theorem dJ {J:It} {α:Type} {as:List α} {A:α->V->Prop} {xs:List V} {fr:List Nat} {te:TE} {σ:St} {H1:Hp} {Q:VK} (hn:xs.length<=1000) (hP:Paired A as xs)
  (hgo: ∀ i H,Same H1 H->i<xs.length->J.go i H) (hst: ∀ H,Same H1 H->J.stop xs.length H) (hy: ∀ i H v H',Same H1 H->J.yld i H v H'->H'=H/\xs[i]? =some v)
  (R:Hp->α->V->Prop) (mono: ∀ {H H':Hp} {a:α} {v:V},TK H H'->R H a v->R H' a v)
  (hte: ∀ a v H (k:VK),a∈as->A a v->Same H1 H->(∀ u H',Same H H'->R H' a u->k u H')->te (some v::bV fr σ) H k)
  (hd: ∀ p zs H',H1 p=none->Same H1 H'->H' p=some (.lst zs)->Paired (R H') as zs->Q (.ref p) H'):fb fr te σ J H1 Q:=by
 intro p hp;have hl:as.length=xs.length:=Ev hP;refine ⟨λi m zs H=>i<=xs.length/\m=xs.length-i/\Same H1 H/\H p=some (.lst zs)/\zs.length=i/\Paired (R H) (as.take i) zs,⟨_,Er _,rfl,am hp _,ae,rfl,.nil⟩,?_⟩;rintro i m zs H ⟨hi,hm,sm,gp,hz,hT⟩;refine ⟨gp,?_⟩;by_cases e:i=xs.length
 ·subst e;rw [<- hl,EX]at hT;exact .inl ⟨hst H sm,hd p zs H hp sm gp hT⟩
 ·have hlt:i<xs.length:=by lia
  refine .inr ⟨hgo i H sm hlt,aK (by lia),λv H' hv=>?_⟩;obtain ⟨rfl,hv2⟩:=hy i H v H' sm hv;obtain ⟨a,ha,hA⟩:=bj hP hv2;refine hte a v _ _ (DC ha) hA sm λu H2 s2 r=>?_;have gp2:=s2 _ _ gp;have tk:TK H2 (upd H2 p (.lst (zs++[u]))):=TK.lst gp2;refine ⟨gp2,xs.length- (i+1),by lia,by lia,rfl,?_,ae,by rw [DA,hz];rfl,?_⟩
  ·intro b o hb;rw [aj (al hb hp)];exact s2 _ _ (sm _ _ hb)
  ·rw [EB,ha];exact FE (Paired.mapP hT λ_ _ r=>mono ((bN s2).trans tk) r) (mono tk r)
theorem oB {α:Type} {J:It} {as:List α} {xs:List V} {A:α->V->Prop} {fr:List Nat} {tc:TT} {te:TE} {σ:St} {H1:Hp} {Q:VK} (hn:xs.length<=1000) (hP:Paired A as xs)
  (hgo: ∀ i H,Same H1 H->i<xs.length->J.go i H) (hst: ∀ H,Same H1 H->J.stop xs.length H) (hy: ∀ i H v H',Same H1 H->i<xs.length->J.yld i H v H'->H'=H/\xs[i]? =some v)
  (c:α->Bool) (R:Hp->α->V->Prop) (mono: ∀ {H H':Hp} {a:α} {v:V},TK H H'->R H a v->R H' a v)
  (htc: ∀ a v H (k:Bool->Hp->Prop),a∈as->A a v->Same H1 H->(∀ H',Same H H'->k (c a) H')->tc (some v::bV fr σ) H k)
  (hte: ∀ a v H (k:VK),a∈as->A a v->c a=true->Same H1 H->(∀ u H',Same H H'->R H' a u->k u H')->te (some v::bV fr σ) H k)
  (hd: ∀ p zs H',H1 p=none->Same H1 H'->H' p=some (.lst zs)->Paired (R H') (as.filter c) zs->Q (.ref p) H'):kg fr tc te σ J H1 Q:=by
 intro p hp;refine ⟨λi m zs H=>i<=xs.length/\m=xs.length-i/\Same H1 H/\H p=some (.lst zs)/\zs.length<=i/\Paired (R H) ((as.take i).filter c) zs,⟨_,Er _,rfl,am hp _,ae,DI _,.nil⟩,?_⟩;rintro i m zs H ⟨hi,hm,sm,gp,hz,hT⟩;refine ⟨gp,?_⟩;by_cases e:i=xs.length
 ·subst e;rw [<- Ev hP,EX]at hT;exact .inl ⟨hst H sm,hd p zs H hp sm gp hT⟩
 ·have hlt:i<xs.length:=by lia
  refine .inr ⟨hgo i H sm hlt,aK (by lia),λv H' hv=>?_⟩;obtain ⟨rfl,hv2⟩:=hy i H v H' sm hlt hv;obtain ⟨a,ha,hA⟩:=bj hP hv2;have etk:(as.take (i+1)).filter c=(as.take i).filter c++(if c a then [a]else []):=by
   rw [EB,ha,List.filter_append]
   congr 1
   show List.filter c [a]=_;by_cases hc:c a=true
   ·rw [Ea hc,List.filter_cons_of_pos hc];rfl
   ·rw [DU hc,List.filter_cons_of_neg hc];rfl
  refine htc a v _ _ (DC ha) hA sm λH0 s0=>?_;have sm0:=sm.trans s0;have gp0:=s0 _ _ gp;by_cases hc:c a=true
  ·rw [Ea hc]at etk;rw [Ea hc];refine hte a v _ _ (DC ha) hA hc sm0 λu H2 s2 r=>?_;have gp2:=s2 _ _ gp0;have tk:TK H2 (upd H2 p (.lst (zs++[u]))):=TK.lst gp2;refine ⟨gp2,xs.length- (i+1),by lia,by lia,rfl,?_,ae,by rw [DA];show zs.length+1<=i+1;lia,?_⟩
   ·intro b o hb;rw [aj (al hb hp)];exact s2 _ _ (sm0 _ _ hb)
   ·rw [etk];exact FE (Paired.mapP hT λ_ _ r=>mono ((bN (s0.trans s2)).trans tk) r) (mono tk r)
  ·rw [DU hc,En]at etk;rw [DU hc];exact ⟨xs.length- (i+1),by lia,by lia,rfl,sm0,gp0,by lia,by rw [etk];exact Paired.mapP hT λ_ _ r=>mono (bN s0) r⟩
theorem zW {K:W.Frag} {a:Addr} {xs:List V} {H1:Hp} (ha:H1 a=some (.lst xs)): ∀ i H,Same H1 H->i<xs.length->(Itl K a).go i H:=λi H s h=>⟨xs,xs[i],SqL.of (s _ _ ha),DD h⟩
theorem zV {K:W.Frag} {a:Addr} {xs:List V} {H1:Hp} (ha:H1 a=some (.lst xs)): ∀ H,Same H1 H->(Itl K a).stop xs.length H:=λH s=>⟨xs,SqL.of (s _ _ ha),DI _⟩
theorem Bs {K:W.Frag} {a:Addr} {xs:List V} {H1:Hp} (ha:H1 a=some (.lst xs)): ∀ i H v H',Same H1 H->(Itl K a).yld i H v H'->H'=H/\xs[i]? =some v:=λi H v H' s hv=>⟨hv.1,by obtain ⟨rfl,hv⟩:=hv;exact hv xs (SqL.of (s _ _ ha))⟩
theorem dY {K:W.Frag} {a:Addr} {xs:List V} {H1:Hp} (ha:H1 a=some (.tup xs)): ∀ i H,Same H1 H->i<xs.length->(Itt K a).go i H:=λi H s h=>⟨xs,xs[i],SqT.of (s _ _ ha),DD h⟩
theorem dX {K:W.Frag} {a:Addr} {xs:List V} {H1:Hp} (ha:H1 a=some (.tup xs)): ∀ H,Same H1 H->(Itt K a).stop xs.length H:=λH s=>⟨xs,SqT.of (s _ _ ha),DI _⟩
theorem gh {K:W.Frag} {a:Addr} {xs:List V} {H1:Hp} (ha:H1 a=some (.tup xs)): ∀ i H v H',Same H1 H->(Itt K a).yld i H v H'->H'=H/\xs[i]? =some v:=λi H v H' s hv=>⟨hv.1,by obtain ⟨rfl,hv⟩:=hv;exact hv xs (SqT.of (s _ _ ha))⟩
theorem dz {α:Type} {g:α->V}: ∀ {l:List α} {zs:List V},Paired (λa v=>v=g a) l zs->zs=l.map g
 | _,_,.nil=>rfl
 | _,_,.cons h t=>by rw [h,dz t];rfl
noncomputable def iA:Th->Bool
 | .i _=>true
 | _=>false
noncomputable def ke (lo hi:Int):Th->Bool
 | .i n=>decide (lo<=n)&&decide (n<=hi)
 | _=>false
noncomputable def AL:Th->Bool
 | .t _=>true
 | _=>false
noncomputable def bt:Th->Bool
 | .s x=>aY x
 | _=>false
noncomputable def dg (lo hi:Int):Th->Bool
 | .t l=>decide (lo<=(l.length:Int))&&decide ((l.length:Int)<=hi)
 | _=>false
noncomputable def bg (hi:Int):Th->Bool
 | .t l=>decide ((l.length:Int)<=hi)&&l.all bt
 | _=>false
noncomputable def dL:Th->Bool
 | .i n=>decide (0<=n)&&decide (n<=10^30)&& !decide (n=1)
 | _=>false
noncomputable def de:Th->Bool
 | .t [a,b,_]=>iA a&&bt b
 | _=>false
noncomputable def cP:Th->Bool
 | .t [a,b,c]=>bt a&&(bg 3 b&&bg 3 c)
 | _=>false
noncomputable def eg (g:Th->Bool):Th->Bool
 | .t l=>l.all g
 | _=>false
noncomputable def cR:Th->Bool
 | .t [a,b,c,d]=>bt a&&(bt b&&(bg 3 c&&eg de d))
 | _=>false
noncomputable def cJ:Th->Bool
 | .t [w,ss,fs]=>dL w&&(dg 1 4 ss&&(dg 1 10 fs&&(eg cP ss&&eg cR fs)))
 | _=>false
theorem di {H:Hp} {x:Th} {v:V} (h:RepT H x v):Sh H v:=by
 cases h with
 | non=>trivial
 | bl=>trivial
 | i=>trivial
 | s e=>exact e
 | t e _ _=>exact .inr (.inl ⟨_,e⟩)
 | l e _ _=>exact .inl ⟨_,e⟩
 | d e=>exact .inr (.inr ⟨_,e⟩)
theorem vI {H:Hp} {x:Th} {v:V} (h:RepT H x v):qv v=iA x:=by cases h <;> rfl
theorem uc {H:Hp} {x:Th} {v:V} {lo hi:Int} (h:RepT H x v):cU lo hi v=ke lo hi x:=by cases h <;> rfl
theorem iM {H:Hp} {x:Th} {v:V} (h:RepT H x v):eA v=bt x:=by cases h <;> rfl
theorem AB {H:Hp} {x:Th} {v:V} (h:RepT H x v):isV "tuple" H v=AL x:=by
 cases h with
 | t e _ _=>simp only [isV,e];rfl
 | l e _ _=>simp only [isV,e];rfl
 | d e=>simp only [isV,e];rfl
 | _=>rfl
def spT (g:Th->Bool):Sp:=λvs H Q _=> ∃ v x,vs=[v]/\RepT H x v/\ ∀ H',Same H H'->Q (.bl (g x)) H'
def lY:Sp:=λvs H Q _=> ∃ v x lo hi,vs=[v,.int lo,.int hi]/\RepT H x v/\Q (.bl (dg lo hi x)) H
def ng:Sp:=λvs H Q _=> ∃ v x hi,vs=[v,.int hi]/\RepT H x v/\ ∀ H',Same H H'->Q (.bl (bg hi x)) H'
def cI (ps:List Str) (e:Expr):Sp:=λvs H Q _=> ∃ ls x,RepTs H ls vs/\ls.length=ps.length/\evE false ps (ls.map some) 9 e=some x/\ ∀ v H',Same H H'->RepT H' x v->Q v H'
noncomputable def pq:List Stmt->Expr
 | [.Return (some e) _]=>e
 | _=>.Constant .none 0 ⟨0,0,0,0⟩
noncomputable def C7:List Stmt->Pos
 | [.Return _ p]=>p
 | _=>⟨0,0,0,0⟩
theorem gL {lo hi:Int} {x:Th} (h:dg lo hi x=true): ∃ l,x=.t l/\lo<=(l.length:Int)/\(l.length:Int)<=hi:=by
 cases x with
 | t l=>
  have h:(decide (lo<=(l.length:Int))&&decide ((l.length:Int)<=hi))=true:=h;rw [Ek,FI,FI]at h;exact ⟨l,rfl,h.1,h.2⟩
 | _=>cases h
theorem A5 {x:Th} (h:dg 3 3 x=true): ∃ a b c,x=.t [a,b,c]:=by
 obtain ⟨l,rfl,h1,h2⟩:=gL h;rcases l with _ | ⟨a,_ | ⟨b,_ | ⟨c,_ | ⟨d,r⟩⟩⟩⟩
 ·exact absurd h1 (by simp)
 ·exact absurd h1 (by simp)
 ·exact absurd h1 (by simp)
 ·exact ⟨a,b,c,rfl⟩
 ·exact absurd h2 (by simp;lia)
theorem C6 {x:Th} (h:dg 4 4 x=true): ∃ a b c d,x=.t [a,b,c,d]:=by
 obtain ⟨l,rfl,h1,h2⟩:=gL h;rcases l with _ | ⟨a,_ | ⟨b,_ | ⟨c,_ | ⟨d,_ | ⟨e,r⟩⟩⟩⟩⟩
 ·exact absurd h1 (by simp)
 ·exact absurd h1 (by simp)
 ·exact absurd h1 (by simp)
 ·exact absurd h1 (by simp)
 ·exact ⟨a,b,c,d,rfl⟩
 ·exact absurd h2 (by simp;lia)
theorem wK {x:Th} (h:dg 3 3 x=false):de x=false:=by
 cases hx:de x with
 | false=>rfl
 | true=>
  unfold de at hx;split at hx
  ·exact absurd (show true=false from h) (by decide)
  ·cases hx
theorem wk {x:Th} (h:dg 3 3 x=false):cP x=false:=by
 cases hx:cP x with
 | false=>rfl
 | true=>
  unfold cP at hx;split at hx
  ·exact absurd (show true=false from h) (by decide)
  ·cases hx
theorem yi {x:Th} (h:dg 4 4 x=false):cR x=false:=by
 cases hx:cR x with
 | false=>rfl
 | true=>
  unfold cR at hx;split at hx
  ·exact absurd (show true=false from h) (by decide)
  ·cases hx
theorem ut {x:Th} (h:dg 3 3 x=false):cJ x=false:=by
 cases hx:cJ x with
 | false=>rfl
 | true=>
  unfold cJ at hx;split at hx
  ·exact absurd (show true=false from h) (by decide)
  ·cases hx
theorem yo {H:Hp}: ∀ {ls:List Th} {vs:List V},RepTs H ls vs->EnR H (ls.map some) (vs.map some)
 | [],_,h=>by cases h;exact .nil
 | _::_,_,h=>by cases h with | cons a b=>exact .th a (yo b)
theorem ik {x:Str} {st:Stmt} {ps:List Str} (F:Fun K x x st f fd) (S:av ps ps (ah st)) (hb:aO st=[.Return (some (pq (aO st))) (C7 (aO st))]) (hv:j0 (ah st) ps=true):
  aX P w K mg base CX0 1 f fd ps (cI ps (pq (aO st))):=by
 refine F.ok S (λvs H Q E h=>?_) (λcdv A outer s H vs Q E hr h=>?_)
 ·obtain ⟨ls,x,h1,h2,_⟩:=h;rw [<- h1.len,h2]
 obtain ⟨ls,x,h1,h2,h3,q⟩:=h;rw [hb];refine ⟨_,ai (aw (be BO (w:=false) (N:=ps) (by rfl) hv (λz=>by cases z) 9)),?_⟩;have e:L2.start ps vs=vs.map some:=by
  unfold L2.start;rw [<- h2,h1.len,ID];exact En _
 rw [e];exact ⟨_,x,trivial,yo h1,h3,λv H' s' r=>q v H' s' r⟩
theorem iu {K:W.Frag} {fr:List Nat} {te:TE} {σ:St} {H:Hp} {Q:VK} {l:List Th} {a:Addr} {vs:List V} (g:Th->Bool) (ha:H a=some (.tup vs)) (hl:l.length<=1000) (ht:RepTs H l vs)
  (hte: ∀ x v H1 (k:VK),x∈l->RepT H1 x v->Same H H1->(∀ H',Same H1 H'->k (.bl (g x)) H')->te (some v::bV fr σ) H1 k)
  (hd: ∀ p H',Same H H'->H' p=some (.lst ((l.map g).map V.bl))->Q (.ref p) H'):fb fr te σ (Itt K a) H Q:=by
 have hn:=ht.len;refine dJ (by lia) ht.pr (dY ha) (dX ha) (gh ha) (λ_ x v=>v=.bl (g x)) (λ_ h=>h) (λx v H1 k hx r s1 hk=>?_) (λp zs H1 hp s1 g1 hz=>?_)
 ·exact hte x v H1 k hx (r.mono s1) s1 λH' s'=>hk _ H' s' rfl
 ·have ez:zs=(l.map g).map V.bl:=by rw [dz hz,Es];rfl
  exact hd p H1 s1 (by rw [<- ez];exact g1)
theorem gv {α:Type} (l:List α) (g:α->Bool):(l.map g).all id=l.all g:=by rw [HM];rfl
theorem y6:av ["thing","fewest","most"] ["thing","fewest","most"] (ah qV):=fsc
theorem xx (F:Fun K "is_row" "is_row" qV f fd) (G:Gb mg):aX P w K mg base CX0 1 f fd ["thing","fewest","most"] lY:=by
 refine F.okz y6 λcdv A outer s H vs Q E hr h=>?_;obtain ⟨v,x,lo,hi,rfl,hx,q⟩:=h;refine ⟨_,ai (aw (cM (ao cS rfl G.isi (by decide +kernel) (aa (pv 0) (aa (cE (v:=.ty "tuple") rfl G.tuple (by decide +kernel) rfl) ac)))
  (dk (kQ md md (pv 1) (ao (r:=bU K) au rfl G.len DV (aa (pv 0) ac)) (pv 2))))),?_⟩
 refine ⟨_,rfl,v,"tuple",rfl,di hx,by simp,_,rfl,?_⟩;rw [AB hx];cases hx with
 | @t l a vs e b ts=>
  have hl:=ts.len;refine bE ⟨_,rfl,_,rfl,a,vs,rfl,.inr (SqT.of e),lo,(vs.length:Int),rfl,rfl,_,rfl,?_⟩;have er:dg lo hi (.t l)=(decide (lo<=(vs.length:Int))&&decide ((vs.length:Int)<=hi)):=by rw [<- hl];rfl
  refine bp (λc=>?_) (λc=>?_)
  ·refine ⟨_,rfl,(vs.length:Int),hi,rfl,rfl,?_⟩;exact qb q (by rw [er,c,Ec])
  ·exact qb q (by rw [er,EK.mpr c,DN])
 | _=>exact bx q
theorem qO:av ["thing","most"] ["thing","most"] (ah ic):=fsc
theorem tZ {hi:Int} {x:Th} (h:dg 0 hi x=false):bg hi x=false:=by
 cases x with
 | t l=>
  have h:(decide ((0:Int)<=(l.length:Int))&&decide ((l.length:Int)<=hi))=false:=h;rw [DB (Int.natCast_nonneg _),Ec]at h;show (decide ((l.length:Int)<=hi)&&l.all bt)=false;rw [h,DN]
 | _=>rfl
theorem pJ (F:Fun K "is_row_of_words" "is_row_of_words" ic f fd) (G:Gb mg)
  (GR:Cl P w K mg base CX0 1 f2 fd2 ["thing","fewest","most"] lY "is_row")
  (GW:Cl P w K mg base CX0 1 f3 fd3 ["thing"] jw "is_word"):
  aX P w K mg base CX0 2 f fd ["thing","most"] ng:=by
 refine F.okz qO λcdv A outer s H vs Q E hr h=>?_;obtain ⟨v,x,hi,rfl,hx,q⟩:=h;refine ⟨_,ai (aw (cM (pcl GR hr (aa (pv 0) (aa ag (aa (pv 1) ac))))
  (dk (ao (cT rfl) rfl G.all (by decide +kernel) (aa (bX (sc0:=ah ic) (N0:=["thing","most"]) (ys:=[]) (fr:=[]) rfl (bB (pv 0)) rfl rfl
   csc (λC s H ex=>pcl GW hr (aa (pv 0) ac))) ac))))),?_⟩
 refine ⟨_,rfl,_,rfl,v,x,0,hi,rfl,hx,_,rfl,?_⟩;refine bp (λc=>?_) (λc=>?_)
 ·obtain ⟨l,rfl,_,h2⟩:=gL c;cases hx with
  | t e b ts=>
   refine ⟨_,rfl,_,rfl,⟨_,SqT.of e⟩,?_⟩;refine iu bt e b ts (λx v H1 k _ r s1 hk=>?_) (λp H1 s1 g1=>?_)
   ·exact ⟨_,rfl,v,rfl,di r,λH2 s2=>by rw [iM r];exact hk H2 s2⟩
   ·exact ⟨p,l.map bt,rfl,SqL.of g1,qb (q H1 s1) (by show (decide ((l.length:Int)<=hi)&&l.all bt)=_;rw [DB h2,Ec,gv])⟩
 ·exact qb (q H (Same.refl H)) (tZ (EK.mpr c))
theorem uz:av ["thing"] ["thing"] (ah kL):=fsc
theorem rF (F:Fun K "is_wheel" "is_wheel" kL f fd)
  (GI:Cl P w K mg base CX0 2 f2 fd2 ["thing","lowest","highest"] kE "is_whole_within"):
  aX P w K mg base CX0 3 f fd ["thing"] (spT dL):=by
 refine F.okz uz λcdv A outer s H vs Q E hr h=>?_;obtain ⟨v,x,rfl,hx,q⟩:=h;have q:=q H (Same.refl H);refine ⟨_,ai (aw (cM (pcl GI hr (aa (pv 0) (aa ag (aa (aF rm ag ag) ac)))) (dk (cj Cd (pv 0) ag (aJ _))))),?_⟩;refine ⟨_,rfl,10,30,rfl,rfl,⟨by decide,by decide,by decide⟩,v,0,_,rfl,di hx,_,rfl,?_⟩;rw [uc hx];cases hx with
 | @i n=>
  have ew:dL (.i n)=(ke 0 (10^30) (.i n)&& !decide (n=1)):=rfl;refine bp (λc=>?_) (λc=>?_)
  ·have c:ke 0 (10^30) (.i n)=true:=c;refine ⟨_,rfl,rfl,?_⟩;refine qb q ?_;rw [ew,c,Ec];by_cases h1:n=1
   ·subst h1;rfl
   ·rw [DG h1,DG λz=>h1 (V.int.inj z)]
  ·exact qb q (by rw [ew,show ke 0 (10^30) (.i n)=false from EK.mpr c,DN])
 | _=>exact bx q
theorem pk:av ["thing"] ["thing"] (ah iC):=fsc
theorem n0 (F:Fun K "has_rule_shape" "has_rule_shape" iC f fd)
  (GR:Cl P w K mg base CX0 1 f2 fd2 ["thing","fewest","most"] lY "is_row")
  (GW:Cl P w K mg base CX0 1 f3 fd3 ["thing"] jw "is_word")
  (GH:Cl P w K mg base CX0 1 f4 fd4 ["thing"] nh "is_whole"):
  aX P w K mg base CX0 2 f fd ["thing"] (spT de):=by
 refine F.okz pk λcdv A outer s H vs Q E hr h=>?_;obtain ⟨v,x,rfl,hx,q⟩:=h;refine ⟨_,ai (aw (cM (pcl GR hr (aa (pv 0) (aa ag (aa ag ac))))
  (cM (pcl GH hr (aa (ax (r:=bc K) aH (pv 0) ag (λ_ _=>rfl)) ac))
  (dk (pcl GW hr (aa (ax (r:=bc K) aH (pv 0) ag (λ_ _=>rfl)) ac)))))),?_⟩
 refine ⟨_,rfl,v,x,3,3,rfl,hx,_,rfl,?_⟩;refine bp (λc=>?_) (λc=>qb (q H (Same.refl H)) (by rw [wK (EK.mpr c)]));obtain ⟨a,b,d,rfl⟩:=A5 c;cases hx with
 | t e _ ts=>
  obtain ⟨va,ea,ra⟩:=ts.get (j:=0) rfl;obtain ⟨vb,eb,rb⟩:=ts.get (j:=1) rfl;refine ⟨_,rfl,_,_,0,va,rfl,rfl,SqT.of e,aM (j:=0) ea,va,rfl,di ra,_,rfl,?_⟩;rw [vI ra];refine bp (λc1=>?_) (λc1=>qb (q H (Same.refl H)) (by show (iA a&&bt b)=false;rw [show iA a=false from EK.mpr c1,DN]));exact ⟨_,rfl,_,_,1,vb,rfl,rfl,SqT.of e,aM (j:=1) eb,vb,rfl,di rb,λH' s'=>qb (q H' s') (by rw [iM rb];show (iA a&&bt b)=bt b;rw [show iA a=true from c1,Ec])⟩
theorem pi:av ["thing"] ["thing"] (ah iB):=fsc
theorem nY (F:Fun K "has_sort_shape" "has_sort_shape" iB f fd) {t3:Tok} (m3:mg "MOST_WORTHS"=some (.int 3 t3))
  (GR:Cl P w K mg base CX0 1 f2 fd2 ["thing","fewest","most"] lY "is_row")
  (GW:Cl P w K mg base CX0 1 f3 fd3 ["thing"] jw "is_word")
  (GS:Cl P w K mg base CX0 2 f4 fd4 ["thing","most"] ng "is_row_of_words"):
  aX P w K mg base CX0 3 f fd ["thing"] (spT cP):=by
 refine F.okz pi λcdv A outer s H vs Q E hr h=>?_;obtain ⟨v,x,rfl,hx,q⟩:=h;have hr1:=hr.mono (show 1<=2 by decide);refine ⟨_,ad (aS (PW.pt (dR (a9 (aZ (pcl GR hr1 (aa (pv 0) (aa ag (aa ag ac))))))
   (cX (a9 (aZ (pcl GW hr1 (aa (ax (r:=bc K) aH (pv 0) ag (λ_ _=>rfl)) ac))))))) (ai (aw cx)) aE)
  (ai (aw (cM (pcl GS hr (aa (ax (r:=bc K) aH (pv 0) ag (λ_ _=>rfl)) (aa (aW (v:=.int 3) rfl m3 ⟨_,rfl⟩) ac)))
   (dk (pcl GS hr (aa (ax (r:=bc K) aH (pv 0) ag (λ_ _=>rfl)) (aa (aW (v:=.int 3) rfl m3 ⟨_,rfl⟩) ac))))))),?_⟩
 refine ⟨_,rfl,v,x,3,3,rfl,hx,_,rfl,?_⟩;cases c:dg 3 3 x with
 | false=>exact bE (bE (qb (q H (Same.refl H)) (wk c)))
 | true=>
 obtain ⟨a,b,d,rfl⟩:=A5 c;cases hx with
 | t e _ ts=>
  obtain ⟨va,ea,ra⟩:=ts.get (j:=0) rfl;obtain ⟨vb,eb,rb⟩:=ts.get (j:=1) rfl;obtain ⟨vc,ec,rc⟩:=ts.get (j:=2) rfl;have es:cP (.t [a,b,d])=(bt a&&(bg 3 b&&bg 3 d)):=rfl;refine bx ⟨_,rfl,_,_,0,va,rfl,rfl,SqT.of e,aM (j:=0) ea,va,rfl,di ra,λH1 s1=>⟨_,rfl,?_⟩⟩;rw [iM ra];cases ca:bt a with
  | false=>exact bE (qb (q H1 s1) (by rw [es,ca,DN]))
  | true=>
  refine bx ⟨_,rfl,_,_,1,vb,rfl,rfl,SqT.of (s1 _ _ e),aM (j:=1) eb,vb,b,3,rfl,rb.mono s1,λH2 s2=>⟨_,rfl,?_⟩⟩;have S2:=s1.trans s2;cases cb:bg 3 b with
  | false=>exact bx (qb (q H2 S2) (by rw [es,ca,cb,Ec,DN]))
  | true=>exact bE ⟨_,rfl,_,_,2,vc,rfl,rfl,SqT.of (S2 _ _ e),aM (j:=2) ec,vc,d,3,rfl,rc.mono S2,λH3 s3=>qb (q H3 (S2.trans s3)) (by rw [es,ca,cb,Ec,Ec])⟩
noncomputable abbrev jn:Expr:=pq (aO iR)
noncomputable abbrev fE:Expr:=pq (aO iS)
noncomputable abbrev fG:Expr:=pq (aO iW)
noncomputable abbrev gu:Expr:=pq (aO eV)
noncomputable abbrev dI:Expr:=pq (aO iV)
noncomputable abbrev fF:Expr:=pq (aO iU)
theorem uv:av ["book"] ["book"] (ah iR):=fsc
theorem uw:av ["book"] ["book"] (ah iS):=fsc
theorem uA:av ["book"] ["book"] (ah iW):=fsc
theorem nB:av ["form"] ["form"] (ah eV):=fsc
theorem uy:av ["form"] ["form"] (ah iV):=fsc
theorem ux:av ["form"] ["form"] (ah iU):=fsc
theorem rn (F:Fun K "wheel_of" "wheel_of" iR f fd):aX P w K mg base CX0 1 f fd ["book"] (cI ["book"] jn):=ik F uv rfl (by decide +kernel)
theorem rB (F:Fun K "sorts_of" "sorts_of" iS f fd):aX P w K mg base CX0 1 f fd ["book"] (cI ["book"] fE):=ik F uw rfl (by decide +kernel)
theorem rG (F:Fun K "forms_of" "forms_of" iW f fd):aX P w K mg base CX0 1 f fd ["book"] (cI ["book"] fG):=ik F uA rfl (by decide +kernel)
theorem lL (F:Fun K "sort_of_form" "sort_of_form" eV f fd):aX P w K mg base CX0 1 f fd ["form"] (cI ["form"] gu):=ik F nB rfl (by decide +kernel)
theorem rE (F:Fun K "parts_of" "parts_of" iV f fd):aX P w K mg base CX0 1 f fd ["form"] (cI ["form"] dI):=ik F uy rfl (by decide +kernel)
theorem rD (F:Fun K "rules_of" "rules_of" iU f fd):aX P w K mg base CX0 1 f fd ["form"] (cI ["form"] fF):=ik F ux rfl (by decide +kernel)
theorem tK {a b c:Th}:evE false ["book"] [some (.t [a,b,c])] 9 jn=some a:=rfl
theorem oy {a b c:Th}:evE false ["book"] [some (.t [a,b,c])] 9 fE=some b:=rfl
theorem oA {a b c:Th}:evE false ["book"] [some (.t [a,b,c])] 9 fG=some c:=rfl
theorem ym {a b c d:Th}:evE false ["form"] [some (.t [a,b,c,d])] 9 gu=some b:=rfl
theorem tL {a b c d:Th}:evE false ["form"] [some (.t [a,b,c,d])] 9 dI=some c:=rfl
theorem oz {a b c d:Th}:evE false ["form"] [some (.t [a,b,c,d])] 9 fF=some d:=rfl
theorem ev1 {ps:List Str} {e:Expr} {x y:Th} {v:V} {H:Hp} {Q:VK} (h1:ps.length=1) (hx:RepT H x v) (he:evE false ps [some x] 9 e=some y) (q: ∀ u H',Same H H'->RepT H' y u->Q u H'):cI ps e [v] H Q E0:=
 ⟨[x],y,.cons hx .nil,h1.symm,he,q⟩
theorem xY {x:Th} (h:AL x=true): ∃ l,x=.t l:=by
 cases x <;> first | exact ⟨_,rfl⟩ | cases h
theorem pp:av ["thing"] ["thing"] (ah fU):=fsc
theorem n5 (F:Fun K "has_form_shape" "has_form_shape" fU f fd) (G:Gb mg) {t3:Tok} (m3:mg "MOST_PARTS"=some (.int 3 t3))
  (GR:Cl P w K mg base CX0 1 f2 fd2 ["thing","fewest","most"] lY "is_row")
  (GW:Cl P w K mg base CX0 1 f3 fd3 ["thing"] jw "is_word")
  (GS:Cl P w K mg base CX0 2 f4 fd4 ["thing","most"] ng "is_row_of_words")
  (GO:Cl P w K mg base CX0 1 f5 fd5 ["form"] (cI ["form"] gu) "sort_of_form")
  (GP:Cl P w K mg base CX0 1 f6 fd6 ["form"] (cI ["form"] dI) "parts_of")
  (GU:Cl P w K mg base CX0 1 f7 fd7 ["form"] (cI ["form"] fF) "rules_of")
  (GT:Cl P w K mg base CX0 2 f8 fd8 ["thing"] (spT de) "has_rule_shape"):
  aX P w K mg base CX0 3 f fd ["thing"] (spT cR):=by
 refine F.okz pp λcdv A outer s H vs Q E hr h=>?_;obtain ⟨v,x,rfl,hx,q⟩:=h;have hr1:=hr.mono (show 1<=2 by decide);refine ⟨_,ad (aS (PW.pt (dR (a9 (aZ (pcl GR hr1 (aa (pv 0) (aa ag (aa ag ac))))))
   (dR (a9 (aZ (pcl GW hr1 (aa (ax (r:=bc K) aH (pv 0) ag (λ_ _=>rfl)) ac))))
   (cX (a9 (aZ (pcl GW hr1 (aa (pcl GO hr1 (aa (pv 0) ac)) ac)))))))) (ai (aw cx)) aE)
  (ad (aS (PW.pt (dR (a9 (aZ (pcl GS hr (aa (pcl GP hr1 (aa (pv 0) ac)) (aa (aW (v:=.int 3) rfl m3 ⟨_,rfl⟩) ac)))))
   (cX (a9 (aZ (ao cS rfl G.isi (by decide +kernel) (aa (pcl GU hr1 (aa (pv 0) ac)) (aa (cE (v:=.ty "tuple") rfl G.tuple (by decide +kernel) rfl) ac)))))))) (ai (aw cx)) aE)
  (ai (aw (ao (cT rfl) rfl G.all (by decide +kernel) (aa (bX (sc0:=ah fU) (N0:=["thing"]) (ys:=[]) (fr:=[]) rfl (bB (pcl GU hr1 (aa (pv 0) ac))) rfl rfl
   csc (λC s H ex=>pcl GT hr (aa (pv 0) ac))) ac))))),?_⟩
 refine ⟨_,rfl,v,x,4,4,rfl,hx,_,rfl,?_⟩;cases c:dg 4 4 x with
 | false=>exact bE (bE (qb (q H (Same.refl H)) (yi c)))
 | true=>
 obtain ⟨a,b,d,u,rfl⟩:=C6 c;have es:cR (.t [a,b,d,u])=(bt a&&(bt b&&(bg 3 d&&eg de u))):=rfl;obtain ⟨va,ea,e,ra⟩: ∃ va vs,(∃ p,v=.ref p/\H p=some (.tup vs))/\vs[0]? =some va/\RepT H a va:=by
  cases hx with
  | t e _ ts=>
   obtain ⟨va,ea,ra⟩:=ts.get (j:=0) rfl;exact ⟨va,_,⟨_,rfl,e⟩,ea,ra⟩
 obtain ⟨p,rfl,e⟩:=e;obtain ⟨ea',ra⟩:=ra;refine bx ⟨_,rfl,p,_,0,va,rfl,rfl,SqT.of e,aM (j:=0) ea',va,rfl,di ra,λH1 s1=>⟨_,rfl,?_⟩⟩;rw [iM ra];cases ca:bt a with
 | false=>exact bE (bE (qb (q H1 s1) (by rw [es,ca,DN])))
 | true=>
 refine bx ⟨_,rfl,ev1 rfl (hx.mono s1) ym λvb H2 s2 rb=>⟨vb,rfl,di rb,λH3 s3=>⟨_,rfl,?_⟩⟩⟩;rw [iM rb];have S3:=(s1.trans s2).trans s3;cases cb:bt b with
 | false=>exact bE (qb (q H3 S3) (by rw [es,ca,cb,Ec,DN]))
 | true=>
 refine bx ⟨_,rfl,ev1 rfl (hx.mono S3) tL λvd H4 s4 rd=>⟨vd,d,3,rfl,rd,λH5 s5=>⟨_,rfl,?_⟩⟩⟩;have S5:=(S3.trans s4).trans s5;cases cd:bg 3 d with
 | false=>exact bE (bE (qb (q H5 S5) (by rw [es,ca,cb,cd,Ec,Ec,DN])))
 | true=>
 have es:cR (.t [a,b,d,u])=eg de u:=by rw [es,ca,cb,cd,Ec,Ec,Ec]
 refine bx ⟨_,rfl,ev1 rfl (hx.mono S5) oz λvu H6 s6 ru=>⟨vu,"tuple",rfl,di ru,by simp,_,rfl,?_⟩⟩;rw [AB ru];have S6:=S5.trans s6;cases cu:AL u with
 | false=>exact bE (qb (q H6 S6) (by rw [es];cases u <;> first | rfl | cases cu))
 | true=>
 obtain ⟨l,rfl⟩:=xY cu;refine bx ⟨_,rfl,ev1 rfl (hx.mono S6) oz λvu H7 s7 ru=>?_⟩;have S7:=S6.trans s7;cases ru with
 | t e7 b7 t7=>
  refine ⟨_,rfl,⟨_,SqT.of e7⟩,?_⟩;refine iu de e7 b7 t7 (λx v H1 k _ r s1 hk=>⟨_,rfl,v,x,rfl,r,hk⟩) (λp H8 s8 g8=>?_);exact ⟨p,l.map de,rfl,SqL.of g8,qb (q H8 (S7.trans s8)) (by rw [es,gv];rfl)⟩
theorem scHasShape:av ["thing","sorts_are_made"] ["thing"] (ah fq):=fsc
theorem pL (F:Fun K "has_shape" "has_shape" fq f fd) (G:Gb mg) {t4 t10:Tok} (m4:mg "MOST_SORTS"=some (.int 4 t4)) (m10:mg "MOST_FORMS"=some (.int 10 t10))
  (GR:Cl P w K mg base CX0 1 f2 fd2 ["thing","fewest","most"] lY "is_row")
  (GW:Cl P w K mg base CX0 3 f3 fd3 ["thing"] (spT dL) "is_wheel")
  (GO:Cl P w K mg base CX0 1 f4 fd4 ["book"] (cI ["book"] jn) "wheel_of")
  (GS:Cl P w K mg base CX0 1 f5 fd5 ["book"] (cI ["book"] fE) "sorts_of")
  (GF:Cl P w K mg base CX0 1 f6 fd6 ["book"] (cI ["book"] fG) "forms_of")
  (GH:Cl P w K mg base CX0 3 f7 fd7 ["thing"] (spT cP) "has_sort_shape")
  (GM:Cl P w K mg base CX0 3 f8 fd8 ["thing"] (spT cR) "has_form_shape"):
  aX P w K mg base CX0 4 f fd ["thing"] (spT cJ):=by
 refine F.okz scHasShape λcdv A outer s H vs Q E hr h=>?_;obtain ⟨v,x,rfl,hx,q⟩:=h;have hr1:=hr.mono (show 1<=3 by decide);refine ⟨_,ad (aS (PW.pt (dR (a9 (aZ (pcl GR hr1 (aa (pv 0) (aa ag (aa ag ac))))))
   (cX (a9 (aZ (pcl GW hr (aa (pcl GO hr1 (aa (pv 0) ac)) ac))))))) (ai (aw cx)) aE)
  (ad (aS (PW.pt (dR (a9 (aZ (pcl GR hr1 (aa (pcl GS hr1 (aa (pv 0) ac)) (aa ag (aa (aW (v:=.int 4) rfl m4 ⟨_,rfl⟩) ac))))))
   (cX (a9 (aZ (pcl GR hr1 (aa (pcl GF hr1 (aa (pv 0) ac)) (aa ag (aa (aW (v:=.int 10) rfl m10 ⟨_,rfl⟩) ac))))))))) (ai (aw cx)) aE)
  (ad (psz 1 scHasShape.nd (ao (cT rfl) rfl G.all (by decide +kernel) (aa (bX (sc0:=ah fq) (N0:=["thing","sorts_are_made"]) (ys:=[]) (fr:=[]) rfl (bB (pcl GS hr1 (aa (pv 0) ac))) rfl rfl
   csc (λC s H ex=>pcl GH hr (aa (pv 0) ac))) ac)))
  (ai (aw (cM (pv 1) (dk (ao (cT rfl) rfl G.all (by decide +kernel) (aa (bX (sc0:=ah fq) (N0:=["thing","sorts_are_made"]) (ys:=[]) (fr:=[]) rfl (bB (pcl GF hr1 (aa (pv 0) ac))) rfl rfl
   csc (λC s H ex=>pcl GM hr (aa (pv 0) ac))) ac)))))))),?_⟩
 refine ⟨_,rfl,v,x,3,3,rfl,hx,_,rfl,?_⟩;cases c:dg 3 3 x with
 | false=>exact bE (bE (qb (q H (Same.refl H)) (ut c)))
 | true=>
 obtain ⟨a,b,d,rfl⟩:=A5 c;have es:cJ (.t [a,b,d])=(dL a&&(dg 1 4 b&&(dg 1 10 d&&(eg cP b&&eg cR d)))):=rfl;refine bx ⟨_,rfl,ev1 rfl hx tK λva H1 s1 ra=>⟨va,a,rfl,ra,λH2 s2=>⟨_,rfl,?_⟩⟩⟩;have S2:=s1.trans s2;cases ca:dL a with
 | false=>exact bE (qb (q H2 S2) (by rw [es,ca,DN]))
 | true=>
 refine bx ⟨_,rfl,ev1 rfl (hx.mono S2) oy λvb H3 s3 rb=>⟨vb,b,1,4,rfl,rb,_,rfl,?_⟩⟩;have S3:=S2.trans s3;cases cb:dg 1 4 b with
 | false=>exact bE (bE (qb (q H3 S3) (by rw [es,ca,cb,Ec,DN])))
 | true=>
 refine bx ⟨_,rfl,ev1 rfl (hx.mono S3) oA λvd H4 s4 rd=>⟨vd,d,1,10,rfl,rd,_,rfl,?_⟩⟩;have S4:=S3.trans s4;cases cd:dg 1 10 d with
 | false=>exact bE (qb (q H4 S4) (by rw [es,ca,cb,cd,Ec,Ec,DN]))
 | true=>
 have es:cJ (.t [a,b,d])=(eg cP b&&eg cR d):=by rw [es,ca,cb,cd,Ec,Ec,Ec]
 obtain ⟨lb,rfl,_,_⟩:=gL cb;obtain ⟨ld,rfl,_,_⟩:=gL cd;refine bx ⟨_,rfl,ev1 rfl (hx.mono S4) oy λvb H5 s5 rb=>?_⟩;have S5:=S4.trans s5;cases rb with
 | t e5 b5 t5=>
 refine ⟨_,rfl,⟨_,SqT.of e5⟩,?_⟩;refine iu cP e5 b5 t5 (λx v H1 k _ r s1 hk=>⟨_,rfl,v,x,rfl,r,hk⟩) (λp H6 s6 g6=>?_);refine ⟨p,lb.map cP,rfl,SqL.of g6,?_⟩;rw [gv];have S6:=S5.trans s6;refine ⟨_,rfl,_,rfl,?_⟩;refine bp (λc6=>?_) (λc6=>qb (q H6 S6) (by rw [es];show (lb.all cP&&_)=_;rw [EK.mpr c6,DN]));refine ⟨_,rfl,ev1 rfl (hx.mono S6) oA λvd H7 s7 rd=>?_⟩;have S7:=S6.trans s7;cases rd with
 | t e7 b7 t7=>
 refine ⟨_,rfl,⟨_,SqT.of e7⟩,?_⟩;refine iu cR e7 b7 t7 (λx v H1 k _ r s1 hk=>⟨_,rfl,v,x,rfl,r,hk⟩) (λp H8 s8 g8=>?_);exact ⟨p,ld.map cR,rfl,SqL.of g8,qb (q H8 (S7.trans s8)) (by rw [es,gv];show (lb.all cP&&ld.all cR)=_;rw [c6,Ec])⟩
structure FrX where
 name:Str
 own:Str
 parts:List Str
 rules:List (Int×Str×Th)
structure BkX where
 wheel:Int
 sorts:List Srt
 forms:List FrX
noncomputable def sTh (ws:List Str):Th:=.t (ws.map .s)
noncomputable def cW (s:Srt):Th:=.t [.s s.name,sTh s.downs,sTh s.ups]
noncomputable def bQ (r:Int×Str×Th):Th:=.t [.i r.1,.s r.2.1,r.2.2]
noncomputable def bH (f:FrX):Th:=.t [.s f.name,.s f.own,sTh f.parts,.t (f.rules.map bQ)]
noncomputable def cO (b:BkX):Th:=.t [.i b.wheel,.t (b.sorts.map cW),.t (b.forms.map bH)]
theorem sH {H:Hp}: ∀ {ws:List Str} {vs:List V},RepTs H (ws.map .s) vs->vs=ws.map V.str
 | [],_,h=>by cases h;rfl
 | _::_,_,h=>by
  cases h with
  | cons a b=>cases a;rw [sH b];rfl
theorem oR {H:Hp}: ∀ {ws:List Str},(∀ x∈ws,x.length<=1000)->RepTs H (ws.map .s) (ws.map V.str)
 | [],_=>.nil
 | x::r,h=>.cons (.s (h x DW)) (oR λy hy=>h y (DZ _ hy))
theorem fR {H:Hp} {ws:List Str} {v:V} (h:RepT H (sTh ws) v): ∃ a,v=.ref a/\H a=some (.tup (ws.map V.str))/\ws.length<=1000:=by
 cases h with
 | t e b ts=>exact ⟨_,rfl,by rw [<- sH ts];exact e,by rw [Dx]at b;exact b⟩
theorem aT {H:Hp} {l:List Th} {v:V} (h:RepT H (.t l) v): ∃ a vs,v=.ref a/\H a=some (.tup vs)/\l.length<=1000/\RepTs H l vs:=by
 cases h with
 | t e b ts=>exact ⟨_,_,rfl,e,b,ts⟩
theorem cB {H:Hp} {x:Str} {v:V} (h:RepT H (.s x) v):v=.str x:=by cases h;rfl
theorem wO {H:Hp} {a b:Th} {vs:List V} (h:RepTs H [a,b] vs): ∃ x y,vs=[x,y]/\RepT H a x/\RepT H b y:=by
 cases h with
 | cons p q=>cases q with | cons r s=>cases s;exact ⟨_,_,rfl,p,r⟩
theorem eR {H:Hp} {a b c:Th} {vs:List V} (h:RepTs H [a,b,c] vs): ∃ x y z,vs=[x,y,z]/\RepT H a x/\RepT H b y/\RepT H c z:=by
 cases h with
 | cons p q=>obtain ⟨x,y,rfl,r,s⟩:=wO q;exact ⟨_,_,_,rfl,p,r,s⟩
theorem re {H:Hp} {a b c d:Th} {vs:List V} (h:RepTs H [a,b,c,d] vs): ∃ x y z u,vs=[x,y,z,u]/\RepT H a x/\RepT H b y/\RepT H c z/\RepT H d u:=by
 cases h with
 | cons p q=>obtain ⟨x,y,z,rfl,r,s⟩:=eR q;exact ⟨_,_,_,_,rfl,p,r,s⟩
noncomputable def bA (ns:List Str) (f:FrX):Bool:=decide (f.own∈ns)&&f.parts.all λp=>decide (p∈ns)
noncomputable def ck (b:BkX):Bool:=decide (b.sorts.map Srt.name).Nodup&&(decide (b.forms.map FrX.name).Nodup&&(b.sorts.all (λs=>decide (s.downs++s.ups).Nodup)&&b.forms.all (bA (b.sorts.map Srt.name))))
theorem rS {α:Type} [DecidableEq α]: ∀ (l u:List α),(HT.ins u l).length<=u.length+l.length
 | [],u=>DI _
 | x::r,u=>by
  show (HT.ins (if x∈u then u else u++[x]) r).length<=_;split
  ·have:=rS r u;rw [DJ];lia
  ·have:=rS r (u++[x]);rw [DA]at this;rw [DJ];simp at this;lia
theorem ya {α:Type} [DecidableEq α]: ∀ {l u:List α},u.Nodup-> ¬ (u++l).Nodup->(HT.ins u l).length<u.length+l.length
 | [],u,h,n=>absurd (by rw [En];exact h) n
 | x::r,u,h,n=>by
  show (HT.ins (if x∈u then u else u++[x]) r).length<_;split
  ·have:=rS r u;rw [DJ];lia
  ·rename_i hx;have h2:(u++[x]).Nodup:=by
    rw [FH];exact ⟨h,FU.mpr ⟨by simp,Ho⟩,λa ha b hb e=>by rw [DF.mp hb]at e;exact hx (e▸ha)⟩
   have:=ya h2 (by rw [Et];exact n);rw [DA]at this;rw [DJ];simp at this;lia
theorem Bu {α:Type} [DecidableEq α] (l:List α):decide (((HT.ins [] l).length:Nat)=l.length)=decide l.Nodup:=by
 by_cases h:l.Nodup
 ·rw [DB h,mn (by rw [Ft];exact h),Ft,DB rfl]
 ·rw [DG h];have:=ya (u:=[]) Ho (l:=l) (by rw [Ft];exact h);exact DG (by simp at this;lia)
theorem fC (x:Str): ∀ ws:List Str,inV (.str x) (ws.map V.str)=decide (x∈ws)
 | []=>by simp [inV]
 | b::r=>by
  have e:inV (.str x) ((b::r).map V.str)=(eqV (.str b) (.str x)||inV (.str x) (r.map V.str)):=rfl;rw [e,fC x r];by_cases h:b=x
  ·subst h;rw [show eqV (.str b) (.str b)=true by simp [eqV],Bool.true_or];exact (DB DW).symm
  ·rw [show eqV (.str b) (.str x)=false by simp [eqV,h],Bool.false_or,Iy];exact ⟨λz=>DZ _ z,λz=>(DK.mp z).elim (λe=>absurd e.symm h) id⟩
theorem ip (ws:List Str):(ws.map V.str).all jm=true:=by
 induction ws with
 | nil=>rfl
 | cons b r ih=>rw [Fa,Fg,ih];rfl
def kG (K:W.Frag):Sp:=λvs H Q _=> ∃ (a:Addr) (ws:List Str),vs=[.ref a]/\(H a=some (.lst (ws.map V.str))\/H a=some (.tup (ws.map V.str)))/\ws.length<=1000/\Q (.bl (decide ws.Nodup)) H
structure ShX (b:BkX):Prop where
 wh:dL (.i b.wheel)=true
 s1:1<=b.sorts.length
 s4:b.sorts.length<=4
 f1:1<=b.forms.length
 f10:b.forms.length<=10
 sw: ∀ s∈b.sorts,aY s.name=true/\(∀ x∈s.downs++s.ups,aY x=true)/\s.downs.length<=3/\s.ups.length<=3
 fw: ∀ f∈b.forms,aY f.name=true/\aY f.own=true/\(∀ p∈f.parts,aY p=true)/\f.parts.length<=3/\ ∀ r∈f.rules,aY r.2.1=true
theorem tY {ws:List Str} (h: ∀ x∈ws,aY x=true):(ws.map Th.s).all bt=true:=by
 rw [HM];exact Ed.mpr h
theorem kq {ws:List Str} (h: ∀ x∈ws,aY x=true) (hl:ws.length<=3):bg 3 (sTh ws)=true:=by
 show (decide ((((ws.map Th.s).length:Nat):Int)<=3)&&(ws.map Th.s).all bt)=true;rw [tY h,Dx,DB (by lia)];rfl
theorem sQ {lo hi:Int} {α:Type} {l:List α} {g:α->Th} (h1:lo<=l.length) (h2:(l.length:Int)<=hi):dg lo hi (.t (l.map g))=true:=by
 show (decide (lo<=(((l.map g).length:Nat):Int))&&decide ((((l.map g).length:Nat):Int)<=hi))=true;rw [Dx,DB h1,DB h2];rfl
theorem oJ {α:Type} {l:List α} {g:α->Th} {c:Th->Bool} (h: ∀ x∈l,c (g x)=true):eg c (.t (l.map g))=true:=by
 show (l.map g).all c=true;rw [HM];exact Ed.mpr h
theorem ShX.sort {b:BkX} (h:ShX b) {s:Srt} (hs:s∈b.sorts):cP (cW s)=true:=by
 obtain ⟨h1,h2,h3,h4⟩:=h.sw s hs;show (aY s.name&&(bg 3 (sTh s.downs)&&bg 3 (sTh s.ups)))=true;rw [h1,kq (λx hx=>h2 x (Eo _ hx)) h3,kq (λx hx=>h2 x (DO _ hx)) h4];rfl
theorem ShX.form {b:BkX} (h:ShX b) {f:FrX} (hf:f∈b.forms):cR (bH f)=true:=by
 obtain ⟨h1,h2,h3,h4,h5⟩:=h.fw f hf;show (aY f.name&&(aY f.own&&(bg 3 (sTh f.parts)&&eg de (.t (f.rules.map bQ)))))=true;rw [h1,h2,kq h3 h4,oJ λr hr=>?_]
 ·rfl
 ·exact h5 r hr
theorem ShX.shape {b:BkX} (h:ShX b):cJ (cO b)=true:=by
 show (dL (.i b.wheel)&&(dg 1 4 (.t (b.sorts.map cW))&&(dg 1 10 (.t (b.forms.map bH))&&(eg cP (.t (b.sorts.map cW))&&eg cR (.t (b.forms.map bH))))))=true;have h1:=h.s1;have h2:=h.s4;have h3:=h.f1;have h4:=h.f10;rw [h.wh,sQ (by lia) (by lia),sQ (by lia) (by lia),oJ λs hs=>h.sort hs,oJ λf hf=>h.form hf];rfl
def vY:Sp:=λvs H Q _=> ∃ v b,vs=[v]/\RepT H (cO b) v/\ShX b/\ ∀ H',Same H H'->Q (.bl (ck b)) H'
theorem wu:av ["words"] ["words"] (ah nE):=fsc
theorem uL (F:Fun K "are_unlike" "are_unlike" nE f fd) (G:Gb mg) (hset:mg "set"=none):aX P w K mg base CX0 1 f fd ["words"] (kG K):=by
 refine F.okz wu λcdv A outer s H vs Q E hr h=>?_;obtain ⟨a,ws,rfl,ha,hl,q⟩:=h;refine ⟨_,ai (aw (cj bJ (uH rfl rfl G.len rfl hset (pv 0)) (ao (r:=bU K) au rfl G.len DV (aa (pv 0) ac)) (aJ _))),?_⟩;have hsq:SqL K H a (ws.map V.str)\/SqT K H a (ws.map V.str):=ha.imp SqL.of SqT.of;refine ⟨_,rfl,a,ws,rfl,hsq,hl,_,rfl,a,_,rfl,hsq,rfl,?_⟩;refine qb q ?_;rw [<- Bu,Dx,lq]
theorem prm {H:Hp} {α:Type} {g:α->Th}: ∀ {l:List α} {vs:List V},RepTs H (l.map g) vs->Paired (λa v=>RepT H (g a) v) l vs
 | [],_,h=>by cases h;exact .nil
 | _::_,_,h=>by cases h with | cons a b=>exact .cons a (prm b)
theorem jM {K:W.Frag} {α:Type} {fr:List Nat} {te:TE} {σ:St} {H:Hp} {Q:VK} {l:List α} {gT:α->Th} {a:Addr} {vs:List V} (g:α->Bool) (ha:H a=some (.tup vs)) (hl:l.length<=1000) (ht:RepTs H (l.map gT) vs)
  (hte: ∀ x v H1 (k:VK),x∈l->RepT H1 (gT x) v->Same H H1->(∀ H',Same H1 H'->k (.bl (g x)) H')->te (some v::bV fr σ) H1 k)
  (hd: ∀ p H',Same H H'->H' p=some (.lst ((l.map g).map V.bl))->Q (.ref p) H'):fb fr te σ (Itt K a) H Q:=by
 have hn:=ht.len;rw [Dx]at hn;refine dJ (by lia) (prm ht) (dY ha) (dX ha) (gh ha) (λ_ x v=>v=.bl (g x)) (λ_ h=>h) (λx v H1 k hx r s1 hk=>?_) (λp zs H1 hp s1 g1 hz=>?_)
 ·exact hte x v H1 k hx (r.mono s1) s1 λH' s'=>hk _ H' s' rfl
 ·have ez:zs=(l.map g).map V.bl:=by rw [dz hz,Es];rfl
  exact hd p H1 s1 (by rw [<- ez];exact g1)
theorem mz {K:W.Frag} {α:Type} {fr:List Nat} {te:TE} {σ:St} {H:Hp} {Q:VK} {l:List α} {gT:α->Th} {a:Addr} {vs:List V} (g:α->Str) (ha:H a=some (.tup vs)) (hl:l.length<=1000) (ht:RepTs H (l.map gT) vs)
  (hte: ∀ x v H1 (k:VK),x∈l->RepT H1 (gT x) v->Same H H1->(∀ H',Same H1 H'->k (.str (g x)) H')->te (some v::bV fr σ) H1 k)
  (hd: ∀ p H',Same H H'->H' p=some (.lst ((l.map g).map V.str))->Q (.ref p) H'):fb fr te σ (Itt K a) H Q:=by
 have hn:=ht.len;rw [Dx]at hn;refine dJ (by lia) (prm ht) (dY ha) (dX ha) (gh ha) (λ_ x v=>v=.str (g x)) (λ_ h=>h) (λx v H1 k hx r s1 hk=>?_) (λp zs H1 hp s1 g1 hz=>?_)
 ·exact hte x v H1 k hx (r.mono s1) s1 λH' s'=>hk _ H' s' rfl
 ·have ez:zs=(l.map g).map V.str:=by rw [dz hz,Es];rfl
  exact hd p H1 s1 (by rw [<- ez];exact g1)
def te3 (te:TE):TE:=λσ H k=>match σ with
 | some x::r=> ∃ T v1 v2 v3,x=.ref T/\H T=some (.tup [v1,v2,v3])/\te (some v1::some v2::some v3::r) H k
 | _=>False
theorem CJ {fr:List Nat} {te:TE} {σ:St} {J:It} {H1:Hp} {Q:VK} (h:fb fr (te3 te) σ J H1 Q):sD fr te σ J H1 Q:=h
theorem lH {b:BkX} {H:Hp} {v:V} {Q:VK} (h:RepT H (cO b) v) (q: ∀ a vs H',Same H H'->H' a=some (.tup vs)->b.sorts.length<=1000->RepTs H' (b.sorts.map cW) vs->Q (.ref a) H'):cI ["book"] fE [v] H Q E0:=
 ev1 rfl h oy λu H' s' r=>by
  obtain ⟨a,vs,rfl,e,l,ts⟩:=aT r;exact q a vs H' s' e (by rw [Dx]at l;exact l) ts
theorem jr {b:BkX} {H:Hp} {v:V} {Q:VK} (h:RepT H (cO b) v) (q: ∀ a vs H',Same H H'->H' a=some (.tup vs)->b.forms.length<=1000->RepTs H' (b.forms.map bH) vs->Q (.ref a) H'):cI ["book"] fG [v] H Q E0:=
 ev1 rfl h oA λu H' s' r=>by
  obtain ⟨a,vs,rfl,e,l,ts⟩:=aT r;exact q a vs H' s' e (by rw [Dx]at l;exact l) ts
theorem rW {fr:FrX} {H:Hp} {v:V} {Q:VK} (h:RepT H (bH fr) v) (q: ∀ H',Same H H'->Q (.str fr.own) H'):cI ["form"] gu [v] H Q E0:=
 ev1 rfl h ym λu H' s' r=>by rw [cB r];exact q H' s'
theorem ji {fr:FrX} {H:Hp} {v:V} {Q:VK} (h:RepT H (bH fr) v) (q: ∀ a H',Same H H'->H' a=some (.tup (fr.parts.map V.str))->fr.parts.length<=1000->Q (.ref a) H'):cI ["form"] dI [v] H Q E0:=
 ev1 rfl h tL λu H' s' r=>by
  obtain ⟨a,rfl,e,l⟩:=fR r;exact q a H' s' e l
theorem qf {fr:FrX} {H:Hp} {v:V} {Q:VK} (h:RepT H (bH fr) v) (q: ∀ a vs H',Same H H'->H' a=some (.tup vs)->fr.rules.length<=1000->RepTs H' (fr.rules.map bQ) vs->Q (.ref a) H'):cI ["form"] fF [v] H Q E0:=
 ev1 rfl h oz λu H' s' r=>by
  obtain ⟨a,vs,rfl,e,l,ts⟩:=aT r;exact q a vs H' s' e (by rw [Dx]at l;exact l) ts
theorem xX {K:W.Frag} {fr:List Nat} {te:TE} {σ:St} {H:Hp} {Q:VK} {ws:List Str} {a:Addr} (g:Str->Bool) (ha:H a=some (.tup (ws.map V.str))) (hl:ws.length<=1000)
  (hte: ∀ x H1 (k:VK),x∈ws->Same H H1->(∀ H',Same H1 H'->k (.bl (g x)) H')->te (some (.str x)::bV fr σ) H1 k)
  (hd: ∀ p H',Same H H'->H' p=some (.lst ((ws.map g).map V.bl))->Q (.ref p) H'):fb fr te σ (Itt K a) H Q:=by
 have hP: ∀ ws:List Str,Paired (λ(x:Str) (v:V)=>v=.str x) ws (ws.map V.str):=λws=>by
  induction ws with
  | nil=>exact .nil
  | cons x r ih=>exact .cons rfl ih
 refine dJ (by rw [Dx];exact hl) (hP ws) (dY ha) (dX ha) (gh ha) (λ_ x v=>v=.bl (g x)) (λ_ h=>h) (λx v H1 k hx r s1 hk=>?_) (λp zs H1 hp s1 g1 hz=>?_)
 ·subst r;exact hte x H1 k hx s1 λH' s'=>hk _ H' s' rfl
 ·have ez:zs=(ws.map g).map V.bl:=by rw [dz hz,Es];rfl
  exact hd p H1 s1 (by rw [<- ez];exact g1)
abbrev NHn:List Str:=["book","names","form"]
theorem scHasNames:av NHn ["book"] (ah dy):=fsc
theorem pM (F:Fun K "has_names" "has_names" dy f fd) (G:Gb mg)
  (GU:Cl P w K mg base CX0 1 f2 fd2 ["words"] (kG K) "are_unlike")
  (GS:Cl P w K mg base CX0 1 f3 fd3 ["book"] (cI ["book"] fE) "sorts_of")
  (GF:Cl P w K mg base CX0 1 f4 fd4 ["book"] (cI ["book"] fG) "forms_of")
  (GO:Cl P w K mg base CX0 1 f5 fd5 ["form"] (cI ["form"] gu) "sort_of_form")
  (GP:Cl P w K mg base CX0 1 f6 fd6 ["form"] (cI ["form"] dI) "parts_of"):
  aX P w K mg base CX0 2 f fd ["book"] vY:=by
 refine F.okz scHasNames λcdv A outer s H vs Q E hr h=>?_;obtain ⟨bv,b,rfl,hx,hsh,q⟩:=h;refine ⟨_,ad (cY (i:=1) scHasNames.nd rfl (Or.inr rfl) (bX (sc0:=ah dy) (N0:=NHn) (ys:=[]) (fr:=[]) rfl (bB (pcl GS hr (aa (pv 0) ac))) rfl rfl
    csc (λC s H ex=>ax (r:=bc K) aH (pv 0) ag (λ_ _=>rfl))))
  (ad (aS (PW.pt (dR (a9 (aZ (pcl GU hr (aa (pv 1) ac))))
   (cX (a9 (aZ (pcl GU hr (aa (bX (sc0:=ah dy) (N0:=NHn) (ys:=[]) (fr:=[]) rfl (bB (pcl GF hr (aa (pv 0) ac))) rfl rfl
    csc (λC s H ex=>ax (r:=bc K) aH (pv 0) ag (λ_ _=>rfl))) ac))))))) (ai (aw cx)) aE)
  (ad (aS (a9 (aZ (ao (cT rfl) rfl G.all (by decide +kernel) (aa (w8 (sc0:=ah dy) (N0:=NHn) (ys:=[]) (fr:=[]) rfl (bB (pcl GS hr (aa (pv 0) ac))) rfl rfl
    ⟨rfl,by decide +kernel,by decide +kernel,by decide +kernel,by decide +kernel,by decide +kernel,by decide +kernel,by decide +kernel,rfl,by decide +kernel⟩
    (λC s H ex=>pcl GU hr (aa (aF (r:=iE K) fA (pv 1) (pv 2)) ac))) ac)))) (ai (aw cx)) aE)
  (ad (cC Ep rfl (bB (pcl GF hr (aa (pv 0) ac))) (pgz 2 scHasNames.nd)
   (ai (aS (PW.pt (dR (aG (r:=rIn K true) fY (pcl GO hr (aa (pv 2) ac)) (pv 1) (by with_unfolding_all rfl))
    (cX (a9 (aZ (ao (cT rfl) rfl G.all (by decide +kernel) (aa (bX (sc0:=ah dy) (N0:=NHn) (ys:=["names"]) (fr:=[1]) rfl (bB (pcl GP hr (aa (pv 2) ac))) rfl rfl
     csc (λC s H ex=>cj (r:=rIn K false) jG (pv 0) (pv 1) (by with_unfolding_all rfl))) ac)))))))
    (ai (aw cx)) aE)))
  (ai (aw cx))))),?_⟩
 have e0:ck b=(decide (b.sorts.map Srt.name).Nodup&&(decide (b.forms.map FrX.name).Nodup&&(b.sorts.all (λs=>decide (s.downs++s.ups).Nodup)&&b.forms.all (bA (b.sorts.map Srt.name))))):=rfl;refine ⟨_,rfl,lH hx λsa sv H1 s1 es ls ts=>⟨sa,rfl,⟨_,SqT.of es⟩,?_⟩⟩;refine mz Srt.name es ls ts (λsr v H2 k _ r s2 hk=>?_) λnl H2 s2 gn=>?_
 ·obtain ⟨a,us,rfl,e,_,t⟩:=aT r;obtain ⟨x,y,z,rfl,rx,_⟩:=eR t;rw [cB rx]at e;exact ⟨_,rfl,a,_,0,_,rfl,rfl,SqT.of e,du,hk H2 (Same.refl H2)⟩
 have S2:=s1.trans s2;refine ⟨_,rfl,nl,b.sorts.map Srt.name,rfl,.inl gn,by rw [Dx];exact ls,_,rfl,?_⟩;cases c1:decide (b.sorts.map Srt.name).Nodup with
 | false=>exact bE (bE (qb (q H2 S2) (by rw [e0,c1,DN])))
 | true=>
 refine bx ⟨_,rfl,jr (hx.mono S2) λfa fv H3 s3 ef lf tf=>⟨fa,rfl,⟨_,SqT.of ef⟩,?_⟩⟩;refine mz FrX.name ef lf tf (λfr v H4 k _ r s4 hk=>?_) λfl H4 s4 gf=>?_
 ·obtain ⟨a,us,rfl,e,_,t⟩:=aT r;obtain ⟨x,y,z,u,rfl,rx,_⟩:=re t;rw [cB rx]at e;exact ⟨_,rfl,a,_,0,_,rfl,rfl,SqT.of e,du,hk H4 (Same.refl H4)⟩
 have S4:=(S2.trans s3).trans s4;refine ⟨fl,b.forms.map FrX.name,rfl,.inl gf,by rw [Dx];exact lf,_,rfl,?_⟩;cases c2:decide (b.forms.map FrX.name).Nodup with
 | false=>exact bE (qb (q H4 S4) (by rw [e0,c1,c2,Ec,DN]))
 | true=>
 refine bx ⟨_,rfl,lH (hx.mono S4) λsa sv H5 s5 es ls ts=>⟨sa,rfl,⟨_,SqT.of es⟩,?_⟩⟩;have S5:=S4.trans s5;refine CJ (jM (λs=>decide (s.downs++s.ups).Nodup) es ls ts (λsr v H6 k hsr r s6 hk=>?_) λpl H6 s6 g6=>?_)
 ·obtain ⟨a,us,rfl,e,_,t⟩:=aT r;obtain ⟨x,y,z,rfl,rx,ry,rz⟩:=eR t;rw [cB rx]at e;obtain ⟨d,rfl,ed,ld⟩:=fR ry;obtain ⟨u,rfl,eu,lu⟩:=fR rz;obtain ⟨_,_,l1,l2⟩:=hsh.sw sr hsr;have hw: ∀ H' (x:Addr),Same H6 H'->H' x=some (.tup ((sr.downs++sr.ups).map V.str))->kG K [.ref x] H' k E0:=λH' x s' hx'=>
   ⟨x,_,rfl,.inr hx',by rw [DA];lia,hk H' s'⟩
  refine ⟨a,_,_,_,rfl,e,_,rfl,_,rfl,d,u,_,_,rfl,rfl,SqT.of ed,SqT.of eu,a6 (by rw [Dx,Dx];lia),λz=>?_,λz1 z2=>?_,λ_ _ p hp=>?_⟩
  ·refine hw H6 u (Same.refl H6) ?_;rw [Ef,z,Ft];exact eu
  ·refine hw H6 d (Same.refl H6) ?_;rw [Ef,z2,En];exact ed
  ·refine hw _ p (am hp _) ?_;rw [Ef];exact ae
 refine ⟨pl,_,rfl,SqL.of g6,_,rfl,?_⟩;rw [gv];have S6:=S5.trans s6;cases c3:b.sorts.all (λs=>decide (s.downs++s.ups).Nodup)with
 | false=>exact bE (qb (q H6 S6) (by rw [e0,c1,c2,c3,Ec,Ec,DN]))
 | true=>
 have e0:ck b=b.forms.all (bA (b.sorts.map Srt.name)):=by rw [e0,c1,c2,c3,Ec,Ec,Ec]
 have gn6:H6 nl=some (.lst ((b.sorts.map Srt.name).map V.str)):=s6 _ _ (s5 _ _ (s4 _ _ (s3 _ _ gn)));refine bx ⟨_,rfl,jr (hx.mono S6) λfa fv H7 s7 ef lf tf=>⟨fa,rfl,⟨_,SqT.of ef⟩,?_⟩⟩;have S7:=S6.trans s7;have hP:=prm tf;refine jk (xs:=fv) (λi σ H'=>(b.forms.take i).all (bA (b.sorts.map Srt.name))=true/\ ∃ o2,σ=[some bv,some (.ref nl),o2]/\Same H7 H') ⟨rfl,none,rfl,Same.refl _⟩ (λi σ H' _ ⟨_,_,_,s'⟩=>SqT.of (s' _ _ ef)) ?_ ?_
 ·rintro i x σ H8 hxi ⟨hall,o2,rfl,s8⟩;obtain ⟨fr,hfr,hRf⟩:=bj hP hxi;have hRf:=hRf.mono s8;have S8:=S7.trans s8;have etk:(b.forms.take (i+1)).all (bA (b.sorts.map Srt.name))=bA (b.sorts.map Srt.name) fr:=by
   rw [EB,hfr,FK,hall];simp
  have hno:bA (b.sorts.map Srt.name) fr=false->ck b=false:=λc=>by
   rw [e0,F5];exact ⟨fr,DC hfr,by rw [c];exact DM⟩
  have ef:bA (b.sorts.map Srt.name) fr=(decide (fr.own∈b.sorts.map Srt.name)&&fr.parts.all λp=>decide (p∈b.sorts.map Srt.name)):=rfl;refine ⟨_,rfl,rW hRf λH9 s9=>⟨_,rfl,nl,_,rfl,.inl (SqL.of (s9 _ _ (s8 _ _ (s7 _ _ gn6)))),rfl,ip _,_,rfl,?_⟩⟩;have S9:=S8.trans s9;rw [fC];cases c4:decide (fr.own∈b.sorts.map Srt.name)with
  | false=>exact bE (bE (qb (q H9 S9) (hno (by rw [ef,c4,DN]))))
  | true=>
  refine bx ⟨_,rfl,ji (hRf.mono s9) λpa H10 s10 ep lp=>⟨pa,rfl,⟨_,SqT.of ep⟩,?_⟩⟩;refine xX (λp=>decide (p∈b.sorts.map Srt.name)) ep lp (λx H11 k _ s11 hk=>?_) λpl H11 s11 g11=>?_
  ·refine ⟨_,rfl,_,rfl,nl,_,rfl,.inl (SqL.of (s11 _ _ (s10 _ _ (s9 _ _ (s8 _ _ (s7 _ _ gn6)))))),rfl,ip _,?_⟩;refine (show k (.bl (inV (.str x) ((b.sorts.map Srt.name).map V.str))) H11 from ?_);rw [fC];exact hk H11 (Same.refl H11)
  ·refine ⟨pl,_,rfl,SqL.of g11,_,rfl,?_⟩;rw [gv];have S11:=(S9.trans s10).trans s11;cases c5:fr.parts.all (λp=>decide (p∈b.sorts.map Srt.name))with
   | false=>exact bE (qb (q H11 S11) (hno (by rw [ef,c4,c5,Ec])))
   | true=>exact bx ⟨by rw [etk,ef,c4,c5,Ec],_,rfl,((s8.trans s9).trans s10).trans s11⟩
 ·rintro σ H8 ⟨hall,o2,rfl,s8⟩;have:=hP.length;rw [EL (by lia)]at hall;exact qb (q H8 (S7.trans s8)) (by rw [e0,hall])
theorem xU {α:Type} {l:List α} (nd:l.Nodup) {i j:Nat} {a:α} (h1:l[i]? =some a) (h2:l[j]? =some a):i=j:=
 (Il (DH.mp h1).1 nd).mp (h1.trans h2.symm)
theorem lV {k:Int}: ∀ {qs:List Srt},(∀ q∈qs,q.downs.length<=3)->(bY k qs).length<=3*qs.length
 | [],_=>DI _
 | q::r,h=>by
  have h1:=lV (k:=k+1) (qs:=r) λx hx=>h x (DZ _ hx);have h2:=h q DW;show (q.downs.map (λx=>(k,x))++bY (k+1) r).length<=_;rw [DA,Dx,DJ];lia
noncomputable def fi (t:Int×Str):List Key:=[.inl t.1,.inr t.2]
theorem oQ {a b:Int×Str} (h:fi a=fi b):a=b:=by
 obtain ⟨a1,a2⟩:=a;obtain ⟨b1,b2⟩:=b;injection h with h1 h2
 injection h2 with h2 _
 rw [show a1=b1 from Sum.inl.inj h1,show a2=b2 from IH h2]
noncomputable def cH (f:FrX):List (Int×Str):=f.rules.map λr=>(r.1,r.2.1)
noncomputable def a0 (b:BkX) (nm:Str):Srt:=(b.sorts.find? λs=>decide (s.name=nm)).getD ⟨nm,[],[]⟩
noncomputable def ka (b:BkX) (f:FrX):List (Int×Str):=cA (a0 b f.own) (f.parts.map (a0 b))
theorem dw {b:BkX} {nm:Str} (h:nm∈b.sorts.map Srt.name):a0 b nm∈b.sorts/\(a0 b nm).name=nm:=by
 obtain ⟨s,hs,e⟩:=DY.mp h;unfold a0;cases hf:b.sorts.find? λs=>decide (s.name=nm)with
 | none=>exact absurd (DB e) (List.find?_eq_none.mp hf s hs)
 | some x=>exact ⟨List.mem_of_find?_eq_some hf,DT (List.find?_some (p:=λs=>decide (Srt.name s=nm)) hf)⟩
theorem pR {l:List Srt} (nd:(l.map Srt.name).Nodup) {s t:Srt} (hs:s∈l) (ht:t∈l) (e:s.name=t.name):s=t:=by
 obtain ⟨i,hi⟩:=Fd hs;obtain ⟨j,hj⟩:=Fd ht;have:i=j:=xU nd (a:=s.name) (by rw [DP,hi];rfl) (by rw [DP,hj,e];rfl);subst this;rw [hi]at hj;cases hj;rfl
def BkAt (H:Hp) (b:BkX) (v:V):Prop:=RepT H (cO b) v/\ShX b/\(b.sorts.map Srt.name).Nodup
theorem BkAt.mono {H H':Hp} (s:Same H H') {b:BkX} {v:V} (h:BkAt H b v):BkAt H' b v:=⟨h.1.mono s,h.2⟩
def nj:Sp:=λvs H Q _=> ∃ bv b nm,vs=[bv,.str nm]/\BkAt H b bv/\nm∈b.sorts.map Srt.name/\ ∀ v H',Same H H'->RepT H' (cW (a0 b nm)) v->Q v H'
def jQ (g:Srt->List Str):Sp:=λvs H Q _=> ∃ bv b nm,vs=[bv,.str nm]/\BkAt H b bv/\nm∈b.sorts.map Srt.name/\ ∀ a H',Same H H'->H' a=some (.tup ((g (a0 b nm)).map V.str))->Q (.ref a) H'
def oX:Sp:=λvs H Q _=> ∃ v f,vs=[v]/\RepT H (bH f) v/\ ∀ p zs H',Same H H'->H' p=some (.lst zs)->KsOf H' zs ((cH f).map fi)->Q (.ref p) H'
def wg:Sp:=λvs H Q _=> ∃ bv b v f,vs=[bv,v]/\BkAt H b bv/\RepT H (bH f) v/\f∈b.forms/\bA (b.sorts.map Srt.name) f=true/\ ∀ p zs H',Same H H'->H' p=some (.lst zs)->KsOf H' zs ((ka b f).map fi)->Q (.ref p) H'
theorem rL (x y z:V): ¬ (HT.sIx [x,y,z].length 0 none=0/\HT.sIx [x,y,z].length [x,y,z].length (some 2)=[x,y,z].length):=by
 rintro ⟨_,h⟩;have h2:HT.sIx 3 3 (some 2)=3:=h;exact absurd h2 (by decide)
theorem Dm (x y z:V):eQ [x,y,z] none (some 2)=[x,y]:=rfl
theorem fZ {H:Hp} {α:Type} {g:α->List Key}: ∀ {l:List α} {zs:List V},Paired (λ(x:α) v=> ∃ b,v=.ref b/\H b=some (.tup ((g x).map kV))) l zs->KsOf H zs (l.map g)
 | _,_,.nil=>.nil
 | _,_,.cons a t=>.cons a (fZ t)
theorem Ck {H:Hp} {xs ys:List V} {a b:List (List Key)} (h:KsOf H xs a) (g:KsOf H ys b):KsOf H (xs++ys) (a++b):=by
 induction h with
 | nil=>exact g
 | cons x _ ih=>exact .cons x ih
theorem xS {H:Hp} {xs:List V} {a:List (List Key)} (h:KsOf H xs a):xs.length=a.length:=Ev h
theorem frN {b:BkX} {f:FrX} (h:bA (b.sorts.map Srt.name) f=true):f.own∈b.sorts.map Srt.name/\ ∀ p∈f.parts,p∈b.sorts.map Srt.name:=by
 have h:(decide (f.own∈b.sorts.map Srt.name)&&f.parts.all λp=>decide (p∈b.sorts.map Srt.name))=true:=h;rw [Ek,FI,Ed]at h;exact ⟨h.1,λp hp=>DT (h.2 p hp)⟩
theorem mY: ∀ ws:List Str,Paired (λ(x:Str) (v:V)=>v=.str x) ws (ws.map V.str)
 | []=>.nil
 | _::r=>.cons rfl (mY r)
theorem pj:av ["book","name"] ["book","name"] (ah fS):=fsc
theorem nZ (F:Fun K "sort_named" "sort_named" fS f fd)
  (GF:Cl P w K mg base CX0 1 f2 fd2 ["book"] (cI ["book"] fE) "sorts_of"):aX P w K mg base CX0 2 f fd ["book","name"] nj:=by
 refine F.okz pj λcdv A outer s H vs Q E hr h=>?_;obtain ⟨bv,b,nm,rfl,⟨hB,hsh,nd⟩,hn,q⟩:=h;refine ⟨_,ai (aw (ax (r:=bO K) aL (kP (sc0:=ah fS) (N0:=["book","name"]) (ys:=["name"]) (fr:=[1]) rfl
   (bB (pcl GF hr (aa (pv 0) ac))) rfl rfl
   csc
   (λC s H ex=>aG bJ (ax (r:=bc K) aH (pv 0) ag (λ_ _=>rfl)) (pv 1) (aJ _))
   (λC s H ex=>pv 0)) ag (λ_ _=>rfl))),?_⟩
 refine ⟨_,rfl,lH hB λsa sv H1 s1 es ls ts=>⟨sa,rfl,⟨_,SqT.of es⟩,?_⟩⟩;have hn1:=ts.len;rw [Dx]at hn1;refine oB (by lia) (prm ts) (dY es) (dX es) (λi H v H' s _=>gh es i H v H' s) (λs=>decide (Srt.name s=nm)) (λ_ s v=>RepT H1 (cW s) v) (λ_ h=>h) ?_ ?_ ?_
 ·rintro sr v H2 k _ r s2 hk;obtain ⟨a,us,rfl,e,_,t⟩:=aT r;obtain ⟨x,y,z,rfl,rx,_⟩:=eR t;rw [cB rx]at e;refine ⟨_,rfl,a,_,0,.str sr.name,rfl,rfl,SqT.of (s2 _ _ e),du,_,rfl,rfl,_,rfl,?_⟩;rw [show decide (V.str sr.name=V.str nm)=decide (sr.name=nm)from Iy.mpr ⟨λe=>V.str.inj e,λe=>by rw [e]⟩];exact hk H2 (Same.refl H2)
 ·rintro sr v H2 k _ r _ s2 hk;exact ⟨_,rfl,hk _ _ (Same.refl H2) r⟩
 ·intro p zs H2 hp s2 gp hz;obtain ⟨hm,he⟩:=dw hn;have hm':a0 b nm∈b.sorts.filter λs=>decide (Srt.name s=nm):=Fp.mpr ⟨hm,DB he⟩;cases hfl:b.sorts.filter λs=>decide (Srt.name s=nm)with
  | nil=>rw [hfl]at hm';cases hm'
  | cons x r=>
   rw [hfl]at hz;cases hz with
   | @cons _ z _ zr hx _=>
    have hxm:x∈b.sorts.filter λs=>decide (Srt.name s=nm):=by rw [hfl];exact DW
    have e:x=a0 b nm:=pR nd (Fp.mp hxm).1 hm (by rw [DT (Fp.mp hxm).2,he]);rw [e]at hx;exact ⟨p,_,0,z,rfl,rfl,SqL.of gp,du,q z H2 (s1.trans s2) (hx.mono s2)⟩
theorem y9:av ["book","sort"] ["book","sort"] (ah qX):=fsc
theorem xz (F:Fun K "downs_of" "downs_of" qX f fd)
  (GF:Cl P w K mg base CX0 2 f2 fd2 ["book","name"] nj "sort_named"):aX P w K mg base CX0 3 f fd ["book","sort"] (jQ Srt.downs):=by
 refine F.okz y9 λcdv A outer s H vs Q E hr h=>?_;obtain ⟨bv,b,nm,rfl,hB,hn,q⟩:=h;refine ⟨_,ai (aw (ax (r:=bc K) aH (pcl GF hr (aa (pv 0) (aa (pv 1) ac))) ag (λ_ _=>rfl))),?_⟩;refine ⟨_,rfl,_,rfl,bv,b,nm,rfl,hB,hn,λv H1 s1 r=>?_⟩;obtain ⟨a,us,rfl,e,_,t⟩:=aT r;obtain ⟨x,y,z,rfl,_,ry,_⟩:=eR t;obtain ⟨d,rfl,ed,_⟩:=fR ry;exact ⟨a,_,1,_,rfl,rfl,SqT.of e,aM (j:=1) rfl,q d H1 s1 ed⟩
theorem B2:av ["book","sort"] ["book","sort"] (ah A2):=fsc
theorem Be (F:Fun K "ups_of" "ups_of" A2 f fd)
  (GF:Cl P w K mg base CX0 2 f2 fd2 ["book","name"] nj "sort_named"):aX P w K mg base CX0 3 f fd ["book","sort"] (jQ Srt.ups):=by
 refine F.okz B2 λcdv A outer s H vs Q E hr h=>?_;obtain ⟨bv,b,nm,rfl,hB,hn,q⟩:=h;refine ⟨_,ai (aw (ax (r:=bc K) aH (pcl GF hr (aa (pv 0) (aa (pv 1) ac))) ag (λ_ _=>rfl))),?_⟩;refine ⟨_,rfl,_,rfl,bv,b,nm,rfl,hB,hn,λv H1 s1 r=>?_⟩;obtain ⟨a,us,rfl,e,_,t⟩:=aT r;obtain ⟨x,y,z,rfl,_,_,rz⟩:=eR t;obtain ⟨d,rfl,ed,_⟩:=fR rz;exact ⟨a,_,2,_,rfl,rfl,SqT.of e,aM (j:=2) rfl,q d H1 s1 ed⟩
theorem qM:av ["book","sort"] ["book","sort"] (ah jC):=fsc
theorem pH (F:Fun K "worths_of_sort" "worths_of_sort" jC f fd)
  (GD:Cl P w K mg base CX0 3 f2 fd2 ["book","sort"] (jQ Srt.downs) "downs_of")
  (GU:Cl P w K mg base CX0 3 f3 fd3 ["book","sort"] (jQ Srt.ups) "ups_of"):
  aX P w K mg base CX0 4 f fd ["book","sort"] (jQ λs=>s.downs++s.ups):=by
 refine F.okz qM λcdv A outer s H vs Q E hr h=>?_;obtain ⟨bv,b,nm,rfl,hB,hn,q⟩:=h;refine ⟨_,ai (aw (aF fA (pcl GD hr (aa (pv 0) (aa (pv 1) ac))) (pcl GU hr (aa (pv 0) (aa (pv 1) ac))))),?_⟩;refine ⟨_,rfl,_,rfl,bv,b,nm,rfl,hB,hn,λd H1 s1 hd=>?_⟩;refine ⟨_,rfl,_,rfl,bv,b,nm,rfl,hB.mono s1,hn,λc H2 s2 hc=>?_⟩;obtain ⟨_,_,d1,d2⟩:=hB.2.1.sw _ (dw hn).1;have hd2:=s2 _ _ hd;have S2:=s1.trans s2;refine ⟨d,c,_,_,rfl,rfl,SqT.of hd2,SqT.of hc,a6 (by rw [Dx,Dx];lia),λe=>?_,λe1 e2=>?_,λ_ _ p hp=>?_⟩
 ·exact q c H2 S2 (by rw [Ef,e,Ft];exact hc)
 ·exact q d H2 S2 (by rw [Ef,e2,En];exact hd2)
 ·exact q p _ (S2.trans (am hp _)) (by rw [Ef];exact ae)
theorem ww:av ["form"] ["form"] (ah kj):=fsc
theorem uR (F:Fun K "keys_of" "keys_of" kj f fd)
  (GU:Cl P w K mg base CX0 1 f2 fd2 ["form"] (cI ["form"] fF) "rules_of"):
  aX P w K mg base CX0 2 f fd ["form"] oX:=by
 refine F.okz ww λcdv A outer s H vs Q E hr h=>?_;obtain ⟨v,fr,rfl,hF,q⟩:=h;refine ⟨_,ai (aw (bX (sc0:=ah kj) (N0:=["form"]) (ys:=[]) (fr:=[]) rfl (bB (pcl GU hr (aa (pv 0) ac))) rfl rfl
   csc (λC s H ex=>bw (r:=A7 K) qL (pv 0) cg (bI ag)))),?_⟩
 refine ⟨_,rfl,qf hF λra rv H1 s1 er lr ts=>⟨ra,rfl,⟨_,SqT.of er⟩,?_⟩⟩;have hn1:=ts.len;rw [Dx]at hn1;refine dJ (by lia) (prm ts) (dY er) (dX er) (gh er) (λH r v=> ∃ b,v=.ref b/\H b=some (.tup ((fi (r.1,r.2.1)).map kV))) (λt ⟨b,e,h⟩=>⟨b,e,t _ _ h⟩) ?_ ?_
 ·rintro r v H2 k hr' hR s2 hk;obtain ⟨a,us,rfl,e,_,t⟩:=aT hR;obtain ⟨x,y,z,rfl,rx,ry,_⟩:=eR t;rw [cB ry,show x=.int r.1 by cases rx;rfl]at e;refine ⟨_,rfl,2,rfl,a,_,rfl,SqT.of (s2 _ _ e),rL _ _ _,λp hp=>?_⟩;rw [Dm];exact hk _ _ (am hp _) ⟨p,rfl,ae⟩
 intro p zs H2 hp s2 g2 hz;refine q p zs H2 (s1.trans s2) g2 ?_;unfold cH;rw [Es];exact fZ hz
abbrev BL:List Str:=["book","form","due","k","part"]
theorem scDueKeys:av BL ["book","form"] (ah gK):=fsc
theorem rJ (F:Fun K "due_keys" "due_keys" gK f fd) (hen:mg "enumerate"=none)
  (GD:Cl P w K mg base CX0 3 f2 fd2 ["book","sort"] (jQ Srt.downs) "downs_of")
  (GU:Cl P w K mg base CX0 3 f3 fd3 ["book","sort"] (jQ Srt.ups) "ups_of")
  (GO:Cl P w K mg base CX0 1 f5 fd5 ["form"] (cI ["form"] gu) "sort_of_form")
  (GP:Cl P w K mg base CX0 1 f6 fd6 ["form"] (cI ["form"] dI) "parts_of"):
  aX P w K mg base CX0 4 f fd ["book","form"] wg:=by
 refine F.okz scDueKeys λcdv A outer s H vs Q E hr h=>?_;obtain ⟨bv,b,v,fr,rfl,hB,hF,hfr,hfn,q⟩:=h;have hr1:=hr.mono (show 1<=3 by decide);obtain ⟨ho,hps⟩:=frN hfn;obtain ⟨_,_,_,lp3,_⟩:=hB.2.1.fw fr hfr;have hsw: ∀ nm,nm∈b.sorts.map Srt.name->(a0 b nm).downs.length<=3/\(a0 b nm).ups.length<=3:=λnm hn=>(hB.2.1.sw _ (dw hn).1).2.2;refine ⟨_,ad (fW (i:=2) (sc0:=ah gK) (N0:=BL) (ys:=[]) (fr:=[]) rfl scDueKeys.nd rfl (Or.inl rfl) (bB (pcl GU hr (aa (pv 0) (aa (pcl GO hr1 (aa (pv 1) ac)) ac)))) rfl rfl
    csc (λC s H ex=>aU (aa (gN eE ag) (aa (pv 0) ac))))
  (ad (cC Ep rfl (zj rfl hen (aa (pcl GP hr1 (aa (pv 1) ac)) ac))
    (cL rfl (aA (dD (i:=3) scDueKeys.nd rfl (Or.inr rfl)) (aA (pgz 4 scDueKeys.nd) bW)))
   (ai (bP (dS Ee EY EZ fB (pv 2) (aa
    (bX (sc0:=ah gK) (N0:=BL) (ys:=["k"]) (fr:=[3]) rfl (bB (pcl GD hr (aa (pv 0) (aa (pv 4) ac)))) rfl rfl
     csc (λC s H ex=>aU (aa (pv 1) (aa (pv 0) ac)))) ac)))))
  (ai (aw (pv 2)))),?_⟩
 refine ⟨_,rfl,_,rfl,rW hF λH0 s0=>⟨bv,b,_,rfl,hB.mono s0,ho,λub H1 s1' hub=>?_⟩⟩;have s1:=s0.trans s1';have hl1:((a0 b fr.own).ups.map V.str).length=(a0 b fr.own).ups.length:=Dx _;obtain ⟨d1,d2⟩:=hsw _ ho;refine ⟨ub,rfl,⟨_,SqT.of hub⟩,?_⟩;refine dJ (by lia) (mY (a0 b fr.own).ups) (dY hub) (dX hub) (gh hub) (λH x v=> ∃ b,v=.ref b/\H b=some (.tup ((fi (-1,x)).map kV))) (λt ⟨b,e,h⟩=>⟨b,e,t _ _ h⟩) ?_ ?_
 ·rintro x v' H2 k hx rfl s2 hk;exact ⟨1,rfl,_,rfl,gH,λp hp=>hk _ _ (am hp _) ⟨p,rfl,ae⟩⟩
 intro d zs H2 hd s2 g2 hz;have hdH:H d=none:=s1.free hd;have S2:=s1.trans s2;have hk2:KsOf H2 zs ((cA (a0 b fr.own) []).map fi):=by
  have:=fZ (g:=λx=>fi (-1,x)) hz;unfold cA bY;rw [En,Es];exact this
 refine ⟨_,rfl,ji (hF.mono S2) λpb H3 s3 hpb lpb=>⟨pb,_,rfl,hpb,?_⟩⟩;have hpl:(fr.parts.map V.str).length=fr.parts.length:=Dx _;refine yk (xs:=fr.parts.map V.str) (λi σ H'=> ∃ o3 o4 zs,σ=[some bv,some v,some (.ref d),o3,o4]/\Same H H'/\H' pb=some (.tup (fr.parts.map V.str))/\H' d=some (.lst zs)/\KsOf H' zs ((cA (a0 b fr.own) ((fr.parts.take i).map (a0 b))).map fi))
  ⟨none,none,zs,rfl,S2.trans s3,hpb,s3 _ _ g2,L2.KsOf.mono hk2 λb xs h=>s3 _ _ h⟩ (λi σ H' _ ⟨_,_,_,_,_,h,_⟩=>h) ?_ ?_
 ·rintro i x T σ H3 hx hT ⟨o3',o4',zs,rfl,S3,gp3,gd3,hk3⟩;rw [DP]at hx;obtain ⟨pn,hqq,rfl⟩:=Ez.mp hx;have hqm:=hps pn (DC hqq);obtain ⟨H4,eW,s4,g4⟩:=nw hT (.tup [.int (i:Int),.str pn]);rw [eW];have S4:=S3.trans s4;refine ⟨T,_,rfl,SqT.of g4,rfl,_,_,rfl,_,_,rfl,rfl,?_⟩;refine ⟨_,rfl,.inl ⟨rfl,_,SqL.of (s4 _ _ gd3)⟩,_,rfl,_,rfl,bv,b,_,rfl,hB.mono S4,hqm,λdb H5 s5 hdb=>?_⟩;obtain ⟨e1,e2⟩:=hsw _ hqm;have hl5:((a0 b pn).downs.map V.str).length=(a0 b pn).downs.length:=Dx _;refine ⟨db,rfl,⟨_,SqT.of hdb⟩,?_⟩;refine dJ (by lia) (mY (a0 b pn).downs) (dY hdb) (dX hdb) (gh hdb) (λH x v=> ∃ b,v=.ref b/\H b=some (.tup ((fi ((i:Int),x)).map kV))) (λt ⟨b,e,h⟩=>⟨b,e,t _ _ h⟩) ?_ ?_
  ·rintro x v' H6 k hx6 rfl s6 hk;exact ⟨_,rfl,_,rfl,gH,λp hp=>hk _ _ (am hp _) ⟨p,rfl,ae⟩⟩
  intro e ws H6 he s6 g6 hw;have s36:=s4.trans (s5.trans s6);have gd6:=s36 _ _ gd3;have hkw:KsOf H6 ws (((a0 b pn).downs.map λx=>((i:Int),x)).map fi):=by
   have:=fZ (g:=λx=>fi ((i:Int),x)) hw;rw [Es];exact this
  have hk6:=L2.KsOf.mono hk3 λb xs h=>s36 _ _ h;have lz:=xS hk3;have lw:=xS hkw;have ltg:=lV (k:=0) (qs:=(fr.parts.take i).map (a0 b)) λs hs=>by
   obtain ⟨y,hy,rfl⟩:=DY.mp hs;exact (hsw y (hps y (Eu hy))).1
  have ltk:((fr.parts.take i).map (a0 b)).length<=fr.parts.length:=by rw [Dx,DX];lia
  rw [Dx,Dx]at lw;have ltt:(cA (a0 b fr.own) ((fr.parts.take i).map (a0 b))).length<=12:=by
   unfold cA;rw [DA,Dx];lia
  rw [Dx]at lz;refine ⟨d,e,zs,ws,rfl,rfl,gd6,g6,Eh (m:=1000) (by lia) (by decide),?_⟩;have tk:TK H6 (upd H6 d (.lst (zs++ws))):=λb xs h=>by rw [aj (λz=>by rw [z,gd6]at h;cases h)];exact h
  refine ⟨_,_,zs++ws,rfl,λb o h=>?_,tk _ _ (s36 _ _ gp3),ae,?_⟩
  ·rw [aj (al h hdH)];exact s36 _ _ (S3 _ _ h)
  ·have et:cA (a0 b fr.own) ((fr.parts.take (i+1)).map (a0 b))=cA (a0 b fr.own) ((fr.parts.take i).map (a0 b))++(a0 b pn).downs.map (λx=>((i:Int),x)):=by
    rw [EB,hqq,Ef];unfold cA;show _++bY 0 ((fr.parts.take i).map (a0 b)++[a0 b pn])=_;have hil:i<fr.parts.length:=(DH.mp hqq).1;rw [jN,<- Et,Dx,DX,Gi (EA hil),F2]
   rw [et,Ef];exact L2.KsOf.mono (Ck hk6 hkw) tk
 ·rintro σ H3 ⟨o3',o4',zs,rfl,S3,gp3,gd3,hk3⟩;rw [hpl,EX]at hk3;exact ⟨_,rfl,q d zs H3 S3 gd3 hk3⟩
noncomputable def Fm.rdk:Fm->List (List Key)
 | .num _=>[]
 | .own x=>[[.inr "own",.inr x]]
 | .part k x=>[[.inr "part",.inl k,.inr x]]
 | .bin _ a b=>a.rdk++b.rdk
 | .whn a b c=>a.rdk++(b.rdk++c.rdk)
noncomputable def fsz:List Fm->Nat
 | []=>0
 | f::r=>f.size+fsz r
noncomputable def nN:List Fm->List (List Key)
 | []=>[]
 | f::r=>f.rdk++nN r
theorem Tw.of {H:Hp}: ∀ (n:Nat) {fs:List Fm} {ws:List V},fsz fs=n->Paired (λf v=>Rep H f v/\f.wf) fs ws-> ∃ out,Tw H ws out (nN fs)/\out.length=n:=by
 intro n;induction n using Nat.strongRecOn with
 | _ n ih=>
  intro fs ws hn h;cases h with
  | nil=>exact ⟨[],.nil,hn⟩
  | @cons f v fs ws hf t=>
   obtain ⟨rp,wf⟩:=hf;have hn:f.size+fsz fs=n:=hn;cases f with
   | num i=>
    obtain ⟨a,rfl,ha⟩:=rp;have hn:1+fsz fs=n:=hn;obtain ⟨out,h1,h2⟩:=ih (fsz fs) (by lia) rfl t;exact ⟨_,.num ha (by simp) h1,by rw [DJ,h2];lia⟩
   | own x=>
    obtain ⟨a,rfl,ha⟩:=rp;have hn:1+fsz fs=n:=hn;obtain ⟨out,h1,h2⟩:=ih (fsz fs) (by lia) rfl t;exact ⟨_,.rd (ks:=[.inr "own",.inr x]) ha (.inl ⟨x,rfl,bf wf⟩) h1,by rw [DJ,h2];lia⟩
   | part k x=>
    obtain ⟨a,rfl,ha⟩:=rp;obtain ⟨w0,w1⟩:(0<=k/\k<=2)/\aY x=true:=wf;have hn:1+fsz fs=n:=hn;obtain ⟨out,h1,h2⟩:=ih (fsz fs) (by lia) rfl t;exact ⟨_,.rd (ks:=[.inr "part",.inl k,.inr x]) ha (.inr ⟨k,x,rfl,bf w1⟩) h1,by rw [DJ,h2];lia⟩
   | bin op A B=>
    obtain ⟨a,u,w,rfl,ha,r1,r2⟩:=rp;obtain ⟨ho,w1,w2⟩:op∈ops/\A.wf/\B.wf:=wf;have hn:A.size+B.size+1+fsz fs=n:=hn;obtain ⟨out,h1,h2⟩:=ih (A.size+ (B.size+fsz fs)) (by lia) (fs:=A::B::fs) rfl (.cons ⟨r1,w1⟩ (.cons ⟨r2,w2⟩ t));refine ⟨.ref a::out,?_,by rw [DJ,h2];lia⟩;rw [show nN (Fm.bin op A B::fs)=nN (A::B::fs)from Et _ _ _];exact .inn ha (by rw [jH ho];rfl) (jF ho) (by simp) h1
   | whn A B C=>
    obtain ⟨a,u,w,z,rfl,ha,r1,r2,r3⟩:=rp;obtain ⟨w1,w2,w3⟩:A.wf/\B.wf/\C.wf:=wf;have hn:A.size+B.size+C.size+1+fsz fs=n:=hn;obtain ⟨out,h1,h2⟩:=ih (A.size+ (B.size+ (C.size+fsz fs))) (by lia) (fs:=A::B::C::fs) rfl (.cons ⟨r1,w1⟩ (.cons ⟨r2,w2⟩ (.cons ⟨r3,w3⟩ t)));refine ⟨.ref a::out,?_,by rw [DJ,h2];lia⟩;rw [show nN (Fm.whn A B C::fs)=nN (A::B::C::fs)from by show (A.rdk++(B.rdk++C.rdk))++nN fs=A.rdk++(B.rdk++(C.rdk++nN fs));rw [Et,Et]];exact .inn ha (by rw [gi];rfl) (by decide +kernel) (by simp) h1
theorem Tw.of1 {H:Hp} {f:Fm} {v:V} (r:Rep H f v) (wf:f.wf): ∃ out,Tw H [v] out f.rdk/\out.length=f.size:=by
 obtain ⟨out,h1,h2⟩:=Tw.of (H:=H) f.size (fs:=[f]) (ws:=[v]) rfl (.cons ⟨r,wf⟩ .nil);rw [show nN [f]=f.rdk from En _]at h1;exact ⟨out,h1,h2⟩
theorem dd_iff {ks:List Key}: ∀ {rs acc:List (List Key)},ks∈dd acc rs↔ks∈acc\/ks∈rs
 | [],acc=>by
  show ks∈acc↔_;exact ⟨.inl,λh=>h.elim id λz=>by cases z⟩
 | x::r,acc=>by
  show ks∈dd (if x∈acc then acc else acc++[x]) r↔_;rw [dd_iff (rs:=r),DK];by_cases h:x∈acc
  ·rw [Ea h];exact ⟨λz=>z.elim .inl λz=>.inr (.inr z),λz=>z.elim .inl λz=>z.elim (λe=>.inl (by rw [e];exact h)) .inr⟩
  ·rw [DU h,DQ,DF];exact ⟨λz=>z.elim (λz=>z.elim .inl λz=>.inr (.inl z)) λz=>.inr (.inr z),λz=>z.elim (λz=>.inl (.inl z)) λz=>z.elim (λz=>.inl (.inr z)) .inr⟩
theorem ij: ∀ f:Fm,f.rdk.length<=f.size
 | .num _=>Er _
 | .own _=>DI _
 | .part _ _=>DI _
 | .bin _ a b=>by
  have:=ij a;have:=ij b;show (a.rdk++b.rdk).length<=a.size+b.size+1;rw [DA];lia
 | .whn a b c=>by
  have:=ij a;have:=ij b;have:=ij c;show (a.rdk++(b.rdk++c.rdk)).length<=a.size+b.size+c.size+1;rw [DA,DA];lia
theorem putK_new {kvs:List (List Key×V)} {k:List Key} {v:V} (h:k∉kvs.map (·.1)):dj kvs k v=kvs++[(k,v)]:=by
 unfold dj;rw [DU λz=>by
  obtain ⟨kv,h1,h2⟩:=Gc.mp z;exact h (DY.mpr ⟨kv,h1,DT h2⟩)]
noncomputable def dh:Fm->Th
 | .num n=>.t [.s "num",.i n]
 | .own x=>.t [.s "own",.s x]
 | .part k x=>.t [.s "part",.i k,.s x]
 | .bin op a b=>.t [.s op,dh a,dh b]
 | .whn a b c=>.t [.s "when",dh a,dh b,dh c]
theorem fc {H:Hp}: ∀ {f:Fm} {v:V},RepT H (dh f) v->Rep H f v
 | .num n,_,h=>by
  obtain ⟨a,vs,rfl,e,_,t⟩:=aT h;obtain ⟨x,y,rfl,r1,r2⟩:=wO t;rw [cB r1,show y=.int n by cases r2;rfl]at e;exact ⟨a,rfl,e⟩
 | .own x,_,h=>by
  obtain ⟨a,vs,rfl,e,_,t⟩:=aT h;obtain ⟨u,y,rfl,r1,r2⟩:=wO t;rw [cB r1,cB r2]at e;exact ⟨a,rfl,e⟩
 | .part k x,_,h=>by
  obtain ⟨a,vs,rfl,e,_,t⟩:=aT h;obtain ⟨u,y,z,rfl,r1,r2,r3⟩:=eR t;rw [cB r1,cB r3,show y=.int k by cases r2;rfl]at e;exact ⟨a,rfl,e⟩
 | .bin op A B,_,h=>by
  obtain ⟨a,vs,rfl,e,_,t⟩:=aT h;obtain ⟨u,y,z,rfl,r1,r2,r3⟩:=eR t;rw [cB r1]at e;exact ⟨a,y,z,rfl,e,fc r2,fc r3⟩
 | .whn A B C,_,h=>by
  obtain ⟨a,vs,rfl,e,_,t⟩:=aT h;obtain ⟨u,y,z,w,rfl,r1,r2,r3,r4⟩:=re t;rw [cB r1]at e;exact ⟨a,y,z,w,rfl,e,fc r2,fc r3,fc r4⟩
noncomputable def wds (s:Srt):List Str:=s.downs++s.ups
noncomputable def jP (b:BkX) (f:FrX) (i:Int):Srt:=if i= -1 then a0 b f.own else a0 b (f.parts.getD i.toNat "")
noncomputable def eU (b:BkX) (f:FrX) (i:Int) (x:Str):Bool:=decide (i< (f.parts.length:Int))&&decide (x∈wds (jP b f i))
noncomputable def tkB (b:BkX) (f:FrX):List Key->Bool
 | [.inr _,.inr x]=>eU b f (-1) x
 | [.inr _,.inl i,.inr x]=>eU b f i x
 | _=>false
def xZ (ks:List Key):Prop:=(∃ x:Str,ks=[.inr "own",.inr x]/\x.length<=1000)\/ ∃ (i:Int) (x:Str),ks=[.inr "part",.inl i,.inr x]/\0<=i/\x.length<=1000
theorem ii: ∀ {f:Fm},f.wf-> ∀ ks∈f.rdk,xZ ks
 | .num _,_,_,h=>by cases h
 | .own x,hw,ks,h=>.inl ⟨x,DF.mp h,bf hw⟩
 | .part k x,hw,ks,h=>.inr ⟨k,x,DF.mp h,hw.1.1,bf hw.2⟩
 | .bin _ a b,hw,ks,h=>(DQ.mp h).elim (ii hw.2.1 ks) (ii hw.2.2 ks)
 | .whn a b c,hw,ks,h=>(DQ.mp h).elim (ii hw.1 ks) λh=>(DQ.mp h).elim (ii hw.2.1 ks) (ii hw.2.2 ks)
noncomputable def Fm.told (b:BkX) (f:FrX) (fm:Fm):Bool:=fm.rdk.all (tkB b f)
noncomputable def FV (b:BkX) (f:FrX) (x:Th):Bool->Prop
 | true=> ∃ fm,x=dh fm/\fm.wf/\fm.size<=15/\fm.told b f=true
 | false=>((∀ H v,RepT H x v->Bad H v)\/ ∃ fm,x=dh fm/\fm.wf/\15<fm.size)\/ ∃ fm,x=dh fm/\fm.wf/\fm.size<=15/\fm.told b f=false
noncomputable def FVs (b:BkX) (f:FrX):Bool->Prop
 | true=> ∀ r∈f.rules,FV b f r.2.2 true
 | false=> ∃ (i:Nat) (r:Int×Str×Th),f.rules[i]? =some r/\(∀ r'∈f.rules.take i,FV b f r'.2.2 true)/\FV b f r.2.2 false
def oY:Sp:=λvs H Q _=> ∃ v f,vs=[v]/\RepT H (bH f) v/\(cH f).Nodup/\ ∀ d kvs H',H d=none->Same H H'->H' d=some (.dT kvs)->Paired (λ(r:Int×Str×Th) (kv:List Key×V)=>RepT H' r.2.2 kv.2) f.rules kvs->Q (.ref d) H'
def sN:Sp:=λvs H Q _=> ∃ a ks,vs=[.ref a]/\H a=some (.tup (List.map kV ks))/\xZ ks/\ ∀ p (i:Int) (x:Str),((ks=[.inr "own",.inr x]/\i= -1)\/(ks=[.inr "part",.inl i,.inr x]/\0<=i))->H p=none->Q (.ref p) (upd H p (.tup [.int i,.str x]))
def oV:Sp:=λvs H Q _=> ∃ (v:V) (f:FrX) (i:Int),vs=[v,.int i]/\RepT H (bH f) v/\(i= -1\/(0<=i/\i< (f.parts.length:Int)))/\ ∀ H',Same H H'->Q (.str (if i= -1 then f.own else f.parts.getD i.toNat "")) H'
def Au:Sp:=λvs H Q _=> ∃ bv b v f a ks,vs=[bv,v,.ref a]/\BkAt H b bv/\RepT H (bH f) v/\f∈b.forms/\bA (b.sorts.map Srt.name) f=true/\H a=some (.tup (List.map kV ks))/\xZ ks/\ ∀ H',Same H H'->Q (.bl (tkB b f ks)) H'
def vZ:Sp:=λvs H Q _=> ∃ bv b v f c,vs=[bv,v]/\BkAt H b bv/\RepT H (bH f) v/\f∈b.forms/\bA (b.sorts.map Srt.name) f=true/\(cH f).Nodup/\FVs b f c/\ ∀ H',Same H H'->Q (.bl c) H'
abbrev BM:List Str:=["form","found","at","word","formula"]
theorem scByKey:av BM ["form"] (ah qZ):=fsc
theorem uT (F:Fun K "formulas_by_key" "formulas_by_key" qZ f fd)
  (GR:Cl P w K mg base CX0 1 f2 fd2 ["form"] (cI ["form"] fF) "rules_of"):aX P w K mg base CX0 2 f fd ["form"] oY:=by
 refine F.okz scByKey λcdv A outer s H vs Q E hr h=>?_;obtain ⟨v,fr,rfl,hF,hnd,q⟩:=h;have hu:=mq hr;refine ⟨_,ad (psz 1 scByKey.nd pF)
  (ad (cC Ep rfl (bB (pcl GR hr (aa (pv 0) ac)))
    (cL rfl (aA (pgz 2 scByKey.nd) (aA (pgz 3 scByKey.nd) (aA (pgz 4 scByKey.nd) bW))))
   (ai (i9 hu (pv 1) (aU (aa (pv 2) (aa (pv 3) ac))) (pv 4) rfl)))
  (ai (aw (pv 1)))),?_⟩
 refine λd hd=>?_;obtain ⟨H0,eW,s0,g0⟩:=nw hd (.dT []);rw [eW];refine ⟨_,rfl,qf (hF.mono s0) λra rv H00 s00 hra hlr hR=>⟨ra,rfl,⟨rv,SqT.of hra⟩,?_⟩⟩;have lR:=hR.len;rw [Dx]at lR;have hPr:=prm hR;refine jk (xs:=rv) (λi σ H'=>i<=rv.length/\ ∃ o2 o3 o4 kvs,σ=[some v,some (.ref d),o2,o3,o4]/\Same H H'/\mS H00 H'/\H' d=some (.dT kvs)/\kvs.length=i/\kvs.map (·.1)=((cH fr).take i).map fi/\Paired (λ(r:Int×Str×Th) (kv:List Key×V)=>RepT H00 r.2.2 kv.2) (fr.rules.take i) kvs)
  ⟨Er _,none,none,none,[],rfl,s0.trans s00,λ_ _ _ h=>h,s00 _ _ g0,rfl,rfl,.nil⟩ (λi σ H' _ h=>by obtain ⟨_,_,_,_,_,_,_,g,_⟩:=h;exact SqT.of (g _ _ trivial hra)) ?_ ?_
 ·rintro i x σ H1 hx ⟨_,o2,o3,o4,kvs,rfl,S1,k1,gd,hl,hk,hP⟩;have hil:i<rv.length:=(DH.mp hx).1;obtain ⟨r,hr',hRr⟩:=bj hPr hx;obtain ⟨a,us,rfl,ha,_,t⟩:=aT hRr;obtain ⟨x1,x2,x3,rfl,r1,r2,r3⟩:=eR t;rw [cB r2,show x1=.int r.1 by cases r1;rfl]at ha;refine ⟨a,_,rfl,SqT.of (k1 _ _ trivial ha),rfl,_,_,rfl,_,_,rfl,_,_,rfl,rfl,?_⟩;refine ⟨_,rfl,_,rfl,_,rfl,_,rfl,gH,λt ht=>?_⟩;have s2:=am ht (.tup [.int r.1,.str r.2.1]);have g2:(upd H1 t (.tup [.int r.1,.str r.2.1])) t=some (.tup ((fi (r.1,r.2.1)).map kV)):=ae;generalize upd H1 t (.tup [.int r.1,.str r.2.1])=H2 at s2 g2 ⊢;refine ⟨d,_,rfl,DPut.t (s2 _ _ gd) g2 (aK (by lia)),?_⟩;have hki:(cH fr)[i]? =some (r.1,r.2.1):=by unfold cH;rw [DP,hr'];rfl
  have hn:fi (r.1,r.2.1)∉kvs.map (·.1):=λhm=>by
   rw [hk]at hm;obtain ⟨r',h1,h2⟩:=DY.mp hm;rw [oQ h2]at h1;obtain ⟨j,hj⟩:=Fd h1;have hji:j<i:=by
    have:=(DH.mp hj).1;rw [DX]at this;lia
   rw [FO,Ea hji]at hj;have:=xU hnd hj hki;lia
  rw [putK_new hn];have kp:mS H1 (upd H2 d (.dT (kvs++[(fi (r.1,r.2.1),x3)]))):=λb o ho e=>by
   rw [aj (λz=>by rw [z,gd]at e;cases e;exact ho)];exact s2 _ _ e
  refine ⟨hil,_,_,_,_,rfl,?_,λb o ho e=>kp b o ho (k1 b o ho e),ae,?_,?_,?_⟩
  ·intro y o h;rw [aj (al h hd)];exact s2 _ _ (S1 _ _ h)
  ·rw [DA,hl];rfl
  ·rw [Ef,hk,EB,hki,Ef];rfl
  ·rw [EB,hr'];exact FE hP r3
 ·rintro σ H1 ⟨_,o2,o3,o4,kvs,rfl,S1,k1,gd,hl,hk,hP⟩;rw [<- lR,EX]at hP;exact ⟨_,rfl,q d kvs H1 hd S1 gd (Paired.mapP hP λ_ _ h=>h.keep k1)⟩
theorem yZ:av ["reading"] ["reading"] (ah qU):=fsc
theorem xw (F:Fun K "key_of" "key_of" qU f fd):aX P w K mg base CX0 1 f fd ["reading"] sN:=by
 refine F.okz yZ λcdv A outer s H vs Q E hr h=>?_;obtain ⟨a,ks,rfl,ha,hk,q⟩:=h;refine ⟨_,ai (aw (ja (aG bJ (ax (r:=bc K) aH (pv 0) ag (λ_ _=>rfl)) aV (aJ _))
  (aU (aa (gN eE ag) (aa (ax (r:=bc K) aH (pv 0) ag (λ_ _=>rfl)) ac)))
  (aU (aa (ax (r:=bc K) aH (pv 0) ag (λ_ _=>rfl)) (aa (ax (r:=bc K) aH (pv 0) ag (λ_ _=>rfl)) ac))))),?_⟩
 rcases hk with ⟨x,rfl,_⟩ | ⟨i,x,rfl,h0,_⟩
 ·refine ⟨_,rfl,a,_,0,.str "own",rfl,rfl,SqT.of ha,du,rfl,true,(by rw [DB rfl]),bE ?_⟩;refine ⟨1,rfl,_,rfl,a,_,1,.str x,rfl,rfl,SqT.of ha,aM (j:=1) rfl,gH,λp hp=>q p (-1) x (.inl ⟨rfl,rfl⟩) hp⟩
 ·refine ⟨_,rfl,a,_,0,.str "part",rfl,rfl,SqT.of ha,du,rfl,false,(by rw [DG (by decide +kernel)]),bx ?_⟩;refine ⟨_,rfl,a,_,1,.int i,rfl,rfl,SqT.of ha,aM (j:=1) rfl,_,rfl,a,_,2,.str x,rfl,rfl,SqT.of ha,aM (j:=2) rfl,gH,λp hp=>q p i x (.inr ⟨rfl,h0⟩) hp⟩
theorem wv:av ["form","at"] ["form","at"] (ah nG):=fsc
theorem uN (F:Fun K "sort_at" "sort_at" nG f fd)
  (GO:Cl P w K mg base CX0 1 f5 fd5 ["form"] (cI ["form"] gu) "sort_of_form")
  (GP:Cl P w K mg base CX0 1 f6 fd6 ["form"] (cI ["form"] dI) "parts_of"):
  aX P w K mg base CX0 2 f fd ["form","at"] oV:=by
 refine F.okz wv λcdv A outer s H vs Q E hr h=>?_;obtain ⟨v,fr,i,rfl,hF,hc,q⟩:=h;refine ⟨_,ai (aw (ja (aG bJ (pv 1) (gN eE ag) (aJ _)) (pcl GO hr (aa (pv 0) ac))
  (ax (r:=bc K) aH (pcl GP hr (aa (pv 0) ac)) (pv 1) (λ_ _=>rfl)))),?_⟩
 rcases hc with rfl | ⟨h0,h1⟩
 ·exact ⟨_,rfl,1,rfl,rfl,true,(by rw [DB rfl]),bE ⟨_,rfl,rW hF λH1 s1=>q H1 s1⟩⟩
 ·refine ⟨_,rfl,1,rfl,rfl,false,(by rw [DG λz=>by have:=V.int.inj z;lia]),bx ⟨_,rfl,ji hF λpa H1 s1 hpa lp=>?_⟩⟩;have q:=q H1 s1;rw [DU (by lia)]at q;have hlt:i.toNat<fr.parts.length:=by lia
  have e:(fr.parts.map V.str)[i.toNat]? =some (.str (fr.parts.getD i.toNat "")):=by
   rw [DP,Gv,DD hlt];rfl
  have e2:i=((i.toNat:Nat):Int):=by lia
  refine ⟨_,rfl,pa,_,i,_,rfl,rfl,SqT.of hpa,?_,q⟩;rw [e2];exact aM e
theorem lX {b:BkX} {f:FrX}:jP b f (-1)=a0 b f.own:=by unfold jP;rw [Ea rfl]
theorem vW {b:BkX} {f:FrX} {i:Int}:jP b f i=a0 b (if i= -1 then f.own else f.parts.getD i.toNat ""):=by unfold jP;split <;> rfl
theorem yg {l:List Str} {i:Nat} (h:i<l.length):l.getD i ""∈l:=by
 rw [Gv,DD h];exact IB h
theorem jT {α β:Type} {F:α->β->Prop}: ∀ {l:List α} {r:List β},Paired F l r->Paired (λb a=>F a b) r l
 | _,_,.nil=>.nil
 | _,_,.cons a t=>.cons a (jT t)
theorem Bx {b:BkX} {f:FrX} {x:Th} {c:Bool} {H:Hp} {v:V} (h:FV b f x c) (r:RepT H x v):(c=false/\Res H [v] 0 false)\/ ∃ fm,x=dh fm/\fm.wf/\fm.size<=15/\Rep H fm v/\Res H [v] 0 true/\fm.told b f=c:=by
 have good: ∀ fm,x=dh fm->fm.wf->fm.size<=15->fm.told b f=c-> ∃ fm,x=dh fm/\fm.wf/\fm.size<=15/\Rep H fm v/\Res H [v] 0 true/\fm.told b f=c:=λfm e w s t=>by
  rw [e]at r;exact ⟨fm,e,w,s,fc r,⟨_,.cons (fc r) w .nil,by lia⟩,t⟩
 cases c with
 | true=>
  obtain ⟨fm,e,w,s,t⟩:=h;exact .inr (good fm e w s t)
 | false=>
  rcases h with (h | ⟨fm,e,w,s⟩) | ⟨fm,e,w,s,t⟩
  ·exact .inl ⟨rfl,.inr ⟨[],v,[],rfl,λx hx=>(by cases hx),h H v r⟩⟩
  ·rw [e]at r;exact .inl ⟨rfl,.inl ⟨_,.cons (fc r) w .nil,by lia⟩⟩
  ·exact .inr (good fm e w s t)
abbrev CS:List Str:=["book","form","reading","key"]
theorem scIsTold:av CS ["book","form","reading"] (ah nJ):=fsc
theorem uS (F:Fun K "is_told" "is_told" nJ f fd) (G:Gb mg)
  (GK:Cl P w K mg base CX0 1 f2 fd2 ["reading"] sN "key_of")
  (GP:Cl P w K mg base CX0 1 f6 fd6 ["form"] (cI ["form"] dI) "parts_of")
  (GA:Cl P w K mg base CX0 2 f3 fd3 ["form","at"] oV "sort_at")
  (GW:Cl P w K mg base CX0 4 f4 fd4 ["book","sort"] (jQ λs=>s.downs++s.ups) "worths_of_sort"):
  aX P w K mg base CX0 5 f fd ["book","form","reading"] Au:=by
 refine F.okz scIsTold λcdv A outer s H vs Q E hr h=>?_;obtain ⟨bv,b,v,fr,a,ks,rfl,hB,hF,hfr,hfn,ha,hrk,q⟩:=h;have hr1:=hr.mono (show 1<=4 by decide);have hr2:=hr.mono (show 2<=4 by decide);refine ⟨_,ad (psz 3 scIsTold.nd (pcl GK hr1 (aa (pv 2) ac)))
  (ai (aw (cM (cj jc (ax (r:=bc K) aH (pv 3) ag (λ_ _=>rfl)) (ao (r:=bU K) au rfl G.len DV (aa (pcl GP hr1 (aa (pv 1) ac)) ac)) (aJ _))
   (dk (cj (r:=rIn K false) jG (ax (r:=bc K) aH (pv 3) ag (λ_ _=>rfl)) (pcl GW hr (aa (pv 0) (aa (pcl GA hr2 (aa (pv 1) (aa (ax (r:=bc K) aH (pv 3) ag (λ_ _=>rfl)) ac))) ac))) (by with_unfolding_all rfl)))))),?_⟩
 obtain ⟨ho,hps⟩:=frN hfn;refine ⟨_,rfl,a,ks,rfl,ha,hrk,λp i x hix hp=>?_⟩;have hi:i= -1\/0<=i:=hix.imp (·.2) (·.2);have et:tkB b fr ks=eU b fr i x:=by
  rcases hix with ⟨rfl,rfl⟩ | ⟨rfl,_⟩ <;> rfl
 obtain ⟨H1,eW,s1,g1⟩:=nw hp (.tup [.int i,.str x]);rw [eW];refine ⟨_,rfl,p,_,0,.int i,rfl,rfl,SqT.of g1,du,_,rfl,ji (hF.mono s1) λpb H2 s2 hpb lp=>⟨pb,_,rfl,.inr (SqT.of hpb),i,_,rfl,rfl,_,rfl,?_⟩⟩;have S2:=s1.trans s2;rw [Dx];refine bp (λc=>?_) (λc=>qb (q H2 S2) (by rw [et];unfold eU;rw [EK.mpr c,DN]));have hlt:i< (fr.parts.length:Int):=DT c;have g2:=s2 _ _ g1;refine ⟨_,rfl,p,_,1,.str x,rfl,rfl,SqT.of g2,aM (j:=1) rfl,?_⟩;refine ⟨_,rfl,_,rfl,_,rfl,p,_,0,.int i,rfl,rfl,SqT.of g2,du,v,fr,i,rfl,hF.mono S2,hi.imp id (λh=>⟨h,hlt⟩),λH3 s3=>?_⟩;have S3:=S2.trans s3;have hnm:(if i= -1 then fr.own else fr.parts.getD i.toNat "")∈b.sorts.map Srt.name:=by
  split
  ·exact ho
  ·rename_i hne;exact hps _ (yg (by rcases hi with h | h <;> lia))
 refine ⟨bv,b,_,rfl,hB.mono S3,hnm,λc4 H4 s4 hb=>?_⟩;refine ⟨c4,_,rfl,.inr (SqT.of hb),rfl,ip _,?_⟩;refine qb (b:=eU b fr i x) (by rw [<- et];exact q H4 (S3.trans s4)) ?_;show eU b fr i x=inV (.str x) (List.map V.str _);rw [fC,eU,DB hlt,Ec,vW];rfl
abbrev NHf:List Str:=["book","form","formula"]
theorem scHasForms:av NHf ["book","form"] (ah ig):=fsc
theorem pN (F:Fun K "has_formulas" "has_formulas" ig f fd) (G:Gb mg)
  (GB:Cl P w K mg base CX0 2 f2 fd2 ["form"] oY "formulas_by_key")
  (GI:Cl P w K mg base CX0 4 f3 fd3 ["thing"] we "is_formula")
  (GR:Cl P w K mg base CX0 3 f4 fd4 ["formula"] sM "readings_of")
  (GT:Cl P w K mg base CX0 5 f5 fd5 ["book","form","reading"] Au "is_told"):
  aX P w K mg base CX0 6 f fd ["book","form"] vZ:=by
 refine F.okz scHasForms λcdv A outer s H vs Q E hr h=>?_;obtain ⟨bv,b,v,fr,c,rfl,hB,hF,hfr,hfn,hnd,hfv,q⟩:=h;have hr2:=hr.mono (show 2<=5 by decide);have hr3:=hr.mono (show 3<=5 by decide);have hr4:=hr.mono (show 4<=5 by decide);refine ⟨_,ad (cC Ep rfl (zi (pcl GB hr2 (aa (pv 1) ac))) (pgz 2 scHasForms.nd)
   (ad (aS (a9 (aZ (pcl GI hr4 (aa (pv 2) ac)))) (ai (aw cx)) aE)
   (ai (aS (a9 (aZ (ao (cT rfl) rfl G.all (by decide +kernel) (aa (bX (sc0:=ah ig) (N0:=NHf) (ys:=["book","form"]) (fr:=[0,1]) rfl (km (pcl GR hr3 (aa (pv 2) ac))) rfl rfl
    csc (λC s H ex=>pcl GT hr (aa (pv 1) (aa (pv 2) (aa (pv 0) ac))))) ac)))) (ai (aw cx)) aE))))
  (ai (aw cx)),?_⟩
 refine ⟨_,rfl,v,fr,rfl,hF,hnd,λd kvs H1 hd s1 g1 hP=>?_⟩;refine ⟨d,kvs,rfl,.inl ⟨g1,λo=>?_⟩⟩;have gF:(upd H1 d (.frz o (.dT kvs))) d=some (.frz o (.dT kvs)):=ae;have sF:Same H (upd H1 d (.frz o (.dT kvs))):=λb u h=>by rw [aj (al h hd)];exact s1 _ _ h
 have kF:mS H1 (upd H1 d (.frz o (.dT kvs))):=λb o' ho h=>by rw [aj (λz=>by rw [z,g1]at h;cases h;exact ho)];exact h
 generalize upd H1 d (.frz o (.dT kvs))=HF at gF sF kF ⊢;have hPF:=Paired.mapP hP λ_ _ r=>r.keep kF;have hlen:fr.rules.length=kvs.length:=Ev hPF;obtain ⟨J,hJ⟩: ∃ J:Nat,(c=true/\ ∀ r∈fr.rules,FV b fr r.2.2 true)\/(c=false/\ ∃ r,fr.rules[J]? =some r/\(∀ r'∈fr.rules.take J,FV b fr r'.2.2 true)/\FV b fr r.2.2 false):=by
  cases c with
  | true=>exact ⟨0,.inl ⟨rfl,hfv⟩⟩
  | false=>
   obtain ⟨j,r,h1,h2,h3⟩:=hfv;exact ⟨j,.inr ⟨rfl,r,h1,h2,h3⟩⟩
 refine yj (λi σ H'=>(c=true\/i<=J)/\ ∃ o2,σ=[some bv,some v,o2]/\Same HF H') ⟨.inr (Er _),none,rfl,Same.refl _⟩ (λi σ H' _ ⟨_,_,_,s'⟩=>s' _ _ gF) ?_ ?_
 ·rintro i kv σ H2 hkv ⟨hiJ,o2,rfl,s2⟩;obtain ⟨r,hri,hR⟩:=bj hPF hkv;have hR2:=hR.mono s2;obtain ⟨c',hc',hno,hyes⟩: ∃ c',FV b fr r.2.2 c'/\(c'=false->c=false)/\(c'=true->c=true\/i+1<=J):=by
   rcases hJ with ⟨e,h⟩ | ⟨e,r',h1,h2,h3⟩
   ·exact ⟨true,h r (DC hri),λz=>(by cases z),λ_=>.inl e⟩
   ·have hle:i<=J:=hiJ.elim (λz=>by rw [e]at z;cases z) id;by_cases he:i=J
    ·subst he;rw [hri]at h1;cases h1;exact ⟨false,h3,λ_=>e,λz=>(by cases z)⟩
    ·have hlt:i<J:=by lia
     exact ⟨true,h2 r (DC (i:=i) (by rw [FO,Ea hlt];exact hri)),λ_=>e,λ_=>.inr hlt⟩
  rcases Bx hc' hR2 with ⟨ec,hRes⟩ | ⟨fm,ex,hwf,h15,hRep,hRes,htold⟩
  ·refine ⟨_,rfl,kv.2,false,rfl,hRes,λH3 s3=>⟨false,rfl,bE ?_⟩⟩;exact qb (q H3 ((sF.trans s2).trans s3)) (hno ec)
  refine ⟨_,rfl,kv.2,true,rfl,hRes,λH3 s3=>⟨true,rfl,bx ?_⟩⟩;have S3:=s2.trans s3;obtain ⟨out,hTw,hol⟩:=Tw.of1 (hRep.mono (bN s3)) hwf;refine ⟨_,rfl,kv.2,out,_,rfl,hTw,by lia,λp ys H4 hp s4 g4 hks=>?_⟩;have hl:=xS hks;have h1:=yA (rs:=fm.rdk) (acc:=[]);have h2:=ij fm;have e0:([]:List (List Key)).length=0:=rfl;have S4:=S3.trans s4;refine ⟨p,rfl,⟨_,SqL.of g4⟩,?_⟩;have etold:(dd [] fm.rdk).all (tkB b fr)=c':=by
   rw [<- htold];unfold Fm.told;rw [G3,Ed,Ed];exact ⟨λz x hx=>z x (dd_iff.mpr (.inr hx)),λz x hx=>z x ((dd_iff.mp hx).elim (λy=>by cases y) id)⟩
  refine dJ (by lia) (jT hks) (zW g4) (zV g4) (Bs g4) (λ_ ks v=>v=.bl (tkB b fr ks)) (λ_ h=>h) ?_ ?_
  ·rintro ks v' H5 k hk ⟨b5,rfl,hb5⟩ s5 hk5;have S5:=sF.trans (S4.trans s5);exact ⟨_,rfl,_,rfl,_,rfl,bv,b,v,fr,b5,ks,rfl,hB.mono S5,hF.mono S5,hfr,hfn,s5 _ _ hb5,ii hwf ks ((dd_iff.mp hk).elim (λy=>by cases y) id),λH6 s6=>hk5 _ H6 s6 rfl⟩
  ·intro p5 zs H5 hp5 s5 g5 hz;have ez:zs=((dd [] fm.rdk).map (tkB b fr)).map V.bl:=by rw [dz hz,Es];rfl
   rw [ez]at g5;refine ⟨p5,_,rfl,SqL.of g5,_,rfl,?_⟩;rw [gv,etold];cases ec:c' with
   | false=>exact bE (qb (q H5 (sF.trans (S4.trans s5))) (hno ec))
   | true=>
    exact bx ⟨hyes ec,_,rfl,S4.trans s5⟩
 ·rintro σ H2 ⟨hiJ,o2,rfl,s2⟩;have:c=true:=by
   rcases hJ with ⟨e,_⟩ | ⟨e,r',h1,_⟩
   ·exact e
   ·have:=(DH.mp h1).1;exact hiJ.elim id λz=>by lia
  exact qb (q H2 (sF.trans s2)) this
inductive yJ (b:BkX):Option Str->Prop where
 | names:ck b=false->yJ b (some "names")
 | rules:ck b=true->(b.forms.all λf=>decide (cH f=ka b f))=false->yJ b (some "rules")
 | formula (c:FrX->Bool):ck b=true->(b.forms.all λf=>decide (cH f=ka b f))=true->(∀ f∈b.forms,(cH f).Nodup/\FVs b f (c f))->b.forms.all c=false->yJ b (some "formula")
 | book:ck b=true->(b.forms.all λf=>decide (cH f=ka b f))=true->(∀ f∈b.forms,(cH f).Nodup/\FVs b f true)->b.wheel≠0->yJ b none
def sB (x:Th) (d:Option Str):Prop:=(cJ x=false/\d=some "shape")\/ ∃ b,x=cO b/\ShX b/\yJ b d
noncomputable def Dl:Option Str->V
 | some s=>.str s
 | none=>.non
def sJ:Sp:=λvs H Q _=> ∃ v x d,vs=[v]/\RepT H x v/\sB x d/\ ∀ H',Same H H'->Q (Dl d) H'
theorem me {b:BkX} (h:ck b=true):(b.sorts.map Srt.name).Nodup/\ ∀ f∈b.forms,bA (b.sorts.map Srt.name) f=true:=by
 have h:(decide (b.sorts.map Srt.name).Nodup&&(decide (b.forms.map FrX.name).Nodup&&(b.sorts.all (λs=>decide (s.downs++s.ups).Nodup)&&b.forms.all (bA (b.sorts.map Srt.name)))))=true:=h;simp only [Ek,FI]at h;exact ⟨h.1,Ed.mp h.2.2.2⟩
theorem vN (a b:List (Int×Str)):decide (a.map fi=b.map fi)=decide (a=b):=by
 by_cases h:a=b
 ·rw [DB h,DB (by rw [h])]
 ·rw [DG h,DG λe=>h ?_];have inj: ∀ (a b:List (Int×Str)),a.map fi=b.map fi->a=b:=by
   intro a;induction a with
   | nil=>intro b e;cases b with
    | nil=>rfl
    | cons _ _=>cases e
   | cons x r ih=>intro b e;cases b with
    | nil=>cases e
    | cons y s=>
     injection e with e1 e2
     rw [oQ e1,ih s e2]
  exact inj a b e
theorem wS {X:Cx} {e:Expr}:PT X e λ_ _ _=>False:=λ_ _ _ _ _ _ h=>h.elim
theorem B1:av ["thing"] ["thing"] (ah wx):=fsc
theorem Bd (F:Fun K "why_no_book" "why_no_book" wx f fd) (G:Gb mg)
  (GS:Cl P w K mg base CX0 4 f2 fd2 ["thing"] (spT cJ) "has_shape")
  (GN:Cl P w K mg base CX0 2 f3 fd3 ["book"] vY "has_names")
  (GF:Cl P w K mg base CX0 1 f4 fd4 ["book"] (cI ["book"] fG) "forms_of")
  (GK:Cl P w K mg base CX0 2 f5 fd5 ["form"] oX "keys_of")
  (GD:Cl P w K mg base CX0 4 f6 fd6 ["book","form"] wg "due_keys")
  (GH:Cl P w K mg base CX0 6 f7 fd7 ["book","form"] vZ "has_formulas")
  (GW:Cl P w K mg base CX0 1 f8 fd8 ["book"] (cI ["book"] jn) "wheel_of"):
  aX P w K mg base CX0 7 f fd ["thing"] sJ:=by
 refine F.okz B1 λcdv A outer s H vs Q E hr h=>?_;obtain ⟨v,x,d,rfl,hx,hd,q⟩:=h;have hu:=mq hr;have hu2:=FB (Nat.add_le_add_left (show 2<=16 by decide) _) hu;have hr1:=hr.mono (show 1<=6 by decide);have hr2:=hr.mono (show 2<=6 by decide);have hr4:=hr.mono (show 4<=6 by decide);refine ⟨_,ad (aS (a9 (aZ (pcl GS hr4 (aa (pv 0) ac)))) (ai (aw aV)) aE)
  (ad (aS (a9 (aZ (pcl GN hr2 (aa (pv 0) ac)))) (ai (aw aV)) aE)
  (ad (aS (a9 (aZ (ao (cT rfl) rfl G.all (by decide +kernel) (aa (bX (sc0:=ah wx) (N0:=["thing"]) (ys:=["thing"]) (fr:=[0]) rfl (bB (pcl GF hr1 (aa (pv 0) ac))) rfl rfl
    csc
    (λC s H ex=>cj (zw hu2) (pcl GK hr2 (aa (pv 0) ac)) (pcl GD hr4 (aa (pv 1) (aa (pv 0) ac))) (aJ _))) ac)))) (ai (aw aV)) aE)
  (ad (aS (a9 (aZ (ao (cT rfl) rfl G.all (by decide +kernel) (aa (bX (sc0:=ah wx) (N0:=["thing"]) (ys:=["thing"]) (fr:=[0]) rfl (bB (pcl GF hr1 (aa (pv 0) ac))) rfl rfl
    csc
    (λC s H ex=>pcl GH hr (aa (pv 1) (aa (pv 0) ac)))) ac)))) (ai (aw aV)) aE)
  (ad (aS (PW.pt (kN (aG bJ (pcl GW hr1 (aa (pv 0) ac)) ag (aJ _)) (iZ wS))) bK aE)
  (ai (aw eL)))))),?_⟩
 refine ⟨_,rfl,v,x,rfl,hx,λH1 s1=>⟨_,rfl,?_⟩⟩;rcases hd with ⟨cs,rfl⟩ | ⟨b,rfl,hsh,hd⟩
 ·rw [cs];exact bE (q H1 s1)
 rw [hsh.shape];refine bx ⟨_,rfl,v,b,rfl,hx.mono s1,hsh,λH2 s2=>⟨_,rfl,?_⟩⟩;have S2:=s1.trans s2;cases hn:ck b with
 | false=>
  have:d=some "names":=by
   cases hd with
   | names _=>rfl
   | rules h _=>rw [hn]at h;cases h
   | formula _ h _ _ _=>rw [hn]at h;cases h
   | book h _ _ _=>rw [hn]at h;cases h
  subst this;exact bE (q H2 S2)
 | true=>
 obtain ⟨nd,hfn⟩:=me hn;have hB2:BkAt H2 b v:=⟨hx.mono S2,hsh,nd⟩;refine bx ⟨_,rfl,jr hB2.1 λfa fv H3 s3 ef lf tf=>⟨fa,rfl,⟨_,SqT.of ef⟩,?_⟩⟩;have S3:=S2.trans s3;have hB3:=hB2.mono s3;refine jM (λf=>decide (cH f=ka b f)) ef lf tf (λfr u H4 k hfr r s4 hk=>?_) λp H4 s4 g4=>?_
 ·refine ⟨_,rfl,u,fr,rfl,r,λp5 zs H5 s5 g5 hk5=>⟨_,rfl,_,rfl,v,b,u,fr,rfl,hB3.mono (s4.trans s5),r.mono s5,hfr,hfn fr hfr,λp6 ys H6 s6 g6 hk6=>?_⟩⟩;refine ⟨p5,p6,zs,ys,_,_,rfl,rfl,s6 _ _ g5,g6,L2.KsOf.mono hk5 λb xs h=>s6 _ _ h,hk6,?_⟩;rw [vN];exact hk H6 (s5.trans s6)
 refine ⟨p,_,rfl,SqL.of g4,_,rfl,?_⟩;rw [gv];have S4:=S3.trans s4;cases hk:b.forms.all (λf=>decide (cH f=ka b f))with
 | false=>
  have:d=some "rules":=by
   cases hd with
   | names h=>rw [hn]at h;cases h
   | rules _ _=>rfl
   | formula _ _ h _ _=>rw [hk]at h;cases h
   | book _ h _ _=>rw [hk]at h;cases h
  subst this;exact bE (q H4 S4)
 | true=>
 obtain ⟨c,hc,hcd⟩: ∃ c:FrX->Bool,(∀ f∈b.forms,(cH f).Nodup/\FVs b f (c f))/\((b.forms.all c=false/\d=some "formula")\/(b.forms.all c=true/\d=none/\b.wheel≠0)):=by
  cases hd with
  | names h=>rw [hn]at h;cases h
  | rules _ h=>rw [hk]at h;cases h
  | formula c _ _ h1 h2=>exact ⟨c,h1,.inl ⟨h2,rfl⟩⟩
  | book _ _ h1 h2=>exact ⟨λ_=>true,h1,.inr ⟨Ed.mpr λ_ _=>rfl,rfl,h2⟩⟩
 have hB4:=hB3.mono s4;refine bx ⟨_,rfl,jr hB4.1 λfa fv H5 s5 ef lf tf=>⟨fa,rfl,⟨_,SqT.of ef⟩,?_⟩⟩;have hB5:=hB4.mono s5;refine jM c ef lf tf (λfr u H6 k hfr r s6 hk'=>?_) λp H6 s6 g6=>?_
 ·exact ⟨_,rfl,_,rfl,v,b,u,fr,c fr,rfl,hB5.mono s6,r,hfr,hfn fr hfr,(hc fr hfr).1,(hc fr hfr).2,hk'⟩
 refine ⟨p,_,rfl,SqL.of g6,_,rfl,?_⟩;rw [gv];have S6:=(S4.trans s5).trans s6;rcases hcd with ⟨e,rfl⟩ | ⟨e,rfl,hw⟩
 ·rw [e];exact bE (q H6 S6)
 rw [e];refine bx ⟨_,rfl,ev1 rfl ((hB5.mono s6).1) tK λu H7 s7 ru=>?_⟩;cases ru;refine ⟨rfl,_,rfl,?_⟩;rw [DG λz=>hw (V.int.inj z)];exact bx (q H7 (S6.trans s7))
end My
namespace L2
open PySem PySem.Spec PyProof.Rows
open PySem.W (findIn specialIn takesIn mroIn clsIn typeIn tailIn nsOkIn nsIn Looks)
noncomputable def ll (K:W.Frag) (C fI:Addr) (bmB:List Value) (newId:String):Bool:=match K.lookup C with
 | some ⟨.type "type",_,.cls cd,sl⟩=>(match cd.mro,sl.toList with
  | .ref c::bm,[_,_,_,_,some (.builtin n),_]=>(c==C&&(n==newId&&(!cd.hasDel&&(tailIn K bmB bm&&(nsOkIn K cd.ns&&nsIn K cd.ns "__init__"==some (some (.ref fI)))))))
  | _,_=>false)
 | _=>false
theorem Bg {K:W.Frag} {h:Heap} {N:Addr} {mN:Str->Option Value} {n:Str} {v:Value} (X:K.In h) (G:h.Ns N mN) (e:nsIn K N n=some (some v)):mN n=some v:=by
 obtain ⟨o,es,ep,ho,hd,_,hf⟩:=G;unfold nsIn at e;split at e
 ·rename_i c d es' n' sl q;have:=X _ _ q;rw [ho]at this;cases this;cases hd;split at e
  ·rename_i en he;cases e;rw [<- hf];unfold nsFind findBy;rw [<- Array.find?_toList,he];rfl
  ·split at e <;> cases e
 ·cases e
theorem tJ {K:W.Frag} {h:Heap} {C fI:Addr} {bmB:List Value} {newId:String} (X:K.In h) (q:ll K C fI bmB newId=true): ∃ bm N nm qn bs hd sn sub ab col dd k0 k1 k2 k3 k5 mN,
  h.get? C=some (excClassObj nm qn C N bs bm hd sn sub ab col dd k0 k1 k2 k3 k5 newId)/\(h.Ns N mN/\mN "__init__"=some (.ref fI))/\OwnTail h bmB bm:=by
 unfold ll at q;split at q
 case h_2=>cases q
 case h_1 dd c sl ho=>
  split at q
  case h_2=>cases q
  case h_1 C' bm k0 k1 k2 k3 n k5 hm hs=>
   rw [Ek,Ek,Ek,Ek,Ek]at q;obtain ⟨q1,q2,q3,q4,q5,q6⟩:=q;have e1:C'=C:=HA.mp q1;have e2:n=newId:=HA.mp q2;have e3:c.hasDel=false:=by rw [Ij]at q3;exact q3
   have hob:=X _ _ ho;have hsl:sl= #[k0,k1,k2,k3,some (.builtin n),k5]:=Array.toList_inj.mp hs;have hcd:c={name:=c.name,bases:=c.bases,mro:=.ref C::bm,ns:=c.ns,qualname:=c.qualname,hasDict:=c.hasDict,slotNames:=c.slotNames,subclasses:=c.subclasses,abstract:=c.abstract,collection:=c.collection,hasDel:=false}:=by
    rw [<- e3,<- e1,<- hm]
   rw [hsl,hcd,e2]at hob;have hN:h.Ns c.ns (h.nsMap c.ns):=Heap.Ns.of_isNs (W.isNs_of_in X q5);exact ⟨bm,_,_,_,_,_,_,_,_,_,_,_,_,_,_,_,_,hob,⟨hN,Bg X hN (HA.mp q6)⟩,W.tail_of_in X q4⟩
section
variable {prog:Program} {w:World} {A:Around} {E:Value->Shared->Prop} {h:Heap} {g:Array GenState} {d:Drawn} {t:Nat} {os:OsState}
variable {nm q:Str} {C N:Addr} {bs bm bmB:List Value} {hdct:Bool} {sn:List Str} {sub:List Value} {ab:Bool} {col:Option Bool} {dd:Option Addr} {k0 k1 k2 k3 k5:Option Value} {B newId initId:String}
theorem kz (F:ExcBaseFacts B newId initId bmB) (T:OwnTail h bmB bm) {mN:Str->Option Value} {rest:List Value} {fI:Addr} {oI:Obj} {Q:Fin->Shared->Prop}
  (hC:h.get? C=some (excClassObj nm q C N bs bm hdct sn sub ab col dd k0 k1 k2 k3 k5 newId)) (hn:h.Ns N mN) (hi:mN "__init__"=some (.ref fI)) (hfI:h.get? fI=some oI) (hfc:oI.cls=.type "function")
  (hq:codeAny (model prog w) A (.call (.ref fI) ⟨.ref (h.objs.size+1)::rest,[]⟩) (λr s'=>match r with | .ok (.ret u)=>u=.none/\Q (.done (.ret (.ref (h.objs.size+1)))) s' | .ok _=>False | .error e=>E e s')
   ⟨(h.push {cls:=.type "tuple",data:=.seq rest.toArray}).push {cls:=.ref C,data:=.fields #[.ref h.objs.size,.none,.none,.none,.bool false,.none]},g,d,t,os⟩) (hrest:rest.length<=sizeLine):
  wpAny (model prog w) A (Builtin.«type.__call__» ⟨.ref C::rest,[]⟩) Q E ⟨h,g,d,t,os⟩:=by
 repeat (first | with_reducible refine Im hC ?_ | with_reducible refine wpAny_madeBy_exc hC ?_ | wp_step)
 refine codeAny_call_builtin_code (Gf _ F.quiet) (wpAny_check_new_subT F T hC ?_);refine codeAny_exc_new_subT F T hC ?_ hrest;show wpAny _ _ _ _ _ _;have hC₁:=Dz {cls:=.ref C,data:=.fields #[.ref h.objs.size,.none,.none,.none,.bool false,.none]} (Dz {cls:=.type "tuple",data:=.seq rest.toArray} hC);have hfI₁:=Dz {cls:=.ref C,data:=.fields #[.ref h.objs.size,.none,.none,.none,.bool false,.none]} (Dz {cls:=.type "tuple",data:=.seq rest.toArray} hfI);have hn₁:((h.push {cls:=.type "tuple",data:=.seq rest.toArray}).push {cls:=.ref C,data:=.fields #[.ref h.objs.size,.none,.none,.none,.bool false,.none]}).Ns N mN:=
  let ⟨o,es,ep,e,r⟩:=hn;⟨o,es,ep,Dz _ (Dz _ e),r⟩
 have hget:((h.push {cls:=.type "tuple",data:=.seq rest.toArray}).push
   {cls:=.ref C,data:=.fields #[.ref h.objs.size,.none,.none,.none,.bool false,.none]}).get? (h.objs.size+1)=some
   {cls:=.ref C,data:=.fields #[.ref h.objs.size,.none,.none,.none,.bool false,.none]}:=by heap_get
 have hcC:(Value.ref C::bm).contains (.ref C)=true:=by simp
 have T₁:=T.keeps (h':=(h.push {cls:=.type "tuple",data:=.seq rest.toArray}).push {cls:=.ref C,data:=.fields #[.ref h.objs.size,.none,.none,.none,.bool false,.none]})
  λb o e=>Dz _ (Dz _ e)
 unfold isInstance
 repeat (first | with_reducible refine Im hget ?_ | (with_reducible refine wpAny_isSubtype_exc hC₁ ?_;rw [hcC]) | wp_step)
 show wpAny _ _ (typeLookup (.ref C) _) _ _ _;refine wpAny_typeLookup_tail hC₁ hn₁ T₁ F.mroIs F.init.lookup ?_;rw [hi];refine Ey (Dw ?_);unfold bindSpecial;refine Dw (FY (T:="function") ⟨_,hfI₁,hfc⟩ ?_);rw [Ea (by decide)];refine Dy (Dw (Fy (Gx hq λr s' z=>?_)));cases r with
 | error e=>exact z
 | ok fl=>
  cases fl with
  | ret v=>
   obtain ⟨rfl,hQ⟩:=z
   wp_walk
   first | done | exact hQ
  | next=>exact z
  | brk=>exact z
  | cont=>exact z
theorem vE (F:ExcBaseFacts B newId initId bmB) (T:OwnTail h bmB bm) {mN:Str->Option Value} {rest:List Value} {fI:Addr} {oI:Obj} {Q:Value->Shared->Prop}
  (hC:h.get? C=some (excClassObj nm q C N bs bm hdct sn sub ab col dd k0 k1 k2 k3 k5 newId)) (hn:h.Ns N mN) (hi:mN "__init__"=some (.ref fI)) (hfI:h.get? fI=some oI) (hfc:oI.cls=.type "function")
  (hq:codeAny (model prog w) (A.under (.builtin "type.__call__" ⟨.ref C::rest,[]⟩)) (.call (.ref fI) ⟨.ref (h.objs.size+1)::rest,[]⟩) (λr s'=>match r with | .ok (.ret u)=>u=.none/\Q (.ref (h.objs.size+1)) s' | .ok _=>False | .error e=>E e s')
   ⟨(h.push {cls:=.type "tuple",data:=.seq rest.toArray}).push {cls:=.ref C,data:=.fields #[.ref h.objs.size,.none,.none,.none,.bool false,.none]},g,d,t,os⟩) (hrest:rest.length<=sizeLine):
  wpAny (model prog w) A (call (.ref C) rest) Q E ⟨h,g,d,t,os⟩:=by
 have f1:=tc_lookup;have f2:=tc_bind (.ref C);have hT:(⟨h,g,d,t,os⟩:Shared).TypeIs (.ref C) "type":=⟨_,hC,rfl⟩;refine Fy (IF ?_);show wpAny _ _ (callAny (.ref C) _) _ _ _
 repeat (any_goals (first | assumption | with_reducible refine Im hC ?_ | wp_step))
 refine ⟨rfl,?_⟩;exact codeAny_call_builtin_at (Gf _ (by decide +kernel)) entry_typeCall (wpAny_check_type_call_sub hC (kz F T hC hn hi hfI hfc hq hrest))
end
open PySem.W (findIn specialIn takesIn mroIn clsIn typeIn tailIn nsOkIn nsIn Looks)
def ExF (x C:Addr) (od:Option Addr) (h:Heap):Prop:= ∃ oe vs,h.get? x=some oe/\oe.cls=.ref C/\oe.data=.fields vs/\oe.dict=od/\vs[1]? =some .none
noncomputable def ExN (x C:Addr) (od:Option Addr):HO:=.ext (ExF x C od)
theorem sd {P:Program} {w:World} {H:Hp} {h:Heap} {x C:Addr} {od:Option Addr} (p:ExF x C od h):ObjOk P w H h x (ExN x C od):=by
 obtain ⟨oe,vs,e,p⟩:=p;exact ⟨⟨oe,vs,e,p⟩,⟨oe,e⟩,λh1 h2 ⟨o1,v1,a1,a2⟩ k=>⟨o1,v1,k o1 a1,a2⟩⟩
section
variable {X:Cx} {pins:List (Addr×Obj)} {σ:St} {H H':Hp} {s:Shared}
theorem Inv.put {h':Heap} {t:Nat} {as:List Addr} (I:Inv X pins σ H s) (ch: ∀ b,b∉as->H' b=H b) (k: ∀ b u,b∉as->s.heap.get? b=some u->h'.get? b=some u)
  (na: ∀ a∈as,s.heap.get? a=none\/ ∃ φ,H a=some (.ext φ)) (th: ∀ a∈as,∃ o,h'.get? a=some o) (ok: ∀ a∈as,∀ o,H' a=some o->ObjOk X.prog X.w H' h' a o):Inv X pins σ H' {s with heap:=h',toks:=t}:=by
 have out: ∀ b u,H b=some u->(∀ φ,u≠ .ext φ)->b∉as:=λb u e n z=>by
  rcases na b z with q | ⟨φ,q⟩
  ·rw [I.hok.none_of q]at e;cases e
  ·rw [q]at e;exact n φ (Ej e).symm
 have un:Un (frs X.stack) [] H H' s.heap h':=by
  have nas: ∀ b o,s.heap.get? b=some o->H b=none->b∉as:=λb o e n z=>by
   rcases na b z with q | ⟨φ,q⟩
   ·rw [q]at e;cases e
   ·rw [q]at n;cases n
  refine ⟨λb o e n _ _=>k b o (nas b o e n) e,λb o e n _ _=>⟨o.slots,k b o (nas b o e n) e⟩,λb o e n _=>by rw [ch b (nas b o e n)];exact n,λb o e _=>?_,λb xs e=>?_,λb o u e=>?_,λb ps e=>⟨#[],?_⟩⟩
  ·by_cases c:b∈as
   ·exact th b c
   ·exact ⟨o,k b o c e⟩
  ·rw [ch b (out b _ e λ_ z=>by cases z)];exact e
  ·rw [ch b (out b _ e λ_ z=>by cases z)];exact e
  ·rw [ch b (out b _ e λ_ z=>by cases z)];simpa using e
 have hok:HOk X.prog X.w H' h':=λa o e=>by
  by_cases c:a∈as
  ·exact ok a c o e
  ·rw [ch a c]at e;refine (I.hok a o e).stay (λb u hb q=>k b u ?_ q) (λb q=>?_) λb xs q=>?_
   ·rcases hb with z | z
    ·rw [z];exact c
    ·exact out b _ z λ_ z=>by cases z
   ·rw [ch b (out b _ q λ_ z=>by cases z)];exact q
   ·rw [ch b (out b _ q λ_ z=>by cases z)];exact q
 exact I.call (h':=h') (g':=s.gens) (d':=s.drawn) (t':=t) (ch:=[]) un hok I.bare (λb z=>absurd z (by simp))
end
section
variable {X:Cx} {CX:CXT} {k:Nat} {f C CB:Addr} {fd:FuncData} {ps:List Str} {sp:Sp} {E:XK} {x cb:Str} {p np ap pos:Pos} {e:Expr} {es:List Expr} {t:TA} {bmB:List Value} {newId initId B:String}
def AO (C:Addr) (sp:Sp) (E:XK) (t:TA):TE:=λσ H Q=>t σ H λvs H1=>vs.length<=sizeLine/\ ∀ x,H1 x=none->sp (.ref x::vs) (upd H1 x (ExN x C none)) (λv H2=>v=.non/\Q (.ref x) H2) E
theorem wZ (F0:ExcBaseFacts B newId initId bmB) (q0:ll X.K C f bmB newId=true) (hfn:typeIn X.K (.ref f)=some (.type "function")) (kp:W.keepIn X.K (.ref C)=true)
  (F:aX X.prog X.w X.K X.mg X.base CX k f fd ps sp) (hr:Room (k+1) X.A) (hg:Gl X x) (hm:X.mg x=some (.ref C)) (hb:Binds X.K fd ps []) (hx:lJ CX X E)
  (ha:PA X (e::es) t) (hdb:(x==("__debug__":Str))=false:=by decide) (he:starEach (e::es) X.env=(false,eval e X.env)::starEach es X.env:=by rfl) (hpl:(backTo pos (starEach es X.env)).any (·.1)=false:=by rfl):
  PE X (.Call (.Name x p) (e::es) [] pos) (AO C sp E t):=by
 intro pins s σ H Q I h;refine Fz (il I hg hm ?_ hdb);refine HY (h₀:=X.base) I.ok.mod.kin kp (thn (ha pos pins s σ H _ I h) λus s1 ⟨vs,H1,I1,r,hl,q⟩=>⟨I1.kIn,?_⟩) he hpl;obtain ⟨bm,N,nm,qn,bs,hd,sn,sub,ab,col,dd,k0,k1,k2,k3,k5,mN,hC,⟨hN,hni⟩,T⟩:=tJ I1.kIn q0;obtain ⟨oI,hfI,hfc⟩: ∃ oI,s1.heap.get? f=some oI/\oI.cls=.type "function":=by
  obtain ⟨o,ho,hc⟩:=Ez.mp hfn;exact ⟨o,I1.kIn _ _ ho,hc⟩
 have hq:=q (s1.heap.objs.size+1) (I1.hok.fresh (Ii _));have kk: ∀ b u,s1.heap.get? b=some u->((s1.heap.push {cls:=.type "tuple",data:=.seq us.toArray}).push {cls:=.ref C,data:=.fields #[.ref s1.heap.objs.size,.none,.none,.none,.bool false,.none]}).get? b=some u:=λb u e=>Dz _ (Dz _ e);have hget:((s1.heap.push {cls:=.type "tuple",data:=.seq us.toArray}).push {cls:=.ref C,data:=.fields #[.ref s1.heap.objs.size,.none,.none,.none,.bool false,.none]}).get? (s1.heap.objs.size+1)=some {cls:=.ref C,data:=.fields #[.ref s1.heap.objs.size,.none,.none,.none,.bool false,.none]}:=by heap_get
 have I2:Inv X pins σ (upd H1 (s1.heap.objs.size+1) (ExN (s1.heap.objs.size+1) C none)) {s1 with heap:=(s1.heap.push {cls:=.type "tuple",data:=.seq us.toArray}).push {cls:=.ref C,data:=.fields #[.ref s1.heap.objs.size,.none,.none,.none,.bool false,.none]},toks:=s1.toks}:=by
  refine I1.put (as:=[s1.heap.objs.size+1]) (λb hb=>aj λz=>hb (by rw [z];exact DF.mpr rfl)) (λb u _ e=>kk b u e) (λa ha=>?_) (λa ha=>?_) λa ha o eo=>?_ <;> rw [DF.mp ha]at *
  ·exact .inl (FX (Ii _))
  ·exact ⟨_,hget⟩
  ·rw [ae]at eo;cases eo;exact sd ⟨_,_,hget,rfl,rfl,rfl,rfl⟩
 have r2:Vals (V.ref (s1.heap.objs.size+1)::vs) (Value.ref (s1.heap.objs.size+1)::us):=.cons rfl r;have hl2:((Value.ref (s1.heap.objs.size+1)::us)++[]).length=ps.length:=by
  rw [En,<- r2.length];exact F.len _ _ _ _ hq
 have hb2:=hb _ (Value.ref (s1.heap.objs.size+1)::us) I2.kIn hl2;rw [En]at hb2;refine vE F0 T hC hN hni hfI hfc (Gx (F.run _ X.stack _ _ ⟨Value.ref (s1.heap.objs.size+1)::us,[]⟩ (Value.ref (s1.heap.objs.size+1)::us) _ _ E (hr.make C us []) (I2.env0.make C us []) hb2 r2 hq) λr s' hq'=>?_) (by show us.length<=_;rw [<- r.length];exact hl);cases r with
 | error e=>exact hx pins σ _ _ e s' I2 hq'
 | ok fl=>
  cases fl with
  | ret u=>
   obtain ⟨v,H',I3,rv,ev,q3⟩:=I2.after hq';subst ev;exact ⟨rv,V.ref (s1.heap.objs.size+1),H',I3,rfl,q3⟩
  | next=>exact False.elim hq'
  | brk=>exact False.elim hq'
  | cont=>exact False.elim hq'
end
open PySem.W (findIn specialIn takesIn mroIn clsIn typeIn tailIn nsOkIn nsIn Looks)
section
variable {X:Cx} {C CB f:Addr} {cb:Str} {np ap pos:Pos} {e:Expr} {es:List Expr} {t:TA} {bmB:List Value} {newId initId B:String}
def AU (C:Addr) (t:TA):TE:=λσ H Q=>t σ H λvs H1=>vs.length<=sizeLine/\ ∃ x r od,vs=.ref x::r/\H1 x=some (ExN x C od)/\Q .non H1
theorem xg {pl:Sem Bool} (F0:ExcBaseFacts B newId initId bmB) (q0:ll X.K C f bmB newId=true) (hg:Gl X cb) (hm:X.mg cb=some (.ref CB)) (hga:specialIn X.K (.ref CB) "__getattribute__"=some (some (.builtin "type.__getattribute__")))
  (hr:W.readsIn X.K CB (.type "type")=true) (hf:W.findCls X.K (.ref CB) (.type "type") "__init__"=some (.val (.builtin initId))) (hh:W.handedIn (.builtin initId)=true) (ha:PA X (e::es) t)
  (ht:eval (.Call (.Attribute (.Name cb np) "__init__" ap) (e::es) [] pos) X.env=(do
   let ov <- eval (.Name cb np) X.env
   standAt ap.atName
   let (f,first) <- holding [ov] (getMethod ov "__init__" pl)
   callWith pos f first (backTo pos (starEach (e::es) X.env)) (backToKw pos (keywordEach [] X.env))):=by rfl)
  (hdb:(cb==("__debug__":Str))=false:=by decide) (he:starEach (e::es) X.env=(false,eval e X.env)::starEach es X.env:=by rfl) (hpl:(backTo pos (starEach es X.env)).any (·.1)=false:=by rfl):
  PE X (.Call (.Attribute (.Name cb np) "__init__" ap) (e::es) [] pos) (AU C t):=by
 intro pins s σ H Q I h;refine W.methodCall_KW (pl:=pl) (il I hg hm ?_ hdb) ht;refine W.method_cls I.kIn hga (W.cls_value I.kIn hr hf hh ?_);have I0:Inv X pins σ H {s with toks:=s.toks+1}:=I.tok _;refine Ga (thn (ha pos pins _ σ H _ I0 h) λus s1 ⟨vs,H1,I1,r,hl,x,rv,od,ev,hx,q⟩=>?_) he hpl;subst ev;cases r with
 | @cons _ u _ us' r1 r2=>
  obtain rfl:u=Value.ref x:=r1;obtain ⟨bm,N,nm,qn,bs,hd,sn,sub,ab,col,dd,k0,k1,k2,k3,k5,mN,hC,⟨hN,hni⟩,T⟩:=tJ I1.kIn q0;obtain ⟨oe,ws,ho,hcls,hdt,hod,h1⟩:=(show ObjOk X.prog X.w H1 s1.heap x (ExN x C od)from I1.hok x _ hx).1;have hl2:us'.length<=sizeLine:=by rw [<- r2.length];exact Nat.le_of_succ_le hl
  have hsz:0<ws.size:=Nat.lt_trans Nat.zero_lt_one (Fk.mp h1).1;refine Fy (Fc F0.init.plain F0.initEntry (wpAny_check_init_subT F0 T hC ho hcls ?_));show wpAny _ _ (Builtin.«BaseException.__init__» ⟨.ref x::us',[]⟩) _ _ _;have e0:ws[0]? =some ws[0]:=by simp [hsz]
  have ho2:=Dz {cls:=.type "tuple",data:=.seq us'.toArray} ho;have I2:Inv X pins σ H1 {s1 with heap:=(s1.heap.push {cls:=.type "tuple",data:=.seq us'.toArray}).update x (Obj.mapFields (·.setIfInBounds 0 (.ref s1.heap.objs.size))),toks:=s1.toks}:=by
   have hd':=EM hdt (·.setIfInBounds 0 (Value.ref s1.heap.objs.size));have g1:=E3 (Obj.mapFields (·.setIfInBounds 0 (Value.ref s1.heap.objs.size))) ho2 (Fx hd');refine I1.put (as:=[x]) (λ_ _=>rfl) (λb u hb eb=>?_) (λa ha=>?_) (λa ha=>?_) λa ha o eo=>?_
   ·rw [E7 _ _ λz=>hb (by rw [z];exact DF.mpr rfl)];exact Dz _ eb
   ·rw [DF.mp ha];exact .inr ⟨_,hx⟩
   ·rw [DF.mp ha];exact ⟨_,g1⟩
   ·rw [DF.mp ha]at eo ⊢;rw [hx]at eo;cases eo;exact sd ⟨_,_,g1,(Gr _ _).trans hcls,hd',(mf _).trans hod,by simpa using h1⟩
  unfold Builtin.«BaseException.__init__» Builtin.BaseException.bexcPut;refine Dw (wpAny_newTuple ?_ hl2);refine Dw (Dw (E1 ho2 hdt e0 (Dw (Fi ho2 hdt hsz ?_))));have fin:EP X pins σ Q .none {s1 with heap:=(s1.heap.push {cls:=.type "tuple",data:=.seq us'.toArray}).update x (Obj.mapFields (·.setIfInBounds 0 (.ref s1.heap.objs.size))),toks:=s1.toks}:=⟨.non,H1,I2,rfl,q⟩;split
  ·exact wpAny_letGo (Dy fin)
  ·exact Dy (Dy fin)
end
open PySem.W (findIn specialIn takesIn mroIn clsIn typeIn tailIn nsOkIn nsIn Looks)
open PySem.Builtin PySem.Builtin.ObjectAttr
noncomputable def l9:List Value->Bool
 | .ref _::r=>l9 r
 | l=>l==[.type "ValueError",.type "Exception",.type "BaseException",.type "object"]
theorem dn {l:List Value} (h:l==[.type "ValueError",.type "Exception",.type "BaseException",.type "object"]):l=[.type "ValueError",.type "Exception",.type "BaseException",.type "object"]:=HA.mp h
theorem sT (self:Value): ∀ {l:List Value},l9 l=true->refuseLoop self "__setattr__" l=pure ()
 | .ref c::r,e=>by rw [refuseLoop_ref];exact sT self (l:=r) e
 | [],e=>by rw [dn e];exact PySem.F.store_ValueError.passes self
 | .type _::_,e=>by rw [dn e];exact PySem.F.store_ValueError.passes self
 | .none::_,e=>by rw [dn e];exact PySem.F.store_ValueError.passes self
 | .bool _::_,e=>by cases dn e
 | .int _ _::_,e=>by cases dn e
 | .float _ _::_,e=>by cases dn e
 | .str _ _::_,e=>by cases dn e
 | .builtin _::_,e=>by cases dn e
theorem l8: ∀ {l:List Value},l9 l=true->l.contains (.type "object")=true/\l.isEmpty=false
 | .ref c::r,e=>⟨by rw [List.contains_cons,(l8 (l:=r) e).1,Bool.or_true],rfl⟩
 | .type n::r,e=>by rw [dn e];exact ⟨by decide,rfl⟩
section
variable {prog:Program} {w:World} {A:Around} {E:Value->Shared->Prop} {K:W.Frag} {x C:Addr}
theorem zo {s:Shared} {o:Obj} {vs:Array Value} {name:Str} {tk:Tok} {v:Value} {R:Result->Shared->Prop} (X:K.In s.heap) (hx:s.heap.get? x=some o) (hc:o.cls=.ref C) (hd:o.data=.fields vs) (hn:o.dict=none)
  (hp:(clsIn K C).any (λcd=>l9 cd.mro)=true) (ht:W.takerIn K C name=some none) (hh:W.hasDictIn K C=true)
  (k: ∀ h' o',h'.get? x=some o'->o'.cls=.ref C->o'.data=.fields vs->o'.dict=some s.heap.objs.size->h'.Ns1 s.heap.objs.size (λy=>if y=name then some v else none)->(∀ b u,b≠x->s.heap.get? b=some u->h'.get? b=some u)-> ∀ t,R (.ok (.ret .none)) {s with heap:=h',toks:=t}):
  codeAny (model prog w) A (.call (.builtin "object.__setattr__") ⟨[.ref x,.str name tk,v],[]⟩) R s:=by
 have J:W.InstAt s.heap x o C none:=⟨hx,hc,by unfold W.notCls;rw [hd],by rw [hn];trivial⟩;have SF:=PySem.F.store_object;obtain ⟨cd,hcd,ho⟩:=W.any_some hp;obtain ⟨oc,oe⟩:=l8 ho;have sub:Looks (model prog w) s.heap (isInstance (.ref x) (.type "object")) true:=J.type.andThen (HK X (by unfold W.mroIn;rw [hcd,Option.bind_some,DU (by rw [oe];decide),oc]));refine Fc SF.slot.plain SF.entry (@W.check_slot (model prog w) _ _ s "object.__setattr__" "object" "__setattr__" (.ref x) [.str name tk,v] [] _ SF.kind SF.split sub (SF.args (.ref x) (.str name tk) v) ?_);obtain ⟨attr,ha,hr⟩:=Option.bind_eq_some_iff.mp ht;have hm:Looks (model prog w) s.heap (mroOf (.ref C)) cd.mro:=(W.looks_clsIn X hcd).andThen .now;have L3:Looks (model prog w) s.heap (storeTaker? attr) none:=by
  cases attr with
  | none=>exact .now
  | some a=>
   obtain ⟨b,hb,hbb⟩:=Ez.mp hr;refine (W.looks_takesIn X hb).andThen ?_;cases b
   ·exact .now
   ·cases hbb
 rw [W.osa_eq,refuse_eq];refine Dw (Dw (J.type.here (Dw (hm.here ?_))));rw [sT _ ho];refine Dy (Dw (J.type.here (Dw ((HG X ha).here (Dw (L3.here ?_))))));obtain ⟨cd',hc',hd'⟩:=W.any_some hh;obtain ⟨oc,od,odt,osl⟩:=o;dsimp only at hc hd hn;subst hc hd hn;refine Dw (Dy (Dw (Dw (wpAny_loadPart hx (Dw ((W.looks_clsIn X hc').here ?_))))));rw [hd'];obtain ⟨h,g,d,t,os⟩:=s;dsimp only at hx k;have hx₁:(h.push {cls:=.type "dict",data:=.dict #[]}).get? x=some ⟨.ref C,none,.fields vs,osl⟩:=Dz _ hx;have hxs:x≠h.objs.size:=Eg (DR hx);rw [DU (by simp)];dsimp only;rw [DU (by simp [typeHasDict])];refine Dw (wpAny_alloc' ?_);refine Dw (wpAny_update' hx₁ ?_);have hgd:((h.push {cls:=.type "dict",data:=.dict #[]}).update x λo=>{cls:=o.cls,dict:=some h.objs.size,data:=o.data,slots:=o.slots}).get? h.objs.size=some {cls:=.type "dict",data:=.dict #[]}:=
  (Heap.get?_update_ne _ _ _ _ hxs.symm).trans (Heap.get?_push_at rfl rfl)
 have hnd:((h.push {cls:=.type "dict",data:=.dict #[]}).update x λo=>{cls:=o.cls,dict:=some h.objs.size,data:=o.data,slots:=o.slots}).Ns h.objs.size (λ_=>none):=
  ⟨_,#[],_,hgd,rfl,λe he=>absurd he (by simp),λ_=>rfl⟩
 have hx2:=E3 (λo=>{cls:=o.cls,dict:=some h.objs.size,data:=o.data,slots:=o.slots}) hx₁ rfl;refine Dy ?_;show wpAny _ _ (storeInDict h.objs.size (.str name tk) name v) _ _ _;unfold storeInDict newKeyGuard;refine Dw (Dy (Dw (wpAny_nsSet1 (Heap.Ns1.of_empty hnd) λh' hn' hs=>?_)));obtain ⟨oD,esD,epD,hoD,hdD,hcD⟩:=hn'.count (Within.cons name v Within.nil);refine Dw (wpAny_lookBehind hoD (by rw [hdD];exact pastItsLine_dict (Eh hcD (by rw [DJ,List.length_nil,sizeLine_eq];lia))) ?_)
 wp_walk
 exact k h' _ ((hs.2 x hxs).trans hx2) rfl rfl rfl hn' (λb u hb e=>(hs.2 b (Eg (DR e))).trans ((Heap.get?_update_ne _ _ _ _ hb).trans (Dz _ e))) _
end
open PySem.W (findIn specialIn takesIn mroIn clsIn typeIn tailIn nsOkIn nsIn Looks)
open PySem.Builtin PySem.Builtin.ObjectAttr
noncomputable def del (H:Hp) (x:Addr):Hp:=λb=>if b=x then none else H b
theorem qj {H:Hp} {x:Addr}:del H x x=none:=Ea rfl
theorem si {H:Hp} {x b:Addr} (h:b≠x):del H x b=H b:=DU h
structure yL (K:W.Frag) (C:Addr) (fl:Str):Prop where
 sa:findIn K (.ref C) "__setattr__"=some (some (.builtin "object.__setattr__"))
 ov:(clsIn K C).any (λcd=>l9 cd.mro)=true
 na:findIn K (.ref C) fl=some none
 hd:W.hasDictIn K C=true
section
variable {X:Cx} {C:Addr} {fl:Str} {o value:Expr} {pos pos':Pos} {ta tv:TE}
def B3 (C:Addr) (fl:Str) (ta tv:TE):TS:=λD σ H=>tv σ H λy H1=>ta σ H1 λv H2=> ∃ x,v=.ref x/\H2 x=some (ExN x C none)/\ ∀ d,H2 d=none->d≠x->D.nx σ (upd (upd H2 x (ExN x C (some d))) d (.xd [(fl,y)]))
theorem zf (Z:yL X.K C fl) (ha:PE X o ta) (hv:PE X value tv) (hs:swapsWith value (some (.Attribute o fl pos')) pos.line X.env=pure false):PS X (.Assign [.Attribute o fl pos'] value pos) (B3 C fl ta tv):=by
 intro pins s σ H D I h;refine plainObj_wpAny_Assign_Attribute (thn (hv pins s σ H _ I h) λu s1 ⟨y,H1,I1,ry,q⟩=>thn (ha pins s1 σ H1 _ I1 q) λov s2 ⟨v,H2,I2,rx,x,ev,hx,q2⟩=>?_) hs;subst ev;obtain rfl:ov=Value.ref x:=rx;obtain ⟨oe,ws,ho,hcls,hdt,hod,h1⟩:=(show ObjOk X.prog X.w H2 s2.heap x (ExN x C none)from I2.hok x _ hx).1;have hxs:s2.heap.objs.size≠x:=Ge (DR ho);have hD:H2 s2.heap.objs.size=none:=I2.hok.fresh (DI _);have J:W.InstAt s2.heap x oe C none:=⟨ho,hcls,by unfold W.notCls;rw [hdt],by rw [hod];trivial⟩;have ht:W.takerIn X.K C fl=some none:=by unfold W.takerIn;rw [Z.na];rfl
 refine W.set_plain I2.kIn J Z.sa (zo (s:={s2 with toks:=s2.toks+1}) I2.kIn ho hcls hdt hod Z.ov ht Z.hd λh' o' e1 e2 e3 e4 hn kp t=>?_);refine ⟨σ,_,(I2.tok (s2.toks+1)).put (as:=[x,s2.heap.objs.size]) (h':=h') (t:=t) (λb hb=>?_) (λb u hb e=>?_) (λa ha=>?_) (λa ha=>?_) (λa ha oo eo=>?_),q2 _ hD hxs⟩
 ·rw [aj λz=>hb (by rw [z];simp),aj λz=>hb (by rw [z];simp)]
 ·exact kp b u (λz=>hb (by rw [z];simp)) e
 ·rcases DK.mp ha with z | z
  ·rw [z];exact .inr ⟨_,hx⟩
  ·rw [DF.mp z];exact .inl (FX (DI _))
 ·rcases DK.mp ha with z | z
  ·rw [z];exact ⟨_,e1⟩
  ·rw [DF.mp z];obtain ⟨od,_,_,e,_⟩:=hn;exact ⟨_,e⟩
 ·rcases DK.mp ha with z | z
  ·rw [z,aj (EI hxs),ae]at eo;cases eo;rw [z];exact sd ⟨_,_,e1,e2,e3,e4,h1⟩
  ·rw [DF.mp z,ae]at eo;cases eo;rw [DF.mp z];refine ⟨_,hn,λf=>?_⟩;by_cases c:f=fl
   ·subst c;show RelO (List.lookup f [(f,y)]) (if f=f then some u else none);rw [Ea rfl,List.lookup_cons_self];exact ry
   ·rw [DU c];show RelO (match f==fl with | true=>some y | false=>none) none;rw [Fn.mpr c];trivial
end
structure RaC (K:W.Frag) (C:Addr):Prop where
 m:mroIn K C (.type "BaseException")=some true
 ty:typeIn K (.ref C)=some (.type "type")
section
variable {X:Cx} {C:Addr} {e:Expr} {pos:Pos} {te:TE} {E:XK}
theorem notType {M:Model} {h:Heap} {x:Addr} {o:Obj} (ho:h.get? x=some o) (hn:W.notCls o=true):Looks M h (isType (.ref x)) false:=by
 intro A Q E s k q;unfold isType loadHead;refine Dw (wpAny_loadPart (k _ _ ho) ?_);obtain ⟨c,d,dt,sl⟩:=o;cases dt <;> first | exact Dy q | cases hn
def yQ (C:Addr) (Hs:Hp) (E:XK) (te:TE):TS:=λ_ σ H=>te σ H λv H1=> ∃ x od,v=.ref x/\H1 x=some (ExN x C od)/\Hs x=none/\E (.ref C) od (del H1 x)
theorem uD {Hs:Hp} (hc:X.calm=true) (Z:RaC X.K C) (he:PE X e te)
  (hx: ∀ (pins:List (Addr×Obj)) (σ:St) (H:Hp) (s:Shared) (x:Addr) (od:Option Addr),Inv X pins σ H s->H x=some (ExN x C od)->Hs x=none->E (.ref C) od (del H x)->X.xe (.ref x) s):
  PS X (.Raise (some e) none pos) (yQ C Hs E te):=by
 intro pins s σ H D I h;rw [arm_exec_Raise];refine Dw (Gk ?_);unfold raiseStmt;refine Dw ?_;show wpAny _ _ (do let v <- eval e X.env;standAt pos;pure v) _ _ _;refine Dw (thn (he pins s σ H _ I h) λu s1 ⟨v,H1,I1,r,x,od,ev,hx1,hs,q⟩=>Dw (Gk (Dy ?_)));subst ev;obtain rfl:u=Value.ref x:=r;obtain ⟨oe,ws,ho,hcls,hdt,hod,h1⟩:=(show ObjOk X.prog X.w H1 s1.heap x (ExN x C od)from I1.hok x _ hx1).1;have hn:W.notCls oe=true:=by unfold W.notCls;rw [hdt]
 have L0:Looks (model X.prog X.w) s1.heap (typeOf (.ref x)) (.ref C):=hcls▸(Looks.ld (part:=some headPart) ho).andThen .now;have L1:Looks (model X.prog X.w) s1.heap (isExcClass (.ref x)) false:=(notType ho hn).andThen .now;have L2:Looks (model X.prog X.w) s1.heap (isInstance (.ref x) (.type "BaseException")) true:=L0.andThen (HK I1.kIn Z.m);have L3:=W.looks_typeIn (M:=model X.prog X.w) I1.kIn Z.ty;refine Dw (Dy (Dw (Ey ?_)));unfold excFromValue;refine Dw (L1.here ?_);rw [DU (by decide)];refine Dw (L2.here ?_);rw [Ea rfl];refine Dy ?_;refine Dw ((notType ho hn).here ?_);rw [DU (by decide)];unfold raisedInstance;refine Dw (Dw (L0.here (Dw (L3.here ?_))));rw [Ea (by decide)];refine Dy ?_;unfold setFlight;refine Dw (Dw (E1 ho hdt h1 ?_));rw [DU (by decide)];exact Dy (wpAny_raiseNew_none (I1.ok.hd hc) (hx pins σ H1 s1 x od I1 hx1 hs q))
end
section
variable {P:Program} {w:World} {K:W.Frag} {mg:Str->Option Value} {base:Heap} {N:List Str} {qual:Str} {scope:Scope} {f:Addr} {cd:Value} {A:Around} {outer:List Env} {s:Shared} {H:Hp} {E:XK} {C:Addr}
theorem rX {CX:CXT} {pins:List (Addr×Obj)} {σ:St} {H1:Hp} {s1:Shared} {x:Addr} {od:Option Addr} (I:Inv (dv CX P w K mg base N qual scope f cd A outer s H E) pins σ H1 s1)
  (hx:H1 x=some (ExN x C od)) (hs:H x=none) (q:E (.ref C) od (del H1 x)) (hi: ∀ e s',CX1 P w C outer H s E e s'->CX outer H s E e s':=by exact λ_ _ z=>z):(dv CX P w K mg base N qual scope f cd A outer s H E).xe (.ref x) s1:=by
 obtain ⟨oe,ws,ho,hcls,hdt,hod,h1⟩:=(show ObjOk P w H1 s1.heap x (ExN x C od)from I.hok x _ hx).1;have nx:s.heap.get? x=none:=by
  cases r:s.heap.get? x with
  | none=>rfl
  | some o=>rw [I.base.free x o r hs (by intro z;cases z)]at hx;cases hx
 have J:Inv (dv CX P w K mg base N qual scope f cd A outer s H E) pins σ (del H1 x) {s1 with heap:=s1.heap,toks:=s1.toks}:=by
  refine I.put (as:=[x]) (λb hb=>si λz=>hb (by rw [z];simp)) (λb u _ e=>e) (λa ha=>?_) (λa ha=>?_) λa ha o eo=>?_ <;> rw [DF.mp ha]at *
  ·exact .inr ⟨_,hx⟩
  ·exact ⟨_,ho⟩
  ·rw [qj]at eo;cases eo
 exact pW (base:=base) J.ok.frames J.stack rfl ho hcls hod hdt h1 λh2 L=>hi _ _ (Ae J qj nx (λ_ z=>absurd z (by simp)) L q)
end
open PySem.W (findIn specialIn takesIn mroIn clsIn typeIn Looks)
open PySem.Builtin PySem.Builtin.ObjectAttr
section
variable {prog:Program} {w:World} {A:Around} {E:Value->Shared->Prop} {K:W.Frag} {x C:Addr} {ox:Obj} {od:Option Obj} {name:Str} {v:Value}
theorem vH {s:Shared} {tk:Tok} {Q:Fin->Shared->Prop} (X:K.In s.heap) (I:W.InstAt s.heap x ox C od) (hf:W.findObj K C od name=some (.value v)) (h:Q (.done (.ret v)) s):
  wpAny (model prog w) A (Builtin.«object.__getattribute__» ⟨[.ref x,.str name tk],[]⟩) Q E s:=by
 obtain ⟨hh,g,dr,t,os⟩:=s;have L0:=I.type (M:=model prog w);have L1:=W.looks_find (M:=model prog w) X I hf;unfold Builtin.«object.__getattribute__»;refine Dw (Dy ?_);refine Dw (Dy ?_);refine Dw (L0.at ?_);refine Dw (L1.at ?_);exact Dy h
theorem BN {s:Shared} {tk:Tok} {R:Result->Shared->Prop} (X:K.In s.heap) (hb:mroIn K C (.type "BaseException")=some true) (I:W.InstAt s.heap x ox C od) (hf:W.findObj K C od name=some (.value v)) (h:R (.ok (.ret v)) s):
  codeAny (model prog w) A (.call (.builtin "BaseException.__getattribute__") ⟨[.ref x,.str name tk],[]⟩) R s:=by
 refine Fc PySem.F.attr_ValueError.ga.plain PySem.F.entry_bexc_ga ?_;have L2:Looks (model prog w) s.heap (isInstance (.ref x) (.type "BaseException")) true:=I.type.andThen (HK X hb);have hk:builtinKind "BaseException.__getattribute__"=some .slot:=by decide +kernel
 have hsp:splitId "BaseException.__getattribute__"=some ("BaseException","__getattribute__"):=by decide +kernel
 have ha:=PySem.F.args_bexc_ga (.ref x) (.str name tk);simp only [checkBuiltinCall,hk,hsp];refine Dw (L2.at ?_);rw [DU (by decide)]
 repeat (first | exact vH X I hf h | wp_step)
theorem AH {s:Shared} {expr:Bool} {Q:Value->Shared->Prop} (X:K.In s.heap) (Z:ExC K C) (I:W.InstAt s.heap x ox C od) (hf:W.findObj K C od name=some (.value v)) (hh:W.handedIn v=true)
  (h:Q v {s with toks:=s.toks+1}):wpAny (model prog w) A (getAttr (.ref x) name expr) Q E s:=by
 obtain ⟨hp,g,d,t,os⟩:=s;have L0:=I.type (M:=model prog w);have L1:=HG (M:=model prog w) X Z.ga;have L2:Looks (model prog w) hp (typeLookup (.ref C) "__getattr__") none:=HG X Z.gno;unfold getAttr getAttrBy;refine Dw (wpAny_mkText (Ey (Dw (L0.at (Dw (L1.at ?_))))));have hn0:(Value.builtin "BaseException.__getattribute__"==Value.builtin "object.__getattribute__")=false:=by decide +kernel
 have hne:(onTheHeap (Value.ref C)&&Value.builtin "BaseException.__getattribute__"==Value.builtin "object.__getattribute__")=false:=by rw [hn0];rfl
 simp only [hne];rw [DU (by decide)];unfold getAttrByItsOwn hookBefore callGetattribute boundAndCalled;rw [Ea (show onTheHeap (Value.ref C)=true from rfl)];refine Dw (Looks.at (h:=hp) L2 (Dw (Gm (Ey ?_))));rw [show (expr&&onTheHeap (Value.builtin "BaseException.__getattribute__"))=false from DE _,DU (by decide),PySem.F.attr_ValueError.ga.bind (.ref x)];refine Dw (Dy (Fy (BN (s:=⟨hp,g,d,t+1,os⟩) X Z.ba I hf ?_)));show wpAny _ _ (handedOut v) _ _ _;rw [W.handedOut_of hh];exact Dy h
end
section
variable {X:Cx} {C:Addr} {fl:Str} {o:Expr} {pos:Pos} {ta:TE}
def BQ (C:Addr) (fl:Str) (ta:TE):TE:=λσ H Q=>ta σ H λv H1=> ∃ x d fs y,v=.ref x/\H1 x=some (ExO x C (some d))/\H1 d=some (.xd fs)/\fs.lookup fl=some y/\Q y H1
theorem zk (Z:ExC X.K C) (S:yL X.K C fl) (he:PE X o ta) (hb:attributeBase o fl X.env (eval o X.env)=eval o X.env):PE X (.Attribute o fl pos) (BQ C fl ta):=by
 intro pins s σ H Q I h;refine An hb (thn (he pins s σ H _ I h) λu s1 ⟨v,H1,I1,rv,x,d,fs,y,ev,hx,hd,hl,q⟩=>?_);subst ev;obtain rfl:u=Value.ref x:=rv;obtain ⟨oe,ws,ho,hcls,hdt,hod⟩:=(show ObjOk X.prog X.w H1 s1.heap x (ExO x C (some d))from I1.hok x _ hx).1;obtain ⟨mA,hn,hr⟩:=(show ObjOk X.prog X.w H1 s1.heap d (.xd fs)from I1.hok d _ hd);obtain ⟨dO,hdO,hlk⟩:=mh hn;have hy:=hr fl;rw [hl]at hy;obtain ⟨u,eu,ru⟩:=RelO.some_of hy;have J:W.InstAt s1.heap x oe C (some dO):=⟨ho,hcls,by unfold W.notCls;rw [hdt],by rw [hod];exact hdO⟩;exact AH I1.kIn Z J (W.findObj_own S.hd S.na rfl (by rw [hlk,eu])) (vn ru) ⟨y,H1,I1.tok _,ru,q⟩
end
end L2
namespace My
open PySem L2
noncomputable def BE (s:Stmt):Stmt:=match s with
 | .ClassDef _ _ _ b _ _ _ _ _ _ _=>b.getD 0 s
 | s=>s
noncomputable abbrev qQ:Stmt:=BE (top 3)
def sK (C:Addr):Sp:=λvs H Q _=> ∃ x nm,vs=[.ref x,.str nm]/\H x=some (ExN x C none)/\ ∀ d,H d=none->d≠x->Q .non (upd (upd H x (ExN x C (some d))) d (.xd [("fault",.str nm)]))
def qG (CT:Addr):Sp:=λvs H Q E=> ∃ v x d,vs=[v]/\RepT H x v/\sB x d/\(d=none-> ∀ H',Same H H'->Q .non H')/\ ∀ z,d=some z-> ∀ dd H',Same H H'->H' dd=some (.xd [("fault",.str z)])->E (.ref CT) (some dd) H'
noncomputable abbrev bmV:List Value:=[.type "ValueError",.type "Exception",.type "BaseException",.type "object"]
theorem yX:av ["self","fault"] ["self","fault"] (ah qQ):=fsc
theorem xm {CT CB:Addr} (F:Fun K "__init__" "NoBook.__init__" qQ f fd) (mB:mg "BoughError"=some (.ref CB)) (q0:ll K CT f bmV "ValueError.__new__"=true)
  (hga:W.specialIn K (.ref CB) "__getattribute__"=some (some (.builtin "type.__getattribute__"))) (hrd:W.readsIn K CB (.type "type")=true) (hf:W.findCls K (.ref CB) (.type "type") "__init__"=some (.val (.builtin "ValueError.__init__"))) (Z:yL K CT "fault"):
  aX P w K mg base CX0 1 f fd ["self","fault"] (sK CT):=by
 refine F.okz yX λcdv A outer s H vs Q E hr h=>?_;obtain ⟨x,nm,rfl,hx,q⟩:=h;refine ⟨_,ad (bP (xg PySem.F.excBase_ValueError q0 rfl mB hga hrd hf (by decide +kernel) (aa (pv 0) (aa (pv 1) ac)))) (ai (zf Z (pv 0) (pv 1) rfl)),?_⟩;refine ⟨_,rfl,_,rfl,gH,x,_,none,rfl,hx,?_⟩;exact ⟨_,rfl,_,rfl,x,rfl,hx,λd h1 h2=>q d h1 h2⟩
structure TgC (P:Program) (w:World) (K:W.Frag) (mg:Str->Option Value) (base:Heap) (CT fT:Addr) (fdT:FuncData):Prop where
 m:mg "NoBook"=some (.ref CT)
 q0:ll K CT fT bmV "ValueError.__new__"=true
 ft:W.typeIn K (.ref fT)=some (.type "function")
 kp:W.keepIn K (.ref CT)=true
 F:aX P w K mg base CX0 1 fT fdT ["self","fault"] (sK CT)
 b:Binds K fdT ["self","fault"] []
 r:RaC K CT
theorem vw {H H1:Hp} {x d:Addr} {o o1 o2:HO} (s:Same H H1) (hx:H1 x=none) (hd:H1 d=none) (hdx:d≠x):Same H (del (upd (upd (upd H1 x o) x o1) d o2) x):=λb u e=>by
 have e1:=s _ _ e;have n1:b≠x:=λz=>by rw [z,hx]at e1;cases e1
 have n2:b≠d:=λz=>by rw [z,hd]at e1;cases e1
 rw [si n1,aj n2,aj n1,aj n1];exact e1
theorem scNeed:av ["thing","fault"] ["thing"] (ah wD):=fsc
theorem zC {CT fT:Addr} {fdT:FuncData} (F:Fun K "need_book" "need_book" wD f fd) (T:TgC P w K mg base CT fT fdT)
  (GW:Cl P w K mg base CX0 7 f2 fd2 ["thing"] sJ "why_no_book"):
  aX P w K mg base (CX1 P w CT) 8 f fd ["thing"] (qG CT):=by
 refine F.ok1 scNeed (λvs H Q E h=>?_) (λcdv A outer s H vs Q E hr h=>?_)
 ·obtain ⟨v,x,d,rfl,_⟩:=h;rfl
 obtain ⟨v,x,d,rfl,hx,hd,qN,qE⟩:=h;have hr2:=hr.mono (show 2<=7 by decide);refine ⟨_,ad (psz 1 scNeed.nd (pcl GW hr (aa (pv 0) ac)))
  (ai (aS (aG nW (pv 1) eL (aJ _))
   (ai (uD (Hs:=H) (E:=E) rfl T.r (wZ PySem.F.excBase_ValueError T.q0 T.ft T.kp T.F hr2 rfl T.m T.b sV (aa (pv 1) ac)) λpins σ H1 s1 x od I hx hs z=>rX I hx hs z)) aE)),?_⟩
 refine ⟨_,rfl,v,x,d,rfl,hx,hd,λH1 s1=>?_⟩;refine ⟨_,rfl,rfl,_,rfl,?_⟩;cases d with
 | none=>exact bx (qN rfl H1 s1)
 | some z=>
  refine bE ⟨_,rfl,qK,λy hy=>?_⟩;refine ⟨y,_,rfl,ae,λdd hdd hne=>⟨rfl,y,some dd,rfl,by rw [aj (EI hne),ae],s1.free hy,?_⟩⟩;rw [aj hne]at hdd;exact qE z rfl dd _ (vw s1 hy hdd hne) (by rw [si hne,ae])
abbrev ThL (tp:Addr) (H:Hp) (x:Th) (v:V):Prop:=RepT (fD tp H) x v
theorem aq {tp:Addr} {H H':Hp} (k:Kp tp H H'):SameH (fD tp H) (fD tp H'):=λb o h=>by
 unfold fD at h ⊢;split at h
 ·cases h
 ·rename_i hb;rw [DU hb];exact k _ _ h hb
theorem thl {tp:Addr} {H:Hp} {x:Th} {v:V} (h:ThL tp H x v):RepT H x v:=h.mono ((a5 tp).sub H)
theorem aN {tp a:Addr} {H:Hp} {o:HO} (h:fD tp H a=some o):H a=some o/\a≠tp:=by
 unfold fD at h;split at h
 ·cases h
 ·rename_i hb;exact ⟨h,hb⟩
theorem eY {tp a:Addr} {H:Hp} {o:HO} (h:H a=some o) (n:a≠tp):fD tp H a=some o:=by rw [tF n];exact h
theorem aP {tp:Addr} {H:Hp} (h:Tp H tp):(a5 tp).ok H:=λe=>by
 obtain ⟨t,ht⟩:=h;rw [ht]at e;cases e
theorem RepTs.pick {H:Hp} {l:List Th} {vs:List V} (h:RepTs H l vs) {d:Int} (h0:0<=d) (h1:d< (l.length:Int)): ∃ x u,x∈l/\l[d.toNat]? =some x/\atI vs d=some u/\RepT H x u:=by
 have hlt:d.toNat<l.length:=by lia
 obtain ⟨u,hu,r⟩:=h.get (DD hlt);have e:d=((d.toNat:Nat):Int):=by lia
 exact ⟨l[d.toNat],u,IB hlt,DD hlt,by rw [e];exact aM hu,r⟩
theorem ay {g:Expr->Option Th} {e:Expr} {r:List Expr} {c:Th} {l:List Th} (h:g e=some c) (k:evs g r=some l):evs g (e::r)=some (c::l):=by
 unfold evs;rw [h,k]
theorem dN {w:Bool} {N:List Str} {en:List (Option Th)} {n:Nat} {es:List Expr} {l:List Th} {c:Nat} {p:Pos} (k:evs (evE w N en n) es=some l) (h:es.length<=100:=by decide):evE w N en (n+1) (.Tuple es c p)=some (.t l):=by
 show (if es.length<=100 then (evs (evE w N en n) es).map Th.t else none)=_;rw [Ea h,k];rfl
theorem gV {w:Bool} {N:List Str} {en:List (Option Th)} {n:Nat} {es:List Expr} {l:List Th} {p:Pos} (k:evs (evE w N en n) es=some l) (h:es.length<=100:=by decide):evE w N en (n+1) (.List es p)=some (.l l):=by
 show (if es.length<=100 then (evs (evE w N en n) es).map Th.l else none)=_;rw [Ea h,k];rfl
theorem cF {w:Bool} {N:List Str} {en:List (Option Th)} {n:Nat} {a b:Expr} {x y:List Th} {p:Pos} (h1:evE w N en n a=some (.t x)) (h2:evE w N en n b=some (.t y)) (h:x.length+y.length<=1000):evE w N en (n+1) (.BinOp a .Add b p)=some (.t (x++y)):=by
 show ((evE w N en n a).bind λx=>(evE w N en n b).bind λy=>opT .Add x y)=_;rw [h1,h2];show (if x.length+y.length<=1000 then some (Th.t (x++y))else none)=_;rw [Ea h]
theorem gm {w:Bool} {N:List Str} {en:List (Option Th)} {n:Nat} {a b:Expr} {x y:List Th} {p:Pos} (h1:evE w N en n a=some (.l x)) (h2:evE w N en n b=some (.l y)) (h:x.length+y.length<=1000):evE w N en (n+1) (.BinOp a .Add b p)=some (.l (x++y)):=by
 show ((evE w N en n a).bind λx=>(evE w N en n b).bind λy=>opT .Add x y)=_;rw [h1,h2];show (if x.length+y.length<=1000 then some (Th.l (x++y))else none)=_;rw [Ea h]
theorem jL {w:Bool} {N:List Str} {en:List (Option Th)} {n:Nat} {a:Expr} {y:Str} {l:List Th} {k:Int} {x:Th} {p p':Pos} (h1:evE w N en n a=some (.t l)) (h2:evE w N en n (.Name y p')=some (.i k)) (h:atI l k=some x):evE w N en (n+1) (.Subscript a (.Name y p') p)=some x:=by
 show ((evE w N en n a).bind λx=>(evE w N en n (.Name y p')).bind λz=>ixI x z)=_;rw [h1,h2];exact h
theorem gk {w:Bool} {N:List Str} {en:List (Option Th)} {n:Nat} {a:Expr} {l:List Th} {k:Int} {x:Th} {j:Nat} {p p':Pos} (h1:evE w N en (n+1) a=some (.t l)) (h:atI l k=some x):evE w N en (n+2) (.Subscript a (.Constant (.int k) j p') p)=some x:=by
 show ((evE w N en (n+1) a).bind λx=>(some (Th.i k)).bind λz=>ixI x z)=_;rw [h1];exact h
theorem vz {α:Type} (l:List α) (k:Nat):iJ l none (some (k:Int))=l.take k:=by
 unfold iJ;rw [show HT.sIx l.length l.length (some (k:Int))=min k l.length from HT.sIx_nat _ _ k,HT.sIx_none,List.drop_zero,Nat.sub_zero];by_cases h:k<=l.length
 ·rw [Gi h]
 ·rw [Nat.min_eq_right (by lia),EX,EL (by lia)]
theorem gW {w:Bool} {N:List Str} {en:List (Option Th)} {n:Nat} {a:Expr} {l:List Th} {k j:Nat} {p p1 p2:Pos} (h1:evE w N en n a=some (.t l)):evE w N en (n+1) (.Subscript a (.Slice none (some (.Constant (.int (k:Int)) j p1)) none p2) p)=some (.t (l.take k)):=by
 show ((evE w N en n a).bind λx=>qk x none (some (k:Int)))=_;rw [h1];show some (Th.t (iJ l none (some (k:Int))))=_;rw [vz]
theorem se {w:Bool} {N:List Str} {en:List (Option Th)} {n:Nat} {a:Expr} {x:Th} {k:Int} {j:Nat} {p p':Pos} (h1:evE w N en (n+1) a=some (.t [x])) (h:2<=k/\k<=1000:=by decide):evE w N en (n+2) (.BinOp a .Mult (.Constant (.int k) j p') p)=some (.t (List.replicate k.toNat x)):=by
 show ((evE w N en (n+1) a).bind λx=>(some (Th.i k)).bind λy=>opT .Mult x y)=_;rw [h1];exact Ea h
def qH:Sp:=λvs H Q _=> ∃ tp,vs=[.ref tp]/\Tp H tp/\ ∀ x v H',bt x=false->ThL tp H' x v->Kp tp H H'->Tp H' tp->Q v H'
def eh:Sp:=λvs H Q _=> ∃ (W:qr) (t:V) (k:Int) (v:V) (l:List Th) (x:Th),vs=[t,.int k,v]/\W.ok H/\RepT (W.φ H) (.t l) t/\RepT (W.φ H) x v/\0<=k/\k< (l.length:Int)/\ ∀ u H',Same H H'->RepT (W.φ H') (.t (l.set k.toNat x)) u->Q u H'
noncomputable def badThs:List Th:=[.s "",.s "abcdefghi",.s "Ab",.s "a1",.i 3,.non,.t [.s "a"],.bl true]
theorem yG: ∀ x∈badThs,bt x=false:=by
 have h:badThs.all (λx=> !bt x)=true:=by decide +kernel
 intro x hx;have:=Ed.mp h x hx;simpa using this
theorem RepTs.set {H:Hp} {x:Th} {v:V} (r:RepT H x v): ∀ {l:List Th} {vs:List V} (j:Nat),RepTs H l vs->RepTs H (l.set j x) (vs.set j v)
 | [],_,_,h=>by cases h;exact .nil
 | _::_,_,0,h=>by cases h with | cons a b=>exact .cons r b
 | _::_,_,j+1,h=>by cases h with | cons a b=>exact .cons a (RepTs.set r j b)
theorem A0:av ["tape"] ["tape"] (ah sP):=fsc
theorem AJ:j0 (ah sP) ["tape"]=true:=by decide +kernel
theorem zD (F:Fun K "_law_bad" "_law_bad" sP f fd) (GD:Cl P w K mg base CX0 1 f2 fd2 ["tape","many"] br "_law_digit"):
  aX P w K mg base CX0 2 f fd ["tape"] qH:=by
 refine F.okz A0 λcdv A outer s H vs Q E hr h=>?_;obtain ⟨tp,rfl,hT,q⟩:=h;refine ⟨_,@ai _ _ _ (@aw _ _ _ _ (@ax _ _ _ _ _ _ (bO K) aL (@be _ (a5 tp) false ["tape"] rfl AJ (λz=>by cases z) 9 _) (pcl GD hr (aa (pv 0) (aa ag ac))) (λ_ _=>rfl))),?_⟩;refine ⟨[],.l badThs,aP hT,.nil,by kernel_rfl,λv H1 s1 r=>?_⟩;have hT1:Tp H1 tp:=by obtain ⟨t,ht⟩:=hT;exact ⟨t,s1 _ _ ht⟩
 refine ⟨_,rfl,tp,8,rfl,hT1,by decide,by decide,λd t h0 h8=>?_⟩;have k1:Kp tp H1 (upd H1 tp (.lst [.int t])):=Kp.tape;have tt:Tp (upd H1 tp (.lst [.int t])) tp:=⟨t,ae⟩;generalize upd H1 tp (.lst [.int t])=H2 at k1 tt ⊢;have r2:=r.mono (aq k1);cases r2 with
 | l e _ ts=>
  obtain ⟨x,u,hx,_,hu,ru⟩:=RepTs.pick ts h0 h8;exact ⟨_,_,d,u,rfl,rfl,SqL.of (aN e).1,hu,q x u H2 (yG x hx) ru ((Kp.refl.same s1).trans k1) tt⟩
abbrev NSw:List Str:=["things","k","thing","made"]
theorem scSwapped:av NSw ["things","k","thing"] (ah kK):=fsc
theorem rA (F:Fun K "_law_swapped" "_law_swapped" kK f fd) (G:Gb mg) (hlist:mg "list"=none):aX P w K mg base CX0 1 f fd ["things","k","thing"] eh:=by
 refine F.okz scSwapped λcdv A outer s H vs Q E hr h=>?_;obtain ⟨W,t,k,v,l,x,rfl,hok,hl,hx,h0,h1,q⟩:=h;refine ⟨_,ad (psz 3 scSwapped.nd (bz (r:=nP K) jq rfl hlist (by decide +kernel) (aa (pv 0) ac)))
  (ad (eJ (pv 2) (wX (pv 3) (pv 1) pf (λ_=>rfl)))
  (ai (aw (bz (r:=fV K) bR rfl G.tuple (by decide +kernel) (aa (pv 3) ac))))),?_⟩
 cases hl with
 | t e b ts=>
  rename_i a vs;have hlen:=ts.len;refine ⟨_,rfl,_,_,rfl,.inr (SqT.of (W.sub _ _ _ e)),λp hp=>?_⟩;obtain ⟨H1,eW,s1,g1⟩:=nw hp (.lst vs);rw [eW];have ek:ixN vs.length k=some k.toNat:=by
   unfold ixN;rw [Ea h0,Ea (by lia)]
  refine ⟨_,rfl,_,rfl,_,rfl,p,vs,k,k.toNat,rfl,rfl,g1,ek,?_⟩;have s2:Same H (upd H1 p (.lst (vs.set k.toNat v))):=λb o h=>by rw [aj (al h hp)];exact s1 _ _ h
  have g2:(upd H1 p (.lst (vs.set k.toNat v))) p=some (.lst (vs.set k.toNat v)):=ae;generalize upd H1 p (.lst (vs.set k.toNat v))=H2 at s2 g2 ⊢;refine ⟨_,rfl,p,_,rfl,.inl ⟨SqL.of g2,λr hr'=>?_⟩⟩;have s3:=s2.trans (am hr' (.tup (vs.set k.toNat v)));exact q (.ref r) _ s3 (.t (W.new _ (W.okm s2 hok) hr') (by rw [Fq];exact b) ((RepTs.set hx _ ts).mono (W.mono s3)))
noncomputable def mx:Th:=.t [.s "p",.s "q",.s "r",.s "s"]
noncomputable def kH (x:Th) (s:Srt):List Th:=
 ([.t [.s s.name,sTh s.downs],.l [.s s.name,sTh s.downs,sTh s.ups],.t [x,sTh s.downs,sTh s.ups],.t [.s s.name,.l (s.downs.map .s),sTh s.ups],.t [.s s.name,sTh s.downs,.l (s.ups.map .s)]]++
  [.t [.s s.name,sTh s.downs,.t (s.ups.map .s++[x])],.t [.s s.name,.t ([x]++s.downs.map .s),sTh s.ups],.t [.s s.name,mx,sTh s.ups],.t [.s s.name,sTh s.downs,mx]])++
  [.t [.s s.name,.non,sTh s.ups],.t [.s s.name,sTh s.downs,.i 7],.t [.s s.name,sTh s.downs,sTh s.ups,.t []],.non]
theorem lP {x:Th} (hx:bt x=false) (l:List Th):bg 3 (.t (l++[x]))=false:=by
 show (decide _&&(l++[x]).all bt)=false;rw [FK,Fg,hx,DN,DE,DE]
theorem qu {x:Th} (hx:bt x=false) (l:List Th):bg 3 (.t ([x]++l))=false:=by
 show (decide _&&([x]++l).all bt)=false;rw [FK,Fg,hx,DN,DN,DE]
theorem tG:bg 3 mx=false:=by decide +kernel
theorem fQ (a b c:Th):cP (.t [a,b,c])=(bt a&&(bg 3 b&&bg 3 c)):=rfl
theorem wj {x:Th} (hx:bt x=false) (s:Srt): ∀ y∈kH x s,cP y=false:=by
 intro y hy;unfold kH at hy;simp only [Hw,Ft,Et,DK,Eb,EQ]at hy;rcases hy with rfl | rfl | rfl | rfl | rfl | rfl | rfl | rfl | rfl | rfl | rfl | rfl | rfl
 ·rfl
 ·rfl
 ·rw [fQ,hx,DN]
 ·rw [fQ,show bg 3 (.l (s.downs.map .s))=false from rfl,DN,DE]
 ·rw [fQ,show bg 3 (.l (s.ups.map .s))=false from rfl,DE,DE]
 ·rw [fQ,lP hx,DE,DE]
 ·rw [fQ,show bg 3 (.t (x::s.downs.map Th.s))=false from qu hx _,DN,DE]
 ·rw [fQ,tG,DN,DE]
 ·rw [fQ,tG,DE,DE]
 ·rw [fQ,show bg 3 Th.non=false from rfl,DN,DE]
 ·rw [fQ,show bg 3 (Th.i 7)=false from rfl,DE,DE]
 ·rfl
 ·rfl
def jy:Sp:=λvs H Q _=> ∃ tp v s,vs=[.ref tp,v]/\Tp H tp/\ThL tp H (cW s) v/\s.downs.length<=3/\s.ups.length<=3/\ ∀ x u H',cP x=false->ThL tp H' x u->Kp tp H H'->Tp H' tp->Q u H'
abbrev NSb:List Str:=["tape","sort","name","downs","ups","bad","four","some"]
theorem scSortBad:av NSb ["tape","sort"] (ah iT):=fsc
theorem g9:j0 (ah iT) NSb=true:=by decide +kernel
theorem Tp.same' {tp:Addr} {H H':Hp} (h:Tp H tp) (s:Same H H'):Tp H' tp:=by obtain ⟨t,ht⟩:=h;exact ⟨t,s _ _ ht⟩
theorem rC (F:Fun K "_law_sort_bad" "_law_sort_bad" iT f fd) (hlist:mg "list"=none) (GD:Cl P w K mg base CX0 1 f2 fd2 ["tape","many"] br "_law_digit")
  (GB:Cl P w K mg base CX0 2 f3 fd3 ["tape"] qH "_law_bad"):
  aX P w K mg base CX0 3 f fd ["tape","sort"] jy:=by
 refine F.okz scSortBad λcdv A outer s H vs Q E hr h=>?_;obtain ⟨tp,v,sr,rfl,hT,hx,l1,l2,q⟩:=h;have hr1:=hr.mono (show 1<=2 by decide);refine ⟨_,ad (eJ (pv 1) (cL rfl (aA (pgz 2 scSortBad.nd) (aA (pgz 3 scSortBad.nd) (aA (pgz 4 scSortBad.nd) bW)))))
  (ad (psz 5 scSortBad.nd (pcl GB hr (aa (pv 0) ac)))
  (ad (psz 6 scSortBad.nd (be (a5 tp) (w:=true) (N:=NSb) rfl g9 (λ_=>by exact ⟨rfl,hlist⟩) 9))
  (ad (psz 7 scSortBad.nd (be (a5 tp) (w:=true) (N:=NSb) rfl g9 (λ_=>by exact ⟨rfl,hlist⟩) 9))
  (ad (psz 7 scSortBad.nd (be (a5 tp) (w:=true) (N:=NSb) rfl g9 (λ_=>by exact ⟨rfl,hlist⟩) 9))
  (ad (psz 7 scSortBad.nd (be (a5 tp) (w:=true) (N:=NSb) rfl g9 (λ_=>by exact ⟨rfl,hlist⟩) 9))
  (ai (aw (ax (r:=bO K) aL (pv 7) (pcl GD hr1 (aa (pv 0) (aa ag ac))) (λ_ _=>rfl))))))))),?_⟩
 obtain ⟨a,us,rfl,e,_,t⟩:=aT hx;obtain ⟨x1,x2,x3,rfl,r1,r2,r3⟩:=eR t;refine ⟨_,rfl,a,_,rfl,SqT.of (aN e).1,rfl,_,_,rfl,_,_,rfl,_,_,rfl,rfl,?_⟩;refine ⟨_,rfl,tp,rfl,hT,λxb vb H1 hxb rb k1 t1=>?_⟩;have R: ∀ {x:Th} {u:V} {H':Hp},ThL tp H x u->Same H1 H'->ThL tp H' x u:=λr s=>r.mono (aq (k1.same s));refine ⟨[],mx,aP t1,.nil,rfl,λv4 H2 s2 r4=>?_⟩;have t2:=t1.same' s2;refine ⟨[none,none,some (.s sr.name),some (sTh sr.downs),some (sTh sr.ups),some xb],_,aP t2,.no (.no (.th (R r1 s2) (.th (R r2 s2) (.th (R r3 s2) (.th (rb.mono (aq (Kp.refl.same s2))) .nil))))),rfl,λv5 H3 s3 r5=>?_⟩;have t3:=t2.same' s3;have s23:=s2.trans s3;refine ⟨[none,none,some (.s sr.name),some (sTh sr.downs),some (sTh sr.ups),some xb,some mx,some _],_,aP t3,.no (.no (.th (R r1 s23) (.th (R r2 s23) (.th (R r3 s23) (.th (rb.mono (aq (Kp.refl.same s23))) (.th (r4.mono (aq (Kp.refl.same s3))) (.th r5 .nil))))))),
  gm rfl (gV (ay (dN (ay rfl (ay rfl (ay (cF (x:=sr.ups.map .s) (y:=[xb]) rfl rfl (by rw [Dx];show sr.ups.length+1<=1000;lia)) rfl)))) (ay (dN (ay rfl (ay (cF (x:=[xb]) (y:=sr.downs.map .s) rfl rfl (by rw [Dx];show 1+sr.downs.length<=1000;lia)) rfl))) rfl))) (by show 5+4<=1000;lia),λv6 H4 s4 r6=>?_⟩
 have t4:=t3.same' s4;have s24:=s23.trans s4;have s34:=s3.trans s4;refine ⟨[none,none,some (.s sr.name),some (sTh sr.downs),some (sTh sr.ups),some xb,some mx,some _],_,aP t4,.no (.no (.th (R r1 s24) (.th (R r2 s24) (.th (R r3 s24) (.th (rb.mono (aq (Kp.refl.same s24))) (.th (r4.mono (aq (Kp.refl.same s34))) (.th r6 .nil))))))),
  gm rfl rfl (by show 9+4<=1000;lia),λv7 H5 s5 r7=>?_⟩
 have t5:=t4.same' s5;have r7:ThL tp H5 (.l (kH xb sr)) v7:=r7;have k5:Kp tp H H5:=k1.same (s24.trans s5);refine ⟨_,rfl,_,rfl,tp,13,rfl,t5,by decide,by decide,λd t h0 h13=>?_⟩;have k6:Kp tp H5 (upd H5 tp (.lst [.int t])):=Kp.tape;have tt:Tp (upd H5 tp (.lst [.int t])) tp:=⟨t,ae⟩;generalize upd H5 tp (.lst [.int t])=H6 at k6 tt ⊢;have r8:=r7.mono (aq k6);cases r8 with
 | l e8 _ ts=>
  obtain ⟨x,u,hx,_,hu,ru⟩:=RepTs.pick ts h0 h13;exact ⟨_,_,d,u,rfl,rfl,SqL.of (aN e8).1,hu,q x u H6 (wj hxb sr x hx) ru (k5.trans k6) tt⟩
noncomputable def wC (nm:Str):List Srt:=[⟨nm,["p","q","p"],[]⟩,⟨nm,[],["q","q"]⟩,⟨nm,["p"],["q","p"]⟩]
noncomputable def eN (f:FrX):List FrX:=[⟨f.name,"nosuch",f.parts,f.rules⟩,⟨f.name,f.own,["nosuch"],f.rules⟩,⟨f.name,f.own,[f.own,"nosuch"],f.rules⟩]
noncomputable def kD (s:Srt):List Srt:=[s,⟨s.name,["p"],["q"]⟩,⟨s.name,[],[]⟩]
def NoS (b:BkX):Prop:= ∀ s∈b.sorts,s.name≠"nosuch"
theorem mem_set {α:Type} {l:List α} {i:Nat} {x y:α} (h:y∈l.set i x):y∈l\/y=x:=(List.mem_or_eq_of_mem_set h)
theorem pq_word:aY "p"=true/\aY "q"=true/\aY "nosuch"=true:=by decide +kernel
theorem pqs (l:List Str) (h:(l.all λx=>decide (x="p")||decide (x="q"))=true): ∀ x∈l,aY x=true:=λx hx=>by
 have:=Ed.mp h x hx;rw [Bool.or_eq_true,FI,FI]at this;rcases this with rfl | rfl
 ·exact pq_word.1
 ·exact pq_word.2.1
theorem ShX.setS {b:BkX} (h:ShX b) {s t:Srt} {k:Nat} (hs:b.sorts[k]? =some s) (ht:t∈wC s.name):ShX {b with sorts:=b.sorts.set k t} where
 wh:=h.wh
 s1:=by show 1<=(b.sorts.set k t).length;rw [Fq];exact h.s1
 s4:=by show (b.sorts.set k t).length<=4;rw [Fq];exact h.s4
 f1:=h.f1
 f10:=h.f10
 sw:=λu hu=>by
  rcases mem_set hu with hu | rfl
  ·exact h.sw u hu
  ·have hn:=(h.sw s (DC hs)).1;unfold wC at ht;simp only [DK,Eb,EQ]at ht;rcases ht with rfl | rfl | rfl
   ·exact ⟨hn,by exact pqs ((["p","q","p"]:List Str)++([]:List Str)) (by decide +kernel),by show 3<=3;lia,by show 0<=3;lia⟩
   ·exact ⟨hn,by exact pqs (([]:List Str)++(["q","q"]:List Str)) (by decide +kernel),by show 0<=3;lia,by show 2<=3;lia⟩
   ·exact ⟨hn,by exact pqs ((["p"]:List Str)++(["q","p"]:List Str)) (by decide +kernel),by show 1<=3;lia,by show 2<=3;lia⟩
 fw:=h.fw
theorem ShX.setF {b:BkX} (h:ShX b) {f g:FrX} {k:Nat} (hf:b.forms[k]? =some f) (hg:g∈eN f):ShX {b with forms:=b.forms.set k g} where
 wh:=h.wh
 s1:=h.s1
 s4:=h.s4
 f1:=by show 1<=(b.forms.set k g).length;rw [Fq];exact h.f1
 f10:=by show (b.forms.set k g).length<=10;rw [Fq];exact h.f10
 sw:=h.sw
 fw:=λu hu=>by
  rcases mem_set hu with hu | rfl
  ·exact h.fw u hu
  ·obtain ⟨h1,h2,h3,h4,h5⟩:=h.fw f (DC hf);unfold eN at hg;simp only [DK,Eb,EQ]at hg;rcases hg with rfl | rfl | rfl
   ·exact ⟨h1,pq_word.2.2,h3,h4,h5⟩
   ·exact ⟨h1,h2,λp hp=>by rw [DF.mp hp];exact pq_word.2.2,by show 1<=3;lia,h5⟩
   ·exact ⟨h1,h2,λp hp=>by
     rcases DK.mp hp with rfl | hp
     ·exact h2
     ·rw [DF.mp hp];exact pq_word.2.2,by show 2<=3;lia,h5⟩
theorem ShX.more {b:BkX} (h:ShX b) {s t:Srt} (hs:b.sorts[0]? =some s) (ht:t∈kD s):ShX {b with sorts:=b.sorts.take 3++[t]} where
 wh:=h.wh
 s1:=by show 1<=(b.sorts.take 3++[t]).length;rw [DA];show 1<=_+1;lia
 s4:=by show (b.sorts.take 3++[t]).length<=4;rw [DA,DX];show _+1<=4;lia
 f1:=h.f1
 f10:=h.f10
 sw:=λu hu=>by
  rcases DQ.mp hu with hu | hu
  ·exact h.sw u (Eu hu)
  ·rw [DF.mp hu];have hs':=h.sw s (DC hs);unfold kD at ht;simp only [DK,Eb,EQ]at ht;rcases ht with rfl | rfl | rfl
   ·exact hs'
   ·exact ⟨hs'.1,by exact pqs ((["p"]:List Str)++(["q"]:List Str)) (by decide +kernel),by show 1<=3;lia,by show 1<=3;lia⟩
   ·exact ⟨hs'.1,by exact pqs (([]:List Str)++([]:List Str)) (by decide +kernel),by show 0<=3;lia,by show 0<=3;lia⟩
 fw:=h.fw
theorem ShX.twice {b:BkX} (h:ShX b):ShX {b with forms:=b.forms.take 9++b.forms.take 1} where
 wh:=h.wh
 s1:=h.s1
 s4:=h.s4
 f1:=by
  have:=h.f1;show 1<=(b.forms.take 9++b.forms.take 1).length;rw [DA,DX,DX];lia
 f10:=by show (b.forms.take 9++b.forms.take 1).length<=10;rw [DA,DX,DX];lia
 sw:=h.sw
 fw:=λu hu=>by
  rcases DQ.mp hu with hu | hu
  ·exact h.fw u (Eu hu)
  ·exact h.fw u (Eu hu)
theorem zK {b:BkX} {s t:Srt} {k:Nat} (hs:b.sorts[k]? =some s) (ht:t∈wC s.name):ck {b with sorts:=b.sorts.set k t}=false:=by
 have hlt:=(DH.mp hs).1;have hm:t∈b.sorts.set k t:=HN hlt t;have hn:decide (t.downs++t.ups).Nodup=false:=by
  unfold wC at ht;simp only [DK,Eb,EQ]at ht;rcases ht with rfl | rfl | rfl
  ·show decide ((["p","q","p"]:List Str)++([]:List Str)).Nodup=false;decide +kernel
  ·show decide (([]:List Str)++(["q","q"]:List Str)).Nodup=false;decide +kernel
  ·show decide ((["p"]:List Str)++(["q","p"]:List Str)).Nodup=false;decide +kernel
 have:(b.sorts.set k t).all (λs=>decide (s.downs++s.ups).Nodup)=false:=by
  rw [F5];exact ⟨t,hm,by rw [hn];exact DM⟩
 show (_&&(_&&((b.sorts.set k t).all (λs=>decide (s.downs++s.ups).Nodup)&&_)))=false;rw [this,DN,DE,DE]
theorem zL {b:BkX} (hno:NoS b) {f g:FrX} {k:Nat} (hf:b.forms[k]? =some f) (hg:g∈eN f):ck {b with forms:=b.forms.set k g}=false:=by
 have hlt:=(DH.mp hf).1;have hm:g∈b.forms.set k g:=HN hlt g;have hns: ¬ ("nosuch":Str)∈b.sorts.map Srt.name:=λz=>by
  obtain ⟨s,hs,e⟩:=DY.mp z;exact hno s hs e
 have hn:bA (b.sorts.map Srt.name) g=false:=by
  unfold eN at hg;simp only [DK,Eb,EQ]at hg;rcases hg with rfl | rfl | rfl
  ·show (decide (("nosuch":Str)∈b.sorts.map Srt.name)&&_)=false;rw [DG hns,DN]
  ·show (_&&List.all [("nosuch":Str)] λp=>decide (p∈b.sorts.map Srt.name))=false;rw [Fg,DG hns,DN,DE]
  ·show (_&&List.all [f.own,("nosuch":Str)] λp=>decide (p∈b.sorts.map Srt.name))=false;rw [Fg,Fg,DG hns,DN,DE,DE]
 have:(b.forms.set k g).all (bA (b.sorts.map Srt.name))=false:=by
  rw [F5];exact ⟨g,hm,by rw [hn];exact DM⟩
 show (_&&(_&&(_&&(b.forms.set k g).all (bA (b.sorts.map Srt.name)))))=false;rw [this,DE,DE,DE]
theorem yp {l r:List Str} {x:Str} (h1:x∈l) (h2:x∈r): ¬ (l++r).Nodup:=λz=>(FH.mp z).2.2 x h1 x h2 rfl
theorem zM {b:BkX} {s t:Srt} (hs:b.sorts[0]? =some s) (ht:t∈kD s):ck {b with sorts:=b.sorts.take 3++[t]}=false:=by
 have hn:t.name=s.name:=by
  unfold kD at ht;simp only [DK,Eb,EQ]at ht;rcases ht with rfl | rfl | rfl <;> rfl
 have h3:s∈b.sorts.take 3:=DC (i:=0) (by rw [FO,Ea (by lia)];exact hs);show (decide ((b.sorts.take 3++[t]).map Srt.name).Nodup&&_)=false;rw [DG,DN];rw [Ef];exact yp (x:=s.name) (F9 h3) (by rw [<- hn];exact DF.mpr rfl)
theorem xB {b:BkX} (h:ShX b):ck {b with forms:=b.forms.take 9++b.forms.take 1}=false:=by
 obtain ⟨f,hf⟩: ∃ f,b.forms[0]? =some f:=⟨_,DD h.f1⟩;have h9:f∈b.forms.take 9:=DC (i:=0) (by rw [FO,Ea (by lia)];exact hf);have h1:f∈b.forms.take 1:=DC (i:=0) (by rw [FO,Ea (by lia)];exact hf);have hd:decide ((b.forms.take 9++b.forms.take 1).map FrX.name).Nodup=false:=DG (by rw [Ef];exact yp (F9 h9) (F9 h1));show (_&&(decide ((b.forms.take 9++b.forms.take 1).map FrX.name).Nodup&&_))=false;rw [hd,DN,DE]
def fN:Sp:=λvs H Q _=> ∃ tp v b,vs=[.ref tp,v]/\Tp H tp/\ThL tp H (cO b) v/\ShX b/\NoS b/\(∀ f∈b.forms,f.rules.length<=100)/\ ∀ b' u H',ShX b'->ck b'=false->(∀ f∈b'.forms,f.rules.length<=100)->ThL tp H' (cO b') u->Kp tp H H'->Tp H' tp->Q u H'
theorem uj {tp p:Addr} {H:Hp} {a b c:Th} {x y z:V} (ht:Tp H tp) (hp:H p=none) (h1:ThL tp H a x) (h2:ThL tp H b y) (h3:ThL tp H c z):ThL tp (upd H p (.tup [x,y,z])) (.t [a,b,c]) (.ref p):=by
 have s:=aq (tp:=tp) (Kp.refl.same (am hp (.tup [x,y,z])));exact .t ((a5 tp).new _ (aP ht) hp) (by show 3<=1000;lia) (.cons (h1.mono s) (.cons (h2.mono s) (.cons (h3.mono s) .nil)))
theorem uI {f g:FrX} (h:g∈eN f):g.rules=f.rules:=by
 simp only [eN,DK,Eb,EQ]at h;rcases h with rfl | rfl | rfl <;> rfl
theorem oE {α:Type} {g:α->Th} {l:List α} {k:Int} {x:α} (h0:0<=k) (h:l[k.toNat]? =some x):atI (l.map g) k=some (g x):=by
 have e:k=((k.toNat:Nat):Int):=by lia
 rw [e];exact aM (by rw [DP,h];rfl)
abbrev NNb:List Str:=["tape","book","wheel","sorts","forms","k","j","some","name","own","parts","rules","others","way","more"]
theorem scNamesBad:av NNb ["tape","book"] (ah ie):=fsc
theorem eC:j0 (ah ie) NNb=true:=by decide +kernel
theorem pK (F:Fun K "_law_names_bad" "_law_names_bad" ie f fd) (G:Gb mg) (GD:Cl P w K mg base CX0 1 f2 fd2 ["tape","many"] br "_law_digit")
  (GS:Cl P w K mg base CX0 1 f3 fd3 ["things","k","thing"] eh "_law_swapped"):
  aX P w K mg base CX0 2 f fd ["tape","book"] fN:=by
 refine F.okz scNamesBad λcdv A outer s H vs Q E hr h=>?_;obtain ⟨tp,v,b,rfl,hT,hx,hsh,hno,h100,q⟩:=h;refine ⟨_,ad (eJ (pv 1) (cL rfl (aA (pgz 2 scNamesBad.nd) (aA (pgz 3 scNamesBad.nd) (aA (pgz 4 scNamesBad.nd) bW)))))
  (ad (psz 5 scNamesBad.nd (pcl GD hr (aa (pv 0) (aa (ao (r:=bU K) au rfl G.len DV (aa (pv 3) ac)) ac))))
  (ad (psz 6 scNamesBad.nd (pcl GD hr (aa (pv 0) (aa (ao (r:=bU K) au rfl G.len DV (aa (pv 4) ac)) ac))))
  (ad (psz 7 scNamesBad.nd (be (a5 tp) (w:=false) (N:=NNb) rfl eC (λz=>by cases z) 9))
  (ad (eJ (ax (r:=bc K) aH (pv 4) (pv 6) (λ_ _=>rfl)) (cL rfl (aA (pgz 8 scNamesBad.nd) (aA (pgz 9 scNamesBad.nd) (aA (pgz 10 scNamesBad.nd) (aA (pgz 11 scNamesBad.nd) bW))))))
  (ad (psz 12 scNamesBad.nd (be (a5 tp) (w:=false) (N:=NNb) rfl eC (λz=>by cases z) 9))
  (ad (psz 13 scNamesBad.nd (pcl GD hr (aa (pv 0) (aa ag ac))))
  (ad (aS (aG bJ (pv 13) ag (aJ _)) (ai (aw (aU (aa (pv 2) (aa (pcl GS hr (aa (pv 3) (aa (pv 5) (aa (ax (r:=bO K) aL (pv 7) (pcl GD hr (aa (pv 0) (aa ag ac))) (λ_ _=>rfl)) ac)))) (aa (pv 4) ac)))))) aE)
  (ad (aS (aG bJ (pv 13) ag (aJ _)) (ai (aw (aU (aa (pv 2) (aa (pv 3) (aa (pcl GS hr (aa (pv 4) (aa (pv 6) (aa (ax (r:=bO K) aL (pv 12) (pcl GD hr (aa (pv 0) (aa ag ac))) (λ_ _=>rfl)) ac)))) ac)))))) aE)
  (ad (aS (aG bJ (pv 13) ag (aJ _))
   (ad (psz 14 scNamesBad.nd (ax (r:=bO K) aL (be (a5 tp) (w:=false) (N:=NNb) rfl eC (λz=>by cases z) 9) (pcl GD hr (aa (pv 0) (aa ag ac))) (λ_ _=>rfl)))
   (ai (aw (be (a5 tp) (w:=false) (N:=NNb) rfl eC (λz=>by cases z) 9)))) aE)
  (ai (aw (be (a5 tp) (w:=false) (N:=NNb) rfl eC (λz=>by cases z) 9)))))))))))),?_⟩
 obtain ⟨a,us,rfl,e,_,t⟩:=aT hx;obtain ⟨x1,x2,x3,rfl,r1,r2,r3⟩:=eR t;obtain ⟨sa,sv,rfl,es,lsb,ts⟩:=aT r2;obtain ⟨fa,fv,rfl,ef,lfb,tf⟩:=aT r3;rw [show x1=.int b.wheel by cases r1;rfl]at e;have ls:=ts.len;have lf:=tf.len;rw [Dx]at ls lf;have h1:=hsh.s1;have h2:=hsh.s4;have h3:=hsh.f1;have h4:=hsh.f10;refine ⟨_,rfl,a,_,rfl,SqT.of (aN e).1,rfl,_,_,rfl,_,_,rfl,_,_,rfl,rfl,?_⟩;refine ⟨_,rfl,_,rfl,sa,sv,rfl,.inr (SqT.of (aN es).1),tp,_,rfl,hT,by lia,by lia,λk t1 hk0 hk1=>?_⟩;have k1:Kp tp H (upd H tp (.lst [.int t1])):=Kp.tape;have tt1:Tp (upd H tp (.lst [.int t1])) tp:=⟨t1,ae⟩;generalize upd H tp (.lst [.int t1])=H1 at k1 tt1 ⊢;refine ⟨_,rfl,_,rfl,fa,fv,rfl,.inr (SqT.of (aN (aq k1 _ _ ef)).1),tp,_,rfl,tt1,by lia,by lia,λj t2 hj0 hj1=>?_⟩;have k2':Kp tp H1 (upd H1 tp (.lst [.int t2])):=Kp.tape;have tt2:Tp (upd H1 tp (.lst [.int t2])) tp:=⟨t2,ae⟩;generalize upd H1 tp (.lst [.int t2])=H2 at k2' tt2 ⊢;have k2:=k1.trans k2';obtain ⟨sr,hsr⟩: ∃ sr,b.sorts[k.toNat]? =some sr:=⟨_,DD (by lia)⟩;obtain ⟨fr,hfr⟩: ∃ fr,b.forms[j.toNat]? =some fr:=⟨_,DD (by lia)⟩;have R: ∀ {x:Th} {u:V} {H':Hp},ThL tp H x u->Kp tp H H'->ThL tp H' x u:=λr k=>r.mono (aq k);refine ⟨[none,none,some (.i b.wheel),some _,some _,some (.i k),some (.i j)],.l ((wC sr.name).map cW),aP tt2,.no (.no (.th .i (.th (R r2 k2) (.th (R r3 k2) (.th .i (.th .i .nil)))))),?_,λv7 H3 s3 r7=>?_⟩
 ·have hi:=oE (g:=cW) hk0 hsr;exact gV (ay (dN (ay (gk (jL rfl rfl hi) du) rfl)) (ay (dN (ay (gk (jL rfl rfl hi) du) rfl)) (ay (dN (ay (gk (jL rfl rfl hi) du) rfl)) rfl)))
 have k3:=k2.same s3;have tt3:=tt2.same' s3;obtain ⟨fu,hfu,rf⟩:=tf.get (j:=j.toNat) (x:=bH fr) (by rw [DP,hfr];rfl);have ej:j=((j.toNat:Nat):Int):=by lia
 obtain ⟨af,ufs,rfl,eaf,_,tff⟩:=aT rf;obtain ⟨y1,y2,y3,y4,rfl,g1,g2,g3,g4⟩:=re tff;refine ⟨_,rfl,_,rfl,fa,fv,j,.ref af,rfl,rfl,SqT.of (aN (aq k3 _ _ ef)).1,by rw [ej];exact aM hfu,?_⟩;refine ⟨af,_,rfl,SqT.of (aN (aq k3 _ _ eaf)).1,rfl,_,_,rfl,_,_,rfl,_,_,rfl,_,_,rfl,rfl,?_⟩;refine ⟨[none,none,none,none,none,none,none,none,some (.s fr.name),some (.s fr.own),some (sTh fr.parts),some _],.l ((eN fr).map bH),aP tt3,.no (.no (.no (.no (.no (.no (.no (.no (.th (R g1 k3) (.th (R g2 k3) (.th (R g3 k3) (.th (R g4 k3) .nil))))))))))),rfl,λv12 H4 s4 r12=>?_⟩;have k4:=k3.same s4;have tt4:=tt3.same' s4;refine ⟨_,rfl,tp,4,rfl,tt4,by decide,by decide,λway t5 hw0 hw1=>?_⟩;have k5':Kp tp H4 (upd H4 tp (.lst [.int t5])):=Kp.tape;have tt5:Tp (upd H4 tp (.lst [.int t5])) tp:=⟨t5,ae⟩;generalize upd H4 tp (.lst [.int t5])=H5 at k5' tt5 ⊢;rw [show L2.start NNb [.ref tp,.ref a]=some (.ref tp)::some (.ref a)::List.replicate 13 none from rfl];dsimp only [List.set,List.replicate];have k5:=k4.trans k5';have r7':=r7.mono (aq ((Kp.refl.same s4).trans k5'));have r12':=r12.mono (aq k5');have pick: ∀ {α:Type} {g:α->Th} {l:List α} {v:V} {H6:Hp} {d:Int},ThL tp H6 (.l (l.map g)) v->0<=d->d< (l.length:Int)-> ∃ lv us x u,v=.ref lv/\H6 lv=some (.lst us)/\x∈l/\atI us d=some u/\ThL tp H6 (g x) u:=by
  intro α g l v H6 d r h0 h1;cases r with
  | l e8 _ ts8=>
   obtain ⟨x,u,hx,_,hu,ru⟩:=RepTs.pick ts8 h0 (by rw [Dx];exact h1);obtain ⟨y,hy,rfl⟩:=DY.mp hx;exact ⟨_,_,y,u,rfl,(aN e8).1,hy,hu,ru⟩
 refine ⟨_,rfl,rfl,_,rfl,?_⟩;refine bp (λ_=>?_) (λ_=>?_)
 ·refine ⟨_,rfl,_,rfl,_,rfl,_,rfl,_,rfl,tp,3,rfl,tt5,by decide,by decide,λd t6 hd0 hd1=>?_⟩;have k6':Kp tp H5 (upd H5 tp (.lst [.int t6])):=Kp.tape;have tt6:Tp (upd H5 tp (.lst [.int t6])) tp:=⟨t6,ae⟩;generalize upd H5 tp (.lst [.int t6])=H6 at k6' tt6 ⊢;have k6:=k5.trans k6';obtain ⟨lv,us',x,u,rfl,el,hxm,hu,ru⟩:=pick (r7'.mono (aq k6')) hd0 hd1;refine ⟨_,_,d,u,rfl,rfl,SqL.of el,hu,a5 tp,_,k,u,_,cW x,rfl,aP tt6,R r2 k6,ru,hk0,by rw [Dx];exact by lia,λu7 H7 s7 r7=>?_⟩;rw [GG.symm]at r7;have k7:=k6.same s7;have tt7:=tt6.same' s7;refine ⟨_,rfl,a6 (by show 3<=1000;lia),λp hp=>?_⟩;exact q {b with sorts:=b.sorts.set k.toNat x} (.ref p) _ (hsh.setS hsr hxm) (zK hsr hxm) h100 (uj tt7 hp .i r7 (R r3 k7)) (k7.new hp) (tt7.new hp)
 refine ⟨_,rfl,rfl,_,rfl,?_⟩;refine bp (λ_=>?_) (λ_=>?_)
 ·refine ⟨_,rfl,_,rfl,_,rfl,_,rfl,_,rfl,_,rfl,tp,3,rfl,tt5,by decide,by decide,λd t6 hd0 hd1=>?_⟩;have k6':Kp tp H5 (upd H5 tp (.lst [.int t6])):=Kp.tape;have tt6:Tp (upd H5 tp (.lst [.int t6])) tp:=⟨t6,ae⟩;generalize upd H5 tp (.lst [.int t6])=H6 at k6' tt6 ⊢;have k6:=k5.trans k6';obtain ⟨lv,us',x,u,rfl,el,hxm,hu,ru⟩:=pick (r12'.mono (aq k6')) hd0 hd1;refine ⟨_,_,d,u,rfl,rfl,SqL.of el,hu,a5 tp,_,j,u,_,bH x,rfl,aP tt6,R r3 k6,ru,hj0,by rw [Dx];exact by lia,λu7 H7 s7 r7=>?_⟩;rw [GG.symm]at r7;have k7:=k6.same s7;have tt7:=tt6.same' s7;refine ⟨a6 (by show 3<=1000;lia),λp hp=>?_⟩;exact q {b with forms:=b.forms.set j.toNat x} (.ref p) _ (hsh.setF hfr hxm) (zL hno hfr hxm) (λg hg=>(mem_set hg).elim (h100 g) λe=>by rw [e,uI hxm];exact h100 fr (DC hfr)) (uj tt7 hp .i (R r2 k7) r7) (k7.new hp) (tt7.new hp)
 refine ⟨_,rfl,rfl,_,rfl,?_⟩;obtain ⟨s0,hs0⟩: ∃ s0,b.sorts[0]? =some s0:=⟨_,DD (by lia)⟩;have hi0:atI (b.sorts.map cW) 0=some (cW s0):=oE (g:=cW) (Int.le_refl 0) hs0;refine bp (λ_=>?_) (λ_=>?_)
 ·refine ⟨[none,none,some (.i b.wheel),some _],.l ((kD s0).map cW),aP tt5,.no (.no (.th .i (.th (R r2 k5) .nil))),?_,λv6 H6 s6 r6=>?_⟩
  ·exact gV (ay (gk rfl hi0) (ay (dN (ay (gk (gk rfl hi0) du) rfl)) (ay (dN (ay (gk (gk rfl hi0) du) rfl)) rfl)))
  have tt6:=tt5.same' s6;have k6:=k5.same s6;refine ⟨_,rfl,tp,3,rfl,tt6,by decide,by decide,λd t7 hd0 hd1=>?_⟩;have k7':Kp tp H6 (upd H6 tp (.lst [.int t7])):=Kp.tape;have tt7:Tp (upd H6 tp (.lst [.int t7])) tp:=⟨t7,ae⟩;generalize upd H6 tp (.lst [.int t7])=H7 at k7' tt7 ⊢;have k7:=k6.trans k7';obtain ⟨lv,us',x,u,rfl,el,hxm,hu,ru⟩:=pick (r6.mono (aq k7')) hd0 hd1;refine ⟨_,_,d,u,rfl,rfl,SqL.of el,hu,?_⟩;refine ⟨[none,none,some (.i b.wheel),some _,some _,none,none,none,none,none,none,none,none,none,some _],_,aP tt7,.no (.no (.th .i (.th (R r2 k7) (.th (R r3 k7) (.no (.no (.no (.no (.no (.no (.no (.no (.no (.th ru .nil)))))))))))))),
   dN (ay rfl (ay (cF (gW (k:=3) rfl) rfl (by rw [DX,Dx];show _+1<=1000;lia)) rfl)),λv8 H8 s8 r8=>?_⟩
  refine q {b with sorts:=b.sorts.take 3++[x]} v8 H8 (hsh.more hs0 hxm) (zM hs0 hxm) h100 ?_ (k7.same s8) (tt7.same' s8);have:cO {b with sorts:=b.sorts.take 3++[x]}=.t [.i b.wheel,.t ((b.sorts.map cW).take 3++[cW x]),.t (b.forms.map bH)]:=by
   show Th.t [.i b.wheel,.t ((b.sorts.take 3++[x]).map cW),_]=_;rw [Ef,Gn];rfl
  rw [this];exact r8
 ·refine ⟨[none,none,some (.i b.wheel),some _,some _],_,aP tt5,.no (.no (.th .i (.th (R r2 k5) (.th (R r3 k5) .nil)))),
   dN (ay rfl (ay rfl (ay (cF (gW (k:=9) rfl) (gW (k:=1) rfl) (by rw [DX,DX,Dx];lia)) rfl))),λv8 H8 s8 r8=>?_⟩
  refine q {b with forms:=b.forms.take 9++b.forms.take 1} v8 H8 hsh.twice (xB hsh) (λg hg=>(DQ.mp hg).elim (λh=>h100 g (Eu h)) λh=>h100 g (Eu h)) ?_ (k5.same s8) (tt5.same' s8);have:cO {b with forms:=b.forms.take 9++b.forms.take 1}=.t [.i b.wheel,.t (b.sorts.map cW),.t ((b.forms.map bH).take 9++(b.forms.map bH).take 1)]:=by
   show Th.t [.i b.wheel,_,.t ((b.forms.take 9++b.forms.take 1).map bH)]=_;rw [Ef,Gn,Gn]
  rw [this];exact r8
abbrev RuX:=Int×Str×Th
noncomputable def pP (p:Int) (x:Str):RuX:=(p,x,.t [.s "num",.i 0])
noncomputable def cr (rs:List RuX):List (List RuX):=
 [rs++[pP (-1) "zzzzzzzz"],[((7,"a",.non):RuX)]++rs,rs++[pP (-3) "a"]]++
 (match rs with
  | []=>[]
  | r::t=>[t,[((r.1+1,r.2.1,r.2.2):RuX)]++t,[((r.1,"zzzzzzzz",r.2.2):RuX)]++t]++[(r::t)++(match (r::t).getLast? with | some z=>[z] | none=>[])])++
 (if 1<rs.length then [rs.reverse]else [])
noncomputable def dq (rs:List RuX):List (Int×Str):=rs.map λr=>(r.1,r.2.1)
theorem kW {α:Type} {a b:List α} (h:a.length≠b.length):a≠b:=λe=>h (by rw [e])
theorem bZ (rs:List RuX):(dq rs).length=rs.length:=Dx _
theorem oS {rs:List RuX} (nd:(dq rs).Nodup) (hz: ∀ r∈rs,r.2.1≠"zzzzzzzz"): ∀ x∈cr rs,dq x≠dq rs:=by
 intro x hx;unfold cr at hx;rcases DQ.mp hx with hx | hx
 ·rcases DQ.mp hx with hx | hx
  ·simp only [DK,Eb,EQ]at hx;rcases hx with rfl | rfl | rfl
   ·exact kW (by rw [bZ,bZ,DA];show rs.length+1≠_;lia)
   ·exact kW (by rw [bZ,bZ,DA];show 1+rs.length≠_;lia)
   ·exact kW (by rw [bZ,bZ,DA];show rs.length+1≠_;lia)
  ·cases rs with
   | nil=>cases hx
   | cons r t=>
    have hgl: ∃ z,(r::t).getLast?=some z:=GY.mp (by simp);obtain ⟨z,hz'⟩:=hgl;simp only [hz',DQ,DK,Eb,EQ]at hx;rcases hx with (rfl | rfl | rfl) | rfl
    ·exact kW (by rw [bZ,bZ,DJ];lia)
    ·intro e;have e:(r.1+1,r.2.1)::dq t=(r.1,r.2.1)::dq t:=e;injection e with e1 _
     have:=congrArg Prod.fst e1;have:r.1+1=r.1:=this;lia
    ·intro e;have e:(r.1,("zzzzzzzz":Str))::dq t=(r.1,r.2.1)::dq t:=e;injection e with e1 _
     exact hz r DW (congrArg Prod.snd e1).symm
    ·exact kW (by rw [bZ,bZ,DA];show (r::t).length+1≠_;lia)
 ·split at hx
  ·rename_i hl;rw [DF.mp hx];intro e;have h0:=congrArg (λl=>l[0]?) e;have hlen:=bZ rs;have h1:(dq rs.reverse)[0]? =(dq rs)[rs.length-1]? :=by
    unfold dq;rw [Iz,List.getElem?_reverse (by rw [Dx];lia),Dx];rfl
   have h0:(dq rs.reverse)[0]? =(dq rs)[0]? :=h0;rw [h1]at h0;have hlt:rs.length-1< (dq rs).length:=by lia
   have:=(Il hlt nd).mp h0;lia
  ·cases hx
noncomputable def setRu (b:BkX) (k:Nat) (f:FrX) (rs:List RuX):BkX:={b with forms:=b.forms.set k {f with rules:=rs}}
theorem ShX.setRu {b:BkX} (h:ShX b) {k:Nat} {f:FrX} {rs:List RuX} (hf:b.forms[k]? =some f) (hw: ∀ r∈rs,aY r.2.1=true):ShX (setRu b k f rs) where
 wh:=h.wh
 s1:=h.s1
 s4:=h.s4
 f1:=by show 1<=(b.forms.set k _).length;rw [Fq];exact h.f1
 f10:=by show (b.forms.set k _).length<=10;rw [Fq];exact h.f10
 sw:=h.sw
 fw:=λu hu=>by
  rcases mem_set hu with hu | rfl
  ·exact h.fw u hu
  ·obtain ⟨h1,h2,h3,h4,_⟩:=h.fw f (DC hf);exact ⟨h1,h2,h3,h4,hw⟩
theorem jV {b:BkX} {k:Nat} {f:FrX} {rs:List RuX} (hf:b.forms[k]? =some f) (h:ck b=true):ck (setRu b k f rs)=true:=by
 have hlt:=(DH.mp hf).1;have hnm:(b.forms.set k {f with rules:=rs}).map FrX.name=b.forms.map FrX.name:=by
  rw [GG];have hg:(b.forms.map FrX.name)[k]? =some f.name:=by rw [DP,hf];rfl
  refine Gq λi=>?_;rw [Io];split
  ·rename_i e;subst e;rw [hg,Ea (by rw [Dx];exact hlt)]
  ·rfl
 have h:(decide (b.sorts.map Srt.name).Nodup&&(decide (b.forms.map FrX.name).Nodup&&(b.sorts.all (λs=>decide (s.downs++s.ups).Nodup)&&b.forms.all (bA (b.sorts.map Srt.name)))))=true:=h;show (decide (b.sorts.map Srt.name).Nodup&&(decide ((b.forms.set k {f with rules:=rs}).map FrX.name).Nodup&&(b.sorts.all (λs=>decide (s.downs++s.ups).Nodup)&&(b.forms.set k {f with rules:=rs}).all (bA (b.sorts.map Srt.name)))))=true;rw [hnm];simp only [Ek]at h ⊢;refine ⟨h.1,h.2.1,h.2.2.1,Ed.mpr λg hg=>?_⟩;have hall:=Ed.mp h.2.2.2;rcases mem_set hg with hg | rfl
 ·exact hall g hg
 ·exact hall f (DC hf)
theorem wI {b:BkX} {k:Nat} {f:FrX} {rs:List RuX} (hf:b.forms[k]? =some f) (hk:dq rs≠ka b f):((setRu b k f rs).forms.all λg=>decide (cH g=ka (setRu b k f rs) g))=false:=by
 have hlt:=(DH.mp hf).1;rw [F5];refine ⟨{f with rules:=rs},HN hlt _,?_⟩;show ¬ decide (dq rs=ka b f)=true;rw [DG hk];exact DM
noncomputable abbrev ruL (rs:List RuX):Th:=.t (rs.map bQ)
theorem vA {α:Type} (x:α) (r:List α):iJ (x::r) (some 1) none=r:=by
 unfold iJ;rw [show HT.sIx (x::r).length 0 (some 1)=min 1 (x::r).length from HT.sIx_nat _ _ 1,HT.sIx_none,DJ,Gi (Nat.le_add_left 1 _),List.drop_one,List.tail_cons];exact EL (by lia)
theorem lm {α:Type} (x:α): ∀ r:List α,(x::r).drop r.length=[(x::r).getLast (by simp)]
 | []=>rfl
 | y::r=>by
  show (y::r).drop r.length=_;refine (lm y r).trans ?_;rw [List.getLast_cons (List.cons_ne_nil y r)]
theorem vB {α:Type} (x:α) (r:List α):iJ (x::r) (some (-1)) none=[(x::r).getLast (by simp)]:=by
 have e:HT.sIx (x::r).length 0 (some (-1))=r.length:=by
  show (if (-1:Int) <0 then ((-1:Int) + ((x::r).length:Int)).toNat else min (-1:Int).toNat (x::r).length)=_;rw [Ea (by decide),DJ];lia
 unfold iJ;rw [e,HT.sIx_none,DJ];rw [lm,Nat.add_sub_cancel_left];rfl
theorem ow {w:Bool} {N:List Str} {en:List (Option Th)} {n:Nat} {a:Expr} {x:Th} {l:List Th} {j:Nat} {p p1 p2:Pos} (h1:evE w N en n a=some (.t (x::l))):evE w N en (n+1) (.Subscript a (.Slice (some (.Constant (.int 1) j p1)) none none p2) p)=some (.t l):=by
 show ((evE w N en n a).bind λx=>qk x (some 1) none)=_;rw [h1];show some (Th.t (iJ (x::l) (some 1) none))=_;rw [vA]
theorem Ag {w:Bool} {N:List Str} {en:List (Option Th)} {n:Nat} {a:Expr} {x:Th} {l:List Th} {j:Nat} {p p1 p2 p3:Pos} (h1:evE w N en n a=some (.t (x::l))):evE w N en (n+1) (.Subscript a (.Slice (some (.UnaryOp .USub (.Constant (.int 1) j p1) p3)) none none p2) p)=some (.t [(x::l).getLast (by simp)]):=by
 show ((evE w N en n a).bind λx=>qk x (some (-1)) none)=_;rw [h1];show some (Th.t (iJ (x::l) (some (-1)) none))=_;rw [vB]
theorem jD {H:Hp} {l:List Th} {v:V} (h:RepT H (.l l) v): ∃ a vs,v=.ref a/\H a=some (.lst vs)/\l.length<=1000/\RepTs H l vs:=by
 cases h with
 | l e b t=>exact ⟨_,_,rfl,e,b,t⟩
noncomputable def sp0 (rs:List RuX):List (List RuX):=[rs++[pP (-1) "zzzzzzzz"],[((7,"a",.non):RuX)]++rs,rs++[pP (-3) "a"]]
noncomputable def sp1 (r:RuX) (t:List RuX):List (List RuX):=[t,[((r.1+1,r.2.1,r.2.2):RuX)]++t,[((r.1,"zzzzzzzz",r.2.2):RuX)]++t]
noncomputable def sp2 (r:RuX) (t:List RuX):List RuX:=(r::t)++[(r::t).getLast (by simp)]
theorem nc (r:RuX) (t:List RuX):cr (r::t)=sp0 (r::t)++sp1 r t++[sp2 r t]++(if 1< (r::t).length then [(r::t).reverse]else []):=by
 unfold cr;simp only [List.getLast?_eq_some_getLast (List.cons_ne_nil r t)];rw [show ∀ a b c d:List (List RuX),a++b++c++d=a++(b++c)++d from λa b c d=>by rw [Et a b c]];rfl
theorem AX {rs:List RuX} (h:1<rs.length):rs.reverse∈cr rs:=by
 unfold cr;rw [Ea h];exact DO _ (DF.mpr rfl)
theorem mZ {rs:List RuX} (h: ∀ r∈rs,aY r.2.1=true): ∀ x∈cr rs,∀ r∈x,aY r.2.1=true:=by
 have hz:aY "zzzzzzzz"=true:=by decide +kernel
 have ha:aY "a"=true:=by decide +kernel
 have h0: ∀ x∈sp0 rs,∀ r∈x,aY r.2.1=true:=by
  intro x hx r hr;simp only [sp0,DK,Eb,EQ]at hx;rcases hx with rfl | rfl | rfl
  ·rcases DQ.mp hr with hr | hr
   ·exact h r hr
   ·rw [DF.mp hr];exact hz
  ·rcases DQ.mp hr with hr | hr
   ·rw [DF.mp hr];exact ha
   ·exact h r hr
  ·rcases DQ.mp hr with hr | hr
   ·exact h r hr
   ·rw [DF.mp hr];exact ha
 intro x hx;cases rs with
 | nil=>exact h0 x hx
 | cons r t=>
  have hr0:aY r.2.1=true:=h r DW;have ht: ∀ u∈t,aY u.2.1=true:=λu hu=>h u (DZ _ hu);rw [nc]at hx;rcases DQ.mp hx with hx | hx
  ·rcases DQ.mp hx with hx | hx
   ·rcases DQ.mp hx with hx | hx
    ·exact h0 x hx
    ·simp only [sp1,DK,Eb,EQ]at hx;rcases hx with rfl | rfl | rfl
     ·exact ht
     ·intro u hu;rcases DQ.mp hu with hu | hu
      ·rw [DF.mp hu];exact hr0
      ·exact ht u hu
     ·intro u hu;rcases DQ.mp hu with hu | hu
      ·rw [DF.mp hu];exact hz
      ·exact ht u hu
   ·rw [DF.mp hx];intro u hu;rcases DQ.mp hu with hu | hu
    ·exact h u hu
    ·rw [DF.mp hu];exact h _ (List.getLast_mem _)
  ·split at hx
   ·rw [DF.mp hx];exact λu hu=>h u (IA.mp hu)
   ·cases hx
theorem ph {t u:TS} {D:eS} {σ:St} {H:Hp} (R:St->Hp->Prop) (hF: ∀ σ' H',R σ' H'->u D σ' H') (h: ∀ F:St->Hp->Prop,(∀ σ' H',R σ' H'->F σ' H')->t {D with nx:=F} σ H):vQ t u D σ H:=h (u D) hF
theorem wn:([]:List V).length<=sizeLine:=by decide
def fM:Sp:=λvs H Q _=> ∃ tp v b,vs=[.ref tp,v]/\Tp H tp/\ThL tp H (cO b) v/\b.forms≠[]/\(∀ f∈b.forms,f.rules.length<=100)/\ ∀ k f rs u H',b.forms[k]? =some f->rs∈cr f.rules->ThL tp H' (cO (setRu b k f rs)) u->Kp tp H H'->Tp H' tp->Q u H'
theorem RepTs.rev {H:Hp} {l:List Th} {vs:List V} (h:RepTs H l vs):RepTs H l.reverse vs.reverse:=by
 induction l generalizing vs with
 | nil=>cases h;exact .nil
 | cons x r ih=>
  cases h with
  | cons a b=>
   rw [Ik,Ik];exact (ih b).app (.cons a .nil)
abbrev NRb:List Str:=["tape","book","wheel","sorts","forms","k","rules","some","at","word","formula"]
theorem scRulesBad:av NRb ["tape","book"] (ah ib):=fsc
theorem eB:j0 (ah ib) NRb=true:=by decide +kernel
theorem pI (F:Fun K "_law_rules_bad" "_law_rules_bad" ib f fd) (G:Gb mg) (GD:Cl P w K mg base CX0 1 f2 fd2 ["tape","many"] br "_law_digit")
  (GS:Cl P w K mg base CX0 1 f3 fd3 ["things","k","thing"] eh "_law_swapped"):
  aX P w K mg base CX0 2 f fd ["tape","book"] fM:=by
 refine F.okz scRulesBad λcdv A outer s H vs Q E hr h=>?_;obtain ⟨tp,v,b,rfl,hT,hx,hne,h100,q⟩:=h;refine ⟨_,ad (eJ (pv 1) (cL rfl (aA (pgz 2 scRulesBad.nd) (aA (pgz 3 scRulesBad.nd) (aA (pgz 4 scRulesBad.nd) bW)))))
  (ad (psz 5 scRulesBad.nd (pcl GD hr (aa (pv 0) (aa (ao (r:=bU K) au rfl G.len DV (aa (pv 4) ac)) ac))))
  (ad (psz 6 scRulesBad.nd (be (a5 tp) (w:=false) (N:=NRb) rfl eB (λz=>by cases z) 9))
  (ad (psz 7 scRulesBad.nd (be (a5 tp) (w:=false) (N:=NRb) rfl eB (λz=>by cases z) 9))
  (ad (aS (aG (sX hr.units0) (pv 6) (aU ac) (aJ _))
   (ad (eJ (ax (r:=bc K) aH (pv 6) ag (λ_ _=>rfl)) (cL rfl (aA (pgz 8 scRulesBad.nd) (aA (pgz 9 scRulesBad.nd) (aA (pgz 10 scRulesBad.nd) bW)))))
   (ad (psz 7 scRulesBad.nd (be (a5 tp) (w:=false) (N:=NRb) rfl eB (λz=>by cases z) 9))
   (ai (psz 7 scRulesBad.nd (aF gP (pv 7) (bh (aa (be (a5 tp) (w:=false) (N:=NRb) rfl eB (λz=>by cases z) 9) ac))))))) aE)
  (ad (aS (aG jU (ao (r:=bU K) au rfl G.len DV (aa (pv 6) ac)) ag (aJ _))
   (ai (bP (dS Ee EF EG bM (pv 7) (aa (pG (pv 6) (gN eE ag)) ac)))) aE)
  (ai (aw (aU (aa (pv 2) (aa (pv 3) (aa (pcl GS hr (aa (pv 4) (aa (pv 5) (aa (aF (r:=iE K) fA (be (a5 tp) (w:=false) (N:=NRb) rfl eB (λz=>by cases z) 9)
   (aU (aa (ax (r:=bO K) aL (pv 7) (pcl GD hr (aa (pv 0) (aa (ao (r:=bU K) au rfl G.len DV (aa (pv 7) ac)) ac))) (λ_ _=>rfl)) ac))) ac)))) ac))))))))))),?_⟩
 obtain ⟨a,us,rfl,e,_,t⟩:=aT hx;obtain ⟨x1,x2,x3,rfl,r1,r2,r3⟩:=eR t;obtain ⟨fa,fv,rfl,ef,lfb,tf⟩:=aT r3;rw [show x1=.int b.wheel by cases r1;rfl]at e;have lf:=tf.len;rw [Dx]at lf lfb;have hpos:=HL.mpr hne;refine ⟨_,rfl,a,_,rfl,SqT.of (aN e).1,rfl,_,_,rfl,_,_,rfl,_,_,rfl,rfl,?_⟩;refine ⟨_,rfl,_,rfl,fa,fv,rfl,.inr (SqT.of (aN ef).1),tp,_,rfl,hT,by lia,by lia,λk t1 hk0 hk1=>?_⟩;have k1:Kp tp H (upd H tp (.lst [.int t1])):=Kp.tape;have tt1:Tp (upd H tp (.lst [.int t1])) tp:=⟨t1,ae⟩;generalize upd H tp (.lst [.int t1])=H1 at k1 tt1 ⊢;obtain ⟨fr,hfr⟩: ∃ fr,b.forms[k.toNat]? =some fr:=⟨_,DD (by lia)⟩;have hl:=h100 fr (DC hfr);have R: ∀ {x:Th} {u:V} {H':Hp},ThL tp H x u->Kp tp H H'->ThL tp H' x u:=λr k=>r.mono (aq k);have hi:atI (b.forms.map bH) k=some (bH fr):=oE hk0 hfr;refine ⟨[none,none,none,none,some (.t (b.forms.map bH)),some (.i k)],ruL fr.rules,aP tt1,.no (.no (.no (.no (.th (R r3 k1) (.th .i .nil))))),gk (l:=[.s fr.name,.s fr.own,sTh fr.parts,ruL fr.rules]) (jL rfl rfl hi) rfl,λv6 H2 s2 r6=>?_⟩;have k2:=k1.same s2;have tt2:=tt1.same' s2;refine ⟨[none,none,none,none,none,none,some (ruL fr.rules)],.l [.t (fr.rules.map bQ++[bQ (pP (-1) "zzzzzzzz")]),.t ([bQ (7,"a",.non)]++fr.rules.map bQ),.t (fr.rules.map bQ++[bQ (pP (-3) "a")])],aP tt2,.no (.no (.no (.no (.no (.no (.th r6 .nil)))))),
  gV (ay (cF rfl rfl (by rw [Dx];show _+1<=1000;lia)) (ay (cF rfl rfl (by rw [Dx];show 1+_<=1000;lia)) (ay (cF rfl rfl (by rw [Dx];show _+1<=1000;lia)) rfl))),λv7 H3 s3 r7=>?_⟩
 have tt3:=tt2.same' s3;have r7:ThL tp H3 (.l ((sp0 fr.rules).map ruL)) v7:=by
  rw [show (sp0 fr.rules).map ruL=[.t (fr.rules.map bQ++[bQ (pP (-1) "zzzzzzzz")]),.t ([bQ (7,"a",.non)]++fr.rules.map bQ),.t (fr.rules.map bQ++[bQ (pP (-3) "a")])] by simp [sp0,ruL]];exact r7
 obtain ⟨ra,rv,rfl,er,_,tr⟩:=aT r6;have lr:=tr.len;rw [Dx]at lr;obtain ⟨p7,rfl⟩: ∃ p,v7=.ref p:=by cases r7;exact ⟨_,rfl⟩
 rw [show L2.start NRb [.ref tp,.ref a]=some (.ref tp)::some (.ref a)::List.replicate 9 none from rfl];dsimp only [List.set,List.replicate];refine ph (λσ' H'=> ∃ p L o8 o9 o10,σ'=[some (.ref tp),some (.ref a),some (.int b.wheel),some x2,some (.ref fa),some (.int k),some (.ref ra),some (.ref p),o8,o9,o10]/\Tp H' tp/\Kp tp H2 H'/\ThL tp H' (.l (L.map ruL)) (.ref p)/\L≠[]/\L.length<=20/\(∀ x∈L,x∈cr fr.rules)/\
  (1<fr.rules.length-> ∃ H5 zs,H5 p=none/\Same H5 H'/\H' p=some (.lst zs)/\RepTs (fD tp H5) (L.map ruL) zs/\Kp tp H2 H5/\Tp H5 tp)) ?_ (λF hF=>?_)
 ·rintro σ' H4 ⟨p,L,o8,o9,o10,rfl,tt4,k4,r4,L0,L20,hL,hfresh⟩;refine ph (λσ' H'=> ∃ p L o8 o9 o10,σ'=[some (.ref tp),some (.ref a),some (.int b.wheel),some x2,some (.ref fa),some (.int k),some (.ref ra),some (.ref p),o8,o9,o10]/\Tp H' tp/\Kp tp H2 H'/\ThL tp H' (.l (L.map ruL)) (.ref p)/\L≠[]/\L.length<=21/\(∀ x∈L,x∈cr fr.rules)) ?_ (λF hF=>?_)
  ·rintro σ' H4 ⟨p,L,o8,o9,o10,rfl,tt4,k4,r4,L0,L21,hL⟩;have kH4:=k2.trans k4;have Lp:=HL.mpr L0;refine ⟨_,rfl,_,rfl,_,rfl,_,rfl,[none,none,none,none,some (.t (b.forms.map bH)),some (.i k)],_,aP tt4,.no (.no (.no (.no (.th (R r3 kH4) (.th .i .nil))))),gW (l:=[.s fr.name,.s fr.own,sTh fr.parts,ruL fr.rules]) (k:=3) (jL rfl rfl hi),λv8 H5 s5 r8=>?_⟩;have tt5:=tt4.same' s5;have r5:=r4.mono (aq (Kp.refl.same s5));obtain ⟨pa,zs,e9,ep,_,tz⟩:=jD r5;cases e9;have lz:=tz.len;rw [Dx]at lz;refine ⟨_,rfl,_,rfl,_,rfl,p,zs,rfl,.inl (SqL.of (aN ep).1),tp,_,rfl,tt5,by lia,by lia,λd t6 hd0 hd1=>?_⟩;have k6':Kp tp H5 (upd H5 tp (.lst [.int t6])):=Kp.tape;have tt6:Tp (upd H5 tp (.lst [.int t6])) tp:=⟨t6,ae⟩;generalize upd H5 tp (.lst [.int t6])=H6 at k6' tt6 ⊢;obtain ⟨y,u,hy,_,hu,ru⟩:=RepTs.pick (tz.mono (aq k6')) hd0 (by rw [Dx];lia);obtain ⟨rs,hrs,rfl⟩:=DY.mp hy;refine ⟨_,_,d,u,rfl,rfl,SqL.of (aN (aq k6' _ _ ep)).1,hu,a6 (by show 1<=1000;lia),λp9 hp9=>?_⟩;have s9:=am hp9 (.tup [u]);have k9':=k6'.same s9;have tt9:=tt6.same' s9;have e9:(upd H6 p9 (.tup [u])) p9=some (.tup [u]):=ae;have ru:=ru.mono (aq (Kp.refl.same s9));generalize upd H6 p9 (.tup [u])=H7 at s9 k9' tt9 e9 ru ⊢;obtain ⟨a8,us8,rfl,e8,_,t8⟩:=aT (r8.mono (aq k9'));obtain ⟨y1,y2,y3,rfl,g1,g2,g3⟩:=eR t8;refine ⟨a8,p9,_,_,rfl,rfl,SqT.of (aN e8).1,SqT.of e9,a6 (by show 3+1<=1000;lia),(λz=>by cases z),(λ_ z=>by cases z),λ_ _ p10 hp10=>?_⟩;have s10:=am hp10 (.tup [y1,y2,y3,u]);have k10:=((k4.same s5).trans k9').same s10;have kp10:=(Kp.refl (tp:=tp)).same s10;have tt10:=tt9.same' s10;have rx:ThL tp (upd H7 p10 (.tup [y1,y2,y3,u])) (bH {fr with rules:=rs}) (.ref p10):=.t ((a5 tp).new _ (aP tt9) hp10) (by show 4<=1000;lia) (.cons (g1.mono (aq kp10)) (.cons (g2.mono (aq kp10)) (.cons (g3.mono (aq kp10)) (.cons (ru.mono (aq kp10)) .nil))));rw [show [y1,y2,y3]++[u]=[y1,y2,y3,u]from rfl];generalize upd H7 p10 (.tup [y1,y2,y3,u])=H8 at k10 tt10 rx ⊢;have kH8:=k2.trans k10;refine ⟨a5 tp,_,k,.ref p10,_,bH {fr with rules:=rs},rfl,aP tt10,R r3 kH8,rx,hk0,by rw [Dx];exact by lia,λu7 H9 s9 r9=>?_⟩;rw [GG.symm]at r9;have k9:=kH8.same s9;have tt9:=tt10.same' s9;refine ⟨a6 (by show 3<=1000;lia),λp hp=>?_⟩;exact q k.toNat fr rs (.ref p) _ hfr (hL rs hrs) (uj tt9 hp .i (R r2 k9) r9) (k9.new hp) (tt9.new hp)
  ·have hH2:=aN (aq k4 _ _ er);refine ⟨_,rfl,ra,rv,rfl,.inr (SqT.of hH2.1),_,_,rfl,rfl,_,rfl,?_⟩;refine bp (λhc=>?_) (λhc=>?_)
   ·have hc:1<fr.rules.length:=by
     have:=DT hc;lia
    obtain ⟨H5,zs,h5,s5,g5,rz,k5,tt5⟩:=hfresh hc;have hpt:p≠tp:=λz=>by obtain ⟨t,ht⟩:=tt5;rw [z,ht]at h5;cases h5
    have lz:=rz.len;rw [Dx]at lz;refine ⟨_,rfl,.inl ⟨rfl,_,SqL.of g5⟩,_,rfl,_,rfl,ra,rv,rfl,rfl,SqT.of hH2.1,λp2 hp2=>?_⟩;have hne2:p≠p2:=λz=>by rw [z,hp2]at g5;cases g5
    have h2t:p2≠tp:=λz=>by obtain ⟨t,ht⟩:=tt4;rw [z,ht]at hp2;cases hp2
    refine ⟨p,zs,_,rfl,rfl,by rw [aj hne2];exact g5,FB (by lia:zs.length<=20) (by decide),?_⟩;have s6:Same H5 (upd (upd H4 p2 (.tup rv.reverse)) p (.lst (zs++[.ref p2]))):=λb o h=>by
     rw [aj (al h h5)];exact am hp2 _ _ _ (s5 _ _ h)
    have g6:(upd (upd H4 p2 (.tup rv.reverse)) p (.lst (zs++[.ref p2]))) p=some (.lst (zs++[.ref p2])):=ae;have g7:(upd (upd H4 p2 (.tup rv.reverse)) p (.lst (zs++[.ref p2]))) p2=some (.tup rv.reverse):=by rw [aj hne2.symm];exact ae
    generalize upd (upd H4 p2 (.tup rv.reverse)) p (.lst (zs++[.ref p2]))=H6 at s6 g6 g7 ⊢;have k6:=k5.same s6;refine hF _ _ ⟨p,L++[fr.rules.reverse],o8,o9,o10,rfl,tt5.same' s6,k6,?_,by simp,by rw [DA];show _+1<=21;lia,λx hx=>?_⟩
    ·rw [Ef];refine .l (eY g6 hpt) (by rw [DA,Dx];show _+1<=1000;lia) ((rz.mono (aq (Kp.refl.same s6))).app (.cons (.t (eY g7 h2t) (by rw [Dx,E8];lia) ?_) .nil));rw [Iz];exact RepTs.rev (tr.mono (aq k6))
    ·rcases DQ.mp hx with hx | hx
     ·exact hL x hx
     ·rw [DF.mp hx];exact AX hc
   ·exact hF _ _ ⟨p,L,o8,o9,o10,rfl,tt4,k4,r4,L0,by lia,hL⟩
 ·refine ⟨_,rfl,wn,λp0 hp0=>⟨ra,p0,rv,rfl,rfl,SqT.of (am hp0 _ _ _ (s3 _ _ (aN er).1)),SqT.of ae,_,rfl,?_⟩⟩;cases hrs:fr.rules with
  | nil=>
   rw [hrs]at tr r7;cases tr;refine bx (hF _ _ ⟨p7,sp0 [],_,_,_,rfl,tt3.same' (am hp0 _),(Kp.refl.same s3).same (am hp0 _),r7.mono (aq (Kp.refl.same (am hp0 _))),by simp [sp0],by simp [sp0],λx hx=>by rw [hrs];exact hx,λh=>by rw [hrs]at h;exact absurd h (by decide)⟩)
  | cons r rt=>
   rw [hrs]at tr;obtain ⟨rw0,rwt,rfl⟩: ∃ a l,rv=a::l:=by cases rv with | nil=>cases tr | cons a l=>exact ⟨a,l,rfl⟩
   have tr0:=tr;cases tr with
   | cons rr rrt=>
   have s4:=s3.trans (am hp0 (.tup []));have tt4:=tt3.same' (am hp0 (.tup []));have r7:=r7.mono (aq (Kp.refl.same (am hp0 (.tup []))));generalize upd H3 p0 (.tup [])=H4 at s4 tt4 r7 ⊢;obtain ⟨ar,ur,rfl,ear,_,tar⟩:=aT rr;obtain ⟨z1,z2,z3,rfl,g1,g2,g3⟩:=eR tar;refine bE ⟨_,rfl,ra,_,0,_,rfl,rfl,SqT.of (s4 _ _ (aN er).1),du,ar,_,rfl,SqT.of (s4 _ _ (aN ear).1),rfl,_,_,rfl,_,_,rfl,_,_,rfl,rfl,?_⟩;dsimp only [List.set];have q4: ∀ {x:Th} {u:V},ThL tp H2 x u->ThL tp H4 x u:=λr=>r.mono (aq (Kp.refl.same s4));have lr':rt.length<=100:=by rw [hrs]at hl;exact Nat.le_of_succ_le hl
   refine ⟨[none,none,none,none,none,none,some (ruL (r::rt)),some (.l ((sp0 fr.rules).map ruL)),some (.i r.1),some (.s r.2.1),some r.2.2],.l ((sp0 fr.rules).map ruL++[.t (rt.map bQ),.t ([bQ (r.1+1,r.2.1,r.2.2)]++rt.map bQ),.t ([bQ (r.1,"zzzzzzzz",r.2.2)]++rt.map bQ)]),aP tt4,.no (.no (.no (.no (.no (.no (.th (q4 (.t er (by rw [Dx];show rt.length+1<=1000;lia) tr0)) (.th r7 (.th (q4 g1) (.th (q4 g2) (.th (q4 g3) .nil)))))))))),
    gm rfl (gV (ay (ow (x:=bQ r) rfl) (ay (cF rfl (ow (x:=bQ r) rfl) (by rw [Dx];show 1+_<=1000;lia)) (ay (cF rfl (ow (x:=bQ r) rfl) (by rw [Dx];show 1+_<=1000;lia)) rfl)))) (by rw [Dx];show 3+3<=1000;lia),λv5 H5 s5 r5=>?_⟩
   have tt5:=tt4.same' s5;have s25:=s4.trans s5;have q5: ∀ {x:Th} {u:V},ThL tp H4 x u->ThL tp H5 x u:=λr=>r.mono (aq (Kp.refl.same s5));rw [show (sp0 fr.rules).map ruL++[.t (rt.map bQ),.t ([bQ (r.1+1,r.2.1,r.2.2)]++rt.map bQ),.t ([bQ (r.1,"zzzzzzzz",r.2.2)]++rt.map bQ)]=(sp0 fr.rules++sp1 r rt).map ruL by simp [sp1,ruL]]at r5;refine ⟨_,rfl,[none,none,none,none,none,none,some (ruL (r::rt))],.t ((r::rt).map bQ++[(bQ r::rt.map bQ).getLast (by simp)]),aP tt5,.no (.no (.no (.no (.no (.no (.th (q5 (q4 (.t er (by rw [Dx];show rt.length+1<=1000;lia) tr0))) .nil)))))),
    cF rfl (Ag (x:=bQ r) rfl) (by rw [Dx];show rt.length+1+1<=1000;lia),λv6 H6 s6 r6=>⟨a6 (by show 1<=1000;lia),λp6 hp6=>?_⟩⟩
   rw [show Th.t ((r::rt).map bQ++[(bQ r::rt.map bQ).getLast (by simp)])=ruL (sp2 r rt) by
    unfold sp2 ruL;rw [Ef]
    congr 2
    show [((r::rt).map bQ).getLast _]=[bQ ((r::rt).getLast _)];rw [List.getLast_map]]at r6
   obtain ⟨H7,eW,s7,e7⟩:=nw hp6 (.lst [v6]);rw [eW];have tt7:=tt5.same' (s6.trans s7);have r6:=r6.mono (aq (Kp.refl.same s7));have r5:=r5.mono (aq (Kp.refl.same (s6.trans s7)));have k7:Kp tp H2 H7:=Kp.refl.same (s25.trans (s6.trans s7));obtain ⟨p5,zs,rfl,e5,_,tz⟩:=jD r5;have lz:=tz.len;rw [Dx]at lz;have lz6:(sp0 fr.rules++sp1 r rt).length=6:=rfl;refine ⟨_,_,_,_,rfl,rfl,(aN e5).1,e7,a6 (by show zs.length+1<=1000;lia),λp hp=>?_⟩;obtain ⟨H8,eW,s8,e8⟩:=nw hp (.lst (zs++[v6]));rw [eW];have hpt:p≠tp:=λz=>by obtain ⟨t,ht⟩:=tt7;rw [z,ht]at hp;cases hp
   have rz:RepTs (fD tp H7) ((sp0 fr.rules++sp1 r rt++[sp2 r rt]).map ruL) (zs++[v6]):=by
    rw [Ef];exact tz.app (.cons r6 .nil)
   refine hF _ _ ⟨p,sp0 fr.rules++sp1 r rt++[sp2 r rt],_,_,_,rfl,tt7.same' s8,k7.same s8,.l (eY e8 hpt) (by rw [Dx,DA,lz6];show 6+1<=1000;lia) (rz.mono (aq (Kp.refl.same s8))),by simp,by rw [DA,lz6];show 6+1<=20;lia,λx hx=>?_,λ_=>⟨H7,_,hp,s8,e8,rz,k7,tt7⟩⟩;rw [hrs]at hx ⊢;rw [nc];exact Eo _ hx
noncomputable def Cg:Th:=.t [.s "num",.i 0]
noncomputable def kM (x:Th):List Th:=[.t [.i 0,.s "a"],.l [.i 0,.s "a",.non],.t [.bl true,.s "a",Cg],.t [.i 0,x,Cg],.t [.i 0,.s "a",.non,.i 0],.non,.i 7]
theorem wJ {x:Th} (hx:bt x=false): ∀ y∈kM x,de y=false:=by
 intro y hy;unfold kM at hy;simp only [DK,Eb,EQ]at hy;rcases hy with rfl | rfl | rfl | rfl | rfl | rfl | rfl
 ·rfl
 ·rfl
 ·rfl
 ·show (iA (.i 0)&&bt x)=false;rw [hx,DE]
 ·rfl
 ·rfl
 ·rfl
noncomputable abbrev ce (f:FrX):List Th:=f.rules.map bQ
noncomputable def li (x y:Th) (f:FrX):List Th:=
 ((([.t [.s f.name,.s f.own,sTh f.parts],.l [.s f.name,.s f.own,sTh f.parts,.t (ce f)],.t [x,.s f.own,sTh f.parts,.t (ce f)],.t [.s f.name,x,sTh f.parts,.t (ce f)],.non,.t ([.s f.name,.s f.own,sTh f.parts,.t (ce f)]++[.t []])]++
  [.t [.s f.name,.s f.own,.t [x],.t (ce f)],.t [.s f.name,.s f.own,.l (f.parts.map .s),.t (ce f)],.t [.s f.name,.s f.own,.t (List.replicate (4:Int).toNat (.s f.own)),.t (ce f)]])++
  [.t [.s f.name,.s f.own,.non,.t (ce f)],.t [.s f.name,.s f.own,.i 7,.t (ce f)],.t [.s f.name,.s f.own,sTh f.parts,.l (ce f)]])++
  [.t [.s f.name,.s f.own,sTh f.parts,.t (ce f++[y])],.t [.s f.name,.s f.own,sTh f.parts,.t ([y]++ce f)],.t [.s f.name,.s f.own,sTh f.parts,.non]])
theorem eP (a b c d:Th):cR (.t [a,b,c,d])=(bt a&&(bt b&&(bg 3 c&&eg de d))):=rfl
theorem yh {x y:Th} (hx:bt x=false) (hy:de y=false) (f:FrX): ∀ z∈li x y f,cR z=false:=by
 intro z hz;unfold li at hz;simp only [Hw,Ft,Et,DK,Eb,EQ]at hz;rcases hz with rfl | rfl | rfl | rfl | rfl | rfl | rfl | rfl | rfl | rfl | rfl | rfl | rfl | rfl | rfl
 ·rfl
 ·rfl
 ·rw [eP,hx,DN]
 ·rw [eP,hx,DN,DE]
 ·rfl
 ·rfl
 ·rw [eP,show bg 3 (.t [x])=false from lP hx [],DN,DE,DE]
 ·rw [eP,show bg 3 (.l (f.parts.map Th.s))=false from rfl,DN,DE,DE]
 ·rw [eP,show bg 3 (.t (List.replicate (4:Int).toNat (.s f.own)))=false from rfl,DN,DE,DE]
 ·rw [eP,show bg 3 Th.non=false from rfl,DN,DE,DE]
 ·rw [eP,show bg 3 (Th.i 7)=false from rfl,DN,DE,DE]
 ·rw [eP,show eg de (.l (ce f))=false from rfl,DE,DE,DE]
 ·rw [eP,show eg de (.t (ce f++[y]))=false by show (ce f++[y]).all de=false;rw [FK,Fg,hy,DN,DE],DE,DE,DE]
 ·rw [eP,show eg de (.t (y::ce f))=false by show (y::ce f).all de=false;rw [Fg,hy,DN],DE,DE,DE]
 ·rw [eP,show eg de Th.non=false from rfl,DE,DE,DE]
def jz:Sp:=λvs H Q _=> ∃ tp v f,vs=[.ref tp,v]/\Tp H tp/\ThL tp H (bH f) v/\f.parts.length<=3/\f.rules.length<=100/\ ∀ x u H',cR x=false->ThL tp H' x u->Kp tp H H'->Tp H' tp->Q u H'
abbrev NFb:List Str:=["tape","form","name","own","parts","rules","bad","some","bad_rules","one"]
theorem scFormBad:av NFb ["tape","form"] (ah iX):=fsc
theorem fg:j0 (ah iX) NFb=true:=by decide +kernel
theorem rH (F:Fun K "_law_form_bad" "_law_form_bad" iX f fd) (hlist:mg "list"=none) (GD:Cl P w K mg base CX0 1 f2 fd2 ["tape","many"] br "_law_digit")
  (GB:Cl P w K mg base CX0 2 f3 fd3 ["tape"] qH "_law_bad"):
  aX P w K mg base CX0 3 f fd ["tape","form"] jz:=by
 refine F.okz scFormBad λcdv A outer s H vs Q E hr h=>?_;obtain ⟨tp,v,fr,rfl,hT,hx,l1,l2,q⟩:=h;have hr1:=hr.mono (show 1<=2 by decide);refine ⟨_,ad (eJ (pv 1) (cL rfl (aA (pgz 2 scFormBad.nd) (aA (pgz 3 scFormBad.nd) (aA (pgz 4 scFormBad.nd) (aA (pgz 5 scFormBad.nd) bW))))))
  (ad (psz 6 scFormBad.nd (pcl GB hr (aa (pv 0) ac)))
  (ad (psz 7 scFormBad.nd (be (a5 tp) (w:=true) (N:=NFb) rfl fg (λ_=>by exact ⟨rfl,hlist⟩) 9))
  (ad (psz 7 scFormBad.nd (be (a5 tp) (w:=true) (N:=NFb) rfl fg (λ_=>by exact ⟨rfl,hlist⟩) 9))
  (ad (psz 7 scFormBad.nd (be (a5 tp) (w:=true) (N:=NFb) rfl fg (λ_=>by exact ⟨rfl,hlist⟩) 9))
  (@ad _ _ _ _ _ (@cY _ _ 8 _ _ _ _ scFormBad.nd rfl (Or.inl rfl) (@be _ (a5 tp) true NFb rfl fg (λ_=>by exact ⟨rfl,hlist⟩) 9 _) rfl (Or.inl rfl))
  (ad (psz 9 scFormBad.nd (ax (r:=bO K) aL (pv 8) (pcl GD hr1 (aa (pv 0) (aa ag ac))) (λ_ _=>rfl)))
  (ad (psz 7 scFormBad.nd (be (a5 tp) (w:=true) (N:=NFb) rfl fg (λ_=>by exact ⟨rfl,hlist⟩) 9))
  (ai (aw (ax (r:=bO K) aL (pv 7) (pcl GD hr1 (aa (pv 0) (aa ag ac))) (λ_ _=>rfl))))))))))),?_⟩
 obtain ⟨a,us,rfl,e,_,t⟩:=aT hx;obtain ⟨x1,x2,x3,x4,rfl,r1,r2,r3,r4⟩:=re t;refine ⟨_,rfl,a,_,rfl,SqT.of (aN e).1,rfl,_,_,rfl,_,_,rfl,_,_,rfl,_,_,rfl,rfl,?_⟩;refine ⟨_,rfl,tp,rfl,hT,λxb vb H1 hxb rb k1 t1=>?_⟩;have R: ∀ {x:Th} {u:V} {H':Hp},ThL tp H x u->Same H1 H'->ThL tp H' x u:=λr s=>r.mono (aq (k1.same s));have RB: ∀ {H':Hp},Same H1 H'->ThL tp H' xb vb:=λs=>rb.mono (aq (Kp.refl.same s));refine ⟨[none,some (bH fr),some (.s fr.name),some (.s fr.own),some (sTh fr.parts),some (.t (ce fr)),some xb],_,aP t1,.no (.th (R hx (Same.refl _)) (.th (R r1 (Same.refl _)) (.th (R r2 (Same.refl _)) (.th (R r3 (Same.refl _)) (.th (R r4 (Same.refl _)) (.th rb .nil)))))),
  gV (ay (gW (l:=[.s fr.name,.s fr.own,sTh fr.parts,.t (ce fr)]) (k:=3) rfl) (ay rfl (ay rfl (ay rfl (ay rfl (ay (cF (x:=[.s fr.name,.s fr.own,sTh fr.parts,.t (ce fr)]) (y:=[.t []]) rfl rfl (by show 4+1<=1000;lia)) rfl)))))),λv2 H2 s2 q2=>?_⟩
 have t2:=t1.same' s2;refine ⟨[none,none,some (.s fr.name),some (.s fr.own),some (sTh fr.parts),some (.t (ce fr)),some xb,some _],_,aP t2,.no (.no (.th (R r1 s2) (.th (R r2 s2) (.th (R r3 s2) (.th (R r4 s2) (.th (RB s2) (.th q2 .nil))))))),
  gm rfl (gV (ay rfl (ay rfl (ay (dN (ay rfl (ay rfl (ay (se (x:=.s fr.own) rfl) rfl)))) rfl)))) (by show 6+3<=1000;lia),λv3 H3 s3 q3=>?_⟩
 have t3:=t2.same' s3;have s23:=s2.trans s3;refine ⟨[none,none,some (.s fr.name),some (.s fr.own),some (sTh fr.parts),some (.t (ce fr)),some xb,some _],_,aP t3,.no (.no (.th (R r1 s23) (.th (R r2 s23) (.th (R r3 s23) (.th (R r4 s23) (.th (RB s23) (.th q3 .nil))))))),
  gm rfl rfl (by show 9+3<=1000;lia),λv4 H4 s4 q4=>?_⟩
 have t4:=t3.same' s4;have s24:=s23.trans s4;refine ⟨[none,none,none,none,none,none,some xb],.l (kM xb),aP t4,.no (.no (.no (.no (.no (.no (.th (RB s24) .nil)))))),rfl,λv5 H5 s5 q5=>?_⟩;have t5:=t4.same' s5;have s25:=s24.trans s5;refine ⟨_,rfl,_,rfl,tp,7,rfl,t5,by decide,by decide,λd t hd0 hd1=>?_⟩;have k6:Kp tp H5 (upd H5 tp (.lst [.int t])):=Kp.tape;have t6:Tp (upd H5 tp (.lst [.int t])) tp:=⟨t,ae⟩;generalize upd H5 tp (.lst [.int t])=H6 at k6 t6 ⊢;have q6:=q5.mono (aq k6);have k26:Kp tp H1 H6:=(Kp.refl.same s25).trans k6;have k16:=k1.trans k26;cases q6 with
 | l e6 _ ts6=>
 obtain ⟨y,u6,hy,_,hu6,ry⟩:=RepTs.pick ts6 hd0 hd1;refine ⟨_,_,d,u6,rfl,rfl,SqL.of (aN e6).1,hu6,?_⟩;have lr:(ce fr).length=fr.rules.length:=Dx _;refine ⟨[none,none,some (.s fr.name),some (.s fr.own),some (sTh fr.parts),some (.t (ce fr)),some xb,some _,none,some y],_,aP t6,.no (.no (.th (r1.mono (aq k16)) (.th (r2.mono (aq k16)) (.th (r3.mono (aq k16)) (.th (r4.mono (aq k16)) (.th (rb.mono (aq k26)) (.th (q4.mono (aq ((Kp.refl.same s5).trans k6))) (.no (.th ry .nil))))))))),
  gm rfl (gV (ay (dN (ay rfl (ay rfl (ay rfl (ay (cF (x:=ce fr) (y:=[y]) rfl rfl (by rw [lr];show fr.rules.length+1<=1000;lia)) rfl))))) (ay (dN (ay rfl (ay rfl (ay rfl (ay (cF (x:=[y]) (y:=ce fr) rfl rfl (by rw [lr];show 1+fr.rules.length<=1000;lia)) rfl))))) rfl))) (by show 12+3<=1000;lia),λv7 H7 s7 q7=>?_⟩
 have t7:=t6.same' s7;have q7:ThL tp H7 (.l (li xb y fr)) v7:=q7;refine ⟨_,rfl,_,rfl,tp,15,rfl,t7,by decide,by decide,λd t h0 h15=>?_⟩;have k8:Kp tp H7 (upd H7 tp (.lst [.int t])):=Kp.tape;have tt:Tp (upd H7 tp (.lst [.int t])) tp:=⟨t,ae⟩;generalize upd H7 tp (.lst [.int t])=H8 at k8 tt ⊢;have q8:=q7.mono (aq k8);cases q8 with
 | l e8 _ ts=>
  obtain ⟨x,u,hxm,_,hu,ru⟩:=RepTs.pick ts h0 h15;exact ⟨_,_,d,u,rfl,rfl,SqL.of (aN e8).1,hu,q x u H8 (yh hxb (wJ hxb y hy) fr x hxm) ru ((k16.same s7).trans k8) tt⟩
noncomputable def badWs:List Th:=[.i 1,.i (-1),.bl true,.bl false,.non,.s "2",.i (10^30+1),.l [.i 2]]
theorem vF: ∀ x∈badWs,dL x=false:=by
 have h:badWs.all (λx=> !dL x)=true:=by decide +kernel
 intro x hx;have:=Ed.mp h x hx;simpa using this
noncomputable def yH (l:List Th) (n k:Nat) (y z:Th):List Th:=[.t [],.l l,.non,.t (List.replicate n y),.t (l.set k z)]
theorem nA (a b c:Th):cJ (.t [a,b,c])=(dL a&&(dg 1 4 b&&(dg 1 10 c&&(eg cP b&&eg cR c)))):=rfl
theorem wL {x:Th} {n:Nat} {hi:Int} (h:hi< (n:Int)):dg 1 hi (.t (List.replicate n x))=false:=by
 show (decide ((1:Int)<=(((List.replicate n x).length:Nat):Int))&&decide ((((List.replicate n x).length:Nat):Int)<=hi))=false;rw [FP,DG (show ¬ (n:Int)<=hi by lia),DE]
theorem qp {l:List Th} {n k:Nat} {y z:Th} {hi:Int} {g:Th->Bool} (hz:g z=false) (hk:k<l.length) (hn:hi< (n:Int)): ∀ x∈yH l n k y z,(dg 1 hi x&&eg g x)=false:=by
 intro x hx;simp only [yH,DK,Eb,EQ]at hx;rcases hx with rfl | rfl | rfl | rfl | rfl
 ·rfl
 ·rfl
 ·rfl
 ·rw [wL hn,DN]
 ·have:(l.set k z).all g=false:=by
   rw [F5];exact ⟨z,HN hk _,by rw [hz];exact DM⟩
  rw [show eg g (.t (l.set k z))=(l.set k z).all g from rfl,this,DE]
theorem wp {a b c:Th} (h:(dg 1 4 b&&eg cP b)=false):cJ (.t [a,b,c])=false:=by
 rw [nA];cases h1:dg 1 4 b with
 | false=>rw [DN,DE]
 | true=>
  rw [h1,Ec]at h;rw [h,DN,DE,DE,DE]
theorem wq {a b c:Th} (h:(dg 1 10 c&&eg cR c)=false):cJ (.t [a,b,c])=false:=by
 rw [nA];cases h1:dg 1 10 c with
 | false=>rw [DN,DE,DE]
 | true=>
  rw [h1,Ec]at h;rw [h,DE,DE,DE,DE]
def iQ:Sp:=λvs H Q _=> ∃ tp v b,vs=[.ref tp,v]/\Tp H tp/\ThL tp H (cO b) v/\ShX b/\(∀ f∈b.forms,f.rules.length<=100)/\ ∀ x u H',cJ x=false->ThL tp H' x u->Kp tp H H'->Tp H' tp->Q u H'
def vU (K:W.Frag) (V:qr) (N:List Str) (c i:Nat) (e1 e2 e3 e4:Expr) (sp:Sp):TE:=AQ (eF (tEv V true N 9 e1) (eF (tEv V true N 9 e2) (eF (tEv V true N 9 e3) (eF (tEv V true N 9 e4) (eF (lW eh [] E0 (eF (gC c) (eF (gC i) (eF (lW sp [] E0 (eF (gC 0) (eF (tOp (bc K) (gC c) (gC i)) ul))) ul)))) ul)))))
theorem CL {K:W.Frag} {tp:Addr} {N:List Str} {c i d:Nat} {e1 e2 e3 e4:Expr} {sp:Sp} {σ:St} {H:Hp} {u:TS} {D:eS} (bad:Th->Bool) {l:List Th} {k:Int} {x0 y0:Th} {n:Nat} {en:List (Option Th)} {cv:V}
  (hT:Tp H tp) (h0:σ[0]? =some (some (.ref tp))) (hc:σ[c]? =some (some cv)) (hi:σ[i]? =some (some (.int k))) (hl:ThL tp H (.t l) cv) (hen:EnR (fD tp H) en σ)
  (f1:evE true N en 9 e1=some (.t [])) (f2:evE true N en 9 e2=some (.l l)) (f3:evE true N en 9 e3=some .non) (f4:evE true N en 9 e4=some (.t (List.replicate n y0))) (k0:0<=k) (hx:l[k.toNat]? =some x0)
  (hs: ∀ {v:V} {H':Hp} {Q':VK},Tp H' tp->ThL tp H' x0 v->(∀ x u H2,bad x=false->ThL tp H2 x u->Kp tp H' H2->Tp H2 tp->Q' u H2)->sp [.ref tp,v] H' Q' E0)
  (q: ∀ p x H',bad x=false->ThL tp H' (.l (yH l n k.toNat y0 x)) (.ref p)->Kp tp H H'->Tp H' tp->u D (σ.set d (some (.ref p))) H'):vQ (mX (vU K (a5 tp) N c i e1 e2 e3 e4 sp) (eM d)) u D σ H:=by
 refine ⟨en,_,aP hT,hen,f1,λv1 H1 s1 r1=>⟨en,_,aP (hT.same' s1),hen.mono (aq (Kp.refl.same s1)),f2,λv2 H2 s2 r2=>?_⟩⟩;have S2:=s1.trans s2;refine ⟨en,_,aP (hT.same' S2),hen.mono (aq (Kp.refl.same S2)),f3,λv3 H3 s3 r3=>?_⟩;have S3:=S2.trans s3;refine ⟨en,_,aP (hT.same' S3),hen.mono (aq (Kp.refl.same S3)),f4,λv4 H4 s4 r4=>?_⟩;have S4:=S3.trans s4;have T4:=hT.same' S4;have hl4:=hl.mono (aq (Kp.refl.same S4));obtain ⟨a,vs,rfl,e,lb,ts⟩:=aT hl4;obtain ⟨u,hu,ru⟩:=ts.get hx;have ek:k=((k.toNat:Nat):Int):=by lia
 have hlt:k.toNat<l.length:=by
  rcases Nat.lt_or_ge k.toNat l.length with h | h
  ·exact h
  ·rw [ER h]at hx;cases hx
 refine ⟨_,hc,_,hi,_,h0,_,hc,_,hi,a,vs,k,u,rfl,rfl,SqT.of (aN e).1,by rw [ek];exact aM hu,?_⟩;refine hs T4 ru λx w H5 hb rw5 k5 T5=>?_;refine ⟨a5 tp,_,k,w,l,x,rfl,aP T5,hl4.mono (aq k5),rw5,k0,by lia,λz H6 s6 rz=>?_⟩;have k6:=k5.same s6;refine ⟨a6 (by show 5<=1000;lia),λp hp=>?_⟩;have s7:=am hp (.lst [v1,v2,v3,v4,z]);have e7:(upd H6 p (.lst [v1,v2,v3,v4,z])) p=some (.lst [v1,v2,v3,v4,z]):=ae;have T6:=T5.same' s6;have hpt:p≠tp:=λz=>by obtain ⟨t,ht⟩:=T6;rw [z,ht]at hp;cases hp
 generalize upd H6 p (.lst [v1,v2,v3,v4,z])=H7 at s7 e7 ⊢;have k7:=k6.same s7;refine q p x H7 hb (.l (eY e7 hpt) (by show 5<=1000;lia) (.cons (r1.mono (aq ((Kp.refl.same ((s2.trans s3).trans s4)).trans k7))) (.cons (r2.mono (aq ((Kp.refl.same (s3.trans s4)).trans k7))) (.cons (r3.mono (aq ((Kp.refl.same s4).trans k7))) (.cons (r4.mono (aq k7)) (.cons (rz.mono (aq (Kp.refl.same s7))) .nil)))))) ((Kp.refl.same S4).trans k7) (T6.same' s7)
abbrev NLs:List Str:=["tape","book","wheel","sorts","forms","k","j","bad_sorts","bad_forms","way"]
theorem scLShape:av NLs ["tape","book"] (ah ki):=fsc
theorem dE:j0 (ah ki) NLs=true:=by decide +kernel
theorem uQ (F:Fun K "_law_shape" "_law_shape" ki f fd) (G:Gb mg) (hlist:mg "list"=none) (GD:Cl P w K mg base CX0 1 f2 fd2 ["tape","many"] br "_law_digit")
  (GS:Cl P w K mg base CX0 1 f3 fd3 ["things","k","thing"] eh "_law_swapped")
  (GA:Cl P w K mg base CX0 3 f4 fd4 ["tape","sort"] jy "_law_sort_bad")
  (GF:Cl P w K mg base CX0 3 f5 fd5 ["tape","form"] jz "_law_form_bad"):
  aX P w K mg base CX0 4 f fd ["tape","book"] iQ:=by
 refine F.okz scLShape λcdv A outer s H vs Q E hr h=>?_;obtain ⟨tp,v,b,rfl,hT,hx,hsh,h100,q⟩:=h;have hr1:=hr.mono (show 1<=3 by decide);refine ⟨_,ad (eJ (pv 1) (cL rfl (aA (pgz 2 scLShape.nd) (aA (pgz 3 scLShape.nd) (aA (pgz 4 scLShape.nd) bW)))))
  (ad (psz 5 scLShape.nd (pcl GD hr1 (aa (pv 0) (aa (ao (r:=bU K) au rfl G.len DV (aa (pv 3) ac)) ac))))
  (ad (psz 6 scLShape.nd (pcl GD hr1 (aa (pv 0) (aa (ao (r:=bU K) au rfl G.len DV (aa (pv 4) ac)) ac))))
  (ad (cY (i:=7) (te:=vU K (a5 tp) NLs 3 5 _ _ _ _ jy) scLShape.nd rfl (Or.inl rfl) (bh (pac (be (a5 tp) rfl dE (λ_=>by exact ⟨rfl,hlist⟩) 9) (pac (be (a5 tp) rfl dE (λ_=>by exact ⟨rfl,hlist⟩) 9) (pac (be (a5 tp) rfl dE (λ_=>by exact ⟨rfl,hlist⟩) 9) (pac (be (a5 tp) rfl dE (λ_=>by exact ⟨rfl,hlist⟩) 9)
   (pac (pcl GS hr1 (aa (pv 3) (aa (pv 5) (aa (pcl GA hr (aa (pv 0) (aa (ax (r:=bc K) aH (pv 3) (pv 5) (λ_ _=>rfl)) ac))) ac)))) ac)))))))
  (ad (cY (i:=8) (te:=vU K (a5 tp) NLs 4 6 _ _ _ _ jz) scLShape.nd rfl (Or.inl rfl) (bh (pac (be (a5 tp) rfl dE (λ_=>by exact ⟨rfl,hlist⟩) 9) (pac (be (a5 tp) rfl dE (λ_=>by exact ⟨rfl,hlist⟩) 9) (pac (be (a5 tp) rfl dE (λ_=>by exact ⟨rfl,hlist⟩) 9) (pac (be (a5 tp) rfl dE (λ_=>by exact ⟨rfl,hlist⟩) 9)
   (pac (pcl GS hr1 (aa (pv 4) (aa (pv 6) (aa (pcl GF hr (aa (pv 0) (aa (ax (r:=bc K) aH (pv 4) (pv 6) (λ_ _=>rfl)) ac))) ac)))) ac)))))))
  (ad (psz 9 scLShape.nd (pcl GD hr1 (aa (pv 0) (aa ag ac))))
  (ad (aS (aG bJ (pv 9) ag (aJ _))
   (@ai _ _ _ (@aw _ _ _ _ (@aU _ _ _ _ _ (@aa _ _ _ _ _ (@ax _ _ _ _ _ _ (bO K) aL (@bh _ _ _ _ (@pac _ _ _ _ _ ag (@pac _ _ _ _ _ (gN eE ag) (@pac _ _ _ _ _ cx (@pac _ _ _ _ _ cx (@pac _ _ _ _ _ eL (@pac _ _ _ _ _ aV (@pac _ _ _ _ _ (aF bn (aF rm ag ag) ag) (@pac _ _ _ _ _ (bh (pac ag ac)) ac rfl) rfl) rfl) rfl) rfl) rfl) rfl) rfl))
    (pcl GD hr1 (aa (pv 0) (aa ag ac))) (λ_ _=>rfl)) (aa (pv 3) (aa (pv 4) ac)) rfl)))) aE)
  (ad (aS (aG jc (pv 9) ag (aJ _))
   (ai (aw (aU (aa (pv 2) (aa (ax (r:=bO K) aL (pv 7) (ax (r:=bO K) aL (bh (pac (pcl GD hr1 (aa (pv 0) (aa ag ac))) (pac ag ac))) (aF fX (pv 9) ag) (λ_ _=>rfl)) (λ_ _=>rfl)) (aa (pv 4) ac)))))) aE)
  (ai (aw (aU (aa (pv 2) (aa (pv 3) (aa (ax (r:=bO K) aL (pv 8) (ax (r:=bO K) aL (bh (pac (pcl GD hr1 (aa (pv 0) (aa ag ac))) (pac ag (pac ag ac)))) (aF fX (pv 9) ag) (λ_ _=>rfl)) (λ_ _=>rfl)) ac))))))))))))),?_⟩
 obtain ⟨a,us,rfl,e,_,t⟩:=aT hx;obtain ⟨x1,x2,x3,rfl,r1,r2,r3⟩:=eR t;obtain ⟨sa,sv,rfl,es,_,ts⟩:=aT r2;obtain ⟨fa,fv,rfl,ef,_,tf⟩:=aT r3;rw [show x1=.int b.wheel by cases r1;rfl]at e;have ls:=ts.len;have lf:=tf.len;rw [Dx]at ls lf;have h1:=hsh.s1;have h2:=hsh.s4;have h3:=hsh.f1;have h4:=hsh.f10;refine ⟨_,rfl,a,_,rfl,SqT.of (aN e).1,rfl,_,_,rfl,_,_,rfl,_,_,rfl,rfl,?_⟩;refine ⟨_,rfl,_,rfl,sa,sv,rfl,.inr (SqT.of (aN es).1),tp,_,rfl,hT,by lia,by lia,λk t1 hk0 hk1=>?_⟩;have k1:Kp tp H (upd H tp (.lst [.int t1])):=Kp.tape;have tt1:Tp (upd H tp (.lst [.int t1])) tp:=⟨t1,ae⟩;generalize upd H tp (.lst [.int t1])=H1 at k1 tt1 ⊢;refine ⟨_,rfl,_,rfl,fa,fv,rfl,.inr (SqT.of (aN (aq k1 _ _ ef)).1),tp,_,rfl,tt1,by lia,by lia,λj t2 hj0 hj1=>?_⟩;have k2':Kp tp H1 (upd H1 tp (.lst [.int t2])):=Kp.tape;have tt2:Tp (upd H1 tp (.lst [.int t2])) tp:=⟨t2,ae⟩;generalize upd H1 tp (.lst [.int t2])=H2 at k2' tt2 ⊢;have k2:=k1.trans k2';obtain ⟨sr,hsr⟩: ∃ sr,b.sorts[k.toNat]? =some sr:=⟨_,DD (by lia)⟩;obtain ⟨fr,hfr⟩: ∃ fr,b.forms[j.toNat]? =some fr:=⟨_,DD (by lia)⟩;obtain ⟨s0,ss,hs0⟩: ∃ s0 ss,b.sorts=s0::ss:=by cases hb:b.sorts with | nil=>rw [hb]at h1;cases h1 | cons a l=>exact ⟨a,l,rfl⟩
 obtain ⟨f0,fs,hf0⟩: ∃ s0 ss,b.forms=s0::ss:=by cases hb:b.forms with | nil=>rw [hb]at h3;cases h3 | cons a l=>exact ⟨a,l,rfl⟩
 have es0:(b.sorts.map cW).take 1=[cW s0]:=by rw [hs0];rfl
 have ef0:(b.forms.map bH).take 1=[bH f0]:=by rw [hf0];rfl
 have R: ∀ {x:Th} {u:V} {H':Hp},ThL tp H x u->Kp tp H H'->ThL tp H' x u:=λr k=>r.mono (aq k);obtain ⟨_,_,l1,l2⟩:=hsh.sw sr (DC hsr);obtain ⟨_,_,_,l3,_⟩:=hsh.fw fr (DC hfr);have l4:=h100 fr (DC hfr);rw [show L2.start NLs [.ref tp,.ref a]=some (.ref tp)::some (.ref a)::List.replicate 8 none from rfl];dsimp only [List.set,List.replicate];refine CL cP (l:=b.sorts.map cW) (n:=5) (x0:=cW sr) (y0:=cW s0) (k:=k) (en:=[none,none,none,some (.t (b.sorts.map cW))]) tt2 rfl rfl rfl (R r2 k2) (.no (.no (.no (.th (R r2 k2) .nil)))) rfl rfl rfl (se (k:=5) (by rw [<- es0];exact gW (l:=b.sorts.map cW) (k:=1) rfl)) hk0 (by rw [DP,hsr];rfl) (λ{v H' Q'} T r q'=>⟨tp,v,sr,rfl,T,r,l1,l2,q'⟩) λp7 xs H3 hxs rs k3' tt3=>?_;have k3:=k2.trans k3';refine CL cR (l:=b.forms.map bH) (n:=11) (x0:=bH fr) (y0:=bH f0) (k:=j) (en:=[none,none,none,none,some (.t (b.forms.map bH))]) tt3 rfl rfl rfl (R r3 k3) (.no (.no (.no (.no (.th (R r3 k3) .nil))))) rfl rfl rfl (se (k:=11) (by rw [<- ef0];exact gW (l:=b.forms.map bH) (k:=1) rfl)) hj0 (by rw [DP,hfr];rfl) (λ{v H' Q'} T r q'=>⟨tp,v,fr,rfl,T,r,l3,l4,q'⟩) λp8 xf H4 hxf rf k4' tt4=>?_;have k4:=k3.trans k4';refine ⟨_,rfl,tp,6,rfl,tt4,by decide,by decide,λway t5 hw0 hw1=>?_⟩;have k5':Kp tp H4 (upd H4 tp (.lst [.int t5])):=Kp.tape;have tt5:Tp (upd H4 tp (.lst [.int t5])) tp:=⟨t5,ae⟩;generalize upd H4 tp (.lst [.int t5])=H5 at k5' tt5 ⊢;have k5:=k4.trans k5';have rs:=rs.mono (aq (k4'.trans k5'));have rf:=rf.mono (aq k5');dsimp only [List.set];have fin: ∀ {x y z:Th} {u v w:V} {H6:Hp},cJ (.t [x,y,z])=false->ThL tp H6 x u->ThL tp H6 y v->ThL tp H6 z w->Kp tp H5 H6->Tp H6 tp-> ∀ p,H6 p=none->Q (.ref p) (upd H6 p (.tup [u,v,w])):=λhs g1 g2 g3 k T p hp=>q _ _ _ hs (uj T hp g1 g2 g3) ((k5.trans k).new hp) (T.new hp);have sl3: ∀ {u v w:V},[u,v,w].length<=PySem.sizeLine:=λ{_ _ _}=>a6 (by show 3<=1000;lia);refine ⟨_,rfl,rfl,_,rfl,?_⟩;refine bp (λ_=>?_) (λhne=>?_)
 ·refine ⟨_,rfl,10,30,rfl,rfl,⟨by decide,by decide,by decide +kernel⟩,_,_,rfl,rfl,a6 (by show 1<=1000;lia),λpl hpl=>⟨a6 (by show 8<=1000;lia),λp hp=>?_⟩⟩;have s6:=am hpl (.lst [.int 2]);have e6:(upd H5 pl (.lst [.int 2])) pl=some (.lst [.int 2]):=ae;have tt6:=tt5.same' s6;have hlt:pl≠tp:=λz=>by obtain ⟨t,ht⟩:=tt5;rw [z,ht]at hpl;cases hpl
  have hpt:p≠tp:=λz=>by obtain ⟨t,ht⟩:=tt6;rw [z,ht]at hp;cases hp
  have s7:=s6.trans (am hp (.lst [.int 1,.int (-1),.bl true,.bl false,.non,.str "2",.int (10^30+1),.ref pl]));have e7:=am hp (.lst [.int 1,.int (-1),.bl true,.bl false,.non,.str "2",.int (10^30+1),.ref pl]) _ _ e6;have e8:(upd (upd H5 pl (.lst [.int 2])) p (.lst [.int 1,.int (-1),.bl true,.bl false,.non,.str "2",.int (10^30+1),.ref pl])) p=some (.lst [.int 1,.int (-1),.bl true,.bl false,.non,.str "2",.int (10^30+1),.ref pl]):=ae;change lW br [] E0 (eF (gC 0) (eF (tC (V.int 8)) ul)) _ (upd (upd H5 pl (.lst [.int 2])) p (.lst [.int 1,.int (-1),.bl true,.bl false,.non,.str "2",.int (10^30+1),.ref pl])) _;generalize upd (upd H5 pl (.lst [.int 2])) p (.lst [.int 1,.int (-1),.bl true,.bl false,.non,.str "2",.int (10^30+1),.ref pl])=H7 at s7 e7 e8 ⊢;have tt7:=tt5.same' s7;refine ⟨_,rfl,tp,8,rfl,tt7,by decide,by decide,λd t6 hd0 hd1=>?_⟩;have k8':Kp tp H7 (upd H7 tp (.lst [.int t6])):=Kp.tape;have tt8:Tp (upd H7 tp (.lst [.int t6])) tp:=⟨t6,ae⟩;generalize upd H7 tp (.lst [.int t6])=H8 at k8' tt8 ⊢;have rwh:RepTs (fD tp H8) badWs [.int 1,.int (-1),.bl true,.bl false,.non,.str "2",.int (10^30+1),.ref pl]:=
   .cons .i (.cons .i (.cons .bl (.cons .bl (.cons .non (.cons (.s (by decide)) (.cons .i (.cons (.l (eY (k8' _ _ e7 hlt) hlt) (by decide) (.cons .i .nil)) .nil)))))))
  obtain ⟨x,u,hxm,_,hu,ru⟩:=RepTs.pick rwh hd0 hd1;have k58:Kp tp H5 H8:=(Kp.refl.same s7).trans k8';exact ⟨p,_,d,u,rfl,rfl,SqL.of (k8' _ _ e8 hpt),hu,_,rfl,_,rfl,sl3,fin (by rw [nA,vF x hxm,DN]) ru (R r2 (k5.trans k58)) (R r3 (k5.trans k58)) k58 tt8⟩
 have hne:way≠0:=λz=>hne (by rw [z];rfl);refine ⟨_,rfl,_,_,rfl,rfl,_,rfl,?_⟩;refine bp (λh3=>?_) (λh3=>?_)
 ·have hl:k.toNat< (b.sorts.map cW).length:=by rw [Dx];lia
  obtain ⟨p7',zs,e9,ep,_,tz⟩:=jD rs;cases e9;refine ⟨_,rfl,_,rfl,_,rfl,tp,5,rfl,tt5,by decide,by decide,λd t6 hd0 hd1=>?_⟩;have k6':Kp tp H5 (upd H5 tp (.lst [.int t6])):=Kp.tape;have tt6:Tp (upd H5 tp (.lst [.int t6])) tp:=⟨t6,ae⟩;generalize upd H5 tp (.lst [.int t6])=H6 at k6' tt6 ⊢;refine ⟨a6 (by show 2<=1000;lia),λpl hpl=>?_⟩;have k7:=k6'.new (o:=.lst [.int d,.int 4]) hpl;have tt7:=tt6.new (o:=.lst [.int d,.int 4]) hpl;have e7:(upd H6 pl (.lst [.int d,.int 4])) pl=some (.lst [.int d,.int 4]):=ae;generalize upd H6 pl (.lst [.int d,.int 4])=H7 at k7 tt7 e7 ⊢;obtain ⟨ix,hix,hx0,hx5⟩: ∃ ix,atI [V.int d,V.int 4] (way-1)=some (.int ix)/\0<=ix/\ix<5:=by
   have h3:=DT h3;rcases (by lia:way=1\/way=2)with rfl | rfl
   ·exact ⟨d,rfl,hd0,hd1⟩
   ·exact ⟨4,rfl,by decide,by decide⟩
  obtain ⟨y,u,hy,_,hu,ru⟩:=RepTs.pick (tz.mono (aq k7)) hx0 hx5;refine ⟨_,rfl,_,_,rfl,rfl,pl,_,_,_,rfl,rfl,SqL.of e7,hix,p7,zs,ix,u,rfl,rfl,SqL.of (aN (aq k7 _ _ ep)).1,hu,_,rfl,sl3,?_⟩;exact fin (wp (qp hxs hl (by decide) y hy)) .i ru (R r3 (k5.trans k7)) k7 tt7
 ·have hl:j.toNat< (b.forms.map bH).length:=by rw [Dx];lia
  obtain ⟨p8',zs,e9,ep,_,tz⟩:=jD rf;cases e9;refine ⟨_,rfl,_,rfl,_,rfl,_,rfl,tp,5,rfl,tt5,by decide,by decide,λd t6 hd0 hd1=>?_⟩;have k6':Kp tp H5 (upd H5 tp (.lst [.int t6])):=Kp.tape;have tt6:Tp (upd H5 tp (.lst [.int t6])) tp:=⟨t6,ae⟩;generalize upd H5 tp (.lst [.int t6])=H6 at k6' tt6 ⊢;refine ⟨a6 (by show 3<=1000;lia),λpl hpl=>?_⟩;have k7:=k6'.new (o:=.lst [.int d,.int 4,.int 4]) hpl;have tt7:=tt6.new (o:=.lst [.int d,.int 4,.int 4]) hpl;have e7:(upd H6 pl (.lst [.int d,.int 4,.int 4])) pl=some (.lst [.int d,.int 4,.int 4]):=ae;generalize upd H6 pl (.lst [.int d,.int 4,.int 4])=H7 at k7 tt7 e7 ⊢;obtain ⟨ix,hix,hx0,hx5⟩: ∃ ix,atI [V.int d,V.int 4,V.int 4] (way-3)=some (.int ix)/\0<=ix/\ix<5:=by
   have h3: ¬ way<3:=λz=>h3 (DB z);rcases (by lia:way=3\/way=4\/way=5)with rfl | rfl | rfl
   ·exact ⟨d,rfl,hd0,hd1⟩
   ·exact ⟨4,rfl,by decide,by decide⟩
   ·exact ⟨4,rfl,by decide,by decide⟩
  obtain ⟨y,u,hy,_,hu,ru⟩:=RepTs.pick (tz.mono (aq k7)) hx0 hx5;refine ⟨_,rfl,_,_,rfl,rfl,pl,_,_,_,rfl,rfl,SqL.of e7,hix,p8,zs,ix,u,rfl,rfl,SqL.of (aN (aq k7 _ _ ep)).1,hu,sl3,?_⟩;exact fin (wq (qp hxf hl (by decide) y hy)) .i (R r2 (k5.trans k7)) ru k7 tt7
end My
namespace L2
open PySem PySem.Spec PyProof.Rows
noncomputable def nK (o:Obj):Nat:=match o.data with
 | .dict es _=>es.size
 | _=>0
noncomputable def eK (o:Obj):Nat:=match o.data with
 | .dict _ ep=>ep
 | _=>0
theorem Inv.freezeK {X:Cx} {pins:List (Addr×Obj)} {σ:St} {H:Hp} {s:Shared} {d:Addr} {o:Obj} {kvs:List (Key×V)} (I:Inv X pins σ H s) (hd:H d=some (.dK kvs)) (ho:s.heap.get? d=some o):Inv X pins σ (upd H d (.frz o (.dK kvs))) s:=by
 refine jo (t':=s.toks) (h':=s.heap) I (by rw [hd];exact True.intro) ⟨rfl,λ_ _=>rfl⟩ ⟨o,ho⟩ ⟨ho,?_⟩;exact (show ObjOk X.prog X.w H s.heap d (.dK kvs)from I.hok d _ hd)
theorem Cn {P:Program} {w:World} {k:Key} {u:Value} (h:(a4 P w).is k u=true):RelV (kV k) u:=by
 rw [rM]at h;rcases bC h with ⟨i,t,rfl,rfl⟩ | ⟨x,t,rfl,rfl⟩
 ·exact ⟨t,rfl⟩
 ·exact ⟨t,rfl⟩
theorem kR {P:Program} {w:World}: ∀ {es:List DictEntry} {ws:List (Key×Value)} {kvs:List (Key×V)},Pairs (a4 P w) es ws->KV kvs ws->Vals (kvs.map λq=>kV q.1) (es.map (·.key))
 | _,_,_,.nil,.nil=>.nil
 | _,_,_,.cons h _ t,.cons h2 t2=>.cons (show RelV (kV _) _ from by rw [h2.1];exact Cn h) (kR t t2)
theorem jJ {X:Cx} {pins:List (Addr×Obj)} {σ:St} {H:Hp} {s:Shared} {d:Addr} {o:Obj} {kvs:List (Key×V)} (I:Inv X pins σ H s) (hd:H d=some (.frz o (.dK kvs))):
  ∃ ks:List Value,Vals (kvs.map λq=>kV q.1) ks/\(d==sysModules)=false/\nK o=ks.length/\HT.DEs s.heap d ks (eK o)/\s.heap.get? d=some o:=by
 obtain ⟨ho,z,lo,ws,rel,o',es,ep,h1,h2,h3,h4,h5,h6⟩:=(show ObjOk X.prog X.w H s.heap d (.frz o (.dK kvs))from I.hok d _ hd);rw [ho]at h1;cases h1;have e1:nK o=es.size:=by unfold nK;rw [h3]
 have e2:eK o=ep:=by unfold eK;rw [h3]
 refine ⟨es.toList.map (·.key),kR h5 rel,lo,by rw [e1,Dx,EJ],⟨o,es,ho,h2,by rw [e2];exact h3,rfl⟩,ho⟩
noncomputable def yM (d:Addr) (o:Obj):It:=
 ⟨λi H=> ∃ kvs kv,H d=some (.frz o (.dK kvs))/\kvs[i]? =some kv,
  λi H x H'=>H'=H/\ ∃ k,x=kV k/\ ∀ kvs,H d=some (.frz o (.dK kvs))->(kvs.map (·.1))[i]? =some k,
  λi H=> ∃ kvs,H d=some (.frz o (.dK kvs))/\kvs.length=i⟩
theorem qA {P:Program} {w:World} {K:W.Frag} {tg:Expr} (it d:Addr) (o:Obj):qt P w K tg (yM d o) [it] it (λi h=>h.IsKeyIter it d i (nK o) (eK o)) where
 mem:=by simp
 obj:=λi h st b hb=>by
  have e:b=it:=by simpa using hb
  subst e;obtain ⟨o,e,c,d⟩:=st;exact ⟨o,e,λv z=>by rw [d]at z;cases z⟩
 keep:=λi h h' st k=>st.at λo e=>k it (by simp) o e
 item:=by
  intro X hP hw hK hc i pins s σ H E I hf st hg;subst hP hw hK;obtain ⟨kvs,kv,hd,hx⟩:=hg;obtain ⟨ks,rv,lo,hn,m,_⟩:=jJ I hd;obtain ⟨u,hu,ru⟩:=rv.get (show (kvs.map λq=>kV q.1)[i]? =some (kV kv.1) by rw [DP,hx];rfl);obtain ⟨f0,f1,f2,f3,f4,f5⟩:=hf it (by simp);rw [hn]at st;refine HT.next_des st m hu λh' st' sb=>?_;have I1:Inv X pins σ H {s with heap:=h'}:=I.turned (t':=s.toks) (λb o hb e=>sb.extBut b o hb e) f0 f1 f3 f4 f5;obtain ⟨o',e,c,d'⟩:=id st';rw [<- hn]at st';exact ⟨u,rfl,mw (s:={s with heap:=h'}) e c d' (by decide) ⟨kV kv.1,H,I1,ru,⟨rfl,kv.1,rfl,λys hy=>by rw [hd]at hy;cases hy;rw [DP,hx];rfl⟩,st',λb hb=>(hf b hb).1⟩⟩
 done:=by
  intro X hP hw hK hc i pins s σ H E I hf st hg;subst hP hw hK;obtain ⟨kvs,hd,hl⟩:=hg;obtain ⟨ks,rv,lo,hn,m,_⟩:=jJ I hd;have hle:kvs.length=ks.length:=by rw [<- rv.length,Dx]
  obtain ⟨f0,f1,f2,f3,f4,f5⟩:=hf it (by simp);rw [hn]at st;exact HT.end_des (I.ok.hd hc) st m (by lia) λh' eb=>⟨rfl,I.turned (t':=s.toks) (λb o hb e=>eb b o hb e) f0 f1 f3 f4 f5⟩
 self:=λ_ _ _ _ _ st h=>wpAny_pyIter_keyiter st h
noncomputable def Cs (to:TE):TI:=λσ H R=>to σ H λx H1=> ∃ d kvs,x=.ref d/\H1 d=some (.dK kvs)/\ ∀ o,R (yM d o) (upd H1 d (.frz o (.dK kvs)))
theorem wW {X:Cx} {tg:Expr} {o:Expr} {to:TE} (ho:PE X o to):PI X tg o (Cs to):=by
 intro pins s σ H R I h;refine thn (ho pins s σ H _ I h) λv s1 ⟨x,H1,I1,r1,d,kvs,ex,hd,q⟩=>?_;subst ex;cases r1;obtain ⟨z,lo,ws,rel,ob,es,ep,h1,_⟩:=AE I1.hok hd;have I2:=I1.freezeK hd h1;obtain ⟨ks,rv,lo,hn,m,hob⟩:=jJ I2 ae;refine HT.iter_des lo m ?_;refine ⟨_,[_],_,_,_,rfl,I2.kept (t':=s1.toks) λb o e=>Dz _ e,qA _ d ob,?_,λb hb=>?_,q ob⟩
 ·rw [<- hn];exact ⟨_,DS _ rfl,rfl,rfl⟩
 ·have e:b=s1.heap.objs.size:=by simpa using hb
  have hb':s1.heap.objs.size<=b:=Nat.le_of_eq e.symm;exact I2.fpOk hb' (I2.hok.fresh hb')
theorem vo {d:Addr} {o:Obj} {kvs:List (Key×V)} {g:TG} {tb:TS} {D:eS} {σ:St} {H:Hp} (Pv:Nat->St->Hp->Prop) (h0:Pv 0 σ H) (hl: ∀ i σ H,i<=kvs.length->Pv i σ H->H d=some (.frz o (.dK kvs)))
  (step: ∀ i k σ H,(kvs.map (·.1))[i]? =some k->Pv i σ H->g (kV k) σ H λσ2 H2=>tb {D with nx:=Pv (i+1),ct:=Pv (i+1),bk:=D.nx} σ2 H2) (fin: ∀ σ H,Pv kvs.length σ H->D.nx σ H):
  ∃ W:Nat->Nat->St->Hp->Prop,(∃ m,W 0 m σ H)/\ ∀ i m σ H,W i m σ H->
   ((yM d o).stop i H/\D.nx σ H)\/((yM d o).go i H/\ ∃ N:St->Hp->Prop,(∀ σ' H',N σ' H'-> ∃ m',m'<m/\W (i+1) m' σ' H')/\ ∀ x H',(yM d o).yld i H x H'->g x σ H' λσ2 H2=>tb {D with nx:=N,ct:=N,bk:=D.nx} σ2 H2):=by
 refine ⟨λi m σ H=>m=kvs.length-i/\i<=kvs.length/\Pv i σ H,⟨kvs.length,by simp,Er _,h0⟩,?_⟩;rintro i m σ H ⟨rfl,hi,p⟩;have q:=hl i σ H hi p;by_cases hlt:i<kvs.length
 ·refine .inr ⟨⟨kvs,kvs[i],q,DD hlt⟩,Pv (i+1),λσ' H' p'=>⟨kvs.length- (i+1),by lia,rfl,hlt,p'⟩,λx H' y=>?_⟩;obtain ⟨rfl,k,rfl,hk⟩:=y;exact step i k σ _ (hk kvs q) p
 ·have e:i=kvs.length:=by lia
  subst e;exact .inl ⟨⟨kvs,q,rfl⟩,fin σ H p⟩
end L2
namespace My
open PySem L2
theorem AF {H:Hp} {x:Th} {v:V} (r:RepT H x v):Ask H v:=⟨di r,λa xs e h=>by
 subst e;cases r with
 | t e1 b1 t1=>
  rw [e1]at h;cases h;exact ⟨by rw [<- t1.len];exact b1,λy hy=>by obtain ⟨z,_,rz⟩:=t1.mem hy;exact di rz⟩
 | l e1 _ _=>rw [e1]at h;cases h
 | d e1=>rw [e1]at h;cases h⟩
theorem CM {x:Th} (h: ∀ H v,RepT H x v->cQ H v=false): ∀ H v,RepT H x v->Bad H v:=λH v r=>.sc (AF r) (h H v r)
theorem lc {H:Hp} {l:List Th} {v:V} (r:RepT H (.t l) v): ∃ vs,cQ H v=cN vs/\RepTs H l vs:=by
 obtain ⟨a,vs,rfl,e,_,t⟩:=aT r;exact ⟨vs,io e,t⟩
theorem By {b:BkX} {f:FrX} {fm:Fm} (w:fm.wf) (t:fm.told b f=false):FV b f (dh fm) false:=by
 by_cases h:fm.size<=15
 ·exact .inr ⟨fm,rfl,w,h,t⟩
 ·exact .inl (.inr ⟨fm,rfl,w,by lia⟩)
theorem kf {b:BkX} {f:FrX} {i:Int} {x:Str} (h:x∉wds (jP b f i)):eU b f i x=false:=by
 unfold eU;rw [DG h,DE]
theorem AC {b:BkX} {f:FrX} {x:Str} (w:aY x=true) (h:x∉wds (a0 b f.own)):FV b f (.t [.s "own",.s x]) false:=
 By (fm:=.own x) w (by
  show (eU b f (-1) x&&true)=false;rw [kf (by rw [lX];exact h),DN])
theorem rV {b:BkX} {f:FrX} {x:Str} {k:Int} (k0:0<=k) (k2:k<=2) (w:aY x=true) (h:eU b f k x=false):FV b f (.t [.s "part",.i k,.s x]) false:=
 By (fm:=.part k x) ⟨⟨k0,k2⟩,w⟩ (by
  show (eU b f k x&&true)=false;rw [h,DN])
noncomputable def yI (g:Th) (word:Str):List Th:=
 ([.non,.i 7,.s "own.a",.t [.s "num",.i 1000000],.t [.s "own",.s "zzzzzzzz"],.t [.s "plus",g],.t [.s "part",.i 3,.s word],.t [g]]++
  [.t [.s "plus",g,.t [.s "own",.s "zzzzzzzz"]],.t [.s "when",g,.t [.s "num",.i 0],.non]])++[.t [.l [.s "plus"],g,g]]
theorem wz:aY "zzzzzzzz"=true:=by decide +kernel
theorem BA (fm:Fm): ∃ l,dh fm=.t l:=by cases fm <;> exact ⟨_,rfl⟩
theorem Dn {b:BkX} {f:FrX} {fm:Fm} {word:Str} (w:fm.wf) (hz:("zzzzzzzz":Str)∉wds (a0 b f.own)): ∀ x∈yI (dh fm) word,FV b f x false:=by
 intro x hx;have hb: ∀ {y:Th},(∀ H v,RepT H y v->cQ H v=false)->FV b f y false:=λh=>.inl (.inl (CM h));simp only [yI,Hw,Ft,DK,Eb,EQ]at hx;rcases hx with rfl | rfl | rfl | rfl | rfl | rfl | rfl | rfl | rfl | rfl | rfl
 ·exact hb λH v r=>by cases r;rfl
 ·exact hb λH v r=>by cases r;rfl
 ·exact hb λH v r=>by cases r;rfl
 ·refine hb λH v r=>?_;obtain ⟨vs,e,t⟩:=lc r;obtain ⟨u1,u2,rfl,g1,g2⟩:=wO t;cases g1;cases g2;rw [e];decide +kernel
 ·exact AC wz hz
 ·refine hb λH v r=>?_;obtain ⟨vs,e,t⟩:=lc r;obtain ⟨u1,u2,rfl,g1,g2⟩:=wO t;cases g1;rw [e]
  kernel_rfl
 ·refine hb λH v r=>?_;obtain ⟨vs,e,t⟩:=lc r;obtain ⟨u1,u2,u3,rfl,g1,g2,g3⟩:=eR t;cases g1;cases g2;rw [e]
  kernel_rfl
 ·refine hb λH v r=>?_;obtain ⟨vs,e,t⟩:=lc r;obtain ⟨l,hl⟩:=BA fm;cases t with
  | cons g1 t0=>
   cases t0;rw [hl]at g1;cases g1;rw [e];rfl
 ·refine By (fm:=.bin "plus" fm (.own "zzzzzzzz")) ⟨by decide +kernel,w,wz⟩ ?_;show (fm.rdk++[([Sum.inr "own",Sum.inr "zzzzzzzz"]:List Key)]).all (tkB b f)=false;rw [FK];show (_&&(eU b f (-1) "zzzzzzzz"&&true))=false;rw [kf (by rw [lX];exact hz),DN,DE]
 ·refine .inl (.inl λH v r=>?_);obtain ⟨a,vs,rfl,e,_,t⟩:=aT r;obtain ⟨u1,u2,u3,u4,rfl,g1,g2,g3,g4⟩:=re t;cases g1;cases g4;refine .inn (pre:=[u2,u3]) (post:=[]) (u:=.non) e (by decide +kernel) (by rw [gi];rfl) (λy hy=>?_) (.sc (AF .non) rfl);rcases (by simpa using hy:y=u2\/y=u3)with rfl | rfl
  ·exact ⟨fm,fc g2,w⟩
  ·exact ⟨.num 0,fc g3,by decide,by decide⟩
 ·refine hb λH v r=>?_;obtain ⟨vs,e,t⟩:=lc r;obtain ⟨u1,u2,u3,rfl,g1,_⟩:=eR t;cases g1;rw [e];rfl
noncomputable def mkF:Nat->Fm
 | 0=>.num 0
 | n+1=>.bin "plus" (mkF n) (.num n)
theorem xF: ∀ {n:Nat},n<=8->(mkF n).wf
 | 0,_=>⟨by decide,by decide⟩
 | n+1,h=>⟨by decide +kernel,xF (by lia),by lia,by lia⟩
theorem Dk {b:BkX} {f:FrX}:FV b f (dh (mkF 8)) false:=.inl (.inr ⟨_,rfl,xF (DI 8),by decide⟩)
noncomputable def gU (hs:List Addr) (H:Hp):Hp:=λa=>if a∈hs then none else H a
theorem gS {hs:List Addr} {a:Addr} {H:Hp} {o:HO} (h:H a=some o) (n:a∉hs):gU hs H a=some o:=by
 unfold gU;rw [DU n];exact h
theorem dH {hs:List Addr} {a:Addr} {H:Hp} {o:HO} (h:gU hs H a=some o):H a=some o/\a∉hs:=by
 unfold gU at h;split at h
 ·cases h
 ·rename_i n;exact ⟨h,n⟩
def SmA (hs:List Addr) (p:Addr) (H5:Hp) (b:BkX) (f:FrX) (m:Nat) (H':Hp):Prop:=Same H5 H'/\ ∃ L zs,H' p=some (.lst zs)/\RepTs (gU hs H') L zs/\L.length<=m/\0<L.length/\ ∀ x∈L,FV b f x false
theorem SmA.le {hs:List Addr} {p:Addr} {H5 H':Hp} {b:BkX} {f:FrX} {m n:Nat} (h:SmA hs p H5 b f m H') (l:m<=n):SmA hs p H5 b f n H':=by
 obtain ⟨s5,L,zs,e,r,h1,h2,h3⟩:=h;exact ⟨s5,L,zs,e,r,Eh h1 l,h2,h3⟩
theorem SmA.chg {hs hs2:List Addr} {p:Addr} {H5 H' H2:Hp} {b:BkX} {f:FrX} {m:Nat} (h:SmA hs p H5 b f m H') (s: ∀ c o,H' c=some o->c∉hs\/c=p\/H5 c=some o->H2 c=some o) (n: ∀ c o,H' c=some o->c∉hs->c∉hs2):SmA hs2 p H5 b f m H2:=by
 obtain ⟨s5,L,zs,e,r,h1,h2,h3⟩:=h;exact ⟨λc o hc=>s _ _ (s5 _ _ hc) (.inr (.inr hc)),L,zs,s _ _ e (.inr (.inl rfl)),r.mono λc o hc=>gS (s _ _ (dH hc).1 (.inl (dH hc).2)) (n _ _ (dH hc).1 (dH hc).2),h1,h2,h3⟩
theorem SmA.mono {hs:List Addr} {p:Addr} {H5 H' H2:Hp} {b:BkX} {f:FrX} {m:Nat} (h:SmA hs p H5 b f m H') (s:Same H' H2):SmA hs p H5 b f m H2:=h.chg (λc o hc _=>s _ _ hc) λ_ _ _ n=>n
theorem SmA.add {hs:List Addr} {p:Addr} {H5 H':Hp} {b:BkX} {f:FrX} {m:Nat} (h:SmA hs p H5 b f m H') (h5:H5 p=none) (hp:p∈hs):
  ∃ zs,H' p=some (.lst zs)/\zs.length<=m/\ ∀ us Ys,RepTs (gU hs H') Ys us->(∀ x∈Ys,FV b f x false)->SmA hs p H5 b f (m+us.length) (upd H' p (.lst (zs++us))):=by
 obtain ⟨s5,L,zs,e,r,h1,h2,h3⟩:=h;have lz:=r.len;refine ⟨zs,e,by lia,λus Ys ry hy=>?_⟩;have k:SameH (gU hs H') (gU hs (upd H' p (.lst (zs++us)))):=λc o hc=>by
  obtain ⟨hc1,hc2⟩:=dH hc;exact gS (by rw [aj λz=>hc2 (by rw [z];exact hp)];exact hc1) hc2
 have ly:=ry.len;refine ⟨λc o hc=>by rw [aj (al hc h5)];exact s5 _ _ hc,L++Ys,zs++us,ae,(r.app ry).mono k,by rw [DA];lia,by rw [DA];lia,λx hx=>?_⟩;exact (DQ.mp hx).elim (h3 x) (hy x)
def NoT (hs:List Addr) (H:Hp):Prop:= ∀ q vs,H q=some (.tup vs)->q∉hs
theorem NoT.up {hs:List Addr} {H:Hp} {q:Addr} {vs:List V} (n:NoT hs H) (h:H q=some (.tup vs)):gU hs H q=some (.tup vs):=gS h (n _ _ h)
theorem CK {K:W.Frag} {a b:Addr} {xs ys:List V} {H:Hp} {Q:VK} (h1:H a=some (.tup xs)) (h2:H b=some (.tup ys)) (hl:xs.length+ys.length<=1000) (q: ∀ c H',Same H H'->H' c=some (.tup (xs++ys))->Q (.ref c) H'):iE K (.ref a) (.ref b) H Q:=by
 refine ⟨a,b,xs,ys,rfl,rfl,SqT.of h1,SqT.of h2,a6 hl,λz=>?_,λ_ z=>?_,λ_ _ p hp=>q p _ (am hp _) ae⟩
 ·subst z;exact q b H (Same.refl H) h2
 ·subst z;rw [En]at q;exact q a H (Same.refl H) h1
theorem jS {H:Hp} {α:Type} {g:α->Th} {F:α->V->Prop}: ∀ {l:List α} {vs:List V},(∀ x∈l,∀ v,F x v->RepT H (g x) v)->Paired F l vs->RepTs H (l.map g) vs
 | _,_,_,.nil=>.nil
 | _,_,h,.cons a t=>.cons (h _ DW _ a) (jS (λx hx=>h x (DZ _ hx)) t)
theorem Ak {K:W.Frag} {fr:List Nat} {tc:TT} {te:TE} {σ:St} {H:Hp} {Q:VK} {ws:List Str} {a:Addr} (g:Str->Bool) (mk:Str->List V) (ha:H a=some (.tup (ws.map V.str))) (hl:ws.length<=1000)
  (htc: ∀ x H1 (k:Bool->Hp->Prop),x∈ws->Same H H1->(∀ H',Same H1 H'->k (g x) H')->tc (some (.str x)::bV fr σ) H1 k)
  (hte: ∀ x H1 (k:VK),x∈ws->Same H H1->(∀ p,H1 p=none->k (.ref p) (upd H1 p (.tup (mk x))))->te (some (.str x)::bV fr σ) H1 k)
  (hd: ∀ p zs H',H p=none->Same H H'->H' p=some (.lst zs)->Paired (λx v=> ∃ q,v=.ref q/\H' q=some (.tup (mk x))) (ws.filter g) zs->Q (.ref p) H'):kg fr tc te σ (Itt K a) H Q:=by
 have hP: ∀ ws:List Str,Paired (λ(x:Str) (v:V)=>v=.str x) ws (ws.map V.str):=λws=>by
  induction ws with
  | nil=>exact .nil
  | cons x r ih=>exact .cons rfl ih
 refine oB (by rw [Dx];exact hl) (hP ws) (dY ha) (dX ha) (λi H v H' s _=>gh ha i H v H' s) g (λH x v=> ∃ q,v=.ref q/\H q=some (.tup (mk x))) (λt h=>by obtain ⟨q,e,h⟩:=h;exact ⟨q,e,t _ _ h⟩) (λx v H1 k hx r s1 hk=>?_) (λx v H1 k hx r _ s1 hk=>?_) hd
 ·subst r;exact htc x H1 k hx s1 hk
 ·subst r;exact hte x H1 k hx s1 λp hp=>hk _ _ (am hp _) ⟨p,rfl,ae⟩
theorem fkG {K:W.Frag} {σ:St} {H':Hp} {Q:VK} {c1 c2:Nat} {fa af:Addr} {fv ys:List V} {k i:Int} {u:V} (h1:σ[c1]? =some (some (.ref fa))) (h2:σ[c2]? =some (some (.int k))) (e1:H' fa=some (.tup fv)) (e2:atI fv k=some (.ref af)) (e3:H' af=some (.tup ys)) (e4:atI ys i=some u) (q:Q u H'):
  tOp (bc K) (tOp (bc K) (gC c1) (gC c2)) (tC (.int i)) σ H' Q:=⟨_,h1,_,h2,fa,fv,k,.ref af,rfl,rfl,SqT.of e1,e2,af,ys,i,u,rfl,rfl,SqT.of e3,e4,q⟩
theorem sC {κ:Type} [DecidableEq κ]: ∀ {kvs:List (κ×V)} {i:Nat} {k:κ} {v:V},(kvs.map (·.1)).Nodup->kvs[i]? =some (k,v)->cz kvs k=some v
 | [],i,_,_,_,h=>by cases i <;> cases h
 | (k0,v0)::r,0,k,v,_,h=>by
  cases h;unfold cz;rw [List.find?_cons_of_pos (by simp)];rfl
 | (k0,v0)::r,i+1,k,v,nd,h=>by
  have h:r[i]? =some (k,v):=h;have nd:(k0::r.map (·.1)).Nodup:=nd;obtain ⟨n1,n2⟩:=FU.mp nd;have hne:k0≠k:=λe=>n1 (by rw [e];exact DY.mpr ⟨(k,v),DC h,rfl⟩);have ih:=sC n2 h;unfold cz at ih ⊢;rw [List.find?_cons_of_neg (by simpa using hne)];exact ih
def TabW (H:Hp) (kvs:List (Key×V)) (ss:List Srt):Prop:=Paired (λ(s:Srt) (kv:Key×V)=>kv.1=.inr s.name/\ ∃ a,kv.2=.ref a/\H a=some (.tup ((wds s).map V.str))) ss kvs
theorem TabW.mono {H H':Hp} {kvs:List (Key×V)} {ss:List Srt} (t:TK H H') (h:TabW H kvs ss):TabW H' kvs ss:=Paired.mapP h λ_ _ r=>by
 obtain ⟨e,a,e2,h⟩:=r;exact ⟨e,a,e2,t _ _ h⟩
theorem TabW.keys {H:Hp}: ∀ {ss:List Srt} {kvs:List (Key×V)},TabW H kvs ss->kvs.map (·.1)=ss.map λs=>(.inr s.name:Key)
 | _,_,.nil=>rfl
 | _,_,.cons a t=>by
  rw [Fa,Fa,a.1,TabW.keys t]
theorem TabW.put {H:Hp} {kvs:List (Key×V)} {ss:List Srt} {i:Nat} {s:Srt} {a:Addr} (nd:(ss.map Srt.name).Nodup) (hs:ss[i]? =some s) (h:TabW H kvs (ss.take i)) (ha:H a=some (.tup ((wds s).map V.str))):TabW H (dj kvs (.inr s.name) (.ref a)) (ss.take (i+1)):=by
 have hn:cz kvs (.inr s.name)=none:=by
  cases hv:cz kvs (.inr s.name)with
  | none=>rfl
  | some u=>
   have:=yO hv;rw [h.keys]at this;obtain ⟨s',hs',e⟩:=DY.mp this;have e:s'.name=s.name:=by injection e
   obtain ⟨j,hj⟩:=FR.mp hs';have hji:j<i:=by
    rcases Nat.lt_or_ge j i with h | h
    ·exact h
    ·rw [ER (by rw [DX];lia)]at hj;cases hj
   rw [List.getElem?_take_of_lt hji]at hj;have hi:=(DH.mp hs).1;have:=(Il (i:=j) (j:=i) (by rw [Dx];lia) nd).mp (by rw [DP,DP,hj,hs];exact congrArg some e);lia
 rw [L2.putK_new _ hn,EB,hs];exact FE h ⟨rfl,a,rfl,ha⟩
theorem TabW.get {H:Hp} {kvs:List (Key×V)} {ss:List Srt} {s:Srt} (nd:(ss.map Srt.name).Nodup) (hs:s∈ss) (h:TabW H kvs ss): ∃ a,cz kvs (.inr s.name)=some (.ref a)/\H a=some (.tup ((wds s).map V.str)):=by
 obtain ⟨i,hi⟩:=FR.mp hs;have hlt:=(DH.mp hi).1;have hl:=Ev h;obtain ⟨kv,hkv⟩: ∃ kv,kvs[i]? =some kv:=⟨_,DD (by lia)⟩;obtain ⟨s',hs',e,a,e2,ha⟩:=bj h hkv;rw [hi]at hs';cases hs';obtain ⟨k,u⟩:=kv;cases e;cases e2;refine ⟨a,sC ?_ hkv,ha⟩;rw [h.keys,show (ss.map λs=>(.inr s.name:Key))=(ss.map Srt.name).map .inr by rw [Es];rfl];exact Ip _ (λ_ _ e h=>e (by injection h)) nd
def B8 (K:W.Frag):R2:=λx y H Q=> ∃ a b xs,x=.ref a/\y=.ref b/\SqT K H a xs/\SqT K H b []/\Q (.bl (!xs.isEmpty)) H
def fP:Sp:=λvs H Q _=> ∃ tp v b,vs=[.ref tp,v]/\Tp H tp/\ThL tp H (cO b) v/\ShX b/\ck b=true/\(∀ f∈b.forms,f.rules.length<=100/\ ∀ r∈f.rules,FV b f r.2.2 true)/\(∀ s∈b.sorts,("zzzzzzzz":Str)∉wds s)/\(∀ H',Kp tp H H'->Tp H' tp->Q .non H')/\
 ∀ k f j r g u H',b.forms[k]? =some f->f.rules[j]? =some r->FV b f g false->ThL tp H' (cO (setRu b k f (f.rules.set j (r.1,r.2.1,g)))) u->Kp tp H H'->Tp H' tp->Q u H'
theorem sW {α:Type} {g:α->V}: ∀ l:List α,Paired (λa v=>v=g a) l (l.map g)
 | []=>.nil
 | _::r=>.cons rfl (sW r)
theorem yC {fr:List Nat} {tc:TT} {te:TE} {σ:St} {H:Hp} {Q:VK} {n:Nat} (hn:n<=1000) (c:Nat->Bool)
  (htc: ∀ i H1 (k:Bool->Hp->Prop),i<n->Same H H1->(∀ H',Same H1 H'->k (c i) H')->tc (some (.int (i:Int))::bV fr σ) H1 k)
  (hte: ∀ i H1 (k:VK),i<n->Same H H1->k (.int (i:Int)) H1->te (some (.int (i:Int))::bV fr σ) H1 k)
  (hd: ∀ p H',H p=none->Same H H'->H' p=some (.lst (((List.range n).filter c).map λ(i:Nat)=>V.int (i:Int)))->Q (.ref p) H'):kg fr tc te σ (Itr 0 n) H Q:=by
 have hl:((List.range n).map λ(i:Nat)=>V.int (i:Int)).length=n:=by rw [Dx,F1]
 refine oB (as:=List.range n) (xs:=(List.range n).map λ(i:Nat)=>V.int (i:Int)) (A:=λi v=>v=.int (i:Int)) (by lia) (sW _) (λi H _ h=>by rw [hl]at h;exact h) (λH _=>Nat.le_of_eq hl.symm) (λi H1 v H' _ hi h=>⟨h.1,?_⟩) c (λ_ i v=>v=.int (i:Int)) (λ_ h=>h) (λi v H1 k hi r s hk=>?_) (λi v H1 k hi r _ s hk=>?_) (λp zs H' hp s g hz=>?_)
 ·obtain ⟨_,rfl⟩:=h;rw [hl]at hi;rw [DP,List.getElem?_range hi,F2];rfl
 ·subst r;exact htc i H1 k (E5.mp hi) s hk
 ·subst r;exact hte i H1 k (E5.mp hi) s (hk _ H1 (Same.refl _) rfl)
 ·exact hd p H' hp s (by rw [<- dz hz];exact g)
noncomputable abbrev sgF (wh k j:Int) (tp a sa fa fp ra:Addr) (w1 w2 w3:V) (tl:St):St:=some (.ref tp)::some (.ref a)::some (.int wh)::some (.ref sa)::some (.ref fa)::some (.ref fp)::some (.int k)::some (.ref ra)::some (.int j)::some w1::some w2::some w3::tl
theorem Ci {tp p:Addr} {H:Hp} {zs:List V} (hp:H p=some (.lst zs)) (ht:Tp H tp):NoT [p,tp] H:=λq vs h m=>by
 obtain ⟨t,ht⟩:=ht;simp only [DK,Eb,EQ]at m;rcases m with rfl | rfl
 ·rw [hp]at h;cases h
 ·rw [ht]at h;cases h
theorem Ch {tp p td:Addr} {H:Hp} {zs:List V} {o:HO} (hp:H p=some (.lst zs)) (ht:Tp H tp) (hd:H td=some o) (ho: ∀ vs,o≠ .tup vs):NoT [td,p,tp] H:=λq vs h m=>by
 rcases DK.mp m with rfl | m
 ·rw [hd]at h;cases h;exact ho _ rfl
 ·exact Ci hp ht q vs h m
noncomputable def mr (b:BkX) (i:Nat):Bool:=match b.forms[i]? with
 | some f=> !f.rules.isEmpty
 | none=>false
theorem sI {b:BkX} {f:FrX}:jP b f 0=a0 b (f.parts.getD 0 ""):=by unfold jP;rw [DU (by decide)];rfl
theorem CF {K:W.Frag} {tp p td:Addr} {H7 H':Hp} {b:BkX} {fr:FrX} {m:Nat} {kvs:List (Key×V)} {o:PySem.Obj} {sr:Srt} {σ:St} {X te:TE} {D:eS} {nm:Str} (mk:Str->List V) (mkT:Str->Th)
  (h7:H7 p=none) (t7:Tp H7 tp) (hS:SmA [td,p,tp] p H7 b fr m H') (gd:H' td=some (.frz o (.dK kvs))) (hTab:TabW H' kvs b.sorts) (nd:(b.sorts.map Srt.name).Nodup) (hsm:sr∈b.sorts) (hnm:nm∈b.sorts.map Srt.name) (hsh:ShX b) (hm:m<=900)
  (e12:σ[12]? =some (some (.ref p))) (e15:σ[15]? =some (some (.ref td))) (e16:σ[16]? =some (some (.str sr.name))) (c1:(bV [15,4,6] σ)[0]? =some (some (.ref td)))
  (hX: ∀ x H1 (Q':VK),Same H' H1->Q' (.str nm) H1->X (some (.str x)::bV [15,4,6] σ) H1 Q')
  (hte: ∀ x H1 (k':VK),(∀ q,H1 q=none->k' (.ref q) (upd H1 q (.tup (mk x))))->te (some (.str x)::bV [15,4,6] σ) H1 k')
  (hmk: ∀ x q H1,x.length<=1000->H1 q=some (.tup (mk x))->RepT H1 (mkT x) (.ref q)) (hfv: ∀ x,aY x=true->x∉wds (a0 b nm)->FV b fr (mkT x) false)
  (q: ∀ H2,SmA [td,p,tp] p H7 b fr (m+6) H2->H2 td=some (.frz o (.dK kvs))->TabW H2 kvs b.sorts->D.nx σ H2):
  At (tBM K "list" nQ (gC 12) (eF (mW (Co K (vR (gC 15) (gC 16))) [15,4,6] (vP (tOp (rIn K true) (gC 0) (vR (gC 1) X))) te) ul)) D σ H':=by
 obtain ⟨wa,hv,hw⟩:=hTab.get nd hsm;obtain ⟨ho1,ho2⟩:=dw hnm;obtain ⟨oa,hv2,hw2⟩:=hTab.get nd ho1;rw [ho2]at hv2;obtain ⟨_,hww,l1,l2⟩:=hsh.sw sr hsm;have l6:(wds sr).length<=6:=by rw [show wds sr=sr.downs++sr.ups from rfl,DA];lia
 have hpe: ∃ zs,H' p=some (.lst zs):=by obtain ⟨_,L,zs,e,_⟩:=hS;exact ⟨zs,e⟩
 obtain ⟨zs0,ep0⟩:=hpe;refine ⟨_,e12,.inl ⟨rfl,_,SqL.of ep0⟩,_,e15,_,e16,td,.ref wa,rfl,.inl ⟨kvs,.inr sr.name,.inr ⟨o,gd⟩,rfl,hv.symm⟩,wa,rfl,⟨_,SqT.of hw⟩,Ak (λx=> !decide (x∈wds (a0 b nm))) mk hw (by lia) (λx H1 k hx s hk=>?_) (λx H1 k hx s hk=>hte x H1 k hk) λpl us H2 hpl s2 gl hP=>?_⟩
 ·refine ⟨_,rfl,_,c1,hX x H1 _ s ⟨td,.ref oa,rfl,.inl ⟨kvs,.inr nm,.inr ⟨o,s _ _ gd⟩,rfl,hv2.symm⟩,oa,_,rfl,.inr (SqT.of (s _ _ hw2)),rfl,ip _,_,rfl,?_⟩⟩;show k (!inV (.str x) _) H1;rw [fC];exact hk H1 (Same.refl _)
 ·have hS2:=hS.mono s2;obtain ⟨zs,ep,lz,hadd⟩:=hS2.add h7 (by simp);have lu:us.length<=6:=by
   rw [<- Ev hP];exact Eh (List.length_filter_le _ _) l6
  refine ⟨p,pl,zs,us,rfl,rfl,ep,gl,a6 (by lia),?_⟩;have gd2:=s2 _ _ gd;have ndp:td≠p:=λz=>by rw [z,ep]at gd2;cases gd2
  have hn:=Ch ep (t7.same' hS2.1) gd2 (λvs z=>by cases z);refine q _ ((hadd us _ (jS (g:=mkT) (λx hx v hF=>?_) hP) (λy hy=>?_)).le (by lia)) (by rw [aj ndp];exact gd2) (hTab.mono ((bN s2).trans (TK.lst ep)))
  ·obtain ⟨q',rfl,hq'⟩:=hF;exact hmk x q' _ (bf (hww x (Fp.mp hx).1)) (hn.up hq')
  ·obtain ⟨x,hx,rfl⟩:=DY.mp hy;obtain ⟨hx1,hx2⟩:=Fp.mp hx;exact hfv x (hww x hx1) (by simpa using hx2)
abbrev NFo:List Str:=["tape","book","wheel","sorts","forms","full","k","rules","j","at","word","formula","some","made","number","table","name","downs","ups"]
theorem scFo:av NFo ["tape","book"] (ah cD):=fsc
theorem yN:j0 (ah cD) NFo=true:=by decide +kernel
theorem lM (F:Fun K "_law_formula_bad" "_law_formula_bad" cD f fd) (G:Gb mg) (GD:Cl P w K mg base CX0 1 f2 fd2 ["tape","many"] br "_law_digit")
  (GS:Cl P w K mg base CX0 1 f3 fd3 ["things","k","thing"] eh "_law_swapped"):
  aX P w K mg base CX0 2 f fd ["tape","book"] fP:=by
 refine F.okz scFo λcdv A outer s H vs Q E hr h=>?_;obtain ⟨tp,v,b,rfl,hT,hx,hsh,hnm,hfs,hz,q0,q⟩:=h;have hu:=mq hr;have hu0:=hr.units0;refine ⟨_,ad (eJ (pv 1) (cL rfl (aA (pgz 2 scFo.nd) (aA (pgz 3 scFo.nd) (aA (dD (i:=4) scFo.nd rfl (Or.inr rfl)) bW)))))
  (ad (wU (i:=5) (sc0:=ah cD) (N0:=NFo) (ys:=["forms"]) (fr:=[4]) rfl scFo.nd rfl (Or.inl rfl) (bL rfl G.range (aa (ao (r:=bU K) au rfl G.len DV (aa (pv 4) ac)) ac)) rfl rfl
    csc
    (λC s H ex=>aG (r:=B8 K) (sX hu0) (ax (r:=bc K) aH (ax (r:=bc K) aH (pv 1) (pv 0) (λ_ _=>rfl)) ag (λ_ _=>rfl)) (aU ac) (aJ _)) (λC s H ex=>pv 0) rfl)
  (ad (aS (aG (zq hu0) (pv 5) (bh ac) (aJ _)) (ai (aw eL)) aE)
  (ad (cY (i:=6) scFo.nd rfl (Or.inr rfl) (ax (r:=bO K) aL (pv 5) (pcl GD hr (aa (pv 0) (aa (ao (r:=bU K) au rfl G.len DV (aa (pv 5) ac)) ac))) (λ_ _=>rfl)))
  (ad (psz 7 scFo.nd (ax (r:=bc K) aH (ax (r:=bc K) aH (pv 4) (pv 6) (λ_ _=>rfl)) ag (λ_ _=>rfl)))
  (ad (psz 8 scFo.nd (pcl GD hr (aa (pv 0) (aa (ao (r:=bU K) au rfl G.len DV (aa (pv 7) ac)) ac))))
  (ad (eJ (ax (r:=bc K) aH (pv 7) (pv 8) (λ_ _=>rfl)) (cL rfl (aA (pgz 9 scFo.nd) (aA (pgz 10 scFo.nd) (aA (pgz 11 scFo.nd) bW)))))
  (@ad _ _ _ _ _ (@cY _ _ 12 _ _ _ _ scFo.nd rfl (Or.inl rfl) (@be _ (a5 tp) false NFo rfl yN (λz=>by cases z) 9 _) rfl (Or.inl rfl))
  (ad (psz 12 scFo.nd (be (a5 tp) (w:=false) (N:=NFo) rfl yN (λz=>by cases z) 9))
  (ad (psz 12 scFo.nd (aF gP (pv 12) (bh (aa (be (a5 tp) (w:=false) (N:=NFo) rfl yN (λz=>by cases z) 9) ac))))
  (@ad _ _ _ _ _ (@cY _ _ 13 _ _ _ _ scFo.nd rfl (Or.inl rfl) (@aU _ _ _ _ _ (@aa _ _ _ _ _ aV (@aa _ _ _ _ _ ag ac rfl) rfl)) rfl (Or.inl rfl))
  (ad (cC Ep rfl (bL rfl G.range (aa ag ac)) (pgz 14 scFo.nd)
   (ai (psz 13 scFo.nd (aU (aa aV (aa (pv 13) (aa (aU (aa aV (aa (pv 14) ac))) ac)))))))
  (ad (bP (dS Ee EF EG bM (pv 12) (aa (pv 13) ac)))
  (ad (cY (i:=15) scFo.nd rfl (Or.inr rfl) jb)
  (ad (cC Ep rfl (bB (pv 3)) (cL rfl (aA (pgz 16 scFo.nd) (aA (pgz 17 scFo.nd) (aA (pgz 18 scFo.nd) bW))))
   (ai (i9 hu (pv 15) (pv 16) (aF (r:=iE K) fA (pv 17) (pv 18)) rfl)))
  (ad (cC Ep rfl (wW (pv 15)) (pgz 16 scFo.nd)
   (ad (bP (dS Ee EY EZ fB (pv 12) (aa
     (kP (sc0:=ah cD) (N0:=NFo) (ys:=["table","forms","k"]) (fr:=[15,4,6]) rfl (bB (eX hu (pv 15) (pv 16) (λ_ _=>rfl))) rfl rfl
      csc
      (λC s H ex=>aG (r:=rIn K true) fY (pv 0) (eX (by exact hu) (pv 1) (ax (r:=bc K) aH (ax (r:=bc K) aH (pv 2) (pv 3) (λ_ _=>rfl)) ag (λ_ _=>rfl)) (λ_ _=>rfl)) (by with_unfolding_all rfl))
      (λC s H ex=>aU (aa aV (aa (pv 0) ac)))) ac)))
   (ai (aS (aG jU (ao (r:=bU K) au rfl G.len DV (aa (ax (r:=bc K) aH (ax (r:=bc K) aH (pv 4) (pv 6) (λ_ _=>rfl)) ag (λ_ _=>rfl)) ac)) ag (aJ _))
    (ai (bP (dS Ee EY EZ fB (pv 12) (aa
     (kP (sc0:=ah cD) (N0:=NFo) (ys:=["table","forms","k"]) (fr:=[15,4,6]) rfl (bB (eX hu (pv 15) (pv 16) (λ_ _=>rfl))) rfl rfl
      csc
      (λC s H ex=>aG (r:=rIn K true) fY (pv 0) (eX (by exact hu) (pv 1) (ax (r:=bc K) aH (ax (r:=bc K) aH (ax (r:=bc K) aH (pv 2) (pv 3) (λ_ _=>rfl)) ag (λ_ _=>rfl)) ag (λ_ _=>rfl)) (λ_ _=>rfl)) (by with_unfolding_all rfl))
      (λC s H ex=>aU (aa aV (aa ag (aa (pv 0) ac))))) ac)))) aE))))
  (ad (aS (aG jc (ao (r:=bU K) au rfl G.len DV (aa (ax (r:=bc K) aH (ax (r:=bc K) aH (pv 4) (pv 6) (λ_ _=>rfl)) ag (λ_ _=>rfl)) ac)) ag (aJ _))
   (ai (bP (dS Ee EF EG bM (pv 12) (aa
    (aU (aa aV (aa (ao (r:=bU K) au rfl G.len DV (aa (ax (r:=bc K) aH (ax (r:=bc K) aH (pv 4) (pv 6) (λ_ _=>rfl)) ag (λ_ _=>rfl)) ac)) (aa (pv 10) ac)))) ac)))) aE)
  (ad (aS (aG jU (ao (r:=bU K) au rfl G.len DV (aa (ax (r:=bc K) aH (ax (r:=bc K) aH (pv 4) (pv 6) (λ_ _=>rfl)) ag (λ_ _=>rfl)) ac)) ag (aJ _))
   (ai (bP (dS Ee EF EG bM (pv 12) (aa
    (aU (aa aV (aa ag (aa aV ac)))) ac)))) aE)
  (ad (psz 7 scFo.nd (pcl GS hr (aa (pv 7) (aa (pv 8) (aa (aU (aa (pv 9) (aa (pv 10) (aa (ax (r:=bO K) aL (pv 12) (pcl GD hr (aa (pv 0) (aa (ao (r:=bU K) au rfl G.len DV (aa (pv 12) ac)) ac))) (λ_ _=>rfl)) ac)))) ac)))))
  (ai (aw (aU (aa (pv 2) (aa (pv 3) (aa (pcl GS hr (aa (pv 4) (aa (pv 6) (aa (aF (r:=iE K) fA (be (a5 tp) (w:=false) (N:=NFo) rfl yN (λz=>by cases z) 9)
   (aU (aa (pv 7) ac))) ac)))) ac)))))))))))))))))))))))),?_⟩
 obtain ⟨a,us,rfl,e,_,t⟩:=aT hx;obtain ⟨x1,x2,x3,rfl,r1,r2,r3⟩:=eR t;obtain ⟨sa,sv,rfl,es,_,ts⟩:=aT r2;obtain ⟨fa,fv,rfl,ef,_,tf⟩:=aT r3;rw [show x1=.int b.wheel by cases r1;rfl]at e;have ls:=ts.len;have lf:=tf.len;rw [Dx]at ls lf;have h1:=hsh.s1;have h2:=hsh.s4;have h3:=hsh.f1;have h4:=hsh.f10;have R: ∀ {x:Th} {u:V} {H':Hp},ThL tp H x u->Kp tp H H'->ThL tp H' x u:=λr k=>r.mono (aq k);refine ⟨_,rfl,a,_,rfl,SqT.of (aN e).1,rfl,_,_,rfl,_,_,rfl,_,_,rfl,rfl,?_⟩;refine ⟨_,rfl,fa,fv,rfl,.inr (SqT.of (aN ef).1),_,rfl,by lia,by lia,?_⟩;rw [ET];refine yC (by lia) (mr b) (λi H1 k hi s1 hk=>?_) (λi H1 k hi s1 hk=>⟨_,rfl,hk⟩) λfp H1 hfp s1 gf=>?_
 ·obtain ⟨fr,hfr⟩: ∃ fr,b.forms[i]? =some fr:=⟨_,DD (by lia)⟩;obtain ⟨u,hu,ru⟩:=tf.get (j:=i) (x:=bH fr) (by rw [DP,hfr];rfl);obtain ⟨af,ufs,rfl,eaf,_,tff⟩:=aT ru;obtain ⟨y1,y2,y3,y4,rfl,g1,g2,g3,g4⟩:=re tff;obtain ⟨ra,rv,rfl,er,_,tr⟩:=aT g4;have lr:=tr.len;rw [Dx]at lr;refine fkG (ys:=[y1,y2,y3,.ref ra]) rfl rfl (s1 _ _ (aN ef).1) (aM hu) (s1 _ _ (aN eaf).1) rfl ⟨wn,λp hp=>⟨ra,p,rv,rfl,rfl,SqT.of (am hp _ _ _ (s1 _ _ (aN er).1)),SqT.of ae,_,rfl,?_⟩⟩;rw [show (!rv.isEmpty)=mr b i by
   unfold mr;rw [hfr];show _= !fr.rules.isEmpty;cases rv <;> cases hr:fr.rules <;> rw [hr]at lr <;> first | rfl | cases lr]
  exact hk _ (am hp _)
 refine ⟨_,rfl,wn,λp0 hp0=>⟨fp,p0,_,rfl,rfl,SqL.of (am hp0 _ _ _ gf),SqL.of ae,_,rfl,?_⟩⟩;have s2:=s1.trans (am hp0 (.lst []));have gf:=am hp0 (.lst []) _ _ gf;have tt2:=hT.same' s2;have k2:Kp tp H (upd H1 p0 (.lst [])):=Kp.refl.same s2;generalize upd H1 p0 (.lst [])=H2 at s2 gf tt2 k2 ⊢;cases hfull:(List.range fv.length).filter (mr b)with
 | nil=>exact bE (q0 H2 k2 tt2)
 | cons k0 kr=>
 rw [hfull]at gf;refine bx ?_;have hfl:(k0::kr).length<=10:=by
  rw [<- hfull];exact Eh (List.length_filter_le _ _) (by rw [F1];lia)
 have hfpt:fp≠tp:=λz=>by obtain ⟨t,ht⟩:=hT;rw [z,ht]at hfp;cases hfp
 refine ⟨_,rfl,_,rfl,_,rfl,fp,_,rfl,.inl (SqL.of gf),tp,_,rfl,tt2,by rw [Dx,DJ];lia,by rw [Dx];lia,λd t1 hd0 hd1=>?_⟩;rw [Dx]at hd1;have k3':Kp tp H2 (upd H2 tp (.lst [.int t1])):=Kp.tape;have tt3:Tp (upd H2 tp (.lst [.int t1])) tp:=⟨t1,ae⟩;generalize upd H2 tp (.lst [.int t1])=H3 at k3' tt3 ⊢;have k3:=k2.trans k3';obtain ⟨k,hk⟩: ∃ k,(k0::kr)[d.toNat]? =some k:=⟨_,DD (by lia)⟩;have hkm:k∈(List.range fv.length).filter (mr b):=by rw [hfull];exact DC hk
 have hkn:=E5.mp (Fp.mp hkm).1;obtain ⟨fr,hfr⟩: ∃ fr,b.forms[k]? =some fr:=⟨_,DD (by lia)⟩;have hru:fr.rules≠[]:=λz=>by
  have:=(Fp.mp hkm).2;unfold mr at this;rw [hfr]at this;have:(!fr.rules.isEmpty)=true:=this;rw [z]at this;cases this
 have hfm:=DC hfr;obtain ⟨h100,hfv⟩:=hfs fr hfm;obtain ⟨w1,w2,w3,w4,w5⟩:=hsh.fw fr hfm;obtain ⟨hnd,hfn⟩:=me hnm;obtain ⟨ho,hps⟩:=frN (hfn fr hfm);obtain ⟨fu,hfu,rfu⟩:=tf.get (j:=k) (x:=bH fr) (by rw [DP,hfr];rfl);obtain ⟨af,ufs,rfl,eaf,_,tff⟩:=aT rfu;obtain ⟨y1,y2,y3,y4,rfl,g1,g2,g3,g4⟩:=re tff;obtain ⟨ra,rv,rfl,er,_,tr⟩:=aT g4;have lr:=tr.len;rw [Dx]at lr;have hrp:=HL.mpr hru;have U: ∀ {H':Hp} {c:Addr} {o:HO},Kp tp H H'->fD tp H c=some o->H' c=some o:=λk h=>k _ _ (aN h).1 (aN h).2;refine ⟨_,_,d,.int (k:Int),rfl,rfl,SqL.of (k3' _ _ gf hfpt),by rw [show d=((d.toNat:Nat):Int) by lia];exact aM (by rw [DP,hk];rfl),?_⟩;refine fkG (ys:=[y1,y2,y3,.ref ra]) rfl rfl (U k3 ef) (aM hfu) (U k3 eaf) rfl ?_;refine ⟨_,rfl,_,rfl,ra,rv,rfl,.inr (SqT.of (U k3 er)),tp,_,rfl,tt3,by lia,by lia,λj t2 hj0 hj1=>?_⟩;have k4':Kp tp H3 (upd H3 tp (.lst [.int t2])):=Kp.tape;have tt4:Tp (upd H3 tp (.lst [.int t2])) tp:=⟨t2,ae⟩;generalize upd H3 tp (.lst [.int t2])=H4 at k4' tt4 ⊢;have k4:=k3.trans k4';obtain ⟨r,hr⟩: ∃ r,fr.rules[j.toNat]? =some r:=⟨_,DD (by lia)⟩;obtain ⟨ru,hru',rru⟩:=tr.get (j:=j.toNat) (x:=bQ r) (by rw [DP,hr];rfl);obtain ⟨rr,urs,rfl,err,_,trr⟩:=aT rru;obtain ⟨z1,z2,z3,rfl,q1,q2,q3⟩:=eR trr;have ej:j=((j.toNat:Nat):Int):=by lia
 obtain ⟨fm,hfm',hwf,hsz,_⟩:=hfv r (DC hr);have hw:aY r.2.1=true:=w5 r (DC hr);rw [hfm']at q3;refine ⟨_,rfl,_,rfl,ra,rv,j,.ref rr,rfl,rfl,SqT.of (U k4 er),by rw [ej];exact aM hru',rr,_,rfl,SqT.of (U k4 err),rfl,_,_,rfl,_,_,rfl,_,_,rfl,rfl,?_⟩;rw [show L2.start NFo [.ref tp,.ref a]=some (.ref tp)::some (.ref a)::List.replicate 17 none from rfl];dsimp only [List.set,List.replicate];have k0:=k4;refine ⟨[none,none,none,none,none,none,none,none,none,none,some (.s r.2.1),some (dh fm)],.l [.non,.i 7,.s "own.a",.t [.s "num",.i 1000000],.t [.s "own",.s "zzzzzzzz"],.t [.s "plus",dh fm],.t [.s "part",.i 3,.s r.2.1],.t [dh fm]],aP tt4,.no (.no (.no (.no (.no (.no (.no (.no (.no (.no (.th (R q2 k4) (.th (R q3 k4) .nil))))))))))),rfl,λv8 H5 s5 r8=>?_⟩;have k5:=k4.same s5;have tt5:=tt4.same' s5;refine ⟨[none,none,none,none,none,none,none,none,none,none,none,some (dh fm),some (.l _)],_,aP tt5,.no (.no (.no (.no (.no (.no (.no (.no (.no (.no (.no (.th (R q3 k5) (.th r8 .nil)))))))))))),gm (y:=[.t [.s "plus",dh fm,.t [.s "own",.s "zzzzzzzz"]],.t [.s "when",dh fm,.t [.s "num",.i 0],.non]]) rfl rfl (by show 8+2<=1000;lia),λv9 H6 s6 r9=>?_⟩;have k6:=k5.same s6;have tt6:=tt5.same' s6;have ez1:z1=.int r.1:=by cases q1;rfl
 have ez2:=cB q2;subst ez1 ez2;have ho':a0 b fr.own∈b.sorts:=(dw ho).1;dsimp only [List.set];refine ph (λσ' H'=> ∃ p H7,σ'=sgF b.wheel k j tp a sa fa fp ra (.int r.1) (.str r.2.1) z3 [some (.ref p),none,none,none,none,none,none]/\(H7 p=none/\Tp H7 tp/\Kp tp H H7)/\SmA [p,tp] p H7 b fr 11 H') ?_ (λF hF=>?_)
 ·rintro σ' H8 ⟨p,H7,rfl,⟨hp7,tt7,k7⟩,hS⟩;refine ⟨a6 (by show 2<=1000;lia),λpm hpm=>?_⟩;have s9:=am hpm (.tup [.str "num",.int 0]);have e9:(upd H8 pm (.tup [.str "num",.int 0])) pm=some (.tup [.str "num",.int 0]):=ae;have hS:=hS.mono s9;generalize upd H8 pm (.tup [.str "num",.int 0])=H9 at s9 e9 hS ⊢;have lp7: ∀ {H':Hp} {m:Nat} {hs:List Addr},SmA hs p H7 b fr m H'-> ∃ zs,H' p=some (.lst zs):=λh=>by obtain ⟨_,L,zs,e,_⟩:=h;exact ⟨zs,e⟩
  have n2: ∀ {H':Hp} {m:Nat},SmA [p,tp] p H7 b fr m H'->NoT [p,tp] H':=λh=>by
   obtain ⟨zs,e⟩:=lp7 h;exact Ci e (tt7.same' h.1)
  dsimp only [sgF,List.set];refine ph (λσ' H'=> ∃ v13 v14,σ'=sgF b.wheel k j tp a sa fa fp ra (.int r.1) (.str r.2.1) z3 [some (.ref p),some v13,v14,none,none,none,none]/\SmA [p,tp] p H7 b fr 11 H'/\RepT (gU [p,tp] H') (dh (mkF 8)) v13) ?_ (λF hF=>?_)
  ·rintro σ' H10 ⟨v13,v14,rfl,hS,rmk⟩;obtain ⟨zs,ep,lz,hadd⟩:=hS.add hp7 (by simp);refine ⟨_,rfl,.inl ⟨rfl,_,SqL.of ep⟩,_,rfl,p,zs,v13,rfl,rfl,ep,FB lz (by decide),?_⟩;have hS:=hadd [v13] [_] (.cons rmk .nil) (λx hx=>by rw [DF.mp hx];exact Dk);have ep:(upd H10 p (.lst (zs++[v13]))) p=some (.lst (zs++[v13])):=ae;generalize upd H10 p (.lst (zs++[v13]))=H11 at hS ep ⊢;have hS:SmA [p,tp] p H7 b fr 12 H11:=hS;refine λtd htd=>?_;have h7d:H7 td=none:=by
    cases h:H7 td with
    | none=>rfl
    | some o=>rw [hS.1 _ _ h]at htd;cases htd
   have hne:td≠p:=λz=>by rw [z,ep]at htd;cases htd
   have hS:=hS.chg (hs2:=[td,p,tp]) (H2:=upd H11 td (.dK [])) (λc o hc _=>am htd _ _ _ hc) (λc o hc n=>by simp only [DK,not_or]at n ⊢;exact ⟨al hc htd,n⟩);have gd:(upd H11 td (.dK [])) td=some (.dK []):=ae;generalize upd H11 td (.dK [])=H12 at hS gd ⊢;dsimp only [sgF,List.set];refine ph (λσ' H'=> ∃ kvs o16 o17 o18,σ'=sgF b.wheel k j tp a sa fa fp ra (.int r.1) (.str r.2.1) z3 [some (.ref p),some v13,v14,some (.ref td),o16,o17,o18]/\SmA [td,p,tp] p H7 b fr 12 H'/\H' td=some (.dK kvs)/\TabW H' kvs b.sorts) ?_ (λF hF=>?_)
   ·rintro σ' H13 ⟨kvs,o16,o17,o18,rfl,hS,gd,hTab⟩;refine ph (λσ' H'=> ∃ o16,σ'=sgF b.wheel k j tp a sa fa fp ra (.int r.1) (.str r.2.1) z3 [some (.ref p),some v13,v14,some (.ref td),o16,o17,o18]/\SmA [td,p,tp] p H7 b fr 60 H'/\ ∃ o,H' td=some (.frz o (.dK kvs))) ?_ (λF hF=>?_)
    ·rintro σ' H14 ⟨o16,rfl,hS,o,gd⟩;obtain ⟨pb,rfl,epb,lpb⟩:=fR g3;have ey2:=cB g2;have eaf':fD tp H af=some (.tup [y1,.str fr.own,.ref pb,.ref ra]):=by rw [<- ey2];exact eaf
     have hlp:(fr.parts.map V.str).length=fr.parts.length:=Dx _;have app1: ∀ {m:Nat} {H' H2:Hp} {q':Addr} {vs:List V} {y:Th},SmA [td,p,tp] p H7 b fr m H'->H' td=some (.frz o (.dK kvs))->H' q'=none->H2=upd H' q' (.tup vs)->(∀ H3,H3 q'=some (.tup vs)->RepT H3 y (.ref q'))->FV b fr y false->m<=900->
       ∃ zs,H2 p=some (.lst zs)/\zs.length<PySem.sizeLine/\SmA [td,p,tp] p H7 b fr (m+1) (upd H2 p (.lst (zs++[.ref q'])))/\(upd H2 p (.lst (zs++[.ref q']))) td=some (.frz o (.dK kvs)):=by
      rintro m H' H2 q' vs y hS gd hq rfl hy hfv' hm;have hS2:=hS.mono (am hq (.tup vs));obtain ⟨zs,ep,lz,hadd⟩:=hS2.add hp7 (by simp);have gd2:=am hq (.tup vs) _ _ gd;have ndp:td≠p:=λz=>by rw [z,ep]at gd2;cases gd2
      have hn:=Ch ep (tt7.same' hS2.1) gd2 (λvs z=>by cases z);exact ⟨zs,ep,FB (Eh lz hm) (by decide),hadd [_] [y] (.cons (hy _ (hn.up ae)) .nil) (λx hx=>by rw [DF.mp hx];exact hfv'),by rw [aj ndp];exact gd2⟩
     have pz: ∀ {m:Nat} {H':Hp},SmA [td,p,tp] p H7 b fr m H'-> ∃ zs,SqL K H' p zs:=λh=>by obtain ⟨_,L,zs,e,_⟩:=h;exact ⟨zs,SqL.of e⟩
     refine ph (λσ' H'=>σ'=sgF b.wheel k j tp a sa fa fp ra (.int r.1) (.str r.2.1) z3 [some (.ref p),some v13,v14,some (.ref td),o16,o17,o18]/\SmA [td,p,tp] p H7 b fr 61 H'/\H' td=some (.frz o (.dK kvs))) ?_ (λF hF=>?_)
     ·rintro σ' H15 ⟨rfl,hS,gd⟩;refine ph (λσ' H'=>σ'=sgF b.wheel k j tp a sa fa fp ra (.int r.1) (.str r.2.1) z3 [some (.ref p),some v13,v14,some (.ref td),o16,o17,o18]/\SmA [td,p,tp] p H7 b fr 62 H') ?_ (λF hF=>?_)
      ·rintro σ' H16 ⟨rfl,hS⟩;obtain ⟨sS,L,zs,ep,rz,l62,lpos,hL⟩:=hS;have lz:=rz.len;have tt16:=tt7.same' sS;have k16:=k7.same sS;have hpt:p≠tp:=λz=>by obtain ⟨t,ht⟩:=tt7;rw [z,ht]at hp7;cases hp7
       refine ⟨_,rfl,_,rfl,_,rfl,_,rfl,_,rfl,_,rfl,_,rfl,p,zs,rfl,.inl (SqL.of ep),tp,_,rfl,tt16,by lia,by lia,λd t3 hd0 hd1=>?_⟩;have k17':Kp tp H16 (upd H16 tp (.lst [.int t3])):=Kp.tape;have tt17:Tp (upd H16 tp (.lst [.int t3])) tp:=⟨t3,ae⟩;generalize upd H16 tp (.lst [.int t3])=H17 at k17' tt17 ⊢;have k17:=k16.trans k17';have rz:RepTs (fD tp H17) L zs:=rz.mono λc o hc=>by
        obtain ⟨hc1,hc2⟩:=dH hc;have:c≠tp:=λz=>hc2 (by simp [z]);exact eY (k17' _ _ hc1 this) this
       obtain ⟨y,u,hy,_,hu',ru⟩:=RepTs.pick rz hd0 (by lia);refine ⟨_,_,d,u,rfl,rfl,SqL.of (k17' _ _ ep hpt),hu',a6 (by show 3<=1000;lia),λq9 hq9=>?_⟩;have s18:=am hq9 (.tup [.int r.1,.str r.2.1,u]);have k18:=k17.same s18;have tt18:=tt17.same' s18;have rx:=uj tt17 hq9 (a:=.i r.1) (b:=.s r.2.1) (c:=y) .i (R q2 k17) ru;generalize upd H17 q9 (.tup [.int r.1,.str r.2.1,u])=H18 at s18 k18 tt18 rx ⊢;refine ⟨a5 tp,_,j,.ref q9,_,bQ (r.1,r.2.1,y),rfl,aP tt18,R g4 k18,rx,hj0,by rw [Dx];lia,λu10 H19 s19 r19=>?_⟩;rw [GG.symm]at r19;have k19:=k18.same s19;have tt19:=tt18.same' s19;dsimp only [sgF,List.set];have hi:atI (b.forms.map bH) (k:Int)=some (bH fr):=oE (by lia) (by rw [ET];exact hfr);refine ⟨_,rfl,_,rfl,_,rfl,_,rfl,[none,none,none,none,some (.t (b.forms.map bH)),none,some (.i (k:Int))],_,aP tt19,.no (.no (.no (.no (.th (R r3 k19) (.no (.th .i .nil)))))),gW (l:=[.s fr.name,.s fr.own,sTh fr.parts,.t (fr.rules.map bQ)]) (k:=3) (jL rfl rfl hi),λv20 H20 s20 r20=>?_⟩;have tt20:=tt19.same' s20;refine ⟨_,rfl,a6 (by show 1<=1000;lia),λq11 hq11=>?_⟩;obtain ⟨H21,eW,s21,e21⟩:=nw hq11 (.tup [u10]);rw [eW];have tt21:=tt20.same' s21;obtain ⟨a8,us8,rfl,e8,_,t8⟩:=aT (r20.mono (aq (Kp.refl.same s21)));obtain ⟨n1,n2,n3,rfl,m1,m2,m3⟩:=eR t8;have r19:=r19.mono (aq (Kp.refl.same (s20.trans s21)));refine CK (aN e8).1 e21 (by show 3+1<=1000;lia) λq12 H22 s22 e22=>?_;have tt22:=tt21.same' s22;have h22:=aq ((Kp.refl (tp:=tp)).same s22);have q12t:q12≠tp:=λz=>by obtain ⟨t,ht⟩:=tt22;rw [z,ht]at e22;cases e22
       have rx:ThL tp H22 (bH {fr with rules:=fr.rules.set j.toNat (r.1,r.2.1,y)}) (.ref q12):=.t (eY e22 q12t) (by show 4<=1000;lia) (.cons (m1.mono h22) (.cons (m2.mono h22) (.cons (m3.mono h22) (.cons (r19.mono h22) .nil))));have k22:=k19.same ((s20.trans s21).trans s22);refine ⟨a5 tp,_,(k:Int),.ref q12,_,bH {fr with rules:=fr.rules.set j.toNat (r.1,r.2.1,y)},rfl,aP tt22,R r3 k22,rx,by lia,by rw [Dx];lia,λu23 H23 s23 r23=>?_⟩;rw [GG.symm,ET]at r23;have k23:=k22.same s23;have tt23:=tt22.same' s23;refine ⟨a6 (by show 3<=1000;lia),λq13 hq13=>?_⟩;exact q k fr j.toNat r y (.ref q13) _ hfr hr (hL y hy) (uj tt23 hq13 .i (R r2 k23) r23) (k23.new hq13) (tt23.new hq13)
      ·refine fkG (ys:=[y1,.str fr.own,.ref pb,.ref ra]) rfl rfl (hS.1 _ _ (U k7 ef)) (aM hfu) (hS.1 _ _ (U k7 eaf')) rfl ⟨pb,_,rfl,.inr (SqT.of (hS.1 _ _ (U k7 epb))),_,_,rfl,rfl,_,rfl,?_⟩;refine bp (λhc=>?_) (λ_=>hF _ _ ⟨rfl,hS.le (by lia)⟩);obtain ⟨pn,pr,hpp⟩: ∃ a l,fr.parts=a::l:=by cases hp':fr.parts with | nil=>rw [hp']at hc;cases hc | cons a l=>exact ⟨a,l,rfl⟩
       refine ⟨_,rfl,.inl ⟨rfl,pz hS⟩,a6 (by show 3<=1000;lia),λq' hq'=>?_⟩;obtain ⟨zs,ep,lz,hS',_⟩:=app1 (y:=.t [.s "part",.i 0,.s "zzzzzzzz"]) hS gd hq' rfl (λH3 h=>.t h (by show 3<=1000;lia) (.cons (.s (by decide)) (.cons .i (.cons (.s (by decide)) .nil)))) (rV (by decide) (by decide) wz (kf (by
        rw [sI,hpp];exact hz _ (dw (hps pn (by rw [hpp];exact DW))).1))) (by decide)
       exact ⟨p,zs,_,rfl,rfl,ep,lz,hF _ _ ⟨rfl,hS'⟩⟩
     ·refine fkG (ys:=[y1,.str fr.own,.ref pb,.ref ra]) rfl rfl (hS.1 _ _ (U k7 ef)) (aM hfu) (hS.1 _ _ (U k7 eaf')) rfl ⟨pb,_,rfl,.inr (SqT.of (hS.1 _ _ (U k7 epb))),_,_,rfl,rfl,_,rfl,?_⟩;refine bp (λhc=>?_) (λ_=>hF _ _ ⟨rfl,hS.le (by lia),gd⟩);have hc:=DT hc;refine ⟨_,rfl,.inl ⟨rfl,pz hS⟩,fkG (ys:=[y1,.str fr.own,.ref pb,.ref ra]) rfl rfl (hS.1 _ _ (U k7 ef)) (aM hfu) (hS.1 _ _ (U k7 eaf')) rfl ⟨pb,_,rfl,.inr (SqT.of (hS.1 _ _ (U k7 epb))),_,rfl,a6 (by show 3<=1000;lia),λq' hq'=>?_⟩⟩;obtain ⟨zs,ep,lz,hS',gd'⟩:=app1 (y:=.t [.s "part",.i (((fr.parts.map V.str).length:Nat):Int),.s r.2.1]) hS gd hq' rfl (λH3 h=>.t h (by show 3<=1000;lia) (.cons (.s (by decide)) (.cons .i (.cons (.s (bf hw)) .nil)))) (rV (by lia) (by lia) hw (by
       unfold eU;rw [DG (by lia),DN])) (by decide)
      exact ⟨p,zs,_,rfl,rfl,ep,lz,hF _ _ ⟨rfl,hS',gd'⟩⟩
    ·refine ⟨_,rfl,td,kvs,rfl,gd,λo=>?_⟩;have hS:=hS.chg (hs2:=[td,p,tp]) (H2:=upd H13 td (.frz o (.dK kvs))) (λc o hc h=>by
      rw [aj]
      ·exact hc
      ·rintro rfl;rcases h with h | h | h
       ·simp at h
       ·exact hne h
       ·rw [h7d]at h;cases h) (λ_ _ _ n=>n)
     have hTab:=hTab.mono (TK.upd (p:=td) (o:=.frz o (.dK kvs)) λys e=>by rw [gd]at e;cases e);have gd:(upd H13 td (.frz o (.dK kvs))) td=some (.frz o (.dK kvs)):=ae;generalize upd H13 td (.frz o (.dK kvs))=H14 at hS hTab gd ⊢;have lk:kvs.length<=4:=by rw [<- Ev hTab];exact h2
     refine vo (kvs:=kvs) (λi σ' H'=> ∃ o16,σ'=sgF b.wheel k j tp a sa fa fp ra (.int r.1) (.str r.2.1) z3 [some (.ref p),some v13,v14,some (.ref td),o16,o17,o18]/\SmA [td,p,tp] p H7 b fr (12+12*i) H'/\H' td=some (.frz o (.dK kvs))/\TabW H' kvs b.sorts)
      ⟨_,rfl,hS,gd,hTab⟩ (λi σ' H' _ h=>by obtain ⟨_,_,_,h,_⟩:=h;exact h) ?_ ?_
     ·rintro i ky σ' H15 hky ⟨o16,rfl,hS,gd,hTab⟩;rw [hTab.keys,DP]at hky;obtain ⟨sr,hsr,rfl⟩:=Ez.mp hky;have hsm:=DC hsr;obtain ⟨pb,rfl,epb,lpb⟩:=fR g3;have ey2:=cB g2;have eaf':fD tp H af=some (.tup [y1,.str fr.own,.ref pb,.ref ra]):=by rw [<- ey2];exact eaf
      refine CF (K:=K) (sr:=sr) (nm:=fr.own) (λx=>[.str "own",.str x]) (λx=>.t [.s "own",.s x]) hp7 tt7 hS gd hTab hnd hsm ho hsh (by have:=(DH.mp hsr).1;lia) rfl rfl rfl rfl
       (λx H1 Q' s q'=>fkG (ys:=[y1,.str fr.own,.ref pb,.ref ra]) rfl rfl (s _ _ (hS.1 _ _ (U k7 ef))) (aM hfu) (s _ _ (hS.1 _ _ (U k7 eaf'))) rfl q')
       (λx H1 k' hk=>⟨_,rfl,a6 (by show 2<=1000;lia),hk⟩)
       (λx q' H1 hx hq'=>.t hq' (by show 2<=1000;lia) (.cons (.s (by decide)) (.cons (.s hx) .nil))) (λx hx hn=>AC hx hn) λH16 hS gd hTab=>?_
      refine fkG (ys:=[y1,.str fr.own,.ref pb,.ref ra]) rfl rfl (hS.1 _ _ (U k7 ef)) (aM hfu) (hS.1 _ _ (U k7 eaf')) rfl ⟨pb,_,rfl,.inr (SqT.of (hS.1 _ _ (U k7 epb))),_,_,rfl,rfl,_,rfl,?_⟩;refine bp (λhc=>?_) (λ_=>⟨_,rfl,hS.le (by lia),gd,hTab⟩);obtain ⟨pn,pr,hpp⟩: ∃ a l,fr.parts=a::l:=by cases hp':fr.parts with | nil=>rw [hp']at hc;cases hc | cons a l=>exact ⟨a,l,rfl⟩
      have e0:atI (fr.parts.map V.str) 0=some (.str pn):=by rw [hpp];exact du
      refine CF (K:=K) (sr:=sr) (nm:=pn) (λx=>[.str "part",.int 0,.str x]) (λx=>.t [.s "part",.i 0,.s x]) hp7 tt7 hS gd hTab hnd hsm (hps pn (by rw [hpp];exact DW)) hsh (by have:=(DH.mp hsr).1;lia) rfl rfl rfl rfl
       (λx H1 Q' s q'=>fkG (ys:=[y1,.str fr.own,.ref pb,.ref ra]) rfl rfl (s _ _ (hS.1 _ _ (U k7 ef))) (aM hfu) (s _ _ (hS.1 _ _ (U k7 eaf'))) rfl ⟨pb,_,0,_,rfl,rfl,SqT.of (s _ _ (hS.1 _ _ (U k7 epb))),e0,q'⟩)
       (λx H1 k' hk=>⟨_,rfl,a6 (by show 3<=1000;lia),hk⟩)
       (λx q' H1 hx hq'=>.t hq' (by show 3<=1000;lia) (.cons (.s (by decide)) (.cons .i (.cons (.s hx) .nil)))) (λx hx hn=>rV (by decide) (by decide) hx (kf (by rw [sI,hpp];exact hn))) λH17 hS gd hTab=>⟨_,rfl,hS.le (by lia),gd,hTab⟩
     ·rintro σ' H15 ⟨o16,rfl,hS,gd,_⟩;exact hF _ _ ⟨o16,rfl,hS.le (by lia),o,gd⟩
   ·refine ⟨_,rfl,sa,rfl,⟨sv,SqT.of (hS.1 _ _ (U k7 es))⟩,?_⟩;refine jk (xs:=sv) (λi σ' H'=> ∃ kvs o16 o17 o18,σ'=sgF b.wheel k j tp a sa fa fp ra (.int r.1) (.str r.2.1) z3 [some (.ref p),some v13,v14,some (.ref td),o16,o17,o18]/\SmA [td,p,tp] p H7 b fr 12 H'/\H' td=some (.dK kvs)/\TabW H' kvs (b.sorts.take i))
     ⟨[],none,none,none,rfl,hS,gd,.nil⟩ (λi σ' H' _ h=>by obtain ⟨_,_,_,_,_,h,_⟩:=h;exact SqT.of (h.1 _ _ (U k7 es))) ?_ ?_
    ·rintro i x σ' H13 hx ⟨kvs,o16,o17,o18,rfl,hS,gd,hTab⟩;have hlt:=(DH.mp hx).1;obtain ⟨sr,hsr⟩: ∃ sr,b.sorts[i]? =some sr:=⟨_,DD (by lia)⟩;obtain ⟨u,hu',ru⟩:=ts.get (j:=i) (x:=cW sr) (by rw [DP,hsr];rfl);rw [hx]at hu';cases hu';obtain ⟨xa,xs,rfl,exa,_,txs⟩:=aT ru;obtain ⟨c1,c2,c3,rfl,d1,d2,d3⟩:=eR txs;rw [cB d1]at exa;obtain ⟨da,rfl,eda,lda⟩:=fR d2;obtain ⟨ua,rfl,eua,lua⟩:=fR d3;refine ⟨xa,_,rfl,SqT.of (hS.1 _ _ (U k7 exa)),rfl,_,_,rfl,_,_,rfl,_,_,rfl,rfl,?_⟩;refine ⟨_,rfl,_,rfl,CK (hS.1 _ _ (U k7 eda)) (hS.1 _ _ (U k7 eua)) (by rw [Dx,Dx];obtain ⟨_,_,l1,l2⟩:=hsh.sw sr (DC hsr);lia) λc H14 s14 ec=>?_⟩;have gd14:=s14 _ _ gd;have lk:kvs.length<=4:=by
      have:=Ev hTab;rw [<- this,DX];lia
     refine ⟨_,rfl,_,rfl,td,_,rfl,DPut.k (k:=.inr sr.name) gd14 (aK (by lia)),_,_,_,_,rfl,(hS.mono s14).chg (λc o hc h=>?_) (λ_ _ _ n=>n),ae,?_⟩
     ·rw [aj]
      ·exact hc
      ·rintro rfl;rcases h with h | h | h
       ·simp at h
       ·exact hne h
       ·rw [h7d]at h;cases h
     ·have tk:TK H13 (upd H14 td (.dK (dj kvs (.inr sr.name) (.ref c)))):=(bN s14).trans (TK.upd λys e=>by rw [gd14]at e;cases e);refine TabW.put hnd hsr (hTab.mono tk) ?_;rw [aj λz=>by rw [z,gd14]at ec;cases ec];rw [show wds sr=sr.downs++sr.ups from rfl,Ef];exact ec
    ·rintro σ' H13 ⟨kvs,o16,o17,o18,rfl,hS,gd,hTab⟩;rw [<- ls,EX]at hTab;exact hF _ _ ⟨kvs,o16,o17,o18,rfl,hS,gd,hTab⟩
  ·refine ⟨8,rfl,by decide,by decide,dA (λi σ' H'=> ∃ v13 v14,σ'=sgF b.wheel k j tp a sa fa fp ra (.int r.1) (.str r.2.1) z3 [some (.ref p),some v13,v14,none,none,none,none]/\SmA [p,tp] p H7 b fr 11 H'/\RepT (gU [p,tp] H') (dh (mkF i)) v13)
    ⟨_,_,rfl,hS,.t ((n2 hS).up e9) (by decide) (.cons (.s (by decide)) (.cons .i .nil))⟩ ?_ λσ' H' h=>hF σ' H' h⟩
   rintro i σ' H10 hi ⟨v13,v14,rfl,hS,rmk⟩;refine ⟨_,rfl,_,rfl,a6 (by show 2<=1000;lia),λq1 hq1=>⟨a6 (by show 3<=1000;lia),λq2 hq2=>?_⟩⟩;rw [F2]at *;have s11:=am hq1 (.tup [.str "num",.int (i:Int)]);have e11:(upd H10 q1 (.tup [.str "num",.int (i:Int)])) q1=some (.tup [.str "num",.int (i:Int)]):=ae;generalize upd H10 q1 (.tup [.str "num",.int (i:Int)])=H11 at s11 e11 hq2 ⊢;obtain ⟨H12,eW,s12,e12⟩:=nw hq2 (.tup [.str "plus",v13,.ref q1]);rw [eW];have hS':=hS.mono (s11.trans s12);refine ⟨_,_,rfl,hS',.t ((n2 hS').up e12) (by show 3<=1000;lia) (.cons (.s (by decide)) (.cons (rmk.mono λc o hc=>gS ((s11.trans s12) _ _ (dH hc).1) (dH hc).2) (.cons (.t ((n2 hS').up (s12 _ _ e11)) (by show 2<=1000;lia) (.cons (.s (by decide)) (.cons .i .nil))) .nil)))⟩
 ·refine ⟨_,rfl,[none,none,none,none,none,none,none,none,none,none,none,some (dh fm)],.t [.l [.s "plus"],dh fm,dh fm],aP tt6,.no (.no (.no (.no (.no (.no (.no (.no (.no (.no (.no (.th (R q3 k6) .nil))))))))))),rfl,λv10 H7 s7 r10=>⟨a6 (by show 1<=1000;lia),λp6 hp6=>?_⟩⟩;obtain ⟨H8,eW,s8,e8⟩:=nw hp6 (.lst [v10]);rw [eW];have s78:=s7.trans s8;have tt8:=tt6.same' s78;have k8:=k6.same s78;have r10:=r10.mono (aq (Kp.refl.same s8));obtain ⟨p9,zs,rfl,e9,_,tz⟩:=jD (r9.mono (aq (Kp.refl.same s78)));have lz:=tz.len;have lz:zs.length=10:=by rw [<- lz];rfl
  refine ⟨_,_,_,_,rfl,rfl,(aN e9).1,e8,a6 (by rw [lz];show 10+1<=1000;lia),λp hp=>hF _ _ ⟨p,H8,rfl,⟨hp,tt8,k8⟩,am hp _,yI (dh fm) r.2.1,_,ae,?_,DI 11,Nat.succ_pos 10,Dn hwf (hz _ ho')⟩⟩;refine (tz.app (.cons r10 .nil)).mono λc o hc=>?_;obtain ⟨hc1,hc2⟩:=aN hc;have hcp:=al hc1 hp;exact gS (by rw [aj hcp];exact hc1) (by simp [hcp,hc2])
end My
namespace L2
open PySem PySem.Spec PyProof.Rows
section
variable {X:Cx}
def BR (sp:Sp) (C:Addr) (t:TA) (i:Nat) (ts:TS):TS:=λD σ H=>t σ H λvs H1=>sp vs H1 (λ_ H2=>D.nx σ H2) λ_ od H2=> ∀ x,H2 x=none->
 ts {nx:=λσ' H3=>D.nx (σ'.set i none) H3,rt:=λ_ _=>False} (σ.set i (some (.ref x))) (upd H2 x (ExO x C od))
theorem zg {C CB f:Addr} {fd:FuncData} {ps:List Str} {sp:Sp} {k i:Nat} {fn cb n:Str} {e:Expr} {es:List Expr} {t:TA} {ts:TS} {p cp ap np hp tp:Pos} {b₀:Stmt} {suite:List Stmt} {rest:List ExceptHandler}
  (hxe: ∀ e s,X.xe e s->False) (hst:X.stack=X.env::X.outer) (hfr:X.env.frame=some X.env.locals) (hN:X.N.Nodup)
  (F:aX X.prog X.w X.K X.mg X.base (CX1 X.prog X.w C) k f fd ps sp) (hr:Room k X.A) (hgf:Gl X fn) (hmf:X.mg fn=some (.ref f)) (hkf:W.keepIn X.K (.ref f)=true) (hb:Binds X.K fd ps []) (ha:PA X (e::es) t)
  (hi:X.N[i]? =some n) (hk:X.env.scope.names.lookup n=some .local) (hg:Gl X cb) (hm:X.mg cb=some (.ref CB)) (Z:CaC X.K C CB)
  (hs: ∀ x,PSs (X.marked (.ref x)) (b₀::suite) ts) (hd:(cb==("__debug__":Str))=false:=by decide) (hdb:(fn==("__debug__":Str))=false:=by decide)
  (hsw:swapsWith (.Call (.Name fn p) (e::es) [] cp) none ap.line X.env=pure false:=by rfl)
  (he:starEach (e::es) X.env=(false,eval e X.env)::starEach es X.env:=by rfl) (hpl:(backTo cp (starEach es X.env)).any (·.1)=false:=by rfl):
  PS X (.Try [.Expr (.Call (.Name fn p) (e::es) [] cp) ap] (.ExceptHandler (some (.Name cb np)) (some n) (b₀::suite) hp::rest) [] [] tp) (BR sp C t i ts):=by
 intro pins s σ H D I h;refine wpAny_Try_except (Iv (wpAny_Expr_any ?_ I.quiet hsw));refine Fz (il I hgf hmf ?_ hdb);refine HY (h₀:=X.base) I.ok.mod.kin hkf (E2 (ha cp pins s σ H _ I h) (λus s1 ⟨vs,H1,I1,r,q⟩=>⟨I1.kIn,?_⟩) λe s z=>(hxe e s z).elim) he hpl;have hl:(us++[]).length=ps.length:=by rw [En,<- r.length];exact F.len _ _ _ _ q
 have hb':=hb s1 us I1.kIn hl;rw [En]at hb';refine Fy (Gx (F.run X.A X.stack s1 H1 ⟨us,[]⟩ us vs _ _ hr I1.env0 hb' r q) λr2 s2 hq=>?_);cases r2 with
 | error e2=>
  obtain ⟨x,T,od,H2,rfl,os,bare,un,hok,rc,nx,nT,fx,fT,q2⟩:=hq;exact Aa I1 ⟨un,hok,rc,nx,nT,fx,fT,λ_ z=>absurd z (by simp)⟩ os bare hst hfr hN hi hk hg hm Z (hs x) (q2 x fx) hd
 | ok fl=>
  cases fl with
  | ret u=>
   obtain ⟨v,H2,I2,r2,q2⟩:=I1.after hq;exact Gg (Gg ⟨_,_,I2,q2⟩)
  | next=>exact False.elim hq
  | brk=>exact False.elim hq
  | cont=>exact False.elim hq
end
end L2
namespace My
open PySem L2
structure CU (K:W.Frag) (mg:Str->Option Value) (C CB D0 D1 D2 D3 D4 D5 D6 D7 D8 D9 D10 D11 D12 D13 D14 D15 D16:Addr):Prop where
 d0:mg "NoBuild"=some (.ref D0)
 d1:mg "NoChange"=some (.ref D1)
 d2:mg "NoFit"=some (.ref D2)
 d3:mg "NoGiven"=some (.ref D3)
 d4:mg "NoName"=some (.ref D4)
 d5:mg "NoPlace"=some (.ref D5)
 d6:mg "NoPlain"=some (.ref D6)
 d7:mg "NoPrice"=some (.ref D7)
 d8:mg "NoRow"=some (.ref D8)
 d9:mg "NoSpot"=some (.ref D9)
 d10:mg "NoText"=some (.ref D10)
 d11:mg "NoTree"=some (.ref D11)
 d12:mg "NoWorth"=some (.ref D12)
 d13:mg "Ring"=some (.ref D13)
 d14:mg "Tangled"=some (.ref D14)
 d15:mg "TooGreat"=some (.ref D15)
 d16:mg "TooMany"=some (.ref D16)
 c:mg "NoBook"=some (.ref C)
 cb:mg "BoughError"=some (.ref CB)
 ve:mg "ValueError"=none
 exc:ExC K C
 cac:CaC K C CB
 no:W.kitAny K (.ref C) ([D0,D1,D2,D3,D4,D5,D6,D7,D8,D9,D10,D11,D12,D13,D14,D15,D16].map Value.ref)=some false
 i1:W.kitOne K (.ref C) (.ref C)=some true
 val:W.kitOne K (.ref C) (.type "ValueError")=some true
 st:yL K C "fault"
def sL:Sp:=λvs H Q _=> ∃ x:Str,vs=[.str x,.str x]/\x.length<=1000/\ ∀ H',Same H H'->Q (.bl true) H'
inductive hZ  (vs:List V) (H:Hp) (Q:VK) (E_:XK):Prop
 | mk: ∀ (v:V) (z:Str) (x:Th),(vs=[v,.str z])->(z.length<=1000)->(RepT H x v)->(sB x (some z))->(∀ H',Same H H'->Q (.bl true) H')->hZ vs H Q E_
theorem AZ:av ["found","due"] ["found","due"] (ah wB):=fsc
theorem xo (F:Fun K "_law_same" "_law_same" wB f fd) (G:Gb mg) (hlist:mg "list"=none):aX P w K mg base CX0 1 f fd ["found","due"] sL:=by
 refine F.okz AZ λcdv A outer s H vs Q E hr h=>?_;obtain ⟨x,rfl,hx,q⟩:=h;refine ⟨_,ad (aS (aZ (ao vD rfl G.isi (by decide +kernel) (aa (pv 1) (aa (aU (aa (cE (v:=.ty "tuple") rfl G.tuple (by decide +kernel) rfl) (aa (cE (v:=.ty "list") rfl hlist (by decide +kernel) rfl) ac))) ac)))) bK aE)
  (ad (aS (aG xh (pv 1) eL (aJ _)) bK aE)
  (ad (aS (aZ (ao cS rfl G.isi (by decide +kernel) (aa (pv 1) (aa (cE (v:=.ty "bool") rfl G.bool (by decide +kernel) rfl) ac)))) bK aE)
  (ad (aS (aZ (ao cS rfl G.isi (by decide +kernel) (aa (pv 1) (aa (cE (v:=.ty "str") rfl G.str (by decide +kernel) rfl) ac))))
   (ai (aw (cM (ao cS rfl G.isi (by decide +kernel) (aa (pv 0) (aa (cE (v:=.ty "str") rfl G.str (by decide +kernel) rfl) ac))) (dk (cj bJ (pv 0) (pv 1) (aJ _)))))) aE)
  bK))),?_⟩
 refine ⟨_,rfl,gH,λp0 h0=>?_⟩;obtain ⟨H0,eW,s0,g0⟩:=nw h0 (.tup [.ty "tuple",.ty "list"]);rw [eW];refine ⟨_,p0,false,rfl,g0,.str x,_,rfl,?_⟩;refine bx ⟨_,rfl,rfl,_,rfl,?_⟩;rw [show decide (V.str x=V.non)=false from DG λe=>nomatch e];refine bx ⟨_,rfl,_,"bool",rfl,hx,by simp,_,rfl,?_⟩;rw [show isV "bool" H0 (V.str x)=false from rfl];refine bx ⟨_,rfl,_,"str",rfl,hx,by simp,_,rfl,?_⟩;rw [show isV "str" H0 (V.str x)=true from rfl];refine bE ⟨_,rfl,_,"str",rfl,hx,by simp,_,rfl,?_⟩;rw [show isV "str" H0 (V.str x)=true from rfl];refine bE ⟨_,rfl,_,rfl,rfl,?_⟩;rw [DB rfl];exact q H0 s0
abbrev NRg:List Str:=["thing","due","caught","e"]
theorem scRight:av NRg ["thing","due"] (ah nI):=fsc
theorem xp (F:Fun K "_law_right" "_law_right" nI f fd) (hisi:mg "isinstance"=none) (h:CU K mg C CB D0 D1 D2 D3 D4 D5 D6 D7 D8 D9 D10 D11 D12 D13 D14 D15 D16)
  (GN:Cl P w K mg base (CX1 P w C) 8 f2 fd2 ["thing"] (qG C) "need_book")
  (GW:Cl P w K mg base CX0 7 f3 fd3 ["thing"] sJ "why_no_book")
  (GE:Cl P w K mg base CX0 1 f4 fd4 ["found","due"] sL "_law_same"):
  aX P w K mg base CX0 9 f fd ["thing","due"] hZ:=by
 refine F.okz scRight λcdv A outer s H vs Q E hr hq=>?_;obtain ⟨v,z,xt,rfl,hz,hx,hw,q⟩:=hq;have hr1:=hr.mono (show 1<=8 by decide);have hr7:=hr.mono (show 7<=8 by decide);refine ⟨_,ad (psz 2 scRight.nd eL)
  (ad (zg (i:=3) (λ_ _ z=>z) rfl rfl scRight.nd GN.F hr rfl GN.m GN.c GN.b (aa (pv 0) ac) rfl rfl rfl h.cb h.cac (λx=>ai (psz 2 scRight.nd (pv 3))))
  (ad (aS (PW.pt (dR (a9 (aZ (ao qo rfl hisi (by decide +kernel) (aa (pv 2) (aa (aW (v:=.ref C) rfl h.c rfl) ac)))))
   (cX (a9 (aZ (ao qo rfl hisi (by decide +kernel) (aa (pv 2) (aa (cE (v:=.ty "ValueError") rfl h.ve (by decide +kernel) rfl) ac)))))))) bK aE)
  (ad (aS (aZ (ao vC rfl hisi (by decide +kernel) (aa (pv 2) (aa (aU (pac (aW (v:=.ref D0) rfl h.d0 rfl) (pac (aW (v:=.ref D1) rfl h.d1 rfl) (pac (aW (v:=.ref D2) rfl h.d2 rfl) (pac (aW (v:=.ref D3) rfl h.d3 rfl) (pac (aW (v:=.ref D4) rfl h.d4 rfl) (pac (aW (v:=.ref D5) rfl h.d5 rfl) (pac (aW (v:=.ref D6) rfl h.d6 rfl) (pac (aW (v:=.ref D7) rfl h.d7 rfl) (pac (aW (v:=.ref D8) rfl h.d8 rfl) (pac (aW (v:=.ref D9) rfl h.d9 rfl) (pac (aW (v:=.ref D10) rfl h.d10 rfl) (pac (aW (v:=.ref D11) rfl h.d11 rfl) (pac (aW (v:=.ref D12) rfl h.d12 rfl) (pac (aW (v:=.ref D13) rfl h.d13 rfl) (pac (aW (v:=.ref D14) rfl h.d14 rfl) (pac (aW (v:=.ref D15) rfl h.d15 rfl) (pac (aW (v:=.ref D16) rfl h.d16 rfl) ac)))))))))))))))))) ac)))) bK aE)
  (ai (aw (cM (pcl GE hr1 (aa (pcl GW hr7 (aa (pv 0) ac)) (aa (pv 1) ac)))
   (dk (pcl GE hr1 (aa (zk h.exc h.st (pv 2) rfl) (aa (pv 1) ac)))))))))),?_⟩
 refine ⟨_,rfl,v,xt,some z,rfl,hx,hw,λe=>(by cases e),λz' e dd H1 s1 gd x hxn=>?_⟩;cases e;have s2':=am hxn (ExO x C (some dd));have S2:=s1.trans s2';have g2:(upd H1 x (ExO x C (some dd))) x=some (ExO x C (some dd)):=ae;have gd:=s2' _ _ gd;generalize upd H1 x (ExO x C (some dd))=H2 at S2 g2 gd ⊢;refine ⟨_,rfl,?_⟩;refine ⟨_,rfl,x,C,some dd,.ref C,.ref C,true,rfl,g2,h.exc,λu z=>z,h.i1,_,rfl,?_⟩;refine bx ⟨_,rfl,x,C,some dd,.ty "ValueError",.type "ValueError",true,rfl,g2,h.exc,λu z=>z,h.val,_,rfl,?_⟩;refine bx ?_;refine ⟨_,rfl,a6 (by show 17<=1000;lia),λp hp=>?_⟩;obtain ⟨H3,eW,s3,g3⟩:=nw hp (.tup [V.ref D0,V.ref D1,V.ref D2,V.ref D3,V.ref D4,V.ref D5,V.ref D6,V.ref D7,V.ref D8,V.ref D9,V.ref D10,V.ref D11,V.ref D12,V.ref D13,V.ref D14,V.ref D15,V.ref D16]);rw [eW];have gx:=s3 _ _ g2;have S3:=S2.trans s3;refine ⟨x,C,some dd,p,[D0,D1,D2,D3,D4,D5,D6,D7,D8,D9,D10,D11,D12,D13,D14,D15,D16],false,rfl,gx,h.exc,g3,h.no,_,rfl,?_⟩;refine bx ?_;refine ⟨_,rfl,v,xt,some z,rfl,hx.mono S3,hw,λH4 s4=>⟨_,rfl,z,rfl,hz,λH5 s5=>?_⟩⟩;have s35:=s4.trans s5;exact ⟨_,rfl,bE ⟨_,rfl,x,dd,_,.str z,rfl,s35 _ _ gx,s35 _ _ (s3 _ _ gd),rfl,_,rfl,z,rfl,hz,λH6 s6=>q H6 ((S3.trans s35).trans s6)⟩⟩
theorem hG {k:Int}: ∀ {qs:List Srt} {i:Int} {x:Str},(i,x)∈bY k qs-> ∃ (j:Nat) (q:Srt),i=k+ (j:Int)/\qs[j]? =some q/\x∈q.downs
 | [],_,_,h=>by cases h
 | q::r,i,x,h=>by
  have h:(i,x)∈q.downs.map (λx=>(k,x))++bY (k+1) r:=h;rcases DQ.mp h with h | h
  ·obtain ⟨y,hy,e⟩:=DY.mp h;cases e;exact ⟨0,q,by lia,rfl,hy⟩
  ·obtain ⟨j,q',e,h1,h2⟩:=hG (k:=k+1) h;exact ⟨j+1,q',by lia,h1,h2⟩
theorem lU {k:Int}: ∀ {qs:List Srt},(∀ q∈qs,q.downs.Nodup)->(bY k qs).Nodup
 | [],_=>Ho
 | q::r,h=>by
  show (q.downs.map (λx=>(k,x))++bY (k+1) r).Nodup;refine FH.mpr ⟨?_,lU λx hx=>h x (DZ _ hx),?_⟩
  ·have:=h q DW;exact Ip _ (λa b (hab:a≠b) e=>hab (Ex e).2) this
  ·intro a ha b hb e;subst e;obtain ⟨y,hy,e⟩:=DY.mp ha;subst e;obtain ⟨j,_,e,_⟩:=hG hb;lia
theorem gZ {ρ τ:Fm->Prop} (hS: ∀ f,ρ f->τ f): ∀ {f:Fm},f.wfp ρ->f.wfp τ
 | .num _,h=>h
 | .own _,h=>⟨h.1,hS _ h.2⟩
 | .part _ _,h=>⟨h.1,hS _ h.2⟩
 | .bin _ _ _,h=>⟨h.1,gZ hS h.2.1,gZ hS h.2.2⟩
 | .whn _ _ _,h=>⟨gZ hS h.1,gZ hS h.2.1,gZ hS h.2.2⟩
noncomputable def oP (fr:Frm):Fm->Prop
 | .own x=>x∈wds fr.own
 | .part k x=> ∃ (j:Nat) (q:Srt),k=(j:Int)/\fr.parts[j]? =some q/\x∈wds q
 | _=>False
theorem kU {k:Int}: ∀ {qs:List Srt} {g:Fm},g∈cK k qs-> ∃ (j:Nat) (q:Srt) (x:Str),g=.part (k+ (j:Int)) x/\qs[j]? =some q/\x∈q.ups
 | [],_,h=>by cases h
 | q::r,g,h=>by
  have h:g∈q.ups.map (λx=>Fm.part k x)++cK (k+1) r:=h;rcases DQ.mp h with h | h
  ·obtain ⟨x,hx,rfl⟩:=DY.mp h;exact ⟨0,q,x,by rw [show k+ ((0:Nat):Int)=k by lia],rfl,hx⟩
  ·obtain ⟨j,q',x,e,h1,h2⟩:=kU (k:=k+1) h;exact ⟨j+1,q',x,by rw [e,show k+1+ (j:Int)=k+ ((j+1:Nat):Int) by lia],h1,h2⟩
theorem uk {fr:Frm} {t:Int×Str} (h:t∈cA fr.own fr.parts):oP fr (tgF t):=by
 unfold cA at h;rcases DQ.mp h with h | h
 ·obtain ⟨x,hx,rfl⟩:=DY.mp h;show oP fr (if (-1:Int) <0 then .own x else .part (-1) x);rw [Ea (by decide)];exact DO _ hx
 ·obtain ⟨i,x⟩:=t;obtain ⟨j,q,e,h1,h2⟩:=hG h;have e:i=(j:Int):=by lia
  subst e;show oP fr (if (j:Int) <0 then .own x else .part (j:Int) x);rw [DU (by lia)];exact ⟨j,q,rfl,h1,Eo _ h2⟩
theorem wP {fr:Frm} {mode j:Int} {g:Fm} (h:g∈rds fr.own fr.parts mode j):oP fr g:=by
 unfold rds at h;rcases DQ.mp h with h | h
 ·rcases DQ.mp h with h | h
  ·obtain ⟨x,hx,rfl⟩:=DY.mp h;exact Eo _ hx
  ·obtain ⟨i,q,x,rfl,h1,h2⟩:=kU h;exact ⟨i,q,by lia,h1,DO _ h2⟩
 ·split at h
  ·obtain ⟨t,ht,rfl⟩:=DY.mp h;refine uk ?_;unfold fj at ht;split at ht
   ·exact Eu ht
   ·exact ht
  ·cases h
noncomputable def frx (fr:Frm):FrX:=⟨fr.name,fr.own.name,fr.parts.map Srt.name,fr.rules.map λr=>(r.pl,r.word,dh r.fm)⟩
noncomputable def fJ (bk:Bk):BkX:=⟨bk.wheel,bk.sorts,bk.forms.map frx⟩
theorem iY {α:Type} {H:Hp} {g:α->Th} {F:α->V->Prop}: ∀ {l:List α} {vs:List V},(∀ a v,a∈l->F a v->RepT H (g a) v)->Paired F l vs->RepTs H (l.map g) vs
 | _,_,_,.nil=>.nil
 | _,_,h,.cons a t=>.cons (h _ _ DW a) (iY (λx v hx r=>h x v (DZ _ hx) r) t)
theorem l5 {H:Hp}: ∀ {f:Fm} {v:V},Rep H f v->f.wf->RepT H (dh f) v
 | .num n,_,⟨a,e,h⟩,_=>by subst e;exact .t h (by show 2<=1000;lia) (.cons (.s (by decide +kernel)) (.cons .i .nil))
 | .own x,_,⟨a,e,h⟩,w=>by subst e;exact .t h (by show 2<=1000;lia) (.cons (.s (by decide +kernel)) (.cons (.s (bf w)) .nil))
 | .part k x,_,⟨a,e,h⟩,w=>by subst e;exact .t h (by show 3<=1000;lia) (.cons (.s (by decide +kernel)) (.cons .i (.cons (.s (bf w.2)) .nil)))
 | .bin op A B,_,⟨a,u,x,e,h,r1,r2⟩,⟨ho,w1,w2⟩=>by subst e;exact .t h (by show 3<=1000;lia) (.cons (.s (jF ho)) (.cons (l5 r1 w1) (.cons (l5 r2 w2) .nil)))
 | .whn A B C,_,⟨a,u,x,z,e,h,r1,r2,r3⟩,⟨w1,w2,w3⟩=>by subst e;exact .t h (by show 4<=1000;lia) (.cons (.s (by decide +kernel)) (.cons (l5 r1 w1) (.cons (l5 r2 w2) (.cons (l5 r3 w3) .nil))))
structure KeyB (b:BkX):Prop where
 sh:ShX b
 nm:ck b=true
 nos:NoS b
 ru: ∀ f∈b.forms,cH f=ka b f/\(cH f).Nodup/\f.rules.length<=90/\ ∀ r∈f.rules,r.2.1≠"zzzzzzzz"
structure GdB (b:BkX):Prop where
 k:KeyB b
 fv: ∀ f∈b.forms,∀ r∈f.rules,FV b f r.2.2 true
 zz: ∀ s∈b.sorts,("zzzzzzzz":Str)∉wds s
theorem GdB.w0 {b:BkX} (h:GdB b):GdB {b with wheel:=0} where
 k:=⟨⟨(by show dL (.i 0)=true;decide +kernel),h.k.sh.s1,h.k.sh.s4,h.k.sh.f1,h.k.sh.f10,h.k.sh.sw,h.k.sh.fw⟩,h.k.nm,h.k.nos,h.k.ru⟩
 fv:=h.fv
 zz:=h.zz
theorem KeyB.keys {b:BkX} (h:KeyB b):(b.forms.all λf=>decide (cH f=ka b f))=true:=Ed.mpr λf hf=>DB (h.ru f hf).1
theorem GdB.why {b:BkX} (h:GdB b) (w:b.wheel≠0):sB (cO b) none:=.inr ⟨b,rfl,h.k.sh,.book h.k.nm h.k.keys (λf hf=>⟨(h.k.ru f hf).2.1,h.fv f hf⟩) w⟩
theorem xT {rs:List RuX} {j:Nat} {r:RuX} {g:Th} (hr:rs[j]? =some r):dq (rs.set j (r.1,r.2.1,g))=dq rs:=by
 unfold dq;rw [GG];refine Gq λi=>?_;rw [Io];split
 ·rename_i e;subst e;have hlt:=(DH.mp hr).1;rw [Ea (by rw [Dx];exact hlt),DP,hr];rfl
 ·rfl
theorem pX {b:BkX} (h:GdB b) {k j:Nat} {f:FrX} {r:RuX} {g:Th} (hf:b.forms[k]? =some f) (hr:f.rules[j]? =some r):KeyB (setRu b k f (f.rules.set j (r.1,r.2.1,g))) where
 sh:=h.k.sh.setRu hf λu hu=>by
  have hw:=(h.k.sh.fw f (DC hf)).2.2.2.2;rcases mem_set hu with hu | rfl
  ·exact hw u hu
  ·exact hw r (DC hr)
 nm:=jV hf h.k.nm
 nos:=h.k.nos
 ru:=λu hu=>by
  rcases mem_set hu with hu | rfl
  ·exact h.k.ru u hu
  ·obtain ⟨h1,h2,h3,h4⟩:=h.k.ru f (DC hf);have e:cH {f with rules:=f.rules.set j (r.1,r.2.1,g)}=cH f:=xT hr;refine ⟨e.trans h1,by rw [e];exact h2,by show (f.rules.set j _).length<=90;rw [Fq];exact h3,λz hz=>?_⟩;rcases mem_set hz with hz | rfl
   ·exact h4 z hz
   ·exact h4 r (DC hr)
theorem xO {b:BkX} (h:GdB b) {k j:Nat} {f:FrX} {r:RuX} {g:Th} (hf:b.forms[k]? =some f) (hr:f.rules[j]? =some r) (hg:FV b f g false):sB (cO (setRu b k f (f.rules.set j (r.1,r.2.1,g)))) (some "formula"):=by
 have hk:=pX (g:=g) h hf hr;have hltk:=(DH.mp hf).1;have hltj:=(DH.mp hr).1;have e: ∀ (u:FrX) (x:Th) (c:Bool),FV b u x c->FV (setRu b k f (f.rules.set j (r.1,r.2.1,g))) u x c:=λu x c z=>by cases c <;> exact z
 have e2: ∀ (x:Th) (c:Bool),FV b f x c->FV (setRu b k f (f.rules.set j (r.1,r.2.1,g))) {f with rules:=f.rules.set j (r.1,r.2.1,g)} x c:=λx c z=>by cases c <;> exact z
 have hd: ∀ u:FrX,∃ c:Bool,c=true↔u≠{f with rules:=f.rules.set j (r.1,r.2.1,g)}:=λu=>(Classical.em (u≠{f with rules:=f.rules.set j (r.1,r.2.1,g)})).elim (λz=>⟨true,⟨λ_=>z,λ_=>rfl⟩⟩) λz=>⟨false,⟨λw=>Bool.noConfusion w,λw=>absurd w z⟩⟩;refine .inr ⟨_,rfl,hk.sh,.formula (λu=>Classical.choose (hd u)) hk.nm hk.keys (λu hu=>⟨(hk.ru u hu).2.1,?_⟩) ?_⟩
 ·have hc:=Classical.choose_spec (hd u);generalize Classical.choose (hd u)=c at hc;cases c with
  | true=>
   rcases mem_set hu with hm | rfl
   ·exact λz hz=>e _ _ _ (h.fv u hm z hz)
   ·exact absurd rfl (hc.mp rfl)
  | false=>
   have eu:u={f with rules:=f.rules.set j (r.1,r.2.1,g)}:=Classical.byContradiction λz=>by
    have:=hc.mpr z;cases this
   subst eu;refine ⟨j,(r.1,r.2.1,g),?_,λz hz=>?_,e2 _ _ hg⟩
   ·show (f.rules.set j _)[j]? =_;rw [Io,Ea rfl,Ea hltj]
   ·have hz:z∈(f.rules.set j (r.1,r.2.1,g)).take j:=hz;rw [List.take_set,List.set_eq_of_length_le (by rw [DX];lia)]at hz;exact e2 _ _ (h.fv f (DC hf) z (Eu hz))
 ·rw [F5];refine ⟨_,HN hltk _,λz=>?_⟩;exact (Classical.choose_spec (hd {f with rules:=f.rules.set j (r.1,r.2.1,g)})).mp z rfl
theorem qF {rs:List RuX}: ∀ x∈cr rs,x.length<=rs.length+1:=by
 have h0: ∀ x∈sp0 rs,x.length<=rs.length+1:=by
  intro x hx;simp only [sp0,DK,Eb,EQ]at hx;rcases hx with rfl | rfl | rfl
  ·rw [DA];exact DI _
  ·rw [DA];show 1+rs.length<=_;lia
  ·rw [DA];exact DI _
 intro x hx;cases rs with
 | nil=>exact h0 x hx
 | cons r t=>
  rw [nc]at hx;rcases DQ.mp hx with hx | hx
  ·rcases DQ.mp hx with hx | hx
   ·rcases DQ.mp hx with hx | hx
    ·exact h0 x hx
    ·simp only [sp1,DK,Eb,EQ]at hx;rcases hx with rfl | rfl | rfl
     ·rw [DJ];lia
     ·show ([_]++t).length<=t.length+1+1;rw [DA];show 1+t.length<=_;lia
     ·show ([_]++t).length<=t.length+1+1;rw [DA];show 1+t.length<=_;lia
   ·rw [DF.mp hx];show ((r::t)++[_]).length<=_;rw [DA];exact DI _
  ·split at hx
   ·rw [DF.mp hx,E8];lia
   ·cases hx
theorem xG {b:BkX} (h:KeyB b) {k:Nat} {f:FrX} {rs:List RuX} (hf:b.forms[k]? =some f) (hm:rs∈cr f.rules):ShX (setRu b k f rs)/\(∀ u∈(setRu b k f rs).forms,u.rules.length<=100)/\sB (cO (setRu b k f rs)) (some "rules"):=by
 have hfm:=DC hf;obtain ⟨h1,h2,h3,h4⟩:=h.ru f hfm;have sh:=h.sh.setRu hf (mZ (h.sh.fw f hfm).2.2.2.2 rs hm);refine ⟨sh,λu hu=>?_,.inr ⟨_,rfl,sh,.rules (jV hf h.nm) (wI hf ?_)⟩⟩
 ·rcases mem_set hu with hu | rfl
  ·have:=(h.ru u hu).2.2.1;lia
  ·have:=qF rs hm;show rs.length<=100;lia
 ·rw [<- h1];exact oS h2 h4 rs hm
theorem hU {bk:Bk} (nd:(bk.sorts.map Srt.name).Nodup) {s:Srt} (h:s∈bk.sorts):a0 (fJ bk) s.name=s:=by
 obtain ⟨h1,h2⟩:=dw (b:=fJ bk) (nm:=s.name) (DY.mpr ⟨s,h,rfl⟩);exact pR nd h1 h h2
theorem ju {bk:Bk} (nd:(bk.sorts.map Srt.name).Nodup) {fr:Frm} (ho:fr.own∈bk.sorts) (hp: ∀ q∈fr.parts,q∈bk.sorts): ∀ {f:Fm},f.wfp (oP fr)->f.told (fJ bk) (frx fr)=true
 | .num _,_=>rfl
 | .own x,w=>by
  have w:x∈wds fr.own:=w.2;show ((decide ((-1:Int) < ((frx fr).parts.length:Int))&&decide (x∈wds (a0 (fJ bk) fr.own.name)))&&true)=true;rw [hU nd ho,DB w,DB (by lia)];rfl
 | .part k x,w=>by
  obtain ⟨j,q,e,h1,h2⟩: ∃ (j:Nat) (q:Srt),k=(j:Int)/\fr.parts[j]? =some q/\x∈wds q:=w.2;subst e;have hlt:=(DH.mp h1).1;show ((decide ((j:Int) < (((fr.parts.map Srt.name).length:Nat):Int))&&decide (x∈wds (if (j:Int)= -1 then a0 (fJ bk) fr.own.name else a0 (fJ bk) ((fr.parts.map Srt.name).getD ((j:Int)).toNat ""))))&&true)=true;rw [DU (by lia),ET,Gv,DP,h1];show ((_&&decide (x∈wds (a0 (fJ bk) q.name)))&&true)=true;rw [hU nd (hp q (DC h1)),DB h2,DB (by rw [Dx];lia)];rfl
 | .bin op a b,w=>by
  show (a.rdk++b.rdk).all (tkB (fJ bk) (frx fr))=true;rw [FK,show a.rdk.all _=true from ju nd ho hp w.2.1,show b.rdk.all _=true from ju nd ho hp w.2.2];rfl
 | .whn a b c,w=>by
  show (a.rdk++(b.rdk++c.rdk)).all (tkB (fJ bk) (frx fr))=true;rw [FK,FK,show a.rdk.all _=true from ju nd ho hp w.1,show b.rdk.all _=true from ju nd ho hp w.2.1,show c.rdk.all _=true from ju nd ho hp w.2.2];rfl
theorem kB {ss:List Srt} {o:Srt} {qs:List Srt} (hok: ∀ s∈ss,s.ok) (ho:o∈ss) (hq: ∀ q∈qs,q∈ss) {t:Int×Str} (h:t∈cA o qs):aY t.2=true/\t.2≠"zzzzzzzz":=by
 unfold cA at h;rcases DQ.mp h with h | h
 ·obtain ⟨x,hx,rfl⟩:=DY.mp h;obtain ⟨_,h2,_,_,_,h6⟩:=hok o ho;exact ⟨h2 x (DO _ hx),h6 x (DO _ hx)⟩
 ·obtain ⟨_,_,q,h3,h4⟩:=kC h;obtain ⟨_,h2,_,_,_,h6⟩:=hok q (hq q h3);exact ⟨h2 _ (Eo _ h4),h6 _ (Eo _ h4)⟩
theorem BookOk.gd {bk:Bk} (h:BookOk bk):GdB (fJ bk)/\(fJ bk).wheel≠0:=by
 obtain ⟨s1,s4,snd,swd,sok⟩:=h.so;obtain ⟨mode,_,hfo⟩:=h.fo;obtain ⟨w1,w2⟩:=h.wh;have hmore:=h.more;have hfew:=h.few;have hnm:(fJ bk).forms.map FrX.name=bk.forms.map Frm.name:=by
  show (bk.forms.map frx).map FrX.name=_;rw [Es];rfl
 have sh:ShX (fJ bk):=by
  refine ⟨?_,s1,s4,?_,?_,λs hs=>?_,λf hf=>?_⟩
  ·show (decide (0<=bk.wheel)&&decide (bk.wheel<=10^30)&& !decide (bk.wheel=1))=true;rw [DB (by lia),DB w2,DG (by lia)];rfl
  ·show 1<=(bk.forms.map frx).length;rw [Dx];lia
  ·show (bk.forms.map frx).length<=10;rw [Dx];exact hfew
  ·obtain ⟨_,h2,h3,h4,_⟩:=sok s hs;exact ⟨(swd s hs).1,h2,h3,h4⟩
  ·obtain ⟨fr,hfr,rfl⟩:=DY.mp hf;obtain ⟨ho,hp,hl,hr,_⟩:=hfo fr hfr;refine ⟨h.wd fr hfr,(swd _ ho).1,λp hp'=>?_,?_,λr hr'=>?_⟩
   ·obtain ⟨q,hq,rfl⟩:=DY.mp hp';exact (swd q (hp q hq)).1
   ·show (fr.parts.map Srt.name).length<=3;rw [Dx];exact hl
   ·obtain ⟨r0,hr0,rfl⟩:=DY.mp hr';exact (kB sok ho hp (t:=(r0.pl,r0.word)) (by rw [<- hr];exact DY.mpr ⟨r0,hr0,rfl⟩)).1
 refine ⟨⟨⟨sh,?_,λs hs=>(swd s hs).2,λf hf=>?_⟩,λf hf r hr'=>?_,λs hs hz=>(sok s hs).2.2.2.2.2 _ hz rfl⟩,by show bk.wheel≠0;lia⟩
 ·show (decide (bk.sorts.map Srt.name).Nodup&&(decide ((fJ bk).forms.map FrX.name).Nodup&&(bk.sorts.all (λs=>decide (s.downs++s.ups).Nodup)&&(fJ bk).forms.all (bA (bk.sorts.map Srt.name)))))=true;rw [DB snd,hnm,DB h.nd,Ed.mpr λs hs=>DB (sok s hs).1,Ed.mpr λf hf=>?_]
  ·rfl
  ·obtain ⟨fr,hfr,rfl⟩:=DY.mp hf;obtain ⟨ho,hp,_⟩:=hfo fr hfr;show (decide (fr.own.name∈bk.sorts.map Srt.name)&&(fr.parts.map Srt.name).all λp=>decide (p∈bk.sorts.map Srt.name))=true;rw [DB (DY.mpr ⟨_,ho,rfl⟩),Ed.mpr λp hp'=>?_]
   ·rfl
   ·obtain ⟨q,hq,rfl⟩:=DY.mp hp';exact DB (DY.mpr ⟨q,hp q hq,rfl⟩)
 ·obtain ⟨fr,hfr,rfl⟩:=DY.mp hf;obtain ⟨ho,hp,hl,hr,_⟩:=hfo fr hfr;have hk:cH (frx fr)=cA fr.own fr.parts:=by
   show (fr.rules.map _).map _=_;rw [Es,<- hr];rfl
  have hd:ka (fJ bk) (frx fr)=cA fr.own fr.parts:=by
   show cA (a0 (fJ bk) fr.own.name) ((fr.parts.map Srt.name).map (a0 (fJ bk)))=_;rw [hU snd ho,Es]
   congr 1
   refine (GQ λq hq=>?_).trans (List.map_id _);exact hU snd (hp q hq)
  have hlen:(fr.rules.map λr=>(r.pl,r.word)).length=(cA fr.own fr.parts).length:=by rw [hr]
  have hu:fr.own.ups.length<=3:=(sok _ ho).2.2.2.1;have htl:=fK 0 fr.parts λs hs=>sok s (hp s hs);refine ⟨hk.trans hd.symm,?_,?_,λr hr'=>?_⟩
  ·rw [hk];unfold cA;refine FH.mpr ⟨?_,lU λq hq=>(FH.mp (sok q (hp q hq)).1).1,?_⟩
   ·have:=(FH.mp (sok _ ho).1).2.1;exact Ip _ (λa b (hab:a≠b) e=>hab (Ex e).2) this
   ·intro a ha b hb e;subst e;obtain ⟨y,hy,e⟩:=DY.mp ha;subst e;obtain ⟨j,_,e,_⟩:=hG hb;lia
  ·show (fr.rules.map _).length<=90;rw [Dx]at hlen ⊢;unfold cA at hlen;rw [DA,Dx]at hlen;lia
  ·obtain ⟨r0,hr0,rfl⟩:=DY.mp hr';exact (kB sok ho hp (t:=(r0.pl,r0.word)) (by rw [<- hr];exact DY.mpr ⟨r0,hr0,rfl⟩)).2
 ·obtain ⟨fr,hfr,rfl⟩:=DY.mp hf;obtain ⟨ho,hp,hl,hr,hw⟩:=hfo fr hfr;obtain ⟨r0,hr0,rfl⟩:=DY.mp hr';obtain ⟨j,hj⟩:=Fd hr0;obtain ⟨h1,h2⟩:=hw j r0 hj;exact ⟨r0.fm,rfl,h1.wf,h2,ju snd ho hp (gZ (λg hg=>wP hg) h1)⟩
theorem mV {H:Hp} {ws:List Str} {a:Addr} (h:H a=some (.tup (ws.map V.str))) (hw: ∀ x∈ws,aY x=true) (hl:ws.length<=1000):RepT H (sTh ws) (.ref a):=
 .t h (by rw [Dx];exact hl) (oR λx hx=>bf (hw x hx))
theorem A6 {H:Hp} {bk:Bk} {v:V} (hB:Aq H bk v) (h:BookOk bk):RepT H (cO (fJ bk)) v:=by
 obtain ⟨a,sa,fa,fv,rfl,ha,⟨sx,hsa,hS⟩,hfa,hF⟩:=hB;obtain ⟨s1,s4,snd,swd,sok⟩:=h.so;obtain ⟨mode,_,hfo⟩:=h.fo;have hfew:=h.few;refine .t ha (by show 3<=1000;lia) (.cons .i (.cons (.t hsa (by rw [Dx];show bk.sorts.length<=1000;lia) (iY (λs v hs r=>?_) hS)) (.cons (.t hfa (by rw [Dx];show (bk.forms.map frx).length<=1000;rw [Dx];lia) ?_) .nil)))
 ·obtain ⟨a,b,c,rfl,h1,h2,h3⟩:=r;obtain ⟨_,k2,k3,k4,_⟩:=sok s hs;exact .t h1 (by show 3<=1000;lia) (.cons (.s (bf (swd s hs).1)) (.cons (mV h2 (λx hx=>k2 x (Eo _ hx)) (by lia)) (.cons (mV h3 (λx hx=>k2 x (DO _ hx)) (by lia)) .nil)))
 ·show RepTs H ((bk.forms.map frx).map bH) fv;rw [Es];refine iY (λfr v hfr r=>?_) hF;obtain ⟨ho,hp,hl,hr,hw⟩:=hfo fr hfr;obtain ⟨a,pa,ra,rv,rfl,h1,h2,h3,h4⟩:=r;have hpa:H pa=some (.tup ((fr.parts.map Srt.name).map V.str)):=by rw [h2,Es];rfl
  have hlen:=congrArg List.length hr;have htl:=fK 0 fr.parts λs hs=>sok s (hp s hs);have hu:fr.own.ups.length<=3:=(sok _ ho).2.2.2.1;unfold cA at hlen;rw [DA,Dx,Dx]at hlen;refine .t h1 (by show 4<=1000;lia) (.cons (.s (bf (h.wd fr hfr))) (.cons (.s (bf (swd _ ho).1)) (.cons (mV hpa (λx hx=>?_) (by show (fr.parts.map Srt.name).length<=1000;rw [Dx];lia)) (.cons (.t h3 (by rw [Dx];show (fr.rules.map _).length<=1000;rw [Dx];lia) ?_) .nil))))
  ·obtain ⟨q,hq,rfl⟩:=DY.mp hx;exact (swd q (hp q hq)).1
  ·show RepTs H ((fr.rules.map _).map bQ) rv;rw [Es];refine iY (λr v hr' rr=>?_) h4;obtain ⟨a,u,rfl,g1,g2⟩:=rr;obtain ⟨j,hj⟩:=Fd hr';have hwd:=(kB sok ho hp (t:=(r.pl,r.word)) (by rw [<- hr];exact DY.mpr ⟨r,hr',rfl⟩)).1;exact .t g1 (by show 3<=1000;lia) (.cons .i (.cons (.s (bf hwd)) (.cons (l5 g2 (hw j r hj).1.wf) .nil)))
def C2 (w:Bool) (N:List Str) (n:Nat) (e:Expr):TE:=λσ H Q=> ∃ V:qr,tEv V w N n e σ H Q
theorem Bc {X:Cx} {w:Bool} {N:List Str} (hN:X.N=N) (hv:j0 X.env.scope N=true) (hl:w=true->Gl X "list"/\X.mg "list"=none) (n:Nat) {e:Expr}:PE X e (C2 w N n e):=λpins s σ H Q I ⟨V,h⟩=>be V hN hv hl n pins s σ H Q I h
theorem Al {P:Program} {w:World} {K:W.Frag} {mg:Str->Option Value} {base:Heap} {C f:Addr} {k:Nat} {fd:FuncData} {ps:List Str} {sp sp':Sp} (F:aX P w K mg base (CX1 P w C) k f fd ps sp) (h: ∀ vs H Q E,sp' vs H Q E->sp vs H Q λ_ _ _=>False):
  aX P w K mg base CX0 k f fd ps sp':=by
 refine ⟨λvs H Q E q=>F.len _ _ _ _ (h _ _ _ _ q),λA outer s H args us vs Q E hr he hb hv hs=>Gx (F.run A outer s H args us vs Q (λ_ _ _=>False) hr he hb hv (h _ _ _ _ hs)) λr s' hq=>?_⟩;cases r with
 | error e=>
  have hq:CX1 P w C outer H s (λ_ _ _=>False) e s':=hq;cases hq with
  | mk _ _ _ _ _ _ _ _ _ _ _ _ _ _ q=>exact q.elim
 | ok fl=>cases fl <;> exact hq
def yT:Sp:=λvs H Q _=> ∃ v x,vs=[v]/\RepT H x v/\sB x none/\ ∀ H',Same H H'->Q .non H'
inductive oW (K:W.Frag) (vs:List V) (H:Hp) (Q:VK) (E_:XK):Prop
 | mk: ∀ (a:Addr) (ns:List Int),(vs=[.ref a])->(SqL K H a (ns.map V.int))->(ns.length<=63)->(∀ H',Q (.bl true) H')->oW K vs H Q E_
theorem yd {tp:Addr} {H H':Hp} (s:Same H H') (h:H tp=none):SameH H (fD tp H'):=λb o e=>eY (s _ _ e) λz=>by rw [z,h]at e;cases e
theorem xC: ∀ {b:BkX},ShX b->b.forms≠[]:=λh e=>by have:=h.f1;rw [e]at this;exact absurd this (by decide)
abbrev kd:List Str:=["script","book","start","tape","base","late","mixed","named","thing"]
theorem scLaw:av kd ["script"] (ah bS):=fsc
theorem As:j0 (ah bS) kd=true:=by decide +kernel
noncomputable def lawFor:List Stmt:=tH ((aO bS).getD 2 (.Pass ⟨0,0,0,0⟩))
theorem xL {cdv:Value} {A:Around} {outer:List Env} {s:Shared} {H0:Hp} {E:XK}
  (GR:Cl P w K mg base CX0 9 f2 fd2 ["thing","due"] hZ "_law_right")
  (GM:Cl P w K mg base CX0 2 f3 fd3 ["tape","book"] fM "_law_rules_bad")
  (GN:Cl P w K mg base CX0 2 f4 fd4 ["tape","book"] fN "_law_names_bad")
  (GS:Cl P w K mg base CX0 4 f5 fd5 ["tape","book"] iQ "_law_shape")
  (hr:Room 9 (dv CX0 P w K mg base kd "law" (ah bS) f cdv A outer s H0 E).nox.A):
  ∃ t,PSs (dv CX0 P w K mg base kd "law" (ah bS) f cdv A outer s H0 E).nox (lawFor.drop 4) t/\
   ∀ (D:eS) (o0 o1 o2 o6 o7 o8:Option V) (tp:Addr) (bv lv:V) (b l:BkX) (H:Hp),Tp H tp->ThL tp H (cO b) bv->KeyB b->ThL tp H (cO l) lv->KeyB l->
    (∀ H' o6 o7,Kp tp H H'->D.nx [o0,o1,o2,some (.ref tp),some bv,some lv,o6,o7,o8] H')->t D [o0,o1,o2,some (.ref tp),some bv,some lv,o6,o7,o8] H:=by
 have hr2:=hr.mono (show 2<=9 by decide);have hr4:=hr.mono (show 4<=9 by decide);refine ⟨_,ad (psz 6 scLaw.nd (pcl GM hr2 (aa (pv 3) (aa (pv 5) ac))))
  (ad (psz 7 scLaw.nd (pcl GN hr2 (aa (pv 3) (aa (pv 6) ac))))
  (ad (aS (PW.pt (dR (a9 (aZ (pcl GR hr (aa (pv 6) (aa aV ac)))))
   (cX (a9 (aZ (pcl GR hr (aa (pv 7) (aa aV ac)))))))) bK aE)
  (ai (aS (PW.pt (dR (a9 (aZ (pcl GR hr (aa (pcl GS hr4 (aa (pv 3) (aa (pv 7) ac))) (aa aV ac)))))
   (cX (a9 (aZ (pcl GR hr (aa (pcl GS hr4 (aa (pv 3) (aa (pv 4) ac))) (aa aV ac)))))))) bK aE)))),?_⟩
 intro D o0 o1 o2 o6 o7 o8 tp bv lv b l H hT hb kb hl kl q;refine ⟨_,rfl,_,rfl,tp,lv,l,rfl,hT,hl,xC kl.sh,λu hu=>Eh (kl.ru u hu).2.2.1 (by decide),λk g rs mv H1 hg hrs r1 k1 T1=>?_⟩;obtain ⟨m1,m2,m3⟩:=xG kl hg hrs;refine ⟨_,rfl,_,rfl,tp,mv,_,rfl,T1,r1,m1,kl.nos,m2,λnb nv H2 n1 n2 n3 r2 k2 T2=>?_⟩;refine ⟨_,rfl,mv,"rules",_,rfl,by decide +kernel,thl (r1.mono (aq k2)),m3,λH3 s3=>⟨true,rfl,bx ?_⟩⟩;refine ⟨_,rfl,nv,"names",_,rfl,by decide +kernel,thl (r2.mono (aq (Kp.refl.same s3))),.inr ⟨nb,rfl,n1,.names n2⟩,λH4 s4=>⟨true,rfl,bx ?_⟩⟩;have s34:=s3.trans s4;refine ⟨_,rfl,_,rfl,tp,nv,nb,rfl,T2.same' s34,r2.mono (aq (Kp.refl.same s34)),n1,n3,λx xv H5 x1 x2 k5 T5=>?_⟩;refine ⟨xv,"shape",x,rfl,by decide +kernel,thl x2,.inl ⟨x1,rfl⟩,λH6 s6=>⟨true,rfl,bx ?_⟩⟩;have k6:Kp tp H H6:=(((k1.trans k2).same s34).trans k5).same s6;refine ⟨_,rfl,_,rfl,tp,bv,b,rfl,T5.same' s6,hb.mono (aq k6),kb.sh,λu hu=>Eh (kb.ru u hu).2.2.1 (by decide),λx xv H7 x1 x2 k7 T7=>?_⟩;exact ⟨xv,"shape",x,rfl,by decide +kernel,thl x2,.inl ⟨x1,rfl⟩,λH8 s8=>⟨true,rfl,bx (q H8 _ _ ((k6.trans k7).same s8))⟩⟩
theorem xN {cdv:Value} {A:Around} {outer:List Env} {s:Shared} {H0:Hp} {E:XK}
  (GR:Cl P w K mg base CX0 9 f2 fd2 ["thing","due"] hZ "_law_right")
  (GM:Cl P w K mg base CX0 2 f3 fd3 ["tape","book"] fM "_law_rules_bad")
  (GN:Cl P w K mg base CX0 2 f4 fd4 ["tape","book"] fN "_law_names_bad")
  (GS:Cl P w K mg base CX0 4 f5 fd5 ["tape","book"] iQ "_law_shape")
  (GF:Cl P w K mg base CX0 2 f6 fd6 ["tape","book"] fP "_law_formula_bad")
  (GT:Cl P w K mg base CX0 2 f7 fd7 ["script","k"] (jx K) "_law_tape")
  (GD:Cl P w K mg base CX0 1 f8 fd8 ["tape","many"] br "_law_digit") (hlist:mg "list"=none)
  (hr:Room 9 (dv CX0 P w K mg base kd "law" (ah bS) f cdv A outer s H0 E).nox.A):
  ∃ t,PSs (dv CX0 P w K mg base kd "law" (ah bS) f cdv A outer s H0 E).nox lawFor t/\
   ∀ (D:eS) (o3 o4 o5 o6 o7 o8:Option V) (a:Addr) (ns:List Int) (st:Int) (bv:V) (b:BkX) (H:Hp),SqL K H a (ns.map V.int)->ns.length<=63->0<=st->st<1000->RepT H (cO b) bv->GdB b->
    (∀ H' o3 o4 o5 o6 o7,Same H H'->D.nx [some (.ref a),some bv,some (.int st),o3,o4,o5,o6,o7,o8] H')->t D [some (.ref a),some bv,some (.int st),o3,o4,o5,o6,o7,o8] H:=by
 have hr1:=hr.mono (show 1<=9 by decide);have hr2:=hr.mono (show 2<=9 by decide);obtain ⟨t,ht,htail⟩:=xL (f:=f) (cdv:=cdv) (A:=A) (outer:=outer) (s:=s) (H0:=H0) (E:=E) GR GM GN GS hr;refine ⟨_,ad (psz 3 scLaw.nd (pcl GT hr2 (aa (pv 0) (aa (pv 2) ac))))
  (ad (psz 4 scLaw.nd (@ax _ _ _ _ _ _ (bO K) aL (@Bc _ false kd rfl As (λz=>by cases z) 9 _) (pcl GD hr1 (aa (pv 3) (aa ag ac))) (λ_ _=>rfl)))
  (ad (psz 5 scLaw.nd (pcl GF hr2 (aa (pv 3) (aa (pv 4) ac))))
  (ad (aS (aG xh (pv 5) eL (aJ _)) (ai (psz 5 scLaw.nd (pv 4)))
   (ai (aS (a9 (aZ (pcl GR hr (aa (pv 5) (aa aV ac))))) bK aE))) ht))),?_⟩
 intro D o3 o4 o5 o6 o7 o8 a ns st bv b H hS hlen h0 h1 hb gb q;refine ⟨_,rfl,_,rfl,a,ns,st,rfl,hS,hlen,h0,h1,λtp t0 htp=>?_⟩;have s1:=am htp (.lst [.int t0]);have T1:Tp (upd H tp (.lst [.int t0])) tp:=⟨t0,ae⟩;generalize upd H tp (.lst [.int t0])=H1 at s1 T1 ⊢;have fin: ∀ H',Kp tp H1 H'->Same H H':=λH' k b o e=>k b o (s1 _ _ e) (al e htp);have rb:ThL tp H1 (cO b) bv:=hb.mono (yd s1 htp);refine ⟨a5 tp,[none,some (cO b),none,none,none,none,none,none,none],.l [cO b,cO {b with wheel:=0}],aP T1,.no (.th rb (.no (.no (.no (.no (.no (.no (.no .nil)))))))),by kernel_rfl,λlv H2 s2 r2=>?_⟩;have T2:=T1.same' s2;refine ⟨_,rfl,tp,2,rfl,T2,by decide,by decide,λd t1 d0 d2=>?_⟩;have k3:Kp tp H2 (upd H2 tp (.lst [.int t1])):=Kp.tape;have T3:Tp (upd H2 tp (.lst [.int t1])) tp:=⟨t1,ae⟩;generalize upd H2 tp (.lst [.int t1])=H3 at k3 T3 ⊢;have r3:=r2.mono (aq k3);cases r3 with
 | l e _ ts=>
  obtain ⟨x,u,hx,_,hu,ru⟩:=RepTs.pick ts d0 d2;obtain ⟨c,rfl,gc⟩: ∃ c,x=cO c/\GdB c:=by
   rcases DK.mp hx with rfl | hx
   ·exact ⟨b,rfl,gb⟩
   ·exact ⟨_,DF.mp hx,gb.w0⟩
  refine ⟨_,_,d,u,rfl,rfl,SqL.of (aN e).1,hu,?_⟩;have k13:Kp tp H1 H3:=(Kp.refl.same s2).trans k3;refine ⟨_,rfl,_,rfl,tp,u,c,rfl,T3,ru,gc.k.sh,gc.k.nm,λg hg=>⟨Eh (gc.k.ru g hg).2.2.1 (by decide),gc.fv g hg⟩,gc.zz,λH4 k4 T4=>?_,λk g j r th lv H4 hg hr' hv r4 k4 T4=>?_⟩
  ·refine ⟨_,rfl,rfl,_,rfl,bE ⟨_,rfl,?_⟩⟩;refine htail D _ _ _ o6 o7 o8 tp u u c c H4 T4 (ru.mono (aq k4)) gc.k (ru.mono (aq k4)) gc.k λH' o6 o7 k'=>q H' _ _ _ _ _ (fin H' ((k13.trans k4).trans k'))
  ·refine ⟨_,rfl,rfl,_,rfl,?_⟩;obtain ⟨la,lw,rfl,_⟩:=aT r4;rw [show decide (V.ref la=V.non)=false from DG λe=>nomatch e];refine bx ?_;refine ⟨_,rfl,.ref la,"formula",_,rfl,by decide +kernel,thl r4,xO gc hg hr' hv,λH5 s5=>⟨true,rfl,bx ?_⟩⟩;have k5:=k4.same s5;refine htail D _ _ _ o6 o7 o8 tp u (.ref la) c _ H5 (T4.same' s5) (ru.mono (aq k5)) gc.k (r4.mono (aq (Kp.refl.same s5))) (pX gc hg hr') λH' o6 o7 k'=>q H' _ _ _ _ _ (fin H' ((k13.trans k5).trans k'))
noncomputable abbrev jf (b:BkX):List Th:=[.non,.bl true,.i 7,.s "book",.t [],.l [],.d,.t [.i b.wheel,.t (b.sorts.map cW)],.l [.i b.wheel,.t (b.sorts.map cW),.t (b.forms.map bH)],.t [.i b.wheel,.t (b.sorts.map cW),.t (b.forms.map bH),.i 0],.t [cO b]]
theorem xP (b:BkX): ∀ x∈jf b,cJ x=false:=by
 have h:(jf b).all (λx=> !cJ x)=true:=rfl;intro x hx;have:=Ed.mp h x hx;simpa using this
noncomputable def CC (l:List Stmt):Expr:=match l with
 | .For _ e _ _ _::_=>e
 | _=>.Constant .none 0 ⟨0,0,0,0⟩
noncomputable def Cz (l:List Stmt):Expr:=match l with
 | .For e _ _ _ _::_=>e
 | _=>.Constant .none 0 ⟨0,0,0,0⟩
noncomputable def CD (l:List Stmt):List Stmt:=match l with
 | .For _ _ b _ _::_=>b
 | _=>[]
noncomputable def CA (l:List Stmt):Pos:=match l with
 | .For _ _ _ _ p::_=>p
 | _=>⟨0,0,0,0⟩
noncomputable def tq:Expr:=CC ((aO bS).drop 3)
theorem Bj:(aO bS).drop 3=[.For (Cz ((aO bS).drop 3)) tq (CD ((aO bS).drop 3)) [] (CA ((aO bS).drop 3)),(aO bS).getD 4 (.Pass ⟨0,0,0,0⟩)]:=rfl
theorem zR (en:Env) (x:Value):foldedSetIterable tq en x=pure x:=rfl
theorem Bl (b:BkX):evE true kd [none,some (cO b),none,none,none,none,none,none,none] 9 tq=some (.l (jf b)):=by kernel_rfl
theorem zS {cdv:Value} {A:Around} {outer:List Env} {s:Shared} {H0:Hp} {E:XK}
  (GR:Cl P w K mg base CX0 9 f2 fd2 ["thing","due"] hZ "_law_right") (hlist:mg "list"=none)
  (hr:Room 9 (dv CX0 P w K mg base kd "law" (ah bS) f cdv A outer s H0 E).nox.A):
  ∃ t,PSs (dv CX0 P w K mg base kd "law" (ah bS) f cdv A outer s H0 E).nox ((aO bS).drop 3) t/\
   ∀ (nx:St->Hp->Prop) (Q:VK) (o0 o2 o3 o4 o5 o6 o7 o8:Option V) (bv:V) (b:BkX) (H:Hp),RepT H (cO b) bv->(∀ H',Q (.bl true) H')->t {nx:=nx,rt:=Q} [o0,some bv,o2,o3,o4,o5,o6,o7,o8] H:=by
 have hse:=zR (dv CX0 P w K mg base kd "law" (ah bS) f cdv A outer s H0 E).nox.env;have hev:=Bl;rw [Bj];generalize tq=e at hse hev ⊢;refine ⟨_,ad (cC Ep rfl (km (@be _ BO true kd rfl As (λ_=>by exact ⟨rfl,hlist⟩) 9 e)) (pgz 8 scLaw.nd)
   (ai (aS (a9 (aZ (pcl GR hr (aa (pv 8) (aa aV ac))))) bK aE)) hse)
  (ai (aw cx)),?_⟩
 intro nx Q o0 o2 o3 o4 o5 o6 o7 o8 bv b H hb q;refine ⟨[none,some (cO b),none,none,none,none,none,none,none],.l (jf b),trivial,.no (.th hb (.no (.no (.no (.no (.no (.no (.no .nil)))))))),hev b,λlv H5 s5 r5=>?_⟩;have s5:Same H H5:=s5;have r5:RepT H5 (.l (jf b)) lv:=r5;obtain ⟨la,lvs,rfl,gla,_,ts⟩:=jD r5;refine ⟨la,rfl,⟨_,SqL.of gla⟩,?_⟩;refine lj (xs:=lvs) (λi σ H'=> ∃ o8,σ=[o0,some bv,o2,o3,o4,o5,o6,o7,o8]/\Same H5 H') ⟨_,rfl,Same.refl _⟩ (λi σ H' _ h=>by obtain ⟨_,_,s'⟩:=h;exact SqL.of (s' _ _ gla)) ?_ ?_
 ·rintro j x σ H6 hx ⟨o8,rfl,s6⟩;obtain ⟨th,hth,rth⟩:=bj ts.pr hx;have hbad:=xP b th (DC hth);exact ⟨_,rfl,x,"shape",th,rfl,by decide +kernel,rth.mono s6,.inl ⟨hbad,rfl⟩,λH7 s7=>⟨true,rfl,bx ⟨_,rfl,s6.trans s7⟩⟩⟩
 ·rintro σ H6 ⟨o8,rfl,s6⟩;exact q H6
theorem Bi:aO bS=(aO bS).getD 0 (.Pass ⟨0,0,0,0⟩)::(aO bS).getD 1 (.Pass ⟨0,0,0,0⟩)::(aO bS).getD 2 (.Pass ⟨0,0,0,0⟩)::(aO bS).drop 3:=rfl
theorem Bf (F:Fun K "law" "law" bS f fd) (G:Gb mg)
  (GR:Cl P w K mg base CX0 9 f2 fd2 ["thing","due"] hZ "_law_right")
  (GM:Cl P w K mg base CX0 2 f3 fd3 ["tape","book"] fM "_law_rules_bad")
  (GN:Cl P w K mg base CX0 2 f4 fd4 ["tape","book"] fN "_law_names_bad")
  (GS:Cl P w K mg base CX0 4 f5 fd5 ["tape","book"] iQ "_law_shape")
  (GF:Cl P w K mg base CX0 2 f6 fd6 ["tape","book"] fP "_law_formula_bad")
  (GT:Cl P w K mg base CX0 2 f7 fd7 ["script","k"] (jx K) "_law_tape")
  (GD:Cl P w K mg base CX0 1 f8 fd8 ["tape","many"] br "_law_digit") (hlist:mg "list"=none)
  (GB:Cl P w K mg base CX0 6 f9 fd9 ["script","start","few"] (qJ K) "_law_book")
  {fw fn:Addr} {fdw fdn:FuncData} (GW:Cl P w K mg base CX0 7 fw fdw ["thing"] sJ "why_no_book")
  (GE:Cl P w K mg base (CX1 P w C) 8 fn fdn ["thing"] (qG C) "need_book"):
  aX P w K mg base CX0 10 f fd ["script"] (oW K):=by
 have GE0:aX P w K mg base CX0 8 fn fdn ["thing"] yT:=Al GE.F λvs H Q E ⟨v,x,e,hx,hw,q⟩=>⟨v,x,none,e,hx,hw,λ_=>q,λz e=>by cases e⟩;refine F.okz scLaw λcdv A outer s H vs Q E hr h=>?_;obtain ⟨a,ns,rfl,hS,hlen,q⟩:=h;have hr6:=hr.mono (show 6<=9 by decide);have hr7:=hr.mono (show 7<=9 by decide);have hr8:=hr.mono (show 8<=9 by decide);obtain ⟨t,ht,hbody⟩:=xN (f:=f) (cdv:=cdv) (A:=A) (outer:=outer) (s:=s) (H0:=H) (E:=E) GR GM GN GS GF GT GD hlist hr;obtain ⟨tE,htE,hend⟩:=zS (f:=f) (cdv:=cdv) (A:=A) (outer:=outer) (s:=s) (H0:=H) (E:=E) GR hlist hr;rw [Bi];generalize (aO bS).drop 3=body3 at htE ⊢;refine ⟨_,ad (psz 1 scLaw.nd (pcl GB hr6 (aa (pv 0) (aa ag (aa cx ac)))))
  (ad (aS (PW.pt (dR (aG nW (pcl GW hr7 (aa (pv 1) ac)) eL (aJ _)) (cX (aG nW (nU GE0 hr8 rfl GE.m GE.c GE.b .nil sV (aa (pv 1) ac)) eL (aJ _))))) bK aE)
  (ad (cC Ep rfl (uG rfl G.range (aa ag (aa (ao (mH rfl) rfl G.max (by decide +kernel) (aa ag (aa (ao (mG rfl) rfl G.min (by decide +kernel) (aa ag (aa (ao (r:=bU K) au rfl G.len DV (aa (pv 0) ac)) ac))) ac))) ac))) (pgz 2 scLaw.nd) ht) htE)),?_⟩
 refine ⟨_,rfl,a,ns,0,false,rfl,hS,hlen,by decide,by decide,λbv bk H1 hB hok s1=>?_⟩;obtain ⟨gd,hw0⟩:=hok.gd;have hb:=A6 hB hok;generalize fJ bk=b at gd hw0 hb;refine ⟨_,rfl,bv,cO b,none,rfl,hb,gd.why hw0,λH2 s2=>⟨rfl,_,rfl,bx ?_⟩⟩;refine ⟨_,rfl,bv,cO b,rfl,hb.mono s2,gd.why hw0,λH3 s3=>⟨rfl,_,rfl,bx ?_⟩⟩;have S3:=(s1.trans s2).trans s3;have hb3:=hb.mono (s2.trans s3);have hll:(ns.map V.int).length=ns.length:=Dx _;refine ⟨_,rfl,a,_,rfl,.inl (SqL.keep hS (S3 _)),15,_,rfl,12,_,rfl,11,_,rfl,?_,?_⟩
 ·rw [hll];refine ⟨by decide,by decide,?_,?_⟩ <;> split <;> split <;> lia
 rw [hll];refine dA (λi σ H'=> ∃ o2 o3 o4 o5 o6 o7 o8,σ=[some (.ref a),some bv,o2,o3,o4,o5,o6,o7,o8]/\Same H3 H') ⟨_,_,_,_,_,_,_,rfl,Same.refl _⟩ ?_ ?_
 ·rintro i σ H4 hi ⟨o2,o3,o4,o5,o6,o7,o8,rfl,s4⟩;have hi5:i<5:=by
   have:((if (if (ns.length:Int) <15 then (ns.length:Int)else 15) >12 then (if (ns.length:Int) <15 then (ns.length:Int)else 15)else 12) -11).toNat<=4:=by split <;> split <;> lia
   lia
  exact hbody _ o3 o4 o5 o6 o7 o8 a ns _ bv b H4 (SqL.keep hS ((S3.trans s4) _)) hlen (by lia) (by lia) (hb3.mono s4) gd λH' o3 o4 o5 o6 o7 s'=>⟨_,_,_,_,_,_,_,rfl,s4.trans s'⟩
 ·rintro σ H4 ⟨o2,o3,o4,o5,o6,o7,o8,rfl,s4⟩;exact hend _ _ _ _ _ _ _ _ _ _ bv b H4 (hb3.mono s4) q
theorem Ai {P:Program} {w:World} {K:W.Frag} {aD:Addr} {h1 h2 h3 h4 h5 h6:Int} {t1 t2 t3 t4 t5 t6 u1 u2 u3 u4 u5 u6:Tok} {ep:Nat}
  (lD:K.lookup aD=some ⟨.type "dict",none,.dict #[⟨h1,.str "plus" t1,.int 2 u1⟩,⟨h2,.str "less" t2,.int 2 u2⟩,⟨h3,.str "times" t3,.int 2 u3⟩,⟨h4,.str "least" t4,.int 2 u4⟩,⟨h5,.str "most" t5,.int 2 u5⟩,⟨h6,.str "when" t6,.int 3 u6⟩] ep,#[]⟩)
  (e1:h1=hashStr w "plus") (e2:h2=hashStr w "less") (e3:h3=hashStr w "times") (e4:h4=hashStr w "least") (e5:h5=hashStr w "most") (e6:h6=hashStr w "when") (nD:(aD==sysModules)=false):vG P w K aD jh:=by
 refine ⟨nD,λh X=>⟨[(.inr "plus",.int 2 u1),(.inr "less",.int 2 u2),(.inr "times",.int 2 u3),(.inr "least",.int 2 u4),(.inr "most",.int 2 u5),(.inr "when",.int 3 u6)],?_,?_⟩⟩
 ·exact .cons ⟨rfl,_,rfl⟩ (.cons ⟨rfl,_,rfl⟩ (.cons ⟨rfl,_,rfl⟩ (.cons ⟨rfl,_,rfl⟩ (.cons ⟨rfl,_,rfl⟩ (.cons ⟨rfl,_,rfl⟩ .nil)))))
 ·refine ⟨_,_,_,X _ _ lD,⟨rfl,rfl,rfl⟩,rfl,?_,?_,by dsimp only [List.map];decide +kernel⟩
  ·intro e he;simp only [List.mem_toArray,DK,Eb,EQ]at he;rcases he with rfl | rfl | rfl | rfl | rfl | rfl
   ·exact ⟨.inr "plus",bD "plus" t1,e1⟩
   ·exact ⟨.inr "less",bD "less" t2,e2⟩
   ·exact ⟨.inr "times",bD "times" t3,e3⟩
   ·exact ⟨.inr "least",bD "least" t4,e4⟩
   ·exact ⟨.inr "most",bD "most" t5,e5⟩
   ·exact ⟨.inr "when",bD "when" t6,e6⟩
  ·exact .cons (bD "plus" t1) rfl (.cons (bD "less" t2) rfl (.cons (bD "times" t3) rfl (.cons (bD "least" t4) rfl (.cons (bD "most" t5) rfl (.cons (bD "when" t6) rfl .nil)))))
theorem kY {K:W.Frag} {C:Addr} {b:Value} {r:Bool} (h:W.mroIn K C b=some r):(W.clsIn K C).isSome=true:=by
 unfold W.mroIn at h;cases e:W.clsIn K C with
 | none=>rw [e]at h;cases h
 | some c=>rfl
theorem bi1 {P:List Value->Prop} (h: ∀ a,P [a]): ∀ us:List Value,us.length=1->P us:=λus hl=>match us,hl with
 | [a],_=>h a
theorem bi2 {P:List Value->Prop} (h: ∀ a b,P [a,b]): ∀ us:List Value,us.length=2->P us:=λus hl=>match us,hl with
 | [a,b],_=>h a b
theorem bi3 {P:List Value->Prop} (h: ∀ a b c,P [a,b,c]): ∀ us:List Value,us.length=3->P us:=λus hl=>match us,hl with
 | [a,b,c],_=>h a b c
theorem bi4 {P:List Value->Prop} (h: ∀ a b c d,P [a,b,c,d]): ∀ us:List Value,us.length=4->P us:=λus hl=>match us,hl with
 | [a,b,c,d],_=>h a b c d
theorem bi5 {P:List Value->Prop} (h: ∀ a b c d e,P [a,b,c,d,e]): ∀ us:List Value,us.length=5->P us:=λus hl=>match us,hl with
 | [a,b,c,d,e],_=>h a b c d e
theorem bi6 {P:List Value->Prop} (h: ∀ a b c d e f,P [a,b,c,d,e,f]): ∀ us:List Value,us.length=6->P us:=λus hl=>match us,hl with
 | [a,b,c,d,e,f],_=>h a b c d e f
theorem zd {K:W.Frag} {aR:Addr} {od:Option Addr} {sl:Array (Option Value)} {t1 t2:Tok} {m:Nat} (l:K.lookup aR=some ⟨.type "tuple",od,.seq #[.str "own" t1,.str "part" t2] m,sl⟩): ∀ H,SqT K H aR [.str "own",.str "part"]:=
 λH=>.inr ⟨_,_,_,l,rfl,rfl,(show 2<=sizeLine by decide),.cons ⟨_,rfl⟩ (.cons ⟨_,rfl⟩ .nil)⟩
structure Df (K:W.Frag) (nm:Str) (st:Stmt) (f:Addr) (fd:FuncData):Prop where
 a:W.nsIn K mainGlobals nm=some (some (.ref f))
 k:W.keepIn K (.ref f)=true
 F:Fun K nm nm st f fd
theorem Df.m {K:W.Frag} {nm:Str} {st:Stmt} {f:Addr} {fd:FuncData} {h:Heap} {mg:Str->Option Value} (d:Df K nm st f fd) (X:K.In h) (G:h.Ns mainGlobals mg):mg nm=some (.ref f):=Ei X G d.a
theorem Df.of {K:W.Frag} {nm:Str} {st:Stmt} {f:Addr} {oc:Value} {od an:Option Addr} {osl:Array (Option Value)} {kV doc pm cdv ct:Value} (a:W.nsIn K mainGlobals nm=some (some (.ref f))) (k:W.keepIn K (.ref f)=true)
  (l:K.lookup f=some ⟨oc,od,.func (W.fnOf nm nm (iq st) (aO st) (ah st) .none kV doc pm an cdv ct),osl⟩) (c:W.codeIn K cdv nm=true):Df K nm st f (W.fnOf nm nm (iq st) (aO st) (ah st) .none kV doc pm an cdv ct):=
 ⟨a,k,⟨⟨oc,od,kV,doc,pm,an,cdv,ct,osl,rfl,l,c⟩,k⟩⟩
theorem Df.n {K:W.Frag} {nm:Str} {st:Stmt} {f:Addr} {fd:FuncData} {h:Heap} {mg:Str->Option Value} (d:Df K nm st f fd) (X:K.In h) (G:h.Ns mainGlobals mg) (ps:List Str)
  (e: ∀ (kV doc pm:Value) (an:Option Addr) (cdv ct:Value) (us:List Value),us.length=ps.length->bindArgs (W.fnOf nm nm (iq st) (aO st) (ah st) .none kV doc pm an cdv ct) ⟨us,[]⟩=pure (ps.zip us)):Binds K fd ps []/\mg nm=some (.ref f):=⟨d.F.binds e,d.m X G⟩
theorem all_mk {l:W.OpenLaw} {w:World} {K:W.Frag} {h:Heap} {mg:Str->Option Value} {fa aD aR C CB fT D0 D1 D2 D3 D4 D5 D6 D7 D8 D9 D10 D11 D12 D13 D14 D15 D16 f1 f2 f3 f4 f5 f6 f7 f8 f9 f10 f11 f12 f13 f14 f15 f16 f17 f18 f19 f20 f21 f22 f23 f24 f25 f26 f27 f28 f29 f30 f31 f32 f33 f34 f35 f36 f37 f38 f39 f40 f41 f42 f43 f44 f45 f46 f47 f48 f49 f50 f51 f52 f53 f54 f55 f56 f57 f58 f59:Addr} {rT r1 r2 r3 r4 r5 r6 r7 r8 r9 r10 r11 r12 r13 r14 r15 r16 r17 r18 r19 r20 r21 r22 r23 r24 r25 r26 r27 r28 r29 r30 r31 r32 r33 r34 r35 r36 r37 r38 r39 r40 r41 r42 r43 r44 r45 r46 r47 r48 r49 r50 r51 r52 r53 r54 r55 r56 r57 r58 r59:FuncData} (X:K.In h) (G:h.Ns mainGlobals mg) (hfa:mg "law"=some (.ref fa))
  {odR:Option Addr} {slR:Array (Option Value)} {w1 w2 t1 t2 t3 t4 t5 t6 u1 u2 u3 u4 u5 u6 q1 q2 q3 q4 q5 q6 q7 q8:Tok} {h1 h2 h3 h4 h5 h6:Int} {ep mR:Nat}
  (d1:Df K "is_whole" qP f1 r1)
  (d2:Df K "is_whole_within" nC f2 r2)
  (d3:Df K "is_word" sO f3 r3)
  (d4:Df K "is_formula" wG f4 r4)
  (d5:Df K "is_head" wF f5 r5)
  (d6:Df K "inner_of" qW f6 r6)
  (d7:Df K "tuples_of" nF f7 r7)
  (d8:Df K "readings_of" qS f8 r8)
  (d9:Df K "why_no_book" wx f9 r9)
  (d10:Df K "need_book" wD f10 r10)
  (d11:Df K "wheel_of" iR f11 r11)
  (d12:Df K "sorts_of" iS f12 r12)
  (d13:Df K "forms_of" iW f13 r13)
  (d14:Df K "sort_named" fS f14 r14)
  (d15:Df K "downs_of" qX f15 r15)
  (d16:Df K "ups_of" A2 f16 r16)
  (d17:Df K "worths_of_sort" jC f17 r17)
  (d18:Df K "sort_of_form" eV f18 r18)
  (d19:Df K "parts_of" iV f19 r19)
  (d20:Df K "rules_of" iU f20 r20)
  (d21:Df K "keys_of" kj f21 r21)
  (d22:Df K "key_of" qU f22 r22)
  (d23:Df K "sort_at" nG f23 r23)
  (d24:Df K "formulas_by_key" qZ f24 r24)
  (d25:Df K "due_keys" gK f25 r25)
  (d26:Df K "has_shape" fq f26 r26)
  (d27:Df K "is_row" qV f27 r27)
  (d28:Df K "is_row_of_words" ic f28 r28)
  (d29:Df K "is_wheel" kL f29 r29)
  (d30:Df K "has_sort_shape" iB f30 r30)
  (d31:Df K "has_form_shape" fU f31 r31)
  (d32:Df K "has_rule_shape" iC f32 r32)
  (d33:Df K "has_names" dy f33 r33)
  (d34:Df K "are_unlike" nE f34 r34)
  (d35:Df K "has_formulas" ig f35 r35)
  (d36:Df K "is_told" nJ f36 r36)
  (d37:Df K "_law_cell_at" wH f37 r37)
  (d38:Df K "_law_tape" wA f38 r38)
  (d39:Df K "_law_digit" qY f39 r39)
  (d40:Df K "_law_names" gJ f40 r40)
  (d41:Df K "_law_number" nH f41 r41)
  (d42:Df K "_law_leaf" wE f42 r42)
  (d43:Df K "_law_formula" fz f43 r43)
  (d44:Df K "_law_sorts" qR f44 r44)
  (d45:Df K "_law_targets" gI f45 r45)
  (d46:Df K "_law_readings" eI f46 r46)
  (d47:Df K "_law_form" qT f47 r47)
  (d48:Df K "_law_book" gy f48 r48)
  (d49:Df K "_law_same" wB f49 r49)
  (d50:Df K "_law_bad" sP f50 r50)
  (d51:Df K "_law_swapped" kK f51 r51)
  (d52:Df K "_law_sort_bad" iT f52 r52)
  (d53:Df K "_law_form_bad" iX f53 r53)
  (d54:Df K "_law_shape" ki f54 r54)
  (d55:Df K "_law_names_bad" ie f55 r55)
  (d56:Df K "_law_rules_bad" ib f56 r56)
  (d57:Df K "_law_formula_bad" cD f57 r57)
  (d58:Df K "_law_right" nI f58 r58)
  (d59:Df K "law" bS f59 r59)
  (z1:W.nsIn K mainGlobals "isinstance"=some none)
  (z2:W.nsIn K mainGlobals "int"=some none)
  (z3:W.nsIn K mainGlobals "bool"=some none)
  (z4:W.nsIn K mainGlobals "str"=some none)
  (z5:W.nsIn K mainGlobals "tuple"=some none)
  (z6:W.nsIn K mainGlobals "len"=some none)
  (z7:W.nsIn K mainGlobals "all"=some none)
  (z8:W.nsIn K mainGlobals "range"=some none)
  (z9:W.nsIn K mainGlobals "max"=some none)
  (z10:W.nsIn K mainGlobals "min"=some none)
  (z11:W.nsIn K mainGlobals "list"=some none)
  (z12:W.nsIn K mainGlobals "set"=some none)
  (z13:W.nsIn K mainGlobals "enumerate"=some none)
  (z14:W.nsIn K mainGlobals "ValueError"=some none)
  (i1:W.nsIn K mainGlobals "MOST_LETTERS"=some (some (.int 8 q1)))
  (i2:W.nsIn K mainGlobals "MOST_TUPLES"=some (some (.int 15 q2)))
  (i3:W.nsIn K mainGlobals "MOST_NUM"=some (some (.int 999999 q3)))
  (i4:W.nsIn K mainGlobals "MOST_PART"=some (some (.int 2 q4)))
  (i5:W.nsIn K mainGlobals "MOST_SORTS"=some (some (.int 4 q5)))
  (i6:W.nsIn K mainGlobals "MOST_WORTHS"=some (some (.int 3 q6)))
  (i7:W.nsIn K mainGlobals "MOST_FORMS"=some (some (.int 10 q7)))
  (i8:W.nsIn K mainGlobals "MOST_PARTS"=some (some (.int 3 q8)))
  (aI:W.nsIn K mainGlobals "INNER_COUNTS"=some (some (.ref aD)))
  (lD:K.lookup aD=some ⟨.type "dict",none,.dict #[⟨h1,.str "plus" t1,.int 2 u1⟩,⟨h2,.str "less" t2,.int 2 u2⟩,⟨h3,.str "times" t3,.int 2 u3⟩,⟨h4,.str "least" t4,.int 2 u4⟩,⟨h5,.str "most" t5,.int 2 u5⟩,⟨h6,.str "when" t6,.int 3 u6⟩] ep,#[]⟩)
  (e1:h1=hashStr w "plus")    (e2:h2=hashStr w "less")    (e3:h3=hashStr w "times")    (e4:h4=hashStr w "least")    (e5:h5=hashStr w "most")    (e6:h6=hashStr w "when")
  (nD:(aD==sysModules)=false)
  (aC:W.nsIn K mainGlobals "NoBook"=some (some (.ref C))) (aB:W.nsIn K mainGlobals "BoughError"=some (some (.ref CB)))
  (c0:W.nsIn K mainGlobals "NoBuild"=some (some (.ref D0)))
  (c1:W.nsIn K mainGlobals "NoChange"=some (some (.ref D1)))
  (c2:W.nsIn K mainGlobals "NoFit"=some (some (.ref D2)))
  (c3:W.nsIn K mainGlobals "NoGiven"=some (some (.ref D3)))
  (c4:W.nsIn K mainGlobals "NoName"=some (some (.ref D4)))
  (c5:W.nsIn K mainGlobals "NoPlace"=some (some (.ref D5)))
  (c6:W.nsIn K mainGlobals "NoPlain"=some (some (.ref D6)))
  (c7:W.nsIn K mainGlobals "NoPrice"=some (some (.ref D7)))
  (c8:W.nsIn K mainGlobals "NoRow"=some (some (.ref D8)))
  (c9:W.nsIn K mainGlobals "NoSpot"=some (some (.ref D9)))
  (c10:W.nsIn K mainGlobals "NoText"=some (some (.ref D10)))
  (c11:W.nsIn K mainGlobals "NoTree"=some (some (.ref D11)))
  (c12:W.nsIn K mainGlobals "NoWorth"=some (some (.ref D12)))
  (c13:W.nsIn K mainGlobals "Ring"=some (some (.ref D13)))
  (c14:W.nsIn K mainGlobals "Tangled"=some (some (.ref D14)))
  (c15:W.nsIn K mainGlobals "TooGreat"=some (some (.ref D15)))
  (c16:W.nsIn K mainGlobals "TooMany"=some (some (.ref D16)))
  (t0:W.findIn K (.ref C) "__init__"=some (some (.ref fT))) (t1:Fun K "__init__" "NoBook.__init__" qQ fT rT) (t2:ll K C fT [.type "ValueError",.type "Exception",.type "BaseException",.type "object"] "ValueError.__new__"=true) (t3:W.typeIn K (.ref fT)=some (.type "function")) (t4:W.keepIn K (.ref C)=true)
  (t5:W.typeIn K (.ref C)=some (.type "type")) (t6:W.findIn K (.ref C) "__setattr__"=some (some (.builtin "object.__setattr__"))) (t7:(W.clsIn K C).any (λcd=>l9 cd.mro)=true) (t8:W.findIn K (.ref C) "fault"=some none) (t9:W.hasDictIn K C=true)
  (t10:W.specialIn K (.ref CB) "__getattribute__"=some (some (.builtin "type.__getattribute__"))) (t11:W.readsIn K CB (.type "type")=true) (t12:W.findCls K (.ref CB) (.type "type") "__init__"=some (.val (.builtin "ValueError.__init__")))
  (x2:W.findIn K (.ref C) "__getattribute__"=some (some (.builtin "BaseException.__getattribute__"))) (x3:W.findIn K (.ref C) "__getattr__"=some none) (x4:W.findIn K (.ref C) "__class__"=some (some (.builtin "object.__class__")))
  (x7:W.mroIn K C (.type "object")=some true) (x8:W.mroIn K C (.type "BaseException")=some true) (x9:W.mroIn K C (.ref CB)=some true)
  (x12:W.kitAny K (.ref C) [.ref D0,.ref D1,.ref D2,.ref D3,.ref D4,.ref D5,.ref D6,.ref D7,.ref D8,.ref D9,.ref D10,.ref D11,.ref D12,.ref D13,.ref D14,.ref D15,.ref D16]=some false) (x13:W.kitOne K (.ref C) (.type "ValueError")=some true)
  (x5:W.specialIn K (.builtin "object.__class__") "__get__"=some (some (.builtin "getset_descriptor.__get__"))) (x6:W.takesIn K (.builtin "object.__class__")=some true) (x10:W.mroIn K CB (.type "BaseException")=some true) (x11:W.typeIn K (.ref CB)=some (.type "type"))
  (aQ:W.nsIn K mainGlobals "READINGS"=some (some (.ref aR))) (lR:K.lookup aR=some ⟨.type "tuple",odR,.seq #[.str "own" w1,.str "part" w2] mR,slR⟩):
  ∃ fd:FuncData,(∀ (s:Shared) (v:Value),BindsTo s fd ⟨[v],[]⟩ [("script",v)])/\ ∀ base:Heap,K.In base->base.Ns mainGlobals mg->aX l.prog w K mg base CX0 10 fa fd ["script"] (oW K):=by
 have e:=hfa.symm.trans (d59.m X G);cases e;have ⟨b1,m1⟩:=d1.n X G ["thing"] λ_ _ _ _ _ _=>bi1 λ_=>rfl;have ⟨b2,m2⟩:=d2.n X G ["thing","lowest","highest"] λ_ _ _ _ _ _=>bi3 λ_ _ _=>rfl;have ⟨b3,m3⟩:=d3.n X G ["thing"] λ_ _ _ _ _ _=>bi1 λ_=>rfl;have ⟨b4,m4⟩:=d4.n X G ["thing"] λ_ _ _ _ _ _=>bi1 λ_=>rfl;have ⟨b5,m5⟩:=d5.n X G ["thing"] λ_ _ _ _ _ _=>bi1 λ_=>rfl;have ⟨b6,m6⟩:=d6.n X G ["formula"] λ_ _ _ _ _ _=>bi1 λ_=>rfl;have ⟨b7,m7⟩:=d7.n X G ["formula"] λ_ _ _ _ _ _=>bi1 λ_=>rfl;have ⟨b8,m8⟩:=d8.n X G ["formula"] λ_ _ _ _ _ _=>bi1 λ_=>rfl;have ⟨b9,m9⟩:=d9.n X G ["thing"] λ_ _ _ _ _ _=>bi1 λ_=>rfl;have ⟨b10,m10⟩:=d10.n X G ["thing"] λ_ _ _ _ _ _=>bi1 λ_=>rfl;have ⟨b11,m11⟩:=d11.n X G ["book"] λ_ _ _ _ _ _=>bi1 λ_=>rfl;have ⟨b12,m12⟩:=d12.n X G ["book"] λ_ _ _ _ _ _=>bi1 λ_=>rfl;have ⟨b13,m13⟩:=d13.n X G ["book"] λ_ _ _ _ _ _=>bi1 λ_=>rfl;have ⟨b14,m14⟩:=d14.n X G ["book","name"] λ_ _ _ _ _ _=>bi2 λ_ _=>rfl;have ⟨b15,m15⟩:=d15.n X G ["book","sort"] λ_ _ _ _ _ _=>bi2 λ_ _=>rfl;have ⟨b16,m16⟩:=d16.n X G ["book","sort"] λ_ _ _ _ _ _=>bi2 λ_ _=>rfl;have ⟨b17,m17⟩:=d17.n X G ["book","sort"] λ_ _ _ _ _ _=>bi2 λ_ _=>rfl;have ⟨b18,m18⟩:=d18.n X G ["form"] λ_ _ _ _ _ _=>bi1 λ_=>rfl;have ⟨b19,m19⟩:=d19.n X G ["form"] λ_ _ _ _ _ _=>bi1 λ_=>rfl;have ⟨b20,m20⟩:=d20.n X G ["form"] λ_ _ _ _ _ _=>bi1 λ_=>rfl;have ⟨b21,m21⟩:=d21.n X G ["form"] λ_ _ _ _ _ _=>bi1 λ_=>rfl;have ⟨b22,m22⟩:=d22.n X G ["reading"] λ_ _ _ _ _ _=>bi1 λ_=>rfl;have ⟨b23,m23⟩:=d23.n X G ["form","at"] λ_ _ _ _ _ _=>bi2 λ_ _=>rfl;have ⟨b24,m24⟩:=d24.n X G ["form"] λ_ _ _ _ _ _=>bi1 λ_=>rfl;have ⟨b25,m25⟩:=d25.n X G ["book","form"] λ_ _ _ _ _ _=>bi2 λ_ _=>rfl;have ⟨b26,m26⟩:=d26.n X G ["thing"] λ_ _ _ _ _ _=>bi1 λ_=>rfl;have ⟨b27,m27⟩:=d27.n X G ["thing","fewest","most"] λ_ _ _ _ _ _=>bi3 λ_ _ _=>rfl;have ⟨b28,m28⟩:=d28.n X G ["thing","most"] λ_ _ _ _ _ _=>bi2 λ_ _=>rfl;have ⟨b29,m29⟩:=d29.n X G ["thing"] λ_ _ _ _ _ _=>bi1 λ_=>rfl;have ⟨b30,m30⟩:=d30.n X G ["thing"] λ_ _ _ _ _ _=>bi1 λ_=>rfl;have ⟨b31,m31⟩:=d31.n X G ["thing"] λ_ _ _ _ _ _=>bi1 λ_=>rfl;have ⟨b32,m32⟩:=d32.n X G ["thing"] λ_ _ _ _ _ _=>bi1 λ_=>rfl;have ⟨b33,m33⟩:=d33.n X G ["book"] λ_ _ _ _ _ _=>bi1 λ_=>rfl;have ⟨b34,m34⟩:=d34.n X G ["words"] λ_ _ _ _ _ _=>bi1 λ_=>rfl;have ⟨b35,m35⟩:=d35.n X G ["book","form"] λ_ _ _ _ _ _=>bi2 λ_ _=>rfl;have ⟨b36,m36⟩:=d36.n X G ["book","form","reading"] λ_ _ _ _ _ _=>bi3 λ_ _ _=>rfl;have ⟨b37,m37⟩:=d37.n X G ["script","k"] λ_ _ _ _ _ _=>bi2 λ_ _=>rfl;have ⟨b38,m38⟩:=d38.n X G ["script","k"] λ_ _ _ _ _ _=>bi2 λ_ _=>rfl;have ⟨b39,m39⟩:=d39.n X G ["tape","many"] λ_ _ _ _ _ _=>bi2 λ_ _=>rfl;have ⟨b40,m40⟩:=d40.n X G ["tape","many"] λ_ _ _ _ _ _=>bi2 λ_ _=>rfl;have ⟨b41,m41⟩:=d41.n X G ["tape"] λ_ _ _ _ _ _=>bi1 λ_=>rfl;have ⟨b42,m42⟩:=d42.n X G ["tape","readings"] λ_ _ _ _ _ _=>bi2 λ_ _=>rfl;have ⟨b43,m43⟩:=d43.n X G ["tape","readings"] λ_ _ _ _ _ _=>bi2 λ_ _=>rfl;have ⟨b44,m44⟩:=d44.n X G ["tape","few"] λ_ _ _ _ _ _=>bi2 λ_ _=>rfl;have ⟨b45,m45⟩:=d45.n X G ["sorts","own","parts"] λ_ _ _ _ _ _=>bi3 λ_ _ _=>rfl;have ⟨b46,m46⟩:=d46.n X G ["sorts","own","parts","mode","j"] λ_ _ _ _ _ _=>bi5 λ_ _ _ _ _=>rfl;have ⟨b47,m47⟩:=d47.n X G ["tape","sorts","name","own","parts","mode"] λ_ _ _ _ _ _=>bi6 λ_ _ _ _ _ _=>rfl;have ⟨b48,m48⟩:=d48.n X G ["script","start","few"] λ_ _ _ _ _ _=>bi3 λ_ _ _=>rfl;have ⟨b49,m49⟩:=d49.n X G ["found","due"] λ_ _ _ _ _ _=>bi2 λ_ _=>rfl;have ⟨b50,m50⟩:=d50.n X G ["tape"] λ_ _ _ _ _ _=>bi1 λ_=>rfl;have ⟨b51,m51⟩:=d51.n X G ["things","k","thing"] λ_ _ _ _ _ _=>bi3 λ_ _ _=>rfl;have ⟨b52,m52⟩:=d52.n X G ["tape","sort"] λ_ _ _ _ _ _=>bi2 λ_ _=>rfl;have ⟨b53,m53⟩:=d53.n X G ["tape","form"] λ_ _ _ _ _ _=>bi2 λ_ _=>rfl;have ⟨b54,m54⟩:=d54.n X G ["tape","book"] λ_ _ _ _ _ _=>bi2 λ_ _=>rfl;have ⟨b55,m55⟩:=d55.n X G ["tape","book"] λ_ _ _ _ _ _=>bi2 λ_ _=>rfl;have ⟨b56,m56⟩:=d56.n X G ["tape","book"] λ_ _ _ _ _ _=>bi2 λ_ _=>rfl;have ⟨b57,m57⟩:=d57.n X G ["tape","book"] λ_ _ _ _ _ _=>bi2 λ_ _=>rfl;have ⟨b58,m58⟩:=d58.n X G ["thing","due"] λ_ _ _ _ _ _=>bi2 λ_ _=>rfl;have Gb0:Gb mg:=⟨ED X G z1,ED X G z2,ED X G z3,ED X G z4,ED X G z5,ED X G z6,ED X G z7,ED X G z8,ED X G z9,ED X G z10⟩;have D:vG l.prog w K aD jh:=Ai lD e1 e2 e3 e4 e5 e6 nD;have mI:=Ei X G aI;have mQ:=Ei X G aQ;have hR:=zd lR;have v11:=ED X G z11;have v12:=ED X G z12;have v13:=ED X G z13;have v14:=ED X G z14;have j1:=Ei X G i1;have j2:=Ei X G i2;have j3:=Ei X G i3;have j4:=Ei X G i4;have j5:=Ei X G i5;have j6:=Ei X G i6;have j7:=Ei X G i7;have j8:=Ei X G i8;have mC:=Ei X G aC;have mCB:=Ei X G aB;have bT:=t1.binds (ps:=["self","fault"]) λ_ _ _ _ _ _=>bi2 λ_ _=>rfl;have Z:yL K C "fault":=⟨t6,t7,t8,t9⟩;have self1: ∀ a,W.kitOne K (.ref a) (.ref a)=some true:=λa=>by unfold W.kitOne;rw [Ea (Iu _)]
 have cl:CU K mg C CB D0 D1 D2 D3 D4 D5 D6 D7 D8 D9 D10 D11 D12 D13 D14 D15 D16:=⟨Ei X G c0,Ei X G c1,Ei X G c2,Ei X G c3,Ei X G c4,Ei X G c5,Ei X G c6,Ei X G c7,Ei X G c8,Ei X G c9,Ei X G c10,Ei X G c11,Ei X G c12,Ei X G c13,Ei X G c14,Ei X G c15,Ei X G c16,mC,mCB,v14,⟨x2,x3,x4,x5,x6,x7,x8,kY x7⟩,⟨x9,x10,x11,kY x10⟩,x12,self1 C,x13,Z⟩;have F59:=d59.F;obtain ⟨_,_,kV,dc,pm,an,cd,ct,_,rfl,_,_⟩:=d59.F.ex;refine ⟨W.fnOf "law" "law" (iq bS) (aO bS) (ah bS) .none kV dc pm an cd ct,λs v=>.of_eq rfl,λbase _ _=>?_⟩;have g_whole:=xk (P:=l.prog) (w:=w) (mg:=mg) (base:=base) d1.F Gb0;have g_within:=uK d2.F ⟨g_whole,b1,d1.k,m1⟩;have g_word:=zA (P:=l.prog) (w:=w) (mg:=mg) (base:=base) d3.F Gb0 j1;have g_head:=zE d5.F Gb0 mI D j3 j4 ⟨g_within,b2,d2.k,m2⟩ ⟨g_word,b3,d3.k,m3⟩;have g_inner:=xy (base:=base) d6.F mI D;have g_form:=zF d4.F j2 ⟨g_head,b5,d5.k,m5⟩ ⟨g_inner,b6,d6.k,m6⟩;have g_tuples:=uM d7.F ⟨g_inner,b6,d6.k,m6⟩;have g_reads:=xq d8.F v11 mQ hR ⟨g_tuples,b7,d7.k,m7⟩;have g_wheelOf:=rn (P:=l.prog) (w:=w) (mg:=mg) (base:=base) d11.F;have g_sortsOf:=rB (P:=l.prog) (w:=w) (mg:=mg) (base:=base) d12.F;have g_forms:=rG (P:=l.prog) (w:=w) (mg:=mg) (base:=base) d13.F;have g_sortN:=nZ d14.F ⟨g_sortsOf,b12,d12.k,m12⟩;have g_downs:=xz d15.F ⟨g_sortN,b14,d14.k,m14⟩;have g_ups:=Be d16.F ⟨g_sortN,b14,d14.k,m14⟩;have g_worths:=pH d17.F ⟨g_downs,b15,d15.k,m15⟩ ⟨g_ups,b16,d16.k,m16⟩;have g_sortf:=lL (P:=l.prog) (w:=w) (mg:=mg) (base:=base) d18.F;have g_parts:=rE (P:=l.prog) (w:=w) (mg:=mg) (base:=base) d19.F;have g_rules:=rD (P:=l.prog) (w:=w) (mg:=mg) (base:=base) d20.F;have g_keys:=uR d21.F ⟨g_rules,b20,d20.k,m20⟩;have g_keyOf:=xw (P:=l.prog) (w:=w) (mg:=mg) (base:=base) d22.F;have g_sortAt:=uN d23.F ⟨g_sortf,b18,d18.k,m18⟩ ⟨g_parts,b19,d19.k,m19⟩;have g_byKey:=uT d24.F ⟨g_rules,b20,d20.k,m20⟩;have g_due:=rJ d25.F v13 ⟨g_downs,b15,d15.k,m15⟩ ⟨g_ups,b16,d16.k,m16⟩ ⟨g_sortf,b18,d18.k,m18⟩ ⟨g_parts,b19,d19.k,m19⟩;have g_row:=xx (P:=l.prog) (w:=w) (mg:=mg) (base:=base) d27.F Gb0;have g_rowW:=pJ d28.F Gb0 ⟨g_row,b27,d27.k,m27⟩ ⟨g_word,b3,d3.k,m3⟩;have g_wheel:=rF d29.F ⟨g_within,b2,d2.k,m2⟩;have g_ruleS:=n0 d32.F ⟨g_row,b27,d27.k,m27⟩ ⟨g_word,b3,d3.k,m3⟩ ⟨g_whole,b1,d1.k,m1⟩;have g_sortS:=nY d30.F j6 ⟨g_row,b27,d27.k,m27⟩ ⟨g_word,b3,d3.k,m3⟩ ⟨g_rowW,b28,d28.k,m28⟩;have g_formS:=n5 d31.F Gb0 j8 ⟨g_row,b27,d27.k,m27⟩ ⟨g_word,b3,d3.k,m3⟩ ⟨g_rowW,b28,d28.k,m28⟩ ⟨g_sortf,b18,d18.k,m18⟩ ⟨g_parts,b19,d19.k,m19⟩ ⟨g_rules,b20,d20.k,m20⟩ ⟨g_ruleS,b32,d32.k,m32⟩;have g_shape:=pL d26.F Gb0 j5 j7 ⟨g_row,b27,d27.k,m27⟩ ⟨g_wheel,b29,d29.k,m29⟩ ⟨g_wheelOf,b11,d11.k,m11⟩ ⟨g_sortsOf,b12,d12.k,m12⟩ ⟨g_forms,b13,d13.k,m13⟩ ⟨g_sortS,b30,d30.k,m30⟩ ⟨g_formS,b31,d31.k,m31⟩;have g_unlike:=uL (P:=l.prog) (w:=w) (mg:=mg) (base:=base) d34.F Gb0 v12;have g_hasN:=pM d33.F Gb0 ⟨g_unlike,b34,d34.k,m34⟩ ⟨g_sortsOf,b12,d12.k,m12⟩ ⟨g_forms,b13,d13.k,m13⟩ ⟨g_sortf,b18,d18.k,m18⟩ ⟨g_parts,b19,d19.k,m19⟩;have g_told:=uS d36.F Gb0 ⟨g_keyOf,b22,d22.k,m22⟩ ⟨g_parts,b19,d19.k,m19⟩ ⟨g_sortAt,b23,d23.k,m23⟩ ⟨g_worths,b17,d17.k,m17⟩;have g_hasF:=pN d35.F Gb0 ⟨g_byKey,b24,d24.k,m24⟩ ⟨g_form,b4,d4.k,m4⟩ ⟨g_reads,b8,d8.k,m8⟩ ⟨g_told,b36,d36.k,m36⟩;have g_why:=Bd d9.F Gb0 ⟨g_shape,b26,d26.k,m26⟩ ⟨g_hasN,b33,d33.k,m33⟩ ⟨g_forms,b13,d13.k,m13⟩ ⟨g_keys,b21,d21.k,m21⟩ ⟨g_due,b25,d25.k,m25⟩ ⟨g_hasF,b35,d35.k,m35⟩ ⟨g_wheelOf,b11,d11.k,m11⟩;have g_tg:=(⟨mC,t2,t3,t4,xm (P:=l.prog) (w:=w) (mg:=mg) (base:=base) t1 mCB t2 t10 t11 t12 Z,bT,⟨x8,t5⟩⟩:TgC l.prog w K mg base C fT rT);have g_need:=zC d10.F g_tg ⟨g_why,b9,d9.k,m9⟩;have g_cell:=zG (P:=l.prog) (w:=w) (base:=base) d37.F Gb0;have g_tape:=zB d38.F ⟨g_cell,b37,d37.k,m37⟩;have g_digit:=xA (P:=l.prog) (w:=w) (mg:=mg) (base:=base) d39.F;have g_names:=uP d40.F Gb0 ⟨g_digit,b39,d39.k,m39⟩;have g_number:=uO d41.F ⟨g_digit,b39,d39.k,m39⟩;have g_leaf:=λρ=>xu (ρ:=ρ) d42.F Gb0 ⟨g_digit,b39,d39.k,m39⟩ ⟨g_number,b41,d41.k,m41⟩;have g_formula:=λρ=>pO (ρ:=ρ) d43.F Gb0 ⟨g_digit,b39,d39.k,m39⟩ ⟨(g_leaf ρ),b42,d42.k,m42⟩;have g_sorts:=xn d44.F Gb0 ⟨g_digit,b39,d39.k,m39⟩ ⟨g_names,b40,d40.k,m40⟩;have g_targets:=rq (P:=l.prog) (w:=w) (mg:=mg) (base:=base) d45.F Gb0;have g_lread:=n4 d46.F Gb0 ⟨g_targets,b45,d45.k,m45⟩;have g_lform:=xr d47.F Gb0 ⟨g_targets,b45,d45.k,m45⟩ ⟨g_lread,b46,d46.k,m46⟩ g_formula b43 d43.k m43;have g_book:=zH d48.F Gb0 ⟨g_digit,b39,d39.k,m39⟩ ⟨g_lform,b47,d47.k,m47⟩ ⟨g_tape,b38,d38.k,m38⟩ ⟨g_sorts,b44,d44.k,m44⟩ ⟨g_names,b40,d40.k,m40⟩;have g_same:=xo (P:=l.prog) (w:=w) (mg:=mg) (base:=base) d49.F Gb0 v11;have g_lbad:=zD d50.F ⟨g_digit,b39,d39.k,m39⟩;have g_swp:=rA (P:=l.prog) (w:=w) (mg:=mg) (base:=base) d51.F Gb0 v11;have g_srtB:=rC d52.F v11 ⟨g_digit,b39,d39.k,m39⟩ ⟨g_lbad,b50,d50.k,m50⟩;have g_frmB:=rH d53.F v11 ⟨g_digit,b39,d39.k,m39⟩ ⟨g_lbad,b50,d50.k,m50⟩;have g_lshape:=uQ d54.F Gb0 v11 ⟨g_digit,b39,d39.k,m39⟩ ⟨g_swp,b51,d51.k,m51⟩ ⟨g_srtB,b52,d52.k,m52⟩ ⟨g_frmB,b53,d53.k,m53⟩;have g_nmB:=pK d55.F Gb0 ⟨g_digit,b39,d39.k,m39⟩ ⟨g_swp,b51,d51.k,m51⟩;have g_ruB:=pI d56.F Gb0 ⟨g_digit,b39,d39.k,m39⟩ ⟨g_swp,b51,d51.k,m51⟩;have g_fmB:=lM d57.F Gb0 ⟨g_digit,b39,d39.k,m39⟩ ⟨g_swp,b51,d51.k,m51⟩;have g_right:=xp d58.F Gb0.isi cl ⟨g_need,b10,d10.k,m10⟩ ⟨g_why,b9,d9.k,m9⟩ ⟨g_same,b49,d49.k,m49⟩;exact Bf F59 Gb0 ⟨g_right,b58,d58.k,m58⟩ ⟨g_ruB,b56,d56.k,m56⟩ ⟨g_nmB,b55,d55.k,m55⟩ ⟨g_lshape,b54,d54.k,m54⟩ ⟨g_fmB,b57,d57.k,m57⟩ ⟨g_tape,b38,d38.k,m38⟩ ⟨g_digit,b39,d39.k,m39⟩ v11 ⟨g_book,b48,d48.k,m48⟩ ⟨g_why,b9,d9.k,m9⟩ ⟨g_need,b10,d10.k,m10⟩
theorem walk {l:W.OpenLaw} {q:Program} {loose:List Str} {XP:(Str->Option Value)->Heap->Prop} {YP:World->Heap->Prop} {d:DefRec} {K:Params->W.Frag} (hn:l.most=some 63) (hdf:d.params.defaults=[])
  (hY: ∀ (w:World) (h:Heap),YP w h->(K w.params).In h)
  (F: ∀ (w:World) (mg:Str->Option Value) (fa:Addr) (h:Heap),(K w.params).In h->h.Ns mainGlobals mg->mg d.name=some (.ref fa)->
   ∃ fd:FuncData,(∀ (s:Shared) (u:Value),BindsTo s fd ⟨[u],[]⟩ [("script",u)])/\ ∀ base:Heap,(K w.params).In base->base.Ns mainGlobals mg->aX l.prog w (K w.params) mg base CX0 10 fa fd ["script"] (oW (K w.params))):
  W.WalkO q loose XP YP l.row.toRowW d [] (λf vs=>PySem.call f vs):=
 L2.walk_of (n:=63) (k:=10) (x:="script") (CX:=λ_=>CX0) (sp:=λw=>oW (K w.params)) hn (by decide) hdf ⟨rfl,by decide,by decide⟩ hY F (λ_ _ a ns hl _ hS=>⟨a,ns,rfl,hS,hl,λ_=>rfl⟩) λ_ _ _ _ _ z=>z
end My
open PySem PySem.W PyProof.Rows
set_option maxRecDepth 100000 in
set_option maxHeartbeats 0 in
theorem PySem.Challenge.cw_boughworth_k09_why_it_is_no_book_holds : PySem.Challenge.rw_boughworth_k09_why_it_is_no_book.Holds := by
 refine My.parts.c My.parts.h0 My.parts.h1 ?_
 delta My.parts
 dsimp only
 k_fill
 refine My.walk (l:=PySem.Challenge.rw_boughworth_k09_why_it_is_no_book) rfl rfl (λw h Y=>W.kIn_of Y) ?F
 case F=>
  intro w mg fa h KX G hmg
  refine' My.all_mk KX G hmg ?_ ?_ ?_ ?_ ?_ ?_ ?_ ?_ ?_ ?_ ?_ ?_ ?_ ?_ ?_ ?_ ?_ ?_ ?_ ?_ ?_ ?_ ?_ ?_ ?_ ?_ ?_ ?_ ?_ ?_ ?_ ?_ ?_ ?_ ?_ ?_ ?_ ?_ ?_ ?_ ?_ ?_ ?_ ?_ ?_ ?_ ?_ ?_ ?_ ?_ ?_ ?_ ?_ ?_ ?_ ?_ ?_ ?_ ?_ ?_ ?_ ?_ ?_ ?_ ?_ ?_ ?_ ?_ ?_ ?_ ?_ ?_ ?_ ?_ ?_ ?_ ?_ ?_ ?_ ?_ ?_ ?_ ?_ ?_ ?_ ?_ ?_ ?_ ?_ ?_ ?_ ?_ ?_ ?_ ?_ ?_ ?_ ?_ ?_ ?_ ?_ ?_ ?_ ?_ ?_ ?_ ?_ ?_ ?_ ?_ ?_ ?_ ?_ ?_ ?_ ?_ ?_ ?_ ?_ ?_ ?_ ?_ ?_ ?_ ?_ ?_ ?_ ?_ ?_ ?_ ?_ ?_ ?_ ?_ ?_ ?_
  all_goals first
   | exact My.Df.of (by k_is) (by k_is) (by k_is) (by k_is)
   | k_is
   | kit_is
   | k_exc
   | exact ⟨⟨_,_,_,_,_,_,_,_,_,rfl,by k_is,by k_is⟩,by k_is⟩
   | kernel_rfl
   | skip
