import PyProof.Rows.All
import Wide.All
import OpenK.AllK
import Wide.FinOn
import Lean
import PyProof.EqAt
import PyProof.EqKinds
import PyProof.TupleCall
import PyProof.TupleKey
import PyProof.DictKeyH
import PyProof.SumWalk
import KE.KDictList
import PyProof.NeKinds
import PyProof.Draws
import PyProof.ZipIter
import PyProof.ListMulRoad
import KE.RegKIsAll
import OpenK.KOwn
import PyProof.EnumMake
import PyProof.Rows.StrNews
import PyProof.StrCalls6
import PyProof.ToksMono
import PyProof.StrLawsReplace
import PyProof.StrLawsJoin
import PyProof.Rows.StrSplitJoin
import PyProof.DictValues
import PyProof.DictWalks
import KE.KRevIter
import Flt.Sum
import PyProof.FitsBits
import PyProof.DictTable
import KE.KItemsList
import PyProof.DictItems
import KE.KPairComp
import PyProof.CollectWalk
import PySem.Challenge.RW_boughworth_k25_spots_of_a_tree
set_option Elab.async false
set_option linter.all false
set_option bootstrap.genMatcherCode false
set_option compiler.extract_closed false
set_option genSizeOfSpec false
set_option maxRecDepth 100000
set_option maxHeartbeats 4000000
namespace My
open PySem PySem.W PySem.Calls PyProof.Rows
theorem with_hl {P R Q : Prop} (hl : P) (hc : R) (main : Q) : Q := main
structure Parts (Q : Prop) : Type where
 {P1 : Prop}
 {P2 : Prop}
 {P3 : Prop}
 {P4 : Prop}
 {W : Prop}
 a0 : P1
 a1 : P2
 b0 : P3
 b1 : P4
 c : P1 -> P2 -> P3 -> P4 -> W -> Q
noncomputable def hO11 (_ : Params) : Obj := { cls := Value.type "tuple", data := Data.seq #[] }
noncomputable def hO12 (_ : Params) : Obj := { cls := Value.none, data := Data.fields #[] }
noncomputable def hO13 (_ : Params) : Obj := { cls := Value.type "code", data := Data.fields #[Value.str (Str.ofString "<module>") 182, Value.str (Str.ofString "<module>") 183, Value.str (Str.ofString "/claim/cut.py") 184, Value.int 1 0, Value.int 0 0, Value.int 0 0, Value.int 0 0, Value.int 0 0, Value.ref 11, Value.bool false, Value.int 181 0, Value.ref 12, Value.none, Value.none, Value.none, Value.none, Value.int 185 0, Value.int 1 0, Value.str (Str.ofString "/claim/cut.py") 186] }
noncomputable def hO14 (_ : Params) : Obj := { cls := Value.type "frame", slots := #[some (Value.ref 13), some (Value.ref 3), some (Value.ref 3), none, some (Value.str (Str.ofString "__main__") 164), none, some (Value.ref 0)] }
noncomputable def hTree (P : Params) : BT := (BT.node (boot_o_0 P) (BT.node (boot_o_1 P) (BT.node (boot_o_3 P) (BT.node (boot_o_7 P) BT.nil BT.nil) (BT.node (hO11 P) BT.nil BT.nil)) (BT.node (boot_o_5 P) (BT.node (boot_o_9 P) BT.nil BT.nil) (BT.node (hO13 P) BT.nil BT.nil))) (BT.node (boot_o_2 P) (BT.node (boot_o_4 P) (BT.node (boot_o_8 P) BT.nil BT.nil) (BT.node (hO12 P) BT.nil BT.nil)) (BT.node (boot_o_6 P) (BT.node (boot_o_10 P) BT.nil BT.nil) (BT.node (hO14 P) BT.nil BT.nil))))
noncomputable def hEnv (p : Program) : Env := { scope := p.main.scope, locals := mainNs, globals := mainNs, cells := [], code := .ref 13, frame := some 14 }
noncomputable abbrev hC (p : Program) : Code := .body (behindTheImports p) (hEnv p)
noncomputable def hSt (w : World) (os : OsState) : SharedT := ⟨hTree w.params, 15, {}, #[], {}, 187, os⟩
abbrev hPos : Pos := ⟨0, 0, 0, 0⟩
noncomputable abbrev hThr (p : Program) : Thread := piecesOf (behindTheImports p) (hEnv p) (hC p) hPos [topFrame hPos]
noncomputable abbrev hRun (p : Program) (n : Nat) (w : World) (os : OsState) : Option (Flow × SharedT × Code × Pos) := PySem.W.Fast.tw10110043849684766642 PySem.W.Fast.tw14364793385576792824 p w 11 (some (.ref 6)) 1 n (hSt w os) (hThr p)
theorem hFin {p : Program} {w : World} {n₀ : Nat} {ann : Option Value} (s : Shared) (c : Code) (pos : Pos) : topRun treeTable p w n₀ ann 2 s ⟨doneF .next, c, pos, [topFrame hPos]⟩ = some s := by
 obtain ⟨h, g, d, t, o⟩ := s
 kernel_rfl
theorem hSize (P : Params) : ((boot_heap P).isNs mainGlobals && (#[] : Array GenState).size == 0, (boot_heap P).objs.size, (boot_heap P).nsMap mainGlobals "__annotations__") = (true, 11, some (.ref 6)) := by kernel_rfl
theorem left_of {p q : Program} {loose : List Str} {Xt : Shared -> Bool} {α : Type} {Yf : Shared -> α} {Ya : World -> α} {N n : Nat} {g0 : Bool} {posE : Pos}
  (e : opening p = plainProg p.main.scope.names) (hN : Nat.ble 600 N = true) (f : ∀ s, fenceModules? p s = some s) (le : Nat.ble (12 + (1 + (n + 2))) N = true)
  (pre : ∀ (w : World) (os : OsState), topGo treeTable p w 11 (some (.ref 6)) 12 ⟨boot_heap w.params, #[], boot_drawn, boot_toks, os⟩ (topStub p) = some ((hSt w os).abs, ⟨denote treeTable (hC p), hC p, hPos, [topFrame hPos]⟩))
  (block : ∀ (w : World) (os : OsState), segRun treeTable p w 11 (some (.ref 6)) 1 1 (hSt w os).abs (blockOf (behindTheImports p) (hEnv p) (hC p) hPos [topFrame hPos]) = some (.next, (hSt w os).abs, hC p, hPos))
  (runA : ∀ (w : World) (os : OsState), (hRun p n w os).map (fun r => (r.1, r.2.2, (staticsOk (importedModules p.main.body) (boot_heap w.params) r.2.1.abs.heap && namesBound p r.2.1.abs.heap && gensDone r.2.1.abs && laidKept (boot_heap w.params) r.2.1.abs.heap), openSeen q loose (importedModules p.main.body) Xt g0 r.2.1.abs)) = some (.next, (hC p, posE), true, openGood q loose))
  (runB : ∀ (w : World) (os : OsState), (hRun p n w os).map (fun r => Yf r.2.1.abs) = some (Ya w)) : LeftO p q loose Xt Yf Ya N g0 := by
 intro w
 obtain ⟨⟨h, gs, d, k, os⟩, e1, e'⟩ := Option.map_eq_some_iff.mp (boot_open e hN f w)
 obtain ⟨rfl, rfl, rfl, rfl⟩ : h = boot_heap w.params /\ gs = #[] /\ d = boot_drawn /\ k = boot_toks := by simpa using e'
 obtain ⟨z1, z2, z3⟩ : _ /\ _ /\ _ := by simpa only [Prod.mk.injEq] using hSize w.params
 have E : segRunT treeTable p w 11 (some (.ref 6)) 1 n (hSt w os) (hThr p) = hRun p n w os := by
  unfold hRun
  rw [<- PySem.W.Fast.te10110043849684766642, <- PySem.W.Fast.te14364793385576792824]
 have A := runA w os
 have B := runB w os
 obtain ⟨⟨fl, x, c, pos⟩, r1, r2⟩ := Option.map_eq_some_iff.mp A
 simp only [Prod.mk.injEq] at r2
 obtain ⟨rfl, ⟨rfl, rfl⟩, l1, l2⟩ := r2
 have yb : Yf x.abs = Ya w := by rw [r1] at B; exact Option.some.inj B
 have s1 := segRun_of (E.trans r1)
 have t1 := piece_app (rest := []) s1 (piece_nil (hFin x.abs _ _))
 rw [List.append_nil] at t1
 have t3 := go_top (pre w os) (piece_block (block w os) t1)
 have r := topRun_mono (N - (12 + (1 + (n + 2)))) _ _ _ _ t3
 rw [show 12 + (1 + (n + 2)) + (N - (12 + (1 + (n + 2)))) = N by have := Nat.le_of_ble_eq_true le; omega] at r
 have t : topFrom treeTable p w N ⟨boot_heap w.params, #[], boot_drawn, boot_toks, os⟩ = some x.abs := by
  unfold topFrom
  dsimp only
  rw [z1, z2, z3, r]
  show (match staticsOk _ _ _ && namesBound _ _ && gensDone _ && laidKept _ _ with | true => _ | false => _) = _
  rw [l1]
 unfold openEnds
 rw [e1]
 change Option.map _ (topFrom treeTable p w N _) = _
 rw [t]
 exact congrArg some (Prod.ext l2 yb)
end My
open PySem PySem.W PyProof.Rows in
set_option maxHeartbeats 0 in
noncomputable def My.parts : My.Parts PySem.Challenge.rw_boughworth_k25_spots_of_a_tree.Holds := by
 apply My.Parts.mk
 case c =>
  intro ha0 ha1 hb0 hb1 hW
  w_on; o_law
  apply My.with_hl
  case main =>
   k_head; (case hw => w_witness2)
  case hc => exact hW
  case hl =>
   refine My.left_of (n := 1400) (posE := ⟨275, 0, 286, 63⟩) ?e ?hN ?f ?le ?pre ?block (byRow2 "special-get-raises" ha0 ha1) (byRow2 "special-get-raises" hb0 hb1)
   case e => kernel_rfl
   case hN => decide
   case f => intro s; kernel_rfl
   case le => decide
   case pre => (intro w os; kernel_rfl)
   case block => (intro w os; kernel_rfl)
 case a0 => (intro w os; kernel_rfl)
 case a1 => (intro w os; kernel_rfl)
 case b0 => (intro w os; kernel_rfl)
 case b1 => (intro w os; kernel_rfl)
namespace PySem
section
variable {prog : Program} {w : World} {K K2 : Type} [DecidableEq K] [DecidableEq K2] {knd : KeyKind prog w K} {kn2 : KeyKind prog w K2}
noncomputable def IsPairKey (knd : KeyKind prog w K) (kn2 : KeyKind prog w K2) (h : Heap) (p : List K × K2) (a : Addr) : Prop :=
 ∃ o items n b v, h.get? a = some o /\ o.cls = .type "tuple" /\ o.data = .seq items n /\ items.toList = [.ref b, v] /\ IsTupleKey knd h p.1 b /\ kn2.is p.2 v = true
noncomputable def pairHash (knd : KeyKind prog w K) (kn2 : KeyKind prog w K2) (p : List K × K2) : Int := reduceHash (Builtin.Tuple.tupleHashOf [tupleKeyHash knd p.1, kn2.hash p.2])
variable {A : Around} {E : Value -> Shared -> Prop} {s : Shared}
theorem IsPairKey.typeIs {p : List K × K2} {a : Addr} (x : IsPairKey knd kn2 s.heap p a) : s.TypeIs (.ref a) "tuple" := by
 obtain ⟨o, _, _, _, _, e, c, _⟩ := x
 exact ⟨o, e, c⟩
theorem IsPairKey.inj {h : Heap} {p q : List K × K2} {a : Addr} (x : IsPairKey knd kn2 h p a) (y : IsPairKey knd kn2 h q a) : p = q := by
 obtain ⟨o, i, n, b, v, e, _, d, t, k, m⟩ := x
 obtain ⟨o', i', n', b', v', e', _, d', t', k', m'⟩ := y
 rw [e] at e'; cases e'
 rw [d] at d'; cases d'
 rw [t] at t'
 have h1 : b = b' /\ v = v' := by simpa using t'
 obtain ⟨rfl, rfl⟩ := h1
 exact Prod.ext (k.inj k') (kn2.inj _ _ _ m m')
theorem IsPairKey.keeps {h h' : Heap} {p : List K × K2} {a d : Addr} {o : Obj} {es ep} (x : IsPairKey knd kn2 h p a) (ho : h.get? d = some o) (hd : o.data = .dict es ep) (hs : Heap.SameBut d h h') : IsPairKey knd kn2 h' p a := by
 obtain ⟨o', i, n, b, v, e, c, dt, t, k, m⟩ := x
 refine ⟨o', i, n, b, v, ?_, c, dt, t, k.keeps ho hd hs, m⟩
 have ne : a ≠ d := fun z => by
  subst z
  rw [ho] at e; cases e
  rw [hd] at dt; cases dt
 rw [<- e]
 exact hs.2 a ne
theorem wpAny_pyHash_pair {p : List K × K2} {a : Addr} {Q : Int -> Shared -> Prop} (hu : A.units + 8 < cLine) (hk : IsPairKey knd kn2 s.heap p a) (h : Q (pairHash knd kn2 p) { s with toks := s.toks + (p.1.length + 1 + 1 + 1) }) :
  wpAny (model prog w) A (pyHash (.ref a)) Q E s := by
 have hT := hk.typeIs
 obtain ⟨o, items, n, b, v, ho, _, hd, hi, hb, hv⟩ := hk
 unfold pyHash
 first | unfold pyHashByItsType | skip
 first | refine wpAny_bind (wpAny_cRoomFor_or (.inr (by lia)) ?_) | skip
 refine wpAny_bind (wpAny_specialOf hT F.slot_tuple_hash.lookup ?_)
 show wpAny _ _ (if (some (Value.builtin "tuple.__hash__") == some Value.none) = true then _ else _) Q E s
 rw [if_neg (by rw [beq_builtin_none]; exact Bool.false_ne_true)]
 refine wpAny_bind (wpAny_specialOf hT F.slot_tuple_hash.lookup ?_)
 show wpAny _ _ (callSpecialIfBoundUnlessNone? (.ref a) "__hash__" _ >>= _) Q E s
 refine wpAny_bind (wpAny_callSpecialIfBoundUnlessNone?_slot hT F.slot_tuple_hash (wpAny_call_entry F.slot_tuple_hash hT F.entry_tuple_hash ?_ (F.args_tuple_hash_1 _)))
 show wpAny _ _ (Builtin.Tuple.tupleItemsOf (.ref a) >>= _) _ _ s
 refine wpAny_bind (wpAny_tupleItemsOf ho hd ?_)
 refine wpAny_bind ?_
 rw [<- Array.forIn_toList, hi, List.forIn_cons]
 refine wpAny_bind (wpAny_bind (wpAny_pyHash_tuple (by show _ < cLine; simp; lia) hb ?_))
 refine wpAny_pure ?_
 show wpAny _ _ (forIn [v] #[tupleKeyHash knd p.1] _) _ _ _
 rw [List.forIn_cons]
 refine wpAny_bind (wpAny_bind (kn2.pyHash hv ?_))
 refine wpAny_pure ?_
 show wpAny _ _ (forIn [] _ _) _ _ _
 rw [List.forIn_nil]
 refine wpAny_pure ?_
 show wpAny _ _ (retInt (Builtin.Tuple.tupleHashOf [tupleKeyHash knd p.1, kn2.hash p.2])) _ _ _
 refine wpAny_ret_mkInt ?_
 generalize hz : Builtin.Tuple.tupleHashOf [tupleKeyHash knd p.1, kn2.hash p.2] = z
 show wpAny _ _ (if (decide (-(2 : Int) ^ 63 <= z) && decide (z < 2 ^ 63)) = true then _ else _) Q E _
 unfold pairHash reduceHash at h
 rw [hz] at h
 by_cases hr : (decide (-(2 : Int) ^ 63 <= z) && decide (z < 2 ^ 63)) = true
 ·rw [if_pos hr]
  rw [if_pos hr] at h
  exact wpAny_pure (by simpa [Nat.add_assoc] using h)
 ·rw [if_neg hr]
  rw [if_neg hr] at h
  exact wpAny_bind (wpAny_rule (wpAny_pure (by simpa [Nat.add_assoc] using h)))
theorem quiet_tuple (m : Nat) {ks : List K} {a : Addr} {Q : Bool -> Shared -> Prop} (hk : IsTupleKey knd s.heap ks a) (h : Q true s) : wpAny (model prog w) A (eqIsQuiet (m + 1) (.ref a)) Q E s := by
 have hT := hk.typeIs
 obtain ⟨o, items, n, ho, _, hd, hi⟩ := hk
 unfold eqIsQuiet
 refine wpAny_bind (wpAny_specialOf hT F.slot_tuple_eq.lookup ?_)
 show wpAny _ _ (isInstance (.ref a) (.type "tuple") >>= _) _ _ s
 refine wpAny_bind (wpAny_isInstance hT isSubtype_tuple_tuple ?_)
 simp only [Bool.not_true, Bool.false_eq_true, if_false]
 refine wpAny_bind (wpAny_seqItems ho hd (wpAny_bind ?_))
 show wpAny _ _ (forIn items _ _) _ _ s
 rw [<- Array.forIn_toList]
 refine wpAny_forIn_list _ (fun rest r s' => r.1 = none /\ s' = s /\ ∀ v ∈ rest, carriedByValue v = true) _ ?_ ?_ _ _ ⟨rfl, rfl, hi.byValue⟩
 ·rintro v rest r s' ⟨hr, rfl, hall⟩
  rw [eqIsQuiet_byValue _ (hall v List.mem_cons_self)]
  refine wpAny_bind (wpAny_pure ?_)
  simp only [Bool.not_true, Bool.false_eq_true, if_false]
  exact wpAny_pure ⟨rfl, rfl, fun u hu' => hall u (List.mem_cons_of_mem _ hu')⟩
 ·rintro ⟨r1, r2⟩ s' ⟨hr, rfl, _⟩
  simp only at hr
  subst hr
  exact wpAny_pure h
theorem wpAny_eqIsQuiet_pair {p : List K × K2} {a : Addr} {Q : Bool -> Shared -> Prop} (hk : IsPairKey knd kn2 s.heap p a) (h : Q true s) : wpAny (model prog w) A (eqIsQuiet 8 (.ref a)) Q E s := by
 have hT := hk.typeIs
 obtain ⟨o, items, n, b, v, ho, _, hd, hi, hb, hv⟩ := hk
 unfold eqIsQuiet
 refine wpAny_bind (wpAny_specialOf hT F.slot_tuple_eq.lookup ?_)
 show wpAny _ _ (isInstance (.ref a) (.type "tuple") >>= _) _ _ s
 refine wpAny_bind (wpAny_isInstance hT isSubtype_tuple_tuple ?_)
 simp only [Bool.not_true, Bool.false_eq_true, if_false]
 refine wpAny_bind (wpAny_seqItems ho hd ?_)
 refine wpAny_bind ?_
 show wpAny _ _ (forIn items _ _) _ _ s
 rw [<- Array.forIn_toList, hi, List.forIn_cons]
 refine wpAny_bind (wpAny_bind (quiet_tuple 6 hb ?_))
 simp only [Bool.not_true, Bool.false_eq_true, if_false]
 refine wpAny_pure ?_
 show wpAny _ _ (forIn [v] (none, ()) _) _ _ _
 rw [List.forIn_cons, eqIsQuiet_byValue _ (kn2.byValue _ _ hv)]
 refine wpAny_bind (wpAny_bind (wpAny_pure ?_))
 simp only [Bool.not_true, Bool.false_eq_true, if_false]
 refine wpAny_pure ?_
 show wpAny _ _ (forIn [] _ _) _ _ _
 rw [List.forIn_nil]
 exact wpAny_pure (wpAny_pure h)
theorem pair_eq_tree {p q : List K × K2} {a b : Addr} {R : Fin -> Shared -> Prop} (hu : A.units + 4 < cLine) (hx : IsPairKey knd kn2 s.heap p a) (hy : IsPairKey knd kn2 s.heap q b) (h : R (.done (.ret (.bool (decide (p = q))))) s) :
  wpAny (model prog w) A (Builtin.«tuple.__eq__» ⟨[.ref a, .ref b], []⟩) R E s := by
 have hTb := hy.typeIs
 obtain ⟨oa, xs, na, a1, v1, hoa, _, hda, hia, hka, hva⟩ := hx
 obtain ⟨ob, ys, nb, b1, v2, hob, _, hdb, hib, hkb, hvb⟩ := hy
 show wpAny _ _ (isInstance (.ref b) (.type "tuple") >>= _) _ _ s
 refine wpAny_bind (wpAny_isInstance hTb isSubtype_tuple_tuple ?_)
 simp only [Bool.not_true, Bool.false_eq_true, if_false]
 refine wpAny_bind (wpAny_tupleItemsOf hoa hda (wpAny_bind (wpAny_tupleItemsOf hob hdb (wpAny_bind ?_))))
 have hs : xs.size = ys.size := by rw [<- Array.length_toList, <- Array.length_toList, hia, hib]; rfl
 rw [hia, hib]
 show wpAny _ _ (forIn [(Value.ref a1, Value.ref b1), (v1, v2)] (none, ()) _) _ _ _
 rw [List.forIn_cons]
 refine wpAny_bind (wpAny_bind (wpAny_eqBool_tuple (by lia) hka hkb ?_))
 by_cases h1 : p.1 = q.1
 ·rw [decide_eq_true h1]
  simp only [Bool.not_true, Bool.false_eq_true, if_false]
  refine wpAny_pure ?_
  show wpAny _ _ (forIn [(v1, v2)] (none, ()) _) _ _ _
  rw [List.forIn_cons]
  refine wpAny_bind (wpAny_bind (kn2.eqBool (a := p.2) (b := q.2) hva hvb ?_))
  by_cases h2 : p.2 = q.2
  ·rw [decide_eq_true h2]
   simp only [Bool.not_true, Bool.false_eq_true, if_false]
   refine wpAny_pure ?_
   show wpAny _ _ (forIn [] _ _) _ _ _
   rw [List.forIn_nil]
   rw [decide_eq_true (Prod.ext h1 h2)] at h
   refine wpAny_pure (wpAny_pure ?_)
   show R (.done (.ret (.bool (xs.size == ys.size)))) s
   rw [hs, beq_self_eq_true]
   exact h
  ·rw [decide_eq_false h2]
   simp only [Bool.not_false, if_true]
   rw [decide_eq_false fun e => h2 (congrArg Prod.snd e)] at h
   exact wpAny_bind (wpAny_pure (wpAny_pure (wpAny_pure (wpAny_pure h))))
 ·rw [decide_eq_false h1]
  simp only [Bool.not_false, if_true]
  rw [decide_eq_false fun e => h1 (congrArg Prod.fst e)] at h
  exact wpAny_bind (wpAny_pure (wpAny_pure (wpAny_pure (wpAny_pure h))))
theorem wpAny_eqBool_pair {p q : List K × K2} {a b : Addr} {Q : Bool -> Shared -> Prop} (hu : A.units + 8 < cLine) (hx : IsPairKey knd kn2 s.heap p a) (hy : IsPairKey knd kn2 s.heap q b) (h : Q (decide (p = q)) s) :
  wpAny (model prog w) A (eqBool (.ref a) (.ref b)) Q E s := by
 unfold eqBool
 try with_reducible refine wpAny_holding ?_
 show wpAny _ _ (if (Value.ref a == Value.ref b) = true then _ else _) Q E s
 by_cases hab : (Value.ref a == Value.ref b) = true
 ·rw [if_pos hab]
  have e : a = b := by have := eq_of_beq hab; injection this
  subst e
  obtain rfl := hx.inj hy
  exact wpAny_bind (wpAny_rule (wpAny_pure (by simpa using h)))
 ·rw [if_neg hab]
  exact wpAny_bind (wpAny_richCompare_same_room (op := .Eq) hx.typeIs hy.typeIs F.slot_tuple_eq
   (wpAny_call_entry F.slot_tuple_eq hx.typeIs F.entry_tuple_eq (pair_eq_tree (by simp; lia) hx hy ⟨_, rfl, (fun e => nomatch e), wpAny_truthy_bool h⟩) (F.args_tuple_eq_2 _ _)) (by lia))
end
noncomputable def pairKind {prog : Program} {w : World} {K K2 : Type} [DecidableEq K] [DecidableEq K2] (knd : KeyKind prog w K) (kn2 : KeyKind prog w K2) : HeapKind prog w (List K × K2) where
 is := IsPairKey knd kn2
 hash := pairHash knd kn2
 draws := fun p => p.1.length + 1 + 1 + 1
 room := fun A => A.units + 8 < cLine
 inj := fun hx hy => hx.inj hy
 keeps := fun x ho hd hs => x.keeps ho hd hs
 pyHash := fun hu hk h => wpAny_pyHash_pair hu hk h
 eqBool := fun hu hx hy h => wpAny_eqBool_pair hu hx hy h
 quiet := fun hk h => wpAny_eqIsQuiet_pair hk h
end PySem
namespace L2
open PySem PySem.Spec PyProof.Rows
noncomputable abbrev Key := Sum Int Str
noncomputable def keyIs : Key -> Value -> Bool
 | .inl k, v => Value.isInt k v
 | .inr x, v => Value.isStrOf x v
noncomputable def keyH (w : World) : Key -> Int
 | .inl k => hashInt k
 | .inr x => hashStr w x
theorem keyIs_shape : ∀ {k : Key} {v : Value}, keyIs k v = true -> (∃ i t, k = Sum.inl i /\ v = Value.int i t) \/ (∃ x t, k = Sum.inr x /\ v = Value.str x t)
 | .inl i, v, h => by
  obtain ⟨t, e⟩ := Value.isInt_shape (k := i) (v := v) h
  exact .inl ⟨i, t, rfl, e⟩
 | .inr x, v, h => by
  obtain ⟨t, e⟩ := Value.isStrOf_shape (x := x) (v := v) h
  exact .inr ⟨x, t, rfl, e⟩
theorem keyIs_int (i : Int) (t : Tok) : keyIs (.inl i) (.int i t) = true := by simp [keyIs, Value.isInt]
theorem keyIs_str (x : Str) (t : Tok) : keyIs (.inr x) (.str x t) = true := by simp [keyIs, Value.isStrOf]
theorem key_ll (a b : Int) : decide ((Sum.inl a : Key) = Sum.inl b) = (a == b) := by
 by_cases e : a = b
 ·subst e; simp
 ·have h : ¬ (Sum.inl a : Key) = Sum.inl b := fun q => e (Sum.inl.inj q)
  rw [decide_eq_false h]
  exact (beq_eq_false_iff_ne.mpr e).symm
theorem key_rr (a b : Str) : decide ((Sum.inr a : Key) = Sum.inr b) = decide (a = b) := by
 by_cases e : a = b
 ·subst e; simp
 ·have h : ¬ (Sum.inr a : Key) = Sum.inr b := fun q => e (Sum.inr.inj q)
  rw [decide_eq_false h, decide_eq_false e]
theorem key_lr (a : Int) (b : Str) : decide ((Sum.inl a : Key) = Sum.inr b) = false := decide_eq_false (fun q => nomatch q)
theorem key_rl (a : Str) (b : Int) : decide ((Sum.inr a : Key) = Sum.inl b) = false := decide_eq_false (fun q => nomatch q)
noncomputable def mixKind (prog : Program) (w : World) : PySem.KeyKind prog w Key where
 is := keyIs
 hash := keyH w
 inj := fun v a b ha hb => by
  rcases keyIs_shape ha with ⟨i, t, rfl, rfl⟩ | ⟨x, t, rfl, rfl⟩
  ·rcases keyIs_shape hb with ⟨j, u, rfl, e⟩ | ⟨y, u, rfl, e⟩
   ·injection e with e1 _; rw [e1]
   ·exact nomatch e
  ·rcases keyIs_shape hb with ⟨j, u, rfl, e⟩ | ⟨y, u, rfl, e⟩
   ·exact nomatch e
   ·injection e with e1 _; rw [e1]
 byValue := fun k v h => by
  rcases keyIs_shape h with ⟨i, t, rfl, rfl⟩ | ⟨x, t, rfl, rfl⟩ <;> rfl
 pyHash := fun hv h => by
  rcases keyIs_shape hv with ⟨i, t, rfl, rfl⟩ | ⟨x, t, rfl, rfl⟩
  ·exact wpAny_pyHash_int h
  ·exact wpAny_pyHash_str h
 eqBool := fun hu hv h => by
  rcases keyIs_shape hu with ⟨i, t, rfl, rfl⟩ | ⟨x, t, rfl, rfl⟩
  ·rcases keyIs_shape hv with ⟨j, u, rfl, rfl⟩ | ⟨y, u, rfl, rfl⟩
   ·rw [key_ll] at h; exact wpAny_eqBool_int h
   ·rw [key_lr] at h; exact SeqAt.EqAt.int_str i t y u _ _ _ _ h
  ·rcases keyIs_shape hv with ⟨j, u, rfl, rfl⟩ | ⟨y, u, rfl, rfl⟩
   ·rw [key_rl] at h; exact SeqAt.EqAt.str_int x t j u _ _ _ _ h
   ·rw [key_rr] at h; exact wpAny_eqBool_str h
 «strs» := fun k x t v h => by
  rcases keyIs_shape h with ⟨i, u, rfl, e⟩ | ⟨y, u, rfl, e⟩
  ·exact nomatch e
  ·injection e with e1 _
   subst e1
   cases v <;> rfl
theorem mixKind_int (prog : Program) (w : World) (i : Int) (t : Tok) : (mixKind prog w).is (.inl i) (.int i t) = true := keyIs_int i t
theorem mixKind_str (prog : Program) (w : World) (x : Str) (t : Tok) : (mixKind prog w).is (.inr x) (.str x t) = true := keyIs_str x t
inductive V where
 | non | bl (b : Bool) | int (i : Int) | str (x : Str) | byt (b : Array UInt8) | flt (b : UInt64) | ref (a : Addr) | ty (n : String)
 deriving DecidableEq
noncomputable def RelV : V -> Value -> Prop
 | .non, u => u = Value.none
 | .bl b, u => u = Value.bool b
 | .int i, u => ∃ t, u = Value.int i t
 | .str x, u => ∃ t, u = Value.str x t
 | .byt b, u => ∃ t, u = Value.bytes b t
 | .flt b, u => ∃ t, u = Value.float b t
 | .ref a, u => u = Value.ref a
 | .ty n, u => u = Value.type n
noncomputable abbrev Vals : List V -> List Value -> Prop := Paired RelV
theorem Vals.length {xs : List V} {us : List Value} (r : Vals xs us) : xs.length = us.length := Paired.length r
theorem Vals.get : ∀ {xs : List V} {us : List Value} {i : Nat} {x : V}, Vals xs us -> xs[i]? = some x -> ∃ u, us[i]? = some u /\ RelV x u
 | _, _, _, _, .nil, e => by simp at e
 | _, _, 0, _, .cons r _, e => by simp at e; subst e; exact ⟨_, rfl, r⟩
 | _, _, i + 1, x, .cons _ t, e => by
  obtain ⟨u, h1, h2⟩ := Vals.get (i := i) (x := x) t (by simpa using e)
  exact ⟨u, by simpa using h1, h2⟩
theorem Vals.set {x : V} {u : Value} (r : RelV x u) : ∀ {xs : List V} {us : List Value} (i : Nat), Vals xs us -> Vals (xs.set i x) (us.set i u)
 | _, _, _, .nil => .nil
 | _, _, 0, .cons _ t => .cons r t
 | _, _, i + 1, .cons q t => .cons q (Vals.set r i t)
theorem Vals.append : ∀ {xs ys : List V} {us ws : List Value}, Vals xs us -> Vals ys ws -> Vals (xs ++ ys) (us ++ ws)
 | _, _, _, _, .nil, s => s
 | _, _, _, _, .cons r t, s => .cons r (Vals.append t s)
theorem Vals.take : ∀ {xs : List V} {us : List Value} (n : Nat), Vals xs us -> Vals (xs.take n) (us.take n)
 | _, _, 0, _ => .nil
 | _, _, _ + 1, .nil => .nil
 | _, _, n + 1, .cons r t => .cons r (Vals.take n t)
theorem Vals.drop : ∀ {xs : List V} {us : List Value} (n : Nat), Vals xs us -> Vals (xs.drop n) (us.drop n)
 | _, _, 0, r => r
 | _, _, _ + 1, .nil => .nil
 | _, _, n + 1, .cons _ t => Vals.drop n t
theorem Vals.none_of : ∀ {xs : List V} {us : List Value} {i : Nat}, Vals xs us -> xs[i]? = none -> us[i]? = none := fun {xs us i} r e => by
 have h1 := r.length
 have h2 : xs.length <= i := List.getElem?_eq_none_iff.mp e
 exact List.getElem?_eq_none_iff.mpr (by lia)
noncomputable def RelO : Option V -> Option Value -> Prop
 | some v, some u => RelV v u
 | none, none => True
 | _, _ => False
noncomputable def KV {κ : Type} : List (κ × V) -> List (κ × Value) -> Prop := Paired fun (p : κ × V) (q : κ × Value) => p.1 = q.1 /\ RelV p.2 q.2
noncomputable def kV : Key -> V
 | .inl i => .int i
 | .inr x => .str x
inductive HO where
 /-- a list -/
 | lst (xs : List V)
 /-- a tuple (never changes) -/
 | tup (xs : List V)
 /-- a dict whose keys are ints and texts; one whose keys are tuples of ints and texts (the empty one is both) -/
 | dK (kvs : List (Key × V)) | dT (kvs : List (List Key × V)) | dP (kvs : List ((List Key × Key) × V))
 /-- a set of ints: its members, its size -/
 | set (S : Int -> Bool) (n : Nat)
 /-- an instance of the class at C, its dict at dx, its attributes -/
 | ins (C dx : Addr) (fs : List (Str × V))
 /-- the dict of the instance at x -/
 | own (x : Addr)
 /-- the dict of an exception -/
 | xd (fs : List (Str × V))
 /-- a bound method, f of x -/
 | met (f x : Addr)
 /-- a range object lo, lo + 1, .. below hi -/
 | rng (lo hi : Int)
 /-- a thing that is known to the object (the script; a dict while a loop walks it): read, never written while it is so -/
 | frz (o : Obj) (u : HO)
 /-- a code object's table -/
 | tbl (ps : Array Value)
 /-- any other thing, by what is true of its one object (a def of one's own: SetO a S n := HO.ext fun h => ..) -/
 | ext (φ : Heap -> Prop)
noncomputable abbrev Hp := Addr -> Option HO
noncomputable def upd (H : Hp) (a : Addr) (o : HO) : Hp := fun b => if b = a then some o else H b
theorem upd_same {H : Hp} {a : Addr} {o : HO} : upd H a o a = some o := by unfold upd; rw [if_pos rfl]
theorem upd_ne {H : Hp} {a b : Addr} {o : HO} (h : b ≠ a) : upd H a o b = H b := by unfold upd; rw [if_neg h]
theorem upd_upd {H : Hp} {a : Addr} {o u : HO} : upd (upd H a o) a u = upd H a u := by
 funext b; unfold upd; split <;> rfl
theorem ne_of {H : Hp} {a b : Addr} {o u : HO} (h : H a = some o) (h' : H b = some u) (d : o ≠ u) : a ≠ b := by
 intro e; subst e; rw [h] at h'; exact d (Option.some.inj h')
theorem ne_of_none {H : Hp} {a b : Addr} {o : HO} (h : H a = some o) (h' : H b = none) : a ≠ b := by
 intro e; subst e; rw [h] at h'; cases h'
section
variable (P : Program) (w : World)
noncomputable def ObjOk (H : Hp) (h : Heap) (a : Addr) : HO -> Prop
 | .lst xs => xs.length <= sizeLine /\ ∃ (its : List Value) (n : Nat), Vals xs its /\ h.get? a = some { cls := .type "list", data := .seq its.toArray n }
 | .tup xs => xs.length <= sizeLine /\ ∃ its : List Value, Vals xs its /\ IsTup h a its.toArray
 | .dK kvs => kvs.length <= sizeLine /\ (a == sysModules) = false /\ ∃ vs, KV kvs vs /\ h.DictOf (mixKind P w) a vs
 | .dT kvs => kvs.length <= sizeLine /\ (a == sysModules) = false /\ ∃ xs : List (List Key × Addr × Value),
   Paired (fun (p : List Key × V) (q : List Key × Addr × Value) => p.1 = q.1 /\ H q.2.1 = some (.tup (p.1.map kV)) /\ RelV p.2 q.2.2) kvs xs /\
   ∃ o es ep, h.get? a = some o /\ o.ExactDict /\ o.data = .dict es ep /\ es.toList = xs.map (entryOfKey (tupleKind (mixKind P w))) /\ (xs.map (·.1)).Nodup
 | .dP kvs => kvs.length <= sizeLine /\ (a == sysModules) = false /\ ∃ xs : List ((List Key × Key) × Addr × Value),
   Paired (fun (p : (List Key × Key) × V) (q : (List Key × Key) × Addr × Value) => p.1 = q.1 /\ (∃ b, H q.2.1 = some (.tup [.ref b, kV p.1.2]) /\ H b = some (.tup (p.1.1.map kV))) /\ RelV p.2 q.2.2) kvs xs /\
   ∃ o es ep, h.get? a = some o /\ o.ExactDict /\ o.data = .dict es ep /\ es.toList = xs.map (entryOfKey (pairKind (mixKind P w) (mixKind P w))) /\ (xs.map (·.1)).Nodup
 | .set S n => h.SetOf (intKind P w) a S n
 | .ins C dx fs => H dx = some (.own a) /\ fs.length <= 1000 /\ dx ≠ a /\ h.get? a = some (PySem.W.instObj C dx) /\
   ∃ mA, h.Ns1 dx mA /\ (∀ f, RelO (fs.lookup f) (mA f)) /\ PySem.Within mA (fs.map (·.1))
 | .own _ => ∃ o, h.get? a = some o
 | .xd fs => ∃ mA, h.Ns1 a mA /\ ∀ f, RelO (fs.lookup f) (mA f)
 | .rng lo hi => ∃ t u v, h.get? a = some { cls := .type "range", data := .fields #[.int lo t, .int hi u, .int 1 v] }
 | .frz o u => h.get? a = some o /\ ObjOk H h a u
 | .tbl ps => h.get? a = some { cls := .none, data := .fields ps }
 | .met f x => h.get? a = some (PySem.W.methodObj (.ref f) (.ref x))
 | .ext φ => φ h /\ (∃ o, h.get? a = some o) /\ ∀ h1 h2 : Heap, φ h1 -> (∀ o, h1.get? a = some o -> h2.get? a = some o) -> φ h2
noncomputable def HOk (H : Hp) (h : Heap) : Prop := ∀ a o, H a = some o -> ObjOk P w H h a o
end
section
variable {P : Program} {w : World} {H H' : Hp} {h h' : Heap} {a : Addr} {o : HO}
theorem ObjOk.lt (x : ObjOk P w H h a o) : a < h.objs.size := by
 cases o with
 | lst xs => obtain ⟨_, _, _, _, e⟩ := x; exact Heap.lt_size e
 | tup xs => obtain ⟨_, _, _, p⟩ := x; exact p.lt
 | dK kvs => obtain ⟨_, _, _, _, o, _, _, e, _⟩ := x; exact Heap.lt_size e
 | dT kvs => obtain ⟨_, _, _, _, o, _, _, e, _⟩ := x; exact Heap.lt_size e
 | dP kvs => obtain ⟨_, _, _, _, o, _, _, e, _⟩ := x; exact Heap.lt_size e
 | set S n => obtain ⟨o, _, _, _, e, _⟩ := x; exact Heap.lt_size e
 | ins C dx fs => obtain ⟨_, _, _, e, _⟩ := x; exact Heap.lt_size e
 | own y => obtain ⟨_, e⟩ := x; exact Heap.lt_size e
 | xd fs => obtain ⟨_, ⟨_, _, _, e, _⟩, _⟩ := x; exact Heap.lt_size e
 | rng lo hi => obtain ⟨_, _, _, e⟩ := x; exact Heap.lt_size e
 | frz ob u => obtain ⟨e, _⟩ := x; exact Heap.lt_size e
 | tbl ps => exact Heap.lt_size (show h.get? a = some _ from x)
 | met f y => exact Heap.lt_size (show h.get? a = some _ from x)
 | ext φ => obtain ⟨_, ⟨_, e⟩, _⟩ := x; exact Heap.lt_size e
theorem Paired.mapP {α β : Type} {F G : α -> β -> Prop} : ∀ {l₁ : List α} {l₂ : List β}, Paired F l₁ l₂ -> (∀ a b, F a b -> G a b) -> Paired G l₁ l₂
 | _, _, .nil, _ => .nil
 | _, _, .cons r t, f => .cons (f _ _ r) (Paired.mapP t f)
theorem ObjOk.stay (x : ObjOk P w H h a o) (k : ∀ b u, (b = a \/ H b = some (.own a)) -> h.get? b = some u -> h'.get? b = some u)
  (ho : ∀ b, H b = some (.own a) -> H' b = some (.own a)) (ht : ∀ b xs, H b = some (.tup xs) -> H' b = some (.tup xs)) : ObjOk P w H' h' a o := by
 induction o with
 | lst xs => obtain ⟨z, its, n, r, e⟩ := x; exact ⟨z, its, n, r, k _ _ (.inl rfl) e⟩
 | tup xs => obtain ⟨z, its, r, ob, e, c⟩ := x; exact ⟨z, its, r, ob, k _ _ (.inl rfl) e, c⟩
 | dK kvs => obtain ⟨z, y, vs, r, ob, es, ep, e, c⟩ := x; exact ⟨z, y, vs, r, ob, es, ep, k _ _ (.inl rfl) e, c⟩
 | dT kvs =>
  obtain ⟨z, y, xs, r, ob, es, ep, e, c⟩ := x
  exact ⟨z, y, xs, Paired.mapP r fun p q z => ⟨z.1, ht _ _ z.2.1, z.2.2⟩, ob, es, ep, k _ _ (.inl rfl) e, c⟩
 | dP kvs =>
  obtain ⟨z, y, xs, r, ob, es, ep, e, c⟩ := x
  exact ⟨z, y, xs, Paired.mapP r fun p q z => ⟨z.1, let ⟨b, e1, e2⟩ := z.2.1; ⟨b, ht _ _ e1, ht _ _ e2⟩, z.2.2⟩, ob, es, ep, k _ _ (.inl rfl) e, c⟩
 | set S n => obtain ⟨ob, es, ep, t, e, c⟩ := x; exact ⟨ob, es, ep, t, k _ _ (.inl rfl) e, c⟩
 | ins C dx fs =>
  obtain ⟨d, z, ne, e, mA, ⟨od, es, ep, e2, c⟩, r⟩ := x
  exact ⟨ho _ d, z, ne, k _ _ (.inl rfl) e, mA, ⟨od, es, ep, k _ _ (.inr d) e2, c⟩, r⟩
 | own y => obtain ⟨ob, e⟩ := x; exact ⟨ob, k _ _ (.inl rfl) e⟩
 | xd fs => obtain ⟨mA, ⟨od, es, ep, e, c⟩, r⟩ := x; exact ⟨mA, ⟨od, es, ep, k _ _ (.inl rfl) e, c⟩, r⟩
 | rng lo hi => obtain ⟨t, u, v, e⟩ := x; exact ⟨t, u, v, k _ _ (.inl rfl) e⟩
 | frz ob u ih => obtain ⟨e, q⟩ := x; exact ⟨k _ _ (.inl rfl) e, ih q⟩
 | tbl ps =>
  have e : h.get? a = some { cls := .none, data := .fields ps } := x
  show h'.get? a = some { cls := .none, data := .fields ps }
  exact k a _ (.inl rfl) e
 | met f y =>
  have e : h.get? a = some (PySem.W.methodObj (.ref f) (.ref y)) := x
  show h'.get? a = some (PySem.W.methodObj (.ref f) (.ref y))
  exact k a _ (.inl rfl) e
 | ext φ => obtain ⟨p, ⟨o, e⟩, st⟩ := x; exact ⟨st _ _ p fun o q => k _ _ (.inl rfl) q, ⟨o, k _ _ (.inl rfl) e⟩, st⟩
theorem HOk.lt (x : HOk P w H h) (e : H a = some o) : a < h.objs.size := (x a o e).lt
theorem HOk.fresh (x : HOk P w H h) (e : h.objs.size <= a) : H a = none := by
 cases q : H a with
 | none => rfl
 | some u => exact absurd (Nat.lt_of_lt_of_le (x.lt q) e) (Nat.lt_irrefl _)
theorem HOk.kept (x : HOk P w H h) (k : ∀ b u, h.get? b = some u -> h'.get? b = some u) : HOk P w H h' := fun a o e =>
 (x a o e).stay (fun b u _ q => k b u q) (fun _ q => q) fun _ _ q => q
theorem HOk.laid (x : HOk P w H h) (k : ∀ b u, h.get? b = some u -> h'.get? b = some u) (hp : h.objs.size <= a) (new : ObjOk P w (upd H a o) h' a o) : HOk P w (upd H a o) h' := fun b u e => by
 have hn := x.fresh hp
 by_cases hb : b = a
 ·subst hb; rw [upd_same] at e; cases e; exact new
 ·rw [upd_ne hb] at e
  exact (x b u e).stay (fun c v _ q => k c v q) (fun c q => by rw [upd_ne (ne_of_none q hn)]; exact q) fun c xs q => by rw [upd_ne (ne_of_none q hn)]; exact q
end
noncomputable def Rd (H : Hp) (a : Addr) (u : HO) : Prop := H a = some u \/ ∃ o, H a = some (.frz o u)
theorem Rd.ok {P : Program} {w : World} {H : Hp} {h : Heap} {a : Addr} {u : HO} (r : Rd H a u) (x : HOk P w H h) : ObjOk P w H h a u := by
 rcases r with r | ⟨o, r⟩
 ·exact x a u r
 ·obtain ⟨_, q⟩ := x a _ r
  exact q
noncomputable def Mut : Option HO -> Prop
 | some (.lst _) => True
 | some (.dK _) => True
 | some (.dT _) => True
 | some (.dP _) => True
 | some (.set _ _) => True
 | some (.ins _ _ _) => True
 | some (.ext _) => True
 | _ => False
section
variable {P : Program} {w : World} {H : Hp} {h h' : Heap} {x e : Addr} {o' : HO}
theorem HOk.write (ok : HOk P w H h) (mu : Mut (H x)) (he : e = x \/ H e = some (.own x)) (k : ∀ b u, b ≠ e -> h.get? b = some u -> h'.get? b = some u) (heo : ∃ u, h'.get? e = some u)
  (new : ObjOk P w (upd H x o') h' x o') : HOk P w (upd H x o') h' := fun b u q => by
 have nown : ∀ c y, H c = some (.own y) -> c ≠ x := fun c y r z => by subst z; rw [r] at mu; exact mu
 have ntup : ∀ c xs, H c = some (.tup xs) -> c ≠ x := fun c xs r z => by subst z; rw [r] at mu; exact mu
 by_cases hb : b = x
 ·subst hb; rw [upd_same] at q; cases q; exact new
 ·rw [upd_ne hb] at q
  by_cases hbe : b = e
  ·have q' : H b = some (.own x) := by
    rcases he with z | z
    ·exact absurd (hbe.trans z) hb
    ·rw [hbe]; exact z
   rw [q] at q'; cases q'
   obtain ⟨v, hv⟩ := heo
   exact ⟨v, by rw [hbe]; exact hv⟩
  ·refine (ok b u q).stay (fun c v hc r => k c v ?_ r) (fun c r => by rw [upd_ne (nown c b r)]; exact r) fun c xs r => by rw [upd_ne (ntup c xs r)]; exact r
   rcases hc with rfl | hc
   ·exact hbe
   ·rintro rfl
    rcases he with z | z
    ·exact nown c b hc z
    ·rw [hc] at z; cases z; exact hb rfl
end
structure Un (fs ex : List Addr) (H H' : Hp) (h h' : Heap) : Prop where
 keep : ∀ b o, h.get? b = some o -> H b = none -> b ∉ fs -> b ∉ ex -> h'.get? b = some o
 slot : ∀ b o, h.get? b = some o -> H b = none -> b ∈ fs -> b ∉ ex -> ∃ sl, h'.get? b = some { o with slots := sl }
 free : ∀ b o, h.get? b = some o -> H b = none -> b ∉ ex -> H' b = none
 there : ∀ b o, h.get? b = some o -> b ∉ ex -> ∃ o', h'.get? b = some o'
 tups : ∀ b xs, H b = some (.tup xs) -> H' b = some (.tup xs)
 frzs : ∀ b o u, H b = some (.frz o u) -> H' b = some (.frz o u)
 tbls : ∀ b ps, H b = some (.tbl ps) -> ∃ more, H' b = some (.tbl (ps ++ more))
section
variable {fs fs' ex ex' : List Addr} {H H1 H2 : Hp} {h h1 h2 h' : Heap} {a x e : Addr} {o : HO}
theorem Un.any (u : Un fs ex H H1 h h1) {b : Addr} {ob : Obj} (q : h.get? b = some ob) (n : H b = none) (hx : b ∉ ex) : ∃ sl, h1.get? b = some { ob with slots := sl } := by
 by_cases hb : b ∈ fs
 ·exact u.slot b ob q n hb hx
 ·exact ⟨ob.slots, u.keep b ob q n hb hx⟩
theorem Un.kept (k : ∀ b u, h.get? b = some u -> h'.get? b = some u) : Un fs ex H H h h' :=
 ⟨fun b ob q _ _ _ => k b ob q, fun b ob q _ _ _ => ⟨ob.slots, k b ob q⟩, fun _ _ _ n _ => n, fun b ob q _ => ⟨ob, k b ob q⟩, fun _ _ q => q, fun _ _ _ q => q, fun _ ps q => ⟨#[], by rw [q]; simp⟩⟩
theorem Un.refl : Un fs ex H H h h := Un.kept fun _ _ q => q
theorem Un.laid (k : ∀ b u, h.get? b = some u -> h'.get? b = some u) (hp : h.objs.size <= a) (hn : H a = none) : Un fs ex H (upd H a o) h h' where
 keep := fun b u q _ _ _ => k b u q
 slot := fun b u q _ _ _ => ⟨u.slots, k b u q⟩
 free := fun b u q n _ => by rw [upd_ne (Nat.ne_of_lt (Nat.lt_of_lt_of_le (Heap.lt_size q) hp))]; exact n
 there := fun b u q _ => ⟨u, k b u q⟩
 tups := fun b xs q => by rw [upd_ne (ne_of_none q hn)]; exact q
 frzs := fun b u xs q => by rw [upd_ne (ne_of_none q hn)]; exact q
 tbls := fun b ps q => ⟨#[], by rw [upd_ne (ne_of_none q hn), q]; simp⟩
theorem Un.write (mu : Mut (H x)) (he : e = x \/ H e = some (.own x)) (k : ∀ b u, b ≠ e -> h.get? b = some u -> h'.get? b = some u) (heo : ∃ u, h'.get? e = some u) : Un fs ex H (upd H x o) h h' := by
 have hx : ∀ b, H b = none -> b ≠ x := fun b n z => by subst z; rw [n] at mu; exact mu
 have hb : ∀ b, H b = none -> b ≠ e := fun b n z => by
  subst z
  rcases he with r | r
  ·exact hx b n r
  ·rw [n] at r; cases r
 have hm : ∀ b u, H b = some u -> ¬ Mut (some u) -> b ≠ x := fun b u q nm z => by subst z; rw [q] at mu; exact nm mu
 refine ⟨fun b u q n _ _ => k b u (hb b n) q, fun b u q n _ _ => ⟨u.slots, k b u (hb b n) q⟩, fun b u q n _ => by rw [upd_ne (hx b n)]; exact n, fun b u q _ => ?_,
  fun b xs q => by rw [upd_ne (hm b _ q fun z => z)]; exact q, fun b u xs q => by rw [upd_ne (hm b _ q fun z => z)]; exact q, fun b ps q => ⟨#[], by rw [upd_ne (hm b _ q fun z => z), q]; simp⟩⟩
 by_cases hbe : b = e
 ·subst hbe; exact heo
 ·exact ⟨u, k b u hbe q⟩
end
noncomputable def trk (h : Heap) (H : Hp) : List Addr := (List.range h.objs.size).filter fun a => (H a).isSome
noncomputable def hidT (h : Heap) (H : Hp) : Heap := PySem.W.hideAll h (trk h H)
theorem hidT_size (h : Heap) (H : Hp) : (hidT h H).objs.size = h.objs.size := PySem.W.hideAll_size _ _
theorem hidT_get {h : Heap} {H : Hp} {b : Addr} {o : Obj} (e : h.get? b = some o) (n : H b = none) : (hidT h H).get? b = some o :=
 PySem.W.hideAll_get _ e fun hm => by
  have q : (H b).isSome = true := (List.mem_filter.mp hm).2
  rw [n] at q; simp at q
theorem of_hidT {h : Heap} {H : Hp} {b : Addr} {o : Obj} (e : (hidT h H).get? b = some o) : h.get? b = some o /\ H b = none := by
 have e' : h.get? b = some o := PySem.W.of_hideAll (trk h H) e
 refine ⟨e', ?_⟩
 cases q : H b with
 | none => rfl
 | some x =>
  have hm : b ∈ trk h H := List.mem_filter.mpr ⟨List.mem_range.mpr (Heap.lt_size e'), by simp [q]⟩
  have z : (hidT h H).get? b = none := PySem.W.hideAll_none (trk h H) hm
  rw [z] at e; cases e
structure Mod (K : PySem.W.Frag) (mg : Str -> Option Value) (base : Heap) : Prop where
 kin : K.In base
 glob : base.Ns mainGlobals mg
 blt : ∃ mb, base.Ns builtinsNs mb /\ ∀ x : Str, x ≠ "__name__" -> mb x = bootBuiltins x
 nolimit : base.NoLimit
structure Cx where
 prog : Program
 w : World
 K : PySem.W.Frag
 mg : Str -> Option Value
 base : Heap
 A : Around
 N : List Str
 s₀ : Shared
 H₀ : Hp
 env : Env
 outer : List Env
 stack : List Env
 ex : List Addr
 fn : Str -> Bool
 calm : Bool
 pn : List (Addr × Obj)
 xe : Value -> Shared -> Prop
noncomputable def frs (l : List Env) : List Addr := l.filterMap (·.frame)
noncomputable abbrev Cx.fs (X : Cx) : List Addr := frs X.outer
noncomputable def Vis (sc : Scope) (x : Str) : Prop := sc.names.lookup x = some .local \/ sc.names.lookup x = some .cell \/ sc.names.lookup x = some .free
noncomputable def Loc (sc : Scope) (x : Str) : Prop := sc.names.lookup x = some .local \/ sc.names.lookup x = some .cell
noncomputable def Look (env : Env) (h : Heap) (m : Str -> Option Value) (x : Str) (u : Value) : Prop :=
 (env.kindOf x = some .local /\ m x = some u) \/ ((env.kindOf x = some .cell \/ env.kindOf x = some .free) /\ ∃ c, env.cells.lookup x = some c /\ h.IsCell c (some u))
structure Cx.Ok (X : Cx) : Prop where
 mod : Mod X.K X.mg X.base
 kind : X.env.scope.kind = .function
 glob : X.env.globals = mainGlobals
 blt : X.env.builtins = builtinsNs
 above : X.s₀.heap.objs.size <= X.env.locals
 inj : ∀ x y c, X.env.cells.lookup x = some c -> X.env.cells.lookup y = some c -> x = y
 has : ∀ x, (X.env.kindOf x = some .cell \/ X.env.kindOf x = some .free) -> ∃ c, X.env.cells.lookup x = some c
 cab : ∀ x c, X.fn x = true -> X.env.cells.lookup x = some c -> X.s₀.heap.objs.size <= c
 hd : X.calm = true -> X.A.handled = none
 frames : X.A.frames = some X.stack
 stk : X.stack = X.outer \/ (X.stack = X.env :: X.outer /\ X.env.frame = some X.env.locals)
 exf : ∀ b ∈ X.ex, b ≠ X.env.locals /\ ∀ x c, X.env.cells.lookup x = some c -> c ≠ b
 bs : ∀ b o, X.base.get? b = some o -> X.s₀.heap.get? b = some o /\ X.H₀ b = none
 bsz : X.base.objs.size <= X.s₀.heap.objs.size
 noex : ∀ b o, X.base.get? b = some o -> b ∉ X.ex
 exfs : ∀ b ∈ X.ex, b ∉ X.fs
 funs : X.s₀.heap.FunFrames X.base X.outer
 frf : ∀ b ∈ X.fs, X.H₀ b = none
structure Inv (X : Cx) (pins : List (Addr × Obj)) (Z : List (Option V)) (H : Hp) (s : Shared) : Prop where
 ok : X.Ok
 os : s.os = X.s₀.os
 bare : AllBare s.gens
 base : Un X.fs X.ex X.H₀ H X.s₀.heap s.heap
 loc : ∃ m, s.heap.Ns X.env.locals m /\ ∀ (i : Nat) (x : Str) (v : V), X.N[i]? = some x -> Z[i]? = some (some v) -> Vis X.env.scope x -> ∃ u, RelV v u /\ Look X.env s.heap m x u
 cell : ∀ x c, X.env.cells.lookup x = some c -> ∃ v, s.heap.IsCell c v
 free : H X.env.locals = none
 freeC : ∀ x c, X.env.cells.lookup x = some c -> H c = none
 pin : ∀ p ∈ X.pn ++ pins, s.heap.get? p.1 = some p.2 /\ H p.1 = none /\ p.1 ≠ X.env.locals /\ p.1 ∉ X.fs /\ ∀ v, p.2.data ≠ .cell v
 hok : HOk X.prog X.w H s.heap
 len : Z.length = X.N.length
section
variable {X : Cx} {pins : List (Addr × Obj)} {Z : List (Option V)} {H H' : Hp} {s : Shared} {h' : Heap}
theorem Cx.Ok.nofr (ok : X.Ok) {b : Addr} {o : Obj} (e : X.base.get? b = some o) : b ∉ X.fs := fun hb => by
 have := (ok.funs.mem hb).1
 rw [e] at this; cases this
theorem Inv.bs (I : Inv X pins Z H s) : ∀ b o, X.base.get? b = some o -> s.heap.get? b = some o /\ H b = none := fun b o e =>
 ⟨I.base.keep b o (I.ok.bs b o e).1 (I.ok.bs b o e).2 (I.ok.nofr e) (I.ok.noex b o e), I.base.free b o (I.ok.bs b o e).1 (I.ok.bs b o e).2 (I.ok.noex b o e)⟩
theorem Inv.bk (I : Inv X pins Z H s) : ∀ b o, X.base.get? b = some o -> s.heap.get? b = some o := fun b o e => (I.bs b o e).1
theorem Inv.mod (I : Inv X pins Z H s) : Mod X.K X.mg X.base := I.ok.mod
theorem Inv.kIn (I : Inv X pins Z H s) : X.K.In s.heap := I.ok.mod.kin.keeps I.bk
theorem Inv.lt (I : Inv X pins Z H s) : X.env.locals < s.heap.objs.size := let ⟨_, hn, _⟩ := I.loc; hn.lt
theorem Inv.sz (I : Inv X pins Z H s) : X.s₀.heap.objs.size <= s.heap.objs.size := Nat.le_trans I.ok.above (Nat.le_of_lt I.lt)
theorem Inv.nofs (I : Inv X pins Z H s) {a : Addr} (h : s.heap.objs.size <= a) : a ∉ X.fs := fun hb => by
 obtain ⟨_, o, ho, _⟩ := I.ok.funs.mem hb
 exact absurd (Nat.lt_of_lt_of_le (Heap.lt_size ho) (Nat.le_trans I.sz h)) (Nat.lt_irrefl _)
theorem Inv.cne (I : Inv X pins Z H s) : ∀ x c, X.env.cells.lookup x = some c -> c ≠ X.env.locals := fun x c e z => by
 obtain ⟨v, o, ho, hd⟩ := I.cell x c e
 obtain ⟨m, ⟨o', es, ep, ho', hd', _⟩, _⟩ := I.loc
 rw [z, ho'] at ho; cases ho; rw [hd'] at hd; cases hd
theorem Inv.funs (I : Inv X pins Z H s) : s.heap.FunFrames X.base X.outer := by
 have all : ∀ (l : List Env), (∀ b ∈ frs l, b ∈ X.fs) -> X.s₀.heap.FunFrames X.base l -> s.heap.FunFrames X.base l := by
  intro l
  induction l with
  | nil => intro _ _; trivial
  | cons env r ih =>
   intro hs hl
   obtain ⟨hk, ⟨L, o, hf, hn, ho, hd⟩, hr⟩ := hl
   have hL : L ∈ X.fs := hs L (by unfold frs; rw [List.filterMap_cons, hf]; exact List.mem_cons_self)
   obtain ⟨sl, e⟩ := I.base.slot L o ho (I.ok.frf L hL) hL fun z => I.ok.exfs L z hL
   exact ⟨hk, ⟨L, _, hf, hn, e, hd⟩, ih (fun b hb => hs b (by unfold frs; rw [List.filterMap_cons, hf]; exact List.mem_cons_of_mem _ hb)) hr⟩
 exact all X.outer (fun _ hb => hb) I.ok.funs
theorem Inv.stack (I : Inv X pins Z H s) : s.heap.FunFrames X.base X.stack := by
 rcases I.ok.stk with e | ⟨e, hf⟩
 ·rw [e]; exact I.funs
 ·rw [e]
  obtain ⟨m, hn, _⟩ := I.loc
  refine .cons (by rw [I.ok.kind]; decide) hf hn ?_ I.funs
  exact Heap.get?_none_of_le (Nat.le_trans I.ok.bsz I.ok.above)
theorem Inv.stkSub (I : Inv X pins Z H s) : ∀ b ∈ frs X.stack, b ∈ X.env.locals :: X.fs := fun b hb => by
 rcases I.ok.stk with e | ⟨e, hf⟩
 ·rw [e] at hb; exact List.mem_cons_of_mem _ hb
 ·rw [e] at hb
  unfold frs at hb
  rw [List.filterMap_cons, hf] at hb
  exact hb
theorem Inv.stkFree (I : Inv X pins Z H s) : ∀ b ∈ frs X.stack, H b = none := fun b hb => by
 rcases List.mem_cons.mp (I.stkSub b hb) with e | hb
 ·rw [e]; exact I.free
 ·obtain ⟨_, o, ho, _⟩ := I.ok.funs.mem hb
  exact I.base.free b o ho (I.ok.frf b hb) fun z => I.ok.exfs b z hb
theorem Inv.step {g' : Array GenState} {t' : Nat} {d' : Drawn} {ch : List Addr} (I : Inv X pins Z H s)
  (hch : ∀ b ∈ ch, (b ∈ X.ex \/ X.s₀.heap.objs.size <= b) /\ b ≠ X.env.locals /\ (∀ x c, X.env.cells.lookup x = some c -> c ≠ b) /\ ∀ p ∈ X.pn ++ pins, p.1 ≠ b)
  (keep : ∀ b o, b ≠ X.env.locals -> b ∉ X.fs -> b ∉ ch -> s.heap.get? b = some o -> H b = none -> h'.get? b = some o)
  (slot : ∀ b o, b ≠ X.env.locals -> b ∈ X.fs -> b ∉ ch -> s.heap.get? b = some o -> H b = none -> ∃ sl, h'.get? b = some { o with slots := sl }) (free : ∀ b o, b ∉ ch -> s.heap.get? b = some o -> H b = none -> H' b = none)
  (there : ∀ b o, b ∉ ch -> s.heap.get? b = some o -> ∃ o', h'.get? b = some o')
  (tups : ∀ b xs, H b = some (.tup xs) -> H' b = some (.tup xs)) (frzs : ∀ b o u, H b = some (.frz o u) -> H' b = some (.frz o u)) (tbls : ∀ b ps, H b = some (.tbl ps) -> ∃ more, H' b = some (.tbl (ps ++ more)))
  (ns : ∀ m, s.heap.Ns X.env.locals m -> h'.Ns X.env.locals m) (hok : HOk X.prog X.w H' h') (hg : AllBare g') :
  Inv X pins Z H' { s with heap := h', gens := g', drawn := d', toks := t' } := by
 have neL : ∀ b o, X.s₀.heap.get? b = some o -> b ≠ X.env.locals := fun b o e => Nat.ne_of_lt (Nat.lt_of_lt_of_le (Heap.lt_size e) I.ok.above)
 have neC : ∀ b o, X.s₀.heap.get? b = some o -> b ∉ X.ex -> b ∉ ch := fun b o e hx hb => by
  rcases (hch b hb).1 with z | z
  ·exact hx z
  ·exact absurd (Nat.lt_of_lt_of_le (Heap.lt_size e) z) (Nat.lt_irrefl _)
 have cellK : ∀ x c, X.env.cells.lookup x = some c -> ∀ v, s.heap.IsCell c v -> h'.IsCell c v := fun x c e v ⟨o, ho, hd⟩ => by
  have nch : c ∉ ch := fun z => (hch c z).2.2.1 x c e rfl
  by_cases hc : c ∈ X.fs
  ·obtain ⟨sl, q⟩ := slot c o (I.cne x c e) hc nch ho (I.freeC x c e)
   exact ⟨_, q, hd⟩
  ·exact ⟨o, keep c o (I.cne x c e) hc nch ho (I.freeC x c e), hd⟩
 refine ⟨I.ok, I.os, hg, ⟨fun b o e n hb hx => ?_, fun b o e n hb hx => ?_, fun b o e n hx => ?_, fun b o e hx => ?_, fun b xs e => tups b xs (I.base.tups b xs e), fun b o xs e => frzs b o xs (I.base.frzs b o xs e), fun b ps e => ?_⟩, ?_, fun x c e => ?_, ?_, fun x c e => ?_, fun p hp => ?_, hok, I.len⟩
 ·exact keep b o (neL b o e) hb (neC b o e hx) (I.base.keep b o e n hb hx) (I.base.free b o e n hx)
 ·obtain ⟨sl, e1⟩ := I.base.slot b o e n hb hx
  obtain ⟨sl', e2⟩ := slot b _ (neL b o e) hb (neC b o e hx) e1 (I.base.free b o e n hx)
  exact ⟨sl', e2⟩
 ·obtain ⟨o', e1⟩ := I.base.there b o e hx
  exact free b o' (neC b o e hx) e1 (I.base.free b o e n hx)
 ·obtain ⟨o', e1⟩ := I.base.there b o e hx
  exact there b o' (neC b o e hx) e1
 ·obtain ⟨m1, e1⟩ := I.base.tbls b ps e
  obtain ⟨m2, e2⟩ := tbls b _ e1
  exact ⟨m1 ++ m2, by rw [e2, Array.append_assoc]⟩
 ·obtain ⟨m, hn, hl⟩ := I.loc
  refine ⟨m, ns m hn, fun i x v e1 e2 e3 => ?_⟩
  obtain ⟨u, r, l⟩ := hl i x v e1 e2 e3
  refine ⟨u, r, ?_⟩
  rcases l with l | ⟨k, c, e, z⟩
  ·exact .inl l
  ·exact .inr ⟨k, c, e, cellK x c e _ z⟩
 ·obtain ⟨v, z⟩ := I.cell x c e
  exact ⟨v, cellK x c e v z⟩
 ·obtain ⟨m, ⟨o, _, _, ho, _⟩, _⟩ := I.loc
  exact free _ o (fun z => (hch _ z).2.1 rfl) ho I.free
 ·obtain ⟨v, o, ho, hd⟩ := I.cell x c e
  exact free c o (fun z => (hch c z).2.2.1 x c e rfl) ho (I.freeC x c e)
 ·obtain ⟨e, n, ne, nf, d⟩ := I.pin p hp
  have nch : p.1 ∉ ch := fun z => (hch p.1 z).2.2.2 p hp rfl
  exact ⟨keep p.1 p.2 ne nf nch e n, free p.1 p.2 nch e n, ne, nf, d⟩
theorem Inv.un {t' : Nat} (I : Inv X pins Z H s) (u : Un X.fs [] H H' s.heap h') (hok : HOk X.prog X.w H' h') : Inv X pins Z H' { s with heap := h', toks := t' } := by
 obtain ⟨m, ⟨o, es, ep, ho, r⟩, _⟩ := id I.loc
 obtain ⟨sl, hL⟩ := u.any ho I.free (by simp)
 exact I.step (g' := s.gens) (d' := s.drawn) (ch := []) (fun _ z => nomatch z) (fun b o _ hb _ e n => u.keep b o e n hb (by simp)) (fun b o _ hb _ e n => u.slot b o e n hb (by simp)) (fun b o _ e n => u.free b o e n (by simp)) (fun b o _ e => u.there b o e (by simp)) u.tups u.frzs u.tbls (fun m' hm => by
  obtain ⟨o', es', ep', ho', r'⟩ := hm
  rw [ho] at ho'; cases ho'
  exact ⟨_, es', ep', hL, r'⟩) hok I.bare
theorem Inv.call {g' : Array GenState} {t' : Nat} {d' : Drawn} {ch : List Addr} (I : Inv X pins Z H s) (u : Un (frs X.stack) ch H H' s.heap h') (hok : HOk X.prog X.w H' h') (hg : AllBare g')
  (hch : ∀ b ∈ ch, (b ∈ X.ex \/ X.s₀.heap.objs.size <= b) /\ b ≠ X.env.locals /\ (∀ x c, X.env.cells.lookup x = some c -> c ≠ b) /\ ∀ p ∈ X.pn ++ pins, p.1 ≠ b) :
  Inv X pins Z H' { s with heap := h', gens := g', drawn := d', toks := t' } := by
 obtain ⟨m, ⟨o, es, ep, ho, r⟩, _⟩ := id I.loc
 obtain ⟨sl, hL⟩ := u.any ho I.free fun z => (hch _ z).2.1 rfl
 exact I.step (ch := ch) hch (fun b o hL hb hc e n => u.keep b o e n (fun z => (List.mem_cons.mp (I.stkSub b z)).elim hL hb) hc) (fun b o _ _ hc e n => u.any e n hc) (fun b o hc e n => u.free b o e n hc) (fun b o hc e => u.there b o e hc) u.tups u.frzs u.tbls (fun m' hm => by
  obtain ⟨o', es', ep', ho', r'⟩ := hm
  rw [ho] at ho'; cases ho'
  exact ⟨_, es', ep', hL, r'⟩) hok hg
theorem Inv.turned {t' : Nat} {it : Addr} (I : Inv X pins Z H s) (k : ∀ b o, b ≠ it -> s.heap.get? b = some o -> h'.get? b = some o) (hn : H it = none) (hL : it ≠ X.env.locals)
  (h1 : it ∈ X.ex \/ X.s₀.heap.objs.size <= it) (h2 : ∀ x c, X.env.cells.lookup x = some c -> c ≠ it) (h3 : ∀ p ∈ X.pn ++ pins, p.1 ≠ it) : Inv X pins Z H { s with heap := h', toks := t' } := by
 have nit : ∀ b u, H b = some u -> b ≠ it := fun b u e z => by rw [z, hn] at e; cases e
 refine I.step (g' := s.gens) (d' := s.drawn) (ch := [it]) (fun b hb => ?_) (fun b o _ _ hc e _ => k b o (fun z => hc (by simp [z])) e) (fun b o _ _ hc e _ => ⟨o.slots, k b o (fun z => hc (by simp [z])) e⟩) (fun _ _ _ _ n => n)
  (fun b o hc e => ⟨o, k b o (fun z => hc (by simp [z])) e⟩) (fun _ _ e => e) (fun _ _ _ e => e) (fun b ps e => ⟨#[], by rw [e]; simp⟩) (fun m hm => ?_) (fun b u e => ?_) I.bare
 ·have e : b = it := by simpa using hb
  subst e
  exact ⟨h1, hL, h2, h3⟩
 ·obtain ⟨o, es, ep, ho, r⟩ := hm
  exact ⟨o, es, ep, k _ o (Ne.symm hL) ho, r⟩
 ·refine (I.hok b u e).stay (fun c v hc q => k c v ?_ q) (fun _ q => q) fun _ _ q => q
  rcases hc with z | z
  ·rw [z]; exact nit b u e
  ·exact nit c _ z
theorem Inv.tok (I : Inv X pins Z H s) (t : Nat) : Inv X pins Z H { s with toks := t } := I.un (h' := s.heap) (t' := t) Un.refl I.hok
theorem Inv.kept {t' : Nat} (I : Inv X pins Z H s) (k : ∀ b u, s.heap.get? b = some u -> h'.get? b = some u) : Inv X pins Z H { s with heap := h', toks := t' } := I.un (Un.kept k) (I.hok.kept k)
theorem Inv.laid {a : Addr} {o : HO} {t' : Nat} (I : Inv X pins Z H s) (k : ∀ b u, s.heap.get? b = some u -> h'.get? b = some u) (hp : s.heap.objs.size <= a) (new : ObjOk X.prog X.w (upd H a o) h' a o) :
  Inv X pins Z (upd H a o) { s with heap := h', toks := t' } := I.un (Un.laid k hp (I.hok.fresh hp)) (I.hok.laid k hp new)
theorem Inv.write {x e : Addr} {o : HO} {t' : Nat} (I : Inv X pins Z H s) (mu : Mut (H x)) (he : e = x \/ H e = some (.own x)) (k : ∀ b u, b ≠ e -> s.heap.get? b = some u -> h'.get? b = some u) (heo : ∃ u, h'.get? e = some u)
  (new : ObjOk X.prog X.w (upd H x o) h' x o) : Inv X pins Z (upd H x o) { s with heap := h', toks := t' } := I.un (Un.write mu he k heo) (I.hok.write mu he k heo new)
theorem Inv.pins_of {pins' : List (Addr × Obj)} (I : Inv X pins Z H s) (h : ∀ p ∈ pins', s.heap.get? p.1 = some p.2 /\ H p.1 = none /\ p.1 ≠ X.env.locals /\ p.1 ∉ X.fs /\ ∀ v, p.2.data ≠ .cell v) : Inv X pins' Z H s :=
 ⟨I.ok, I.os, I.bare, I.base, I.loc, I.cell, I.free, I.freeC, fun p hp => (List.mem_append.mp hp).elim (fun z => I.pin p (List.mem_append_left _ z)) (h p), I.hok, I.len⟩
theorem nodup_ix {N : List Str} (hN : N.Nodup) {i j : Nat} {x : Str} (a : N[i]? = some x) (b : N[j]? = some x) : i = j := by
 obtain ⟨h1, e1⟩ := List.getElem?_eq_some_iff.mp a
 obtain ⟨h2, e2⟩ := List.getElem?_eq_some_iff.mp b
 exact (List.getElem_inj hN).mp (e1.trans e2.symm)
theorem store_ok2 {M : Model} {A : Around} {E : Value -> Shared -> Prop} {i : Nat} {x : Str} {v : V} {u : Value} {Q : Unit -> Shared -> Prop} (I : Inv X pins Z H s) (hN : X.N.Nodup) (hi : X.N[i]? = some x) (hx : Loc X.env.scope x) (r : RelV v u)
  (h : ∀ s', Inv X pins (Z.set i (some v)) H s' -> (∃ a, Heap.SameBut a s.heap s'.heap /\ (a = X.env.locals \/ X.env.cells.lookup x = some a)) -> Q () s') (hf : X.fn x = true \/ X.env.scope.names.lookup x = some .local := by first | exact .inl rfl | exact .inr rfl | assumption) : wpAny M A (storeName X.env x u) Q E s := by
 obtain ⟨m, hn, hl⟩ := id I.loc
 have hcls : (X.env.scope.kind == .class || (X.env.scope.kind == .module && X.env.locals != X.env.globals)) = false := by rw [I.ok.kind]; rfl
 have hiZ : i < Z.length := by rw [I.len]; exact (List.getElem?_eq_some_iff.mp hi).1
 have cne := I.cne
 have tracked : ∀ {a : Addr} {h' : Heap}, (∃ o, s.heap.get? a = some o /\ H a = none) -> Heap.SameBut a s.heap h' -> HOk X.prog X.w H h' := fun {a h'} ha hs b ob e => by
  obtain ⟨_, _, hfree⟩ := ha
  refine (I.hok b ob e).stay (fun c w' hc q => (hs.2 c ?_).trans q) (fun _ q => q) fun _ _ q => q
  rintro rfl
  rcases hc with rfl | hc
  ·rw [hfree] at e; cases e
  ·rw [hfree] at hc; cases hc
 rcases hx with hk | hk
 ·refine wpAny_storeName_local hk hn (fun h' hn' hs => ?_) hcls
  obtain ⟨oL, _, _, hoL, _⟩ := id hn
  refine h _ ⟨I.ok, I.os, I.bare, ⟨fun b o e n hb hx => ?_, fun b o e n hb hx => ?_, I.base.free, fun b o e hx => ?_, I.base.tups, I.base.frzs, I.base.tbls⟩, ⟨_, hn', fun j y v' e1 e2 e3 => ?_⟩, fun y c e => ?_, I.free, I.freeC, fun p hp => ?_, tracked ⟨oL, hoL, I.free⟩ hs, by simpa using I.len⟩ ⟨_, hs, .inl rfl⟩
  ·exact (hs.2 b (Nat.ne_of_lt (Nat.lt_of_lt_of_le (Heap.lt_size e) I.ok.above))).trans (I.base.keep b o e n hb hx)
  ·obtain ⟨sl, e1⟩ := I.base.slot b o e n hb hx
   exact ⟨sl, (hs.2 b (Nat.ne_of_lt (Nat.lt_of_lt_of_le (Heap.lt_size e) I.ok.above))).trans e1⟩
  ·obtain ⟨o', e1⟩ := I.base.there b o e hx
   exact ⟨o', (hs.2 b (Nat.ne_of_lt (Nat.lt_of_lt_of_le (Heap.lt_size e) I.ok.above))).trans e1⟩
  ·by_cases hj : j = i
   ·subst hj
    rw [hi] at e1; cases e1
    rw [List.getElem?_set_self hiZ] at e2
    cases e2
    exact ⟨u, r, .inl ⟨hk, by simp⟩⟩
   ·rw [List.getElem?_set_ne (Ne.symm hj)] at e2
    obtain ⟨u', r', q⟩ := hl j y v' e1 e2 e3
    refine ⟨u', r', ?_⟩
    rcases q with ⟨k, e⟩ | ⟨k, c, e, z⟩
    ·refine .inl ⟨k, ?_⟩
     have : y ≠ x := fun e => hj (nodup_ix hN e1 (e ▸ hi))
     simp [this, e]
    ·exact .inr ⟨k, c, e, z.sameBut hs (cne y c e)⟩
  ·obtain ⟨w', z⟩ := I.cell y c e
   exact ⟨w', z.sameBut hs (cne y c e)⟩
  ·obtain ⟨e, n, ne, nf, d⟩ := I.pin p hp
   exact ⟨(hs.2 p.1 ne).trans e, n, ne, nf, d⟩
 ·have hfn : X.fn x = true := by
   rcases hf with z | z
   ·exact z
   ·rw [z] at hk; cases hk
  obtain ⟨c, hc⟩ := I.ok.has x (.inl hk)
  obtain ⟨w', z⟩ := I.cell x c hc
  refine wpAny_storeName_cell I.ok.kind hk hc z (fun h' hc' hs => ?_)
  obtain ⟨oc, hoc, hocd⟩ := id z
  refine h { s with heap := h' } ⟨I.ok, I.os, I.bare, ⟨fun b o e n hb hx => ?_, fun b o e n hb hx => ?_, I.base.free, fun b o e hx => ?_, I.base.tups, I.base.frzs, I.base.tbls⟩, ⟨m, hn.sameBut hs (Ne.symm (cne x c hc)), fun j y v' e1 e2 e3 => ?_⟩, fun y c' e => ?_, I.free, I.freeC, fun p hp => ?_, tracked ⟨oc, hoc, I.freeC x c hc⟩ hs, by simpa using I.len⟩ ⟨c, hs, .inr hc⟩
  ·exact (hs.2 b (Nat.ne_of_lt (Nat.lt_of_lt_of_le (Heap.lt_size e) (I.ok.cab x c hfn hc)))).trans (I.base.keep b o e n hb hx)
  ·obtain ⟨sl, e1⟩ := I.base.slot b o e n hb hx
   exact ⟨sl, (hs.2 b (Nat.ne_of_lt (Nat.lt_of_lt_of_le (Heap.lt_size e) (I.ok.cab x c hfn hc)))).trans e1⟩
  ·obtain ⟨o', e1⟩ := I.base.there b o e hx
   exact ⟨o', (hs.2 b (Nat.ne_of_lt (Nat.lt_of_lt_of_le (Heap.lt_size e) (I.ok.cab x c hfn hc)))).trans e1⟩
  ·by_cases hj : j = i
   ·subst hj
    rw [hi] at e1; cases e1
    rw [List.getElem?_set_self hiZ] at e2
    cases e2
    exact ⟨u, r, .inr ⟨.inl hk, c, hc, hc'⟩⟩
   ·rw [List.getElem?_set_ne (Ne.symm hj)] at e2
    obtain ⟨u', r', q⟩ := hl j y v' e1 e2 e3
    refine ⟨u', r', ?_⟩
    rcases q with q | ⟨k, c', e, z'⟩
    ·exact .inl q
    ·refine .inr ⟨k, c', e, z'.sameBut hs ?_⟩
     rintro rfl
     exact hj (nodup_ix hN e1 (I.ok.inj _ _ _ e hc ▸ hi))
  ·by_cases hcc : c' = c
   ·subst hcc; exact ⟨_, hc'⟩
   ·obtain ⟨w2, z2⟩ := I.cell y c' e
    exact ⟨w2, z2.sameBut hs hcc⟩
  ·obtain ⟨e, n, ne, nf, d⟩ := I.pin p hp
   refine ⟨(hs.2 p.1 ?_).trans e, n, ne, nf, d⟩
   intro q
   rw [q, hoc] at e
   have q' : oc = p.2 := Option.some.inj e
   exact d w' (by rw [<- q']; exact hocd)
theorem store_ok {M : Model} {A : Around} {E : Value -> Shared -> Prop} {i : Nat} {x : Str} {v : V} {u : Value} {Q : Unit -> Shared -> Prop} (I : Inv X pins Z H s) (hN : X.N.Nodup) (hi : X.N[i]? = some x) (hx : Loc X.env.scope x) (r : RelV v u)
  (h : ∀ s', Inv X pins (Z.set i (some v)) H s' -> Q () s') (hf : X.fn x = true \/ X.env.scope.names.lookup x = some .local := by first | exact .inl rfl | exact .inr rfl | assumption) : wpAny M A (storeName X.env x u) Q E s :=
 store_ok2 I hN hi hx r (fun s' I' _ => h s' I') hf
theorem Inv.call' {s' : Shared} {ch : List Addr} (I : Inv X pins Z H s) (ho : s'.os = s.os) (u : Un (frs X.stack) ch H H' s.heap s'.heap) (hok : HOk X.prog X.w H' s'.heap) (hg : AllBare s'.gens)
  (hch : ∀ b ∈ ch, (b ∈ X.ex \/ X.s₀.heap.objs.size <= b) /\ b ≠ X.env.locals /\ (∀ x c, X.env.cells.lookup x = some c -> c ≠ b) /\ ∀ p ∈ X.pn ++ pins, p.1 ≠ b) : Inv X pins Z H' s' := by
 obtain ⟨h', g', d', t', o'⟩ := s'
 have e : o' = s.os := ho
 subst e
 exact I.call (g' := g') (t' := t') (d' := d') u hok hg hch
end
noncomputable abbrev XK := Value -> Option Addr -> Hp -> Prop
noncomputable abbrev St := List (Option V)
noncomputable abbrev VK := V -> Hp -> Prop
noncomputable abbrev TE := St -> Hp -> VK -> Prop
noncomputable abbrev TT := St -> Hp -> (Bool -> Hp -> Prop) -> Prop
noncomputable abbrev TA := St -> Hp -> (List V -> Hp -> Prop) -> Prop
structure Ends where
 nx : St -> Hp -> Prop
 rt : VK
 bk : St -> Hp -> Prop := fun _ _ => False
 ct : St -> Hp -> Prop := fun _ _ => False
noncomputable abbrev TS := Ends -> St -> Hp -> Prop
inductive EP (X : Cx) (pins : List (Addr × Obj)) (Z : St) (Q : VK) (u : Value) (s' : Shared) : Prop
 | mk : ∀ v H', (Inv X pins Z H' s') -> (RelV v u) -> (Q v H') -> EP X pins Z Q u s'
noncomputable def TP (X : Cx) (pins : List (Addr × Obj)) (Z : St) (Q : Bool -> Hp -> Prop) (b : Bool) (s' : Shared) : Prop := ∃ H', Inv X pins Z H' s' /\ Q b H'
inductive AP (X : Cx) (pins : List (Addr × Obj)) (Z : St) (Q : List V -> Hp -> Prop) (us : List Value) (s' : Shared) : Prop
 | mk : ∀ vs H', (Inv X pins Z H' s') -> (Vals vs us) -> (Q vs H') -> AP X pins Z Q us s'
noncomputable def SP (X : Cx) (pins : List (Addr × Obj)) (D : Ends) (f : Flow) (s' : Shared) : Prop :=
 match f with
 | .next => ∃ Z' H', Inv X pins Z' H' s' /\ D.nx Z' H'
 | .brk => ∃ Z' H', Inv X pins Z' H' s' /\ D.bk Z' H'
 | .cont => ∃ Z' H', Inv X pins Z' H' s' /\ D.ct Z' H'
 | .ret u => ∃ v Z' H', Inv X pins Z' H' s' /\ RelV v u /\ D.rt v H'
noncomputable def PE (X : Cx) (e : Expr) (t : TE) : Prop :=
 ∀ (pins : List (Addr × Obj)) (s : Shared) (Z : St) (H : Hp) (Q : VK), Inv X pins Z H s -> t Z H Q -> wpAny (model X.prog X.w) X.A (eval e X.env) (EP X pins Z Q) X.xe s
noncomputable def PT (X : Cx) (e : Expr) (t : TT) : Prop :=
 ∀ (pins : List (Addr × Obj)) (s : Shared) (Z : St) (H : Hp) (Q : Bool -> Hp -> Prop), Inv X pins Z H s -> t Z H Q -> wpAny (model X.prog X.w) X.A (isTrue e X.env (eval e X.env)) (TP X pins Z Q) X.xe s
noncomputable def PW (X : Cx) (e : Expr) (t : TT) : Prop :=
 ∀ (whole : Sem Value) (pins : List (Addr × Obj)) (s : Shared) (Z : St) (H : Hp) (Q : Bool -> Hp -> Prop), Inv X pins Z H s -> t Z H Q -> wpAny (model X.prog X.w) X.A (isTrue e X.env whole) (TP X pins Z Q) X.xe s
theorem PW.pt {X : Cx} {e : Expr} {t : TT} (h : PW X e t) : PT X e t := h _
noncomputable def PA (X : Cx) (es : List Expr) (t : TA) : Prop :=
 ∀ (pos : Pos) (pins : List (Addr × Obj)) (s : Shared) (Z : St) (H : Hp) (Q : List V -> Hp -> Prop), Inv X pins Z H s -> t Z H Q -> wpAny (model X.prog X.w) X.A (spliced (backTo pos (starEach es X.env))) (AP X pins Z Q) X.xe s
noncomputable def PS (X : Cx) (st : Stmt) (t : TS) : Prop :=
 ∀ (pins : List (Addr × Obj)) (s : Shared) (Z : St) (H : Hp) (D : Ends), Inv X pins Z H s -> t D Z H -> wpAny (model X.prog X.w) X.A (exec st X.env) (SP X pins D) X.xe s
noncomputable def PSs (X : Cx) (st : List Stmt) (t : TS) : Prop :=
 ∀ (pins : List (Addr × Obj)) (s : Shared) (Z : St) (H : Hp) (D : Ends), Inv X pins Z H s -> t D Z H -> wpAny (model X.prog X.w) X.A (execs st X.env) (SP X pins D) X.xe s
theorem thn {α : Type} {t : Sem α} {Q Q' : α -> Shared -> Prop} {M : Model} {A : Around} {E : Value -> Shared -> Prop} {s : Shared} (h : wpAny M A t Q E s) (hQ : ∀ a s, Q a s -> Q' a s) : wpAny M A t Q' E s := wpAny_mono h hQ fun _ _ x => x
section
variable {X : Cx}
theorem bin {a b : Expr} {ta tb : TE} (ha : PE X a ta) (hb : PE X b tb) {pins : List (Addr × Obj)} {s : Shared} {Z : St} {H : Hp} {R : V -> V -> Hp -> Prop} (I : Inv X pins Z H s) (h : ta Z H fun x H1 => tb Z H1 fun y H2 => R x y H2)
  {α : Type} {Q : α -> Shared -> Prop} {f : Value -> Value -> Sem α}
  (hf : ∀ v u s2 x y H2, Inv X pins Z H2 s2 -> RelV x v -> RelV y u -> R x y H2 -> wpAny (model X.prog X.w) X.A (f v u) Q X.xe s2) :
  wpAny (model X.prog X.w) X.A (eval a X.env) (fun v s₁ => wpAny (model X.prog X.w) X.A (eval b X.env) (fun u s₂ => wpAny (model X.prog X.w) X.A (f v u) Q X.xe s₂) X.xe s₁) X.xe s := by
 refine thn (ha pins s Z H _ I h) fun v s1 ⟨x, H1, I1, r1, q1⟩ => ?_
 refine thn (hb pins s1 Z H1 _ I1 q1) fun u s2 ⟨y, H2, I2, r2, q2⟩ => ?_
 exact hf v u s2 x y H2 I2 r1 r2 q2
inductive tVar (i : Nat) (Z : St) (H : Hp) (Q : VK) : Prop
 | mk : ∀ v, (Z[i]? = some (some v)) -> (Q v H) -> tVar i Z H Q
noncomputable def tC (v : V) : TE := fun _ H Q => Q v H
theorem pe_var {i : Nat} {x : Str} {pos : Pos} (hN : X.N[i]? = some x) (hv : Vis X.env.scope x) (hd : (x == ("__debug__" : Str)) = false := by decide) (hcd : (x == ("__classdict__" : Str)) = false := by decide) : PE X (.Name x pos) (tVar i) := by
 intro pins s Z H Q I h
 obtain ⟨v, e, h⟩ := h
 obtain ⟨m, hn, hl⟩ := I.loc
 obtain ⟨u, r, l⟩ := hl i x v hN e hv
 have fin : EP X pins Z Q u s := ⟨v, H, I, r, h⟩
 rcases l with ⟨hk, hm⟩ | ⟨hk, c, hc, hcell⟩
 ·exact wpAny_Name (wpAny_loadName_local I.ok.kind hk hn hm fin) hd
 ·rcases hk with hk | hk
  ·exact wpAny_Name (wpAny_loadName_cell I.ok.kind hk hc hcell fin) hd
  ·exact wpAny_Name (wpAny_loadName_free I.ok.kind hk hc hcell fin hcd) hd
theorem pe_int {i j pos} : PE X (.Constant (.int i) j pos) (tC (.int i)) := fun _ _ _ H _ I h => wpAny_Constant_int ⟨.int i, H, I.tok _, ⟨_, rfl⟩, h⟩
theorem pe_bl {b j pos} : PE X (.Constant (.bool b) j pos) (tC (.bl b)) := fun _ _ _ H _ I h => Constant_bool ⟨.bl b, H, I, rfl, h⟩
theorem pe_non {j pos} : PE X (.Constant .none j pos) (tC .non) := fun _ _ _ H _ I h => Constant_none ⟨.non, H, I, rfl, h⟩
theorem pe_str {x j pos} : PE X (.Constant (.str x) j pos) (tC (.str x)) := fun _ _ _ H _ I h => Calls.Constant_str ⟨.str x, H, I.tok _, ⟨_, rfl⟩, h⟩
noncomputable def Gl (X : Cx) (x : Str) : Prop := X.env.kindOf x = some .globalImplicit
theorem ld_glob {E : Value -> Shared -> Prop} {pins : List (Addr × Obj)} {s : Shared} {Z : St} {H : Hp} {x : Str} {u : Value} {pos : Pos} {Q : Value -> Shared -> Prop} (I : Inv X pins Z H s) (hg : Gl X x) (hm : X.mg x = some u) (h : Q u s)
  (hd : (x == ("__debug__" : Str)) = false := by decide) : wpAny (model X.prog X.w) X.A (eval (.Name x pos) X.env) Q E s :=
 Calls.Name_function_global I.ok.kind hg (Calls.loadGlobal_global (by rw [I.ok.glob]; exact I.mod.glob.keeps I.bk) hm h) hd
theorem ld_blt {E : Value -> Shared -> Prop} {pins : List (Addr × Obj)} {s : Shared} {Z : St} {H : Hp} {x : Str} {u : Value} {pos : Pos} {Q : Value -> Shared -> Prop} (I : Inv X pins Z H s) (hg : Gl X x) (hm : X.mg x = none) (hv : bootBuiltins x = some u) (h : Q u s)
  (hn : x ≠ "__name__" := by decide) (hd : (x == ("__debug__" : Str)) = false := by decide) : wpAny (model X.prog X.w) X.A (eval (.Name x pos) X.env) Q E s := by
 obtain ⟨mb, h1, h2⟩ := I.mod.blt
 exact Calls.Name_function_global I.ok.kind hg (Calls.loadGlobal_builtin (by rw [I.ok.glob]; exact I.mod.glob.keeps I.bk) hm (by rw [I.ok.blt]; exact h1.keeps I.bk) ((h2 x hn).trans hv) h) hd
theorem pe_glob {x : Str} {v : V} {u : Value} {pos : Pos} (hg : Gl X x) (hm : X.mg x = some u) (r : RelV v u) (hd : (x == ("__debug__" : Str)) = false := by decide) : PE X (.Name x pos) (tC v) :=
 fun _ _ _ H _ I h => ld_glob I hg hm ⟨v, H, I, r, h⟩ hd
theorem pe_bltn {x : Str} {v : V} {u : Value} {pos : Pos} (hg : Gl X x) (hm : X.mg x = none) (hv : bootBuiltins x = some u) (r : RelV v u) (hn : x ≠ "__name__" := by decide) (hd : (x == ("__debug__" : Str)) = false := by decide) : PE X (.Name x pos) (tC v) :=
 fun _ _ _ H _ I h => ld_blt I hg hm hv ⟨v, H, I, r, h⟩ hn hd
variable {a b : Expr} {ta tb : TE} {pos : Pos}
noncomputable def PC (X : Cx) (op : CmpOp) (a b : Expr) (t : TE) : Prop :=
 ∀ (pins : List (Addr × Obj)) (s : Shared) (Z : St) (H : Hp) (Q : VK), Inv X pins Z H s -> t Z H Q ->
  wpAny (model X.prog X.w) X.A (eval a X.env) (fun v s₁ => wpAny (model X.prog X.w) X.A (eval b X.env) (fun u s₂ => wpAny (model X.prog X.w) X.A (compareOp op v u) (EP X pins Z Q) X.xe s₂) X.xe s₁) X.xe s
inductive rBl  (x : V) (H1 : Hp) (Q : (Bool -> Hp -> Prop)) : Prop
 | mk : ∀ c, (x = .bl c) -> (Q c H1) -> rBl x H1 Q
noncomputable def tB (t : TE) : TT := fun Z H Q => t Z H fun x H1 => rBl x H1 Q
theorem pe_cmp {op : CmpOp} {t : TE} (h : PC X op a b t) (h1 : behindInMarks op b = false := by first | exact nobehind _ (by decide) (by decide) | rfl) : PE X (.Compare a [op] [b] pos) t := fun pins s Z H Q I hw => wpAny_Compare1 (h pins s Z H Q I hw) h1
theorem pt_cmp {op : CmpOp} {t : TE} (h : PC X op a b t) (h1 : behindInMarks op b = false := by first | exact nobehind _ (by decide) (by decide) | rfl) : PT X (.Compare a [op] [b] pos) (tB t) := by
 intro pins s Z H Q I hw
 refine wpAny_isTrue_Compare1 (thn (h pins s Z H _ I hw) fun v s1 h1 => thn h1 fun u s2 h2 => thn h2 fun c s3 ⟨x, H1, I1, r1, q1⟩ => ?_) h1
 obtain ⟨d, rfl, q⟩ := q1
 cases r1
 exact wpAny_truthy_bool ⟨H1, I1, q⟩
theorem pt_val {e : Expr} {t : TE} (h : PE X e t) (he : ∀ whole, isTrue e X.env whole = (do let v <- whole; standAt e.pos; holding [v] (truthy v)) := by intro _; rfl) : PT X e (tB t) := by
 intro pins s Z H Q I hw
 refine isTrue_plain (thn (h pins s Z H _ I hw) fun v s1 ⟨x, H1, I1, r1, q1⟩ => ?_) (he _)
 obtain ⟨d, rfl, q⟩ := q1
 cases r1
 exact wpAny_truthy_bool ⟨H1, I1, q⟩
variable {tA tB' : TT} {rest : List Expr}
noncomputable def tAnd (t u : TT) : TT := fun Z H Q => t Z H fun c H1 => if c = true then u Z H1 Q else Q false H1
noncomputable def tOr (t u : TT) : TT := fun Z H Q => t Z H fun c H1 => if c = true then Q true H1 else u Z H1 Q
noncomputable def tNot (t : TT) : TT := fun Z H Q => t Z H fun c H1 => Q (!c) H1
theorem pw_and1 (ha : PT X a tA) : PW X (.BoolOp .And [a] pos) tA := by
 intro wh pins s Z H Q I h
 refine isTrue_and (thn (ha pins s Z H Q I h) fun c s1 e => ?_)
 cases c with
 | true => exact isTrue_and_nil e
 | false => exact e
theorem pw_or1 (ha : PT X a tA) : PW X (.BoolOp .Or [a] pos) tA := by
 intro wh pins s Z H Q I h
 refine isTrue_or (thn (ha pins s Z H Q I h) fun c s1 e => ?_)
 cases c with
 | false => exact isTrue_or_nil e
 | true => exact e
theorem pw_and (ha : PT X a tA) (hb : PW X (.BoolOp .And (b :: rest) pos) tB') : PW X (.BoolOp .And (a :: b :: rest) pos) (tAnd tA tB') := by
 intro wh pins s Z H Q I h
 refine isTrue_and (thn (ha pins s Z H _ I h) fun c s1 ⟨H1, I1, q1⟩ => ?_)
 cases c with
 | true => exact hb wh pins s1 Z H1 Q I1 q1
 | false => exact ⟨H1, I1, q1⟩
theorem pw_or (ha : PT X a tA) (hb : PW X (.BoolOp .Or (b :: rest) pos) tB') : PW X (.BoolOp .Or (a :: b :: rest) pos) (tOr tA tB') := by
 intro wh pins s Z H Q I h
 refine isTrue_or (thn (ha pins s Z H _ I h) fun c s1 ⟨H1, I1, q1⟩ => ?_)
 cases c with
 | true => exact ⟨H1, I1, q1⟩
 | false => exact hb wh pins s1 Z H1 Q I1 q1
theorem pt_not (ha : PT X a tA) : PT X (.UnaryOp .Not a pos) (tNot tA) := by
 intro pins s Z H Q I h
 exact isTrue_not (ha pins s Z H (fun c H1 => Q (!c) H1) I h)
noncomputable def tAndV (ta tb : TE) : TE := fun Z H Q => ta Z H fun x H1 => ∃ c, x = .bl c /\ if c = true then tb Z H1 Q else Q (.bl false) H1
noncomputable def tNotV (ta : TE) : TE := fun Z H Q => ta Z H fun x H1 => ∃ c, x = .bl c /\ Q (.bl (!c)) H1
theorem pe_one {op} {t : TE} (h : PE X a t) : PE X (.BoolOp op [a] pos) t := fun pins s Z H Q I hw => BoolOp_one (h pins s Z H Q I hw)
theorem pe_and (ha : PE X a ta) (hb : PE X (.BoolOp .And (b :: rest) pos) tb) : PE X (.BoolOp .And (a :: b :: rest) pos) (tAndV ta tb) := by
 intro pins s Z H Q I h
 refine BoolOp_and (thn (ha pins s Z H _ I h) fun v s1 ⟨x, H1, I1, r1, q1⟩ => ?_)
 obtain ⟨c, rfl, q1⟩ := q1
 cases r1
 refine wpAny_truthy_bool ?_
 cases c with
 | true => exact hb pins s1 Z H1 Q I1 q1
 | false => exact ⟨.bl false, H1, I1, rfl, q1⟩
theorem pe_not (ha : PE X a ta) : PE X (.UnaryOp .Not a pos) (tNotV ta) := by
 intro pins s Z H Q I h
 refine UnaryOp_ (thn (ha pins s Z H _ I h) fun v s1 ⟨x, H1, I1, r1, q1⟩ => ?_)
 obtain ⟨c, rfl, q1⟩ := q1
 cases r1
 exact not_of (wpAny_truthy_bool ⟨.bl (!c), H1, I1, rfl, q1⟩)
noncomputable def tIf (t : TT) (ta tb : TE) : TE := fun Z H Q => t Z H fun c H1 => if c = true then ta Z H1 Q else tb Z H1 Q
theorem pe_ifExp {c : Expr} (hc : PT X c tA) (ha : PE X a ta) (hb : PE X b tb) : PE X (.IfExp c a b pos) (tIf tA ta tb) := by
 intro pins s Z H Q I h
 refine wpAny_IfExp (thn (hc pins s Z H _ I h) fun d s1 ⟨H1, I1, q1⟩ => ?_)
 cases d with
 | true => exact ha pins s1 Z H1 Q I1 q1
 | false => exact hb pins s1 Z H1 Q I1 q1
end
noncomputable def SqL (K : PySem.W.Frag) (H : Hp) (a : Addr) (xs : List V) : Prop :=
 Rd H a (.lst xs) \/
  ∃ (o : Obj) (its : Array Value) (n : Nat), K.lookup a = some o /\ o.cls = .type "list" /\ o.dict = none /\ o.data = .seq its n /\ its.size <= sizeLine /\ Vals xs its.toList
noncomputable def SqT (K : PySem.W.Frag) (H : Hp) (a : Addr) (xs : List V) : Prop :=
 Rd H a (.tup xs) \/
  ∃ (o : Obj) (its : Array Value) (n : Nat), K.lookup a = some o /\ o.cls = .type "tuple" /\ o.data = .seq its n /\ its.size <= sizeLine /\ Vals xs its.toList
noncomputable def absV : Value -> Option V
 | .none => some .non
 | .bool b => some (.bl b)
 | .int i _ => some (.int i)
 | .str x _ => some (.str x)
 | .bytes b _ => some (.byt b)
 | .float b _ => some (.flt b)
 | .ref a => some (.ref a)
 | .type n => some (.ty n)
 | _ => none
theorem RelV.abs {x : V} {u : Value} (r : RelV x u) : absV u = some x := by
 cases x with
 | non => cases r; rfl
 | bl _ => cases r; rfl
 | int _ => obtain ⟨t, rfl⟩ := r; rfl
 | str _ => obtain ⟨t, rfl⟩ := r; rfl
 | byt _ => obtain ⟨t, rfl⟩ := r; rfl
 | flt _ => obtain ⟨t, rfl⟩ := r; rfl
 | ref _ => cases r; rfl
 | ty _ => cases r; rfl
theorem RelV.inj {x y : V} {u : Value} (r : RelV x u) (q : RelV y u) : x = y := Option.some.inj (r.abs.symm.trans q.abs)
theorem Vals.inj : ∀ {xs ys : List V} {us : List Value}, Vals xs us -> Vals ys us -> xs = ys
 | _, _, _, .nil, .nil => rfl
 | _, _, _, .cons r t, .cons r' t' => by rw [r.inj r', Vals.inj t t']
section
variable {X : Cx} {pins : List (Addr × Obj)} {Z : St} {H : Hp} {s : Shared} {a : Addr} {xs ys : List V}
theorem SqL.of {K : PySem.W.Frag} (h : H a = some (.lst xs)) : SqL K H a xs := .inl (.inl h)
theorem SqT.of {K : PySem.W.Frag} (h : H a = some (.tup xs)) : SqT K H a xs := .inl (.inl h)
theorem Inv.list (I : Inv X pins Z H s) (h : SqL X.K H a xs) : ∃ its : List Value, Vals xs its /\ PlainL s.heap a its.toArray /\ xs.length <= sizeLine := by
 rcases h with h | ⟨o, its, n, hk, hc, hd, hs, hz, r⟩
 ·obtain ⟨z, its, n, r, e⟩ := h.ok I.hok
  exact ⟨its, r, ⟨_, n, e, rfl, rfl, rfl⟩, z⟩
 ·refine ⟨its.toList, r, ⟨o, n, I.kIn a o hk, hc, hd, by simpa using hs⟩, ?_⟩
  have e := r.length
  simp only [Array.length_toList] at e
  lia
theorem Inv.tuple (I : Inv X pins Z H s) (h : SqT X.K H a xs) : ∃ its : List Value, Vals xs its /\ IsTup s.heap a its.toArray /\ xs.length <= sizeLine := by
 rcases h with h | ⟨o, its, n, hk, hc, hs, hz, r⟩
 ·obtain ⟨z, its, r, p⟩ := h.ok I.hok
  exact ⟨its, r, p, z⟩
 ·refine ⟨its.toList, r, ⟨o, I.kIn a o hk, hc, n, by simpa using hs⟩, ?_⟩
  have e := r.length
  simp only [Array.length_toList] at e
  lia
theorem Inv.list_inj (I : Inv X pins Z H s) (h : SqL X.K H a xs) (h' : SqL X.K H a ys) : xs = ys := by
 obtain ⟨its, r, ⟨o, n, e, _, _, d⟩, _⟩ := I.list h
 obtain ⟨its', r', ⟨o', n', e', _, _, d'⟩, _⟩ := I.list h'
 rw [e] at e'; cases e'
 rw [d] at d'
 injection d' with d1 _
 have : its = its' := by simpa using congrArg Array.toList d1
 subst this
 exact r.inj r'
theorem Inv.tuple_inj (I : Inv X pins Z H s) (h : SqT X.K H a xs) (h' : SqT X.K H a ys) : xs = ys := by
 obtain ⟨its, r, ⟨o, e, _, n, d⟩, _⟩ := I.tuple h
 obtain ⟨its', r', ⟨o', e', _, n', d'⟩, _⟩ := I.tuple h'
 rw [e] at e'; cases e'
 rw [d] at d'
 injection d' with d1 _
 have : its = its' := by simpa using congrArg Array.toList d1
 subst this
 exact r.inj r'
end
noncomputable abbrev Cx.wish (X : Cx) (E : Value -> Shared -> Prop) : Cx := { X with xe := E }
noncomputable abbrev Cx.nox (X : Cx) : Cx := X.wish fun _ _ => False
theorem Cx.Ok.wish {X : Cx} (ok : X.Ok) (E : Value -> Shared -> Prop) : (X.wish E).Ok :=
 ⟨ok.mod, ok.kind, ok.glob, ok.blt, ok.above, ok.inj, ok.has, ok.cab, ok.hd, ok.frames, ok.stk, ok.exf, ok.bs, ok.bsz, ok.noex, ok.exfs, ok.funs, ok.frf⟩
theorem Cx.Ok.unwish {X : Cx} {E : Value -> Shared -> Prop} (ok : (X.wish E).Ok) : X.Ok :=
 ⟨ok.mod, ok.kind, ok.glob, ok.blt, ok.above, ok.inj, ok.has, ok.cab, ok.hd, ok.frames, ok.stk, ok.exf, ok.bs, ok.bsz, ok.noex, ok.exfs, ok.funs, ok.frf⟩
section
variable {X : Cx} {pins : List (Addr × Obj)} {Z : St} {H : Hp} {s : Shared} {E : Value -> Shared -> Prop}
theorem Inv.wish (I : Inv X pins Z H s) (E : Value -> Shared -> Prop) : Inv (X.wish E) pins Z H s := ⟨I.ok.wish E, I.os, I.bare, I.base, I.loc, I.cell, I.free, I.freeC, I.pin, I.hok, I.len⟩
theorem Inv.unwish (I : Inv (X.wish E) pins Z H s) : Inv X pins Z H s := ⟨I.ok.unwish, I.os, I.bare, I.base, I.loc, I.cell, I.free, I.freeC, I.pin, I.hok, I.len⟩
theorem SP.unwish {D : Ends} {f : Flow} {s' : Shared} (h : SP (X.wish E) pins D f s') : SP X pins D f s' := by
 cases f with
 | next => obtain ⟨Z', H', I, q⟩ := h; exact ⟨Z', H', I.unwish, q⟩
 | brk => obtain ⟨Z', H', I, q⟩ := h; exact ⟨Z', H', I.unwish, q⟩
 | cont => obtain ⟨Z', H', I, q⟩ := h; exact ⟨Z', H', I.unwish, q⟩
 | ret u => obtain ⟨v, Z', H', I, r, q⟩ := h; exact ⟨v, Z', H', I.unwish, r, q⟩
theorem PSs.nox {st : List Stmt} {t : TS} (h : PSs X.nox st t) : PSs X st t := fun pins s Z H D I hw =>
 wpAny_mono (h pins s Z H D (I.wish _) hw) (fun _ _ q => q.unwish) fun _ _ z => False.elim z
end
section
variable {X : Cx} {st : Stmt} {rest : List Stmt} {t u : TS} {e : Expr} {te : TE} {pos : Pos}
noncomputable def tNext : TS := fun D Z H => D.nx Z H
noncomputable def tSeq (t u : TS) : TS := fun D Z H => t { D with nx := u D } Z H
theorem pss_nil : PSs X [] tNext := fun _ _ Z H _ I h => wpAny_execs_nil ⟨Z, H, I, h⟩
theorem pss_cons (h1 : PS X st t) (h2 : PSs X rest u) : PSs X (st :: rest) (tSeq t u) := by
 intro pins s Z H D I h
 refine wpAny_execs_cons (thn (h1 pins s Z H { D with nx := u D } I h) fun f s1 q => ?_)
 cases f with
 | next =>
  obtain ⟨Z', H', I', q⟩ := q
  exact h2 pins s1 Z' H' D I' q
 | ret v => exact q
 | brk => exact q
 | cont => exact q
theorem pss_one (h1 : PS X st t) : PSs X [st] t := by
 intro pins s Z H D I h
 refine wpAny_execs_cons (thn (h1 pins s Z H D I h) fun f s1 q => ?_)
 cases f with
 | next => exact wpAny_execs_nil q
 | ret v => exact q
 | brk => exact q
 | cont => exact q
theorem Inv.quiet {pins : List (Addr × Obj)} {Z : St} {H : Hp} {s : Shared} (I : Inv X pins Z H s) : interactive X.env = false := by simp [interactive, I.ok.kind]
noncomputable def tDrop (te : TE) : TS := fun D Z H => te Z H fun _ H1 => D.nx Z H1
theorem ps_expr (he : PE X e te) (hs : swapsWith e none pos.line X.env = pure false := by rfl) : PS X (.Expr e pos) (tDrop te) := by
 intro pins s Z H D I h
 exact wpAny_Expr_any (thn (he pins s Z H _ I h) fun v s1 ⟨x, H1, I1, r1, q1⟩ => ⟨Z, H1, I1, q1⟩) I.quiet hs
noncomputable def tRet (te : TE) : TS := fun D Z H => te Z H D.rt
theorem ps_ret (he : PE X e te) : PS X (.Return (some e) pos) (tRet te) := by
 intro pins s Z H D I h
 exact wpAny_Return_some (thn (he pins s Z H _ I h) fun v s1 ⟨x, H1, I1, r1, q1⟩ => ⟨x, Z, H1, I1, r1, q1⟩)
noncomputable def tIfS (c : TT) (t u : TS) : TS := fun D Z H => c Z H fun b H1 => if b = true then t D Z H1 else u D Z H1
theorem ps_if {c : Expr} {a b : List Stmt} {tc : TT} (hc : PT X c tc) (ha : PSs X a t) (hb : PSs X b u) : PS X (.If c a b pos) (tIfS tc t u) := by
 intro pins s Z H D I h
 refine wpAny_If (thn (hc pins s Z H _ I h) fun d s1 ⟨H1, I1, q1⟩ => ?_)
 cases d with
 | true => exact ha pins s1 Z H1 D I1 q1
 | false => exact hb pins s1 Z H1 D I1 q1
noncomputable def tNever : TS := fun _ _ _ => False
theorem ps_never : PS X st tNever := fun _ _ _ _ _ _ h => h.elim
theorem pss_never {sts : List Stmt} : PSs X sts tNever := fun _ _ _ _ _ _ h => h.elim
end
noncomputable abbrev TG := V -> St -> Hp -> (St -> Hp -> Prop) -> Prop
noncomputable abbrev TGs := List V -> St -> Hp -> (St -> Hp -> Prop) -> Prop
noncomputable def PG (X : Cx) (target : Expr) (t : TG) : Prop :=
 ∀ (pins : List (Addr × Obj)) (s : Shared) (Z : St) (H : Hp) (v : V) (u : Value) (Q : St -> Hp -> Prop), Inv X pins Z H s -> RelV v u -> t v Z H Q ->
  wpAny (model X.prog X.w) X.A (assign target X.env u) (fun _ s' => ∃ Z' H', Inv X pins Z' H' s' /\ Q Z' H') X.xe s
noncomputable def PGs (X : Cx) (ts : List Expr) (t : TGs) : Prop :=
 ∀ (pins : List (Addr × Obj)) (s : Shared) (Z : St) (H : Hp) (vs : List V) (us : List Value) (Q : St -> Hp -> Prop), Inv X pins Z H s -> Vals vs us -> t vs Z H Q ->
  wpAny (model X.prog X.w) X.A (assignInOrder ((assignEach ts X.env).map (·.2)) us) (fun _ s' => ∃ Z' H', Inv X pins Z' H' s' /\ Q Z' H') X.xe s
noncomputable abbrev TSet := V -> V -> V -> Hp -> (Hp -> Prop) -> Prop
noncomputable def PSet (X : Cx) (t : TSet) : Prop :=
 ∀ (pins : List (Addr × Obj)) (s : Shared) (Z : St) (H : Hp) (o i v : V) (ov iv u : Value) (Q : Hp -> Prop), Inv X pins Z H s -> RelV o ov -> RelV i iv -> RelV v u -> t o i v H Q ->
  wpAny (model X.prog X.w) X.A (setItem ov iv u) (fun _ s' => ∃ H', Inv X pins Z H' s' /\ Q H') X.xe s
section
variable {X : Cx} {pos : Pos}
noncomputable def gName (i : Nat) : TG := fun v Z H Q => Q (Z.set i (some v)) H
theorem pg_name {i : Nat} {x : Str} (hN : X.N.Nodup) (hi : X.N[i]? = some x) (hx : Loc X.env.scope x) (hf : X.fn x = true \/ X.env.scope.names.lookup x = some .local := by first | exact .inl rfl | exact .inr rfl | assumption) : PG X (.Name x pos) (gName i) := by
 intro pins s Z H v u Q I r h
 exact wpAny_assign_Name (store_ok I hN hi hx r (fun s' I' => ⟨_, H, I', h⟩) hf)
noncomputable def gNil : TGs := fun vs Z H Q => vs = [] /\ Q Z H
inductive gCons (t : TG) (u : TGs) (vs : List V) (Z : St) (H : Hp) (Q : (St -> Hp -> Prop)) : Prop
 | mk : ∀ v r, (vs = v :: r) -> (t v Z H fun Z' H' => u r Z' H' Q) -> gCons t u vs Z H Q
theorem pgs_nil : PGs X [] gNil := by
 intro pins s Z H vs us Q I r h
 obtain ⟨e, h⟩ := h
 subst e
 cases r
 exact assignInOrder_nil ⟨Z, H, I, h⟩
theorem pgs_cons {e : Expr} {es : List Expr} {t : TG} {u : TGs} (h1 : PG X e t) (h2 : PGs X es u)
  (hs : (assignEach (e :: es) X.env).map (·.2) = assign e X.env :: (assignEach es X.env).map (·.2) := by rfl) : PGs X (e :: es) (gCons t u) := by
 intro pins s Z H vs us Q I r h
 obtain ⟨v, vr, e1, h⟩ := h
 subst e1
 cases r with
 | cons r rr =>
  rw [hs]
  refine assignInOrder_cons (thn (h1 pins s Z H _ _ _ I r h) fun _ s1 ⟨Z1, H1, I1, q1⟩ => ?_)
  exact h2 pins s1 Z1 H1 _ _ Q I1 rr q1
inductive gTup (K : PySem.W.Frag) (n : Nat) (t : TGs) (v : V) (Z : St) (H : Hp) (Q : (St -> Hp -> Prop)) : Prop
 | mk : ∀ a xs, (v = .ref a) -> (SqT K H a xs) -> (xs.length = n) -> (t xs Z H Q) -> gTup K n t v Z H Q
theorem pg_tup {es : List Expr} {k : Nat} {t : TGs} {n : Nat} (hc : X.calm = true) (h : PGs X es t)
  (hn : (assignEach es X.env).length = n := by rfl) (hst : (assignEach es X.env).findIdx? (·.1) = none := by rfl) : PG X (.Tuple es k pos) (gTup X.K n t) := by
 intro pins s Z H v u Q I r hw
 obtain ⟨a, xs, e1, hq, hl, hw⟩ := hw
 subst e1
 cases r
 obtain ⟨its, rv, ht, hz⟩ := I.tuple hq
 refine assign_Tuple_tuple (I.ok.hd hc) ht (by simp [hn, <- hl, rv.length]) hst fun h' hx => ?_
 have I1 : Inv X pins Z H { s with heap := h' } := I.kept (t' := s.toks) fun b o e => hx b o (Nat.ne_of_lt (Heap.lt_size e)) e
 exact h pins _ Z H xs _ Q I1 (by simpa using rv) hw
noncomputable def gSub (to ti : TE) (t : TSet) : TG := fun v Z H Q => to Z H fun o H1 => ti Z H1 fun i H2 => t o i v H2 fun H3 => Q Z H3
theorem pg_sub {o i : Expr} {to ti : TE} {t : TSet} (ho : PE X o to) (hi : PE X i ti) (hs : PSet X t)
  (ha : ∀ v, assign (.Subscript o i pos) X.env v = (do
   let ov <- holding [v] (eval o X.env)
   let iv <- holding [v, ov] (eval i X.env)
   standAt pos
   holding [v, ov, iv] (setItem ov iv v)
   release [v, ov, iv] []) := by intro _; rfl) : PG X (.Subscript o i pos) (gSub to ti t) := by
 intro pins s Z H v u Q I r h
 rw [ha]
 refine wpAny_bind (wpAny_holding (thn (ho pins s Z H _ I h) fun ov s1 ⟨x, H1, I1, r1, q1⟩ => ?_))
 refine wpAny_bind (wpAny_holding (thn (hi pins s1 Z H1 _ I1 q1) fun iv s2 ⟨y, H2, I2, r2, q2⟩ => ?_))
 refine wpAny_bind (wpAny_standAt (wpAny_bind (wpAny_holding (thn (hs pins s2 Z H2 x y v ov iv u _ I2 r1 r2 r q2) fun _ s3 ⟨H3, I3, q3⟩ => ?_))))
 exact wpAny_release ⟨Z, H3, I3, q3⟩
noncomputable def tAsg (te : TE) (g : TG) : TS := fun D Z H => te Z H fun x H1 => g x Z H1 D.nx
theorem ps_asg {tg e : Expr} {te : TE} {g : TG} (he : PE X e te) (hg : PG X tg g) (hs : swapsWithSole [tg] e pos.line X.env = pure false := by rfl) (hw : swappedStores [tg] e X.env = pure none := by rfl)
  (h1 : (assignEach [tg] X.env).map (·.2) = [assign tg X.env] := by rfl) : PS X (.Assign [tg] e pos) (tAsg te g) := by
 intro pins s Z H D I h
 refine wpAny_Assign_stores (thn (he pins s Z H _ I h) fun v s1 ⟨x, H1, I1, r1, q1⟩ => ?_) hs hw
 rw [h1]
 exact thn (hg pins s1 Z H1 x v _ I1 r1 q1) fun _ s2 q => q
theorem ps_set {i : Nat} {x : Str} {e : Expr} {te : TE} {pos' : Pos} (hN : X.N.Nodup) (hi : X.N[i]? = some x) (hx : Loc X.env.scope x) (he : PE X e te) (hs : swapsWith e (some (.Name x pos')) pos.line X.env = pure false := by rfl) (hf : X.fn x = true \/ X.env.scope.names.lookup x = some .local := by first | exact .inl rfl | exact .inr rfl | assumption) :
  PS X (.Assign [.Name x pos'] e pos) (tAsg te (gName i)) := by
 intro pins s Z H D I h
 refine wpAny_Assign_Name (thn (he pins s Z H _ I h) fun v s1 ⟨y, H1, I1, r1, q1⟩ => ?_) hs
 exact store_ok I1 hN hi hx r1 (fun s2 I2 => ⟨_, H1, I2, q1⟩) hf
end
section
variable {X : Cx} {pos : Pos}
inductive tWhile (c : TT) (tb : TS) (D : Ends) (Z : St) (H : Hp) : Prop
 | mk : ∀ (W : Nat -> St -> Hp -> Prop), ((∃ m, W m Z H)) -> (∀ m Z H, W m Z H -> c Z H fun b H1 => if b = true then ∃ N : St -> Hp -> Prop, (∀ Z' H', N Z' H' -> ∃ m', m' < m /\ W m' Z' H') /\ tb { D with nx := N, ct := N, bk := D.nx } Z H1 else D.nx Z H1) -> tWhile c tb D Z H
theorem ps_while {c : Expr} {body : List Stmt} {tc : TT} {tb : TS} (hp : PassesOwn (model X.prog X.w) X.A X.env X.xe) (hc : PT X c tc) (hb : PSs X body tb) : PS X (.While c body [] pos) (tWhile tc tb) := by
 intro pins s Z H D I h
 obtain ⟨W, ⟨m0, w0⟩, turn⟩ := h
 refine wpAny_While (codeAny_whileLoop (fun n s' => ∃ Z' H', Inv X pins Z' H' s' /\ W n Z' H') ?_ m0 ⟨Z, H, I, w0⟩)
 rintro n s1 ⟨Z1, H1, I1, w1⟩
 refine wpAny_passesOwn hp (thn (hc pins s1 Z1 H1 _ I1 (turn n Z1 H1 w1)) fun b s2 ⟨H2, I2, q2⟩ => ?_)
 cases b with
 | true =>
  obtain ⟨N, hN, q2⟩ := q2
  rw [if_pos rfl]
  refine wpAny_passesOwn hp (thn (hb pins s2 Z1 H2 _ I2 q2) fun f s3 q3 => ?_)
  cases f with
  | next =>
   obtain ⟨Z3, H3, I3, n3⟩ := q3
   obtain ⟨m', hm, w3⟩ := hN Z3 H3 n3
   exact ⟨m', hm, Z3, H3, I3, w3⟩
  | cont =>
   obtain ⟨Z3, H3, I3, n3⟩ := q3
   obtain ⟨m', hm, w3⟩ := hN Z3 H3 n3
   exact ⟨m', hm, Z3, H3, I3, w3⟩
  | brk => exact q3
  | ret v => exact q3
 | false =>
  rw [if_neg Bool.false_ne_true]
  exact wpAny_execs_nil ⟨Z1, H2, I2, q2⟩
end
structure It where
 go : Nat -> Hp -> Prop
 yld : Nat -> Hp -> V -> Hp -> Prop
 stop : Nat -> Hp -> Prop
noncomputable def FpOk (X : Cx) (pins : List (Addr × Obj)) (H : Hp) (b : Addr) : Prop :=
 H b = none /\ b ≠ X.env.locals /\ b ∉ X.fs /\ (b ∈ X.ex \/ X.s₀.heap.objs.size <= b) /\ (∀ x c, X.env.cells.lookup x = some c -> c ≠ b) /\ ∀ p ∈ X.pn ++ pins, p.1 ≠ b
theorem Inv.fpOk {X : Cx} {pins : List (Addr × Obj)} {Z : St} {H H' : Hp} {s : Shared} {b : Addr} (I : Inv X pins Z H s) (hb : s.heap.objs.size <= b) (hn : H' b = none) : FpOk X pins H' b := by
 refine ⟨hn, Nat.ne_of_gt (Nat.lt_of_lt_of_le I.lt hb), I.nofs hb, .inr (Nat.le_trans I.sz hb), fun x c e z => ?_, fun p hp z => ?_⟩
 ·obtain ⟨v, q⟩ := I.cell x c e
  exact absurd (Nat.lt_of_lt_of_le q.lt (by rw [z]; exact hb)) (Nat.lt_irrefl _)
 ·exact absurd (Nat.lt_of_lt_of_le (Heap.lt_size (I.pin p hp).1) (by rw [z]; exact hb)) (Nat.lt_irrefl _)
structure Turn (P : Program) (w : World) (K : PySem.W.Frag) (tg : Expr) (J : It) (fp : List Addr) (it : Addr) (tn : Nat -> Heap -> Prop) : Prop where
 mem : it ∈ fp
 obj : ∀ i h, tn i h -> ∀ b ∈ fp, ∃ o, h.get? b = some o /\ ∀ v, o.data ≠ .cell v
 keep : ∀ i h h', tn i h -> (∀ b ∈ fp, ∀ o, h.get? b = some o -> h'.get? b = some o) -> tn i h'
 item : ∀ (X : Cx), X.prog = P -> X.w = w -> X.K = K -> X.calm = true -> ∀ (i : Nat) (pins : List (Addr × Obj)) (s : Shared) (Z : St) (H : Hp) (E : Value -> Shared -> Prop), Inv X pins Z H s -> (∀ b ∈ fp, FpOk X pins H b) -> tn i s.heap -> J.go i H ->
  wpAny (model P w) X.A (pyNext (.ref it)) (fun r s1 => ∃ u, r = some u /\
   wpAny (model P w) X.A (letOwnedTupleGo tg (.ref it) u) (fun _ s2 => ∃ x H', Inv X pins Z H' s2 /\ RelV x u /\ J.yld i H x H' /\ tn (i + 1) s2.heap /\ ∀ b ∈ fp, H' b = none) E s1) E s
 done : ∀ (X : Cx), X.prog = P -> X.w = w -> X.K = K -> X.calm = true -> ∀ (i : Nat) (pins : List (Addr × Obj)) (s : Shared) (Z : St) (H : Hp) (E : Value -> Shared -> Prop), Inv X pins Z H s -> (∀ b ∈ fp, FpOk X pins H b) -> tn i s.heap -> J.stop i H ->
  wpAny (model P w) X.A (pyNext (.ref it)) (fun r s1 => r = none /\ Inv X pins Z H s1) E s
 self : ∀ (A : Around) (i : Nat) (s : Shared) (Q : Value -> Shared -> Prop) (E : Value -> Shared -> Prop), tn i s.heap -> Q (.ref it) s -> wpAny (model P w) A (pyIter (.ref it)) Q E s
noncomputable abbrev TI := St -> Hp -> (It -> Hp -> Prop) -> Prop
inductive PIE (X : Cx) (pins : List (Addr × Obj)) (Z : St) (tg : Expr) (R : It -> Hp -> Prop) (itv : Value) (s2 : Shared) : Prop
 | mk : ∀ (it : Addr) (fp : List Addr) (tn : Nat -> Heap -> Prop) (J : It) (H' : Hp), (itv = .ref it) -> (Inv X pins Z H' s2) -> (Turn X.prog X.w X.K tg J fp it tn) -> (tn 0 s2.heap) -> ((∀ b ∈ fp, FpOk X pins H' b)) -> (R J H') -> PIE X pins Z tg R itv s2
noncomputable def PI (X : Cx) (tg iter : Expr) (wi : TI) : Prop :=
 ∀ (pins : List (Addr × Obj)) (s : Shared) (Z : St) (H : Hp) (R : It -> Hp -> Prop), Inv X pins Z H s -> wi Z H R ->
  wpAny (model X.prog X.w) X.A (eval iter X.env) (fun v s1 => wpAny (model X.prog X.w) X.A (pyIter v) (PIE X pins Z tg R) X.xe s1) X.xe s
theorem go_of {M : Model} {A : Around} {E : Value -> Shared -> Prop} {s : Shared} {tg : Expr} {it : Addr} {u : Value} {o : Obj} {n : String} {vs : Array Value} {Q : Unit -> Shared -> Prop} (ho : s.heap.get? it = some o) (hc : o.cls = .type n) (hd : o.data = .fields vs)
  (hn : ["enumerate", "zip", "dict_itemiterator", "dict_reverseitemiterator", "odict_iterator", "itertools.zip_longest", "itertools.pairwise"].contains n = false) (hQ : Q () s) : wpAny M A (letOwnedTupleGo tg (.ref it) u) Q E s := by
 unfold letOwnedTupleGo
 cases tg <;> first
  | exact wpAny_pure hQ
  | (cases u <;> first
    | exact wpAny_pure hQ
    | (refine wpAny_bind (wpAny_load ho ?_)
       rw [hc, hd]
       show wpAny M A (if (["enumerate", "zip", "dict_itemiterator", "dict_reverseitemiterator", "odict_iterator", "itertools.zip_longest", "itertools.pairwise"].contains n && vs[0]? == some (rawInt _)) = true then _ else _) Q E s
       rw [if_neg (by intro h; rw [hn, Bool.false_and] at h; cases h)]
       exact wpAny_pure hQ))
noncomputable def Itl (K : PySem.W.Frag) (a : Addr) : It :=
 ⟨fun i H => ∃ xs x, SqL K H a xs /\ xs[i]? = some x, fun i H x H' => H' = H /\ ∀ xs, SqL K H a xs -> xs[i]? = some x, fun i H => ∃ xs, SqL K H a xs /\ xs.length <= i⟩
noncomputable def Itt (K : PySem.W.Frag) (a : Addr) : It :=
 ⟨fun i H => ∃ xs x, SqT K H a xs /\ xs[i]? = some x, fun i H x H' => H' = H /\ ∀ xs, SqT K H a xs -> xs[i]? = some x, fun i H => ∃ xs, SqT K H a xs /\ xs.length <= i⟩
noncomputable def Itr (lo : Int) (n : Nat) : It := ⟨fun i _ => i < n, fun i H x H' => H' = H /\ x = .int (lo + i), fun i _ => n <= i⟩
theorem turn_list {P : Program} {w : World} {K : PySem.W.Frag} {tg : Expr} (a it : Addr) : Turn P w K tg (Itl K a) [it] it (fun i h => h.IsListIter it a i) where
 mem := by simp
 obj := fun i h st b hb => by
  have e : b = it := by simpa using hb
  subst e
  obtain ⟨o, e, c, d⟩ := st
  exact ⟨o, e, fun v z => by rw [d] at z; cases z⟩
 keep := fun i h h' st k => st.at fun o e => k it (by simp) o e
 item := by
  intro X hP hw hK hc i pins s Z H E I hf st hg
  subst hP hw hK
  obtain ⟨xs, x, hq, hx⟩ := hg
  obtain ⟨its, rv, p, hz⟩ := I.list hq
  obtain ⟨u, hu, ru⟩ := rv.get hx
  obtain ⟨f0, f1, f2, f3, f4, f5⟩ := hf it (by simp)
  refine wpAny_pyNext_list_item st p.isList (x := u) (by simpa using hu) fun h' st' sb => ?_
  have I1 : Inv X pins Z H { s with heap := h' } := I.turned (t' := s.toks) (fun b o hb e => (sb.2 b hb).trans e) f0 f1 f3 f4 f5
  obtain ⟨o, e, c, d⟩ := id st'
  exact ⟨u, rfl, go_of (s := { s with heap := h' }) e c d (by decide) ⟨x, H, I1, ru, ⟨rfl, fun ys hy => by rw [I.list_inj hy hq]; exact hx⟩, st', fun b hb => (hf b hb).1⟩⟩
 done := by
  intro X hP hw hK hc i pins s Z H E I hf st hg
  subst hP hw hK
  obtain ⟨xs, hq, hx⟩ := hg
  obtain ⟨its, rv, p, hz⟩ := I.list hq
  obtain ⟨f0, f1, f2, f3, f4, f5⟩ := hf it (by simp)
  have hl := rv.length
  exact wpAny_pyNext_list_end (I.ok.hd hc) st p.isList (by simp; lia) fun h' eb => ⟨rfl, I.turned (t' := s.toks) (fun b o hb e => eb b o hb e) f0 f1 f3 f4 f5⟩
 self := fun _ _ _ _ _ st h => wpAny_pyIter_listiter st h
theorem turn_tuple {P : Program} {w : World} {K : PySem.W.Frag} {tg : Expr} (a it : Addr) : Turn P w K tg (Itt K a) [it] it (fun i h => h.IsTupleIter it a i) where
 mem := by simp
 obj := fun i h st b hb => by
  have e : b = it := by simpa using hb
  subst e
  obtain ⟨o, e, c, d⟩ := st
  exact ⟨o, e, fun v z => by rw [d] at z; cases z⟩
 keep := fun i h h' st k => st.at fun o e => k it (by simp) o e
 item := by
  intro X hP hw hK hc i pins s Z H E I hf st hg
  subst hP hw hK
  obtain ⟨xs, x, hq, hx⟩ := hg
  obtain ⟨its, rv, p, hz⟩ := I.tuple hq
  obtain ⟨u, hu, ru⟩ := rv.get hx
  obtain ⟨f0, f1, f2, f3, f4, f5⟩ := hf it (by simp)
  refine wpAny_pyNext_tuple_item st (show s.heap.IsTuple a its.toArray from p) (x := u) (by simpa using hu) fun h' st' sb => ?_
  have I1 : Inv X pins Z H { s with heap := h' } := I.turned (t' := s.toks) (fun b o hb e => (sb.2 b hb).trans e) f0 f1 f3 f4 f5
  obtain ⟨o, e, c, d⟩ := id st'
  exact ⟨u, rfl, go_of (s := { s with heap := h' }) e c d (by decide) ⟨x, H, I1, ru, ⟨rfl, fun ys hy => by rw [I.tuple_inj hy hq]; exact hx⟩, st', fun b hb => (hf b hb).1⟩⟩
 done := by
  intro X hP hw hK hc i pins s Z H E I hf st hg
  subst hP hw hK
  obtain ⟨xs, hq, hx⟩ := hg
  obtain ⟨its, rv, p, hz⟩ := I.tuple hq
  obtain ⟨f0, f1, f2, f3, f4, f5⟩ := hf it (by simp)
  have hl := rv.length
  exact wpAny_pyNext_tuple_end (I.ok.hd hc) st (show s.heap.IsTuple a its.toArray from p) (by simp; lia) fun h' eb => ⟨rfl, I.turned (t' := s.toks) (fun b o hb e => eb b o hb e) f0 f1 f3 f4 f5⟩
 self := fun _ _ _ _ _ st h => wpAny_pyIter_tupleiter st h
theorem turn_range {P : Program} {w : World} {K : PySem.W.Frag} {tg : Expr} (it : Addr) (lo : Int) (n : Nat) : Turn P w K tg (Itr lo n) [it] it (fun i h => IsRangeIter h it (lo + (i : Nat) * 1) ((n : Int) - (i : Nat)) 1) where
 mem := by simp
 obj := fun i h st b hb => by
  have e : b = it := by simpa using hb
  subst e
  exact ⟨_, st, fun v z => by
   have z' : Data.fields _ = Data.cell v := z
   cases z'⟩
 keep := fun i h h' st k => k it (by simp) _ st
 item := by
  intro X hP hw hK hc i pins s Z H E I hf st hg
  subst hP hw hK
  obtain ⟨f0, f1, f2, f3, f4, f5⟩ := hf it (by simp)
  have W := Walks.range (prog := X.prog) (w := X.w) (I.ok.hd hc) it lo 1 n
  refine W.item i s _ _ hg st fun v h' tk hv st' kk => ?_
  obtain ⟨t, rfl⟩ := hv
  have I1 : Inv X pins Z H { s with heap := h', toks := tk } := I.turned (fun b o hb e => kk b o (by simpa using hb) e) f0 f1 f3 f4 f5
  refine ⟨_, rfl, go_of (s := { s with heap := h', toks := tk }) (n := "range_iterator") st' rfl rfl (by decide) ⟨.int (lo + i), H, I1, ⟨t, ?_⟩, ⟨rfl, rfl⟩, st', fun b hb => (hf b hb).1⟩⟩
  rw [Int.mul_one]
 done := by
  intro X hP hw hK hc i pins s Z H E I hf st hg
  subst hP hw hK
  obtain ⟨f0, f1, f2, f3, f4, f5⟩ := hf it (by simp)
  exact wpAny_pyNext_range_end (I.ok.hd hc) st (by have : n <= i := hg; lia) fun h' eb => ⟨rfl, I.turned (t' := s.toks) (fun b o hb e => eb b o hb e) f0 f1 f3 f4 f5⟩
 self := fun _ _ _ _ _ st h => wpAny_pyIter_rangeiter st h
section
variable {X : Cx} {tg : Expr}
noncomputable def iList (K : PySem.W.Frag) (tl : TE) : TI := fun Z H R => tl Z H fun x H1 => ∃ a, x = .ref a /\ (∃ xs, SqL K H1 a xs) /\ R (Itl K a) H1
noncomputable def iTup (K : PySem.W.Frag) (tl : TE) : TI := fun Z H R => tl Z H fun x H1 => ∃ a, x = .ref a /\ (∃ xs, SqT K H1 a xs) /\ R (Itt K a) H1
theorem pi_list {l : Expr} {tl : TE} (hl : PE X l tl) : PI X tg l (iList X.K tl) := by
 intro pins s Z H R I h
 refine thn (hl pins s Z H _ I h) fun v s1 ⟨x, H1, I1, r1, q1⟩ => ?_
 obtain ⟨a, e, ⟨xs, hq⟩, q⟩ := q1
 subst e
 cases r1
 obtain ⟨its, rv, p, hz⟩ := I1.list hq
 refine wpAny_pyIter_list p.isList ?_
 refine ⟨s1.heap.objs.size, [s1.heap.objs.size], _, _, H1, rfl, I1.kept (t' := s1.toks) fun b o e => Heap.get?_push_of_some _ e, turn_list a _, ⟨_, Heap.get?_push_size _ rfl, rfl, rfl⟩, fun b hb => ?_, q⟩
 have e : b = s1.heap.objs.size := by simpa using hb
 subst e
 exact I1.fpOk (Nat.le_refl _) (I1.hok.fresh (Nat.le_refl _))
theorem pi_tup {l : Expr} {tl : TE} (hl : PE X l tl) : PI X tg l (iTup X.K tl) := by
 intro pins s Z H R I h
 refine thn (hl pins s Z H _ I h) fun v s1 ⟨x, H1, I1, r1, q1⟩ => ?_
 obtain ⟨a, e, ⟨xs, hq⟩, q⟩ := q1
 subst e
 cases r1
 obtain ⟨its, rv, p, hz⟩ := I1.tuple hq
 refine wpAny_pyIter_tuple (show s1.heap.IsTuple a its.toArray from p) ?_
 refine ⟨s1.heap.objs.size, [s1.heap.objs.size], _, _, H1, rfl, I1.kept (t' := s1.toks) fun b o e => Heap.get?_push_of_some _ e, turn_tuple a _, ⟨_, Heap.get?_push_size _ rfl, rfl, rfl⟩, fun b hb => ?_, q⟩
 have e : b = s1.heap.objs.size := by simpa using hb
 subst e
 exact I1.fpOk (Nat.le_refl _) (I1.hok.fresh (Nat.le_refl _))
theorem range_it {pins : List (Addr × Obj)} {Z : St} {H : Hp} {s : Shared} {R : It -> Hp -> Prop} {E : Value -> Shared -> Prop} {lo hi : Int} {t u v : Tok} {tk : Nat} (I : Inv X pins Z H s) (h1 : -(2 ^ 62) <= lo) (h2 : lo < 2 ^ 62) (h3 : -(2 ^ 62) <= hi) (h4 : hi < 2 ^ 62)
  (q : R (Itr lo (hi - lo).toNat) H) : wpAny (model X.prog X.w) X.A (pyIter (.ref s.heap.objs.size)) (PIE X pins Z tg R) E { s with heap := s.heap.push { cls := .type "range", data := .fields #[.int lo t, .int hi u, .int 1 v] }, toks := tk } := by
 refine wpAny_pyIter_range (IsRange.new ..) (small_one h1 h2 h3 h4) ?_
 have I1 : Inv X pins Z H { s with heap := s.heap.push { cls := .type "range", data := .fields #[.int lo t, .int hi u, .int 1 v] }, toks := tk } := I.kept fun b o e => Heap.get?_push_of_some _ e
 refine ⟨(s.heap.push { cls := .type "range", data := .fields #[.int lo t, .int hi u, .int 1 v] }).objs.size, [(s.heap.push { cls := .type "range", data := .fields #[.int lo t, .int hi u, .int 1 v] }).objs.size], _, _, H, rfl,
  I1.kept (t' := tk) fun b o e => Heap.get?_push_of_some _ e, turn_range _ lo (hi - lo).toNat, ?_, fun b hb => ?_, q⟩
 ·have e1 : lo + ((0 : Nat) : Int) * 1 = lo := by simp
  have e2 : (((hi - lo).toNat : Nat) : Int) - ((0 : Nat) : Int) = Builtin.Range.rangeSize lo hi 1 := by rw [rangeSize_one]; split <;> lia
  show IsRangeIter _ _ (lo + ((0 : Nat) : Int) * 1) ((((hi - lo).toNat : Nat) : Int) - ((0 : Nat) : Int)) 1
  rw [e1, e2]
  exact Heap.get?_push_size _ rfl
 ·have e : b = (s.heap.push { cls := .type "range", data := .fields #[.int lo t, .int hi u, .int 1 v] }).objs.size := by simpa using hb
  subst e
  exact I1.fpOk (Nat.le_refl _) (I1.hok.fresh (Nat.le_refl _))
noncomputable def iRng1 (ta : TA) : TI := fun Z H R => ta Z H fun vs H1 => ∃ j : Int, vs = [.int j] /\ -(2 ^ 62) <= j /\ j < 2 ^ 62 /\ R (Itr 0 j.toNat) H1
theorem pi_range1 {a : Expr} {ta : TA} {p pos : Pos} (hg : Gl X "range") (hm : X.mg "range" = none) (ha : PA X [a] ta) (hs : starEach [a] X.env = [(false, eval a X.env)] := by rfl) : PI X tg (.Call (.Name "range" p) [a] [] pos) (iRng1 ta) := by
 intro pins s Z H R I h
 refine Call_ (ld_blt I hg hm boot_range (PyProof.Rows.callWith_type1 (thn (ha pos pins s Z H _ I h) fun us s1 ⟨vs, H1, I1, r1, q1⟩ => ?_) hs rfl))
 obtain ⟨j, e, q1, q2, q⟩ := q1
 subst e
 cases r1 with
 | cons r rr =>
  cases rr
  obtain ⟨t, rfl⟩ := r
  exact call_range_1 (range_it I1 (by lia) (by lia) q1 q2 (by simpa using q))
noncomputable def tFor (wi : TI) (g : TG) (tb : TS) : TS := fun D Z H => wi Z H fun J H1 => ∃ W : Nat -> Nat -> St -> Hp -> Prop, (∃ m, W 0 m Z H1) /\ ∀ i m Z H, W i m Z H ->
 (J.stop i H /\ D.nx Z H) \/ (J.go i H /\ ∃ N : St -> Hp -> Prop, (∀ Z' H', N Z' H' -> ∃ m', m' < m /\ W (i + 1) m' Z' H') /\ ∀ x H', J.yld i H x H' -> g x Z H' fun Z2 H2 => tb { D with nx := N, ct := N, bk := D.nx } Z2 H2)
noncomputable def pinsAt (fp : List Addr) (h : Heap) : List (Addr × Obj) := fp.filterMap fun b => (h.get? b).map fun o => (b, o)
theorem mem_pinsAt {fp : List Addr} {h : Heap} {b : Addr} {o : Obj} (hb : b ∈ fp) (e : h.get? b = some o) : (b, o) ∈ pinsAt fp h := List.mem_filterMap.mpr ⟨b, hb, by rw [e]; rfl⟩
theorem of_pinsAt {fp : List Addr} {h : Heap} {p : Addr × Obj} (hp : p ∈ pinsAt fp h) : p.1 ∈ fp /\ h.get? p.1 = some p.2 := by
 obtain ⟨b, hb, e⟩ := List.mem_filterMap.mp hp
 cases q : h.get? b with
 | none => rw [q] at e; cases e
 | some o =>
  rw [q] at e
  have e' : (b, o) = p := Option.some.inj e
  subst e'
  exact ⟨hb, q⟩
theorem Inv.pinned {pins : List (Addr × Obj)} {Z : St} {H : Hp} {s : Shared} {fp : List Addr} (I : Inv X pins Z H s) (hf : ∀ b ∈ fp, FpOk X pins H b) (ho : ∀ b ∈ fp, ∃ o, s.heap.get? b = some o /\ ∀ v, o.data ≠ .cell v) : Inv X (pins ++ pinsAt fp s.heap) Z H s :=
 I.pins_of fun p hp => (List.mem_append.mp hp).elim (fun z => I.pin p (List.mem_append_right _ z)) fun z => by
  obtain ⟨hb, e⟩ := of_pinsAt z
  obtain ⟨f0, f1, f2, _⟩ := hf p.1 hb
  obtain ⟨o, e', d⟩ := ho p.1 hb
  rw [e] at e'; cases e'
  exact ⟨e, f0, f1, f2, d⟩
theorem Inv.unpinned {pins pl : List (Addr × Obj)} {Z : St} {H : Hp} {s : Shared} (I : Inv X (pins ++ pl) Z H s) : Inv X pins Z H s := I.pins_of fun p hp => I.pin p (List.mem_append_right _ (List.mem_append_left _ hp))
theorem ps_for {iter : Expr} {body : List Stmt} {wi : TI} {g : TG} {tb : TS} {pos : Pos} (hp : PassesOwn (model X.prog X.w) X.A X.env X.xe) (hc : X.calm = true) (hi : PI X tg iter wi) (hg : PG X tg g) (hb : PSs X body tb)
  (hs : ∀ x, foldedSetIterable iter X.env x = pure x := by intro _; rfl) : PS X (.For tg iter body [] pos) (tFor wi g tb) := by
 intro pins s Z H D I h
 refine wpAny_For (thn (hi pins s Z H _ I h) fun v s1 h1 => thn h1 fun itv s2 h2 => ?_) hs
 obtain ⟨it, fp, tn, J, H2, e, I2, T, st2, f2, W, ⟨m0, w0⟩, turn⟩ := h2
 subst e
 have stat : ∀ {H' : Hp}, (∀ b ∈ fp, H' b = none) -> ∀ b ∈ fp, FpOk X pins H' b := fun hn b hb => ⟨hn b hb, (f2 b hb).2⟩
 refine codeAny_forLoop_any (fun n s' => ∃ i Z' H', Inv X pins Z' H' s' /\ tn i s'.heap /\ (∀ b ∈ fp, H' b = none) /\ W i n Z' H') ?_ m0 ⟨0, Z, H2, I2, st2, fun b hb => (f2 b hb).1, w0⟩
 rintro n s3 ⟨i, Z3, H3, I3, st3, fr3, w3⟩
 rcases turn i n Z3 H3 w3 with ⟨stop, qn⟩ | ⟨go, N, hN, step⟩
 ·refine wpAny_passesOwn hp (thn (T.done X rfl rfl rfl hc i pins s3 Z3 H3 X.xe I3 (stat fr3) st3 stop) fun r s4 ⟨hr, I4⟩ => ?_)
  subst hr
  exact wpAny_execs_nil ⟨Z3, H3, I4, qn⟩
 ·refine wpAny_passesOwn hp (thn (T.item X rfl rfl rfl hc i pins s3 Z3 H3 X.xe I3 (stat fr3) st3 go) fun r s4 ⟨u, hr, h4⟩ => ?_)
  subst hr
  refine wpAny_passesOwn hp (thn h4 fun _ s5 ⟨x, H5, I5, r5, y5, st5, fr5⟩ => ?_)
  have I5' := I5.pinned (stat fr5) (T.obj _ _ st5)
  refine wpAny_passesOwn hp (thn (hg _ s5 Z3 H5 x u _ I5' r5 (step x H5 y5)) fun _ s6 ⟨Z6, H6, I6, q6⟩ => ?_)
  refine wpAny_passesOwn hp (thn (hb _ s6 Z6 H6 _ I6 q6) fun f s7 q7 => ?_)
  have again : ∀ {Z7 : St} {H7 : Hp}, Inv X (pins ++ pinsAt fp s5.heap) Z7 H7 s7 -> N Z7 H7 -> ∃ m, m < n /\ ∃ i Z' H', Inv X pins Z' H' s7 /\ tn i s7.heap /\ (∀ b ∈ fp, H' b = none) /\ W i m Z' H' := fun {Z7 H7} I7 n7 => by
   obtain ⟨m', hm, w7⟩ := hN Z7 H7 n7
   refine ⟨m', hm, i + 1, Z7, H7, I7.unpinned, T.keep _ _ _ st5 fun b hb o e => (I7.pin (b, o) (List.mem_append_right _ (List.mem_append_right _ (mem_pinsAt hb e)))).1, fun b hb => ?_, w7⟩
   obtain ⟨o, e, d⟩ := T.obj _ _ st5 b hb
   exact (I7.pin (b, o) (List.mem_append_right _ (List.mem_append_right _ (mem_pinsAt hb e)))).2.1
  cases f with
  | next => obtain ⟨Z7, H7, I7, n7⟩ := q7; exact again I7 n7
  | cont => obtain ⟨Z7, H7, I7, n7⟩ := q7; exact again I7 n7
  | brk => obtain ⟨Z7, H7, I7, q7⟩ := q7; exact ⟨Z7, H7, I7.unpinned, q7⟩
  | ret v => obtain ⟨x7, Z7, H7, I7, r7, q7⟩ := q7; exact ⟨x7, Z7, H7, I7.unpinned, r7, q7⟩
end
theorem for_list {K : PySem.W.Frag} {a : Addr} {xs : List V} {g : TG} {tb : TS} {D : Ends} {Z : St} {H : Hp} (Pv : Nat -> St -> Hp -> Prop) (h0 : Pv 0 Z H) (hl : ∀ i Z H, i <= xs.length -> Pv i Z H -> SqL K H a xs)
  (hs : ∀ i x Z H, xs[i]? = some x -> Pv i Z H -> g x Z H fun Z2 H2 => tb { D with nx := Pv (i + 1), ct := Pv (i + 1), bk := D.nx } Z2 H2) (hd : ∀ Z H, Pv xs.length Z H -> D.nx Z H) :
  ∃ W : Nat -> Nat -> St -> Hp -> Prop, (∃ m, W 0 m Z H) /\ ∀ i m Z H, W i m Z H ->
   ((Itl K a).stop i H /\ D.nx Z H) \/ ((Itl K a).go i H /\ ∃ N : St -> Hp -> Prop, (∀ Z' H', N Z' H' -> ∃ m', m' < m /\ W (i + 1) m' Z' H') /\ ∀ x H', (Itl K a).yld i H x H' -> g x Z H' fun Z2 H2 => tb { D with nx := N, ct := N, bk := D.nx } Z2 H2) := by
 refine ⟨fun i m Z H => m = xs.length - i /\ i <= xs.length /\ Pv i Z H, ⟨xs.length, by simp, Nat.zero_le _, h0⟩, ?_⟩
 rintro i m Z H ⟨rfl, hi, p⟩
 have q := hl i Z H hi p
 by_cases hlt : i < xs.length
 ·refine .inr ⟨⟨xs, xs[i], q, by simp [hlt]⟩, Pv (i + 1), fun Z' H' p' => ⟨xs.length - (i + 1), by lia, rfl, hlt, p'⟩, fun x H' y => ?_⟩
  obtain ⟨e, y⟩ := y
  subst e
  exact hs i x Z _ (y xs q) p
 ·have e : i = xs.length := by lia
  subst e
  exact .inl ⟨⟨xs, q, Nat.le_refl _⟩, hd Z H p⟩
theorem for_tup {K : PySem.W.Frag} {a : Addr} {xs : List V} {g : TG} {tb : TS} {D : Ends} {Z : St} {H : Hp} (Pv : Nat -> St -> Hp -> Prop) (h0 : Pv 0 Z H) (hl : ∀ i Z H, i <= xs.length -> Pv i Z H -> SqT K H a xs)
  (hs : ∀ i x Z H, xs[i]? = some x -> Pv i Z H -> g x Z H fun Z2 H2 => tb { D with nx := Pv (i + 1), ct := Pv (i + 1), bk := D.nx } Z2 H2) (hd : ∀ Z H, Pv xs.length Z H -> D.nx Z H) :
  ∃ W : Nat -> Nat -> St -> Hp -> Prop, (∃ m, W 0 m Z H) /\ ∀ i m Z H, W i m Z H ->
   ((Itt K a).stop i H /\ D.nx Z H) \/ ((Itt K a).go i H /\ ∃ N : St -> Hp -> Prop, (∀ Z' H', N Z' H' -> ∃ m', m' < m /\ W (i + 1) m' Z' H') /\ ∀ x H', (Itt K a).yld i H x H' -> g x Z H' fun Z2 H2 => tb { D with nx := N, ct := N, bk := D.nx } Z2 H2) := by
 refine ⟨fun i m Z H => m = xs.length - i /\ i <= xs.length /\ Pv i Z H, ⟨xs.length, by simp, Nat.zero_le _, h0⟩, ?_⟩
 rintro i m Z H ⟨rfl, hi, p⟩
 have q := hl i Z H hi p
 by_cases hlt : i < xs.length
 ·refine .inr ⟨⟨xs, xs[i], q, by simp [hlt]⟩, Pv (i + 1), fun Z' H' p' => ⟨xs.length - (i + 1), by lia, rfl, hlt, p'⟩, fun x H' y => ?_⟩
  obtain ⟨e, y⟩ := y
  subst e
  exact hs i x Z _ (y xs q) p
 ·have e : i = xs.length := by lia
  subst e
  exact .inl ⟨⟨xs, q, Nat.le_refl _⟩, hd Z H p⟩
theorem for_range {lo : Int} {n : Nat} {g : TG} {tb : TS} {D : Ends} {Z : St} {H : Hp} (Pv : Nat -> St -> Hp -> Prop) (h0 : Pv 0 Z H)
  (hs : ∀ i Z H, i < n -> Pv i Z H -> g (.int (lo + i)) Z H fun Z2 H2 => tb { D with nx := Pv (i + 1), ct := Pv (i + 1), bk := D.nx } Z2 H2) (hd : ∀ Z H, Pv n Z H -> D.nx Z H) :
  ∃ W : Nat -> Nat -> St -> Hp -> Prop, (∃ m, W 0 m Z H) /\ ∀ i m Z H, W i m Z H ->
   ((Itr lo n).stop i H /\ D.nx Z H) \/ ((Itr lo n).go i H /\ ∃ N : St -> Hp -> Prop, (∀ Z' H', N Z' H' -> ∃ m', m' < m /\ W (i + 1) m' Z' H') /\ ∀ x H', (Itr lo n).yld i H x H' -> g x Z H' fun Z2 H2 => tb { D with nx := N, ct := N, bk := D.nx } Z2 H2) := by
 refine ⟨fun i m Z H => m = n - i /\ i <= n /\ Pv i Z H, ⟨n, by simp, Nat.zero_le _, h0⟩, ?_⟩
 rintro i m Z H ⟨rfl, hi, p⟩
 by_cases hlt : i < n
 ·refine .inr ⟨hlt, Pv (i + 1), fun Z' H' p' => ⟨n - (i + 1), by lia, rfl, hlt, p'⟩, fun x H' y => ?_⟩
  obtain ⟨e, y⟩ := y
  subst e y
  exact hs i Z _ hlt p
 ·have e : i = n := by lia
  subst e
  exact .inl ⟨Nat.le_refl _, hd Z H p⟩
theorem while_by {c : TT} {tb : TS} {D : Ends} {Z : St} {H : Hp} (Pv : St -> Hp -> Prop) (μ : St -> Hp -> Nat) (h0 : Pv Z H)
  (hs : ∀ Z H, Pv Z H -> c Z H fun b H1 => if b = true then tb { D with nx := fun Z' H' => Pv Z' H' /\ μ Z' H' < μ Z H, ct := fun Z' H' => Pv Z' H' /\ μ Z' H' < μ Z H, bk := D.nx } Z H1 else D.nx Z H1)
  (mono : ∀ Z H Q Q', (∀ b H1, Q b H1 -> Q' b H1) -> c Z H Q -> c Z H Q') : tWhile c tb D Z H := by
 refine ⟨fun m Z H => m = μ Z H /\ Pv Z H, ⟨_, rfl, h0⟩, ?_⟩
 rintro m Z H ⟨rfl, p⟩
 refine mono Z H _ _ (fun b H1 q => ?_) (hs Z H p)
 cases b with
 | true => exact ⟨_, fun Z' H' ⟨p', l⟩ => ⟨_, l, rfl, p'⟩, q⟩
 | false => exact q
noncomputable abbrev R2 := V -> V -> Hp -> VK -> Prop
noncomputable def OpR (X : Cx) (f : Value -> Value -> Sem Value) (r : R2) : Prop :=
 ∀ (pins : List (Addr × Obj)) (s : Shared) (Z : St) (H : Hp) (x y : V) (v u : Value) (Q : VK), Inv X pins Z H s -> RelV x v -> RelV y u -> r x y H Q ->
  wpAny (model X.prog X.w) X.A (f v u) (EP X pins Z Q) X.xe s
noncomputable def UnR (X : Cx) (f : Value -> Sem Value) (r : V -> Hp -> VK -> Prop) : Prop :=
 ∀ (pins : List (Addr × Obj)) (s : Shared) (Z : St) (H : Hp) (x : V) (v : Value) (Q : VK), Inv X pins Z H s -> RelV x v -> r x H Q ->
  wpAny (model X.prog X.w) X.A (f v) (EP X pins Z Q) X.xe s
noncomputable def CallR (X : Cx) (f : Value) (r : List V -> Hp -> VK -> Prop) : Prop :=
 ∀ (pins : List (Addr × Obj)) (s : Shared) (Z : St) (H : Hp) (xs : List V) (us : List Value) (Q : VK), Inv X pins Z H s -> Vals xs us -> r xs H Q ->
  wpAny (model X.prog X.w) X.A (call f us) (EP X pins Z Q) X.xe s
noncomputable def TruR (X : Cx) (r : V -> Hp -> (Bool -> Hp -> Prop) -> Prop) : Prop :=
 ∀ (pins : List (Addr × Obj)) (s : Shared) (Z : St) (H : Hp) (x : V) (v : Value) (Q : Bool -> Hp -> Prop), Inv X pins Z H s -> RelV x v -> r x H Q ->
  wpAny (model X.prog X.w) X.A (truthy v) (TP X pins Z Q) X.xe s
noncomputable def tOp (r : R2) (ta tb : TE) : TE := fun Z H Q => ta Z H fun x H1 => tb Z H1 fun y H2 => r x y H2 Q
noncomputable def tUn (r : V -> Hp -> VK -> Prop) (ta : TE) : TE := fun Z H Q => ta Z H fun x H1 => r x H1 Q
inductive rI (C : Int -> Int -> Prop) (g : Int -> Int -> V) (x : V) (y : V) (H : Hp) (Q : VK) : Prop
 | mk : ∀ i j, (x = .int i) -> (y = .int j) -> (C i j) -> (Q (g i j) H) -> rI C g x y H Q
inductive rI0 (g : Int -> Int -> V) (x : V) (y : V) (H : Hp) (Q : VK) : Prop
 | mk : ∀ i j, (x = .int i) -> (y = .int j) -> (Q (g i j) H) -> rI0 g x y H Q
inductive rU (g : Int -> V) (x : V) (H : Hp) (Q : VK) : Prop
 | mk : ∀ i, (x = .int i) -> (Q (g i) H) -> rU g x H Q
section
variable {X : Cx} {a b c : Expr} {ta tb tc : TE} {pos : Pos}
theorem binT (ha : PE X a ta) (hb : PE X b tb) {pins : List (Addr × Obj)} {s : Shared} {Z : St} {H : Hp} {R : V -> V -> Hp -> Prop} (I : Inv X pins Z H s)
  (h : ta Z H fun x H1 => tb Z H1 fun y H2 => R x y H2) {Q : Value -> Shared -> Prop} {f : Value -> Value -> Sem Value}
  (hf : ∀ v u s2 x y H2, Inv X pins Z H2 s2 -> RelV x v -> RelV y u -> R x y H2 -> wpAny (model X.prog X.w) X.A (f v u) Q X.xe s2) :
  wpAny (model X.prog X.w) X.A (eval a X.env) (fun v s₁ => wpAny (model X.prog X.w) X.A (eval b X.env) (fun u s₂ => wpAny (model X.prog X.w) X.A (f v u) Q X.xe s₂) X.xe s₁) X.xe s := by
 refine thn (ha pins s Z H _ I h) fun v s1 ⟨x, H1, I1, r1, q1⟩ => ?_
 refine thn (hb pins s1 Z H1 _ I1 q1) fun u s2 ⟨y, H2, I2, r2, q2⟩ => ?_
 exact hf v u s2 x y H2 I2 r1 r2 q2
theorem pe_op {op : Operator} {r : R2} (ho : OpR X (binaryOp op) r) (ha : PE X a ta) (hb : PE X b tb) : PE X (.BinOp a op b pos) (tOp r ta tb) := by
 intro pins s Z H Q I h
 exact wpAny_BinOp (binT ha hb I h fun v u s2 x y H2 I2 rx ry q => ho pins s2 Z H2 x y v u Q I2 rx ry q)
theorem pe_un {op : UnaryOp} {r : V -> Hp -> VK -> Prop} (ho : UnR X (unaryOp op) r) (ha : PE X a ta) : PE X (.UnaryOp op a pos) (tUn r ta) := by
 intro pins s Z H Q I h
 exact UnaryOp_ (thn (ha pins s Z H _ I h) fun v s1 ⟨x, H1, I1, r1, q1⟩ => ho pins s1 Z H1 x v Q I1 r1 q1)
theorem opI {f : Value -> Value -> Sem Value} {C : Int -> Int -> Prop} {g : Int -> Int -> Int}
  (rule : ∀ (i j : Int) (t u : Tok) (s : Shared) (Q : Value -> Shared -> Prop) (E : Value -> Shared -> Prop), C i j -> Q (.int (g i j) s.toks) { s with toks := s.toks + 1 } -> wpAny (model X.prog X.w) X.A (f (.int i t) (.int j u)) Q E s) :
  OpR X f (rI C fun i j => .int (g i j)) := by
 intro pins s Z H x y v u Q I rx ry h
 obtain ⟨i, j, rfl, rfl, hc, q⟩ := h
 obtain ⟨t, rfl⟩ := rx
 obtain ⟨t', rfl⟩ := ry
 exact rule i j t t' s _ _ hc ⟨.int (g i j), H, I.tok _, ⟨_, rfl⟩, q⟩
theorem opI0 {f : Value -> Value -> Sem Value} {g : Int -> Int -> Int}
  (rule : ∀ (i j : Int) (t u : Tok) (s : Shared) (Q : Value -> Shared -> Prop) (E : Value -> Shared -> Prop), Q (.int (g i j) s.toks) { s with toks := s.toks + 1 } -> wpAny (model X.prog X.w) X.A (f (.int i t) (.int j u)) Q E s) :
  OpR X f (rI0 fun i j => .int (g i j)) := by
 intro pins s Z H x y v u Q I rx ry h
 obtain ⟨i, j, rfl, rfl, q⟩ := h
 obtain ⟨t, rfl⟩ := rx
 obtain ⟨t', rfl⟩ := ry
 exact rule i j t t' s _ _ ⟨.int (g i j), H, I.tok _, ⟨_, rfl⟩, q⟩
theorem opB0 {f : Value -> Value -> Sem Value} {g : Int -> Int -> Bool}
  (rule : ∀ (i j : Int) (t u : Tok) (s : Shared) (Q : Value -> Shared -> Prop) (E : Value -> Shared -> Prop), Q (.bool (g i j)) s -> wpAny (model X.prog X.w) X.A (f (.int i t) (.int j u)) Q E s) :
  OpR X f (rI0 fun i j => .bl (g i j)) := by
 intro pins s Z H x y v u Q I rx ry h
 obtain ⟨i, j, rfl, rfl, q⟩ := h
 obtain ⟨t, rfl⟩ := rx
 obtain ⟨t', rfl⟩ := ry
 exact rule i j t t' s _ _ ⟨.bl (g i j), H, I, rfl, q⟩
noncomputable def CDiv (i j : Int) : Prop := 0 < j /\ j < 1073741824
noncomputable def CPow (i j : Int) : Prop := 0 <= j /\ j <= 1000000 /\ i.natAbs < 2 ^ 64
noncomputable def CMul (i j : Int) : Prop := (-(2 ^ 64) < i /\ i < 2 ^ 64) \/ (-(2 ^ 64) < j /\ j < 2 ^ 64)
theorem CMul.ok {i j : Int} (h : CMul i j) : IntMulOk i j := by
 rcases h with ⟨h1, h2⟩ | ⟨h1, h2⟩
 ·exact .of_left (intBits_le_64 h1 h2)
 ·exact .of_right (intBits_le_64 h1 h2)
theorem op_add : OpR X (binaryOp .Add) (rI0 fun i j => .int (i + j)) := opI0 fun _ _ _ _ _ _ _ q => add_int q
theorem op_sub : OpR X (binaryOp .Sub) (rI0 fun i j => .int (i - j)) := opI0 fun _ _ _ _ _ _ _ q => sub_int q
theorem op_mul : OpR X (binaryOp .Mult) (rI CMul fun i j => .int (i * j)) := opI fun _ _ _ _ _ _ _ hc q => mul_int q hc.ok
theorem op_fdiv : OpR X (binaryOp .FloorDiv) (rI CDiv fun i j => .int (i / j)) := opI fun i j _ _ _ _ _ hc q => by
 have h1 : (0 : Int) < j := hc.1
 have h2 : j < 1073741824 := hc.2
 exact floordiv_int (by lia) (by rw [Int.fdiv_eq_ediv_of_nonneg i (by lia)]; exact q) (.inl (PyProof.noPylong_small (by lia)))
theorem op_mod : OpR X (binaryOp .Mod) (rI (fun _ j => 0 < j) fun i j => .int (i % j)) := opI fun i j _ _ _ _ _ hc q => by
 have h1 : (0 : Int) < j := hc
 exact mod_int' (by lia) (by rw [Int.fmod_eq_emod_of_nonneg i (by lia)]; exact q)
theorem op_pow : OpR X (binaryOp .Pow) (rI CPow fun i j => .int (i ^ j.toNat)) := opI fun _ _ _ _ _ _ _ hc q => pow_int_small hc.1 hc.2.1 hc.2.2 q
theorem unI {f : Value -> Sem Value} {g : Int -> Int}
  (rule : ∀ (i : Int) (t : Tok) (s : Shared) (Q : Value -> Shared -> Prop) (E : Value -> Shared -> Prop), Q (.int (g i) s.toks) { s with toks := s.toks + 1 } -> wpAny (model X.prog X.w) X.A (f (.int i t)) Q E s) :
  UnR X f (rU fun i => .int (g i)) := by
 intro pins s Z H x v Q I rx h
 obtain ⟨i, rfl, q⟩ := h
 obtain ⟨t, rfl⟩ := rx
 exact rule i t s _ _ ⟨.int (g i), H, I.tok _, ⟨_, rfl⟩, q⟩
theorem un_neg : UnR X (unaryOp .USub) (rU fun i => .int (-i)) := unI fun _ _ _ _ _ q => neg_int q
end
noncomputable def scal : V -> V -> Bool
 | .non, .non => true | .non, .int _ => true | .int _, .non => true | .non, .bl _ => true | .bl _, .non => true | .non, .str _ => true | .str _, .non => true
 | .int _, .int _ => true | .bl _, .bl _ => true | .str _, .str _ => true | .byt _, .byt _ => true
 | .int _, .str _ => true | .str _, .int _ => true | .bl _, .str _ => true | .str _, .bl _ => true
 | _, _ => false
noncomputable def rEq : R2 := fun x y H Q => scal x y = true /\ Q (.bl (decide (x = y))) H
noncomputable def rNe : R2 := fun x y H Q => scal x y = true /\ Q (.bl (!decide (x = y))) H
theorem dec_int {i j : Int} : decide (V.int i = V.int j) = (i == j) := by
 rw [Bool.eq_iff_iff]
 simp
theorem dec_bl {i j : Bool} : decide (V.bl i = V.bl j) = (i == j) := by
 rw [Bool.eq_iff_iff]
 simp
theorem dec_str {i j : Str} : decide (V.str i = V.str j) = (i == j) := by
 rw [Bool.eq_iff_iff]
 simp
theorem dec_byt {i j : Array UInt8} : decide (V.byt i = V.byt j) = (i.toList == j.toList) := by
 rw [Bool.eq_iff_iff]
 cases i
 cases j
 simp
section
variable {X : Cx} {a b c : Expr} {ta tb tc : TE} {pos : Pos}
theorem fin_bl {pins : List (Addr × Obj)} {Z : St} {H : Hp} {s : Shared} {Q : VK} {k k' : Bool} (I : Inv X pins Z H s) (q : Q (.bl k) H) (e : k = k') : EP X pins Z Q (.bool k') s := by
 subst e
 exact ⟨.bl k, H, I, rfl, q⟩
theorem op_eq : OpR X (compareOp .Eq) rEq := by
 intro pins s Z H x y v u Q I rx ry h
 obtain ⟨hs, q⟩ := h
 cases x with
 | non =>
  cases rx
  cases y with
  | non => cases ry; exact PySem.EqNone.eq_none_none (fin_bl I q (by simp))
  | bl j => cases ry; exact PySem.EqNone.eq_none_bool (fin_bl I q (by simp))
  | int j => obtain ⟨t', rfl⟩ := ry; exact PySem.EqNone.eq_none_int (fin_bl I q (by simp))
  | str j => obtain ⟨t', rfl⟩ := ry; exact PySem.EqNone.eq_none_str (fin_bl I q (by simp))
  | _ => exact absurd (show false = true from hs) Bool.false_ne_true
 | bl i =>
  cases rx
  cases y with
  | non => cases ry; exact PySem.EqNone.eq_bool_none (fin_bl I q (by simp))
  | bl j => cases ry; exact eq_bool (fin_bl I q dec_bl)
  | str j => obtain ⟨t', rfl⟩ := ry; exact PySem.EqMixed.eq_bool_str (fin_bl I q (by simp))
  | _ => exact absurd (show false = true from hs) Bool.false_ne_true
 | int i =>
  obtain ⟨t, rfl⟩ := rx
  cases y with
  | non => cases ry; exact PySem.EqNone.eq_int_none (fin_bl I q (by simp))
  | int j => obtain ⟨t', rfl⟩ := ry; exact eq_int (fin_bl I q dec_int)
  | str j => obtain ⟨t', rfl⟩ := ry; exact PySem.EqMixed.eq_int_str (fin_bl I q (by simp))
  | _ => exact absurd (show false = true from hs) Bool.false_ne_true
 | str i =>
  obtain ⟨t, rfl⟩ := rx
  cases y with
  | non => cases ry; exact PySem.EqNone.eq_str_none (fin_bl I q (by simp))
  | bl j => cases ry; exact PySem.EqMixed.eq_str_bool (fin_bl I q (by simp))
  | int j => obtain ⟨t', rfl⟩ := ry; exact PySem.EqMixed.eq_str_int (fin_bl I q (by simp))
  | str j => obtain ⟨t', rfl⟩ := ry; exact eq_str (fin_bl I q dec_str)
  | _ => exact absurd (show false = true from hs) Bool.false_ne_true
 | byt i =>
  obtain ⟨t, rfl⟩ := rx
  cases y with
  | byt j => obtain ⟨t', rfl⟩ := ry; exact PySem.W.eq_bytes (fin_bl I q dec_byt)
  | _ => exact absurd (show false = true from hs) Bool.false_ne_true
 | _ => cases y <;> exact absurd (show false = true from hs) Bool.false_ne_true
theorem op_ne : OpR X (compareOp .NotEq) rNe := by
 intro pins s Z H x y v u Q I rx ry h
 obtain ⟨hs, q⟩ := h
 cases x with
 | non =>
  cases rx
  cases y with
  | non => cases ry; exact PySem.EqNone.ne_none_none (fin_bl I q (by simp))
  | bl j => cases ry; exact PySem.EqNone.ne_none_bool (fin_bl I q (by simp))
  | int j => obtain ⟨t', rfl⟩ := ry; exact PySem.EqNone.ne_none_int (fin_bl I q (by simp))
  | str j => obtain ⟨t', rfl⟩ := ry; exact PySem.EqNone.ne_none_str (fin_bl I q (by simp))
  | _ => exact absurd (show false = true from hs) Bool.false_ne_true
 | bl i =>
  cases rx
  cases y with
  | non => cases ry; exact PySem.EqNone.ne_bool_none (fin_bl I q (by simp))
  | bl j => cases ry; exact ne_bool (fin_bl I q (congrArg not dec_bl))
  | str j => obtain ⟨t', rfl⟩ := ry; exact PySem.EqMixed.ne_bool_str (fin_bl I q (by simp))
  | _ => exact absurd (show false = true from hs) Bool.false_ne_true
 | int i =>
  obtain ⟨t, rfl⟩ := rx
  cases y with
  | non => cases ry; exact PySem.EqNone.ne_int_none (fin_bl I q (by simp))
  | int j => obtain ⟨t', rfl⟩ := ry; exact ne_int (fin_bl I q (congrArg not dec_int))
  | str j => obtain ⟨t', rfl⟩ := ry; exact PySem.EqMixed.ne_int_str (fin_bl I q (by simp))
  | _ => exact absurd (show false = true from hs) Bool.false_ne_true
 | str i =>
  obtain ⟨t, rfl⟩ := rx
  cases y with
  | non => cases ry; exact PySem.EqNone.ne_str_none (fin_bl I q (by simp))
  | bl j => cases ry; exact PySem.EqMixed.ne_str_bool (fin_bl I q (by simp))
  | int j => obtain ⟨t', rfl⟩ := ry; exact PySem.EqMixed.ne_str_int (fin_bl I q (by simp))
  | str j => obtain ⟨t', rfl⟩ := ry; exact ne_str (fin_bl I q (congrArg not dec_str))
  | _ => exact absurd (show false = true from hs) Bool.false_ne_true
 | byt i =>
  obtain ⟨t, rfl⟩ := rx
  cases y with
  | byt j => obtain ⟨t', rfl⟩ := ry; exact PySem.W.ne_bytes (fin_bl I q (congrArg not dec_byt))
  | _ => exact absurd (show false = true from hs) Bool.false_ne_true
 | _ => cases y <;> exact absurd (show false = true from hs) Bool.false_ne_true
theorem op_lt : OpR X (compareOp .Lt) (rI0 fun i j => .bl (decide (i < j))) := opB0 fun _ _ _ _ _ _ _ q => lt_int q
theorem op_le : OpR X (compareOp .LtE) (rI0 fun i j => .bl (decide (i <= j))) := opB0 fun _ _ _ _ _ _ _ q => le_int q
theorem op_gt : OpR X (compareOp .Gt) (rI0 fun i j => .bl (decide (j < i))) := opB0 fun _ _ _ _ _ _ _ q => gt_int q
theorem op_ge : OpR X (compareOp .GtE) (rI0 fun i j => .bl (decide (j <= i))) := opB0 fun _ _ _ _ _ _ _ q => ge_int q
theorem nomark (b : Expr) {op : CmpOp} (h : op ≠ .In := by decide) (h2 : op ≠ .NotIn := by decide) : behindInMarks op b = false := by
 have e1 : (op == CmpOp.In) = false := by cases op <;> first | rfl | exact absurd rfl h
 have e2 : (op == CmpOp.NotIn) = false := by cases op <;> first | rfl | exact absurd rfl h2
 cases b <;> simp [behindInMarks, e1, e2]
theorem pe_cmpR {op : CmpOp} {r : R2} (ho : OpR X (compareOp op) r) (ha : PE X a ta) (hb : PE X b tb) (hm : behindInMarks op b = false) : PE X (.Compare a [op] [b] pos) (tOp r ta tb) := by
 intro pins s Z H Q I h
 exact wpAny_Compare1 (binT ha hb I h fun v u s2 x y H2 I2 rx ry q => ho pins s2 Z H2 x y v u Q I2 rx ry q) hm
noncomputable def tTest (t : TE) : TT := fun Z H Q => t Z H fun x H' => rBl x H' Q
theorem pt_cmpR {op : CmpOp} {r : R2} (ho : OpR X (compareOp op) r) (ha : PE X a ta) (hb : PE X b tb) (hm : behindInMarks op b = false) : PT X (.Compare a [op] [b] pos) (tTest (tOp r ta tb)) := by
 intro pins s Z H Q I h
 refine wpAny_isTrue_Compare1 (thn (ha pins s Z H _ I h) fun v s1 ⟨x, H1, I1, r1, q1⟩ => thn (hb pins s1 Z H1 _ I1 q1) fun u s2 ⟨y, H2, I2, r2, q2⟩ =>
  thn (ho pins s2 Z H2 x y v u _ I2 r1 r2 q2) fun c s3 ⟨z, H3, I3, r3, k, e, q3⟩ => ?_) hm
 subst e
 cases r3
 exact wpAny_truthy_bool ⟨H3, I3, q3⟩
noncomputable def TruV (K : PySem.W.Frag) (x : V) (H : Hp) (k : Bool) : Prop :=
 match x with
 | .non => k = false
 | .bl b => k = b
 | .int i => k = (i != 0)
 | .str y => y.length <= sizeLine /\ k = ((y.length : Int) != 0)
 | .byt y => y.size <= sizeLine /\ k = ((y.size : Int) != 0)
 | .ref p => (∃ xs, SqL K H p xs /\ k = !xs.isEmpty) \/ (∃ xs, SqT K H p xs /\ k = !xs.isEmpty) \/ ∃ kvs, H p = some (.dK kvs) /\ k = !kvs.isEmpty
 | _ => False
theorem isEmpty_kv {κ : Type} {kvs : List (κ × V)} {vs : List (κ × Value)} (r : KV kvs vs) : (!vs.isEmpty) = !kvs.isEmpty := by
 cases r <;> rfl
theorem isEmpty_of {xs : List V} {its : List Value} (r : Vals xs its) : (!its.toArray.isEmpty) = !xs.isEmpty := by
 cases r <;> simp
theorem line63 : (sizeLine : Nat) < 2 ^ 63 := by rw [sizeLine_eq]; decide
theorem tru_ok : TruR X (fun x H Q => ∃ k, TruV X.K x H k /\ Q k H) := by
 intro pins s Z H x v Q I rx h
 obtain ⟨k, e, q⟩ := h
 have hl := line63
 have hs : sizeLine = 16777216 := sizeLine_eq
 cases x with
 | non =>
  cases rx
  have e' : k = false := e
  subst e'
  exact truthy_none ⟨H, I, q⟩
 | bl b =>
  cases rx
  have e' : k = b := e
  subst e'
  exact wpAny_truthy_bool ⟨H, I, q⟩
 | int i =>
  obtain ⟨t, rfl⟩ := rx
  have e' : k = (i != 0) := e
  subst e'
  exact PySem.P.truthy_int ⟨H, I, q⟩
 | str y =>
  obtain ⟨t, rfl⟩ := rx
  obtain ⟨hy, e'⟩ : y.length <= sizeLine /\ k = ((y.length : Int) != 0) := e
  subst e'
  exact PySem.P.truthy_str (by lia) ⟨H, I.tok _, q⟩
 | byt y =>
  obtain ⟨t, rfl⟩ := rx
  obtain ⟨hy, e'⟩ : y.size <= sizeLine /\ k = ((y.size : Int) != 0) := e
  subst e'
  exact PySem.W.truthy_bytes (by lia) ⟨H, I.tok _, q⟩
 | ref p =>
  cases rx
  have e' : (∃ xs, SqL X.K H p xs /\ k = !xs.isEmpty) \/ (∃ xs, SqT X.K H p xs /\ k = !xs.isEmpty) \/ ∃ kvs, H p = some (.dK kvs) /\ k = !kvs.isEmpty := e
  rcases e' with ⟨xs, hx, e'⟩ | ⟨xs, hx, e'⟩ | ⟨kvs, hx, e'⟩
  ·subst e'
   obtain ⟨its, r, pl, hz⟩ := I.list hx
   have hlen := r.length
   exact wpAny_truthy_list pl.isList (by simp only [List.size_toArray]; lia) ⟨H, I.tok _, by rw [isEmpty_of r]; exact q⟩
  ·subst e'
   obtain ⟨its, r, pl, hz⟩ := I.tuple hx
   have hlen := r.length
   exact truthy_tuple pl (by simp only [List.size_toArray]; lia) ⟨H, I.tok _, by rw [isEmpty_of r]; exact q⟩
  ·subst e'
   obtain ⟨hz, hS, vs, r, m⟩ : kvs.length <= sizeLine /\ (p == sysModules) = false /\ ∃ vs, KV kvs vs /\ s.heap.DictOf (mixKind X.prog X.w) p vs := I.hok p _ hx
   have hlen : kvs.length = vs.length := Paired.length r
   exact wpAny_truthy_dict hS m (by lia) ⟨H, I.tok _, by rw [isEmpty_kv r]; exact q⟩
 | _ => exact (show False from e).elim
theorem pt_truth (ha : PE X a ta) (he : ∀ whole, isTrue a X.env whole = (do let v <- whole; standAt a.pos; holding [v] (truthy v))) :
  PT X a (fun Z H Q => ta Z H fun x H' => ∃ k, TruV X.K x H' k /\ Q k H') := by
 intro pins s Z H Q I h
 exact isTrue_plain (thn (ha pins s Z H _ I h) fun v s1 ⟨x, H1, I1, r1, q1⟩ => tru_ok pins s1 Z H1 x v Q I1 r1 q1) (he _)
theorem op_add_str : OpR X (binaryOp .Add) (fun x y H Q => ∃ i j, x = .str i /\ y = .str j /\ i.length + j.length <= sizeLine /\ Q (.str (i ++ j)) H) := by
 intro pins s Z H x y v u Q I rx ry h
 obtain ⟨i, j, rfl, rfl, hz, q⟩ := h
 obtain ⟨t, rfl⟩ := rx
 obtain ⟨t', rfl⟩ := ry
 exact add_str (fun t' tk => ⟨.str (i ++ j), H, I.tok _, ⟨_, rfl⟩, q⟩) hz
theorem vals1 {x : V} {us : List Value} (r : Vals [x] us) : ∃ u, us = [u] /\ RelV x u := by
 cases r with
 | cons r1 r2 => cases r2; exact ⟨_, rfl, r1⟩
theorem vals2 {x y : V} {us : List Value} (r : Vals [x, y] us) : ∃ u w', us = [u, w'] /\ RelV x u /\ RelV y w' := by
 cases r with
 | cons r1 r2 =>
  cases r2 with
  | cons r3 r4 => cases r4; exact ⟨_, _, rfl, r1, r3⟩
theorem call_max2 (hc : X.calm = true) : CallR X (.builtin "max") (fun xs H Q => ∃ i j, xs = [.int i, .int j] /\ Q (.int (if j > i then j else i)) H) := by
 intro pins s Z H xs us Q I r h
 obtain ⟨i, j, rfl, q⟩ := h
 obtain ⟨u, w', rfl, ⟨t, rfl⟩, ⟨t', rfl⟩⟩ := vals2 r
 refine max_two_ints (I.ok.hd hc) fun h' tk k => ⟨_, H, I.kept k, ?_, q⟩
 by_cases hj : j > i
 ·rw [if_pos hj, if_pos hj]; exact ⟨_, rfl⟩
 ·rw [if_neg hj, if_neg hj]; exact ⟨_, rfl⟩
theorem call_min2 (hc : X.calm = true) : CallR X (.builtin "min") (fun xs H Q => ∃ i j, xs = [.int i, .int j] /\ Q (.int (if j < i then j else i)) H) := by
 intro pins s Z H xs us Q I r h
 obtain ⟨i, j, rfl, q⟩ := h
 obtain ⟨u, w', rfl, ⟨t, rfl⟩, ⟨t', rfl⟩⟩ := vals2 r
 refine min_two_ints (I.ok.hd hc) fun h' tk k => ⟨_, H, I.kept k, ?_, q⟩
 by_cases hj : j < i
 ·rw [if_pos hj, if_pos hj]; exact ⟨_, rfl⟩
 ·rw [if_neg hj, if_neg hj]; exact ⟨_, rfl⟩
theorem call_int1 : CallR X (.type "int") (fun xs H Q => (∃ i, xs = [.int i] /\ Q (.int i) H) \/ ∃ k, xs = [.bl k] /\ Q (.int (if k then 1 else 0)) H) := by
 intro pins s Z H xs us Q I r h
 rcases h with ⟨i, rfl, q⟩ | ⟨k, rfl, q⟩
 ·obtain ⟨u, rfl, t, rfl⟩ := vals1 r
  exact call_int_int ⟨.int i, H, I, ⟨_, rfl⟩, q⟩
 ·obtain ⟨u, rfl, r1⟩ := vals1 r
  cases r1
  exact call_int_bool ⟨.int (if k then 1 else 0), H, I.tok _, ⟨_, rfl⟩, q⟩
end
structure ObjM (h : Heap) (x dx C : Addr) (mA : Str -> Option Value) : Prop where
 obj : h.get? x = some (PySem.W.instObj C dx)
 ns : h.Ns1 dx mA
 ne : dx ≠ x
theorem lookIn_ns {h : Heap} {dx : Addr} {mA : Str -> Option Value} (n : h.Ns1 dx mA) : ∃ od, h.get? dx = some od /\ ∀ name, PySem.W.lookIn name od = some (mA name) := by
 obtain ⟨o, es, ep, ho, hd, hk, _, hm⟩ := n
 refine ⟨o, ho, fun name => ?_⟩
 have e := hm name
 unfold nsFind findBy at e
 rw [<- Array.find?_toList] at e
 unfold PySem.W.lookIn
 rw [hd]
 dsimp only
 split
 ·rename_i y q
  rw [q] at e
  exact congrArg some e
 ·rename_i q
  rw [q] at e
  have a : es.toList.any (·.refKey) = false := by
   rw [List.any_eq_false]
   intro y hy
   obtain ⟨z, t, hkey⟩ := hk y (Array.mem_toList_iff.mp hy)
   simp [DictEntry.refKey, hkey]
  have a' : ¬ es.toList.any (·.refKey) = true := by rw [a]; exact Bool.false_ne_true
  rw [if_neg a']
  exact congrArg some e
theorem ObjM.look {h : Heap} {x dx C : Addr} {mA : Str -> Option Value} (I : ObjM h x dx C mA) : ∃ od, PySem.W.InstAt h x (PySem.W.instObj C dx) C (some od) /\ ∀ name, PySem.W.lookIn name od = some (mA name) :=
 let ⟨od, ho, hl⟩ := lookIn_ns I.ns
 ⟨od, ⟨I.obj, rfl, rfl, ho⟩, hl⟩
theorem RelO.some_of {v : V} {o : Option Value} (r : RelO (some v) o) : ∃ u, o = some u /\ RelV v u := by
 cases o with
 | none => exact (show False from r).elim
 | some u => exact ⟨u, rfl, r⟩
section
variable {P : Program} {w : World} {H H' : Hp} {h h' : Heap} {a C dx : Addr} {fs fs' : List (Str × V)}
theorem ins_get (hok : HOk P w H h) (e : H a = some (.ins C dx fs)) : ∃ mA, ObjM h a dx C mA /\ (∀ f, RelO (fs.lookup f) (mA f)) /\ PySem.Within mA (fs.map (·.1)) /\ fs.length <= 1000 /\ H dx = some (.own a) := by
 obtain ⟨d, z, ne, ob, mA, n, r, q⟩ := (show ObjOk P w H h a (.ins C dx fs) from hok a _ e)
 exact ⟨mA, ⟨ob, n, ne⟩, r, q, z, d⟩
end
structure Cls (K : PySem.W.Frag) (C : Addr) : Prop where
 pg : PySem.W.plainGet K C Str.empty = true
 hd : PySem.W.hasDictIn K C = true
 po : PySem.W.plainOver K C = true
 sa : PySem.W.findIn K (.ref C) "__setattr__" = some (some (.builtin "object.__setattr__"))
theorem Cls.get {K : PySem.W.Frag} {C : Addr} (c : Cls K C) (f : Str) : PySem.W.plainGet K C f = true := c.pg
section
variable {X : Cx} {pins : List (Addr × Obj)} {Z : St} {H : Hp} {s : Shared} {A : Around} {E : Value -> Shared -> Prop} {Q : Value -> Shared -> Prop} {c : Value} {b : Bool}
inductive TyOf (K : PySem.W.Frag) (H : Hp) : V -> Value -> Prop where
 | non : TyOf K H .non (.type "NoneType")
 | bl (x : Bool) : TyOf K H (.bl x) (.type "bool")
 | int (i : Int) : TyOf K H (.int i) (.type "int")
 | str (x : Str) : TyOf K H (.str x) (.type "str")
 | flt (x : UInt64) : TyOf K H (.flt x) (.type "float")
 | lst {a : Addr} {xs : List V} (e : H a = some (.lst xs)) : TyOf K H (.ref a) (.type "list")
 | frz {a : Addr} {o : Obj} {xs : List V} (e : H a = some (.frz o (.lst xs))) : TyOf K H (.ref a) (.type "list")
 | tup {a : Addr} {xs : List V} (e : H a = some (.tup xs)) : TyOf K H (.ref a) (.type "tuple")
 | dK {a : Addr} {kvs : List (Key × V)} (e : H a = some (.dK kvs)) : TyOf K H (.ref a) (.type "dict")
 | dT {a : Addr} {kvs : List (List Key × V)} (e : H a = some (.dT kvs)) : TyOf K H (.ref a) (.type "dict")
 | ins {a C dx : Addr} {fs : List (Str × V)} (e : H a = some (.ins C dx fs)) (cl : Cls K C) (ha : PySem.W.findIn K (.ref C) "__class__" = some (some (.builtin "object.__class__")))
   (hn : PySem.W.specialIn K (.builtin "object.__class__") "__get__" = some (some (.builtin "getset_descriptor.__get__"))) (htk : PySem.W.takesIn K (.builtin "object.__class__") = some true)
   (hm : PySem.W.mroIn K C (.type "object") = some true) : TyOf K H (.ref a) (.ref C)
theorem isinst_ok {x : V} {u t : Value} (I : Inv X pins Z H s) (rx : RelV x u) (ty : TyOf X.K H x t) (e : PySem.W.kitOne X.K t c = some b) (h : ∀ tk, Q (.bool b) { s with toks := tk }) :
  wpAny (model X.prog X.w) A (call (.builtin "isinstance") [u, c]) Q E s := by
 cases ty with
 | non => cases (show u = Value.none from rx); exact PySem.W.kia_one PySem.W.kitx_none I.kIn True.intro e (fun z => nomatch z) h
 | bl y => cases (show u = Value.bool y from rx); exact PySem.W.kia_one PySem.W.kitx_bool I.kIn True.intro e (fun z => nomatch z) h
 | int i => obtain ⟨t, q⟩ := (show ∃ t, u = Value.int i t from rx); cases q; exact PySem.W.kia_one PySem.W.kitx_int I.kIn True.intro e (fun z => nomatch z) h
 | str y => obtain ⟨t, q⟩ := (show ∃ t, u = Value.str y t from rx); cases q; exact PySem.W.kia_one PySem.W.kitx_str I.kIn True.intro e (fun z => nomatch z) h
 | flt y => obtain ⟨t, q⟩ := (show ∃ t, u = Value.float y t from rx); cases q; exact PySem.W.kia_one PySem.W.kitx_float I.kIn True.intro e (fun z => nomatch z) h
 | @lst a xs ea =>
  cases (show u = Value.ref a from rx)
  obtain ⟨_, _, n, _, h1⟩ := (show ObjOk X.prog X.w H s.heap a (.lst xs) from I.hok a _ ea)
  exact PySem.W.kia_one PySem.W.kitx_list I.kIn ⟨_, h1, rfl⟩ e (fun z => nomatch z) h
 | @frz a ob xs ea =>
  cases (show u = Value.ref a from rx)
  obtain ⟨_, _, _, n, _, h1⟩ := (show ObjOk X.prog X.w H s.heap a (.frz ob (.lst xs)) from I.hok a _ ea)
  exact PySem.W.kia_one PySem.W.kitx_list I.kIn ⟨_, h1, rfl⟩ e (fun z => nomatch z) h
 | @tup a xs ea =>
  cases (show u = Value.ref a from rx)
  obtain ⟨_, _, _, p⟩ := (show ObjOk X.prog X.w H s.heap a (.tup xs) from I.hok a _ ea)
  obtain ⟨o, h1, h2, _⟩ := p
  exact PySem.W.kia_one PySem.W.kitx_tuple I.kIn ⟨o, h1, h2⟩ e (fun z => nomatch z) h
 | @dK a kvs ea =>
  cases (show u = Value.ref a from rx)
  obtain ⟨_, _, vs, _, p⟩ := (show ObjOk X.prog X.w H s.heap a (.dK kvs) from I.hok a _ ea)
  obtain ⟨o, es, ep, h1, h2, _⟩ := p
  exact PySem.W.kia_one PySem.W.kitx_dict I.kIn ⟨o, h1, h2.1⟩ e (fun z => nomatch z) h
 | @dT a kvs ea =>
  cases (show u = Value.ref a from rx)
  obtain ⟨_, _, xs, _, o, es, ep, h1, h2, _⟩ := (show ObjOk X.prog X.w H s.heap a (.dT kvs) from I.hok a _ ea)
  exact PySem.W.kia_one PySem.W.kitx_dict I.kIn ⟨o, h1, h2.1⟩ e (fun z => nomatch z) h
 | @ins a C dx fs ea cl ha hn htk hm =>
  cases (show u = Value.ref a from rx)
  obtain ⟨mA, O, _⟩ := ins_get I.hok ea
  obtain ⟨od, J, _⟩ := O.look
  exact PySem.W.kia_one (PySem.W.kitx_own (cl.get _) cl.hd ha hn htk hm) I.kIn J e (fun z => nomatch z) h
end
structure Room (k : Nat) (A : Around) : Prop where
 hd : A.handled = none
 dp : A.depth + 3 * k + 5 < recursionLimit
 un : A.units + 16 * k + 200 < cLine
theorem Room.mono {j k : Nat} {A : Around} (r : Room k A) (h : j <= k) : Room j A := ⟨r.hd, by have := r.dp; lia, by have := r.un; lia⟩
theorem Room.deeper {k : Nat} {A : Around} (r : Room (k + 1) A) (env : Env) : Room k (A.deeper env) :=
 ⟨r.hd, by have := r.dp; show A.depth + 1 + 3 * k + 5 < _; lia, by have := r.un; show A.units + 3 + 16 * k + 200 < _; lia⟩
theorem Room.depth {k : Nat} {A : Around} (r : Room k A) : A.depth < recursionLimit := by have := r.dp; lia
theorem Room.units {k : Nat} {A : Around} (r : Room k A) : A.units + 64 < cLine := by have := r.un; lia
theorem Room.units0 {k : Nat} {A : Around} (r : Room k A) : A.units < cLine := by have := r.un; lia
noncomputable def tNil : TA := fun _ H Q => Q [] H
noncomputable def tCons (ta : TE) (tr : TA) : TA := fun Z H Q => ta Z H fun x H1 => tr Z H1 fun xs H2 => Q (x :: xs) H2
section
variable {X : Cx} {e : Expr} {es : List Expr} {te : TE} {t : TA} {pos : Pos}
theorem pa_nil : PA X [] tNil := fun _ _ _ _ H Q I h => Calls.spliced_nil ⟨[], H, I, .nil, h⟩
theorem pa_cons (ha : PE X e te) (hr : PA X es t) (hs : starEach (e :: es) X.env = (false, eval e X.env) :: starEach es X.env := by rfl) : PA X (e :: es) (tCons te t) := by
 intro pos pins s Z H Q I h
 rw [hs]
 show wpAny _ _ (spliced ((false, eval e X.env) :: backTo pos (starEach es X.env))) _ _ s
 refine Calls.spliced_cons (thn (ha pins s Z H _ I h) fun u s1 ⟨x, H1, I1, r1, q1⟩ => ?_)
 exact thn (hr pos pins s1 Z H1 _ I1 q1) fun us s2 ⟨xs, H2, I2, r2, q2⟩ => ⟨x :: xs, H2, I2, .cons r1 r2, q2⟩
noncomputable def tTup (t : TA) : TE := fun Z H Q => t Z H fun xs H1 => xs.length <= sizeLine /\ ∀ p, H1 p = none -> Q (.ref p) (upd H1 p (.tup xs))
noncomputable def tLst (t : TA) : TE := fun Z H Q => t Z H fun xs H1 => xs.length <= sizeLine /\ ∀ p, H1 p = none -> Q (.ref p) (upd H1 p (.lst xs))
theorem pe_tup {x1} (h : PA X es t) : PE X (.Tuple es x1 pos) (tTup t) := by
 intro pins s Z H Q I hq
 refine wpAny_Tuple_spliced (thn (h pos pins s Z H _ I hq) fun us s1 ⟨xs, H1, I1, r, z, q⟩ => ⟨by rw [<- r.length]; exact z, ?_⟩)
 have hf : H1 s1.heap.objs.size = none := I1.hok.fresh (Nat.le_refl _)
 refine ⟨.ref s1.heap.objs.size, upd H1 s1.heap.objs.size (.tup xs), I1.laid (t' := s1.toks) (fun b u e => Heap.get?_push_of_some _ e) (Nat.le_refl _) ?_, rfl, q _ hf⟩
 exact ⟨z, us, r, ⟨_, Heap.get?_push_size _ rfl, rfl, _, rfl⟩⟩
theorem pe_lst (h : PA X es t) : PE X (.List es pos) (tLst t) := by
 intro pins s Z H Q I hq
 refine wpAny_List_spliced (thn (h pos pins s Z H _ I hq) fun us s1 ⟨xs, H1, I1, r, z, q⟩ => ⟨by rw [<- r.length]; exact z, ?_⟩)
 have hf : H1 s1.heap.objs.size = none := I1.hok.fresh (Nat.le_refl _)
 refine ⟨.ref s1.heap.objs.size, upd H1 s1.heap.objs.size (.lst xs), I1.laid (t' := s1.toks) (fun b u e => Heap.get?_push_of_some _ e) (Nat.le_refl _) ?_, rfl, q _ hf⟩
 exact ⟨z, us, 0, r, Heap.get?_push_size _ rfl⟩
end
noncomputable abbrev Sp := List V -> Hp -> VK -> XK -> Prop
noncomputable abbrev CXT := List Env -> Hp -> Shared -> XK -> Value -> Shared -> Prop
structure Env0 (P : Program) (w : World) (K : PySem.W.Frag) (mg : Str -> Option Value) (base : Heap) (A : Around) (outer : List Env) (s : Shared) (H : Hp) : Prop where
 frames : A.frames = some outer
 mod : Mod K mg base
 bs : ∀ b o, base.get? b = some o -> s.heap.get? b = some o /\ H b = none
 bsz : base.objs.size <= s.heap.objs.size
 funs : s.heap.FunFrames base outer
 frf : ∀ b ∈ frs outer, H b = none
 hok : HOk P w H s.heap
 bare : AllBare s.gens
inductive CE (outer : List Env) (P : Program) (w : World) (H : Hp) (s : Shared) (Q : VK) (u : Value) (s' : Shared) : Prop
 | mk : ∀ v H', (s'.os = s.os) -> (AllBare s'.gens) -> (Un (frs outer) [] H H' s.heap s'.heap) -> (HOk P w H' s'.heap) -> (RelV v u) -> (Q v H') -> CE outer P w H s Q u s'
noncomputable def CR (CX : CXT) (outer : List Env) (P : Program) (w : World) (H : Hp) (s : Shared) (Q : VK) (E : XK) (r : Result) (s' : Shared) : Prop :=
 match r with
 | .ok (.ret u) => CE outer P w H s Q u s'
 | .ok _ => False
 | .error e => CX outer H s E e s'
structure FnOk (P : Program) (w : World) (K : PySem.W.Frag) (mg : Str -> Option Value) (base : Heap) (CX : CXT) (k : Nat) (f : Addr) (fd : FuncData) (ps : List Str) (sp : Sp) : Prop where
 len : ∀ vs H Q E, sp vs H Q E -> vs.length = ps.length
 run : ∀ (A : Around) (outer : List Env) (s : Shared) (H : Hp) (args : Args) (us : List Value) (vs : List V) (Q : VK) (E : XK), Room k A -> Env0 P w K mg base A outer s H -> BindsTo s fd args (ps.zip us) -> Vals vs us -> sp vs H Q E ->
  codeAny (model P w) A (.call (.ref f) args) (CR CX outer P w H s Q E) s
section
variable {X : Cx} {pins : List (Addr × Obj)} {Z : St} {H : Hp} {s s' : Shared}
theorem Inv.env0 (I : Inv X pins Z H s) : Env0 X.prog X.w X.K X.mg X.base X.A X.stack s H :=
 ⟨I.ok.frames, I.ok.mod, I.bs, Nat.le_trans I.ok.bsz I.sz, I.stack, I.stkFree, I.hok, I.bare⟩
theorem Inv.after {Q : VK} {u : Value} (I : Inv X pins Z H s) (h : CE X.stack X.prog X.w H s Q u s') : EP X pins Z Q u s' := by
 obtain ⟨v, H', os, bare, un, hok, r, q⟩ := h
 obtain ⟨hh, g, d, t, os'⟩ := s'
 obtain rfl : os' = s.os := os
 exact ⟨v, H', I.call (h' := hh) (g' := g) (d' := d) (t' := t) (ch := []) un hok bare (fun b z => absurd z (by simp)), r, q⟩
end
noncomputable def tCall (sp : Sp) (dvs : List V) (E : XK) (t : TA) : TE := fun Z H Q => t Z H fun vs H1 => sp (vs ++ dvs) H1 Q E
noncomputable def Binds (K : PySem.W.Frag) (fd : FuncData) (ps : List Str) (ds : List Value) : Prop :=
 ∀ (s : Shared) (us : List Value), K.In s.heap -> (us ++ ds).length = ps.length -> BindsTo s fd ⟨us, []⟩ (ps.zip (us ++ ds))
theorem Binds.all {K : PySem.W.Frag} {fd : FuncData} {ps : List Str} (h : ∀ us : List Value, us.length = ps.length -> bindArgs fd ⟨us, []⟩ = pure (ps.zip us)) : Binds K fd ps [] := fun s us _ hl => by
 rw [List.append_nil] at hl ⊢
 exact .of_eq (h us hl)
noncomputable def Passes (CX : CXT) (X : Cx) (E : XK) : Prop := ∀ (pins : List (Addr × Obj)) (Z : St) (H : Hp) (s : Shared) (e : Value) (s' : Shared), Inv X pins Z H s -> CX X.stack H s E e s' -> X.xe e s'
section
variable {X : Cx} {CX : CXT} {k : Nat} {f C : Addr} {fd : FuncData} {ps : List Str} {sp : Sp} {dvs : List V} {ds : List Value} {E : XK} {x m : Str} {p pos apos : Pos} {e o : Expr} {es : List Expr} {ta : TE} {t : TA}
theorem run_fn {pins : List (Addr × Obj)} {Z : St} {H : Hp} {s : Shared} {Q : VK} {us : List Value} {vs : List V} (F : FnOk X.prog X.w X.K X.mg X.base CX k f fd ps sp) (hr : Room k X.A) (hb : Binds X.K fd ps ds) (hd : Vals dvs ds) (hx : Passes CX X E)
  (I : Inv X pins Z H s) (r : Vals vs us) (h : sp (vs ++ dvs) H Q E) : wpAny (model X.prog X.w) X.A (call (.ref f) us) (EP X pins Z Q) X.xe s := by
 have r2 : Vals (vs ++ dvs) (us ++ ds) := r.append hd
 have hl : (us ++ ds).length = ps.length := by rw [<- r2.length]; exact F.len _ _ _ _ h
 refine wpAny_call (codeAny_mono (F.run X.A X.stack s H ⟨us, []⟩ (us ++ ds) (vs ++ dvs) Q E hr I.env0 (hb s us I.kIn hl) r2 h) fun r s' hq => ?_)
 cases r with
 | error e => exact hx pins Z H s e s' I hq
 | ok fl =>
  cases fl with
  | ret u => exact I.after hq
  | next => exact False.elim hq
  | brk => exact False.elim hq
  | cont => exact False.elim hq
theorem pe_call (F : FnOk X.prog X.w X.K X.mg X.base CX k f fd ps sp) (hr : Room k X.A) (hg : Gl X x) (hm : X.mg x = some (.ref f)) (hk : PySem.W.keepIn X.K (.ref f) = true) (hb : Binds X.K fd ps ds) (hd : Vals dvs ds) (hx : Passes CX X E)
  (ha : PA X (e :: es) t) (hdb : (x == ("__debug__" : Str)) = false := by decide) (he : starEach (e :: es) X.env = (false, eval e X.env) :: starEach es X.env := by rfl) (hpl : (backTo pos (starEach es X.env)).any (·.1) = false := by rfl) :
  PE X (.Call (.Name x p) (e :: es) [] pos) (tCall sp dvs E t) := by
 intro pins s Z H Q I h
 refine wpAny_Call_Name_kw (ld_glob I hg hm ?_ hdb)
 refine PySem.W.callWith_K (h₀ := X.base) I.ok.mod.kin hk (thn (ha pos pins s Z H _ I h) fun us s1 ⟨vs, H1, I1, r, q⟩ => ⟨I1.kIn, ?_⟩) he hpl
 exact run_fn F hr hb hd hx I1 r q
theorem pe_call0 (F : FnOk X.prog X.w X.K X.mg X.base CX k f fd ps sp) (hr : Room k X.A) (hg : Gl X x) (hm : X.mg x = some (.ref f)) (hk : PySem.W.keepIn X.K (.ref f) = true) (hb : Binds X.K fd ps ds) (hd : Vals dvs ds) (hx : Passes CX X E)
  (hdb : (x == ("__debug__" : Str)) = false := by decide) : PE X (.Call (.Name x p) [] [] pos) (tCall sp dvs E tNil) := by
 intro pins s Z H Q I h
 refine wpAny_Call_Name_kw (ld_glob I hg hm ?_ hdb)
 exact PySem.W.callWith_K0 I.kIn hk (run_fn (us := []) F hr hb hd hx I .nil h)
end
structure FnScope (N P : List Str) (sc : Scope) : Prop where
 kind : sc.kind = .function
 co : sc.isCoroutine = false
 gen : sc.isGenerator = false
 nd : N.Nodup
 pre : N.take P.length = P
 par : ∀ x ∈ P, sc.names.lookup x = some .local \/ sc.names.lookup x = some .cell
 nofree : ∀ y ∈ sc.names, y.2 ≠ .free
theorem fsc {N P : List Str} {sc : Scope} (kind_ : sc.kind = .function := by rfl) (co_ : sc.isCoroutine = false := by rfl) (gen_ : sc.isGenerator = false := by rfl) (nd_ : N.Nodup := by decide +kernel) (pre_ : N.take P.length = P := by rfl) (par_ : ∀ x ∈ P, sc.names.lookup x = some .local \/ sc.names.lookup x = some .cell := by decide +kernel) (nofree_ : ∀ y ∈ sc.names, y.2 ≠ .free := by decide +kernel) : FnScope N P sc := ⟨kind_, co_, gen_, nd_, pre_, par_, nofree_⟩
theorem bindL_out {kindOf : Str -> Option NameKind} {x : Str} : ∀ {binds : List (Str × Value)} {m : Str -> Option Value}, (∀ v, (x, v) ∉ binds) -> bindL kindOf binds m x = m x
 | [], _, _ => rfl
 | (n, v) :: r, m, h => by
  unfold bindL
  rw [bindL_out fun w hw => h w (List.mem_cons_of_mem _ hw)]
  split
  ·have : x ≠ n := by rintro rfl; exact h v List.mem_cons_self
   simp [this]
  ·rfl
theorem bindC_out {kindOf : Str -> Option NameKind} {x : Str} : ∀ {binds : List (Str × Value)} {m : Str -> Option Value}, (∀ v, (x, v) ∉ binds) -> bindC kindOf binds m x = m x
 | [], _, _ => rfl
 | (n, v) :: r, m, h => by
  unfold bindC
  rw [bindC_out fun w hw => h w (List.mem_cons_of_mem _ hw)]
  split
  ·rfl
  ·have : x ≠ n := by rintro rfl; exact h v List.mem_cons_self
   simp [this]
theorem bindL_get {kindOf : Str -> Option NameKind} {x : Str} {v : Value} : ∀ {P : List Str} {vs : List Value} {i : Nat} {m : Str -> Option Value}, P.Nodup -> P[i]? = some x -> vs[i]? = some v -> kindOf x = some .local ->
  bindL kindOf (P.zip vs) m x = some v
 | [], _, _, _, _, h, _, _ => by simp at h
 | _ :: _, [], _, _, _, _, h, _ => by simp at h
 | p :: P, w :: vs, 0, m, nd, h1, h2, hk => by
  simp at h1 h2; subst h1; subst h2
  show bindL kindOf ((p, w) :: P.zip vs) m p = _
  unfold bindL
  rw [bindL_out fun v hv => (List.nodup_cons.mp nd).1 (List.of_mem_zip hv).1, if_pos hk]
  simp
 | p :: P, w :: vs, i + 1, m, nd, h1, h2, hk => by
  show bindL kindOf ((p, w) :: P.zip vs) m x = _
  unfold bindL
  exact bindL_get (i := i) (List.nodup_cons.mp nd).2 (by simpa using h1) (by simpa using h2) hk
theorem bindC_get {kindOf : Str -> Option NameKind} {x : Str} {v : Value} : ∀ {P : List Str} {vs : List Value} {i : Nat} {m : Str -> Option Value}, P.Nodup -> P[i]? = some x -> vs[i]? = some v -> kindOf x ≠ some .local ->
  bindC kindOf (P.zip vs) m x = some v
 | [], _, _, _, _, h, _, _ => by simp at h
 | _ :: _, [], _, _, _, _, h, _ => by simp at h
 | p :: P, w :: vs, 0, m, nd, h1, h2, hk => by
  simp at h1 h2; subst h1; subst h2
  show bindC kindOf ((p, w) :: P.zip vs) m p = _
  unfold bindC
  rw [bindC_out fun v hv => (List.nodup_cons.mp nd).1 (List.of_mem_zip hv).1, if_neg hk]
  simp
 | p :: P, w :: vs, i + 1, m, nd, h1, h2, hk => by
  show bindC kindOf ((p, w) :: P.zip vs) m x = _
  unfold bindC
  exact bindC_get (i := i) (List.nodup_cons.mp nd).2 (by simpa using h1) (by simpa using h2) hk
noncomputable def start (N : List Str) (vs : List V) : St := vs.map some ++ List.replicate (N.length - vs.length) none
noncomputable def cxOf (CX : CXT) (P : Program) (w : World) (K : PySem.W.Frag) (mg : Str -> Option Value) (base : Heap) (N : List Str) (qual : Str) (scope : Scope) (f : Addr) (cd : Value) (A : Around) (outer : List Env) (s : Shared) (H : Hp) (E : XK) : Cx where
 prog := P
 w := w
 K := K
 mg := mg
 base := base
 A := A.deeper (envOfC qual scope s.heap.objs.size f cd)
 N := N
 s₀ := s
 H₀ := H
 env := envOfC qual scope s.heap.objs.size f cd
 outer := outer
 stack := envOfC qual scope s.heap.objs.size f cd :: outer
 ex := []
 calm := true
 fn := fun _ => true
 pn := []
 xe := fun e s' => wpAny (model P w) (A.deeper (envOfC qual scope s.heap.objs.size f cd)) (leaving (envOfC qual scope s.heap.objs.size f cd) e) (fun _ s'' => CX outer H s E e s'') (fun e' s'' => CX outer H s E e' s'') s'
theorem cell_has {sc : Scope} {n : Nat} {x : Str} (h : sc.names.lookup x = some .cell) : ∃ c, (cellsFrom n sc.names []).lookup x = some c := by
 have q := PySem.W.cellsFrom_some sc.names n [] (.inl h)
 exact Option.isSome_iff_exists.mp q
theorem inv_start {CX : CXT} {P : Program} {w : World} {K : PySem.W.Frag} {mg : Str -> Option Value} {base : Heap} {N ps : List Str} {qual : Str} {scope : Scope} {f : Addr} {cd : Value} {A : Around} {outer : List Env} {s s1 : Shared} {H : Hp} {E : XK} {us : List Value} {vs : List V}
  (S : FnScope N ps scope) (hd : A.handled = none) (e0 : Env0 P w K mg base A outer s H) (hl : vs.length = ps.length) (r : Vals vs us)
  (x : InCallC s s.heap.objs.size (bindL (envOfC qual scope s.heap.objs.size f cd).kindOf (ps.zip us) fun _ => none) (cellsFrom (s.heap.objs.size + 1) scope.names []) (bindC (envOfC qual scope s.heap.objs.size f cd).kindOf (ps.zip us) fun _ => none) s1) :
  Inv (cxOf CX P w K mg base N qual scope f cd A outer s H E) [] (start N vs) H s1 := by
 have hpl : ps.length <= N.length := by have := congrArg List.length S.pre; rw [List.length_take] at this; lia
 obtain ⟨h1, tk, rfl, hk⟩ := x.done
 have noA : ∀ b : Addr, b ∉ (cxOf CX P w K mg base N qual scope f cd A outer s H E).ex := fun b z => absurd (show b ∈ ([] : List Addr) from z) (by simp)
 refine ⟨⟨e0.mod, S.kind, rfl, rfl, Nat.le_refl _, fun y z c h1 h2 => ?_, fun y hy => ?_, fun y c _ h => ?_, fun _ => hd, Around.frames_deeper e0.frames, .inr ⟨rfl, rfl⟩, fun b z => absurd z (noA b), e0.bs, e0.bsz, fun b _ _ => noA b, fun b z => absurd z (noA b), e0.funs, e0.frf⟩,
  rfl, e0.bare, Un.kept hk, ⟨_, x.toInCall.ns, fun i y v h1 h2 h3 => ?_⟩, fun y c h => ⟨_, x.cell y c h⟩, e0.hok.fresh (Nat.le_refl _), fun y c h => ?_, fun p hp => absurd (show p ∈ ([] : List (Addr × Obj)) from hp) (by simp), e0.hok.kept hk, ?_⟩
 ·exact name_of_addr x.apart (PySem.mem_of_lookup h1) (PySem.mem_of_lookup h2)
 ·have hy : scope.names.lookup y = some .cell \/ scope.names.lookup y = some .free := hy
  rcases hy with hy | hy
  ·exact cell_has hy
  ·exact absurd rfl (S.nofree _ (PySem.mem_of_lookup hy))
 ·exact Nat.le_of_lt (x.above y c (PySem.mem_of_lookup h))
 ·have hi : i < vs.length := by
   unfold start at h2
   by_cases hi : i < vs.length
   ·exact hi
   ·rw [List.getElem?_append_right (by simpa using hi)] at h2
    rw [List.getElem?_replicate] at h2
    split at h2 <;> cases h2
  have ha : vs[i]? = some v := by
   unfold start at h2
   rw [List.getElem?_append_left (by simpa using hi), List.getElem?_map] at h2
   cases e : vs[i]? with
   | none => rw [e] at h2; cases h2
   | some a => rw [e] at h2; cases h2; rfl
  obtain ⟨u, hu, rv⟩ := r.get ha
  have hp : ps[i]? = some y := by
   rw [<- S.pre, List.getElem?_take_of_lt (by lia)]; exact h1
  have ndP : ps.Nodup := by rw [<- S.pre]; exact S.nd.sublist (List.take_sublist _ _)
  refine ⟨u, rv, ?_⟩
  rcases S.par y (List.mem_of_getElem? hp) with k | k
  ·exact .inl ⟨k, bindL_get ndP hp hu k⟩
  ·obtain ⟨c, e⟩ := cell_has (n := s.heap.objs.size + 1) k
   refine .inr ⟨.inl k, c, e, ?_⟩
   have q := x.cell y c e
   rw [bindC_get ndP hp hu (by show scope.names.lookup y ≠ _; rw [k]; decide)] at q
   exact q
 ·exact e0.hok.fresh (Nat.le_of_lt (x.above y c (PySem.mem_of_lookup h)))
 ·unfold start
  show _ = N.length
  rw [List.length_append, List.length_map, List.length_replicate]
  lia
theorem fn_of {CX : CXT} {P : Program} {w : World} {K : PySem.W.Frag} {mg : Str -> Option Value} {base : Heap} {k : Nat} {f : Addr} {name qual : Str} {params : Arguments} {body : List Stmt} {scope : Scope} {dV kV doc pm cdv ct oc : Value} {an od : Option Addr}
  {osl : Array (Option Value)} {N ps : List Str} {sp : Sp} (lk : K.lookup f = some ⟨oc, od, .func (PySem.W.fnOf name qual params body scope dV kV doc pm an cdv ct), osl⟩) (hcd : PySem.W.codeIn K cdv qual = true) (S : FnScope N ps scope)
  (len : ∀ vs H Q E, sp vs H Q E -> vs.length = ps.length)
  (hbody : ∀ (A : Around) (outer : List Env) (s : Shared) (H : Hp) (vs : List V) (Q : VK) (E : XK), Room k (A.deeper (envOfC qual scope s.heap.objs.size f cdv)) -> sp vs H Q E ->
   ∃ t, PSs (cxOf CX P w K mg base N qual scope f cdv A outer s H E) body t /\ t { nx := fun _ H' => Q .non H', rt := Q } (start N vs) H) :
  FnOk P w K mg base CX (k + 1) f (PySem.W.fnOf name qual params body scope dV kV doc pm an cdv ct) ps sp := by
 refine ⟨len, fun A outer s H args us vs Q E hr e0 hb r hsp => ?_⟩
 have hl := len _ _ _ _ hsp
 have KX : K.In s.heap := e0.mod.kin.keeps fun b o e => (e0.bs b o e).1
 have lim : s.heap.NoLimit := e0.mod.nolimit.keeps fun b o e => (e0.bs b o e).1
 have hkind : ∀ y ∈ ps.zip us, scope.names.lookup y.1 = some .local \/ (scope.names.lookup y.1 = some .cell /\ ((cellsFrom (s.heap.objs.size + 1) scope.names []).lookup y.1).isSome = true) := fun ⟨n, v⟩ hy => by
  rcases S.par n (List.of_mem_zip hy).1 with q | q
  ·exact .inl q
  ·exact .inr ⟨q, PySem.W.cellsFrom_some _ _ _ (.inl q)⟩
 refine codeAny_call_function hr.depth (KX _ _ lk) rfl S.co S.gen rfl (PySem.W.codeRec_of KX hcd) (hb _ _ _ _ ?_)
 refine wpAny_newFunctionEnv_cells S.kind hkind fun env he s1 x => ?_
 subst he
 refine ⟨lim.keeps x.toInCall.keep, codeAny_func ?_⟩
 obtain ⟨t, ht, hq⟩ := hbody A outer s H vs Q E (hr.deeper _) hsp
 have I : Inv (cxOf CX P w K mg base N qual scope f cdv A outer s H E) [] (start N vs) H s1 := inv_start S hr.hd e0 hl r x
 refine wpAny_mono (ht [] s1 (start N vs) H _ I hq) (fun fl s' hs => ?_) fun e s' hs => hs
 have fin : ∀ {Z' : St} {H' : Hp} {v : V} {u : Value}, Inv (cxOf CX P w K mg base N qual scope f cdv A outer s H E) [] Z' H' s' -> RelV v u -> Q v H' -> CE outer P w H s Q u s' :=
  fun {Z' H' v u} J rv q => ⟨v, H', J.os, J.bare, J.base, J.hok, rv, q⟩
 cases fl with
 | ret u =>
  obtain ⟨v, Z', H', J, rv, q⟩ := hs
  exact fin J rv q
 | next =>
  obtain ⟨Z', H', J, q⟩ := hs
  exact fin (v := V.non) (u := Value.none) J rfl q
 | brk =>
  obtain ⟨_, _, _, q⟩ := hs
  exact False.elim q
 | cont =>
  obtain ⟨_, _, _, q⟩ := hs
  exact False.elim q
section
variable {X : Cx} {x : Str} {p pos : Pos} {e : Expr} {es : List Expr} {t : TA} {id T : String} {r : List V -> Hp -> VK -> Prop}
noncomputable def tCB (r : List V -> Hp -> VK -> Prop) (t : TA) : TE := fun Z H Q => t Z H fun vs H1 => r vs H1 Q
theorem pe_callB (hc : CallR X (.builtin id) r) (hg : Gl X x) (hm : X.mg x = none) (hv : bootBuiltins x = some (.builtin id)) (ha : PA X (e :: es) t) (hn : x ≠ "__name__" := by decide) (hdb : (x == ("__debug__" : Str)) = false := by decide)
  (he : starEach (e :: es) X.env = (false, eval e X.env) :: starEach es X.env := by rfl) (hpl : (backTo pos (starEach es X.env)).any (·.1) = false := by rfl) : PE X (.Call (.Name x p) (e :: es) [] pos) (tCB r t) := by
 intro pins s Z H Q I h
 refine wpAny_Call_Name_kw (ld_blt I hg hm hv ?_ hn hdb)
 exact PyProof.Rows.callWith_builtin1 (thn (ha pos pins s Z H _ I h) fun us s1 ⟨vs, H1, I1, r1, q1⟩ => hc pins s1 Z H1 vs us Q I1 r1 q1) he hpl
theorem pe_callTy (hc : CallR X (.type T) r) (hg : Gl X x) (hm : X.mg x = none) (hv : bootBuiltins x = some (.type T)) (ha : PA X (e :: es) t) (hn : x ≠ "__name__" := by decide) (hdb : (x == ("__debug__" : Str)) = false := by decide)
  (he : starEach (e :: es) X.env = (false, eval e X.env) :: starEach es X.env := by rfl) (hpl : (backTo pos (starEach es X.env)).any (·.1) = false := by rfl) : PE X (.Call (.Name x p) (e :: es) [] pos) (tCB r t) := by
 intro pins s Z H Q I h
 refine wpAny_Call_Name_kw (ld_blt I hg hm hv ?_ hn hdb)
 exact PyProof.Rows.callWith_type1 (thn (ha pos pins s Z H _ I h) fun us s1 ⟨vs, H1, I1, r1, q1⟩ => hc pins s1 Z H1 vs us Q I1 r1 q1) he hpl
end
end L2
namespace HT
open PySem PyProof.Rows
section
variable {prog : Program} {w : World} {A : Around} {E : Value -> Shared -> Prop} {s : Shared}
theorem cat_tup {t b : Addr} {vs ws : List Value} {Q : Value -> Shared -> Prop} (ht : IsTup s.heap t vs.toArray) (hb : IsTup s.heap b ws.toArray) (hv : vs ≠ [])
  (h1 : ws = [] -> Q (.ref t) s) (h2 : ws ≠ [] -> Q (.ref s.heap.objs.size) { s with heap := s.heap.push { cls := .type "tuple", data := .seq (vs ++ ws).toArray } })
  (hsz : vs.length + ws.length <= sizeLine) : wpAny (model prog w) A (binaryOp .Add (.ref t) (.ref b)) Q E s := by
 obtain ⟨⟨cls, dd, data, sl⟩, ho, hc, n, hd⟩ := id ht
 obtain ⟨⟨cls2, dd2, data2, sl2⟩, ho2, hc2, n2, hd2⟩ := id hb
 simp only at hc hd hc2 hd2
 subst hc hd hc2 hd2
 have e : vs.toArray ++ ws.toArray = (vs ++ ws).toArray := by simp
 by_cases hw : ws = []
 ·exact concat_meets ⟨_, ho, rfl⟩ ⟨_, ho2, rfl⟩ noFill_tuple_add seq_tuple_add PySem.F.slot_tuple_add PySem.F.entry_tuple_add (PySem.F.args_tuple_add_2 _ _)
   (tuple_addW1 t b vs.toArray ws.toArray n n2 dd dd2 sl sl2 (by simpa using hv) (by simp [hw])) ⟨ho, ho2, h1 hw⟩
 ·refine concat_meets ⟨_, ho, rfl⟩ ⟨_, ho2, rfl⟩ noFill_tuple_add seq_tuple_add PySem.F.slot_tuple_add PySem.F.entry_tuple_add (PySem.F.args_tuple_add_2 _ _)
   (tuple_addW2 t b vs.toArray ws.toArray n n2 dd dd2 sl sl2 (by simpa using hv) (by simpa using hw) (by rw [List.size_toArray, List.size_toArray]; exact hsz)) ⟨ho, ho2, ?_⟩
  rw [e]
  exact h2 hw
noncomputable def sIx (n d : Nat) : Option Int -> Nat
 | none => d
 | some v => if v < 0 then (v + (n : Int)).toNat else min v.toNat n
theorem sIx_none (n d : Nat) : sIx n d none = d := rfl
theorem sIx_nat (n d k : Nat) : sIx n d (some (k : Int)) = min k n := by
 show (if (k : Int) < 0 then ((k : Int) + (n : Int)).toNat else min (k : Int).toNat n) = min k n
 rw [if_neg (by lia), Int.toNat_natCast]
theorem sIx_le (n d : Nat) (hd : d <= n) (o : Option Int) : sIx n d o <= n := by
 cases o with
 | none => exact hd
 | some v =>
  show (if v < 0 then (v + (n : Int)).toNat else min v.toNat n) <= n
  by_cases hv : v < 0
  ·rw [if_pos hv]; lia
  ·rw [if_neg hv]; exact Nat.min_le_right _ _
theorem clip_eq (v : Int) (n d : Nat) : (if v < 0 then max (v + (n : Int)) 0 else min v (n : Int)) = ((sIx n d (some v) : Nat) : Int) := by
 show (if v < 0 then max (v + (n : Int)) 0 else min v (n : Int)) = (((if v < 0 then (v + (n : Int)).toNat else min v.toNat n) : Nat) : Int)
 by_cases hv : v < 0
 ·simp only [if_pos hv]; lia
 ·simp only [if_neg hv]; lia
theorem adjust_gen (lo hi : Option Int) (n : Nat) : Builtin.Slice.sliceAdjust lo hi 1 (n : Int) = (((sIx n 0 lo : Nat) : Int), ((sIx n n hi : Nat) : Int)) := by
 have h1 : ¬ ((1 : Int) < 0) := by lia
 unfold Builtin.Slice.sliceAdjust
 simp only [h1, if_false]
 refine Prod.ext ?_ ?_
 ·cases lo with
  | none => rfl
  | some v => exact clip_eq v n 0
 ·cases hi with
  | none => rfl
  | some v => exact clip_eq v n n
theorem places_gen (i j : Nat) : Builtin.Slice.slicePlaces (i : Int) (j : Int) 1 = j - i := by
 unfold Builtin.Slice.slicePlaces
 have h1 : (1 : Int) > 0 := by lia
 simp only [h1, if_true, Int.ediv_one]
 split <;> lia
theorem slicePart_ {v : Value} {o : Option Int} {Q : Option Int -> Shared -> Prop} (p : IsPart v o) (h : Q o s) : wpAny (model prog w) A (Builtin.Slice.slicePartIndex v) Q E s := by
 cases p with
 | none => exact slicePart_none h
 | int i t => exact slicePart_int h
theorem sliceApplied_gen {sl : Addr} {vl vu : Value} {lo hi : Option Int} {n : Nat} {Q : Int × Int × Nat -> Shared -> Prop} (hs : s.heap.IsSliceOf sl vl vu .none) (pl : IsPart vl lo) (pu : IsPart vu hi)
  (h : Q (((sIx n 0 lo : Nat) : Int), 1, sIx n n hi - sIx n 0 lo) s) : wpAny (model prog w) A (Builtin.Slice.sliceApplied (.ref sl) (pure (n : Int))) Q E s := by
 obtain ⟨os, hos, hcs, hds⟩ := id hs
 unfold Builtin.Slice.sliceApplied Builtin.Slice.sliceFields
 refine wpAny_bind (wpAny_bind (wpAny_field hos hds (x := vl) rfl (wpAny_bind (wpAny_field hos hds (x := vu) rfl (wpAny_bind (wpAny_field hos hds (x := .none) rfl (wpAny_pure ?_)))))))
 refine wpAny_bind (slicePart_none ?_)
 show wpAny _ _ (if ((1 : Int) == 0) = true then _ else _) _ _ s
 rw [if_neg (by decide)]
 refine wpAny_bind (slicePart_ pl (wpAny_bind (slicePart_ pu (wpAny_bind (wpAny_pure ?_)))))
 show wpAny _ _ (match Builtin.Slice.sliceAdjust lo hi 1 (n : Int) with | (lo, hi) => pure (lo, (1 : Int), Builtin.Slice.slicePlaces lo hi 1)) _ _ s
 rw [adjust_gen lo hi n]
 show wpAny _ _ (pure (((sIx n 0 lo : Nat) : Int), (1 : Int), Builtin.Slice.slicePlaces ((sIx n 0 lo : Nat) : Int) ((sIx n n hi : Nat) : Int) 1)) _ _ s
 rw [places_gen]
 exact wpAny_pure h
theorem pick_gen (xs : Array Value) (i k : Nat) : ((List.range k).filterMap fun (m : Nat) => xs[((i : Int) + (m : Int) * 1).toNat]?).toArray = ((xs.toList.drop i).take k).toArray := by
 have e : (fun (m : Nat) => xs[((i : Int) + (m : Int) * 1).toNat]?) = fun m => xs[i + m]? := by
  funext m
  have : ((i : Int) + (m : Int) * 1).toNat = i + m := by lia
  rw [this]
 rw [e]
 have := pick_run xs i k
 rw [List.filterMap_map] at this
 have e2 : ((fun x => xs[x]?) ∘ fun x => i + x) = fun m => xs[i + m]? := rfl
 rw [e2] at this
 rw [this]
theorem getItem_tuple_cut {t sl : Addr} {items : Array Value} {vl vu : Value} {lo hi : Option Int} {Q : Value -> Shared -> Prop} (ht : IsTup s.heap t items) (hs : s.heap.IsSliceOf sl vl vu .none) (pl : IsPart vl lo) (pu : IsPart vu hi)
  (hw : ¬ (sIx items.size 0 lo = 0 /\ sIx items.size items.size hi = items.size))
  (h : Q (.ref s.heap.objs.size) { s with heap := s.heap.push { cls := .type "tuple", data := .seq ((items.toList.drop (sIx items.size 0 lo)).take (sIx items.size items.size hi - sIx items.size 0 lo)).toArray } })
  (hsz : items.size <= sizeLine) : wpAny (model prog w) A (getItem (.ref t) (.ref sl)) Q E s := by
 have htake : sizeOk (.seq ((items.toList.drop (sIx items.size 0 lo)).take (sIx items.size items.size hi - sIx items.size 0 lo)).toArray) := by
  show ((items.toList.drop (sIx items.size 0 lo)).take (sIx items.size items.size hi - sIx items.size 0 lo)).toArray.size <= sizeLine
  rw [List.size_toArray, List.length_take, List.length_drop, Array.length_toList]
  lia
 have hj : sIx items.size items.size hi <= items.size := sIx_le _ _ (Nat.le_refl _) hi
 obtain ⟨os, hos, hcs, hds⟩ := id hs
 have hTs : s.TypeIs (.ref sl) "slice" := ⟨os, hos, hcs⟩
 unfold getItem
 try with_reducible refine wpAny_holding ?_
 first | refine wpAny_bind (wpAny_pure ?_) | skip
 refine wpAny_bind (wpAny_sequenceKey ht.typeIs (by decide) ?_)
 refine wpAny_bind (wpAny_callSpecial?_slot (name := Str.ofString "__getitem__") ht.typeIs PyProof.Rows.slot_tuple_getitem
  (wpAny_call_entry PyProof.Rows.slot_tuple_getitem ht.typeIs entry_tuple_getitem ?_ (args_tuple_getitem _ _)))
 show wpAny _ _ (Builtin.Tuple.tupleItemsOf (.ref t) >>= _) _ _ s
 refine wpAny_bind (tupleItemsOf_ ht ?_)
 refine wpAny_bind (wpAny_typeOf hTs ?_)
 rw [if_pos (by decide)]
 refine wpAny_bind (sliceApplied_gen hs pl pu ?_)
 have hno : ¬ ((((sIx items.size 0 lo : Nat) : Int) == 0 && (1 : Int) == 1 && (sIx items.size items.size hi - sIx items.size 0 lo) == items.size) = true) := by
  intro q
  rw [Bool.and_eq_true, Bool.and_eq_true] at q
  have q1 : ((sIx items.size 0 lo : Nat) : Int) = 0 := eq_of_beq q.1.1
  have q2 : sIx items.size items.size hi - sIx items.size 0 lo = items.size := eq_of_beq q.2
  exact hw ⟨by lia, by lia⟩
 show wpAny _ _ (if (((sIx items.size 0 lo : Nat) : Int) == 0 && (1 : Int) == 1 && (sIx items.size items.size hi - sIx items.size 0 lo) == items.size) = true then _ else _) _ _ s
 rw [if_neg hno, pick_gen]
 first
  | exact wpAny_bind (m := Builtin.Tuple.tupleExact _) (wpAny_newObj_type (wpAny_pure ⟨_, rfl, wpAny_pure h⟩) htake)
  | exact wpAny_bind (m := Builtin.Tuple.tupleExact _) (wpAny_newObj_type (wpAny_bind (wpAny_pure (wpAny_pure ⟨_, rfl, wpAny_pure h⟩))) htake)
  | exact wpAny_bind (wpAny_bind (m := Builtin.Tuple.tupleExact _) (wpAny_newObj_type (wpAny_pure (wpAny_pure ⟨_, rfl, wpAny_pure h⟩)) htake))
  | exact wpAny_bind (wpAny_bind (m := Builtin.Tuple.tupleExact _) (wpAny_newObj_type (wpAny_pure ⟨_, rfl, wpAny_pure h⟩) htake))
end
end HT
namespace L2
open PySem PySem.Spec PyProof.Rows
noncomputable abbrev TO := St -> Hp -> (Option Int -> Hp -> Prop) -> Prop
noncomputable def PO (X : Cx) (e : Option Expr) (t : TO) : Prop :=
 ∀ (pins : List (Addr × Obj)) (s : Shared) (Z : St) (H : Hp) (Q : Option Int -> Hp -> Prop), Inv X pins Z H s -> t Z H Q ->
  wpAny (model X.prog X.w) X.A (evalPart e X.env) (fun u s' => ∃ o H', Inv X pins Z H' s' /\ IsPart u o /\ Q o H') X.xe s
noncomputable def tNoPart : TO := fun _ H Q => Q none H
inductive rIntP  (x : V) (H1 : Hp) (Q : (Option Int -> Hp -> Prop)) : Prop
 | mk : ∀ i, (x = .int i) -> (Q (some i) H1) -> rIntP x H1 Q
noncomputable def tPart (t : TE) : TO := fun Z H Q => t Z H fun x H1 => rIntP x H1 Q
section
variable {X : Cx} {e : Expr} {te : TE} {lo hi : Option Expr} {tl th : TO} {pos p2 : Pos}
theorem po_none : PO X none tNoPart := by
 intro pins s Z H Q I h
 rw [evalPart_none]
 exact wpAny_pure ⟨none, H, I, .none, h⟩
theorem po_some (h : PE X e te) : PO X (some e) (tPart te) := by
 intro pins s Z H Q I hw
 rw [evalPart_some]
 refine thn (h pins s Z H _ I hw) fun u s1 ⟨x, H1, I1, r1, q1⟩ => ?_
 obtain ⟨i, rfl, q⟩ := q1
 obtain ⟨t, rfl⟩ := r1
 exact ⟨some i, H1, I1, .int i t, q⟩
noncomputable def SlR (X : Cx) (r : V -> Option Int -> Option Int -> Hp -> VK -> Prop) : Prop :=
 ∀ (pins : List (Addr × Obj)) (s : Shared) (Z : St) (H : Hp) (x : V) (v vl vu : Value) (lo hi : Option Int) (sl : Addr) (Q : VK), Inv X pins Z H s -> RelV x v -> s.heap.IsSliceOf sl vl vu .none -> IsPart vl lo -> IsPart vu hi -> r x lo hi H Q ->
  ∃ T id, typeLookup (.type T) "__getitem__" = pure (some (.builtin id)) /\ s.TypeIs v T /\ wpAny (model X.prog X.w) X.A (getItem v (.ref sl)) (EP X pins Z Q) X.xe s
noncomputable def tSl (r : V -> Option Int -> Option Int -> Hp -> VK -> Prop) (te : TE) (tl th : TO) : TE := fun Z H Q => te Z H fun x H1 => tl Z H1 fun l H2 => th Z H2 fun u H3 => r x l u H3 Q
theorem pe_slice {r : V -> Option Int -> Option Int -> Hp -> VK -> Prop} (hr : SlR X r) (he : PE X e te) (hl : PO X lo tl) (hu : PO X hi th) : PE X (.Subscript e (.Slice lo hi none p2) pos) (tSl r te tl th) := by
 intro pins s Z H Q I h
 refine Subscript_ (thn (he pins s Z H _ I h) fun v s1 ⟨x, H1, I1, r1, q1⟩ => ?_)
 refine wpAny_Slice (thn (hl pins s1 Z H1 _ I1 q1) fun vl s2 ⟨l, H2, I2, pl, q2⟩ => thn (hu pins s2 Z H2 _ I2 q2) fun vu s3 ⟨u, H3, I3, pu, q3⟩ => ?_)
 rw [evalPart_none]
 refine wpAny_pure ?_
 have I4 : Inv X pins Z H3 { s3 with heap := s3.heap.push { cls := .type "slice", data := .fields #[vl, vu, .none] } } := I3.kept (t' := s3.toks) fun b ob q => Heap.get?_push_of_some _ q
 obtain ⟨T, id, hT, ht, hg⟩ := hr pins { s3 with heap := s3.heap.push { cls := .type "slice", data := .fields #[vl, vu, .none] } } Z H3 x v vl vu l u s3.heap.objs.size Q I4 r1 (Heap.IsSliceOf.new ..) pl pu q3
 show wpAny (model X.prog X.w) X.A (subscriptTail e (.Slice lo hi none p2) v (.ref s3.heap.objs.size)) (EP X pins Z Q) X.xe { s3 with heap := s3.heap.push { cls := .type "slice", data := .fields #[vl, vu, .none] } }
 exact tail_any (ops := [.ref s3.heap.objs.size, v]) ht hT hg (by with_unfolding_all rfl)
noncomputable def cutV (xs : List V) (lo hi : Option Int) : List V := (xs.drop (HT.sIx xs.length 0 lo)).take (HT.sIx xs.length xs.length hi - HT.sIx xs.length 0 lo)
theorem cutV_length (xs : List V) (lo hi : Option Int) : (cutV xs lo hi).length <= xs.length := by
 unfold cutV
 rw [List.length_take, List.length_drop]
 lia
inductive rSlT (K : PySem.W.Frag) (x : V) (lo : Option Int) (hi : Option Int) (H : Hp) (Q : VK) : Prop
 | mk : ∀ a xs, (x = .ref a) -> (SqT K H a xs) -> (¬ (HT.sIx xs.length 0 lo = 0 /\ HT.sIx xs.length xs.length hi = xs.length)) -> (∀ p, H p = none -> Q (.ref p) (upd H p (.tup (cutV xs lo hi)))) -> rSlT K x lo hi H Q
theorem sl_tup : SlR X (rSlT X.K) := by
 intro pins s Z H x v vl vu lo hi sl Q I rx hs pl pu h
 obtain ⟨a, xs, rfl, hx, hw, q⟩ := h
 cases rx
 obtain ⟨its, r, ht, hz⟩ := I.tuple hx
 have hlen : its.toArray.size = xs.length := by rw [List.size_toArray]; exact r.length.symm
 refine ⟨"tuple", _, PyProof.Rows.slot_tuple_getitem.lookup, ht.typeIs, ?_⟩
 refine HT.getItem_tuple_cut ht hs pl pu (by rw [hlen]; exact hw) ?_ (by rw [hlen]; exact hz)
 rw [hlen]
 refine ⟨.ref s.heap.objs.size, _, I.laid (t' := s.toks) (o := .tup (cutV xs lo hi)) (fun b ob q => Heap.get?_push_of_some _ q) (Nat.le_refl _) ?_, rfl, q _ (I.hok.fresh (Nat.le_refl _))⟩
 exact ⟨Nat.le_trans (cutV_length xs lo hi) hz, _, (r.drop (HT.sIx xs.length 0 lo)).take (HT.sIx xs.length xs.length hi - HT.sIx xs.length 0 lo), IsTup.new _ _⟩
inductive rCatT (K : PySem.W.Frag) (x : V) (y : V) (H : Hp) (Q : VK) : Prop
 | mk : ∀ a b xs ys, (x = .ref a) -> (y = .ref b) -> (SqT K H a xs) -> (SqT K H b ys) -> (xs ≠ []) -> (xs.length + ys.length <= sizeLine) -> ((ys = [] -> Q (.ref a) H)) -> ((ys ≠ [] -> ∀ p, H p = none -> Q (.ref p) (upd H p (.tup (xs ++ ys))))) -> rCatT K x y H Q
theorem Vals.nil_iff {xs : List V} {us : List Value} (r : Vals xs us) : us = [] ↔ xs = [] := by
 cases r with
 | nil => simp
 | cons _ _ => simp
theorem op_catT : OpR X (binaryOp .Add) (rCatT X.K) := by
 intro pins s Z H x y v u Q I rx ry h
 obtain ⟨a, b, xs, ys, rfl, rfl, ha, hb, hx, hz, q1, q2⟩ := h
 cases rx
 cases ry
 obtain ⟨its, r1, p1, _⟩ := I.tuple ha
 obtain ⟨its2, r2, p2, _⟩ := I.tuple hb
 refine HT.cat_tup p1 p2 (fun z => hx (r1.nil_iff.mp z)) (fun z => ⟨.ref a, H, I, rfl, q1 (r2.nil_iff.mp z)⟩) (fun z => ?_) (by rw [<- r1.length, <- r2.length]; exact hz)
 refine ⟨.ref s.heap.objs.size, _, I.laid (t' := s.toks) (o := .tup (xs ++ ys)) (fun b ob q => Heap.get?_push_of_some _ q) (Nat.le_refl _) ?_, rfl, q2 (fun w => z (r2.nil_iff.mpr w)) _ (I.hok.fresh (Nat.le_refl _))⟩
 exact ⟨by rw [List.length_append]; exact hz, _, r1.append r2, IsTup.new _ _⟩
end
noncomputable def ixN (n : Nat) (i : Int) : Option Nat := if 0 <= i then (if i < n then some i.toNat else none) else if -(n : Int) <= i then some (i + n).toNat else none
noncomputable def atI {α : Type} (xs : List α) (i : Int) : Option α := (ixN xs.length i).bind fun j => xs[j]?
theorem ixN_seq {n : Nat} {i : Int} {j : Nat} (h : ixN n i = some j) : seqIndex? i n = some j /\ j < n /\ -(n : Int) <= i /\ i < n := by
 unfold ixN at h
 by_cases h0 : 0 <= i
 ·rw [if_pos h0] at h
  by_cases h1 : i < n
  ·rw [if_pos h1] at h
   have e : i.toNat = j := Option.some.inj h
   exact ⟨by rw [seqIndex_of h0 h1, e], by lia, by lia, h1⟩
  ·rw [if_neg h1] at h; cases h
 ·rw [if_neg h0] at h
  by_cases h1 : -(n : Int) <= i
  ·rw [if_pos h1] at h
   have e : (i + n).toNat = j := Option.some.inj h
   exact ⟨by rw [seqIndex_neg (by lia) h1, e], by lia, h1, by lia⟩
  ·rw [if_neg h1] at h; cases h
theorem atI_get {α : Type} {xs : List α} {i : Int} {v : α} (h : atI xs i = some v) : ∃ j, seqIndex? i xs.length = some j /\ xs[j]? = some v /\ j < xs.length /\ -(xs.length : Int) <= i /\ i < xs.length := by
 unfold atI at h
 cases e : ixN xs.length i with
 | none => rw [e] at h; cases h
 | some j =>
  rw [e] at h
  obtain ⟨h1, h2, h3, h4⟩ := ixN_seq e
  exact ⟨j, h1, h, h2, h3, h4⟩
theorem atI_nat {α : Type} {xs : List α} {j : Nat} {v : α} (h : xs[j]? = some v) : atI xs (j : Int) = some v := by
 have hj : j < xs.length := (List.getElem?_eq_some_iff.mp h).1
 have e : ixN xs.length (j : Int) = some j := by
  unfold ixN
  rw [if_pos (by lia), if_pos (by lia)]; simp
 unfold atI; rw [e]; exact h
theorem atI_last {α : Type} (xs : List α) (v : α) : atI (xs ++ [v]) (-1) = some v := by
 have hl : (xs ++ [v]).length = xs.length + 1 := by simp
 have e : ixN (xs ++ [v]).length (-1) = some xs.length := by
  unfold ixN
  rw [hl, if_neg (by decide), if_pos (by lia)]
  congr 1
  lia
 unfold atI
 rw [e]
 show (xs ++ [v])[xs.length]? = some v
 simp
noncomputable def PlainIx (b : Expr) : Prop := ∀ o i, subscripted b false o i = operate [o, i] (getItem o i)
noncomputable def IxR (X : Cx) (r : R2) : Prop :=
 ∀ (value slice : Expr) (pins : List (Addr × Obj)) (s : Shared) (Z : St) (H : Hp) (x y : V) (v u : Value) (Q : VK), Inv X pins Z H s -> RelV x v -> RelV y u -> r x y H Q ->
  subscripted slice false v u = operate [v, u] (getItem v u) -> wpAny (model X.prog X.w) X.A (subscriptTail value slice v u) (EP X pins Z Q) X.xe s
noncomputable def MtR (X : Cx) (id : String) (r : V -> List V -> Hp -> VK -> Prop) : Prop :=
 ∀ (pins : List (Addr × Obj)) (s : Shared) (Z : St) (H : Hp) (x : V) (xs : List V) (v : Value) (us : List Value) (Q : VK), Inv X pins Z H s -> RelV x v -> Vals xs us -> r x xs H Q ->
  wpAny (model X.prog X.w) X.A (call (.builtin id) (v :: us)) (EP X pins Z Q) X.xe s
section
variable {X : Cx} {a b : Expr} {ta tb : TE} {pos : Pos}
theorem pe_ix {r : R2} (hr : IxR X r) (ha : PE X a ta) (hb : PE X b tb) (hs : PlainIx b) : PE X (.Subscript a b pos) (tOp r ta tb) := by
 intro pins s Z H Q I h
 exact Subscript_ (binT ha hb I h fun v u s2 x y H2 I2 rx ry q => hr a b pins s2 Z H2 x y v u Q I2 rx ry q (hs _ _))
inductive rIxL (K : PySem.W.Frag) (x : V) (y : V) (H : Hp) (Q : VK) : Prop
 | mk : ∀ p xs i v, (x = .ref p) -> (y = .int i) -> (SqL K H p xs) -> (atI xs i = some v) -> (Q v H) -> rIxL K x y H Q
inductive rIxT (K : PySem.W.Frag) (x : V) (y : V) (H : Hp) (Q : VK) : Prop
 | mk : ∀ p xs i v, (x = .ref p) -> (y = .int i) -> (SqT K H p xs) -> (atI xs i = some v) -> (Q v H) -> rIxT K x y H Q
inductive rIxS  (x : V) (y : V) (H : Hp) (Q : VK) : Prop
 | mk : ∀ z i c, (x = .str z) -> (y = .int i) -> (z.length <= sizeLine) -> (atI z.cps.toList i = some c) -> (Q (.str ⟨#[c]⟩) H) -> rIxS x y H Q
theorem ix_list : IxR X (rIxL X.K) := by
 intro value slice pins s Z H x y v u Q I rx ry h hs
 obtain ⟨p, xs, i, z, rfl, rfl, hq, he, q⟩ := h
 cases rx
 obtain ⟨t, rfl⟩ := ry
 obtain ⟨its, r, pl, hz⟩ := I.list hq
 obtain ⟨j, h1, h2, h3, h4, h5⟩ := atI_get he
 obtain ⟨w, ew, rw'⟩ := r.get h2
 have hl := r.length
 have hn := line63
 have fin : EP X pins Z Q w s := ⟨z, H, I, rw', q⟩
 by_cases h0 : 0 <= i
 ·have hj : i.toNat = j := by
   rw [seqIndex_of h0 h5] at h1
   exact Option.some.inj h1
  exact item_listR pl.isList h0 (by lia) (by rw [hj]; simpa using ew) fin hs
 ·have hj : (i + (its.toArray.size : Int)).toNat = j := by
   rw [seqIndex_neg (by lia) h4] at h1
   rw [List.size_toArray, <- hl]
   exact Option.some.inj h1
  exact subscriptTail_builtinR (x := w) pl.isList.typeIs slot_list_getitem.lookup
   (wpAny_getItem_list_neg (Q := fun r s' => r = w /\ EP X pins Z Q r s') pl.isList (by lia) (by rw [List.size_toArray] <;> lia) (by lia) (by rw [hj]; simpa using ew) ⟨rfl, fin⟩) hs
theorem ix_tup : IxR X (rIxT X.K) := by
 intro value slice pins s Z H x y v u Q I rx ry h hs
 obtain ⟨p, xs, i, z, rfl, rfl, hq, he, q⟩ := h
 cases rx
 obtain ⟨t, rfl⟩ := ry
 obtain ⟨its, r, pl, hz⟩ := I.tuple hq
 obtain ⟨j, h1, h2, h3, h4, h5⟩ := atI_get he
 obtain ⟨w, ew, rw'⟩ := r.get h2
 have hl := r.length
 have hn := line63
 have fin : EP X pins Z Q w s := ⟨z, H, I, rw', q⟩
 exact subscriptTail_builtinR (x := w) pl.typeIs slot_tuple_getitem.lookup
  (getItem_tuple (j := j) (Q := fun r s' => r = w /\ EP X pins Z Q r s') pl (by lia) (by lia) (by rw [List.size_toArray, <- hl]; exact h1) (by simpa using ew) ⟨rfl, fin⟩) hs
theorem ix_str : IxR X rIxS := by
 intro value slice pins s Z H x y v u Q I rx ry h hs
 obtain ⟨z, i, c, rfl, rfl, hz, he, q⟩ := h
 obtain ⟨t, rfl⟩ := rx
 obtain ⟨t', rfl⟩ := ry
 obtain ⟨j, h1, h2, h3, h4, h5⟩ := atI_get he
 have hl : z.cps.toList.length = z.length := by simp [Str.length]
 rw [hl] at h1 h4 h5
 have hn := line63
 exact tail_any (typeIs_str s z t) slot_str_getitem.lookup (getItem_str (c := c) (by
  have e1 : decide (i < -(2 ^ 63 : Int)) = false := decide_eq_false (by lia)
  have e2 : decide (i ≥ 2 ^ 63) = false := decide_eq_false (by lia)
  rw [e1, e2, Bool.or_false]) (by rw [h1]; simpa using h2) ⟨.str ⟨#[c]⟩, H, I.tok _, ⟨_, rfl⟩, q⟩) hs
theorem mapSeq_set (its : List Value) (n j : Nat) (u : Value) : Obj.mapSeq (·.setIfInBounds j u) { cls := .type "list", data := .seq its.toArray n } = { cls := .type "list", data := .seq (its.set j u).toArray n } := by
 simp [Obj.mapSeq]
theorem Inv.lst {pins : List (Addr × Obj)} {Z : St} {H : Hp} {s : Shared} {p : Addr} {xs : List V} (I : Inv X pins Z H s) (h : H p = some (.lst xs)) :
  ∃ (its : List Value) (n : Nat), Vals xs its /\ s.heap.get? p = some { cls := .type "list", data := .seq its.toArray n } /\ xs.length <= sizeLine := by
 obtain ⟨z, its, n, r, e⟩ := I.hok p _ h
 exact ⟨its, n, r, e, z⟩
theorem Inv.lstUpd {pins : List (Addr × Obj)} {Z : St} {H : Hp} {s : Shared} {p : Addr} {xs ys : List V} {its its' : List Value} {n n' : Nat} {f : Obj -> Obj} (I : Inv X pins Z H s) (h : H p = some (.lst xs))
  (ho : s.heap.get? p = some { cls := .type "list", data := .seq its.toArray n }) (hf : f { cls := .type "list", data := .seq its.toArray n } = { cls := .type "list", data := .seq its'.toArray n' }) (r : Vals ys its') (hz : ys.length <= sizeLine) (t : Nat) :
  Inv X pins Z (upd H p (.lst ys)) { s with heap := s.heap.update p f, toks := t } := by
 have e : (s.heap.update p f).get? p = some { cls := .type "list", data := .seq its'.toArray n' } := by
  rw [Heap.get?_update_self f ho (by rw [hf] <;> rfl), hf]
 refine I.write (x := p) (e := p) (by rw [h]; trivial) (.inl rfl) (fun b u hb q => (Heap.get?_update_other _ _ (Ne.symm hb)).trans q) ⟨_, e⟩ ?_
 exact ⟨hz, its', n', r, e⟩
inductive rSetL  (o : V) (i : V) (v : V) (H : Hp) (Q : (Hp -> Prop)) : Prop
 | mk : ∀ p xs k j, (o = .ref p) -> (i = .int k) -> (H p = some (.lst xs)) -> (ixN xs.length k = some j) -> (Q (upd H p (.lst (xs.set j v)))) -> rSetL o i v H Q
theorem set_list : PSet X rSetL := by
 intro pins s Z H o i v ov iv u Q I ro ri rv h
 obtain ⟨p, xs, k, j, rfl, rfl, hp, hj, q⟩ := h
 cases ro
 obtain ⟨t, rfl⟩ := ri
 obtain ⟨its, n, r, ho, hz⟩ := I.lst hp
 obtain ⟨h1, h2, h3, h4⟩ := ixN_seq hj
 have hl := r.length
 have hn := line63
 have I' : Inv X pins Z (upd H p (.lst (xs.set j v))) { s with heap := s.heap.update p (Obj.mapSeq (·.setIfInBounds j u)) } :=
  I.lstUpd hp ho (mapSeq_set its n j u) (r.set rv j) (by rw [List.length_set]; exact hz) s.toks
 by_cases h0 : 0 <= k
 ·have hk : k.toNat = j := by
   rw [seqIndex_of h0 h4] at h1
   exact Option.some.inj h1
  exact PySem.W.ki_setAt ho h0 (by lia) (by rw [List.size_toArray, <- hl]; exact h4) (by rw [hk]; exact ⟨_, I', q⟩)
 ·have hk : (k + (its.toArray.size : Int)).toNat = j := by
   rw [seqIndex_neg (by lia) h3] at h1
   rw [List.size_toArray, <- hl]
   exact Option.some.inj h1
  exact PySem.W.ki_setBack ho (by lia) (by rw [List.size_toArray, <- hl]; exact h3) (by lia) (by rw [hk]; exact ⟨_, I', q⟩)
theorem slice_bounds (lo hi : Option Int) (n : Nat) : (sliceBounds lo hi none n).1 = ((HT.sIx n 0 lo : Nat) : Int) /\ (sliceBounds lo hi none n).2.1 = ((HT.sIx n n hi : Nat) : Int) /\ (sliceBounds lo hi none n).2.2 = 1 := by
 refine ⟨?_, ?_, rfl⟩
 ·cases lo with
  | none => simp [sliceBounds, HT.sIx]
  | some i =>
   simp only [sliceBounds, HT.sIx, Option.getD_none, show (1 : Int) > 0 by decide, if_true]
   by_cases h : i < 0
   ·simp only [h, if_true] <;> lia
   ·simp only [h, if_false] <;> lia
 ·cases hi with
  | none => simp [sliceBounds, HT.sIx]
  | some i =>
   simp only [sliceBounds, HT.sIx, Option.getD_none, show (1 : Int) > 0 by decide, if_true]
   by_cases h : i < 0
   ·simp only [h, if_true] <;> lia
   ·simp only [h, if_false] <;> lia
theorem slicePick_cut (its : List Value) (lo hi : Option Int) : slicePick its.toArray lo hi none = ((its.drop (HT.sIx its.length 0 lo)).take (HT.sIx its.length its.length hi - HT.sIx its.length 0 lo)).toArray := by
 obtain ⟨h1, h2, h3⟩ := slice_bounds lo hi its.toArray.size
 unfold slicePick
 rw [h1, h2, h3]
 simp only [sliceRange_one, pick_run, List.size_toArray] <;> rfl
inductive rSlL (K : PySem.W.Frag) (x : V) (lo : Option Int) (hi : Option Int) (H : Hp) (Q : VK) : Prop
 | mk : ∀ a xs, (x = .ref a) -> (SqL K H a xs) -> (∀ p, H p = none -> Q (.ref p) (upd H p (.lst (cutV xs lo hi)))) -> rSlL K x lo hi H Q
theorem sl_list : SlR X (rSlL X.K) := by
 intro pins s Z H x v vl vu lo hi sl Q I rx hs pl pu h
 obtain ⟨a, xs, rfl, hx, q⟩ := h
 cases rx
 obtain ⟨its, r, ht, hz⟩ := I.list hx
 have hlen := r.length
 refine ⟨"list", _, slot_list_getitem.lookup, ht.isList.typeIs, ?_⟩
 refine wpAny_getItem_list_slice ht.isList hs pl pu .none (by simp) ?_ (by rw [List.size_toArray] <;> lia)
 rw [slicePick_cut, <- hlen]
 refine ⟨.ref s.heap.objs.size, _, I.laid (t' := s.toks) (o := .lst (cutV xs lo hi)) (fun b ob q => Heap.get?_push_of_some _ q) (Nat.le_refl _) ?_, rfl, q _ (I.hok.fresh (Nat.le_refl _))⟩
 exact ⟨Nat.le_trans (cutV_length xs lo hi) hz, _, 0, (r.drop (HT.sIx xs.length 0 lo)).take (HT.sIx xs.length xs.length hi - HT.sIx xs.length 0 lo), Heap.get?_push_size _ rfl⟩
noncomputable def flatV : V -> Bool
 | .non => true
 | .bl _ => true
 | .int _ => true
 | .str _ => true
 | _ => false
noncomputable def eqV : V -> V -> Bool
 | .non, .non => true
 | .bl a, .bl b => a == b
 | .bl a, .int b => (if a then 1 else 0) == b
 | .int a, .bl b => a == (if b then 1 else 0)
 | .int a, .int b => a == b
 | .str a, .str b => a == b
 | _, _ => false
theorem eqAt_V {A : Around} {s : Shared} {y x : V} {u v : Value} (ry : RelV y u) (rx : RelV x v) (fy : flatV y = true) (fx : flatV x = true) : SeqAt.EqAt A s u v (eqV y x) := by
 cases y with
 | non =>
  cases ry
  cases x with
  | non => cases rx; exact SeqAt.EqAt.same _
  | bl b => cases rx; exact SeqAt.EqAt.none_bool b
  | int b => obtain ⟨t, rfl⟩ := rx; exact SeqAt.EqAt.none_int b t
  | str b => obtain ⟨t, rfl⟩ := rx; exact SeqAt.EqAt.none_str b t
  | _ => exact absurd (show false = true from fx) Bool.false_ne_true
 | bl a =>
  cases ry
  cases x with
  | non => cases rx; exact SeqAt.EqAt.bool_none a
  | bl b => cases rx; exact SeqAt.EqAt.bool_bool a b
  | int b => obtain ⟨t, rfl⟩ := rx; exact SeqAt.EqAt.bool_int a b t
  | str b => obtain ⟨t, rfl⟩ := rx; exact SeqAt.EqAt.bool_str a b t
  | _ => exact absurd (show false = true from fx) Bool.false_ne_true
 | int a =>
  obtain ⟨t', rfl⟩ := ry
  cases x with
  | non => cases rx; exact SeqAt.EqAt.int_none a t'
  | bl b => cases rx; exact SeqAt.EqAt.int_bool a t' b
  | int b => obtain ⟨t, rfl⟩ := rx; exact SeqAt.EqAt.int_int a t' b t
  | str b => obtain ⟨t, rfl⟩ := rx; exact SeqAt.EqAt.int_str a t' b t
  | _ => exact absurd (show false = true from fx) Bool.false_ne_true
 | str a =>
  obtain ⟨t', rfl⟩ := ry
  cases x with
  | non => cases rx; exact SeqAt.EqAt.str_none a t'
  | bl b => cases rx; exact SeqAt.EqAt.str_bool a t' b
  | int b => obtain ⟨t, rfl⟩ := rx; exact SeqAt.EqAt.str_int a t' b t
  | str b => obtain ⟨t, rfl⟩ := rx; exact SeqAt.EqAt.str_str a t' b t
  | _ => exact absurd (show false = true from fx) Bool.false_ne_true
 | _ => exact absurd (show false = true from fy) Bool.false_ne_true
noncomputable def eqU (x : V) (u : Value) : Bool := match u with
 | .none => eqV .non x
 | .bool b => eqV (.bl b) x
 | .int i _ => eqV (.int i) x
 | .str z _ => eqV (.str z) x
 | _ => false
theorem eqU_of {x y : V} {u : Value} (r : RelV y u) (f : flatV y = true) : eqU x u = eqV y x := by
 cases y with
 | non => cases r; rfl
 | bl b => cases r; rfl
 | int i => obtain ⟨t, rfl⟩ := r; rfl
 | str z => obtain ⟨t, rfl⟩ := r; rfl
 | _ => exact absurd (show false = true from f) Bool.false_ne_true
theorem any_eqU {x : V} : ∀ {xs : List V} {us : List Value}, Vals xs us -> xs.all flatV = true -> us.any (eqU x) = xs.any fun y => eqV y x
 | _, _, .nil, _ => rfl
 | y :: xs, u :: us, .cons r t, f => by
  rw [List.all_cons, Bool.and_eq_true] at f
  rw [List.any_cons, List.any_cons, eqU_of r f.1, any_eqU t f.2]
theorem mem_eqAt {A : Around} {s : Shared} {x : V} {v : Value} (rx : RelV x v) (fx : flatV x = true) : ∀ {xs : List V} {us : List Value}, Vals xs us -> xs.all flatV = true -> ∀ u ∈ us, SeqAt.EqAt A s u v (eqU x u)
 | _, _, .nil, _ => fun u hu => by cases hu
 | y :: xs, u :: us, .cons r t, f => fun u' hu => by
  rw [List.all_cons, Bool.and_eq_true] at f
  rcases List.mem_cons.mp hu with rfl | hu
  ·rw [eqU_of r f.1]; exact eqAt_V r rx f.1 fx
  ·exact mem_eqAt rx fx t f.2 u' hu
noncomputable def inV (x : V) (xs : List V) : Bool := xs.any fun y => eqV y x
inductive rIn (K : PySem.W.Frag) (neg : Bool) (x : V) (y : V) (H : Hp) (Q : VK) : Prop
 | mk : ∀ p xs, (y = .ref p) -> ((SqL K H p xs \/ SqT K H p xs)) -> (flatV x = true) -> (xs.all flatV = true) -> (Q (.bl (if neg then !inV x xs else inV x xs)) H) -> rIn K neg x y H Q
theorem op_in_seq : OpR X (compareOp .In) (rIn X.K false) := by
 intro pins s Z H x y v u Q I rx ry h
 obtain ⟨p, xs, rfl, hq, fx, fs, q⟩ := h
 cases ry
 rcases hq with hq | hq
 ·obtain ⟨its, r, pl, hz⟩ := I.list hq
  refine SeqAt.in_listAt (eqU x) pl.isList (fun w hw => mem_eqAt rx fx r fs w (by simpa using hw)) ⟨.bl _, H, I, rfl, ?_⟩
  rw [show its.toArray.any (eqU x) = its.any (eqU x) by simp, any_eqU r fs]
  exact q
 ·obtain ⟨its, r, pl, hz⟩ := I.tuple hq
  refine SeqAt.in_tupleAt (eqU x) pl (fun w hw => mem_eqAt rx fx r fs w (by simpa using hw)) ⟨.bl _, H, I, rfl, ?_⟩
  rw [show its.toArray.any (eqU x) = its.any (eqU x) by simp, any_eqU r fs]
  exact q
inductive rLen (K : PySem.W.Frag) (xs : List V) (H : Hp) (Q : VK) : Prop
 | mk : ∀ p ys, (xs = [.ref p]) -> ((SqL K H p ys \/ SqT K H p ys)) -> (Q (.int ys.length) H) -> rLen K xs H Q
theorem call_len_seq : CallR X (.builtin "len") (rLen X.K) := by
 intro pins s Z H xs us Q I r h
 obtain ⟨p, ys, rfl, hq, q⟩ := h
 obtain ⟨u, rfl, rx⟩ := vals1 r
 cases rx
 have hn := line63
 rcases hq with hq | hq
 ·obtain ⟨its, r', pl, hz⟩ := I.list hq
  have hlen := r'.length
  exact Calls.call_len_list pl.isList (by simp only [List.size_toArray] <;> lia) ⟨.int ys.length, H, I.tok _, ⟨s.toks + 1, by rw [List.size_toArray, hlen]⟩, q⟩
 ·obtain ⟨its, r', pl, hz⟩ := I.tuple hq
  have hlen := r'.length
  exact len_tuple pl (by simp only [List.size_toArray] <;> lia) ⟨.int ys.length, H, I.tok _, ⟨s.toks + 1, by rw [List.size_toArray, hlen]⟩, q⟩
inductive rTupOf (K : PySem.W.Frag) (xs : List V) (H : Hp) (Q : VK) : Prop
 | mk : ∀ p ys, (xs = [.ref p]) -> (((SqL K H p ys /\ ∀ l, H l = none -> Q (.ref l) (upd H l (.tup ys))) \/ (SqT K H p ys /\ Q (.ref p) H))) -> rTupOf K xs H Q
theorem call_tuple_of : CallR X (.type "tuple") (rTupOf X.K) := by
 intro pins s Z H xs us Q I r h
 obtain ⟨p, ys, rfl, h⟩ := h
 obtain ⟨u, rfl, rx⟩ := vals1 r
 cases rx
 rcases h with ⟨hq, q⟩ | ⟨hq, q⟩
 ·obtain ⟨its, r', pl, hz⟩ := I.list hq
  have hlen := r'.length
  refine call_tuple_list pl.isList (fun h' kp => ?_) (by simp only [List.size_toArray] <;> lia)
  have I1 : Inv X pins Z H { s with heap := h' } := I.kept (t' := s.toks) kp
  have I2 : Inv X pins Z (upd H h'.objs.size (.tup ys)) { s with heap := h'.push { cls := .type "tuple", data := .seq its.toArray } } :=
   I1.laid (t' := s.toks) (fun b o e => Heap.get?_push_of_some _ e) (Nat.le_refl _) (show ObjOk X.prog X.w _ _ _ (.tup ys) from ⟨hz, its, r', IsTup.new _ _⟩)
  exact ⟨.ref h'.objs.size, _, I2, rfl, q _ (I1.hok.fresh (Nat.le_refl _))⟩
 ·obtain ⟨its, r', pl, hz⟩ := I.tuple hq
  exact call_tuple_same pl ⟨.ref p, H, I, rfl, q⟩
noncomputable def tyV (K : PySem.W.Frag) (T : String) (x : V) (H : Hp) : Prop := match x with
 | .str _ => T = "str"
 | .int _ => T = "int"
 | .ref p => (T = "list" /\ ∃ xs, SqL K H p xs) \/ (T = "tuple" /\ ∃ o, K.lookup p = some o /\ o.cls = .type "tuple" /\ o.dict = none) \/
   (T = "dict" /\ ((∃ kvs, H p = some (.dK kvs)) \/ ∃ kvs, H p = some (.dT kvs))) \/ (T = "set" /\ ∃ S n, H p = some (.set S n))
 | _ => False
theorem tyV_is {pins : List (Addr × Obj)} {Z : St} {H : Hp} {s : Shared} {T : String} {x : V} {v : Value} (I : Inv X pins Z H s) (r : RelV x v) (ty : tyV X.K T x H) :
  s.TypeIs v T /\ ∀ a, v = .ref a -> ∃ ob, s.heap.get? a = some ob /\ ob.dict = none := by
 cases x with
 | str z =>
  obtain ⟨t, rfl⟩ := r
  cases (show T = "str" from ty)
  exact ⟨typeIs_str s z t, fun _ e => nomatch e⟩
 | int i =>
  obtain ⟨t, rfl⟩ := r
  cases (show T = "int" from ty)
  exact ⟨typeIs_int s i t, fun _ e => nomatch e⟩
 | ref p =>
  cases r
  rcases ty with ⟨rfl, xs, hq⟩ | ⟨rfl, o, hk, hc, hd⟩ | ⟨rfl, hk⟩ | ⟨rfl, S, n, hk⟩
  ·obtain ⟨its, _, pl, _⟩ := I.list hq
   refine ⟨pl.isList.typeIs, fun a e => ?_⟩
   cases e
   obtain ⟨o, n, e, c, hd, _⟩ := pl
   exact ⟨o, e, hd⟩
  ·refine ⟨⟨o, I.kIn p o hk, hc⟩, fun a e => ?_⟩
   cases e
   exact ⟨o, I.kIn _ o hk, hd⟩
  ·have z : ∃ o, s.heap.get? p = some o /\ o.ExactDict := by
    rcases hk with ⟨kvs, hk⟩ | ⟨kvs, hk⟩
    ·obtain ⟨_, _, _, _, o, _, _, e, ex, _⟩ := I.hok p _ hk
     exact ⟨o, e, ex⟩
    ·obtain ⟨_, _, _, _, o, _, _, e, ex, _⟩ := I.hok p _ hk
     exact ⟨o, e, ex⟩
   obtain ⟨o, e, ex⟩ := z
   refine ⟨⟨o, e, ex.1⟩, fun a e2 => ?_⟩
   cases e2
   exact ⟨o, e, ex.2.1⟩
  ·obtain ⟨o, _, _, _, e, ex, _⟩ := I.hok p _ hk
   refine ⟨⟨o, e, ex.1⟩, fun a e2 => ?_⟩
   cases e2
   exact ⟨o, e, ex.2.1⟩
 | _ => exact False.elim ty
noncomputable def tBM0 (K : PySem.W.Frag) (T : String) (r : V -> List V -> Hp -> VK -> Prop) (to : TE) : TE := fun Z H Q => to Z H fun x H1 => tyV K T x H1 /\ r x [] H1 Q
noncomputable def tBM (K : PySem.W.Frag) (T : String) (r : V -> List V -> Hp -> VK -> Prop) (to : TE) (t : TA) : TE := fun Z H Q => to Z H fun x H1 => tyV K T x H1 /\ t Z H1 fun xs H2 => r x xs H2 Q
variable {o e : Expr} {es : List Expr} {to : TE} {t : TA} {name : Str} {apos cpos : Pos} {T id : String} {r : V -> List V -> Hp -> VK -> Prop}
theorem pe_bm0 (pa : PlainAttrs T) (slot : Slot T name id) (hty : typeOf (.builtin id) = pure (.type "method_descriptor")) (hm : MtR X id r) (ho : PE X o to)
  (hbase : attributeBase o name X.env (eval o X.env) = eval o X.env := by rfl) (hline : (apos.endLine == cpos.line) = true := by rfl) : PE X (.Call (.Attribute o name apos) [] [] cpos) (tBM0 X.K T r to) := by
 intro pins s Z H Q I h
 refine wpAny_Call_method0_late hbase hline (thn (ho pins s Z H _ I h) fun v s1 ⟨x, H1, I1, r1, ty, q1⟩ => ?_)
 obtain ⟨h1, h2⟩ := tyV_is I1 r1 ty
 exact ⟨T, id, pa, slot, hty, h1, h2, Calls.callWith_builtin rfl (PySem.evalArgs_none (hm pins s1 Z H1 x [] v [] Q I1 r1 .nil q1))⟩
theorem pe_bm (pa : PlainAttrs T) (slot : Slot T name id) (hty : typeOf (.builtin id) = pure (.type "method_descriptor")) (hm : MtR X id r) (ho : PE X o to) (ha : PA X (e :: es) t)
  (hbase : attributeBase o name X.env (eval o X.env) = eval o X.env := by rfl)
  (hfew : ((backTo cpos (starEach (e :: es) X.env)).all (fun x => !x.1) && (backToKw cpos (keywordEach [] X.env)).all (fun x => x.1.isSome)
   && decide ((e :: es).length + ([] : List Keyword).length + (if ([] : List Keyword).isEmpty then 0 else 1) < 30)) = true := by rfl)
  (hline : (apos.endLine == cpos.line) = true := by rfl) (hs : starEach (e :: es) X.env = (false, eval e X.env) :: starEach es X.env := by rfl) (hplain : (backTo cpos (starEach es X.env)).any (·.1) = false := by rfl) :
  PE X (.Call (.Attribute o name apos) (e :: es) [] cpos) (tBM X.K T r to t) := by
 intro pins s Z H Q I h
 refine wpAny_Call_method_late hbase hfew hline rfl (thn (ho pins s Z H _ I h) fun v s1 ⟨x, H1, I1, r1, ty, q1⟩ => ?_)
 obtain ⟨h1, h2⟩ := tyV_is I1 r1 ty
 refine ⟨T, id, pa, slot, hty, h1, h2, ?_⟩
 have hA := ha cpos pins s1 Z H1 _ I1 q1
 rw [hs] at hA ⊢
 refine Calls.callWith_builtin (by show (false || (backTo cpos (starEach es X.env)).any (·.1)) = false; rw [hplain] <;> rfl) (Calls.evalArgs_plain ?_)
 exact thn hA fun us s2 ⟨vs, H2, I2, r2, q2⟩ => hm pins s2 Z H2 x vs v us Q I2 r1 r2 q2
end
noncomputable def MtM (X : Cx) (id : String) (r : V -> List V -> Hp -> VK -> Prop) : Prop :=
 ∀ (pins : List (Addr × Obj)) (s : Shared) (Z : St) (H : Hp) (x : V) (xs : List V) (v : Value) (us : List Value) (Q : VK), Inv X pins Z H s -> RelV x v -> Vals xs us -> r x xs H Q ->
  wpAny (model X.prog X.w) X.A (call (.builtin id) (v :: us)) (EP X pins Z Q) X.xe s
theorem Vals.one : ∀ {x : V} {us : List Value}, Vals [x] us -> ∃ u, us = [u] /\ RelV x u
 | _, _, .cons r .nil => ⟨_, rfl, r⟩
theorem Vals.two : ∀ {x y : V} {us : List Value}, Vals [x, y] us -> ∃ u v, us = [u, v] /\ RelV x u /\ RelV y v
 | _, _, _, .cons r (.cons q .nil) => ⟨_, _, rfl, r, q⟩
theorem Vals.zero : ∀ {us : List Value}, Vals [] us -> us = []
 | _, .nil => rfl
theorem Vals.dropLast {xs : List V} {us : List Value} (h : Vals xs us) : Vals xs.dropLast us.dropLast := by
 induction h with
 | nil => exact .nil
 | cons r t ih =>
  cases t with
  | nil => exact .nil
  | cons q t' => exact .cons r ih
theorem Vals.eraseIdx : ∀ {xs : List V} {us : List Value} (i : Nat), Vals xs us -> Vals (xs.eraseIdx i) (us.eraseIdx i)
 | _, _, _, .nil => .nil
 | _, _, 0, .cons _ t => t
 | _, _, i + 1, .cons r t => .cons r (Vals.eraseIdx i t)
theorem erase_last {α : Type} (l : List α) : l.eraseIdx (l.length - 1) = l.dropLast := by
 induction l with
 | nil => rfl
 | cons a r ih =>
  cases r with
  | nil => rfl
  | cons b r =>
   have e : (a :: b :: r).length - 1 = ((b :: r).length - 1) + 1 := by
    have h1 : (a :: b :: r).length = r.length + 2 := rfl
    have h2 : (b :: r).length = r.length + 1 := rfl
    lia
   rw [e, List.eraseIdx_cons_succ, ih]
   all_goals rfl
theorem len_erase {α : Type} : ∀ (l : List α) (i : Nat), (l.eraseIdx i).length <= l.length
 | [], _ => Nat.le_refl _
 | _ :: _, 0 => Nat.le_succ _
 | _ :: r, i + 1 => Nat.succ_le_succ (len_erase r i)
section
variable {X : Cx} {pins : List (Addr × Obj)} {Z : St} {H : Hp} {s : Shared} {l b : Addr} {xs ys zs : List V}
theorem Inv.lset {its its' : List Value} {n : Nat} {f : Array Value -> Array Value} {t' : Nat} (I : Inv X pins Z H s) (hH : H l = some (.lst xs))
  (e : s.heap.get? l = some { cls := .type "list", data := .seq its.toArray n }) (hf : f its.toArray = its'.toArray) (hv : Vals ys its') (hz : ys.length <= sizeLine) :
  Inv X pins Z (upd H l (.lst ys)) { s with heap := s.heap.update l (Obj.mapSeq f), toks := t' } := by
 have q := PySem.IsL.update e f
 rw [hf] at q
 refine I.write (x := l) (e := l) (by rw [hH]; exact trivial) (.inl rfl) (fun b' u hb hu => (Heap.get?_update_other s.heap (Obj.mapSeq f) (Ne.symm hb)).trans hu) ⟨_, q⟩ ?_
 exact ⟨hz, its', _, hv, q⟩
theorem Inv.lnew {its : List Value} {t' : Nat} (I : Inv X pins Z H s) (hv : Vals ys its) (hz : ys.length <= sizeLine) :
  Inv X pins Z (upd H s.heap.objs.size (.lst ys)) { s with heap := s.heap.push { cls := .type "list", data := .seq its.toArray }, toks := t' } :=
 I.laid (fun _ _ q => Heap.get?_push_of_some _ q) (Nat.le_refl _) ⟨hz, its, 0, hv, Heap.get?_push_size _ rfl⟩
theorem Inv.fresh (I : Inv X pins Z H s) : H s.heap.objs.size = none := I.hok.fresh (Nat.le_refl _)
theorem Inv.lstM (I : Inv X pins Z H s) (hH : H l = some (.lst xs)) : xs.length <= sizeLine /\ ∃ (its : List Value) (n : Nat), Vals xs its /\ xs.length = its.length /\ s.heap.get? l = some { cls := .type "list", data := .seq its.toArray n } := by
 obtain ⟨z, its, n, r, e⟩ := I.hok l _ hH
 exact ⟨z, its, n, r, r.length, e⟩
theorem notLongL {n : Nat} (h : n <= sizeLine) : Builtin.List.listTooLong n = false := by
 unfold Builtin.List.listTooLong
 exact decide_eq_false (by lia)
end
section
variable {X : Cx}
inductive rAppend  (x : V) (vs : List V) (H : Hp) (Q : VK) : Prop
 | mk : ∀ l xs y, (x = .ref l) -> (vs = [y]) -> (H l = some (.lst xs)) -> (xs.length < sizeLine) -> (Q .non (upd H l (.lst (xs ++ [y])))) -> rAppend x vs H Q
theorem mt_append : MtM X "list.append" rAppend := by
 intro pins s Z H x vs v us Q I rx rv h
 obtain ⟨l, xs, y, rfl, rfl, hH, hz, q⟩ := h
 cases rx
 obtain ⟨u, rfl, ru⟩ := rv.one
 obtain ⟨z, its, n, r, hl, e⟩ := I.lstM hH
 refine call_meets F.slot_list_append ⟨_, e, rfl⟩ F.entry_list_append (F.args_list_append_2 _ _) (PySem.list_append l its.toArray n u (by rw [List.size_toArray]; lia)) ⟨e, ?_⟩
 refine ⟨.non, _, I.lset (its' := its ++ [u]) hH e (by simp) (r.append (.cons ru .nil)) ?_, rfl, q⟩
 rw [List.length_append, List.length_singleton]
 lia
inductive rExtend  (x : V) (vs : List V) (H : Hp) (Q : VK) : Prop
 | mk : ∀ l b xs zs, (x = .ref l) -> (vs = [.ref b]) -> (H l = some (.lst xs)) -> (H b = some (.lst zs)) -> (xs.length + zs.length <= sizeLine) -> (Q .non (upd H l (.lst (xs ++ zs)))) -> rExtend x vs H Q
theorem mt_extend : MtM X "list.extend" rExtend := by
 intro pins s Z H x vs v us Q I rx rv h
 obtain ⟨l, b, xs, zs, rfl, rfl, hH, hB, hz, q⟩ := h
 cases rx
 obtain ⟨u, rfl, ru⟩ := rv.one
 cases ru
 obtain ⟨z, its, n, r, hl, e⟩ := I.lstM hH
 obtain ⟨z2, its2, n2, r2, hl2, e2⟩ := I.lstM hB
 have hsz : its.toArray.size + its2.toArray.size <= sizeLine := by rw [List.size_toArray, List.size_toArray]; lia
 have hlong : ¬ (!its.toArray.isEmpty && Builtin.List.listTooLong (its.toArray.size + its2.toArray.size)) = true := by
  rw [notLongL hsz, Bool.and_false]
  exact Bool.false_ne_true
 refine call_meets F.slot_list_extend ⟨_, e, rfl⟩ F.entry_list_extend (F.args_list_extend_2 _ _)
  (AutoSeq1.list_extend_list_list_0 l its.toArray n b its2.toArray n2 hlong (by rw [List.size_toArray]; lia) (by lia)) ⟨e, e2, ?_⟩
 refine ⟨.non, _, I.lset (its' := its ++ its2) hH e (by simp) (r.append r2) ?_, rfl, q⟩
 rw [List.length_append]
 lia
inductive rPop  (x : V) (vs : List V) (H : Hp) (Q : VK) : Prop
 | mk : ∀ l xs y, (x = .ref l) -> (vs = []) -> (H l = some (.lst xs)) -> (xs[xs.length - 1]? = some y) -> (Q y (upd H l (.lst xs.dropLast))) -> rPop x vs H Q
theorem mt_pop : MtM X "list.pop" rPop := by
 intro pins s Z H x vs v us Q I rx rv h
 obtain ⟨l, xs, y, rfl, rfl, hH, hy, q⟩ := h
 cases rx
 have hus := rv.zero
 subst hus
 obtain ⟨z, its, n, r, hl, e⟩ := I.lstM hH
 obtain ⟨u, hu, ru⟩ := r.get hy
 have hy' : its.toArray[its.toArray.size - 1]? = some u := by
  show its.toArray[its.length - 1]? = some u
  rw [<- Array.getElem?_toList, <- hl]
  exact hu
 refine call_meets F.slot_list_pop ⟨_, e, rfl⟩ F.entry_list_pop (F.args_list_pop_1 _) (MeetsSeq.list_pop_last l its.toArray n u hy' (by rw [List.size_toArray]; lia)) ⟨e, ?_⟩
 refine ⟨y, _, I.lset (its' := its.dropLast) hH e ?_ r.dropLast ?_, ru, q⟩
 ·show its.toArray.eraseIdxIfInBounds (its.toArray.size - 1) = its.dropLast.toArray
  rw [List.size_toArray, List.eraseIdxIfInBounds_toArray, erase_last]
 ·rw [List.length_dropLast]
  lia
noncomputable def rPopAt : V -> List V -> Hp -> VK -> Prop := fun x vs H Q => ∃ l xs i k y, x = .ref l /\ vs = [.int i] /\ H l = some (.lst xs) /\ -(2 ^ 63) <= i /\ i < 2 ^ 63 /\ seqIndex? i xs.length = some k /\ xs[k]? = some y /\ Q y (upd H l (.lst (xs.eraseIdx k)))
theorem mt_popAt : MtM X "list.pop" rPopAt := by
 intro pins s Z H x vs v us Q I rx rv h
 obtain ⟨l, xs, i, k, y, rfl, rfl, hH, h1, h2, hk, hy, q⟩ := h
 cases rx
 obtain ⟨u, rfl, ru⟩ := rv.one
 obtain ⟨t, rfl⟩ := ru
 obtain ⟨z, its, n, r, hl, e⟩ := I.lstM hH
 obtain ⟨w, hw, rw'⟩ := r.get hy
 refine call_meets F.slot_list_pop ⟨_, e, rfl⟩ F.entry_list_pop (F.args_list_pop_2 _ _)
  (MeetsSeq.list_pop_at l its.toArray n i t k w (fitsIndex_both h1 h2) (by rw [List.size_toArray, <- hl]; exact hk) (by rw [<- Array.getElem?_toList]; exact hw) (by rw [List.size_toArray]; lia)) ⟨e, ?_⟩
 refine ⟨y, _, I.lset (its' := its.eraseIdx k) hH e ?_ (r.eraseIdx k) ?_, rw', q⟩
 ·show its.toArray.eraseIdxIfInBounds k = (its.eraseIdx k).toArray
  rw [List.eraseIdxIfInBounds_toArray]
 ·have := len_erase xs k
  lia
noncomputable def rClear : V -> List V -> Hp -> VK -> Prop := fun x vs H Q => ∃ l xs, x = .ref l /\ vs = [] /\ H l = some (.lst xs) /\ Q .non (upd H l (.lst []))
theorem mt_clear : MtM X "list.clear" rClear := by
 intro pins s Z H x vs v us Q I rx rv h
 obtain ⟨l, xs, rfl, rfl, hH, q⟩ := h
 cases rx
 have hus := rv.zero
 subst hus
 obtain ⟨z, its, n, r, hl, e⟩ := I.lstM hH
 refine call_meets F.slot_list_clear ⟨_, e, rfl⟩ F.entry_list_clear (F.args_list_clear_1 _) (AutoSeq1.list_clear_list_0 l its.toArray n (by rw [List.size_toArray]; lia)) ⟨e, ?_⟩
 exact ⟨.non, _, I.lset (its' := []) (ys := []) hH e rfl .nil (Nat.zero_le _), rfl, q⟩
inductive rCat  (x : V) (y : V) (H : Hp) (Q : VK) : Prop
 | mk : ∀ l b xs zs, (x = .ref l) -> (y = .ref b) -> (H l = some (.lst xs)) -> (H b = some (.lst zs)) -> (xs.length + zs.length <= sizeLine) -> (∀ p, H p = none -> Q (.ref p) (upd H p (.lst (xs ++ zs)))) -> rCat x y H Q
theorem op_cat : OpR X (binaryOp .Add) rCat := by
 intro pins s Z H x y v u Q I rx ry h
 obtain ⟨l, b, xs, zs, rfl, rfl, hH, hB, hz, q⟩ := h
 cases rx
 cases ry
 obtain ⟨z, its, n, r, hl, e⟩ := I.lstM hH
 obtain ⟨z2, its2, n2, r2, hl2, e2⟩ := I.lstM hB
 refine PySem.P.add_list e e2 ?_ (by rw [List.size_toArray, List.size_toArray]; lia)
 have ea : its.toArray ++ its2.toArray = (its ++ its2).toArray := by simp
 rw [ea]
 exact ⟨.ref _, _, I.lnew (t' := s.toks) (r.append r2) (by rw [List.length_append]; lia), rfl, q _ I.fresh⟩
end
section
variable {κ : Type} [DecidableEq κ]
noncomputable def valV (kvs : List (κ × V)) (k : κ) : Option V := (kvs.find? fun kv => decide (kv.1 = k)).map (·.2)
noncomputable def putK (kvs : List (κ × V)) (k : κ) (v : V) : List (κ × V) :=
 if (kvs.any fun kv => decide (kv.1 = k)) = true then kvs.map (fun kv => if kv.1 = k then (kv.1, v) else kv) else kvs ++ [(k, v)]
theorem valV_nil {k : κ} : valV ([] : List (κ × V)) k = none := rfl
theorem valV_pos {p : κ × V} {r : List (κ × V)} {k : κ} (e : p.1 = k) : valV (p :: r) k = some p.2 := by simp [valV, List.find?_cons, e]
theorem valV_neg {p : κ × V} {r : List (κ × V)} {k : κ} (e : ¬ p.1 = k) : valV (p :: r) k = valV r k := by simp [valV, List.find?_cons, e]
theorem valV_any (k : κ) : ∀ kvs : List (κ × V), (kvs.any fun kv => decide (kv.1 = k)) = (valV kvs k).isSome
 | [] => rfl
 | p :: r => by
  rw [List.any_cons]
  by_cases e : p.1 = k
  ·simp only [valV_pos e, decide_eq_true e, Bool.true_or, Option.isSome_some]
  ·rw [valV_neg e, decide_eq_false e, Bool.false_or]; exact valV_any k r
theorem valV_map (k j : κ) (y : V) : ∀ kvs : List (κ × V), valV (kvs.map fun kv => if kv.1 = k then (kv.1, y) else kv) j = (valV kvs j).map fun x => if j = k then y else x
 | [] => rfl
 | p :: r => by
  have ih := valV_map k j y r
  rw [List.map_cons]
  by_cases h : p.1 = k
  ·rw [if_pos h]
   by_cases e : p.1 = j
   ·rw [valV_pos (p := (p.1, y)) e, valV_pos e, Option.map_some, if_pos (e.symm.trans h)]
   ·rw [valV_neg (p := (p.1, y)) e, valV_neg e, ih]
  ·rw [if_neg h]
   by_cases e : p.1 = j
   ·rw [valV_pos (p := p) e, valV_pos e, Option.map_some, if_neg (fun z => h (e.trans z))]
   ·rw [valV_neg (p := p) e, valV_neg e, ih]
theorem valV_snoc (k j : κ) (y : V) : ∀ kvs : List (κ × V), valV kvs k = none -> valV (kvs ++ [(k, y)]) j = if j = k then some y else valV kvs j
 | [], _ => by
  by_cases e : k = j
  ·rw [if_pos e.symm]; exact valV_pos (p := (k, y)) e
  ·rw [if_neg (fun z => e z.symm)]; exact valV_neg (p := (k, y)) e
 | p :: r, hn => by
  rw [List.cons_append]
  have hk : ¬ p.1 = k := fun z => by rw [valV_pos z] at hn; cases hn
  rw [valV_neg hk] at hn
  have ih := valV_snoc k j y r hn
  by_cases e : p.1 = j
  ·rw [valV_pos e, valV_pos e, if_neg (fun z => hk (e.trans z))]
  ·rw [valV_neg e, valV_neg e, ih]
theorem valV_put (kvs : List (κ × V)) (k j : κ) (y : V) : valV (putK kvs k y) j = if j = k then some y else valV kvs j := by
 unfold putK
 by_cases a : (kvs.any fun kv => decide (kv.1 = k)) = true
 ·rw [if_pos a, valV_map]
  rw [valV_any] at a
  by_cases e : j = k
  ·obtain ⟨x, hx⟩ := Option.isSome_iff_exists.mp a
   rw [if_pos e, e, hx, Option.map_some, if_pos rfl]
  ·rw [if_neg e]
   cases valV kvs j with
   | none => rfl
   | some x => rw [Option.map_some, if_neg e]
 ·rw [if_neg a]
  refine valV_snoc k j y kvs ?_
  rw [valV_any] at a
  cases q : valV kvs k with
  | none => rfl
  | some x => rw [q] at a; exact (a rfl).elim
theorem length_putK (kvs : List (κ × V)) (k : κ) (v : V) : (putK kvs k v).length <= kvs.length + 1 := by
 unfold putK
 split
 ·rw [List.length_map]; lia
 ·rw [List.length_append, List.length_cons, List.length_nil]; lia
theorem putK_new {kvs : List (κ × V)} {k : κ} (v : V) (h : valV kvs k = none) : putK kvs k v = kvs ++ [(k, v)] := by
 unfold putK
 rw [valV_any, h]
 exact if_neg (by decide)
theorem RelO.isSome_eq {o : Option V} {u : Option Value} (r : RelO o u) : o.isSome = u.isSome := by
 cases o with
 | none => cases u with
  | none => rfl
  | some _ => exact (show False from r).elim
 | some _ => cases u with
  | none => exact (show False from r).elim
  | some _ => rfl
theorem RelO.getD {o : Option V} {u : Option Value} {d : V} {d' : Value} (r : RelO o u) (rd : RelV d d') : RelV (o.getD d) (u.getD d') := by
 cases o with
 | none => cases u with
  | none => exact rd
  | some _ => exact (show False from r).elim
 | some _ => cases u with
  | none => exact (show False from r).elim
  | some _ => exact r
theorem KV.val {kvs : List (κ × V)} {vs : List (κ × Value)} (r : KV kvs vs) (k : κ) : RelO (valV kvs k) (valueAt vs k) := by
 unfold KV at r
 induction r with
 | nil => exact True.intro
 | @cons p q ps qs h t ih =>
  obtain ⟨h1, h2⟩ := h
  by_cases e : p.1 = k
  ·have e' : q.1 = k := h1.symm.trans e
   have b : valueAt (q :: qs) k = some q.2 := by simp [valueAt, List.find?_cons, e']
   rw [valV_pos e, b]; exact h2
  ·have e' : ¬ q.1 = k := fun z => e (h1.trans z)
   have b : valueAt (q :: qs) k = valueAt qs k := by simp [valueAt, List.find?_cons, e']
   rw [valV_neg e, b]; exact ih
theorem KV.any {kvs : List (κ × V)} {vs : List (κ × Value)} (r : KV kvs vs) (k : κ) : (kvs.any fun kv => decide (kv.1 = k)) = vs.any fun kv => decide (kv.1 = k) := by
 unfold KV at r
 induction r with
 | nil => rfl
 | cons h t ih => rw [List.any_cons, List.any_cons, ih, h.1]
theorem KV.repl {kvs : List (κ × V)} {vs : List (κ × Value)} (r : KV kvs vs) (k : κ) {y : V} {u : Value} (ry : RelV y u) :
  KV (kvs.map fun kv => if kv.1 = k then (kv.1, y) else kv) (vs.map fun kv => if kv.1 = k then (kv.1, u) else kv) := by
 unfold KV at r ⊢
 induction r with
 | nil => exact .nil
 | @cons p q ps qs h t ih =>
  rw [List.map_cons, List.map_cons]
  refine .cons ?_ ih
  obtain ⟨h1, h2⟩ := h
  by_cases e : p.1 = k
  ·rw [if_pos e, if_pos (h1.symm.trans e)]; exact ⟨h1, ry⟩
  ·rw [if_neg e, if_neg (fun z => e (h1.trans z))]; exact ⟨h1, h2⟩
theorem KV.put {kvs : List (κ × V)} {vs : List (κ × Value)} (r : KV kvs vs) (k : κ) {y : V} {u : Value} (ry : RelV y u) : KV (putK kvs k y) (stored vs k u) := by
 unfold putK stored
 rw [r.any k]
 by_cases e : (vs.any fun kv => decide (kv.1 = k)) = true
 ·rw [if_pos e, if_pos e]; exact r.repl k ry
 ·rw [if_neg e, if_neg e]; exact Paired.snoc r ⟨rfl, ry⟩
theorem KV.length {kvs : List (κ × V)} {vs : List (κ × Value)} (r : KV kvs vs) : kvs.length = vs.length := Paired.length r
end
theorem kV_is {P : Program} {w : World} {k : Key} {u : Value} (r : RelV (kV k) u) : (mixKind P w).is k u = true := by
 cases k with
 | inl i => obtain ⟨t, e⟩ := (show ∃ t, u = Value.int i t from r); subst e; exact mixKind_int P w i t
 | inr x => obtain ⟨t, e⟩ := (show ∃ t, u = Value.str x t from r); subst e; exact mixKind_str P w x t
theorem items_are {P : Program} {w : World} : ∀ {ks : List Key} {us : List Value}, Vals (ks.map kV) us -> ItemsAre (mixKind P w) ks us
 | [], _, r => by rw [List.map_nil] at r; cases r; exact .nil
 | k :: ks, _, r => by
  rw [List.map_cons] at r
  cases r with
  | cons h t => exact .cons (kV_is h) (items_are t)
noncomputable abbrev KT (H : Hp) : List (List Key × V) -> List (List Key × Addr × Value) -> Prop := Paired fun p q => p.1 = q.1 /\ H q.2.1 = some (.tup (p.1.map kV)) /\ RelV p.2 q.2.2
theorem KT.val {H : Hp} {kvs : List (List Key × V)} {xs : List (List Key × Addr × Value)} (r : KT H kvs xs) (k : List Key) : RelO (valV kvs k) ((atKey xs k).map (·.2)) := by
 induction r with
 | nil => exact True.intro
 | @cons p q ps qs h t ih =>
  obtain ⟨h1, _, h2⟩ := h
  by_cases e : p.1 = k
  ·have e' : q.1 = k := h1.symm.trans e
   have b : atKey (q :: qs) k = some q.2 := by simp [atKey, List.find?_cons, e']
   rw [valV_pos e, b]; exact h2
  ·have e' : ¬ q.1 = k := fun z => e (h1.trans z)
   have b : atKey (q :: qs) k = atKey qs k := by simp [atKey, List.find?_cons, e']
   rw [valV_neg e, b]; exact ih
theorem KT.repl {H : Hp} {kvs : List (List Key × V)} {xs : List (List Key × Addr × Value)} (r : KT H kvs xs) (k : List Key) {y : V} {u : Value} (ry : RelV y u) :
  KT H (kvs.map fun kv => if kv.1 = k then (kv.1, y) else kv) (xs.map (putAt k u)) := by
 induction r with
 | nil => exact .nil
 | @cons p q ps qs h t ih =>
  rw [List.map_cons, List.map_cons]
  refine .cons ?_ ih
  obtain ⟨h1, h2, h3⟩ := h
  unfold putAt
  by_cases e : p.1 = k
  ·rw [if_pos e, if_pos (h1.symm.trans e)]; exact ⟨h1, h2, ry⟩
  ·rw [if_neg e, if_neg (fun z => e (h1.trans z))]; exact ⟨h1, h2, h3⟩
theorem KT.put {H : Hp} {kvs : List (List Key × V)} {xs : List (List Key × Addr × Value)} (r : KT H kvs xs) (k : List Key) {b : Addr} {y : V} {u : Value} (hb : H b = some (.tup (k.map kV))) (ry : RelV y u) :
  KT H (putK kvs k y) (storedH xs k b u) := by
 have e : (kvs.any fun kv => decide (kv.1 = k)) = (atKey xs k).isSome := by
  rw [valV_any, (r.val k).isSome_eq, Option.isSome_map]
 unfold putK storedH
 rw [e]
 by_cases q : (atKey xs k).isSome = true
 ·rw [if_pos q, if_pos q]; exact r.repl k ry
 ·rw [if_neg q, if_neg q]; exact Paired.snoc r ⟨rfl, hb, ry⟩
theorem KT.keeps {H H' : Hp} {kvs : List (List Key × V)} {xs : List (List Key × Addr × Value)} (r : KT H kvs xs) (ht : ∀ b ys, H b = some (.tup ys) -> H' b = some (.tup ys)) : KT H' kvs xs :=
 Paired.mapP r fun _ _ z => ⟨z.1, ht _ _ z.2.1, z.2.2⟩
noncomputable abbrev KP (H : Hp) : List ((List Key × Key) × V) -> List ((List Key × Key) × Addr × Value) -> Prop := Paired fun p q => p.1 = q.1 /\ (∃ c, H q.2.1 = some (.tup [.ref c, kV p.1.2]) /\ H c = some (.tup (p.1.1.map kV))) /\ RelV p.2 q.2.2
theorem KP.val {H : Hp} {kvs : List ((List Key × Key) × V)} {xs : List ((List Key × Key) × Addr × Value)} (r : KP H kvs xs) (k : List Key × Key) : RelO (valV kvs k) ((atKey xs k).map (·.2)) := by
 induction r with
 | nil => exact True.intro
 | @cons p q ps qs h t ih =>
  obtain ⟨h1, _, h2⟩ := h
  by_cases e : p.1 = k
  ·have e' : q.1 = k := h1.symm.trans e
   have b : atKey (q :: qs) k = some q.2 := by simp [atKey, List.find?_cons, e']
   rw [valV_pos e, b]; exact h2
  ·have e' : ¬ q.1 = k := fun z => e (h1.trans z)
   have b : atKey (q :: qs) k = atKey qs k := by simp [atKey, List.find?_cons, e']
   rw [valV_neg e, b]; exact ih
theorem KP.repl {H : Hp} {kvs : List ((List Key × Key) × V)} {xs : List ((List Key × Key) × Addr × Value)} (r : KP H kvs xs) (k : List Key × Key) {y : V} {u : Value} (ry : RelV y u) :
  KP H (kvs.map fun kv => if kv.1 = k then (kv.1, y) else kv) (xs.map (putAt k u)) := by
 induction r with
 | nil => exact .nil
 | @cons p q ps qs h t ih =>
  rw [List.map_cons, List.map_cons]
  refine .cons ?_ ih
  obtain ⟨h1, h2, h3⟩ := h
  unfold putAt
  by_cases e : p.1 = k
  ·rw [if_pos e, if_pos (h1.symm.trans e)]; exact ⟨h1, h2, ry⟩
  ·rw [if_neg e, if_neg (fun z => e (h1.trans z))]; exact ⟨h1, h2, h3⟩
theorem KP.put {H : Hp} {kvs : List ((List Key × Key) × V)} {xs : List ((List Key × Key) × Addr × Value)} (r : KP H kvs xs) (k : List Key × Key) {b : Addr} {y : V} {u : Value} (hb : ∃ c, H b = some (.tup [.ref c, kV k.2]) /\ H c = some (.tup (k.1.map kV))) (ry : RelV y u) :
  KP H (putK kvs k y) (storedH xs k b u) := by
 have e : (kvs.any fun kv => decide (kv.1 = k)) = (atKey xs k).isSome := by
  rw [valV_any, (r.val k).isSome_eq, Option.isSome_map]
 unfold putK storedH
 rw [e]
 by_cases q : (atKey xs k).isSome = true
 ·rw [if_pos q, if_pos q]; exact r.repl k ry
 ·rw [if_neg q, if_neg q]; exact Paired.snoc r ⟨rfl, hb, ry⟩
theorem KP.keeps {H H' : Hp} {kvs : List ((List Key × Key) × V)} {xs : List ((List Key × Key) × Addr × Value)} (r : KP H kvs xs) (ht : ∀ b ys, H b = some (.tup ys) -> H' b = some (.tup ys)) : KP H' kvs xs :=
 Paired.mapP r fun _ _ z => ⟨z.1, let ⟨c, e1, e2⟩ := z.2.1; ⟨c, ht _ _ e1, ht _ _ e2⟩, z.2.2⟩
section
variable {P : Program} {w : World} {H : Hp} {h : Heap} {a : Addr}
theorem rd_of {u : HO} (ok : HOk P w H h) (e : Rd H a u) : ObjOk P w H h a u := e.ok ok
theorem dk_rd {kvs : List (Key × V)} (ok : HOk P w H h) (e : Rd H a (.dK kvs)) : kvs.length <= sizeLine /\ (a == sysModules) = false /\ ∃ vs, KV kvs vs /\ h.DictOf (mixKind P w) a vs :=
 show ObjOk P w H h a (.dK kvs) from rd_of ok e
theorem dk_of {kvs : List (Key × V)} (ok : HOk P w H h) (e : H a = some (.dK kvs)) : kvs.length <= sizeLine /\ (a == sysModules) = false /\ ∃ vs, KV kvs vs /\ h.DictOf (mixKind P w) a vs := dk_rd ok (.inl e)
theorem key_of {ks : List Key} (ok : HOk P w H h) (e : H a = some (.tup (ks.map kV))) : (tupleKind (mixKind P w)).is h ks a := by
 obtain ⟨_, its, r, o, h1, h2, n, h3⟩ := (show ObjOk P w H h a (.tup (ks.map kV)) from ok a _ e)
 exact ⟨o, its.toArray, n, h1, h2, h3, by simpa using items_are r⟩
theorem dt_rd {kvs : List (List Key × V)} (ok : HOk P w H h) (e : Rd H a (.dT kvs)) : kvs.length <= sizeLine /\ (a == sysModules) = false /\
  ∃ xs, KT H kvs xs /\ h.DictOfH (tupleKind (mixKind P w)) a xs := by
 obtain ⟨z, y, xs, r, o, es, ep, h1, h2, h3, h4, h5⟩ := (show ObjOk P w H h a (.dT kvs) from rd_of ok e)
 refine ⟨z, y, xs, r, o, es, ep, h1, h2, h3, h4, fun x hx => ?_, h5⟩
 have all : ∀ {l : List (List Key × V)} {m : List (List Key × Addr × Value)}, KT H l m -> ∀ x ∈ m, (tupleKind (mixKind P w)).is h x.1 x.2.1 := by
  intro l m q
  induction q with
  | nil => intro x hx; exact nomatch hx
  | @cons p q ps qs hq t ih =>
   intro x hx
   rcases List.mem_cons.mp hx with e | hx
   ·subst e
    exact key_of ok (by rw [<- hq.1]; exact hq.2.1)
   ·exact ih x hx
 exact all r x hx
theorem dt_of {kvs : List (List Key × V)} (ok : HOk P w H h) (e : H a = some (.dT kvs)) : kvs.length <= sizeLine /\ (a == sysModules) = false /\
  ∃ xs, KT H kvs xs /\ h.DictOfH (tupleKind (mixKind P w)) a xs := dt_rd ok (.inl e)
theorem keyP_of {k : List Key × Key} (ok : HOk P w H h) (e : ∃ c, H a = some (.tup [.ref c, kV k.2]) /\ H c = some (.tup (k.1.map kV))) : (pairKind (mixKind P w) (mixKind P w)).is h k a := by
 obtain ⟨c, e1, e2⟩ := e
 obtain ⟨_, its, r, o, h1, h2, n, h3⟩ := (show ObjOk P w H h a (.tup [.ref c, kV k.2]) from ok a _ e1)
 obtain ⟨u, v, rfl, ru, rv⟩ := r.two
 cases (show u = Value.ref c from ru)
 exact ⟨o, _, n, c, v, h1, h2, h3, by simp, key_of ok e2, kV_is rv⟩
theorem dp_rd {kvs : List ((List Key × Key) × V)} (ok : HOk P w H h) (e : Rd H a (.dP kvs)) : kvs.length <= sizeLine /\ (a == sysModules) = false /\
  ∃ xs, KP H kvs xs /\ h.DictOfH (pairKind (mixKind P w) (mixKind P w)) a xs := by
 obtain ⟨z, y, xs, r, o, es, ep, h1, h2, h3, h4, h5⟩ := (show ObjOk P w H h a (.dP kvs) from rd_of ok e)
 refine ⟨z, y, xs, r, o, es, ep, h1, h2, h3, h4, fun x hx => ?_, h5⟩
 have all : ∀ {l : List ((List Key × Key) × V)} {m : List ((List Key × Key) × Addr × Value)}, KP H l m -> ∀ x ∈ m, (pairKind (mixKind P w) (mixKind P w)).is h x.1 x.2.1 := by
  intro l m q
  induction q with
  | nil => intro x hx; exact nomatch hx
  | @cons p q ps qs hq t ih =>
   intro x hx
   rcases List.mem_cons.mp hx with e | hx
   ·subst e
    rw [<- hq.1]; exact keyP_of ok hq.2.1
   ·exact ih x hx
 exact all r x hx
theorem dp_of {kvs : List ((List Key × Key) × V)} (ok : HOk P w H h) (e : H a = some (.dP kvs)) : kvs.length <= sizeLine /\ (a == sysModules) = false /\
  ∃ xs, KP H kvs xs /\ h.DictOfH (pairKind (mixKind P w) (mixKind P w)) a xs := dp_rd ok (.inl e)
end
noncomputable def DGet (H : Hp) (a : Addr) (y : V) (r : Option V) : Prop :=
 (∃ kvs k, Rd H a (.dK kvs) /\ y = kV k /\ r = valV kvs k) \/ (∃ kvs k b, Rd H a (.dT kvs) /\ y = .ref b /\ H b = some (.tup (k.map kV)) /\ r = valV kvs k) \/
 ∃ kvs k b, Rd H a (.dP kvs) /\ y = .ref b /\ (∃ c, H b = some (.tup [.ref c, kV k.2]) /\ H c = some (.tup (k.1.map kV))) /\ r = valV kvs k
noncomputable def DPut (H : Hp) (a : Addr) (y v : V) (H' : Hp) : Prop :=
 (∃ kvs k, H a = some (.dK kvs) /\ y = kV k /\ kvs.length < sizeLine /\ H' = upd H a (.dK (putK kvs k v))) \/
 (∃ kvs k b, H a = some (.dT kvs) /\ y = .ref b /\ H b = some (.tup (k.map kV)) /\ kvs.length < sizeLine /\ H' = upd H a (.dT (putK kvs k v))) \/
 ∃ kvs k b, H a = some (.dP kvs) /\ y = .ref b /\ (∃ c, H b = some (.tup [.ref c, kV k.2]) /\ H c = some (.tup (k.1.map kV))) /\ kvs.length < sizeLine /\ H' = upd H a (.dP (putK kvs k v))
theorem DGet.k {H : Hp} {a : Addr} {kvs : List (Key × V)} {k : Key} (e : H a = some (.dK kvs)) : DGet H a (kV k) (valV kvs k) := .inl ⟨kvs, k, .inl e, rfl, rfl⟩
theorem DGet.t {H : Hp} {a b : Addr} {kvs : List (List Key × V)} {k : List Key} (e : H a = some (.dT kvs)) (eb : H b = some (.tup (k.map kV))) : DGet H a (.ref b) (valV kvs k) := .inr (.inl ⟨kvs, k, b, .inl e, rfl, eb, rfl⟩)
theorem DPut.k {H : Hp} {a : Addr} {kvs : List (Key × V)} {k : Key} {v : V} (e : H a = some (.dK kvs)) (hl : kvs.length < sizeLine) : DPut H a (kV k) v (upd H a (.dK (putK kvs k v))) := .inl ⟨kvs, k, e, rfl, hl, rfl⟩
theorem DPut.t {H : Hp} {a b : Addr} {kvs : List (List Key × V)} {k : List Key} {v : V} (e : H a = some (.dT kvs)) (eb : H b = some (.tup (k.map kV))) (hl : kvs.length < sizeLine) :
  DPut H a (.ref b) v (upd H a (.dT (putK kvs k v))) := .inr (.inl ⟨kvs, k, b, e, rfl, eb, hl, rfl⟩)
theorem DPut.p {H : Hp} {a b c : Addr} {kvs : List ((List Key × Key) × V)} {t : List Key} {k : Key} {v : V} (e : H a = some (.dP kvs)) (eb : H b = some (.tup [.ref c, kV k])) (ec : H c = some (.tup (t.map kV))) (hl : kvs.length < sizeLine) :
  DPut H a (.ref b) v (upd H a (.dP (putK kvs (t, k) v))) := .inr (.inr ⟨kvs, (t, k), b, e, rfl, ⟨c, eb, ec⟩, hl, rfl⟩)
section
variable {X : Cx} {pins : List (Addr × Obj)} {Z : St} {H : Hp} {s : Shared} {a : Addr} {y v : V} {u r : Value} {o : Option V} {A : Around} {E : Value -> Shared -> Prop}
theorem Inv.big (I : Inv X pins Z H s) : sysModules < s.heap.objs.size := by
 have h : mainGlobals < s.heap.objs.size := (I.mod.glob.keeps I.bk).lt
 exact Nat.lt_trans (by decide) h
theorem d_getItem {Q : Value -> Shared -> Prop} (hu : A.units + 16 < cLine) (I : Inv X pins Z H s) (g : DGet H a y (some v)) (ry : RelV y u) (h : ∀ w' s', Inv X pins Z H s' -> RelV v w' -> Q w' s') :
  wpAny (model X.prog X.w) A (getItem (.ref a) u) Q E s := by
 rcases g with ⟨kvs, k, e, ey, l⟩ | ⟨kvs, k, b, e, ey, eb, l⟩ | ⟨kvs, k, b, e, ey, eb, l⟩
 ·subst ey
  obtain ⟨z, hd, vs, rel, dd⟩ := dk_rd I.hok e
  obtain ⟨w', hw, rw'⟩ := RelO.some_of (v := v) (o := valueAt vs k) (by rw [l]; exact rel.val k)
  exact wpAny_getItem_of (kV_is ry) dd.mapOf hw (h w' _ (I.tok _) rw')
 ·subst ey
  cases (show u = Value.ref b from ry)
  obtain ⟨z, hd, xs, rel, dd⟩ := dt_rd I.hok e
  obtain ⟨w', hw, rw'⟩ := RelO.some_of (v := v) (o := (atKey xs k).map (·.2)) (by rw [l]; exact rel.val k)
  obtain ⟨p, hp, hp2⟩ := Option.map_eq_some_iff.mp hw
  refine wpAny_getItem_heap (tupleKind_room_in1 (by lia)) (key_of I.hok eb) dd hp ?_
  rw [hp2]
  exact h w' _ (I.tok _) rw'
 ·subst ey
  cases (show u = Value.ref b from ry)
  obtain ⟨z, hd, xs, rel, dd⟩ := dp_rd I.hok e
  obtain ⟨w', hw, rw'⟩ := RelO.some_of (v := v) (o := (atKey xs k).map (·.2)) (by rw [l]; exact rel.val k)
  obtain ⟨p, hp, hp2⟩ := Option.map_eq_some_iff.mp hw
  refine wpAny_getItem_heap (show _ + 8 < cLine by show A.units + 1 + 8 < cLine; lia) (keyP_of I.hok eb) dd hp ?_
  rw [hp2]
  exact h w' _ (I.tok _) rw'
theorem d_in {Q : Value -> Shared -> Prop} (hu : A.units + 16 < cLine) (I : Inv X pins Z H s) (g : DGet H a y o) (ry : RelV y u) (h : ∀ s', Inv X pins Z H s' -> Q (.bool o.isSome) s') :
  wpAny (model X.prog X.w) A (compareOp .In u (.ref a)) Q E s := by
 rcases g with ⟨kvs, k, e, ey, l⟩ | ⟨kvs, k, b, e, ey, eb, l⟩ | ⟨kvs, k, b, e, ey, eb, l⟩
 ·subst ey
  obtain ⟨z, hd, vs, rel, dd⟩ := dk_rd I.hok e
  refine wpAny_in_of (kV_is ry) hd dd.mapOf ?_
  rw [<- (rel.val k).isSome_eq, <- l]
  exact h _ (I.tok _)
 ·subst ey
  cases (show u = Value.ref b from ry)
  obtain ⟨z, hd, xs, rel, dd⟩ := dt_rd I.hok e
  refine wpAny_in_heap (tupleKind_room_in1 (by lia)) (key_of I.hok eb) hd dd ?_
  have q := (rel.val k).isSome_eq
  rw [Option.isSome_map] at q
  rw [<- q, <- l]
  exact h _ (I.tok _)
 ·subst ey
  cases (show u = Value.ref b from ry)
  obtain ⟨z, hd, xs, rel, dd⟩ := dp_rd I.hok e
  refine wpAny_in_heap (show _ + 8 < cLine by show A.units + 1 + 8 < cLine; lia) (keyP_of I.hok eb) hd dd ?_
  have q := (rel.val k).isSome_eq
  rw [Option.isSome_map] at q
  rw [<- q, <- l]
  exact h _ (I.tok _)
theorem d_notIn {Q : Value -> Shared -> Prop} (hu : A.units + 16 < cLine) (I : Inv X pins Z H s) (g : DGet H a y o) (ry : RelV y u) (h : ∀ s', Inv X pins Z H s' -> Q (.bool (!o.isSome)) s') :
  wpAny (model X.prog X.w) A (compareOp .NotIn u (.ref a)) Q E s := by
 rcases g with ⟨kvs, k, e, ey, l⟩ | ⟨kvs, k, b, e, ey, eb, l⟩ | ⟨kvs, k, b, e, ey, eb, l⟩
 ·subst ey
  obtain ⟨z, hd, vs, rel, dd⟩ := dk_rd I.hok e
  refine wpAny_notIn_of (kV_is ry) hd dd.mapOf ?_
  rw [<- (rel.val k).isSome_eq, <- l]
  exact h _ (I.tok _)
 ·subst ey
  cases (show u = Value.ref b from ry)
  obtain ⟨z, hd, xs, rel, dd⟩ := dt_rd I.hok e
  refine wpAny_notIn_heap (tupleKind_room_in1 (by lia)) (key_of I.hok eb) hd dd ?_
  have q := (rel.val k).isSome_eq
  rw [Option.isSome_map] at q
  rw [<- q, <- l]
  exact h _ (I.tok _)
 ·subst ey
  cases (show u = Value.ref b from ry)
  obtain ⟨z, hd, xs, rel, dd⟩ := dp_rd I.hok e
  refine wpAny_notIn_heap (show _ + 8 < cLine by show A.units + 1 + 8 < cLine; lia) (keyP_of I.hok eb) hd dd ?_
  have q := (rel.val k).isSome_eq
  rw [Option.isSome_map] at q
  rw [<- q, <- l]
  exact h _ (I.tok _)
theorem d_write {h' : Heap} {t' : Nat} {ob : HO} (I : Inv X pins Z H s) (mu : Mut (H a)) (hs : Heap.SameBut a s.heap h') (he : ∃ q, h'.get? a = some q) (new : ObjOk X.prog X.w (upd H a ob) h' a ob) :
  Inv X pins Z (upd H a ob) { s with heap := h', toks := t' } :=
 I.write (x := a) (e := a) mu (.inl rfl) (fun b q hb z => (hs.2 b hb).trans z) he new
theorem dk_new {P : Program} {w : World} {H' : Hp} {h' : Heap} {kvs : List (Key × V)} {vs : List (Key × Value)} (z : kvs.length <= sizeLine) (hd : (a == sysModules) = false) (rel : KV kvs vs) (dd : h'.DictOf (mixKind P w) a vs) :
  ObjOk P w H' h' a (.dK kvs) := ⟨z, hd, vs, rel, dd⟩
theorem d_setItem {H' : Hp} {Q : Unit -> Shared -> Prop} (hu : A.units + 16 < cLine) (I : Inv X pins Z H s) (g : DPut H a y v H') (ry : RelV y u) (rv : RelV v r) (h : ∀ s', Inv X pins Z H' s' -> Q () s') :
  wpAny (model X.prog X.w) A (setItem (.ref a) u r) Q E s := by
 rcases g with ⟨kvs, k, e, ey, l, eH⟩ | ⟨kvs, k, b, e, ey, eb, l, eH⟩ | ⟨kvs, k, b, e, ey, eb, l, eH⟩
 ·subst ey eH
  obtain ⟨z, hd, vs, rel, dd⟩ := dk_of I.hok e
  have hz : vs.length <= sizeLine := by rw [<- rel.length]; exact z
  have hl : (putK kvs k v).length <= sizeLine := by have := length_putK kvs k v; lia
  refine wpAny_setItem_pairs (hsz := hz) (kV_is ry) dd fun h' dd' hs => h _ ?_
  have he : ∃ q, h'.get? a = some q := let ⟨q, _, _, hq, _⟩ := dd'; ⟨q, hq⟩
  exact d_write I (by rw [e]; exact True.intro) hs he (dk_new hl hd (rel.put k rv) dd')
 ·subst ey eH
  cases (show u = Value.ref b from ry)
  obtain ⟨z, hd, xs, rel, dd⟩ := dt_of I.hok e
  have hz : xs.length <= sizeLine := by rw [<- Paired.length rel]; exact z
  have hl : (putK kvs k v).length <= sizeLine := by have := length_putK kvs k v; lia
  refine wpAny_setItem_heap (hsz := hz) (tupleKind_room_in1 (by lia)) (key_of I.hok eb) dd fun h' dd' hs => h _ ?_
  obtain ⟨q, es, ep, hq, h2, h3, h4, _, h5⟩ := dd'
  refine d_write I (by rw [e]; exact True.intro) hs ⟨q, hq⟩ ⟨hl, hd, _, (rel.put k eb rv).keeps fun c ys ec => ?_, q, es, ep, hq, h2, h3, h4, h5⟩
  rw [upd_ne (ne_of ec e (fun z => nomatch z))]
  exact ec
 ·subst ey eH
  cases (show u = Value.ref b from ry)
  obtain ⟨z, hd, xs, rel, dd⟩ := dp_of I.hok e
  have hz : xs.length <= sizeLine := by rw [<- Paired.length rel]; exact z
  have hl : (putK kvs k v).length <= sizeLine := by have := length_putK kvs k v; lia
  refine wpAny_setItem_heap (hsz := hz) (show _ + 8 < cLine by show A.units + 1 + 8 < cLine; lia) (keyP_of I.hok eb) dd fun h' dd' hs => h _ ?_
  obtain ⟨q, es, ep, hq, h2, h3, h4, _, h5⟩ := dd'
  refine d_write I (by rw [e]; exact True.intro) hs ⟨q, hq⟩ ⟨hl, hd, _, (rel.put k eb rv).keeps fun c ys ec => ?_, q, es, ep, hq, h2, h3, h4, h5⟩
  rw [upd_ne (ne_of ec e (fun z => nomatch z))]
  exact ec
end
noncomputable def NoSl (i : Expr) : Prop := ∀ ov iv, subscripted i false ov iv = operate [ov, iv] (getItem ov iv)
theorem subD_of {prog : Program} {w : World} {A : Around} {E : Value -> Shared -> Prop} {s : Shared} {env : Env} {value slice : Expr} {pos : Pos} {T id : String} {Q : Value -> Shared -> Prop}
  (hl : typeLookup (.type T) "__getitem__" = pure (some (.builtin id))) (hs : NoSl slice)
  (h : wpAny (model prog w) A (eval value env) (fun o s₁ => wpAny (model prog w) A (eval slice env) (fun i s₂ => s₂.TypeIs o T /\ wpAny (model prog w) A (getItem o i) Q E s₂) E s₁) E s) :
  wpAny (model prog w) A (eval (.Subscript value slice pos) env) Q E s := by
 refine Subscript_ (wpAny_mono h (fun o s₁ h₁ => wpAny_mono h₁ (fun i s₂ h₂ => ?_) fun _ _ x => x) fun _ _ x => x)
 obtain ⟨hT, h₂⟩ := h₂
 unfold subscriptTail
 refine wpAny_bind ?_
 rw [getitemInPython_of_ne hT.not_modules]
 refine wpAny_bind (wpAny_specialOf hT hl ?_)
 have fin : wpAny (model prog w) A (subscripted slice false o i) (fun r s₃ => wpAny (model prog w) A (letTemporaryGo value o r >>= fun _ => pure r) Q E s₃) E s₂ := by
  rw [hs o i]
  exact wpAny_operating (wpAny_mono h₂ (fun r s₃ h₃ => wpAny_bind (wpAny_letTemporaryGo (wpAny_pure h₃))) fun _ _ x => x)
 first
  | exact wpAny_pure (wpAny_bind fin)
  | exact wpAny_bind (wpAny_pure (wpAny_bind fin))
  | exact wpAny_bind fin
theorem dict_typeIs {X : Cx} {pins : List (Addr × Obj)} {Z : St} {H : Hp} {s : Shared} {a : Addr} {y : V} {o : Option V} (I : Inv X pins Z H s) (g : DGet H a y o) : s.TypeIs (.ref a) "dict" := by
 rcases g with ⟨kvs, k, e, _, _⟩ | ⟨kvs, k, b, e, _, _, _⟩ | ⟨kvs, k, b, e, _, _, _⟩
 ·obtain ⟨_, _, vs, _, dd⟩ := dk_rd I.hok e
  exact dd.typeIs
 ·obtain ⟨_, _, xs, _, dd⟩ := dt_rd I.hok e
  exact dd.typeIs
 ·obtain ⟨_, _, xs, _, dd⟩ := dp_rd I.hok e
  exact dd.typeIs
noncomputable def tDGet (td ty : TE) : TE := fun Z H Q => td Z H fun x H1 => ty Z H1 fun y H2 => ∃ a v, x = .ref a /\ DGet H2 a y (some v) /\ Q v H2
noncomputable def tDIn (ty td : TE) : TE := fun Z H Q => ty Z H fun y H1 => td Z H1 fun x H2 => ∃ a o, x = .ref a /\ DGet H2 a y o /\ Q (.bl o.isSome) H2
noncomputable def tDNotIn (ty td : TE) : TE := fun Z H Q => ty Z H fun y H1 => td Z H1 fun x H2 => ∃ a o, x = .ref a /\ DGet H2 a y o /\ Q (.bl (!o.isSome)) H2
noncomputable def sDPut (td ty tv : TE) : TS := fun D Z H => tv Z H fun v H1 => td Z H1 fun x H2 => ty Z H2 fun y H3 => ∃ a H4, x = .ref a /\ DPut H3 a y v H4 /\ D.nx Z H4
section
variable {X : Cx} {o i e value : Expr} {pos pos' tpos : Pos} {td ty tv : TE}
theorem pe_dget (hu : X.A.units + 16 < cLine) (ho : PE X o td) (hi : PE X i ty) (hs : NoSl i) : PE X (.Subscript o i pos) (tDGet td ty) := by
 intro pins s Z H Q I h
 refine subD_of PySem.F.slot_dict_getitem.lookup hs (thn (ho pins s Z H _ I h) fun u s1 ⟨x, H1, I1, rx, q1⟩ => thn (hi pins s1 Z H1 _ I1 q1) fun iv s2 ⟨y, H2, I2, ry, a, v, ex, g, q2⟩ => ?_)
 subst ex
 obtain rfl : u = Value.ref a := rx
 exact ⟨dict_typeIs I2 g, d_getItem hu I2 g ry fun w' s3 I3 rw' => ⟨v, H2, I3, rw', q2⟩⟩
theorem pc_din (hu : X.A.units + 16 < cLine) (hi : PE X i ty) (ho : PE X o td) : PC X .In i o (tDIn ty td) := by
 intro pins s Z H Q I h
 refine thn (hi pins s Z H _ I h) fun iv s1 ⟨y, H1, I1, ry, q1⟩ => thn (ho pins s1 Z H1 _ I1 q1) fun u s2 ⟨x, H2, I2, rx, a, ov, ex, g, q2⟩ => ?_
 subst ex
 obtain rfl : u = Value.ref a := rx
 exact d_in hu I2 g ry fun s3 I3 => ⟨.bl ov.isSome, H2, I3, rfl, q2⟩
theorem pc_dnotin (hu : X.A.units + 16 < cLine) (hi : PE X i ty) (ho : PE X o td) : PC X .NotIn i o (tDNotIn ty td) := by
 intro pins s Z H Q I h
 refine thn (hi pins s Z H _ I h) fun iv s1 ⟨y, H1, I1, ry, q1⟩ => thn (ho pins s1 Z H1 _ I1 q1) fun u s2 ⟨x, H2, I2, rx, a, ov, ex, g, q2⟩ => ?_
 subst ex
 obtain rfl : u = Value.ref a := rx
 exact d_notIn hu I2 g ry fun s3 I3 => ⟨.bl (!ov.isSome), H2, I3, rfl, q2⟩
theorem ps_dput (hu : X.A.units + 16 < cLine) (ho : PE X o td) (hi : PE X i ty) (hv : PE X value tv) (hs : swapsWith value (some (.Subscript o i pos')) pos.line X.env = pure false) :
  PS X (.Assign [.Subscript o i pos'] value pos) (sDPut td ty tv) := by
 intro pins s Z H D I h
 refine wpAny_Assign_Subscript (thn (hv pins s Z H _ I h) fun r s1 ⟨v, H1, I1, rv, q1⟩ => thn (ho pins s1 Z H1 _ I1 q1) fun u s2 ⟨x, H2, I2, rx, q2⟩ => thn (hi pins s2 Z H2 _ I2 q2) fun iv s3 ⟨y, H3, I3, ry, a, H4, ex, g, q3⟩ => ?_) hs
 subst ex
 obtain rfl : u = Value.ref a := rx
 exact d_setItem hu I3 g ry rv fun s4 I4 => ⟨Z, H4, I4, q3⟩
end
theorem dk_empty {P : Program} {w : World} {H : Hp} (h : Heap) (hb : sysModules < h.objs.size) : ObjOk P w H (h.push { cls := .type "dict", data := .dict #[] }) h.objs.size (.dK []) :=
 ⟨Nat.zero_le _, beq_eq_false_iff_ne.mpr (Ne.symm (Nat.ne_of_lt hb)), [], .nil, Heap.DictOf.new h⟩
theorem dt_empty {P : Program} {w : World} {H : Hp} (h : Heap) (hb : sysModules < h.objs.size) : ObjOk P w H (h.push { cls := .type "dict", data := .dict #[] }) h.objs.size (.dT []) :=
 ⟨Nat.zero_le _, beq_eq_false_iff_ne.mpr (Ne.symm (Nat.ne_of_lt hb)), [], .nil, _, #[], 0, Heap.get?_push_size _ rfl, ⟨rfl, rfl, rfl⟩, rfl, rfl, List.nodup_nil⟩
noncomputable def tDNewK : TE := fun _ H Q => ∀ p, H p = none -> Q (.ref p) (upd H p (.dK []))
noncomputable def tDNewT : TE := fun _ H Q => ∀ p, H p = none -> Q (.ref p) (upd H p (.dT []))
section
variable {X : Cx} {pos : Pos}
theorem pe_dnewK : PE X (.Dict [] [] pos) tDNewK := fun pins s Z H Q I h =>
 wpAny_Dict_empty ⟨.ref s.heap.objs.size, _, I.laid (a := s.heap.objs.size) (o := .dK []) (t' := s.toks) (fun _ _ q => Heap.get?_push_of_some _ q) (Nat.le_refl _) (dk_empty s.heap I.big), rfl, h _ (I.hok.fresh (Nat.le_refl _))⟩
theorem pe_dnewT : PE X (.Dict [] [] pos) tDNewT := fun pins s Z H Q I h =>
 wpAny_Dict_empty ⟨.ref s.heap.objs.size, _, I.laid (a := s.heap.objs.size) (o := .dT []) (t' := s.toks) (fun _ _ q => Heap.get?_push_of_some _ q) (Nat.le_refl _) (dt_empty s.heap I.big), rfl, h _ (I.hok.fresh (Nat.le_refl _))⟩
end
structure M2 (X : Cx) (o : Expr) (m : Str) (apos : Pos) (e f : Expr) (cpos : Pos) : Prop where
 base : attributeBase o m X.env (eval o X.env) = eval o X.env
 few : ((backTo cpos (starEach [e, f] X.env)).all (fun x => !x.1) && (backToKw cpos (keywordEach [] X.env)).all (fun x => x.1.isSome)
  && decide (([e, f] : List Expr).length + ([] : List Keyword).length + (if ([] : List Keyword).isEmpty then 0 else 1) < 30)) = true
 line : (apos.endLine == cpos.line) = true
 trees : backTo cpos (starEach [e, f] X.env) = [(false, eval e X.env), (false, eval f X.env)]
noncomputable def IsD (H : Hp) (a : Addr) : Prop := (∃ kvs, Rd H a (.dK kvs)) \/ ∃ kvs, Rd H a (.dT kvs)
theorem isD_at {X : Cx} {pins : List (Addr × Obj)} {Z : St} {H : Hp} {s : Shared} {a : Addr} (I : Inv X pins Z H s) (d : IsD H a) :
  s.TypeIs (.ref a) "dict" /\ (∀ b, Value.ref a = .ref b -> ∃ ob, s.heap.get? b = some ob /\ ob.dict = none) /\ (a == sysModules) = false := by
 rcases d with ⟨kvs, e⟩ | ⟨kvs, e⟩
 ·obtain ⟨_, hd, vs, _, dd⟩ := dk_rd I.hok e
  refine ⟨dd.typeIs, fun b q => ?_, hd⟩
  cases q
  obtain ⟨ob, _, _, h1, h2, _⟩ := dd
  exact ⟨ob, h1, h2.2.1⟩
 ·obtain ⟨_, hd, xs, _, dd⟩ := dt_rd I.hok e
  refine ⟨dd.typeIs, fun b q => ?_, hd⟩
  cases q
  obtain ⟨ob, _, _, h1, h2, _⟩ := dd
  exact ⟨ob, h1, h2.2.1⟩
section
variable {X : Cx} {pins : List (Addr × Obj)} {Z : St} {H : Hp} {s : Shared} {a : Addr} {y d : V} {u r : Value} {o : Option V} {A : Around} {E : Value -> Shared -> Prop}
theorem d_get2 {Q : Value -> Shared -> Prop} (hu : A.units + 16 < cLine) (I : Inv X pins Z H s) (g : DGet H a y o) (ry : RelV y u) (rd : RelV d r) (h : ∀ w' s', Inv X pins Z H s' -> RelV (o.getD d) w' -> Q w' s') :
  wpAny (model X.prog X.w) A (call (.builtin "dict.get") [.ref a, u, r]) Q E s := by
 rcases g with ⟨kvs, k, e, ey, l⟩ | ⟨kvs, k, b, e, ey, eb, l⟩ | ⟨kvs, k, b, e, ey, eb, l⟩
 ·subst ey
  obtain ⟨z, hd, vs, rel, dd⟩ := dk_rd I.hok e
  refine call_meetsIn PySem.F.slot_dict_get dd.typeIs PySem.F.entry_dict_get (PySem.F.args_dict_get_3 _ _ _) (meets_dict_get_default (mixKind X.prog X.w) a (kV_is ry) hd r) ⟨_, dd.mapOf, h _ _ (I.tok _) ?_⟩
  rw [l]
  exact (rel.val k).getD rd
 ·subst ey
  cases (show u = Value.ref b from ry)
  obtain ⟨z, hd, xs, rel, dd⟩ := dt_rd I.hok e
  refine call_meetsIn PySem.F.slot_dict_get dd.typeIs PySem.F.entry_dict_get (PySem.F.args_dict_get_3 _ _ _) (meetsH_dict_get_default (tupleKind (mixKind X.prog X.w)) a b hd r) ⟨tupleKind_room_in1 (by lia), k, xs, key_of I.hok eb, dd, h _ _ (I.tok _) ?_⟩
  rw [l]
  exact (rel.val k).getD rd
 ·subst ey
  cases (show u = Value.ref b from ry)
  obtain ⟨z, hd, xs, rel, dd⟩ := dp_rd I.hok e
  refine call_meetsIn PySem.F.slot_dict_get dd.typeIs PySem.F.entry_dict_get (PySem.F.args_dict_get_3 _ _ _) (meetsH_dict_get_default (pairKind (mixKind X.prog X.w) (mixKind X.prog X.w)) a b hd r) ⟨(show _ + 8 < cLine by show A.units + 1 + 8 < cLine; lia), k, xs, keyP_of I.hok eb, dd, h _ _ (I.tok _) ?_⟩
  rw [l]
  exact (rel.val k).getD rd
end
noncomputable def tDGet2 (td ty tx : TE) : TE := fun Z H Q => td Z H fun x H1 => ∃ a, x = .ref a /\ IsD H1 a /\ ty Z H1 fun y H2 => tx Z H2 fun z H3 => ∃ o, DGet H3 a y o /\ Q (o.getD z) H3
section
variable {X : Cx} {o e f : Expr} {apos cpos : Pos} {td ty tx : TE}
theorem pe_dget2 (hu : X.A.units + 16 < cLine) (ho : PE X o td) (he : PE X e ty) (hf : PE X f tx) (m : M2 X o "get" apos e f cpos) : PE X (.Call (.Attribute o "get" apos) [e, f] [] cpos) (tDGet2 td ty tx) := by
 intro pins s Z H Q I h
 refine wpAny_Call_method m.base m.few m.line PySem.F.plainAttrs_dict PySem.F.slot_dict_get PySem.F.type_dict_get (thn (ho pins s Z H _ I h) fun u s1 ⟨x, H1, I1, rx, a, ex, d, q1⟩ => ?_)
 subst ex
 obtain rfl : u = Value.ref a := rx
 obtain ⟨t1, t2, _⟩ := isD_at I1 d
 refine ⟨t1, t2, ?_⟩
 rw [m.trees]
 refine Calls.callWith_builtin rfl (Calls.evalArgs_plain (Calls.spliced_cons (thn (he pins s1 Z H1 _ I1 q1) fun iv s2 ⟨y, H2, I2, ry, q2⟩ =>
  Calls.spliced_cons (thn (hf pins s2 Z H2 _ I2 q2) fun fv s3 ⟨z, H3, I3, rz, ov, g, q3⟩ => Calls.spliced_nil ?_))))
 exact d_get2 hu I3 g ry rz fun w' s4 I4 rw' => ⟨_, H3, I4, rw', q3⟩
end
end L2
namespace Att
open PySem PySem.W PySem.Calls PyProof.Rows
theorem ints_of_wellAll {P : Params} {h : Heap} : ∀ (ns : List Int) (vs : List Value), WellAll P h vs (ns.map WData.int) -> IntsAre vs ns := by
 intro ns
 induction ns with
 | nil =>
  intro vs w
  rw [List.map_nil] at w
  cases w
  exact .nil
 | cons n ns ih =>
  intro vs w
  rw [List.map_cons] at w
  cases w with
  | cons a b =>
   cases a
   exact .cons _ _ (ih _ b)
theorem script_of {l : OpenLaw} {n : Nat} (hn : l.most = some n) {P : Params} {h : Heap} {args : List WData} {vals : List Value}
  (hpre : l.row.toRowW.claim.pre args = true) (hwl : WellAll P h vals args) :
  ∃ a vs ns, vals = [Value.ref a] /\ args = [WData.list (ns.map WData.int)] /\ h.get? a = some { cls := .type "list", data := .seq vs.toArray } /\ IntsAre vs ns /\ ns.length <= n := by
 have hsh : WShape.hasAll [] args [.list .int] = true := (pre_splitW hpre).1
 have hc : l.pre.holds [] { args := args } = true := (pre_splitW hpre).2
 obtain ⟨d, r, rfl, h1, h2⟩ := hasAllW_cons hsh
 obtain rfl := hasAllW_nil h2
 obtain ⟨xs, rfl, h3⟩ := hasW_list h1
 obtain ⟨ns, rfl⟩ := items_int h3
 have hlen : ns.length <= n := by
  unfold OpenLaw.pre at hc
  have h4 : (WTm.not (.lt (.lit (.int (n : Int))) (.len (.arg 0)))).holds [] { args := [.list (ns.map .int)] } = true := by
   have h4 := (holds_andW hc).1
   rw [hn] at h4
   exact h4
  have h5 := condW_of h4 (w_not (w_lt w_lit (w_len_list (w_arg rfl))))
  rw [List.length_map] at h5
  refine Nat.le_of_not_lt fun q => ?_
  have q' : (n : Int) < ((ns.length : Nat) : Int) := by lia
  first
   | (rw [decide_eq_true q'] at h5; exact absurd h5 (by decide))
   | (simp at h5; lia)
 cases hwl with
 | cons w1 w2 =>
  cases w2
  cases w1 with
  | list ho hall => exact ⟨_, _, ns, rfl, rfl, ho, ints_of_wellAll ns _ hall, hlen⟩
theorem post_true (l : OpenLaw) (args : List WData) : l.row.toRowW.claim.post args (.bool true) args = true :=
 postW_of (r := l.row.toRowW) (X := (true == true))
  (show WShape.has [] (.bool true) .bool = true by first | rfl | decide | simp [WShape.has, WShape.arms, WShape.armsAll])
  (show (WTm.eq .res (.lit (.bool true))).value [] { args := args, res := some (.bool true), after := args } = some (.bool (true == true)) from w_eq_bool (w_res rfl) w_lit) rfl
theorem attach_call {l : OpenLaw} {n : Nat} {q : Program} {loose : List Str} {XP : (Str -> Option Value) -> Heap -> Prop} {YP : World -> Heap -> Prop} {d : DefRec}
  (hn : l.most = some n) (hdf : d.params.defaults = [])
  (call : ∀ (w : World) (s₀ s₁ : Shared) (mg mb : Str -> Option Value) (fa : Addr) (o : Obj) (pm cd doc : Value) (a : Addr) (vs : List Value) (ns : List Int),
   Ground q loose [] XP w s₀ mg mb s₁.heap -> YP w s₁.heap ->
   s₁.heap.get? fa = some o -> o.data = .func (docDef d.name d.params d.body d.scope pm cd doc) -> s₁.heap.CodeRec cd d.name -> mg d.name = some (.ref fa) ->
   s₁.heap.get? a = some { cls := .type "list", data := .seq vs.toArray } -> IntsAre vs ns -> ns.length <= n -> s₁.gens = #[] ->
   codeAny (model l.prog w) callerA (.call (.ref fa) ⟨[.ref a], []⟩) (fun r s' => r = .ok (.ret (.bool true)) /\ OldK s₁.heap s'.heap /\ s'.os = s₁.os /\ AllBare s'.gens) s₁) :
  WalkO q loose XP YP l.row.toRowW d [] (fun f vs => PySem.call f vs) := by
 intro w s₀ s₁ mg mb G Y fa o pm cd doc dV kV ho hd hcd hD hmg hg args vals as hpre hlay hrd hwl hlo
 obtain rfl : dV = .none := Dflts.none hD hdf
 obtain rfl : kV = .none := Dflts.noKw hD
 obtain ⟨a, vs, ns, rfl, rfl, hobj, hints, hlen⟩ := script_of hn hpre hwl
 refine enter_call (codeAny_mono (call w s₀ s₁ mg mb fa o pm cd doc a vs ns G Y ho (fd_plain hd) hcd hmg hobj hints hlen hg) fun r s' hq => ?_)
 obtain ⟨rfl, h2, h3, h4⟩ := hq
 exact ⟨.inl ⟨.bool true, .bool true, [], rfl, fun _ => rfl, .bool true, post_true l _, fun _ => ⟨List.Pairwise.nil, fun _ hm => (nomatch hm)⟩⟩, h2, h3, h4⟩
end Att
namespace L2
open PySem PySem.Spec PyProof.Rows
theorem vals_ints : ∀ {vs : List Value} {ns : List Int}, IntsAre vs ns -> Vals (ns.map V.int) vs
 | _, _, .nil => .nil
 | _, _, .cons n t h => .cons ⟨t, rfl⟩ (vals_ints h)
noncomputable def Only (H : Hp) : Prop := ∀ b, H b = none \/ ∃ o xs, H b = some (.frz o (.lst xs))
theorem law_call {P : Program} {w : World} {K : PySem.W.Frag} {mg mb : Str -> Option Value} {CX : CXT} {k : Nat} {fa a : Addr} {fd : FuncData} {x : Str} {sp : Sp} {s₁ : Shared} {vs : List Value} {ns : List Int}
  (KX : K.In s₁.heap) (hns : s₁.heap.Ns mainGlobals mg) (hb : s₁.heap.Ns builtinsNs mb) (hbb : ∀ x : Str, x ≠ "__name__" -> mb x = bootBuiltins x) (hlim : s₁.heap.NoLimit) (hg : s₁.gens = #[])
  (ha : s₁.heap.get? a = some { cls := .type "list", data := .seq vs.toArray }) (hi : IntsAre vs ns) (hl : ns.length <= sizeLine) (hr : Room k callerA)
  (F : ∀ base : Heap, K.In base -> base.Ns mainGlobals mg -> FnOk P w K mg base CX k fa fd [x] sp) (hbind : ∀ (s : Shared) (u : Value), BindsTo s fd ⟨[u], []⟩ [(x, u)])
  (hsp : ∀ H : Hp, Only H -> SqL K H a (ns.map V.int) -> sp [.ref a] H (fun v _ => v = .bl true) fun _ _ _ => False)
  (hCX : ∀ H e s', CX [] H s₁ (fun _ _ _ => False) e s' -> False) :
  codeAny (model P w) callerA (.call (.ref fa) ⟨[.ref a], []⟩) (fun r s' => r = .ok (.ret (.bool true)) /\ OldK s₁.heap s'.heap /\ s'.os = s₁.os /\ AllBare s'.gens) s₁ := by
 have rv := vals_ints hi
 have lenV := hi.length
 have core : ∀ H : Hp, Only H -> SqL K H a (ns.map V.int) -> HOk P w H s₁.heap -> (∀ b, H b ≠ none -> b = a) -> (H a ≠ none -> K.lookup a = none) ->
   codeAny (model P w) callerA (.call (.ref fa) ⟨[.ref a], []⟩) (fun r s' => r = .ok (.ret (.bool true)) /\ OldK s₁.heap s'.heap /\ s'.os = s₁.os /\ AllBare s'.gens) s₁ := by
  intro H hO hS hok hA hK
  have base_of : ∀ {b : Addr} {o : Obj}, s₁.heap.get? b = some o -> H b = none -> (hidT s₁.heap H).get? b = some o := fun e n => hidT_get e n
  have noA : ∀ {b : Addr} {o : Obj} {es : Array DictEntry} {ep : Nat}, s₁.heap.get? b = some o -> o.data = .dict es ep -> H b = none := fun {b o es ep} e d => by
   cases q : H b with
   | none => rfl
   | some u =>
    have e' : b = a := hA b (by rw [q]; simp)
    subst e'
    rw [ha] at e; cases e
    have d' : Data.seq vs.toArray _ = Data.dict es ep := d
    cases d'
  have nsK : ∀ {b : Addr} {m : Str -> Option Value}, s₁.heap.Ns b m -> (hidT s₁.heap H).Ns b m := fun {b m} ⟨o, es, ep, e, d, r⟩ => ⟨o, es, ep, base_of e (noA e d), d, r⟩
  have hKb : K.In (hidT s₁.heap H) := fun b o e => base_of (KX b o e) (by
   cases q : H b with
   | none => rfl
   | some u =>
    have e' : b = a := hA b (by rw [q]; simp)
    subst e'
    rw [hK (by rw [q]; simp)] at e; cases e)
  have hM : Mod K mg (hidT s₁.heap H) := ⟨hKb, nsK hns, ⟨mb, nsK hb, hbb⟩, let ⟨mc, h1, h2⟩ := hlim; ⟨mc, nsK h1, h2⟩⟩
  have e0 : Env0 P w K mg (hidT s₁.heap H) callerA [] s₁ H := ⟨rfl, hM, fun b o e => of_hidT e, Nat.le_of_eq (hidT_size _ _), trivial, fun b hb => absurd (show b ∈ ([] : List Addr) from hb) (by simp), hok, .of_eq hg⟩
  refine codeAny_mono ((F _ hKb (nsK hns)).run callerA [] s₁ H ⟨[.ref a], []⟩ [.ref a] [.ref a] _ _ hr e0 (hbind s₁ (.ref a)) (.cons rfl .nil) (hsp H hO hS)) fun r s' h => ?_
  cases r with
  | error e => exact (hCX H e s' h).elim
  | ok fl =>
   cases fl with
   | next => exact False.elim h
   | brk => exact False.elim h
   | cont => exact False.elim h
   | ret u =>
    obtain ⟨v, H', os, bare, un, hok', r', q⟩ := h
    have q' : v = .bl true := q
    subst q'
    obtain rfl : u = Value.bool true := r'
    refine ⟨rfl, OldK.of_keep fun b o e => ?_, os, bare⟩
    cases q : H b with
    | none => exact un.keep b o e q (by intro z; exact absurd (show b ∈ ([] : List Addr) from z) (by simp)) (by simp)
    | some u =>
     rcases hO b with z | ⟨ob, xs, z⟩
     ·rw [q] at z; cases z
     ·have z2 := un.frzs b ob _ z
      obtain ⟨e1, _⟩ := hok b _ z
      obtain ⟨e2, _⟩ := hok' b _ z2
      rw [e] at e1; cases e1
      exact e2
 cases hk : K.lookup a with
 | some o =>
  have e := KX a o hk
  rw [ha] at e
  cases e
  refine core (fun _ => none) (fun _ => .inl rfl) (.inr ⟨_, vs.toArray, _, hk, rfl, rfl, rfl, by rw [List.size_toArray, lenV]; exact hl, by simpa using rv⟩) (fun b u z => by have z' : (none : Option HO) = some u := z; cases z') (fun b z => absurd rfl z) fun z => absurd rfl z
 | none =>
  refine core (fun b => if b = a then some (.frz { cls := .type "list", data := .seq vs.toArray } (.lst (ns.map V.int))) else none) (fun b => ?_) (.inl (.inr ⟨{ cls := .type "list", data := .seq vs.toArray }, if_pos rfl⟩)) (fun b u z => ?_) (fun b z => ?_) fun _ => hk
  ·by_cases hb : b = a
   ·exact .inr ⟨_, _, if_pos hb⟩
   ·exact .inl (if_neg hb)
  ·by_cases hb : b = a
   ·have z' := (if_pos hb).symm.trans z
    cases z'
    subst hb
    exact ⟨ha, by rw [List.length_map]; exact hl, vs, _, rv, ha⟩
   ·have z' := (if_neg hb).symm.trans z
    cases z'
  ·by_cases hb : b = a
   ·exact hb
   ·exact absurd (if_neg hb) z
theorem walk_of {l : PySem.W.OpenLaw} {n k : Nat} {q : Program} {loose : List Str} {XP : (Str -> Option Value) -> Heap -> Prop} {YP : World -> Heap -> Prop} {d : DefRec} {K : Params -> PySem.W.Frag} {CX : World -> CXT} {sp : World -> Sp} {x : Str}
  (hn : l.most = some n) (hn2 : n <= sizeLine) (hdf : d.params.defaults = []) (hr : Room k callerA)
  (hY : ∀ (w : World) (h : Heap), YP w h -> (K w.params).In h)
  (F : ∀ (w : World) (mg : Str -> Option Value) (fa : Addr) (h : Heap), (K w.params).In h -> h.Ns mainGlobals mg -> mg d.name = some (.ref fa) ->
   ∃ fd : FuncData, (∀ (s : Shared) (u : Value), BindsTo s fd ⟨[u], []⟩ [(x, u)]) /\
    ∀ base : Heap, (K w.params).In base -> base.Ns mainGlobals mg -> FnOk l.prog w (K w.params) mg base (CX w) k fa fd [x] (sp w))
  (hsp : ∀ (w : World) (H : Hp) (a : Addr) (ns : List Int), ns.length <= n -> Only H -> SqL (K w.params) H a (ns.map V.int) -> sp w [.ref a] H (fun v _ => v = .bl true) fun _ _ _ => False)
  (hCX : ∀ (w : World) (H : Hp) (s : Shared) (e : Value) (s' : Shared), CX w [] H s (fun _ _ _ => False) e s' -> False) :
  PySem.W.WalkO q loose XP YP l.row.toRowW d [] (fun f vs => PySem.call f vs) := by
 refine Att.attach_call hn hdf fun w s₀ s₁ mg mb fa o pm cd doc a vs ns G Y ho hd hcd hmg hobj hints hlen hg => ?_
 have KX := hY w _ Y
 obtain ⟨fd, hb, hF⟩ := F w mg fa _ KX G.T.g hmg
 exact law_call KX G.T.g G.T.b G.T.builtins G.T.nolimit hg hobj hints (Nat.le_trans hlen hn2) hr hF hb (fun H hO hS => hsp w H a ns hlen hO hS) fun H e s' => hCX w H s₁ e s'
noncomputable def defArgs (s : Stmt) : Arguments := match s with
 | .FunctionDef _ a _ _ _ _ _ _ _ _ => a
 | _ => { posonlyargs := [], args := [], vararg := none, kwonlyargs := [], kw_defaults := [], kwarg := none, defaults := [] }
noncomputable def defBody (s : Stmt) : List Stmt := match s with
 | .FunctionDef _ _ b _ _ _ _ _ _ _ => b
 | _ => []
noncomputable def defScope (s : Stmt) : Scope := match s with
 | .FunctionDef _ _ _ _ _ _ sc _ _ _ => sc
 | _ => { kind := .function, names := [], isGenerator := false, isCoroutine := false }
noncomputable abbrev CX0 : CXT := fun _ _ _ _ _ _ => False
noncomputable abbrev E0 : XK := fun _ _ _ => False
theorem pass0 {X : Cx} : Passes CX0 X E0 := fun _ _ _ _ _ _ _ h => h.elim
structure Fun (K : PySem.W.Frag) (x qual : Str) (st : Stmt) (f : Addr) (fd : FuncData) : Prop where
 ex : ∃ (oc : Value) (od : Option Addr) (kV doc pm : Value) (an : Option Addr) (cdv ct : Value) (osl : Array (Option Value)),
  fd = PySem.W.fnOf x qual (defArgs st) (defBody st) (defScope st) .none kV doc pm an cdv ct /\ K.lookup f = some ⟨oc, od, .func fd, osl⟩ /\ PySem.W.codeIn K cdv qual = true
 kp : PySem.W.keepIn K (.ref f) = true
section
variable {P : Program} {w : World} {K : PySem.W.Frag} {mg : Str -> Option Value} {base : Heap}
theorem Fun.ok {x qual : Str} {st : Stmt} {f : Addr} {fd : FuncData} {N ps : List Str} {k : Nat} {sp : Sp} (F : Fun K x qual st f fd) (S : FnScope N ps (defScope st)) (len : ∀ vs H Q E, sp vs H Q E -> vs.length = ps.length)
  (hbody : ∀ (cdv : Value) (A : Around) (outer : List Env) (s : Shared) (H : Hp) (vs : List V) (Q : VK) (E : XK), Room k (A.deeper (envOfC qual (defScope st) s.heap.objs.size f cdv)) -> sp vs H Q E ->
   ∃ t, PSs (cxOf CX0 P w K mg base N qual (defScope st) f cdv A outer s H E).nox (defBody st) t /\ t { nx := fun _ H' => Q .non H', rt := Q } (start N vs) H) : FnOk P w K mg base CX0 (k + 1) f fd ps sp := by
 obtain ⟨oc, od, kV, doc, pm, an, cdv, ct, osl, rfl, lk, hcd⟩ := F.ex
 refine fn_of lk hcd S len fun A outer s H vs Q E hr hsp => ?_
 obtain ⟨t, h, q⟩ := hbody cdv A outer s H vs Q E hr hsp
 exact ⟨t, h.nox, q⟩
theorem Fun.binds {x qual : Str} {st : Stmt} {f : Addr} {fd : FuncData} {ps : List Str} (F : Fun K x qual st f fd)
  (h : ∀ (kV doc pm : Value) (an : Option Addr) (cdv ct : Value) (us : List Value), us.length = ps.length -> bindArgs (PySem.W.fnOf x qual (defArgs st) (defBody st) (defScope st) .none kV doc pm an cdv ct) ⟨us, []⟩ = pure (ps.zip us)) : Binds K fd ps [] := by
 obtain ⟨oc, od, kV, doc, pm, an, cdv, ct, osl, rfl, lk, hcd⟩ := F.ex
 exact .all (h kV doc pm an cdv ct)
theorem fun_mk {x qual : Str} {st : Stmt} {f : Addr} {oc : Value} {od an : Option Addr} {osl : Array (Option Value)} {kV doc pm cdv ct : Value} (l : K.lookup f = some ⟨oc, od, .func (PySem.W.fnOf x qual (defArgs st) (defBody st) (defScope st) .none kV doc pm an cdv ct), osl⟩)
  (c : PySem.W.codeIn K cdv qual = true) (k : PySem.W.keepIn K (.ref f) = true) : Fun K x qual st f (PySem.W.fnOf x qual (defArgs st) (defBody st) (defScope st) .none kV doc pm an cdv ct) := ⟨⟨oc, od, kV, doc, pm, an, cdv, ct, osl, rfl, l, c⟩, k⟩
end
theorem hu_of {A : Around} {k : Nat} (hr : Room k A) : A.units + 16 < cLine := Nat.lt_of_le_of_lt (Nat.add_le_add_left (by decide : 16 <= 64) _) hr.units
theorem small1000 {n : Nat} (h : n <= 1000) : n < sizeLine := Nat.lt_of_le_of_lt h (by decide)
section
variable {X : Cx}
theorem pv (i : Nat) {x : Str} {pos : Pos} (hN : X.N[i]? = some x := by rfl) (hv : Vis X.env.scope x := by first | exact Or.inl rfl | exact Or.inr (Or.inl rfl) | exact Or.inr (Or.inr rfl)) (hd : (x == ("__debug__" : Str)) = false := by decide)
  (hcd : (x == ("__classdict__" : Str)) = false := by decide) : PE X (.Name x pos) (tVar i) := pe_var hN hv hd hcd
end
theorem iteF {A B : Prop} (h : B) : if false = true then A else B := by
 rw [if_neg Bool.false_ne_true]
 exact h
theorem iteT {A B : Prop} (h : A) : if true = true then A else B := by
 rw [if_pos rfl]
 exact h
theorem ite2 {c A B : Prop} [Decidable c] (h1 : c -> A) (h2 : ¬ c -> B) : if c then A else B := by
 by_cases h : c
 ·rw [if_pos h]
  exact h1 h
 ·rw [if_neg h]
  exact h2 h
noncomputable def Same (H H' : Hp) : Prop := ∀ b o, H b = some o -> H' b = some o
theorem Same.refl (H : Hp) : Same H H := fun _ _ h => h
theorem Same.trans {H H1 H2 : Hp} (a : Same H H1) (b : Same H1 H2) : Same H H2 := fun c o h => b c o (a c o h)
theorem Same.free {H H' : Hp} (e : Same H H') {l : Addr} (h : H' l = Option.none) : H l = Option.none := by
 cases q : H l with
 | none => rfl
 | some o =>
  rw [e l o q] at h
  cases h
section
variable {κ : Type} [DecidableEq κ]
theorem valV_in {kvs : List (κ × V)} {k : κ} {v : V} (h : valV kvs k = some v) : k ∈ kvs.map (·.1) := by
 have q : (kvs.any fun kv => decide (kv.1 = k)) = true := by
  rw [valV_any, h]
  all_goals rfl
 obtain ⟨p, hp, e⟩ := List.any_eq_true.mp q
 exact List.mem_map.mpr ⟨p, hp, of_decide_eq_true e⟩
end
section
variable {X : Cx}
theorem call_isi : CallR X (.builtin "isinstance") (fun xs H Q => ∃ x T t b, xs = [x, .ty T] /\ TyOf X.K H x t /\ PySem.W.kitOne X.K t (.type T) = some b /\ Q (.bl b) H) := by
 intro pins s Z H xs us Q I r h
 obtain ⟨x, T, t, b, rfl, ty, e, q⟩ := h
 obtain ⟨u, w', rfl, ru, rw'⟩ := vals2 r
 cases (show w' = Value.type T from rw')
 exact isinst_ok I ru ty e fun tk => ⟨.bl b, H, I.tok tk, rfl, q⟩
end
section
variable {X : Cx} {e k : Expr} {te tk : TE} {pos p2 : Pos}
theorem vals_pick : ∀ (ix : List Nat) {xs : List V} {us : List Value}, Vals xs us -> Vals (ix.filterMap (xs[·]?)) (ix.filterMap (us[·]?))
 | [], _, _, _ => .nil
 | i :: r, xs, us, h => by
  rw [List.filterMap_cons, List.filterMap_cons]
  cases ex : xs[i]? with
  | none =>
   rw [h.none_of ex]
   exact vals_pick r h
  | some x =>
   obtain ⟨u, eu, ru⟩ := h.get ex
   rw [eu]
   exact .cons ru (vals_pick r h)
noncomputable def stepIx (n : Nat) (c : Int) : List Nat := sliceRange (sliceBounds none none (some c) n).1 (sliceBounds none none (some c) n).2.1 (sliceBounds none none (some c) n).2.2
noncomputable def stepV (xs : List V) (c : Int) : List V := (stepIx xs.length c).filterMap (xs[·]?)
theorem range_pick {α : Type} (xs : List α) : (List.range xs.length).filterMap (xs[·]?) = xs := by
 induction xs with
 | nil => rfl
 | cons x r ih =>
  rw [List.length_cons, List.range_succ_eq_map, List.filterMap_cons, List.filterMap_map]
  show x :: List.filterMap ((fun j => (x :: r)[j]?) ∘ Nat.succ) (List.range r.length) = x :: r
  congr 1
theorem stepIx_one (n : Nat) : stepIx n 1 = List.range n := by
 unfold stepIx sliceBounds sliceRange
 simp only [Option.getD_some, show (1 : Int) > 0 by decide, if_true]
 by_cases h : n = 0
 ·subst h
  rfl
 ·rw [if_pos (by lia)]
  have e : (((n : Int) - 0 + 1 - 1) / 1).toNat = n := by rw [Int.ediv_one]; lia
  rw [e]
  conv => rhs; rw [<- List.map_id (List.range n)]
  apply List.map_congr_left
  intro k hk
  show (0 + 1 * (k : Int)).toNat = k
  lia
theorem stepV_one (xs : List V) : stepV xs 1 = xs := by
 unfold stepV
 rw [stepIx_one]
 exact range_pick xs
theorem stepIx_neg (n : Nat) : stepIx n (-1) = (List.range n).map fun k => n - 1 - k := by
 unfold stepIx sliceBounds sliceRange
 simp only [Option.getD_some, show ¬ ((-1 : Int) > 0) by decide, if_false]
 by_cases h : n = 0
 ·subst h
  rfl
 ·rw [if_pos (by lia)]
  have e : (((n : Int) - 1 - -1 - -1 - 1) / (- -1)).toNat = n := by
   rw [show (- -1 : Int) = 1 by decide, Int.ediv_one]; lia
  rw [e]
  apply List.map_congr_left
  intro k hk
  have := List.mem_range.mp hk
  show ((n : Int) - 1 + -1 * (k : Int)).toNat = n - 1 - k
  lia
theorem rev_pick {α : Type} (xs : List α) : ((List.range xs.length).map fun k => xs.length - 1 - k).filterMap (xs[·]?) = xs.reverse := by
 apply List.ext_getElem?
 intro i
 have hall : ((List.range xs.length).map fun k => xs.length - 1 - k).filterMap (xs[·]?) = (List.range xs.length).filterMap fun k => xs[xs.length - 1 - k]? := by
  rw [List.filterMap_map]
  rfl
 rw [hall]
 have hsome : ∀ (l : List Nat), (∀ k ∈ l, k < xs.length) -> ∀ j : Nat, (l.filterMap fun k => xs[xs.length - 1 - k]?)[j]? = l[j]?.bind fun k => xs[xs.length - 1 - k]? := by
  intro l
  induction l with
  | nil => intro _ j; rfl
  | cons a r ih =>
   intro hl j
   have ha := hl a List.mem_cons_self
   have hx : xs[xs.length - 1 - a]? = some xs[xs.length - 1 - a] := List.getElem?_eq_getElem (by lia)
   rw [List.filterMap_cons, hx]
   cases j with
   | zero => simp [hx]
   | succ j =>
    rw [List.getElem?_cons_succ, List.getElem?_cons_succ]
    exact ih (fun k hk => hl k (List.mem_cons_of_mem _ hk)) j
 rw [hsome _ (fun k hk => List.mem_range.mp hk) i]
 by_cases hi : i < xs.length
 ·rw [List.getElem?_range hi, List.getElem?_reverse hi]
  rfl
 ·rw [List.getElem?_eq_none (by simpa using hi), List.getElem?_eq_none (by simpa using hi)]
  rfl
theorem stepV_neg (xs : List V) : stepV xs (-1) = xs.reverse := by
 unfold stepV
 rw [stepIx_neg]
 exact rev_pick xs
noncomputable def tStep (K : PySem.W.Frag) (te tk : TE) : TE := fun Z H Q => te Z H fun x H1 => tk Z H1 fun y H2 => ∃ a xs c, x = .ref a /\ y = .int c /\ SqL K H2 a xs /\ c ≠ 0 /\ ∀ p, H2 p = none -> Q (.ref p) (upd H2 p (.lst (stepV xs c)))
theorem pe_step (he : PE X e te) (hk : PE X k tk) : PE X (.Subscript e (.Slice none none (some k) p2) pos) (tStep X.K te tk) := by
 intro pins s Z H Q I h
 refine Subscript_ (thn (he pins s Z H _ I h) fun v s1 ⟨x, H1, I1, r1, q1⟩ => ?_)
 refine wpAny_Slice ?_
 rw [evalPart_none, evalPart_some]
 refine wpAny_pure (wpAny_pure ?_)
 refine thn (hk pins s1 Z H1 _ I1 q1) fun vk s3 ⟨y, H3, I3, ry, a, xs, c, ex, ey, hq, hc, q⟩ => ?_
 subst ex ey
 obtain ⟨t, rfl⟩ := ry
 cases r1
 have I4 : Inv X pins Z H3 { s3 with heap := s3.heap.push { cls := .type "slice", data := .fields #[.none, .none, .int c t] } } := I3.kept (t' := s3.toks) fun b ob q => Heap.get?_push_of_some _ q
 obtain ⟨its, r, ht, hz⟩ := I4.list hq
 have hlen := r.length
 have hpick : slicePick its.toArray none none (some c) = ((stepIx xs.length c).filterMap (its[·]?)).toArray := by
  unfold slicePick stepIx
  rw [List.size_toArray, hlen]
  simp
 have hle : (stepV xs c).length <= sizeLine := by
  have h1 := slicePick_size_le its.toArray none none (some c)
  rw [hpick, List.size_toArray, List.size_toArray] at h1
  have h2 := (vals_pick (stepIx xs.length c) r).length
  unfold stepV
  lia
 show wpAny (model X.prog X.w) X.A (subscriptTail e (.Slice none none (some k) p2) (.ref a) (.ref s3.heap.objs.size)) (EP X pins Z Q) X.xe { s3 with heap := s3.heap.push { cls := .type "slice", data := .fields #[.none, .none, .int c t] } }
 refine tail_any (ops := [.ref a, .ref s3.heap.objs.size]) ht.isList.typeIs slot_list_getitem.lookup (wpAny_getItem_list_slice ht.isList (Heap.IsSliceOf.new ..) .none .none (.int c t) (by simpa using hc) ?_ (by rw [List.size_toArray]; lia)) (by with_unfolding_all rfl)
 rw [hpick]
 refine ⟨.ref (s3.heap.push { cls := .type "slice", data := .fields #[.none, .none, .int c t] }).objs.size, _, I4.laid (t' := s3.toks) (o := .lst (stepV xs c)) (fun b ob q => Heap.get?_push_of_some _ q) (Nat.le_refl _) ?_, rfl, q _ I4.fresh⟩
 exact ⟨hle, _, 0, vals_pick _ r, Heap.get?_push_size _ rfl⟩
inductive rSlS  (x : V) (lo : Option Int) (hi : Option Int) (H : Hp) (Q : VK) : Prop
 | mk : ∀ z, (x = .str z) -> (z.length <= sizeLine) -> (Q (.str (Txt.slice z lo hi)) H) -> rSlS x lo hi H Q
theorem sl_str : SlR X rSlS := by
 intro pins s Z H x v vl vu lo hi sl Q I rx hs pl pu h
 obtain ⟨z, rfl, hz, q⟩ := h
 obtain ⟨t, rfl⟩ := rx
 refine ⟨"str", _, F.slot_str_getitem.lookup, typeIs_str _ _ _, ?_⟩
 have go : ∀ (l u : Option (Int × Tok)), vl = partValue l -> vu = partValue u -> lo = l.map (·.1) -> hi = u.map (·.1) -> wpAny (model X.prog X.w) X.A (getItem (.str z t) (.ref sl)) (EP X pins Z Q) X.xe s := by
  intro l u e1 e2 e3 e4
  subst e1 e2 e3 e4
  refine wpAny_getItem_str_slice (l := l) (u := u) (st := none) hs rfl ?_
  exact post_val_or_str ⟨Nat.le_trans (Txt.slice_le z _ _) hz, fun t' k => ⟨.str (Txt.slice z (l.map (·.1)) (u.map (·.1))), H, I.tok k, ⟨t', rfl⟩, q⟩⟩
 cases pl with
 | none =>
  cases pu with
  | none => exact go none none rfl rfl rfl rfl
  | int j tj => exact go none (some (j, tj)) rfl rfl rfl rfl
 | int i ti =>
  cases pu with
  | none => exact go (some (i, ti)) none rfl rfl rfl rfl
  | int j tj => exact go (some (i, ti)) (some (j, tj)) rfl rfl rfl rfl
open PySem.AutoSeq1 (wpAny_loadPart') in
theorem extend_tup (l : Addr) (items : Array Value) (n : Nat) (b : Addr) (items2 : Array Value) (n2 : Nat) (dd : Option Addr) (sl : Array (Option Value)) (hs0 : ¬(!items.isEmpty && Builtin.List.listTooLong (items.size + items2.size)) = true) (hs1 : items.size <= sizeLine) (hs2 : items.size + items2.size <= sizeLine + 1) :
  Meets (Builtin.«list.extend» ⟨[.ref l, .ref b], []⟩) (fun _ R s => s.heap.get? l = some { cls := .type "list", dict := none, data := .seq items n, slots := #[] } /\ s.heap.get? b = some { cls := .type "tuple", dict := dd, data := .seq items2 n2, slots := sl } /\ R (.ok (.ret Value.none)) { s with heap := s.heap.update l (Obj.mapSeq fun x => x ++ items2), toks := s.toks }) :=
 .of_wp fun prog w A R s h => by
  obtain ⟨hp, g, d, tk, os⟩ := s; obtain ⟨hl, hb, h⟩ := h; have f1 := AutoSeq1.idx_int; have f2 := AutoSeq1.sub_tuple_tuple; have f3 := AutoSeq1.sub_list_list; have f4 := AutoSeq1.sub_tuple_list; have f5 := AutoSeq1.sub_list_tuple;
  have hz' : (items ++ items2).size <= sizeLine + 1 := by rw [Array.size_append]; exact hs2
  wp_walk using (wpAny_updateSeq hl rfl (hz := hs1) (_hz' := hz')), wpAny_loadPart' hl, wpAny_loadPart' hb; exact ⟨_, rfl, h⟩
noncomputable def rExtT (K : PySem.W.Frag) : V -> List V -> Hp -> VK -> Prop := fun x vs H Q => ∃ l b xs zs, x = .ref l /\ vs = [.ref b] /\ H l = some (.lst xs) /\ SqT K H b zs /\ xs.length + zs.length <= sizeLine /\ Q .non (upd H l (.lst (xs ++ zs)))
theorem mt_extT : MtM X "list.extend" (rExtT X.K) := by
 intro pins s Z H x vs v us Q I rx rv h
 obtain ⟨l, b, xs, zs, rfl, rfl, hH, hB, hz, q⟩ := h
 cases rx
 obtain ⟨u, rfl, ru⟩ := rv.one
 cases ru
 obtain ⟨z, its, n, r, hl, e⟩ := I.lstM hH
 obtain ⟨its2, r2, ht2, hz2⟩ := I.tuple hB
 obtain ⟨⟨c2, d2, dat2, sl2⟩, e2, hc2, n2, hd2⟩ := ht2
 dsimp only at hc2 hd2
 subst hc2 hd2
 have hl2 := r2.length
 have hsz : its.toArray.size + its2.toArray.size <= sizeLine := by rw [List.size_toArray, List.size_toArray]; lia
 have hlong : ¬ (!its.toArray.isEmpty && Builtin.List.listTooLong (its.toArray.size + its2.toArray.size)) = true := by
  rw [notLongL hsz, Bool.and_false]
  exact Bool.false_ne_true
 refine call_meets F.slot_list_extend ⟨_, e, rfl⟩ F.entry_list_extend (F.args_list_extend_2 _ _)
  (extend_tup l its.toArray n b its2.toArray n2 d2 sl2 hlong (by rw [List.size_toArray]; lia) (by lia)) ⟨e, e2, ?_⟩
 refine ⟨.non, _, I.lset (its' := its ++ its2) hH e (by simp) (r.append r2) ?_, rfl, q⟩
 rw [List.length_append]
 lia
theorem range_all (bs : List Bool) : ((List.range bs.length).all fun i => (bs[i]?).getD true) = bs.all id := by
 induction bs with
 | nil => rfl
 | cons b r ih =>
  rw [List.length_cons, List.range_succ_eq_map, List.all_cons, List.all_map]
  show (b && (List.range r.length).all (fun i => ((b :: r)[i + 1]?).getD true)) = (b && r.all id)
  rw [<- ih]
  rfl
theorem call_all (hc : X.calm = true) : CallR X (.builtin "all") (fun xs H Q => ∃ (p : Addr) (bs : List Bool), xs = [.ref p] /\ SqL X.K H p (bs.map V.bl) /\ Q (.bl (bs.all id)) H) := by
 intro pins s Z H xs us Q I r h
 obtain ⟨p, bs, rfl, hq, q⟩ := h
 obtain ⟨u, rfl, ru⟩ := vals1 r
 cases ru
 obtain ⟨its, rv, pl, hz⟩ := I.list hq
 have hl := pl.isList
 have hlt : p < s.heap.objs.size := by obtain ⟨_, e, _⟩ := hl; exact Heap.lt_size e
 have hn : its.toArray.size = bs.length := by have := rv.length; rw [List.length_map] at this; rw [List.size_toArray]; lia
 refine call_all_walk (wpAny_pyIter_list hl ?_)
 refine ⟨s.heap.objs.size, [s.heap.objs.size, p], [s.heap.objs.size], its.toArray.size, _, _, fun i => (bs[i]?).getD true, rfl, Walks.list (A := X.A.in1) (I.ok.hd hc) _ p (Nat.ne_of_lt hlt) its.toArray,
  ⟨⟨_, Heap.get?_push_size _ rfl, rfl, rfl⟩, hl.push _⟩, fun i v s' Q' E' hP hQ => ?_, fun h' tk hk => ?_⟩
 ·have hv : its[i]? = some v := by simpa using hP
  have hi : i < bs.length := by
   have := (List.getElem?_eq_some_iff.mp hv).1
   have := rv.length
   rw [List.length_map] at this
   lia
  have hb : (bs.map V.bl)[i]? = some (V.bl bs[i]) := by rw [List.getElem?_map, List.getElem?_eq_getElem hi] <;> rfl
  obtain ⟨u, eu, ru⟩ := rv.get hb
  rw [hv] at eu
  cases eu
  cases (show v = Value.bool bs[i] from ru)
  have hQ' := hQ
  simp only [List.getElem?_eq_getElem hi, Option.getD_some] at hQ'
  exact wpAny_truthy_bool hQ'
 ·rw [hn, range_all]
  refine ⟨.bl (bs.all id), H, I.kept (t' := tk) fun b x e => ?_, rfl, q⟩
  exact hk b x (fun hm => by rw [List.mem_singleton.mp hm] at e; exact Nat.lt_irrefl _ (Heap.lt_size e)) (Heap.get?_push_of_some _ e)
noncomputable def DTab (P : Program) (w : World) (K : PySem.W.Frag) (a : Addr) (kvs : List (Key × V)) : Prop :=
 (a == sysModules) = false /\ ∀ h : Heap, K.In h -> ∃ vs, KV kvs vs /\ h.DictOf (mixKind P w) a vs
noncomputable def rInD (P : Program) (w : World) (K : PySem.W.Frag) (neg : Bool) : R2 := fun x y H Q => ∃ k a kvs, x = kV k /\ y = .ref a /\ DTab P w K a kvs /\ Q (.bl (if neg then !(valV kvs k).isSome else (valV kvs k).isSome)) H
theorem op_inD : OpR X (compareOp .In) (rInD X.prog X.w X.K false) := by
 intro pins s Z H x y v u Q I rx ry h
 obtain ⟨k, a, kvs, rfl, rfl, ⟨hd, T⟩, q⟩ := h
 cases (show u = Value.ref a from ry)
 obtain ⟨vs, rel, dd⟩ := T _ I.kIn
 refine wpAny_in_of (kV_is rx) hd dd.mapOf ?_
 rw [<- (rel.val k).isSome_eq]
 exact ⟨.bl (valV kvs k).isSome, H, I.tok _, rfl, q⟩
end
theorem forIn_yields {α β : Type} {f : α -> β -> Sem (ForInStep β)} (g : β -> α -> β) : ∀ {l : List α} (c : β), (∀ x ∈ l, ∀ c, f x c = pure (.yield (g c x))) -> forIn l c f = pure (l.foldl g c)
 | [], c, _ => rfl
 | x :: l, c, h => by
  have hx := h x List.mem_cons_self c
  rw [List.forIn_cons, hx, pure_bind]
  exact forIn_yields g (g c x) fun y hy => h y (List.mem_cons_of_mem _ hy)
noncomputable def closStep (cells : List (Str × Addr)) (c : List (Str × Addr)) (x : Str × NameKind) : List (Str × Addr) :=
 if x.2 = .free then (match cells.lookup x.1 with | some a => (x.1, a) :: c | none => c) else c
noncomputable def closOf (cells : List (Str × Addr)) (names : List (Str × NameKind)) : List (Str × Addr) := names.foldl (closStep cells) []
theorem closureFor_ok {scope : Scope} {env : Env} (h : ∀ x ∈ scope.names, x.2 = .free -> ∃ c, env.cells.lookup x.1 = some c) : closureFor scope env = pure (closOf env.cells scope.names) := by
 simp only [closureFor]
 rw [forIn_yields (closStep env.cells) [] (fun x hx c => by
  obtain ⟨n, kind⟩ := x
  by_cases hk : kind = .free
  ·subst hk
   obtain ⟨a, ha⟩ := h _ hx rfl
   simp only [closStep, if_true, beq_self_eq_true, cellOf, ha, pure_bind]
  ·have hb : (kind == NameKind.free) = false := by simpa using hk
   simp only [closStep, hb, hk, Bool.false_eq_true, if_false])]
 rfl
theorem clos_sound {cells : List (Str × Addr)} : ∀ {names : List (Str × NameKind)} {acc : List (Str × Addr)}, (∀ p ∈ acc, cells.lookup p.1 = some p.2) -> ∀ p ∈ names.foldl (closStep cells) acc, cells.lookup p.1 = some p.2
 | [], _, h => h
 | x :: r, acc, h => by
  refine clos_sound (names := r) (acc := closStep cells acc x) ?_
  intro p hp
  unfold closStep at hp
  split at hp
  ·split at hp
   ·rename_i a ha
    rcases List.mem_cons.mp hp with e | e
    ·subst e
     exact ha
    ·exact h p e
   ·exact h p hp
  ·exact h p hp
theorem clos_keeps {cells : List (Str × Addr)} : ∀ {names : List (Str × NameKind)} {acc : List (Str × Addr)} {p : Str × Addr}, p ∈ acc -> p ∈ names.foldl (closStep cells) acc
 | [], _, _, h => h
 | x :: r, acc, p, h => by
  refine clos_keeps (names := r) (acc := closStep cells acc x) ?_
  unfold closStep
  split
  ·split
   ·exact List.mem_cons_of_mem _ h
   ·exact h
  ·exact h
theorem clos_has {cells : List (Str × Addr)} {n : Str} {c : Addr} (hc : cells.lookup n = some c) : ∀ {names : List (Str × NameKind)} {acc : List (Str × Addr)}, (n, NameKind.free) ∈ names -> (n, c) ∈ names.foldl (closStep cells) acc
 | [], _, h => by simp at h
 | x :: r, acc, h => by
  rcases List.mem_cons.mp h with e | e
  ·subst e
   refine clos_keeps (names := r) ?_
   simp [closStep, hc]
  ·exact clos_has hc (names := r) e
theorem mem_of_lookup {α β : Type} [BEq α] [LawfulBEq α] {k : α} {v : β} : ∀ {l : List (α × β)}, l.lookup k = some v -> (k, v) ∈ l
 | [], h => by simp at h
 | (a, b) :: r, h => by
  rw [List.lookup_cons] at h
  split at h
  ·rename_i e
   have := eq_of_beq e
   subst this
   cases h
   exact List.mem_cons_self
  ·exact List.mem_cons_of_mem _ (mem_of_lookup h)
theorem lookup_of_mem {α β : Type} [BEq α] [LawfulBEq α] {k : α} {v : β} : ∀ {l : List (α × β)}, (k, v) ∈ l -> ∃ v', l.lookup k = some v'
 | [], h => by simp at h
 | (a, b) :: r, h => by
  rw [List.lookup_cons]
  split
  ·exact ⟨b, rfl⟩
  ·rename_i e
   rcases List.mem_cons.mp h with q | q
   ·cases q
    simp at e
   ·exact lookup_of_mem q
theorem closOf_sound {cells : List (Str × Addr)} {names : List (Str × NameKind)} {n : Str} {c : Addr} (h : (closOf cells names).lookup n = some c) : cells.lookup n = some c :=
 clos_sound (names := names) (acc := []) (by simp) (n, c) (mem_of_lookup h)
theorem closOf_has {cells : List (Str × Addr)} {names : List (Str × NameKind)} {n : Str} {c : Addr} (hc : cells.lookup n = some c) (h : (n, NameKind.free) ∈ names) : (closOf cells names).lookup n = some c := by
 obtain ⟨c', e⟩ := lookup_of_mem (clos_has hc (acc := []) h)
 have := closOf_sound e
 rw [hc] at this
 cases this
 exact e
noncomputable def relabelN (sc0 scope : Scope) : List (Str × NameKind) :=
 scope.names.map fun (n, k) => if (k == .free && sc0.kind == .function && sc0.names.lookup n == some .cell) then (n, .cell) else (n, k)
structure CompOk (sc0 : Scope) (N0 : List Str) (scope : Scope) (x : Str) (ys : List Str) (fr : List Nat) : Prop where
 kind : scope.kind = .function
 nocell : ∀ y ∈ scope.names, y.2 ≠ .cell
 loc : ∀ y ∈ scope.names, y.2 = .local -> scope.names.lookup y.1 = some .local
 xl : (relabelN sc0 scope).lookup x = some .local
 free : ∀ y ∈ scope.names, y.2 = .free -> sc0.names.lookup y.1 = some .cell
 nd : (x :: ys).Nodup
 len : ys.length = fr.length
 sl : ∀ q ∈ ys.zip fr, N0[q.2]? = some q.1 /\ sc0.names.lookup q.1 = some .cell /\ (relabelN sc0 scope).lookup q.1 = some .cell
theorem cok {sc0 : Scope} {N0 : List Str} {scope : Scope} {x : Str} {ys : List Str} {fr : List Nat} (kind_ : scope.kind = .function := by rfl) (nocell_ : ∀ y ∈ scope.names, y.2 ≠ .cell := by decide +kernel) (loc_ : ∀ y ∈ scope.names, y.2 = .local -> scope.names.lookup y.1 = some .local := by decide +kernel) (xl_ : (relabelN sc0 scope).lookup x = some .local := by decide +kernel) (free_ : ∀ y ∈ scope.names, y.2 = .free -> sc0.names.lookup y.1 = some .cell := by decide +kernel) (nd_ : (x :: ys).Nodup := by decide +kernel) (len_ : ys.length = fr.length := by rfl) (sl_ : ∀ q ∈ ys.zip fr, N0[q.2]? = some q.1 /\ sc0.names.lookup q.1 = some .cell /\ (relabelN sc0 scope).lookup q.1 = some .cell := by decide +kernel) : CompOk sc0 N0 scope x ys fr := ⟨kind_, nocell_, loc_, xl_, free_, nd_, len_, sl_⟩
noncomputable def cxComp (X : Cx) (x : Str) (ys : List Str) (scope : Scope) (C : Addr) (s : Shared) (H : Hp) (ex : List Addr) : Cx :=
 { X with N := x :: ys, s₀ := s, H₀ := H, env := compEnvC scope (closOf X.env.cells scope.names) C X.env, outer := X.stack, stack := X.stack, ex := ex, fn := fun _ => false, pn := [], xe := fun _ _ => False }
section
variable {prog : Program} {w : World} {A : Around} {R : Result -> Shared -> Prop} {s : Shared}
theorem compLoop_list {elt target iter : Expr} {scope : Scope} {pos : Pos} {it acc : Value} {env : Env} (I : Nat -> Shared -> Prop)
  (turn : ∀ n s, I n s -> wpAny (model prog w) A (pyNext it) (fun r s₁ => match r with
   | none => R (.ok .next) s₁
   | some v => wpAny (model prog w) A (letOwnedTupleGo target it v) (fun _ s₁' => wpAny (model prog w) A (assign target env v) (fun _ s₂ => wpAny (model prog w) A (eval elt env) (fun x s₃ =>
     wpAny (model prog w) A (call (.builtin "list.append") [acc, x]) (fun _ s₄ => ∃ m, m < n /\ I m s₄) (fun _ _ => False) s₃) (fun _ _ => False) s₂) (fun _ _ => False) s₁') (fun _ _ => False) s₁) (fun _ _ => False) s)
  (n : Nat) (h : I n s) : codeAny (model prog w) A (.compLoop (.ListComp elt [⟨target, iter, [], 0⟩] scope pos) 0 it acc env) R s := by
 refine codeAny_loop rfl I (fun n s hI => ?_) n h
 show wpAny _ _ ((compTurn (.ListComp elt [⟨target, iter, [], 0⟩] scope pos) 0 it acc env).onRaise (fun x => do noteFrame x env; theTreesLotGoes x)) _ _ s
 refine wpAny_noted ?_
 rw [compTurn_list1]
 refine wpAny_noRaise ?_
 refine wpAny_bind (wpAny_standAt (wpAny_bind (wpAny_mono (turn n s hI) (fun r s₁ h₁ => ?_) fun _ _ h' => h')))
 cases r with
 | none => exact wpAny_pure h₁
 | some v =>
  refine wpAny_bind (wpAny_mono h₁ (fun _ s₁' h₁' => ?_) fun _ _ h' => h')
  exact wpAny_bind (wpAny_mono h₁' (fun _ s₂ h₂ => wpAny_bind (wpAny_bind (wpAny_mono h₂ (fun x s₃ h₃ => wpAny_bind (wpAny_mono h₃
   (fun _ s₄ h₄ => wpAny_pure (wpAny_pure ⟨rfl, h₄⟩)) fun _ _ h' => h')) fun _ _ h' => h'))) fun _ _ h' => h')
end
noncomputable def caps (fr : List Nat) (Z : St) : St := fr.map fun j => (Z[j]?).join
noncomputable def tCompW (fr : List Nat) (te : TE) (Z : St) (J : It) (H1 : Hp) (Q : VK) : Prop :=
 ∀ p, H1 p = none -> ∃ W : Nat -> Nat -> List V -> Hp -> Prop, (∃ m, W 0 m [] (upd H1 p (.lst []))) /\ ∀ i m ys H, W i m ys H -> H p = some (.lst ys) /\
  ((J.stop i H /\ Q (.ref p) H) \/ (J.go i H /\ ys.length < sizeLine /\ ∀ x H', J.yld i H x H' -> te (some x :: caps fr Z) H' fun v H2 =>
   H2 p = some (.lst ys) /\ ∃ m', m' < m /\ W (i + 1) m' (ys ++ [v]) (upd H2 p (.lst (ys ++ [v])))))
noncomputable def tComp (wi : TI) (fr : List Nat) (te : TE) : TE := fun Z H Q => wi Z H fun J H1 => tCompW fr te Z J H1 Q
section
variable {X : Cx} {x : Str} {px pos fpos : Pos} {iter elt : Expr} {scope sc0 : Scope} {N0 ys : List Str} {fr : List Nat} {wi : TI} {te : TE} {pins : List (Addr × Obj)} {Z : St} {H : Hp} {s : Shared}
theorem comp_core {use : Option (Value -> Sem Unit)} {Qv : Value -> Shared -> Prop} {Q : VK} (hcalm : X.calm = true) (hi : PI X (.Name x px) iter wi) (hsc : X.env.scope = sc0) (hN : X.N = N0) (ok : CompOk sc0 N0 scope x ys fr)
  (hE : ∀ C s H ex, PE (cxComp X x ys scope C s H ex) elt te) (I : Inv X pins Z H s) (h : tComp wi fr te Z H Q) (hs : ∀ v, foldedSetIterable iter X.env v = pure v)
  (fin : ∀ (p C : Addr) (H' : Hp) (s' : Shared) (m : Str -> Option Value), Inv X pins Z H' s' -> s'.heap.Ns C m -> H' C = none -> C ≠ X.env.locals -> X.s₀.heap.objs.size <= C -> (∀ y c, X.env.cells.lookup y = some c -> c ≠ C) -> (∀ q ∈ X.pn ++ pins, q.1 ≠ C) -> Q (.ref p) H' ->
   compPost (model X.prog X.w) X.A X.xe use Qv (.ref p) C (.ok .next) s') :
  wpAny (model X.prog X.w) X.A (comprehension (.ListComp elt [⟨.Name x px, iter, [], 0⟩] scope pos) scope X.env fpos (newList []) false (eval iter X.env) use) Qv X.xe s := by
 subst hsc hN
 have hkof : ∀ y, X.env.kindOf y = X.env.scope.names.lookup y := fun y => rfl
 have hfree : ∀ y ∈ scope.names, y.2 = .free -> ∃ c, X.env.cells.lookup y.1 = some c := fun y hy e => I.ok.has y.1 (.inl (ok.free y hy e))
 refine wpAny_comprehension_free (gs := []) rfl hs (closureFor_ok hfree) ok.kind ok.loc (thn (hi pins s Z H _ I h) fun v s1 h1 => thn h1 fun itv s2 h2 => ?_)
 obtain ⟨it, fp, tn, J, H2, e, I2, T, st2, f2, hp⟩ := h2
 subst e
 refine wpAny_newObj_type (wpAny_newFunctionEnv ok.nocell (by intro y hy; simp at hy) (fun h₁ hns₁ hsb₁ => ?_) ok.kind)
 dsimp only at hns₁ hsb₁ ⊢
 have I3 : Inv X pins Z (upd H2 s2.heap.objs.size (.lst [])) { s2 with heap := s2.heap.push { cls := .type "list", data := .seq ([] : List Value).toArray } } :=
  I2.lnew (its := []) (ys := []) (t' := s2.toks) .nil (Nat.zero_le _)
 have hf2 : ∀ b ∈ fp, b < s2.heap.objs.size := fun b hb => by
  obtain ⟨o, e, _⟩ := T.obj _ _ st2 b hb
  exact Heap.lt_size e
 have hps : s2.heap.objs.size < (s2.heap.push { cls := .type "list", data := .seq ([] : List Value).toArray }).objs.size := by rw [Heap.size_push]; exact Nat.lt_succ_self _
 have W0 := hp s2.heap.objs.size I2.fresh
 have st3 : tn 0 (s2.heap.push { cls := .type "list", data := .seq ([] : List Value).toArray }) := T.keep _ _ _ st2 fun b hb o e => Heap.get?_push_of_some _ e
 generalize hpp : s2.heap.objs.size = p at I3 W0 hf2 hps ⊢
 generalize hh3 : (s2.heap.push { cls := .type "list", data := .seq ([] : List Value).toArray }) = h3 at I3 hns₁ hsb₁ hps st3 ⊢
 generalize hH3 : upd H2 p (.lst []) = H3 at I3 W0
 have hold : ∀ b o, h3.get? b = some o -> h₁.get? b = some o := fun b o e => hsb₁.extBut b o (Nat.ne_of_lt (Heap.lt_size e)) (Heap.get?_push_of_some _ e)
 have fH3 : ∀ b ∈ fp, H3 b = none := fun b hb => by
  rw [<- hH3, upd_ne (Nat.ne_of_lt (hf2 b hb))]
  exact (f2 b hb).1
 have hclos : ∀ y c, (closOf X.env.cells scope.names).lookup y = some c -> X.env.cells.lookup y = some c := fun y c e => closOf_sound e
 have hcell3 : ∀ y c, X.env.cells.lookup y = some c -> c < h3.objs.size := fun y c e => by
  obtain ⟨v, o, ho, _⟩ := I3.cell y c e
  exact Heap.lt_size ho
 have hlt3 : X.env.locals < h3.objs.size := I3.lt
 have Yok : (cxComp X x ys scope h3.objs.size { s2 with heap := h3 } H3 fp).Ok := {
  mod := I.ok.mod
  kind := ok.kind
  glob := I.ok.glob
  blt := I.ok.blt
  above := Nat.le_refl _
  inj := fun y z c e1 e2 => I.ok.inj y z c (hclos _ _ e1) (hclos _ _ e2)
  has := fun y hk => by
   have hfr : (y, NameKind.free) ∈ scope.names := by
    have hm : ∃ k, (relabelN X.env.scope scope).lookup y = some k /\ (k = .cell \/ k = .free) := by
     rcases hk with hk | hk
     ·exact ⟨_, hk, .inl rfl⟩
     ·exact ⟨_, hk, .inr rfl⟩
    obtain ⟨k, hk, hkk⟩ := hm
    have hmem := mem_of_lookup hk
    unfold relabelN at hmem
    obtain ⟨⟨n, k0⟩, hn, en⟩ := List.mem_map.mp hmem
    dsimp only at en
    split at en
    ·rename_i hc
     simp only [Bool.and_eq_true] at hc
     have hk0 : k0 = .free := by simpa using hc.1.1
     cases en
     rw [<- hk0]
     exact hn
    ·cases en
     rcases hkk with e | e
     ·exact absurd e (ok.nocell _ hn)
     ·rw [<- e]
      exact hn
   obtain ⟨c, hc⟩ := hfree _ hfr rfl
   exact ⟨c, closOf_has hc hfr⟩
  cab := fun y c hf _ => by cases hf
  hd := I.ok.hd
  frames := I.ok.frames
  stk := .inl rfl
  exf := fun b hb => ⟨fun e => absurd (hf2 b hb) (by rw [e]; exact Nat.not_lt.mpr (Nat.le_of_lt hps)), fun y c e => (f2 b hb).2.2.2.2.1 y c (hclos _ _ e)⟩
  bs := fun b o e => ⟨(I3.bs b o e).1, (I3.bs b o e).2⟩
  bsz := Nat.le_trans I.ok.bsz I3.sz
  noex := fun b o e hb => by
   rcases (f2 b hb).2.2.2.1 with q | q
   ·exact I.ok.noex b o e q
   ·have h1 : b < X.base.objs.size := Heap.lt_size e
    exact absurd h1 (Nat.not_lt.mpr (Nat.le_trans I.ok.bsz q))
  exfs := fun b hb hm => by
   rcases List.mem_cons.mp (I3.stkSub b hm) with q | q
   ·exact (f2 b hb).2.1 q
   ·exact (f2 b hb).2.2.1 q
  funs := I3.stack
  frf := I3.stkFree }
 have IY : Inv (cxComp X x ys scope h3.objs.size { s2 with heap := h3 } H3 fp) [] (none :: caps fr Z) H3 { s2 with heap := h₁, toks := s2.toks + ([] : List (Str × Value)).length } := {
  ok := Yok
  os := rfl
  bare := I2.bare
  base := Un.kept hold
  loc := by
   refine ⟨_, hns₁, fun i y v hy hv hvis => ?_⟩
   cases i with
   | zero => cases hv
   | succ j =>
    have hy' : ys[j]? = some y := hy
    have hv' : (caps fr Z)[j]? = some (some v) := hv
    unfold caps at hv'
    rw [List.getElem?_map] at hv'
    obtain ⟨i0, hi0, hv0⟩ := Option.map_eq_some_iff.mp hv'
    have hz : (y, i0) ∈ ys.zip fr := by
     refine List.mem_iff_getElem?.mpr ⟨j, ?_⟩
     rw [List.getElem?_zip_eq_some]
     exact ⟨hy', hi0⟩
    obtain ⟨hn, hk, hk2⟩ := ok.sl _ hz
    have hZ : Z[i0]? = some (some v) := by
     cases e : Z[i0]? with
     | none => rw [e] at hv0; cases hv0
     | some o =>
      rw [e] at hv0
      rw [show o = some v from hv0]
    obtain ⟨m, hm, hl⟩ := I3.loc
    obtain ⟨u, ru, lk⟩ := hl i0 y v hn hZ (.inr (.inl hk))
    refine ⟨u, ru, .inr ⟨.inl hk2, ?_⟩⟩
    rcases lk with ⟨a, _⟩ | ⟨_, c, hc, hcell⟩
    ·have a' : X.env.scope.names.lookup y = some .local := a
     have hk' : X.env.scope.names.lookup y = some .cell := hk
     rw [hk'] at a'
     cases a'
    ·have hfr : (y, NameKind.free) ∈ scope.names := by
      have hmem := mem_of_lookup hk2
      unfold relabelN at hmem
      obtain ⟨⟨n, k0⟩, hn0, en⟩ := List.mem_map.mp hmem
      dsimp only at en
      split at en
      ·rename_i hc0
       simp only [Bool.and_eq_true] at hc0
       have hk0 : k0 = .free := by simpa using hc0.1.1
       cases en
       rw [<- hk0]
       exact hn0
      ·cases en
       exact absurd rfl (ok.nocell _ hn0)
     exact ⟨c, closOf_has hc hfr, hcell.keeps hold⟩
  cell := fun y c e => by
   obtain ⟨v, hv⟩ := I3.cell y c (hclos _ _ e)
   exact ⟨v, hv.keeps hold⟩
  free := I3.fresh
  freeC := fun y c e => I3.freeC y c (hclos _ _ e)
  pin := fun q hq => by cases hq
  hok := I3.hok.kept hold
  len := by
   show (none :: caps fr Z).length = (x :: ys).length
   rw [List.length_cons, List.length_cons, ok.len]
   unfold caps
   rw [List.length_map] }
 have hxl : (cxComp X x ys scope h3.objs.size { s2 with heap := h3 } H3 fp).env.scope.names.lookup x = some .local := ok.xl
 have pgx : PG (cxComp X x ys scope h3.objs.size { s2 with heap := h3 } H3 fp) (.Name x px) (gName 0) := pg_name (i := 0) ok.nd rfl (.inl hxl) (.inr hxl)
 have pel := hE h3.objs.size { s2 with heap := h3 } H3 fp
 obtain ⟨W, ⟨m0, w0⟩, turn⟩ := W0
 have stat : ∀ {H' : Hp}, (∀ b ∈ fp, H' b = none) -> ∀ b ∈ fp, FpOk (cxComp X x ys scope h3.objs.size { s2 with heap := h3 } H3 fp) [] H' b := fun hn b hb =>
  ⟨hn b hb, (Yok.exf b hb).1, Yok.exfs b hb, .inl hb, (Yok.exf b hb).2, fun q hq => by cases hq⟩
 have loop : codeAny (model X.prog X.w) X.A (.compLoop (.ListComp elt [⟨.Name x px, iter, [], 0⟩] scope pos) 0 (.ref it) (.ref p) (compEnvC scope (closOf X.env.cells scope.names) h3.objs.size X.env))
   (compPost (model X.prog X.w) X.A X.xe use Qv (.ref p) h3.objs.size) { s2 with heap := h₁, toks := s2.toks + ([] : List (Str × Value)).length } := by
  refine compLoop_list (fun n s' => ∃ i zs v0 H', Inv (cxComp X x ys scope h3.objs.size { s2 with heap := h3 } H3 fp) [] (v0 :: caps fr Z) H' s' /\ tn i s'.heap /\ (∀ b ∈ fp, H' b = none) /\ W i n zs H') ?_ m0
   ⟨0, [], none, H3, IY, T.keep _ _ _ st3 fun b hb o e => hold b o e, fH3, w0⟩
  rintro n s5 ⟨i, zs, v0, H5, I5, st5, fr5, w5⟩
  obtain ⟨hacc, turn5⟩ := turn i n zs H5 w5
  rcases turn5 with ⟨stop, qn⟩ | ⟨go, hlen, step⟩
  ·refine thn (T.done (cxComp X x ys scope h3.objs.size { s2 with heap := h3 } H3 fp) rfl rfl rfl hcalm i [] s5 _ H5 _ I5 (stat fr5) st5 stop) fun r s6 ⟨hr, I6⟩ => ?_
   subst hr
   obtain ⟨m6, n6, _⟩ := I6.loc
   refine fin p h3.objs.size H5 s6 m6 (I3.call' I6.os I6.base I6.hok I6.bare fun b hb => ⟨(f2 b hb).2.2.2.1, (f2 b hb).2.1, (f2 b hb).2.2.2.2.1, (f2 b hb).2.2.2.2.2⟩) n6 I6.free (Nat.ne_of_gt hlt3) I3.sz (fun y c e => Nat.ne_of_lt (hcell3 y c e)) (fun q hq => ?_) qn
   exact Nat.ne_of_lt (Heap.lt_size (I3.pin q hq).1)
  ·refine thn (T.item (cxComp X x ys scope h3.objs.size { s2 with heap := h3 } H3 fp) rfl rfl rfl hcalm i [] s5 _ H5 _ I5 (stat fr5) st5 go) fun r s6 ⟨u, hr, h6⟩ => ?_
   subst hr
   refine thn h6 fun _ s7 ⟨xv, H7, I7, r7, y7, st7, fr7⟩ => ?_
   have I7' := I7.pinned (stat fr7) (T.obj _ _ st7)
   refine thn (pgx _ s7 _ H7 xv u (fun Z' H' => Z' = some xv :: caps fr Z /\ H' = H7) I7' r7 ⟨rfl, rfl⟩) fun _ s8 ⟨Z8, H8, I8, e8, e8'⟩ => ?_
   subst e8 e8'
   refine thn (pel _ s8 _ H8 _ I8 (step xv H8 y7)) fun yv s9 ⟨v9, H9, I9, r9, hp9, m', hm', w9⟩ => ?_
   refine thn (mt_append _ s9 _ H9 (.ref p) [v9] (.ref p) [yv] (fun _ H' => H' = upd H9 p (.lst (zs ++ [v9]))) I9 rfl (.cons r9 .nil) ⟨p, zs, v9, rfl, rfl, hp9, hlen, rfl⟩) fun _ s10 ⟨_, H10, I10, _, e10⟩ => ?_
   subst e10
   refine ⟨m', hm', i + 1, zs ++ [v9], some xv, _, I10.unpinned, T.keep _ _ _ st7 fun b hb o e => (I10.pin (b, o) (List.mem_append_right _ (List.mem_append_right _ (mem_pinsAt hb e)))).1, fun b hb => ?_, w9⟩
   obtain ⟨o, e, d⟩ := T.obj _ _ st7 b hb
   exact (I10.pin (b, o) (List.mem_append_right _ (List.mem_append_right _ (mem_pinsAt hb e)))).2.1
 exact codeAny_compStart_list loop (T.self X.A 0 _ _ _ (T.keep _ _ _ st3 fun b hb o e => hold b o e) loop)
theorem pe_comp (hcalm : X.calm = true) (hi : PI X (.Name x px) iter wi) (hsc : X.env.scope = sc0) (hN : X.N = N0) (ok : CompOk sc0 N0 scope x ys fr)
  (hE : ∀ C s H ex, PE (cxComp X x ys scope C s H ex) elt te) (hs : ∀ v, foldedSetIterable iter X.env v = pure v := by intro _; rfl) :
  PE X (.ListComp elt [⟨.Name x px, iter, [], 0⟩] scope pos) (tComp wi fr te) := by
 intro pins s Z H Q I h
 rw [eval_ListComp]
 refine comp_core (use := none) (Qv := EP X pins Z Q) (Q := Q) hcalm hi hsc hN ok hE I h hs fun p C H' s' m I' hn h0 h1 h2 h3 h4 q => ?_
 refine ⟨m, hn, fun h' sb => ⟨.ref p, H', I'.turned (t' := s'.toks) (fun b o hb e => sb.extBut b o hb e) h0 (Ne.symm (Ne.symm h1)) (.inr h2) h3 h4, rfl, q⟩⟩
theorem ps_setC {i : Nat} {y : Str} {py spos : Pos} (hcalm : X.calm = true) (hnd : X.N.Nodup) (hiN : X.N[i]? = some y) (hy : Loc X.env.scope y) (hi : PI X (.Name x px) iter wi) (hsc : X.env.scope = sc0) (hN : X.N = N0) (ok : CompOk sc0 N0 scope x ys fr)
  (hE : ∀ C s H ex, PE (cxComp X x ys scope C s H ex) elt te) (hsw : swapsWith (.ListComp elt [⟨.Name x px, iter, [], 0⟩] scope pos) (some (.Name y py)) spos.line X.env = pure true := by rfl)
  (hs : ∀ v, foldedSetIterable iter X.env v = pure v := by intro _; rfl) (hf : X.fn y = true \/ X.env.scope.names.lookup y = some .local := by first | exact .inl rfl | exact .inr rfl | assumption) :
  PS X (.Assign [.Name y py] (.ListComp elt [⟨.Name x px, iter, [], 0⟩] scope pos) spos) (tAsg (tComp wi fr te) (gName i)) := by
 intro pins s Z H D I h
 rw [exec_Assign_Name_used _ _ _ _ hsw]
 refine wpAny_bind (wpAny_standAt (wpAny_bind ?_))
 show wpAny _ X.A (do let _ <- comprehension (.ListComp elt [⟨.Name x px, iter, [], 0⟩] scope pos) scope X.env _ (newList []) false (eval iter X.env) (some (assign (.Name y py) X.env))) _ _ s
 refine wpAny_bind (thn (comp_core (use := some (assign (.Name y py) X.env)) (Qv := fun _ s' => SP X pins D .next s') (Q := fun v H' => D.nx (Z.set i (some v)) H') hcalm hi hsc hN ok hE I h hs fun p C H' s' m I' hn h0 h1 h2 h3 h4 q => ?_) fun _ s' hq => wpAny_pure (wpAny_pure hq))
 show wpAny _ X.A (assign (.Name y py) X.env (.ref p)) _ _ s'
 refine wpAny_assign_Name (store_ok2 (v := .ref p) I' hnd hiN hy rfl (fun s'' I'' ⟨a, sb, ha⟩ => ?_) hf)
 have hCa : C ≠ a := by
  rcases ha with e | e
  ·rw [e]; exact h1
  ·exact (h3 y a e).symm
 refine ⟨m, hn.sameBut sb hCa, fun h' sb' => ⟨_, H', I''.turned (t' := s''.toks) (fun b o hb e => sb'.extBut b o hb e) h0 h1 (.inr h2) h3 h4, q⟩⟩
theorem comp_walk {n : Nat} {J : It} {H1 : Hp} {Q : VK} {R : Nat -> V -> Prop} (hn : n <= 1000) (hgo : ∀ i H, i < n -> J.go i H) (hstop : ∀ H, J.stop n H) (hy : ∀ i H v H', J.yld i H v H' -> H' = H /\ R i v)
  (Pv : Addr -> Nat -> List V -> Hp -> Prop) (h0 : ∀ p, H1 p = none -> Pv p 0 [] (upd H1 p (.lst []))) (hl : ∀ p i zs H, Pv p i zs H -> H p = some (.lst zs) /\ zs.length = i)
  (hs : ∀ p i zs H v (k : VK), H1 p = none -> i < n -> R i v -> Pv p i zs H -> (∀ u H2, H2 p = some (.lst zs) -> Pv p (i + 1) (zs ++ [u]) (upd H2 p (.lst (zs ++ [u]))) -> k u H2) -> te (some v :: caps fr Z) H k)
  (hd : ∀ p zs H, H1 p = none -> Pv p n zs H -> Q (.ref p) H) : tCompW fr te Z J H1 Q := by
 intro p hp
 refine ⟨fun i m zs H => i <= n /\ m = n - i /\ Pv p i zs H, ⟨n, Nat.zero_le _, by simp, h0 p hp⟩, ?_⟩
 rintro i m zs H ⟨hi, hm, q⟩
 obtain ⟨hp', hz⟩ := hl p i zs H q
 refine ⟨hp', ?_⟩
 by_cases e : i = n
 ·subst e
  exact .inl ⟨hstop H, hd p zs H hp q⟩
 ·have hlt : i < n := by lia
  refine .inr ⟨hgo i H hlt, small1000 (by lia), fun v H' hv => ?_⟩
  obtain ⟨rfl, r⟩ := hy i H v H' hv
  refine hs p i zs H' v _ hp hlt r q fun u H2 a b => ?_
  exact ⟨a, n - (i + 1), by lia, by lia, rfl, b⟩
theorem itr_go {lo : Int} {n : Nat} : ∀ i H, i < n -> (Itr lo n).go i H := fun _ _ h => h
theorem itr_stop {lo : Int} {n : Nat} : ∀ H, (Itr lo n).stop n H := fun _ => Nat.le_refl n
theorem itr_yld {lo : Int} {n : Nat} : ∀ i H v H', (Itr lo n).yld i H v H' -> H' = H /\ v = .int (lo + i) := fun _ _ _ _ h => h
end
noncomputable def notStar : Expr -> Bool
 | .Starred _ _ => false
 | _ => true
theorem starEach_cons {e : Expr} {es : List Expr} {env : Env} (h : notStar e = true) : starEach (e :: es) env = (false, eval e env) :: starEach es env := by
 cases e <;> first | rfl | cases h
theorem pac {X : Cx} {e : Expr} {es : List Expr} {te : TE} {t : TA} (ha : PE X e te) (hr : PA X es t) (h : notStar e = true := by rfl) : PA X (e :: es) (tCons te t) := pa_cons ha hr (starEach_cons h)
noncomputable def constV : Const -> Option V
 | .str x => some (.str x)
 | .int i => some (.int i)
 | .bool b => some (.bl b)
 | .none => some .non
 | _ => none
noncomputable def constsV : List Expr -> Option (List V)
 | [] => some []
 | .Constant c _ _ :: r => (match constV c, constsV r with | some v, some vs => some (v :: vs) | _, _ => none)
 | _ :: _ => none
theorem pe_const {X : Cx} {c : Const} {j : Nat} {pos : Pos} {v : V} (h : constV c = some v) : PE X (.Constant c j pos) (tC v) := by
 cases c with
 | str x => cases h; exact pe_str
 | int i => cases h; exact pe_int
 | bool b => cases h; exact pe_bl
 | none => cases h; exact pe_non
 | _ => cases h
theorem pa_consts {X : Cx} : ∀ {es : List Expr} {vs : List V}, constsV es = some vs -> PA X es (fun _ H Q => Q vs H)
 | [], vs, h => by
  cases h
  exact pa_nil
 | e :: r, vs, h => by
  cases e with
  | Constant c j pos =>
   simp only [constsV] at h
   cases hc : constV c with
   | none => rw [hc] at h; cases h
   | some v =>
    cases hr : constsV r with
    | none => rw [hc, hr] at h; cases h
    | some ws =>
     rw [hc, hr] at h
     cases h
     exact pac (pe_const hc) (pa_consts hr)
  | _ => cases h
theorem ps_setL {X : Cx} {i : Nat} {x : Str} {es : List Expr} {vs : List V} {pos p pos' : Pos} (hN : X.N.Nodup) (hi : X.N[i]? = some x) (hx : Loc X.env.scope x) (hf : X.fn x = true \/ X.env.scope.names.lookup x = some .local) (h : constsV es = some vs) :
  PS X (.Assign [.Name x pos'] (.List es p) pos) (tAsg (tLst (fun _ H Q => Q vs H)) (gName i)) :=
 ps_set hN hi hx (pe_lst (pa_consts h)) rfl hf
theorem ps_setX {X : Cx} {i : Nat} {x : Str} {e : Expr} {te : TE} {pos pos' : Pos} (hN : X.N.Nodup) (hi : X.N[i]? = some x) (hx : Loc X.env.scope x) (hf : X.fn x = true \/ X.env.scope.names.lookup x = some .local) (hs : swapsWith e (some (.Name x pos')) pos.line X.env = pure false) (he : PE X e te) :
  PS X (.Assign [.Name x pos'] e pos) (tAsg te (gName i)) := ps_set hN hi hx he hs hf
end L2
namespace HT
open PySem PyProof.Rows
section
variable {prog : Program} {w : World} {A : Around} {s : Shared} {E : Value -> Shared -> Prop}
theorem adjust_back (n : Nat) : Builtin.Slice.sliceAdjust none none (-1) (n : Int) = ((n : Int) - 1, -1) := by
 unfold Builtin.Slice.sliceAdjust
 simp
theorem places_back (n : Nat) : Builtin.Slice.slicePlaces ((n : Int) - 1) (-1) (-1) = n := by
 unfold Builtin.Slice.slicePlaces
 have h1 : ¬ ((-1 : Int) > 0) := by lia
 simp only [h1, if_false]
 rw [show (- -1 : Int) = 1 by decide, Int.ediv_one]
 split <;> lia
theorem applied_back {sl : Addr} {t : Tok} {n : Nat} {Q : Int × Int × Nat -> Shared -> Prop} (hs : s.heap.IsSliceOf sl .none .none (.int (-1) t)) (h : Q ((n : Int) - 1, -1, n) s) :
  wpAny (model prog w) A (Builtin.Slice.sliceApplied (.ref sl) (pure (n : Int))) Q E s := by
 obtain ⟨os, hos, hcs, hds⟩ := id hs
 unfold Builtin.Slice.sliceApplied Builtin.Slice.sliceFields
 refine wpAny_bind (wpAny_bind (wpAny_field hos hds (x := .none) rfl (wpAny_bind (wpAny_field hos hds (x := .none) rfl (wpAny_bind (wpAny_field hos hds (x := .int (-1) t) rfl (wpAny_pure ?_)))))))
 refine wpAny_bind (slicePart_ (.int (-1) t) ?_)
 show wpAny _ _ (if ((-1 : Int) == 0) = true then _ else _) _ _ s
 rw [if_neg (by decide)]
 refine wpAny_bind (slicePart_ .none (wpAny_bind (slicePart_ .none (wpAny_bind (wpAny_pure ?_)))))
 show wpAny _ _ (match Builtin.Slice.sliceAdjust none none (-1) (n : Int) with | (lo, hi) => pure (lo, (-1 : Int), Builtin.Slice.slicePlaces lo hi (-1))) _ _ s
 rw [adjust_back n]
 show wpAny _ _ (pure ((n : Int) - 1, (-1 : Int), Builtin.Slice.slicePlaces ((n : Int) - 1) (-1) (-1))) _ _ s
 rw [places_back]
 exact wpAny_pure h
theorem fm_congr {α β : Type} {f g : α -> Option β} : ∀ {l : List α}, (∀ x ∈ l, f x = g x) -> l.filterMap f = l.filterMap g
 | [], _ => rfl
 | x :: r, h => by rw [List.filterMap_cons, List.filterMap_cons, h x List.mem_cons_self, fm_congr fun y hy => h y (List.mem_cons_of_mem _ hy)]
theorem pick_back (xs : Array Value) : ((List.range xs.size).filterMap fun (m : Nat) => xs[((xs.size : Int) - 1 + (m : Int) * -1).toNat]?).toArray = xs.toList.reverse.toArray := by
 congr 1
 rw [<- L2.rev_pick xs.toList, List.filterMap_map, Array.length_toList]
 refine fm_congr fun m hm => ?_
 have := List.mem_range.mp hm
 have e : ((xs.size : Int) - 1 + (m : Int) * -1).toNat = xs.size - 1 - m := by lia
 rw [e]
 simp
theorem getItem_tuple_back {a sl : Addr} {items : Array Value} {t : Tok} {Q : Value -> Shared -> Prop} (ht : IsTup s.heap a items) (hs : s.heap.IsSliceOf sl .none .none (.int (-1) t))
  (h : Q (.ref s.heap.objs.size) { s with heap := s.heap.push { cls := .type "tuple", data := .seq items.toList.reverse.toArray } })
  (hsz : items.size <= sizeLine) : wpAny (model prog w) A (getItem (.ref a) (.ref sl)) Q E s := by
 have hok : sizeOk (.seq items.toList.reverse.toArray) := by
  show items.toList.reverse.toArray.size <= sizeLine
  rw [List.size_toArray, List.length_reverse, Array.length_toList]
  exact hsz
 obtain ⟨os, hos, hcs, hds⟩ := id hs
 have hTs : s.TypeIs (.ref sl) "slice" := ⟨os, hos, hcs⟩
 unfold getItem
 try with_reducible refine wpAny_holding ?_
 first | refine wpAny_bind (wpAny_pure ?_) | skip
 refine wpAny_bind (wpAny_sequenceKey ht.typeIs (by decide) ?_)
 refine wpAny_bind (wpAny_callSpecial?_slot (name := Str.ofString "__getitem__") ht.typeIs PyProof.Rows.slot_tuple_getitem
  (wpAny_call_entry PyProof.Rows.slot_tuple_getitem ht.typeIs entry_tuple_getitem ?_ (args_tuple_getitem _ _)))
 show wpAny _ _ (Builtin.Tuple.tupleItemsOf (.ref a) >>= _) _ _ s
 refine wpAny_bind (tupleItemsOf_ ht ?_)
 refine wpAny_bind (wpAny_typeOf hTs ?_)
 rw [if_pos (by decide)]
 refine wpAny_bind (applied_back hs ?_)
 show wpAny _ _ (if (((items.size : Int) - 1) == 0 && (-1 : Int) == 1 && items.size == items.size) = true then _ else _) _ _ s
 rw [if_neg (by simp), pick_back]
 first
  | exact wpAny_bind (m := Builtin.Tuple.tupleExact _) (wpAny_newObj_type (wpAny_pure ⟨_, rfl, wpAny_pure h⟩) hok)
  | exact wpAny_bind (m := Builtin.Tuple.tupleExact _) (wpAny_newObj_type (wpAny_bind (wpAny_pure (wpAny_pure ⟨_, rfl, wpAny_pure h⟩))) hok)
  | exact wpAny_bind (wpAny_bind (m := Builtin.Tuple.tupleExact _) (wpAny_newObj_type (wpAny_pure (wpAny_pure ⟨_, rfl, wpAny_pure h⟩)) hok))
  | exact wpAny_bind (wpAny_bind (m := Builtin.Tuple.tupleExact _) (wpAny_newObj_type (wpAny_pure ⟨_, rfl, wpAny_pure h⟩) hok))
end
end HT
namespace L2
open PySem PySem.Spec PyProof.Rows
section
variable {X : Cx} {e k : Expr} {te tk : TE} {pos p2 : Pos}
noncomputable def tBackT (K : PySem.W.Frag) (te tk : TE) : TE := fun Z H Q => te Z H fun x H1 => tk Z H1 fun y H2 => ∃ a xs, x = .ref a /\ y = .int (-1) /\ SqT K H2 a xs /\ ∀ p, H2 p = none -> Q (.ref p) (upd H2 p (.tup xs.reverse))
theorem vals_rev {xs : List V} {us : List Value} (h : Vals xs us) : Vals xs.reverse us.reverse := by
 rw [<- rev_pick xs, <- rev_pick us, h.length]
 exact vals_pick _ h
theorem pe_backT (he : PE X e te) (hk : PE X k tk) : PE X (.Subscript e (.Slice none none (some k) p2) pos) (tBackT X.K te tk) := by
 intro pins s Z H Q I h
 refine Subscript_ (thn (he pins s Z H _ I h) fun v s1 ⟨x, H1, I1, r1, q1⟩ => ?_)
 refine wpAny_Slice ?_
 rw [evalPart_none, evalPart_some]
 refine wpAny_pure (wpAny_pure ?_)
 refine thn (hk pins s1 Z H1 _ I1 q1) fun vk s3 ⟨y, H3, I3, ry, a, xs, ex, ey, hq, q⟩ => ?_
 subst ex ey
 obtain ⟨t, rfl⟩ := ry
 cases r1
 have I4 : Inv X pins Z H3 { s3 with heap := s3.heap.push { cls := .type "slice", data := .fields #[.none, .none, .int (-1) t] } } := I3.kept (t' := s3.toks) fun b ob q => Heap.get?_push_of_some _ q
 obtain ⟨its, r, ht, hz⟩ := I4.tuple hq
 show wpAny (model X.prog X.w) X.A (subscriptTail e (.Slice none none (some k) p2) (.ref a) (.ref s3.heap.objs.size)) (EP X pins Z Q) X.xe { s3 with heap := s3.heap.push { cls := .type "slice", data := .fields #[.none, .none, .int (-1) t] } }
 refine tail_any (ops := [.ref a, .ref s3.heap.objs.size]) ht.typeIs PyProof.Rows.slot_tuple_getitem.lookup (HT.getItem_tuple_back ht (Heap.IsSliceOf.new ..) ?_ (by rw [List.size_toArray, <- r.length]; exact hz)) (by with_unfolding_all rfl)
 refine ⟨.ref (s3.heap.push { cls := .type "slice", data := .fields #[.none, .none, .int (-1) t] }).objs.size, _, I4.laid (t' := s3.toks) (o := .tup xs.reverse) (fun b ob q => Heap.get?_push_of_some _ q) (Nat.le_refl _) ?_, rfl, q _ I4.fresh⟩
 exact ⟨by rw [List.length_reverse]; exact hz, _, vals_rev r, IsTup.new _ _⟩
end
section
variable {X : Cx}
noncomputable def sumI : List Int -> Int
 | [] => 0
 | n :: r => n + sumI r
theorem preSum_eq (ns : List Int) : ∀ k, k <= ns.length -> preSum (fun i => (ns[i]?).getD 0) k = sumI (ns.take k) := by
 intro k
 induction k with
 | zero => intro _; rfl
 | succ k ih =>
  intro h
  have hk : k < ns.length := h
  show preSum (fun i => (ns[i]?).getD 0) k + (ns[k]?).getD 0 = sumI (ns.take (k + 1))
  rw [ih (Nat.le_of_lt hk)]
  have : ∀ (l : List Int) (j : Nat) (hj : j < l.length), sumI (l.take (j + 1)) = sumI (l.take j) + (l[j]?).getD 0 := by
   intro l
   induction l with
   | nil => intro j hj; cases hj
   | cons x r ih =>
    intro j hj
    cases j with
    | zero => simp [sumI]
    | succ j =>
     rw [List.take_succ_cons, List.take_succ_cons, List.getElem?_cons_succ]
     show x + sumI (r.take (j + 1)) = x + sumI (r.take j) + (r[j]?).getD 0
     rw [ih j (by simpa using hj)]
     lia
  exact (this ns k hk).symm
theorem preSum_bound (ns : List Int) (h : ∀ n ∈ ns, 0 <= n /\ n <= 1000000) : ∀ k, k <= ns.length -> 0 <= preSum (fun i => (ns[i]?).getD 0) k /\ preSum (fun i => (ns[i]?).getD 0) k <= 1000000 * k := by
 intro k
 induction k with
 | zero => intro _; exact ⟨Int.le_refl _, by show (0 : Int) <= 1000000 * ((0 : Nat) : Int); lia⟩
 | succ k ih =>
  intro hk
  obtain ⟨a, b⟩ := ih (Nat.le_of_succ_le hk)
  have e : ns[k]? = some ns[k] := List.getElem?_eq_getElem hk
  obtain ⟨c, d⟩ := h ns[k] (List.getElem_mem hk)
  show 0 <= preSum (fun i => (ns[i]?).getD 0) k + (ns[k]?).getD 0 /\ preSum (fun i => (ns[i]?).getD 0) k + (ns[k]?).getD 0 <= 1000000 * ((k + 1 : Nat) : Int)
  rw [e, Option.getD_some]
  constructor <;> lia
theorem call_sum (hc : X.calm = true) : CallR X (.builtin "sum") (fun xs H Q => ∃ (p : Addr) (ns : List Int), xs = [.ref p] /\ SqL X.K H p (ns.map V.int) /\ ns.length <= 1000 /\ (∀ n ∈ ns, 0 <= n /\ n <= 1000000) /\ Q (.int (sumI ns)) H) := by
 intro pins s Z H xs us Q I r h
 obtain ⟨p, ns, rfl, hq, hle, hb, q⟩ := h
 obtain ⟨u, rfl, ru⟩ := vals1 r
 cases ru
 obtain ⟨its, rv, pl, hz⟩ := I.list hq
 have hl := pl.isList
 have hlt : p < s.heap.objs.size := by obtain ⟨_, e, _⟩ := hl; exact Heap.lt_size e
 have hlen : its.length = ns.length := by have := rv.length; rw [List.length_map] at this; lia
 have hn : its.toArray.size = ns.length := by rw [List.size_toArray]; exact hlen
 refine call_sum_walk (wpAny_pyIter_list hl ?_)
 refine ⟨s.heap.objs.size, [s.heap.objs.size, p], [s.heap.objs.size], its.toArray.size, _, _, fun i => (ns[i]?).getD 0, rfl, Walks.list (A := X.A.in1) (I.ok.hd hc) _ p (Nat.ne_of_lt hlt) its.toArray,
  ⟨⟨_, Heap.get?_push_size _ rfl, rfl, rfl⟩, hl.push _⟩, fun b hb => ?_, fun i v hP => ?_, fun j hj => ?_, fun h' tk t' hk => ?_⟩
 ·rw [Heap.size_push]
  rcases List.mem_cons.mp hb with e | e
  ·rw [e]; exact Nat.lt_succ_self _
  ·rw [List.mem_singleton.mp e]; exact Nat.lt_succ_of_lt hlt
 ·have hv : its[i]? = some v := by simpa using hP
  have hi : i < ns.length := by
   have := (List.getElem?_eq_some_iff.mp hv).1
   lia
  have hx : (ns.map V.int)[i]? = some (V.int ns[i]) := by rw [List.getElem?_map, List.getElem?_eq_getElem hi] <;> rfl
  obtain ⟨u, eu, ru⟩ := rv.get hx
  rw [hv] at eu
  cases eu
  obtain ⟨t, rfl⟩ := ru
  refine ⟨t, ?_⟩
  show Value.int ns[i] t = Value.int ((ns[i]?).getD 0) t
  rw [List.getElem?_eq_getElem hi]
  rfl
 ·rw [hn] at hj
  obtain ⟨a, b⟩ := preSum_bound ns hb (j + 1) hj
  have e : ns[j]? = some ns[j] := List.getElem?_eq_getElem hj
  obtain ⟨c, d⟩ := hb ns[j] (List.getElem_mem hj)
  refine ⟨⟨?_, ?_⟩, ?_, ?_⟩
  ·show -(2 ^ 63) <= (ns[j]?).getD 0
   rw [e, Option.getD_some]; lia
  ·show (ns[j]?).getD 0 < 2 ^ 63
   rw [e, Option.getD_some]; lia
  ·lia
  ·lia
 ·rw [hn, preSum_eq ns _ (Nat.le_refl _), List.take_length]
  refine ⟨.int (sumI ns), H, I.kept (t' := tk) fun b x e => ?_, ⟨_, rfl⟩, q⟩
  exact hk b x (fun hm => by rw [List.mem_singleton.mp hm] at e; exact Nat.lt_irrefl _ (Heap.lt_size e)) (Heap.get?_push_of_some _ e)
end
end L2
namespace HT
open PySem PyProof.Rows
section
variable {prog : Program} {w : World} {A : Around} {s : Shared} {E : Value -> Shared -> Prop} {d j : Addr} {ks : List Value} {i ep : Nat}
noncomputable def DEs (h : Heap) (d : Addr) (ks : List Value) (ep : Nat) : Prop := ∃ o es, h.get? d = some o /\ o.ExactDict /\ o.data = .dict es ep /\ es.toList.map (·.key) = ks
theorem DEs.type (m : DEs s.heap d ks ep) : s.TypeIs (.ref d) "dict" := by
 obtain ⟨o, _, ho, hc, _⟩ := m
 exact ⟨o, ho, hc.1⟩
theorem DEs.keeps {h h' : Heap} (m : DEs h d ks ep) (k : ∀ o, h.get? d = some o -> h'.get? d = some o) : DEs h' d ks ep := by
 obtain ⟨o, es, ho, r⟩ := m
 exact ⟨o, es, k o ho, r⟩
theorem DEs.lt {h : Heap} (m : DEs h d ks ep) : d < h.objs.size := by
 obtain ⟨o, es, ho, _⟩ := m
 exact Heap.lt_size ho
theorem size_keys {es : Array DictEntry} (e : es.toList.map (·.key) = ks) : es.size = ks.length := by
 rw [<- e, List.length_map, Array.length_toList]
theorem iter_des {Q : Value -> Shared -> Prop} (lo : (d == sysModules) = false) (m : DEs s.heap d ks ep)
  (q : Q (.ref s.heap.objs.size) { s with heap := s.heap.push { cls := .type "dict_keyiterator", data := .fields #[.ref d, .int 0 0, .int ks.length 0, .int ep 0] } }) : wpAny (model prog w) A (pyIter (.ref d)) Q E s := by
 have ty := m.type
 obtain ⟨o, es, ho, hc, hdat, hk⟩ := m
 refine wpAny_pyIter_slot ty PySem.F.slot_dict_iter (wpAny_call_entry PySem.F.slot_dict_iter ty PySem.F.entry_dict_iter ?_ (PySem.F.args_dict_iter_1 _))
 unfold Builtin.«dict.__iter__» Builtin.Dict.dictSlotNone
 refine wpAny_bind (wpAny_bind (wpAny_notOrdered_dict ty ?_))
 refine wpAny_pure (show wpAny _ _ (Builtin.Dict.showsAll d >>= _) _ _ s from ?_)
 unfold Builtin.Dict.showsAll
 rw [if_neg (by rw [lo]; exact Bool.false_ne_true)]
 refine wpAny_bind (wpAny_pure (wpAny_bind (wpAny_dictEntries ho hdat (wpAny_bind (wpAny_dictEpoch ho hdat ?_)))))
 refine wpAny_bind (wpAny_newObj_type (wpAny_pure ⟨_, rfl, "dict_keyiterator", _, ⟨_, Heap.get?_push_size _ rfl, rfl⟩, PySem.F.slot_dict_keyiterator_next.lookup, ?_⟩))
 simpa [rawInt, size_keys hk] using q
theorem next_des {x : Value} {Q : Option Value -> Shared -> Prop} (st : s.heap.IsKeyIter j d i ks.length ep) (m : DEs s.heap d ks ep) (hx : ks[i]? = some x)
  (q : ∀ h', h'.IsKeyIter j d (i + 1) ks.length ep -> Heap.SameBut j s.heap h' -> Q (some x) { s with heap := h' }) : wpAny (model prog w) A (pyNext (.ref j)) Q E s := by
 have ty := st.typeIs
 obtain ⟨o, ho, hc, hd⟩ := id st
 obtain ⟨od, es, hod, hcd, hdd, hk⟩ := m
 have hz := size_keys hk
 have hlt : i < ks.length := (List.getElem?_eq_some_iff.mp hx).1
 have hes : i < es.size := by lia
 have hkey : es[i].key = x := by
  have e1 : (es.toList.map (·.key))[i]? = some x := by rw [hk]; exact hx
  rw [List.getElem?_map, Array.getElem?_toList, Array.getElem?_eq_getElem hes] at e1
  exact Option.some.inj e1
 unfold pyNext
 refine wpAny_bind (wpAny_attempt (wpAny_callSpecial?_slot (name := Str.ofString "__next__") ty PySem.F.slot_dict_keyiterator_next (wpAny_call_entry PySem.F.slot_dict_keyiterator_next ty PySem.F.entry_dict_keyiterator_next ?_ (PySem.F.args_dict_keyiterator_next_1 _))))
 refine wpAny_bind (wpAny_pure (wpAny_bind (wpAny_bind ?_)))
 first | refine wpAny_bind (wpAny_typeNameOfWhole_keyiter ty (wpAny_pure (wpAny_bind (wpAny_fieldsOf ho hd ?_)))) | refine wpAny_bind (wpAny_typeNameOf_keyiter ty (wpAny_pure (wpAny_bind (wpAny_fieldsOf ho hd ?_))))
 have own : Builtin.Dict_items.ownsTuple "dict_keyiterator" = false := by decide
 simp only [own, Bool.false_eq_true, if_false]
 refine (show wpAny _ _ (if (Value.ref d == Value.none) = true then _ else _) _ _ s from ?_)
 rw [if_neg fun b0 : (Value.ref d == Value.none) = true => Bool.false_ne_true b0]
 refine wpAny_bind (wpAny_pure (wpAny_bind (wpAny_dictEntries hod hdd ?_)))
 rw [if_neg (by rw [hz]; simp)]
 refine wpAny_bind (wpAny_pure (wpAny_bind (wpAny_dictEpoch hod hdd ?_)))
 rw [if_neg (by simp)]
 refine wpAny_pure ?_
 simp only [show ¬ ((i : Int) < 0) from by lia, if_false, Int.toNat_natCast, Array.getElem?_eq_getElem hes]
 refine wpAny_bind ?_
 first | refine wpAny_bind (wpAny_typeNameOfWhole_keyiter ty (wpAny_pure (wpAny_bind (wpAny_isOneOf_keyiter ty ?_)))) | refine wpAny_bind (wpAny_typeNameOf_keyiter ty (wpAny_pure (wpAny_bind (wpAny_isOneOf_keyiter ty ?_))))
 refine (show wpAny _ _ (setField (.ref j) 1 (rawInt ((i : Int) + 1)) >>= _) _ _ s from ?_)
 refine wpAny_bind (wpAny_setField ho hd (by simp) ?_)
 have st' : (s.heap.update j (Obj.mapFields (·.setIfInBounds 1 (rawInt ((i : Int) + 1))))).IsKeyIter j d (i + 1) ks.length ep := by
  refine ⟨_, Heap.get?_update_self _ ho (Obj.isFreed_of_fields (Obj.data_mapFields hd _)), (Obj.cls_mapFields ..).trans hc, ?_⟩
  rw [Obj.data_mapFields hd]; simp [rawInt]
 refine wpAny_bind (wpAny_holding (wpAny_bind (wpAny_isOneOf_keyiter (s := { s with heap := s.heap.update j (Obj.mapFields (·.setIfInBounds 1 (rawInt ((i : Int) + 1)))) }) st'.typeIs ?_)))
 refine (show wpAny _ _ (pure es[i].key) _ _ _ from ?_)
 rw [hkey]
 exact wpAny_pure (wpAny_pure ⟨_, rfl, wpAny_pure (q _ st' (Heap.SameBut.update ..))⟩)
theorem end_des {Q : Option Value -> Shared -> Prop} (hh : A.handled = none) (st : s.heap.IsKeyIter j d i ks.length ep) (m : DEs s.heap d ks ep) (hx : ks.length <= i)
  (q : ∀ h', Heap.ExtBut j s.heap h' -> Q none { s with heap := h' }) : wpAny (model prog w) A (pyNext (.ref j)) Q E s := by
 have ty := st.typeIs
 obtain ⟨o, ho, hc, hd⟩ := id st
 obtain ⟨od, es, hod, hcd, hdd, hk⟩ := m
 have hz := size_keys hk
 unfold pyNext
 refine wpAny_bind (wpAny_attempt (wpAny_callSpecial?_slot (name := Str.ofString "__next__") ty PySem.F.slot_dict_keyiterator_next (wpAny_call_entry PySem.F.slot_dict_keyiterator_next ty PySem.F.entry_dict_keyiterator_next ?_ (PySem.F.args_dict_keyiterator_next_1 _))))
 refine wpAny_bind (wpAny_pure (wpAny_bind (wpAny_bind ?_)))
 first | refine wpAny_bind (wpAny_typeNameOfWhole_keyiter ty (wpAny_pure (wpAny_bind (wpAny_fieldsOf ho hd ?_)))) | refine wpAny_bind (wpAny_typeNameOf_keyiter ty (wpAny_pure (wpAny_bind (wpAny_fieldsOf ho hd ?_))))
 have own : Builtin.Dict_items.ownsTuple "dict_keyiterator" = false := by decide
 simp only [own, Bool.false_eq_true, if_false]
 refine (show wpAny _ _ (if (Value.ref d == Value.none) = true then _ else _) _ _ s from ?_)
 rw [if_neg fun b0 : (Value.ref d == Value.none) = true => Bool.false_ne_true b0]
 refine wpAny_bind (wpAny_pure (wpAny_bind (wpAny_dictEntries hod hdd ?_)))
 rw [if_neg (by rw [hz]; simp)]
 refine wpAny_bind (wpAny_pure (wpAny_bind (wpAny_dictEpoch hod hdd ?_)))
 rw [if_neg (by simp)]
 refine wpAny_pure ?_
 have hge : es.size <= i := by lia
 simp only [show ¬ ((i : Int) < 0) from by lia, if_false, Int.toNat_natCast, Array.getElem?_eq_none hge]
 refine wpAny_bind ?_
 first | refine wpAny_bind (wpAny_typeNameOfWhole_keyiter ty (wpAny_pure ?_)) | refine wpAny_bind (wpAny_typeNameOf_keyiter ty (wpAny_pure ?_))
 refine (show wpAny _ _ (setField (.ref j) 0 .none >>= _) _ _ s from wpAny_bind (wpAny_setField ho hd (by simp) ?_))
 refine (show wpAny _ _ (newExc (.type "StopIteration") [] >>= _) _ _ _ from wpAny_bind ?_)
 simp only [newExc, newTuple]
 refine wpAny_bind (wpAny_newObj_type (wpAny_bind (m := firstArgMember _ _) (wpAny_of_eq (a := Value.none) (by first | rfl | (simp only [firstArgMember]; rfl)) (wpAny_newObj_type ?_ (by size_fits)))) (by size_fits))
 simp only [raiseNew]
 refine wpAny_bind (wpAny_handled ?_)
 rw [show A.in1.handled = none from hh]
 refine (wpAny_bind (wpAny_pure (wpAny_throw (?_))))
 refine wpAny_bind (wpAny_isInstance (T := "StopIteration") (b := true) ⟨_, Heap.get?_push_size _ rfl, rfl⟩ isSubtype_stop (wpAny_pure (q _ ?_)))
 exact ((Heap.SameBut.update ..).extBut.push _).push _
theorem walks_des (hh : A.handled = none) (hne : d ≠ j) : Walks prog w A j [j, d] [j] ks.length (fun i v => ks[i]? = some v) (fun i h => h.IsKeyIter j d i ks.length ep /\ DEs h d ks ep) where
 sub := fun b hb => by rw [List.mem_singleton.mp hb]; exact List.mem_cons_self
 frame := fun _ _ _ st k => ⟨st.1.at fun o e => k j (by simp) o e, st.2.keeps fun o e => k d (by simp) o e⟩
 item := fun i s Q E hi st hQ => by
  have hx : ks[i]? = some ks[i] := List.getElem?_eq_getElem hi
  refine next_des st.1 st.2 hx fun h' st' sb => ?_
  exact hQ _ h' s.toks hx ⟨st', st.2.keeps fun o e => sb.extBut d o hne e⟩ fun b o hb e => sb.extBut b o (fun z => hb (by rw [z]; exact List.mem_cons_self)) e
 done := fun s Q E st hQ => end_des hh st.1 st.2 (Nat.le_refl _) fun h' eb => hQ h' s.toks fun b o hb e => eb b o (fun z => hb (by rw [z]; exact List.mem_cons_self)) e
 self := fun _ _ _ _ st hQ => wpAny_pyIter_keyiter st.1 hQ
theorem src_des (lo : (d == sysModules) = false) : PySem.W.KdlSrc prog w "dict" d d ks.length (fun i v => ks[i]? = some v) (fun h => DEs h d ks ep) where
 type := fun _ m => m.type
 there := fun _ m => ⟨m.lt, m.lt⟩
 keep := fun _ _ m k => m.keeps fun o e => k d (.inl rfl) o e
 notList := by decide
 notTuple := by decide
 hint := fun _ _ _ _ m q => PySem.W.kdl_hint_dict m.type q
 iter := fun _ _ hh m => ⟨_, _, fun _ _ q => iter_des lo m q, walks_des hh (Nat.ne_of_lt m.lt), ⟨⟨_, Heap.get?_push_size _ rfl, rfl, rfl⟩, m.keeps fun o e => Heap.get?_push_of_some _ e⟩⟩
end
end HT
namespace L2
open PySem PySem.Spec PyProof.Rows
section
variable {X : Cx}
noncomputable def KsOf (H : Hp) : List V -> List (List Key) -> Prop := Paired fun y ks => ∃ b, y = .ref b /\ H b = some (.tup (ks.map kV))
theorem KsOf.mono {H H' : Hp} {ys : List V} {kss : List (List Key)} (h : KsOf H ys kss) (t : ∀ b xs, H b = some (.tup xs) -> H' b = some (.tup xs)) : KsOf H' ys kss :=
 Paired.mapP h fun _ _ ⟨b, e, hb⟩ => ⟨b, e, t _ _ hb⟩
theorem ks_of_kt {H : Hp} {kvs : List (List Key × V)} {xs : List (List Key × Addr × Value)} (r : KT H kvs xs) : KsOf H (xs.map fun q => V.ref q.2.1) (kvs.map (·.1)) := by
 induction r with
 | nil => exact .nil
 | cons h _ ih => exact .cons ⟨_, rfl, h.2.1⟩ ih
theorem call_listD (hc : X.calm = true) : CallR X (.type "list") (fun xs H Q => ∃ a kvs, xs = [.ref a] /\ H a = some (.dT kvs) /\ ∀ p ys, H p = none -> KsOf H ys (kvs.map (·.1)) -> Q (.ref p) (upd H p (.lst ys))) := by
 intro pins s Z H xs us Q I r h
 obtain ⟨a, kvs, rfl, ha, q⟩ := h
 obtain ⟨u, rfl, ru⟩ := vals1 r
 cases ru
 obtain ⟨hz, lo, ys, kt, o, es, ep, h1, h2, h3, h4, h5⟩ := (show ObjOk X.prog X.w H s.heap a (.dT kvs) from I.hok a _ ha)
 have hm : HT.DEs s.heap a (ys.map fun q => Value.ref q.2.1) ep := by
  refine ⟨o, es, h1, h2, h3, ?_⟩
  rw [h4, List.map_map]
  rfl
 have hl : ys.length = kvs.length := (Paired.length kt).symm
 refine PySem.W.kdl_call (HT.src_des lo) (I.ok.hd hc) hm (by rw [List.length_map]; lia) fun h' tk acc c' kp e hi => ?_
 obtain ⟨i1, i2⟩ := hi
 have hacc : acc.toList = ys.map fun q => Value.ref q.2.1 := by
  refine List.ext_getElem? fun i => ?_
  rw [Array.getElem?_toList]
  cases hv : acc[i]? with
  | some v => exact (i2 i v hv).symm
  | none =>
   have : acc.size <= i := Array.getElem?_eq_none_iff.mp hv
   exact (List.getElem?_eq_none (by rw [<- i1]; exact this)).symm
 have rv : Vals (ys.map fun q => V.ref q.2.1) (ys.map fun q => Value.ref q.2.1) := by
  clear kt h4 h5 hl i1 i2 hacc hm
  induction ys with
  | nil => exact .nil
  | cons y r ih => exact .cons rfl ih
 refine ⟨.ref s.heap.objs.size, _, I.laid (t' := tk) (o := .lst (ys.map fun q => V.ref q.2.1)) kp (Nat.le_refl _) ?_, rfl, q _ _ (I.hok.fresh (Nat.le_refl _)) (ks_of_kt kt)⟩
 refine ⟨by rw [List.length_map]; lia, _, c', rv, ?_⟩
 rw [<- hacc, Array.toArray_toList]
 exact e
end
section
variable {X : Cx}
theorem op_ne_nil (hu : X.A.units < cLine) : OpR X (compareOp .NotEq) (fun x y H Q => ∃ a b xs, x = .ref a /\ y = .ref b /\ SqL X.K H a xs /\ SqL X.K H b [] /\ Q (.bl (!xs.isEmpty)) H) := by
 intro pins s Z H x y v u Q I rx ry h
 obtain ⟨a, b, xs, rfl, rfl, ha, hb, q⟩ := h
 cases rx
 cases ry
 obtain ⟨its, r, pl, _⟩ := I.list ha
 obtain ⟨its2, r2, pl2, _⟩ := I.list hb
 cases r2
 cases r with
 | nil => exact SeqAt.RcNeAt.lists (e := fun _ => true) pl.isList pl2.isList rfl hu (fun j h1 _ => absurd h1 (Nat.not_lt_zero _)) X.prog X.w X.xe _ ⟨.bl _, H, I, rfl, q⟩
 | cons r1 t => exact SeqAt.RcNeAt.lists_lengths pl.isList pl2.isList (by simp) hu X.prog X.w X.xe _ ⟨.bl _, H, I, rfl, q⟩
instance decKs (ks : List Key) (kss : List (List Key)) : Decidable (ks ∈ kss) := decidable_of_iff (kss.any (fun l => decide (l = ks)) = true) ⟨fun h => by
  obtain ⟨x, hx, e⟩ := List.any_eq_true.mp h
  rw [<- of_decide_eq_true e]
  exact hx, fun h => List.any_eq_true.mpr ⟨ks, h, decide_eq_true rfl⟩⟩
end
end L2
namespace HT
open PySem PyProof.Rows
section
variable {prog : Program} {w : World} {A : Around} {s : Shared} {E : Value -> Shared -> Prop} {j t : Addr} {i : Nat} {items : Array Value}
theorem draw_tup {x : Value} {Q : Value -> Shared -> Prop} (st : s.heap.IsTupleIter j t i) (ht : s.heap.IsTuple t items) (hx : items[i]? = some x)
  (q : ∀ h', h'.IsTupleIter j t (i + 1) -> Heap.SameBut j s.heap h' -> Q x { s with heap := h' }) : wpAny (model prog w) A (Builtin.SmallTypes.nextOf (.ref j)) Q E s := by
 have ty := st.typeIs
 obtain ⟨o, ho, hc, hd⟩ := id st
 obtain ⟨ol, hol, _, nl, hdl⟩ := ht
 unfold Builtin.SmallTypes.nextOf
 refine wpAny_bind (wpAny_callSpecial?_slot (name := Str.ofString "__next__") ty PySem.F.slot_tuple_iterator_next (wpAny_call_entry PySem.F.slot_tuple_iterator_next ty PySem.F.entry_tuple_iterator_next ?_ (PySem.F.args_tuple_iterator_next_1 _)))
 refine (show wpAny _ _ (field (.ref j) 0 >>= _) _ _ s from wpAny_bind (wpAny_field ho hd (x := .ref t) rfl ?_))
 refine (show wpAny _ _ (if (Value.ref t == Value.none) = true then _ else _) _ _ s from ?_)
 rw [if_neg fun b0 : (Value.ref t == Value.none) = true => Bool.false_ne_true b0]
 refine (show wpAny _ _ (field (.ref j) 1 >>= _) _ _ s from wpAny_bind (wpAny_field ho hd (x := .int i 0) rfl ?_))
 refine (show wpAny _ _ (seqItems? (.ref t) >>= _) _ _ s from wpAny_bind (wpAny_seqItems hol hdl ?_))
 simp only [Int.toNat_natCast, hx]
 refine wpAny_bind (wpAny_setField ho hd (by simp) (wpAny_pure ⟨x, rfl, wpAny_pure (q _ ⟨_, Heap.get?_update_self _ ho (Obj.isFreed_of_fields (Obj.data_mapFields hd _)), (Obj.cls_mapFields ..).trans hc, ?_⟩ (Heap.SameBut.update ..))⟩))
 rw [Obj.data_mapFields hd]; simp [rawInt]
theorem draw_tupEnd {Q : Value -> Shared -> Prop} (hh : A.handled = none) (st : s.heap.IsTupleIter j t i) (ht : s.heap.IsTuple t items) (hx : items[i]? = none)
  (q : ∀ h' e, Heap.ExtBut j s.heap h' -> (∃ o, h'.get? e = some o /\ o.cls = .type "StopIteration") -> E (.ref e) { s with heap := h' }) : wpAny (model prog w) A (Builtin.SmallTypes.nextOf (.ref j)) Q E s := by
 have ty := st.typeIs
 obtain ⟨o, ho, hc, hd⟩ := id st
 obtain ⟨ol, hol, _, nl, hdl⟩ := ht
 unfold Builtin.SmallTypes.nextOf
 refine wpAny_bind (wpAny_callSpecial?_slot (name := Str.ofString "__next__") ty PySem.F.slot_tuple_iterator_next (wpAny_call_entry PySem.F.slot_tuple_iterator_next ty PySem.F.entry_tuple_iterator_next ?_ (PySem.F.args_tuple_iterator_next_1 _)))
 refine (show wpAny _ _ (field (.ref j) 0 >>= _) _ _ s from wpAny_bind (wpAny_field ho hd (x := .ref t) rfl ?_))
 refine (show wpAny _ _ (if (Value.ref t == Value.none) = true then _ else _) _ _ s from ?_)
 rw [if_neg fun b0 : (Value.ref t == Value.none) = true => Bool.false_ne_true b0]
 refine (show wpAny _ _ (field (.ref j) 1 >>= _) _ _ s from wpAny_bind (wpAny_field ho hd (x := .int i 0) rfl ?_))
 refine (show wpAny _ _ (seqItems? (.ref t) >>= _) _ _ s from wpAny_bind (wpAny_seqItems hol hdl ?_))
 simp only [Int.toNat_natCast, hx]
 refine wpAny_bind (wpAny_rule (wpAny_bind (wpAny_setField ho hd (by simp) (show wpAny _ _ (newExc (.type "StopIteration") [] >>= _) _ _ _ from wpAny_bind ?_))))
 simp only [newExc, newTuple]
 refine wpAny_bind (wpAny_newObj_type (wpAny_bind (m := firstArgMember _ _) (wpAny_of_eq (a := Value.none) (by first | rfl | (simp only [firstArgMember]; rfl)) (wpAny_newObj_type ?_ (by size_fits)))) (by size_fits))
 simp only [raiseNew]
 refine wpAny_bind (wpAny_handled ?_)
 rw [show A.in1.handled = none from hh]
 exact wpAny_bind (wpAny_pure (wpAny_throw (q _ _ (((Heap.SameBut.update ..).extBut.push _).push _) ⟨_, Heap.get?_push_size _ rfl, rfl⟩)))
noncomputable def SIter (c : Bool) (h : Heap) (j l : Addr) (i : Nat) : Prop := if c = true then h.IsTupleIter j l i else h.IsListIter j l i
noncomputable def SSeq (c : Bool) (h : Heap) (l : Addr) (items : Array Value) : Prop := if c = true then h.IsTuple l items else h.IsList l items
theorem SIter.obj {c : Bool} {h : Heap} {l : Addr} (x : SIter c h j l i) : ∃ o, h.get? j = some o /\ ∀ v, o.data ≠ .cell v := by
 cases c with
 | true => obtain ⟨o, e, _, d⟩ := (show h.IsTupleIter j l i from x); exact ⟨o, e, fun v z => by rw [d] at z; cases z⟩
 | false => obtain ⟨o, e, _, d⟩ := (show h.IsListIter j l i from x); exact ⟨o, e, fun v z => by rw [d] at z; cases z⟩
theorem SIter.at {c : Bool} {h h' : Heap} {l : Addr} (x : SIter c h j l i) (k : ∀ o, h.get? j = some o -> h'.get? j = some o) : SIter c h' j l i := by
 cases c with
 | true => obtain ⟨o, e, r⟩ := (show h.IsTupleIter j l i from x); exact (show h'.IsTupleIter j l i from ⟨o, k o e, r⟩)
 | false => obtain ⟨o, e, r⟩ := (show h.IsListIter j l i from x); exact (show h'.IsListIter j l i from ⟨o, k o e, r⟩)
theorem SSeq.at {c : Bool} {h h' : Heap} {l : Addr} (x : SSeq c h l items) (k : ∀ o, h.get? l = some o -> h'.get? l = some o) : SSeq c h' l items := by
 cases c with
 | true => obtain ⟨o, e, r⟩ := (show h.IsTuple l items from x); exact (show h'.IsTuple l items from ⟨o, k o e, r⟩)
 | false => obtain ⟨o, e, r⟩ := (show h.IsList l items from x); exact (show h'.IsList l items from ⟨o, k o e, r⟩)
theorem draws_seq (c : Bool) (hh : A.handled = none) (j l : Addr) (hne : l ≠ j) (items : Array Value) :
  Draws prog w A j [j, l] items.size (fun i v => items[i]? = some v) (fun i h => SIter c h j l i /\ SSeq c h l items) where
 live := fun _ _ st => let ⟨o, e, _⟩ := st.1.obj; ⟨o, e⟩
 frame := fun _ _ _ st k => ⟨st.1.at fun o e => k j (by simp) o e, st.2.at fun o e => k l (by simp) o e⟩
 item := fun i s Q E hi st hQ => by
  have hx : items[i]? = some items[i] := Array.getElem?_eq_getElem hi
  cases c with
  | true => exact draw_tup st.1 st.2 hx fun h' st' sb => hQ _ h' s.toks hx ⟨st', st.2.at fun o e => sb.extBut l o hne e⟩ sb
  | false => exact wpAny_nextOf_list_item st.1 st.2 hx fun h' st' sb => hQ _ h' s.toks hx ⟨st', st.2.at fun o e => sb.extBut l o hne e⟩ sb
 done := fun s Q E st hE => by
  cases c with
  | true => exact draw_tupEnd hh st.1 st.2 (by simp) hE
  | false => exact wpAny_nextOf_list_end hh st.1 st.2 (by simp) hE
end
section
variable {prog : Program} {w : World} {A : Around} {s : Shared} {E : Value -> Shared -> Prop}
noncomputable def tIt (l : Addr) : Obj := { cls := .type "tuple_iterator", data := .fields #[.ref l, .int 0 0] }
end
end HT
namespace L2
open PySem PySem.Spec PyProof.Rows
noncomputable def seqO (c : Bool) (xs : List V) : HO := if c = true then .tup xs else .lst xs
theorem Inv.seqS {X : Cx} {pins : List (Addr × Obj)} {Z : St} {H : Hp} {s : Shared} {c : Bool} {a : Addr} {xs : List V} (I : Inv X pins Z H s) (h : H a = some (seqO c xs)) : ∃ its : List Value, Vals xs its /\ HT.SSeq c s.heap a its.toArray /\ xs.length <= sizeLine := by
 cases c with
 | true => obtain ⟨its, r, p, z⟩ := I.tuple (SqT.of (K := X.K) h); exact ⟨its, r, p, z⟩
 | false => obtain ⟨its, r, p, z⟩ := I.list (SqL.of (K := X.K) h); exact ⟨its, r, p.isList, z⟩
structure CompOk2 (sc0 : Scope) (N0 : List Str) (scope : Scope) (x x2 : Str) (ys : List Str) (fr : List Nat) : Prop where
 kind : scope.kind = .function
 nocell : ∀ y ∈ scope.names, y.2 ≠ .cell
 loc : ∀ y ∈ scope.names, y.2 = .local -> scope.names.lookup y.1 = some .local
 xl : (relabelN sc0 scope).lookup x = some .local
 xl2 : (relabelN sc0 scope).lookup x2 = some .local
 free : ∀ y ∈ scope.names, y.2 = .free -> sc0.names.lookup y.1 = some .cell
 nd : (x :: x2 :: ys).Nodup
 len : ys.length = fr.length
 sl : ∀ q ∈ ys.zip fr, N0[q.2]? = some q.1 /\ sc0.names.lookup q.1 = some .cell /\ (relabelN sc0 scope).lookup q.1 = some .cell
noncomputable def cxComp2 (X : Cx) (x x2 : Str) (ys : List Str) (scope : Scope) (C : Addr) (s : Shared) (H : Hp) (ex : List Addr) : Cx :=
 { X with N := x :: x2 :: ys, s₀ := s, H₀ := H, env := compEnvC scope (closOf X.env.cells scope.names) C X.env, outer := X.stack, stack := X.stack, ex := ex, fn := fun _ => false, pn := [], xe := fun _ _ => False }
noncomputable def tCompW2 (fr : List Nat) (te : TE) (Z : St) (J : It) (H1 : Hp) (Q : VK) : Prop :=
 ∀ p, H1 p = none -> ∃ W : Nat -> Nat -> List V -> Hp -> Prop, (∃ m, W 0 m [] (upd H1 p (.lst []))) /\ ∀ i m ys H, W i m ys H -> H p = some (.lst ys) /\
  ((J.stop i H /\ Q (.ref p) H) \/ (J.go i H /\ ys.length < sizeLine /\ ∀ x H', J.yld i H x H' -> ∃ T v1 v2, x = .ref T /\ H' T = some (.tup [v1, v2]) /\ te (some v1 :: some v2 :: caps fr Z) H' fun v H2 =>
   H2 p = some (.lst ys) /\ ∃ m', m' < m /\ W (i + 1) m' (ys ++ [v]) (upd H2 p (.lst (ys ++ [v])))))
noncomputable def tComp2 (wi : TI) (fr : List Nat) (te : TE) : TE := fun Z H Q => wi Z H fun J H1 => tCompW2 fr te Z J H1 Q
section
variable {X : Cx} {x x2 : Str} {px px2 tpos pos fpos : Pos} {kk : Nat} {iter elt : Expr} {scope sc0 : Scope} {N0 ys : List Str} {fr : List Nat} {wi : TI} {te : TE} {pins : List (Addr × Obj)} {Z : St} {H : Hp} {s : Shared}
theorem comp_core2 {use : Option (Value -> Sem Unit)} {Qv : Value -> Shared -> Prop} {Q : VK} (hcalm : X.calm = true) (hi : PI X (.Tuple [.Name x px, .Name x2 px2] kk tpos) iter wi) (hsc : X.env.scope = sc0) (hN : X.N = N0) (ok : CompOk2 sc0 N0 scope x x2 ys fr)
  (hE : ∀ C s H ex, PE (cxComp2 X x x2 ys scope C s H ex) elt te) (I : Inv X pins Z H s) (h : tComp2 wi fr te Z H Q) (hs : ∀ v, foldedSetIterable iter X.env v = pure v)
  (fin : ∀ (p C : Addr) (H' : Hp) (s' : Shared) (m : Str -> Option Value), Inv X pins Z H' s' -> s'.heap.Ns C m -> H' C = none -> C ≠ X.env.locals -> X.s₀.heap.objs.size <= C -> (∀ y c, X.env.cells.lookup y = some c -> c ≠ C) -> (∀ q ∈ X.pn ++ pins, q.1 ≠ C) -> Q (.ref p) H' ->
   compPost (model X.prog X.w) X.A X.xe use Qv (.ref p) C (.ok .next) s') :
  wpAny (model X.prog X.w) X.A (comprehension (.ListComp elt [⟨.Tuple [.Name x px, .Name x2 px2] kk tpos, iter, [], 0⟩] scope pos) scope X.env fpos (newList []) false (eval iter X.env) use) Qv X.xe s := by
 subst hsc hN
 have hkof : ∀ y, X.env.kindOf y = X.env.scope.names.lookup y := fun y => rfl
 have hfree : ∀ y ∈ scope.names, y.2 = .free -> ∃ c, X.env.cells.lookup y.1 = some c := fun y hy e => I.ok.has y.1 (.inl (ok.free y hy e))
 refine wpAny_comprehension_free (gs := []) rfl hs (closureFor_ok hfree) ok.kind ok.loc (thn (hi pins s Z H _ I h) fun v s1 h1 => thn h1 fun itv s2 h2 => ?_)
 obtain ⟨it, fp, tn, J, H2, e, I2, T, st2, f2, hp⟩ := h2
 subst e
 refine wpAny_newObj_type (wpAny_newFunctionEnv ok.nocell (by intro y hy; simp at hy) (fun h₁ hns₁ hsb₁ => ?_) ok.kind)
 dsimp only at hns₁ hsb₁ ⊢
 have I3 : Inv X pins Z (upd H2 s2.heap.objs.size (.lst [])) { s2 with heap := s2.heap.push { cls := .type "list", data := .seq ([] : List Value).toArray } } :=
  I2.lnew (its := []) (ys := []) (t' := s2.toks) .nil (Nat.zero_le _)
 have hf2 : ∀ b ∈ fp, b < s2.heap.objs.size := fun b hb => by
  obtain ⟨o, e, _⟩ := T.obj _ _ st2 b hb
  exact Heap.lt_size e
 have hps : s2.heap.objs.size < (s2.heap.push { cls := .type "list", data := .seq ([] : List Value).toArray }).objs.size := by rw [Heap.size_push]; exact Nat.lt_succ_self _
 have W0 := hp s2.heap.objs.size I2.fresh
 have st3 : tn 0 (s2.heap.push { cls := .type "list", data := .seq ([] : List Value).toArray }) := T.keep _ _ _ st2 fun b hb o e => Heap.get?_push_of_some _ e
 generalize hpp : s2.heap.objs.size = p at I3 W0 hf2 hps ⊢
 generalize hh3 : (s2.heap.push { cls := .type "list", data := .seq ([] : List Value).toArray }) = h3 at I3 hns₁ hsb₁ hps st3 ⊢
 generalize hH3 : upd H2 p (.lst []) = H3 at I3 W0
 have hold : ∀ b o, h3.get? b = some o -> h₁.get? b = some o := fun b o e => hsb₁.extBut b o (Nat.ne_of_lt (Heap.lt_size e)) (Heap.get?_push_of_some _ e)
 have fH3 : ∀ b ∈ fp, H3 b = none := fun b hb => by
  rw [<- hH3, upd_ne (Nat.ne_of_lt (hf2 b hb))]
  exact (f2 b hb).1
 have hclos : ∀ y c, (closOf X.env.cells scope.names).lookup y = some c -> X.env.cells.lookup y = some c := fun y c e => closOf_sound e
 have hcell3 : ∀ y c, X.env.cells.lookup y = some c -> c < h3.objs.size := fun y c e => by
  obtain ⟨v, o, ho, _⟩ := I3.cell y c e
  exact Heap.lt_size ho
 have hlt3 : X.env.locals < h3.objs.size := I3.lt
 have Yok : (cxComp2 X x x2 ys scope h3.objs.size { s2 with heap := h3 } H3 fp).Ok := {
  mod := I.ok.mod
  kind := ok.kind
  glob := I.ok.glob
  blt := I.ok.blt
  above := Nat.le_refl _
  inj := fun y z c e1 e2 => I.ok.inj y z c (hclos _ _ e1) (hclos _ _ e2)
  has := fun y hk => by
   have hfr : (y, NameKind.free) ∈ scope.names := by
    have hm : ∃ k, (relabelN X.env.scope scope).lookup y = some k /\ (k = .cell \/ k = .free) := by
     rcases hk with hk | hk
     ·exact ⟨_, hk, .inl rfl⟩
     ·exact ⟨_, hk, .inr rfl⟩
    obtain ⟨k, hk, hkk⟩ := hm
    have hmem := mem_of_lookup hk
    unfold relabelN at hmem
    obtain ⟨⟨n, k0⟩, hn, en⟩ := List.mem_map.mp hmem
    dsimp only at en
    split at en
    ·rename_i hc
     simp only [Bool.and_eq_true] at hc
     have hk0 : k0 = .free := by simpa using hc.1.1
     cases en
     rw [<- hk0]
     exact hn
    ·cases en
     rcases hkk with e | e
     ·exact absurd e (ok.nocell _ hn)
     ·rw [<- e]
      exact hn
   obtain ⟨c, hc⟩ := hfree _ hfr rfl
   exact ⟨c, closOf_has hc hfr⟩
  cab := fun y c hf _ => by cases hf
  hd := I.ok.hd
  frames := I.ok.frames
  stk := .inl rfl
  exf := fun b hb => ⟨fun e => absurd (hf2 b hb) (by rw [e]; exact Nat.not_lt.mpr (Nat.le_of_lt hps)), fun y c e => (f2 b hb).2.2.2.2.1 y c (hclos _ _ e)⟩
  bs := fun b o e => ⟨(I3.bs b o e).1, (I3.bs b o e).2⟩
  bsz := Nat.le_trans I.ok.bsz I3.sz
  noex := fun b o e hb => by
   rcases (f2 b hb).2.2.2.1 with q | q
   ·exact I.ok.noex b o e q
   ·have h1 : b < X.base.objs.size := Heap.lt_size e
    exact absurd h1 (Nat.not_lt.mpr (Nat.le_trans I.ok.bsz q))
  exfs := fun b hb hm => by
   rcases List.mem_cons.mp (I3.stkSub b hm) with q | q
   ·exact (f2 b hb).2.1 q
   ·exact (f2 b hb).2.2.1 q
  funs := I3.stack
  frf := I3.stkFree }
 have IY : Inv (cxComp2 X x x2 ys scope h3.objs.size { s2 with heap := h3 } H3 fp) [] (none :: none :: caps fr Z) H3 { s2 with heap := h₁, toks := s2.toks + ([] : List (Str × Value)).length } := {
  ok := Yok
  os := rfl
  bare := I2.bare
  base := Un.kept hold
  loc := by
   refine ⟨_, hns₁, fun i y v hy hv hvis => ?_⟩
   match i, hy, hv with
   | 0, _, hv => cases hv
   | 1, _, hv => cases hv
   | j + 2, hy, hv =>
    have hy' : ys[j]? = some y := hy
    have hv' : (caps fr Z)[j]? = some (some v) := hv
    unfold caps at hv'
    rw [List.getElem?_map] at hv'
    obtain ⟨i0, hi0, hv0⟩ := Option.map_eq_some_iff.mp hv'
    have hz : (y, i0) ∈ ys.zip fr := by
     refine List.mem_iff_getElem?.mpr ⟨j, ?_⟩
     rw [List.getElem?_zip_eq_some]
     exact ⟨hy', hi0⟩
    obtain ⟨hn, hk, hk2⟩ := ok.sl _ hz
    have hZ : Z[i0]? = some (some v) := by
     cases e : Z[i0]? with
     | none => rw [e] at hv0; cases hv0
     | some o =>
      rw [e] at hv0
      rw [show o = some v from hv0]
    obtain ⟨m, hm, hl⟩ := I3.loc
    obtain ⟨u, ru, lk⟩ := hl i0 y v hn hZ (.inr (.inl hk))
    refine ⟨u, ru, .inr ⟨.inl hk2, ?_⟩⟩
    rcases lk with ⟨a, _⟩ | ⟨_, c, hc, hcell⟩
    ·have a' : X.env.scope.names.lookup y = some .local := a
     have hk' : X.env.scope.names.lookup y = some .cell := hk
     rw [hk'] at a'
     cases a'
    ·have hfr : (y, NameKind.free) ∈ scope.names := by
      have hmem := mem_of_lookup hk2
      unfold relabelN at hmem
      obtain ⟨⟨n, k0⟩, hn0, en⟩ := List.mem_map.mp hmem
      dsimp only at en
      split at en
      ·rename_i hc0
       simp only [Bool.and_eq_true] at hc0
       have hk0 : k0 = .free := by simpa using hc0.1.1
       cases en
       rw [<- hk0]
       exact hn0
      ·cases en
       exact absurd rfl (ok.nocell _ hn0)
     exact ⟨c, closOf_has hc hfr, hcell.keeps hold⟩
  cell := fun y c e => by
   obtain ⟨v, hv⟩ := I3.cell y c (hclos _ _ e)
   exact ⟨v, hv.keeps hold⟩
  free := I3.fresh
  freeC := fun y c e => I3.freeC y c (hclos _ _ e)
  pin := fun q hq => by cases hq
  hok := I3.hok.kept hold
  len := by
   show (none :: none :: caps fr Z).length = (x :: x2 :: ys).length
   rw [List.length_cons, List.length_cons, List.length_cons, List.length_cons, ok.len]
   unfold caps
   rw [List.length_map] }
 have hxl : (cxComp2 X x x2 ys scope h3.objs.size { s2 with heap := h3 } H3 fp).env.scope.names.lookup x = some .local := ok.xl
 have hxl2 : (cxComp2 X x x2 ys scope h3.objs.size { s2 with heap := h3 } H3 fp).env.scope.names.lookup x2 = some .local := ok.xl2
 have pgx : PG (cxComp2 X x x2 ys scope h3.objs.size { s2 with heap := h3 } H3 fp) (.Tuple [.Name x px, .Name x2 px2] kk tpos) (gTup X.K 2 (gCons (gName 0) (gCons (gName 1) gNil))) :=
  pg_tup hcalm (pgs_cons (pg_name (i := 0) ok.nd rfl (.inl hxl) (.inr hxl)) (pgs_cons (pg_name (i := 1) ok.nd rfl (.inl hxl2) (.inr hxl2)) pgs_nil))
 have pel := hE h3.objs.size { s2 with heap := h3 } H3 fp
 obtain ⟨W, ⟨m0, w0⟩, turn⟩ := W0
 have stat : ∀ {H' : Hp}, (∀ b ∈ fp, H' b = none) -> ∀ b ∈ fp, FpOk (cxComp2 X x x2 ys scope h3.objs.size { s2 with heap := h3 } H3 fp) [] H' b := fun hn b hb =>
  ⟨hn b hb, (Yok.exf b hb).1, Yok.exfs b hb, .inl hb, (Yok.exf b hb).2, fun q hq => by cases hq⟩
 have loop : codeAny (model X.prog X.w) X.A (.compLoop (.ListComp elt [⟨.Tuple [.Name x px, .Name x2 px2] kk tpos, iter, [], 0⟩] scope pos) 0 (.ref it) (.ref p) (compEnvC scope (closOf X.env.cells scope.names) h3.objs.size X.env))
   (compPost (model X.prog X.w) X.A X.xe use Qv (.ref p) h3.objs.size) { s2 with heap := h₁, toks := s2.toks + ([] : List (Str × Value)).length } := by
  refine compLoop_list (fun n s' => ∃ i zs v0 w0 H', Inv (cxComp2 X x x2 ys scope h3.objs.size { s2 with heap := h3 } H3 fp) [] (v0 :: w0 :: caps fr Z) H' s' /\ tn i s'.heap /\ (∀ b ∈ fp, H' b = none) /\ W i n zs H') ?_ m0
   ⟨0, [], none, none, H3, IY, T.keep _ _ _ st3 fun b hb o e => hold b o e, fH3, w0⟩
  rintro n s5 ⟨i, zs, v0, wv0, H5, I5, st5, fr5, w5⟩
  obtain ⟨hacc, turn5⟩ := turn i n zs H5 w5
  rcases turn5 with ⟨stop, qn⟩ | ⟨go, hlen, step⟩
  ·refine thn (T.done (cxComp2 X x x2 ys scope h3.objs.size { s2 with heap := h3 } H3 fp) rfl rfl rfl hcalm i [] s5 _ H5 _ I5 (stat fr5) st5 stop) fun r s6 ⟨hr, I6⟩ => ?_
   subst hr
   obtain ⟨m6, n6, _⟩ := I6.loc
   refine fin p h3.objs.size H5 s6 m6 (I3.call' I6.os I6.base I6.hok I6.bare fun b hb => ⟨(f2 b hb).2.2.2.1, (f2 b hb).2.1, (f2 b hb).2.2.2.2.1, (f2 b hb).2.2.2.2.2⟩) n6 I6.free (Nat.ne_of_gt hlt3) I3.sz (fun y c e => Nat.ne_of_lt (hcell3 y c e)) (fun q hq => ?_) qn
   exact Nat.ne_of_lt (Heap.lt_size (I3.pin q hq).1)
  ·refine thn (T.item (cxComp2 X x x2 ys scope h3.objs.size { s2 with heap := h3 } H3 fp) rfl rfl rfl hcalm i [] s5 _ H5 _ I5 (stat fr5) st5 go) fun r s6 ⟨u, hr, h6⟩ => ?_
   subst hr
   refine thn h6 fun _ s7 ⟨xv, H7, I7, r7, y7, st7, fr7⟩ => ?_
   have I7' := I7.pinned (stat fr7) (T.obj _ _ st7)
   obtain ⟨T7, v1, v2, eT, hT7, step7⟩ := step xv H7 y7
   refine thn (pgx _ s7 _ H7 xv u (fun Z' H' => Z' = some v1 :: some v2 :: caps fr Z /\ H' = H7) I7' r7 ⟨T7, [v1, v2], eT, SqT.of hT7, rfl, v1, [v2], rfl, v2, [], rfl, rfl, rfl, rfl⟩) fun _ s8 ⟨Z8, H8, I8, e8, e8'⟩ => ?_
   subst e8 e8'
   refine thn (pel _ s8 _ H8 _ I8 step7) fun yv s9 ⟨v9, H9, I9, r9, hp9, m', hm', w9⟩ => ?_
   refine thn (mt_append _ s9 _ H9 (.ref p) [v9] (.ref p) [yv] (fun _ H' => H' = upd H9 p (.lst (zs ++ [v9]))) I9 rfl (.cons r9 .nil) ⟨p, zs, v9, rfl, rfl, hp9, hlen, rfl⟩) fun _ s10 ⟨_, H10, I10, _, e10⟩ => ?_
   subst e10
   refine ⟨m', hm', i + 1, zs ++ [v9], some v1, some v2, _, I10.unpinned, T.keep _ _ _ st7 fun b hb o e => (I10.pin (b, o) (List.mem_append_right _ (List.mem_append_right _ (mem_pinsAt hb e)))).1, fun b hb => ?_, w9⟩
   obtain ⟨o, e, d⟩ := T.obj _ _ st7 b hb
   exact (I10.pin (b, o) (List.mem_append_right _ (List.mem_append_right _ (mem_pinsAt hb e)))).2.1
 exact codeAny_compStart_list loop (T.self X.A 0 _ _ _ (T.keep _ _ _ st3 fun b hb o e => hold b o e) loop)
end
section
variable {prog : Program} {w : World} {A : Around} {R : Result -> Shared -> Prop} {s : Shared}
theorem compLoop_listT {elt target iter cnd : Expr} {scope : Scope} {pos : Pos} {it acc : Value} {env : Env} (I : Nat -> Shared -> Prop)
  (turn : ∀ n s, I n s -> wpAny (model prog w) A (pyNext it) (fun r s₁ => match r with
   | none => R (.ok .next) s₁
   | some v => wpAny (model prog w) A (letOwnedTupleGo target it v) (fun _ s₁' => wpAny (model prog w) A (assign target env v) (fun _ s₂ => wpAny (model prog w) A (isTrue cnd env (eval cnd env)) (fun ok s₃ =>
     if ok = true then wpAny (model prog w) A (eval elt env) (fun x s₄ =>
      wpAny (model prog w) A (call (.builtin "list.append") [acc, x]) (fun _ s₅ => ∃ m, m < n /\ I m s₅) (fun _ _ => False) s₄) (fun _ _ => False) s₃
     else ∃ m, m < n /\ I m s₃) (fun _ _ => False) s₂) (fun _ _ => False) s₁') (fun _ _ => False) s₁) (fun _ _ => False) s)
  (n : Nat) (h : I n s) : codeAny (model prog w) A (.compLoop (.ListComp elt [⟨target, iter, [cnd], 0⟩] scope pos) 0 it acc env) R s := by
 refine codeAny_loop rfl I (fun n s hI => ?_) n h
 show wpAny _ _ ((compTurn (.ListComp elt [⟨target, iter, [cnd], 0⟩] scope pos) 0 it acc env).onRaise (fun x => do noteFrame x env; theTreesLotGoes x)) _ _ s
 refine wpAny_noted ?_
 rw [compTurn_list]
 refine wpAny_noRaise ?_
 refine wpAny_bind (wpAny_standAt (wpAny_bind (wpAny_mono (turn n s hI) (fun r s₁ h₁ => ?_) fun _ _ h' => h')))
 cases r with
 | none => exact wpAny_pure h₁
 | some v =>
  refine wpAny_bind (wpAny_mono h₁ (fun _ s₁' h₁' => ?_) fun _ _ h' => h')
  refine wpAny_bind (wpAny_mono h₁' (fun _ s₂ h₂ => wpAny_bind (wpAny_mono (wpAny_tests_one h₂) (fun ok s₃ h₃ => ?_) fun _ _ h' => h')) fun _ _ h' => h')
  cases ok with
  | false => exact wpAny_pure ⟨rfl, h₃⟩
  | true =>
   exact wpAny_bind (wpAny_bind (wpAny_mono h₃ (fun x s₄ h₄ => wpAny_bind (wpAny_mono h₄ (fun _ s₅ h₅ => wpAny_pure (wpAny_pure ⟨rfl, h₅⟩)) fun _ _ h' => h')) fun _ _ h' => h'))
end
noncomputable def tCompWT (fr : List Nat) (tc : TT) (te : TE) (Z : St) (J : It) (H1 : Hp) (Q : VK) : Prop :=
 ∀ p, H1 p = none -> ∃ W : Nat -> Nat -> List V -> Hp -> Prop, (∃ m, W 0 m [] (upd H1 p (.lst []))) /\ ∀ i m ys H, W i m ys H -> H p = some (.lst ys) /\
  ((J.stop i H /\ Q (.ref p) H) \/ (J.go i H /\ ys.length < sizeLine /\ ∀ x H', J.yld i H x H' -> tc (some x :: caps fr Z) H' fun b H2 => if b = true then te (some x :: caps fr Z) H2 fun v H3 =>
   H3 p = some (.lst ys) /\ ∃ m', m' < m /\ W (i + 1) m' (ys ++ [v]) (upd H3 p (.lst (ys ++ [v]))) else ∃ m', m' < m /\ W (i + 1) m' ys H2))
noncomputable def tCompT (wi : TI) (fr : List Nat) (tc : TT) (te : TE) : TE := fun Z H Q => wi Z H fun J H1 => tCompWT fr tc te Z J H1 Q
section
variable {X : Cx} {x : Str} {px pos fpos : Pos} {iter elt cnd : Expr} {scope sc0 : Scope} {N0 ys : List Str} {fr : List Nat} {wi : TI} {tc : TT} {te : TE} {pins : List (Addr × Obj)} {Z : St} {H : Hp} {s : Shared}
theorem comp_coreT {use : Option (Value -> Sem Unit)} {Qv : Value -> Shared -> Prop} {Q : VK} (hcalm : X.calm = true) (hi : PI X (.Name x px) iter wi) (hsc : X.env.scope = sc0) (hN : X.N = N0) (ok : CompOk sc0 N0 scope x ys fr)
  (hT : ∀ C s H ex, PT (cxComp X x ys scope C s H ex) cnd tc) (hE : ∀ C s H ex, PE (cxComp X x ys scope C s H ex) elt te) (I : Inv X pins Z H s) (h : tCompT wi fr tc te Z H Q) (hs : ∀ v, foldedSetIterable iter X.env v = pure v)
  (fin : ∀ (p C : Addr) (H' : Hp) (s' : Shared) (m : Str -> Option Value), Inv X pins Z H' s' -> s'.heap.Ns C m -> H' C = none -> C ≠ X.env.locals -> X.s₀.heap.objs.size <= C -> (∀ y c, X.env.cells.lookup y = some c -> c ≠ C) -> (∀ q ∈ X.pn ++ pins, q.1 ≠ C) -> Q (.ref p) H' ->
   compPost (model X.prog X.w) X.A X.xe use Qv (.ref p) C (.ok .next) s') :
  wpAny (model X.prog X.w) X.A (comprehension (.ListComp elt [⟨.Name x px, iter, [cnd], 0⟩] scope pos) scope X.env fpos (newList []) false (eval iter X.env) use) Qv X.xe s := by
 subst hsc hN
 have hkof : ∀ y, X.env.kindOf y = X.env.scope.names.lookup y := fun y => rfl
 have hfree : ∀ y ∈ scope.names, y.2 = .free -> ∃ c, X.env.cells.lookup y.1 = some c := fun y hy e => I.ok.has y.1 (.inl (ok.free y hy e))
 refine wpAny_comprehension_free (gs := []) rfl hs (closureFor_ok hfree) ok.kind ok.loc (thn (hi pins s Z H _ I h) fun v s1 h1 => thn h1 fun itv s2 h2 => ?_)
 obtain ⟨it, fp, tn, J, H2, e, I2, T, st2, f2, hp⟩ := h2
 subst e
 refine wpAny_newObj_type (wpAny_newFunctionEnv ok.nocell (by intro y hy; simp at hy) (fun h₁ hns₁ hsb₁ => ?_) ok.kind)
 dsimp only at hns₁ hsb₁ ⊢
 have I3 : Inv X pins Z (upd H2 s2.heap.objs.size (.lst [])) { s2 with heap := s2.heap.push { cls := .type "list", data := .seq ([] : List Value).toArray } } :=
  I2.lnew (its := []) (ys := []) (t' := s2.toks) .nil (Nat.zero_le _)
 have hf2 : ∀ b ∈ fp, b < s2.heap.objs.size := fun b hb => by
  obtain ⟨o, e, _⟩ := T.obj _ _ st2 b hb
  exact Heap.lt_size e
 have hps : s2.heap.objs.size < (s2.heap.push { cls := .type "list", data := .seq ([] : List Value).toArray }).objs.size := by rw [Heap.size_push]; exact Nat.lt_succ_self _
 have W0 := hp s2.heap.objs.size I2.fresh
 have st3 : tn 0 (s2.heap.push { cls := .type "list", data := .seq ([] : List Value).toArray }) := T.keep _ _ _ st2 fun b hb o e => Heap.get?_push_of_some _ e
 generalize hpp : s2.heap.objs.size = p at I3 W0 hf2 hps ⊢
 generalize hh3 : (s2.heap.push { cls := .type "list", data := .seq ([] : List Value).toArray }) = h3 at I3 hns₁ hsb₁ hps st3 ⊢
 generalize hH3 : upd H2 p (.lst []) = H3 at I3 W0
 have hold : ∀ b o, h3.get? b = some o -> h₁.get? b = some o := fun b o e => hsb₁.extBut b o (Nat.ne_of_lt (Heap.lt_size e)) (Heap.get?_push_of_some _ e)
 have fH3 : ∀ b ∈ fp, H3 b = none := fun b hb => by
  rw [<- hH3, upd_ne (Nat.ne_of_lt (hf2 b hb))]
  exact (f2 b hb).1
 have hclos : ∀ y c, (closOf X.env.cells scope.names).lookup y = some c -> X.env.cells.lookup y = some c := fun y c e => closOf_sound e
 have hcell3 : ∀ y c, X.env.cells.lookup y = some c -> c < h3.objs.size := fun y c e => by
  obtain ⟨v, o, ho, _⟩ := I3.cell y c e
  exact Heap.lt_size ho
 have hlt3 : X.env.locals < h3.objs.size := I3.lt
 have Yok : (cxComp X x ys scope h3.objs.size { s2 with heap := h3 } H3 fp).Ok := {
  mod := I.ok.mod
  kind := ok.kind
  glob := I.ok.glob
  blt := I.ok.blt
  above := Nat.le_refl _
  inj := fun y z c e1 e2 => I.ok.inj y z c (hclos _ _ e1) (hclos _ _ e2)
  has := fun y hk => by
   have hfr : (y, NameKind.free) ∈ scope.names := by
    have hm : ∃ k, (relabelN X.env.scope scope).lookup y = some k /\ (k = .cell \/ k = .free) := by
     rcases hk with hk | hk
     ·exact ⟨_, hk, .inl rfl⟩
     ·exact ⟨_, hk, .inr rfl⟩
    obtain ⟨k, hk, hkk⟩ := hm
    have hmem := mem_of_lookup hk
    unfold relabelN at hmem
    obtain ⟨⟨n, k0⟩, hn, en⟩ := List.mem_map.mp hmem
    dsimp only at en
    split at en
    ·rename_i hc
     simp only [Bool.and_eq_true] at hc
     have hk0 : k0 = .free := by simpa using hc.1.1
     cases en
     rw [<- hk0]
     exact hn
    ·cases en
     rcases hkk with e | e
     ·exact absurd e (ok.nocell _ hn)
     ·rw [<- e]
      exact hn
   obtain ⟨c, hc⟩ := hfree _ hfr rfl
   exact ⟨c, closOf_has hc hfr⟩
  cab := fun y c hf _ => by cases hf
  hd := I.ok.hd
  frames := I.ok.frames
  stk := .inl rfl
  exf := fun b hb => ⟨fun e => absurd (hf2 b hb) (by rw [e]; exact Nat.not_lt.mpr (Nat.le_of_lt hps)), fun y c e => (f2 b hb).2.2.2.2.1 y c (hclos _ _ e)⟩
  bs := fun b o e => ⟨(I3.bs b o e).1, (I3.bs b o e).2⟩
  bsz := Nat.le_trans I.ok.bsz I3.sz
  noex := fun b o e hb => by
   rcases (f2 b hb).2.2.2.1 with q | q
   ·exact I.ok.noex b o e q
   ·have h1 : b < X.base.objs.size := Heap.lt_size e
    exact absurd h1 (Nat.not_lt.mpr (Nat.le_trans I.ok.bsz q))
  exfs := fun b hb hm => by
   rcases List.mem_cons.mp (I3.stkSub b hm) with q | q
   ·exact (f2 b hb).2.1 q
   ·exact (f2 b hb).2.2.1 q
  funs := I3.stack
  frf := I3.stkFree }
 have IY : Inv (cxComp X x ys scope h3.objs.size { s2 with heap := h3 } H3 fp) [] (none :: caps fr Z) H3 { s2 with heap := h₁, toks := s2.toks + ([] : List (Str × Value)).length } := {
  ok := Yok
  os := rfl
  bare := I2.bare
  base := Un.kept hold
  loc := by
   refine ⟨_, hns₁, fun i y v hy hv hvis => ?_⟩
   cases i with
   | zero => cases hv
   | succ j =>
    have hy' : ys[j]? = some y := hy
    have hv' : (caps fr Z)[j]? = some (some v) := hv
    unfold caps at hv'
    rw [List.getElem?_map] at hv'
    obtain ⟨i0, hi0, hv0⟩ := Option.map_eq_some_iff.mp hv'
    have hz : (y, i0) ∈ ys.zip fr := by
     refine List.mem_iff_getElem?.mpr ⟨j, ?_⟩
     rw [List.getElem?_zip_eq_some]
     exact ⟨hy', hi0⟩
    obtain ⟨hn, hk, hk2⟩ := ok.sl _ hz
    have hZ : Z[i0]? = some (some v) := by
     cases e : Z[i0]? with
     | none => rw [e] at hv0; cases hv0
     | some o =>
      rw [e] at hv0
      rw [show o = some v from hv0]
    obtain ⟨m, hm, hl⟩ := I3.loc
    obtain ⟨u, ru, lk⟩ := hl i0 y v hn hZ (.inr (.inl hk))
    refine ⟨u, ru, .inr ⟨.inl hk2, ?_⟩⟩
    rcases lk with ⟨a, _⟩ | ⟨_, c, hc, hcell⟩
    ·have a' : X.env.scope.names.lookup y = some .local := a
     have hk' : X.env.scope.names.lookup y = some .cell := hk
     rw [hk'] at a'
     cases a'
    ·have hfr : (y, NameKind.free) ∈ scope.names := by
      have hmem := mem_of_lookup hk2
      unfold relabelN at hmem
      obtain ⟨⟨n, k0⟩, hn0, en⟩ := List.mem_map.mp hmem
      dsimp only at en
      split at en
      ·rename_i hc0
       simp only [Bool.and_eq_true] at hc0
       have hk0 : k0 = .free := by simpa using hc0.1.1
       cases en
       rw [<- hk0]
       exact hn0
      ·cases en
       exact absurd rfl (ok.nocell _ hn0)
     exact ⟨c, closOf_has hc hfr, hcell.keeps hold⟩
  cell := fun y c e => by
   obtain ⟨v, hv⟩ := I3.cell y c (hclos _ _ e)
   exact ⟨v, hv.keeps hold⟩
  free := I3.fresh
  freeC := fun y c e => I3.freeC y c (hclos _ _ e)
  pin := fun q hq => by cases hq
  hok := I3.hok.kept hold
  len := by
   show (none :: caps fr Z).length = (x :: ys).length
   rw [List.length_cons, List.length_cons, ok.len]
   unfold caps
   rw [List.length_map] }
 have hxl : (cxComp X x ys scope h3.objs.size { s2 with heap := h3 } H3 fp).env.scope.names.lookup x = some .local := ok.xl
 have pgx : PG (cxComp X x ys scope h3.objs.size { s2 with heap := h3 } H3 fp) (.Name x px) (gName 0) := pg_name (i := 0) ok.nd rfl (.inl hxl) (.inr hxl)
 have pel := hE h3.objs.size { s2 with heap := h3 } H3 fp
 have ptl := hT h3.objs.size { s2 with heap := h3 } H3 fp
 obtain ⟨W, ⟨m0, w0⟩, turn⟩ := W0
 have stat : ∀ {H' : Hp}, (∀ b ∈ fp, H' b = none) -> ∀ b ∈ fp, FpOk (cxComp X x ys scope h3.objs.size { s2 with heap := h3 } H3 fp) [] H' b := fun hn b hb =>
  ⟨hn b hb, (Yok.exf b hb).1, Yok.exfs b hb, .inl hb, (Yok.exf b hb).2, fun q hq => by cases hq⟩
 have loop : codeAny (model X.prog X.w) X.A (.compLoop (.ListComp elt [⟨.Name x px, iter, [cnd], 0⟩] scope pos) 0 (.ref it) (.ref p) (compEnvC scope (closOf X.env.cells scope.names) h3.objs.size X.env))
   (compPost (model X.prog X.w) X.A X.xe use Qv (.ref p) h3.objs.size) { s2 with heap := h₁, toks := s2.toks + ([] : List (Str × Value)).length } := by
  refine compLoop_listT (fun n s' => ∃ i zs v0 H', Inv (cxComp X x ys scope h3.objs.size { s2 with heap := h3 } H3 fp) [] (v0 :: caps fr Z) H' s' /\ tn i s'.heap /\ (∀ b ∈ fp, H' b = none) /\ W i n zs H') ?_ m0
   ⟨0, [], none, H3, IY, T.keep _ _ _ st3 fun b hb o e => hold b o e, fH3, w0⟩
  rintro n s5 ⟨i, zs, v0, H5, I5, st5, fr5, w5⟩
  obtain ⟨hacc, turn5⟩ := turn i n zs H5 w5
  rcases turn5 with ⟨stop, qn⟩ | ⟨go, hlen, step⟩
  ·refine thn (T.done (cxComp X x ys scope h3.objs.size { s2 with heap := h3 } H3 fp) rfl rfl rfl hcalm i [] s5 _ H5 _ I5 (stat fr5) st5 stop) fun r s6 ⟨hr, I6⟩ => ?_
   subst hr
   obtain ⟨m6, n6, _⟩ := I6.loc
   refine fin p h3.objs.size H5 s6 m6 (I3.call' I6.os I6.base I6.hok I6.bare fun b hb => ⟨(f2 b hb).2.2.2.1, (f2 b hb).2.1, (f2 b hb).2.2.2.2.1, (f2 b hb).2.2.2.2.2⟩) n6 I6.free (Nat.ne_of_gt hlt3) I3.sz (fun y c e => Nat.ne_of_lt (hcell3 y c e)) (fun q hq => ?_) qn
   exact Nat.ne_of_lt (Heap.lt_size (I3.pin q hq).1)
  ·refine thn (T.item (cxComp X x ys scope h3.objs.size { s2 with heap := h3 } H3 fp) rfl rfl rfl hcalm i [] s5 _ H5 _ I5 (stat fr5) st5 go) fun r s6 ⟨u, hr, h6⟩ => ?_
   subst hr
   refine thn h6 fun _ s7 ⟨xv, H7, I7, r7, y7, st7, fr7⟩ => ?_
   have I7' := I7.pinned (stat fr7) (T.obj _ _ st7)
   refine thn (pgx _ s7 _ H7 xv u (fun Z' H' => Z' = some xv :: caps fr Z /\ H' = H7) I7' r7 ⟨rfl, rfl⟩) fun _ s8 ⟨Z8, H8, I8, e8, e8'⟩ => ?_
   subst e8 e8'
   refine thn (ptl _ s8 _ H8 _ I8 (step xv H8 y7)) fun bb s8' ⟨H8', I8', hb⟩ => ?_
   cases bb with
   | false =>
    obtain ⟨m', hm', w9⟩ := hb
    refine ⟨m', hm', i + 1, zs, some xv, _, I8'.unpinned, T.keep _ _ _ st7 fun b hb o e => (I8'.pin (b, o) (List.mem_append_right _ (List.mem_append_right _ (mem_pinsAt hb e)))).1, fun b hb => ?_, w9⟩
    obtain ⟨o, e, d⟩ := T.obj _ _ st7 b hb
    exact (I8'.pin (b, o) (List.mem_append_right _ (List.mem_append_right _ (mem_pinsAt hb e)))).2.1
   | true =>
   refine thn (pel _ s8' _ H8' _ I8' hb) fun yv s9 ⟨v9, H9, I9, r9, hp9, m', hm', w9⟩ => ?_
   refine thn (mt_append _ s9 _ H9 (.ref p) [v9] (.ref p) [yv] (fun _ H' => H' = upd H9 p (.lst (zs ++ [v9]))) I9 rfl (.cons r9 .nil) ⟨p, zs, v9, rfl, rfl, hp9, hlen, rfl⟩) fun _ s10 ⟨_, H10, I10, _, e10⟩ => ?_
   subst e10
   refine ⟨m', hm', i + 1, zs ++ [v9], some xv, _, I10.unpinned, T.keep _ _ _ st7 fun b hb o e => (I10.pin (b, o) (List.mem_append_right _ (List.mem_append_right _ (mem_pinsAt hb e)))).1, fun b hb => ?_, w9⟩
   obtain ⟨o, e, d⟩ := T.obj _ _ st7 b hb
   exact (I10.pin (b, o) (List.mem_append_right _ (List.mem_append_right _ (mem_pinsAt hb e)))).2.1
 exact codeAny_compStart_list loop (T.self X.A 0 _ _ _ (T.keep _ _ _ st3 fun b hb o e => hold b o e) loop)
theorem pe_compT (hcalm : X.calm = true) (hi : PI X (.Name x px) iter wi) (hsc : X.env.scope = sc0) (hN : X.N = N0) (ok : CompOk sc0 N0 scope x ys fr)
  (hT : ∀ C s H ex, PT (cxComp X x ys scope C s H ex) cnd tc) (hE : ∀ C s H ex, PE (cxComp X x ys scope C s H ex) elt te) (hs : ∀ v, foldedSetIterable iter X.env v = pure v := by intro _; rfl) :
  PE X (.ListComp elt [⟨.Name x px, iter, [cnd], 0⟩] scope pos) (tCompT wi fr tc te) := by
 intro pins s Z H Q I h
 rw [eval_ListComp]
 refine comp_coreT (use := none) (Qv := EP X pins Z Q) (Q := Q) hcalm hi hsc hN ok hT hE I h hs fun p C H' s' m I' hn h0 h1 h2 h3 h4 q => ?_
 refine ⟨m, hn, fun h' sb => ⟨.ref p, H', I'.turned (t' := s'.toks) (fun b o hb e => sb.extBut b o hb e) h0 (Ne.symm (Ne.symm h1)) (.inr h2) h3 h4, rfl, q⟩⟩
theorem ps_setCT {i : Nat} {y : Str} {py spos : Pos} (hcalm : X.calm = true) (hnd : X.N.Nodup) (hiN : X.N[i]? = some y) (hy : Loc X.env.scope y) (hi : PI X (.Name x px) iter wi) (hsc : X.env.scope = sc0) (hN : X.N = N0) (ok : CompOk sc0 N0 scope x ys fr)
  (hT : ∀ C s H ex, PT (cxComp X x ys scope C s H ex) cnd tc) (hE : ∀ C s H ex, PE (cxComp X x ys scope C s H ex) elt te) (hsw : swapsWith (.ListComp elt [⟨.Name x px, iter, [cnd], 0⟩] scope pos) (some (.Name y py)) spos.line X.env = pure true := by rfl)
  (hs : ∀ v, foldedSetIterable iter X.env v = pure v := by intro _; rfl) (hf : X.fn y = true \/ X.env.scope.names.lookup y = some .local := by first | exact .inl rfl | exact .inr rfl | assumption) :
  PS X (.Assign [.Name y py] (.ListComp elt [⟨.Name x px, iter, [cnd], 0⟩] scope pos) spos) (tAsg (tCompT wi fr tc te) (gName i)) := by
 intro pins s Z H D I h
 rw [exec_Assign_Name_used _ _ _ _ hsw]
 refine wpAny_bind (wpAny_standAt (wpAny_bind ?_))
 show wpAny _ X.A (do let _ <- comprehension (.ListComp elt [⟨.Name x px, iter, [cnd], 0⟩] scope pos) scope X.env _ (newList []) false (eval iter X.env) (some (assign (.Name y py) X.env))) _ _ s
 refine wpAny_bind (thn (comp_coreT (use := some (assign (.Name y py) X.env)) (Qv := fun _ s' => SP X pins D .next s') (Q := fun v H' => D.nx (Z.set i (some v)) H') hcalm hi hsc hN ok hT hE I h hs fun p C H' s' m I' hn h0 h1 h2 h3 h4 q => ?_) fun _ s' hq => wpAny_pure (wpAny_pure hq))
 show wpAny _ X.A (assign (.Name y py) X.env (.ref p)) _ _ s'
 refine wpAny_assign_Name (store_ok2 (v := .ref p) I' hnd hiN hy rfl (fun s'' I'' ⟨a, sb, ha⟩ => ?_) hf)
 have hCa : C ≠ a := by
  rcases ha with e | e
  ·rw [e]; exact h1
  ·exact (h3 y a e).symm
 refine ⟨m, hn.sameBut sb hCa, fun h' sb' => ⟨_, H', I''.turned (t' := s''.toks) (fun b o hb e => sb'.extBut b o hb e) h0 h1 (.inr h2) h3 h4, q⟩⟩
end
section
variable {X : Cx}
theorem op_catTA : OpR X (binaryOp .Add) (fun x y H Q => ∃ a b xs ys, x = .ref a /\ y = .ref b /\ SqT X.K H a xs /\ SqT X.K H b ys /\ xs.length + ys.length <= sizeLine /\ (xs = [] -> Q (.ref b) H) /\ (xs ≠ [] -> ys = [] -> Q (.ref a) H) /\
  (xs ≠ [] -> ys ≠ [] -> ∀ p, H p = none -> Q (.ref p) (upd H p (.tup (xs ++ ys))))) := by
 intro pins s Z H x y v u Q I rx ry h
 obtain ⟨a, b, xs, ys, rfl, rfl, ha, hb, hz, q0, q1, q2⟩ := h
 by_cases hx : xs = []
 ·subst hx
  cases rx
  cases ry
  obtain ⟨its, r1, p1, _⟩ := I.tuple ha
  obtain ⟨its2, r2, p2, _⟩ := I.tuple hb
  cases r1
  obtain ⟨⟨cls, dd, data, sl⟩, ho, hc, n, hd⟩ := id p1
  obtain ⟨⟨cls2, dd2, data2, sl2⟩, ho2, hc2, n2, hd2⟩ := id p2
  simp only at hc hd hc2 hd2
  subst hc hd hc2 hd2
  exact concat_meets ⟨_, ho, rfl⟩ ⟨_, ho2, rfl⟩ noFill_tuple_add seq_tuple_add PySem.F.slot_tuple_add PySem.F.entry_tuple_add (PySem.F.args_tuple_add_2 _ _)
   (tuple_addW0 a b #[] its2.toArray n n2 dd dd2 sl sl2 rfl) ⟨ho, ho2, ⟨.ref b, H, I, rfl, q0 rfl⟩⟩
 ·exact op_catT pins s Z H _ _ v u Q I rx ry ⟨a, b, xs, ys, rfl, rfl, ha, hb, hx, hz, q1 hx, q2 hx⟩
end
end L2
namespace HT
open PySem PyProof.Rows
open PySem.AutoSeq1 (wpAny_loadPart')
section
variable {prog : Program} {w : World} {A : Around} {s : Shared} {E : Value -> Shared -> Prop}
noncomputable def eO (it : Addr) : Obj := { cls := .type "enumerate", data := .fields #[.none, .bool false, .ref it, rawInt 0, .none, .none] }
theorem enum_newT (l : Addr) (o : Obj) (items : Array Value) : Meets (Builtin.«enumerate.__new__» ⟨[.type "enumerate", .ref l], []⟩)
  (fun _ R s => s.heap.get? l = some o /\ s.heap.IsTuple l items /\ R (.ok (.ret (.ref (s.heap.push (tIt l)).objs.size))) { s with heap := (s.heap.push (tIt l)).push (eO s.heap.objs.size) }) :=
 .of_wp fun prog w A R s h => by
  obtain ⟨hp, g, d, tk, os⟩ := s
  obtain ⟨hl, a1, h⟩ := h
  have hsub := sub_enumerate
  have b1 : Heap.IsTuple (Shared.heap ⟨hp, g, d, tk, os⟩) l items := a1
  wp_walk using wpAny_loadPart' hl
  refine wpAny_stack_any fun st => wpAny_pure ?_
  split
  ·rename_i c _ _ _ _ _
   cases (c == Value.type "enumerate") <;> (wp_walk using wpAny_loadPart' hl, wpAny_pyIter_tuple b1; exact ⟨_, rfl, h⟩)
  ·wp_walk using wpAny_loadPart' hl, wpAny_pyIter_tuple b1
   exact ⟨_, rfl, h⟩
theorem call_enumT {l : Addr} {items : Array Value} {Q : Value -> Shared -> Prop} (a1 : s.heap.IsTuple l items)
  (q : ∀ h', IsEnum h' (s.heap.objs.size + 1) s.heap.objs.size 0 .none -> h'.IsTupleIter s.heap.objs.size l 0 -> (∀ b o, s.heap.get? b = some o -> h'.get? b = some o) -> Q (.ref (s.heap.objs.size + 1)) { s with heap := h' }) :
  wpAny (model prog w) A (call (.type "enumerate") [.ref l]) Q E s := by
 obtain ⟨o, ho, _⟩ := id a1
 refine callType_new PySem.F.called_enumerate (by decide) (PySem.F.typeCall_enumerate_1 _) (PySem.F.newCall_enumerate_1 _) (fun obj => PySem.F.args_object_init_2 obj _) PySem.F.entry_enumerate_new (enum_newT l o items) ⟨ho, a1, ?_⟩
 have z1 : (s.heap.push (tIt l)).objs.size = s.heap.objs.size + 1 := Heap.size_push ..
 have g2 : ((s.heap.push (tIt l)).push (eO s.heap.objs.size)).get? (s.heap.push (tIt l)).objs.size = some (eO s.heap.objs.size) := Heap.get?_push_size _ rfl
 have g1 : ((s.heap.push (tIt l)).push (eO s.heap.objs.size)).get? s.heap.objs.size = some (tIt l) := Heap.get?_push_of_some _ (Heap.get?_push_size _ rfl)
 show _ /\ _
 rw [z1] at g2 ⊢
 exact ⟨⟨_, g2, rfl⟩, q _ g2 ⟨_, g1, rfl, rfl⟩ fun b o x => Heap.get?_push_of_some _ (Heap.get?_push_of_some _ x)⟩
end
end HT
namespace L2
open PySem PySem.Spec PyProof.Rows
noncomputable def Ite (l : Addr) : It :=
 ⟨fun i H => ∃ xs x, H l = some (.tup xs) /\ xs[i]? = some x,
  fun i H v H' => ∃ T x, H T = none /\ v = .ref T /\ H' = upd H T (.tup [.int (i : Int), x]) /\ ∀ xs, H l = some (.tup xs) -> xs[i]? = some x,
  fun i H => ∃ xs, H l = some (.tup xs) /\ xs.length = i⟩
noncomputable def EnAt (e it l : Addr) (i : Nat) (h : Heap) : Prop := (∃ old, IsEnum h e it (i : Int) old) /\ HT.SIter true h it l i
theorem fp2 {e it b : Addr} (h : b ∈ [e, it]) : b = e \/ b = it := by simpa using h
theorem turn_enum {P : Program} {w : World} {K : PySem.W.Frag} {es : List Expr} {kk : Nat} {tpos : Pos} (e it l : Addr) (nd : e ≠ it) : Turn P w K (.Tuple es kk tpos) (Ite l) [e, it] e (EnAt e it l) := by
 have ap : ∀ {X : Cx} {pins : List (Addr × Obj)} {H : Hp} {xs : List V}, (∀ b ∈ [e, it], FpOk X pins H b) -> H l = some (.tup xs) -> e ≠ l /\ l ≠ it := by
  intro X pins H xs hf h1
  have a : ∀ b ∈ [e, it], b ≠ l := fun b hb => (ne_of_none h1 (hf b hb).1).symm
  exact ⟨a e (by simp), Ne.symm (a it (by simp))⟩
 refine ⟨by simp, fun i h st b hb => ?_, fun i h h' st k => ?_, ?_, ?_, fun _ _ _ _ _ st h => wpAny_pyIter_enum st.1.choose_spec h⟩
 ·obtain ⟨⟨old, h1⟩, h2⟩ := st
  rcases fp2 hb with rfl | rfl
  ·exact ⟨_, h1, fun v e => nomatch e⟩
  ·exact h2.obj
 ·obtain ⟨⟨old, h1⟩, h2⟩ := st
  exact ⟨⟨old, k e (by simp) _ h1⟩, h2.at fun o z => k it (by simp) o z⟩
 ·intro X hP hw hK hc i pins s Z H E I hf st hg
  subst hP hw hK
  obtain ⟨xs, x, hx, ex⟩ := hg
  obtain ⟨its, r1, q1, _⟩ := I.seqS (c := true) hx
  obtain ⟨u, hu, ru⟩ := r1.get ex
  obtain ⟨⟨old, z0⟩, s1⟩ := st
  obtain ⟨a1, a2⟩ := ap hf hx
  refine wpAny_pyNext_enum_itemD (HT.draws_seq (A := X.A.in1) true (I.ok.hd hc) it l a2 its.toArray) z0 ⟨s1, q1⟩ (by rw [List.size_toArray]; exact (List.getElem?_eq_some_iff.mp hu).1) nd
   (by simp only [List.mem_cons, List.not_mem_nil, or_false, not_or]; exact ⟨nd, a1⟩) fun x' h' tk px z1 t1 pr _ kk => ?_
  have ex' : x' = u := by
   have p1 : its[i]? = some x' := by simpa using px
   rw [hu] at p1; exact (Option.some.inj p1).symm
  subst ex'
  refine ⟨_, rfl, wpAny_letOwnedTupleGo_enum z1 fun h'' z2 sb => ?_⟩
  have lt : ∀ {b : Addr} {ob : Obj}, s.heap.get? b = some ob -> b ≠ s.heap.objs.size := fun e => Nat.ne_of_lt (Heap.lt_size e)
  have fT : H s.heap.objs.size = none := I.hok.fresh (Nat.le_refl _)
  have keep : ∀ b ob, b ∉ [e, it] -> s.heap.get? b = some ob -> h''.get? b = some ob := fun b ob hb z => by
   simp only [List.mem_cons, List.not_mem_nil, or_false, not_or] at hb
   exact sb.extBut b ob hb.1 (kk b ob hb.1 hb.2 z)
  have trk : ∀ b uo, H b = some uo -> b ∉ [e, it] := fun b uo z hb => by rw [(hf b hb).1] at z; cases z
  have ptT := sb.extBut _ _ (Ne.symm (lt z0)) pr
  have I2 : Inv X pins Z (upd H s.heap.objs.size (.tup [.int (i : Int), x])) { s with heap := h'', toks := tk + 1 } := by
   refine I.step (g' := s.gens) (d' := s.drawn) (ch := [e, it]) (fun b hb => ?_) (fun b ob _ _ hb z _ => keep b ob hb z) (fun b ob _ _ hb z _ => ⟨ob.slots, keep b ob hb z⟩) (fun b ob hb z n => by rw [upd_ne (lt z)]; exact n)
    (fun b ob hb z => ⟨ob, keep b ob hb z⟩) (fun b zs z => by rw [upd_ne (ne_of_none z fT)]; exact z) (fun b ob uo z => by rw [upd_ne (ne_of_none z fT)]; exact z) (fun b ps z => ⟨#[], by rw [upd_ne (ne_of_none z fT), z]; simp⟩) (fun m hm => ?_) (fun b uo z => ?_) I.bare
   ·obtain ⟨_, f1, _, f3, f4, f5⟩ := hf b hb
    exact ⟨f3, f1, f4, f5⟩
   ·obtain ⟨ob, es', ep, ho, r⟩ := hm
    exact ⟨ob, es', ep, keep _ ob (fun hb => (hf _ hb).2.1 rfl) ho, r⟩
   ·by_cases hb : b = s.heap.objs.size
    ·subst hb
     rw [upd_same] at z
     cases z
     exact ⟨by show 2 <= sizeLine; decide, [.int (i : Int) tk, x'], .cons ⟨tk, rfl⟩ (.cons ru .nil), _, ptT, rfl, _, rfl⟩
    ·rw [upd_ne hb] at z
     refine (I.hok b uo z).stay (fun c' v' hc' q => keep c' v' ?_ q) (fun c' q => by rw [upd_ne (ne_of_none q fT)]; exact q) fun c' zs q => by rw [upd_ne (ne_of_none q fT)]; exact q
     rcases hc' with h | h
     ·rw [h]; exact trk b uo z
     ·exact trk c' _ h
  refine ⟨.ref s.heap.objs.size, _, I2, rfl, ⟨_, x, fT, rfl, rfl, fun xs' h1 => ?_⟩, ⟨⟨_, by rw [Int.natCast_add]; exact z2⟩, t1.1.at fun o z => sb.extBut _ o (Ne.symm nd) z⟩, fun b hb => ?_⟩
  ·rw [hx] at h1
   cases h1
   exact ex
  ·have hb' : ∃ ob, s.heap.get? b = some ob := by
    rcases fp2 hb with rfl | rfl
    ·exact ⟨_, z0⟩
    ·obtain ⟨ob, z, _⟩ := s1.obj; exact ⟨ob, z⟩
   obtain ⟨ob, z⟩ := hb'
   rw [upd_ne (lt z)]
   exact (hf b hb).1
 ·intro X hP hw hK hc i pins s Z H E I hf st hg
  subst hP hw hK
  obtain ⟨xs, hx, l'⟩ := hg
  obtain ⟨its, r1, q1, _⟩ := I.seqS (c := true) hx
  obtain ⟨⟨old, z0⟩, s1⟩ := st
  obtain ⟨a1, a2⟩ := ap hf hx
  have hi : i = its.toArray.size := by rw [List.size_toArray, <- l']; exact r1.length
  rw [hi] at s1
  refine wpAny_pyNext_enum_endD (HT.draws_seq (A := X.A.in1) true (I.ok.hd hc) it l a2 its.toArray) z0 ⟨s1, q1⟩ fun h' eb => ⟨rfl, ?_⟩
  exact I.turned (t' := s.toks) (it := it) (fun b ob hb z => eb b ob hb z) (hf it (by simp)).1 (hf it (by simp)).2.1 (hf it (by simp)).2.2.2.1 (hf it (by simp)).2.2.2.2.1 (hf it (by simp)).2.2.2.2.2
noncomputable def iEnum (ta : TA) : TI := fun Z H R => ta Z H fun vs H1 => ∃ l xs, vs = [.ref l] /\ H1 l = some (.tup xs) /\ R (Ite l) H1
theorem pi_enum {X : Cx} {es : List Expr} {kk : Nat} {tpos : Pos} {a : Expr} {ta : TA} {p pos : Pos} (hg : Gl X "enumerate") (hm : X.mg "enumerate" = none) (ha : PA X [a] ta) (hs : starEach [a] X.env = [(false, eval a X.env)] := by rfl) :
  PI X (.Tuple es kk tpos) (.Call (.Name "enumerate" p) [a] [] pos) (iEnum ta) := by
 intro pins s Z H R I h
 refine Call_ (ld_blt I hg hm (show bootBuiltins "enumerate" = some (.type "enumerate") by decide +kernel) (PyProof.Rows.callWith_type1 (thn (ha pos pins s Z H _ I h) fun us s1 ⟨vs, H1, I1, r1, q1⟩ => ?_) (by rw [hs]; rfl) rfl))
 obtain ⟨l, xs, rfl, hx, q⟩ := q1
 obtain ⟨u, rfl, ru⟩ := vals1 r1
 cases (show u = Value.ref l from ru)
 obtain ⟨its, _, e1, _⟩ := I1.seqS (c := true) hx
 refine HT.call_enumT e1 fun h' a1 a2 kp => ?_
 have I2 : Inv X pins Z H1 { s1 with heap := h' } := I1.kept (t' := s1.toks) kp
 refine wpAny_pyIter_enum a1 ?_
 refine ⟨s1.heap.objs.size + 1, [s1.heap.objs.size + 1, s1.heap.objs.size], _, _, H1, rfl, I2, turn_enum _ _ l (Nat.succ_ne_self _), ⟨⟨_, a1⟩, a2⟩, fun b hb => ?_, q⟩
 have hb' : s1.heap.objs.size <= b := by rcases fp2 hb with rfl | rfl <;> lia
 exact I1.fpOk hb' (I1.hok.fresh hb')
section
variable {X : Cx} {x x2 : Str} {px px2 tpos pos fpos : Pos} {kk : Nat} {iter elt : Expr} {scope sc0 : Scope} {N0 ys : List Str} {fr : List Nat} {wi : TI} {te : TE}
theorem ps_setC2 {i : Nat} {y : Str} {py spos : Pos} (hcalm : X.calm = true) (hnd : X.N.Nodup) (hiN : X.N[i]? = some y) (hy : Loc X.env.scope y) (hi : PI X (.Tuple [.Name x px, .Name x2 px2] kk tpos) iter wi) (hsc : X.env.scope = sc0) (hN : X.N = N0) (ok : CompOk2 sc0 N0 scope x x2 ys fr)
  (hE : ∀ C s H ex, PE (cxComp2 X x x2 ys scope C s H ex) elt te) (hsw : swapsWith (.ListComp elt [⟨.Tuple [.Name x px, .Name x2 px2] kk tpos, iter, [], 0⟩] scope pos) (some (.Name y py)) spos.line X.env = pure true := by rfl)
  (hs : ∀ v, foldedSetIterable iter X.env v = pure v := by intro _; rfl) (hf : X.fn y = true \/ X.env.scope.names.lookup y = some .local := by first | exact .inl rfl | exact .inr rfl | assumption) :
  PS X (.Assign [.Name y py] (.ListComp elt [⟨.Tuple [.Name x px, .Name x2 px2] kk tpos, iter, [], 0⟩] scope pos) spos) (tAsg (tComp2 wi fr te) (gName i)) := by
 intro pins s Z H D I h
 rw [exec_Assign_Name_used _ _ _ _ hsw]
 refine wpAny_bind (wpAny_standAt (wpAny_bind ?_))
 show wpAny _ X.A (do let _ <- comprehension (.ListComp elt [⟨.Tuple [.Name x px, .Name x2 px2] kk tpos, iter, [], 0⟩] scope pos) scope X.env _ (newList []) false (eval iter X.env) (some (assign (.Name y py) X.env))) _ _ s
 refine wpAny_bind (thn (comp_core2 (use := some (assign (.Name y py) X.env)) (Qv := fun _ s' => SP X pins D .next s') (Q := fun v H' => D.nx (Z.set i (some v)) H') hcalm hi hsc hN ok hE I h hs fun p C H' s' m I' hn h0 h1 h2 h3 h4 q => ?_) fun _ s' hq => wpAny_pure (wpAny_pure hq))
 show wpAny _ X.A (assign (.Name y py) X.env (.ref p)) _ _ s'
 refine wpAny_assign_Name (store_ok2 (v := .ref p) I' hnd hiN hy rfl (fun s'' I'' ⟨a, sb, ha⟩ => ?_) hf)
 have hCa : C ≠ a := by
  rcases ha with e | e
  ·rw [e]; exact h1
  ·exact (h3 y a e).symm
 refine ⟨m, hn.sameBut sb hCa, fun h' sb' => ⟨_, H', I''.turned (t' := s''.toks) (fun b o hb e => sb'.extBut b o hb e) h0 h1 (.inr h2) h3 h4, q⟩⟩
inductive rCatTA (K : PySem.W.Frag) (x : V) (y : V) (H : Hp) (Q : VK) : Prop
 | mk : ∀ a b xs ys, (x = .ref a) -> (y = .ref b) -> (SqT K H a xs) -> (SqT K H b ys) -> (xs.length + ys.length <= sizeLine) -> ((xs = [] -> Q (.ref b) H)) -> ((xs ≠ [] -> ys = [] -> Q (.ref a) H)) -> ((xs ≠ [] -> ys ≠ [] -> ∀ p, H p = none -> Q (.ref p) (upd H p (.tup (xs ++ ys))))) -> rCatTA K x y H Q
theorem op_catTB : OpR X (binaryOp .Add) (rCatTA X.K) := by
 intro pins s Z H x y v u Q I rx ry h
 obtain ⟨a, b, xs, ys, e1, e2, h1, h2, h3, q1, q2, q3⟩ := h
 exact op_catTA pins s Z H x y v u Q I rx ry ⟨a, b, xs, ys, e1, e2, h1, h2, h3, q1, q2, q3⟩
end
theorem paired_vals {G : V -> V -> Prop} {R : Value -> Value -> Prop} (hG : ∀ v u x y, G v u -> RelV v x -> RelV u y -> R x y) : ∀ {xs ys : List V} {us ws : List Value}, Paired G xs ys -> Vals xs us -> Vals ys ws ->
  us.length = ws.length /\ ∀ j (h1 : j < us.length) (h2 : j < ws.length), R us[j] ws[j]
 | _, _, _, _, .nil, .nil, .nil => ⟨rfl, fun j h _ => absurd h (Nat.not_lt_zero _)⟩
 | _, _, _, _, .cons g p, .cons r1 r, .cons s1 s => by
  obtain ⟨l, h⟩ := paired_vals hG p r s
  refine ⟨by simp [l], fun j h1 h2 => ?_⟩
  cases j with
  | zero => exact hG _ _ _ _ g r1 s1
  | succ j => exact h j (Nat.lt_of_succ_lt_succ h1) (Nat.lt_of_succ_lt_succ h2)
end L2
namespace HT
open PySem PyProof.Rows
section
variable {prog : Program} {w : World} {A : Around} {s : Shared} {E : Value -> Shared -> Prop} {d j : Addr} {ks : List Value} {i ep : Nat}
noncomputable def VEs (h : Heap) (d : Addr) (ks : List Value) (ep : Nat) : Prop := ∃ o es, h.get? d = some o /\ o.ExactDict /\ o.data = .dict es ep /\ es.toList.map (·.val) = ks
theorem VEs.type (m : VEs s.heap d ks ep) : s.TypeIs (.ref d) "dict" := by
 obtain ⟨o, _, ho, hc, _⟩ := m
 exact ⟨o, ho, hc.1⟩
theorem VEs.keeps {h h' : Heap} (m : VEs h d ks ep) (k : ∀ o, h.get? d = some o -> h'.get? d = some o) : VEs h' d ks ep := by
 obtain ⟨o, es, ho, r⟩ := m
 exact ⟨o, es, k o ho, r⟩
theorem size_vals {es : Array DictEntry} (e : es.toList.map (·.val) = ks) : es.size = ks.length := by
 rw [<- e, List.length_map, Array.length_toList]
theorem iter_ves {r : Addr} {Q : Value -> Shared -> Prop} (hv : s.heap.IsValuesView r d) (m : VEs s.heap d ks ep)
  (q : Q (.ref s.heap.objs.size) { s with heap := s.heap.push { cls := .type "dict_valueiterator", data := .fields #[.ref d, .int 0 0, .int ks.length 0, .int ep 0] } }) : wpAny (model prog w) A (pyIter (.ref r)) Q E s := by
 obtain ⟨ov, hov, hcv, hdv⟩ := (show ∃ o, s.heap.get? r = some o /\ o.cls = .type "dict_values" /\ o.data = .fields #[.ref d] from hv)
 obtain ⟨o, es, ho, hc, hdat, hk⟩ := m
 refine wpAny_pyIter_slot hv.typeIs PySem.F.slot_dict_values_iter (wpAny_call_entry PySem.F.slot_dict_values_iter hv.typeIs PySem.F.entry_dict_values_iter ?_ (PySem.F.args_dict_values_iter_1 _))
 unfold Builtin.«dict_values.__iter__» Builtin.Dict_items.dictOf Builtin.Dict_items.newIterator
 refine wpAny_bind (wpAny_pure (wpAny_bind (wpAny_bind (wpAny_field hov hdv (x := .ref d) rfl (wpAny_pure (wpAny_bind (wpAny_bind (wpAny_dictEntries ho hdat (wpAny_bind (wpAny_dictEpoch ho hdat ?_))))))))))
 have own : Builtin.Dict_items.ownsTuple "dict_valueiterator" = false := by decide
 simp only [own, Bool.false_eq_true, if_false]
 refine wpAny_newObj_type (wpAny_pure ⟨_, rfl, "dict_valueiterator", _, ⟨_, Heap.get?_push_size _ rfl, rfl⟩, PySem.F.slot_dict_valueiterator_next.lookup, ?_⟩)
 simpa [rawInt, size_vals hk] using q
theorem call_ves {Q : Value -> Shared -> Prop} (lo : (d == sysModules) = false) (m : VEs s.heap d ks ep)
  (q : Q (.ref s.heap.objs.size) { s with heap := s.heap.push { cls := .type "dict_values", data := .fields #[.ref d] } }) : wpAny (model prog w) A (call (.builtin "dict.values") [.ref d]) Q E s := by
 have ty := m.type
 refine wpAny_call_entry PySem.F.slot_dict_values ty PySem.F.entry_dict_values ?_ (PySem.F.args_dict_values_1 _)
 refine wpAny_bind ?_
 unfold Builtin.Dict.noArgs
 refine wpAny_bind (wpAny_notOrdered_dict ty ?_)
 refine (show wpAny _ _ (pure d) _ _ s from wpAny_pure (show wpAny _ _ (Builtin.Dict.showsAll d >>= _) _ _ s from ?_))
 unfold Builtin.Dict.showsAll
 rw [if_neg (by rw [lo]; exact Bool.false_ne_true)]
 exact wpAny_bind (wpAny_pure (wpAny_bind (wpAny_newObj_type (wpAny_pure ⟨_, rfl, q⟩))))
theorem next_ves {x : Value} {Q : Option Value -> Shared -> Prop} (st : s.heap.IsValIter j d i ks.length ep) (m : VEs s.heap d ks ep) (hx : ks[i]? = some x)
  (q : ∀ h', h'.IsValIter j d (i + 1) ks.length ep -> Heap.SameBut j s.heap h' -> Q (some x) { s with heap := h' }) : wpAny (model prog w) A (pyNext (.ref j)) Q E s := by
 have ty := st.typeIs
 obtain ⟨o, ho, hc, hd⟩ := id st
 obtain ⟨od, es, hod, hcd, hdd, hk⟩ := m
 have hz := size_vals hk
 have hlt : i < ks.length := (List.getElem?_eq_some_iff.mp hx).1
 have hes : i < es.size := by lia
 have hkey : es[i].val = x := by
  have e1 : (es.toList.map (·.val))[i]? = some x := by rw [hk]; exact hx
  rw [List.getElem?_map, Array.getElem?_toList, Array.getElem?_eq_getElem hes] at e1
  exact Option.some.inj e1
 unfold pyNext
 refine wpAny_bind (wpAny_attempt (wpAny_callSpecial?_slot (name := Str.ofString "__next__") ty PySem.F.slot_dict_valueiterator_next (wpAny_call_entry PySem.F.slot_dict_valueiterator_next ty PySem.F.entry_dict_valueiterator_next ?_ (PySem.F.args_dict_valueiterator_next_1 _))))
 refine wpAny_bind (wpAny_pure (wpAny_bind (wpAny_bind ?_)))
 first | refine wpAny_bind (wpAny_typeNameOfWhole_valiter ty (wpAny_pure (wpAny_bind (wpAny_fieldsOf ho hd ?_)))) | refine wpAny_bind (wpAny_typeNameOf_valiter ty (wpAny_pure (wpAny_bind (wpAny_fieldsOf ho hd ?_))))
 have own : Builtin.Dict_items.ownsTuple "dict_valueiterator" = false := by decide
 simp only [own, Bool.false_eq_true, if_false]
 refine (show wpAny _ _ (if (Value.ref d == Value.none) = true then _ else _) _ _ s from ?_)
 rw [if_neg fun b0 : (Value.ref d == Value.none) = true => Bool.false_ne_true b0]
 refine wpAny_bind (wpAny_pure (wpAny_bind (wpAny_dictEntries hod hdd ?_)))
 rw [if_neg (by rw [hz]; simp)]
 refine wpAny_bind (wpAny_pure (wpAny_bind (wpAny_dictEpoch hod hdd ?_)))
 rw [if_neg (by simp)]
 refine wpAny_pure ?_
 simp only [show ¬ ((i : Int) < 0) from by lia, if_false, Int.toNat_natCast, Array.getElem?_eq_getElem hes]
 refine wpAny_bind ?_
 first | refine wpAny_bind (wpAny_typeNameOfWhole_valiter ty (wpAny_pure (wpAny_bind (wpAny_isOneOf_valiter ty ?_)))) | refine wpAny_bind (wpAny_typeNameOf_valiter ty (wpAny_pure (wpAny_bind (wpAny_isOneOf_valiter ty ?_))))
 refine (show wpAny _ _ (setField (.ref j) 1 (rawInt ((i : Int) + 1)) >>= _) _ _ s from ?_)
 refine wpAny_bind (wpAny_setField ho hd (by simp) ?_)
 have st' : (s.heap.update j (Obj.mapFields (·.setIfInBounds 1 (rawInt ((i : Int) + 1))))).IsValIter j d (i + 1) ks.length ep := by
  refine ⟨_, Heap.get?_update_self _ ho (Obj.isFreed_of_fields (Obj.data_mapFields hd _)), (Obj.cls_mapFields ..).trans hc, ?_⟩
  rw [Obj.data_mapFields hd]; simp [rawInt]
 refine wpAny_bind (wpAny_holding (wpAny_bind (wpAny_isOneOf_valiter (s := { s with heap := s.heap.update j (Obj.mapFields (·.setIfInBounds 1 (rawInt ((i : Int) + 1)))) }) st'.typeIs (wpAny_bind (wpAny_isOneOf_valiter (s := { s with heap := s.heap.update j (Obj.mapFields (·.setIfInBounds 1 (rawInt ((i : Int) + 1)))) }) st'.typeIs ?_)))))
 refine (show wpAny _ _ (pure es[i].val) _ _ _ from ?_)
 rw [hkey]
 exact wpAny_pure (wpAny_pure ⟨_, rfl, wpAny_pure (q _ st' (Heap.SameBut.update ..))⟩)
theorem end_ves {Q : Option Value -> Shared -> Prop} (hh : A.handled = none) (st : s.heap.IsValIter j d i ks.length ep) (m : VEs s.heap d ks ep) (hx : ks.length <= i)
  (q : ∀ h', Heap.ExtBut j s.heap h' -> Q none { s with heap := h' }) : wpAny (model prog w) A (pyNext (.ref j)) Q E s := by
 have ty := st.typeIs
 obtain ⟨o, ho, hc, hd⟩ := id st
 obtain ⟨od, es, hod, hcd, hdd, hk⟩ := m
 have hz := size_vals hk
 unfold pyNext
 refine wpAny_bind (wpAny_attempt (wpAny_callSpecial?_slot (name := Str.ofString "__next__") ty PySem.F.slot_dict_valueiterator_next (wpAny_call_entry PySem.F.slot_dict_valueiterator_next ty PySem.F.entry_dict_valueiterator_next ?_ (PySem.F.args_dict_valueiterator_next_1 _))))
 refine wpAny_bind (wpAny_pure (wpAny_bind (wpAny_bind ?_)))
 first | refine wpAny_bind (wpAny_typeNameOfWhole_valiter ty (wpAny_pure (wpAny_bind (wpAny_fieldsOf ho hd ?_)))) | refine wpAny_bind (wpAny_typeNameOf_valiter ty (wpAny_pure (wpAny_bind (wpAny_fieldsOf ho hd ?_))))
 have own : Builtin.Dict_items.ownsTuple "dict_valueiterator" = false := by decide
 simp only [own, Bool.false_eq_true, if_false]
 refine (show wpAny _ _ (if (Value.ref d == Value.none) = true then _ else _) _ _ s from ?_)
 rw [if_neg fun b0 : (Value.ref d == Value.none) = true => Bool.false_ne_true b0]
 refine wpAny_bind (wpAny_pure (wpAny_bind (wpAny_dictEntries hod hdd ?_)))
 rw [if_neg (by rw [hz]; simp)]
 refine wpAny_bind (wpAny_pure (wpAny_bind (wpAny_dictEpoch hod hdd ?_)))
 rw [if_neg (by simp)]
 refine wpAny_pure ?_
 have hge : es.size <= i := by lia
 simp only [show ¬ ((i : Int) < 0) from by lia, if_false, Int.toNat_natCast, Array.getElem?_eq_none hge]
 refine wpAny_bind ?_
 first | refine wpAny_bind (wpAny_typeNameOfWhole_valiter ty (wpAny_pure ?_)) | refine wpAny_bind (wpAny_typeNameOf_valiter ty (wpAny_pure ?_))
 refine (show wpAny _ _ (setField (.ref j) 0 .none >>= _) _ _ s from wpAny_bind (wpAny_setField ho hd (by simp) ?_))
 refine (show wpAny _ _ (newExc (.type "StopIteration") [] >>= _) _ _ _ from wpAny_bind ?_)
 simp only [newExc, newTuple]
 refine wpAny_bind (wpAny_newObj_type (wpAny_bind (m := firstArgMember _ _) (wpAny_of_eq (a := Value.none) (by first | rfl | (simp only [firstArgMember]; rfl)) (wpAny_newObj_type ?_ (by size_fits)))) (by size_fits))
 simp only [raiseNew]
 refine wpAny_bind (wpAny_handled ?_)
 rw [show A.in1.handled = none from hh]
 refine (wpAny_bind (wpAny_pure (wpAny_throw (?_))))
 refine wpAny_bind (wpAny_isInstance (T := "StopIteration") (b := true) ⟨_, Heap.get?_push_size _ rfl, rfl⟩ isSubtype_stop (wpAny_pure (q _ ?_)))
 exact ((Heap.SameBut.update ..).extBut.push _).push _
end
section
variable {prog : Program} {w : World} {A : Around} {s : Shared} {E : Value -> Shared -> Prop}
theorem getItem_tuple_all {t sl : Addr} {items : Array Value} {vl vu : Value} {lo hi : Option Int} {Q : Value -> Shared -> Prop} (ht : IsTup s.heap t items) (hs : s.heap.IsSliceOf sl vl vu .none) (pl : IsPart vl lo) (pu : IsPart vu hi)
  (i1 : sIx items.size 0 lo = 0) (i2 : sIx items.size items.size hi = items.size) (h : Q (.ref t) s) : wpAny (model prog w) A (getItem (.ref t) (.ref sl)) Q E s := by
 obtain ⟨os, hos, hcs, hds⟩ := id hs
 have hTs : s.TypeIs (.ref sl) "slice" := ⟨os, hos, hcs⟩
 unfold getItem
 try with_reducible refine wpAny_holding ?_
 first | refine wpAny_bind (wpAny_pure ?_) | skip
 refine wpAny_bind (wpAny_sequenceKey ht.typeIs (by decide) (wpAny_bind (wpAny_callSpecial?_slot (name := Str.ofString "__getitem__") ht.typeIs PyProof.Rows.slot_tuple_getitem
  (wpAny_call_entry PyProof.Rows.slot_tuple_getitem ht.typeIs entry_tuple_getitem ?_ (args_tuple_getitem _ _)))))
 refine (show wpAny _ _ (Builtin.Tuple.tupleItemsOf (.ref t) >>= _) _ _ s from wpAny_bind (tupleItemsOf_ ht (wpAny_bind (wpAny_typeOf hTs ?_))))
 rw [if_pos (by decide)]
 refine wpAny_bind (sliceApplied_gen hs pl pu ?_)
 rw [i1, i2]
 refine (show wpAny _ _ (if (((0 : Nat) : Int) == 0 && (1 : Int) == 1 && (items.size - 0) == items.size) = true then _ else _) _ _ s from ?_)
 rw [if_pos (by simp)]
 refine wpAny_bind (m := Builtin.Tuple.tupleIsExact _) ?_
 unfold Builtin.Tuple.tupleIsExact
 refine wpAny_bind (wpAny_typeOf ht.typeIs (wpAny_pure ?_))
 rw [if_pos (by decide)]
 exact wpAny_bind (wpAny_rule (wpAny_pure ⟨_, rfl, wpAny_pure h⟩))
end
end HT
namespace L2
open PySem PySem.Spec PyProof.Rows
section
variable {X : Cx}
inductive rSlA  (x : V) (lo : Option Int) (hi : Option Int) (H : Hp) (Q : VK) : Prop
 | mk : ∀ a xs, (x = .ref a) -> (H a = some (.tup xs)) -> (∀ p H', (∀ b o, H b = some o -> H' b = some o) -> H' p = some (.tup (cutV xs lo hi)) -> Q (.ref p) H') -> rSlA x lo hi H Q
theorem sl_tupA : SlR X rSlA := by
 intro pins s Z H x v vl vu lo hi sl Q I rx hs pl pu h
 obtain ⟨a, xs, ex, hx, q⟩ := h
 by_cases hw : HT.sIx xs.length 0 lo = 0 /\ HT.sIx xs.length xs.length hi = xs.length
 ·subst ex
  cases rx
  obtain ⟨its, r, ht, hz⟩ := I.tuple (SqT.of (K := X.K) hx)
  have hl := r.length
  refine ⟨"tuple", _, PyProof.Rows.slot_tuple_getitem.lookup, ht.typeIs, HT.getItem_tuple_all ht hs pl pu (by rw [List.size_toArray, <- hl]; exact hw.1) (by rw [List.size_toArray, <- hl]; exact hw.2) ⟨.ref a, H, I, rfl, q a H (fun _ _ h => h) ?_⟩⟩
  rw [hx]
  unfold cutV
  rw [hw.1, hw.2, List.drop_zero, Nat.sub_zero, List.take_length]
 ·exact sl_tup pins s Z H x v vl vu lo hi sl Q I rx hs pl pu ⟨a, xs, ex, SqT.of hx, hw, fun p hp => q p _ (fun b o e => by rw [upd_ne (ne_of_none e hp)]; exact e) upd_same⟩
theorem dp_empty {P : Program} {w : World} {H : Hp} (h : Heap) (hb : sysModules < h.objs.size) : ObjOk P w H (h.push { cls := .type "dict", data := .dict #[] }) h.objs.size (.dP []) :=
 ⟨Nat.zero_le _, beq_eq_false_iff_ne.mpr (Ne.symm (Nat.ne_of_lt hb)), [], .nil, _, #[], 0, Heap.get?_push_size _ rfl, ⟨rfl, rfl, rfl⟩, rfl, rfl, List.nodup_nil⟩
noncomputable def tDNewP : TE := fun _ H Q => ∀ p, H p = none -> Q (.ref p) (upd H p (.dP []))
theorem pe_dnewP {pos : Pos} : PE X (.Dict [] [] pos) tDNewP := fun pins s Z H Q I h =>
 wpAny_Dict_empty ⟨.ref s.heap.objs.size, _, I.laid (a := s.heap.objs.size) (o := .dP []) (t' := s.toks) (fun _ _ q => Heap.get?_push_of_some _ q) (Nat.le_refl _) (dp_empty s.heap I.big), rfl, h _ (I.hok.fresh (Nat.le_refl _))⟩
end
end L2
namespace HT
open PySem PyProof.Rows
section
variable {prog : Program} {w : World} {A : Around} {s : Shared} {E : Value -> Shared -> Prop} {d it : Addr} {ks : List (Value × Value)} {i ep : Nat}
noncomputable def IEs (h : Heap) (d : Addr) (ks : List (Value × Value)) (ep : Nat) : Prop := ∃ o es, h.get? d = some o /\ o.ExactDict /\ o.data = .dict es ep /\ es.toList.map (fun e => (e.key, e.val)) = ks
theorem IEs.type (m : IEs s.heap d ks ep) : s.TypeIs (.ref d) "dict" := by
 obtain ⟨o, _, ho, hc, _⟩ := m
 exact ⟨o, ho, hc.1⟩
theorem IEs.keeps {h h' : Heap} (m : IEs h d ks ep) (k : ∀ o, h.get? d = some o -> h'.get? d = some o) : IEs h' d ks ep := by
 obtain ⟨o, es, ho, r⟩ := m
 exact ⟨o, es, k o ho, r⟩
theorem size_pairs {es : Array DictEntry} (e : es.toList.map (fun e => (e.key, e.val)) = ks) : es.size = ks.length := by
 rw [<- e, List.length_map, Array.length_toList]
theorem call_ies {Q : Value -> Shared -> Prop} (lo : (d == sysModules) = false) (m : IEs s.heap d ks ep)
  (q : Q (.ref s.heap.objs.size) { s with heap := s.heap.push { cls := .type "dict_items", data := .fields #[.ref d] } }) : wpAny (model prog w) A (call (.builtin "dict.items") [.ref d]) Q E s := by
 have ty := m.type
 refine wpAny_call_entry PySem.F.slot_dict_items ty PySem.F.entry_dict_items ?_ (PySem.F.args_dict_items_1 _)
 refine wpAny_bind ?_
 unfold Builtin.Dict.noArgs
 refine wpAny_bind (wpAny_notOrdered_dict ty ?_)
 refine (show wpAny _ _ (pure d) _ _ s from wpAny_pure (show wpAny _ _ (Builtin.Dict.showsAll d >>= _) _ _ s from ?_))
 unfold Builtin.Dict.showsAll
 rw [if_neg (by rw [lo]; exact Bool.false_ne_true)]
 exact wpAny_bind (wpAny_pure (wpAny_bind (wpAny_newObj_type (wpAny_pure ⟨_, rfl, q⟩))))
theorem iter_ies {r : Addr} {Q : Value -> Shared -> Prop} (hv : s.heap.IsItemsView r d) (m : IEs s.heap d ks ep)
  (q : Q (.ref s.heap.objs.size) { s with heap := s.heap.push { cls := .type "dict_itemiterator", data := .fields #[.none, .bool false, .ref d, .int 0 0, .int ks.length 0, .int ep 0, .none, .none] } }) : wpAny (model prog w) A (pyIter (.ref r)) Q E s := by
 obtain ⟨ov, hov, hcv, hdv⟩ := (show ∃ o, s.heap.get? r = some o /\ o.cls = .type "dict_items" /\ o.data = .fields #[.ref d] from hv)
 obtain ⟨o, es, ho, hc, hdat, hk⟩ := m
 refine wpAny_pyIter_slot hv.typeIs PySem.F.slot_dict_items_iter (wpAny_call_entry PySem.F.slot_dict_items_iter hv.typeIs PySem.F.entry_dict_items_iter ?_ (PySem.F.args_dict_items_iter_1 _))
 unfold Builtin.«dict_items.__iter__» Builtin.Dict_items.dictOf Builtin.Dict_items.newIterator
 refine wpAny_bind (wpAny_pure (wpAny_bind (wpAny_bind (wpAny_field hov hdv (x := .ref d) rfl (wpAny_pure (wpAny_bind (wpAny_bind (wpAny_dictEntries ho hdat (wpAny_bind (wpAny_dictEpoch ho hdat ?_))))))))))
 have own : Builtin.Dict_items.ownsTuple "dict_itemiterator" = true := by decide
 simp only [own, if_true]
 refine wpAny_newObj_type (wpAny_pure ⟨_, rfl, "dict_itemiterator", _, ⟨_, Heap.get?_push_size _ rfl, rfl⟩, PySem.F.slot_dict_itemiterator_next.lookup, ?_⟩)
  (by simp only [sizeOk, Builtin.Dict_items.ownedTupleFields, List.size_toArray, List.length_append, List.length_cons, List.length_nil, sizeLine_eq]; lia)
 simpa [rawInt, size_pairs hk, Builtin.Dict_items.ownedTupleFields] using q
theorem next_ies {x y ok ov : Value} {Q : Option Value -> Shared -> Prop} (st : IsItemIter s.heap it d i ks.length ep ok ov) (m : IEs s.heap d ks ep) (hx : ks[i]? = some (x, y))
  (q : ∀ h', IsItemIterOut h' it d (i + 1) ks.length ep x y s.heap.objs.size -> h'.get? s.heap.objs.size = some { cls := .type "tuple", data := .seq #[x, y] } ->
   (∀ b o, b ≠ it -> s.heap.get? b = some o -> h'.get? b = some o) -> Q (some (.ref s.heap.objs.size)) { s with heap := h' }) : wpAny (model prog w) A (pyNext (.ref it)) Q E s := by
 obtain ⟨hp, g, dr, tk, os⟩ := s
 obtain ⟨od, es, hod, hcd, hdd, hk⟩ := m
 have ty : Shared.TypeIs ⟨hp, g, dr, tk, os⟩ (.ref it) "dict_itemiterator" := ⟨_, st, rfl⟩
 have hz := size_pairs hk
 have hlt : i < ks.length := (List.getElem?_eq_some_iff.mp hx).1
 have hes : i < es.size := by lia
 have hkv : (es[i].key, es[i].val) = (x, y) := by
  have e1 : (es.toList.map (fun e => (e.key, e.val)))[i]? = some (x, y) := by rw [hk]; exact hx
  rw [List.getElem?_map, Array.getElem?_toList, Array.getElem?_eq_getElem hes] at e1
  exact Option.some.inj e1
 have hkx : es[i].key = x := (Prod.mk.inj hkv).1
 have hvy : es[i].val = y := (Prod.mk.inj hkv).2
 unfold pyNext
 refine wpAny_bind (wpAny_attempt (wpAny_callSpecial?_slot (name := Str.ofString "__next__") ty PySem.F.slot_dict_itemiterator_next (wpAny_call_entry PySem.F.slot_dict_itemiterator_next ty PySem.F.entry_dict_itemiterator_next ?_ (PySem.F.args_dict_itemiterator_next_1 _))))
 refine wpAny_bind (wpAny_pure (wpAny_bind (wpAny_bind ?_)))
 first | refine wpAny_bind (wpAny_typeNameOfWhole_itemiter ty (wpAny_pure (wpAny_bind (wpAny_fieldsOf st rfl ?_)))) | refine wpAny_bind (wpAny_typeNameOf_itemiter ty (wpAny_pure (wpAny_bind (wpAny_fieldsOf st rfl ?_))))
 have own : Builtin.Dict_items.ownsTuple "dict_itemiterator" = true := by decide
 simp only [own, if_true]
 refine (show wpAny _ _ (if (Value.ref d == Value.none) = true then _ else _) _ _ _ from ?_)
 rw [if_neg fun b0 : (Value.ref d == Value.none) = true => Bool.false_ne_true b0]
 refine wpAny_bind (wpAny_pure (wpAny_bind (wpAny_dictEntries hod hdd ?_)))
 rw [if_neg (by rw [hz]; simp)]
 refine wpAny_bind (wpAny_pure (wpAny_bind (wpAny_dictEpoch hod hdd ?_)))
 rw [if_neg (by simp)]
 refine wpAny_pure ?_
 simp only [show ¬ ((i : Int) < 0) from by lia, if_false, Int.toNat_natCast, Array.getElem?_eq_getElem hes]
 refine wpAny_bind ?_
 first | refine wpAny_bind (wpAny_typeNameOfWhole_itemiter ty (wpAny_pure (wpAny_bind (wpAny_isOneOf_itemiter ty ?_)))) | refine wpAny_bind (wpAny_typeNameOf_itemiter ty (wpAny_pure (wpAny_bind (wpAny_isOneOf_itemiter ty ?_))))
 refine (show wpAny _ _ (setField (.ref it) 3 (rawInt ((i : Int) + 1)) >>= _) _ _ ⟨hp, g, dr, tk, os⟩ from ?_)
 refine wpAny_bind (wpAny_setField_rec st (by simp) fun h1 e1 b1 => ?_)
 replace b1 : Heap.SameBut it hp h1 := b1
 replace e1 : IsItemIter h1 it d (i + 1) ks.length ep ok ov := by
  have e : ((i + 1 : Nat) : Int) = (i : Int) + 1 := by lia
  unfold IsItemIter
  rw [e]
  simpa [rawInt] using e1
 have ty1 : Shared.TypeIs ⟨h1, g, dr, tk, os⟩ (.ref it) "dict_itemiterator" := ⟨_, e1, rfl⟩
 refine wpAny_bind (wpAny_holding (wpAny_bind (wpAny_isOneOf_itemiter ty1 (wpAny_bind (wpAny_isOneOf_itemiter ty1 ?_)))))
 rw [hkx, hvy]
 refine (show wpAny _ _ (Builtin.Dict_items.pairFromOwner (.ref it) 6 x y) _ _ ⟨h1, g, dr, tk, os⟩ from ?_)
 unfold Builtin.Dict_items.pairFromOwner
 refine wpAny_bind (wpAny_newTuple ?_)
 have e2 : IsItemIter (h1.push { cls := .type "tuple", data := .seq #[x, y] }) it d (i + 1) ks.length ep ok ov := Heap.get?_push_of_some _ e1
 have z1 : h1.objs.size = hp.objs.size := b1.1
 have il : hp.objs.size ≠ it := Nat.ne_of_gt (Heap.lt_size st)
 have t2 : (h1.push { cls := .type "tuple", data := .seq #[x, y] }).get? hp.objs.size = some { cls := .type "tuple", data := .seq #[x, y] } := by rw [<- z1]; exact Heap.get?_push_size _ rfl
 have k2 : ∀ b o, b ≠ it -> hp.get? b = some o -> (h1.push { cls := .type "tuple", data := .seq #[x, y] }).get? b = some o := fun b o hb e => Heap.get?_push_of_some _ (b1.extBut b o hb e)
 generalize h1.push { cls := .type "tuple", data := .seq #[x, y] } = h2 at e2 t2 k2
 refine (show wpAny _ _ (Builtin.Dict_items.ownedTupleIsFree (.ref it) >>= _) _ _ ⟨h2, g, dr, tk, os⟩ from ?_)
 rw [z1]
 refine wpAny_bind ?_
 unfold Builtin.Dict_items.ownedTupleIsFree
 refine wpAny_bind (wpAny_field e2 rfl (x := .none) rfl (wpAny_pure ?_))
 simp only [if_true]
 refine wpAny_bind (wpAny_field e2 rfl (x := ok) rfl (wpAny_bind (wpAny_field e2 rfl (x := ov) rfl ?_)))
 refine wpAny_bind (wpAny_setField_rec e2 (by simp) fun h3 e3 b3 => ?_)
 replace b3 : Heap.SameBut it h2 h3 := b3
 replace e3 : IsItemIter h3 it d (i + 1) ks.length ep x ov := e3
 refine wpAny_bind (wpAny_setField_rec e3 (by simp) fun h4 e4 b4 => ?_)
 replace b4 : Heap.SameBut it h3 h4 := b4
 replace e4 : IsItemIter h4 it d (i + 1) ks.length ep x y := e4
 refine wpAny_bind (wpAny_setField_rec e4 (by simp) fun h5 e5 b5 => ?_)
 replace b5 : Heap.SameBut it h4 h5 := b5
 replace e5 : IsItemIterOut h5 it d (i + 1) ks.length ep x y hp.objs.size := e5
 refine wpAny_bind (wpAny_setField_rec e5 (by simp) fun h6 e6 b6 => ?_)
 replace b6 : Heap.SameBut it h5 h6 := b6
 replace e6 : IsItemIterOut h6 it d (i + 1) ks.length ep x y hp.objs.size := e6
 have up : ∀ b o, b ≠ it -> h2.get? b = some o -> h6.get? b = some o := fun b o hb e => b6.extBut b o hb (b5.extBut b o hb (b4.extBut b o hb (b3.extBut b o hb e)))
 exact wpAny_bind (wpAny_letGo (wpAny_pure (wpAny_pure ⟨_, rfl, wpAny_pure (q h6 e6 (up _ _ il t2) fun b o hb e => up b o hb (k2 b o hb e))⟩)))
theorem end_ies {ok ov : Value} {Q : Option Value -> Shared -> Prop} (hh : A.handled = none) (st : IsItemIter s.heap it d i ks.length ep ok ov) (m : IEs s.heap d ks ep) (hx : ks.length <= i)
  (q : ∀ h', Heap.ExtBut it s.heap h' -> Q none { s with heap := h' }) : wpAny (model prog w) A (pyNext (.ref it)) Q E s := by
 have ty : s.TypeIs (.ref it) "dict_itemiterator" := ⟨_, st, rfl⟩
 obtain ⟨od, es, hod, hcd, hdd, hk⟩ := m
 have hz := size_pairs hk
 unfold pyNext
 refine wpAny_bind (wpAny_attempt (wpAny_callSpecial?_slot (name := Str.ofString "__next__") ty PySem.F.slot_dict_itemiterator_next (wpAny_call_entry PySem.F.slot_dict_itemiterator_next ty PySem.F.entry_dict_itemiterator_next ?_ (PySem.F.args_dict_itemiterator_next_1 _))))
 refine wpAny_bind (wpAny_pure (wpAny_bind (wpAny_bind ?_)))
 first | refine wpAny_bind (wpAny_typeNameOfWhole_itemiter ty (wpAny_pure (wpAny_bind (wpAny_fieldsOf st rfl ?_)))) | refine wpAny_bind (wpAny_typeNameOf_itemiter ty (wpAny_pure (wpAny_bind (wpAny_fieldsOf st rfl ?_))))
 have own : Builtin.Dict_items.ownsTuple "dict_itemiterator" = true := by decide
 simp only [own, if_true]
 refine (show wpAny _ _ (if (Value.ref d == Value.none) = true then _ else _) _ _ s from ?_)
 rw [if_neg fun b0 : (Value.ref d == Value.none) = true => Bool.false_ne_true b0]
 refine wpAny_bind (wpAny_pure (wpAny_bind (wpAny_dictEntries hod hdd ?_)))
 rw [if_neg (by rw [hz]; simp)]
 refine wpAny_bind (wpAny_pure (wpAny_bind (wpAny_dictEpoch hod hdd ?_)))
 rw [if_neg (by simp)]
 refine wpAny_pure ?_
 have hge : es.size <= i := by lia
 simp only [show ¬ ((i : Int) < 0) from by lia, if_false, Int.toNat_natCast, Array.getElem?_eq_none hge]
 refine wpAny_bind ?_
 first | refine wpAny_bind (wpAny_typeNameOfWhole_itemiter ty (wpAny_pure ?_)) | refine wpAny_bind (wpAny_typeNameOf_itemiter ty (wpAny_pure ?_))
 refine (show wpAny _ _ (setField (.ref it) 2 .none >>= _) _ _ s from wpAny_bind (wpAny_setField st rfl (by simp) ?_))
 refine (show wpAny _ _ (newExc (.type "StopIteration") [] >>= _) _ _ _ from wpAny_bind ?_)
 simp only [newExc, newTuple]
 refine wpAny_bind (wpAny_newObj_type (wpAny_bind (m := firstArgMember _ _) (wpAny_of_eq (a := Value.none) (by first | rfl | (simp only [firstArgMember]; rfl)) (wpAny_newObj_type ?_ (by size_fits)))) (by size_fits))
 simp only [raiseNew]
 refine wpAny_bind (wpAny_handled ?_)
 rw [show A.in1.handled = none from hh]
 refine (wpAny_bind (wpAny_pure (wpAny_throw (?_))))
 refine wpAny_bind (wpAny_isInstance (T := "StopIteration") (b := true) ⟨_, Heap.get?_push_size _ rfl, rfl⟩ isSubtype_stop (wpAny_pure (q _ ?_)))
 exact ((Heap.SameBut.update ..).extBut.push _).push _
end
end HT
namespace L2
open PySem PySem.Spec PyProof.Rows
theorem Inv.freeze {X : Cx} {pins : List (Addr × Obj)} {Z : St} {H : Hp} {s : Shared} {d : Addr} {o : Obj} {kvs : List (List Key × V)} (I : Inv X pins Z H s) (hd : H d = some (.dT kvs)) (ho : s.heap.get? d = some o) : Inv X pins Z (upd H d (.frz o (.dT kvs))) s := by
 refine d_write (t' := s.toks) (h' := s.heap) I (by rw [hd]; exact True.intro) ⟨rfl, fun _ _ => rfl⟩ ⟨o, ho⟩ ⟨ho, ?_⟩
 obtain ⟨z, lo, xs, kt, r⟩ := (show ObjOk X.prog X.w H s.heap d (.dT kvs) from I.hok d _ hd)
 refine ⟨z, lo, xs, Paired.mapP kt fun p q h => ⟨h.1, ?_, h.2.2⟩, r⟩
 rw [upd_ne (fun z => by rw [z, hd] at h; cases h.2.1)]
 exact h.2.1
noncomputable def nO (o : Obj) : Nat := match o.data with
 | .dict es _ => es.size
 | _ => 0
noncomputable def epO (o : Obj) : Nat := match o.data with
 | .dict _ ep => ep
 | _ => 0
theorem frz_dict {X : Cx} {pins : List (Addr × Obj)} {Z : St} {H : Hp} {s : Shared} {d : Addr} {o : Obj} {kvs : List (List Key × V)} (I : Inv X pins Z H s) (hd : H d = some (.frz o (.dT kvs))) :
  ∃ xs : List (List Key × Addr × Value), KT H kvs xs /\ (d == sysModules) = false /\ nO o = xs.length /\ HT.IEs s.heap d (xs.map fun q => (Value.ref q.2.1, q.2.2)) (epO o) /\ HT.VEs s.heap d (xs.map fun q => q.2.2) (epO o) /\ s.heap.get? d = some o := by
 obtain ⟨ho, z, lo, xs, kt, o', es, ep, h1, h2, h3, h4, h5⟩ := (show ObjOk X.prog X.w H s.heap d (.frz o (.dT kvs)) from I.hok d _ hd)
 rw [ho] at h1
 cases h1
 have e1 : nO o = es.size := by unfold nO; rw [h3]
 have e2 : epO o = ep := by unfold epO; rw [h3]
 refine ⟨xs, kt, lo, ?_, ⟨o, es, ho, h2, by rw [e2]; exact h3, ?_⟩, ⟨o, es, ho, h2, by rw [e2]; exact h3, ?_⟩, ho⟩
 ·rw [e1, <- Array.length_toList, h4, List.length_map]
 ·rw [h4, List.map_map]; rfl
 ·rw [h4, List.map_map]; rfl
theorem kt_at {H : Hp} : ∀ {kvs : List (List Key × V)} {xs : List (List Key × Addr × Value)} {i : Nat} {kv : List Key × V}, KT H kvs xs -> kvs[i]? = some kv -> ∃ q : List Key × Addr × Value, xs[i]? = some q /\ H q.2.1 = some (.tup (kv.1.map kV)) /\ RelV kv.2 q.2.2
 | _, _, i, _, .nil, e => by cases i <;> cases e
 | _, _, 0, _, .cons h _, e => by cases e; exact ⟨_, rfl, h.2.1, h.2.2⟩
 | _, _, i + 1, _, .cons _ t, e => kt_at (i := i) t e
noncomputable def Ity (d : Addr) (o : Obj) : It :=
 ⟨fun i H => ∃ kvs kv, H d = some (.frz o (.dT kvs)) /\ kvs[i]? = some kv,
  fun i H x H' => ∃ T c ks v, H T = none /\ x = .ref T /\ H' = upd H T (.tup [.ref c, v]) /\ H c = some (.tup (List.map kV ks)) /\ ∀ kvs, H d = some (.frz o (.dT kvs)) -> kvs[i]? = some (ks, v),
  fun i H => ∃ kvs, H d = some (.frz o (.dT kvs)) /\ kvs.length = i⟩
noncomputable def IyAt (it d : Addr) (o : Obj) (i : Nat) (h : Heap) : Prop := ∃ ok ov, IsItemIter h it d i (nO o) (epO o) ok ov
theorem turn_items {P : Program} {w : World} {K : PySem.W.Frag} {es : List Expr} {kk : Nat} {tpos : Pos} (it d : Addr) (o : Obj) : Turn P w K (.Tuple es kk tpos) (Ity d o) [it] it (IyAt it d o) := by
 refine ⟨by simp, fun i h st b hb => ?_, fun i h h' st k => ?_, ?_, ?_, fun _ _ _ _ _ st h => ?_⟩
 ·obtain ⟨ok, ov, st⟩ := st
  have e : b = it := by simpa using hb
  subst e
  exact ⟨_, st, fun v e => nomatch e⟩
 ·obtain ⟨ok, ov, st⟩ := st
  exact ⟨ok, ov, k it (by simp) _ st⟩
 ·intro X hP hw hK hc i pins s Z H E I hf st hg
  subst hP hw hK
  obtain ⟨kvs, kv, hd, hx⟩ := hg
  obtain ⟨xs, kt, lo, hn, m, _, _⟩ := frz_dict I hd
  obtain ⟨q, hq, hc', rv⟩ := kt_at kt hx
  obtain ⟨ok, ov, st⟩ := st
  have st0 := st
  rw [hn, <- List.length_map (f := fun q : List Key × Addr × Value => (Value.ref q.2.1, q.2.2))] at st
  have nd : d ≠ it := fun z => by have := (hf it (by simp)).1; rw [<- z, hd] at this; cases this
  refine HT.next_ies st m (by rw [List.getElem?_map, hq]; rfl) fun h' z1 pr kk => ?_
  refine ⟨_, rfl, wpAny_letOwnedTupleGo_items z1 fun h'' z2 sb => ?_⟩
  have lt : ∀ {b : Addr} {ob : Obj}, s.heap.get? b = some ob -> b ≠ s.heap.objs.size := fun e => Nat.ne_of_lt (Heap.lt_size e)
  have fT : H s.heap.objs.size = none := I.hok.fresh (Nat.le_refl _)
  have keep : ∀ b ob, b ∉ [it] -> s.heap.get? b = some ob -> h''.get? b = some ob := fun b ob hb z => by
   simp only [List.mem_cons, List.not_mem_nil, or_false] at hb
   exact sb.extBut b ob hb (kk b ob hb z)
  have trk : ∀ b uo, H b = some uo -> b ∉ [it] := fun b uo z hb => by rw [(hf b hb).1] at z; cases z
  have ptT := sb.extBut _ _ (Ne.symm (lt st0)) pr
  have I2 : Inv X pins Z (upd H s.heap.objs.size (.tup [.ref q.2.1, kv.2])) { s with heap := h'' } := by
   refine I.step (g' := s.gens) (d' := s.drawn) (t' := s.toks) (ch := [it]) (fun b hb => ?_) (fun b ob _ _ hb z _ => keep b ob hb z) (fun b ob _ _ hb z _ => ⟨ob.slots, keep b ob hb z⟩) (fun b ob hb z n => by rw [upd_ne (lt z)]; exact n)
    (fun b ob hb z => ⟨ob, keep b ob hb z⟩) (fun b zs z => by rw [upd_ne (ne_of_none z fT)]; exact z) (fun b ob uo z => by rw [upd_ne (ne_of_none z fT)]; exact z) (fun b ps z => ⟨#[], by rw [upd_ne (ne_of_none z fT), z]; simp⟩) (fun m hm => ?_) (fun b uo z => ?_) I.bare
   ·obtain ⟨_, f1, _, f3, f4, f5⟩ := hf b hb
    exact ⟨f3, f1, f4, f5⟩
   ·obtain ⟨ob, es', ep, ho, r⟩ := hm
    exact ⟨ob, es', ep, keep _ ob (fun hb => (hf _ hb).2.1 rfl) ho, r⟩
   ·by_cases hb : b = s.heap.objs.size
    ·subst hb
     rw [upd_same] at z
     cases z
     exact ⟨by show 2 <= sizeLine; decide, [.ref q.2.1, q.2.2], .cons rfl (.cons rv .nil), _, ptT, rfl, _, rfl⟩
    ·rw [upd_ne hb] at z
     refine (I.hok b uo z).stay (fun c' v' hc' q => keep c' v' ?_ q) (fun c' q => by rw [upd_ne (ne_of_none q fT)]; exact q) fun c' zs q => by rw [upd_ne (ne_of_none q fT)]; exact q
     rcases hc' with h | h
     ·rw [h]; exact trk b uo z
     ·exact trk c' _ h
  refine ⟨.ref s.heap.objs.size, _, I2, rfl, ⟨_, q.2.1, kv.1, kv.2, fT, rfl, rfl, hc', fun kvs' h1 => ?_⟩, ⟨_, _, by rw [hn, <- List.length_map (f := fun q : List Key × Addr × Value => (Value.ref q.2.1, q.2.2))]; exact z2⟩, fun b hb => ?_⟩
  ·rw [hd] at h1
   cases h1
   exact hx
  ·have e : b = it := by simpa using hb
   subst e
   rw [upd_ne (lt st0)]
   exact (hf _ (by simp)).1
 ·intro X hP hw hK hc i pins s Z H E I hf st hg
  subst hP hw hK
  obtain ⟨kvs, hd, hl⟩ := hg
  obtain ⟨xs, kt, lo, hn, m, _, _⟩ := frz_dict I hd
  obtain ⟨ok, ov, st⟩ := st
  rw [hn, <- List.length_map (f := fun q : List Key × Addr × Value => (Value.ref q.2.1, q.2.2))] at st
  have hle : xs.length = kvs.length := (Paired.length kt).symm
  obtain ⟨f0, f1, f2, f3, f4, f5⟩ := hf it (by simp)
  exact HT.end_ies (I.ok.hd hc) st m (by rw [List.length_map]; lia) fun h' eb => ⟨rfl, I.turned (t' := s.toks) (fun b o hb e => eb b o hb e) f0 f1 f3 f4 f5⟩
 ·obtain ⟨ok, ov, st⟩ := st
  exact PySem.W.kcp_self st h
noncomputable def iFrz (J : Addr -> Obj -> It) (to : TE) : TI := fun Z H R => to Z H fun x H1 => ∃ d kvs, x = .ref d /\ ((H1 d = some (.dT kvs) /\ ∀ o, R (J d o) (upd H1 d (.frz o (.dT kvs)))) \/ ∃ o, H1 d = some (.frz o (.dT kvs)) /\ R (J d o) H1)
theorem frz_in {X : Cx} {pins : List (Addr × Obj)} {Z : St} {H : Hp} {s : Shared} {d : Addr} {kvs : List (List Key × V)} {J : Addr -> Obj -> It} {R : It -> Hp -> Prop} (I : Inv X pins Z H s)
  (h : (H d = some (.dT kvs) /\ ∀ o, R (J d o) (upd H d (.frz o (.dT kvs)))) \/ ∃ o, H d = some (.frz o (.dT kvs)) /\ R (J d o) H) : ∃ o H', Inv X pins Z H' s /\ H' d = some (.frz o (.dT kvs)) /\ R (J d o) H' := by
 rcases h with ⟨hd, q⟩ | ⟨o, hd, q⟩
 ·obtain ⟨_, _, xs, kt, o, es, ep, h1, _⟩ := (show ObjOk X.prog X.w H s.heap d (.dT kvs) from I.hok d _ hd)
  exact ⟨o, _, I.freeze hd h1, upd_same, q o⟩
 ·exact ⟨o, H, I, hd, q⟩
theorem pi_items {X : Cx} {es : List Expr} {kk : Nat} {tpos : Pos} {o : Expr} {to : TE} {apos cpos : Pos} (ho : PE X o to)
  (hbase : attributeBase o "items" X.env (eval o X.env) = eval o X.env := by rfl) (hline : (apos.endLine == cpos.line) = true := by rfl) :
  PI X (.Tuple es kk tpos) (.Call (.Attribute o "items" apos) [] [] cpos) (iFrz Ity to) := by
 intro pins s Z H R I h
 refine wpAny_Call_method0_late hbase hline (thn (ho pins s Z H _ I h) fun v s1 ⟨x, H1, I1, r1, d, kvs, ex, q1⟩ => ?_)
 subst ex
 cases r1
 obtain ⟨ob, H2, I2, hd, q⟩ := frz_in I1 q1
 obtain ⟨xs, kt, lo, hn, m, _, hob⟩ := frz_dict I2 hd
 refine ⟨"dict", "dict.items", PySem.F.plainAttrs_dict, PySem.F.slot_dict_items, PySem.F.type_dict_items, m.type, (fun b e => ?_), Calls.callWith_builtin rfl (PySem.evalArgs_none (HT.call_ies lo m ?_))⟩
 ·cases e
  obtain ⟨o', es', e1, e2, _⟩ := m
  exact ⟨o', e1, e2.2.1⟩
 have kp0 : ∀ b o, s1.heap.get? b = some o -> (s1.heap.push { cls := .type "dict_items", data := .fields #[.ref d] }).get? b = some o := fun b o e => Heap.get?_push_of_some _ e
 refine HT.iter_ies ⟨_, Heap.get?_push_size _ rfl, rfl, rfl⟩ (m.keeps fun o e => kp0 _ o e) ?_
 have hsz : (s1.heap.push { cls := .type "dict_items", data := .fields #[.ref d] }).objs.size = s1.heap.objs.size + 1 := Heap.size_push ..
 refine ⟨_, [_], _, _, H2, rfl, I2.kept (t' := s1.toks) fun b o e => Heap.get?_push_of_some _ (kp0 b o e), turn_items _ d ob, ⟨.none, .none, ?_⟩, fun b hb => ?_, q⟩
 ·rw [List.length_map, <- hn]
  exact Heap.get?_push_size _ rfl
 ·have e : b = (s1.heap.push { cls := .type "dict_items", data := .fields #[.ref d] }).objs.size := by simpa using hb
  have hb' : s1.heap.objs.size <= b := by rw [e, hsz]; lia
  exact I2.fpOk hb' (I2.hok.fresh hb')
theorem for_items {d : Addr} {o : Obj} {kvs : List (List Key × V)} {g : TG} {tb : TS} {D : Ends} {Z : St} {H : Hp} (Pv : Nat -> St -> Hp -> Prop) (h0 : Pv 0 Z H) (hl : ∀ i Z H, i <= kvs.length -> Pv i Z H -> H d = some (.frz o (.dT kvs)))
  (step : ∀ i ks v T c Z H, kvs[i]? = some (ks, v) -> H T = none -> H c = some (.tup (List.map kV ks)) -> Pv i Z H -> g (.ref T) Z (upd H T (.tup [.ref c, v])) fun Z2 H2 => tb { D with nx := Pv (i + 1), ct := Pv (i + 1), bk := D.nx } Z2 H2) (fin : ∀ Z H, Pv kvs.length Z H -> D.nx Z H) :
  ∃ W : Nat -> Nat -> St -> Hp -> Prop, (∃ m, W 0 m Z H) /\ ∀ i m Z H, W i m Z H ->
   ((Ity d o).stop i H /\ D.nx Z H) \/ ((Ity d o).go i H /\ ∃ N : St -> Hp -> Prop, (∀ Z' H', N Z' H' -> ∃ m', m' < m /\ W (i + 1) m' Z' H') /\ ∀ x H', (Ity d o).yld i H x H' -> g x Z H' fun Z2 H2 => tb { D with nx := N, ct := N, bk := D.nx } Z2 H2) := by
 refine ⟨fun i m Z H => m = kvs.length - i /\ i <= kvs.length /\ Pv i Z H, ⟨kvs.length, by simp, Nat.zero_le _, h0⟩, ?_⟩
 rintro i m Z H ⟨rfl, hi, p⟩
 have q := hl i Z H hi p
 by_cases hlt : i < kvs.length
 ·refine .inr ⟨⟨kvs, kvs[i], q, List.getElem?_eq_getElem hlt⟩, Pv (i + 1), fun Z' H' p' => ⟨kvs.length - (i + 1), by lia, rfl, hlt, p'⟩, fun x H' y => ?_⟩
  obtain ⟨T, c, ks, v, fT, rfl, rfl, hc, hk⟩ := y
  exact step i ks v T c Z H (hk kvs q) fT hc p
 ·have e : i = kvs.length := by lia
  subst e
  exact .inl ⟨⟨kvs, q, rfl⟩, fin Z H p⟩
noncomputable def Itj (d : Addr) (o : Obj) : It :=
 ⟨fun i H => ∃ kvs kv, H d = some (.frz o (.dT kvs)) /\ kvs[i]? = some kv,
  fun i H x H' => H' = H /\ ∀ kvs, H d = some (.frz o (.dT kvs)) -> (kvs.map (·.2))[i]? = some x,
  fun i H => ∃ kvs, H d = some (.frz o (.dT kvs)) /\ kvs.length = i⟩
theorem turn_vals {P : Program} {w : World} {K : PySem.W.Frag} {tg : Expr} (it d : Addr) (o : Obj) : Turn P w K tg (Itj d o) [it] it (fun i h => h.IsValIter it d i (nO o) (epO o)) where
 mem := by simp
 obj := fun i h st b hb => by
  have e : b = it := by simpa using hb
  subst e
  obtain ⟨o, e, c, d⟩ := st
  exact ⟨o, e, fun v z => by rw [d] at z; cases z⟩
 keep := fun i h h' st k => st.at fun o e => k it (by simp) o e
 item := by
  intro X hP hw hK hc i pins s Z H E I hf st hg
  subst hP hw hK
  obtain ⟨kvs, kv, hd, hx⟩ := hg
  obtain ⟨xs, kt, lo, hn, _, m, _⟩ := frz_dict I hd
  obtain ⟨q, hq, hc', rv⟩ := kt_at kt hx
  obtain ⟨f0, f1, f2, f3, f4, f5⟩ := hf it (by simp)
  rw [hn, <- List.length_map (f := fun q : List Key × Addr × Value => q.2.2)] at st
  refine HT.next_ves st m (by rw [List.getElem?_map, hq]; rfl) fun h' st' sb => ?_
  have I1 : Inv X pins Z H { s with heap := h' } := I.turned (t' := s.toks) (fun b o hb e => sb.extBut b o hb e) f0 f1 f3 f4 f5
  obtain ⟨o', e, c, d'⟩ := id st'
  rw [List.length_map, <- hn] at st'
  exact ⟨q.2.2, rfl, go_of (s := { s with heap := h' }) e c d' (by decide) ⟨_, H, I1, rv, ⟨rfl, fun ys hy => by rw [hd] at hy; cases hy; rw [List.getElem?_map, hx]; rfl⟩, st', fun b hb => (hf b hb).1⟩⟩
 done := by
  intro X hP hw hK hc i pins s Z H E I hf st hg
  subst hP hw hK
  obtain ⟨kvs, hd, hl⟩ := hg
  obtain ⟨xs, kt, lo, hn, _, m, _⟩ := frz_dict I hd
  have hle : xs.length = kvs.length := (Paired.length kt).symm
  obtain ⟨f0, f1, f2, f3, f4, f5⟩ := hf it (by simp)
  rw [hn, <- List.length_map (f := fun q : List Key × Addr × Value => q.2.2)] at st
  exact HT.end_ves (I.ok.hd hc) st m (by rw [List.length_map]; lia) fun h' eb => ⟨rfl, I.turned (t' := s.toks) (fun b o hb e => eb b o hb e) f0 f1 f3 f4 f5⟩
 self := fun _ _ _ _ _ st h => wpAny_pyIter_valiter st h
theorem pi_vals {X : Cx} {tg : Expr} {o : Expr} {to : TE} {apos cpos : Pos} (ho : PE X o to)
  (hbase : attributeBase o "values" X.env (eval o X.env) = eval o X.env := by rfl) (hline : (apos.endLine == cpos.line) = true := by rfl) :
  PI X tg (.Call (.Attribute o "values" apos) [] [] cpos) (iFrz Itj to) := by
 intro pins s Z H R I h
 refine wpAny_Call_method0_late hbase hline (thn (ho pins s Z H _ I h) fun v s1 ⟨x, H1, I1, r1, d, kvs, ex, q1⟩ => ?_)
 subst ex
 cases r1
 obtain ⟨ob, H2, I2, hd, q⟩ := frz_in I1 q1
 obtain ⟨xs, kt, lo, hn, _, m, hob⟩ := frz_dict I2 hd
 refine ⟨"dict", "dict.values", PySem.F.plainAttrs_dict, PySem.F.slot_dict_values, PySem.F.type_dict_values, m.type, (fun b e => ?_), Calls.callWith_builtin rfl (PySem.evalArgs_none (HT.call_ves lo m ?_))⟩
 ·cases e
  obtain ⟨o', es', e1, e2, _⟩ := m
  exact ⟨o', e1, e2.2.1⟩
 have kp0 : ∀ b o, s1.heap.get? b = some o -> (s1.heap.push { cls := .type "dict_values", data := .fields #[.ref d] }).get? b = some o := fun b o e => Heap.get?_push_of_some _ e
 refine HT.iter_ves ⟨_, Heap.get?_push_size _ rfl, rfl, rfl⟩ (m.keeps fun o e => kp0 _ o e) ?_
 have hsz : (s1.heap.push { cls := .type "dict_values", data := .fields #[.ref d] }).objs.size = s1.heap.objs.size + 1 := Heap.size_push ..
 refine ⟨_, [_], _, _, H2, rfl, I2.kept (t' := s1.toks) fun b o e => Heap.get?_push_of_some _ (kp0 b o e), turn_vals _ d ob, ?_, fun b hb => ?_, q⟩
 ·rw [List.length_map, <- hn]
  exact ⟨_, Heap.get?_push_size _ rfl, rfl, rfl⟩
 ·have e : b = (s1.heap.push { cls := .type "dict_values", data := .fields #[.ref d] }).objs.size := by simpa using hb
  have hb' : s1.heap.objs.size <= b := by rw [e, hsz]; lia
  exact I2.fpOk hb' (I2.hok.fresh hb')
section
variable {X : Cx}
noncomputable def PsOf (H : Hp) : List V -> List (List Key × Key) -> Prop := Paired fun y k => ∃ b c, y = .ref b /\ H b = some (.tup [.ref c, kV k.2]) /\ H c = some (.tup (k.1.map kV))
theorem call_listP (hc : X.calm = true) : CallR X (.type "list") (fun xs H Q => ∃ a kvs, xs = [.ref a] /\ H a = some (.dP kvs) /\ ∀ p ys, H p = none -> PsOf H ys (kvs.map (·.1)) -> Q (.ref p) (upd H p (.lst ys))) := by
 intro pins s Z H xs us Q I r h
 obtain ⟨a, kvs, rfl, ha, q⟩ := h
 obtain ⟨u, rfl, ru⟩ := vals1 r
 cases ru
 obtain ⟨hz, lo, ys, kt, o, es, ep, h1, h2, h3, h4, h5⟩ := (show ObjOk X.prog X.w H s.heap a (.dP kvs) from I.hok a _ ha)
 have hm : HT.DEs s.heap a (ys.map fun q => Value.ref q.2.1) ep := by
  refine ⟨o, es, h1, h2, h3, ?_⟩
  rw [h4, List.map_map]
  rfl
 have hl : ys.length = kvs.length := (Paired.length kt).symm
 refine PySem.W.kdl_call (HT.src_des lo) (I.ok.hd hc) hm (by rw [List.length_map]; lia) fun h' tk acc c' kp e hi => ?_
 obtain ⟨i1, i2⟩ := hi
 have hacc : acc.toList = ys.map fun q => Value.ref q.2.1 := by
  refine List.ext_getElem? fun i => ?_
  rw [Array.getElem?_toList]
  cases hv : acc[i]? with
  | some v => exact (i2 i v hv).symm
  | none =>
   have : acc.size <= i := Array.getElem?_eq_none_iff.mp hv
   exact (List.getElem?_eq_none (by rw [<- i1]; exact this)).symm
 have rv : Vals (ys.map fun q => V.ref q.2.1) (ys.map fun q => Value.ref q.2.1) := by
  clear kt h4 h5 hl i1 i2 hacc hm
  induction ys with
  | nil => exact .nil
  | cons y r ih => exact .cons rfl ih
 have ps : PsOf H (ys.map fun q => V.ref q.2.1) (kvs.map (·.1)) := by
  clear h4 h5 hl i1 i2 hacc hm rv hz ha q
  induction kt with
  | nil => exact .nil
  | cons h _ ih =>
   obtain ⟨b, e1, e2⟩ := h.2.1
   exact .cons ⟨_, b, rfl, e1, e2⟩ ih
 refine ⟨.ref s.heap.objs.size, _, I.laid (t' := tk) (o := .lst (ys.map fun q => V.ref q.2.1)) kp (Nat.le_refl _) ?_, rfl, q _ _ (I.hok.fresh (Nat.le_refl _)) ps⟩
 refine ⟨by rw [List.length_map]; lia, _, c', rv, ?_⟩
 rw [<- hacc, Array.toArray_toList]
 exact e
end
noncomputable def AlkT (H : Hp) : Nat -> V -> V -> Prop
 | 0, v, u => (∃ z, v = .str z /\ u = .str z) \/ ∃ i, v = .int i /\ u = .int i
 | n + 1, v, u => ((∃ z, v = .str z /\ u = .str z) \/ ∃ i, v = .int i /\ u = .int i) \/ ∃ a b xs ys, v = .ref a /\ u = .ref b /\ H a = some (.tup xs) /\ H b = some (.tup ys) /\ Paired (AlkT H n) xs ys
theorem AlkT.eqAt {X : Cx} {pins : List (Addr × Obj)} {Z : St} {H : Hp} {s : Shared} (I : Inv X pins Z H s) : ∀ (n : Nat) {A : Around} {v u : V} {x y : Value}, A.units + n < cLine -> AlkT H n v u -> RelV v x -> RelV u y -> SeqAt.EqAt A s x y true := by
 have leaf : ∀ {A : Around} {v u : V} {x y : Value}, ((∃ z, v = .str z /\ u = .str z) \/ ∃ i, v = .int i /\ u = .int i) -> RelV v x -> RelV u y -> SeqAt.EqAt A s x y true := by
  rintro A v u x y (⟨z, rfl, rfl⟩ | ⟨i, rfl, rfl⟩) r1 r2
  ·obtain ⟨t1, rfl⟩ := (show ∃ t, x = Value.str z t from r1)
   obtain ⟨t2, rfl⟩ := (show ∃ t, y = Value.str z t from r2)
   simpa using SeqAt.EqAt.str_str (A := A) (s := s) z t1 z t2
  ·obtain ⟨t1, rfl⟩ := (show ∃ t, x = Value.int i t from r1)
   obtain ⟨t2, rfl⟩ := (show ∃ t, y = Value.int i t from r2)
   simpa using SeqAt.EqAt.int_int (A := A) (s := s) i t1 i t2
 intro n
 induction n with
 | zero => intro A v u x y _ h r1 r2; exact leaf h r1 r2
 | succ n ih =>
  intro A v u x y hu h r1 r2
  rcases h with h | ⟨a, b, xs, ys, rfl, rfl, ha, hb, hp⟩
  ·exact leaf h r1 r2
  ·cases (show x = Value.ref a from r1)
   cases (show y = Value.ref b from r2)
   by_cases hab : a = b
   ·subst hab; exact SeqAt.EqAt.same _
   obtain ⟨its, r, p, _⟩ := I.seqS (c := true) ha
   obtain ⟨its2, r2, p2, _⟩ := I.seqS (c := true) hb
   have hu1 : A.in1.units + n < cLine := by show A.units + 1 + n < cLine; lia
   obtain ⟨hl, hj⟩ := paired_vals (R := fun x y => SeqAt.EqAt A.in1 s x y true) (fun v u x y g q1 q2 => ih hu1 g q1 q2) hp r r2
   have := SeqAt.RcAt.tuples (e := fun _ => true) p p2 (by lia : A.units < cLine) (fun j h1 h2 => by simpa using hj j (by simpa using h1) (by simpa using h2))
   rw [show ((List.range (min its.toArray.size its2.toArray.size)).all (fun _ => true) && its.toArray.size == its2.toArray.size) = true by simp [hl]] at this
   exact SeqAt.EqAt.of_refs hab this
noncomputable def rNeL (n : Nat) : R2 := fun x y H Q => ∃ a b xs ys, x = .ref a /\ y = .ref b /\ H a = some (.lst xs) /\ H b = some (.lst ys) /\ Paired (AlkT H n) xs ys /\ Q (.bl false) H
theorem op_neL {X : Cx} {n : Nat} (hu : X.A.units + (n + 1) < cLine) : OpR X (compareOp .NotEq) (rNeL n) := by
 intro pins s Z H x y v u Q I rx ry h
 obtain ⟨a, b, xs, ys, rfl, rfl, ha, hb, hp, q⟩ := h
 cases rx
 cases ry
 obtain ⟨its, r, p, _⟩ := I.seqS (c := false) ha
 obtain ⟨its2, r2, p2, _⟩ := I.seqS (c := false) hb
 have hu1 : X.A.in1.units + n < cLine := by show X.A.units + 1 + n < cLine; lia
 obtain ⟨hl, hj⟩ := paired_vals (R := fun x y => SeqAt.EqAt X.A.in1 s x y true) (fun v u x y g q1 q2 => AlkT.eqAt I n hu1 g q1 q2) hp r r2
 refine SeqAt.RcNeAt.lists (e := fun _ => true) p p2 (by simpa using hl) (by lia) (fun j h1 h2 => by simpa using hj j (by simpa using h1) (by simpa using h2)) X.prog X.w X.xe _ ⟨.bl false, H, I, ?_, q⟩
 show Value.bool _ = Value.bool false
 simp
inductive CT where
 | s (x : Str)
 | i (n : Int)
 | t (l : List CT)
noncomputable def ctsOf (g : Expr -> Option CT) : List Expr -> Option (List CT)
 | [] => some []
 | e :: r => match g e, ctsOf g r with
  | some c, some l => some (c :: l)
  | _, _ => none
noncomputable def ctOf : Nat -> Expr -> Option CT
 | 0, _ => none
 | _ + 1, .Constant (.str x) _ _ => some (.s x)
 | _ + 1, .Constant (.int i) _ _ => some (.i i)
 | _ + 1, .UnaryOp .USub (.Constant (.int i) _ _) _ => some (.i (-i))
 | n + 1, .Tuple es _ _ => if es.length <= 100 then match ctsOf (ctOf n) es with
  | some l => some (.t l)
  | none => none else none
 | _ + 1, _ => none
noncomputable def RepC (H : Hp) : Nat -> CT -> V -> Prop
 | 0, _, _ => False
 | _ + 1, .s x, v => v = .str x
 | _ + 1, .i n, v => v = .int n
 | k + 1, .t l, v => ∃ a vs, v = .ref a /\ H a = some (.tup vs) /\ Paired (RepC H k) l vs
theorem RepC.mono {H H' : Hp} (s : ∀ b o, H b = some o -> H' b = some o) : ∀ {k : Nat} {c : CT} {v : V}, RepC H k c v -> RepC H' k c v
 | 0, _, _, h => h
 | _ + 1, .s _, _, h => h
 | _ + 1, .i _, _, h => h
 | _ + 1, .t _, _, ⟨a, vs, e, h1, h2⟩ => ⟨a, vs, e, s _ _ h1, Paired.mapP h2 fun _ _ r => r.mono s⟩
noncomputable def tK (n : Nat) (c : CT) : TE := fun _ H Q => ∀ v H', (∀ b o, H b = some o -> H' b = some o) -> RepC H' n c v -> Q v H'
noncomputable def tKs (n : Nat) (l : List CT) : TA := fun _ H Q => ∀ vs H', (∀ b o, H b = some o -> H' b = some o) -> Paired (RepC H' n) l vs -> Q vs H'
theorem ct_notStar {n : Nat} {e : Expr} {c : CT} (h : ctOf n e = some c) : notStar e = true := by
 cases n with
 | zero => cases h
 | succ n => cases e <;> first | rfl | cases h
theorem pe_ct {X : Cx} : ∀ (n : Nat) {e : Expr} {c : CT}, ctOf n e = some c -> PE X e (tK n c)
 | 0, _, _, h => by cases h
 | n + 1, e, c, h => by
  have hs : ∀ {es : List Expr} {l : List CT}, ctsOf (ctOf n) es = some l -> PA X es (tKs n l) /\ l.length = es.length := by
   intro es
   induction es with
   | nil =>
    intro l h
    cases h
    exact ⟨fun pos pins s Z H Q I q => pa_nil pos pins s Z H Q I (q [] H (fun _ _ h => h) .nil), rfl⟩
   | cons e r ih =>
    intro l h
    unfold ctsOf at h
    split at h
    ·rename_i c l' h1 h2
     cases h
     obtain ⟨i1, i2⟩ := ih h2
     refine ⟨fun pos pins s Z H Q I q => pac (pe_ct n h1) i1 (ct_notStar h1) pos pins s Z H Q I fun v H1 s1 r1 vs H2 s2 r2 => q (v :: vs) H2 (fun b o e => s2 _ _ (s1 _ _ e)) (.cons (r1.mono s2) r2), by rw [List.length_cons, List.length_cons, i2]⟩
    ·cases h
  unfold ctOf at h
  split at h
  ·cases h
  ·cases h; exact fun pins s Z H Q I q => pe_str pins s Z H Q I (q _ H (fun _ _ h => h) rfl)
  ·cases h; exact fun pins s Z H Q I q => pe_int pins s Z H Q I (q _ H (fun _ _ h => h) rfl)
  ·cases h; exact fun pins s Z H Q I q => pe_un un_neg pe_int pins s Z H Q I ⟨_, rfl, q _ H (fun _ _ h => h) rfl⟩
  ·rename_i n' es _ _ heq
   split at h
   ·rename_i h100
    split at h
    ·rename_i l hl
     cases h
     have hn : n' = n := by lia
     subst hn
     obtain ⟨i1, i2⟩ := hs hl
     refine fun pins s Z H Q I q => pe_tup i1 pins s Z H Q I fun vs H1 s1 r1 => ⟨?_, fun p hp => q (.ref p) _ (fun b o e => by rw [upd_ne (ne_of_none (s1 _ _ e) hp)]; exact s1 _ _ e) ⟨p, vs, rfl, upd_same, Paired.mapP r1 fun _ _ r => r.mono fun b o e => by rw [upd_ne (ne_of_none e hp)]; exact e⟩⟩
     have := Paired.length r1
     exact Nat.le_trans (by lia : vs.length <= 100) (by show 100 <= sizeLine; decide)
    ·cases h
   ·cases h
  ·cases h
end L2
namespace My
open PySem L2
variable {P : Program} {w : World} {K : PySem.W.Frag} {mg : Str -> Option Value} {base : Heap} {aD aR f f2 f3 f4 f5 f6 g : Addr} {fd fd2 fd3 fd4 fd5 fd6 gd : FuncData}
noncomputable def lett (c : Nat) : Bool := decide (97 <= c /\ c <= 122)
noncomputable def wordB (x : Str) : Bool := decide (1 <= x.length) && decide (x.length <= 8) && x.cps.toList.all lett
noncomputable def ops : List Str := ["plus", "less", "times", "least", "most"]
inductive Fm where
 | num (n : Int)
 | own (x : Str)
 | part (k : Int) (x : Str)
 | bin (op : Str) (a b : Fm)
 | whn (a b c : Fm)
noncomputable def Fm.size : Fm -> Nat
 | .num _ => 1
 | .own _ => 1
 | .part _ _ => 1
 | .bin _ a b => a.size + b.size + 1
 | .whn a b c => a.size + b.size + c.size + 1
noncomputable def Fm.wf : Fm -> Prop
 | .num n => -999999 <= n /\ n <= 999999
 | .own x => wordB x = true
 | .part k x => (0 <= k /\ k <= 2) /\ wordB x = true
 | .bin op a b => op ∈ ops /\ a.wf /\ b.wf
 | .whn a b c => a.wf /\ b.wf /\ c.wf
noncomputable def Rep (H : Hp) : Fm -> V -> Prop
 | .num n, v => ∃ a, v = .ref a /\ H a = some (.tup [.str "num", .int n])
 | .own x, v => ∃ a, v = .ref a /\ H a = some (.tup [.str "own", .str x])
 | .part k x, v => ∃ a, v = .ref a /\ H a = some (.tup [.str "part", .int k, .str x])
 | .bin op A B, v => ∃ a u w, v = .ref a /\ H a = some (.tup [.str op, u, w]) /\ Rep H A u /\ Rep H B w
 | .whn A B C, v => ∃ a u w z, v = .ref a /\ H a = some (.tup [.str "when", u, w, z]) /\ Rep H A u /\ Rep H B w /\ Rep H C z
noncomputable def TK (H H' : Hp) : Prop := ∀ a xs, H a = some (.tup xs) -> H' a = some (.tup xs)
theorem TK.trans {H H1 H2 : Hp} (a : TK H H1) (b : TK H1 H2) : TK H H2 := fun c o h => b c o (a c o h)
theorem TK.upd {H : Hp} {p : Addr} {o : HO} (h : ∀ xs, H p ≠ some (.tup xs)) : TK H (upd H p o) := fun a xs e => by
 by_cases q : a = p
 ·subst q
  exact absurd e (h xs)
 ·rw [upd_ne q]
  exact e
theorem TK.lst {H : Hp} {p : Addr} {o : HO} {ys : List V} (h : H p = some (.lst ys)) : TK H (L2.upd H p o) := TK.upd fun xs e => by rw [h] at e; cases e
theorem TK.new {H : Hp} {p : Addr} {o : HO} (h : H p = none) : TK H (L2.upd H p o) := TK.upd fun xs e => by rw [h] at e; cases e
theorem Rep.mono {H H' : Hp} (t : TK H H') : ∀ {f : Fm} {v : V}, Rep H f v -> Rep H' f v
 | .num _, _, ⟨a, e, h⟩ => ⟨a, e, t _ _ h⟩
 | .own _, _, ⟨a, e, h⟩ => ⟨a, e, t _ _ h⟩
 | .part _ _, _, ⟨a, e, h⟩ => ⟨a, e, t _ _ h⟩
 | .bin _ _ _, _, ⟨a, u, w, e, h, r1, r2⟩ => ⟨a, u, w, e, t _ _ h, Rep.mono t r1, Rep.mono t r2⟩
 | .whn _ _ _, _, ⟨a, u, w, z, e, h, r1, r2, r3⟩ => ⟨a, u, w, z, e, t _ _ h, Rep.mono t r1, Rep.mono t r2, Rep.mono t r3⟩
noncomputable def isV (T : String) (H : Hp) (v : V) : Bool := match v with
 | .bl _ => T == "bool" || T == "int"
 | .int _ => T == "int"
 | .str _ => T == "str"
 | .ref a => (match H a with | some (.lst _) => T == "list" | some (.tup _) => T == "tuple" | some (.dK _) => T == "dict" | _ => false)
 | _ => false
noncomputable def Sh (H : Hp) : V -> Prop
 | .non => True
 | .bl _ => True
 | .int _ => True
 | .str x => x.length <= 1000
 | .ref a => (∃ xs, H a = some (.lst xs)) \/ (∃ xs, H a = some (.tup xs)) \/ ∃ kvs, H a = some (.dK kvs)
 | _ => False
section
variable {X : Cx}
theorem kit_all (K : PySem.W.Frag) (t T : String) (ht : t ∈ ["NoneType", "bool", "int", "str", "list", "tuple", "dict"]) (hT : T ∈ ["bool", "int", "str", "list", "tuple", "dict"]) :
  PySem.W.kitOne K (.type t) (.type T) = some (t == T || (t == "bool" && T == "int")) := by
 simp only [List.mem_cons, List.not_mem_nil, or_false] at ht hT
 rcases ht with rfl | rfl | rfl | rfl | rfl | rfl | rfl <;> rcases hT with rfl | rfl | rfl | rfl | rfl | rfl <;> first | rfl | (with_unfolding_all rfl) | (with_unfolding_all decide)
theorem call_isV : CallR X (.builtin "isinstance") (fun xs H Q => ∃ x T, xs = [x, .ty T] /\ Sh H x /\ T ∈ ["bool", "int", "str", "list", "tuple", "dict"] /\ Q (.bl (isV T H x)) H) := by
 intro pins s Z H xs us Q I r h
 obtain ⟨x, T, rfl, hs, hT, q⟩ := h
 have go : ∀ t, TyOf X.K H x (.type t) -> t ∈ ["NoneType", "bool", "int", "str", "list", "tuple", "dict"] -> isV T H x = (t == T || (t == "bool" && T == "int")) -> wpAny (model X.prog X.w) X.A (call (.builtin "isinstance") us) (EP X pins Z Q) X.xe s := by
  intro t ty ht e
  refine call_isi pins s Z H _ us Q I r ⟨x, T, .type t, _, rfl, ty, kit_all X.K t T ht hT, ?_⟩
  rw [<- e]
  exact q
 have hTT := hT
 simp only [List.mem_cons, List.not_mem_nil, or_false] at hTT
 cases x with
 | non => exact go _ .non (by simp) (by rcases hTT with rfl | rfl | rfl | rfl | rfl | rfl <;> rfl)
 | bl b => exact go _ (.bl b) (by simp) (by rcases hTT with rfl | rfl | rfl | rfl | rfl | rfl <;> rfl)
 | int i => exact go _ (.int i) (by simp) (by rcases hTT with rfl | rfl | rfl | rfl | rfl | rfl <;> rfl)
 | str z => exact go _ (.str z) (by simp) (by rcases hTT with rfl | rfl | rfl | rfl | rfl | rfl <;> rfl)
 | ref a =>
  rcases hs with ⟨ys, e⟩ | ⟨ys, e⟩ | ⟨ys, e⟩
  ·exact go _ (.lst e) (by simp) (by simp only [isV, e]; rcases hTT with rfl | rfl | rfl | rfl | rfl | rfl <;> rfl)
  ·exact go _ (.tup e) (by simp) (by simp only [isV, e]; rcases hTT with rfl | rfl | rfl | rfl | rfl | rfl <;> rfl)
  ·exact go _ (.dK e) (by simp) (by simp only [isV, e]; rcases hTT with rfl | rfl | rfl | rfl | rfl | rfl <;> rfl)
 | byt _ => exact hs.elim
 | flt _ => exact hs.elim
 | ty _ => exact hs.elim
end
noncomputable def top (i : Nat) : Stmt := PySem.Challenge.pw_boughworth_k25_spots_of_a_tree.main.body.getD i (.Pass ⟨0, 0, 0, 0⟩)
noncomputable abbrev sInner : Stmt := top 3
noncomputable abbrev sTuples : Stmt := top 4
noncomputable abbrev sReads : Stmt := top 5
noncomputable abbrev sSortsOf : Stmt := top 7
noncomputable abbrev sFormsOf : Stmt := top 8
noncomputable abbrev sSortNamed : Stmt := top 9
noncomputable abbrev sFormNamed : Stmt := top 10
noncomputable abbrev sDowns : Stmt := top 11
noncomputable abbrev sUps : Stmt := top 12
noncomputable abbrev sSortOfForm : Stmt := top 13
noncomputable abbrev sRulesOf : Stmt := top 14
noncomputable abbrev sByKey : Stmt := top 15
noncomputable abbrev sSortOf : Stmt := top 17
noncomputable abbrev sByPlace : Stmt := top 18
noncomputable abbrev sSpots : Stmt := top 20
noncomputable abbrev sBySpot : Stmt := top 21
noncomputable abbrev sTolds : Stmt := top 22
noncomputable abbrev sTold : Stmt := top 23
noncomputable abbrev sCell : Stmt := top 25
noncomputable abbrev sTape : Stmt := top 26
noncomputable abbrev sDigit : Stmt := top 27
noncomputable abbrev sNames : Stmt := top 28
noncomputable abbrev sNumber : Stmt := top 29
noncomputable abbrev sLeaf : Stmt := top 30
noncomputable abbrev sFormula : Stmt := top 31
noncomputable abbrev sSorts : Stmt := top 32
noncomputable abbrev sTargets : Stmt := top 33
noncomputable abbrev sLReadings : Stmt := top 34
noncomputable abbrev sLForm : Stmt := top 35
noncomputable abbrev sBook : Stmt := top 36
noncomputable abbrev sLeast : Stmt := top 37
noncomputable abbrev sTree : Stmt := top 38
noncomputable abbrev sLWhole : Stmt := top 39
noncomputable abbrev sLGrown : Stmt := top 40
noncomputable abbrev sLWords : Stmt := top 41
noncomputable abbrev sLBoughs : Stmt := top 42
noncomputable abbrev sLSpots : Stmt := top 43
noncomputable abbrev sAreSpots : Stmt := top 44
noncomputable abbrev sBare : Stmt := top 45
noncomputable abbrev sLRight : Stmt := top 46
noncomputable abbrev sLaw : Stmt := top 47
structure Gb (mg : Str -> Option Value) : Prop where
 isi : mg "isinstance" = none
 int : mg "int" = none
 bool : mg "bool" = none
 str : mg "str" = none
 tuple : mg "tuple" = none
 len : mg "len" = none
 all : mg "all" = none
 range : mg "range" = none
 max : mg "max" = none
 min : mg "min" = none
noncomputable def wholeV : V -> Bool
 | .int _ => true
 | _ => false
noncomputable def withinV (lo hi : Int) : V -> Bool
 | .int i => decide (lo <= i) && decide (i <= hi)
 | _ => false
noncomputable def wordV : V -> Bool
 | .str x => wordB x
 | _ => false
theorem isV_int {H : Hp} {v : V} (h : Sh H v) : (if isV "int" H v = true then !isV "bool" H v else false) = wholeV v := by
 cases v with
 | ref a => rcases h with ⟨ys, e⟩ | ⟨ys, e⟩ | ⟨ys, e⟩ <;> (simp only [isV, e]; rfl)
 | _ => rfl
theorem qb {Q : VK} {b b' : Bool} {H : Hp} (q : Q (.bl b) H) (e : b = b') : Q (.bl b') H := e ▸ q
theorem same_new {H : Hp} {p : Addr} (h : H p = none) (o : HO) : Same H (upd H p o) := fun b u q => by rw [upd_ne (ne_of_none q h)]; exact q
noncomputable def spWhole : Sp := fun vs H Q _ => ∃ v, vs = [v] /\ Sh H v /\ Q (.bl (wholeV v)) H
noncomputable def inner (k : Str) : Option Nat := if k ∈ ops then some 2 else if k = "when" then some 3 else none
noncomputable def one1 (p : V -> Bool) : List V -> Bool
 | [x] => p x
 | _ => false
noncomputable def two2 (p : V -> V -> Bool) : List V -> Bool
 | [x, y] => p x y
 | _ => false
noncomputable def headOk : List V -> Bool
 | .str k :: r => (match inner k with
  | some n => decide (r.length = n)
  | none => if k = "num" then one1 (withinV (-999999) 999999) r
   else if k = "own" then one1 wordV r
   else if k = "part" then two2 (fun x y => withinV 0 2 x && wordV y) r else false)
 | _ => false
noncomputable def innerOf : List V -> List V
 | .str k :: r => if (inner k).isSome then r else []
 | _ => []
noncomputable def icKvs : List (Key × V) := [(.inr "plus", .int 2), (.inr "less", .int 2), (.inr "times", .int 2), (.inr "least", .int 2), (.inr "most", .int 2), (.inr "when", .int 3)]
theorem ic_val (k : Str) : valV icKvs (.inr k) = (inner k).map fun (n : Nat) => V.int n := by
 unfold inner ops icKvs
 by_cases h1 : k = "plus"
 ·subst h1; decide +kernel
 by_cases h2 : k = "less"
 ·subst h2; decide +kernel
 by_cases h3 : k = "times"
 ·subst h3; decide +kernel
 by_cases h4 : k = "least"
 ·subst h4; decide +kernel
 by_cases h5 : k = "most"
 ·subst h5; decide +kernel
 by_cases h6 : k = "when"
 ·subst h6; decide +kernel
 have ne : ∀ {y : Str}, ¬ k = y -> ¬ (Sum.inr y : Key) = Sum.inr k := fun h e => h (Sum.inr.inj e).symm
 rw [valV_neg (ne h1), valV_neg (ne h2), valV_neg (ne h3), valV_neg (ne h4), valV_neg (ne h5), valV_neg (ne h6), valV_nil, if_neg, if_neg h6]
 ·rfl
 ·simp only [List.mem_cons, List.not_mem_nil, or_false, not_or]
  exact ⟨h1, h2, h3, h4, h5⟩
theorem atI0 {α : Type} {x : α} {r : List α} : atI (x :: r) 0 = some x := atI_nat (j := 0) rfl
theorem atI1 {α : Type} {x y : α} {r : List α} : atI (x :: y :: r) 1 = some y := atI_nat (j := 1) rfl
theorem atI2 {α : Type} {x y z : α} {r : List α} : atI (x :: y :: z :: r) 2 = some z := atI_nat (j := 2) rfl
noncomputable def spInner : Sp := fun vs H Q _ => ∃ a k r, vs = [.ref a] /\ H a = some (.tup (.str k :: r)) /\ r.length <= 1000 /\ ∀ p H', Same H H' -> H' p = some (.tup (innerOf (.str k :: r))) -> Q (.ref p) H'
theorem scInner : FnScope ["formula"] ["formula"] (defScope sInner) := fsc
theorem ok_inner (F : Fun K "inner_of" "inner_of" sInner f fd) (mD : mg "INNER_COUNTS" = some (.ref aD)) (D : DTab P w K aD icKvs) : FnOk P w K mg base CX0 1 f fd ["formula"] spInner := by
 refine F.ok scInner (fun vs H Q E h => ?_) (fun cdv A outer s H vs Q E hr h => ?_)
 ·obtain ⟨a, k, r, rfl, _⟩ := h
  rfl
 obtain ⟨a, k, r, rfl, ha, hl, q⟩ := h
 refine ⟨_, pss_one (ps_ret (pe_ifExp (pt_cmpR op_inD (pe_ix (r := rIxT K) ix_tup (pv 0) pe_int (fun _ _ => rfl)) (pe_glob (v := .ref aD) rfl mD rfl) (by with_unfolding_all rfl)) (pe_slice sl_tup (pv 0) (po_some pe_int) po_none) (pe_tup pa_nil))), ?_⟩
 refine ⟨_, rfl, a, _, 0, _, rfl, rfl, SqT.of ha, atI0, .inr k, aD, icKvs, rfl, rfl, D, _, rfl, ?_⟩
 have hv := ic_val k
 cases hk : inner k with
 | none =>
  rw [hk] at hv
  refine ite2 (fun c => ?_) (fun c => ?_)
  ·rw [hv] at c
   exact absurd c (by decide)
  ·refine ⟨(by show 0 <= sizeLine; decide), fun p hp => ?_⟩
   refine q p _ (same_new hp _) ?_
   rw [upd_same]
   show some (HO.tup []) = some (HO.tup (if (inner k).isSome = true then r else []))
   rw [hk]
   rfl
 | some n =>
  rw [hk] at hv
  refine ite2 (fun c => ?_) (fun c => ?_)
  ·refine ⟨_, rfl, 1, rfl, a, _, rfl, SqT.of ha, ?_, fun p hp => ?_⟩
   ·rintro ⟨h1, _⟩
    have : HT.sIx (V.str k :: r).length 0 (some 1) = min 1 (V.str k :: r).length := HT.sIx_nat _ _ 1
    rw [this, List.length_cons] at h1
    lia
   ·refine q p _ (same_new hp _) ?_
    rw [upd_same]
    have e1 : HT.sIx (V.str k :: r).length 0 (some 1) = 1 := by
     have : HT.sIx (V.str k :: r).length 0 (some 1) = min 1 (V.str k :: r).length := HT.sIx_nat _ _ 1
     rw [this, List.length_cons]
     lia
    have e2 : cutV (V.str k :: r) (some 1) none = r := by
     unfold cutV
     rw [e1, HT.sIx_none, List.length_cons, List.drop_one, List.tail_cons, Nat.add_sub_cancel, List.take_length]
    show some (HO.tup (cutV (V.str k :: r) (some 1) none)) = some (HO.tup (if (inner k).isSome = true then r else []))
    rw [hk, e2]
    rfl
  ·rw [hv] at c
   exact absurd rfl c
inductive Fs (H : Hp) : List V -> Nat -> Prop where
 | nil : Fs H [] 0
 | cons {v : V} {f : Fm} {vs : List V} {n : Nat} : Rep H f v -> f.wf -> Fs H vs n -> Fs H (v :: vs) (f.size + n)
theorem ops_short {k : Str} (h : k ∈ ops) : k.length <= 1000 := by
 unfold ops at h
 simp only [List.mem_cons, List.not_mem_nil, or_false] at h
 rcases h with rfl | rfl | rfl | rfl | rfl <;> decide +kernel
theorem word_short {x : Str} (h : wordB x = true) : x.length <= 1000 := by
 unfold wordB at h
 simp only [Bool.and_eq_true, decide_eq_true_eq] at h
 lia
theorem inner_ops {op : Str} (h : op ∈ ops) : inner op = some 2 := by unfold inner; rw [if_pos h]
theorem inner_when : inner "when" = some 3 := by decide +kernel
theorem inner_num : inner "num" = none := by decide +kernel
theorem inner_own : inner "own" = none := by decide +kernel
theorem inner_part : inner "part" = none := by decide +kernel
inductive Ts (H : Hp) : List V -> List V -> Prop where
 | nil : Ts H [] []
 | cons {a : Addr} {k : Str} {r vs out : List V} : H a = some (.tup (.str k :: r)) -> k.length <= 1000 -> r.length <= 3 -> Ts H (innerOf (.str k :: r) ++ vs) out -> Ts H (.ref a :: vs) (.ref a :: out)
theorem Ts.len {H : Hp} {ws out : List V} (h : Ts H ws out) : ws.length <= out.length := by
 induction h with
 | nil => exact Nat.le_refl _
 | cons _ _ _ _ ih =>
  rw [List.length_append] at ih
  rw [List.length_cons, List.length_cons]
  lia
noncomputable def spTuples : Sp := fun vs H Q _ => ∃ v out, vs = [v] /\ Ts H [v] out /\ out.length <= 1000 /\ ∀ p H', Same H H' -> H' p = some (.lst out) -> Q (.ref p) H'
theorem scTuples : FnScope ["formula", "found", "waiting", "one"] ["formula"] (defScope sTuples) := fsc
theorem ok_tuples (F : Fun K "tuples_of" "tuples_of" sTuples f fd)
  (GI : FnOk P w K mg base CX0 1 f2 fd2 ["formula"] spInner) (bI : Binds K fd2 ["formula"] []) (kI : PySem.W.keepIn K (.ref f2) = true) (mI : mg "inner_of" = some (.ref f2)) :
  FnOk P w K mg base CX0 2 f fd ["formula"] spTuples := by
 refine F.ok scTuples (fun vs H Q E h => ?_) (fun cdv A outer s H vs Q E hr h => ?_)
 ·obtain ⟨v, b, rfl, _⟩ := h
  rfl
 obtain ⟨v, out, rfl, hT, hout, q⟩ := h
 refine ⟨_, pss_cons (ps_set (i := 1) scTuples.nd rfl (Or.inl rfl) (pe_lst pa_nil))
  (pss_cons (ps_set (i := 2) scTuples.nd rfl (Or.inl rfl) (pe_lst (pa_cons (pv 0) pa_nil)))
  (pss_cons (ps_while PassesOwn.never (pt_truth (pv 2) (fun _ => rfl))
   (pss_cons (ps_set (i := 3) scTuples.nd rfl (Or.inl rfl) (pe_bm0 PySem.F.plainAttrs_list PySem.F.slot_list_pop PySem.F.type_list_pop mt_pop (pv 2)))
   (pss_cons (ps_expr (pe_bm PySem.F.plainAttrs_list PySem.F.slot_list_append PySem.F.type_list_append mt_append (pv 1) (pa_cons (pv 3) pa_nil)))
   (pss_one (ps_expr (pe_bm PySem.F.plainAttrs_list PySem.F.slot_list_extend PySem.F.type_list_extend mt_extT (pv 2) (pa_cons (pe_backT (pe_call GI hr rfl mI kI bI .nil pass0 (pa_cons (pv 3) pa_nil)) (pe_un un_neg pe_int)) pa_nil)))))))
  (pss_one (ps_ret (pv 1))))), ?_⟩
 refine ⟨(by show 0 <= sizeLine; decide), fun p1 h1 => ?_⟩
 refine ⟨_, rfl, (by show 1 <= sizeLine; decide), fun p2 h2 => ?_⟩
 dsimp only [tSeq, tAsg, gName, tC]
 have n21 : p1 ≠ p2 := fun e => by
  subst e
  rw [upd_same] at h2
  cases h2
 have h2' : H p2 = none := by rw [upd_ne (Ne.symm n21)] at h2; exact h2
 refine while_by (fun Z H' => ∃ (ws done rest : List V) (o : Option V), Z = [some v, some (.ref p1), some (.ref p2), o] /\ H' p1 = some (.lst done) /\ H' p2 = some (.lst ws.reverse) /\ Same H H' /\ Ts H ws rest /\ done ++ rest = out)
  (fun _ H' => match H' p1 with | some (.lst d) => out.length - d.length | _ => 0) ⟨[v], [], out, none, rfl, by rw [upd_ne n21, upd_same], upd_same, (same_new h1 _).trans (same_new h2 _), hT, rfl⟩ ?_ ?_
 ·rintro Z H' ⟨ws, done, rest, o, rfl, g1, g2, sm, hW, he⟩
  refine ⟨_, rfl, _, .inl ⟨ws.reverse, SqL.of g2, rfl⟩, ?_⟩
  have hle : done.length + rest.length = out.length := by rw [<- he, List.length_append]
  cases hW with
  | nil =>
   refine iteF ?_
   refine ⟨_, rfl, ?_⟩
   rw [List.append_nil] at he
   subst he
   exact q _ _ sm g1
  | @cons a k r vs rest' ha hk hr3 ht =>
   have ne : (!((V.ref a :: vs).reverse).isEmpty) = true := by simp
   refine ite2 (fun _ => ?_) (fun c => absurd ne c)
   rw [List.reverse_cons] at g2
   refine ⟨_, rfl, .inl ⟨rfl, _, SqL.of g2⟩, p2, _, .ref a, rfl, rfl, g2, by simp, ?_⟩
   rw [List.dropLast_concat]
   have l1 : ∀ {c : Addr} {oo : HO}, H c = some oo -> c ≠ p1 := fun h => ne_of_none h h1
   have l2 : ∀ {c : Addr} {oo : HO}, H c = some oo -> c ≠ p2 := fun h => ne_of_none h h2'
   rw [List.length_cons] at hle
   refine ⟨_, rfl, .inl ⟨rfl, _, SqL.of (show upd H' p2 (.lst vs.reverse) p1 = some (.lst done) by rw [upd_ne n21]; exact g1)⟩, _, rfl, p1, done, .ref a, rfl, rfl, by rw [upd_ne n21]; exact g1, small1000 (by lia), ?_⟩
   have sm1 : Same H (upd (upd H' p2 (.lst vs.reverse)) p1 (.lst (done ++ [.ref a]))) := fun c oo h => by rw [upd_ne (l1 h), upd_ne (l2 h)]; exact sm c oo h
   have k2 : upd (upd H' p2 (.lst vs.reverse)) p1 (.lst (done ++ [.ref a])) p2 = some (.lst vs.reverse) := by rw [upd_ne (Ne.symm n21), upd_same]
   refine ⟨_, rfl, .inl ⟨rfl, _, SqL.of k2⟩, _, rfl, a, k, r, rfl, sm1 _ _ ha, by lia, fun p H3 sm4 hp => ?_⟩
   have k1' : H3 p1 = some (.lst (done ++ [.ref a])) := sm4 _ _ upd_same
   have k2' : H3 p2 = some (.lst vs.reverse) := sm4 _ _ k2
   have hil : (innerOf (.str k :: r)).length <= 3 := by
    show (if (inner k).isSome = true then r else []).length <= 3
    split
    ·exact hr3
    ·exact Nat.zero_le _
   refine ⟨_, rfl, p, _, rfl, rfl, SqT.of hp, fun p4 h4 => ?_⟩
   have n41 : p1 ≠ p4 := ne_of_none k1' h4
   have n42 : p2 ≠ p4 := ne_of_none k2' h4
   have hlv := ht.len
   rw [List.length_append] at hlv
   refine ⟨p2, p4, _, _, rfl, rfl, by rw [upd_ne n42]; exact k2', SqT.of upd_same, ?_, ?_⟩
   ·rw [List.length_reverse, List.length_reverse]
    exact Nat.le_of_lt (small1000 (by lia))
   ·refine ⟨⟨innerOf (.str k :: r) ++ vs, done ++ [.ref a], rest', _, rfl, by rw [upd_ne n21, upd_ne n41]; exact k1', by rw [upd_same, List.reverse_append], fun c oo h => ?_, ht, by rw [List.append_assoc]; exact he⟩, ?_⟩
    ·have h3 := sm4 _ _ (sm1 c oo h)
     rw [upd_ne (l2 h), upd_ne (ne_of_none h3 h4)]
     exact h3
    ·rw [upd_ne n21, upd_ne n41, k1', g1]
     show out.length - (done ++ [V.ref a]).length < out.length - done.length
     rw [List.length_append, List.length_singleton]
     lia
 ·rintro Z H' Q1 Q2 hq ⟨y, e1, k, t, h⟩
  exact ⟨y, e1, k, t, hq _ _ h⟩
theorem scLWhole : FnScope ["found"] ["found"] (defScope sLWhole) := fsc
theorem ok_lwhole (F : Fun K "_law_whole" "_law_whole" sLWhole f fd) (G : Gb mg) : FnOk P w K mg base CX0 1 f fd ["found"] spWhole := by
 refine F.ok scLWhole (fun vs H Q E h => ?_) (fun cdv A outer s H vs Q E hr h => ?_)
 ·obtain ⟨v, rfl, _⟩ := h
  rfl
 obtain ⟨v, rfl, hS, q⟩ := h
 refine ⟨_, pss_one (ps_ret (pe_and (pe_callB call_isV rfl G.isi (by decide +kernel) (pa_cons (pv 0) (pa_cons (pe_bltn (v := .ty "int") rfl G.int (by decide +kernel) rfl) pa_nil)))
  (pe_one (pe_not (pe_callB call_isV rfl G.isi (by decide +kernel) (pa_cons (pv 0) (pa_cons (pe_bltn (v := .ty "bool") rfl G.bool (by decide +kernel) rfl) pa_nil))))))), ?_⟩
 have e := isV_int hS
 refine ⟨_, rfl, v, "int", rfl, hS, by simp, _, rfl, ?_⟩
 refine ite2 (fun c => ?_) (fun c => ?_)
 ·rw [if_pos c] at e
  refine ⟨_, rfl, v, "bool", rfl, hS, by simp, _, rfl, ?_⟩
  exact qb q e.symm
 ·rw [if_neg c] at e
  exact qb q e.symm
noncomputable def RK (ks : List Key) : Prop := (∃ x : Str, ks = [.inr "own", .inr x] /\ x.length <= 1000) \/ ∃ (i : Int) (x : Str), ks = [.inr "part", .inl i, .inr x] /\ x.length <= 1000
inductive Tw (H : Hp) : List V -> List V -> List (List Key) -> Prop where
 | nil : Tw H [] [] []
 | rd {a : Addr} {ks : List Key} {vs out : List V} {rs : List (List Key)} : H a = some (.tup (ks.map kV)) -> RK ks -> Tw H vs out rs -> Tw H (.ref a :: vs) (.ref a :: out) (ks :: rs)
 | num {a : Addr} {r vs out : List V} {rs : List (List Key)} : H a = some (.tup (.str "num" :: r)) -> r.length <= 3 -> Tw H vs out rs -> Tw H (.ref a :: vs) (.ref a :: out) rs
 | inn {a : Addr} {k : Str} {r vs out : List V} {rs : List (List Key)} : H a = some (.tup (.str k :: r)) -> (inner k).isSome = true -> k.length <= 1000 -> r.length <= 3 -> Tw H (r ++ vs) out rs -> Tw H (.ref a :: vs) (.ref a :: out) rs
theorem Tw.mono {H H' : Hp} {ws out : List V} {rs : List (List Key)} (t : TK H H') (h : Tw H ws out rs) : Tw H' ws out rs := by
 induction h with
 | nil => exact .nil
 | rd a b _ ih => exact .rd (t _ _ a) b ih
 | num a b _ ih => exact .num (t _ _ a) b ih
 | inn a b c d _ ih => exact .inn (t _ _ a) b c d ih
theorem rk_head {ks : List Key} (h : RK ks) : ∃ (k : Str) (r : List V), ks.map kV = .str k :: r /\ (k = "own" \/ k = "part") /\ r.length <= 3 /\ inner k = none := by
 rcases h with ⟨x, rfl, _⟩ | ⟨i, x, rfl, _⟩
 ·exact ⟨"own", _, rfl, .inl rfl, by simp, inner_own⟩
 ·exact ⟨"part", _, rfl, .inr rfl, by simp, inner_part⟩
theorem Tw.ts {H : Hp} {ws out : List V} {rs : List (List Key)} (h : Tw H ws out rs) : Ts H ws out := by
 induction h with
 | nil => exact .nil
 | @rd a ks vs out rs ha hk t ih =>
  obtain ⟨k, r, e, hk2, hl, hi⟩ := rk_head hk
  rw [e] at ha
  refine .cons ha ?_ hl ?_
  ·rcases hk2 with rfl | rfl <;> decide +kernel
  ·have : innerOf (.str k :: r) = [] := by simp only [innerOf, hi]; rfl
   rw [this]
   exact ih
 | @num a r vs out rs ha hl t ih =>
  refine .cons ha (by decide +kernel) hl ?_
  have : innerOf (.str "num" :: r) = [] := by simp only [innerOf, inner_num]; rfl
  rw [this]
  exact ih
 | @inn a k r vs out rs ha hi hk hl t ih =>
  refine .cons ha hk hl ?_
  have : innerOf (.str k :: r) = r := by simp only [innerOf, hi]; rfl
  rw [this]
  exact ih
theorem Tw.ex {H : Hp} : ∀ (n : Nat) {ws : List V}, Fs H ws n -> ∃ out rs, Tw H ws out rs /\ out.length = n := by
 intro n
 induction n using Nat.strongRecOn with
 | _ n ih =>
  intro ws h
  cases h with
  | nil => exact ⟨[], [], .nil, rfl⟩
  | @cons v f vs m rp wf t =>
   cases f with
   | num i =>
    obtain ⟨a, rfl, ha⟩ := rp
    obtain ⟨out, rs, h1, h2⟩ := ih m (by show m < 1 + m; lia) t
    exact ⟨_, _, .num ha (by simp) h1, by rw [List.length_cons, h2]; show m + 1 = 1 + m; lia⟩
   | own x =>
    obtain ⟨a, rfl, ha⟩ := rp
    obtain ⟨out, rs, h1, h2⟩ := ih m (by show m < 1 + m; lia) t
    exact ⟨_, _, .rd (ks := [.inr "own", .inr x]) ha (.inl ⟨x, rfl, word_short wf⟩) h1, by rw [List.length_cons, h2]; show m + 1 = 1 + m; lia⟩
   | part k x =>
    obtain ⟨a, rfl, ha⟩ := rp
    obtain ⟨w0, w1⟩ : (0 <= k /\ k <= 2) /\ wordB x = true := wf
    obtain ⟨out, rs, h1, h2⟩ := ih m (by show m < 1 + m; lia) t
    exact ⟨_, _, .rd (ks := [.inr "part", .inl k, .inr x]) ha (.inr ⟨k, x, rfl, word_short w1⟩) h1, by rw [List.length_cons, h2]; show m + 1 = 1 + m; lia⟩
   | bin op A B =>
    obtain ⟨a, u, w, rfl, ha, r1, r2⟩ := rp
    obtain ⟨ho, w1, w2⟩ : op ∈ ops /\ A.wf /\ B.wf := wf
    obtain ⟨out, rs, h1, h2⟩ := ih (A.size + (B.size + m)) (by show _ < A.size + B.size + 1 + m; lia) (Fs.cons r1 w1 (.cons r2 w2 t))
    exact ⟨_, _, .inn ha (by rw [inner_ops ho]; rfl) (ops_short ho) (by simp) h1, by rw [List.length_cons, h2]; show _ = A.size + B.size + 1 + m; lia⟩
   | whn A B C =>
    obtain ⟨a, u, w, z, rfl, ha, r1, r2, r3⟩ := rp
    obtain ⟨w1, w2, w3⟩ : A.wf /\ B.wf /\ C.wf := wf
    obtain ⟨out, rs, h1, h2⟩ := ih (A.size + (B.size + (C.size + m))) (by show _ < A.size + B.size + C.size + 1 + m; lia) (Fs.cons r1 w1 (.cons r2 w2 (.cons r3 w3 t)))
    exact ⟨_, _, .inn ha (by rw [inner_when]; rfl) (by decide +kernel) (by simp) h1, by rw [List.length_cons, h2]; show _ = A.size + B.size + C.size + 1 + m; lia⟩
inductive Tr (H : Hp) : List V -> List (List Key) -> Prop where
 | nil : Tr H [] []
 | rd {a : Addr} {ks : List Key} {out : List V} {rs : List (List Key)} : H a = some (.tup (ks.map kV)) -> RK ks -> Tr H out rs -> Tr H (.ref a :: out) (ks :: rs)
 | no {a : Addr} {k : Str} {r out : List V} {rs : List (List Key)} : H a = some (.tup (.str k :: r)) -> ¬ k = "own" -> ¬ k = "part" -> Tr H out rs -> Tr H (.ref a :: out) rs
theorem Tw.tr {H : Hp} {ws out : List V} {rs : List (List Key)} (h : Tw H ws out rs) : Tr H out rs := by
 induction h with
 | nil => exact .nil
 | rd a b _ ih => exact .rd a b ih
 | num a _ _ ih => exact .no a (by decide +kernel) (by decide +kernel) ih
 | @inn a k r vs out rs ha hi _ _ _ ih =>
  refine .no ha (fun e => ?_) (fun e => ?_) ih
  ·rw [e, inner_own] at hi; cases hi
  ·rw [e, inner_part] at hi; cases hi
noncomputable def dd (acc : List (List Key)) : List (List Key) -> List (List Key)
 | [] => acc
 | k :: r => dd (if k ∈ acc then acc else acc ++ [k]) r
theorem keys_put (kvs : List (List Key × V)) (k : List Key) (v : V) : (putK kvs k v).map (·.1) = if k ∈ kvs.map (·.1) then kvs.map (·.1) else kvs.map (·.1) ++ [k] := by
 unfold putK
 by_cases h : k ∈ kvs.map (·.1)
 ·rw [if_pos h, if_pos, List.map_map]
  ·refine List.map_congr_left fun x _ => ?_
   show (if x.1 = k then (x.1, v) else x).1 = x.1
   split <;> rfl
  ·obtain ⟨x, hx, e⟩ := List.mem_map.mp h
   exact List.any_eq_true.mpr ⟨x, hx, decide_eq_true e⟩
 ·rw [if_neg h, if_neg, List.map_append]
  ·rfl
  ·intro z
   obtain ⟨x, hx, e⟩ := List.any_eq_true.mp z
   exact h (List.mem_map.mpr ⟨x, hx, of_decide_eq_true e⟩)
theorem in_readings (k : Str) : inV (.str k) [.str "own", .str "part"] = (decide (k = "own") || decide (k = "part")) := by
 show (("own" == k) || (("part" == k) || false)) = _
 rw [Bool.or_false]
 by_cases h1 : k = "own"
 ·subst h1; decide +kernel
 ·by_cases h2 : k = "part"
  ·subst h2; decide +kernel
  ·rw [decide_eq_false h1, decide_eq_false h2]
   have e1 : (("own" : Str) == k) = false := beq_eq_false_iff_ne.mpr fun e => h1 e.symm
   have e2 : (("part" : Str) == k) = false := beq_eq_false_iff_ne.mpr fun e => h2 e.symm
   rw [e1, e2]
noncomputable def spReads : Sp := fun vs H Q _ => ∃ v out rs, vs = [v] /\ Tw H [v] out rs /\ out.length <= 1000 /\ ∀ p ys H', H p = none -> Same H H' -> H' p = some (.lst ys) -> KsOf H' ys (dd [] rs) -> Q (.ref p) H'
theorem scReads : FnScope ["formula", "found", "one"] ["formula"] (defScope sReads) := fsc
theorem ok_reads (F : Fun K "readings_of" "readings_of" sReads f fd) (hlist : mg "list" = none) (mR : mg "READINGS" = some (.ref aR)) (hR : ∀ H, SqT K H aR [.str "own", .str "part"])
  (GT : FnOk P w K mg base CX0 2 f2 fd2 ["formula"] spTuples) (bT : Binds K fd2 ["formula"] []) (kT : PySem.W.keepIn K (.ref f2) = true) (mT : mg "tuples_of" = some (.ref f2)) :
  FnOk P w K mg base CX0 3 f fd ["formula"] spReads := by
 refine F.ok scReads (fun vs H Q E h => ?_) (fun cdv A outer s H vs Q E hr h => ?_)
 ·obtain ⟨v, b, _, rfl, _⟩ := h
  rfl
 obtain ⟨v, out, rs, rfl, hT, hout, q⟩ := h
 have hu := hr.units
 refine ⟨_, pss_cons (ps_set (i := 1) scReads.nd rfl (Or.inl rfl) pe_dnewT)
  (pss_cons (ps_for PassesOwn.never rfl (pi_list (pe_call GT hr rfl mT kT bT .nil pass0 (pa_cons (pv 0) pa_nil))) (pg_name (i := 2) scReads.nd rfl (Or.inl rfl))
   (pss_one (ps_if (pt_cmpR op_in_seq (pe_ix (r := rIxT K) ix_tup (pv 2) pe_int (fun _ _ => rfl)) (pe_glob (v := .ref aR) rfl mR rfl) (by with_unfolding_all rfl))
    (pss_one (ps_dput (hu_of hr) (pv 1) (pv 2) pe_bl rfl)) pss_nil)))
  (pss_one (ps_ret (pe_callTy (call_listD rfl) rfl hlist (by decide +kernel) (pa_cons (pv 1) pa_nil))))), ?_⟩
 refine fun pd hd => ?_
 have s0 := same_new hd (.dT [])
 have g0 : (upd H pd (.dT [])) pd = some (.dT []) := upd_same
 generalize upd H pd (.dT []) = H0 at s0 g0 ⊢
 refine ⟨_, rfl, v, out, rfl, (hT.mono (fun _ _ h => s0 _ _ h)).ts, hout, fun p1 H1 s1 h1 => ⟨p1, rfl, ⟨out, SqL.of h1⟩, ?_⟩⟩
 have S1 := s0.trans s1
 have n1 : pd ≠ p1 := fun e => by
  subst e
  have := s1 _ _ g0
  rw [h1] at this
  cases this
 refine for_list (xs := out) (fun i Z H' => i <= out.length /\ ∃ o kvs rs', Z = [some v, some (.ref pd), o] /\ H' pd = some (.dT kvs) /\ H' p1 = some (.lst out) /\ Same H H' /\ Tr H (out.drop i) rs' /\ dd (kvs.map (·.1)) rs' = dd [] rs /\ kvs.length <= i)
  ⟨Nat.zero_le _, none, [], rs, rfl, s1 _ _ g0, h1, S1, hT.tr, rfl, Nat.le_refl _⟩ (fun i Z H' _ h => by obtain ⟨_, _, _, _, _, _, gp, _⟩ := h; exact SqL.of gp) ?_ ?_
 ·rintro i x Z H' hx ⟨hi, o, kvs, rs', rfl, gd, gp, sm, hTr, hdd, hl⟩
  have hlt : i < out.length := (List.getElem?_eq_some_iff.mp hx).1
  have hdr : out.drop i = x :: out.drop (i + 1) := by
   rw [List.drop_eq_getElem_cons hlt]
   have : out[i]? = some out[i] := List.getElem?_eq_getElem hlt
   rw [hx] at this
   rw [Option.some.inj this]
  rw [hdr] at hTr
  cases hTr with
  | @rd a ks _ rs'' ha hk t =>
   obtain ⟨k, r, e, hk2, _, _⟩ := rk_head hk
   have ha' := sm _ _ ha
   refine ⟨_, rfl, a, _, 0, _, rfl, rfl, SqT.of (by rw [<- e]; exact ha'), atI0, aR, _, rfl, .inr (hR _), rfl, rfl, _, rfl, ?_⟩
   refine ite2 (fun _ => ?_) (fun c => absurd ?_ c)
   ·refine ⟨_, rfl, _, rfl, pd, _, rfl, DPut.t gd ha' (small1000 (by lia)), ?_⟩
    refine ⟨hlt, _, _, rs'', rfl, upd_same, by rw [upd_ne (Ne.symm n1)]; exact gp, fun c oo h => by rw [upd_ne (ne_of_none h hd)]; exact sm c oo h, t, ?_, ?_⟩
    ·rw [keys_put]; exact hdd
    ·have := congrArg List.length (keys_put kvs ks (.bl true))
     rw [List.length_map] at this
     rw [this]
     split
     ·rw [List.length_map]; lia
     ·rw [List.length_append, List.length_map, List.length_singleton]; lia
   ·show inV (.str k) [.str "own", .str "part"] = true
    rw [in_readings]
    rcases hk2 with rfl | rfl <;> rfl
  | @no a k r _ _ ha h1' h2' t =>
   refine ⟨_, rfl, a, _, 0, _, rfl, rfl, SqT.of (sm _ _ ha), atI0, aR, _, rfl, .inr (hR _), rfl, rfl, _, rfl, ?_⟩
   refine ite2 (fun c => absurd c ?_) (fun _ => ?_)
   ·show ¬ inV (.str k) [.str "own", .str "part"] = true
    rw [in_readings, decide_eq_false h1', decide_eq_false h2']
    decide
   ·exact ⟨hlt, _, _, rs', rfl, gd, gp, sm, t, hdd, by lia⟩
 ·rintro Z H' ⟨_, o, kvs, rs', rfl, gd, gp, sm, hTr, hdd, hl⟩
  rw [List.drop_length] at hTr
  cases hTr
  refine ⟨_, rfl, pd, kvs, rfl, gd, fun p ys hp hk => ?_⟩
  have e : kvs.map (·.1) = dd [] rs := hdd
  rw [e] at hk
  exact q p ys _ (sm.free hp) (fun c oo h => by rw [upd_ne (ne_of_none (sm c oo h) hp)]; exact sm c oo h) upd_same (hk.mono fun b xs h => by rw [upd_ne (ne_of_none h hp)]; exact h)
noncomputable def Kp (tp : Addr) (H H' : Hp) : Prop := ∀ b o, H b = some o -> b ≠ tp -> H' b = some o
theorem Kp.refl {tp : Addr} {H : Hp} : Kp tp H H := fun _ _ h _ => h
theorem Kp.trans {tp : Addr} {H H1 H2 : Hp} (a : Kp tp H H1) (b : Kp tp H1 H2) : Kp tp H H2 := fun c o h n => b c o (a c o h n) n
theorem Kp.same {tp : Addr} {H H1 H2 : Hp} (a : Kp tp H H1) (b : Same H1 H2) : Kp tp H H2 := fun c o h n => b c o (a c o h n)
theorem Kp.tape {tp : Addr} {H : Hp} {o : HO} : Kp tp H (upd H tp o) := fun b u h n => by rw [upd_ne n]; exact h
theorem Kp.new {tp p : Addr} {H H1 : Hp} {o : HO} (a : Kp tp H H1) (h : H1 p = none) : Kp tp H (upd H1 p o) := a.same (same_new h _)
noncomputable def Tp (H : Hp) (tp : Addr) : Prop := ∃ t : Int, H tp = some (.lst [.int t])
theorem Kp.tk {tp : Addr} {H H' : Hp} (a : Kp tp H H') (t : Tp H tp) : TK H H' := fun b xs h => a b _ h fun e => by
 obtain ⟨t, ht⟩ := t
 subst e
 rw [ht] at h
 cases h
theorem Tp.new {H : Hp} {tp p : Addr} {o : HO} (t : Tp H tp) (h : H p = none) : Tp (upd H p o) tp := by
 obtain ⟨t, ht⟩ := t
 exact ⟨t, by rw [upd_ne (ne_of_none ht h)]; exact ht⟩
inductive spCell (K : PySem.W.Frag) (vs : List V) (H : Hp) (Q : VK) (E_ : XK) : Prop
 | mk : ∀ (a : Addr) (ns : List Int) (k : Int), (vs = [.ref a, .int k]) -> (SqL K H a (ns.map V.int)) -> (ns.length <= 63) -> (0 <= k) -> (∀ c : Int, Q (.int c) H) -> spCell K vs H Q E_
inductive spTape (K : PySem.W.Frag) (vs : List V) (H : Hp) (Q : VK) (E_ : XK) : Prop
 | mk : ∀ (a : Addr) (ns : List Int) (k : Int), (vs = [.ref a, .int k]) -> (SqL K H a (ns.map V.int)) -> (ns.length <= 63) -> (0 <= k) -> (k < 1000) -> (∀ p t, H p = none -> Q (.ref p) (upd H p (.lst [.int t]))) -> spTape K vs H Q E_
inductive spDigit  (vs : List V) (H : Hp) (Q : VK) (E_ : XK) : Prop
 | mk : ∀ (tp : Addr) (m : Int), (vs = [.ref tp, .int m]) -> (Tp H tp) -> (0 < m) -> (m < 1073741824) -> (∀ d t : Int, 0 <= d -> d < m -> Q (.int d) (upd H tp (.lst [.int t]))) -> spDigit vs H Q E_
inductive spNumber  (vs : List V) (H : Hp) (Q : VK) (E_ : XK) : Prop
 | mk : ∀ tp, (vs = [.ref tp]) -> (Tp H tp) -> (∀ (n : Int) H', -999999 <= n -> n <= 999999 -> Kp tp H H' -> Tp H' tp -> Q (.int n) H') -> spNumber vs H Q E_
theorem scCell : FnScope ["script", "k"] ["script", "k"] (defScope sCell) := fsc
theorem ok_cell (F : Fun K "_law_cell_at" "_law_cell_at" sCell f fd) (G : Gb mg) : FnOk P w K mg base CX0 1 f fd ["script", "k"] (spCell K) := by
 refine F.ok scCell (fun vs H Q E h => ?_) (fun cdv A outer s H vs Q E hr h => ?_)
 ·obtain ⟨a, ns, k, rfl, _⟩ := h
  rfl
 obtain ⟨a, ns, k, rfl, hS, hl, hk, q⟩ := h
 refine ⟨_, pss_cons (ps_if (pt_cmpR op_lt (pv 1) (pe_callB (r := rLen K) call_len_seq rfl G.len PySem.boot_len (pa_cons (pv 0) pa_nil)) (nomark _)) (pss_one (ps_ret (pe_ix (r := rIxL K) ix_list (pv 0) (pv 1) (fun _ _ => rfl)))) pss_nil) (pss_one (ps_ret pe_int)), ?_⟩
 refine ⟨_, rfl, _, rfl, a, _, rfl, .inl hS, _, _, rfl, rfl, _, rfl, ?_⟩
 refine ite2 (fun c => ?_) (fun c => ?_)
 ·have c' : k < (((ns.map V.int).length : Nat) : Int) := of_decide_eq_true c
  rw [List.length_map] at c'
  have hk' : k.toNat < ns.length := by lia
  have e : atI (ns.map V.int) k = some (V.int ns[k.toNat]) := by
   have ek : k = ((k.toNat : Nat) : Int) := by lia
   have q : atI (ns.map V.int) ((k.toNat : Nat) : Int) = some (V.int ns[k.toNat]) := atI_nat (by rw [List.getElem?_map, List.getElem?_eq_getElem hk'] <;> rfl)
   rw [<- ek] at q
   exact q
  exact ⟨_, rfl, _, rfl, a, _, k, _, rfl, rfl, hS, e, q _⟩
 ·exact q 0
theorem scTape : FnScope ["script", "k", "cell", "p", "one", "two", "three", "four"] ["script", "k"] (defScope sTape) := fsc
theorem ok_tape (F : Fun K "_law_tape" "_law_tape" sTape f fd) (GC : FnOk P w K mg base CX0 1 g gd ["script", "k"] (spCell K)) (bC : Binds K gd ["script", "k"] []) (kC : PySem.W.keepIn K (.ref g) = true) (mC : mg "_law_cell_at" = some (.ref g)) :
  FnOk P w K mg base CX0 2 f fd ["script", "k"] (spTape K) := by
 refine F.ok scTape (fun vs H Q E h => ?_) (fun cdv A outer s H vs Q E hr h => ?_)
 ·obtain ⟨a, ns, k, rfl, _⟩ := h
  rfl
 obtain ⟨a, ns, k, rfl, hS, hl, hk, hk2, q⟩ := h
 refine ⟨_, pss_cons (ps_set (i := 2) scTape.nd rfl (Or.inl rfl) (pe_call GC hr rfl mC kC bC .nil pass0 (pa_cons (pv 0) (pa_cons (pv 1) pa_nil))))
  (pss_cons (ps_if (pt_cmpR op_eq (pe_op op_mod (pv 2) pe_int) pe_int (nomark _)) (pss_one (ps_ret (pe_lst (pa_cons (pe_op op_fdiv (pv 2) pe_int) pa_nil)))) pss_nil)
  (pss_cons (ps_set (i := 3) scTape.nd rfl (Or.inl rfl) pe_int)
  (pss_cons (ps_set (i := 4) scTape.nd rfl (Or.inl rfl) (pe_op op_mod (pe_op op_add (pe_op op_add (pe_op op_mul (pe_op op_mod (pv 2) (pv 3)) pe_int) (pe_op op_mul pe_int (pv 1))) pe_int) (pv 3)))
  (pss_cons (ps_set (i := 5) scTape.nd rfl (Or.inl rfl) (pe_op op_mod (pe_op op_add (pe_op op_add (pe_op op_mul (pv 4) (pv 4)) (pe_op op_mul pe_int (pv 1))) (pv 4)) (pv 3)))
  (pss_cons (ps_set (i := 6) scTape.nd rfl (Or.inl rfl) (pe_op op_mod (pe_op op_add (pe_op op_mul (pv 5) (pv 5)) (pv 4)) (pv 3)))
  (pss_cons (ps_set (i := 7) scTape.nd rfl (Or.inl rfl) (pe_op op_mod (pe_op op_add (pe_op op_mul (pv 6) (pv 6)) (pv 5)) (pv 3)))
  (pss_one (ps_ret (pe_lst (pa_cons (pe_op op_add (pe_op op_mul (pe_op op_add (pe_op op_mul (pe_op op_add (pe_op op_mul (pv 4) (pv 3)) (pv 5)) (pv 3)) (pv 6)) (pv 3)) (pv 7)) pa_nil)))))))))), ?_⟩
 refine ⟨_, rfl, _, rfl, a, ns, k, rfl, hS, hl, hk, fun c => ?_⟩
 refine ⟨_, rfl, _, _, rfl, rfl, (by show (0 : Int) < 2; decide), rfl, _, rfl, ?_⟩
 refine ite2 (fun _ => ?_) (fun _ => ?_)
 ·exact ⟨_, rfl, _, _, rfl, rfl, ⟨by decide, by decide⟩, (by show 1 <= sizeLine; decide), fun p hp => q p _ hp⟩
 have hp0 : (0 : Int) < 2305843009213693951 := by decide
 have mm : ∀ x : Int, -(2 ^ 64) < x % 2305843009213693951 /\ x % 2305843009213693951 < 2 ^ 64 := fun x => by
  have h1 := Int.emod_nonneg x (show (2305843009213693951 : Int) ≠ 0 by decide)
  have h2 := Int.emod_lt_of_pos x hp0
  lia
 have hkk : -(2 ^ 64) < k /\ k < 2 ^ 64 := by lia
 have hpp : (-(2 ^ 64) : Int) < 2305843009213693951 /\ (2305843009213693951 : Int) < 2 ^ 64 := by decide
 refine ⟨_, rfl, _, rfl, _, _, rfl, rfl, hp0, _, _, rfl, rfl, .inl (mm _), _, rfl, _, _, rfl, rfl, .inr hkk, _, _, rfl, rfl, _, _, rfl, rfl, _, rfl, _, _, rfl, rfl, hp0, ?_⟩
 refine ⟨_, rfl, _, rfl, _, _, rfl, rfl, .inl (mm _), _, rfl, _, _, rfl, rfl, .inr hkk, _, _, rfl, rfl, _, rfl, _, _, rfl, rfl, _, rfl, _, _, rfl, rfl, hp0, ?_⟩
 refine ⟨_, rfl, _, rfl, _, _, rfl, rfl, .inl (mm _), _, rfl, _, _, rfl, rfl, _, rfl, _, _, rfl, rfl, hp0, ?_⟩
 refine ⟨_, rfl, _, rfl, _, _, rfl, rfl, .inl (mm _), _, rfl, _, _, rfl, rfl, _, rfl, _, _, rfl, rfl, hp0, ?_⟩
 refine ⟨_, rfl, _, rfl, _, _, rfl, rfl, .inr hpp, _, rfl, _, _, rfl, rfl, _, rfl, _, _, rfl, rfl, .inr hpp, _, rfl, _, _, rfl, rfl, _, rfl, _, _, rfl, rfl, .inr hpp, _, rfl, _, _, rfl, rfl, (by show 1 <= sizeLine; decide), fun p hp => q p _ hp⟩
theorem scDigit : FnScope ["tape", "many", "found"] ["tape", "many"] (defScope sDigit) := fsc
theorem ok_digit (F : Fun K "_law_digit" "_law_digit" sDigit f fd) : FnOk P w K mg base CX0 1 f fd ["tape", "many"] spDigit := by
 refine F.ok scDigit (fun vs H Q E h => ?_) (fun cdv A outer s H vs Q E hr h => ?_)
 ·obtain ⟨tp, m, rfl, _⟩ := h
  rfl
 obtain ⟨tp, m, rfl, ⟨t, ht⟩, hm, hm2, q⟩ := h
 refine ⟨_, pss_cons (ps_set (i := 2) scDigit.nd rfl (Or.inl rfl) (pe_op op_mod (pe_ix (r := rIxL K) ix_list (pv 0) pe_int (fun _ _ => rfl)) (pv 1)))
  (pss_cons (ps_asg (pe_op op_fdiv (pe_ix (r := rIxL K) ix_list (pv 0) pe_int (fun _ _ => rfl)) (pv 1)) (pg_sub (pv 0) pe_int set_list))
  (pss_one (ps_ret (pv 2)))), ?_⟩
 refine ⟨_, rfl, tp, _, 0, _, rfl, rfl, SqL.of ht, atI0, _, rfl, _, _, rfl, rfl, hm, ?_⟩
 refine ⟨_, rfl, tp, _, 0, _, rfl, rfl, SqL.of ht, atI0, _, rfl, _, _, rfl, rfl, ⟨hm, hm2⟩, ?_⟩
 refine ⟨_, rfl, tp, _, 0, 0, rfl, rfl, ht, rfl, ?_⟩
 exact ⟨_, rfl, q (t % m) (t / m) (Int.emod_nonneg _ (by lia)) (Int.emod_lt_of_pos _ hm)⟩
theorem scNumber : FnScope ["tape", "way"] ["tape"] (defScope sNumber) := fsc
theorem ok_number (F : Fun K "_law_number" "_law_number" sNumber f fd) (GD : FnOk P w K mg base CX0 1 g gd ["tape", "many"] spDigit) (bD : Binds K gd ["tape", "many"] []) (kD : PySem.W.keepIn K (.ref g) = true) (mD : mg "_law_digit" = some (.ref g)) :
  FnOk P w K mg base CX0 2 f fd ["tape"] spNumber := by
 refine F.ok scNumber (fun vs H Q E h => ?_) (fun cdv A outer s H vs Q E hr h => ?_)
 ·obtain ⟨tp, rfl, _⟩ := h
  rfl
 obtain ⟨tp, rfl, hT, q⟩ := h
 refine ⟨_, pss_cons (ps_set (i := 1) scNumber.nd rfl (Or.inl rfl) (pe_call GD hr rfl mD kD bD .nil pass0 (pa_cons (pv 0) (pa_cons pe_int pa_nil))))
  (pss_cons (ps_if (pt_cmpR op_lt (pv 1) pe_int (nomark _)) (pss_one (ps_ret (pv 1))) pss_nil)
  (pss_one (ps_ret (pe_ix (r := rIxL K) ix_list (pe_lst (pa_cons (pe_un un_neg pe_int) (pa_cons (pe_op op_sub (pe_call GD hr rfl mD kD bD .nil pass0 (pa_cons (pv 0) (pa_cons pe_int pa_nil))) pe_int)
   (pa_cons (pe_op op_sub (pe_call GD hr rfl mD kD bD .nil pass0 (pa_cons (pv 0) (pa_cons pe_int pa_nil))) pe_int) pa_nil)))) (pe_op op_sub (pv 1) pe_int) (fun _ _ => rfl))))), ?_⟩
 refine ⟨_, rfl, tp, 6, rfl, hT, by decide, by decide, fun d t h0 h1 => ?_⟩
 refine ⟨_, rfl, _, _, rfl, rfl, _, rfl, ?_⟩
 refine ite2 (fun c => ?_) (fun c => ?_)
 ·exact ⟨_, rfl, q d _ (by lia) (by lia) Kp.tape ⟨t, upd_same⟩⟩
 have c' : 3 <= d := by
  rcases Int.lt_or_le d 3 with z | z
  ·exact absurd (decide_eq_true z) c
  ·exact z
 refine ⟨_, rfl, _, rfl, tp, 1001, rfl, ⟨t, upd_same⟩, by decide, by decide, fun d2 t2 h20 h21 => ?_⟩
 refine ⟨_, _, rfl, rfl, _, rfl, tp, 1999999, rfl, ⟨t2, upd_same⟩, by decide, by decide, fun d3 t3 h30 h31 => ?_⟩
 refine ⟨_, _, rfl, rfl, (by show 3 <= sizeLine; decide), fun p hp => ?_⟩
 rw [upd_upd, upd_upd] at hp ⊢
 have hd : d = 3 \/ d = 4 \/ d = 5 := by lia
 have fin : ∀ n : Int, -999999 <= n -> n <= 999999 -> Q (.int n) (upd (upd H tp (.lst [.int t3])) p (.lst [.int (-1), .int (d2 - 500), .int (d3 - 999999)])) := fun n h1 h2 =>
  q n _ h1 h2 (Kp.tape.new hp) (Tp.new ⟨t3, upd_same⟩ hp)
 rcases hd with rfl | rfl | rfl
 ·exact ⟨_, rfl, _, _, rfl, rfl, p, _, 0, _, rfl, rfl, SqL.of upd_same, atI0, fin _ (by lia) (by lia)⟩
 ·exact ⟨_, rfl, _, _, rfl, rfl, p, _, 1, _, rfl, rfl, SqL.of upd_same, atI1, fin _ (by lia) (by lia)⟩
 ·exact ⟨_, rfl, _, _, rfl, rfl, p, _, 2, _, rfl, rfl, SqL.of upd_same, atI2, fin _ (by lia) (by lia)⟩
theorem atI_lt {α : Type} {xs : List α} {d : Int} (h0 : 0 <= d) (h1 : d < xs.length) : ∃ x, atI xs d = some x /\ xs[d.toNat]? = some x := by
 have hk : d.toNat < xs.length := by lia
 have ek : d = ((d.toNat : Nat) : Int) := by lia
 have q : atI xs ((d.toNat : Nat) : Int) = some xs[d.toNat] := atI_nat (List.getElem?_eq_getElem hk)
 rw [<- ek] at q
 exact ⟨_, q, List.getElem?_eq_getElem hk⟩
theorem cut_take (xs : List V) {j : Int} (h0 : 0 <= j) (h1 : j <= xs.length) : cutV xs none (some j) = xs.take j.toNat := by
 have ej : j = ((j.toNat : Nat) : Int) := by lia
 have e : HT.sIx xs.length xs.length (some j) = j.toNat := by
  rw [ej, HT.sIx_nat]
  lia
 unfold cutV
 rw [e, HT.sIx_none, List.drop_zero, Nat.sub_zero]
theorem cut_drop (xs : List V) {j : Int} (h0 : 0 <= j) (h1 : j <= xs.length) : cutV xs (some j) none = xs.drop j.toNat := by
 have ej : j = ((j.toNat : Nat) : Int) := by lia
 have e : HT.sIx xs.length 0 (some j) = j.toNat := by
  rw [ej, HT.sIx_nat]
  lia
 unfold cutV
 rw [e, HT.sIx_none]
 apply List.take_of_length_le
 rw [List.length_drop]
 lia
theorem split2 {xs : List V} {j : Nat} (h : j + 2 <= xs.length) : ∃ a x y b, xs = a ++ x :: y :: b /\ a.length = j /\ xs.take j = a /\ xs.drop (j + 2) = b := by
 refine ⟨xs.take j, xs[j], xs[j + 1], xs.drop (j + 2), ?_, by rw [List.length_take]; lia, rfl, rfl⟩
 rw [<- List.drop_eq_getElem_cons (by lia), <- List.drop_eq_getElem_cons (by lia), List.take_append_drop]
theorem split3 {xs : List V} {j : Nat} (h : j + 3 <= xs.length) : ∃ a x y z b, xs = a ++ x :: y :: z :: b /\ a.length = j /\ xs.take j = a /\ xs.drop (j + 3) = b := by
 refine ⟨xs.take j, xs[j], xs[j + 1], xs[j + 2], xs.drop (j + 3), ?_, by rw [List.length_take]; lia, rfl, rfl⟩
 rw [<- List.drop_eq_getElem_cons (by lia), <- List.drop_eq_getElem_cons (by lia), <- List.drop_eq_getElem_cons (by lia), List.take_append_drop]
theorem at_app {a b : List V} {x : V} {d : Int} (h : d = (a.length : Int)) : atI (a ++ x :: b) d = some x := by
 subst h
 exact atI_nat (by rw [List.getElem?_append_right (Nat.le_refl _), Nat.sub_self]; rfl)
theorem tand {A B R : Prop} {c1 c2 : Bool} (hr : (if c2 = true then A else B) -> R) (h1 : c1 = true -> c2 = true -> A) (h2 : ¬ (c1 = true /\ c2 = true) -> B) : if c1 = true then R else (if false = true then A else B) := by
 cases c1 with
 | true =>
  rw [if_pos rfl]
  apply hr
  cases c2 with
  | true => rw [if_pos rfl]; exact h1 rfl rfl
  | false => exact iteF (h2 fun z => Bool.false_ne_true z.2)
 | false => exact iteF (iteF (h2 fun z => Bool.false_ne_true z.1))
theorem slice_len (z : Str) {j : Int} (h0 : 0 <= j) (h1 : j <= z.length) : ((Txt.slice z none (some j)).length : Int) = j := by
 rcases PyProof.Rows.slice_ns_cases z j h0 with ⟨_, h⟩ | ⟨h, _⟩
 ·exact h
 ·lia
noncomputable def letters : Str := "abcdefghijklmnopqrstuvwxyz"
theorem letters_all : letters.cps.toList.all lett = true := by decide +kernel
theorem letters_len : letters.length = 26 := by decide +kernel
theorem letter_at {d : Int} (h0 : 0 <= d) (h1 : d < 26) : ∃ c, atI letters.cps.toList d = some c /\ lett c = true := by
 have hl : letters.cps.toList.length = 26 := by decide +kernel
 obtain ⟨c, e, e2⟩ := atI_lt (xs := letters.cps.toList) h0 (by rw [hl]; lia)
 exact ⟨c, e, List.all_eq_true.mp letters_all c (List.mem_of_getElem? e2)⟩
theorem app_len (x y : Str) : (x ++ y).length = x.length + y.length := by
 show (x.cps ++ y.cps).size = _
 rw [Array.size_append]
 rfl
noncomputable def names13 : List Str := ["own", "up", "down", "min", "max", "of", "top", "form", "sort", "wheel", "book", "tree", "ok"]
theorem aneq : (Txt.slice "aneqoubi" none (some 7)).length = 7 /\ (Txt.slice "aneqoubi" none (some 7)).cps.toList.all lett = true := by decide +kernel
theorem eyz_len : ("eyzmopq" : Str).length = 7 := by decide +kernel
theorem Tp.same {H H' : Hp} {tp : Addr} (t : Tp H tp) (s : Same H H') : Tp H' tp := by
 obtain ⟨t0, e⟩ := t
 exact ⟨t0, s _ _ e⟩
noncomputable def Fm.wfp (ρ : Fm -> Prop) : Fm -> Prop
 | .num n => -999999 <= n /\ n <= 999999
 | .own x => wordB x = true /\ ρ (.own x)
 | .part k x => ((0 <= k /\ k <= 2) /\ wordB x = true) /\ ρ (.part k x)
 | .bin op a b => op ∈ ops /\ a.wfp ρ /\ b.wfp ρ
 | .whn a b c => a.wfp ρ /\ b.wfp ρ /\ c.wfp ρ
theorem Fm.wfp.wf {ρ : Fm -> Prop} : ∀ {f : Fm}, f.wfp ρ -> f.wf
 | .num _, h => h
 | .own _, h => h.1
 | .part _ _, h => h.1
 | .bin _ _ _, h => ⟨h.1, Fm.wfp.wf h.2.1, Fm.wfp.wf h.2.2⟩
 | .whn _ _ _, h => ⟨Fm.wfp.wf h.1, Fm.wfp.wf h.2.1, Fm.wfp.wf h.2.2⟩
inductive FsP (ρ : Fm -> Prop) (H : Hp) : List V -> Nat -> Prop where
 | nil : FsP ρ H [] 0
 | cons {v : V} {f : Fm} {vs : List V} {n : Nat} : Rep H f v -> f.wfp ρ -> FsP ρ H vs n -> FsP ρ H (v :: vs) (f.size + n)
theorem FsP.append {ρ : Fm -> Prop} {H : Hp} {xs ys : List V} {m n : Nat} (a : FsP ρ H xs m) (b : FsP ρ H ys n) : FsP ρ H (xs ++ ys) (m + n) := by
 induction a with
 | nil => rw [Nat.zero_add]; exact b
 | cons r w _ ih => rw [Nat.add_assoc]; exact .cons r w ih
theorem FsP.split {ρ : Fm -> Prop} {H : Hp} : ∀ {xs ys : List V} {n : Nat}, FsP ρ H (xs ++ ys) n -> ∃ a b, FsP ρ H xs a /\ FsP ρ H ys b /\ n = a + b
 | [], ys, n, h => ⟨0, n, .nil, h, by lia⟩
 | x :: r, ys, n, h => by
  cases h with
  | cons rp wf t =>
   obtain ⟨a, b, h1, h2, e⟩ := FsP.split t
   exact ⟨_, b, .cons rp wf h1, h2, by lia⟩
theorem FsP.mono {ρ : Fm -> Prop} {H H' : Hp} (t : TK H H') {xs : List V} {n : Nat} (h : FsP ρ H xs n) : FsP ρ H' xs n := by
 induction h with
 | nil => exact .nil
 | cons r w _ ih => exact .cons (r.mono t) w ih
noncomputable def LvsP (ρ : Fm -> Prop) (H : Hp) (rs : List V) : Prop := ∀ v ∈ rs, ∃ f, Rep H f v /\ f.wfp ρ /\ f.size = 1
theorem LvsP.mono {ρ : Fm -> Prop} {H H' : Hp} (t : TK H H') {rs : List V} (h : LvsP ρ H rs) : LvsP ρ H' rs := fun v hv => by
 obtain ⟨f, r, w, s⟩ := h v hv
 exact ⟨f, r.mono t, w, s⟩
inductive spLeafP (ρ : Fm -> Prop) (vs : List V) (H : Hp) (Q : VK) (E_ : XK) : Prop
 | mk : ∀ tp rl rs, (vs = [.ref tp, .ref rl]) -> (Tp H tp) -> (rl ≠ tp) -> (H rl = some (.lst rs)) -> (rs.length <= 1000) -> (LvsP ρ H rs) -> (∀ v f H', Rep H' f v -> f.wfp ρ -> f.size = 1 -> Kp tp H H' -> Tp H' tp -> Q v H') -> spLeafP ρ vs H Q E_
inductive spFormulaP (ρ : Fm -> Prop) (vs : List V) (H : Hp) (Q : VK) (E_ : XK) : Prop
 | mk : ∀ tp rl rs, (vs = [.ref tp, .ref rl]) -> (Tp H tp) -> (rl ≠ tp) -> (H rl = some (.lst rs)) -> (rs.length <= 1000) -> (LvsP ρ H rs) -> (∀ v f H', Rep H' f v -> f.wfp ρ -> f.size <= 15 -> Kp tp H H' -> Tp H' tp -> Q v H') -> spFormulaP ρ vs H Q E_
theorem scLeafP : FnScope ["tape", "readings"] ["tape", "readings"] (defScope sLeaf) := fsc
theorem ok_leafP {ρ : Fm -> Prop} (F : Fun K "_law_leaf" "_law_leaf" sLeaf f fd) (G : Gb mg) (GD : FnOk P w K mg base CX0 1 g gd ["tape", "many"] spDigit) (bD : Binds K gd ["tape", "many"] []) (kD : PySem.W.keepIn K (.ref g) = true) (mD : mg "_law_digit" = some (.ref g))
  (GN : FnOk P w K mg base CX0 2 f2 fd2 ["tape"] spNumber) (bN : Binds K fd2 ["tape"] []) (kN : PySem.W.keepIn K (.ref f2) = true) (mN : mg "_law_number" = some (.ref f2)) :
  FnOk P w K mg base CX0 3 f fd ["tape", "readings"] (spLeafP ρ) := by
 refine F.ok scLeafP (fun vs H Q E h => ?_) (fun cdv A outer s H vs Q E hr h => ?_)
 ·obtain ⟨tp, rl, rs, rfl, _⟩ := h
  rfl
 obtain ⟨tp, rl, rs, rfl, hT, hne, hrl, hlen, hL, q⟩ := h
 have hr1 := hr.mono (show 1 <= 2 by decide)
 refine ⟨_, pss_cons (ps_if (PW.pt (pw_and (pt_cmpR op_gt (pe_callB (r := rLen K) call_len_seq rfl G.len PySem.boot_len (pa_cons (pv 1) pa_nil)) pe_int (nomark _))
   (pw_and1 (pt_cmpR op_lt (pe_call GD hr1 rfl mD kD bD .nil pass0 (pa_cons (pv 0) (pa_cons pe_int pa_nil))) pe_int (nomark _)))))
   (pss_one (ps_ret (pe_ix (r := rIxL K) ix_list (pv 1) (pe_call GD hr1 rfl mD kD bD .nil pass0 (pa_cons (pv 0) (pa_cons (pe_callB (r := rLen K) call_len_seq rfl G.len PySem.boot_len (pa_cons (pv 1) pa_nil)) pa_nil))) (fun _ _ => rfl)))) pss_nil)
  (pss_one (ps_ret (pe_tup (pa_cons pe_str (pa_cons (pe_call GN hr rfl mN kN bN .nil pass0 (pa_cons (pv 0) pa_nil)) pa_nil))))), ?_⟩
 have num : ∀ H1, Kp tp H H1 -> Tp H1 tp -> (tVar 0 ([some (V.ref tp), some (.ref rl)] : St) H1 fun v H1 => spNumber [v] H1 (fun x H2 => [V.str "num", x].length <= sizeLine /\ ∀ p, H2 p = none -> Q (.ref p) (upd H2 p (.tup [V.str "num", x]))) E0) := fun H1 k1 t1 => by
  refine ⟨_, rfl, tp, rfl, t1, fun n H2 h1 h2 k2 t2 => ⟨(by show 2 <= sizeLine; decide), fun p hp => ?_⟩⟩
  exact q _ (.num n) _ ⟨p, rfl, upd_same⟩ ⟨h1, h2⟩ rfl ((k1.trans k2).new hp) (t2.new hp)
 refine ⟨_, rfl, rl, rs, rfl, .inl (SqL.of hrl), _, _, rfl, rfl, _, rfl, ?_⟩
 refine ite2 (fun c => ?_) (fun c => ?_)
 ·have c' : 0 < rs.length := by have := of_decide_eq_true c; lia
  refine ⟨_, rfl, tp, 4, rfl, hT, by decide, by decide, fun d t h0 h1 => ?_⟩
  refine ⟨_, _, rfl, rfl, _, rfl, ?_⟩
  refine ite2 (fun c2 => ?_) (fun c2 => ?_)
  ·have h2 : (upd H tp (.lst [.int t])) rl = some (.lst rs) := by rw [upd_ne hne]; exact hrl
   refine ⟨_, rfl, _, rfl, _, rfl, rl, rs, rfl, .inl (SqL.of h2), tp, _, rfl, ⟨t, upd_same⟩, by lia, by lia, fun d2 t2 h20 h21 => ?_⟩
   rw [upd_upd]
   have h3 : (upd H tp (.lst [.int t2])) rl = some (.lst rs) := by rw [upd_ne hne]; exact hrl
   obtain ⟨x, ex, ex2⟩ := atI_lt (xs := rs) h20 h21
   obtain ⟨fm, r, wf, sz⟩ := hL x (List.mem_of_getElem? ex2)
   have k2 : Kp tp H (upd H tp (.lst [.int t2])) := Kp.tape
   exact ⟨rl, rs, d2, x, rfl, rfl, SqL.of h3, ex, q x fm _ (r.mono (k2.tk hT)) wf sz k2 ⟨t2, upd_same⟩⟩
  ·exact num _ Kp.tape ⟨t, upd_same⟩
 ·exact num _ Kp.refl hT
theorem fsP_bin {H : Hp} {a b : List V} {x y : V} {n : Nat} (h : FsP ρ H (a ++ x :: y :: b) n) : ∃ A B, Rep H A x /\ Rep H B y /\ A.wfp ρ /\ B.wfp ρ /\ ∃ m1 m2, FsP ρ H a m1 /\ FsP ρ H b m2 /\ n = m1 + (A.size + (B.size + m2)) := by
 obtain ⟨m1, r, h1, h2, e⟩ := h.split
 cases h2 with
 | cons ra wa h3 =>
  cases h3 with
  | cons rb wb h4 => exact ⟨_, _, ra, rb, wa, wb, m1, _, h1, h4, e⟩
theorem fsP_whn {H : Hp} {a b : List V} {x y z : V} {n : Nat} (h : FsP ρ H (a ++ x :: y :: z :: b) n) : ∃ A B C, Rep H A x /\ Rep H B y /\ Rep H C z /\ A.wfp ρ /\ B.wfp ρ /\ C.wfp ρ /\ ∃ m1 m2, FsP ρ H a m1 /\ FsP ρ H b m2 /\ n = m1 + (A.size + (B.size + (C.size + m2))) := by
 obtain ⟨m1, r, h1, h2, e⟩ := h.split
 cases h2 with
 | cons ra wa h3 =>
  cases h3 with
  | cons rb wb h4 =>
   cases h4 with
   | cons rc wc h5 => exact ⟨_, _, _, ra, rb, rc, wa, wb, wc, m1, _, h1, h5, e⟩
theorem scFormulaP : FnScope ["tape", "readings", "many", "j", "stack", "way", "sign"] ["tape", "readings"] (defScope sFormula) := fsc
theorem ok_formulaP (F : Fun K "_law_formula" "_law_formula" sFormula f fd) (G : Gb mg) (GD : FnOk P w K mg base CX0 1 g gd ["tape", "many"] spDigit) (bD : Binds K gd ["tape", "many"] []) (kD : PySem.W.keepIn K (.ref g) = true) (mD : mg "_law_digit" = some (.ref g))
  (GL : FnOk P w K mg base CX0 3 f2 fd2 ["tape", "readings"] (spLeafP ρ)) (bL : Binds K fd2 ["tape", "readings"] []) (kL : PySem.W.keepIn K (.ref f2) = true) (mL : mg "_law_leaf" = some (.ref f2)) :
  FnOk P w K mg base CX0 4 f fd ["tape", "readings"] (spFormulaP ρ) := by
 refine F.ok scFormulaP (fun vs H Q E h => ?_) (fun cdv A outer s H vs Q E hr h => ?_)
 ·obtain ⟨tp, rl, rs, rfl, _⟩ := h
  rfl
 obtain ⟨tp, rl, rs, rfl, hT, hne, hrl, hlen, hL, q⟩ := h
 have hr1 := hr.mono (show 1 <= 3 by decide)
 obtain ⟨t, ht, hread⟩ : ∃ t, PSs (cxOf CX0 P w K mg base ["tape", "readings", "many", "j", "stack", "way", "sign"] "_law_formula" (defScope sFormula) f cdv A outer s H E).nox ((defBody sFormula).drop 2) t /\
   ∀ (m : Int) (H2 : Hp), 1 <= m -> m <= 8 -> Kp tp H H2 -> Tp H2 tp -> t { nx := fun _ H' => Q .non H', rt := Q } [some (.ref tp), some (.ref rl), some (.int m), none, none, none, none] H2 := by
  refine ⟨_, pss_cons (ps_setC (i := 4) (sc0 := defScope sFormula) (N0 := ["tape", "readings", "many", "j", "stack", "way", "sign"]) (ys := ["tape", "readings"]) (fr := [0, 1]) rfl scFormulaP.nd rfl (Or.inl rfl) (pi_range1 rfl G.range (pa_cons (pv 2) pa_nil)) rfl rfl
    cok
    (fun C s H ex => pe_call GL hr rfl mL kL bL .nil pass0 (pa_cons (pv 1) (pa_cons (pv 2) pa_nil))))
   (pss_cons (ps_while PassesOwn.never (pt_cmpR op_gt (pe_callB (r := rLen K) call_len_seq rfl G.len PySem.boot_len (pa_cons (pv 4) pa_nil)) pe_int (nomark _))
    (pss_cons (ps_set (i := 5) scFormulaP.nd rfl (Or.inl rfl) (pe_call GD hr1 rfl mD kD bD .nil pass0 (pa_cons (pv 0) (pa_cons pe_int pa_nil))))
    (pss_one (ps_if (PW.pt (pw_and (pt_cmpR op_eq (pv 5) pe_int (nomark _)) (pw_and1 (pt_cmpR op_gt (pe_callB (r := rLen K) call_len_seq rfl G.len PySem.boot_len (pa_cons (pv 4) pa_nil)) pe_int (nomark _)))))
     (pss_cons (ps_set (i := 3) scFormulaP.nd rfl (Or.inl rfl) (pe_call GD hr1 rfl mD kD bD .nil pass0 (pa_cons (pv 0) (pa_cons (pe_op op_sub (pe_callB (r := rLen K) call_len_seq rfl G.len PySem.boot_len (pa_cons (pv 4) pa_nil)) pe_int) pa_nil))))
     (pss_one (ps_set (i := 4) scFormulaP.nd rfl (Or.inl rfl) (pe_op op_cat (pe_op op_cat (pe_slice sl_list (pv 4) po_none (po_some (pv 3)))
      (pe_lst (pa_cons (pe_tup (pa_cons pe_str (pa_cons (pe_ix (r := rIxL K) ix_list (pv 4) (pv 3) (fun _ _ => rfl)) (pa_cons (pe_ix (r := rIxL K) ix_list (pv 4) (pe_op op_add (pv 3) pe_int) (fun _ _ => rfl)) (pa_cons (pe_ix (r := rIxL K) ix_list (pv 4) (pe_op op_add (pv 3) pe_int) (fun _ _ => rfl)) pa_nil))))) pa_nil)))
      (pe_slice sl_list (pv 4) (po_some (pe_op op_add (pv 3) pe_int)) po_none)))))
     (pss_cons (ps_set (i := 3) scFormulaP.nd rfl (Or.inl rfl) (pe_call GD hr1 rfl mD kD bD .nil pass0 (pa_cons (pv 0) (pa_cons (pe_op op_sub (pe_callB (r := rLen K) call_len_seq rfl G.len PySem.boot_len (pa_cons (pv 4) pa_nil)) pe_int) pa_nil))))
     (pss_cons (ps_set (i := 6) scFormulaP.nd rfl (Or.inl rfl) (pe_ix (r := rIxL K) ix_list (pe_lst (pa_cons pe_str (pa_cons pe_str (pa_cons pe_str (pa_cons pe_str (pa_cons pe_str pa_nil)))))) (pe_op op_mod (pv 5) pe_int) (fun _ _ => rfl)))
     (pss_one (ps_set (i := 4) scFormulaP.nd rfl (Or.inl rfl) (pe_op op_cat (pe_op op_cat (pe_slice sl_list (pv 4) po_none (po_some (pv 3)))
      (pe_lst (pa_cons (pe_tup (pa_cons (pv 6) (pa_cons (pe_ix (r := rIxL K) ix_list (pv 4) (pv 3) (fun _ _ => rfl)) (pa_cons (pe_ix (r := rIxL K) ix_list (pv 4) (pe_op op_add (pv 3) pe_int) (fun _ _ => rfl)) pa_nil)))) pa_nil)))
      (pe_slice sl_list (pv 4) (po_some (pe_op op_add (pv 3) pe_int)) po_none))))))))))
   (pss_one (ps_ret (pe_ix (r := rIxL K) ix_list (pv 4) pe_int (fun _ _ => rfl))))), fun m H2 hm1 hm8 k2 tt2 => ?_⟩
  have tpn : ∀ {p : Addr} {Hx : Hp}, Tp Hx tp -> Hx p = none -> p ≠ tp := fun t hp e => by
   obtain ⟨t0, e0⟩ := t
   subst e
   rw [e0] at hp
   cases hp
  refine ⟨_, rfl, m, rfl, by lia, by lia, ?_⟩
  refine comp_walk (n := m.toNat) (R := fun i v => v = .int (0 + i)) (by lia) itr_go itr_stop itr_yld
   (fun p i zs H' => Kp tp H H' /\ Tp H' tp /\ H' p = some (.lst zs) /\ p ≠ tp /\ zs.length = i /\ FsP ρ H' zs i) ?_ ?_ ?_ ?_
  ·intro p hp
   exact ⟨k2.new hp, tt2.new hp, upd_same, tpn tt2 hp, rfl, .nil⟩
  ·rintro p i zs H' ⟨_, _, h, _, e, _⟩
   exact ⟨h, e⟩
  ·rintro p i zs H' v k hp hi rfl ⟨k3, t3, hz, hpn, hzl, hf⟩ hk
   have hrl' : H' rl = some (.lst rs) := k3 _ _ hrl hne
   refine ⟨_, rfl, _, rfl, tp, rl, rs, rfl, t3, hne, hrl', hlen, hL.mono (k3.tk hT), fun v f H3 rp wf sz k4 t4 => ?_⟩
   refine hk v H3 (k4 _ _ hz hpn) ⟨?_, ?_, upd_same, hpn, by rw [List.length_append, hzl]; rfl, ?_⟩
   ·intro b o hb hne'
    have hbp : b ≠ p := fun e => by
     subst e
     have := k2 b o hb hne'
     rw [hp] at this
     cases this
    rw [upd_ne hbp]
    exact k4 _ _ (k3 _ _ hb hne') hne'
   ·obtain ⟨t0, e0⟩ := t4
    exact ⟨t0, by rw [upd_ne (Ne.symm hpn)]; exact e0⟩
   ·have tk : TK H3 (upd H3 p (.lst (zs ++ [v]))) := TK.lst (k4 _ _ hz hpn)
    have e1 : FsP ρ H3 zs i := hf.mono (k4.tk t3)
    have e2 := e1.append (FsP.cons rp wf .nil)
    rw [sz] at e2
    exact e2.mono tk
  ·rintro p zs H' hp ⟨k3, t3, hz, hpn, hzl, hf⟩
   refine while_by (fun Z H' => ∃ (sl : Addr) (ws : List V) (n : Nat) (j wy sg : Option V), Z = [some (.ref tp), some (.ref rl), some (.int m), j, some (.ref sl), wy, sg] /\ H' sl = some (.lst ws) /\ sl ≠ tp /\ 1 <= ws.length /\ ws.length <= 8 /\
     FsP ρ H' ws n /\ n + ws.length <= 16 /\ Kp tp H H' /\ Tp H' tp)
    (fun Z H' => match Z with | [_, _, _, _, some (.ref sl), _, _] => (match H' sl with | some (.lst ws) => ws.length | _ => 0) | _ => 0)
    ⟨p, zs, m.toNat, none, none, none, rfl, hz, hpn, by lia, by lia, hf, by lia, k3, t3⟩ ?_ ?_
   ·rintro Z H3 ⟨sl, ws, n, j, wy, sg, rfl, hsl, hsn, hw1, hw8, hfs, hsz, k4, t4⟩
    refine ⟨_, rfl, sl, ws, rfl, .inl (SqL.of hsl), _, _, rfl, rfl, _, rfl, ?_⟩
    refine ite2 (fun c => ?_) (fun c => ?_)
    ·have c' : 1 < ws.length := by have := of_decide_eq_true c; lia
     refine ⟨_, rfl, tp, 6, rfl, t4, by decide, by decide, fun wy t5 hw0 hw6 => ?_⟩
     have k5 : Kp tp H3 (upd H3 tp (.lst [.int t5])) := Kp.tape
     have tt5 : Tp (upd H3 tp (.lst [.int t5])) tp := ⟨t5, upd_same⟩
     have hsl5 := k5 _ _ hsl hsn
     have hfs5 := hfs.mono (k5.tk t4)
     have k5' := k4.trans k5
     generalize upd H3 tp (.lst [.int t5]) = H5 at k5 tt5 hsl5 hfs5 k5' ⊢
     refine ⟨_, rfl, rfl, _, rfl, ?_⟩
     refine tand (c2 := decide (2 < (ws.length : Int))) (fun h => ⟨_, rfl, sl, ws, rfl, .inl (SqL.of hsl5), _, _, rfl, rfl, _, rfl, h⟩) (fun _ cw => ?_) (fun _ => ?_)
     ·-- when
      have cw' : 2 < ws.length := by have := of_decide_eq_true cw; lia
      refine ⟨_, rfl, _, rfl, sl, ws, rfl, .inl (SqL.of hsl5), _, _, rfl, rfl, tp, _, rfl, tt5, by lia, by lia, fun jj t6 hj0 hj1 => ?_⟩
      have k6 : Kp tp H5 (upd H5 tp (.lst [.int t6])) := Kp.tape
      have tt6 : Tp (upd H5 tp (.lst [.int t6])) tp := ⟨t6, upd_same⟩
      have hsl6 := k6 _ _ hsl5 hsn
      have hfs6 := hfs5.mono (k6.tk tt5)
      have k6' := k5'.trans k6
      generalize upd H5 tp (.lst [.int t6]) = H6 at k6 tt6 hsl6 hfs6 k6' ⊢
      obtain ⟨a, x, y, z, b, ew, ea, etk, edr⟩ := split3 (xs := ws) (j := jj.toNat) (by lia)
      have ej : jj = (a.length : Int) := by lia
      obtain ⟨A, B, C, ra, rb, rc, wa, wb, wc, m1, m2, f1, f2, en⟩ := fsP_whn (ew ▸ hfs6)
      have hlw : ws.length = a.length + 3 + b.length := by rw [ew]; simp; lia
      refine ⟨_, rfl, _, rfl, jj, rfl, sl, ws, rfl, SqL.of hsl6, fun p1 hp1 => ?_⟩
      rw [cut_take ws hj0 (by lia), etk]
      have s1 : Same H6 (upd H6 p1 (.lst a)) := same_new hp1 _
      have g1 : (upd H6 p1 (.lst a)) p1 = some (.lst a) := upd_same
      generalize upd H6 p1 (.lst a) = H7 at s1 g1 ⊢
      have hsl7 := s1 _ _ hsl6
      refine ⟨_, rfl, _, rfl, sl, ws, jj, x, rfl, rfl, SqL.of hsl7, ew ▸ at_app ej, _, rfl, _, rfl, _, _, rfl, rfl, sl, ws, jj + 1, y, rfl, rfl, SqL.of hsl7, ?_, _, rfl, _, rfl, _, _, rfl, rfl, sl, ws, jj + 2, z, rfl, rfl, SqL.of hsl7, ?_, (by show 4 <= sizeLine; decide), fun p2 hp2 => ?_⟩
      ·rw [ew, show a ++ x :: y :: z :: b = (a ++ [x]) ++ y :: z :: b by simp]
       exact at_app (by simp; lia)
      ·rw [ew, show a ++ x :: y :: z :: b = (a ++ [x, y]) ++ z :: b by simp]
       exact at_app (by simp; lia)
      have s2 : Same H7 (upd H7 p2 (.tup [.str "when", x, y, z])) := same_new hp2 _
      have g2 : (upd H7 p2 (.tup [.str "when", x, y, z])) p2 = some (.tup [.str "when", x, y, z]) := upd_same
      generalize upd H7 p2 (.tup [.str "when", x, y, z]) = H8 at s2 g2 ⊢
      refine ⟨(by show 1 <= sizeLine; decide), fun p3 hp3 => ?_⟩
      have s3 : Same H8 (upd H8 p3 (.lst [.ref p2])) := same_new hp3 _
      have g3 : (upd H8 p3 (.lst [.ref p2])) p3 = some (.lst [.ref p2]) := upd_same
      generalize upd H8 p3 (.lst [.ref p2]) = H9 at s3 g3 ⊢
      refine ⟨p1, p3, a, _, rfl, rfl, s3 _ _ (s2 _ _ g1), g3, Nat.le_of_lt (small1000 (by simp; lia)), fun p4 hp4 => ?_⟩
      have s4 : Same H9 (upd H9 p4 (.lst (a ++ [.ref p2]))) := same_new hp4 _
      have g4 : (upd H9 p4 (.lst (a ++ [.ref p2]))) p4 = some (.lst (a ++ [.ref p2])) := upd_same
      generalize upd H9 p4 (.lst (a ++ [.ref p2])) = H10 at s4 g4 ⊢
      have s7 : Same H7 H10 := s2.trans (s3.trans s4)
      refine ⟨_, rfl, _, rfl, _, _, rfl, rfl, jj + 3, rfl, sl, ws, rfl, SqL.of (s7 _ _ hsl7), fun p5 hp5 => ?_⟩
      rw [cut_drop ws (by lia) (by lia), show (jj + 3).toNat = jj.toNat + 3 by lia, edr]
      have s5 : Same H10 (upd H10 p5 (.lst b)) := same_new hp5 _
      have g5 : (upd H10 p5 (.lst b)) p5 = some (.lst b) := upd_same
      generalize upd H10 p5 (.lst b) = H11 at s5 g5 ⊢
      refine ⟨p4, p5, _, b, rfl, rfl, s5 _ _ g4, g5, Nat.le_of_lt (small1000 (by simp; lia)), fun p6 hp6 => ?_⟩
      have s6 : Same H6 H11 := s1.trans (s7.trans s5)
      have st : Same H6 (upd H11 p6 (.lst (a ++ [.ref p2] ++ b))) := s6.trans (same_new hp6 _)
      have tk : TK H6 (upd H11 p6 (.lst (a ++ [.ref p2] ++ b))) := fun c xs h => st _ _ h
      have g2' : (upd H11 p6 (.lst (a ++ [.ref p2] ++ b))) p2 = some (.tup [.str "when", x, y, z]) := (same_new hp6 _) _ _ (s5 _ _ (s4 _ _ (s3 _ _ g2)))
      have tt7 : Tp (upd H11 p6 (.lst (a ++ [.ref p2] ++ b))) tp := by obtain ⟨t0, e0⟩ := tt6; exact ⟨t0, st _ _ e0⟩
      refine ⟨⟨p6, _, m1 + ((Fm.whn A B C).size + 0) + m2, _, _, _, rfl, upd_same, ?_, by simp; lia, by simp; lia, ?_, ?_, k6'.same st, tt7⟩, ?_⟩
      ·intro e
       obtain ⟨t0, e0⟩ := tt6
       have := s6 _ _ e0
       rw [<- e, hp6] at this
       cases this
      ·exact ((f1.mono tk).append (FsP.cons (f := .whn A B C) ⟨p2, x, y, z, rfl, g2', ra.mono tk, rb.mono tk, rc.mono tk⟩ ⟨wa, wb, wc⟩ .nil)).append (f2.mono tk)
      ·show m1 + ((A.size + B.size + C.size + 1) + 0) + m2 + (a ++ [V.ref p2] ++ b).length <= 16
       simp
       lia
      ·show (match (upd H11 p6 (.lst (a ++ [.ref p2] ++ b))) p6 with | some (.lst ws) => ws.length | _ => 0) < (match H3 sl with | some (.lst ws) => ws.length | _ => 0)
       rw [upd_same, hsl]
       simp
       lia
     ·-- one of the five signs
      refine ⟨_, rfl, _, rfl, sl, ws, rfl, .inl (SqL.of hsl5), _, _, rfl, rfl, tp, _, rfl, tt5, by lia, by lia, fun jj t6 hj0 hj1 => ?_⟩
      have k6 : Kp tp H5 (upd H5 tp (.lst [.int t6])) := Kp.tape
      have tt6 : Tp (upd H5 tp (.lst [.int t6])) tp := ⟨t6, upd_same⟩
      have hsl6 := k6 _ _ hsl5 hsn
      have hfs6 := hfs5.mono (k6.tk tt5)
      have k6' := k5'.trans k6
      generalize upd H5 tp (.lst [.int t6]) = H6 at k6 tt6 hsl6 hfs6 k6' ⊢
      refine ⟨(by show 5 <= sizeLine; decide), fun p0 hp0 => ?_⟩
      have s0 : Same H6 (upd H6 p0 (.lst [.str "plus", .str "less", .str "times", .str "least", .str "most"])) := same_new hp0 _
      have g0 : (upd H6 p0 (.lst [.str "plus", .str "less", .str "times", .str "least", .str "most"])) p0 = some (.lst [.str "plus", .str "less", .str "times", .str "least", .str "most"]) := upd_same
      generalize upd H6 p0 (.lst [.str "plus", .str "less", .str "times", .str "least", .str "most"]) = H6b at s0 g0 ⊢
      obtain ⟨op, hop, hopm⟩ : ∃ op, atI [V.str "plus", .str "less", .str "times", .str "least", .str "most"] (wy % 5) = some (.str op) /\ op ∈ ops := by
       have h1 := Int.emod_nonneg wy (show (5 : Int) ≠ 0 by decide)
       have h2 := Int.emod_lt_of_pos wy (show (0 : Int) < 5 by decide)
       have h5 : wy % 5 = 0 \/ wy % 5 = 1 \/ wy % 5 = 2 \/ wy % 5 = 3 \/ wy % 5 = 4 := by lia
       rcases h5 with h | h | h | h | h <;> rw [h]
       ·exact ⟨"plus", rfl, by simp [ops]⟩
       ·exact ⟨"less", rfl, by simp [ops]⟩
       ·exact ⟨"times", rfl, by simp [ops]⟩
       ·exact ⟨"least", rfl, by simp [ops]⟩
       ·exact ⟨"most", rfl, by simp [ops]⟩
      refine ⟨_, rfl, _, _, rfl, rfl, (by show (0 : Int) < 5; decide), p0, _, _, _, rfl, rfl, SqL.of g0, hop, ?_⟩
      obtain ⟨a, x, y, b, ew, ea, etk, edr⟩ := split2 (xs := ws) (j := jj.toNat) (by lia)
      have ej : jj = (a.length : Int) := by lia
      obtain ⟨A, B, ra, rb, wa, wb, m1, m2, f1, f2, en⟩ := fsP_bin (ew ▸ hfs6)
      have hlw : ws.length = a.length + 2 + b.length := by rw [ew]; simp; lia
      have hsl6b := s0 _ _ hsl6
      refine ⟨_, rfl, _, rfl, jj, rfl, sl, ws, rfl, SqL.of hsl6b, fun p1 hp1 => ?_⟩
      rw [cut_take ws hj0 (by lia), etk]
      have s1 : Same H6b (upd H6b p1 (.lst a)) := same_new hp1 _
      have g1 : (upd H6b p1 (.lst a)) p1 = some (.lst a) := upd_same
      generalize upd H6b p1 (.lst a) = H7 at s1 g1 ⊢
      have hsl7 := s1 _ _ hsl6b
      refine ⟨_, rfl, _, rfl, _, rfl, sl, ws, jj, x, rfl, rfl, SqL.of hsl7, ew ▸ at_app ej, _, rfl, _, rfl, _, _, rfl, rfl, sl, ws, jj + 1, y, rfl, rfl, SqL.of hsl7, ?_, (by show 3 <= sizeLine; decide), fun p2 hp2 => ?_⟩
      ·rw [ew, show a ++ x :: y :: b = (a ++ [x]) ++ y :: b by simp]
       exact at_app (by simp; lia)
      have s2 : Same H7 (upd H7 p2 (.tup [.str op, x, y])) := same_new hp2 _
      have g2 : (upd H7 p2 (.tup [.str op, x, y])) p2 = some (.tup [.str op, x, y]) := upd_same
      generalize upd H7 p2 (.tup [.str op, x, y]) = H8 at s2 g2 ⊢
      refine ⟨(by show 1 <= sizeLine; decide), fun p3 hp3 => ?_⟩
      have s3 : Same H8 (upd H8 p3 (.lst [.ref p2])) := same_new hp3 _
      have g3 : (upd H8 p3 (.lst [.ref p2])) p3 = some (.lst [.ref p2]) := upd_same
      generalize upd H8 p3 (.lst [.ref p2]) = H9 at s3 g3 ⊢
      refine ⟨p1, p3, a, _, rfl, rfl, s3 _ _ (s2 _ _ g1), g3, Nat.le_of_lt (small1000 (by simp; lia)), fun p4 hp4 => ?_⟩
      have s4 : Same H9 (upd H9 p4 (.lst (a ++ [.ref p2]))) := same_new hp4 _
      have g4 : (upd H9 p4 (.lst (a ++ [.ref p2]))) p4 = some (.lst (a ++ [.ref p2])) := upd_same
      generalize upd H9 p4 (.lst (a ++ [.ref p2])) = H10 at s4 g4 ⊢
      have s7 : Same H7 H10 := s2.trans (s3.trans s4)
      refine ⟨_, rfl, _, rfl, _, _, rfl, rfl, jj + 2, rfl, sl, ws, rfl, SqL.of (s7 _ _ hsl7), fun p5 hp5 => ?_⟩
      rw [cut_drop ws (by lia) (by lia), show (jj + 2).toNat = jj.toNat + 2 by lia, edr]
      have s5 : Same H10 (upd H10 p5 (.lst b)) := same_new hp5 _
      have g5 : (upd H10 p5 (.lst b)) p5 = some (.lst b) := upd_same
      generalize upd H10 p5 (.lst b) = H11 at s5 g5 ⊢
      refine ⟨p4, p5, _, b, rfl, rfl, s5 _ _ g4, g5, Nat.le_of_lt (small1000 (by simp; lia)), fun p6 hp6 => ?_⟩
      have s6 : Same H6 H11 := s0.trans (s1.trans (s7.trans s5))
      have st : Same H6 (upd H11 p6 (.lst (a ++ [.ref p2] ++ b))) := s6.trans (same_new hp6 _)
      have tk : TK H6 (upd H11 p6 (.lst (a ++ [.ref p2] ++ b))) := fun c xs h => st _ _ h
      have g2' : (upd H11 p6 (.lst (a ++ [.ref p2] ++ b))) p2 = some (.tup [.str op, x, y]) := (same_new hp6 _) _ _ (s5 _ _ (s4 _ _ (s3 _ _ g2)))
      have tt7 : Tp (upd H11 p6 (.lst (a ++ [.ref p2] ++ b))) tp := by obtain ⟨t0, e0⟩ := tt6; exact ⟨t0, st _ _ e0⟩
      refine ⟨⟨p6, _, m1 + ((Fm.bin op A B).size + 0) + m2, _, _, _, rfl, upd_same, ?_, by simp; lia, by simp; lia, ?_, ?_, k6'.same st, tt7⟩, ?_⟩
      ·intro e
       obtain ⟨t0, e0⟩ := tt6
       have := s6 _ _ e0
       rw [<- e, hp6] at this
       cases this
      ·exact ((f1.mono tk).append (FsP.cons (f := .bin op A B) ⟨p2, x, y, rfl, g2', ra.mono tk, rb.mono tk⟩ ⟨hopm, wa, wb⟩ .nil)).append (f2.mono tk)
      ·show m1 + ((A.size + B.size + 1) + 0) + m2 + (a ++ [V.ref p2] ++ b).length <= 16
       simp
       lia
      ·show (match (upd H11 p6 (.lst (a ++ [.ref p2] ++ b))) p6 with | some (.lst ws) => ws.length | _ => 0) < (match H3 sl with | some (.lst ws) => ws.length | _ => 0)
       rw [upd_same, hsl]
       simp
       lia
    ·have c' : ws.length = 1 := by
      have : ¬ (1 : Int) < (ws.length : Int) := fun z => c (decide_eq_true z)
      lia
     obtain ⟨x, ex⟩ := List.length_eq_one_iff.mp c'
     subst ex
     cases hfs with
     | cons rp wf f2 =>
      cases f2
      refine ⟨_, rfl, sl, _, 0, x, rfl, rfl, SqL.of hsl, atI0, q x _ H3 rp wf (by simp at hsz; lia) k4 t4⟩
   ·rintro Z H3 Q1 Q2 hq ⟨y, e1, p, ys, e2, h2, i, j, e3, e4, k, e5, h⟩
    exact ⟨y, e1, p, ys, e2, h2, i, j, e3, e4, k, e5, hq _ _ h⟩
 refine ⟨_, pss_cons (ps_set (i := 2) scFormulaP.nd rfl (Or.inl rfl) (pe_op op_add pe_int (pe_call GD hr1 rfl mD kD bD .nil pass0 (pa_cons (pv 0) (pa_cons pe_int pa_nil)))))
  (pss_cons (ps_if (pt_cmpR op_eq (pe_call GD hr1 rfl mD kD bD .nil pass0 (pa_cons (pv 0) (pa_cons pe_int pa_nil))) pe_int (nomark _)) (pss_one (ps_set (i := 2) scFormulaP.nd rfl (Or.inl rfl) pe_int)) pss_nil) ht), ?_⟩
 refine ⟨_, rfl, tp, 4, rfl, hT, by decide, by decide, fun d1 t1 h10 h11 => ?_⟩
 refine ⟨1, _, rfl, rfl, ?_⟩
 refine ⟨_, rfl, tp, 16, rfl, ⟨t1, upd_same⟩, by decide, by decide, fun d2 t2 h20 h21 => ?_⟩
 rw [upd_upd]
 refine ⟨rfl, _, rfl, ?_⟩
 refine ite2 (fun c9 => ?_) (fun c9 => ?_)
 ·exact hread 8 _ (by decide) (by decide) Kp.tape ⟨t2, upd_same⟩
 ·exact hread (1 + d1) _ (by lia) (by lia) Kp.tape ⟨t2, upd_same⟩
noncomputable def letC (d : Int) : Nat := (atI letters.cps.toList d).getD 0
noncomputable def stemOf (tu : Int) : Str := (⟨#[letC tu]⟩ : Str) ++ Txt.slice "aneqoubi" none (some 7)
noncomputable def nm0 (tu : Int) (i : Nat) : Str := if (0 + (i : Int)) < 8 then Txt.slice (stemOf tu) none (some (0 + (i : Int) + 1)) else (⟨#[letC ((tu + 1) % 26)]⟩ : Str) ++ Txt.slice (stemOf tu) none (some (0 + (i : Int) - 8))
noncomputable def nm1 (tu : Int) (i : Nat) : Str := ((names13)[((tu + (0 + (i : Int))) % 13).toNat]?).getD ""
noncomputable def nm2 (tu : Int) (i : Nat) : Str := (⟨#[letC ((tu + (0 + (i : Int))) % 26)]⟩ : Str) ++ Txt.slice "eyzmopq" none (some ((tu + 3 * (0 + (i : Int))) % 8))
noncomputable def nmOf (way : Nat) (tu : Int) (i : Nat) : Str := if way = 0 then nm0 tu i else if way = 1 then nm1 tu i else nm2 tu i
noncomputable def NamesAre (m : Nat) (ws : List Str) : Prop := ∃ (way tu : Nat) (back : Bool), way < 3 /\ tu < 26 /\ ws = (if back = true then ((List.range m).map (nmOf way tu)).reverse else (List.range m).map (nmOf way tu))
inductive spNamesX  (vs : List V) (H : Hp) (Q : VK) (E_ : XK) : Prop
 | mk : ∀ tp m, (vs = [.ref tp, .int m]) -> (Tp H tp) -> (0 <= m) -> (m <= 13) -> (∀ l (ws : List Str) H', H' l = some (.lst (ws.map V.str)) -> (ws.length : Int) = m -> NamesAre m.toNat ws -> l ≠ tp -> Kp tp H H' -> Tp H' tp -> Q (.ref l) H') -> spNamesX vs H Q E_
theorem letC_at {d : Int} (h0 : 0 <= d) (h1 : d < 26) : atI letters.cps.toList d = some (letC d) := by
 obtain ⟨c, e, _⟩ := letter_at h0 h1
 unfold letC
 rw [e]
 rfl
theorem stem_len (tu : Int) : (stemOf tu).length = 8 := by unfold stemOf; rw [app_len, aneq.1]; rfl
theorem scNamesX : FnScope ["tape", "many", "letters", "way", "turn", "back", "stem", "names", "words"] ["tape", "many"] (defScope sNames) := fsc
theorem ok_namesX (F : Fun K "_law_names" "_law_names" sNames f fd) (G : Gb mg) (GD : FnOk P w K mg base CX0 1 g gd ["tape", "many"] spDigit) (bD : Binds K gd ["tape", "many"] []) (kD : PySem.W.keepIn K (.ref g) = true) (mD : mg "_law_digit" = some (.ref g)) :
  FnOk P w K mg base CX0 2 f fd ["tape", "many"] spNamesX := by
 refine F.ok scNamesX (fun vs H Q E h => ?_) (fun cdv A outer s H vs Q E hr h => ?_)
 ·obtain ⟨tp, m, rfl, _⟩ := h
  rfl
 obtain ⟨tp, m, rfl, hT, hm0, hm1, q⟩ := h
 obtain ⟨t, ht, hread⟩ : ∃ t, PSs (cxOf CX0 P w K mg base ["tape", "many", "letters", "way", "turn", "back", "stem", "names", "words"] "_law_names" (defScope sNames) f cdv A outer s H E).nox ((defBody sNames).drop 5) t /\
   ∀ (b : Int) (l : Addr) (way tu : Nat) (H2 : Hp) (o2 o3 o4 o6 o8 : Option V), (b = 1 \/ b = -1) -> way < 3 -> tu < 26 -> H2 l = some (.lst (((List.range m.toNat).map (nmOf way tu)).map V.str)) -> Kp tp H H2 -> Tp H2 tp ->
    t { nx := fun _ H' => Q .non H', rt := Q } [some (.ref tp), some (.int m), o2, o3, o4, some (.int b), o6, some (.ref l), o8] H2 := by
  refine ⟨_, pss_one (ps_ret (pe_step (pv 7) (pv 5))), fun b l way tu H2 o2 o3 o4 o6 o8 hb hw1 hw2 hl k2 t2 => ?_⟩
  have hlen : (((List.range m.toNat).map (nmOf way tu)).length : Int) = m := by rw [List.length_map, List.length_range]; lia
  refine ⟨_, rfl, _, rfl, l, _, b, rfl, rfl, SqL.of hl, by lia, fun p hp => ?_⟩
  have hpt : p ≠ tp := fun e => by
   obtain ⟨t0, e0⟩ := t2
   subst e
   rw [e0] at hp
   cases hp
  rcases hb with rfl | rfl
  ·rw [stepV_one]
   exact q p _ _ upd_same hlen ⟨way, tu, false, hw1, hw2, rfl⟩ hpt (k2.new hp) (t2.new hp)
  ·rw [stepV_neg, <- List.map_reverse]
   exact q p _ _ upd_same (by rw [List.length_reverse]; exact hlen) ⟨way, tu, true, hw1, hw2, rfl⟩ hpt (k2.new hp) (t2.new hp)
 have cw : ∀ {te : TE} {fr : List Nat} {Z : St} {H2 : Hp} {Q2 : VK} (g : Nat -> Str), (∀ (i : Nat) (H3 : Hp) (k : VK), (i : Int) < m -> k (.str (g i)) H3 -> te (some (.int (0 + i)) :: caps fr Z) H3 k) ->
   (∀ p, H2 p = none -> Q2 (.ref p) (upd H2 p (.lst (((List.range m.toNat).map g).map V.str)))) -> tCompW fr te Z (Itr 0 m.toNat) H2 Q2 := by
  intro te fr Z H2 Q2 g hs hd
  refine comp_walk (n := m.toNat) (R := fun i v => v = .int (0 + i)) (by lia) itr_go itr_stop itr_yld
   (fun p i zs H' => H' = upd H2 p (.lst zs) /\ zs = ((List.range i).map g).map V.str) (fun p hp => ⟨rfl, rfl⟩) ?_ ?_ ?_
  ·rintro p i zs H' ⟨rfl, rfl⟩
   exact ⟨upd_same, by rw [List.length_map, List.length_map, List.length_range]⟩
  ·rintro p i zs H' v k hp hi rfl ⟨rfl, rfl⟩ hk
   exact hs i _ k (by lia) (hk (.str (g i)) _ upd_same ⟨upd_upd, by rw [List.range_succ]; simp⟩)
  ·rintro p zs H' hp ⟨rfl, rfl⟩
   exact hd p hp
 refine ⟨_, pss_cons (ps_set (i := 2) scNamesX.nd rfl (Or.inr rfl) pe_str)
  (pss_cons (ps_set (i := 3) scNamesX.nd rfl (Or.inl rfl) (pe_call GD hr rfl mD kD bD .nil pass0 (pa_cons (pv 0) (pa_cons pe_int pa_nil))))
  (pss_cons (ps_set (i := 4) scNamesX.nd rfl (Or.inr rfl) (pe_call GD hr rfl mD kD bD .nil pass0 (pa_cons (pv 0) (pa_cons pe_int pa_nil))))
  (pss_cons (ps_set (i := 5) scNamesX.nd rfl (Or.inl rfl) (pe_op op_sub pe_int (pe_op op_mul pe_int (pe_call GD hr rfl mD kD bD .nil pass0 (pa_cons (pv 0) (pa_cons pe_int pa_nil))))))
  (pss_cons (ps_if (pt_cmpR op_eq (pv 3) pe_int (nomark _))
   (pss_cons (ps_set (i := 6) scNamesX.nd rfl (Or.inr rfl) (pe_op op_add_str (pe_ix ix_str (pv 2) (pv 4) (fun _ _ => rfl)) (pe_slice sl_str pe_str po_none (po_some pe_int))))
   (pss_one (ps_setC (i := 7) (sc0 := defScope sNames) (N0 := ["tape", "many", "letters", "way", "turn", "back", "stem", "names", "words"]) (ys := ["letters", "stem", "turn"]) (fr := [2, 6, 4]) rfl scNamesX.nd rfl (Or.inl rfl) (pi_range1 rfl G.range (pa_cons (pv 1) pa_nil)) rfl rfl
    cok
    (fun C s H ex => pe_ifExp (pt_cmpR op_lt (pv 0) pe_int (nomark _)) (pe_slice sl_str (pv 2) po_none (po_some (pe_op op_add (pv 0) pe_int)))
     (pe_op op_add_str (pe_ix ix_str (pv 1) (pe_op op_mod (pe_op op_add (pv 3) pe_int) pe_int) (fun _ _ => rfl)) (pe_slice sl_str (pv 2) po_none (po_some (pe_op op_sub (pv 0) pe_int))))))))
   (pss_one (ps_if (pt_cmpR op_eq (pv 3) pe_int (nomark _))
    (@pss_cons _ _ _ _ _ (@ps_setL _ 8 _ _ (names13.map V.str) _ _ _ scNamesX.nd rfl (Or.inr rfl) (Or.inl rfl) rfl)
    (pss_one (ps_setC (i := 7) (sc0 := defScope sNames) (N0 := ["tape", "many", "letters", "way", "turn", "back", "stem", "names", "words"]) (ys := ["turn", "words"]) (fr := [4, 8]) rfl scNamesX.nd rfl (Or.inl rfl) (pi_range1 rfl G.range (pa_cons (pv 1) pa_nil)) rfl rfl
     cok
     (fun C s H ex => pe_ix (r := rIxL K) ix_list (pv 2) (pe_op op_mod (pe_op op_add (pv 1) (pv 0)) pe_int) (fun _ _ => rfl)))))
    (pss_one (ps_setC (i := 7) (sc0 := defScope sNames) (N0 := ["tape", "many", "letters", "way", "turn", "back", "stem", "names", "words"]) (ys := ["letters", "turn"]) (fr := [2, 4]) rfl scNamesX.nd rfl (Or.inl rfl) (pi_range1 rfl G.range (pa_cons (pv 1) pa_nil)) rfl rfl
     cok
     (fun C s H ex => pe_op op_add_str (pe_ix ix_str (pv 1) (pe_op op_mod (pe_op op_add (pv 2) (pv 0)) pe_int) (fun _ _ => rfl)) (pe_slice sl_str pe_str po_none (po_some (pe_op op_mod (pe_op op_add (pv 2) (pe_op op_mul pe_int (pv 0))) pe_int)))))))))
  ht)))), ?_⟩
 refine ⟨_, rfl, tp, 3, rfl, hT, by decide, by decide, fun wy t1 hw0 hw1 => ?_⟩
 refine ⟨_, rfl, tp, 26, rfl, ⟨t1, upd_same⟩, by decide, by decide, fun tu t2 htu0 htu1 => ?_⟩
 rw [upd_upd]
 refine ⟨_, rfl, tp, 2, rfl, ⟨t2, upd_same⟩, by decide, by decide, fun bk t3 hb0 hb1 => ?_⟩
 rw [upd_upd]
 refine ⟨2, _, rfl, rfl, .inl ⟨by decide, by decide⟩, 1, _, rfl, rfl, ?_⟩
 have hb : (1 - 2 * bk = 1 \/ 1 - 2 * bk = -1) := by lia
 have k3 : Kp tp H (upd H tp (.lst [.int t3])) := Kp.tape
 have tt3 : Tp (upd H tp (.lst [.int t3])) tp := ⟨t3, upd_same⟩
 generalize upd H tp (.lst [.int t3]) = H3 at k3 tt3 ⊢
 have l26 : (letters.length : Int) = 26 := by rw [letters_len]; rfl
 have lsz : letters.length <= sizeLine := by rw [letters_len]; exact Nat.le_of_lt (small1000 (by decide))
 refine ⟨_, rfl, rfl, _, rfl, ?_⟩
 refine ite2 (fun c => ?_) (fun c => ?_)
 ·-- stems
  have hwy : wy = 0 := V.int.inj (of_decide_eq_true c)
  have ec0 := letC_at htu0 htu1
  refine ⟨_, rfl, _, rfl, letters, tu, letC tu, rfl, rfl, lsz, ec0, 7, rfl, "aneqoubi", rfl, (by decide +kernel), _, _, rfl, rfl, ?_, ?_⟩
  ·rw [aneq.1]
   show 1 + 7 <= sizeLine
   exact Nat.le_of_lt (small1000 (by decide))
  have zl := stem_len tu
  have zsz : (stemOf tu).length <= sizeLine := by rw [zl]; exact Nat.le_of_lt (small1000 (by decide))
  refine ⟨_, rfl, m, rfl, by lia, by lia, ?_⟩
  refine cw (nm0 tu) ?_ ?_
  ·intro i H4 k hi hk
   refine ⟨_, rfl, _, _, rfl, rfl, _, rfl, ?_⟩
   refine ite2 (fun ci => ?_) (fun ci => ?_)
   ·have ci' : (0 + (i : Int)) < 8 := of_decide_eq_true ci
    refine ⟨_, rfl, _, rfl, _, _, rfl, rfl, _, rfl, stemOf tu, rfl, zsz, ?_⟩
    unfold nm0 at hk
    rw [if_pos ci'] at hk
    exact hk
   ·have ci' : ¬ (0 + (i : Int)) < 8 := fun y => ci (decide_eq_true y)
    have ec1 := letC_at (d := (tu + 1) % 26) (Int.emod_nonneg _ (by decide)) (Int.emod_lt_of_pos _ (by decide))
    have e := slice_len (stemOf tu) (j := 0 + (i : Int) - 8) (by lia) (by rw [zl]; lia)
    unfold nm0 at hk
    rw [if_neg ci'] at hk
    refine ⟨_, rfl, _, rfl, _, _, rfl, rfl, _, _, rfl, rfl, (by show (0 : Int) < 26; decide), letters, _, letC ((tu + 1) % 26), rfl, rfl, lsz, ec1, _, rfl, _, rfl, _, _, rfl, rfl, _, rfl, stemOf tu, rfl, zsz, _, _, rfl, rfl, ?_, hk⟩
    show 1 + (Txt.slice (stemOf tu) none (some (0 + (i : Int) - 8))).length <= sizeLine
    exact Nat.le_of_lt (small1000 (by lia))
  ·intro p hp
   have etu : ((tu.toNat : Nat) : Int) = tu := by lia
   refine hread (1 - 2 * bk) p 0 tu.toNat _ _ _ _ _ _ hb (by decide) (by lia) ?_ (k3.new hp) (tt3.new hp)
   rw [etu]
   exact upd_same
 ·refine ⟨_, rfl, rfl, _, rfl, ?_⟩
  refine ite2 (fun c2 => ?_) (fun c2 => ?_)
  ·-- written words
   refine ⟨(by show 13 <= sizeLine; decide), fun pw hpw => ?_⟩
   refine ⟨_, rfl, m, rfl, by lia, by lia, ?_⟩
   have s4 : Same H3 (upd H3 pw (.lst (names13.map V.str))) := same_new hpw _
   have g4 : (upd H3 pw (.lst (names13.map V.str))) pw = some (.lst (names13.map V.str)) := upd_same
   have k4 : Kp tp H (upd H3 pw (.lst (names13.map V.str))) := k3.same s4
   have tt4 : Tp (upd H3 pw (.lst (names13.map V.str))) tp := tt3.new hpw
   generalize upd H3 pw (.lst (names13.map V.str)) = H4 at s4 g4 k4 tt4 ⊢
   refine comp_walk (n := m.toNat) (R := fun i v => v = .int (0 + i)) (by lia) itr_go itr_stop itr_yld
    (fun p i zs H' => H' = upd H4 p (.lst zs) /\ H4 p = none /\ zs = ((List.range i).map (nm1 tu)).map V.str) (fun p hp => ⟨rfl, hp, rfl⟩) ?_ ?_ ?_
   ·rintro p i zs H' ⟨rfl, _, rfl⟩
    exact ⟨upd_same, by rw [List.length_map, List.length_map, List.length_range]⟩
   ·rintro p i zs H' v k hp hi rfl ⟨rfl, hp4, rfl⟩ hk
    have h1 := Int.emod_nonneg (tu + (0 + (i : Int))) (show (13 : Int) ≠ 0 by decide)
    have h2 := Int.emod_lt_of_pos (tu + (0 + (i : Int))) (show (0 : Int) < 13 by decide)
    obtain ⟨xv, ex, ex2⟩ := atI_lt (xs := names13.map V.str) h1 (by rw [List.length_map]; exact h2)
    have exv : xv = .str (nm1 tu i) := by
     rw [List.getElem?_map] at ex2
     unfold nm1
     cases hx : names13[((tu + (0 + (i : Int))) % 13).toNat]? with
     | none => rw [hx] at ex2; cases ex2
     | some y => rw [hx] at ex2; exact (Option.some.inj ex2).symm
    subst exv
    have g5 : (upd H4 p (.lst (((List.range i).map (nm1 tu)).map V.str))) pw = some (.lst (names13.map V.str)) := by rw [upd_ne (ne_of_none g4 hp4)]; exact g4
    refine ⟨_, rfl, _, rfl, _, rfl, _, _, rfl, rfl, _, _, rfl, rfl, (by show (0 : Int) < 13; decide), pw, _, _, _, rfl, rfl, SqL.of g5, ex, ?_⟩
    exact hk _ _ upd_same ⟨upd_upd, hp4, by rw [List.range_succ]; simp⟩
   ·rintro p zs H' hp ⟨rfl, hp4, rfl⟩
    have etu : ((tu.toNat : Nat) : Int) = tu := by lia
    refine hread (1 - 2 * bk) p 1 tu.toNat _ _ _ _ _ _ hb (by decide) (by lia) ?_ (k4.new hp4) (tt4.new hp4)
    rw [etu]
    exact upd_same
  ·-- a letter and a tail
   refine ⟨_, rfl, m, rfl, by lia, by lia, ?_⟩
   refine cw (nm2 tu) ?_ ?_
   ·intro i H4 k hi hk
    have ec1 := letC_at (d := (tu + (0 + (i : Int))) % 26) (Int.emod_nonneg _ (by decide)) (Int.emod_lt_of_pos _ (by decide))
    have h1 := Int.emod_nonneg (tu + 3 * (0 + (i : Int))) (show (8 : Int) ≠ 0 by decide)
    have h2 := Int.emod_lt_of_pos (tu + 3 * (0 + (i : Int))) (show (0 : Int) < 8 by decide)
    have e := slice_len "eyzmopq" (j := (tu + 3 * (0 + (i : Int))) % 8) h1 (by rw [eyz_len]; lia)
    refine ⟨_, rfl, _, rfl, _, rfl, _, _, rfl, rfl, _, _, rfl, rfl, (by show (0 : Int) < 26; decide), letters, _, letC ((tu + (0 + (i : Int))) % 26), rfl, rfl, lsz, ec1, _, rfl, _, rfl, 3, _, rfl, rfl, .inl ⟨by decide, by decide⟩, _, _, rfl, rfl, _, _, rfl, rfl, (by show (0 : Int) < 8; decide), _, rfl, "eyzmopq", rfl, (by rw [eyz_len]; exact Nat.le_of_lt (small1000 (by decide))), _, _, rfl, rfl, ?_, hk⟩
    ·show 1 + (Txt.slice "eyzmopq" none (some ((tu + 3 * (0 + (i : Int))) % 8))).length <= sizeLine
     exact Nat.le_of_lt (small1000 (by lia))
   ·intro p hp
    have etu : ((tu.toNat : Nat) : Int) = tu := by lia
    refine hread (1 - 2 * bk) p 2 tu.toNat _ _ _ _ _ _ hb (by decide) (by lia) ?_ (k3.new hp) (tt3.new hp)
    rw [etu]
    exact upd_same
noncomputable def ndB : List Str -> Bool
 | [] => true
 | x :: r => !(r.any fun y => x.cps.toList == y.cps.toList) && ndB r
theorem ndB_ok : ∀ {l : List Str}, ndB l = true -> l.Nodup
 | [], _ => List.nodup_nil
 | x :: r, h => by
  unfold ndB at h
  rw [Bool.and_eq_true] at h
  refine List.nodup_cons.mpr ⟨fun m => ?_, ndB_ok h.2⟩
  have h1 := h.1
  rw [Bool.not_eq_true', List.any_eq_false] at h1
  exact h1 x m (by simp)
theorem names_all : ((List.range 3).all fun way => (List.range 26).all fun tu => ndB ((List.range 13).map (nmOf way tu)) && ((List.range 13).map (nmOf way tu)).all wordB) = true := by
 decide +kernel
theorem NamesAre.ok {m : Nat} {ws : List Str} (h : NamesAre m ws) (hm : m <= 13) : ws.length = m /\ ws.Nodup /\ ∀ x ∈ ws, wordB x = true := by
 obtain ⟨way, tu, back, h1, h2, e⟩ := h
 have a := names_all
 rw [List.all_eq_true] at a
 have a := a way (List.mem_range.mpr h1)
 rw [List.all_eq_true] at a
 have a := a tu (List.mem_range.mpr h2)
 rw [Bool.and_eq_true] at a
 have n13 := ndB_ok a.1
 have w13 := List.all_eq_true.mp a.2
 have sub : ((List.range m).map (nmOf way tu)).Sublist ((List.range 13).map (nmOf way tu)) := List.Sublist.map _ (List.range_sublist.mpr hm)
 have nd := n13.sublist sub
 have wd : ∀ x ∈ (List.range m).map (nmOf way tu), wordB x = true := fun x hx => w13 x (sub.subset hx)
 have ln : ((List.range m).map (nmOf way tu)).length = m := by rw [List.length_map, List.length_range]
 cases back with
 | false =>
  rw [if_neg (by decide)] at e
  subst e
  exact ⟨ln, nd, wd⟩
 | true =>
  rw [if_pos rfl] at e
  subst e
  exact ⟨by rw [List.length_reverse]; exact ln, (List.reverse_perm _).nodup_iff.mpr nd, fun x hx => wd x (List.mem_reverse.mp hx)⟩
structure Srt where
 name : Str
 downs : List Str
 ups : List Str
inductive RepS (H : Hp) (s : Srt) (v : V) : Prop
 | mk : ∀ a b c, (v = .ref a) -> (H a = some (.tup [.str s.name, .ref b, .ref c])) -> (H b = some (.tup (s.downs.map V.str))) -> (H c = some (.tup (s.ups.map V.str))) -> RepS H s v
theorem RepS.mono {H H' : Hp} (t : TK H H') {s : Srt} {v : V} : RepS H s v -> RepS H' s v := fun ⟨a, b, c, e, h1, h2, h3⟩ => ⟨a, b, c, e, t _ _ h1, t _ _ h2, t _ _ h3⟩
noncomputable def Srt.ok (s : Srt) : Prop := (s.downs ++ s.ups).Nodup /\ (∀ x ∈ s.downs ++ s.ups, wordB x = true) /\ s.downs.length <= 3 /\ s.ups.length <= 3 /\ 1 <= s.downs.length + s.ups.length
noncomputable def RepSs (H : Hp) (ss : List Srt) (vs : List V) : Prop := Paired (RepS H) ss vs
theorem RepSs.mono {H H' : Hp} (t : TK H H') {ss : List Srt} {vs : List V} (h : RepSs H ss vs) : RepSs H' ss vs := Paired.mapP h fun _ _ r => r.mono t
theorem RepSs.len {H : Hp} {ss : List Srt} {vs : List V} (h : RepSs H ss vs) : ss.length = vs.length := Paired.length h
theorem paired_get {α β : Type} {F : α -> β -> Prop} : ∀ {l : List α} {r : List β} {i : Nat} {b : β}, Paired F l r -> r[i]? = some b -> ∃ a, l[i]? = some a /\ F a b
 | _, _, i, b, .nil, e => by cases i <;> cases e
 | _, _, 0, b, .cons h _, e => ⟨_, rfl, by cases e; exact h⟩
 | _, _, i + 1, b, .cons _ t, e => paired_get (i := i) t e
noncomputable def SortsOk (ss : List Srt) : Prop := 1 <= ss.length /\ ss.length <= 4 /\ (ss.map Srt.name).Nodup /\ (∀ s ∈ ss, wordB s.name = true) /\ ∀ s ∈ ss, s.ok
theorem turned_ok {ws : List Str} (n : ws.Nodup) (w : ∀ x ∈ ws, wordB x = true) (hl : ws.length = 6) (k d u : Nat) (hd : d <= 3) (hu : u <= 3) (h1 : 1 <= d + u) (nm : Str) :
  (Srt.mk nm ((ws.drop k ++ ws.take k).take d) (((ws.drop k ++ ws.take k).drop d).take u)).ok := by
 have nt : (ws.drop k ++ ws.take k).Nodup := by
  have : (ws.drop k ++ ws.take k).Perm (ws.take k ++ ws.drop k) := List.perm_append_comm
  rw [List.take_append_drop] at this
  exact this.nodup_iff.mpr n
 have mt : ∀ x ∈ ws.drop k ++ ws.take k, wordB x = true := fun x hx => by
  rw [List.mem_append] at hx
  rcases hx with h | h
  ·exact w x (List.mem_of_mem_drop h)
  ·exact w x (List.mem_of_mem_take h)
 have lt : (ws.drop k ++ ws.take k).length = 6 := by rw [List.length_append, List.length_drop, List.length_take]; lia
 generalize ws.drop k ++ ws.take k = ts at nt mt lt
 have sub : (ts.take d ++ (ts.drop d).take u).Sublist ts := by
  have := List.take_append_drop d ts
  conv => rhs; rw [<- this]
  exact List.Sublist.append (List.Sublist.refl _) (List.take_sublist _ _)
 refine ⟨nt.sublist sub, fun x hx => mt x (sub.subset hx), ?_, ?_, ?_⟩
 ·show (ts.take d).length <= 3
  rw [List.length_take]; lia
 ·show ((ts.drop d).take u).length <= 3
  rw [List.length_take]; lia
 ·show 1 <= (ts.take d).length + ((ts.drop d).take u).length
  rw [List.length_take, List.length_take, List.length_drop]; lia
inductive spSorts  (vs : List V) (H : Hp) (Q : VK) (E_ : XK) : Prop
 | mk : ∀ tp c, (vs = [.ref tp, .bl c]) -> (Tp H tp) -> (∀ a ss xs H', H' a = some (.tup xs) -> RepSs H' ss xs -> SortsOk ss -> Kp tp H H' -> Tp H' tp -> Q (.ref a) H') -> spSorts vs H Q E_
theorem ix34 (k : Bool) : ∃ m : Int, atI [V.int 3, V.int 4] (if k then 1 else 0) = some (.int m) /\ 3 <= m /\ m <= 4 := by
 cases k
 ·exact ⟨3, rfl, by decide, by decide⟩
 ·exact ⟨4, rfl, by decide, by decide⟩
theorem max_fact {d u : Int} (hd : 0 <= d) (hu : 0 <= u) (hu3 : u <= 3) : ∃ u1 : Int, (if (if decide (V.int d = V.int 0) = true then (1 : Int) else 0) > u then (if decide (V.int d = V.int 0) = true then (1 : Int) else 0) else u) = u1 /\ 0 <= u1 /\ u1 <= 3 /\ 1 <= d + u1 := by
 refine ⟨_, rfl, ?_⟩
 by_cases c : d = 0
 ·subst c
  rw [if_pos (decide_eq_true rfl)]
  split <;> lia
 ·rw [if_neg (fun e => c (V.int.inj (of_decide_eq_true e)))]
  split <;> lia
theorem tp_ne {H : Hp} {tp p : Addr} (t : Tp H tp) (hp : H p = none) : p ≠ tp := fun e => by
 obtain ⟨t0, e0⟩ := t
 subst e
 rw [e0] at hp
 cases hp
theorem cut_mid (xs : List V) {a b : Nat} (h : a + b <= xs.length) : cutV xs (some (a : Int)) (some ((a : Int) + (b : Int))) = (xs.drop a).take b := by
 unfold cutV
 rw [show ((a : Int) + (b : Int)) = ((a + b : Nat) : Int) by lia, HT.sIx_nat, HT.sIx_nat, Nat.min_eq_left h, Nat.min_eq_left (by lia), Nat.add_sub_cancel_left]
theorem scSorts : FnScope ["tape", "few", "many", "names", "words", "sorts", "k", "most", "downs", "ups", "turned"] ["tape", "few"] (defScope sSorts) := fsc
theorem ok_sorts (F : Fun K "_law_sorts" "_law_sorts" sSorts f fd) (G : Gb mg) (GD : FnOk P w K mg base CX0 1 g gd ["tape", "many"] spDigit) (bD : Binds K gd ["tape", "many"] []) (kD : PySem.W.keepIn K (.ref g) = true) (mD : mg "_law_digit" = some (.ref g))
  (GN : FnOk P w K mg base CX0 2 f2 fd2 ["tape", "many"] spNamesX) (bN : Binds K fd2 ["tape", "many"] []) (kN : PySem.W.keepIn K (.ref f2) = true) (mN : mg "_law_names" = some (.ref f2)) :
  FnOk P w K mg base CX0 3 f fd ["tape", "few"] spSorts := by
 refine F.ok scSorts (fun vs H Q E h => ?_) (fun cdv A outer s H vs Q E hr h => ?_)
 ·obtain ⟨tp, c, rfl, _⟩ := h
  rfl
 obtain ⟨tp, few, rfl, hT, q⟩ := h
 have hr1 := hr.mono (show 1 <= 2 by decide)
 refine ⟨_, pss_cons (ps_set (i := 2) scSorts.nd rfl (Or.inl rfl) (pe_op op_add pe_int (pe_call GD hr1 rfl mD kD bD .nil pass0 (pa_cons (pv 0) (pa_cons
    (pe_ix (r := rIxL K) ix_list (pe_lst (pa_cons pe_int (pa_cons pe_int pa_nil))) (pe_callTy call_int1 rfl G.int (by decide +kernel) (pa_cons (pe_cmpR op_eq (pe_call GD hr1 rfl mD kD bD .nil pass0 (pa_cons (pv 0) (pa_cons pe_int pa_nil))) pe_int (nomark _)) pa_nil)) (fun _ _ => rfl)) pa_nil)))))
  (pss_cons (ps_set (i := 3) scSorts.nd rfl (Or.inl rfl) (pe_call GN hr rfl mN kN bN .nil pass0 (pa_cons (pv 0) (pa_cons (pv 2) pa_nil))))
  (pss_cons (ps_set (i := 4) scSorts.nd rfl (Or.inl rfl) (pe_call GN hr rfl mN kN bN .nil pass0 (pa_cons (pv 0) (pa_cons pe_int pa_nil))))
  (pss_cons (ps_set (i := 5) scSorts.nd rfl (Or.inl rfl) (pe_lst pa_nil))
  (pss_cons (ps_for PassesOwn.never rfl (pi_range1 rfl G.range (pa_cons (pv 2) pa_nil)) (pg_name (i := 6) scSorts.nd rfl (Or.inl rfl))
   (pss_cons (ps_set (i := 7) scSorts.nd rfl (Or.inl rfl) (pe_ix (r := rIxL K) ix_list (pe_lst (pa_cons pe_int (pa_cons pe_int pa_nil))) (pe_callTy call_int1 rfl G.int (by decide +kernel) (pa_cons (pe_cmpR op_eq (pe_call GD hr1 rfl mD kD bD .nil pass0 (pa_cons (pv 0) (pa_cons pe_int pa_nil))) pe_int (nomark _)) pa_nil)) (fun _ _ => rfl)))
   (pss_cons (ps_set (i := 8) scSorts.nd rfl (Or.inl rfl) (pe_call GD hr1 rfl mD kD bD .nil pass0 (pa_cons (pv 0) (pa_cons (pv 7) pa_nil))))
   (pss_cons (ps_set (i := 9) scSorts.nd rfl (Or.inl rfl) (pe_callB (call_max2 rfl) rfl G.max (by decide +kernel) (pa_cons (pe_call GD hr1 rfl mD kD bD .nil pass0 (pa_cons (pv 0) (pa_cons (pv 7) pa_nil)))
    (pa_cons (pe_callTy call_int1 rfl G.int (by decide +kernel) (pa_cons (pe_cmpR op_eq (pv 8) pe_int (nomark _)) pa_nil)) pa_nil))))
   (pss_cons (ps_if (PW.pt (pw_and (pt_val (pv 1)) (pw_and1 (pt_cmpR op_gt (pe_op op_mul (pv 8) (pv 9)) pe_int (nomark _))))) (pss_one (ps_set (i := 9) scSorts.nd rfl (Or.inl rfl) (pe_op op_fdiv pe_int (pv 8)))) pss_nil)
   (pss_cons (ps_set (i := 10) scSorts.nd rfl (Or.inl rfl) (pe_op op_cat (pe_slice sl_list (pv 4) (po_some (pe_op op_mod (pv 6) pe_int)) po_none) (pe_slice sl_list (pv 4) po_none (po_some (pe_op op_mod (pv 6) pe_int)))))
   (pss_one (ps_expr (pe_bm PySem.F.plainAttrs_list PySem.F.slot_list_append PySem.F.type_list_append mt_append (pv 5) (pa_cons (pe_tup (pa_cons (pe_ix (r := rIxL K) ix_list (pv 3) (pv 6) (fun _ _ => rfl))
    (pa_cons (pe_callTy (r := rTupOf K) call_tuple_of rfl G.tuple (by decide +kernel) (pa_cons (pe_slice sl_list (pv 10) po_none (po_some (pv 8))) pa_nil))
    (pa_cons (pe_callTy (r := rTupOf K) call_tuple_of rfl G.tuple (by decide +kernel) (pa_cons (pe_slice sl_list (pv 10) (po_some (pv 8)) (po_some (pe_op op_add (pv 8) (pv 9)))) pa_nil)) pa_nil)))) pa_nil))))))))))
  (pss_one (ps_ret (pe_callTy (r := rTupOf K) call_tuple_of rfl G.tuple (by decide +kernel) (pa_cons (pv 5) pa_nil)))))))), ?_⟩
 refine ⟨_, rfl, (by show 2 <= sizeLine; decide), fun p0 hp0 => ?_⟩
 refine ⟨_, rfl, tp, 8, rfl, hT.new hp0, by decide, by decide, fun d0 t0 _ _ => ⟨rfl, ?_⟩⟩
 obtain ⟨m0, em0, hm3, hm4⟩ := ix34 (decide (V.int d0 = V.int 5))
 refine .inr ⟨_, rfl, p0, _, _, _, rfl, rfl, SqL.of (by rw [upd_ne (tp_ne hT hp0)]; exact upd_same), em0, ?_⟩
 have k0 : Kp tp H (upd (upd H p0 (.lst [.int 3, .int 4])) tp (.lst [.int t0])) := (Kp.refl.new hp0).trans Kp.tape
 have tt0 : Tp (upd (upd H p0 (.lst [.int 3, .int 4])) tp (.lst [.int t0])) tp := ⟨t0, upd_same⟩
 generalize upd (upd H p0 (.lst [.int 3, .int 4])) tp (.lst [.int t0]) = H1 at k0 tt0 ⊢
 refine ⟨tp, _, rfl, tt0, by lia, by lia, fun dm t1 hdm0 hdm1 => ?_⟩
 have k1 : Kp tp H (upd H1 tp (.lst [.int t1])) := k0.trans Kp.tape
 have tt1 : Tp (upd H1 tp (.lst [.int t1])) tp := ⟨t1, upd_same⟩
 generalize upd H1 tp (.lst [.int t1]) = H2 at k1 tt1 ⊢
 refine ⟨1, _, rfl, rfl, ?_⟩
 refine ⟨_, rfl, _, rfl, tp, _, rfl, tt1, by lia, by lia, fun nl ns H3 hnl hnlen hN hnne k2' tt2 => ?_⟩
 have k2 := k1.trans k2'
 refine ⟨_, rfl, tp, 6, rfl, tt2, by decide, by decide, fun wl ws H4 hwl hwlen hW hwne k3' tt3 => ?_⟩
 have k3 := k2.trans k3'
 have hnl4 := k3' _ _ hnl hnne
 refine ⟨(by show 0 <= sizeLine; decide), fun sl hsl => ?_⟩
 have hslt := tp_ne tt3 hsl
 have k4 : Kp tp H (upd H4 sl (.lst [])) := k3.new hsl
 have tt4 := tt3.new (o := .lst []) hsl
 have s4 := same_new hsl (.lst [])
 have nsl : nl ≠ sl := ne_of_none hnl4 hsl
 have wsl : wl ≠ sl := ne_of_none hwl hsl
 have hnl5 := s4 _ _ hnl4
 have hwl5 := s4 _ _ hwl
 have hsl5 : (upd H4 sl (.lst [])) sl = some (.lst []) := upd_same
 generalize upd H4 sl (.lst []) = H5 at k4 tt4 hnl5 hwl5 hsl5 ⊢
 obtain ⟨nLen, nNd, nWd⟩ := hN.ok (by lia)
 obtain ⟨wLen, wNd, wWd⟩ := hW.ok (by decide)
 have wLen6 : ws.length = 6 := wLen
 refine ⟨_, rfl, 1 + dm, rfl, by lia, by lia, ?_⟩
 refine for_range (fun i Z H' => ∃ o6 o7 o8 o9 o10 zs ss, Z = [some (.ref tp), some (.bl few), some (.int (1 + dm)), some (.ref nl), some (.ref wl), some (.ref sl), o6, o7, o8, o9, o10] /\ Kp tp H H' /\ Tp H' tp /\ H' nl = some (.lst (ns.map V.str)) /\ H' wl = some (.lst (ws.map V.str)) /\ H' sl = some (.lst zs) /\ RepSs H' ss zs /\ ss.length = i /\ (∀ s ∈ ss, s.ok) /\ ss.map Srt.name = ns.take i)
  ⟨none, none, none, none, none, [], [], rfl, k4, tt4, hnl5, hwl5, hsl5, .nil, rfl, fun s h => (by cases h), rfl⟩ ?_ ?_
 ·rintro i Z H6 hi ⟨o6, o7, o8, o9, o10, zs, ss, rfl, k6, tt6, hnl6, hwl6, hsl6, hR, hssl, hok, hnm⟩
  refine ⟨(by show 2 <= sizeLine; decide), fun p0 hp0 => ?_⟩
  refine ⟨_, rfl, tp, 8, rfl, tt6.new hp0, by decide, by decide, fun d0 t0 _ _ => ⟨rfl, ?_⟩⟩
  obtain ⟨m1, em1, hm3, hm4⟩ := ix34 (decide (V.int d0 = V.int 5))
  refine .inr ⟨_, rfl, p0, _, _, _, rfl, rfl, SqL.of (by rw [upd_ne (tp_ne tt6 hp0)]; exact upd_same), em1, ?_⟩
  have k7 : Kp tp H6 (upd (upd H6 p0 (.lst [.int 3, .int 4])) tp (.lst [.int t0])) := (Kp.refl.new hp0).trans Kp.tape
  have tt7 : Tp (upd (upd H6 p0 (.lst [.int 3, .int 4])) tp (.lst [.int t0])) tp := ⟨t0, upd_same⟩
  generalize upd (upd H6 p0 (.lst [.int 3, .int 4])) tp (.lst [.int t0]) = H7 at k7 tt7 ⊢
  refine ⟨_, rfl, _, rfl, tp, _, rfl, tt7, by lia, by lia, fun d t2 hd0 hd1 => ?_⟩
  have k8 : Kp tp H6 (upd H7 tp (.lst [.int t2])) := k7.trans Kp.tape
  have tt8 : Tp (upd H7 tp (.lst [.int t2])) tp := ⟨t2, upd_same⟩
  generalize upd H7 tp (.lst [.int t2]) = H8 at k8 tt8 ⊢
  refine ⟨_, rfl, _, rfl, tp, _, rfl, tt8, by lia, by lia, fun u t3 hu0 hu1 => ?_⟩
  have k9 : Kp tp H6 (upd H8 tp (.lst [.int t3])) := k8.trans Kp.tape
  have tt9 : Tp (upd H8 tp (.lst [.int t3])) tp := ⟨t3, upd_same⟩
  generalize upd H8 tp (.lst [.int t3]) = H9 at k9 tt9 ⊢
  obtain ⟨u1, eu1, hu10, hu13, hdu⟩ := max_fact (d := d) (u := u) hd0 hu0 (by lia)
  refine ⟨_, rfl, rfl, .inr ⟨_, rfl, _, _, rfl, ?_⟩⟩
  rw [eu1]
  refine ⟨_, rfl, few, rfl, ?_⟩
  refine tand (c2 := decide (3 < d * u1)) (fun h => ⟨_, rfl, _, rfl, _, _, rfl, rfl, .inl ⟨by lia, by lia⟩, _, _, rfl, rfl, _, rfl, h⟩) (fun _ c => ?A) (fun _ => ?B)
  case' A =>
   have c' : 3 < d * u1 := of_decide_eq_true c
   have hdp : 0 < d := by
    rcases (show d = 0 \/ 0 < d by lia) with h | h
    ·subst h; lia
    ·exact h
   refine ⟨_, rfl, 3, d, rfl, rfl, ⟨hdp, by lia⟩, ?_⟩
   obtain ⟨v, hv, ev⟩ : ∃ v : Int, (0 <= v /\ v <= 3 /\ 1 <= d + v) /\ V.int (3 / d) = V.int v := by
    refine ⟨3 / d, ?_, rfl⟩
    rcases (show d = 1 \/ d = 2 \/ d = 3 by lia) with h | h | h <;> subst h <;> decide
   rw [ev]
  case' B =>
   have hv : 0 <= u1 /\ u1 <= 3 /\ 1 <= d + u1 := ⟨hu10, hu13, hdu⟩
   generalize u1 = v at hv ⊢
  all_goals
   have hwl9 := k9 _ _ hwl6 hwne
   have hnl9 := k9 _ _ hnl6 hnne
   have hsl9 := k9 _ _ hsl6 hslt
   have hkk0 : 0 <= (0 + (i : Int)) % 6 := Int.emod_nonneg _ (by decide)
   have hkk1 : (0 + (i : Int)) % 6 < 6 := Int.emod_lt_of_pos _ (by decide)
   refine ⟨_, rfl, _, rfl, _, _, rfl, rfl, (by show (0 : Int) < 6; decide), _, rfl, wl, _, rfl, SqL.of hwl9, fun p1 hp1 => ?_⟩
   rw [cut_drop (ws.map V.str) hkk0 (by rw [List.length_map]; lia)]
   have hn6 : ((0 + (i : Int)) % 6).toNat <= 6 := by lia
   have hct : cutV (ws.map V.str) none (some ((0 + (i : Int)) % 6)) = (ws.map V.str).take ((0 + (i : Int)) % 6).toNat := cut_take (ws.map V.str) hkk0 (by rw [List.length_map]; lia)
   generalize hn : ((0 + (i : Int)) % 6).toNat = n at hct hn6 ⊢
   have s1 := same_new hp1 (.lst ((ws.map V.str).drop n))
   have g1 : (upd H9 p1 (.lst ((ws.map V.str).drop n))) p1 = some (.lst ((ws.map V.str).drop n)) := upd_same
   generalize upd H9 p1 (.lst ((ws.map V.str).drop n)) = Ha at s1 g1 ⊢
   refine ⟨_, rfl, _, rfl, _, _, rfl, rfl, (by show (0 : Int) < 6; decide), _, rfl, wl, _, rfl, SqL.of (s1 _ _ hwl9), fun p2 hp2 => ?_⟩
   rw [hct]
   have s2 := same_new hp2 (.lst ((ws.map V.str).take n))
   have g2 : (upd Ha p2 (.lst ((ws.map V.str).take n))) p2 = some (.lst ((ws.map V.str).take n)) := upd_same
   generalize upd Ha p2 (.lst ((ws.map V.str).take n)) = Hb at s2 g2 ⊢
   have lcat : ((ws.map V.str).drop n).length + ((ws.map V.str).take n).length <= 12 := by rw [List.length_drop, List.length_take, List.length_map]; lia
   refine ⟨p1, p2, _, _, rfl, rfl, s2 _ _ g1, g2, Nat.le_of_lt (small1000 (by lia)), fun p3 hp3 => ?_⟩
   have e3 : (ws.map V.str).drop n ++ (ws.map V.str).take n = (ws.drop n ++ ws.take n).map V.str := by rw [List.map_append, List.map_drop, List.map_take]
   rw [e3]
   have lts : (ws.drop n ++ ws.take n).length = 6 := by rw [List.length_append, List.length_drop, List.length_take]; lia
   have hsok := fun nm => turned_ok wNd wWd wLen6 n d.toNat v.toNat (by lia) (by lia) (by lia) nm
   generalize ws.drop n ++ ws.take n = ts at lts hsok ⊢
   have s3 := same_new hp3 (.lst (ts.map V.str))
   have g3 : (upd Hb p3 (.lst (ts.map V.str))) p3 = some (.lst (ts.map V.str)) := upd_same
   generalize upd Hb p3 (.lst (ts.map V.str)) = Hc at s3 g3 ⊢
   have S9 : Same H9 Hc := s1.trans (s2.trans s3)
   have hslc := S9 _ _ hsl9
   have hnlc := S9 _ _ hnl9
   have hwlc := S9 _ _ hwl9
   have kc : Kp tp H6 Hc := k9.same S9
   have ttc : Tp Hc tp := tt9.same S9
   refine ⟨_, rfl, .inl ⟨rfl, _, SqL.of hslc⟩, ?_⟩
   obtain ⟨nm, enm⟩ : ∃ nm, ns[i]? = some nm := ⟨ns[i]'(by lia), List.getElem?_eq_getElem (by lia)⟩
   have eat : atI (ns.map V.str) (0 + (i : Int)) = some (V.str nm) := by
    rw [Int.zero_add]
    exact atI_nat (by rw [List.getElem?_map, enm]; rfl)
   refine ⟨_, rfl, _, rfl, nl, _, _, _, rfl, rfl, SqL.of hnlc, eat, ?_⟩
   refine ⟨_, rfl, _, rfl, d, rfl, p3, _, rfl, SqL.of g3, fun p4 hp4 => ?_⟩
   rw [cut_take (ts.map V.str) hd0 (by rw [List.length_map]; lia), <- List.map_take]
   have s4 := same_new hp4 (.lst ((ts.take d.toNat).map V.str))
   have g4 : (upd Hc p4 (.lst ((ts.take d.toNat).map V.str))) p4 = some (.lst ((ts.take d.toNat).map V.str)) := upd_same
   generalize upd Hc p4 (.lst ((ts.take d.toNat).map V.str)) = Hd at s4 g4 ⊢
   refine ⟨p4, _, rfl, .inl ⟨SqL.of g4, fun p5 hp5 => ?_⟩⟩
   have s5 := same_new hp5 (.tup ((ts.take d.toNat).map V.str))
   have g5 : (upd Hd p5 (.tup ((ts.take d.toNat).map V.str))) p5 = some (.tup ((ts.take d.toNat).map V.str)) := upd_same
   generalize upd Hd p5 (.tup ((ts.take d.toNat).map V.str)) = He at s5 g5 ⊢
   refine ⟨_, rfl, _, rfl, d, rfl, _, rfl, _, rfl, _, _, rfl, rfl, _, rfl, p3, _, rfl, SqL.of (s5 _ _ (s4 _ _ g3)), fun p6 hp6 => ?_⟩
   have ecm : cutV (ts.map V.str) (some d) (some (d + v)) = ((ts.drop d.toNat).take v.toNat).map V.str := by
    have := cut_mid (ts.map V.str) (a := d.toNat) (b := v.toNat) (by rw [List.length_map]; lia)
    rw [show ((d.toNat : Nat) : Int) = d by lia, show ((v.toNat : Nat) : Int) = v by lia] at this
    rw [this, List.map_take, List.map_drop]
   rw [ecm]
   have s6 := same_new hp6 (.lst (((ts.drop d.toNat).take v.toNat).map V.str))
   have g6 : (upd He p6 (.lst (((ts.drop d.toNat).take v.toNat).map V.str))) p6 = some (.lst (((ts.drop d.toNat).take v.toNat).map V.str)) := upd_same
   generalize upd He p6 (.lst (((ts.drop d.toNat).take v.toNat).map V.str)) = Hf at s6 g6 ⊢
   refine ⟨p6, _, rfl, .inl ⟨SqL.of g6, fun p7 hp7 => ?_⟩⟩
   have s7 := same_new hp7 (.tup (((ts.drop d.toNat).take v.toNat).map V.str))
   have g7 : (upd Hf p7 (.tup (((ts.drop d.toNat).take v.toNat).map V.str))) p7 = some (.tup (((ts.drop d.toNat).take v.toNat).map V.str)) := upd_same
   generalize upd Hf p7 (.tup (((ts.drop d.toNat).take v.toNat).map V.str)) = Hg at s7 g7 ⊢
   refine ⟨(by show 3 <= sizeLine; decide), fun p8 hp8 => ?_⟩
   have s8 := same_new hp8 (.tup [.str nm, .ref p5, .ref p7])
   have g8 : (upd Hg p8 (.tup [.str nm, .ref p5, .ref p7])) p8 = some (.tup [.str nm, .ref p5, .ref p7]) := upd_same
   generalize upd Hg p8 (.tup [.str nm, .ref p5, .ref p7]) = Hh at s8 g8 ⊢
   have Sc : Same Hc Hh := s4.trans (s5.trans (s6.trans (s7.trans s8)))
   have hslh := Sc _ _ hslc
   have hzl : zs.length = i := by rw [<- hR.len]; exact hssl
   refine ⟨sl, zs, .ref p8, rfl, rfl, hslh, small1000 (by lia), ?_⟩
   have tk : TK Hh (upd Hh sl (.lst (zs ++ [.ref p8]))) := TK.lst hslh
   have kh : Kp tp H6 Hh := kc.same Sc
   refine ⟨_, _, _, _, _, zs ++ [.ref p8], ss ++ [⟨nm, ts.take d.toNat, (ts.drop d.toNat).take v.toNat⟩], rfl, ?_, ?_, ?_, ?_, upd_same, ?_, ?_, ?_, ?_⟩
   ·intro b o hb hbn
    rw [upd_ne (ne_of_none (k3 _ _ hb hbn) hsl)]
    exact kh _ _ (k6 _ _ hb hbn) hbn
   ·obtain ⟨t9, e9⟩ := ttc.same Sc
    exact ⟨t9, by rw [upd_ne (Ne.symm hslt)]; exact e9⟩
   ·rw [upd_ne nsl]; exact Sc _ _ hnlc
   ·rw [upd_ne wsl]; exact Sc _ _ hwlc
   ·exact Paired.snoc (hR.mono ((kh.tk tt6).trans tk)) ⟨p8, p5, p7, rfl, tk _ _ g8, tk _ _ (s8 _ _ (s7 _ _ (s6 _ _ g5))), tk _ _ (s8 _ _ g7)⟩
   ·rw [List.length_append, hssl]; rfl
   ·intro s hs
    rw [List.mem_append, List.mem_singleton] at hs
    rcases hs with h | h
    ·exact hok s h
    ·subst h; exact hsok nm
   ·rw [List.map_append, hnm, List.map_singleton, List.take_add_one, enm]
    rfl
 ·rintro Z H6 ⟨o6, o7, o8, o9, o10, zs, ss, rfl, k6, tt6, hnl6, hwl6, hsl6, hR, hssl, hok, hnm⟩
  refine ⟨_, rfl, sl, zs, rfl, .inl ⟨SqL.of hsl6, fun pt hpt => ?_⟩⟩
  refine q pt ss zs _ upd_same (hR.mono (TK.new hpt)) ⟨by lia, by lia, ?_, ?_, hok⟩ (k6.new hpt) (tt6.new hpt)
  ·rw [hnm]
   exact nNd.sublist (List.take_sublist _ _)
  ·intro s hs
   refine nWd _ (List.mem_of_mem_take (i := (1 + dm).toNat) ?_)
   rw [<- hnm]
   exact List.mem_map_of_mem hs
noncomputable def TupAt (H : Hp) (ys : List V) (z : V) : Prop := ∃ a, z = .ref a /\ H a = some (.tup ys)
noncomputable def Tups (H : Hp) (yss : List (List V)) (zs : List V) : Prop := Paired (TupAt H) yss zs
theorem Tups.mono {H H' : Hp} (t : TK H H') {yss : List (List V)} {zs : List V} (h : Tups H yss zs) : Tups H' yss zs := Paired.mapP h fun _ _ ⟨a, e, g⟩ => ⟨a, e, t _ _ g⟩
theorem Tups.len {H : Hp} {yss : List (List V)} {zs : List V} (h : Tups H yss zs) : yss.length = zs.length := Paired.length h
theorem Tups.append {H : Hp} : ∀ {a c : List (List V)} {b d : List V}, Tups H a b -> Tups H c d -> Tups H (a ++ c) (b ++ d)
 | _, _, _, _, .nil, h => h
 | _, _, _, _, .cons x t, h => .cons x (Tups.append t h)
theorem tk_of {H H' : Hp} (s : Same H H') : TK H H' := fun a xs h => s _ _ h
theorem comp_tups {K : PySem.W.Frag} {a : Addr} {xs : List V} {fr : List Nat} {te : TE} {Z : St} {H1 : Hp} {Q : VK} (hn : xs.length <= 1000) (ha : H1 a = some (.tup xs)) (g : V -> List V)
  (hte : ∀ v H k, v ∈ xs -> (∀ p, H p = none -> k (.ref p) (upd H p (.tup (g v)))) -> te (some v :: caps fr Z) H k)
  (hd : ∀ p zs H', H1 p = none -> Same H1 H' -> H' p = some (.lst zs) -> Tups H' (xs.map g) zs -> Q (.ref p) H') : tCompW fr te Z (Itt K a) H1 Q := by
 intro p hp
 refine ⟨fun i m zs H => i <= xs.length /\ m = xs.length - i /\ Same H1 H /\ H p = some (.lst zs) /\ zs.length = i /\ Tups H ((xs.take i).map g) zs, ⟨_, Nat.zero_le _, rfl, same_new hp _, upd_same, rfl, .nil⟩, ?_⟩
 rintro i m zs H ⟨hi, hm, sm, gp, hz, hT⟩
 refine ⟨gp, ?_⟩
 by_cases e : i = xs.length
 ·subst e
  rw [List.take_length] at hT
  exact .inl ⟨⟨xs, SqT.of (sm _ _ ha), Nat.le_refl _⟩, hd p zs H hp sm gp hT⟩
 ·have hlt : i < xs.length := by lia
  refine .inr ⟨⟨xs, xs[i], SqT.of (sm _ _ ha), List.getElem?_eq_getElem hlt⟩, small1000 (by lia), fun v H' hv => ?_⟩
  obtain ⟨rfl, hv⟩ := hv
  have hv := hv xs (SqT.of (sm _ _ ha))
  refine hte v _ _ (List.mem_of_getElem? hv) fun q hq => ?_
  have s2 := same_new hq (.tup (g v))
  have gq : (upd H' q (.tup (g v))) q = some (.tup (g v)) := upd_same
  generalize upd H' q (.tup (g v)) = H2 at s2 gq ⊢
  have gp2 := s2 _ _ gp
  have tk : TK H2 (upd H2 p (.lst (zs ++ [.ref q]))) := TK.lst gp2
  refine ⟨gp2, xs.length - (i + 1), by lia, by lia, rfl, ?_, upd_same, by rw [List.length_append, hz]; rfl, ?_⟩
  ·intro b o hb
   rw [upd_ne (ne_of_none hb hp)]
   exact s2 _ _ (sm _ _ hb)
  ·rw [List.take_add_one, hv, List.map_append]
   exact Paired.snoc (hT.mono ((tk_of s2).trans tk)) ⟨q, rfl, tk _ _ gq⟩
theorem paired_take {α β : Type} {F : α -> β -> Prop} : ∀ {l : List α} {r : List β}, Paired F l r -> ∀ n, Paired F (l.take n) (r.take n)
 | _, _, .nil, n => by rw [List.take_nil, List.take_nil]; exact .nil
 | _, _, .cons h t, 0 => .nil
 | _, _, .cons h t, n + 1 => .cons h (paired_take t n)
noncomputable def tgFrom (k : Int) : List Srt -> List (Int × Str)
 | [] => []
 | q :: r => q.downs.map (fun x => (k, x)) ++ tgFrom (k + 1) r
noncomputable def tgts (o : Srt) (qs : List Srt) : List (Int × Str) := o.ups.map (fun x => (-1, x)) ++ tgFrom 0 qs
noncomputable def tgV (t : Int × Str) : List V := [.int t.1, .str t.2]
theorem tgFrom_len (k : Int) : ∀ (qs : List Srt), (∀ s ∈ qs, s.ok) -> (tgFrom k qs).length <= 3 * qs.length := by
 intro qs
 induction qs generalizing k with
 | nil => intro _; exact Nat.le_refl _
 | cons q r ih =>
  intro h
  have h1 := ih (k + 1) fun s hs => h s (List.mem_cons_of_mem _ hs)
  have h2 := (h q List.mem_cons_self).2.2.1
  unfold tgFrom
  rw [List.length_append, List.length_map, List.length_cons]
  lia
theorem tgFrom_snoc (k : Int) : ∀ (qs : List Srt) (q : Srt), tgFrom k (qs ++ [q]) = tgFrom k qs ++ q.downs.map (fun x => (k + qs.length, x)) := by
 intro qs
 induction qs generalizing k with
 | nil => intro q; show q.downs.map (fun x => (k, x)) ++ [] = _; rw [List.append_nil]; show _ = q.downs.map (fun x => (k + ((0 : Nat) : Int), x)); rw [show k + ((0 : Nat) : Int) = k by lia]
 | cons r rs ih =>
  intro q
  show r.downs.map _ ++ tgFrom (k + 1) (rs ++ [q]) = (r.downs.map _ ++ tgFrom (k + 1) rs) ++ _
  rw [ih, List.append_assoc]
  have : k + 1 + (rs.length : Int) = k + ((r :: rs).length : Int) := by rw [List.length_cons]; lia
  rw [this]
noncomputable def TabOk (H : Hp) (kvs : List (Key × V)) (ss : List Srt) : Prop := ∀ s ∈ ss, ∃ a b c, valV kvs (.inr s.name) = some (.ref a) /\ H a = some (.tup [.ref b, .ref c]) /\ H b = some (.tup (s.downs.map V.str)) /\ H c = some (.tup (s.ups.map V.str))
theorem TabOk.mono {H H' : Hp} (t : TK H H') {kvs : List (Key × V)} {ss : List Srt} (h : TabOk H kvs ss) : TabOk H' kvs ss := fun s hs => by
 obtain ⟨a, b, c, e, h1, h2, h3⟩ := h s hs
 exact ⟨a, b, c, e, t _ _ h1, t _ _ h2, t _ _ h3⟩
theorem TabOk.put {H : Hp} {kvs : List (Key × V)} {ss : List Srt} {i : Nat} {s : Srt} {a b c : Addr} (nd : (ss.map Srt.name).Nodup) (hs : ss[i]? = some s) (h : TabOk H kvs (ss.take i))
  (h1 : H a = some (.tup [.ref b, .ref c])) (h2 : H b = some (.tup (s.downs.map V.str))) (h3 : H c = some (.tup (s.ups.map V.str))) : TabOk H (putK kvs (.inr s.name) (.ref a)) (ss.take (i + 1)) := by
 intro x hx
 rw [List.take_add_one, hs, List.mem_append] at hx
 rcases hx with hx | hx
 ·obtain ⟨a', b', c', e, r⟩ := h x hx
  refine ⟨a', b', c', ?_, r⟩
  rw [valV_put, if_neg]
  ·exact e
  ·intro z
   have z : x.name = s.name := Sum.inr.inj z
   obtain ⟨j, hj⟩ := List.getElem?_of_mem hx
   have hji : j < i := by
    have := (List.getElem?_eq_some_iff.mp hj).1
    rw [List.length_take] at this
    lia
   rw [List.getElem?_take, if_pos hji] at hj
   have q1 : (ss.map Srt.name)[j]? = some s.name := by rw [List.getElem?_map, hj, <- z]; rfl
   have q2 : (ss.map Srt.name)[i]? = some s.name := by rw [List.getElem?_map, hs]; rfl
   have := nodup_ix nd q1 q2
   lia
 ·have hx : x = s := by simpa using hx
  subst hx
  exact ⟨a, b, c, by rw [valV_put, if_pos rfl], h1, h2, h3⟩
noncomputable def SrtsAt (H : Hp) (a : Addr) (ss : List Srt) : Prop := ∃ xs, H a = some (.tup xs) /\ RepSs H ss xs
theorem SrtsAt.mono {H H' : Hp} (t : TK H H') {a : Addr} {ss : List Srt} : SrtsAt H a ss -> SrtsAt H' a ss := fun ⟨xs, h, r⟩ => ⟨xs, t _ _ h, r.mono t⟩
inductive spTargets  (vs : List V) (H : Hp) (Q : VK) (E_ : XK) : Prop
 | mk : ∀ sa pa ss o qs, (vs = [.ref sa, .str (Srt.name o), .ref pa]) -> (SrtsAt H sa ss) -> (SortsOk ss) -> (o ∈ ss) -> (H pa = some (.tup (qs.map fun q => V.str (Srt.name q)))) -> ((∀ q ∈ qs, q ∈ ss)) -> (qs.length <= 3) -> (∀ p zs H', H p = none -> Same H H' -> H' p = some (.lst zs) -> Tups H' ((tgts o qs).map tgV) zs -> Q (.ref p) H') -> spTargets vs H Q E_
theorem scTargets : FnScope ["sorts", "own", "parts", "table", "name", "downs", "ups", "found", "k"] ["sorts", "own", "parts"] (defScope sTargets) := fsc
theorem ok_targets (F : Fun K "_law_targets" "_law_targets" sTargets f fd) (G : Gb mg) :
  FnOk P w K mg base CX0 1 f fd ["sorts", "own", "parts"] spTargets := by
 refine F.ok scTargets (fun vs H Q E h => ?_) (fun cdv A outer s H vs Q E hr h => ?_)
 ·obtain ⟨sa, pa, ss, o, qs, rfl, _⟩ := h
  rfl
 obtain ⟨sa, pa, ss, o, qs, rfl, ⟨xs, hsa, hR⟩, hok, ho, hpa, hqs, hql, q⟩ := h
 have hu := hu_of hr
 refine ⟨_, pss_cons (ps_set (i := 3) scTargets.nd rfl (Or.inl rfl) pe_dnewK)
  (pss_cons (ps_for PassesOwn.never rfl (pi_tup (pv 0)) (pg_tup rfl (pgs_cons (pg_name (i := 4) scTargets.nd rfl (Or.inl rfl)) (pgs_cons (pg_name (i := 5) scTargets.nd rfl (Or.inl rfl)) (pgs_cons (pg_name (i := 6) scTargets.nd rfl (Or.inl rfl)) pgs_nil))))
   (pss_one (ps_dput hu (pv 3) (pv 4) (pe_tup (pa_cons (pv 5) (pa_cons (pv 6) pa_nil))) rfl)))
  (pss_cons (ps_setC (i := 7) (sc0 := defScope sTargets) (N0 := ["sorts", "own", "parts", "table", "name", "downs", "ups", "found", "k"]) (ys := []) (fr := []) rfl scTargets.nd rfl (Or.inl rfl)
    (pi_tup (pe_ix (r := rIxT K) ix_tup (pe_dget hu (pv 3) (pv 1) (fun _ _ => rfl)) pe_int (fun _ _ => rfl))) rfl rfl
    cok
    (fun C s H ex => pe_tup (pa_cons (pe_un un_neg pe_int) (pa_cons (pv 0) pa_nil))))
  (pss_cons (ps_for PassesOwn.never rfl (pi_range1 rfl G.range (pa_cons (pe_callB (r := rLen K) call_len_seq rfl G.len PySem.boot_len (pa_cons (pv 2) pa_nil)) pa_nil)) (pg_name (i := 8) scTargets.nd rfl (Or.inr rfl))
   (pss_one (ps_expr (pe_bm PySem.F.plainAttrs_list PySem.F.slot_list_extend PySem.F.type_list_extend mt_extend (pv 7) (pa_cons
    (pe_comp (sc0 := defScope sTargets) (N0 := ["sorts", "own", "parts", "table", "name", "downs", "ups", "found", "k"]) (ys := ["k"]) (fr := [8]) rfl
     (pi_tup (pe_ix (r := rIxT K) ix_tup (pe_dget hu (pv 3) (pe_ix (r := rIxT K) ix_tup (pv 2) (pv 8) (fun _ _ => rfl)) (fun _ _ => rfl)) pe_int (fun _ _ => rfl))) rfl rfl
     cok
     (fun C s H ex => pe_tup (pa_cons (pv 1) (pa_cons (pv 0) pa_nil)))) pa_nil)))))
  (pss_one (ps_ret (pv 7)))))), ?_⟩
 refine fun td htd => ?_
 have s0 := same_new htd (.dK [])
 have g0 : (upd H td (.dK [])) td = some (.dK []) := upd_same
 generalize upd H td (.dK []) = H0 at s0 g0 ⊢
 have hlen := hR.len
 refine ⟨_, rfl, sa, rfl, ⟨xs, SqT.of (s0 _ _ hsa)⟩, ?_⟩
 refine for_tup (xs := xs) (fun i Z H' => i <= xs.length /\ ∃ o4 o5 o6 kvs, Z = [some (.ref sa), some (.str o.name), some (.ref pa), some (.ref td), o4, o5, o6, none, none] /\ Same H H' /\ H' td = some (.dK kvs) /\ kvs.length <= i /\ TabOk H' kvs (ss.take i))
  ⟨Nat.zero_le _, none, none, none, [], rfl, s0, g0, Nat.le_refl _, fun s hs => (by cases hs)⟩ (fun i Z H' _ h => by obtain ⟨_, _, _, _, _, _, sm, _⟩ := h; exact SqT.of (sm _ _ hsa)) ?_ ?_
 ·rintro i x Z H1 hx ⟨hi, o4, o5, o6, kvs, rfl, sm, gd, hl, hT⟩
  have hlt : i < xs.length := (List.getElem?_eq_some_iff.mp hx).1
  obtain ⟨sr, hsr, a, b, c, rfl, ha, hb, hc⟩ := paired_get hR hx
  refine ⟨a, _, rfl, SqT.of (sm _ _ ha), rfl, _, _, rfl, _, _, rfl, _, _, rfl, rfl, ?_⟩
  refine ⟨_, rfl, _, rfl, (by show 2 <= sizeLine; decide), fun pt hpt => ?_⟩
  have s1 := same_new hpt (.tup [.ref b, .ref c])
  have g1 : (upd H1 pt (.tup [.ref b, .ref c])) pt = some (.tup [.ref b, .ref c]) := upd_same
  generalize upd H1 pt (.tup [.ref b, .ref c]) = H2 at s1 g1 ⊢
  have gd2 := s1 _ _ gd
  have S2 : Same H H2 := sm.trans s1
  refine ⟨_, rfl, _, rfl, td, _, rfl, DPut.k (k := .inr sr.name) gd2 (small1000 (by have := hok.2.1; lia)), ?_⟩
  have tk : TK H2 (upd H2 td (.dK (putK kvs (.inr sr.name) (.ref pt)))) := TK.upd fun ys e => by rw [gd2] at e; cases e
  refine ⟨hlt, _, _, _, _, rfl, ?_, upd_same, ?_, ?_⟩
  ·intro y oo h
   rw [upd_ne (ne_of_none h htd)]
   exact S2 _ _ h
  ·have := length_putK kvs (.inr sr.name) (.ref pt)
   lia
  ·exact TabOk.put hok.2.2.1 hsr (hT.mono ((tk_of s1).trans tk)) (tk _ _ g1) (tk _ _ (S2 _ _ hb)) (tk _ _ (S2 _ _ hc))
 ·rintro Z H1 ⟨_, o4, o5, o6, kvs, rfl, sm, gd, hl, hT⟩
  rw [<- hlen, List.take_length] at hT
  obtain ⟨a, b, c, eo, ha, hb, hc⟩ := hT o ho
  refine ⟨_, rfl, _, rfl, td, .ref a, rfl, (by rw [<- eo]; exact DGet.k (k := .inr o.name) gd), a, _, 1, .ref c, rfl, rfl, SqT.of ha, atI_nat (j := 1) rfl, c, rfl, ⟨_, SqT.of hc⟩, ?_⟩
  have lo : o.ups.length <= 3 := (hok.2.2.2.2 o ho).2.2.2.1
  refine comp_tups (by rw [List.length_map]; lia) hc (fun v => [.int (-1), v]) (fun v H k _ hk => ⟨1, rfl, _, rfl, (by show 2 <= sizeLine; decide), fun p hp => hk p hp⟩) fun fl zs H2 hfl s2 gfl hTz => ?_
  have ez : (o.ups.map V.str).map (fun v => [V.int (-1), v]) = (o.ups.map fun x => ((-1 : Int), x)).map tgV := by rw [List.map_map, List.map_map]; rfl
  rw [ez] at hTz
  have S2 : Same H H2 := sm.trans s2
  have hfl0 : H fl = none := sm.free hfl
  have gd2 := s2 _ _ gd
  have hT2 := hT.mono (tk_of s2)
  have dfl : fl ≠ td := Ne.symm (ne_of_none gd hfl)
  have hlp : (qs.map fun q => V.str (Srt.name q)).length = qs.length := List.length_map _
  refine ⟨_, rfl, pa, _, rfl, .inr (SqT.of (S2 _ _ hpa)), _, rfl, by lia, by lia, ?_⟩
  refine for_range (fun i Z H' => ∃ o8 zs, Z = [some (.ref sa), some (.str o.name), some (.ref pa), some (.ref td), o4, o5, o6, some (.ref fl), o8] /\ Same H H' /\ H' td = some (.dK kvs) /\ TabOk H' kvs ss /\ H' fl = some (.lst zs) /\
    Tups H' ((o.ups.map (fun x => ((-1 : Int), x)) ++ tgFrom 0 (qs.take i)).map tgV) zs)
   ⟨none, zs, rfl, S2, gd2, hT2, gfl, by rw [List.take_zero]; show Tups H2 ((_ ++ []).map tgV) zs; rw [List.append_nil]; exact hTz⟩ ?_ ?_
  ·rintro i Z H3 hi ⟨o8, zs3, rfl, S3, gd3, hT3, gfl3, hTz3⟩
   have hi' : i < qs.length := by lia
   obtain ⟨sq, hsq⟩ : ∃ sq, qs[i]? = some sq := ⟨qs[i], List.getElem?_eq_getElem hi'⟩
   obtain ⟨a, b, c, eq, ha, hb, hc⟩ := hT3 sq (hqs sq (List.mem_of_getElem? hsq))
   have eat : atI (qs.map fun q => V.str (Srt.name q)) (0 + (i : Int)) = some (V.str sq.name) := by
    rw [Int.zero_add]
    exact atI_nat (by rw [List.getElem?_map, hsq]; rfl)
   refine ⟨_, rfl, .inl ⟨rfl, _, SqL.of gfl3⟩, ?_⟩
   refine ⟨_, rfl, _, rfl, _, rfl, pa, _, _, _, rfl, rfl, SqT.of (S3 _ _ hpa), eat, td, .ref a, rfl, (by rw [<- eq]; exact DGet.k (k := .inr sq.name) gd3), a, _, 0, .ref b, rfl, rfl, SqT.of ha, atI0, b, rfl, ⟨_, SqT.of hb⟩, ?_⟩
   have ld : sq.downs.length <= 3 := (hok.2.2.2.2 sq (hqs sq (List.mem_of_getElem? hsq))).2.2.1
   refine comp_tups (by rw [List.length_map]; lia) hb (fun v => [.int (0 + (i : Int)), v]) (fun v H k _ hk => ⟨_, rfl, _, rfl, (by show 2 <= sizeLine; decide), fun p hp => hk p hp⟩) fun pl ws H4 hpl s4 gpl hTw => ?_
   have ew : (sq.downs.map V.str).map (fun v => [V.int (0 + (i : Int)), v]) = (sq.downs.map fun x => (0 + (i : Int), x)).map tgV := by rw [List.map_map, List.map_map]; rfl
   rw [ew] at hTw
   have gfl4 := s4 _ _ gfl3
   have lz := hTz3.len
   have lw := hTw.len
   have lt := tgFrom_len 0 (qs.take i) fun s hs => hok.2.2.2.2 s (hqs s (List.mem_of_mem_take hs))
   rw [List.length_map, List.length_append, List.length_map] at lz
   rw [List.length_map, List.length_map] at lw
   rw [List.length_take] at lt
   refine ⟨fl, pl, zs3, ws, rfl, rfl, gfl4, gpl, Nat.le_of_lt (small1000 (by lia)), ?_⟩
   have tk : TK H4 (upd H4 fl (.lst (zs3 ++ ws))) := TK.lst gfl4
   have tk3 : TK H3 (upd H4 fl (.lst (zs3 ++ ws))) := (tk_of s4).trans tk
   refine ⟨_, zs3 ++ ws, rfl, ?_, ?_, hT3.mono tk3, upd_same, ?_⟩
   ·intro y oo h
    rw [upd_ne (ne_of_none h hfl0)]
    exact s4 _ _ (S3 _ _ h)
   ·rw [upd_ne (Ne.symm dfl)]
    exact s4 _ _ gd3
   ·rw [List.take_add_one, hsq]
    show Tups _ ((_ ++ tgFrom 0 (qs.take i ++ [sq])).map tgV) _
    rw [tgFrom_snoc, <- List.append_assoc, List.map_append]
    have e9 : (0 : Int) + ((qs.take i).length : Int) = 0 + (i : Int) := by rw [List.length_take]; lia
    rw [e9]
    exact (hTz3.mono tk3).append (hTw.mono tk)
  ·rintro Z H3 ⟨o8, zs3, rfl, S3, gd3, hT3, gfl3, hTz3⟩
   have e9 : qs.take (((qs.map fun q => V.str (Srt.name q)).length : Int)).toNat = qs := by rw [hlp]; exact List.take_of_length_le (by lia)
   rw [e9] at hTz3
   exact ⟨_, rfl, q fl zs3 H3 hfl0 S3 gfl3 hTz3⟩
noncomputable def rdFrom (k : Int) : List Srt -> List Fm
 | [] => []
 | q :: r => q.ups.map (fun x => Fm.part k x) ++ rdFrom (k + 1) r
noncomputable def tgF (t : Int × Str) : Fm := if t.1 < 0 then .own t.2 else .part t.1 t.2
noncomputable def tgSel (o : Srt) (qs : List Srt) (mode j : Int) : List (Int × Str) := if mode = 2 then (tgts o qs).take j.toNat else tgts o qs
noncomputable def rds (o : Srt) (qs : List Srt) (mode j : Int) : List Fm := (o.downs.map Fm.own ++ rdFrom 0 qs) ++ (if mode > 0 then (tgSel o qs mode j).map tgF else [])
noncomputable def fmV : Fm -> List V
 | .own x => [.str "own", .str x]
 | .part k x => [.str "part", .int k, .str x]
 | _ => []
theorem rdFrom_len (k : Int) : ∀ (qs : List Srt), (∀ s ∈ qs, s.ok) -> (rdFrom k qs).length <= 3 * qs.length := by
 intro qs
 induction qs generalizing k with
 | nil => intro _; exact Nat.le_refl _
 | cons q r ih =>
  intro h
  have h1 := ih (k + 1) fun s hs => h s (List.mem_cons_of_mem _ hs)
  have h2 := (h q List.mem_cons_self).2.2.2.1
  unfold rdFrom
  rw [List.length_append, List.length_map, List.length_cons]
  lia
theorem rdFrom_snoc (k : Int) : ∀ (qs : List Srt) (q : Srt), rdFrom k (qs ++ [q]) = rdFrom k qs ++ q.ups.map (fun x => Fm.part (k + qs.length) x) := by
 intro qs
 induction qs generalizing k with
 | nil => intro q; show q.ups.map (fun x => Fm.part k x) ++ [] = _; rw [List.append_nil]; show _ = q.ups.map (fun x => Fm.part (k + ((0 : Nat) : Int)) x); rw [show k + ((0 : Nat) : Int) = k by lia]
 | cons r rs ih =>
  intro q
  show r.ups.map _ ++ rdFrom (k + 1) (rs ++ [q]) = (r.ups.map _ ++ rdFrom (k + 1) rs) ++ _
  rw [ih, List.append_assoc]
  have : k + 1 + (rs.length : Int) = k + ((r :: rs).length : Int) := by rw [List.length_cons]; lia
  rw [this]
theorem tgts_len {ss : List Srt} {o : Srt} {qs : List Srt} (hok : ∀ s ∈ ss, s.ok) (ho : o ∈ ss) (hq : ∀ q ∈ qs, q ∈ ss) (hl : qs.length <= 3) : (tgts o qs).length <= 12 := by
 have h1 := tgFrom_len 0 qs fun s hs => hok s (hq s hs)
 have h2 := (hok o ho).2.2.2.1
 unfold tgts
 rw [List.length_append, List.length_map]
 lia
theorem tgSel_len (o : Srt) (qs : List Srt) (mode j : Int) : (tgSel o qs mode j).length <= (tgts o qs).length := by
 unfold tgSel
 by_cases c : mode = 2
 ·rw [if_pos c, List.length_take]; exact Nat.min_le_right _ _
 ·rw [if_neg c]; exact Nat.le_refl _
inductive spLReadings  (vs : List V) (H : Hp) (Q : VK) (E_ : XK) : Prop
 | mk : ∀ sa pa ss o qs mode j, (vs = [.ref sa, .str (Srt.name o), .ref pa, .int mode, .int j]) -> (SrtsAt H sa ss) -> (SortsOk ss) -> (o ∈ ss) -> (H pa = some (.tup (qs.map fun q => V.str (Srt.name q)))) -> ((∀ q ∈ qs, q ∈ ss)) -> (qs.length <= 3) -> (0 <= j) -> (j <= (tgts o qs).length) -> (∀ p zs H', H p = none -> Same H H' -> H' p = some (.lst zs) -> Tups H' ((rds o qs mode j).map fmV) zs -> Q (.ref p) H') -> spLReadings vs H Q E_
theorem ix_own {z u : V} (k : Bool) : atI [z, u] (if k then 1 else 0) = some (if k then u else z) := by cases k <;> rfl
theorem scLReadings : FnScope ["sorts", "own", "parts", "mode", "j", "table", "name", "downs", "ups", "word", "found", "k", "targets", "at"] ["sorts", "own", "parts", "mode", "j"] (defScope sLReadings) := fsc
theorem ok_lreadings (F : Fun K "_law_readings" "_law_readings" sLReadings f fd) (G : Gb mg) (GT : FnOk P w K mg base CX0 1 g gd ["sorts", "own", "parts"] spTargets) (bT : Binds K gd ["sorts", "own", "parts"] []) (kT : PySem.W.keepIn K (.ref g) = true) (mT : mg "_law_targets" = some (.ref g)) :
  FnOk P w K mg base CX0 2 f fd ["sorts", "own", "parts", "mode", "j"] spLReadings := by
 refine F.ok scLReadings (fun vs H Q E h => ?_) (fun cdv A outer s H vs Q E hr h => ?_)
 ·obtain ⟨sa, pa, ss, o, qs, mode, j, rfl, _⟩ := h
  rfl
 obtain ⟨sa, pa, ss, o, qs, mode, j, rfl, ⟨xs, hsa, hR⟩, hok, ho, hpa, hqs, hql, hj0, hj1, q⟩ := h
 have hu := hu_of hr
 refine ⟨_, pss_cons (ps_set (i := 5) scLReadings.nd rfl (Or.inl rfl) pe_dnewK)
  (pss_cons (ps_for PassesOwn.never rfl (pi_tup (pv 0)) (pg_tup rfl (pgs_cons (pg_name (i := 6) scLReadings.nd rfl (Or.inl rfl)) (pgs_cons (pg_name (i := 7) scLReadings.nd rfl (Or.inl rfl)) (pgs_cons (pg_name (i := 8) scLReadings.nd rfl (Or.inl rfl)) pgs_nil))))
   (pss_one (ps_dput hu (pv 5) (pv 6) (pe_tup (pa_cons (pv 7) (pa_cons (pv 8) pa_nil))) rfl)))
  (pss_cons (ps_setC (i := 10) (sc0 := defScope sLReadings) (N0 := ["sorts", "own", "parts", "mode", "j", "table", "name", "downs", "ups", "word", "found", "k", "targets", "at"]) (ys := []) (fr := []) rfl scLReadings.nd rfl (Or.inl rfl)
    (pi_tup (pe_ix (r := rIxT K) ix_tup (pe_dget hu (pv 5) (pv 1) (fun _ _ => rfl)) pe_int (fun _ _ => rfl))) rfl rfl
    cok
    (fun C s H ex => pe_tup (pa_cons pe_str (pa_cons (pv 0) pa_nil))))
  (pss_cons (ps_for PassesOwn.never rfl (pi_range1 rfl G.range (pa_cons (pe_callB (r := rLen K) call_len_seq rfl G.len PySem.boot_len (pa_cons (pv 2) pa_nil)) pa_nil)) (pg_name (i := 11) scLReadings.nd rfl (Or.inr rfl))
   (pss_one (ps_expr (pe_bm PySem.F.plainAttrs_list PySem.F.slot_list_extend PySem.F.type_list_extend mt_extend (pv 10) (pa_cons
    (pe_comp (sc0 := defScope sLReadings) (N0 := ["sorts", "own", "parts", "mode", "j", "table", "name", "downs", "ups", "word", "found", "k", "targets", "at"]) (ys := ["k"]) (fr := [11]) rfl
     (pi_tup (pe_ix (r := rIxT K) ix_tup (pe_dget hu (pv 5) (pe_ix (r := rIxT K) ix_tup (pv 2) (pv 11) (fun _ _ => rfl)) (fun _ _ => rfl)) pe_int (fun _ _ => rfl))) rfl rfl
     cok
     (fun C s H ex => pe_tup (pa_cons pe_str (pa_cons (pv 1) (pa_cons (pv 0) pa_nil))))) pa_nil)))))
  (pss_cons (ps_set (i := 12) scLReadings.nd rfl (Or.inl rfl) (pe_call GT hr rfl mT kT bT .nil pass0 (pa_cons (pv 0) (pa_cons (pv 1) (pa_cons (pv 2) pa_nil)))))
  (pss_cons (ps_if (pt_cmpR op_eq (pv 3) pe_int (nomark _)) (pss_one (ps_set (i := 12) scLReadings.nd rfl (Or.inl rfl) (pe_slice sl_list (pv 12) po_none (po_some (pv 4))))) pss_nil)
  (pss_cons (ps_for PassesOwn.never rfl (pi_list (pv 12)) (pg_tup rfl (pgs_cons (pg_name (i := 13) scLReadings.nd rfl (Or.inl rfl)) (pgs_cons (pg_name (i := 9) scLReadings.nd rfl (Or.inl rfl)) pgs_nil)))
   (pss_one (ps_if (pt_cmpR op_gt (pv 3) pe_int (nomark _))
    (pss_one (ps_expr (pe_bm PySem.F.plainAttrs_list PySem.F.slot_list_append PySem.F.type_list_append mt_append (pv 10) (pa_cons
     (pe_ix (r := rIxL K) ix_list (pe_lst (pa_cons (pe_tup (pa_cons pe_str (pa_cons (pv 13) (pa_cons (pv 9) pa_nil)))) (pa_cons (pe_tup (pa_cons pe_str (pa_cons (pv 9) pa_nil))) pa_nil)))
      (pe_callTy call_int1 rfl G.int (by decide +kernel) (pa_cons (pe_cmpR op_lt (pv 13) pe_int (nomark _)) pa_nil)) (fun _ _ => rfl)) pa_nil)))) pss_nil)))
  (pss_one (ps_ret (pv 10))))))))), ?_⟩
 refine fun td htd => ?_
 have s0 := same_new htd (.dK [])
 have g0 : (upd H td (.dK [])) td = some (.dK []) := upd_same
 generalize upd H td (.dK []) = H0 at s0 g0 ⊢
 have hlen := hR.len
 refine ⟨_, rfl, sa, rfl, ⟨xs, SqT.of (s0 _ _ hsa)⟩, ?_⟩
 refine for_tup (xs := xs) (fun i Z H' => i <= xs.length /\ ∃ o4 o5 o6 kvs, Z = [some (.ref sa), some (.str o.name), some (.ref pa), some (.int mode), some (.int j), some (.ref td), o4, o5, o6, none, none, none, none, none] /\ Same H H' /\ H' td = some (.dK kvs) /\ kvs.length <= i /\ TabOk H' kvs (ss.take i))
  ⟨Nat.zero_le _, none, none, none, [], rfl, s0, g0, Nat.le_refl _, fun s hs => (by cases hs)⟩ (fun i Z H' _ h => by obtain ⟨_, _, _, _, _, _, sm, _⟩ := h; exact SqT.of (sm _ _ hsa)) ?_ ?_
 ·rintro i x Z H1 hx ⟨hi, o4, o5, o6, kvs, rfl, sm, gd, hl, hT⟩
  have hlt : i < xs.length := (List.getElem?_eq_some_iff.mp hx).1
  obtain ⟨sr, hsr, a, b, c, rfl, ha, hb, hc⟩ := paired_get hR hx
  refine ⟨a, _, rfl, SqT.of (sm _ _ ha), rfl, _, _, rfl, _, _, rfl, _, _, rfl, rfl, ?_⟩
  refine ⟨_, rfl, _, rfl, (by show 2 <= sizeLine; decide), fun pt hpt => ?_⟩
  have s1 := same_new hpt (.tup [.ref b, .ref c])
  have g1 : (upd H1 pt (.tup [.ref b, .ref c])) pt = some (.tup [.ref b, .ref c]) := upd_same
  generalize upd H1 pt (.tup [.ref b, .ref c]) = H2 at s1 g1 ⊢
  have gd2 := s1 _ _ gd
  have S2 : Same H H2 := sm.trans s1
  refine ⟨_, rfl, _, rfl, td, _, rfl, DPut.k (k := .inr sr.name) gd2 (small1000 (by have := hok.2.1; lia)), ?_⟩
  have tk : TK H2 (upd H2 td (.dK (putK kvs (.inr sr.name) (.ref pt)))) := TK.upd fun ys e => by rw [gd2] at e; cases e
  refine ⟨hlt, _, _, _, _, rfl, ?_, upd_same, ?_, ?_⟩
  ·intro y oo h
   rw [upd_ne (ne_of_none h htd)]
   exact S2 _ _ h
  ·have := length_putK kvs (.inr sr.name) (.ref pt)
   lia
  ·exact TabOk.put hok.2.2.1 hsr (hT.mono ((tk_of s1).trans tk)) (tk _ _ g1) (tk _ _ (S2 _ _ hb)) (tk _ _ (S2 _ _ hc))
 ·rintro Z H1 ⟨_, o4, o5, o6, kvs, rfl, sm, gd, hl, hT⟩
  rw [<- hlen, List.take_length] at hT
  obtain ⟨a, b, c, eo, ha, hb, hc⟩ := hT o ho
  refine ⟨_, rfl, _, rfl, td, .ref a, rfl, (by rw [<- eo]; exact DGet.k (k := .inr o.name) gd), a, _, 0, .ref b, rfl, rfl, SqT.of ha, atI0, b, rfl, ⟨_, SqT.of hb⟩, ?_⟩
  have lo : o.downs.length <= 3 := (hok.2.2.2.2 o ho).2.2.1
  refine comp_tups (by rw [List.length_map]; lia) hb (fun v => [.str "own", v]) (fun v H k _ hk => ⟨_, rfl, (by show 2 <= sizeLine; decide), fun p hp => hk p hp⟩) fun fl zs H2 hfl s2 gfl hTz => ?_
  have ez : (o.downs.map V.str).map (fun v => [V.str "own", v]) = (o.downs.map Fm.own).map fmV := by rw [List.map_map, List.map_map]; rfl
  rw [ez] at hTz
  have S2 : Same H H2 := sm.trans s2
  have hfl0 : H fl = none := sm.free hfl
  have gd2 := s2 _ _ gd
  have hT2 := hT.mono (tk_of s2)
  have dfl : fl ≠ td := Ne.symm (ne_of_none gd hfl)
  have hlp : (qs.map fun q => V.str (Srt.name q)).length = qs.length := List.length_map _
  refine ⟨_, rfl, pa, _, rfl, .inr (SqT.of (S2 _ _ hpa)), _, rfl, by lia, by lia, ?_⟩
  refine for_range (fun i Z H' => ∃ o8 zs, Z = [some (.ref sa), some (.str o.name), some (.ref pa), some (.int mode), some (.int j), some (.ref td), o4, o5, o6, none, some (.ref fl), o8, none, none] /\ Same H H' /\ H' td = some (.dK kvs) /\ TabOk H' kvs ss /\ H' fl = some (.lst zs) /\
    Tups H' ((o.downs.map Fm.own ++ rdFrom 0 (qs.take i)).map fmV) zs)
   ⟨none, zs, rfl, S2, gd2, hT2, gfl, by rw [List.take_zero]; show Tups H2 ((_ ++ []).map fmV) zs; rw [List.append_nil]; exact hTz⟩ ?_ ?_
  ·rintro i Z H3 hi ⟨o8, zs3, rfl, S3, gd3, hT3, gfl3, hTz3⟩
   have hi' : i < qs.length := by lia
   obtain ⟨sq, hsq⟩ : ∃ sq, qs[i]? = some sq := ⟨qs[i], List.getElem?_eq_getElem hi'⟩
   obtain ⟨a, b, c, eq, ha, hb, hc⟩ := hT3 sq (hqs sq (List.mem_of_getElem? hsq))
   have eat : atI (qs.map fun q => V.str (Srt.name q)) (0 + (i : Int)) = some (V.str sq.name) := by
    rw [Int.zero_add]
    exact atI_nat (by rw [List.getElem?_map, hsq]; rfl)
   refine ⟨_, rfl, .inl ⟨rfl, _, SqL.of gfl3⟩, ?_⟩
   refine ⟨_, rfl, _, rfl, _, rfl, pa, _, _, _, rfl, rfl, SqT.of (S3 _ _ hpa), eat, td, .ref a, rfl, (by rw [<- eq]; exact DGet.k (k := .inr sq.name) gd3), a, _, 1, .ref c, rfl, rfl, SqT.of ha, atI_nat (j := 1) rfl, c, rfl, ⟨_, SqT.of hc⟩, ?_⟩
   have ld : sq.ups.length <= 3 := (hok.2.2.2.2 sq (hqs sq (List.mem_of_getElem? hsq))).2.2.2.1
   refine comp_tups (by rw [List.length_map]; lia) hc (fun v => [.str "part", .int (0 + (i : Int)), v]) (fun v H k _ hk => ⟨_, rfl, _, rfl, (by show 3 <= sizeLine; decide), fun p hp => hk p hp⟩) fun pl ws H4 hpl s4 gpl hTw => ?_
   have ew : (sq.ups.map V.str).map (fun v => [V.str "part", V.int (0 + (i : Int)), v]) = (sq.ups.map fun x => Fm.part (0 + (i : Int)) x).map fmV := by rw [List.map_map, List.map_map]; rfl
   rw [ew] at hTw
   have gfl4 := s4 _ _ gfl3
   have lz := hTz3.len
   have lw := hTw.len
   have lt := rdFrom_len 0 (qs.take i) fun s hs => hok.2.2.2.2 s (hqs s (List.mem_of_mem_take hs))
   rw [List.length_map, List.length_append, List.length_map] at lz
   rw [List.length_map, List.length_map] at lw
   rw [List.length_take] at lt
   refine ⟨fl, pl, zs3, ws, rfl, rfl, gfl4, gpl, Nat.le_of_lt (small1000 (by lia)), ?_⟩
   have tk : TK H4 (upd H4 fl (.lst (zs3 ++ ws))) := TK.lst gfl4
   have tk3 : TK H3 (upd H4 fl (.lst (zs3 ++ ws))) := (tk_of s4).trans tk
   refine ⟨_, zs3 ++ ws, rfl, ?_, ?_, hT3.mono tk3, upd_same, ?_⟩
   ·intro y oo h
    rw [upd_ne (ne_of_none h hfl0)]
    exact s4 _ _ (S3 _ _ h)
   ·rw [upd_ne (Ne.symm dfl)]
    exact s4 _ _ gd3
   ·rw [List.take_add_one, hsq]
    show Tups _ ((_ ++ rdFrom 0 (qs.take i ++ [sq])).map fmV) _
    rw [rdFrom_snoc, <- List.append_assoc, List.map_append]
    have e9 : (0 : Int) + ((qs.take i).length : Int) = 0 + (i : Int) := by rw [List.length_take]; lia
    rw [e9]
    exact (hTz3.mono tk3).append (hTw.mono tk)
  ·rintro Z H3 ⟨o8, zs3, rfl, S3, gd3, hT3, gfl3, hTz3⟩
   have e9 : qs.take (((qs.map fun q => V.str (Srt.name q)).length : Int)).toNat = qs := by rw [hlp]; exact List.take_of_length_le (by lia)
   rw [e9] at hTz3
   have lt12 := tgts_len hok.2.2.2.2 ho hqs hql
   have l12 : zs3.length <= 12 := by
    have lt := rdFrom_len 0 qs fun s hs => hok.2.2.2.2 s (hqs s hs)
    have lz := hTz3.len
    rw [List.length_map, List.length_append, List.length_map] at lz
    lia
   refine ⟨_, rfl, _, rfl, _, rfl, sa, pa, ss, o, qs, rfl, ⟨xs, S3 _ _ hsa, hR.mono (tk_of S3)⟩, hok, ho, S3 _ _ hpa, hqs, hql, fun tl zt H4 htl s4 gtl hTt => ?_⟩
   have S4 : Same H H4 := S3.trans s4
   have gfl4 := s4 _ _ gfl3
   have hTz4 := hTz3.mono (tk_of s4)
   have nft : fl ≠ tl := ne_of_none gfl3 htl
   refine ⟨_, rfl, rfl, _, rfl, ?_⟩
   refine ite2 (fun c => ?A) (fun c => ?B)
   case' A =>
    have cm : mode = 2 := V.int.inj (of_decide_eq_true c)
    have lzt : zt.length = (tgts o qs).length := by rw [<- hTt.len, List.length_map]
    refine ⟨_, rfl, _, rfl, j, rfl, tl, zt, rfl, SqL.of gtl, fun tl2 htl2 => ?_⟩
    rw [cut_take zt hj0 (by lia)]
    have hsel : Tups H4 ((tgSel o qs mode j).map tgV) (zt.take j.toNat) := by
     unfold tgSel
     rw [if_pos cm, List.map_take]
     exact paired_take hTt _
    have s5 := same_new htl2 (.lst (zt.take j.toNat))
    have gt : (upd H4 tl2 (.lst (zt.take j.toNat))) tl2 = some (.lst (zt.take j.toNat)) := upd_same
    have nft2 : fl ≠ tl2 := ne_of_none gfl4 htl2
    have gfl5 := s5 _ _ gfl4
    have hTz5 := hTz4.mono (tk_of s5)
    have hsel5 := hsel.mono (tk_of s5)
    have S5 : Same H (upd H4 tl2 (.lst (zt.take j.toNat))) := S4.trans s5
    generalize upd H4 tl2 (.lst (zt.take j.toNat)) = H5 at gt gfl5 hTz5 hsel5 S5 ⊢
    generalize zt.take j.toNat = zu at gt hsel5
    generalize tl2 = tx at gt nft2 ⊢
   case' B =>
    have cm : ¬ mode = 2 := fun e => c (decide_eq_true (by rw [e]))
    have hsel5 : Tups H4 ((tgSel o qs mode j).map tgV) zt := by
     unfold tgSel
     rw [if_neg cm]
     exact hTt
    have gt := gtl
    have nft2 := nft
    have gfl5 := gfl4
    have hTz5 := hTz4
    have S5 := S4
    generalize H4 = H5 at gt gfl5 hTz5 hsel5 S5 ⊢
    generalize zt = zu at gt hsel5
    generalize tl = tx at gt nft2 ⊢
   all_goals
    have ltg : (tgSel o qs mode j).length <= 12 := Nat.le_trans (tgSel_len o qs mode j) lt12
    have lzu : zu.length = (tgSel o qs mode j).length := by rw [<- hsel5.len, List.length_map]
    have hrd : rds o qs mode j = (o.downs.map Fm.own ++ rdFrom 0 qs) ++ (if mode > 0 then (tgSel o qs mode j).map tgF else []) := rfl
    generalize tgSel o qs mode j = tg at ltg lzu hrd hsel5
    have e0 : (if mode > 0 then (tg.take 0).map tgF else []) = [] := by split <;> rfl
    refine ⟨_, rfl, tx, rfl, ⟨zu, SqL.of gt⟩, ?_⟩
    refine for_list (xs := zu) (fun i Z H' => i <= zu.length /\ ∃ o9 zs o13, Z = [some (.ref sa), some (.str o.name), some (.ref pa), some (.int mode), some (.int j), some (.ref td), o4, o5, o6, o9, some (.ref fl), o8, some (.ref tx), o13] /\ Same H H' /\ H' tx = some (.lst zu) /\ Tups H' (tg.map tgV) zu /\ H' fl = some (.lst zs) /\ zs.length <= 12 + i /\
      Tups H' (((o.downs.map Fm.own ++ rdFrom 0 qs) ++ (if mode > 0 then (tg.take i).map tgF else [])).map fmV) zs)
     ⟨Nat.zero_le _, none, zs3, none, rfl, S5, gt, hsel5, gfl5, l12, by rw [e0, List.append_nil]; exact hTz5⟩ (fun i Z H' _ h => by obtain ⟨_, _, _, _, _, _, gg, _⟩ := h; exact SqL.of gg) ?_ ?_
    ·rintro i x Z H6 hx ⟨hi, o9, zs6, o13, rfl, S6, gt6, hsel6, gfl6, l6, hT6⟩
     have hlt : i < zu.length := (List.getElem?_eq_some_iff.mp hx).1
     obtain ⟨ys, hys, a, rfl, ha⟩ := paired_get hsel6 hx
     obtain ⟨t, ht, rfl⟩ : ∃ t, tg[i]? = some t /\ tgV t = ys := by
      rw [List.getElem?_map] at hys
      cases he : tg[i]? with
      | none => rw [he] at hys; cases hys
      | some t => rw [he] at hys; exact ⟨t, rfl, Option.some.inj hys⟩
     refine ⟨a, _, rfl, SqT.of ha, rfl, _, _, rfl, _, _, rfl, rfl, ?_⟩
     refine ⟨_, rfl, _, _, rfl, rfl, _, rfl, ?_⟩
     refine ite2 (fun cm => ?_) (fun cm => ?_)
     ·have cm' : mode > 0 := of_decide_eq_true cm
      refine ⟨_, rfl, .inl ⟨rfl, _, SqL.of gfl6⟩, ?_⟩
      refine ⟨_, rfl, _, rfl, (by show 3 <= sizeLine; decide), fun p1 hp1 => ?_⟩
      have s1 := same_new hp1 (.tup [.str "part", .int t.1, .str t.2])
      have g1 : (upd H6 p1 (.tup [.str "part", .int t.1, .str t.2])) p1 = some (.tup [.str "part", .int t.1, .str t.2]) := upd_same
      generalize upd H6 p1 (.tup [.str "part", .int t.1, .str t.2]) = H7 at s1 g1 ⊢
      refine ⟨_, rfl, (by show 2 <= sizeLine; decide), fun p2 hp2 => ?_⟩
      have s2 := same_new hp2 (.tup [.str "own", .str t.2])
      have g2 : (upd H7 p2 (.tup [.str "own", .str t.2])) p2 = some (.tup [.str "own", .str t.2]) := upd_same
      generalize upd H7 p2 (.tup [.str "own", .str t.2]) = H8 at s2 g2 ⊢
      refine ⟨(by show 2 <= sizeLine; decide), fun p3 hp3 => ?_⟩
      have s3 := same_new hp3 (.lst [.ref p1, .ref p2])
      have g3 : (upd H8 p3 (.lst [.ref p1, .ref p2])) p3 = some (.lst [.ref p1, .ref p2]) := upd_same
      generalize upd H8 p3 (.lst [.ref p1, .ref p2]) = H9 at s3 g3 ⊢
      have S69 : Same H6 H9 := s1.trans (s2.trans s3)
      refine ⟨_, rfl, _, _, rfl, rfl, .inr ⟨_, rfl, p3, _, _, _, rfl, rfl, SqL.of g3, ix_own _, ?_⟩⟩
      have gfl9 := S69 _ _ gfl6
      refine ⟨fl, zs6, _, rfl, rfl, gfl9, small1000 (by lia), ?_⟩
      have hz : TupAt H9 (fmV (tgF t)) (if decide (t.1 < 0) = true then .ref p2 else .ref p1) := by
       by_cases cn : t.1 < 0
       ·rw [if_pos (decide_eq_true cn)]
        unfold tgF
        rw [if_pos cn]
        exact ⟨p2, rfl, s3 _ _ g2⟩
       ·rw [if_neg (fun e => cn (of_decide_eq_true e))]
        unfold tgF
        rw [if_neg cn]
        exact ⟨p1, rfl, s3 _ _ (s2 _ _ g1)⟩
      generalize (if decide (t.1 < 0) = true then V.ref p2 else .ref p1) = zv at hz ⊢
      have tk : TK H9 (upd H9 fl (.lst (zs6 ++ [zv]))) := TK.lst gfl9
      have tk6 : TK H6 (upd H9 fl (.lst (zs6 ++ [zv]))) := (tk_of S69).trans tk
      refine ⟨hlt, _, zs6 ++ [zv], _, rfl, ?_, ?_, hsel6.mono tk6, upd_same, by rw [List.length_append]; show zs6.length + 1 <= _; lia, ?_⟩
      ·intro y oo h
       rw [upd_ne (ne_of_none h hfl0)]
       exact S69 _ _ (S6 _ _ h)
      ·rw [upd_ne (Ne.symm nft2)]
       exact S69 _ _ gt6
      ·rw [if_pos cm'] at hT6 ⊢
       rw [List.take_add_one, ht]
       show Tups _ ((_ ++ (tg.take i ++ [t]).map tgF).map fmV) _
       rw [List.map_append (f := tgF), <- List.append_assoc, List.map_append (f := fmV)]
       obtain ⟨az, ez, gz⟩ := hz
       exact Paired.snoc (hT6.mono tk6) ⟨az, ez, tk _ _ gz⟩
     ·have cm' : ¬ mode > 0 := fun e => cm (decide_eq_true e)
      refine ⟨hlt, _, zs6, _, rfl, S6, gt6, hsel6, gfl6, by lia, ?_⟩
      rw [if_neg cm'] at hT6 ⊢
      exact hT6
    ·rintro Z H6 ⟨_, o9, zs6, o13, rfl, S6, gt6, hsel6, gfl6, l6, hT6⟩
     rw [List.take_of_length_le (by lia), <- hrd] at hT6
     exact ⟨_, rfl, q fl zs6 H6 hfl0 S6 gfl6 hT6⟩
structure Rul where
 pl : Int
 word : Str
 fm : Fm
structure Frm where
 name : Str
 own : Srt
 parts : List Srt
 rules : List Rul
inductive RepR (H : Hp) (r : Rul) (v : V) : Prop
 | mk : ∀ a u, (v = .ref a) -> (H a = some (.tup [.int r.pl, .str r.word, u])) -> (Rep H r.fm u) -> RepR H r v
theorem RepR.mono {H H' : Hp} (t : TK H H') {r : Rul} {v : V} : RepR H r v -> RepR H' r v := fun ⟨a, u, e, h, p⟩ => ⟨a, u, e, t _ _ h, p.mono t⟩
noncomputable def RepRs (H : Hp) (rs : List Rul) (vs : List V) : Prop := Paired (RepR H) rs vs
theorem RepRs.mono {H H' : Hp} (t : TK H H') {rs : List Rul} {vs : List V} (h : RepRs H rs vs) : RepRs H' rs vs := Paired.mapP h fun _ _ r => r.mono t
theorem RepRs.len {H : Hp} {rs : List Rul} {vs : List V} (h : RepRs H rs vs) : rs.length = vs.length := Paired.length h
noncomputable def partsV (qs : List Srt) : List V := qs.map fun q => V.str (Srt.name q)
inductive RepF (H : Hp) (fr : Frm) (v : V) : Prop
 | mk : ∀ a pa ra rv, (v = .ref a) -> (H a = some (.tup [.str fr.name, .str fr.own.name, .ref pa, .ref ra])) -> (H pa = some (.tup (partsV fr.parts))) -> (H ra = some (.tup rv)) -> (RepRs H fr.rules rv) -> RepF H fr v
theorem RepF.mono {H H' : Hp} (t : TK H H') {fr : Frm} {v : V} : RepF H fr v -> RepF H' fr v := fun ⟨a, pa, ra, rv, e, h1, h2, h3, h4⟩ => ⟨a, pa, ra, rv, e, t _ _ h1, t _ _ h2, t _ _ h3, h4.mono t⟩
noncomputable def RulesOk (o : Srt) (qs : List Srt) (mode : Int) (rules : List Rul) : Prop := rules.map (fun r => (r.pl, r.word)) = tgts o qs /\ ∀ (j : Nat) r, rules[j]? = some r -> r.fm.wfp (fun f => f ∈ rds o qs mode j) /\ r.fm.size <= 15
noncomputable def leafOk : Fm -> Prop
 | .own x => wordB x = true
 | .part k x => (0 <= k /\ k <= 2) /\ wordB x = true
 | _ => False
theorem tgFrom_mem {k : Int} : ∀ {qs : List Srt} {t : Int × Str}, t ∈ tgFrom k qs -> k <= t.1 /\ t.1 < k + qs.length /\ ∃ q ∈ qs, t.2 ∈ q.downs := by
 intro qs
 induction qs generalizing k with
 | nil => intro t h; cases h
 | cons q r ih =>
  intro t h
  unfold tgFrom at h
  rw [List.mem_append] at h
  rcases h with h | h
  ·obtain ⟨x, hx, rfl⟩ := List.mem_map.mp h
   exact ⟨Int.le_refl _, by rw [List.length_cons]; show k < _; lia, q, List.mem_cons_self, hx⟩
  ·obtain ⟨h1, h2, q', h3, h4⟩ := ih h
   exact ⟨by lia, by rw [List.length_cons]; lia, q', List.mem_cons_of_mem _ h3, h4⟩
theorem rdFrom_mem {k : Int} : ∀ {qs : List Srt} {f : Fm}, f ∈ rdFrom k qs -> ∃ j x, f = .part j x /\ k <= j /\ j < k + qs.length /\ ∃ q ∈ qs, x ∈ q.ups := by
 intro qs
 induction qs generalizing k with
 | nil => intro t h; cases h
 | cons q r ih =>
  intro t h
  unfold rdFrom at h
  rw [List.mem_append] at h
  rcases h with h | h
  ·obtain ⟨x, hx, rfl⟩ := List.mem_map.mp h
   exact ⟨k, x, rfl, Int.le_refl _, by rw [List.length_cons]; lia, q, List.mem_cons_self, hx⟩
  ·obtain ⟨j, x, e, h1, h2, q', h3, h4⟩ := ih h
   exact ⟨j, x, e, by lia, by rw [List.length_cons]; lia, q', List.mem_cons_of_mem _ h3, h4⟩
theorem tgF_leaf {ss : List Srt} {o : Srt} {qs : List Srt} (hok : ∀ s ∈ ss, s.ok) (ho : o ∈ ss) (hq : ∀ q ∈ qs, q ∈ ss) (hl : qs.length <= 3) {t : Int × Str} (ht : t ∈ tgts o qs) : leafOk (tgF t) := by
 unfold tgts at ht
 rw [List.mem_append] at ht
 unfold tgF
 rcases ht with h | h
 ·obtain ⟨x, hx, rfl⟩ := List.mem_map.mp h
  rw [if_pos (show ((-1 : Int), x).1 < 0 from (by decide : (-1 : Int) < 0))]
  exact (hok o ho).2.1 x (List.mem_append_right _ hx)
 ·obtain ⟨h1, h2, q, h3, h4⟩ := tgFrom_mem h
  rw [if_neg (by lia)]
  exact ⟨⟨h1, by lia⟩, (hok q (hq q h3)).2.1 _ (List.mem_append_left _ h4)⟩
theorem rds_leaf {ss : List Srt} {o : Srt} {qs : List Srt} {mode j : Int} (hok : ∀ s ∈ ss, s.ok) (ho : o ∈ ss) (hq : ∀ q ∈ qs, q ∈ ss) (hl : qs.length <= 3) {f : Fm} (hf : f ∈ rds o qs mode j) : leafOk f := by
 unfold rds at hf
 rw [List.mem_append, List.mem_append] at hf
 rcases hf with (h | h) | h
 ·obtain ⟨x, hx, rfl⟩ := List.mem_map.mp h
  exact (hok o ho).2.1 x (List.mem_append_left _ hx)
 ·obtain ⟨k, x, rfl, h1, h2, q, h3, h4⟩ := rdFrom_mem h
  exact ⟨⟨h1, by lia⟩, (hok q (hq q h3)).2.1 _ (List.mem_append_right _ h4)⟩
 ·by_cases c : mode > 0
  ·rw [if_pos c] at h
   obtain ⟨t, ht, rfl⟩ := List.mem_map.mp h
   refine tgF_leaf hok ho hq hl ?_
   unfold tgSel at ht
   by_cases c2 : mode = 2
   ·rw [if_pos c2] at ht; exact List.mem_of_mem_take ht
   ·rw [if_neg c2] at ht; exact ht
  ·rw [if_neg c] at h; cases h
theorem paired_mem {α β : Type} {F : α -> β -> Prop} : ∀ {l : List α} {r : List β} {b : β}, Paired F l r -> b ∈ r -> ∃ a ∈ l, F a b := fun {l r b} h m => by
 obtain ⟨i, hi⟩ := List.getElem?_of_mem m
 obtain ⟨a, ha, f⟩ := paired_get h hi
 exact ⟨a, List.mem_of_getElem? ha, f⟩
theorem leaf_rep {H : Hp} {f : Fm} {v : V} (hl : leafOk f) (h : TupAt H (fmV f) v) : Rep H f v /\ f.size = 1 := by
 obtain ⟨a, rfl, ha⟩ := h
 cases f with
 | own x => exact ⟨⟨a, rfl, ha⟩, rfl⟩
 | part k x => exact ⟨⟨a, rfl, ha⟩, rfl⟩
 | num n => exact hl.elim
 | bin op x y => exact hl.elim
 | whn x y z => exact hl.elim
theorem leaf_wfp {ρ : Fm -> Prop} {f : Fm} (hl : leafOk f) (h : ρ f) : f.wfp ρ := by
 cases f with
 | own x => exact ⟨hl, h⟩
 | part k x => exact ⟨hl, h⟩
 | num n => exact hl.elim
 | bin op x y => exact hl.elim
 | whn x y z => exact hl.elim
theorem rds_lvs {H : Hp} {ss : List Srt} {o : Srt} {qs : List Srt} {mode j : Int} {zs : List V} (hok : ∀ s ∈ ss, s.ok) (ho : o ∈ ss) (hq : ∀ q ∈ qs, q ∈ ss) (hl : qs.length <= 3) (h : Tups H ((rds o qs mode j).map fmV) zs) : LvsP (fun f => f ∈ rds o qs mode j) H zs := fun v hv => by
 obtain ⟨ys, hy, hz⟩ := paired_mem h hv
 obtain ⟨f, hf, rfl⟩ := List.mem_map.mp hy
 have lf := rds_leaf hok ho hq hl hf
 obtain ⟨r, s⟩ := leaf_rep lf hz
 exact ⟨f, r, leaf_wfp lf hf, s⟩
theorem rds_len {ss : List Srt} {o : Srt} {qs : List Srt} {mode j : Int} (hok : ∀ s ∈ ss, s.ok) (ho : o ∈ ss) (hq : ∀ q ∈ qs, q ∈ ss) (hl : qs.length <= 3) : (rds o qs mode j).length <= 24 := by
 have h1 := rdFrom_len 0 qs fun s hs => hok s (hq s hs)
 have h2 := (hok o ho).2.2.1
 have h3 := tgts_len hok ho hq hl
 have h4 := tgSel_len o qs mode j
 unfold rds
 rw [List.length_append, List.length_append, List.length_map]
 by_cases c : mode > 0
 ·rw [if_pos c, List.length_map]; lia
 ·rw [if_neg c]; show _ + 0 <= 24; lia
inductive spLForm  (vs : List V) (H : Hp) (Q : VK) (E_ : XK) : Prop
 | mk : ∀ tp sa pa ss nm o qs mode, (vs = [.ref tp, .ref sa, .str nm, .str (Srt.name o), .ref pa, .int mode]) -> (Tp H tp) -> (SrtsAt H sa ss) -> (SortsOk ss) -> (o ∈ ss) -> (H pa = some (.tup (partsV qs))) -> ((∀ q ∈ qs, q ∈ ss)) -> (qs.length <= 3) -> (∀ v rules H', RepF H' ⟨nm, o, qs, rules⟩ v -> RulesOk o qs mode rules -> Kp tp H H' -> Tp H' tp -> Q v H') -> spLForm vs H Q E_
theorem scLForm : FnScope ["tape", "sorts", "name", "own", "parts", "mode", "rules", "targets", "j", "readings"] ["tape", "sorts", "name", "own", "parts", "mode"] (defScope sLForm) := fsc
theorem ok_lform (F : Fun K "_law_form" "_law_form" sLForm f fd) (G : Gb mg) (GT : FnOk P w K mg base CX0 1 g gd ["sorts", "own", "parts"] spTargets) (bT : Binds K gd ["sorts", "own", "parts"] []) (kT : PySem.W.keepIn K (.ref g) = true) (mT : mg "_law_targets" = some (.ref g))
  (GR : FnOk P w K mg base CX0 2 f2 fd2 ["sorts", "own", "parts", "mode", "j"] spLReadings) (bR : Binds K fd2 ["sorts", "own", "parts", "mode", "j"] []) (kR : PySem.W.keepIn K (.ref f2) = true) (mR : mg "_law_readings" = some (.ref f2))
  (GF : ∀ ρ, FnOk P w K mg base CX0 4 f3 fd3 ["tape", "readings"] (spFormulaP ρ)) (bF : Binds K fd3 ["tape", "readings"] []) (kF : PySem.W.keepIn K (.ref f3) = true) (mF : mg "_law_formula" = some (.ref f3)) :
  FnOk P w K mg base CX0 5 f fd ["tape", "sorts", "name", "own", "parts", "mode"] spLForm := by
 have GF' : FnOk P w K mg base CX0 4 f3 fd3 ["tape", "readings"] (fun vs H Q E => ∃ ρ, spFormulaP ρ vs H Q E) := ⟨fun vs H Q E ⟨ρ, h⟩ => (GF ρ).len vs H Q E h, fun A outer s H args us vs Q E hr he hb hv ⟨ρ, h⟩ => (GF ρ).run A outer s H args us vs Q E hr he hb hv h⟩
 refine F.ok scLForm (fun vs H Q E h => ?_) (fun cdv A outer s H vs Q E hr h => ?_)
 ·obtain ⟨tp, sa, pa, ss, nm, o, qs, mode, rfl, _⟩ := h
  rfl
 obtain ⟨tp, sa, pa, ss, nm, o, qs, mode, rfl, hT, hsa, hok, ho, hpa, hqs, hql, q⟩ := h
 refine ⟨_, pss_cons (ps_set (i := 6) scLForm.nd rfl (Or.inl rfl) (pe_lst pa_nil))
  (pss_cons (ps_set (i := 7) scLForm.nd rfl (Or.inl rfl) (pe_call GT (hr.mono (show 1 <= 4 by decide)) rfl mT kT bT .nil pass0 (pa_cons (pv 1) (pa_cons (pv 3) (pa_cons (pv 4) pa_nil)))))
  (pss_cons (ps_for PassesOwn.never rfl (pi_range1 rfl G.range (pa_cons (pe_callB (r := rLen K) call_len_seq rfl G.len PySem.boot_len (pa_cons (pv 7) pa_nil)) pa_nil)) (pg_name (i := 8) scLForm.nd rfl (Or.inl rfl))
   (pss_cons (ps_set (i := 9) scLForm.nd rfl (Or.inl rfl) (pe_call GR (hr.mono (show 2 <= 4 by decide)) rfl mR kR bR .nil pass0 (pa_cons (pv 1) (pa_cons (pv 3) (pa_cons (pv 4) (pa_cons (pv 5) (pa_cons (pv 8) pa_nil)))))))
   (pss_one (ps_expr (pe_bm PySem.F.plainAttrs_list PySem.F.slot_list_append PySem.F.type_list_append mt_append (pv 6) (pa_cons
    (pe_tup (pa_cons (pe_ix (r := rIxT K) ix_tup (pe_ix (r := rIxL K) ix_list (pv 7) (pv 8) (fun _ _ => rfl)) pe_int (fun _ _ => rfl)) (pa_cons (pe_ix (r := rIxT K) ix_tup (pe_ix (r := rIxL K) ix_list (pv 7) (pv 8) (fun _ _ => rfl)) pe_int (fun _ _ => rfl))
     (pa_cons (pe_call GF' hr rfl mF kF bF .nil pass0 (pa_cons (pv 0) (pa_cons (pv 9) pa_nil))) pa_nil)))) pa_nil))))))
  (pss_one (ps_ret (pe_tup (pa_cons (pv 2) (pa_cons (pv 3) (pa_cons (pv 4) (pa_cons (pe_callTy (r := rTupOf K) call_tuple_of rfl G.tuple (by decide +kernel) (pa_cons (pv 6) pa_nil)) pa_nil))))))))), ?_⟩
 refine ⟨(by show 0 <= sizeLine; decide), fun rl hrl => ?_⟩
 have s0 := same_new hrl (.lst [])
 have g0 : (upd H rl (.lst [])) rl = some (.lst []) := upd_same
 have nrt := tp_ne hT hrl
 have t0 := hT.new (o := .lst []) hrl
 generalize upd H rl (.lst []) = H0 at s0 g0 t0 ⊢
 refine ⟨_, rfl, _, rfl, _, rfl, sa, pa, ss, o, qs, rfl, hsa.mono (tk_of s0), hok, ho, s0 _ _ hpa, hqs, hql, fun tl zt H1 htl s1 gtl hTt => ?_⟩
 have S1 : Same H H1 := s0.trans s1
 have grl1 := s1 _ _ g0
 have tt1 := t0.same s1
 have ntt : tl ≠ tp := tp_ne t0 htl
 have nrl : rl ≠ tl := ne_of_none g0 htl
 have lt12 := tgts_len hok.2.2.2.2 ho hqs hql
 have lzt : zt.length = (tgts o qs).length := by rw [<- hTt.len, List.length_map]
 refine ⟨_, rfl, tl, zt, rfl, .inl (SqL.of gtl), _, rfl, by lia, by lia, ?_⟩
 refine for_range (fun i Z H' => ∃ o8 o9 rv rules, Z = [some (.ref tp), some (.ref sa), some (.str nm), some (.str o.name), some (.ref pa), some (.int mode), some (.ref rl), some (.ref tl), o8, o9] /\ Kp tp H H' /\ Tp H' tp /\ H' tl = some (.lst zt) /\ Tups H' ((tgts o qs).map tgV) zt /\
   H' rl = some (.lst rv) /\ RepRs H' rules rv /\ rules.map (fun r => (r.pl, r.word)) = (tgts o qs).take i /\ ∀ (j : Nat) r, rules[j]? = some r -> r.fm.wfp (fun f => f ∈ rds o qs mode j) /\ r.fm.size <= 15)
  ⟨none, none, [], [], rfl, Kp.refl.same S1, tt1, gtl, hTt, grl1, .nil, rfl, fun j r h => by cases h⟩ ?_ ?_
 ·rintro i Z H2 hi ⟨o8, o9, rv, rules, rfl, k2, tt2, gtl2, hTt2, grl2, hRr, hmap, hfm⟩
  have hi' : i < (tgts o qs).length := by lia
  have tk2 := k2.tk hT
  have lrules : rules.length = i := by
   have := congrArg List.length hmap
   rw [List.length_map, List.length_take] at this
   lia
  have lrv : rv.length = i := by rw [<- hRr.len]; exact lrules
  refine ⟨_, rfl, _, rfl, _, rfl, _, rfl, _, rfl, sa, pa, ss, o, qs, mode, 0 + (i : Int), rfl, hsa.mono tk2, hok, ho, tk2 _ _ hpa, hqs, hql, by lia, by lia, fun rdl zr H3 hrdl s3 grdl hTr => ?_⟩
  have tt3 := tt2.same s3
  have grl3 := s3 _ _ grl2
  have gtl3 := s3 _ _ gtl2
  have hTt3 := hTt2.mono (tk_of s3)
  have nrdt : rdl ≠ tp := tp_ne tt2 hrdl
  obtain ⟨t, ht⟩ : ∃ t, (tgts o qs)[i]? = some t := ⟨(tgts o qs)[i], List.getElem?_eq_getElem hi'⟩
  obtain ⟨x, hx⟩ : ∃ x, zt[i]? = some x := ⟨zt[i]'(by lia), List.getElem?_eq_getElem (by lia)⟩
  obtain ⟨ys, hys, a, rfl, ha⟩ := paired_get hTt3 hx
  have eys : ys = tgV t := by
   rw [List.getElem?_map, ht] at hys
   exact (Option.some.inj hys).symm
  subst eys
  have eat : atI zt (0 + (i : Int)) = some (.ref a) := by
   rw [Int.zero_add]
   exact atI_nat hx
  refine ⟨_, rfl, .inl ⟨rfl, _, SqL.of grl3⟩, ?_⟩
  refine ⟨_, rfl, _, rfl, tl, _, _, _, rfl, rfl, SqL.of gtl3, eat, a, _, 0, .int t.1, rfl, rfl, SqT.of ha, atI0, ?_⟩
  refine ⟨_, rfl, _, rfl, tl, _, _, _, rfl, rfl, SqL.of gtl3, eat, a, _, 1, .str t.2, rfl, rfl, SqT.of ha, atI_nat (j := 1) rfl, ?_⟩
  have lzr : zr.length <= 24 := by
   rw [<- hTr.len, List.length_map]
   exact rds_len hok.2.2.2.2 ho hqs hql
  refine ⟨_, rfl, _, rfl, fun fm => fm ∈ rds o qs mode (0 + (i : Int)), tp, rdl, zr, rfl, tt3, nrdt, grdl, by lia, rds_lvs hok.2.2.2.2 ho hqs hql hTr, fun v fm H4 rp wf sz k4 tt4 => ?_⟩
  have k24 : Kp tp H2 H4 := (Kp.refl.same s3).trans k4
  have grl4 := k24 _ _ grl2 nrt
  have gtl4 := k24 _ _ gtl2 ntt
  refine ⟨(by show 3 <= sizeLine; decide), fun p5 hp5 => ?_⟩
  have s5 := same_new hp5 (.tup [.int t.1, .str t.2, v])
  have g5 : (upd H4 p5 (.tup [.int t.1, .str t.2, v])) p5 = some (.tup [.int t.1, .str t.2, v]) := upd_same
  have tt5 := tt4.same s5
  generalize upd H4 p5 (.tup [.int t.1, .str t.2, v]) = H5 at s5 g5 tt5 ⊢
  have k25 : Kp tp H2 H5 := k24.same s5
  have grl5 := s5 _ _ grl4
  refine ⟨rl, rv, .ref p5, rfl, rfl, grl5, small1000 (by lia), ?_⟩
  have tk : TK H5 (upd H5 rl (.lst (rv ++ [.ref p5]))) := TK.lst grl5
  have tk26 : TK H2 (upd H5 rl (.lst (rv ++ [.ref p5]))) := (k25.tk tt2).trans tk
  refine ⟨_, _, rv ++ [.ref p5], rules ++ [⟨t.1, t.2, fm⟩], rfl, ?_, ?_, ?_, hTt2.mono tk26, upd_same, ?_, ?_, ?_⟩
  ·intro b oo hb hbn
   rw [upd_ne (ne_of_none hb hrl)]
   exact k25 _ _ (k2 _ _ hb hbn) hbn
  ·obtain ⟨t9, e9⟩ := tt5
   exact ⟨t9, by rw [upd_ne (Ne.symm nrt)]; exact e9⟩
  ·rw [upd_ne (Ne.symm nrl)]
   exact s5 _ _ gtl4
  ·exact Paired.snoc (hRr.mono tk26) ⟨p5, v, rfl, tk _ _ g5, rp.mono ((tk_of s5).trans tk)⟩
  ·rw [List.map_append, hmap, List.take_add_one, ht]
   rfl
  ·intro j r hj
   by_cases c : j < i
   ·rw [List.getElem?_append_left (by lia)] at hj
    exact hfm j r hj
   ·rw [List.getElem?_append_right (by lia), lrules] at hj
    have hji : j = i := by
     by_cases c2 : j = i
     ·exact c2
     ·have : j - i ≠ 0 := by lia
      rw [List.getElem?_eq_none (by show 1 <= j - i; lia)] at hj
      cases hj
    subst hji
    rw [Nat.sub_self] at hj
    have : r = ⟨t.1, t.2, fm⟩ := (Option.some.inj hj).symm
    subst this
    rw [Int.zero_add] at wf
    exact ⟨wf, sz⟩
 ·rintro Z H2 ⟨o8, o9, rv, rules, rfl, k2, tt2, gtl2, hTt2, grl2, hRr, hmap, hfm⟩
  have tk2 := k2.tk hT
  rw [List.take_of_length_le (by lia)] at hmap
  refine ⟨_, rfl, _, rfl, _, rfl, _, rfl, rl, rv, rfl, .inl ⟨SqL.of grl2, fun p3 hp3 => ?_⟩⟩
  have s3 := same_new hp3 (.tup rv)
  have g3 : (upd H2 p3 (.tup rv)) p3 = some (.tup rv) := upd_same
  generalize upd H2 p3 (.tup rv) = H3 at s3 g3 ⊢
  refine ⟨(by show 4 <= sizeLine; decide), fun p4 hp4 => ?_⟩
  have s4 := same_new hp4 (.tup [.str nm, .str o.name, .ref pa, .ref p3])
  refine q (.ref p4) rules _ ⟨p4, pa, p3, rv, rfl, upd_same, s4 _ _ (s3 _ _ (tk2 _ _ hpa)), s4 _ _ g3, hRr.mono (tk_of (s3.trans s4))⟩ ⟨hmap, hfm⟩ (k2.same (s3.trans s4)) (tt2.same (s3.trans s4))
structure Bk where
 wheel : Int
 sorts : List Srt
 forms : List Frm
noncomputable def RepFs (H : Hp) (fs : List Frm) (vs : List V) : Prop := Paired (RepF H) fs vs
theorem RepFs.mono {H H' : Hp} (t : TK H H') {fs : List Frm} {vs : List V} (h : RepFs H fs vs) : RepFs H' fs vs := Paired.mapP h fun _ _ r => r.mono t
theorem RepFs.len {H : Hp} {fs : List Frm} {vs : List V} (h : RepFs H fs vs) : fs.length = vs.length := Paired.length h
inductive RepB (H : Hp) (b : Bk) (v : V) : Prop
 | mk : ∀ a sa fa fv, (v = .ref a) -> (H a = some (.tup [.int b.wheel, .ref sa, .ref fa])) -> (SrtsAt H sa b.sorts) -> (H fa = some (.tup fv)) -> (RepFs H b.forms fv) -> RepB H b v
theorem RepB.mono {H H' : Hp} (t : TK H H') {b : Bk} {v : V} : RepB H b v -> RepB H' b v := fun ⟨a, sa, fa, fv, e, h1, h2, h3, h4⟩ => ⟨a, sa, fa, fv, e, t _ _ h1, h2.mono t, t _ _ h3, h4.mono t⟩
noncomputable def FrmOk (ss : List Srt) (mode : Int) (fr : Frm) : Prop := fr.own ∈ ss /\ (∀ q ∈ fr.parts, q ∈ ss) /\ fr.parts.length <= 3 /\ RulesOk fr.own fr.parts mode fr.rules
structure BookOk (b : Bk) : Prop where
 so : SortsOk b.sorts
 wh : 2 <= b.wheel /\ b.wheel <= 10 ^ 30
 few : b.forms.length <= 10
 more : b.sorts.length <= b.forms.length
 nd : (b.forms.map Frm.name).Nodup
 wd : ∀ fr ∈ b.forms, wordB fr.name = true
 fo : ∃ mode : Int, (mode = 0 \/ mode = 1 \/ mode = 2) /\ ∀ fr ∈ b.forms, FrmOk b.sorts mode fr
 nil : ∃ fr, fr ∈ b.forms /\ fr.parts = []
theorem SqL.keep {K : PySem.W.Frag} {H H' : Hp} {a : Addr} {xs : List V} (h : SqL K H a xs) (k : ∀ o, H a = some o -> H' a = some o) : SqL K H' a xs := by
 rcases h with (h | ⟨o, h⟩) | h
 ·exact .inl (.inl (k _ h))
 ·exact .inl (.inr ⟨o, k _ h⟩)
 ·exact .inr h
theorem sort_at {H : Hp} {ss : List Srt} {xs : List V} (h : RepSs H ss xs) {d : Int} (h0 : 0 <= d) (h1 : d < xs.length) : ∃ q a b c, ss[d.toNat]? = some q /\ atI xs d = some (.ref a) /\ H a = some (.tup [.str (Srt.name q), b, c]) := by
 obtain ⟨x, ex, ex2⟩ := atI_lt h0 h1
 obtain ⟨q, hq, a, b, c, rfl, ha, _⟩ := paired_get h ex2
 exact ⟨q, a, .ref b, .ref c, hq, ex, ha⟩
inductive spBook (K : PySem.W.Frag) (vs : List V) (H : Hp) (Q : VK) (E_ : XK) : Prop
 | mk : ∀ (sc : Addr) (ns : List Int) (st : Int) (few : Bool), (vs = [.ref sc, .int st, .bl few]) -> (SqL K H sc (ns.map V.int)) -> (ns.length <= 63) -> (0 <= st) -> (st < 900) -> (∀ v bk H', RepB H' bk v -> BookOk bk -> Same H H' -> Q v H') -> spBook K vs H Q E_
noncomputable def forBody (s : Stmt) : List Stmt := match s with
 | .For _ _ b _ _ => b
 | _ => []
noncomputable def bkFor : List Stmt := forBody ((defBody sBook).getD 8 (.Pass ⟨0, 0, 0, 0⟩))
inductive BLoop (H : Hp) (sc hd sa nl fl : Addr) (st wh mode gr mo : Int) (few : Bool) (ss : List Srt) (ws : List Str) (i : Nat) (Z : St) (H' : Hp) : Prop
 | mk : ∀ o11 o12 o13 o14 o15 fv frs, (Z = [some (.ref sc), some (.int st), some (.bl few), some (.ref hd), some (.int wh), some (.int mode), some (.int gr), some (.int mo), some (.ref sa), some (.ref nl), some (.ref fl), o11, o12, o13, o14, o15]) -> (Same H H') -> (SrtsAt H' sa ss) -> (H' nl = some (.lst (ws.map V.str))) -> (H' fl = some (.lst fv)) -> (RepFs H' frs fv) -> (frs.length = i) -> (frs.map Frm.name = ws.take i) -> ((∀ fr ∈ frs, FrmOk ss mode fr)) -> ((∀ k, k < i -> k < ss.length -> (frs[k]?).map Frm.own = ss[k]?)) -> (∀ fr, frs[0]? = some fr -> fr.parts = []) -> BLoop H sc hd sa nl fl st wh mode gr mo few ss ws i Z H'
theorem snoc_get {α : Type} {l : List α} {x y : α} {j : Nat} (h : (l ++ [x])[j]? = some y) : (j < l.length /\ l[j]? = some y) \/ (j = l.length /\ y = x) := by
 by_cases c : j < l.length
 ·rw [List.getElem?_append_left c] at h
  exact .inl ⟨c, h⟩
 ·rw [List.getElem?_append_right (by lia)] at h
  by_cases c2 : j - l.length = 0
  ·rw [c2] at h
   exact .inr ⟨by lia, (Option.some.inj h).symm⟩
  ·rw [List.getElem?_eq_none (by show 1 <= j - l.length; lia)] at h
   cases h
noncomputable abbrev NBook : List Str := ["script", "start", "few", "head", "wheel", "mode", "grown", "more", "sorts", "names", "forms", "k", "tape", "own", "many", "parts"]
theorem scBook : FnScope NBook ["script", "start", "few"] (defScope sBook) := fsc
theorem bk_tail2 {cdv : Value} {A : Around} {outer : List Env} {s : Shared} {H H0 : Hp} {E : XK} (G : Gb mg)
  (GD : FnOk P w K mg base CX0 1 g gd ["tape", "many"] spDigit) (bD : Binds K gd ["tape", "many"] []) (kD : PySem.W.keepIn K (.ref g) = true) (mD : mg "_law_digit" = some (.ref g))
  (GF : FnOk P w K mg base CX0 5 f2 fd2 ["tape", "sorts", "name", "own", "parts", "mode"] spLForm) (bF : Binds K fd2 ["tape", "sorts", "name", "own", "parts", "mode"] []) (kF : PySem.W.keepIn K (.ref f2) = true) (mF : mg "_law_form" = some (.ref f2))
  (hr : Room 5 (cxOf CX0 P w K mg base NBook "_law_book" (defScope sBook) f cdv A outer s H0 E).nox.A) :
  ∃ t, PSs (cxOf CX0 P w K mg base NBook "_law_book" (defScope sBook) f cdv A outer s H0 E).nox (bkFor.drop 5) t /\
   ∀ (sc hd sa nl fl : Addr) (st wh mode gr mo : Int) (few : Bool) (ss : List Srt) (ws : List Str), SortsOk ss -> ws.length = 10 -> H fl = none -> nl ≠ fl -> ∀ (D : Ends) (i : Nat) (Z : St) (H2 H5 : Hp) (tp : Addr) (o : Srt) (m : Int) (o15 : Option V), BLoop H sc hd sa nl fl st wh mode gr mo few ss ws i Z H2 -> i < 10 -> H2 tp = none -> Same H2 H5 -> Tp H5 tp -> o ∈ ss -> (i < ss.length -> ss[i]? = some o) -> 0 <= m -> m <= 3 -> (i = 0 -> m = 0) ->
    (∀ Z' H', BLoop H sc hd sa nl fl st wh mode gr mo few ss ws (i + 1) Z' H' -> D.nx Z' H') ->
    t D [some (.ref sc), some (.int st), some (.bl few), some (.ref hd), some (.int wh), some (.int mode), some (.int gr), some (.int mo), some (.ref sa), some (.ref nl), some (.ref fl), some (.int (0 + (i : Int))), some (.ref tp), some (.str o.name), some (.int m), o15] H5 := by
 have hr1 := hr.mono (show 1 <= 5 by decide)
 refine ⟨_, pss_cons (ps_set (i := 15) scBook.nd rfl (Or.inl rfl) (pe_callTy (r := rTupOf K) call_tuple_of rfl G.tuple (by decide +kernel) (pa_cons
   (pe_comp (sc0 := defScope sBook) (N0 := NBook) (ys := ["sorts", "tape"]) (fr := [8, 12]) rfl (pi_range1 rfl G.range (pa_cons (pv 14) pa_nil)) rfl rfl
    cok
    (fun C s H ex => pe_ix (r := rIxT K) ix_tup (pe_ix (r := rIxT K) ix_tup (pv 1) (pe_call GD hr1 rfl mD kD bD .nil pass0 (pa_cons (pv 2) (pa_cons (pe_callB (r := rLen K) call_len_seq rfl G.len PySem.boot_len (pa_cons (pv 1) pa_nil)) pa_nil))) (fun _ _ => rfl)) pe_int (fun _ _ => rfl))) pa_nil)))
  (pss_one (ps_expr (pe_bm PySem.F.plainAttrs_list PySem.F.slot_list_append PySem.F.type_list_append mt_append (pv 10) (pa_cons
   (pe_call GF hr rfl mF kF bF .nil pass0 (pa_cons (pv 12) (pa_cons (pv 8) (pa_cons (pe_ix (r := rIxL K) ix_list (pv 9) (pv 11) (fun _ _ => rfl)) (pa_cons (pv 13) (pa_cons (pv 15) (pa_cons (pv 5) pa_nil))))))) pa_nil)))), ?_⟩
 rintro sc hd sa nl fl st wh mode gr mo few ss ws hok hws hfl0 hnf D i Z H2 H5 tp o m o15 ⟨o11, o12, o13, o14, o15', fv, frs, rfl, sm, hsa, gnl, gfl, hF, hfl, hnm, hfok, hown, hnil⟩ hi htp s5 tt5 ho hoi hm0 hm3 hmi hD
 obtain ⟨xs, gsa, hR⟩ := hsa.mono (tk_of s5)
 have lxs := hR.len
 refine ⟨_, rfl, m, rfl, by lia, by lia, ?_⟩
 refine comp_walk (n := m.toNat) (R := fun i v => v = .int (0 + i)) (by lia) itr_go itr_stop itr_yld
  (fun p n zs H' => Kp tp H5 H' /\ Tp H' tp /\ H' p = some (.lst zs) /\ p ≠ tp /\ ∃ qs, zs = partsV qs /\ qs.length = n /\ ∀ q ∈ qs, q ∈ ss) ?_ ?_ ?_ ?_
 ·intro p hp
  exact ⟨Kp.refl.new hp, tt5.new hp, upd_same, tp_ne tt5 hp, [], rfl, rfl, fun q h => by cases h⟩
 ·rintro p n zs H' ⟨_, _, gp, _, qs, rfl, hl, _⟩
  exact ⟨gp, by unfold partsV; rw [List.length_map]; exact hl⟩
 ·rintro p n zs H' v k hp hn rfl ⟨k6, tt6, gp, hpn, qs, rfl, hl, hqs⟩ hk
  have tk6 := k6.tk tt5
  have h1 := hok.1
  refine ⟨_, rfl, _, rfl, _, rfl, sa, _, rfl, .inr (SqT.of (tk6 _ _ gsa)), tp, _, rfl, tt6, by lia, by have := hok.2.1; lia, fun d t hd0 hd1 => ?_⟩
  obtain ⟨q, a, b, c, hq, eat, ha⟩ := sort_at hR hd0 hd1
  have k7 : Kp tp H5 (upd H' tp (.lst [.int t])) := k6.trans Kp.tape
  have tk7 := k7.tk tt5
  refine ⟨sa, xs, d, .ref a, rfl, rfl, SqT.of (tk7 _ _ gsa), eat, a, _, 0, _, rfl, rfl, SqT.of (tk7 _ _ ha), atI0, ?_⟩
  have gp7 : (upd H' tp (.lst [.int t])) p = some (.lst (partsV qs)) := by rw [upd_ne hpn]; exact gp
  refine hk _ _ gp7 ⟨?_, ⟨t, ?_⟩, upd_same, hpn, qs ++ [q], ?_, ?_, ?_⟩
  ·intro b' o' hb hbn
   rw [upd_ne (ne_of_none hb hp)]
   exact k7 _ _ hb hbn
  ·rw [upd_ne (Ne.symm hpn), upd_same]
  ·unfold partsV; rw [List.map_append]; rfl
  ·rw [List.length_append, hl]; rfl
  ·intro x hx
   rw [List.mem_append, List.mem_singleton] at hx
   rcases hx with h | rfl
   ·exact hqs x h
   ·exact List.mem_of_getElem? hq
 ·rintro p zs H6 hp ⟨k6, tt6, gp, hpn, qs, rfl, hl, hqs⟩
  refine ⟨p, _, rfl, .inl ⟨SqL.of gp, fun pa hpa => ?_⟩⟩
  have s7 := same_new hpa (.tup (partsV qs))
  have g7 : (upd H6 pa (.tup (partsV qs))) pa = some (.tup (partsV qs)) := upd_same
  have tt7 := tt6.same s7
  generalize upd H6 pa (.tup (partsV qs)) = H7 at s7 g7 tt7 ⊢
  have k27 : Kp tp H2 H7 := ((Kp.refl.same s5).trans k6).same s7
  have S27 : Same H2 H7 := fun b oo h => k27 b oo h (ne_of_none h htp)
  have gfl7 := S27 _ _ gfl
  obtain ⟨nm, enm⟩ : ∃ nm, ws[i]? = some nm := ⟨ws[i]'(by lia), List.getElem?_eq_getElem (by lia)⟩
  have eat : atI (ws.map V.str) (0 + (i : Int)) = some (V.str nm) := by
   rw [Int.zero_add]
   exact atI_nat (by rw [List.getElem?_map, enm]; rfl)
  refine ⟨_, rfl, .inl ⟨rfl, _, SqL.of gfl7⟩, ?_⟩
  refine ⟨_, rfl, _, rfl, _, rfl, _, rfl, nl, _, _, _, rfl, rfl, SqL.of (S27 _ _ gnl), eat, _, rfl, _, rfl, _, rfl, tp, sa, pa, ss, nm, o, qs, mode, rfl, tt7, hsa.mono (tk_of S27), hok, ho, g7, hqs, by lia, fun v rules H8 rf rok k8 tt8 => ?_⟩
  have S28 : Same H2 H8 := fun b oo h => k8 b oo (S27 b oo h) (ne_of_none h htp)
  have gfl8 := S28 _ _ gfl
  have lfv := hF.len
  refine ⟨fl, fv, v, rfl, rfl, gfl8, small1000 (by lia), ?_⟩
  have tk : TK H8 (upd H8 fl (.lst (fv ++ [v]))) := TK.lst gfl8
  have tk2 : TK H2 (upd H8 fl (.lst (fv ++ [v]))) := (tk_of S28).trans tk
  refine hD _ _ ⟨_, _, _, _, _, fv ++ [v], frs ++ [⟨nm, o, qs, rules⟩], rfl, ?_, hsa.mono tk2, ?_, upd_same, ?_, ?_, ?_, ?_, ?_, ?_⟩
  ·intro b oo h
   rw [upd_ne (ne_of_none h hfl0)]
   exact S28 _ _ (sm _ _ h)
  ·rw [upd_ne hnf]
   exact S28 _ _ gnl
  ·exact Paired.snoc (hF.mono tk2) (rf.mono tk)
  ·rw [List.length_append, hfl]; rfl
  ·rw [List.map_append, hnm, List.take_add_one, enm]; rfl
  ·intro fr hfr
   rw [List.mem_append, List.mem_singleton] at hfr
   rcases hfr with h | rfl
   ·exact hfok fr h
   ·exact ⟨ho, hqs, by show qs.length <= 3; lia, rok⟩
  ·intro k hk hks
   by_cases c : k < i
   ·rw [List.getElem?_append_left (by lia)]
    exact hown k c hks
   ·have : k = i := by lia
    subst this
    rw [List.getElem?_append_right (by lia), hfl, Nat.sub_self]
    show some o = _
    rw [hoi hks]
  ·intro fr hfr
   rcases snoc_get hfr with ⟨h, e⟩ | ⟨h, e⟩
   ·exact hnil fr e
   ·subst e
    have : qs.length = 0 := by rw [hl, hmi (by lia)]; rfl
    exact List.eq_nil_of_length_eq_zero this
theorem many_at {d : Int} (h0 : 0 <= d) (h1 : d < 5) : ∃ m : Int, atI [V.int 2, .int 1, .int 3, .int 2, .int 0] d = some (.int m) /\ 0 <= m /\ m <= 3 := by
 have h5 : d = 0 \/ d = 1 \/ d = 2 \/ d = 3 \/ d = 4 := by lia
 rcases h5 with h | h | h | h | h <;> subst h <;> exact ⟨_, rfl, by decide, by decide⟩
theorem mode_at {d : Int} (h0 : 0 <= d) (h1 : d < 5) : ∃ m : Int, atI [V.int 0, .int 0, .int 1, .int 2, .int 2] d = some (.int m) /\ (m = 0 \/ m = 1 \/ m = 2) := by
 have h5 : d = 0 \/ d = 1 \/ d = 2 \/ d = 3 \/ d = 4 := by lia
 rcases h5 with h | h | h | h | h <;> subst h <;> exact ⟨_, rfl, by decide⟩
theorem more_at {d : Int} (h0 : 0 <= d) (h1 : d < 3) : ∃ m : Int, atI [V.int 3, .int 4, .int 7] d = some (.int m) /\ 3 <= m /\ m <= 7 := by
 have h5 : d = 0 \/ d = 1 \/ d = 2 := by lia
 rcases h5 with h | h | h <;> subst h <;> exact ⟨_, rfl, by decide, by decide⟩
theorem wheel_at {z d : Int} (hz0 : 0 <= z) (hz1 : z < 1000) (h0 : 0 <= d) (h1 : d < 6) : ∃ m : Int, atI [V.int 2, .int 7, .int 10, .int 97, .int (10 ^ (30 : Int).toNat), .int (2 + z)] d = some (.int m) /\ 2 <= m /\ m <= 10 ^ 30 := by
 have e : (10 : Int) ^ (30 : Int).toNat = 10 ^ 30 := rfl
 have b : (2000 : Int) <= 10 ^ 30 := by decide +kernel
 have h5 : d = 0 \/ d = 1 \/ d = 2 \/ d = 3 \/ d = 4 \/ d = 5 := by lia
 rcases h5 with h | h | h | h | h | h <;> subst h
 ·exact ⟨2, rfl, by lia, by lia⟩
 ·exact ⟨7, rfl, by lia, by lia⟩
 ·exact ⟨10, rfl, by lia, by lia⟩
 ·exact ⟨97, rfl, by lia, by lia⟩
 ·exact ⟨_, rfl, by rw [e]; lia, by rw [e]; lia⟩
 ·exact ⟨_, rfl, by lia, by lia⟩
theorem bk_tail1 {cdv : Value} {A : Around} {outer : List Env} {s : Shared} {H H0 : Hp} {E : XK} (G : Gb mg)
  (GD : FnOk P w K mg base CX0 1 g gd ["tape", "many"] spDigit) (bD : Binds K gd ["tape", "many"] []) (kD : PySem.W.keepIn K (.ref g) = true) (mD : mg "_law_digit" = some (.ref g))
  (GF : FnOk P w K mg base CX0 5 f2 fd2 ["tape", "sorts", "name", "own", "parts", "mode"] spLForm) (bF : Binds K fd2 ["tape", "sorts", "name", "own", "parts", "mode"] []) (kF : PySem.W.keepIn K (.ref f2) = true) (mF : mg "_law_form" = some (.ref f2))
  (hr : Room 5 (cxOf CX0 P w K mg base NBook "_law_book" (defScope sBook) f cdv A outer s H0 E).nox.A) :
  ∃ t, PSs (cxOf CX0 P w K mg base NBook "_law_book" (defScope sBook) f cdv A outer s H0 E).nox (bkFor.drop 3) t /\
   ∀ (sc hd sa nl fl : Addr) (st wh mode gr mo : Int) (few : Bool) (ss : List Srt) (ws : List Str), SortsOk ss -> ws.length = 10 -> H fl = none -> nl ≠ fl -> ∀ (D : Ends) (i : Nat) (Z : St) (H2 H5 : Hp) (tp : Addr) (o : Srt) (o14 o15 : Option V), BLoop H sc hd sa nl fl st wh mode gr mo few ss ws i Z H2 -> i < 10 -> H2 tp = none -> Same H2 H5 -> Tp H5 tp -> o ∈ ss -> (i < ss.length -> ss[i]? = some o) ->
    (∀ Z' H', BLoop H sc hd sa nl fl st wh mode gr mo few ss ws (i + 1) Z' H' -> D.nx Z' H') ->
    t D [some (.ref sc), some (.int st), some (.bl few), some (.ref hd), some (.int wh), some (.int mode), some (.int gr), some (.int mo), some (.ref sa), some (.ref nl), some (.ref fl), some (.int (0 + (i : Int))), some (.ref tp), some (.str o.name), o14, o15] H5 := by
 have hr1 := hr.mono (show 1 <= 5 by decide)
 obtain ⟨t2, ht2, hread2⟩ := bk_tail2 (cdv := cdv) (A := A) (outer := outer) (s := s) (H := H) (H0 := H0) (E := E) (f := f) G GD bD kD mD GF bF kF mF hr
 refine ⟨_, pss_cons (ps_set (i := 14) scBook.nd rfl (Or.inl rfl) (pe_ix (r := rIxL K) ix_list (pe_lst (pa_cons pe_int (pa_cons pe_int (pa_cons pe_int (pa_cons pe_int (pa_cons pe_int pa_nil)))))) (pe_call GD hr1 rfl mD kD bD .nil pass0 (pa_cons (pv 12) (pa_cons pe_int pa_nil))) (fun _ _ => rfl)))
  (pss_cons (ps_if (PW.pt (pw_or (pt_cmpR op_eq (pv 11) pe_int (nomark _)) (pw_or1 (PW.pt (pw_and (pt_cmpR op_eq (pv 6) pe_int (nomark _)) (pw_and1 (pt_cmpR op_lt (pv 11) (pe_callB (r := rLen K) call_len_seq rfl G.len PySem.boot_len (pa_cons (pv 8) pa_nil)) (nomark _))))))))
   (pss_one (ps_set (i := 14) scBook.nd rfl (Or.inl rfl) pe_int)) pss_nil) ht2), ?_⟩
 intro sc hd sa nl fl st wh mode gr mo few ss ws hok hws hfl0 hnf D i Z H2 H5 tp o o14 o15 hB hi htp s5 tt5 ho hoi hD
 obtain ⟨xs, gsa, hR⟩ : SrtsAt H5 sa ss := by
  obtain ⟨_, _, _, _, _, _, _, _, _, h, _⟩ := hB
  exact h.mono (tk_of s5)
 refine ⟨(by show 5 <= sizeLine; decide), fun p hp => ?_⟩
 have npt := tp_ne tt5 hp
 refine ⟨_, rfl, tp, 5, rfl, tt5.new hp, by decide, by decide, fun d t hd0 hd1 => ?_⟩
 obtain ⟨m, em, hm0, hm3⟩ := many_at hd0 hd1
 refine ⟨p, _, d, .int m, rfl, rfl, SqL.of (by rw [upd_ne npt]; exact upd_same), em, ?_⟩
 have k6 : Kp tp H5 (upd (upd H5 p (.lst [.int 2, .int 1, .int 3, .int 2, .int 0])) tp (.lst [.int t])) := (Kp.refl.new hp).trans Kp.tape
 have tt6 : Tp (upd (upd H5 p (.lst [.int 2, .int 1, .int 3, .int 2, .int 0])) tp (.lst [.int t])) tp := ⟨t, upd_same⟩
 generalize upd (upd H5 p (.lst [.int 2, .int 1, .int 3, .int 2, .int 0])) tp (.lst [.int t]) = H6 at k6 tt6 ⊢
 have s6 : Same H2 H6 := fun b oo h => k6 b oo (s5 b oo h) (ne_of_none h htp)
 have gsa6 := k6.tk tt5 _ _ gsa
 refine ⟨_, rfl, rfl, _, rfl, ?_⟩
 refine ite2 (fun c => iteT ?_) (fun c => ?_)
 ·exact hread2 sc hd sa nl fl st wh mode gr mo few ss ws hok hws hfl0 hnf D i Z H2 H6 tp o 0 o15 hB hi htp s6 tt6 ho hoi (by decide) (by decide) (fun _ => rfl) hD
 have hne : i = 0 -> m = 0 := fun e => by
  subst e
  exact absurd (decide_eq_true rfl) c
 refine ⟨_, rfl, rfl, _, rfl, ?_⟩
 refine ite2 (fun c2 => ?_) (fun c2 => iteF ?_)
 ·refine ⟨_, rfl, _, rfl, sa, xs, rfl, .inr (SqT.of gsa6), _, _, rfl, rfl, _, rfl, ?_⟩
  refine ite2 (fun c3 => ?_) (fun c3 => ?_)
  ·exact hread2 sc hd sa nl fl st wh mode gr mo few ss ws hok hws hfl0 hnf D i Z H2 H6 tp o 0 o15 hB hi htp s6 tt6 ho hoi (by decide) (by decide) (fun _ => rfl) hD
  ·exact hread2 sc hd sa nl fl st wh mode gr mo few ss ws hok hws hfl0 hnf D i Z H2 H6 tp o m o15 hB hi htp s6 tt6 ho hoi hm0 hm3 hne hD
 ·exact hread2 sc hd sa nl fl st wh mode gr mo few ss ws hok hws hfl0 hnf D i Z H2 H6 tp o m o15 hB hi htp s6 tt6 ho hoi hm0 hm3 hne hD
theorem bk_loop {cdv : Value} {A : Around} {outer : List Env} {s : Shared} {H : Hp} {Q : VK} {E : XK} {sc : Addr} {ns : List Int} {st : Int} {few : Bool} (G : Gb mg)
  (GD : FnOk P w K mg base CX0 1 g gd ["tape", "many"] spDigit) (bD : Binds K gd ["tape", "many"] []) (kD : PySem.W.keepIn K (.ref g) = true) (mD : mg "_law_digit" = some (.ref g))
  (GF : FnOk P w K mg base CX0 5 f2 fd2 ["tape", "sorts", "name", "own", "parts", "mode"] spLForm) (bF : Binds K fd2 ["tape", "sorts", "name", "own", "parts", "mode"] []) (kF : PySem.W.keepIn K (.ref f2) = true) (mF : mg "_law_form" = some (.ref f2))
  (GT : FnOk P w K mg base CX0 2 f3 fd3 ["script", "k"] (spTape K)) (bT : Binds K fd3 ["script", "k"] []) (kT : PySem.W.keepIn K (.ref f3) = true) (mT : mg "_law_tape" = some (.ref f3))
  (hS : SqL K H sc (ns.map V.int)) (hns : ns.length <= 63) (hst0 : 0 <= st) (hst1 : st < 900) (q : ∀ v bk H', RepB H' bk v -> BookOk bk -> Same H H' -> Q v H')
  (hr : Room 5 (cxOf CX0 P w K mg base NBook "_law_book" (defScope sBook) f cdv A outer s H E).nox.A) :
  ∃ t, PSs (cxOf CX0 P w K mg base NBook "_law_book" (defScope sBook) f cdv A outer s H E).nox ((defBody sBook).drop 8) t /\
   ∀ (hd sa nl fl : Addr) (wh mode gr mo : Int) (ss : List Srt) (ws : List Str) (H5 : Hp), SortsOk ss -> NamesAre 10 ws -> 2 <= wh -> wh <= 10 ^ 30 -> (mode = 0 \/ mode = 1 \/ mode = 2) -> 0 <= mo -> mo <= 7 -> H fl = none -> nl ≠ fl -> H fl = none ->
    Same H H5 -> SrtsAt H5 sa ss -> H5 nl = some (.lst (ws.map V.str)) -> H5 fl = some (.lst []) ->
    t { nx := fun _ H' => Q .non H', rt := Q } [some (.ref sc), some (.int st), some (.bl few), some (.ref hd), some (.int wh), some (.int mode), some (.int gr), some (.int mo), some (.ref sa), some (.ref nl), some (.ref fl), none, none, none, none, none] H5 := by
 have hr1 := hr.mono (show 1 <= 5 by decide)
 have hr2 := hr.mono (show 2 <= 5 by decide)
 obtain ⟨t1, ht1, hread1⟩ := bk_tail1 (cdv := cdv) (A := A) (outer := outer) (s := s) (H := H) (H0 := H) (E := E) (f := f) G GD bD kD mD GF bF kF mF hr
 refine ⟨_, pss_cons (ps_for PassesOwn.never rfl (pi_range1 rfl G.range (pa_cons (pe_callB (call_min2 rfl) rfl G.min (by decide +kernel) (pa_cons pe_int (pa_cons (pe_op op_add (pe_callB (r := rLen K) call_len_seq rfl G.len PySem.boot_len (pa_cons (pv 8) pa_nil)) (pv 7)) pa_nil))) pa_nil)) (pg_name (i := 11) scBook.nd rfl (Or.inl rfl))
   (pss_cons (ps_set (i := 12) scBook.nd rfl (Or.inr rfl) (pe_call GT hr2 rfl mT kT bT .nil pass0 (pa_cons (pv 0) (pa_cons (pe_op op_add (pe_op op_add (pv 1) pe_int) (pv 11)) pa_nil))))
   (pss_cons (ps_set (i := 13) scBook.nd rfl (Or.inl rfl) (pe_ix (r := rIxT K) ix_tup (pe_ix (r := rIxT K) ix_tup (pv 8) (pe_op op_mod (pv 11) (pe_callB (r := rLen K) call_len_seq rfl G.len PySem.boot_len (pa_cons (pv 8) pa_nil))) (fun _ _ => rfl)) pe_int (fun _ _ => rfl)))
   (pss_cons (ps_if (pt_cmpR op_ge (pv 11) (pe_callB (r := rLen K) call_len_seq rfl G.len PySem.boot_len (pa_cons (pv 8) pa_nil)) (nomark _))
    (pss_one (ps_set (i := 13) scBook.nd rfl (Or.inl rfl) (pe_ix (r := rIxT K) ix_tup (pe_ix (r := rIxT K) ix_tup (pv 8) (pe_call GD hr1 rfl mD kD bD .nil pass0 (pa_cons (pv 12) (pa_cons (pe_callB (r := rLen K) call_len_seq rfl G.len PySem.boot_len (pa_cons (pv 8) pa_nil)) pa_nil))) (fun _ _ => rfl)) pe_int (fun _ _ => rfl)))) pss_nil) ht1))))
  (pss_one (ps_ret (pe_tup (pa_cons (pv 4) (pa_cons (pv 8) (pa_cons (pe_callTy (r := rTupOf K) call_tuple_of rfl G.tuple (by decide +kernel) (pa_cons (pv 10) pa_nil)) pa_nil)))))), ?_⟩
 intro hd sa nl fl wh mode gr mo ss ws H5 hok hN hw2 hw3 hmode hmo0 hmo7 hfl0 hnf _ S5 hsa gnl gfl
 obtain ⟨nLen, nNd, nWd⟩ := hN.ok (by decide)
 obtain ⟨xs, gsa, hR⟩ := hsa
 have lxs := hR.len
 have l1 := hok.1
 have l4 := hok.2.1
 obtain ⟨n, en, hn1, hn2⟩ : ∃ n : Int, (if (xs.length : Int) + mo < 10 then (xs.length : Int) + mo else 10) = n /\ (xs.length : Int) <= n /\ n <= 10 := ⟨_, rfl, by split <;> lia, by split <;> lia⟩
 refine ⟨_, rfl, sa, xs, rfl, .inr (SqT.of gsa), _, rfl, _, _, rfl, rfl, _, _, rfl, ?_⟩
 rw [en]
 refine ⟨n, rfl, by lia, by lia, ?_⟩
 refine for_range (fun i Z H' => BLoop H sc hd sa nl fl st wh mode gr mo few ss ws i Z H')
  ⟨none, none, none, none, none, [], [], rfl, S5, ⟨xs, gsa, hR⟩, gnl, gfl, .nil, rfl, rfl, fun _ h => (by cases h), fun k h => (by lia), fun fr h => (by cases h)⟩ ?_ ?_
 ·intro i Z H6 hi hB
  have hB' := hB
  obtain ⟨o11, o12, o13, o14, o15, fv, frs, rfl, S6, hsa6, gnl6, gfl6, hF6, _⟩ := hB'
  obtain ⟨xs6, gsa6, hR6⟩ := hsa6
  have lx6 := hR6.len
  refine ⟨_, rfl, _, rfl, _, _, rfl, rfl, _, rfl, _, _, rfl, rfl, sc, ns, _, rfl, SqL.keep hS (fun oo h => S6 _ _ h), hns, by lia, by lia, fun tp t0 htp => ?_⟩
  have s7 := same_new htp (.lst [.int t0])
  have tt7 : Tp (upd H6 tp (.lst [.int t0])) tp := ⟨t0, upd_same⟩
  generalize upd H6 tp (.lst [.int t0]) = H7 at s7 tt7 ⊢
  have gsa7 := s7 _ _ gsa6
  have hR7 := hR6.mono (tk_of s7)
  have hm0 : 0 <= (0 + (i : Int)) % (xs6.length : Int) := Int.emod_nonneg _ (by lia)
  have hm1 : (0 + (i : Int)) % (xs6.length : Int) < xs6.length := Int.emod_lt_of_pos _ (by lia)
  obtain ⟨o, a, b, c, ho, eat, ha⟩ := sort_at hR7 hm0 hm1
  refine ⟨_, rfl, _, rfl, _, rfl, sa, xs6, rfl, .inr (SqT.of gsa7), _, _, rfl, rfl, (by show (0 : Int) < xs6.length; lia), sa, xs6, _, .ref a, rfl, rfl, SqT.of gsa7, eat, a, _, 0, _, rfl, rfl, SqT.of ha, atI0, ?_⟩
  refine ⟨_, rfl, _, rfl, sa, xs6, rfl, .inr (SqT.of gsa7), _, _, rfl, rfl, _, rfl, ?_⟩
  refine ite2 (fun c => ?_) (fun c => ?_)
  ·have c' : (xs6.length : Int) <= 0 + (i : Int) := of_decide_eq_true c
   refine ⟨_, rfl, _, rfl, _, rfl, sa, xs6, rfl, .inr (SqT.of gsa7), tp, _, rfl, tt7, by lia, by lia, fun d t1 hd0 hd1 => ?_⟩
   have k8 : Kp tp H7 (upd H7 tp (.lst [.int t1])) := Kp.tape
   have tt8 : Tp (upd H7 tp (.lst [.int t1])) tp := ⟨t1, upd_same⟩
   generalize upd H7 tp (.lst [.int t1]) = H8 at k8 tt8 ⊢
   have tk8 := k8.tk tt7
   obtain ⟨o2, a2, b2, c2, ho2, eat2, ha2⟩ := sort_at hR7 hd0 hd1
   refine ⟨sa, xs6, d, .ref a2, rfl, rfl, SqT.of (tk8 _ _ gsa7), eat2, a2, _, 0, _, rfl, rfl, SqT.of (tk8 _ _ ha2), atI0, ?_⟩
   exact hread1 sc hd sa nl fl st wh mode gr mo few ss ws hok nLen hfl0 hnf _ i _ H6 H8 tp o2 _ _ hB (by lia) htp (fun y oo h => k8 y oo (s7 y oo h) (ne_of_none h htp)) tt8 (List.mem_of_getElem? ho2) (fun h => by lia) (fun Z' H' h => h)
  ·have c' : ¬ (xs6.length : Int) <= 0 + (i : Int) := fun e => c (decide_eq_true e)
   have ei : ((0 + (i : Int)) % (xs6.length : Int)).toNat = i := by
    rw [Int.emod_eq_of_lt (by lia) (by lia)]
    lia
   rw [ei] at ho
   exact hread1 sc hd sa nl fl st wh mode gr mo few ss ws hok nLen hfl0 hnf _ i _ H6 H7 tp o _ _ hB (by lia) htp s7 tt7 (List.mem_of_getElem? ho) (fun _ => ho) (fun Z' H' h => h)
 ·rintro Z H6 ⟨o11, o12, o13, o14, o15, fv, frs, rfl, S6, hsa6, gnl6, gfl6, hF6, lfr, hnm, hfok, hown, hnil⟩
  refine ⟨_, rfl, _, rfl, _, rfl, fl, fv, rfl, .inl ⟨SqL.of gfl6, fun fa hfa => ?_⟩⟩
  have s7 := same_new hfa (.tup fv)
  have g7 : (upd H6 fa (.tup fv)) fa = some (.tup fv) := upd_same
  generalize upd H6 fa (.tup fv) = H7 at s7 g7 ⊢
  refine ⟨(by show 3 <= sizeLine; decide), fun pb hpb => ?_⟩
  have s8 := same_new hpb (.tup [.int wh, .ref sa, .ref fa])
  have tk68 := tk_of (s7.trans s8)
  refine q (.ref pb) ⟨wh, ss, frs⟩ _ ⟨pb, sa, fa, fv, rfl, upd_same, hsa6.mono tk68, s8 _ _ g7, hF6.mono tk68⟩ ?_ (S6.trans (s7.trans s8))
  refine ⟨hok, ⟨hw2, hw3⟩, ?_, ?_, ?_, ?_, ⟨mode, hmode, hfok⟩, ?_⟩
  ·show frs.length <= 10
   lia
  ·show ss.length <= frs.length
   lia
  ·show (frs.map Frm.name).Nodup
   rw [hnm]
   exact nNd.sublist (List.take_sublist _ _)
  ·intro fr hfr
   refine nWd _ (List.mem_of_mem_take (i := n.toNat) ?_)
   rw [<- hnm]
   exact List.mem_map_of_mem hfr
  ·have l0 : 0 < frs.length := by have := hok.1; lia
   exact ⟨frs[0], List.getElem_mem l0, hnil _ (List.getElem?_eq_getElem l0)⟩
theorem ok_book (F : Fun K "_law_book" "_law_book" sBook f fd) (G : Gb mg)
  (GD : FnOk P w K mg base CX0 1 g gd ["tape", "many"] spDigit) (bD : Binds K gd ["tape", "many"] []) (kD : PySem.W.keepIn K (.ref g) = true) (mD : mg "_law_digit" = some (.ref g))
  (GF : FnOk P w K mg base CX0 5 f2 fd2 ["tape", "sorts", "name", "own", "parts", "mode"] spLForm) (bF : Binds K fd2 ["tape", "sorts", "name", "own", "parts", "mode"] []) (kF : PySem.W.keepIn K (.ref f2) = true) (mF : mg "_law_form" = some (.ref f2))
  (GT : FnOk P w K mg base CX0 2 f3 fd3 ["script", "k"] (spTape K)) (bT : Binds K fd3 ["script", "k"] []) (kT : PySem.W.keepIn K (.ref f3) = true) (mT : mg "_law_tape" = some (.ref f3))
  (GS : FnOk P w K mg base CX0 3 f4 fd4 ["tape", "few"] spSorts) (bS : Binds K fd4 ["tape", "few"] []) (kS : PySem.W.keepIn K (.ref f4) = true) (mS : mg "_law_sorts" = some (.ref f4))
  (GN : FnOk P w K mg base CX0 2 f5 fd5 ["tape", "many"] spNamesX) (bN : Binds K fd5 ["tape", "many"] []) (kN : PySem.W.keepIn K (.ref f5) = true) (mN : mg "_law_names" = some (.ref f5)) :
  FnOk P w K mg base CX0 6 f fd ["script", "start", "few"] (spBook K) := by
 refine F.ok scBook (fun vs H Q E h => ?_) (fun cdv A outer s H vs Q E hr h => ?_)
 ·obtain ⟨sc, ns, st, few, rfl, _⟩ := h
  rfl
 obtain ⟨sc, ns, st, few, rfl, hS, hns, hst0, hst1, q⟩ := h
 have hr1 := hr.mono (show 1 <= 5 by decide)
 have hr2 := hr.mono (show 2 <= 5 by decide)
 have hr3 := hr.mono (show 3 <= 5 by decide)
 obtain ⟨t, ht, hread⟩ := bk_loop (cdv := cdv) (A := A) (outer := outer) (s := s) (H := H) (Q := Q) (E := E) (f := f) (few := few) G GD bD kD mD GF bF kF mF GT bT kT mT hS hns hst0 hst1 q hr
 refine ⟨_, pss_cons (ps_set (i := 3) scBook.nd rfl (Or.inl rfl) (pe_call GT hr2 rfl mT kT bT .nil pass0 (pac (pv 0) (pac (pv 1) pa_nil))))
  (pss_cons (ps_set (i := 4) scBook.nd rfl (Or.inl rfl) (pe_ix (r := rIxL K) ix_list (pe_lst (pac pe_int (pac pe_int (pac pe_int (pac pe_int (pac (pe_op op_pow pe_int pe_int) (pac (pe_op op_add pe_int (pe_call GD hr1 rfl mD kD bD .nil pass0 (pac (pv 3) (pac pe_int pa_nil)))) pa_nil)))))))
   (pe_call GD hr1 rfl mD kD bD .nil pass0 (pac (pv 3) (pac pe_int pa_nil))) (fun _ _ => rfl)))
  (pss_cons (ps_set (i := 5) scBook.nd rfl (Or.inl rfl) (pe_ix (r := rIxL K) ix_list (pe_lst (pac pe_int (pac pe_int (pac pe_int (pac pe_int (pac pe_int pa_nil)))))) (pe_call GD hr1 rfl mD kD bD .nil pass0 (pac (pv 3) (pac pe_int pa_nil))) (fun _ _ => rfl)))
  (pss_cons (ps_set (i := 6) scBook.nd rfl (Or.inl rfl) (pe_call GD hr1 rfl mD kD bD .nil pass0 (pac (pv 3) (pac pe_int pa_nil))))
  (pss_cons (ps_set (i := 7) scBook.nd rfl (Or.inl rfl) (pe_call GD hr1 rfl mD kD bD .nil pass0 (pac (pv 3) (pac (pe_ix (r := rIxL K) ix_list (pe_lst (pac pe_int (pac pe_int (pac pe_int pa_nil)))) (pe_call GD hr1 rfl mD kD bD .nil pass0 (pac (pv 3) (pac pe_int pa_nil))) (fun _ _ => rfl)) pa_nil))))
  (pss_cons (ps_set (i := 8) scBook.nd rfl (Or.inr rfl) (pe_call GS hr3 rfl mS kS bS .nil pass0 (pac (pv 3) (pac (pv 2) pa_nil))))
  (pss_cons (ps_set (i := 9) scBook.nd rfl (Or.inl rfl) (pe_call GN hr2 rfl mN kN bN .nil pass0 (pac (pv 3) (pac pe_int pa_nil))))
  (pss_cons (ps_set (i := 10) scBook.nd rfl (Or.inl rfl) (pe_lst pa_nil)) ht))))))), ?_⟩
 refine ⟨_, rfl, _, rfl, sc, ns, st, rfl, hS, hns, hst0, by lia, fun hd t0 hhd => ?_⟩
 have S1 := same_new hhd (.lst [.int t0])
 have tt1 : Tp (upd H hd (.lst [.int t0])) hd := ⟨t0, upd_same⟩
 generalize upd H hd (.lst [.int t0]) = H1 at S1 tt1 ⊢
 refine ⟨10, 30, rfl, rfl, ⟨by decide, by decide, by decide +kernel⟩, ?_⟩
 refine ⟨_, rfl, hd, 1000, rfl, tt1, by decide, by decide, fun z t1 hz0 hz1 => ⟨2, z, rfl, rfl, ?_⟩⟩
 have k2 : Kp hd H1 (upd H1 hd (.lst [.int t1])) := Kp.tape
 have tt2 : Tp (upd H1 hd (.lst [.int t1])) hd := ⟨t1, upd_same⟩
 generalize upd H1 hd (.lst [.int t1]) = H2 at k2 tt2 ⊢
 refine ⟨(by show 6 <= sizeLine; decide), fun p hp => ?_⟩
 have np := tp_ne tt2 hp
 refine ⟨_, rfl, hd, 6, rfl, tt2.new hp, by decide, by decide, fun d t2 hd0 hd1 => ?_⟩
 obtain ⟨wh, ewh, hw2, hw3⟩ := wheel_at hz0 hz1 hd0 hd1
 refine ⟨p, _, d, .int wh, rfl, rfl, SqL.of (by rw [upd_ne np]; exact upd_same), ewh, ?_⟩
 have k3 : Kp hd H1 (upd (upd H2 p (.lst [.int 2, .int 7, .int 10, .int 97, .int (10 ^ (30 : Int).toNat), .int (2 + z)])) hd (.lst [.int t2])) := (k2.new hp).trans Kp.tape
 have tt3 : Tp (upd (upd H2 p (.lst [.int 2, .int 7, .int 10, .int 97, .int (10 ^ (30 : Int).toNat), .int (2 + z)])) hd (.lst [.int t2])) hd := ⟨t2, upd_same⟩
 generalize upd (upd H2 p (.lst [.int 2, .int 7, .int 10, .int 97, .int (10 ^ (30 : Int).toNat), .int (2 + z)])) hd (.lst [.int t2]) = H3 at k3 tt3 ⊢
 refine ⟨(by show 5 <= sizeLine; decide), fun p hp => ?_⟩
 have np := tp_ne tt3 hp
 refine ⟨_, rfl, hd, 5, rfl, tt3.new hp, by decide, by decide, fun d t2 hd0 hd1 => ?_⟩
 obtain ⟨mode, emo, hmode⟩ := mode_at hd0 hd1
 refine ⟨p, _, d, .int mode, rfl, rfl, SqL.of (by rw [upd_ne np]; exact upd_same), emo, ?_⟩
 have k4 : Kp hd H1 (upd (upd H3 p (.lst [.int 0, .int 0, .int 1, .int 2, .int 2])) hd (.lst [.int t2])) := (k3.new hp).trans Kp.tape
 have tt4 : Tp (upd (upd H3 p (.lst [.int 0, .int 0, .int 1, .int 2, .int 2])) hd (.lst [.int t2])) hd := ⟨t2, upd_same⟩
 generalize upd (upd H3 p (.lst [.int 0, .int 0, .int 1, .int 2, .int 2])) hd (.lst [.int t2]) = H4 at k4 tt4 ⊢
 refine ⟨_, rfl, hd, 2, rfl, tt4, by decide, by decide, fun gr t3 _ _ => ?_⟩
 have k5 : Kp hd H1 (upd H4 hd (.lst [.int t3])) := k4.trans Kp.tape
 have tt5 : Tp (upd H4 hd (.lst [.int t3])) hd := ⟨t3, upd_same⟩
 generalize upd H4 hd (.lst [.int t3]) = H5 at k5 tt5 ⊢
 refine ⟨_, rfl, (by show 3 <= sizeLine; decide), fun p hp => ?_⟩
 have np := tp_ne tt5 hp
 refine ⟨_, rfl, hd, 3, rfl, tt5.new hp, by decide, by decide, fun d t4 hd0 hd1 => ?_⟩
 obtain ⟨mm, emm, hmm3, hmm7⟩ := more_at hd0 hd1
 refine ⟨p, _, d, .int mm, rfl, rfl, SqL.of (by rw [upd_ne np]; exact upd_same), emm, ?_⟩
 have k6 : Kp hd H1 (upd (upd H5 p (.lst [.int 3, .int 4, .int 7])) hd (.lst [.int t4])) := (k5.new hp).trans Kp.tape
 have tt6 : Tp (upd (upd H5 p (.lst [.int 3, .int 4, .int 7])) hd (.lst [.int t4])) hd := ⟨t4, upd_same⟩
 generalize upd (upd H5 p (.lst [.int 3, .int 4, .int 7])) hd (.lst [.int t4]) = H6 at k6 tt6 ⊢
 refine ⟨hd, mm, rfl, tt6, by lia, by lia, fun mo t5 hmo0 hmo1 => ?_⟩
 have k7 : Kp hd H1 (upd H6 hd (.lst [.int t5])) := k6.trans Kp.tape
 have tt7 : Tp (upd H6 hd (.lst [.int t5])) hd := ⟨t5, upd_same⟩
 generalize upd H6 hd (.lst [.int t5]) = H7 at k7 tt7 ⊢
 refine ⟨_, rfl, _, rfl, hd, few, rfl, tt7, fun sa ss xs H8 gsa hR hok k8 tt8 => ?_⟩
 refine ⟨_, rfl, hd, 10, rfl, tt8, by decide, by decide, fun nl ws H9 gnl hnl hN hnh k9 tt9 => ?_⟩
 refine ⟨(by show 0 <= sizeLine; decide), fun fl hfl => ?_⟩
 have k19 : Kp hd H1 H9 := k7.trans (k8.trans k9)
 have S9 : Same H H9 := fun b oo h => k19 b oo (S1 b oo h) (ne_of_none h hhd)
 have s10 := same_new hfl (.lst [])
 exact hread hd sa nl fl wh mode gr mo ss ws _ hok hN hw2 hw3 hmode hmo0 (by lia) (S9.free hfl) (ne_of_none gnl hfl) (S9.free hfl) (S9.trans s10) (SrtsAt.mono (tk_of s10) (SrtsAt.mono (k9.tk tt8) ⟨xs, gsa, hR⟩)) (s10 _ _ gnl) upd_same
inductive Bt where
 | mk (nm : Str) (ps : List Bt)
noncomputable def Bt.nm : Bt -> Str
 | .mk x _ => x
noncomputable def Bt.ps : Bt -> List Bt
 | .mk _ l => l
noncomputable def RepT (H : Hp) : Nat -> Bt -> V -> Prop
 | 0, _, _ => False
 | n + 1, t, v => ∃ a b vs, v = .ref a /\ H a = some (.tup [.str t.nm, .ref b]) /\ H b = some (.tup vs) /\ Paired (RepT H n) t.ps vs
theorem RepT.mono {H H' : Hp} (k : TK H H') : ∀ {n : Nat} {t : Bt} {v : V}, RepT H n t v -> RepT H' n t v
 | 0, _, _, h => h
 | n + 1, _, _, ⟨a, b, vs, e, h1, h2, h3⟩ => ⟨a, b, vs, e, k _ _ h1, k _ _ h2, Paired.mapP h3 fun _ _ r => RepT.mono k r⟩
theorem RepT.up {H : Hp} : ∀ {n : Nat} {t : Bt} {v : V}, RepT H n t v -> RepT H (n + 1) t v
 | 0, _, _, h => h.elim
 | n + 1, _, _, ⟨a, b, vs, e, h1, h2, h3⟩ => ⟨a, b, vs, e, h1, h2, Paired.mapP h3 fun _ _ r => RepT.up r⟩
noncomputable def Bt.at? : Bt -> List Nat -> Option Bt
 | t, [] => some t
 | t, k :: r => (t.ps[k]?).bind fun u => u.at? r
theorem Bt.at?_snoc : ∀ (pl : List Nat) (t : Bt) (k : Nat), t.at? (pl ++ [k]) = (t.at? pl).bind fun u => u.ps[k]?
 | [], t, k => by
  show (t.ps[k]?).bind (fun u => u.at? []) = t.ps[k]?
  cases t.ps[k]? <;> rfl
 | j :: r, t, k => by
  show (t.ps[j]?).bind (fun u => u.at? (r ++ [k])) = ((t.ps[j]?).bind fun u => u.at? r).bind fun u => u.ps[k]?
  cases t.ps[j]? with
  | none => rfl
  | some u => exact Bt.at?_snoc r u k
theorem paired_get' {α β : Type} {F : α -> β -> Prop} : ∀ {l : List α} {r : List β} {i : Nat} {a : α}, Paired F l r -> l[i]? = some a -> ∃ b, r[i]? = some b /\ F a b
 | _, _, i, a, .nil, e => by cases i <;> cases e
 | _, _, 0, a, .cons h _, e => ⟨_, rfl, by cases e; exact h⟩
 | _, _, i + 1, a, .cons _ t, e => paired_get' (i := i) t e
noncomputable def plV (pl : List Nat) : List V := pl.map fun (k : Nat) => V.int (k : Int)
mutual
noncomputable def Bt.places : Bt -> List (List Nat)
 | .mk _ ps => [] :: placesL 0 ps
noncomputable def placesL : Nat -> List Bt -> List (List Nat)
 | _, [] => []
 | k, t :: r => t.places.map (fun p => k :: p) ++ placesL (k + 1) r
end
theorem places_eq (t : Bt) : t.places = [] :: placesL 0 t.ps := by
 cases t with
 | mk x l => rw [Bt.places]; rfl
theorem placesL_nil (k : Nat) : placesL k [] = [] := by rw [placesL]
theorem placesL_cons (k : Nat) (t : Bt) (r : List Bt) : placesL k (t :: r) = t.places.map (fun p => k :: p) ++ placesL (k + 1) r := by rw [placesL]
noncomputable def Bt.sz (t : Bt) : Nat := t.places.length
noncomputable def szL : List Bt -> Nat
 | [] => 0
 | t :: r => t.sz + szL r
theorem placesL_len : ∀ (l : List Bt) (k : Nat), (placesL k l).length = szL l
 | [], k => by rw [placesL_nil]; rfl
 | t :: r, k => by
  rw [placesL_cons, List.length_append, List.length_map, placesL_len r (k + 1)]
  rfl
theorem sz_eq (t : Bt) : t.sz = szL t.ps + 1 := by
 show t.places.length = _
 rw [places_eq, List.length_cons, placesL_len]
theorem szL_append : ∀ (a b : List Bt), szL (a ++ b) = szL a + szL b
 | [], b => by show szL b = 0 + szL b; lia
 | t :: r, b => by
  show t.sz + szL (r ++ b) = (t.sz + szL r) + szL b
  rw [szL_append r b]; lia
theorem sz_pos (t : Bt) : 1 <= t.sz := by rw [sz_eq]; lia
theorem szL_mem : ∀ {l : List Bt} {t : Bt}, t ∈ l -> t.sz <= szL l
 | u :: r, t, h => by
  show t.sz <= u.sz + szL r
  rcases List.mem_cons.mp h with rfl | h
  ·lia
  ·have := szL_mem h; lia
theorem placesL_mem : ∀ {l : List Bt} {k : Nat} {p : List Nat}, p ∈ placesL k l -> ∃ j u p', l[j]? = some u /\ p = (k + j) :: p' /\ p' ∈ u.places
 | [], k, p, h => by rw [placesL_nil] at h; cases h
 | t :: r, k, p, h => by
  rw [placesL_cons, List.mem_append] at h
  rcases h with h | h
  ·obtain ⟨p', hp, rfl⟩ := List.mem_map.mp h
   exact ⟨0, t, p', rfl, rfl, hp⟩
  ·obtain ⟨j, u, p', h1, rfl, h2⟩ := placesL_mem h
   exact ⟨j + 1, u, p', h1, by rw [show k + 1 + j = k + (j + 1) by lia], h2⟩
theorem places_short : ∀ (n : Nat) (t : Bt), t.sz <= n -> ∀ p ∈ t.places, p.length < t.sz
 | 0, t, h, _, _ => by have := sz_pos t; lia
 | n + 1, t, h, p, hp => by
  have e := sz_eq t
  rw [places_eq] at hp
  rcases List.mem_cons.mp hp with rfl | hp
  ·show 0 < t.sz; lia
  ·obtain ⟨j, u, p', h1, rfl, h2⟩ := placesL_mem hp
   have h3 := szL_mem (List.mem_of_getElem? h1)
   have := places_short n u (by lia) p' h2
   rw [List.length_cons]
   lia
theorem szL_len : ∀ (l : List Bt), l.length <= szL l
 | [] => Nat.le_refl _
 | t :: r => by
  show r.length + 1 <= t.sz + szL r
  have := szL_len r
  have := sz_pos t
  lia
theorem comp_mk {J : It} {xs : List V} {fr : List Nat} {te : TE} {Z : St} {H1 : Hp} {Q : VK} {α : Type} (hn : xs.length <= 1000)
  (hgo : ∀ i H, Same H1 H -> i < xs.length -> J.go i H) (hst : ∀ H, Same H1 H -> J.stop xs.length H) (hy : ∀ i H v H', Same H1 H -> J.yld i H v H' -> H' = H /\ xs[i]? = some v)
  (R : Hp -> α -> V -> Prop) (mono : ∀ {H H' : Hp} {a : α} {v : V}, TK H H' -> R H a v -> R H' a v) (g : V -> α)
  (hte : ∀ v H (k : VK), v ∈ xs -> Same H1 H -> (∀ u H', Same H H' -> R H' (g v) u -> k u H') -> te (some v :: caps fr Z) H k)
  (hd : ∀ p zs H', H1 p = none -> Same H1 H' -> H' p = some (.lst zs) -> Paired (R H') (xs.map g) zs -> Q (.ref p) H') : tCompW fr te Z J H1 Q := by
 intro p hp
 refine ⟨fun i m zs H => i <= xs.length /\ m = xs.length - i /\ Same H1 H /\ H p = some (.lst zs) /\ zs.length = i /\ Paired (R H) ((xs.take i).map g) zs, ⟨_, Nat.zero_le _, rfl, same_new hp _, upd_same, rfl, .nil⟩, ?_⟩
 rintro i m zs H ⟨hi, hm, sm, gp, hz, hT⟩
 refine ⟨gp, ?_⟩
 by_cases e : i = xs.length
 ·subst e
  rw [List.take_length] at hT
  exact .inl ⟨hst H sm, hd p zs H hp sm gp hT⟩
 ·have hlt : i < xs.length := by lia
  refine .inr ⟨hgo i H sm hlt, small1000 (by lia), fun v H' hv => ?_⟩
  obtain ⟨rfl, hv2⟩ := hy i H v H' sm hv
  refine hte v _ _ (List.mem_of_getElem? hv2) sm fun u H2 s2 r => ?_
  have gp2 := s2 _ _ gp
  have tk : TK H2 (upd H2 p (.lst (zs ++ [u]))) := TK.lst gp2
  refine ⟨gp2, xs.length - (i + 1), by lia, by lia, rfl, ?_, upd_same, by rw [List.length_append, hz]; rfl, ?_⟩
  ·intro b o hb
   rw [upd_ne (ne_of_none hb hp)]
   exact s2 _ _ (sm _ _ hb)
  ·rw [List.take_add_one, hv2, List.map_append]
   exact Paired.snoc (Paired.mapP hT fun _ _ r => mono ((tk_of s2).trans tk) r) (mono tk r)
theorem itt_go {K : PySem.W.Frag} {a : Addr} {xs : List V} {H1 : Hp} (ha : H1 a = some (.tup xs)) : ∀ i H, Same H1 H -> i < xs.length -> (Itt K a).go i H := fun i H s h => ⟨xs, xs[i], SqT.of (s _ _ ha), List.getElem?_eq_getElem h⟩
theorem itt_st {K : PySem.W.Frag} {a : Addr} {xs : List V} {H1 : Hp} (ha : H1 a = some (.tup xs)) : ∀ H, Same H1 H -> (Itt K a).stop xs.length H := fun H s => ⟨xs, SqT.of (s _ _ ha), Nat.le_refl _⟩
theorem itt_y {K : PySem.W.Frag} {a : Addr} {xs : List V} {H1 : Hp} (ha : H1 a = some (.tup xs)) : ∀ i H v H', Same H1 H -> (Itt K a).yld i H v H' -> H' = H /\ xs[i]? = some v := fun i H v H' s hv => ⟨hv.1, by obtain ⟨rfl, hv⟩ := hv; exact hv xs (SqT.of (s _ _ ha))⟩
theorem comp_pure {J : It} {xs : List V} {fr : List Nat} {te : TE} {Z : St} {H1 : Hp} {Q : VK} (hn : xs.length <= 1000)
  (hgo : ∀ i H, Same H1 H -> i < xs.length -> J.go i H) (hst : ∀ H, Same H1 H -> J.stop xs.length H) (hy : ∀ i H v H', Same H1 H -> J.yld i H v H' -> H' = H /\ xs[i]? = some v)
  (h : V -> V) (hte : ∀ v H (k : VK), v ∈ xs -> Same H1 H -> k (h v) H -> te (some v :: caps fr Z) H k)
  (hd : ∀ p H', H1 p = none -> Same H1 H' -> H' p = some (.lst (xs.map h)) -> Q (.ref p) H') : tCompW fr te Z J H1 Q := by
 refine comp_mk hn hgo hst hy (fun _ (a : V) v => v = a) (fun _ h => h) h (fun v H k hv s hk => hte v H k hv s (hk _ _ (fun _ _ h => h) rfl)) fun p zs H' hp s gp hP => ?_
 have : zs = xs.map h := by
  have go : ∀ {l r : List V}, Paired (fun (a v : V) => v = a) l r -> r = l := by
   intro l r hh
   induction hh with
   | nil => rfl
   | cons a _ ih => rw [a, ih]
  exact go hP
 rw [this] at gp
 exact hd p H' hp s gp
noncomputable def Lst (kvs : List (Key × V)) (s : Srt) (n : Nat) : Prop := valV kvs (.inr s.name) = some (.int (n : Int))
noncomputable def gB : Nat -> Nat
 | 0 => 0
 | n + 1 => 1 + 3 * gB n
theorem gB_mono : ∀ {a b : Nat}, a <= b -> gB a <= gB b
 | 0, b, _ => Nat.zero_le _
 | a + 1, 0, h => by lia
 | a + 1, b + 1, h => by
  have := gB_mono (a := a) (b := b) (by lia)
  show 1 + 3 * gB a <= 1 + 3 * gB b
  lia
noncomputable def sumN : List Nat -> Nat
 | [] => 0
 | n :: r => n + sumN r
noncomputable def hasB (kvs : List (Key × V)) (s : Srt) : Bool := (valV kvs (.inr s.name)).isSome
noncomputable def cnt (bk : Bk) (kvs : List (Key × V)) : Nat := bk.sorts.countP (hasB kvs)
theorem cnt_le (bk : Bk) (kvs : List (Key × V)) : cnt bk kvs <= bk.sorts.length := List.countP_le_length
theorem countP_lt {α : Type} {p q : α -> Bool} : ∀ {l : List α} {x : α}, (∀ y, p y = true -> q y = true) -> x ∈ l -> p x = false -> q x = true -> l.countP p + 1 <= l.countP q
 | y :: r, x, hpq, hx, h1, h2 => by
  rw [List.countP_cons, List.countP_cons]
  rcases List.mem_cons.mp hx with rfl | hx
  ·rw [h1, h2]
   have : r.countP p <= r.countP q := List.countP_mono_left fun z _ => hpq z
   simp only [Bool.false_eq_true, if_false, if_true]
   lia
  ·have ih := countP_lt hpq hx h1 h2
   by_cases c : p y = true
   ·rw [if_pos c, if_pos (hpq y c)]; lia
   ·rw [if_neg c]; lia
structure LI (bk : Bk) (kvs : List (Key × V)) : Prop where
 vl : ∀ k v, valV kvs k = some v -> ∃ s, s ∈ bk.sorts /\ k = .inr (Srt.name s) /\ ∃ n : Nat, v = .int (n : Int) /\ 1 <= n /\ n <= gB (cnt bk kvs)
 cl : ∀ s n, s ∈ bk.sorts -> Lst kvs s n -> ∃ fr, fr ∈ bk.forms /\ Frm.own fr = s /\ ∃ ms, Paired (Lst kvs) fr.parts ms /\ 1 + sumN ms <= n
theorem LI.nil (bk : Bk) : LI bk [] := ⟨fun k v h => (by cases h), fun s n _ h => (by cases h)⟩
theorem srt_inj {ss : List Srt} (nd : (ss.map Srt.name).Nodup) {a b : Srt} (ha : a ∈ ss) (hb : b ∈ ss) (e : a.name = b.name) : a = b := by
 obtain ⟨i, hi⟩ := List.getElem?_of_mem ha
 obtain ⟨j, hj⟩ := List.getElem?_of_mem hb
 have q1 : (ss.map Srt.name)[i]? = some a.name := by rw [List.getElem?_map, hi]; rfl
 have q2 : (ss.map Srt.name)[j]? = some a.name := by rw [List.getElem?_map, hj, e]; rfl
 have := nodup_ix nd q1 q2
 subst this
 rw [hi] at hj
 exact Option.some.inj hj
theorem lst_fun {kvs : List (Key × V)} {s : Srt} {n m : Nat} (a : Lst kvs s n) (b : Lst kvs s m) : n = m := by
 unfold Lst at a b
 rw [a] at b
 have := V.int.inj (Option.some.inj b)
 lia
theorem LI.val {bk : Bk} {kvs : List (Key × V)} (h : LI bk kvs) {s : Srt} {v : V} (e : valV kvs (.inr s.name) = some v) : ∃ n : Nat, v = .int (n : Int) /\ 1 <= n /\ n <= gB (cnt bk kvs) := by
 obtain ⟨_, _, _, n, h⟩ := h.vl _ _ e
 exact ⟨n, h⟩
theorem LI.sum {bk : Bk} {kvs : List (Key × V)} (h : LI bk kvs) : ∀ {ps : List Srt} {ms : List Nat}, Paired (Lst kvs) ps ms -> sumN ms <= ps.length * gB (cnt bk kvs)
 | _, _, .nil => Nat.zero_le _
 | _, _, @Paired.cons _ _ _ a b l m x t => by
  obtain ⟨n, e, _, h2⟩ := h.val x
  have e : (b : Int) = n := V.int.inj e
  have ih := LI.sum h t
  show b + sumN m <= (l.length + 1) * gB (cnt bk kvs)
  rw [Nat.succ_mul]
  lia
theorem paired_fall {kvs kvs' : List (Key × V)} (h : ∀ s n, Lst kvs s n -> ∃ n', Lst kvs' s n' /\ n' <= n) : ∀ {ps : List Srt} {ms : List Nat}, Paired (Lst kvs) ps ms -> ∃ ms', Paired (Lst kvs') ps ms' /\ sumN ms' <= sumN ms
 | _, _, .nil => ⟨[], .nil, Nat.le_refl _⟩
 | _, _, @Paired.cons _ _ _ a b l m x t => by
  obtain ⟨n', h1, h2⟩ := h _ _ x
  obtain ⟨ms', h3, h4⟩ := paired_fall h t
  exact ⟨n' :: ms', .cons h1 h3, by show n' + sumN ms' <= b + sumN m; lia⟩
theorem LI.put {bk : Bk} {kvs : List (Key × V)} (h : LI bk kvs) (nd : (bk.sorts.map Srt.name).Nodup) {fr : Frm} (hf : fr ∈ bk.forms) (ho : fr.own ∈ bk.sorts) (hp : fr.parts.length <= 3) {ms : List Nat} (hm : Paired (Lst kvs) fr.parts ms)
  {n : Nat} (hn : (valV kvs (.inr fr.own.name) = none /\ n = 1 + sumN ms) \/ ∃ m : Nat, Lst kvs fr.own m /\ n = min (1 + sumN ms) m) : LI bk (putK kvs (.inr fr.own.name) (.int (n : Int))) := by
 have hsum := h.sum hm
 have hle : fr.parts.length * gB (cnt bk kvs) <= 3 * gB (cnt bk kvs) := Nat.mul_le_mul_right _ hp
 have hput : ∀ j, valV (putK kvs (.inr fr.own.name) (.int (n : Int))) j = if j = .inr fr.own.name then some (.int (n : Int)) else valV kvs j := fun j => valV_put _ _ _ _
 have hmon : ∀ y, hasB kvs y = true -> hasB (putK kvs (.inr fr.own.name) (.int (n : Int))) y = true := by
  intro y hy
  unfold hasB at hy ⊢
  rw [hput]
  by_cases c : (Sum.inr y.name : Key) = .inr fr.own.name
  ·rw [if_pos c]; rfl
  ·rw [if_neg c]; exact hy
 have hcnt : cnt bk kvs <= cnt bk (putK kvs (.inr fr.own.name) (.int (n : Int))) := List.countP_mono_left fun z _ => hmon z
 have hg := gB_mono hcnt
 have hfall : ∀ s m, Lst kvs s m -> ∃ n', Lst (putK kvs (.inr fr.own.name) (.int (n : Int))) s n' /\ n' <= m := by
  intro s m hs
  by_cases c : s.name = fr.own.name
  ·refine ⟨n, by unfold Lst; rw [hput, if_pos (by rw [c])], ?_⟩
   rcases hn with ⟨e, _⟩ | ⟨m', e, rfl⟩
   ·unfold Lst at hs; rw [c, e] at hs; cases hs
   ·have : Lst kvs fr.own m := by unfold Lst at hs ⊢; rw [<- c]; exact hs
    have := lst_fun e this
    lia
  ·exact ⟨m, by unfold Lst; rw [hput, if_neg (fun z => c (Sum.inr.inj z))]; exact hs, Nat.le_refl _⟩
 refine ⟨fun k v hv => ?_, fun s m hs hl => ?_⟩
 ·rw [hput] at hv
  by_cases c : k = .inr fr.own.name
  ·rw [if_pos c] at hv
   refine ⟨fr.own, ho, c, n, (Option.some.inj hv).symm, ?_, ?_⟩
   ·rcases hn with ⟨_, rfl⟩ | ⟨m, e, rfl⟩
    ·lia
    ·obtain ⟨m', e', h1, _⟩ := h.val e
     have e' : (m : Int) = m' := V.int.inj e'
     lia
   ·rcases hn with ⟨e, rfl⟩ | ⟨m, e, rfl⟩
    ·have := countP_lt (p := hasB kvs) (q := hasB (putK kvs (.inr fr.own.name) (.int ((1 + sumN ms : Nat) : Int)))) hmon ho (by unfold hasB; rw [e]; rfl) (by unfold hasB; rw [hput, if_pos rfl]; rfl)
     have := gB_mono this
     have e3 : gB (bk.sorts.countP (hasB kvs) + 1) = 1 + 3 * gB (cnt bk kvs) := rfl
     show 1 + sumN ms <= gB (bk.sorts.countP _)
     lia
    ·obtain ⟨m', e', _, h2⟩ := h.val e
     have e' : (m : Int) = m' := V.int.inj e'
     lia
  ·rw [if_neg c] at hv
   obtain ⟨s, h1, h2, m, h3, h4, h5⟩ := h.vl k v hv
   exact ⟨s, h1, h2, m, h3, h4, by lia⟩
 ·by_cases c : s.name = fr.own.name
  ·have es := srt_inj nd hs ho c
   subst es
   have hl' : n = m := by
    unfold Lst at hl
    rw [hput, if_pos rfl] at hl
    have := V.int.inj (Option.some.inj hl)
    lia
   subst hl'
   obtain ⟨ms', h1, h2⟩ := paired_fall hfall hm
   rcases hn with ⟨_, e⟩ | ⟨m', e, e2⟩
   ·exact ⟨fr, hf, rfl, ms', h1, by lia⟩
   ·by_cases c2 : 1 + sumN ms <= m'
    ·exact ⟨fr, hf, rfl, ms', h1, by lia⟩
    ·obtain ⟨fr2, g1, g2, ms2, g3, g4⟩ := h.cl _ _ ho e
     obtain ⟨ms3, g5, g6⟩ := paired_fall hfall g3
     exact ⟨fr2, g1, g2, ms3, g5, by lia⟩
  ·have hl' : Lst kvs s m := by
    unfold Lst at hl ⊢
    rw [hput, if_neg (fun z => c (Sum.inr.inj z))] at hl
    exact hl
   obtain ⟨fr2, g1, g2, ms2, g3, g4⟩ := h.cl _ _ hs hl'
   obtain ⟨ms3, g5, g6⟩ := paired_fall hfall g3
   exact ⟨fr2, g1, g2, ms3, g5, by lia⟩
noncomputable def topIn (bk : Bk) (kvs : List (Key × V)) : Prop := ∃ fr, fr ∈ bk.forms /\ ∃ n, Lst kvs (Frm.own fr) n
noncomputable def hIn (kvs : List (Key × V)) : V -> V
 | .str x => .bl (valV kvs (.inr x)).isSome
 | _ => .non
noncomputable def hGet (kvs : List (Key × V)) : V -> V
 | .str x => (valV kvs (.inr x)).getD .non
 | _ => .non
theorem hIn_parts (kvs : List (Key × V)) (ps : List Srt) : (partsV ps).map (hIn kvs) = (ps.map (hasB kvs)).map V.bl := by
 unfold partsV
 rw [List.map_map, List.map_map]
 rfl
theorem parts_in {bk : Bk} {kvs : List (Key × V)} (h : LI bk kvs) : ∀ (ps : List Srt), (ps.map (hasB kvs)).all id = true -> ∃ ms, Paired (Lst kvs) ps ms
 | [], _ => ⟨[], .nil⟩
 | p :: r, e => by
  rw [List.map_cons, List.all_cons, Bool.and_eq_true] at e
  obtain ⟨ms, hm⟩ := parts_in h r e.2
  obtain ⟨v, hv⟩ := Option.isSome_iff_exists.mp (show (valV kvs (.inr p.name)).isSome = true from e.1)
  obtain ⟨n, rfl, _⟩ := h.val hv
  exact ⟨n :: ms, .cons hv hm⟩
theorem hGet_parts {kvs : List (Key × V)} : ∀ {ps : List Srt} {ms : List Nat}, Paired (Lst kvs) ps ms -> (partsV ps).map (hGet kvs) = (ms.map fun m => ((m : Nat) : Int)).map V.int
 | _, _, .nil => rfl
 | _, _, @Paired.cons _ _ _ a b l m x t => by
  have ih := hGet_parts t
  show (valV kvs (.inr a.name)).getD .non :: (partsV l).map (hGet kvs) = V.int (b : Int) :: _
  rw [ih, show valV kvs (.inr a.name) = some (.int (b : Int)) from x]
  rfl
theorem sumI_nat : ∀ ms : List Nat, sumI (ms.map fun m => ((m : Nat) : Int)) = (sumN ms : Int)
 | [] => rfl
 | m :: r => by
  show (m : Int) + sumI (r.map fun m => ((m : Nat) : Int)) = ((m + sumN r : Nat) : Int)
  rw [sumI_nat r]
  lia
theorem partsV_len (ps : List Srt) : (partsV ps).length = ps.length := List.length_map _
theorem mem_partsV {ps : List Srt} {v : V} (h : v ∈ partsV ps) : ∃ s, s ∈ ps /\ v = .str (Srt.name s) := by
 obtain ⟨s, hs, e⟩ := List.mem_map.mp h
 exact ⟨s, hs, e.symm⟩
theorem LI.small {bk : Bk} {kvs : List (Key × V)} (h : LI bk kvs) (hk : BookOk bk) {s : Srt} {n : Nat} (hn : Lst kvs s n) : 1 <= n /\ n <= 40 := by
 obtain ⟨m, e, h1, h2⟩ := h.val hn
 have e : (n : Int) = m := V.int.inj e
 have h3 := cnt_le bk kvs
 have h4 := hk.so.2.1
 have h5 := gB_mono (show cnt bk kvs <= 4 by lia)
 have h6 : gB 4 = 40 := rfl
 lia
theorem paired_small {bk : Bk} {kvs : List (Key × V)} (h : LI bk kvs) (hk : BookOk bk) : ∀ {ps : List Srt} {ms : List Nat}, Paired (Lst kvs) ps ms -> ∀ m ∈ ms, 1 <= m /\ m <= 40
 | _, _, .nil, m, hm => by cases hm
 | _, _, @Paired.cons _ _ _ a b l r x t, m, hm => by
  rcases List.mem_cons.mp hm with rfl | hm
  ·exact h.small hk x
  ·exact paired_small h hk t m hm
noncomputable def natV : Option V -> Nat
 | some (.int i) => i.toNat
 | _ => 0
noncomputable def szF (kvs : List (Key × V)) (fr : Frm) : Nat := 1 + sumN (fr.parts.map fun p => natV (valV kvs (.inr p.name)))
noncomputable def lmin (kvs : List (Key × V)) (fr : Frm) : Nat := match valV kvs (.inr fr.own.name) with
 | none => szF kvs fr
 | some v => min (szF kvs fr) (natV (some v))
noncomputable def lstep (kvs : List (Key × V)) (fr : Frm) : List (Key × V) := if (fr.parts.map (hasB kvs)).all id = true then putK kvs (.inr fr.own.name) (.int ((lmin kvs fr : Nat) : Int)) else kvs
noncomputable def lturns (bk : Bk) : Nat -> List (Key × V)
 | 0 => []
 | i + 1 => bk.forms.foldl lstep (lturns bk i)
noncomputable def leastKv (bk : Bk) : List (Key × V) := lturns bk bk.sorts.length
theorem natV_parts {kvs : List (Key × V)} : ∀ {ps : List Srt} {ms : List Nat}, Paired (Lst kvs) ps ms -> ps.map (fun p => natV (valV kvs (.inr p.name))) = ms
 | _, _, .nil => rfl
 | _, _, @Paired.cons _ _ _ a b l m x t => by
  rw [List.map_cons, natV_parts t, show valV kvs (.inr a.name) = some (.int (b : Int)) from x]
  show (b : Int).toNat :: m = b :: m
  rw [Int.toNat_natCast]
theorem lmin_hn {bk : Bk} {kvs : List (Key × V)} (h : LI bk kvs) {fr : Frm} {ms : List Nat} (hm : Paired (Lst kvs) fr.parts ms) :
  (valV kvs (.inr fr.own.name) = none /\ lmin kvs fr = 1 + sumN ms) \/ ∃ m : Nat, Lst kvs fr.own m /\ lmin kvs fr = min (1 + sumN ms) m := by
 have e : szF kvs fr = 1 + sumN ms := by unfold szF; rw [natV_parts hm]
 cases hv : valV kvs (.inr fr.own.name) with
 | none => exact .inl ⟨rfl, by unfold lmin; rw [hv]; exact e⟩
 | some v =>
  obtain ⟨m, rfl, _⟩ := h.val hv
  refine .inr ⟨m, hv, ?_⟩
  unfold lmin
  rw [hv]
  show min (szF kvs fr) (m : Int).toNat = _
  rw [e, Int.toNat_natCast]
inductive spLeast  (vs : List V) (H : Hp) (Q : VK) (E_ : XK) : Prop
 | mk : ∀ bv bk, (vs = [bv]) -> (RepB H bk bv) -> (BookOk bk) -> (∀ d H', H d = none -> Same H H' -> H' d = some (.dK (leastKv bk)) -> LI bk (leastKv bk) -> topIn bk (leastKv bk) -> Q (.ref d) H') -> spLeast vs H Q E_
noncomputable abbrev NLeast : List Str := ["book", "found", "turn", "name", "sort", "parts", "rules", "size"]
theorem scLeast : FnScope NLeast ["book"] (defScope sLeast) := fsc
theorem ok_least (F : Fun K "_law_least" "_law_least" sLeast f fd) (G : Gb mg) (hsum : mg "sum" = none) : FnOk P w K mg base CX0 1 f fd ["book"] spLeast := by
 refine F.ok scLeast (fun vs H Q E h => ?_) (fun cdv A outer s H vs Q E hr h => ?_)
 ·obtain ⟨bv, bk, rfl, _⟩ := h
  rfl
 obtain ⟨bv, bk, rfl, ⟨a, sa, fa, fv, rfl, ha, ⟨sx, hsa, hS⟩, hfa, hF⟩, hok, q⟩ := h
 have hu := hu_of hr
 refine ⟨_, pss_cons (ps_set (i := 1) scLeast.nd rfl (Or.inr rfl) pe_dnewK)
  (pss_cons (ps_for PassesOwn.never rfl (pi_range1 rfl G.range (pa_cons (pe_callB (r := rLen K) call_len_seq rfl G.len PySem.boot_len (pa_cons (pe_ix (r := rIxT K) ix_tup (pv 0) pe_int (fun _ _ => rfl)) pa_nil)) pa_nil)) (pg_name (i := 2) scLeast.nd rfl (Or.inl rfl))
   (pss_one (ps_for PassesOwn.never rfl (pi_tup (pe_ix (r := rIxT K) ix_tup (pv 0) pe_int (fun _ _ => rfl)))
    (pg_tup rfl (pgs_cons (pg_name (i := 3) scLeast.nd rfl (Or.inl rfl)) (pgs_cons (pg_name (i := 4) scLeast.nd rfl (Or.inl rfl)) (pgs_cons (pg_name (i := 5) scLeast.nd rfl (Or.inl rfl)) (pgs_cons (pg_name (i := 6) scLeast.nd rfl (Or.inl rfl)) pgs_nil)))))
    (pss_one (ps_if (pt_val (pe_callB (call_all rfl) rfl G.all (by decide +kernel) (pa_cons (pe_comp (sc0 := defScope sLeast) (N0 := NLeast) (ys := ["found"]) (fr := [1]) rfl (pi_tup (pv 5)) rfl rfl
       cok (fun C s H ex => pe_cmp (pc_din hu (pv 0) (pv 1)))) pa_nil)))
     (pss_cons (ps_set (i := 7) scLeast.nd rfl (Or.inl rfl) (pe_op op_add pe_int (pe_callB (call_sum rfl) rfl hsum (by decide +kernel) (pa_cons (pe_comp (sc0 := defScope sLeast) (N0 := NLeast) (ys := ["found"]) (fr := [1]) rfl (pi_tup (pv 5)) rfl rfl
       cok (fun C s H ex => pe_dget hu (pv 1) (pv 0) (fun _ _ => rfl))) pa_nil))))
     (pss_one (ps_dput hu (pv 1) (pv 4) (pe_callB (call_min2 rfl) rfl G.min (by decide +kernel) (pa_cons (pv 7) (pa_cons (pe_dget2 hu (pv 1) (pv 4) (pv 7) ⟨rfl, rfl, rfl, rfl⟩) pa_nil))) rfl)))
     pss_nil)))))
  (pss_one (ps_ret (pv 1)))), ?_⟩
 have lS := hS.len
 have lF := hF.len
 refine fun td htd => ?_
 have s0 := same_new htd (.dK [])
 have g0 : (upd H td (.dK [])) td = some (.dK []) := upd_same
 generalize upd H td (.dK []) = H0 at s0 g0 ⊢
 have h4 := hok.so.2.1
 have h10 := hok.few
 obtain ⟨fr0, hfr0, hnil0⟩ := hok.nil
 obtain ⟨i0, hi0⟩ := List.getElem?_of_mem hfr0
 refine ⟨_, rfl, a, _, 1, .ref sa, rfl, rfl, SqT.of (s0 _ _ ha), atI_nat (j := 1) rfl, sa, sx, rfl, .inr (SqT.of (s0 _ _ hsa)), _, rfl, by lia, by lia, ?_⟩
 refine for_range (fun i Z H' => ∃ o2 o3 o4 o5 o6 o7 kvs, Z = [some (.ref a), some (.ref td), o2, o3, o4, o5, o6, o7] /\ Same H H' /\ H' td = some (.dK kvs) /\ LI bk kvs /\ kvs.length <= 10 * i /\ (1 <= i -> topIn bk kvs) /\ kvs = lturns bk i)
  ⟨none, none, none, none, none, none, [], rfl, s0, g0, LI.nil bk, Nat.le_refl _, fun z => absurd z (by lia), rfl⟩ ?_ ?_
 ·rintro i Z H1 hi ⟨o2, o3, o4, o5, o6, o7, kvs, rfl, S1, gd1, hI1, hl1, ht1, hk1⟩
  refine ⟨_, rfl, a, _, 2, .ref fa, rfl, rfl, SqT.of (S1 _ _ ha), atI_nat (j := 2) rfl, fa, rfl, ⟨fv, SqT.of (S1 _ _ hfa)⟩, ?_⟩
  refine for_tup (xs := fv) (fun j Z H' => j <= fv.length /\ ∃ o3 o4 o5 o6 o7 kvs, Z = [some (.ref a), some (.ref td), some (.int (0 + (i : Int))), o3, o4, o5, o6, o7] /\ Same H H' /\ H' td = some (.dK kvs) /\ LI bk kvs /\ kvs.length <= 10 * i + j /\ (1 <= i \/ i0 < j -> topIn bk kvs) /\ kvs = (bk.forms.take j).foldl lstep (lturns bk i))
   ⟨Nat.zero_le _, o3, o4, o5, o6, o7, kvs, rfl, S1, gd1, hI1, hl1, fun z => ht1 (by lia), hk1⟩ (fun j Z H' _ h => by obtain ⟨_, _, _, _, _, _, _, _, sm, _⟩ := h; exact SqT.of (sm _ _ hfa)) ?_ ?_
  ·rintro j x Z H2 hx ⟨hj, o3, o4, o5, o6, o7, kvs, rfl, S2, gd2, hI2, hl2, ht2, hk2⟩
   have hjl : j < fv.length := (List.getElem?_eq_some_iff.mp hx).1
   obtain ⟨fr, hfr, b, pa, ra, rv, rfl, hb, hpa, hra, hR⟩ := paired_get hF hx
   have hfm := List.mem_of_getElem? hfr
   have hk1000 : kvs.length <= 1000 := by lia
   obtain ⟨mode, _, hfo⟩ := hok.fo
   obtain ⟨hown, hparts, hp3, _⟩ := hfo fr hfm
   have ek : (bk.forms.take (j + 1)).foldl lstep (lturns bk i) = lstep kvs fr := by
    rw [List.take_add_one, hfr, List.foldl_append, <- hk2]
    rfl
   refine ⟨b, _, rfl, SqT.of (S2 _ _ hb), rfl, _, _, rfl, _, _, rfl, _, _, rfl, _, _, rfl, rfl, ?_⟩
   refine ⟨_, rfl, pa, rfl, ⟨_, SqT.of (S2 _ _ hpa)⟩, ?_⟩
   refine comp_pure (by rw [partsV_len]; lia) (itt_go (S2 _ _ hpa)) (itt_st (S2 _ _ hpa)) (itt_y (S2 _ _ hpa)) (hIn kvs) ?_ ?_
   ·intro v H' k hv s' hk
    obtain ⟨sr, _, rfl⟩ := mem_partsV hv
    exact ⟨_, rfl, _, rfl, td, _, rfl, DGet.k (k := .inr sr.name) (s' _ _ gd2), hk⟩
   intro p3 H3 hp3' s3 gp3
   rw [hIn_parts] at gp3
   have S3 : Same H H3 := S2.trans s3
   have gd3 := s3 _ _ gd2
   refine ⟨p3, _, rfl, SqL.of gp3, _, rfl, ?_⟩
   refine ite2 (fun c => ?_) (fun c => ?_)
   ·obtain ⟨ms, hms⟩ := parts_in hI2 _ c
    have hsm := paired_small hI2 hok hms
    have lms : fr.parts.length = ms.length := Paired.length hms
    refine ⟨_, rfl, pa, rfl, ⟨_, SqT.of (S3 _ _ hpa)⟩, ?_⟩
    refine comp_pure (by rw [partsV_len]; lia) (itt_go (S3 _ _ hpa)) (itt_st (S3 _ _ hpa)) (itt_y (S3 _ _ hpa)) (hGet kvs) ?_ ?_
    ·intro v H' k hv s' hk
     obtain ⟨sr, hsr, rfl⟩ := mem_partsV hv
     obtain ⟨i', hi'⟩ := List.getElem?_of_mem hsr
     obtain ⟨m, _, hm⟩ := paired_get' hms hi'
     refine ⟨_, rfl, _, rfl, td, .int (m : Int), rfl, (by rw [<- show valV kvs (.inr sr.name) = some (.int (m : Int)) from hm]; exact DGet.k (k := .inr sr.name) (s' _ _ gd3)), ?_⟩
     have : hGet kvs (.str sr.name) = .int (m : Int) := by
      show (valV kvs (.inr sr.name)).getD .non = _
      rw [show valV kvs (.inr sr.name) = some (.int (m : Int)) from hm]
      rfl
     rw [this] at hk
     exact hk
    intro p4 H4 hp4 s4 gp4
    rw [hGet_parts hms] at gp4
    have S4 : Same H H4 := S3.trans s4
    have gd4 := s4 _ _ gd3
    refine ⟨p4, _, rfl, SqL.of gp4, by rw [List.length_map]; lia, ?_, ?_⟩
    ·intro n hn
     obtain ⟨m, hm, rfl⟩ := List.mem_map.mp hn
     have := hsm m hm
     lia
    rw [sumI_nat]
    refine ⟨_, _, rfl, rfl, ?_⟩
    rw [show (V.int (1 + (sumN ms : Int))) = V.int ((1 + sumN ms : Nat) : Int) from congrArg V.int (show (1 : Int) + (sumN ms : Int) = ((1 + sumN ms : Nat) : Int) by lia)]
    refine ⟨_, rfl, _, rfl, td, rfl, .inl ⟨kvs, .inl gd4⟩, _, rfl, _, rfl, _, DGet.k (k := .inr fr.own.name) gd4, ?_⟩
    have fin : ∀ n : Nat, n = lmin kvs fr ->
      j + 1 <= fv.length /\ ∃ o3 o4 o5 o6 o7 kvs', [some (V.ref a), some (.ref td), some (.int (0 + (i : Int))), some (.str fr.name), some (.str fr.own.name), some (.ref pa), some (.ref ra), some (.int ((1 + sumN ms : Nat) : Int))] = [some (V.ref a), some (.ref td), some (.int (0 + (i : Int))), o3, o4, o5, o6, o7] /\
       Same H (upd H4 td (.dK (putK kvs (.inr fr.own.name) (.int (n : Int))))) /\ (upd H4 td (.dK (putK kvs (.inr fr.own.name) (.int (n : Int))))) td = some (.dK kvs') /\ LI bk kvs' /\ kvs'.length <= 10 * i + (j + 1) /\ (1 <= i \/ i0 < j + 1 -> topIn bk kvs') /\ kvs' = (bk.forms.take (j + 1)).foldl lstep (lturns bk i) := by
     intro n hn
     subst hn
     refine ⟨hjl, _, _, _, _, _, _, rfl, ?_, upd_same, hI2.put hok.so.2.2.1 hfm hown hp3 hms (lmin_hn hI2 hms), ?_, fun _ => ?_, by rw [ek]; exact (if_pos c).symm⟩
     ·intro y oo h
      rw [upd_ne (ne_of_none h htd)]
      exact S4 _ _ h
     ·have := length_putK kvs (.inr fr.own.name) (.int ((lmin kvs fr : Nat) : Int))
      lia
     ·exact ⟨fr, hfm, _, by unfold Lst; rw [valV_put, if_pos rfl]⟩
    have hmn := lmin_hn hI2 hms
    cases hold : valV kvs (.inr fr.own.name) with
    | none =>
     refine ⟨_, _, rfl, ?_⟩
     rw [if_neg (by lia)]
     refine ⟨_, rfl, _, rfl, td, _, rfl, DPut.k (k := .inr fr.own.name) gd4 (small1000 hk1000), ?_⟩
     exact fin (1 + sumN ms) (by rcases hmn with ⟨_, e⟩ | ⟨m', e, _⟩; exact e.symm; unfold Lst at e; rw [hold] at e; cases e)
    | some v =>
     obtain ⟨m, rfl, _⟩ := hI2.val hold
     refine ⟨_, _, rfl, ?_⟩
     have e5 : (if (m : Int) < ((1 + sumN ms : Nat) : Int) then (m : Int) else ((1 + sumN ms : Nat) : Int)) = ((min (1 + sumN ms) m : Nat) : Int) := by
      by_cases c5 : (m : Int) < ((1 + sumN ms : Nat) : Int)
      ·rw [if_pos c5]; lia
      ·rw [if_neg c5]; lia
     rw [e5]
     refine ⟨_, rfl, _, rfl, td, _, rfl, DPut.k (k := .inr fr.own.name) gd4 (small1000 hk1000), ?_⟩
     exact fin _ (by rcases hmn with ⟨e, _⟩ | ⟨m', e, e2⟩; rw [hold] at e; cases e; rw [e2, lst_fun e hold])
   ·refine ⟨hjl, _, _, _, _, _, kvs, rfl, S3, gd3, hI2, by lia, fun z => ?_, by rw [ek]; exact (if_neg c).symm⟩
    by_cases c0 : 1 <= i \/ i0 < j
    ·exact ht2 c0
    ·have j0 : j = i0 := by lia
     subst j0
     rw [hi0] at hfr
     cases hfr
     rw [hnil0] at c
     exact absurd rfl c
  ·rintro Z H2 ⟨_, o3, o4, o5, o6, o7, kvs, rfl, S2, gd2, hI2, hl2, ht2, hk2⟩
   have := hok.more
   have := hok.so.1
   rw [<- lF, List.take_length] at hk2
   have hi0l := (List.getElem?_eq_some_iff.mp hi0).1
   exact ⟨_, _, _, _, _, _, kvs, rfl, S2, gd2, hI2, by lia, fun _ => ht2 (.inr (by lia)), hk2⟩
 ·rintro Z H1 ⟨o2, o3, o4, o5, o6, o7, kvs, rfl, S1, gd1, hI1, hl1, ht1, hk1⟩
  have := hok.so.1
  rw [Int.toNat_natCast, <- lS] at hk1 ht1
  subst hk1
  exact ⟨_, rfl, q td H1 htd S1 gd1 hI1 (ht1 (by lia))⟩
noncomputable def TreeOk (bk : Bk) : Nat -> Bt -> Srt -> Prop
 | 0, _, _ => False
 | n + 1, t, s => (∃ m, Lst (leastKv bk) s m) /\ ∃ fr, fr ∈ bk.forms /\ Frm.name fr = t.nm /\ fr.own = s /\ Paired (TreeOk bk n) t.ps fr.parts
theorem comp_has {K : PySem.W.Frag} {kvs : List (Key × V)} {pa d : Addr} {ps : List Srt} {fr : List Nat} {te : TE} {Z : St} {H : Hp} {Q : VK} (hd : H d = some (.dK kvs)) (hpa : H pa = some (.tup (partsV ps))) (hl : ps.length <= 1000)
  (hte : ∀ (x : Str) H' (k : VK), H' d = some (.dK kvs) -> k (.bl (valV kvs (.inr x)).isSome) H' -> te (some (.str x) :: caps fr Z) H' k)
  (hQ : ∀ p H', H p = none -> Same H H' -> H' p = some (.lst ((ps.map (hasB kvs)).map V.bl)) -> Q (.ref p) H') : tCompW fr te Z (Itt K pa) H Q := by
 refine comp_pure (by rw [partsV_len]; lia) (itt_go hpa) (itt_st hpa) (itt_y hpa) (hIn kvs) ?_ ?_
 ·intro v H' k hv s' hk
  obtain ⟨sr, _, rfl⟩ := mem_partsV hv
  exact hte _ _ _ (s' _ _ hd) hk
 ·intro p H' hp s' gp
  rw [hIn_parts] at gp
  exact hQ p H' hp s' gp
theorem comp_getp {K : PySem.W.Frag} {kvs : List (Key × V)} {pa d : Addr} {ps : List Srt} {ms : List Nat} {fr : List Nat} {te : TE} {Z : St} {H : Hp} {Q : VK} (hm : Paired (Lst kvs) ps ms) (hd : H d = some (.dK kvs)) (hpa : H pa = some (.tup (partsV ps))) (hl : ps.length <= 1000)
  (hte : ∀ (x : Str) (m : Nat) H' (k : VK), H' d = some (.dK kvs) -> valV kvs (.inr x) = some (.int (m : Int)) -> k (.int (m : Int)) H' -> te (some (.str x) :: caps fr Z) H' k)
  (hQ : ∀ p H', H p = none -> Same H H' -> H' p = some (.lst ((ms.map fun m => ((m : Nat) : Int)).map V.int)) -> Q (.ref p) H') : tCompW fr te Z (Itt K pa) H Q := by
 refine comp_pure (by rw [partsV_len]; lia) (itt_go hpa) (itt_st hpa) (itt_y hpa) (hGet kvs) ?_ ?_
 ·intro v H' k hv s' hk
  obtain ⟨sr, hsr, rfl⟩ := mem_partsV hv
  obtain ⟨i', hi'⟩ := List.getElem?_of_mem hsr
  obtain ⟨m, _, hm⟩ := paired_get' hm hi'
  have hm' : valV kvs (.inr sr.name) = some (.int (m : Int)) := hm
  refine hte _ m _ _ (s' _ _ hd) hm' ?_
  have : hGet kvs (.str sr.name) = .int (m : Int) := by
   show (valV kvs (.inr sr.name)).getD .non = _
   rw [hm']
   rfl
  rw [this] at hk
  exact hk
 ·intro p H' hp s' gp
  rw [hGet_parts hm] at gp
  exact hQ p H' hp s' gp
theorem get_dget {H : Hp} {d : Addr} {kvs : List (Key × V)} {x : Str} {v : V} (g : H d = some (.dK kvs)) (e : valV kvs (.inr x) = some v) : DGet H d (.str x) (some v) := by
 rw [<- e]
 exact DGet.k (k := .inr x) g
theorem sumN_drop : ∀ (l : List Nat) (i m : Nat), l[i]? = some m -> sumN (l.drop i) = m + sumN (l.drop (i + 1))
 | [], i, m, h => by cases i <;> cases h
 | a :: r, 0, m, h => by cases h; rfl
 | a :: r, i + 1, m, h => sumN_drop r i m h
inductive spTree (n : Nat) (vs : List V) (H : Hp) (Q : VK) (E_ : XK) : Prop
 | mk : ∀ tp bv d bk s r m, (vs = [.ref tp, bv, .ref d, .str (Srt.name s), .int ((r : Nat) : Int)]) -> (RepB H bk bv) -> (BookOk bk) -> (LI bk (leastKv bk)) -> (H d = some (.dK (leastKv bk))) -> (Tp H tp) -> (s ∈ bk.sorts) -> (Lst (leastKv bk) s m) -> (m <= r) -> (r <= n) -> (r <= 1000) -> (∀ v t H', RepT H' n t v -> TreeOk bk n t s -> t.sz <= r -> Kp tp H H' -> Tp H' tp -> Q v H') -> spTree n vs H Q E_
noncomputable abbrev NTree : List Str := ["tape", "book", "least", "sort", "room", "forms", "form", "spare", "parts", "name", "more"]
theorem scTree : FnScope NTree ["tape", "book", "least", "sort", "room"] (defScope sTree) := fsc
theorem ok_tree1 {n : Nat} (F : Fun K "_law_tree" "_law_tree" sTree f fd) (G : Gb mg) (hsum : mg "sum" = none)
  (GD : FnOk P w K mg base CX0 1 g gd ["tape", "many"] spDigit) (bD : Binds K gd ["tape", "many"] []) (kD : PySem.W.keepIn K (.ref g) = true) (mD : mg "_law_digit" = some (.ref g))
  (GT : FnOk P w K mg base CX0 (n + 2) f fd ["tape", "book", "least", "sort", "room"] (spTree n)) (bT : Binds K fd ["tape", "book", "least", "sort", "room"] []) (mT : mg "_law_tree" = some (.ref f)) :
  FnOk P w K mg base CX0 (n + 3) f fd ["tape", "book", "least", "sort", "room"] (spTree (n + 1)) := by
 refine F.ok scTree (fun vs H Q E h => ?_) (fun cdv A outer s H vs Q E hr h => ?_)
 ·obtain ⟨tp, bv, d, bk, sr, r, m, rfl, _⟩ := h
  rfl
 obtain ⟨tp, bv, d, bk, sr, r, m, rfl, hB, hok, hI, gd0, tt0, hsr, hm, hmr, hrn, hr1000, q⟩ := h
 have hB' := hB
 obtain ⟨a, sa, fa, fv, rfl, ha, ⟨sx, hsa, hS⟩, hfa, hF⟩ := hB'
 have hu := hu_of hr
 have hr1 := hr.mono (show 1 <= n + 2 by lia)
 refine ⟨_, pss_cons (ps_set (i := 5) scTree.nd rfl (Or.inl rfl) (pe_lst pa_nil))
  (pss_cons (ps_for PassesOwn.never rfl (pi_tup (pe_ix (r := rIxT K) ix_tup (pv 1) pe_int (fun _ _ => rfl))) (pg_name (i := 6) scTree.nd rfl (Or.inl rfl))
   (pss_one (ps_if (PW.pt (pw_and (pt_cmpR op_eq (pe_ix (r := rIxT K) ix_tup (pv 6) pe_int (fun _ _ => rfl)) (pv 3) (nomark _))
     (pw_and1 (pt_val (pe_callB (call_all rfl) rfl G.all (by decide +kernel) (pa_cons (pe_comp (sc0 := defScope sTree) (N0 := NTree) (ys := ["least"]) (fr := [2]) rfl (pi_tup (pe_ix (r := rIxT K) ix_tup (pv 6) pe_int (fun _ _ => rfl))) rfl rfl
       cok (fun C s H ex => pe_cmp (pc_din hu (pv 0) (pv 1)))) pa_nil))))))
    (pss_one (ps_if (pt_cmpR op_le (pe_op op_add pe_int (pe_callB (call_sum rfl) rfl hsum (by decide +kernel) (pa_cons (pe_comp (sc0 := defScope sTree) (N0 := NTree) (ys := ["least"]) (fr := [2]) rfl (pi_tup (pe_ix (r := rIxT K) ix_tup (pv 6) pe_int (fun _ _ => rfl))) rfl rfl
       cok (fun C s H ex => pe_dget hu (pv 1) (pv 0) (fun _ _ => rfl))) pa_nil))) (pv 4) (nomark _))
     (pss_one (ps_expr (pe_bm PySem.F.plainAttrs_list PySem.F.slot_list_append PySem.F.type_list_append mt_append (pv 5) (pa_cons (pv 6) pa_nil)))) pss_nil)) pss_nil)))
  (pss_cons (ps_set (i := 6) scTree.nd rfl (Or.inl rfl) (pe_ix (r := rIxL K) ix_list (pv 5) (pe_call GD hr1 rfl mD kD bD .nil pass0 (pa_cons (pv 0) (pa_cons (pe_callB (r := rLen K) call_len_seq rfl G.len PySem.boot_len (pa_cons (pv 5) pa_nil)) pa_nil))) (fun _ _ => rfl)))
  (pss_cons (ps_set (i := 7) scTree.nd rfl (Or.inl rfl) (pe_op op_sub (pe_op op_sub (pv 4) pe_int) (pe_callB (call_sum rfl) rfl hsum (by decide +kernel) (pa_cons (pe_comp (sc0 := defScope sTree) (N0 := NTree) (ys := ["least"]) (fr := [2]) rfl (pi_tup (pe_ix (r := rIxT K) ix_tup (pv 6) pe_int (fun _ _ => rfl))) rfl rfl
       cok (fun C s H ex => pe_dget hu (pv 1) (pv 0) (fun _ _ => rfl))) pa_nil))))
  (pss_cons (ps_set (i := 8) scTree.nd rfl (Or.inl rfl) (pe_lst pa_nil))
  (pss_cons (ps_for PassesOwn.never rfl (pi_tup (pe_ix (r := rIxT K) ix_tup (pv 6) pe_int (fun _ _ => rfl))) (pg_name (i := 9) scTree.nd rfl (Or.inl rfl))
   (pss_cons (ps_set (i := 10) scTree.nd rfl (Or.inl rfl) (pe_call GD hr1 rfl mD kD bD .nil pass0 (pa_cons (pv 0) (pa_cons (pe_op op_add (pv 7) pe_int) pa_nil))))
   (pss_cons (ps_set (i := 7) scTree.nd rfl (Or.inl rfl) (pe_op op_sub (pv 7) (pv 10)))
   (pss_one (ps_expr (pe_bm PySem.F.plainAttrs_list PySem.F.slot_list_append PySem.F.type_list_append mt_append (pv 8) (pa_cons
    (pe_call GT hr rfl mT F.kp bT .nil pass0 (pa_cons (pv 0) (pa_cons (pv 1) (pa_cons (pv 2) (pa_cons (pv 9) (pa_cons (pe_op op_add (pe_dget hu (pv 2) (pv 9) (fun _ _ => rfl)) (pv 10)) pa_nil)))))) pa_nil)))))))
  (pss_one (ps_ret (pe_tup (pa_cons (pe_ix (r := rIxT K) ix_tup (pv 6) pe_int (fun _ _ => rfl)) (pa_cons (pe_callTy (r := rTupOf K) call_tuple_of rfl G.tuple (by decide +kernel) (pa_cons (pv 8) pa_nil)) pa_nil)))))))))), ?_⟩
 refine ⟨(by show 0 <= sizeLine; decide), fun fl hfl => ?_⟩
 have s0 := same_new hfl (.lst [])
 have g0 : (upd H fl (.lst [])) fl = some (.lst []) := upd_same
 generalize upd H fl (.lst []) = H0 at s0 g0 ⊢
 have lF := hF.len
 have h10 := hok.few
 have hfree : ∀ {fr : Frm}, fr ∈ bk.forms -> fr.own ∈ bk.sorts /\ fr.parts.length <= 3 /\ ∀ p ∈ fr.parts, p ∈ bk.sorts := fun {fr} hf => by
  obtain ⟨mode, _, hfo⟩ := hok.fo
  obtain ⟨h1, h2, h3, _⟩ := hfo fr hf
  exact ⟨h1, h3, h2⟩
 refine ⟨_, rfl, a, _, 2, .ref fa, rfl, rfl, SqT.of (s0 _ _ ha), atI_nat (j := 2) rfl, fa, rfl, ⟨fv, SqT.of (s0 _ _ hfa)⟩, ?_⟩
 refine for_tup (xs := fv) (fun i Z H' => i <= fv.length /\ ∃ o6 xs frs, Z = [some (.ref tp), some (.ref a), some (.ref d), some (.str sr.name), some (.int (r : Int)), some (.ref fl), o6, none, none, none, none] /\ Same H H' /\ H' fl = some (.lst xs) /\ RepFs H' frs xs /\ xs.length <= i /\
   (∀ fr ∈ frs, fr ∈ bk.forms /\ Frm.own fr = sr /\ ∃ ms, Paired (Lst (leastKv bk)) fr.parts ms /\ 1 + sumN ms <= r) /\ (∀ fr ms, fr ∈ bk.forms.take i -> Frm.own fr = sr -> Paired (Lst (leastKv bk)) fr.parts ms -> 1 + sumN ms <= r -> frs ≠ []))
  ⟨Nat.zero_le _, none, [], [], rfl, s0, g0, .nil, Nat.le_refl _, fun fr h => (by cases h), fun fr ms h => (by cases h)⟩ (fun i Z H' _ h => by obtain ⟨_, _, _, _, _, sm, _⟩ := h; exact SqT.of (sm _ _ hfa)) ?_ ?_
 ·rintro i x Z H1 hx ⟨hi, o6, xs, frs, rfl, S1, gf1, hR1, hl1, hg1, hn1⟩
  have hil : i < fv.length := (List.getElem?_eq_some_iff.mp hx).1
  obtain ⟨fr, hfr, b, pa, ra, rv, rfl, hb, hpa, hra, hRr⟩ := paired_get hF hx
  have hfm := List.mem_of_getElem? hfr
  obtain ⟨hown, hp3, hpin⟩ := hfree hfm
  have etk : bk.forms.take (i + 1) = bk.forms.take i ++ [fr] := by rw [List.take_add_one, hfr]; rfl
  have stay : ∀ {H2 : Hp}, Same H1 H2 -> ¬ (fr.own = sr /\ ∃ ms, Paired (Lst (leastKv bk)) fr.parts ms /\ 1 + sumN ms <= r) -> i + 1 <= fv.length /\ ∃ o6 xs' frs', [some (V.ref tp), some (.ref a), some (.ref d), some (.str sr.name), some (.int (r : Int)), some (.ref fl), some (.ref b), none, none, none, none] = [some (.ref tp), some (.ref a), some (.ref d), some (.str sr.name), some (.int (r : Int)), some (.ref fl), o6, none, none, none, none] /\ Same H H2 /\ H2 fl = some (.lst xs') /\ RepFs H2 frs' xs' /\ xs'.length <= i + 1 /\
   (∀ fr ∈ frs', fr ∈ bk.forms /\ Frm.own fr = sr /\ ∃ ms, Paired (Lst (leastKv bk)) fr.parts ms /\ 1 + sumN ms <= r) /\ (∀ fr ms, fr ∈ bk.forms.take (i + 1) -> Frm.own fr = sr -> Paired (Lst (leastKv bk)) fr.parts ms -> 1 + sumN ms <= r -> frs' ≠ []) := by
   intro H2 s2 hno
   refine ⟨hil, _, xs, frs, rfl, S1.trans s2, s2 _ _ gf1, hR1.mono (tk_of s2), by lia, hg1, fun fr' ms h1 h2 h3 h4 => ?_⟩
   rw [etk, List.mem_append, List.mem_singleton] at h1
   rcases h1 with h1 | rfl
   ·exact hn1 fr' ms h1 h2 h3 h4
   ·exact absurd ⟨h2, ms, h3, h4⟩ hno
  refine ⟨_, rfl, b, _, 1, _, rfl, rfl, SqT.of (S1 _ _ hb), atI_nat (j := 1) rfl, _, rfl, rfl, _, rfl, ?_⟩
  refine ite2 (fun c => ?_) (fun c => ?_)
  ·have c' : fr.own.name = sr.name := V.str.inj (of_decide_eq_true c)
   have eo := srt_inj hok.so.2.2.1 hown hsr c'
   refine ⟨_, rfl, b, _, 2, .ref pa, rfl, rfl, SqT.of (S1 _ _ hb), atI_nat (j := 2) rfl, pa, rfl, ⟨_, SqT.of (S1 _ _ hpa)⟩, ?_⟩
   refine comp_has (d := d) (kvs := leastKv bk) (S1 _ _ gd0) (S1 _ _ hpa) (by lia) (fun x H' k g hk => ⟨_, rfl, _, rfl, d, _, rfl, DGet.k (k := .inr x) g, hk⟩) fun p2 H2 hp2 s2 gp2 => ?_
   refine ⟨p2, _, rfl, SqL.of gp2, _, rfl, ?_⟩
   refine ite2 (fun c2 => ?_) (fun c2 => ?_)
   ·obtain ⟨ms, hms⟩ := parts_in hI _ c2
    have hsm := paired_small hI hok hms
    have lms : fr.parts.length = ms.length := Paired.length hms
    have S2 : Same H H2 := S1.trans s2
    refine ⟨_, rfl, b, _, 2, .ref pa, rfl, rfl, SqT.of (S2 _ _ hb), atI_nat (j := 2) rfl, pa, rfl, ⟨_, SqT.of (S2 _ _ hpa)⟩, ?_⟩
    refine comp_getp (d := d) hms (S2 _ _ gd0) (S2 _ _ hpa) (by lia) (fun x m H' k g e hk => ⟨_, rfl, _, rfl, d, _, rfl, get_dget g e, hk⟩) fun p3 H3 hp3' s3 gp3 => ?_
    refine ⟨p3, _, rfl, SqL.of gp3, by rw [List.length_map]; lia, ?_, ?_⟩
    ·intro n' hn'
     obtain ⟨m', hm', rfl⟩ := List.mem_map.mp hn'
     have := hsm m' hm'
     lia
    rw [sumI_nat]
    refine ⟨_, _, rfl, rfl, _, rfl, _, _, rfl, rfl, _, rfl, ?_⟩
    have S3 : Same H H3 := S2.trans s3
    refine ite2 (fun c3 => ?_) (fun c3 => ?_)
    ·have c3' : (1 : Int) + (sumN ms : Int) <= (r : Int) := of_decide_eq_true c3
     have gf3 := s3 _ _ (s2 _ _ gf1)
     refine ⟨_, rfl, .inl ⟨rfl, _, SqL.of gf3⟩, _, rfl, fl, xs, .ref b, rfl, rfl, gf3, small1000 (by lia), ?_⟩
     have tk : TK H3 (upd H3 fl (.lst (xs ++ [.ref b]))) := TK.lst gf3
     have tk1 : TK H1 (upd H3 fl (.lst (xs ++ [.ref b]))) := ((tk_of s2).trans (tk_of s3)).trans tk
     refine ⟨hil, _, xs ++ [.ref b], frs ++ [fr], rfl, ?_, upd_same, Paired.snoc (hR1.mono tk1) ⟨b, pa, ra, rv, rfl, tk1 _ _ (S1 _ _ hb), tk1 _ _ (S1 _ _ hpa), tk1 _ _ (S1 _ _ hra), (hRr.mono (tk_of S1)).mono tk1⟩, by rw [List.length_append]; show xs.length + 1 <= i + 1; lia, ?_, ?_⟩
     ·intro y oo h
      rw [upd_ne (ne_of_none h hfl)]
      exact S3 _ _ h
     ·intro fr' hf'
      rw [List.mem_append, List.mem_singleton] at hf'
      rcases hf' with hf' | rfl
      ·exact hg1 fr' hf'
      ·exact ⟨hfm, eo, ms, hms, by lia⟩
     ·intro _ _ _ _ _ _ z
      exact absurd (List.append_eq_nil_iff.mp z).2 (by simp)
    ·refine stay (s2.trans s3) ?_
     rintro ⟨_, ms', h1, h2⟩
     have : ms' = ms := by
      have e1 := natV_parts h1
      have e2 := natV_parts hms
      rw [e1] at e2
      exact e2
     subst this
     exact c3 (decide_eq_true (by show (1 : Int) + (sumN ms' : Int) <= (r : Int); lia))
   ·refine stay s2 ?_
    rintro ⟨_, ms', h1, _⟩
    refine c2 ?_
    rw [List.all_eq_true]
    intro y hy
    obtain ⟨p, hp, rfl⟩ := List.mem_map.mp hy
    obtain ⟨i', hi'⟩ := List.getElem?_of_mem hp
    obtain ⟨m', _, hm'⟩ := paired_get' h1 hi'
    show hasB (leastKv bk) p = true
    unfold hasB
    rw [show valV (leastKv bk) (.inr p.name) = some (.int (m' : Int)) from hm']
    rfl
  ·refine stay (fun _ _ h => h) ?_
   rintro ⟨e, _⟩
   exact c (decide_eq_true (by rw [e]))
 ·rintro Z H1 ⟨_, o6, xs, frs, rfl, S1, gf1, hR1, hl1, hg1, hn1⟩
  rw [<- lF, List.take_length] at hn1
  obtain ⟨fr0, q1, q2, ms0, q3, q4⟩ := hI.cl _ _ hsr hm
  have hne : frs ≠ [] := hn1 fr0 ms0 q1 q2 q3 (by lia)
  have lxs := hR1.len
  have lpos : 0 < frs.length := List.length_pos_iff.mpr hne
  have tt1 : Tp H1 tp := tt0.same S1
  refine ⟨_, rfl, _, rfl, _, rfl, fl, xs, rfl, .inl (SqL.of gf1), tp, _, rfl, tt1, by lia, by lia, fun dd t1 hd0 hd1 => ?_⟩
  obtain ⟨x, ex, ex2⟩ := atI_lt hd0 hd1
  obtain ⟨fr, hfr, hRf⟩ := paired_get hR1 ex2
  obtain ⟨hfm, eo, ms, hms, hmsr⟩ := hg1 fr (List.mem_of_getElem? hfr)
  obtain ⟨hown, hp3, hpin⟩ := hfree hfm
  have hsm := paired_small hI hok hms
  have lms : fr.parts.length = ms.length := Paired.length hms
  have nfl : fl ≠ tp := Ne.symm (tp_ne tt0 hfl).symm
  have k2 : Kp tp H (upd H1 tp (.lst [.int t1])) := (Kp.refl.same S1).trans Kp.tape
  have tt2 : Tp (upd H1 tp (.lst [.int t1])) tp := ⟨t1, upd_same⟩
  have gf2 : (upd H1 tp (.lst [.int t1])) fl = some (.lst xs) := by rw [upd_ne nfl]; exact gf1
  have hRf2 : RepF (upd H1 tp (.lst [.int t1])) fr x := hRf.mono (Kp.tk Kp.tape tt1)
  generalize upd H1 tp (.lst [.int t1]) = H2 at k2 tt2 gf2 hRf2 ⊢
  refine ⟨fl, xs, dd, x, rfl, rfl, SqL.of gf2, ex, ?_⟩
  obtain ⟨b, pa, ra, rv, rfl, hb, hpa, hra, hRr⟩ := hRf2
  have ndt : d ≠ tp := fun e => by obtain ⟨t, ht⟩ := tt0; rw [e, ht] at gd0; cases gd0
  have gd2 : H2 d = some (.dK (leastKv bk)) := k2 _ _ gd0 ndt
  refine ⟨_, rfl, _, _, rfl, rfl, _, rfl, b, _, 2, .ref pa, rfl, rfl, SqT.of hb, atI_nat (j := 2) rfl, pa, rfl, ⟨_, SqT.of hpa⟩, ?_⟩
  refine comp_getp (d := d) hms gd2 hpa (by lia) (fun x m H' k g e hk => ⟨_, rfl, _, rfl, d, _, rfl, get_dget g e, hk⟩) fun p3 H3 hp3' s3 gp3 => ?_
  refine ⟨p3, _, rfl, SqL.of gp3, by rw [List.length_map]; lia, ?_, ?_⟩
  ·intro n' hn'
   obtain ⟨m', hm', rfl⟩ := List.mem_map.mp hn'
   have := hsm m' hm'
   lia
  rw [sumI_nat]
  refine ⟨_, _, rfl, rfl, ?_⟩
  rw [show (V.int ((r : Int) - 1 - (sumN ms : Int))) = V.int ((r - 1 - sumN ms : Nat) : Int) from congrArg V.int (show (r : Int) - 1 - (sumN ms : Int) = ((r - 1 - sumN ms : Nat) : Int) by lia)]
  have k3 : Kp tp H H3 := k2.same s3
  have tt3 := tt2.same s3
  refine ⟨(by show 0 <= sizeLine; decide), fun pl hpl => ?_⟩
  have s4 := same_new hpl (.lst [])
  have g4 : (upd H3 pl (.lst [])) pl = some (.lst []) := upd_same
  have npl : pl ≠ tp := tp_ne tt3 hpl
  generalize upd H3 pl (.lst []) = H4 at s4 g4 ⊢
  have k4 : Kp tp H H4 := k3.same s4
  have tt4 := tt3.same s4
  have hb4 := s4 _ _ (s3 _ _ hb)
  have hpa4 := s4 _ _ (s3 _ _ hpa)
  have hpl0 : H pl = none := by
   cases e : H pl with
   | none => rfl
   | some o => exact absurd (k3 _ _ e npl) (by rw [hpl]; intro z; cases z)
  have nb : b ≠ tp := fun e => by obtain ⟨t, ht⟩ := tt4; rw [e, ht] at hb4; cases hb4
  have npa : pa ≠ tp := fun e => by obtain ⟨t, ht⟩ := tt4; rw [e, ht] at hpa4; cases hpa4
  have nbl : b ≠ pl := ne_of_none (s3 _ _ hb) hpl
  have npal : pa ≠ pl := ne_of_none (s3 _ _ hpa) hpl
  refine ⟨_, rfl, b, _, 2, .ref pa, rfl, rfl, SqT.of hb4, atI_nat (j := 2) rfl, pa, rfl, ⟨_, SqT.of hpa4⟩, ?_⟩
  refine for_tup (xs := partsV fr.parts) (fun i Z H' => i <= (partsV fr.parts).length /\ ∃ o9 o10 sp pvs ts, Z = [some (.ref tp), some (.ref a), some (.ref d), some (.str sr.name), some (.int (r : Int)), some (.ref fl), some (.ref b), some (.int ((sp : Nat) : Int)), some (.ref pl), o9, o10] /\ Kp tp H H' /\ Tp H' tp /\ H' b = some (.tup [.str fr.name, .str fr.own.name, .ref pa, .ref ra]) /\ H' pa = some (.tup (partsV fr.parts)) /\ H' pl = some (.lst pvs) /\
    Paired (RepT H' n) ts pvs /\ Paired (TreeOk bk n) ts (fr.parts.take i) /\ szL ts + sumN (ms.drop i) + 1 + sp <= r)
   ⟨Nat.zero_le _, none, none, r - 1 - sumN ms, [], [], rfl, k4, tt4, hb4, hpa4, g4, .nil, .nil, by show 0 + sumN ms + 1 + _ <= r; lia⟩ (fun i Z H' _ h => by obtain ⟨_, _, _, _, _, _, _, _, _, _, h, _⟩ := h; exact SqT.of h) ?_ ?_
  ·rintro i x Z H5 hx ⟨hi, o9, o10, sp, pvs, ts, rfl, k5, tt5, hb5, hpa5, gp5, hT5, hO5, hs5⟩
   have hil : i < (partsV fr.parts).length := (List.getElem?_eq_some_iff.mp hx).1
   rw [partsV_len] at hil
   obtain ⟨pq, hpq⟩ : ∃ pq, fr.parts[i]? = some pq := ⟨fr.parts[i], List.getElem?_eq_getElem hil⟩
   obtain ⟨mi, hmi, hLi⟩ := paired_get' hms hpq
   have hdrop := sumN_drop ms i mi hmi
   have ex : x = .str pq.name := by
    unfold partsV at hx
    rw [List.getElem?_map, hpq] at hx
    exact (Option.some.inj hx).symm
   subst ex
   refine ⟨_, rfl, _, rfl, _, _, rfl, rfl, tp, _, rfl, tt5, by show (0 : Int) < (sp : Int) + 1; lia, by show (sp : Int) + 1 < _; lia, fun mo t2 hm0 hm1 => ?_⟩
   obtain ⟨mo, rfl⟩ : ∃ k : Nat, mo = (k : Int) := ⟨mo.toNat, by lia⟩
   have hm1' : mo <= sp := by
    have : (mo : Int) < (sp : Int) + 1 := hm1
    lia
   have k6 : Kp tp H5 (upd H5 tp (.lst [.int t2])) := Kp.tape
   have tt6 : Tp (upd H5 tp (.lst [.int t2])) tp := ⟨t2, upd_same⟩
   generalize upd H5 tp (.lst [.int t2]) = H6 at k6 tt6 ⊢
   refine ⟨_, rfl, _, rfl, _, _, rfl, rfl, ?_⟩
   rw [show (V.int ((sp : Int) - (mo : Int))) = V.int ((sp - mo : Nat) : Int) from congrArg V.int (show (sp : Int) - (mo : Int) = ((sp - mo : Nat) : Int) by lia)]
   have k06 : Kp tp H H6 := k5.trans k6
   have gp6 := k6 _ _ gp5 npl
   have gd6 := k06 _ _ gd0 ndt
   refine ⟨_, rfl, .inl ⟨rfl, _, SqL.of gp6⟩, ?_⟩
   refine ⟨_, rfl, _, rfl, _, rfl, _, rfl, _, rfl, _, rfl, d, _, rfl, get_dget gd6 hLi, _, rfl, _, _, rfl, rfl, ?_⟩
   refine ⟨tp, _, d, bk, pq, mi + mo, mi, rfl, hB.mono (k06.tk tt0), hok, hI, gd6, tt6, hpin pq (List.mem_of_getElem? hpq), hLi, by lia, by lia, by lia, fun v t H7 rT tO tsz k7 tt7 => ?_⟩
   have gp7 := k7 _ _ gp6 npl
   have lts := Paired.length hT5
   have lto := Paired.length hO5
   rw [List.length_take] at lto
   refine ⟨pl, pvs, v, rfl, rfl, gp7, small1000 (by lia), ?_⟩
   have tk : TK H7 (upd H7 pl (.lst (pvs ++ [v]))) := TK.lst gp7
   have tk5 : TK H5 H7 := (k6.trans k7).tk tt5
   refine ⟨by rw [partsV_len]; exact hil, _, _, sp - mo, pvs ++ [v], ts ++ [t], rfl, ?_, ?_, ?_, ?_, upd_same, ?_, ?_, ?_⟩
   ·intro y oo h hny
    rw [upd_ne (ne_of_none h hpl0)]
    exact (k06.trans k7) _ _ h hny
   ·obtain ⟨t', ht'⟩ := tt7
    exact ⟨t', by rw [upd_ne (Ne.symm npl)]; exact ht'⟩
   ·exact tk _ _ (tk5 _ _ hb5)
   ·exact tk _ _ (tk5 _ _ hpa5)
   ·exact Paired.snoc (Paired.mapP hT5 fun _ _ r => r.mono (tk5.trans tk)) (rT.mono tk)
   ·rw [List.take_add_one, hpq]
    exact Paired.snoc hO5 tO
   ·rw [szL_append]
    show szL ts + (t.sz + 0) + sumN (ms.drop (i + 1)) + 1 + (sp - mo) <= r
    lia
  ·rintro Z H5 ⟨_, o9, o10, sp, pvs, ts, rfl, k5, tt5, hb5, hpa5, gp5, hT5, hO5, hs5⟩
   rw [partsV_len, List.take_length] at hO5
   refine ⟨_, rfl, b, _, 0, _, rfl, rfl, SqT.of hb5, atI0, _, rfl, pl, pvs, rfl, .inl ⟨SqL.of gp5, fun pt hpt => ?_⟩⟩
   have s6 := same_new hpt (.tup pvs)
   have g6 : (upd H5 pt (.tup pvs)) pt = some (.tup pvs) := upd_same
   generalize upd H5 pt (.tup pvs) = H6 at s6 g6 ⊢
   refine ⟨(by show 2 <= sizeLine; decide), fun pu hpu => ?_⟩
   have s7 := same_new hpu (.tup [.str fr.name, .ref pt])
   refine q _ (.mk fr.name ts) _ ⟨pu, pt, pvs, rfl, upd_same, s7 _ _ g6, Paired.mapP hT5 fun _ _ r => r.mono ((tk_of s6).trans (tk_of s7))⟩ ⟨⟨m, hm⟩, fr, hfm, rfl, eo, hO5⟩ ?_ ((k5.same s6).same s7) ((tt5.same s6).same s7)
   rw [sz_eq]
   show szL ts + 1 <= r
   lia
theorem ok_tree0 : FnOk P w K mg base CX0 2 f fd ["tape", "book", "least", "sort", "room"] (spTree 0) := by
 have no : ∀ vs H Q E, ¬ spTree 0 vs H Q E := fun vs H Q E h => by
  obtain ⟨tp, bv, d, bk, sr, r, m, rfl, hB, hok, hI, gd0, tt0, hsr, hm, hmr, hrn, _⟩ := h
  have := (hI.small hok hm).1
  lia
 exact ⟨fun vs H Q E h => absurd h (no vs H Q E), fun A outer s H args us vs Q E _ _ _ _ h => absurd h (no vs H Q E)⟩
theorem ok_tree (F : Fun K "_law_tree" "_law_tree" sTree f fd) (G : Gb mg) (hsum : mg "sum" = none)
  (GD : FnOk P w K mg base CX0 1 g gd ["tape", "many"] spDigit) (bD : Binds K gd ["tape", "many"] []) (kD : PySem.W.keepIn K (.ref g) = true) (mD : mg "_law_digit" = some (.ref g))
  (bT : Binds K fd ["tape", "book", "least", "sort", "room"] []) (mT : mg "_law_tree" = some (.ref f)) : ∀ n : Nat, FnOk P w K mg base CX0 (n + 2) f fd ["tape", "book", "least", "sort", "room"] (spTree n)
 | 0 => ok_tree0
 | n + 1 => ok_tree1 F G hsum GD bD kD mD (ok_tree F G hsum GD bD kD mD bT mT n) bT mT
theorem compT_mk {α : Type} {J : It} {as : List α} {xs : List V} {A : α -> V -> Prop} {fr : List Nat} {tc : TT} {te : TE} {Z : St} {H1 : Hp} {Q : VK} (hn : xs.length <= 1000) (hP : Paired A as xs)
  (hgo : ∀ i H, Same H1 H -> i < xs.length -> J.go i H) (hst : ∀ H, Same H1 H -> J.stop xs.length H) (hy : ∀ i H v H', Same H1 H -> J.yld i H v H' -> H' = H /\ xs[i]? = some v)
  (c : α -> Bool) (R : Hp -> α -> V -> Prop) (mono : ∀ {H H' : Hp} {a : α} {v : V}, TK H H' -> R H a v -> R H' a v)
  (htc : ∀ a v H (k : Bool -> Hp -> Prop), a ∈ as -> A a v -> Same H1 H -> k (c a) H -> tc (some v :: caps fr Z) H k)
  (hte : ∀ a v H (k : VK), a ∈ as -> A a v -> c a = true -> Same H1 H -> (∀ u H', Same H H' -> R H' a u -> k u H') -> te (some v :: caps fr Z) H k)
  (hd : ∀ p zs H', H1 p = none -> Same H1 H' -> H' p = some (.lst zs) -> Paired (R H') (as.filter c) zs -> Q (.ref p) H') : tCompWT fr tc te Z J H1 Q := by
 intro p hp
 refine ⟨fun i m zs H => i <= xs.length /\ m = xs.length - i /\ Same H1 H /\ H p = some (.lst zs) /\ zs.length <= i /\ Paired (R H) ((as.take i).filter c) zs, ⟨_, Nat.zero_le _, rfl, same_new hp _, upd_same, Nat.le_refl _, .nil⟩, ?_⟩
 rintro i m zs H ⟨hi, hm, sm, gp, hz, hT⟩
 refine ⟨gp, ?_⟩
 by_cases e : i = xs.length
 ·subst e
  rw [<- Paired.length hP, List.take_length] at hT
  exact .inl ⟨hst H sm, hd p zs H hp sm gp hT⟩
 ·have hlt : i < xs.length := by lia
  refine .inr ⟨hgo i H sm hlt, small1000 (by lia), fun v H' hv => ?_⟩
  obtain ⟨rfl, hv2⟩ := hy i H v H' sm hv
  obtain ⟨a, ha, hA⟩ := paired_get hP hv2
  have etk : (as.take (i + 1)).filter c = (as.take i).filter c ++ (if c a then [a] else []) := take_succ_filter c as i a ha
  refine htc a v _ _ (List.mem_of_getElem? ha) hA sm ?_
  by_cases hc : c a = true
  ·rw [if_pos hc] at etk
   show if c a = true then _ else _
   rw [if_pos hc]
   refine hte a v _ _ (List.mem_of_getElem? ha) hA hc sm fun u H2 s2 r => ?_
   have gp2 := s2 _ _ gp
   have tk : TK H2 (upd H2 p (.lst (zs ++ [u]))) := TK.lst gp2
   refine ⟨gp2, xs.length - (i + 1), by lia, by lia, rfl, ?_, upd_same, by rw [List.length_append]; show zs.length + 1 <= i + 1; lia, ?_⟩
   ·intro b o hb
    rw [upd_ne (ne_of_none hb hp)]
    exact s2 _ _ (sm _ _ hb)
   ·rw [etk]
    exact Paired.snoc (Paired.mapP hT fun _ _ r => mono ((tk_of s2).trans tk) r) (mono tk r)
  ·rw [if_neg hc, List.append_nil] at etk
   show if c a = true then _ else _
   rw [if_neg hc]
   exact ⟨xs.length - (i + 1), by lia, by lia, rfl, sm, gp, by lia, by rw [etk]; exact hT⟩
theorem paired_eq {α : Type} {h : α -> V} : ∀ {l : List α} {r : List V}, Paired (fun (a : α) (v : V) => v = h a) l r -> r = l.map h
 | _, _, .nil => rfl
 | _, _, .cons a t => by rw [a, paired_eq t]; rfl
mutual
noncomputable def Bt.subs : Bt -> List Bt
 | .mk x l => .mk x l :: subsL l
noncomputable def subsL : List Bt -> List Bt
 | [] => []
 | t :: r => t.subs ++ subsL r
end
theorem subs_eq (t : Bt) : t.subs = t :: subsL t.ps := by
 cases t with
 | mk x l => rw [Bt.subs]; rfl
theorem subsL_nil : subsL [] = [] := by rw [subsL]
theorem subsL_cons (t : Bt) (r : List Bt) : subsL (t :: r) = t.subs ++ subsL r := by rw [subsL]
theorem subsL_append : ∀ (a b : List Bt), subsL (a ++ b) = subsL a ++ subsL b
 | [], b => by rw [subsL_nil]; rfl
 | t :: r, b => by rw [List.cons_append, subsL_cons, subsL_cons, subsL_append r b, List.append_assoc]
theorem subsL_nxt (t : Bt) (r : List Bt) : subsL (t :: r) = t :: subsL (t.ps ++ r) := by
 rw [subsL_cons, subs_eq, subsL_append]; rfl
theorem subsL_one (t : Bt) : subsL [t] = t.subs := by rw [subsL_cons, subsL_nil, List.append_nil]
theorem subs_len : ∀ (n : Nat) (t : Bt), t.sz <= n -> t.subs.length = t.sz := by
 intro n
 induction n with
 | zero => intro t h; have := sz_pos t; lia
 | succ n ih =>
  intro t h
  rw [subs_eq, sz_eq, List.length_cons]
  have go : ∀ l : List Bt, szL l <= n -> (subsL l).length = szL l := by
   intro l
   induction l with
   | nil => intro _; rw [subsL_nil]; rfl
   | cons u r ih2 =>
    intro hl
    have e : szL (u :: r) = u.sz + szL r := rfl
    rw [subsL_cons, List.length_append, ih u (by lia), ih2 (by lia), e]
  rw [go t.ps (by have := sz_eq t; lia)]
theorem subs_sz : ∀ (n : Nat) (t : Bt), t.sz <= n -> ∀ u ∈ t.subs, u.sz <= t.sz := by
 intro n
 induction n with
 | zero => intro t h; have := sz_pos t; lia
 | succ n ih =>
  intro t h u hu
  rw [subs_eq] at hu
  rcases List.mem_cons.mp hu with rfl | hu
  ·exact Nat.le_refl _
  have go : ∀ l : List Bt, szL l <= n -> ∀ u ∈ subsL l, u.sz <= szL l := by
   intro l
   induction l with
   | nil => intro _ u h; rw [subsL_nil] at h; cases h
   | cons x r ih2 =>
    intro hl u hu
    have e : szL (x :: r) = x.sz + szL r := rfl
    rw [subsL_cons] at hu
    rcases List.mem_append.mp hu with hu | hu
    ·have := ih x (by lia) u hu; lia
    ·have := ih2 (by lia) u hu; lia
  have e := sz_eq t
  have := go t.ps (by lia) u hu
  lia
noncomputable def prtV (H : Hp) (v : V) : List V := match v with
 | .ref a => (match H a with
  | some (.tup [_, .ref b]) => (match H b with
   | some (.tup vs) => vs
   | _ => [])
  | _ => [])
 | _ => []
theorem RepT.prt {H : Hp} {n : Nat} {t : Bt} {v : V} (h : RepT H n t v) : ∃ a b, v = .ref a /\ H a = some (.tup [.str t.nm, .ref b]) /\ H b = some (.tup (prtV H v)) /\ Paired (RepT H n) t.ps (prtV H v) := by
 cases n with
 | zero => exact h.elim
 | succ n =>
  obtain ⟨a, b, vs, rfl, h1, h2, h3⟩ := h
  have e : prtV H (.ref a) = vs := by simp only [prtV, h1, h2]
  rw [e]
  exact ⟨a, b, rfl, h1, h2, Paired.mapP h3 fun _ _ r => RepT.up r⟩
theorem paired_at {α β : Type} {F : α -> β -> Prop} : ∀ {l : List α} {r : List β}, l.length = r.length -> (∀ (i : Nat) a b, l[i]? = some a -> r[i]? = some b -> F a b) -> Paired F l r
 | [], [], _, _ => .nil
 | [], _ :: _, h, _ => by cases h
 | _ :: _, [], h, _ => by cases h
 | a :: l, b :: r, h, k => .cons (k 0 a b rfl rfl) (paired_at (by rw [List.length_cons, List.length_cons] at h; lia) fun i x y e1 e2 => k (i + 1) x y e1 e2)
theorem Paired.appendP {α β : Type} {F : α -> β -> Prop} : ∀ {a c : List α} {b d : List β}, Paired F a b -> Paired F c d -> Paired F (a ++ c) (b ++ d)
 | _, _, _, _, .nil, h => h
 | _, _, _, _, .cons r t, h => .cons r (Paired.appendP t h)
theorem comp_enum {l : Addr} {xs : List V} {fr : List Nat} {te : TE} {Z : St} {H1 : Hp} {Q : VK} {α : Type} (hn : xs.length <= 1000) (hl : H1 l = some (.tup xs))
  (R : Hp -> α -> V -> Prop) (mono : ∀ {H H' : Hp} {a : α} {v : V}, TK H H' -> R H a v -> R H' a v) (g : Nat -> V -> α)
  (hte : ∀ i v H (k : VK), xs[i]? = some v -> Same H1 H -> (∀ u H', Same H H' -> R H' (g i v) u -> k u H') -> te (some (.int ((i : Nat) : Int)) :: some v :: caps fr Z) H k)
  (hd : ∀ p zs H', H1 p = none -> Same H1 H' -> H' p = some (.lst zs) -> zs.length = xs.length -> (∀ (i : Nat) v z, xs[i]? = some v -> zs[i]? = some z -> R H' (g i v) z) -> Q (.ref p) H') : tCompW2 fr te Z (Ite l) H1 Q := by
 intro p hp
 refine ⟨fun i m zs H => i <= xs.length /\ m = xs.length - i /\ Same H1 H /\ H p = some (.lst zs) /\ zs.length = i /\ (∀ (j : Nat) v z, xs[j]? = some v -> zs[j]? = some z -> R H (g j v) z), ⟨_, Nat.zero_le _, rfl, same_new hp _, upd_same, rfl, fun j v z _ h => by cases j <;> cases h⟩, ?_⟩
 rintro i m zs H ⟨hi, hm, sm, gp, hz, hT⟩
 refine ⟨gp, ?_⟩
 by_cases e : i = xs.length
 ·subst e
  exact .inl ⟨⟨xs, sm _ _ hl, rfl⟩, hd p zs H hp sm gp hz hT⟩
 ·have hlt : i < xs.length := by lia
  refine .inr ⟨⟨xs, xs[i], sm _ _ hl, List.getElem?_eq_getElem hlt⟩, small1000 (by lia), fun v H' hv => ?_⟩
  obtain ⟨T, x, hT0, rfl, rfl, hx⟩ := hv
  have hx := hx xs (sm _ _ hl)
  have sT := same_new hT0 (.tup [.int ((i : Nat) : Int), x])
  have gT : (upd H T (.tup [.int ((i : Nat) : Int), x])) T = some (.tup [.int ((i : Nat) : Int), x]) := upd_same
  generalize upd H T (.tup [.int ((i : Nat) : Int), x]) = H2 at sT gT ⊢
  refine ⟨T, _, _, rfl, gT, ?_⟩
  refine hte i x H2 _ hx (sm.trans sT) fun u H3 s3 r => ?_
  have gp3 := s3 _ _ (sT _ _ gp)
  have tk : TK H3 (upd H3 p (.lst (zs ++ [u]))) := TK.lst gp3
  refine ⟨gp3, xs.length - (i + 1), by lia, by lia, rfl, ?_, upd_same, by rw [List.length_append, hz]; rfl, fun j v z e1 e2 => ?_⟩
  ·intro b o hb
   rw [upd_ne (ne_of_none hb hp)]
   exact s3 _ _ (sT _ _ (sm _ _ hb))
  ·by_cases c : j < zs.length
   ·rw [List.getElem?_append_left c] at e2
    exact mono (((tk_of sT).trans (tk_of s3)).trans tk) (hT j v z e1 e2)
   ·rw [List.getElem?_append_right (by lia)] at e2
    have : j - zs.length = 0 := by
     have := (List.getElem?_eq_some_iff.mp e2).1
     have l1 : ([u] : List V).length = 1 := rfl
     lia
    rw [this] at e2
    cases e2
    have : j = i := by lia
    subst this
    rw [hx] at e1
    cases e1
    exact mono tk r
noncomputable def keyOf (pl : List Nat) : List Key := pl.map fun (k : Nat) => (Sum.inl ((k : Nat) : Int) : Key)
theorem keyOf_kV (pl : List Nat) : (keyOf pl).map kV = plV pl := by
 unfold keyOf plV
 rw [List.map_map]
 rfl
theorem keyOf_inj : ∀ {a b : List Nat}, keyOf a = keyOf b -> a = b
 | [], [], _ => rfl
 | [], _ :: _, h => by cases h
 | _ :: _, [], h => by cases h
 | x :: a, y :: b, h => by
  have h : (Sum.inl ((x : Nat) : Int) : Key) :: keyOf a = (Sum.inl ((y : Nat) : Int) : Key) :: keyOf b := h
  rw [List.cons.injEq] at h
  have e : ((x : Nat) : Int) = ((y : Nat) : Int) := Sum.inl.inj h.1
  rw [keyOf_inj h.2, show x = y by lia]
noncomputable def restP : List (List Nat × Bt) -> List (List Nat)
 | [] => []
 | (pl, u) :: r => u.places.map (fun p => pl ++ p) ++ restP r
theorem restP_append : ∀ (a b : List (List Nat × Bt)), restP (a ++ b) = restP a ++ restP b
 | [], b => rfl
 | (pl, u) :: r, b => by
  show u.places.map _ ++ restP (r ++ b) = (u.places.map _ ++ restP r) ++ restP b
  rw [restP_append r b, List.append_assoc]
noncomputable def kids (pl : List Nat) : Nat -> List Bt -> List (List Nat × Bt)
 | _, [] => []
 | k, x :: r => (pl ++ [k], x) :: kids pl (k + 1) r
theorem kids_len (pl : List Nat) : ∀ (l : List Bt) (k : Nat), (kids pl k l).length = l.length
 | [], _ => rfl
 | _ :: r, k => by show (kids pl (k + 1) r).length + 1 = r.length + 1; rw [kids_len pl r (k + 1)]
theorem kids_snd (pl : List Nat) : ∀ (l : List Bt) (k : Nat), (kids pl k l).map (·.2) = l
 | [], _ => rfl
 | t :: r, k => by
  show t :: (kids pl (k + 1) r).map (·.2) = t :: r
  rw [kids_snd pl r (k + 1)]
theorem kids_get (pl : List Nat) : ∀ (l : List Bt) (k i : Nat) (q : List Nat × Bt), (kids pl k l)[i]? = some q -> ∃ x, l[i]? = some x /\ q = (pl ++ [k + i], x)
 | [], _, i, q, h => by cases i <;> cases h
 | x :: r, k, 0, q, h => by cases h; exact ⟨x, rfl, rfl⟩
 | x :: r, k, i + 1, q, h => by
  obtain ⟨y, h1, h2⟩ := kids_get pl r (k + 1) i q h
  exact ⟨y, h1, by rw [h2, show k + 1 + i = k + (i + 1) by lia]⟩
theorem restP_kids (pl : List Nat) : ∀ (l : List Bt) (k : Nat), restP (kids pl k l) = (placesL k l).map (fun p => pl ++ p)
 | [], k => by rw [placesL_nil]; rfl
 | x :: r, k => by
  show x.places.map (fun p => (pl ++ [k]) ++ p) ++ restP (kids pl (k + 1) r) = _
  rw [restP_kids pl r (k + 1), placesL_cons, List.map_append, List.map_map]
  congr 1
  refine List.map_congr_left fun p _ => ?_
  show (pl ++ [k]) ++ p = pl ++ (k :: p)
  rw [List.append_assoc]; rfl
theorem restP_len : ∀ (l : List (List Nat × Bt)), l.length <= (restP l).length
 | [] => Nat.le_refl _
 | (pl, u) :: r => by
  show r.length + 1 <= (u.places.map _ ++ restP r).length
  rw [List.length_append, List.length_map]
  have := restP_len r
  have h := sz_pos u
  unfold Bt.sz at h
  lia
theorem placesL_head {l : List Bt} {k : Nat} {p : List Nat} (h : p ∈ placesL k l) : ∃ j p', p = (k + j) :: p' := by
 obtain ⟨j, u, p', _, e, _⟩ := placesL_mem h
 exact ⟨j, p', e⟩
theorem nodup_map_inj {α β : Type} {g : α -> β} (hg : ∀ a b, g a = g b -> a = b) : ∀ {l : List α}, l.Nodup -> (l.map g).Nodup
 | [], _ => List.nodup_nil
 | a :: l, h => by
  rw [List.map_cons, List.nodup_cons]
  rw [List.nodup_cons] at h
  refine ⟨fun z => ?_, nodup_map_inj hg h.2⟩
  obtain ⟨b, hb, e⟩ := List.mem_map.mp z
  exact h.1 (hg _ _ e ▸ hb)
theorem placesL_nodup : ∀ (l : List Bt), (∀ x ∈ l, x.places.Nodup) -> ∀ k, (placesL k l).Nodup
 | [], _, k => by rw [placesL_nil]; exact List.nodup_nil
 | x :: r, h, k => by
  rw [placesL_cons, List.nodup_append]
  refine ⟨nodup_map_inj (fun a b e => (List.cons.inj e).2) (h x List.mem_cons_self), placesL_nodup r (fun y hy => h y (List.mem_cons_of_mem _ hy)) (k + 1), fun a ha b hb e => ?_⟩
  obtain ⟨p, _, rfl⟩ := List.mem_map.mp ha
  obtain ⟨j, p', rfl⟩ := placesL_head hb
  have := (List.cons.inj e).1
  lia
theorem places_nodup : ∀ (n : Nat) (t : Bt), t.sz <= n -> t.places.Nodup
 | 0, t, h => by have := sz_pos t; lia
 | n + 1, t, h => by
  have e := sz_eq t
  rw [places_eq, List.nodup_cons]
  refine ⟨fun z => ?_, placesL_nodup _ (fun x hx => places_nodup n x ?_) 0⟩
  ·obtain ⟨j, p', q⟩ := placesL_head z
   cases q
  ·have := szL_mem hx
   lia
noncomputable def RepP (H : Hp) (n : Nat) (q : List Nat × Bt) (z : V) : Prop := ∃ c a u, z = .ref c /\ H c = some (.tup [.ref a, u]) /\ H a = some (.tup (plV q.1)) /\ RepT H n q.2 u
theorem RepP.mono {H H' : Hp} {n : Nat} {q : List Nat × Bt} {z : V} (t : TK H H') (h : RepP H n q z) : RepP H' n q z := by
 obtain ⟨c, a, u, e, h1, h2, h3⟩ := h
 exact ⟨c, a, u, e, t _ _ h1, t _ _ h2, h3.mono t⟩
inductive spByPlace  (vs : List V) (H : Hp) (Q : VK) (E_ : XK) : Prop
 | mk : ∀ n t tv, (vs = [tv]) -> (RepT H n t tv) -> (t.sz <= 1000) -> (∀ d kvs H', H d = none -> Same H H' -> H' d = some (.dT kvs) -> kvs.map (·.1) = t.places.map keyOf -> Paired (RepT H' n) t.subs (kvs.map (·.2)) -> Q (.ref d) H') -> spByPlace vs H Q E_
noncomputable abbrev NByPlace : List Str := ["tree", "boughs", "waiting", "pair", "below"]
theorem scByPlace : FnScope NByPlace ["tree"] (defScope sByPlace) := fsc
theorem ok_byPlace (F : Fun K "boughs_by_place" "boughs_by_place" sByPlace f fd) (hen : mg "enumerate" = none) : FnOk P w K mg base CX0 1 f fd ["tree"] spByPlace := by
 refine F.ok scByPlace (fun vs H Q E h => ?_) (fun cdv A outer s H vs Q E hr h => ?_)
 ·obtain ⟨n, t, tv, rfl, _⟩ := h
  rfl
 obtain ⟨n, t, tv, rfl, hT, hsz, q⟩ := h
 have hu := hu_of hr
 refine ⟨_, pss_cons (ps_set (i := 1) scByPlace.nd rfl (Or.inl rfl) pe_dnewT)
  (pss_cons (ps_set (i := 2) scByPlace.nd rfl (Or.inl rfl) (pe_lst (pa_cons (pe_tup (pa_cons (pe_tup pa_nil) (pa_cons (pv 0) pa_nil))) pa_nil)))
  (pss_cons (ps_while PassesOwn.never (pt_truth (pv 2) (fun _ => rfl))
   (pss_cons (ps_set (i := 3) scByPlace.nd rfl (Or.inr rfl) (pe_bm0 PySem.F.plainAttrs_list PySem.F.slot_list_pop PySem.F.type_list_pop mt_pop (pv 2)))
   (pss_cons (ps_dput hu (pv 1) (pe_ix (r := rIxT K) ix_tup (pv 3) pe_int (fun _ _ => rfl)) (pe_ix (r := rIxT K) ix_tup (pv 3) pe_int (fun _ _ => rfl)) rfl)
   (pss_cons (ps_setC2 (i := 4) (sc0 := defScope sByPlace) (N0 := NByPlace) (ys := ["pair"]) (fr := [3]) rfl scByPlace.nd rfl (Or.inl rfl) (pi_enum rfl hen (pa_cons (pe_ix (r := rIxT K) ix_tup (pe_ix (r := rIxT K) ix_tup (pv 3) pe_int (fun _ _ => rfl)) pe_int (fun _ _ => rfl)) pa_nil)) rfl rfl
    ⟨rfl, by decide +kernel, by decide +kernel, by decide +kernel, by decide +kernel, by decide +kernel, by decide +kernel, rfl, by decide +kernel⟩
    (fun C s H ex => pe_tup (pa_cons (pe_op (r := rCatTA K) op_catTB (pe_ix (r := rIxT K) ix_tup (pv 2) pe_int (fun _ _ => rfl)) (pe_tup (pa_cons (pv 0) pa_nil))) (pa_cons (pv 1) pa_nil))))
   (pss_one (ps_expr (pe_bm PySem.F.plainAttrs_list PySem.F.slot_list_extend PySem.F.type_list_extend mt_extend (pv 2) (pa_cons (pe_step (pv 4) (pe_un un_neg pe_int)) pa_nil))))))))
  (pss_one (ps_ret (pv 1))))), ?_⟩
 refine fun d hd => ?_
 have s0 := same_new hd (.dT [])
 have g0 : (upd H d (.dT [])) d = some (.dT []) := upd_same
 generalize upd H d (.dT []) = H0 at s0 g0 ⊢
 refine ⟨(by show 0 <= sizeLine; decide), fun e0 he0 => ?_⟩
 have s1 := same_new he0 (.tup [])
 have g1 : (upd H0 e0 (.tup [])) e0 = some (.tup []) := upd_same
 generalize upd H0 e0 (.tup []) = H1 at s1 g1 ⊢
 refine ⟨_, rfl, (by show 2 <= sizeLine; decide), fun c0 hc0 => ?_⟩
 have s2 := same_new hc0 (.tup [.ref e0, tv])
 have g2 : (upd H1 c0 (.tup [.ref e0, tv])) c0 = some (.tup [.ref e0, tv]) := upd_same
 generalize upd H1 c0 (.tup [.ref e0, tv]) = H2 at s2 g2 ⊢
 refine ⟨(by show 1 <= sizeLine; decide), fun l hl => ?_⟩
 have s3 := same_new hl (.lst [.ref c0])
 have g3 : (upd H2 l (.lst [.ref c0])) l = some (.lst [.ref c0]) := upd_same
 generalize upd H2 l (.lst [.ref c0]) = H3 at s3 g3 ⊢
 have S3 : Same H H3 := ((s0.trans s1).trans s2).trans s3
 have hl0 : H l = none := ((s0.trans s1).trans s2).free hl
 have hld : l ≠ d := fun z => by rw [z, s2 _ _ (s1 _ _ g0)] at hl; cases hl
 refine ⟨fun m Z H' => ∃ (Wt : List (List Nat × Bt)) (ws : List V) (kvs : List (List Key × V)) (done : List (List Nat)) (dn : List Bt) (o3 o4 : Option V), Z = [some tv, some (.ref d), some (.ref l), o3, o4] /\ Same H H' /\ H' d = some (.dT kvs) /\ H' l = some (.lst ws.reverse) /\
   Paired (RepP H' n) Wt ws /\ kvs.map (·.1) = done.map keyOf /\ done ++ restP Wt = t.places /\ Paired (RepT H' n) dn (kvs.map (·.2)) /\ dn ++ subsL (Wt.map (·.2)) = t.subs /\ m = (restP Wt).length,
  ⟨_, [([], t)], [.ref c0], [], [], [], none, none, rfl, S3, s3 _ _ (s2 _ _ (s1 _ _ g0)), g3, .cons ⟨c0, e0, tv, rfl, s3 _ _ g2, s3 _ _ (s2 _ _ g1), hT.mono (tk_of S3)⟩ .nil, rfl, ?_, .nil, subsL_one t, rfl⟩, ?_⟩
 ·show [] ++ (t.places.map (fun p => [] ++ p) ++ []) = t.places
  rw [List.append_nil, List.nil_append]
  exact List.map_id _
 clear g3 S3 s3 g2 s2 g1 s1 g0 s0 hl hc0 he0
 rintro m Z H4 ⟨Wt, ws, kvs, done, dn, o3, o4, rfl, S4, gd, gl, hP, hk, hall, hdn, hsub, rfl⟩
 have hlen : done.length + (restP Wt).length = t.sz := by
  have := congrArg List.length hall
  rw [List.length_append] at this
  exact this
 refine ⟨_, rfl, _, .inl ⟨ws.reverse, SqL.of gl, rfl⟩, ?_⟩
 cases hP with
 | nil =>
  refine iteF ?_
  have e : done = t.places := by rw [<- hall]; exact (List.append_nil _).symm
  have e2 : dn = t.subs := by rw [<- hsub]; show dn = dn ++ subsL []; rw [subsL_nil, List.append_nil]
  exact ⟨_, rfl, q d kvs H4 hd S4 gd (by rw [hk, e]) (by rw [<- e2]; exact hdn)⟩
 | @cons qh z W' rs hz hP' =>
  have ne : (!((z :: rs).reverse).isEmpty) = true := by simp
  refine ite2 (fun _ => ?_) (fun c => absurd ne c)
  refine ⟨_, fun Z' H'' h => h, ?_⟩
  rw [List.reverse_cons] at gl
  refine ⟨_, rfl, .inl ⟨rfl, _, SqL.of gl⟩, l, _, z, rfl, rfl, gl, by simp, ?_⟩
  rw [List.dropLast_concat]
  obtain ⟨pl, u⟩ := qh
  have tk5 : TK H4 (upd H4 l (.lst rs.reverse)) := TK.lst gl
  have S5 : Same H (upd H4 l (.lst rs.reverse)) := fun y oo h => by
   rw [upd_ne (ne_of_none h hl0)]
   exact S4 _ _ h
  have gl5 : (upd H4 l (.lst rs.reverse)) l = some (.lst rs.reverse) := upd_same
  have gd5 : (upd H4 l (.lst rs.reverse)) d = some (.dT kvs) := by rw [upd_ne (Ne.symm hld)]; exact gd
  have hz5 := RepP.mono tk5 hz
  have hP5 : Paired (RepP (upd H4 l (.lst rs.reverse)) n) W' rs := Paired.mapP hP' fun _ _ r => r.mono tk5
  have hd5 : Paired (RepT (upd H4 l (.lst rs.reverse)) n) dn (kvs.map (·.2)) := Paired.mapP hdn fun _ _ r => r.mono tk5
  generalize upd H4 l (.lst rs.reverse) = H5 at tk5 S5 gl5 gd5 hz5 hP5 hd5 ⊢
  clear hz hP' gl gd S4 tk5 hdn
  obtain ⟨c, a, uv, rfl, hc, ha, hu5⟩ := hz5
  have hrest : restP ((pl, u) :: W') = pl :: ((placesL 0 u.ps).map (fun p => pl ++ p) ++ restP W') := by
   show u.places.map (fun p => pl ++ p) ++ restP W' = _
   rw [places_eq, List.map_cons, List.append_nil]; rfl
  rw [hrest] at hall hlen ⊢
  rw [List.length_cons] at hlen
  have hnew : valV kvs (keyOf pl) = none := by
   cases hv : valV kvs (keyOf pl) with
   | none => rfl
   | some v =>
    have hm := valV_in hv
    rw [hk] at hm
    obtain ⟨p', hp', e⟩ := List.mem_map.mp hm
    rw [keyOf_inj e] at hp'
    have nd := places_nodup t.sz t (Nat.le_refl _)
    rw [<- hall, List.nodup_append] at nd
    exact absurd rfl (nd.2.2 pl hp' pl List.mem_cons_self)
  have lkv : kvs.length = done.length := by
   have := congrArg List.length hk
   rw [List.length_map, List.length_map] at this
   exact this
  refine ⟨_, rfl, c, _, 1, uv, rfl, rfl, SqT.of hc, atI_nat (j := 1) rfl, _, rfl, _, rfl, c, _, 0, .ref a, rfl, rfl, SqT.of hc, atI_nat (j := 0) rfl, d, _, rfl, DPut.t gd5 (k := keyOf pl) (by rw [keyOf_kV]; exact ha) (small1000 (by lia)), ?_⟩
  rw [putK_new _ hnew]
  have tk6 : TK H5 (upd H5 d (.dT (kvs ++ [(keyOf pl, uv)]))) := fun b xs e => by
   rw [upd_ne (fun z => by rw [z, gd5] at e; cases e)]; exact e
  have S6 : Same H (upd H5 d (.dT (kvs ++ [(keyOf pl, uv)]))) := fun y oo h => by
   rw [upd_ne (ne_of_none h hd)]
   exact S5 _ _ h
  have gl6 : (upd H5 d (.dT (kvs ++ [(keyOf pl, uv)]))) l = some (.lst rs.reverse) := by rw [upd_ne hld]; exact gl5
  have gd6 : (upd H5 d (.dT (kvs ++ [(keyOf pl, uv)]))) d = some (.dT (kvs ++ [(keyOf pl, uv)])) := upd_same
  have hc6 := tk6 _ _ hc
  have ha6 := tk6 _ _ ha
  have hu6 := hu5.mono tk6
  have hP6 : Paired (RepP (upd H5 d (.dT (kvs ++ [(keyOf pl, uv)]))) n) W' rs := Paired.mapP hP5 fun _ _ r => r.mono tk6
  have hd6 : Paired (RepT (upd H5 d (.dT (kvs ++ [(keyOf pl, uv)]))) n) dn (kvs.map (·.2)) := Paired.mapP hd5 fun _ _ r => r.mono tk6
  generalize upd H5 d (.dT (kvs ++ [(keyOf pl, uv)])) = H6 at tk6 S6 gl6 gd6 hc6 ha6 hu6 hP6 hd6 ⊢
  clear hc ha hu5 hP5 hd5 gl5 gd5 S5 tk6
  obtain ⟨ua, ub, rfl, hua, hub, hps⟩ := hu6.prt
  have hpl : u.ps.length = (prtV H6 (.ref ua)).length := Paired.length hps
  have hszu : (placesL 0 u.ps).length = szL u.ps := placesL_len _ _
  have hkl := szL_len u.ps
  rw [List.length_append, List.length_map] at hlen
  refine ⟨_, rfl, c, _, 1, .ref ua, rfl, rfl, SqT.of hc6, atI_nat (j := 1) rfl, ua, _, 1, .ref ub, rfl, rfl, SqT.of hua, atI_nat (j := 1) rfl, ub, _, rfl, hub, ?_⟩
  refine comp_enum (by lia) hub (fun H q z => ∃ c a, z = .ref c /\ H c = some (.tup [.ref a, q.2]) /\ H a = some (.tup q.1)) (fun t ⟨c, a, e, h1, h2⟩ => ⟨c, a, e, t _ _ h1, t _ _ h2⟩) (fun i v => (plV pl ++ [V.int ((i : Nat) : Int)], v)) ?_ ?_
  ·intro i v H7 k hv s7 hk7
   refine ⟨_, rfl, c, _, 0, .ref a, rfl, rfl, SqT.of (s7 _ _ hc6), atI_nat (j := 0) rfl, _, rfl, (by show 1 <= sizeLine; decide), fun q1 hq1 => ?_⟩
   have s8 := same_new hq1 (.tup [V.int ((i : Nat) : Int)])
   have g8 : (upd H7 q1 (.tup [V.int ((i : Nat) : Int)])) q1 = some (.tup [V.int ((i : Nat) : Int)]) := upd_same
   generalize upd H7 q1 (.tup [V.int ((i : Nat) : Int)]) = H8 at s8 g8 ⊢
   have ha8 := s8 _ _ (s7 _ _ ha6)
   have lpl : (plV pl).length = pl.length := List.length_map _
   have hplm : pl ∈ t.places := by rw [<- hall]; exact List.mem_append_right _ List.mem_cons_self
   have hshort := places_short t.sz t (Nat.le_refl _) pl hplm
   have fin : ∀ (b : Addr) (H9 : Hp), Same H8 H9 -> H9 b = some (.tup (plV pl ++ [V.int ((i : Nat) : Int)])) -> ∀ p, H9 p = none -> k (.ref p) (upd H9 p (.tup [.ref b, v])) := fun b H9 s9 gb p hp =>
    hk7 _ _ ((s8.trans s9).trans (same_new hp _)) ⟨p, b, rfl, upd_same, (same_new hp _) _ _ gb⟩
   refine ⟨a, q1, _, _, rfl, rfl, SqT.of ha8, SqT.of g8, ?_, fun e => ?_, fun _ e => (by cases e), fun _ _ b hb => ?_⟩
   ·rw [lpl]; exact Nat.le_of_lt (small1000 (by show pl.length + 1 <= 1000; lia))
   ·refine ⟨_, rfl, (by show 2 <= sizeLine; decide), fun p hp => fin q1 H8 (fun _ _ h => h) (by rw [e]; exact g8) p hp⟩
   ·refine ⟨_, rfl, (by show 2 <= sizeLine; decide), fun p hp => fin b _ (same_new hb _) upd_same p hp⟩
  ·intro pb zb H7 hpb s7 gpb lzb hzb
   have gl7 := s7 _ _ gl6
   refine ⟨_, rfl, .inl ⟨rfl, _, SqL.of gl7⟩, _, rfl, _, rfl, pb, zb, -1, rfl, rfl, SqL.of gpb, by decide, fun b hb => ?_⟩
   rw [stepV_neg]
   have s8 := same_new hb (.lst zb.reverse)
   have g8 : (upd H7 b (.lst zb.reverse)) b = some (.lst zb.reverse) := upd_same
   generalize upd H7 b (.lst zb.reverse) = H8 at s8 g8 ⊢
   have gl8 := s8 _ _ gl7
   have S8 : Same H6 H8 := s7.trans s8
   have lrs : W'.length = rs.length := Paired.length hP6
   have lW := restP_len W'
   refine ⟨l, b, _, _, rfl, rfl, gl8, g8, ?_, ?_⟩
   ·rw [List.length_reverse, List.length_reverse]
    exact Nat.le_of_lt (small1000 (by lia))
   have tk9 : TK H8 (upd H8 l (.lst (rs.reverse ++ zb.reverse))) := TK.lst gl8
   have hrk : restP (kids pl 0 u.ps ++ W') = (placesL 0 u.ps).map (fun p => pl ++ p) ++ restP W' := by rw [restP_append, restP_kids]
   refine ⟨_, ?_, kids pl 0 u.ps ++ W', zb ++ rs, kvs ++ [(keyOf pl, .ref ua)], done ++ [pl], dn ++ [u], _, _, rfl, ?_, ?_, ?_, ?_, ?_, ?_, ?_, ?_, rfl⟩
   ·rw [hrk, List.length_cons]; lia
   ·intro y oo h
    rw [upd_ne (ne_of_none h hl0)]
    exact S8 _ _ (S6 _ _ h)
   ·rw [upd_ne (Ne.symm hld)]; exact S8 _ _ gd6
   ·rw [upd_same, List.reverse_append]
   ·refine Paired.appendP (paired_at (by rw [kids_len, lzb]; exact hpl) fun i qq z e1 e2 => ?_) (Paired.mapP hP6 fun _ _ r => (r.mono (tk_of S8)).mono tk9)
    obtain ⟨x, hx, rfl⟩ := kids_get pl u.ps 0 i qq e1
    obtain ⟨xv, hxv, rx⟩ := paired_get' hps hx
    obtain ⟨c', a', rfl, h1, h2⟩ := hzb i xv z hxv e2
    refine ⟨c', a', xv, rfl, tk9 _ _ (s8 _ _ h1), tk9 _ _ (s8 _ _ ?_), (rx.mono (tk_of S8)).mono tk9⟩
    rw [h2]
    show some (HO.tup (plV pl ++ [V.int ((i : Nat) : Int)])) = some (HO.tup (plV (pl ++ [0 + i])))
    rw [Nat.zero_add]
    unfold plV
    rw [List.map_append]; rfl
   ·rw [List.map_append, List.map_append, hk]; rfl
   ·rw [hrk, List.append_assoc]; exact hall
   ·rw [List.map_append]
    exact Paired.appendP (Paired.mapP hd6 fun _ _ r => (r.mono (tk_of S8)).mono tk9) (.cons ((hu6.mono (tk_of S8)).mono tk9) .nil)
   ·rw [<- hsub, List.map_append, kids_snd, List.map_cons, subsL_nxt, List.append_assoc]; rfl
structure BkS (bk : Bk) : Prop where
 few : bk.forms.length <= 10
 nd : (bk.forms.map Frm.name).Nodup
 s4 : bk.sorts.length <= 4
 sd : (bk.sorts.map Srt.name).Nodup
 ws : ∀ s ∈ bk.sorts, s.downs.length <= 3 /\ s.ups.length <= 3 /\ (s.downs ++ s.ups).Nodup /\ ∀ x ∈ s.downs ++ s.ups, x.length <= 1000
 fo : ∀ fr ∈ bk.forms, fr.own ∈ bk.sorts /\ (∀ q ∈ fr.parts, q ∈ bk.sorts) /\ fr.parts.length <= 3 /\ fr.rules.map (fun r => (r.pl, r.word)) = tgts fr.own fr.parts /\ ∀ r ∈ fr.rules, r.fm.wf /\ r.fm.size <= 15
theorem BookOk.s {bk : Bk} (h : BookOk bk) : BkS bk := by
 obtain ⟨mode, _, hf⟩ := h.fo
 refine ⟨h.few, h.nd, h.so.2.1, h.so.2.2.1, fun s hs => ⟨(h.so.2.2.2.2 s hs).2.2.1, (h.so.2.2.2.2 s hs).2.2.2.1, (h.so.2.2.2.2 s hs).1, fun x hx => word_short ((h.so.2.2.2.2 s hs).2.1 x hx)⟩, fun fr m => ?_⟩
 obtain ⟨h1, h2, h3, h4, h5⟩ := hf fr m
 refine ⟨h1, h2, h3, h4, fun r hr => ?_⟩
 obtain ⟨j, hj⟩ := List.getElem?_of_mem hr
 exact ⟨(h5 j r hj).1.wf, (h5 j r hj).2⟩
theorem tgFrom_le {k : Int} : ∀ {qs : List Srt}, (∀ q ∈ qs, q.downs.length <= 3) -> (tgFrom k qs).length <= 3 * qs.length
 | [], _ => Nat.le_refl _
 | q :: r, h => by
  have h1 := tgFrom_le (k := k + 1) (qs := r) fun x hx => h x (List.mem_cons_of_mem _ hx)
  have h2 := h q List.mem_cons_self
  show (q.downs.map (fun x => (k, x)) ++ tgFrom (k + 1) r).length <= _
  rw [List.length_append, List.length_map, List.length_cons]
  lia
theorem BkS.rules12 {bk : Bk} (h : BkS bk) {fr : Frm} (m : fr ∈ bk.forms) : fr.rules.length <= 12 := by
 obtain ⟨h1, h2, h3, h4, _⟩ := h.fo fr m
 have e := congrArg List.length h4
 rw [List.length_map] at e
 have h5 := tgFrom_le (k := 0) (qs := fr.parts) fun q hq => (h.ws q (h2 q hq)).1
 have h6 := (h.ws _ h1).2.1
 have h7 : (tgts fr.own fr.parts).length = fr.own.ups.length + (tgFrom 0 fr.parts).length := by
  unfold tgts
  rw [List.length_append, List.length_map]
 lia
theorem mem_tgFrom {k : Int} : ∀ {qs : List Srt} {j : Nat} {q : Srt} {x : Str}, qs[j]? = some q -> x ∈ q.downs -> (k + (j : Int), x) ∈ tgFrom k qs
 | [], j, _, _, h, _ => by cases j <;> cases h
 | q :: r, 0, _, x, h, hx => by
  cases h
  show (k + ((0 : Nat) : Int), x) ∈ q.downs.map (fun x => (k, x)) ++ tgFrom (k + 1) r
  rw [show k + ((0 : Nat) : Int) = k by lia]
  exact List.mem_append_left _ (List.mem_map.mpr ⟨x, hx, rfl⟩)
 | q :: r, j + 1, _, x, h, hx => by
  have := mem_tgFrom (k := k + 1) (qs := r) (j := j) h hx
  show (k + ((j + 1 : Nat) : Int), x) ∈ q.downs.map (fun x => (k, x)) ++ tgFrom (k + 1) r
  rw [show k + ((j + 1 : Nat) : Int) = k + 1 + (j : Int) by lia]
  exact List.mem_append_right _ this
theorem BkS.down {bk : Bk} (h : BkS bk) {fr : Frm} (m : fr ∈ bk.forms) {j : Nat} {q : Srt} {x : Str} (hq : fr.parts[j]? = some q) (hx : x ∈ q.downs) : ∃ r ∈ fr.rules, r.pl = (j : Int) /\ r.word = x := by
 obtain ⟨_, _, _, h4, _⟩ := h.fo fr m
 have h5 : ((j : Int), x) ∈ fr.rules.map (fun r => (r.pl, r.word)) := by
  rw [h4]
  have := mem_tgFrom (k := 0) hq hx
  rw [Int.zero_add] at this
  exact List.mem_append_right _ this
 obtain ⟨r, hr, e⟩ := List.mem_map.mp h5
 exact ⟨r, hr, (Prod.mk.inj e).1, (Prod.mk.inj e).2⟩
theorem BkS.up {bk : Bk} (h : BkS bk) {fr : Frm} (m : fr ∈ bk.forms) {x : Str} (hx : x ∈ fr.own.ups) : ∃ r ∈ fr.rules, r.pl = -1 /\ r.word = x := by
 obtain ⟨_, _, _, h4, _⟩ := h.fo fr m
 have h5 : ((-1 : Int), x) ∈ fr.rules.map (fun r => (r.pl, r.word)) := by
  rw [h4]
  exact List.mem_append_left _ (List.mem_map.mpr ⟨x, hx, rfl⟩)
 obtain ⟨r, hr, e⟩ := List.mem_map.mp h5
 exact ⟨r, hr, (Prod.mk.inj e).1, (Prod.mk.inj e).2⟩
inductive spFormsOf  (vs : List V) (H : Hp) (Q : VK) (E_ : XK) : Prop
 | mk : ∀ bv bk, (vs = [bv]) -> (RepB H bk bv) -> (∀ fa fv, H fa = some (.tup fv) -> RepFs H bk.forms fv -> Q (.ref fa) H) -> spFormsOf vs H Q E_
inductive spSortOfForm  (vs : List V) (H : Hp) (Q : VK) (E_ : XK) : Prop
 | mk : ∀ v fr, (vs = [v]) -> (RepF H fr v) -> (Q (.str fr.own.name) H) -> spSortOfForm vs H Q E_
inductive spFormNamed  (vs : List V) (H : Hp) (Q : VK) (E_ : XK) : Prop
 | mk : ∀ bv bk nm fr, (vs = [bv, .str nm]) -> (RepB H bk bv) -> (BkS bk) -> (fr ∈ bk.forms) -> (Frm.name fr = nm) -> (∀ v H', Same H H' -> RepF H' fr v -> Q v H') -> spFormNamed vs H Q E_
inductive spSortOf  (vs : List V) (H : Hp) (Q : VK) (E_ : XK) : Prop
 | mk : ∀ bv bk a nm r fr, (vs = [bv, .ref a]) -> (RepB H bk bv) -> (BkS bk) -> (H a = some (.tup (.str nm :: r))) -> (fr ∈ bk.forms) -> (Frm.name fr = nm) -> (∀ H', Same H H' -> Q (.str fr.own.name) H') -> spSortOf vs H Q E_
theorem frm_inj {l : List Frm} (nd : (l.map Frm.name).Nodup) {a b : Frm} (ha : a ∈ l) (hb : b ∈ l) (e : a.name = b.name) : a = b := by
 obtain ⟨i, hi⟩ := List.getElem?_of_mem ha
 obtain ⟨j, hj⟩ := List.getElem?_of_mem hb
 have q1 : (l.map Frm.name)[i]? = some a.name := by rw [List.getElem?_map, hi]; rfl
 have q2 : (l.map Frm.name)[j]? = some a.name := by rw [List.getElem?_map, hj, e]; rfl
 have := nodup_ix nd q1 q2
 subst this
 rw [hi] at hj
 exact Option.some.inj hj
theorem scFormsOf : FnScope ["book"] ["book"] (defScope sFormsOf) := fsc
theorem ok_formsOf (F : Fun K "forms_of" "forms_of" sFormsOf f fd) : FnOk P w K mg base CX0 1 f fd ["book"] spFormsOf := by
 refine F.ok scFormsOf (fun vs H Q E h => ?_) (fun cdv A outer s H vs Q E hr h => ?_)
 ·obtain ⟨bv, bk, rfl, _⟩ := h
  rfl
 obtain ⟨bv, bk, rfl, ⟨a, sa, fa, fv, rfl, ha, _, hfa, hF⟩, q⟩ := h
 refine ⟨_, pss_one (ps_ret (pe_ix (r := rIxT K) ix_tup (pv 0) pe_int (fun _ _ => rfl))), ?_⟩
 exact ⟨_, rfl, a, _, 2, _, rfl, rfl, SqT.of ha, atI_nat (j := 2) rfl, q fa fv hfa hF⟩
theorem scSortOfForm : FnScope ["form"] ["form"] (defScope sSortOfForm) := fsc
theorem ok_sortOfForm (F : Fun K "sort_of_form" "sort_of_form" sSortOfForm f fd) : FnOk P w K mg base CX0 1 f fd ["form"] spSortOfForm := by
 refine F.ok scSortOfForm (fun vs H Q E h => ?_) (fun cdv A outer s H vs Q E hr h => ?_)
 ·obtain ⟨v, fr, rfl, _⟩ := h
  rfl
 obtain ⟨v, fr, rfl, ⟨a, pa, ra, rv, rfl, ha, _⟩, q⟩ := h
 refine ⟨_, pss_one (ps_ret (pe_ix (r := rIxT K) ix_tup (pv 0) pe_int (fun _ _ => rfl))), ?_⟩
 exact ⟨_, rfl, a, _, 1, _, rfl, rfl, SqT.of ha, atI_nat (j := 1) rfl, q⟩
theorem scFormNamed : FnScope ["book", "name"] ["book", "name"] (defScope sFormNamed) := fsc
theorem ok_formNamed (F : Fun K "form_named" "form_named" sFormNamed f fd)
  (GF : FnOk P w K mg base CX0 1 f2 fd2 ["book"] spFormsOf) (bF : Binds K fd2 ["book"] []) (kF : PySem.W.keepIn K (.ref f2) = true) (mF : mg "forms_of" = some (.ref f2)) : FnOk P w K mg base CX0 2 f fd ["book", "name"] spFormNamed := by
 refine F.ok scFormNamed (fun vs H Q E h => ?_) (fun cdv A outer s H vs Q E hr h => ?_)
 ·obtain ⟨bv, bk, nm, fr, rfl, _⟩ := h
  rfl
 obtain ⟨bv, bk, nm, fr, rfl, hB, hok, hf, hn, q⟩ := h
 refine ⟨_, pss_one (ps_ret (pe_ix (r := rIxL K) ix_list (pe_compT (sc0 := defScope sFormNamed) (N0 := ["book", "name"]) (ys := ["name"]) (fr := [1]) rfl
   (pi_tup (pe_call GF hr rfl mF kF bF .nil pass0 (pa_cons (pv 0) pa_nil))) rfl rfl
   cok
   (fun C s H ex => pt_cmpR op_eq (pe_ix (r := rIxT K) ix_tup (pv 0) pe_int (fun _ _ => rfl)) (pv 1) (nomark _))
   (fun C s H ex => pv 0)) pe_int (fun _ _ => rfl))), ?_⟩
 refine ⟨_, rfl, bv, bk, rfl, hB, fun fa fv hfa hF => ?_⟩
 have h10 := hok.few
 have lF := hF.len
 refine ⟨fa, rfl, ⟨fv, SqT.of hfa⟩, ?_⟩
 refine compT_mk (by lia) hF (itt_go hfa) (itt_st hfa) (itt_y hfa) (fun fr => decide (Frm.name fr = nm)) (fun H fr v => RepF H fr v) (fun t h => h.mono t) ?_ ?_ ?_
 ·rintro fr' v H' k _ ⟨a, pa, ra, rv, rfl, ha, _⟩ s' hk
  refine ⟨_, rfl, a, _, 0, _, rfl, rfl, SqT.of (s' _ _ ha), atI0, _, rfl, rfl, _, rfl, ?_⟩
  have : decide (V.str fr'.name = V.str nm) = decide (fr'.name = nm) := by
   by_cases c : fr'.name = nm
   ·rw [decide_eq_true c, decide_eq_true (by rw [c])]
   ·rw [decide_eq_false c, decide_eq_false fun e => c (V.str.inj e)]
  rw [this]
  exact hk
 ·rintro fr' v H' k _ hA _ s' hk
  exact ⟨_, rfl, hk _ _ (fun _ _ h => h) (hA.mono (tk_of s'))⟩
 intro p zs H' hp s' gp hz
 cases hz0 : bk.forms.filter (fun fr => decide (Frm.name fr = nm)) with
 | nil =>
  have : fr ∈ bk.forms.filter (fun fr => decide (Frm.name fr = nm)) := List.mem_filter.mpr ⟨hf, decide_eq_true hn⟩
  rw [hz0] at this
  cases this
 | cons fr' rest =>
  rw [hz0] at hz
  cases hz with
  | @cons _ z _ _ hz1 _ =>
   have hm : fr' ∈ bk.forms.filter (fun fr => decide (Frm.name fr = nm)) := by rw [hz0]; exact List.mem_cons_self
   obtain ⟨m1, m2⟩ := List.mem_filter.mp hm
   have := frm_inj hok.nd m1 hf ((of_decide_eq_true m2).trans hn.symm)
   subst this
   exact ⟨p, _, 0, z, rfl, rfl, SqL.of gp, atI0, q z H' s' hz1⟩
theorem scSortOf : FnScope ["book", "tree"] ["book", "tree"] (defScope sSortOf) := fsc
theorem ok_sortOf (F : Fun K "sort_of" "sort_of" sSortOf f fd)
  (GF : FnOk P w K mg base CX0 2 f2 fd2 ["book", "name"] spFormNamed) (bF : Binds K fd2 ["book", "name"] []) (kF : PySem.W.keepIn K (.ref f2) = true) (mF : mg "form_named" = some (.ref f2))
  (GS : FnOk P w K mg base CX0 1 f3 fd3 ["form"] spSortOfForm) (bS : Binds K fd3 ["form"] []) (kS : PySem.W.keepIn K (.ref f3) = true) (mS : mg "sort_of_form" = some (.ref f3)) : FnOk P w K mg base CX0 3 f fd ["book", "tree"] spSortOf := by
 refine F.ok scSortOf (fun vs H Q E h => ?_) (fun cdv A outer s H vs Q E hr h => ?_)
 ·obtain ⟨bv, bk, a, nm, r, fr, rfl, _⟩ := h
  rfl
 obtain ⟨bv, bk, a, nm, r, fr, rfl, hB, hok, ha, hf, hn, q⟩ := h
 have hr1 := hr.mono (show 1 <= 2 by lia)
 refine ⟨_, pss_one (ps_ret (pe_call GS hr1 rfl mS kS bS .nil pass0 (pa_cons (pe_call GF hr rfl mF kF bF .nil pass0 (pa_cons (pv 0) (pa_cons (pe_ix (r := rIxT K) ix_tup (pv 1) pe_int (fun _ _ => rfl)) pa_nil))) pa_nil))), ?_⟩
 exact ⟨_, rfl, _, rfl, a, _, 0, _, rfl, rfl, SqT.of ha, atI0, bv, bk, nm, fr, rfl, hB, hok, hf, hn, fun v H' s' hR => ⟨v, fr, rfl, hR, q H' s'⟩⟩
theorem comp_pr {J : It} {α : Type} {as : List α} {A : α -> V -> Prop} {xs : List V} {fr : List Nat} {te : TE} {Z : St} {H1 : Hp} {Q : VK} (hn : xs.length <= 1000) (hP : Paired A as xs)
  (hgo : ∀ i H, Same H1 H -> i < xs.length -> J.go i H) (hst : ∀ H, Same H1 H -> J.stop xs.length H) (hy : ∀ i H v H', i < xs.length -> Same H1 H -> J.yld i H v H' -> H' = H /\ xs[i]? = some v)
  (R : Hp -> α -> V -> Prop) (mono : ∀ {H H' : Hp} {a : α} {v : V}, TK H H' -> R H a v -> R H' a v)
  (hte : ∀ a v H (k : VK), a ∈ as -> A a v -> Same H1 H -> (∀ u H', Same H H' -> R H' a u -> k u H') -> te (some v :: caps fr Z) H k)
  (hd : ∀ p zs H', H1 p = none -> Same H1 H' -> H' p = some (.lst zs) -> Paired (R H') as zs -> Q (.ref p) H') : tCompW fr te Z J H1 Q := by
 intro p hp
 have hl : as.length = xs.length := Paired.length hP
 refine ⟨fun i m zs H => i <= xs.length /\ m = xs.length - i /\ Same H1 H /\ H p = some (.lst zs) /\ zs.length = i /\ Paired (R H) (as.take i) zs, ⟨_, Nat.zero_le _, rfl, same_new hp _, upd_same, rfl, .nil⟩, ?_⟩
 rintro i m zs H ⟨hi, hm, sm, gp, hz, hT⟩
 refine ⟨gp, ?_⟩
 by_cases e : i = xs.length
 ·subst e
  rw [<- hl, List.take_length] at hT
  exact .inl ⟨hst H sm, hd p zs H hp sm gp hT⟩
 ·have hlt : i < xs.length := by lia
  refine .inr ⟨hgo i H sm hlt, small1000 (by lia), fun v H' hv => ?_⟩
  obtain ⟨rfl, hv2⟩ := hy i H v H' hlt sm hv
  obtain ⟨a, ha, hA⟩ := paired_get hP hv2
  refine hte a v _ _ (List.mem_of_getElem? ha) hA sm fun u H2 s2 r => ?_
  have gp2 := s2 _ _ gp
  have tk : TK H2 (upd H2 p (.lst (zs ++ [u]))) := TK.lst gp2
  refine ⟨gp2, xs.length - (i + 1), by lia, by lia, rfl, ?_, upd_same, by rw [List.length_append, hz]; rfl, ?_⟩
  ·intro b o hb
   rw [upd_ne (ne_of_none hb hp)]
   exact s2 _ _ (sm _ _ hb)
  ·rw [List.take_add_one, ha]
   exact Paired.snoc (Paired.mapP hT fun _ _ r => mono ((tk_of s2).trans tk) r) (mono tk r)
inductive spSortsOf  (vs : List V) (H : Hp) (Q : VK) (E_ : XK) : Prop
 | mk : ∀ bv bk, (vs = [bv]) -> (RepB H bk bv) -> (∀ sa sv, H sa = some (.tup sv) -> RepSs H bk.sorts sv -> Q (.ref sa) H) -> spSortsOf vs H Q E_
inductive spSortNamed  (vs : List V) (H : Hp) (Q : VK) (E_ : XK) : Prop
 | mk : ∀ bv bk nm s, (vs = [bv, .str nm]) -> (RepB H bk bv) -> (BkS bk) -> (s ∈ bk.sorts) -> (Srt.name s = nm) -> (∀ v H', Same H H' -> RepS H' s v -> Q v H') -> spSortNamed vs H Q E_
inductive spDowns  (vs : List V) (H : Hp) (Q : VK) (E_ : XK) : Prop
 | mk : ∀ bv bk nm s, (vs = [bv, .str nm]) -> (RepB H bk bv) -> (BkS bk) -> (s ∈ bk.sorts) -> (Srt.name s = nm) -> (∀ b H', Same H H' -> H' b = some (.tup (List.map V.str (Srt.downs s))) -> Q (.ref b) H') -> spDowns vs H Q E_
inductive spUps  (vs : List V) (H : Hp) (Q : VK) (E_ : XK) : Prop
 | mk : ∀ bv bk nm s, (vs = [bv, .str nm]) -> (RepB H bk bv) -> (BkS bk) -> (s ∈ bk.sorts) -> (Srt.name s = nm) -> (∀ b H', Same H H' -> H' b = some (.tup (List.map V.str (Srt.ups s))) -> Q (.ref b) H') -> spUps vs H Q E_
inductive spRulesOf  (vs : List V) (H : Hp) (Q : VK) (E_ : XK) : Prop
 | mk : ∀ v fr, (vs = [v]) -> (RepF H fr v) -> (∀ ra rv, H ra = some (.tup rv) -> RepRs H fr.rules rv -> Q (.ref ra) H) -> spRulesOf vs H Q E_
noncomputable def rkey (r : Rul) : List Key := [.inl r.pl, .inr r.word]
inductive spByKey  (vs : List V) (H : Hp) (Q : VK) (E_ : XK) : Prop
 | mk : ∀ v fr, (vs = [v]) -> (RepF H fr v) -> (fr.rules.length <= 12) -> (∀ d kvs H', H d = none -> Same H H' -> H' d = some (.dT kvs) -> kvs.length <= 12 -> (∀ r ∈ fr.rules, ∃ x, valV kvs (rkey r) = some x) -> (∀ kv ∈ kvs, ∃ r ∈ fr.rules, Rep H' r.fm kv.2) -> Q (.ref d) H') -> spByKey vs H Q E_
theorem put_mem {κ : Type} [DecidableEq κ] {kvs : List (κ × V)} {k : κ} {v : V} {kv : κ × V} (h : kv ∈ putK kvs k v) : kv ∈ kvs \/ kv.2 = v := by
 unfold putK at h
 split at h
 ·obtain ⟨p, hp, e⟩ := List.mem_map.mp h
  by_cases c : p.1 = k
  ·rw [if_pos c] at e
   exact .inr (by rw [<- e])
  ·rw [if_neg c] at e
   exact .inl (by rw [<- e]; exact hp)
 ·rcases List.mem_append.mp h with h | h
  ·exact .inl h
  ·have : kv = (k, v) := by simpa using h
   exact .inr (by rw [this])
theorem scSortsOf : FnScope ["book"] ["book"] (defScope sSortsOf) := fsc
theorem ok_sortsOf (F : Fun K "sorts_of" "sorts_of" sSortsOf f fd) : FnOk P w K mg base CX0 1 f fd ["book"] spSortsOf := by
 refine F.ok scSortsOf (fun vs H Q E h => ?_) (fun cdv A outer s H vs Q E hr h => ?_)
 ·obtain ⟨bv, bk, rfl, _⟩ := h
  rfl
 obtain ⟨bv, bk, rfl, ⟨a, sa, fa, fv, rfl, ha, ⟨sx, hsa, hS⟩, _⟩, q⟩ := h
 refine ⟨_, pss_one (ps_ret (pe_ix (r := rIxT K) ix_tup (pv 0) pe_int (fun _ _ => rfl))), ?_⟩
 exact ⟨_, rfl, a, _, 1, _, rfl, rfl, SqT.of ha, atI_nat (j := 1) rfl, q sa sx hsa hS⟩
theorem scSortNamed : FnScope ["book", "name"] ["book", "name"] (defScope sSortNamed) := fsc
theorem ok_sortNamed (F : Fun K "sort_named" "sort_named" sSortNamed f fd)
  (GF : FnOk P w K mg base CX0 1 f2 fd2 ["book"] spSortsOf) (bF : Binds K fd2 ["book"] []) (kF : PySem.W.keepIn K (.ref f2) = true) (mF : mg "sorts_of" = some (.ref f2)) : FnOk P w K mg base CX0 2 f fd ["book", "name"] spSortNamed := by
 refine F.ok scSortNamed (fun vs H Q E h => ?_) (fun cdv A outer s H vs Q E hr h => ?_)
 ·obtain ⟨bv, bk, nm, fr, rfl, _⟩ := h
  rfl
 obtain ⟨bv, bk, nm, fr, rfl, hB, hok, hf, hn, q⟩ := h
 refine ⟨_, pss_one (ps_ret (pe_ix (r := rIxL K) ix_list (pe_compT (sc0 := defScope sSortNamed) (N0 := ["book", "name"]) (ys := ["name"]) (fr := [1]) rfl
   (pi_tup (pe_call GF hr rfl mF kF bF .nil pass0 (pa_cons (pv 0) pa_nil))) rfl rfl
   cok
   (fun C s H ex => pt_cmpR op_eq (pe_ix (r := rIxT K) ix_tup (pv 0) pe_int (fun _ _ => rfl)) (pv 1) (nomark _))
   (fun C s H ex => pv 0)) pe_int (fun _ _ => rfl))), ?_⟩
 refine ⟨_, rfl, bv, bk, rfl, hB, fun fa fv hfa hF => ?_⟩
 have h4 := hok.s4
 have lF := hF.len
 refine ⟨fa, rfl, ⟨fv, SqT.of hfa⟩, ?_⟩
 refine compT_mk (by lia) hF (itt_go hfa) (itt_st hfa) (itt_y hfa) (fun fr => decide (Srt.name fr = nm)) (fun H fr v => RepS H fr v) (fun t h => h.mono t) ?_ ?_ ?_
 ·rintro sr v H' k _ ⟨a1, b1, c1, rfl, g1, _⟩ s' hk
  refine ⟨_, rfl, a1, _, 0, .str sr.name, rfl, rfl, SqT.of (s' _ _ g1), atI0, _, rfl, rfl, _, rfl, ?_⟩
  rw [show decide (V.str sr.name = V.str nm) = decide (sr.name = nm) from decide_eq_decide.mpr ⟨fun e => V.str.inj e, fun e => by rw [e]⟩]
  exact hk
 ·rintro sr v H' k _ hR _ s' hk
  exact ⟨_, rfl, hk _ _ (fun _ _ h => h) (hR.mono (tk_of s'))⟩
 ·intro p zs H' hp s' gp hz
  have hm : fr ∈ bk.sorts.filter fun fr => decide (Srt.name fr = nm) := List.mem_filter.mpr ⟨hf, decide_eq_true hn⟩
  cases hfl : bk.sorts.filter fun fr => decide (Srt.name fr = nm) with
  | nil => rw [hfl] at hm; cases hm
  | cons x r =>
   rw [hfl] at hz
   cases hz with
   | @cons _ z _ zr hx _ =>
    have hxm : x ∈ bk.sorts.filter fun fr => decide (Srt.name fr = nm) := by rw [hfl]; exact List.mem_cons_self
    have e : x = fr := srt_inj hok.sd (List.mem_filter.mp hxm).1 hf (by rw [of_decide_eq_true (List.mem_filter.mp hxm).2, hn])
    subst e
    exact ⟨p, _, 0, z, rfl, rfl, SqL.of gp, atI0, q z H' s' hx⟩
theorem scDowns : FnScope ["book", "sort"] ["book", "sort"] (defScope sDowns) := fsc
theorem ok_downs (F : Fun K "downs_of" "downs_of" sDowns f fd)
  (GN : FnOk P w K mg base CX0 2 f2 fd2 ["book", "name"] spSortNamed) (bN : Binds K fd2 ["book", "name"] []) (kN : PySem.W.keepIn K (.ref f2) = true) (mN : mg "sort_named" = some (.ref f2)) : FnOk P w K mg base CX0 3 f fd ["book", "sort"] spDowns := by
 refine F.ok scDowns (fun vs H Q E h => ?_) (fun cdv A outer s H vs Q E hr h => ?_)
 ·obtain ⟨bv, bk, nm, sr, rfl, _⟩ := h
  rfl
 obtain ⟨bv, bk, nm, sr, rfl, hB, hok, hs, hn, q⟩ := h
 refine ⟨_, pss_one (ps_ret (pe_ix (r := rIxT K) ix_tup (pe_call GN hr rfl mN kN bN .nil pass0 (pa_cons (pv 0) (pa_cons (pv 1) pa_nil))) pe_int (fun _ _ => rfl))), ?_⟩
 refine ⟨_, rfl, _, rfl, bv, bk, nm, sr, rfl, hB, hok, hs, hn, fun v H' s' hR => ?_⟩
 obtain ⟨a, b, c, rfl, ha, hb, _⟩ := hR
 exact ⟨a, _, 1, .ref b, rfl, rfl, SqT.of ha, atI_nat (j := 1) rfl, q b H' s' hb⟩
theorem scUps : FnScope ["book", "sort"] ["book", "sort"] (defScope sUps) := fsc
theorem ok_ups (F : Fun K "ups_of" "ups_of" sUps f fd)
  (GN : FnOk P w K mg base CX0 2 f2 fd2 ["book", "name"] spSortNamed) (bN : Binds K fd2 ["book", "name"] []) (kN : PySem.W.keepIn K (.ref f2) = true) (mN : mg "sort_named" = some (.ref f2)) : FnOk P w K mg base CX0 3 f fd ["book", "sort"] spUps := by
 refine F.ok scUps (fun vs H Q E h => ?_) (fun cdv A outer s H vs Q E hr h => ?_)
 ·obtain ⟨bv, bk, nm, sr, rfl, _⟩ := h
  rfl
 obtain ⟨bv, bk, nm, sr, rfl, hB, hok, hs, hn, q⟩ := h
 refine ⟨_, pss_one (ps_ret (pe_ix (r := rIxT K) ix_tup (pe_call GN hr rfl mN kN bN .nil pass0 (pa_cons (pv 0) (pa_cons (pv 1) pa_nil))) pe_int (fun _ _ => rfl))), ?_⟩
 refine ⟨_, rfl, _, rfl, bv, bk, nm, sr, rfl, hB, hok, hs, hn, fun v H' s' hR => ?_⟩
 obtain ⟨a, b, c, rfl, ha, hb, hc⟩ := hR
 exact ⟨a, _, 2, .ref c, rfl, rfl, SqT.of ha, atI_nat (j := 2) rfl, q c H' s' hc⟩
theorem scRulesOf : FnScope ["form"] ["form"] (defScope sRulesOf) := fsc
theorem ok_rulesOf (F : Fun K "rules_of" "rules_of" sRulesOf f fd) : FnOk P w K mg base CX0 1 f fd ["form"] spRulesOf := by
 refine F.ok scRulesOf (fun vs H Q E h => ?_) (fun cdv A outer s H vs Q E hr h => ?_)
 ·obtain ⟨v, fr, rfl, _⟩ := h
  rfl
 obtain ⟨v, fr, rfl, ⟨a, pa, ra, rv, rfl, ha, hpa, hra, hR⟩, q⟩ := h
 refine ⟨_, pss_one (ps_ret (pe_ix (r := rIxT K) ix_tup (pv 0) pe_int (fun _ _ => rfl))), ?_⟩
 exact ⟨_, rfl, a, _, 3, _, rfl, rfl, SqT.of ha, atI_nat (j := 3) rfl, q ra rv hra hR⟩
noncomputable abbrev NByKey : List Str := ["form", "found", "at", "word", "formula"]
theorem scByKey : FnScope NByKey ["form"] (defScope sByKey) := fsc
theorem ok_byKey (F : Fun K "formulas_by_key" "formulas_by_key" sByKey f fd)
  (GR : FnOk P w K mg base CX0 1 f2 fd2 ["form"] spRulesOf) (bR : Binds K fd2 ["form"] []) (kR : PySem.W.keepIn K (.ref f2) = true) (mR : mg "rules_of" = some (.ref f2)) : FnOk P w K mg base CX0 2 f fd ["form"] spByKey := by
 refine F.ok scByKey (fun vs H Q E h => ?_) (fun cdv A outer s H vs Q E hr h => ?_)
 ·obtain ⟨v, fr, rfl, _⟩ := h
  rfl
 obtain ⟨v, fr, rfl, hF, h12, q⟩ := h
 have hu := hu_of hr
 refine ⟨_, pss_cons (ps_set (i := 1) scByKey.nd rfl (Or.inl rfl) pe_dnewT)
  (pss_cons (ps_for PassesOwn.never rfl (pi_tup (pe_call GR hr rfl mR kR bR .nil pass0 (pa_cons (pv 0) pa_nil)))
    (pg_tup rfl (pgs_cons (pg_name (i := 2) scByKey.nd rfl (Or.inl rfl)) (pgs_cons (pg_name (i := 3) scByKey.nd rfl (Or.inl rfl)) (pgs_cons (pg_name (i := 4) scByKey.nd rfl (Or.inl rfl)) pgs_nil))))
   (pss_one (ps_dput hu (pv 1) (pe_tup (pa_cons (pv 2) (pa_cons (pv 3) pa_nil))) (pv 4) rfl)))
  (pss_one (ps_ret (pv 1)))), ?_⟩
 refine fun d hd => ?_
 have s0 := same_new hd (.dT [])
 have g0 : (upd H d (.dT [])) d = some (.dT []) := upd_same
 generalize upd H d (.dT []) = H0 at s0 g0 ⊢
 refine ⟨_, rfl, v, fr, rfl, hF.mono (tk_of s0), fun ra rv hra hR => ?_⟩
 refine ⟨ra, rfl, ⟨rv, SqT.of hra⟩, ?_⟩
 have lR := hR.len
 have hra' := hra
 refine for_tup (xs := rv) (fun i Z H' => i <= rv.length /\ ∃ o2 o3 o4 kvs, Z = [some v, some (.ref d), o2, o3, o4] /\ Same H H' /\ H' ra = some (.tup rv) /\ RepRs H' fr.rules rv /\ H' d = some (.dT kvs) /\ kvs.length <= i /\ (∀ r ∈ fr.rules.take i, ∃ x, valV kvs (rkey r) = some x) /\ ∀ kv ∈ kvs, ∃ r ∈ fr.rules, Rep H' r.fm kv.2)
  ⟨Nat.zero_le _, none, none, none, [], rfl, s0, hra, hR, g0, Nat.le_refl _, fun r h => (by cases h), fun kv h => (by cases h)⟩ (fun i Z H' _ h => by obtain ⟨_, _, _, _, _, _, _, g, _⟩ := h; exact SqT.of g) ?_ ?_
 ·rintro i x Z H1 hx ⟨_, o2, o3, o4, kvs, rfl, S1, gra, hR1, gd, hl, hv, hall⟩
  have hil : i < rv.length := (List.getElem?_eq_some_iff.mp hx).1
  obtain ⟨r, hr', a, u, rfl, ha, hu'⟩ := paired_get hR1 hx
  refine ⟨a, _, rfl, SqT.of ha, rfl, _, _, rfl, _, _, rfl, _, _, rfl, rfl, ?_⟩
  refine ⟨_, rfl, _, rfl, _, rfl, _, rfl, (by show 2 <= sizeLine; decide), fun t ht => ?_⟩
  have s2 := same_new ht (.tup [.int r.pl, .str r.word])
  have g2 : (upd H1 t (.tup [.int r.pl, .str r.word])) t = some (.tup ((rkey r).map kV)) := upd_same
  generalize upd H1 t (.tup [.int r.pl, .str r.word]) = H2 at s2 g2 ⊢
  refine ⟨d, _, rfl, DPut.t (s2 _ _ gd) g2 (small1000 (by lia)), ?_⟩
  have tk : TK H1 (upd H2 d (.dT (putK kvs (rkey r) u))) := fun b xs e => by
   rw [upd_ne (fun z => by rw [z, gd] at e; cases e)]
   exact s2 _ _ e
  refine ⟨hil, _, _, _, _, rfl, ?_, tk _ _ gra, hR1.mono tk, upd_same, ?_, ?_, ?_⟩
  ·intro y o h
   rw [upd_ne (ne_of_none h hd)]
   exact s2 _ _ (S1 _ _ h)
  ·have := length_putK kvs (rkey r) u
   lia
  ·intro r' hm
   rw [valV_put]
   by_cases c : rkey r' = rkey r
   ·rw [if_pos c]; exact ⟨_, rfl⟩
   ·rw [if_neg c]
    rw [List.take_add_one, hr'] at hm
    rcases List.mem_append.mp hm with h | h
    ·exact hv r' h
    ·have : r' = r := by simpa using h
     exact absurd (by rw [this]) c
  ·intro kv hkv
   rcases put_mem hkv with h | h
   ·obtain ⟨r0, h1, h2⟩ := hall kv h
    exact ⟨r0, h1, h2.mono tk⟩
   ·exact ⟨r, List.mem_of_getElem? hr', by rw [h]; exact hu'.mono tk⟩
 ·rintro Z H1 ⟨_, o2, o3, o4, kvs, rfl, S1, gra, hR1, gd, hl, hv, hall⟩
  rw [<- lR, List.take_length] at hv
  exact ⟨_, rfl, q d kvs H1 hd S1 gd (by lia) hv hall⟩
theorem valV_mem {κ : Type} [DecidableEq κ] : ∀ {kvs : List (κ × V)} {k : κ} {v : V}, valV kvs k = some v -> (k, v) ∈ kvs
 | [], _, _, h => by cases h
 | p :: r, k, v, h => by
  by_cases c : p.1 = k
  ·rw [valV_pos c] at h
   have : p = (k, v) := by rw [<- c, <- Option.some.inj h]
   rw [this]; exact List.mem_cons_self
  ·rw [valV_neg c] at h
   exact List.mem_cons_of_mem _ (valV_mem h)
noncomputable def ToldAt (H : Hp) (kvs : List (List Key × V)) (ks : List Key) : Prop := ∃ T x y, valV kvs ks = some (.ref T) /\ H T = some (.tup [x, y])
theorem ToldAt.mono {H H' : Hp} {kvs : List (List Key × V)} {ks : List Key} (k : TK H H') : ToldAt H kvs ks -> ToldAt H' kvs ks := fun ⟨T, x, y, e, h⟩ => ⟨T, x, y, e, k _ _ h⟩
noncomputable def ToldOk (H : Hp) (fr : Frm) (kvs : List (List Key × V)) : Prop := ∀ r ∈ fr.rules, ToldAt H kvs (rkey r)
theorem ToldOk.mono {H H' : Hp} {fr : Frm} {kvs : List (List Key × V)} (k : TK H H') (h : ToldOk H fr kvs) : ToldOk H' fr kvs := fun r hr => (h r hr).mono k
inductive spTold  (vs : List V) (H : Hp) (Q : VK) (E_ : XK) : Prop
 | mk : ∀ v fr, (vs = [v]) -> (RepF H fr v) -> (fr.rules.length <= 12) -> ((∀ r ∈ fr.rules, r.fm.wf /\ r.fm.size <= 15)) -> (∀ d kvs H', H d = none -> Same H H' -> H' d = some (.dT kvs) -> ToldOk H' fr kvs -> Q (.ref d) H') -> spTold vs H Q E_
noncomputable def ToldN (H : Hp) (bk : Bk) (kvs : List (Key × V)) (nm : Str) : Prop := ∃ td kv2 fr, fr ∈ bk.forms /\ Frm.name fr = nm /\ valV kvs (.inr nm) = some (.ref td) /\ H td = some (.dT kv2) /\ ToldOk H fr kv2
theorem ToldN.same {H H' : Hp} {bk : Bk} {kvs : List (Key × V)} {nm : Str} (s : Same H H') : ToldN H bk kvs nm -> ToldN H' bk kvs nm := fun ⟨td, kv2, fr, h1, h2, h3, h4, h5⟩ => ⟨td, kv2, fr, h1, h2, h3, s _ _ h4, h5.mono (tk_of s)⟩
inductive spTolds  (vs : List V) (H : Hp) (Q : VK) (E_ : XK) : Prop
 | mk : ∀ bv bk nl nms, (vs = [bv, .ref nl]) -> (RepB H bk bv) -> (BkS bk) -> (H nl = some (.lst (List.map V.str nms))) -> (nms.length <= 1000) -> ((∀ nm ∈ nms, ∃ fr ∈ bk.forms, Frm.name fr = nm)) -> (∀ d kvs H', H d = none -> Same H H' -> H' d = some (.dK kvs) -> (∀ nm ∈ nms, ToldN H' bk kvs nm) -> Q (.ref d) H') -> spTolds vs H Q E_
noncomputable abbrev NTold : List Str := ["form", "told", "key", "formula"]
theorem scTold : FnScope NTold ["form"] (defScope sTold) := fsc
theorem ok_told (F : Fun K "told_by_form" "told_by_form" sTold f fd)
  (GK : FnOk P w K mg base CX0 2 f2 fd2 ["form"] spByKey) (bK : Binds K fd2 ["form"] []) (kK : PySem.W.keepIn K (.ref f2) = true) (mK : mg "formulas_by_key" = some (.ref f2))
  (GR : FnOk P w K mg base CX0 3 f3 fd3 ["formula"] spReads) (bR : Binds K fd3 ["formula"] []) (kR : PySem.W.keepIn K (.ref f3) = true) (mR : mg "readings_of" = some (.ref f3)) : FnOk P w K mg base CX0 4 f fd ["form"] spTold := by
 refine F.ok scTold (fun vs H Q E h => ?_) (fun cdv A outer s H vs Q E hr h => ?_)
 ·obtain ⟨v, fr, rfl, _⟩ := h
  rfl
 obtain ⟨v, fr, rfl, hF, h12, hwf, q⟩ := h
 have hu := hu_of hr
 have hr2 := hr.mono (show 2 <= 3 by decide)
 refine ⟨_, pss_cons (ps_set (i := 1) scTold.nd rfl (Or.inl rfl) pe_dnewT)
  (pss_cons (ps_for PassesOwn.never rfl (pi_items (pe_call GK hr2 rfl mK kK bK .nil pass0 (pa_cons (pv 0) pa_nil)))
    (pg_tup rfl (pgs_cons (pg_name (i := 2) scTold.nd rfl (Or.inl rfl)) (pgs_cons (pg_name (i := 3) scTold.nd rfl (Or.inl rfl)) pgs_nil)))
   (pss_one (ps_dput hu (pv 1) (pv 2) (pe_tup (pa_cons (pv 3) (pa_cons (pe_call GR hr rfl mR kR bR .nil pass0 (pa_cons (pv 3) pa_nil)) pa_nil))) rfl)))
  (pss_one (ps_ret (pv 1)))), ?_⟩
 refine fun d hd => ?_
 have s0 := same_new hd (.dT [])
 have g0 : (upd H d (.dT [])) d = some (.dT []) := upd_same
 generalize upd H d (.dT []) = H0 at s0 g0 ⊢
 refine ⟨_, rfl, v, fr, rfl, hF.mono (tk_of s0), h12, fun dk kv0 H1 hdk s1 gdk hl12 hkeys hreps => ?_⟩
 refine ⟨dk, kv0, rfl, .inl ⟨gdk, fun o => ?_⟩⟩
 have hdk0 : H dk = none := s0.free hdk
 have ndk : d ≠ dk := fun z => by rw [<- z, g0] at hdk; cases hdk
 have tkf : TK H1 (upd H1 dk (.frz o (.dT kv0))) := fun b xs e => by rw [upd_ne (fun z => by rw [z, gdk] at e; cases e)]; exact e
 have S1 : Same H (upd H1 dk (.frz o (.dT kv0))) := fun b x e => by rw [upd_ne (ne_of_none e hdk0)]; exact s1 _ _ (s0 _ _ e)
 have gd1 : (upd H1 dk (.frz o (.dT kv0))) d = some (.dT []) := by rw [upd_ne ndk]; exact s1 _ _ g0
 have gk1 : (upd H1 dk (.frz o (.dT kv0))) dk = some (.frz o (.dT kv0)) := upd_same
 have hrep1 : ∀ kv ∈ kv0, ∃ r ∈ fr.rules, Rep (upd H1 dk (.frz o (.dT kv0))) r.fm kv.2 := fun kv hkv => by
  obtain ⟨r, h1, h2⟩ := hreps kv hkv
  exact ⟨r, h1, h2.mono tkf⟩
 generalize upd H1 dk (.frz o (.dT kv0)) = H2 at S1 gd1 gk1 hrep1 ⊢
 refine for_items (kvs := kv0) (fun i Z H' => i <= kv0.length /\ ∃ o2 o3 kvs, Z = [some v, some (.ref d), o2, o3] /\ Same H H' /\ TK H2 H' /\ H' dk = some (.frz o (.dT kv0)) /\ H' d = some (.dT kvs) /\ kvs.length <= i /\ ∀ kv ∈ kv0.take i, ToldAt H' kvs kv.1)
  ⟨Nat.zero_le _, none, none, [], rfl, S1, fun _ _ h => h, gk1, gd1, Nat.le_refl _, fun kv h => (by cases h)⟩ (fun i Z H' _ h => by obtain ⟨_, _, _, _, _, _, _, g, _⟩ := h; exact g) ?_ ?_
 ·rintro i ks u T0 c Z H3 hx hT0 hc ⟨_, o2, o3, kvs, rfl, S3, tk3, gk3, gd3, hl, hv⟩
  have hil : i < kv0.length := (List.getElem?_eq_some_iff.mp hx).1
  obtain ⟨r, hrm, hrep⟩ := hrep1 _ (List.mem_of_getElem? hx)
  have s4 := same_new hT0 (.tup [.ref c, u])
  have g4 : (upd H3 T0 (.tup [.ref c, u])) T0 = some (.tup [.ref c, u]) := upd_same
  generalize upd H3 T0 (.tup [.ref c, u]) = H4 at s4 g4 ⊢
  refine ⟨T0, _, rfl, SqT.of g4, rfl, _, _, rfl, _, _, rfl, rfl, ?_⟩
  obtain ⟨out, rs, hTw, hlen⟩ := Tw.ex (H := H4) _ (Fs.cons (hrep.mono (TK.trans tk3 (tk_of s4))) (hwf r hrm).1 .nil)
  have h15 := (hwf r hrm).2
  refine ⟨_, rfl, _, rfl, u, out, rs, rfl, hTw, by lia, fun p ys H5 hp s5 gp hK => ?_⟩
  refine ⟨(by show 2 <= sizeLine; decide), fun T hT => ?_⟩
  have s6 := same_new hT (.tup [u, .ref p])
  have g6 : (upd H5 T (.tup [u, .ref p])) T = some (.tup [u, .ref p]) := upd_same
  generalize upd H5 T (.tup [u, .ref p]) = H6 at s6 g6 ⊢
  have S36 : Same H3 H6 := s4.trans (s5.trans s6)
  refine ⟨_, rfl, _, rfl, d, _, rfl, DPut.t (S36 _ _ gd3) (S36 _ _ hc) (small1000 (by lia)), ?_⟩
  have tk : TK H6 (upd H6 d (.dT (putK kvs ks (.ref T)))) := fun b xs e => by
   rw [upd_ne (fun z => by rw [z, S36 _ _ gd3] at e; cases e)]
   exact e
  refine ⟨hil, _, _, _, rfl, ?_, TK.trans (TK.trans tk3 (tk_of S36)) tk, by rw [upd_ne (Ne.symm ndk)]; exact S36 _ _ gk3, upd_same, ?_, ?_⟩
  ·intro y oo h
   rw [upd_ne (ne_of_none h hd)]
   exact S36 _ _ (S3 _ _ h)
  ·have := length_putK kvs ks (.ref T)
   lia
  ·intro kv hkv
   unfold ToldAt
   by_cases c' : kv.1 = ks
   ·exact ⟨T, u, .ref p, by rw [valV_put, if_pos c'], tk _ _ g6⟩
   ·rw [List.take_add_one, hx] at hkv
    rcases List.mem_append.mp hkv with h | h
    ·obtain ⟨T', x', y', e1, e2⟩ := hv kv h
     exact ⟨T', x', y', by rw [valV_put, if_neg c']; exact e1, tk _ _ (S36 _ _ e2)⟩
    ·have : kv = (ks, u) := by simpa using h
     exact absurd (by rw [this]) c'
 ·rintro Z H3 ⟨_, o2, o3, kvs, rfl, S3, tk3, gk3, gd3, hl, hv⟩
  rw [List.take_length] at hv
  refine ⟨_, rfl, q d kvs H3 hd S3 gd3 fun r hrm => ?_⟩
  obtain ⟨x, hx⟩ := hkeys r hrm
  exact hv _ (valV_mem hx)
noncomputable abbrev NTolds : List Str := ["book", "names", "told", "name"]
theorem scTolds : FnScope NTolds ["book", "names"] (defScope sTolds) := fsc
theorem ok_tolds (F : Fun K "told_by_forms" "told_by_forms" sTolds f fd)
  (GT : FnOk P w K mg base CX0 4 f2 fd2 ["form"] spTold) (bT : Binds K fd2 ["form"] []) (kT : PySem.W.keepIn K (.ref f2) = true) (mT : mg "told_by_form" = some (.ref f2))
  (GN : FnOk P w K mg base CX0 2 f3 fd3 ["book", "name"] spFormNamed) (bN : Binds K fd3 ["book", "name"] []) (kN : PySem.W.keepIn K (.ref f3) = true) (mN : mg "form_named" = some (.ref f3)) : FnOk P w K mg base CX0 5 f fd ["book", "names"] spTolds := by
 refine F.ok scTolds (fun vs H Q E h => ?_) (fun cdv A outer s H vs Q E hr h => ?_)
 ·obtain ⟨bv, bk, nl, nms, rfl, _⟩ := h
  rfl
 obtain ⟨bv, bk, nl, nms, rfl, hB, hok, hnl, hlen, hnm, q⟩ := h
 have hu := hu_of hr
 have hr2 := hr.mono (show 2 <= 4 by decide)
 refine ⟨_, pss_cons (ps_set (i := 2) scTolds.nd rfl (Or.inl rfl) pe_dnewK)
  (pss_cons (ps_for PassesOwn.never rfl (pi_list (pv 1)) (pg_name (i := 3) scTolds.nd rfl (Or.inl rfl))
   (pss_one (ps_if (pt_cmp (pc_dnotin hu (pv 3) (pv 2)))
    (pss_one (ps_dput hu (pv 2) (pv 3) (pe_call GT hr rfl mT kT bT .nil pass0 (pa_cons (pe_call GN hr2 rfl mN kN bN .nil pass0 (pa_cons (pv 0) (pa_cons (pv 3) pa_nil))) pa_nil)) rfl)) pss_nil)))
  (pss_one (ps_ret (pv 2)))), ?_⟩
 refine fun d hd => ?_
 have s0 := same_new hd (.dK [])
 have g0 : (upd H d (.dK [])) d = some (.dK []) := upd_same
 generalize upd H d (.dK []) = H0 at s0 g0 ⊢
 have lV : (nms.map V.str).length = nms.length := List.length_map _
 refine ⟨_, rfl, nl, rfl, ⟨_, SqL.of (s0 _ _ hnl)⟩, ?_⟩
 refine for_list (xs := nms.map V.str) (fun i Z H' => i <= nms.length /\ ∃ o3 kvs, Z = [some bv, some (.ref nl), some (.ref d), o3] /\ Same H H' /\ H' d = some (.dK kvs) /\ kvs.length <= i /\ (∀ nm ∈ nms.take i, ToldN H' bk kvs nm) /\ ∀ nm x, valV kvs (.inr nm) = some x -> ToldN H' bk kvs nm)
  ⟨Nat.zero_le _, none, [], rfl, s0, g0, Nat.le_refl _, fun nm h => (by cases h), fun nm x h => (by cases h)⟩ (fun i Z H' _ h => by obtain ⟨_, _, _, _, sm, _⟩ := h; exact SqL.of (sm _ _ hnl)) ?_ ?_
 ·rintro i x Z H1 hx ⟨_, o3, kvs, rfl, S1, gd, hl, hv, hin⟩
  rw [List.getElem?_map] at hx
  obtain ⟨nm, hnmi, rfl⟩ : ∃ nm, nms[i]? = some nm /\ x = .str nm := by
   cases h : nms[i]? with
   | none => rw [h] at hx; cases hx
   | some nm => rw [h] at hx; exact ⟨nm, rfl, (Option.some.inj hx).symm⟩
  have hil : i < nms.length := (List.getElem?_eq_some_iff.mp hnmi).1
  refine ⟨_, rfl, _, rfl, d, _, rfl, DGet.k (k := .inr nm) gd, _, rfl, ?_⟩
  have hstep : ∀ m ∈ nms.take (i + 1), m ∈ nms.take i \/ m = nm := fun m hm => by
   rw [List.take_add_one, hnmi] at hm
   rcases List.mem_append.mp hm with h | h
   ·exact .inl h
   ·exact .inr (by simpa using h)
  refine ite2 (fun c => ?_) (fun c => ?_)
  ·obtain ⟨fr, hfr, hfn⟩ := hnm nm (List.mem_of_getElem? hnmi)
   refine ⟨_, rfl, _, rfl, bv, bk, nm, fr, rfl, hB.mono (tk_of S1), hok, hfr, hfn, fun fv H2 s2 hRF => ?_⟩
   refine ⟨fv, fr, rfl, hRF, hok.rules12 hfr, (hok.fo fr hfr).2.2.2.2, fun td kv2 H3 htd s3 gtd hT => ?_⟩
   have S13 := s2.trans s3
   have ntd : td ≠ d := fun z => by have := s2 _ _ gd; rw [<- z, htd] at this; cases this
   refine ⟨_, rfl, _, rfl, d, _, rfl, DPut.k (k := .inr nm) (S13 _ _ gd) (small1000 (by lia)), ?_⟩
   have tk : TK H3 (upd H3 d (.dK (putK kvs (.inr nm) (.ref td)))) := fun b xs e => by
    rw [upd_ne (fun z => by rw [z, S13 _ _ gd] at e; cases e)]
    exact e
   have hnew : ToldN (upd H3 d (.dK (putK kvs (.inr nm) (.ref td)))) bk (putK kvs (.inr nm) (.ref td)) nm := ⟨td, kv2, fr, hfr, hfn, by rw [valV_put, if_pos rfl], by rw [upd_ne ntd]; exact gtd, hT.mono tk⟩
   have hold : ∀ m, m ≠ nm -> ToldN H1 bk kvs m -> ToldN (upd H3 d (.dK (putK kvs (.inr nm) (.ref td)))) bk (putK kvs (.inr nm) (.ref td)) m := fun m hm ⟨td', kv', fr', e1, e2, e3, e4, e5⟩ =>
    ⟨td', kv', fr', e1, e2, by rw [valV_put, if_neg (fun z => hm (Sum.inr.inj z))]; exact e3, by rw [upd_ne (fun z => by rw [z, gd] at e4; cases e4)]; exact S13 _ _ e4, (e5.mono (tk_of S13)).mono tk⟩
   refine ⟨hil, _, _, rfl, ?_, upd_same, ?_, ?_, ?_⟩
   ·intro y oo h
    rw [upd_ne (ne_of_none h hd)]
    exact S13 _ _ (S1 _ _ h)
   ·have := length_putK kvs (Sum.inr nm) (.ref td)
    lia
   ·intro m hm
    by_cases e : m = nm
    ·rw [e]; exact hnew
    ·rcases hstep m hm with h | h
     ·exact hold m e (hv m h)
     ·exact absurd h e
   ·intro m x' hx'
    by_cases e : m = nm
    ·rw [e]; exact hnew
    ·rw [valV_put, if_neg (fun z => e (Sum.inr.inj z))] at hx'
     exact hold m e (hin m x' hx')
  ·refine ⟨hil, _, kvs, rfl, S1, gd, by lia, fun m hm => ?_, hin⟩
   rcases hstep m hm with h | h
   ·exact hv m h
   ·rw [h]
    cases hval : valV kvs (Sum.inr nm) with
    | none => rw [hval] at c; exact absurd rfl c
    | some x' => exact hin nm x' hval
 ·rintro Z H1 ⟨_, o3, kvs, rfl, S1, gd, hl, hv, hin⟩
  rw [lV, List.take_length] at hv
  exact ⟨_, rfl, q d kvs H1 hd S1 gd hv⟩
noncomputable def TrS (bk : Bk) : Nat -> Bt -> Srt -> Prop
 | 0, _, _ => False
 | n + 1, t, s => ∃ fr, fr ∈ bk.forms /\ Frm.name fr = t.nm /\ fr.own = s /\ Paired (TrS bk n) t.ps fr.parts
theorem TreeOk.trS {bk : Bk} : ∀ {n : Nat} {t : Bt} {s : Srt}, TreeOk bk n t s -> TrS bk n t s
 | 0, _, _, h => h.elim
 | n + 1, _, _, ⟨_, fr, h1, h2, h3, h4⟩ => ⟨fr, h1, h2, h3, Paired.mapP h4 fun _ _ r => TreeOk.trS r⟩
theorem TrS.frm {bk : Bk} {n : Nat} {t : Bt} {s : Srt} (h : TrS bk n t s) : ∃ fr, fr ∈ bk.forms /\ Frm.name fr = t.nm /\ fr.own = s := by
 cases n with
 | zero => exact h.elim
 | succ n => obtain ⟨fr, h1, h2, h3, _⟩ := h; exact ⟨fr, h1, h2, h3⟩
theorem TrS.at {bk : Bk} : ∀ {pl : List Nat} {n : Nat} {t u : Bt} {s : Srt}, TrS bk n t s -> t.at? pl = some u -> ∃ m s', TrS bk m u s'
 | [], n, t, u, s, h, e => by cases e; exact ⟨n, s, h⟩
 | k :: r, 0, t, u, s, h, e => h.elim
 | k :: r, n + 1, t, u, s, ⟨fr, _, _, _, hp⟩, e => by
  have e : (t.ps[k]?).bind (fun x => x.at? r) = some u := e
  cases hk : t.ps[k]? with
  | none => rw [hk] at e; cases e
  | some x =>
   rw [hk] at e
   obtain ⟨q, _, hx⟩ := paired_get' hp hk
   exact TrS.at (pl := r) hx e
theorem TrS.above {bk : Bk} {n : Nat} {t u : Bt} {s : Srt} (h : TrS bk n t s) {pl : List Nat} {k : Nat} (e : t.at? (pl ++ [k]) = some u) : ∃ u0 fr q m, t.at? pl = some u0 /\ fr ∈ bk.forms /\ Frm.name fr = u0.nm /\ fr.parts[k]? = some q /\ TrS bk m u q := by
 rw [Bt.at?_snoc] at e
 cases h0 : t.at? pl with
 | none => rw [h0] at e; cases e
 | some u0 =>
  rw [h0] at e
  have e : u0.ps[k]? = some u := e
  obtain ⟨m, s0, h1⟩ := h.at h0
  cases m with
  | zero => exact h1.elim
  | succ m =>
   obtain ⟨fr, f1, f2, _, hp⟩ := h1
   obtain ⟨q, hq, hu⟩ := paired_get' hp e
   exact ⟨u0, fr, q, m, rfl, f1, f2, hq, hu⟩
theorem placesL_at : ∀ {l : List Bt} {k j : Nat} {u : Bt} {p : List Nat}, l[j]? = some u -> p ∈ u.places -> (k + j) :: p ∈ placesL k l
 | [], _, j, _, _, h, _ => by cases j <;> cases h
 | x :: r, k, 0, u, p, h, hp => by
  cases h
  rw [placesL_cons]
  exact List.mem_append_left _ (List.mem_map.mpr ⟨p, hp, rfl⟩)
 | x :: r, k, j + 1, u, p, h, hp => by
  have := placesL_at (k := k + 1) (l := r) (j := j) h hp
  rw [placesL_cons, show k + (j + 1) = k + 1 + j by lia]
  exact List.mem_append_right _ this
theorem places_of_at : ∀ {pl : List Nat} {t u : Bt}, t.at? pl = some u -> pl ∈ t.places
 | [], t, u, _ => by rw [places_eq]; exact List.mem_cons_self
 | k :: r, t, u, e => by
  have e : (t.ps[k]?).bind (fun x => x.at? r) = some u := e
  cases hk : t.ps[k]? with
  | none => rw [hk] at e; cases e
  | some x =>
   rw [hk] at e
   have := placesL_at (k := 0) hk (places_of_at (pl := r) e)
   rw [Nat.zero_add] at this
   rw [places_eq]
   exact List.mem_cons_of_mem _ this
theorem paired_app {α β : Type} {F : α -> β -> Prop} : ∀ {a c : List α} {b d : List β}, Paired F a b -> Paired F c d -> Paired F (a ++ c) (b ++ d)
 | _, _, _, _, .nil, h => h
 | _, _, _, _, .cons r t, h => .cons r (paired_app t h)
theorem paired_mapl {α β γ : Type} {F : α -> β -> Prop} {G : γ -> β -> Prop} {g : α -> γ} (k : ∀ a b, F a b -> G (g a) b) : ∀ {l : List α} {r : List β}, Paired F l r -> Paired G (l.map g) r
 | _, _, .nil => .nil
 | _, _, .cons h t => .cons (k _ _ h) (paired_mapl k t)
theorem at_subs : ∀ (n : Nat) (t : Bt), t.sz <= n -> Paired (fun p u => t.at? p = some u) t.places t.subs
 | 0, t, h => by have := sz_pos t; lia
 | n + 1, t, h => by
  have e := sz_eq t
  have hl : ∀ (l : List Bt) (k : Nat) (pre : List Bt), t.ps = pre ++ l -> pre.length = k -> Paired (fun p u => t.at? p = some u) (placesL k l) (subsL l) := by
   intro l
   induction l with
   | nil => intro k pre _ _; rw [placesL_nil, subsL_nil]; exact .nil
   | cons x r ih =>
    intro k pre e1 e2
    rw [placesL_cons, subsL_cons]
    have hx : x ∈ t.ps := by rw [e1]; exact List.mem_append_right _ List.mem_cons_self
    have hsz := szL_mem hx
    have hk : t.ps[k]? = some x := by rw [e1, List.getElem?_append_right (by lia), e2, Nat.sub_self]; rfl
    refine paired_app (paired_mapl (fun p u hp => ?_) (at_subs n x (by lia))) (ih (k + 1) (pre ++ [x]) (by rw [e1, List.append_assoc]; rfl) (by rw [List.length_append, e2]; rfl))
    show (t.ps[k]?).bind (fun x => x.at? p) = some u
    rw [hk]
    exact hp
  rw [places_eq, subs_eq]
  exact .cons rfl (hl t.ps 0 [] rfl rfl)
noncomputable def srtOf (bk : Bk) (u : Bt) : Srt := match bk.forms.find? (fun fr => decide (Frm.name fr = u.nm)) with
 | some fr => fr.own
 | none => ⟨"", [], []⟩
theorem srtOf_frm {bk : Bk} (nd : (bk.forms.map Frm.name).Nodup) {u : Bt} {fr : Frm} (h1 : fr ∈ bk.forms) (h2 : Frm.name fr = u.nm) : srtOf bk u = fr.own := by
 unfold srtOf
 cases h : bk.forms.find? (fun fr => decide (Frm.name fr = u.nm)) with
 | none => exact absurd (decide_eq_true h2) (by simpa using List.find?_eq_none.mp h fr h1)
 | some f =>
  have h3 : decide (Frm.name f = u.nm) = true := by simpa using List.find?_some h
  have e : f = fr := frm_inj nd (List.mem_of_find?_eq_some h) h1 (by rw [of_decide_eq_true h3, h2])
  rw [e]
noncomputable def swds (s : Srt) : List Str := s.downs ++ s.ups
noncomputable def spotsAt (bk : Bk) (q : List Nat × Bt) : List (List Nat × Str) := (swds (srtOf bk q.2)).map fun w => (q.1, w)
noncomputable def spots (bk : Bk) (t : Bt) : List (List Nat × Str) := (t.places.zip t.subs).flatMap (spotsAt bk)
noncomputable def spk (q : List Nat × Str) : List Key × Key := (keyOf q.1, .inr q.2)
theorem spk_inj {a b : List Nat × Str} (h : spk a = spk b) : a = b := by
 obtain ⟨p, w⟩ := a
 obtain ⟨p', w'⟩ := b
 have h1 : p = p' := keyOf_inj (Prod.mk.inj h).1
 have h2 : w = w' := Sum.inr.inj (Prod.mk.inj h).2
 rw [h1, h2]
theorem flat_nodup {bk : Bk} : ∀ {l : List (List Nat × Bt)}, (l.map (·.1)).Nodup -> (∀ q ∈ l, (swds (srtOf bk q.2)).Nodup) -> (l.flatMap (spotsAt bk)).Nodup
 | [], _, _ => List.nodup_nil
 | q :: r, h1, h2 => by
  rw [List.flatMap_cons, List.nodup_append]
  rw [List.map_cons, List.nodup_cons] at h1
  refine ⟨nodup_map_inj (fun a b e => (Prod.mk.inj e).2) (h2 q List.mem_cons_self), flat_nodup h1.2 fun x hx => h2 x (List.mem_cons_of_mem _ hx), fun a ha b hb e => ?_⟩
  obtain ⟨w, _, rfl⟩ := List.mem_map.mp ha
  obtain ⟨q', hq', hb'⟩ := List.mem_flatMap.mp hb
  obtain ⟨w', _, rfl⟩ := List.mem_map.mp hb'
  exact h1.1 (List.mem_map.mpr ⟨q', hq', (Prod.mk.inj e).1.symm⟩)
theorem zip_fst {α β : Type} : ∀ {a : List α} {b : List β}, a.length = b.length -> (a.zip b).map (·.1) = a
 | [], [], _ => rfl
 | [], _ :: _, h => by cases h
 | _ :: _, [], h => by cases h
 | x :: a, y :: b, h => by
  show x :: (a.zip b).map (·.1) = x :: a
  rw [zip_fst (Nat.succ.inj h)]
theorem spots_nodup {bk : Bk} {t : Bt} (h : ∀ u ∈ t.subs, (swds (srtOf bk u)).Nodup) : ((spots bk t).map spk).Nodup := by
 refine nodup_map_inj (fun a b e => spk_inj e) (flat_nodup ?_ fun q hq => h q.2 (List.of_mem_zip hq).2)
 rw [zip_fst (Paired.length (at_subs t.sz t (Nat.le_refl _)))]
 exact places_nodup t.sz t (Nat.le_refl _)
theorem valV_nodup {κ : Type} [DecidableEq κ] : ∀ {kvs : List (κ × V)} {k : κ} {v : V}, (kvs.map (·.1)).Nodup -> (k, v) ∈ kvs -> valV kvs k = some v
 | [], _, _, _, h => by cases h
 | p :: r, k, v, nd, h => by
  rw [List.map_cons, List.nodup_cons] at nd
  rcases List.mem_cons.mp h with e | h
  ·rw [<- e]; exact valV_pos rfl
  ·have : ¬ p.1 = k := fun e => nd.1 (by rw [e]; exact List.mem_map.mpr ⟨(k, v), h, rfl⟩)
   rw [valV_neg this]
   exact valV_nodup nd.2 h
theorem bough_at {H : Hp} {n : Nat} {t u : Bt} {kvs : List (List Key × V)} {pl : List Nat} (hk : kvs.map (·.1) = t.places.map keyOf) (hv : Paired (RepT H n) t.subs (kvs.map (·.2))) (e : t.at? pl = some u) : ∃ v, valV kvs (keyOf pl) = some v /\ RepT H n u v := by
 obtain ⟨i, hi⟩ := List.getElem?_of_mem (places_of_at e)
 obtain ⟨u', hu, hat⟩ := paired_get' (at_subs t.sz t (Nat.le_refl _)) hi
 rw [e] at hat
 cases hat
 obtain ⟨v, hvi, hR⟩ := paired_get' hv hu
 have nd : (kvs.map (·.1)).Nodup := by rw [hk]; exact nodup_map_inj (fun a b z => keyOf_inj z) (places_nodup t.sz t (Nat.le_refl _))
 refine ⟨v, valV_nodup nd ?_, hR⟩
 have h1 : (kvs.map (·.1))[i]? = some (keyOf pl) := by rw [hk, List.getElem?_map, hi]; rfl
 rw [List.getElem?_map] at h1 hvi
 cases hkv : kvs[i]? with
 | none => rw [hkv] at h1; cases h1
 | some kv =>
  rw [hkv] at h1 hvi
  have : kv = (keyOf pl, v) := by rw [<- Option.some.inj h1, <- Option.some.inj hvi]
  rw [<- this]
  exact List.mem_of_getElem? hkv
theorem keys_putG {κ : Type} [DecidableEq κ] {kvs : List (κ × V)} {k : κ} {v : V} (h : k ∉ kvs.map (·.1)) : (putK kvs k v).map (·.1) = kvs.map (·.1) ++ [k] := by
 unfold putK
 rw [if_neg, List.map_append]
 ·rfl
 ·intro z
  obtain ⟨p, hp, e⟩ := List.any_eq_true.mp z
  exact h (List.mem_map.mpr ⟨p, hp, of_decide_eq_true e⟩)
theorem keys_putH {κ : Type} [DecidableEq κ] {kvs : List (κ × V)} {k : κ} {v : V} (h : k ∈ kvs.map (·.1)) : (putK kvs k v).map (·.1) = kvs.map (·.1) := by
 unfold putK
 rw [if_pos, List.map_map]
 ·refine List.map_congr_left fun p _ => ?_
  show (if p.1 = k then (p.1, v) else p).1 = p.1
  split <;> rfl
 ·obtain ⟨p, hp, e⟩ := List.mem_map.mp h
  exact List.any_eq_true.mpr ⟨p, hp, decide_eq_true e⟩
section
variable {X : Cx}
theorem op_ne_nilT (hu : X.A.units < cLine) : OpR X (compareOp .NotEq) (fun x y H Q => ∃ a b xs, x = .ref a /\ y = .ref b /\ SqT X.K H a xs /\ SqT X.K H b [] /\ Q (.bl (!xs.isEmpty)) H) := by
 intro pins s Z H x y v u Q I rx ry h
 obtain ⟨a, b, xs, rfl, rfl, ha, hb, q⟩ := h
 cases rx
 cases ry
 obtain ⟨its, r, pl, _⟩ := I.tuple ha
 obtain ⟨its2, r2, pl2, _⟩ := I.tuple hb
 cases r2
 refine SeqAt.RcNeAt.tuples (e := fun _ => true) pl pl2 hu (fun j _ h2 => absurd h2 (Nat.not_lt_zero _)) X.prog X.w X.xe _ ⟨V.bl _, H, I, ?_, q⟩
 cases r with
 | nil => rfl
 | cons r1 t => simp [RelV]
end
theorem cut_lastV (zs : List V) (u : V) : cutV (zs ++ [u]) none (some (-1)) = zs := by
 have e : HT.sIx (zs ++ [u]).length (zs ++ [u]).length (some (-1)) = zs.length := by
  show (if (-1 : Int) < 0 then ((-1 : Int) + ((zs ++ [u]).length : Int)).toNat else min (-1 : Int).toNat (zs ++ [u]).length) = zs.length
  rw [if_pos (by decide), List.length_append]
  show ((-1 : Int) + ((zs.length + 1 : Nat) : Int)).toNat = zs.length
  lia
 unfold cutV
 rw [e, HT.sIx_none, List.drop_zero, Nat.sub_zero, List.take_append_of_le_length (Nat.le_refl _), List.take_length]
theorem DGet.tf {H : Hp} {a b : Addr} {o : Obj} {kvs : List (List Key × V)} {k : List Key} (e : H a = some (.frz o (.dT kvs))) (eb : H b = some (.tup (k.map kV))) : DGet H a (.ref b) (valV kvs k) := .inr (.inl ⟨kvs, k, b, .inr ⟨o, e⟩, rfl, eb, rfl⟩)
theorem kp_tk {rd : Addr} {H H' : Hp} {kr : List ((List Key × Key) × V)} (k : Kp rd H H') (h : H rd = some (.dP kr)) : TK H H' := fun b xs e => k b _ e fun z => by rw [z, h] at e; cases e
theorem ToldN.kp {rd : Addr} {H H' : Hp} {bk : Bk} {kvs : List (Key × V)} {nm : Str} {kr : List ((List Key × Key) × V)} (k : Kp rd H H') (h : H rd = some (.dP kr)) : ToldN H bk kvs nm -> ToldN H' bk kvs nm := fun ⟨td, kv2, fr, h1, h2, h3, h4, h5⟩ =>
 ⟨td, kv2, fr, h1, h2, h3, k _ _ h4 fun z => by (rw [z, h] at h4; cases h4), h5.mono (kp_tk k h)⟩
theorem rt_top {H : Hp} {n : Nat} {t : Bt} {v : V} (h : RepT H n t v) : ∃ a b, v = .ref a /\ H a = some (.tup [.str t.nm, .ref b]) := by
 cases n with
 | zero => exact h.elim
 | succ n => obtain ⟨a, b, vs, e, h1, _⟩ := h; exact ⟨a, b, e, h1⟩
theorem flat_len {bk : Bk} : ∀ {l : List (List Nat × Bt)}, (∀ q ∈ l, (swds (srtOf bk q.2)).length <= 6) -> (l.flatMap (spotsAt bk)).length <= 6 * l.length
 | [], _ => Nat.le_refl _
 | q :: r, h => by
  have h1 := flat_len (bk := bk) (l := r) fun x hx => h x (List.mem_cons_of_mem _ hx)
  have h2 := h q List.mem_cons_self
  have h3 : (spotsAt bk q).length = (swds (srtOf bk q.2)).length := List.length_map _
  rw [List.flatMap_cons, List.length_append, List.length_cons]
  lia
noncomputable def spW (pl : List Nat) (w : Str) : List Key × Key := spk (pl, w)
noncomputable def itemsOf (t : Bt) : List (List Nat × Bt) := t.places.zip t.subs
noncomputable def restS (bk : Bk) (t : Bt) (i : Nat) : List (List Key × Key) := (((itemsOf t).drop i).flatMap (spotsAt bk)).map spk
theorem restS_at {bk : Bk} {t : Bt} {i : Nat} {pl : List Nat} {u : Bt} (h : (itemsOf t)[i]? = some (pl, u)) : restS bk t i = (srtOf bk u).downs.map (spW pl) ++ ((srtOf bk u).ups.map (spW pl) ++ restS bk t (i + 1)) := by
 unfold restS
 have h1 := List.getElem?_eq_some_iff.mp h
 rw [List.drop_eq_getElem_cons h1.1, h1.2, List.flatMap_cons, List.map_append]
 show ((swds (srtOf bk u)).map fun w => (pl, w)).map spk ++ _ = _
 unfold swds
 rw [List.map_map, List.map_append, List.append_assoc]
 rfl
theorem zip_at {α β : Type} : ∀ {a : List α} {b : List β} {i : Nat} {x : α} {y : β}, a[i]? = some x -> b[i]? = some y -> (a.zip b)[i]? = some (x, y)
 | [], _, i, _, _, h, _ => by cases i <;> cases h
 | _ :: _, [], i, _, _, _, h => by cases i <;> cases h
 | _ :: _, _ :: _, 0, _, _, h1, h2 => by cases h1; cases h2; rfl
 | _ :: a, _ :: b, i + 1, _, _, h1, h2 => zip_at (a := a) (b := b) (i := i) h1 h2
theorem not_in_pre {α : Type} {a r L : List α} {k : α} (e : a ++ k :: r = L) (nd : L.Nodup) : k ∉ a := fun h => by
 rw [<- e, List.nodup_append] at nd
 exact nd.2.2 k h k List.mem_cons_self rfl
theorem pre_len {α : Type} {a r L : List α} (e : a ++ r = L) : a.length <= L.length := by rw [<- e, List.length_append]; lia
theorem catTT {K : PySem.W.Frag} {H : Hp} {a b : Addr} {xs ys : List V} {Q : VK} (ha : H a = some (.tup xs)) (hb : H b = some (.tup ys)) (hl : xs.length + ys.length <= 1000) (q : ∀ c H', Same H H' -> H' c = some (.tup (xs ++ ys)) -> Q (.ref c) H') : rCatTA K (.ref a) (.ref b) H Q := by
 refine ⟨a, b, _, _, rfl, rfl, SqT.of ha, SqT.of hb, Nat.le_of_lt (small1000 hl), fun e => q b H (fun _ _ h => h) ?_, fun _ e => q a H (fun _ _ h => h) ?_, fun _ _ p hp => q p _ (same_new hp _) upd_same⟩
 ·rw [hb, e]; rfl
 ·rw [ha, e, List.append_nil]
theorem sub_of_at {t u : Bt} {pl : List Nat} (h : t.at? pl = some u) : u ∈ t.subs := by
 obtain ⟨i, hi⟩ := List.getElem?_of_mem (places_of_at h)
 obtain ⟨u', hu, hat⟩ := paired_get' (at_subs t.sz t (Nat.le_refl _)) hi
 rw [h] at hat
 cases hat
 exact List.mem_of_getElem? hu
theorem keyOf_snoc (p : List Nat) (k : Nat) : (keyOf (p ++ [k])).map kV = (keyOf p).map kV ++ [V.int ((k : Nat) : Int)] := by
 unfold keyOf
 rw [List.map_append, List.map_append]
 rfl
theorem str_at {l : List Str} {j : Nat} {x : V} (h : (l.map V.str)[j]? = some x) : ∃ w, l[j]? = some w /\ x = .str w := by
 rw [List.getElem?_map] at h
 cases e : l[j]? with
 | none => rw [e] at h; cases h
 | some w => rw [e] at h; exact ⟨w, rfl, (Option.some.inj h).symm⟩
theorem drop_at {α : Type} {l : List α} {j : Nat} {w : α} (h : l[j]? = some w) : l.drop j = w :: l.drop (j + 1) := by
 have h1 := List.getElem?_eq_some_iff.mp h
 rw [List.drop_eq_getElem_cons h1.1, h1.2]
inductive spBySpot  (vs : List V) (H : Hp) (Q : VK) (E_ : XK) : Prop
 | mk : ∀ bv tv bk n t m s, (vs = [bv, tv]) -> (RepB H bk bv) -> (BkS bk) -> (RepT H n t tv) -> (TrS bk m t s) -> (t.sz <= 100) -> (∀ d kvs H', H d = none -> Same H H' -> H' d = some (.dP kvs) -> kvs.map (·.1) = (spots bk t).map spk -> Q (.ref d) H') -> spBySpot vs H Q E_
noncomputable abbrev NBySpot : List Str := ["book", "tree", "boughs", "bough", "told", "rules", "place", "sort", "down", "above", "up"]
theorem scBySpot : FnScope NBySpot ["book", "tree"] (defScope sBySpot) := fsc
theorem ok_bySpot (F : Fun K "rules_by_spot" "rules_by_spot" sBySpot f fd)
  (GB : FnOk P w K mg base CX0 1 f2 fd2 ["tree"] spByPlace) (bB : Binds K fd2 ["tree"] []) (kB : PySem.W.keepIn K (.ref f2) = true) (mB : mg "boughs_by_place" = some (.ref f2))
  (GT : FnOk P w K mg base CX0 5 f3 fd3 ["book", "names"] spTolds) (bT : Binds K fd3 ["book", "names"] []) (kT : PySem.W.keepIn K (.ref f3) = true) (mT : mg "told_by_forms" = some (.ref f3))
  (GS : FnOk P w K mg base CX0 3 f4 fd4 ["book", "tree"] spSortOf) (bS : Binds K fd4 ["book", "tree"] []) (kS : PySem.W.keepIn K (.ref f4) = true) (mS : mg "sort_of" = some (.ref f4))
  (GD : FnOk P w K mg base CX0 3 f5 fd5 ["book", "sort"] spDowns) (bD : Binds K fd5 ["book", "sort"] []) (kD : PySem.W.keepIn K (.ref f5) = true) (mD : mg "downs_of" = some (.ref f5))
  (GU : FnOk P w K mg base CX0 3 f6 fd6 ["book", "sort"] spUps) (bU : Binds K fd6 ["book", "sort"] []) (kU : PySem.W.keepIn K (.ref f6) = true) (mU : mg "ups_of" = some (.ref f6)) : FnOk P w K mg base CX0 6 f fd ["book", "tree"] spBySpot := by
 refine F.ok scBySpot (fun vs H Q E h => ?_) (fun cdv A outer s H vs Q E hr h => ?_)
 ·obtain ⟨bv, tv, bk, n, t, m, s, rfl, _⟩ := h
  rfl
 obtain ⟨bv, tv, bk, n, t, m, sr0, rfl, hB, hok, hT, hTr, hsz, q⟩ := h
 have hu := hu_of hr
 have hu0 := hr.units0
 have hr1 := hr.mono (show 1 <= 5 by decide)
 have hr3 := hr.mono (show 3 <= 5 by decide)
 refine ⟨_, pss_cons (ps_set (i := 2) scBySpot.nd rfl (Or.inl rfl) (pe_call GB hr1 rfl mB kB bB .nil pass0 (pa_cons (pv 1) pa_nil)))
  (pss_cons (ps_set (i := 4) scBySpot.nd rfl (Or.inl rfl) (pe_call GT hr rfl mT kT bT .nil pass0 (pa_cons (pv 0) (pa_cons
   (pe_comp (sc0 := defScope sBySpot) (N0 := NBySpot) (ys := []) (fr := []) rfl (pi_vals (pv 2)) rfl rfl
    cok
    (fun C s H ex => pe_ix (r := rIxT K) ix_tup (pv 0) pe_int (fun _ _ => rfl))) pa_nil))))
  (pss_cons (ps_set (i := 5) scBySpot.nd rfl (Or.inl rfl) pe_dnewP)
  (pss_cons (ps_for PassesOwn.never rfl (pi_items (pv 2)) (pg_tup rfl (pgs_cons (pg_name (i := 6) scBySpot.nd rfl (Or.inl rfl)) (pgs_cons (pg_name (i := 3) scBySpot.nd rfl (Or.inl rfl)) pgs_nil)))
   (pss_cons (ps_set (i := 7) scBySpot.nd rfl (Or.inl rfl) (pe_call GS hr3 rfl mS kS bS .nil pass0 (pa_cons (pv 0) (pa_cons (pv 3) pa_nil))))
   (pss_cons (ps_for PassesOwn.never rfl (pi_tup (pe_call GD hr3 rfl mD kD bD .nil pass0 (pa_cons (pv 0) (pa_cons (pv 7) pa_nil)))) (pg_name (i := 8) scBySpot.nd rfl (Or.inl rfl))
    (pss_cons (ps_dput hu (pv 5) (pe_tup (pa_cons (pv 6) (pa_cons (pv 8) pa_nil))) pe_non rfl)
    (pss_one (ps_if (pt_cmpR (op_ne_nilT hu0) (pv 6) (pe_tup pa_nil) (nomark _))
     (pss_cons (ps_set (i := 9) scBySpot.nd rfl (Or.inl rfl) (pe_dget hu (pv 2) (pe_slice sl_tupA (pv 6) po_none (po_some (pe_un un_neg pe_int))) (fun _ _ => rfl)))
     (pss_one (ps_dput hu (pv 5) (pe_tup (pa_cons (pv 6) (pa_cons (pv 8) pa_nil)))
      (pe_op op_catTB (pe_tup (pa_cons (pe_slice sl_tupA (pv 6) po_none (po_some (pe_un un_neg pe_int))) pa_nil))
       (pe_dget hu (pe_dget hu (pv 4) (pe_ix (r := rIxT K) ix_tup (pv 9) pe_int (fun _ _ => rfl)) (fun _ _ => rfl)) (pe_tup (pa_cons (pe_ix (r := rIxT K) ix_tup (pv 6) (pe_un un_neg pe_int) (fun _ _ => rfl)) (pa_cons (pv 8) pa_nil))) (fun _ _ => rfl))) rfl)))
     pss_nil))))
   (pss_one (ps_for PassesOwn.never rfl (pi_tup (pe_call GU hr3 rfl mU kU bU .nil pass0 (pa_cons (pv 0) (pa_cons (pv 7) pa_nil)))) (pg_name (i := 10) scBySpot.nd rfl (Or.inl rfl))
    (pss_one (ps_dput hu (pv 5) (pe_tup (pa_cons (pv 6) (pa_cons (pv 10) pa_nil)))
     (pe_op op_catTB (pe_tup (pa_cons (pv 6) pa_nil))
      (pe_dget hu (pe_dget hu (pv 4) (pe_ix (r := rIxT K) ix_tup (pv 3) pe_int (fun _ _ => rfl)) (fun _ _ => rfl)) (pe_tup (pa_cons (pe_un un_neg pe_int) (pa_cons (pv 10) pa_nil))) (fun _ _ => rfl))) rfl)))))))
  (pss_one (ps_ret (pv 5)))))), ?_⟩
 refine ⟨_, rfl, n, t, tv, rfl, hT, by lia, fun bd kvs H1 hbd s1 gbd hk hv => ?_⟩
 have hsub := at_subs t.sz t (Nat.le_refl _)
 have lsub : t.places.length = t.subs.length := Paired.length hsub
 have lsz : t.places.length = t.sz := rfl
 have lkv : kvs.length = t.subs.length := by
  have := Paired.length hv
  rw [List.length_map] at this
  exact this.symm
 have hfrm : ∀ u ∈ t.subs, ∃ fr, fr ∈ bk.forms /\ Frm.name fr = u.nm /\ srtOf bk u = fr.own := fun u hu => by
  obtain ⟨i, hi⟩ := List.getElem?_of_mem hu
  obtain ⟨p, hp, hat⟩ := paired_get hsub hi
  obtain ⟨m', s', h1⟩ := hTr.at hat
  obtain ⟨fr, f1, f2, f3⟩ := h1.frm
  exact ⟨fr, f1, f2, srtOf_frm hok.nd f1 f2⟩
 have hwd : ∀ u ∈ t.subs, (swds (srtOf bk u)).Nodup /\ (swds (srtOf bk u)).length <= 6 := fun u hu => by
  obtain ⟨fr, f1, _, f3⟩ := hfrm u hu
  obtain ⟨w1, w2, w3, _⟩ := hok.ws _ (hok.fo fr f1).1
  rw [f3]
  exact ⟨w3, by unfold swds; rw [List.length_append]; lia⟩
 have hLn : ((spots bk t).map spk).Nodup := spots_nodup fun u hu => (hwd u hu).1
 have hLl : ((spots bk t).map spk).length <= 600 := by
  rw [List.length_map]
  have h1 := flat_len (bk := bk) (l := t.places.zip t.subs) fun q hq => (hwd q.2 (List.of_mem_zip hq).2).2
  have h2 : (t.places.zip t.subs).length <= 100 := by rw [List.length_zip]; lia
  show ((t.places.zip t.subs).flatMap (spotsAt bk)).length <= 600
  lia
 generalize hL : (spots bk t).map spk = L at hLn hLl q
 refine ⟨_, rfl, _, rfl, bd, kvs, rfl, .inl ⟨gbd, fun o => ?_⟩⟩
 have tk2 : TK H1 (upd H1 bd (.frz o (.dT kvs))) := fun b xs e => by rw [upd_ne (fun z => by rw [z, gbd] at e; cases e)]; exact e
 have S2 : Same H (upd H1 bd (.frz o (.dT kvs))) := fun b x e => by rw [upd_ne (ne_of_none e hbd)]; exact s1 _ _ e
 have gbd2 : (upd H1 bd (.frz o (.dT kvs))) bd = some (.frz o (.dT kvs)) := upd_same
 have hv2 : Paired (RepT (upd H1 bd (.frz o (.dT kvs))) n) t.subs (kvs.map (·.2)) := Paired.mapP hv fun _ _ r => r.mono tk2
 generalize upd H1 bd (.frz o (.dT kvs)) = H2 at tk2 S2 gbd2 hv2 ⊢
 refine comp_pr (xs := kvs.map (·.2)) (by rw [List.length_map]; lia) hv2 (fun i H' s' hi => ⟨kvs, kvs[i]'(by rw [List.length_map] at hi; exact hi), s' _ _ gbd2, List.getElem?_eq_getElem _⟩) (fun H' s' => ⟨kvs, s' _ _ gbd2, (List.length_map _).symm⟩) (fun i H' v H'' _ s' hy => ⟨hy.1, hy.2 kvs (s' _ _ gbd2)⟩) (fun _ u v => v = .str (Bt.nm u)) (fun _ h => h) ?_ ?_
 ·rintro u v H' k _ hR s' hk'
  obtain ⟨a, b, rfl, ha⟩ := rt_top hR
  exact ⟨_, rfl, a, _, 0, .str u.nm, rfl, rfl, SqT.of (s' _ _ ha), atI0, hk' _ _ (fun _ _ h => h) rfl⟩
 intro p zs H3 hp s3 gp hz
 have ez := paired_eq hz
 subst ez
 refine ⟨bv, bk, p, t.subs.map Bt.nm, rfl, hB.mono (tk_of (S2.trans s3)), hok, by rw [gp, List.map_map]; rfl, by rw [List.length_map]; lia, fun nm hnm => ?_, fun td kvT H4 htd s4 gtd hToldN => ?_⟩
 ·obtain ⟨u, hu, rfl⟩ := List.mem_map.mp hnm
  obtain ⟨fr, f1, f2, _⟩ := hfrm u hu
  exact ⟨fr, f1, f2⟩
 refine fun rd hrd => ?_
 have s5 := same_new hrd (.dP [])
 have g5 : (upd H4 rd (.dP [])) rd = some (.dP []) := upd_same
 have hrd0 : H rd = none := (S2.trans (s3.trans s4)).free hrd
 have nbr : bd ≠ rd := fun z => by have := (s3.trans s4) _ _ gbd2; rw [z, hrd] at this; cases this
 have ntr : td ≠ rd := fun z => by rw [z, hrd] at gtd; cases gtd
 have S5 : Same H2 (upd H4 rd (.dP [])) := s3.trans (s4.trans s5)
 have gtd5 := s5 _ _ gtd
 have hT5 : ∀ nm ∈ t.subs.map Bt.nm, ToldN (upd H4 rd (.dP [])) bk kvT nm := fun nm h => (hToldN nm h).same s5
 generalize upd H4 rd (.dP []) = H5 at s5 g5 S5 gtd5 hT5 ⊢
 clear hToldN gtd s4 s3 gp hz
 have gbd5 := S5 _ _ gbd2
 have hv5 : Paired (RepT H5 n) t.subs (kvs.map (·.2)) := Paired.mapP hv2 fun _ _ r => r.mono (tk_of S5)
 have hB5 : RepB H5 bk bv := hB.mono (tk_of (S2.trans S5))
 refine ⟨_, rfl, bd, kvs, rfl, .inr ⟨o, gbd5, ?_⟩⟩
 refine for_items (kvs := kvs) (fun i Z H' => i <= kvs.length /\ ∃ o3 o6 o7 o8 o9 o10 kr, Z = [some bv, some tv, some (.ref bd), o3, some (.ref td), some (.ref rd), o6, o7, o8, o9, o10] /\ Kp rd H5 H' /\ H' rd = some (.dP kr) /\ kr.map (·.1) ++ restS bk t i = L)
  ⟨Nat.zero_le _, none, none, none, none, none, none, [], rfl, Kp.refl, g5, hL⟩ (fun i Z H' _ h => by obtain ⟨_, _, _, _, _, _, _, _, _, kp, _⟩ := h; exact kp _ _ gbd5 nbr) ?_ ?_
 ·rintro i ks v T c Z H6 hx hT0 hc ⟨_, o3, o6, o7, o8, o9, o10, kr, rfl, k6, gr6, eL⟩
  have hil : i < kvs.length := (List.getElem?_eq_some_iff.mp hx).1
  obtain ⟨pl, hpl, rfl⟩ : ∃ pl, t.places[i]? = some pl /\ ks = keyOf pl := by
   have h1 : (kvs.map (·.1))[i]? = some ks := by rw [List.getElem?_map, hx]; rfl
   rw [hk, List.getElem?_map] at h1
   cases e : t.places[i]? with
   | none => rw [e] at h1; cases h1
   | some pl => rw [e] at h1; exact ⟨pl, rfl, (Option.some.inj h1).symm⟩
  obtain ⟨u, hu, hR5⟩ := paired_get hv5 (show (kvs.map (·.2))[i]? = some v by rw [List.getElem?_map, hx]; rfl)
  have hat : t.at? pl = some u := by
   obtain ⟨u', hu', hat⟩ := paired_get' hsub hpl
   rw [hu] at hu'
   cases hu'
   exact hat
  have hitem : (itemsOf t)[i]? = some (pl, u) := zip_at hpl hu
  obtain ⟨fr, f1, f2, f3⟩ := hfrm u (List.mem_of_getElem? hu)
  obtain ⟨hown, _, _, _, _⟩ := hok.fo fr f1
  obtain ⟨a, b, rfl, ha5⟩ := rt_top hR5
  have tk6 := kp_tk k6 g5
  have s7 := same_new hT0 (.tup [.ref c, .ref a])
  have g7 : (upd H6 T (.tup [.ref c, .ref a])) T = some (.tup [.ref c, .ref a]) := upd_same
  generalize upd H6 T (.tup [.ref c, .ref a]) = H7 at s7 g7 ⊢
  refine ⟨T, _, rfl, SqT.of g7, rfl, _, _, rfl, _, _, rfl, rfl, ?_⟩
  refine ⟨_, rfl, _, rfl, bv, bk, a, u.nm, _, fr, rfl, (hB5.mono tk6).mono (tk_of s7), hok, s7 _ _ (tk6 _ _ ha5), f1, f2, fun H8 s8 => ?_⟩
  refine ⟨_, rfl, _, rfl, bv, bk, fr.own.name, fr.own, rfl, (hB5.mono tk6).mono (tk_of (s7.trans s8)), hok, hown, rfl, fun db H9 s9 gdb => ?_⟩
  refine ⟨db, rfl, ⟨_, SqT.of gdb⟩, ?_⟩
  rw [restS_at hitem, f3] at eL
  have S69 := s7.trans (s8.trans s9)
  have k9 : Kp rd H5 H9 := k6.same S69
  have gr9 := S69 _ _ gr6
  have gc9 := S69 _ _ hc
  clear s7 s8 s9 g7 gr6 hc hT0
  have lD : (fr.own.downs.map V.str).length = fr.own.downs.length := List.length_map _
  have ncr : c ≠ rd := fun z => by rw [z, gr9] at gc9; cases gc9
  refine for_tup (xs := fr.own.downs.map V.str) (fun j Z H' => j <= fr.own.downs.length /\ ∃ o8 o9 kr', Z = [some bv, some tv, some (.ref bd), some (.ref a), some (.ref td), some (.ref rd), some (.ref c), some (.str fr.own.name), o8, o9, o10] /\ Kp rd H9 H' /\ H' rd = some (.dP kr') /\
    kr'.map (·.1) ++ ((fr.own.downs.drop j).map (spW pl) ++ (fr.own.ups.map (spW pl) ++ restS bk t (i + 1))) = L)
   ⟨Nat.zero_le _, o8, o9, kr, rfl, Kp.refl, gr9, eL⟩ (fun j Z H' _ h => by obtain ⟨_, _, _, _, _, kp, _⟩ := h; exact SqT.of (kp_tk kp gr9 _ _ gdb)) ?_ ?_
  ·rintro j x Z H10 hxj ⟨_, o8', o9', kr', rfl, k10, gr10, eL'⟩
   obtain ⟨w, hw, rfl⟩ := str_at hxj
   have hjl : j < fr.own.downs.length := (List.getElem?_eq_some_iff.mp hw).1
   rw [drop_at hw, List.map_cons, List.cons_append] at eL'
   have hnot := not_in_pre eL' hLn
   have hlen := pre_len eL'
   rw [List.length_map] at hlen
   refine ⟨_, rfl, _, rfl, _, rfl, (by show 2 <= sizeLine; decide), fun kt hkt => ?_⟩
   have s11 := same_new hkt (.tup [.ref c, .str w])
   have g11 : (upd H10 kt (.tup [.ref c, .str w])) kt = some (.tup [.ref c, kV (Sum.inr w)]) := upd_same
   generalize upd H10 kt (.tup [.ref c, .str w]) = H11 at s11 g11 ⊢
   have gc10 := kp_tk k10 gr9 _ _ gc9
   refine ⟨rd, _, rfl, DPut.p (t := keyOf pl) (k := Sum.inr w) (s11 _ _ gr10) g11 (s11 _ _ gc10) (small1000 (by lia)), ?_⟩
   have k12 : Kp rd H9 (upd H11 rd (.dP (putK kr' (keyOf pl, Sum.inr w) .non))) := fun b' o' e n' => by rw [upd_ne n']; exact s11 _ _ (k10 _ _ e n')
   have gr12 : (upd H11 rd (.dP (putK kr' (keyOf pl, Sum.inr w) .non))) rd = some (.dP (putK kr' (keyOf pl, Sum.inr w) .non)) := upd_same
   generalize upd H11 rd (.dP (putK kr' (keyOf pl, Sum.inr w) .non)) = H12 at k12 gr12 ⊢
   have hkeys : (putK kr' (keyOf pl, Sum.inr w) V.non).map (·.1) = kr'.map (·.1) ++ [spW pl w] := keys_putG hnot
   have hlen2 := length_putK kr' (keyOf pl, Sum.inr w) V.non
   generalize putK kr' (keyOf pl, Sum.inr w) V.non = kr2 at gr12 hkeys hlen2 ⊢
   have eL2 : kr2.map (·.1) ++ ((fr.own.downs.drop (j + 1)).map (spW pl) ++ (fr.own.ups.map (spW pl) ++ restS bk t (i + 1))) = L := by
    rw [hkeys, List.append_assoc]
    exact eL'
   clear k10 gr10 s11 g11 gc10
   have gc12 := k12 _ _ gc9 ncr
   refine ⟨_, rfl, (by show 0 <= sizeLine; decide), fun e he => ?_⟩
   have s13 := same_new he (.tup [])
   have g13 : (upd H12 e (.tup [])) e = some (.tup []) := upd_same
   generalize upd H12 e (.tup []) = H13 at s13 g13 ⊢
   have k13 : Kp rd H9 H13 := k12.same s13
   have gr13 := s13 _ _ gr12
   have gc13 := s13 _ _ gc12
   refine ⟨c, e, _, rfl, rfl, SqT.of gc13, SqT.of g13, _, rfl, ?_⟩
   refine ite2 (fun cT => ?_) (fun _ => ⟨hjl, _, _, kr2, rfl, k13, gr13, eL2⟩)
   obtain ⟨p0, k, hpk⟩ : ∃ p0 k, pl = p0 ++ [k] := by
    rcases List.eq_nil_or_concat pl with e0 | ⟨p0, k, e0⟩
    ·rw [e0] at cT; exact absurd cT (by decide)
    ·exact ⟨p0, k, by rw [e0, List.concat_eq_append]⟩
   have hgcS : ∀ {H' : Hp}, H' c = some (.tup ((keyOf pl).map kV)) -> H' c = some (.tup ((keyOf p0).map kV ++ [V.int ((k : Nat) : Int)])) := fun h => by rw [h, hpk, keyOf_snoc]
   obtain ⟨u0, fr0, q0, mm, hat0, y1, y2, y3, y4⟩ := hTr.above (show t.at? (p0 ++ [k]) = some u by rw [<- hpk]; exact hat)
   have hq0 : q0 = fr.own := by
    obtain ⟨fx, x1, x2, x3⟩ := y4.frm
    rw [<- x3, frm_inj hok.nd x1 f1 (by rw [x2, f2])]
   rw [hq0] at y3
   obtain ⟨rr, hrr, r1, r2⟩ := hok.down y1 y3 (List.mem_of_getElem? hw)
   have T13 : Kp rd H5 H13 := k9.trans k13
   have hv13 : Paired (RepT H13 n) t.subs (kvs.map (·.2)) := Paired.mapP hv5 fun _ _ r => r.mono (kp_tk T13 g5)
   obtain ⟨v0, hv0, hR0⟩ := bough_at hk hv13 hat0
   obtain ⟨a0, b0, rfl, ha0⟩ := rt_top hR0
   obtain ⟨td0, kv0, frx, t1, t2, t3, t4, t5⟩ := ToldN.kp T13 g5 (hT5 u0.nm (List.mem_map.mpr ⟨u0, sub_of_at hat0, rfl⟩))
   have efx : frx = fr0 := frm_inj hok.nd t1 y1 (by rw [t2, y2])
   rw [efx] at t5
   obtain ⟨TT, xx, yy, z1, z2⟩ := t5 rr hrr
   have erk : rkey rr = [Sum.inl ((k : Nat) : Int), Sum.inr w] := by unfold rkey; rw [r1, r2]
   rw [erk] at z1
   refine ⟨_, rfl, _, rfl, _, rfl, _, rfl, c, _, rfl, hgcS gc13, fun pa H14 s14 gpa => ?_⟩
   rw [show (-(1 : Int)) = -1 from rfl, cut_lastV] at gpa
   refine ⟨bd, _, rfl, (by rw [<- hv0]; exact DGet.tf (s14 _ _ (T13 _ _ gbd5 nbr)) gpa), ?_⟩
   refine ⟨_, rfl, _, rfl, _, rfl, c, _, rfl, hgcS (s14 _ _ gc13), fun pb H15 s15 gpb => ?_⟩
   rw [show (-(1 : Int)) = -1 from rfl, cut_lastV] at gpb
   refine ⟨(by show 1 <= sizeLine; decide), fun t1' ht1 => ?_⟩
   have s16 := same_new ht1 (.tup [.ref pb])
   have g16 : (upd H15 t1' (.tup [.ref pb])) t1' = some (.tup [.ref pb]) := upd_same
   generalize upd H15 t1' (.tup [.ref pb]) = H16 at s16 g16 ⊢
   have S16 : Same H13 H16 := Same.trans s14 (Same.trans s15 s16)
   refine ⟨_, rfl, _, rfl, a0, _, 0, .str u0.nm, rfl, rfl, SqT.of (S16 _ _ ha0), atI0, td, _, rfl, (by rw [<- t3]; exact DGet.k (k := Sum.inr u0.nm) (S16 _ _ (T13 _ _ gtd5 ntr))), ?_⟩
   refine ⟨_, rfl, _, rfl, c, _, -1, .int ((k : Nat) : Int), rfl, rfl, SqT.of (hgcS (S16 _ _ gc13)), atI_last _ _, _, rfl, (by show 2 <= sizeLine; decide), fun k2 hk2 => ?_⟩
   have s17 := same_new hk2 (.tup [.int ((k : Nat) : Int), .str w])
   have g17 : (upd H16 k2 (.tup [.int ((k : Nat) : Int), .str w])) k2 = some (.tup ([Sum.inl ((k : Nat) : Int), Sum.inr w].map kV)) := upd_same
   generalize upd H16 k2 (.tup [.int ((k : Nat) : Int), .str w]) = H17 at s17 g17 ⊢
   have S17 := S16.trans s17
   refine ⟨td0, _, rfl, (by rw [<- z1]; exact DGet.t (S17 _ _ t4) g17), ?_⟩
   refine catTT (s17 _ _ g16) (S17 _ _ z2) (by show 1 + 2 <= 1000; decide) fun cc H18 s18 gcc => ?_
   refine ⟨_, rfl, _, rfl, _, rfl, (by show 2 <= sizeLine; decide), fun k3 hk3 => ?_⟩
   have s19 := same_new hk3 (.tup [.ref c, .str w])
   have g19 : (upd H18 k3 (.tup [.ref c, .str w])) k3 = some (.tup [.ref c, kV (Sum.inr w)]) := upd_same
   generalize upd H18 k3 (.tup [.ref c, .str w]) = H19 at s19 g19 ⊢
   have S19 := S17.trans (s18.trans s19)
   have hlen3 := pre_len eL2
   rw [List.length_map] at hlen3
   refine ⟨rd, _, rfl, DPut.p (t := keyOf pl) (k := Sum.inr w) (S19 _ _ gr13) g19 (S19 _ _ gc13) (small1000 (by lia)), ?_⟩
   refine ⟨hjl, _, _, _, rfl, fun b' o' e' n' => ?_, upd_same, ?_⟩
   ·rw [upd_ne n']; exact S19 _ _ (k13 _ _ e' n')
   ·rw [keys_putH (by rw [hkeys]; exact List.mem_append_right _ List.mem_cons_self)]
    exact eL2
  ·rintro Z H10 ⟨_, o8', o9', kr', rfl, k10, gr10, eL'⟩
   rw [lD, List.drop_length] at eL'
   have eL1 : kr'.map (·.1) ++ (fr.own.ups.map (spW pl) ++ restS bk t (i + 1)) = L := eL'
   have T10 : Kp rd H5 H10 := k9.trans k10
   have tk10 := kp_tk T10 g5
   refine ⟨_, rfl, _, rfl, bv, bk, fr.own.name, fr.own, rfl, hB5.mono tk10, hok, hown, rfl, fun ub H11 s11 gub => ?_⟩
   refine ⟨ub, rfl, ⟨_, SqT.of gub⟩, ?_⟩
   have gr11 := s11 _ _ gr10
   have gc11 := s11 _ _ (k10 _ _ gc9 ncr)
   have T11 : Kp rd H5 H11 := T10.same s11
   have lU : (fr.own.ups.map V.str).length = fr.own.ups.length := List.length_map _
   refine for_tup (xs := fr.own.ups.map V.str) (fun j Z H' => j <= fr.own.ups.length /\ ∃ o10 kr', Z = [some bv, some tv, some (.ref bd), some (.ref a), some (.ref td), some (.ref rd), some (.ref c), some (.str fr.own.name), o8', o9', o10] /\ Kp rd H11 H' /\ H' rd = some (.dP kr') /\
     kr'.map (·.1) ++ ((fr.own.ups.drop j).map (spW pl) ++ restS bk t (i + 1)) = L)
    ⟨Nat.zero_le _, o10, kr', rfl, Kp.refl, gr11, eL1⟩ (fun j Z H' _ h => by obtain ⟨_, _, _, _, kp, _⟩ := h; exact SqT.of (kp_tk kp gr11 _ _ gub)) ?_ ?_
   ·rintro j x Z H12 hxj ⟨_, o10', kr2, rfl, k12, gr12, eL2⟩
    obtain ⟨w, hw, rfl⟩ := str_at hxj
    have hjl : j < fr.own.ups.length := (List.getElem?_eq_some_iff.mp hw).1
    rw [drop_at hw, List.map_cons, List.cons_append] at eL2
    have hnot := not_in_pre eL2 hLn
    have hlen := pre_len eL2
    rw [List.length_map] at hlen
    obtain ⟨rr, hrr, r1, r2⟩ := hok.up f1 (List.mem_of_getElem? hw)
    have T12 : Kp rd H5 H12 := T11.trans k12
    have gc12 := k12 _ _ gc11 ncr
    obtain ⟨td0, kv0, frx, t1, t2, t3, t4, t5⟩ := ToldN.kp T12 g5 (hT5 u.nm (List.mem_map.mpr ⟨u, List.mem_of_getElem? hu, rfl⟩))
    have efx : frx = fr := frm_inj hok.nd t1 f1 (by rw [t2, f2])
    rw [efx] at t5
    obtain ⟨TT, xx, yy, z1, z2⟩ := t5 rr hrr
    have erk : rkey rr = [Sum.inl (-1), Sum.inr w] := by unfold rkey; rw [r1, r2]
    rw [erk] at z1
    refine ⟨_, rfl, (by show 1 <= sizeLine; decide), fun t1' ht1 => ?_⟩
    have s16 := same_new ht1 (.tup [.ref c])
    have g16 : (upd H12 t1' (.tup [.ref c])) t1' = some (.tup [.ref c]) := upd_same
    generalize upd H12 t1' (.tup [.ref c]) = H16 at s16 g16 ⊢
    refine ⟨_, rfl, _, rfl, a, _, 0, .str u.nm, rfl, rfl, SqT.of (s16 _ _ (kp_tk T12 g5 _ _ ha5)), atI0, td, _, rfl, (by rw [<- t3]; exact DGet.k (k := Sum.inr u.nm) (s16 _ _ (T12 _ _ gtd5 ntr))), ?_⟩
    refine ⟨_, rfl, _, rfl, (by show 2 <= sizeLine; decide), fun k2 hk2 => ?_⟩
    try rw [show (fun (i : Int) => V.int (-i)) 1 = V.int (-1) from rfl]
    have s17 := same_new hk2 (.tup [.int (-1), .str w])
    have g17 : (upd H16 k2 (.tup [.int (-1), .str w])) k2 = some (.tup ([Sum.inl (-1), Sum.inr w].map kV)) := upd_same
    generalize upd H16 k2 (.tup [.int (-1), .str w]) = H17 at s17 g17 ⊢
    have S17 := s16.trans s17
    refine ⟨td0, _, rfl, (by rw [<- z1]; exact DGet.t (S17 _ _ t4) g17), ?_⟩
    refine catTT (s17 _ _ g16) (S17 _ _ z2) (by show 1 + 2 <= 1000; decide) fun cc H18 s18 gcc => ?_
    refine ⟨_, rfl, _, rfl, _, rfl, (by show 2 <= sizeLine; decide), fun k3 hk3 => ?_⟩
    have s19 := same_new hk3 (.tup [.ref c, .str w])
    have g19 : (upd H18 k3 (.tup [.ref c, .str w])) k3 = some (.tup [.ref c, kV (Sum.inr w)]) := upd_same
    generalize upd H18 k3 (.tup [.ref c, .str w]) = H19 at s19 g19 ⊢
    have S19 := S17.trans (s18.trans s19)
    refine ⟨rd, _, rfl, DPut.p (t := keyOf pl) (k := Sum.inr w) (S19 _ _ gr12) g19 (S19 _ _ gc12) (small1000 (by lia)), ?_⟩
    refine ⟨hjl, _, _, rfl, fun b' o' e' n' => ?_, upd_same, ?_⟩
    ·rw [upd_ne n']; exact S19 _ _ (k12 _ _ e' n')
    ·rw [keys_putG (show (keyOf pl, Sum.inr w) ∉ kr2.map (·.1) from hnot), List.append_assoc]
     exact eL2
   ·rintro Z H12 ⟨_, o10', kr2, rfl, k12, gr12, eL2⟩
    rw [lU, List.drop_length] at eL2
    exact ⟨hil, _, _, _, _, _, _, kr2, rfl, T11.trans k12, gr12, eL2⟩
 ·rintro Z H6 ⟨_, o3, o6, o7, o8, o9, o10, kr, rfl, k6, gr6, eL⟩
  have hend : restS bk t kvs.length = [] := by
   unfold restS
   rw [List.drop_eq_nil_of_le (by show (t.places.zip t.subs).length <= kvs.length; rw [List.length_zip]; lia)]
   rfl
  rw [hend, List.append_nil] at eL
  refine ⟨_, rfl, q rd kr H6 hrd0 (fun b' o' e' => k6 _ _ (S5 _ _ (S2 _ _ e')) (ne_of_none e' hrd0)) gr6 eL⟩
noncomputable def RepSp (H : Hp) (q : List Nat × Str) (v : V) : Prop := ∃ b c, v = .ref b /\ H b = some (.tup [.ref c, .str q.2]) /\ H c = some (.tup ((keyOf q.1).map kV))
theorem RepSp.mono {H H' : Hp} (k : TK H H') {q : List Nat × Str} {v : V} : RepSp H q v -> RepSp H' q v := fun ⟨b, c, e, h1, h2⟩ => ⟨b, c, e, k _ _ h1, k _ _ h2⟩
theorem ps_spots {H : Hp} : ∀ {l : List (List Nat × Str)} {ys : List V}, PsOf H ys (l.map spk) -> Paired (RepSp H) l ys
 | [], _, h => by cases h; exact .nil
 | q :: r, _, h => by
  cases h with
  | cons h t =>
   obtain ⟨b, c, e, h1, h2⟩ := h
   exact .cons ⟨b, c, e, h1, h2⟩ (ps_spots t)
inductive spSpots  (vs : List V) (H : Hp) (Q : VK) (E_ : XK) : Prop
 | mk : ∀ bv tv bk n t m s, (vs = [bv, tv]) -> (RepB H bk bv) -> (BkS bk) -> (RepT H n t tv) -> (TrS bk m t s) -> (t.sz <= 100) -> (∀ p zs H', H p = none -> Same H H' -> H' p = some (.lst zs) -> Paired (RepSp H') (spots bk t) zs -> Q (.ref p) H') -> spSpots vs H Q E_
inductive spLWords  (vs : List V) (H : Hp) (Q : VK) (E_ : XK) : Prop
 | mk : ∀ bv bk nm fr, (vs = [bv, .str nm]) -> (RepB H bk bv) -> (BkS bk) -> (fr ∈ bk.forms) -> (Frm.name fr = nm) -> (∀ d b c H', Same H H' -> H' d = some (.tup [.ref b, .ref c]) -> H' b = some (.tup (List.map V.str fr.own.downs)) -> H' c = some (.tup (List.map V.str fr.own.ups)) -> Q (.ref d) H') -> spLWords vs H Q E_
theorem scSpots : FnScope ["book", "tree"] ["book", "tree"] (defScope sSpots) := fsc
theorem ok_spots (F : Fun K "spots_of" "spots_of" sSpots f fd) (hlist : mg "list" = none)
  (GR : FnOk P w K mg base CX0 6 f2 fd2 ["book", "tree"] spBySpot) (bR : Binds K fd2 ["book", "tree"] []) (kR : PySem.W.keepIn K (.ref f2) = true) (mR : mg "rules_by_spot" = some (.ref f2)) : FnOk P w K mg base CX0 7 f fd ["book", "tree"] spSpots := by
 refine F.ok scSpots (fun vs H Q E h => ?_) (fun cdv A outer s H vs Q E hr h => ?_)
 ·obtain ⟨bv, tv, bk, n, t, m, s, rfl, _⟩ := h
  rfl
 obtain ⟨bv, tv, bk, n, t, m, sr, rfl, hB, hok, hT, hTr, hsz, q⟩ := h
 refine ⟨_, pss_one (ps_ret (pe_callTy (call_listP rfl) rfl hlist (by decide +kernel) (pa_cons (pe_call GR hr rfl mR kR bR .nil pass0 (pa_cons (pv 0) (pa_cons (pv 1) pa_nil))) pa_nil))), ?_⟩
 refine ⟨_, rfl, _, rfl, bv, tv, bk, n, t, m, sr, rfl, hB, hok, hT, hTr, hsz, fun d kvs H1 hd s1 gd hk => ?_⟩
 refine ⟨d, kvs, rfl, gd, fun p ys hp hP => ?_⟩
 rw [hk] at hP
 have s2 := same_new hp (.lst ys)
 exact q p ys _ (s1.free hp) (s1.trans s2) upd_same (Paired.mapP (ps_spots hP) fun _ _ r => r.mono (tk_of s2))
noncomputable abbrev NLWords : List Str := ["book", "name", "form", "sort"]
theorem scLWords : FnScope NLWords ["book", "name"] (defScope sLWords) := fsc
theorem ok_lwords (F : Fun K "_law_words" "_law_words" sLWords f fd) : FnOk P w K mg base CX0 1 f fd ["book", "name"] spLWords := by
 refine F.ok scLWords (fun vs H Q E h => ?_) (fun cdv A outer s H vs Q E hr h => ?_)
 ·obtain ⟨bv, bk, nm, fr, rfl, _⟩ := h
  rfl
 obtain ⟨bv, bk, nm, fr, rfl, hB, hok, hf, hn, q⟩ := h
 refine ⟨_, pss_cons (ps_for PassesOwn.never rfl (pi_tup (pe_ix (r := rIxT K) ix_tup (pv 0) pe_int (fun _ _ => rfl))) (pg_name (i := 2) scLWords.nd rfl (Or.inl rfl))
   (pss_one (ps_for PassesOwn.never rfl (pi_tup (pe_ix (r := rIxT K) ix_tup (pv 0) pe_int (fun _ _ => rfl))) (pg_name (i := 3) scLWords.nd rfl (Or.inl rfl))
    (pss_one (ps_if (PW.pt (pw_and (pt_cmpR op_eq (pe_ix (r := rIxT K) ix_tup (pv 2) pe_int (fun _ _ => rfl)) (pv 1) (nomark _)) (pw_and1 (pt_cmpR op_eq (pe_ix (r := rIxT K) ix_tup (pv 3) pe_int (fun _ _ => rfl)) (pe_ix (r := rIxT K) ix_tup (pv 2) pe_int (fun _ _ => rfl)) (nomark _)))))
     (pss_one (ps_ret (pe_tup (pa_cons (pe_ix (r := rIxT K) ix_tup (pv 3) pe_int (fun _ _ => rfl)) (pa_cons (pe_ix (r := rIxT K) ix_tup (pv 3) pe_int (fun _ _ => rfl)) pa_nil))))) pss_nil)))))
  (pss_one ps_never), ?_⟩
 have hB0 := hB
 obtain ⟨a, sa, fa, fv, rfl, ha, ⟨sx, hsa, hS⟩, hfa, hF⟩ := hB0
 have lF := hF.len
 have lS := hS.len
 refine ⟨_, rfl, a, _, 2, .ref fa, rfl, rfl, SqT.of ha, atI_nat (j := 2) rfl, fa, rfl, ⟨fv, SqT.of hfa⟩, ?_⟩
 refine for_tup (xs := fv) (fun i Z H' => ∃ o2 o3, Z = [some (.ref a), some (.str nm), o2, o3] /\ H' = H /\ ∀ x ∈ bk.forms.take i, Frm.name x ≠ nm)
  ⟨none, none, rfl, rfl, fun x h => (by cases h)⟩ (fun i Z H' _ h => by obtain ⟨_, _, _, e, _⟩ := h; rw [e]; exact SqT.of hfa) ?_ ?_
 ·rintro i x Z H1 hx ⟨o2, o3, rfl, e1, hno⟩
  subst e1
  obtain ⟨fx, hfx, b, pa, ra, rv, rfl, hb, hpa, hra, hRR⟩ := paired_get hF hx
  refine ⟨_, rfl, a, _, 1, .ref sa, rfl, rfl, SqT.of ha, atI_nat (j := 1) rfl, sa, rfl, ⟨sx, SqT.of hsa⟩, ?_⟩
  refine for_tup (xs := sx) (fun j Z H' => ∃ o3, Z = [some (.ref a), some (.str nm), some (.ref b), o3] /\ H' = H1 /\ (Frm.name fx = nm -> ∀ y ∈ bk.sorts.take j, Srt.name y ≠ fx.own.name))
   ⟨o3, rfl, rfl, fun _ y h => (by cases h)⟩ (fun j Z H' _ h => by obtain ⟨_, _, e, _⟩ := h; rw [e]; exact SqT.of hsa) ?_ ?_
  ·rintro j y Z H2 hy ⟨o3', rfl, e2, hno2⟩
   subst e2
   obtain ⟨sy, hsy, b1, c1, d1, rfl, g1, g2, g3⟩ := paired_get hS hy
   refine ⟨_, rfl, b, _, 0, .str fx.name, rfl, rfl, SqT.of hb, atI0, _, rfl, rfl, _, rfl, ?_⟩
   rw [show decide (V.str fx.name = V.str nm) = decide (fx.name = nm) from decide_eq_decide.mpr ⟨fun e => V.str.inj e, fun e => by rw [e]⟩]
   refine ite2 (fun c => ?_) (fun c => ?_)
   ·have hfn := of_decide_eq_true c
    refine ⟨_, rfl, b1, _, 0, .str sy.name, rfl, rfl, SqT.of g1, atI0, _, rfl, b, _, 1, .str fx.own.name, rfl, rfl, SqT.of hb, atI_nat (j := 1) rfl, rfl, _, rfl, ?_⟩
    rw [show decide (V.str sy.name = V.str fx.own.name) = decide (sy.name = fx.own.name) from decide_eq_decide.mpr ⟨fun e => V.str.inj e, fun e => by rw [e]⟩]
    refine ite2 (fun c2 => ?_) (fun c2 => ?_)
    ·have hsn := of_decide_eq_true c2
     have ef : fx = fr := frm_inj hok.nd (List.mem_of_getElem? hfx) hf (by rw [hfn, hn])
     have es : sy = fr.own := srt_inj hok.sd (List.mem_of_getElem? hsy) (hok.fo fr hf).1 (by rw [hsn, ef])
     subst es
     refine ⟨_, rfl, b1, _, 1, .ref c1, rfl, rfl, SqT.of g1, atI_nat (j := 1) rfl, _, rfl, b1, _, 2, .ref d1, rfl, rfl, SqT.of g1, atI_nat (j := 2) rfl, (by show 2 <= sizeLine; decide), fun d hd => ?_⟩
     have s3 := same_new hd (.tup [.ref c1, .ref d1])
     exact q d c1 d1 _ s3 upd_same (s3 _ _ g2) (s3 _ _ g3)
    ·refine ⟨_, rfl, rfl, fun _ z hz => ?_⟩
     rw [List.take_add_one, hsy] at hz
     rcases List.mem_append.mp hz with h | h
     ·exact hno2 hfn z h
     ·have : z = sy := by simpa using h
      rw [this]
      exact fun e => c2 (decide_eq_true e)
   ·exact iteF ⟨_, rfl, rfl, fun h => absurd (decide_eq_true h) c⟩
  ·rintro Z H2 ⟨o3', rfl, e2, hno2⟩
   rw [<- lS, List.take_length] at hno2
   refine ⟨_, _, rfl, e2, fun z hz => ?_⟩
   rw [List.take_add_one, hfx] at hz
   rcases List.mem_append.mp hz with h | h
   ·exact hno z h
   ·have : z = fx := by simpa using h
    rw [this]
    exact fun e => hno2 e fx.own (hok.fo fx (List.mem_of_getElem? hfx)).1 rfl
 ·rintro Z H1 ⟨o2, o3, rfl, e1, hno⟩
  rw [<- lF, List.take_length] at hno
  exact absurd hn (hno fr hf)
theorem pair_zip {α β : Type} : ∀ {l : List (α × β)} {a : List α} {b : List β}, l.map (·.1) = a -> l.map (·.2) = b -> l = a.zip b
 | [], _, _, h1, h2 => by subst h1; rfl
 | (x, y) :: r, _, _, h1, h2 => by
  subst h1 h2
  show (x, y) :: r = (x, y) :: (r.map (·.1)).zip (r.map (·.2))
  rw [<- pair_zip (l := r) rfl rfl]
inductive spLBoughs  (vs : List V) (H : Hp) (Q : VK) (E_ : XK) : Prop
 | mk : ∀ n t tv, (vs = [tv]) -> (RepT H n t tv) -> (t.sz <= 100) -> (∀ p zs H', H p = none -> Same H H' -> H' p = some (.lst zs) -> Paired (RepP H' n) (itemsOf t) zs -> Q (.ref p) H') -> spLBoughs vs H Q E_
inductive spLSpots  (vs : List V) (H : Hp) (Q : VK) (E_ : XK) : Prop
 | mk : ∀ bv tv bk n t m s, (vs = [bv, tv]) -> (RepB H bk bv) -> (BkS bk) -> (RepT H n t tv) -> (TrS bk m t s) -> (t.sz <= 100) -> (∀ p zs H', H p = none -> Same H H' -> H' p = some (.lst zs) -> Paired (RepSp H') (spots bk t) zs -> Q (.ref p) H') -> spLSpots vs H Q E_
noncomputable abbrev NLBoughs : List Str := ["tree", "found", "waits", "place", "bough", "parts"]
theorem scLBoughs : FnScope NLBoughs ["tree"] (defScope sLBoughs) := fsc
theorem ok_lboughs (F : Fun K "_law_boughs" "_law_boughs" sLBoughs f fd) (G : Gb mg) : FnOk P w K mg base CX0 1 f fd ["tree"] spLBoughs := by
 refine F.ok scLBoughs (fun vs H Q E h => ?_) (fun cdv A outer s H vs Q E hr h => ?_)
 ·obtain ⟨n, t, tv, rfl, _⟩ := h
  rfl
 obtain ⟨n, t, tv, rfl, hT, hsz, q⟩ := h
 refine ⟨_, pss_cons (ps_set (i := 1) scLBoughs.nd rfl (Or.inl rfl) (pe_lst pa_nil))
  (pss_cons (ps_set (i := 2) scLBoughs.nd rfl (Or.inl rfl) (pe_lst (pa_cons (pe_tup (pa_cons (pe_tup pa_nil) (pa_cons (pv 0) pa_nil))) pa_nil)))
  (pss_cons (ps_while PassesOwn.never (pt_cmpR (op_ne_nil hr.units0) (pv 2) (pe_lst pa_nil) (nomark _))
   (pss_cons (ps_asg (pe_bm PySem.F.plainAttrs_list PySem.F.slot_list_pop PySem.F.type_list_pop mt_popAt (pv 2) (pa_cons pe_int pa_nil)) (pg_tup rfl (pgs_cons (pg_name (i := 3) scLBoughs.nd rfl (Or.inr rfl)) (pgs_cons (pg_name (i := 4) scLBoughs.nd rfl (Or.inl rfl)) pgs_nil))))
   (pss_cons (ps_expr (pe_bm PySem.F.plainAttrs_list PySem.F.slot_list_append PySem.F.type_list_append mt_append (pv 1) (pa_cons (pe_tup (pa_cons (pv 3) (pa_cons (pv 4) pa_nil))) pa_nil)))
   (pss_cons (ps_set (i := 5) scLBoughs.nd rfl (Or.inr rfl) (pe_ix (r := rIxT K) ix_tup (pv 4) pe_int (fun _ _ => rfl)))
   (pss_one (ps_set (i := 2) scLBoughs.nd rfl (Or.inl rfl) (pe_op op_cat
    (pe_comp (sc0 := defScope sLBoughs) (N0 := NLBoughs) (ys := ["parts", "place"]) (fr := [5, 3]) rfl (pi_range1 rfl G.range (pa_cons (pe_callB (r := rLen K) call_len_seq rfl G.len PySem.boot_len (pa_cons (pv 5) pa_nil)) pa_nil)) rfl rfl
     cok
     (fun C s H ex => pe_tup (pa_cons (pe_op (r := rCatTA K) op_catTB (pv 2) (pe_tup (pa_cons (pv 0) pa_nil))) (pa_cons (pe_ix (r := rIxT K) ix_tup (pv 1) (pv 0) (fun _ _ => rfl)) pa_nil))))
    (pv 2))))))))
  (pss_one (ps_ret (pv 1))))), ?_⟩
 refine ⟨(by show 0 <= sizeLine; decide), fun fl hfl => ?_⟩
 have s0 := same_new hfl (.lst [])
 have g0 : (upd H fl (.lst [])) fl = some (.lst []) := upd_same
 generalize upd H fl (.lst []) = H0 at s0 g0 ⊢
 refine ⟨(by show 0 <= sizeLine; decide), fun e0 he0 => ?_⟩
 have s1 := same_new he0 (.tup [])
 have g1 : (upd H0 e0 (.tup [])) e0 = some (.tup []) := upd_same
 generalize upd H0 e0 (.tup []) = H1 at s1 g1 ⊢
 refine ⟨_, rfl, (by show 2 <= sizeLine; decide), fun c0 hc0 => ?_⟩
 have s2 := same_new hc0 (.tup [.ref e0, tv])
 have g2 : (upd H1 c0 (.tup [.ref e0, tv])) c0 = some (.tup [.ref e0, tv]) := upd_same
 generalize upd H1 c0 (.tup [.ref e0, tv]) = H2 at s2 g2 ⊢
 refine ⟨(by show 1 <= sizeLine; decide), fun wl0 hwl0 => ?_⟩
 have s3 := same_new hwl0 (.lst [.ref c0])
 have g3 : (upd H2 wl0 (.lst [.ref c0])) wl0 = some (.lst [.ref c0]) := upd_same
 generalize upd H2 wl0 (.lst [.ref c0]) = H3 at s3 g3 ⊢
 have S3 : Same H H3 := ((s0.trans s1).trans s2).trans s3
 have hw0 : H wl0 = none := ((s0.trans s1).trans s2).free hwl0
 have nfw0 : fl ≠ wl0 := fun z => by have := s2 _ _ (s1 _ _ g0); rw [z, hwl0] at this; cases this
 refine ⟨fun m Z H' => ∃ (Wt : List (List Nat × Bt)) (ws : List V) (dn : List (List Nat × Bt)) (dz : List V) (wl : Addr) (o3 o4 o5 : Option V), Z = [some tv, some (.ref fl), some (.ref wl), o3, o4, o5] /\ Same H H' /\ H' fl = some (.lst dz) /\ H' wl = some (.lst ws) /\ fl ≠ wl /\ H wl = none /\
   Paired (RepP H' n) Wt ws /\ Paired (RepP H' n) dn dz /\ dn.map (·.1) ++ restP Wt = t.places /\ dn.map (·.2) ++ subsL (Wt.map (·.2)) = t.subs /\ m = (restP Wt).length,
  ⟨_, [([], t)], [.ref c0], [], [], wl0, none, none, none, rfl, S3, s3 _ _ (s2 _ _ (s1 _ _ g0)), g3, nfw0, hw0, .cons ⟨c0, e0, tv, rfl, s3 _ _ g2, s3 _ _ (s2 _ _ g1), hT.mono (tk_of S3)⟩ .nil, .nil, ?_, subsL_one t, rfl⟩, ?_⟩
 ·show [] ++ (t.places.map (fun p => [] ++ p) ++ []) = t.places
  rw [List.append_nil, List.nil_append]
  exact List.map_id _
 clear g3 S3 s3 g2 s2 g1 s1 g0 s0 hwl0 hc0 he0 hw0 nfw0
 rintro m Z H4 ⟨Wt, ws, dn, dz, wl, o3, o4, o5, rfl, S4, gf, gw, nfw, hw0, hP, hD, hall, hsub, rfl⟩
 have hlen : dn.length + (restP Wt).length = t.sz := by
  have := congrArg List.length hall
  rw [List.length_append, List.length_map] at this
  exact this
 have ldz : dn.length = dz.length := Paired.length hD
 refine ⟨_, rfl, (by show 0 <= sizeLine; decide), fun p3 h3 => ?_⟩
 have s5 := same_new h3 (.lst [])
 have g5 : (upd H4 p3 (.lst [])) p3 = some (.lst []) := upd_same
 have gf5 := s5 _ _ gf
 have gw5 := s5 _ _ gw
 have S5 := S4.trans s5
 have hP5 : Paired (RepP (upd H4 p3 (.lst [])) n) Wt ws := Paired.mapP hP fun _ _ r => r.mono (tk_of s5)
 have hD5 : Paired (RepP (upd H4 p3 (.lst [])) n) dn dz := Paired.mapP hD fun _ _ r => r.mono (tk_of s5)
 generalize upd H4 p3 (.lst []) = H5 at s5 g5 gf5 gw5 S5 hP5 hD5 ⊢
 clear hP hD gf gw S4 s5
 refine ⟨wl, p3, ws, rfl, rfl, SqL.of gw5, SqL.of g5, _, rfl, ?_⟩
 cases hP5 with
 | nil =>
  refine iteF ⟨_, rfl, q fl dz H5 hfl S5 gf5 ?_⟩
  have e1 : dn.map (·.1) = t.places := by rw [<- hall]; exact (List.append_nil _).symm
  have e2 : dn.map (·.2) = t.subs := by rw [<- hsub]; show _ = _ ++ subsL []; rw [subsL_nil, List.append_nil]
  unfold itemsOf
  rw [<- pair_zip e1 e2]
  exact hD5
 | @cons qh z W' rs hz hP' =>
  refine iteT ⟨_, fun Z' H'' h => h, ?_⟩
  obtain ⟨pl, u⟩ := qh
  obtain ⟨c, a, uv, rfl, hc, ha, hu5⟩ := hz
  refine ⟨_, rfl, .inl ⟨rfl, _, SqL.of gw5⟩, wl, _, 0, 0, .ref c, rfl, rfl, gw5, by decide, by decide, by simp [seqIndex?], rfl, ?_⟩
  have tk6 : TK H5 (upd H5 wl (.lst rs)) := TK.lst gw5
  have S6 : Same H (upd H5 wl (.lst rs)) := fun y oo h => by rw [upd_ne (ne_of_none h hw0)]; exact S5 _ _ h
  have gw6 : (upd H5 wl (.lst rs)) wl = some (.lst rs) := upd_same
  have gf6 : (upd H5 wl (.lst rs)) fl = some (.lst dz) := by rw [upd_ne nfw]; exact gf5
  rw [show (V.ref c :: rs).eraseIdx 0 = rs from rfl]
  generalize upd H5 wl (.lst rs) = H6 at tk6 S6 gw6 gf6 ⊢
  have hc6 := tk6 _ _ hc
  have ha6 := tk6 _ _ ha
  have hu6 := hu5.mono tk6
  have hP6 : Paired (RepP H6 n) W' rs := Paired.mapP hP' fun _ _ r => r.mono tk6
  have hD6 : Paired (RepP H6 n) dn dz := Paired.mapP hD5 fun _ _ r => r.mono tk6
  clear hP' hD5 hc ha hu5 gf5 gw5 S5 tk6
  refine ⟨c, _, rfl, SqT.of hc6, rfl, _, _, rfl, _, _, rfl, rfl, ?_⟩
  refine ⟨_, rfl, .inl ⟨rfl, _, SqL.of gf6⟩, _, rfl, _, rfl, (by show 2 <= sizeLine; decide), fun T hT' => ?_⟩
  have s7 := same_new hT' (.tup [.ref a, uv])
  have g7 : (upd H6 T (.tup [.ref a, uv])) T = some (.tup [.ref a, uv]) := upd_same
  generalize upd H6 T (.tup [.ref a, uv]) = H7 at s7 g7 ⊢
  have hrest : restP ((pl, u) :: W') = pl :: ((placesL 0 u.ps).map (fun p => pl ++ p) ++ restP W') := by
   show u.places.map (fun p => pl ++ p) ++ restP W' = _
   rw [places_eq, List.map_cons, List.append_nil]; rfl
  rw [hrest] at hall hlen ⊢
  rw [List.length_cons] at hlen
  refine ⟨fl, _, _, rfl, rfl, s7 _ _ gf6, small1000 (by lia), ?_⟩
  have tk8 : TK H7 (upd H7 fl (.lst (dz ++ [.ref T]))) := TK.lst (s7 _ _ gf6)
  have S8 : Same H (upd H7 fl (.lst (dz ++ [.ref T]))) := fun y oo h => by rw [upd_ne (ne_of_none h hfl)]; exact s7 _ _ (S6 _ _ h)
  have gf8 : (upd H7 fl (.lst (dz ++ [.ref T]))) fl = some (.lst (dz ++ [.ref T])) := upd_same
  have gw8 : (upd H7 fl (.lst (dz ++ [.ref T]))) wl = some (.lst rs) := by rw [upd_ne (Ne.symm nfw)]; exact s7 _ _ gw6
  have TK8 : TK H6 (upd H7 fl (.lst (dz ++ [.ref T]))) := (tk_of s7).trans tk8
  have g8 := tk8 _ _ g7
  generalize upd H7 fl (.lst (dz ++ [.ref T])) = H8 at tk8 S8 gf8 gw8 TK8 g8 ⊢
  have ha8 := TK8 _ _ ha6
  have hu8 := hu6.mono TK8
  have hP8 : Paired (RepP H8 n) W' rs := Paired.mapP hP6 fun _ _ r => r.mono TK8
  have hD8 : Paired (RepP H8 n) (dn ++ [(pl, u)]) (dz ++ [.ref T]) := paired_app (Paired.mapP hD6 fun _ _ r => r.mono TK8) (.cons ⟨T, a, uv, rfl, g8, ha8, hu8⟩ .nil)
  clear hP6 hD6 hc6 ha6 hu6 gf6 gw6 S6 g7 s7 tk8 TK8
  obtain ⟨ua, ub, rfl, hua, hub, hps⟩ := hu8.prt
  have hpl : u.ps.length = (prtV H8 (.ref ua)).length := Paired.length hps
  have hszu : (placesL 0 u.ps).length = szL u.ps := placesL_len _ _
  have hkl := szL_len u.ps
  rw [List.length_append, List.length_map] at hlen
  refine ⟨_, rfl, ua, _, 1, .ref ub, rfl, rfl, SqT.of hua, atI_nat (j := 1) rfl, ?_⟩
  refine ⟨_, rfl, ub, _, rfl, .inr (SqT.of hub), _, rfl, by lia, by lia, ?_⟩
  rw [Int.toNat_natCast, <- hpl]
  have hx : ∀ i, i < u.ps.length -> ((List.range u.ps.length).map fun j => V.int ((j : Nat) : Int))[i]? = some (V.int ((i : Nat) : Int)) := fun i hi => by
   rw [List.getElem?_map, List.getElem?_range hi]; rfl
  have hl : ((List.range u.ps.length).map fun j => V.int ((j : Nat) : Int)).length = u.ps.length := by rw [List.length_map, List.length_range]
  have hPr : Paired (fun (j : Nat) (v : V) => v = V.int ((j : Nat) : Int)) (List.range u.ps.length) ((List.range u.ps.length).map fun j => V.int ((j : Nat) : Int)) := by
   generalize List.range u.ps.length = l
   induction l with
   | nil => exact .nil
   | cons a r ih => exact .cons rfl ih
  refine comp_pr (by lia) hPr (fun i H _ h => itr_go i H (by lia)) (fun H _ => by rw [hl]; exact itr_stop H) (fun i H v H' hi _ h => ?_) (fun H j z => ∃ x, u.ps[j]? = some x /\ RepP H n (pl ++ [j], x) z) (fun k ⟨x, e, h⟩ => ⟨x, e, h.mono k⟩) ?_ ?_
  ·refine ⟨h.1, ?_⟩
   rw [hx i (by lia), h.2]
   exact congrArg (fun x => some (V.int x)) (show ((i : Nat) : Int) = 0 + (i : Int) by lia)
  ·intro j v H9 k hj hv s9 hk
   subst hv
   have hj' := List.mem_range.mp hj
   have hxj : u.ps[j]? = some u.ps[j] := List.getElem?_eq_getElem hj'
   obtain ⟨xv, hxv, rx⟩ := paired_get' hps hxj
   refine ⟨_, rfl, _, rfl, (by show 1 <= sizeLine; decide), fun q1 hq1 => ?_⟩
   have s10 := same_new hq1 (.tup [V.int ((j : Nat) : Int)])
   have g10 : (upd H9 q1 (.tup [V.int ((j : Nat) : Int)])) q1 = some (.tup [V.int ((j : Nat) : Int)]) := upd_same
   generalize upd H9 q1 (.tup [V.int ((j : Nat) : Int)]) = H10 at s10 g10 ⊢
   have ha10 := s10 _ _ (s9 _ _ ha8)
   have lpl : (plV pl).length = pl.length := List.length_map _
   have hplm : pl ∈ t.places := by rw [<- hall]; exact List.mem_append_right _ List.mem_cons_self
   have hshort := places_short t.sz t (Nat.le_refl _) pl hplm
   refine catTT ha10 g10 (by rw [lpl]; show pl.length + 1 <= 1000; lia) fun b H11 s11 gb => ?_
   refine ⟨_, rfl, _, rfl, ub, _, _, xv, rfl, rfl, SqT.of (s11 _ _ (s10 _ _ (s9 _ _ hub))), atI_nat hxv, (by show 2 <= sizeLine; decide), fun p hp => ?_⟩
   have s12 := same_new hp (.tup [.ref b, xv])
   refine hk _ _ (s10.trans (s11.trans s12)) ⟨_, hxj, p, b, xv, rfl, upd_same, s12 _ _ (by rw [gb]; show some (HO.tup (plV pl ++ [V.int ((j : Nat) : Int)])) = some (HO.tup (plV (pl ++ [j]))); unfold plV; rw [List.map_append]; rfl), rx.mono (tk_of (s9.trans (s10.trans (s11.trans s12))))⟩
  ·intro pb zb H9 hpb s9 gpb hzb
   have lzb : u.ps.length = zb.length := by
    have := Paired.length hzb
    rw [List.length_range] at this
    exact this
   have gw9 := s9 _ _ gw8
   have lrs : W'.length = rs.length := Paired.length hP8
   have lW := restP_len W'
   refine ⟨_, rfl, pb, wl, zb, rs, rfl, rfl, gpb, gw9, Nat.le_of_lt (small1000 (by lia)), fun nw hnw => ?_⟩
   have s10 := same_new hnw (.lst (zb ++ rs))
   have S10 := s9.trans s10
   have hrk : restP (kids pl 0 u.ps ++ W') = (placesL 0 u.ps).map (fun p => pl ++ p) ++ restP W' := by rw [restP_append, restP_kids]
   refine ⟨_, ?_, kids pl 0 u.ps ++ W', zb ++ rs, dn ++ [(pl, u)], dz ++ [.ref T], nw, _, _, _, rfl, S8.trans S10, S10 _ _ gf8, upd_same, ?_, (S8.trans s9).free hnw, ?_, Paired.mapP hD8 fun _ _ r => r.mono (tk_of S10), ?_, ?_, rfl⟩
   ·rw [hrk, List.length_cons]; lia
   ·intro z
    have := s9 _ _ gf8
    rw [z, hnw] at this; cases this
   ·refine paired_app (paired_at (by rw [kids_len]; exact lzb) fun i qq z e1 e2 => ?_) (Paired.mapP hP8 fun _ _ r => r.mono (tk_of S10))
    obtain ⟨x, hx', rfl⟩ := kids_get pl u.ps 0 i qq e1
    obtain ⟨j, hj, x', hx2, hR⟩ := paired_get hzb e2
    have hi : i < u.ps.length := (List.getElem?_eq_some_iff.mp hx').1
    rw [List.getElem?_range hi] at hj
    cases hj
    rw [hx'] at hx2
    cases hx2
    rw [Nat.zero_add]
    exact hR.mono (tk_of s10)
   ·rw [hrk, List.map_append, List.append_assoc]; exact hall
   ·have e1 : subsL (((pl, u) :: W').map (·.2)) = u :: subsL (u.ps ++ W'.map (·.2)) := subsL_nxt u _
    rw [<- hsub, e1, List.map_append, List.map_append, kids_snd, List.append_assoc]; rfl
noncomputable abbrev NLSpots : List Str := ["book", "tree", "found", "place", "bough", "downs", "ups"]
theorem scLSpots : FnScope NLSpots ["book", "tree"] (defScope sLSpots) := fsc
theorem ok_lspots (F : Fun K "_law_spots" "_law_spots" sLSpots f fd)
  (GB : FnOk P w K mg base CX0 1 f2 fd2 ["tree"] spLBoughs) (bB : Binds K fd2 ["tree"] []) (kB : PySem.W.keepIn K (.ref f2) = true) (mB : mg "_law_boughs" = some (.ref f2))
  (GW : FnOk P w K mg base CX0 1 f3 fd3 ["book", "name"] spLWords) (bW : Binds K fd3 ["book", "name"] []) (kW : PySem.W.keepIn K (.ref f3) = true) (mW : mg "_law_words" = some (.ref f3)) : FnOk P w K mg base CX0 2 f fd ["book", "tree"] spLSpots := by
 refine F.ok scLSpots (fun vs H Q E h => ?_) (fun cdv A outer s H vs Q E hr h => ?_)
 ·obtain ⟨bv, tv, bk, n, t, m, s, rfl, _⟩ := h
  rfl
 obtain ⟨bv, tv, bk, n, t, m, sr, rfl, hB, hok, hT, hTr, hsz, q⟩ := h
 refine ⟨_, pss_cons (ps_set (i := 2) scLSpots.nd rfl (Or.inl rfl) (pe_lst pa_nil))
  (pss_cons (ps_for PassesOwn.never rfl (pi_list (pe_call GB hr rfl mB kB bB .nil pass0 (pa_cons (pv 1) pa_nil))) (pg_tup rfl (pgs_cons (pg_name (i := 3) scLSpots.nd rfl (Or.inr rfl)) (pgs_cons (pg_name (i := 4) scLSpots.nd rfl (Or.inl rfl)) pgs_nil)))
   (pss_cons (ps_asg (pe_call GW hr rfl mW kW bW .nil pass0 (pa_cons (pv 0) (pa_cons (pe_ix (r := rIxT K) ix_tup (pv 4) pe_int (fun _ _ => rfl)) pa_nil))) (pg_tup rfl (pgs_cons (pg_name (i := 5) scLSpots.nd rfl (Or.inl rfl)) (pgs_cons (pg_name (i := 6) scLSpots.nd rfl (Or.inl rfl)) pgs_nil))))
   (pss_one (ps_expr (pe_bm PySem.F.plainAttrs_list PySem.F.slot_list_extend PySem.F.type_list_extend mt_extend (pv 2) (pa_cons
    (pe_comp (sc0 := defScope sLSpots) (N0 := NLSpots) (ys := ["place"]) (fr := [3]) rfl (pi_tup (pe_op op_catTB (pv 5) (pv 6))) rfl rfl
     cok
     (fun C s H ex => pe_tup (pa_cons (pv 1) (pa_cons (pv 0) pa_nil)))) pa_nil))))))
  (pss_one (ps_ret (pv 2)))), ?_⟩
 refine ⟨(by show 0 <= sizeLine; decide), fun fl hfl => ?_⟩
 have s0 := same_new hfl (.lst [])
 have g0 : (upd H fl (.lst [])) fl = some (.lst []) := upd_same
 generalize upd H fl (.lst []) = H0 at s0 g0 ⊢
 refine ⟨_, rfl, n, t, tv, rfl, hT.mono (tk_of s0), hsz, fun bl zs H1 hbl s1 gbl hZ => ?_⟩
 refine ⟨bl, rfl, ⟨zs, SqL.of gbl⟩, ?_⟩
 have nbf : bl ≠ fl := fun z => by rw [z, g0] at hbl; cases hbl
 have hsub := at_subs t.sz t (Nat.le_refl _)
 have lsub : t.places.length = t.subs.length := Paired.length hsub
 have lsz : t.places.length = t.sz := rfl
 have litems : (itemsOf t).length = t.sz := by unfold itemsOf; rw [List.length_zip]; lia
 have lZ : (itemsOf t).length = zs.length := Paired.length hZ
 have hfrm : ∀ u ∈ t.subs, ∃ fr, fr ∈ bk.forms /\ Frm.name fr = u.nm /\ srtOf bk u = fr.own := fun u hu => by
  obtain ⟨i, hi⟩ := List.getElem?_of_mem hu
  obtain ⟨p, hp, hat⟩ := paired_get hsub hi
  obtain ⟨m', s', h1⟩ := hTr.at hat
  obtain ⟨fr, f1, f2, f3⟩ := h1.frm
  exact ⟨fr, f1, f2, srtOf_frm hok.nd f1 f2⟩
 have hwd : ∀ u ∈ t.subs, (swds (srtOf bk u)).length <= 6 := fun u hu => by
  obtain ⟨fr, f1, _, f3⟩ := hfrm u hu
  obtain ⟨w1, w2, w3, _⟩ := hok.ws _ (hok.fo fr f1).1
  rw [f3]
  unfold swds
  rw [List.length_append]; lia
 refine for_list (xs := zs) (fun i Z H' => ∃ o3 o4 o5 o6 fz, Z = [some bv, some tv, some (.ref fl), o3, o4, o5, o6] /\ Same H H' /\ TK H1 H' /\ H' bl = some (.lst zs) /\ H' fl = some (.lst fz) /\ Paired (RepSp H') (((itemsOf t).take i).flatMap (spotsAt bk)) fz)
  ⟨none, none, none, none, [], rfl, s0.trans s1, fun _ _ h => h, gbl, s1 _ _ g0, .nil⟩ (fun i Z H' _ h => by obtain ⟨_, _, _, _, _, _, _, _, g, _⟩ := h; exact SqL.of g) ?_ ?_
 ·rintro i x Z H2 hx ⟨o3, o4, o5, o6, fz, rfl, S2, tk2, gb2, gf2, hF⟩
  obtain ⟨qu, hitem, hRP⟩ := paired_get hZ hx
  obtain ⟨pl, u⟩ := qu
  obtain ⟨c, a, uv, rfl, hc, ha, hu⟩ := hRP.mono tk2
  obtain ⟨ua, ub, rfl, hua⟩ := rt_top hu
  have hum : u ∈ t.subs := (List.of_mem_zip (List.mem_of_getElem? hitem)).2
  obtain ⟨fr, f1, f2, f3⟩ := hfrm u hum
  refine ⟨c, _, rfl, SqT.of hc, rfl, _, _, rfl, _, _, rfl, rfl, ?_⟩
  refine ⟨_, rfl, _, rfl, ua, _, 0, .str u.nm, rfl, rfl, SqT.of hua, atI0, bv, bk, u.nm, fr, rfl, hB.mono (tk_of S2), hok, f1, f2, fun d db uc H3 s3 gd gdb guc => ?_⟩
  refine ⟨d, _, rfl, SqT.of gd, rfl, _, _, rfl, _, _, rfl, rfl, ?_⟩
  have hw6 := hwd u hum
  have l1 : (fr.own.downs.map V.str).length + (fr.own.ups.map V.str).length <= 6 := by
   rw [List.length_map, List.length_map]
   rw [f3] at hw6
   unfold swds at hw6
   rw [List.length_append] at hw6
   exact hw6
  refine ⟨_, rfl, .inl ⟨rfl, _, SqL.of (s3 _ _ gf2)⟩, _, rfl, _, rfl, catTT gdb guc (by lia) fun cc H4 s4 gcc => ?_⟩
  have ecc : fr.own.downs.map V.str ++ fr.own.ups.map V.str = (swds fr.own).map V.str := by unfold swds; rw [List.map_append]
  rw [ecc] at gcc
  refine ⟨cc, rfl, ⟨_, SqT.of gcc⟩, ?_⟩
  have hPw : Paired (fun (w : Str) (v : V) => v = V.str w) (swds fr.own) ((swds fr.own).map V.str) := by
   generalize swds fr.own = l
   induction l with
   | nil => exact .nil
   | cons a r ih => exact .cons rfl ih
  have lw : ((swds fr.own).map V.str).length <= 6 := by rw [List.length_map, <- f3]; exact hw6
  have ha4 : H4 a = some (.tup ((keyOf pl).map kV)) := by rw [keyOf_kV]; exact s4 _ _ (s3 _ _ ha)
  refine comp_pr (by lia) hPw (itt_go gcc) (itt_st gcc) (fun i H v H' _ s h => itt_y gcc i H v H' s h) (fun H w z => RepSp H (pl, w) z) (fun k h => h.mono k) ?_ ?_
  ·intro w v H5 k _ hv s5 hk
   subst hv
   refine ⟨_, rfl, _, rfl, (by show 2 <= sizeLine; decide), fun p hp => hk _ _ (same_new hp _) ⟨p, a, rfl, upd_same, same_new hp _ _ _ (s5 _ _ ha4)⟩⟩
  ·intro p zw H5 hp s5 gp hzw
   have S25 := s3.trans (s4.trans s5)
   have gf5 := S25 _ _ gf2
   have lzw : (swds fr.own).length = zw.length := Paired.length hzw
   have lfz : fz.length <= 600 := by
    have h1 := Paired.length hF
    have h2 := flat_len (bk := bk) (l := (itemsOf t).take i) fun q hq => hwd q.2 (List.of_mem_zip (List.mem_of_mem_take hq)).2
    have h3 : ((itemsOf t).take i).length <= 100 := by rw [List.length_take]; lia
    lia
   rw [List.length_map] at lw
   refine ⟨fl, p, _, _, rfl, rfl, gf5, gp, Nat.le_of_lt (small1000 (by lia)), ?_⟩
   have tk6 : TK H5 (upd H5 fl (.lst (fz ++ zw))) := TK.lst gf5
   refine ⟨_, _, _, _, _, rfl, ?_, (tk2.trans (tk_of S25)).trans tk6, by rw [upd_ne nbf]; exact S25 _ _ gb2, upd_same, ?_⟩
   ·intro y oo h
    rw [upd_ne (ne_of_none h hfl)]
    exact S25 _ _ (S2 _ _ h)
   ·rw [List.take_add_one, hitem, List.flatMap_append]
    refine paired_app (Paired.mapP hF fun _ _ r => (r.mono (tk_of S25)).mono tk6) ?_
    show Paired _ (([(pl, u)] : List (List Nat × Bt)).flatMap (spotsAt bk)) zw
    rw [List.flatMap_cons, List.flatMap_nil, List.append_nil]
    show Paired _ ((swds (srtOf bk u)).map fun w => (pl, w)) zw
    rw [f3]
    exact paired_mapl (fun w z h => h.mono tk6) hzw
 ·rintro Z H2 ⟨o3, o4, o5, o6, fz, rfl, S2, tk2, gb2, gf2, hF⟩
  rw [<- lZ, List.take_length] at hF
  exact ⟨_, rfl, q fl fz H2 hfl S2 gf2 hF⟩
theorem plV_ints (pl : List Nat) : (keyOf pl).map kV = pl.map fun k => V.int ((k : Nat) : Int) := by
 unfold keyOf
 rw [List.map_map]; rfl
theorem spots_short {bk : Bk} (hok : BkS bk) {n : Nat} {t : Bt} {s : Srt} (h : TrS bk n t s) (hsz : t.sz <= 100) : ∀ q ∈ spots bk t, q.1.length <= 1000 /\ q.2.length <= 1000 := fun q hq => by
 obtain ⟨p, hp, hq'⟩ := List.mem_flatMap.mp hq
 obtain ⟨w, hw, rfl⟩ := List.mem_map.mp hq'
 have hz := List.of_mem_zip hp
 have h1 := places_short t.sz t (Nat.le_refl _) p.1 hz.1
 obtain ⟨i, hi⟩ := List.getElem?_of_mem hz.2
 obtain ⟨pl, _, hat⟩ := paired_get (at_subs t.sz t (Nat.le_refl _)) hi
 obtain ⟨m', s', h2⟩ := h.at hat
 obtain ⟨fr, f1, f2, f3⟩ := h2.frm
 rw [srtOf_frm hok.nd f1 f2] at hw
 exact ⟨by show p.1.length <= 1000; lia, (hok.ws _ (hok.fo fr f1).1).2.2.2 w hw⟩
theorem spots_len {bk : Bk} (hok : BkS bk) {n : Nat} {t : Bt} {s : Srt} (h : TrS bk n t s) (hsz : t.sz <= 100) : (spots bk t).length <= 600 := by
 have h1 := flat_len (bk := bk) (l := t.places.zip t.subs) fun q hq => by
  obtain ⟨i, hi⟩ := List.getElem?_of_mem (List.of_mem_zip hq).2
  obtain ⟨pl, _, hat⟩ := paired_get (at_subs t.sz t (Nat.le_refl _)) hi
  obtain ⟨m', s', h2⟩ := h.at hat
  obtain ⟨fr, f1, f2, f3⟩ := h2.frm
  obtain ⟨w1, w2, _⟩ := hok.ws _ (hok.fo fr f1).1
  rw [srtOf_frm hok.nd f1 f2]
  unfold swds
  rw [List.length_append]; lia
 have h2 : (t.places.zip t.subs).length <= 100 := by
  rw [List.length_zip]
  have : t.places.length = t.sz := rfl
  lia
 show ((t.places.zip t.subs).flatMap (spotsAt bk)).length <= 600
 lia
theorem spots_alk {H : Hp} : ∀ {l : List (List Nat × Str)} {xs ys : List V}, Paired (RepSp H) l xs -> Paired (RepSp H) l ys -> Paired (AlkT H 2) xs ys
 | _, _, _, .nil, .nil => .nil
 | _, _, _, .cons ⟨b, c, e, h1, h2⟩ t, .cons ⟨b', c', e', h1', h2'⟩ t' => by
  refine .cons (.inr ⟨b, b', _, _, e, e', h1, h1', .cons (.inr ⟨c, c', _, _, rfl, rfl, h2, h2', ?_⟩) (.cons (.inl (.inl ⟨_, rfl, rfl⟩)) .nil)⟩) (spots_alk t t')
  rw [plV_ints]
  clear h2 h2'
  generalize Prod.fst _ = pl
  induction pl with
  | nil => exact .nil
  | cons k r ih => exact .cons (.inr ⟨_, rfl, rfl⟩) ih
inductive spAre  (vs : List V) (H : Hp) (Q : VK) (E_ : XK) : Prop
 | mk : ∀ p zs l, (vs = [.ref p]) -> (H p = some (.lst zs)) -> (Paired (RepSp H) l zs) -> (zs.length <= 1000) -> ((∀ q ∈ l, q.1.length <= 1000 /\ q.2.length <= 1000)) -> (∀ H', Same H H' -> Q (.bl true) H') -> spAre vs H Q E_
inductive spLRight  (vs : List V) (H : Hp) (Q : VK) (E_ : XK) : Prop
 | mk : ∀ bv tv bk n t m s, (vs = [bv, tv]) -> (RepB H bk bv) -> (BkS bk) -> (RepT H n t tv) -> (TrS bk m t s) -> (t.sz <= 100) -> (∀ H', Same H H' -> Q (.bl true) H') -> spLRight vs H Q E_
theorem scAre : FnScope ["found", "spot"] ["found"] (defScope sAreSpots) := fsc
theorem ok_are (F : Fun K "_law_are_spots" "_law_are_spots" sAreSpots f fd) (G : Gb mg) (hlist : mg "list" = none)
  (GW : FnOk P w K mg base CX0 1 f2 fd2 ["found"] spWhole) (bW : Binds K fd2 ["found"] []) (kW : PySem.W.keepIn K (.ref f2) = true) (mW : mg "_law_whole" = some (.ref f2)) : FnOk P w K mg base CX0 2 f fd ["found"] spAre := by
 refine F.ok scAre (fun vs H Q E h => ?_) (fun cdv A outer s H vs Q E hr h => ?_)
 ·obtain ⟨p, zs, l, rfl, _⟩ := h
  rfl
 obtain ⟨p, zs, l, rfl, gp, hZ, hlen, hsh, q⟩ := h
 refine ⟨_, pss_cons (ps_if (pt_not (pt_val (pe_callB call_isV rfl G.isi (by decide +kernel) (pa_cons (pv 0) (pa_cons (pe_bltn (v := .ty "list") rfl hlist (by decide +kernel) rfl) pa_nil))))) pss_never pss_nil)
  (pss_cons (ps_for PassesOwn.never rfl (pi_list (pv 0)) (pg_name (i := 1) scAre.nd rfl (Or.inl rfl))
   (pss_cons (ps_if (PW.pt (pw_or (pt_not (pt_val (pe_callB call_isV rfl G.isi (by decide +kernel) (pa_cons (pv 1) (pa_cons (pe_bltn (v := .ty "tuple") rfl G.tuple (by decide +kernel) rfl) pa_nil)))))
     (pw_or (pt_cmpR op_ne (pe_callB (r := rLen K) call_len_seq rfl G.len PySem.boot_len (pa_cons (pv 1) pa_nil)) pe_int (nomark _))
     (pw_or1 (pt_not (pt_val (pe_callB call_isV rfl G.isi (by decide +kernel) (pa_cons (pe_ix (r := rIxT K) ix_tup (pv 1) pe_int (fun _ _ => rfl)) (pa_cons (pe_bltn (v := .ty "tuple") rfl G.tuple (by decide +kernel) rfl) pa_nil))))))))) pss_never pss_nil)
   (pss_one (ps_if (PW.pt (pw_or (pt_not (pt_val (pe_callB call_isV rfl G.isi (by decide +kernel) (pa_cons (pe_ix (r := rIxT K) ix_tup (pv 1) pe_int (fun _ _ => rfl)) (pa_cons (pe_bltn (v := .ty "str") rfl G.str (by decide +kernel) rfl) pa_nil)))))
     (pw_or1 (pt_not (pt_val (pe_callB (call_all rfl) rfl G.all (by decide +kernel) (pa_cons (pe_comp (sc0 := defScope sAreSpots) (N0 := ["found", "spot"]) (ys := []) (fr := []) rfl (pi_tup (pe_ix (r := rIxT K) ix_tup (pv 1) pe_int (fun _ _ => rfl))) rfl rfl
      cok
      (fun C s H ex => pe_call GW hr rfl mW kW bW .nil pass0 (pa_cons (pv 0) pa_nil))) pa_nil))))))) pss_never pss_nil))))
  (pss_one (ps_ret pe_bl))), ?_⟩
 refine ⟨_, rfl, .ref p, "list", rfl, .inl ⟨zs, gp⟩, by simp, true, ?_, iteF ?_⟩
 ·exact congrArg V.bl (by simp only [isV, gp]; rfl)
 refine ⟨_, rfl, p, rfl, ⟨zs, SqL.of gp⟩, ?_⟩
 refine for_list (xs := zs) (fun i Z H' => ∃ o1, Z = [some (.ref p), o1] /\ Same H H') ⟨none, rfl, Same.refl H⟩ (fun i Z H' _ h => by obtain ⟨_, _, sm⟩ := h; exact SqL.of (sm _ _ gp)) ?_ ?_
 ·rintro i x Z H1 hx ⟨o1, rfl, s1⟩
  obtain ⟨qq, hq, b, c, rfl, hb, hc⟩ := paired_get hZ hx
  obtain ⟨hs1, hs2⟩ := hsh qq (List.mem_of_getElem? hq)
  have hb1 := s1 _ _ hb
  have hc1 := s1 _ _ hc
  refine ⟨_, rfl, .ref b, "tuple", rfl, .inr (.inl ⟨_, hb1⟩), by simp, true, ?_, iteF ?_⟩
  ·exact congrArg V.bl (by simp only [isV, hb1]; rfl)
  refine ⟨_, rfl, b, _, rfl, .inr (SqT.of hb1), rfl, _, rfl, ?_⟩
  rw [show (!decide (V.int (([V.ref c, V.str qq.2].length : Nat) : Int) = V.int 2)) = false from congrArg Bool.not (decide_eq_true (show V.int (([V.ref c, V.str qq.2].length : Nat) : Int) = V.int 2 from rfl))]
  refine iteF ⟨_, rfl, b, _, 0, .ref c, rfl, rfl, SqT.of hb1, atI0, .ref c, "tuple", rfl, .inr (.inl ⟨_, hc1⟩), by simp, true, ?_, iteF ?_⟩
  ·exact congrArg V.bl (by simp only [isV, hc1]; rfl)
  refine ⟨_, rfl, b, _, 1, .str qq.2, rfl, rfl, SqT.of hb1, atI_nat (j := 1) rfl, .str qq.2, "str", rfl, hs2, by simp, true, rfl, iteF ?_⟩
  refine ⟨_, rfl, b, _, 0, .ref c, rfl, rfl, SqT.of hb1, atI0, c, rfl, ⟨_, SqT.of hc1⟩, ?_⟩
  have hPw : Paired (fun (k : Nat) (v : V) => v = V.int ((k : Nat) : Int)) qq.1 ((keyOf qq.1).map kV) := by
   rw [plV_ints]
   generalize qq.1 = l
   induction l with
   | nil => exact .nil
   | cons a r ih => exact .cons rfl ih
  refine comp_pr (by rw [plV_ints, List.length_map]; exact hs1) hPw (itt_go hc1) (itt_st hc1) (fun i H v H' _ s h => itt_y hc1 i H v H' s h) (fun _ _ z => z = .bl true) (fun _ h => h) ?_ ?_
  ·intro k v H2 kk _ hv s2 hk
   subst hv
   exact ⟨_, rfl, _, rfl, trivial, hk _ _ (fun _ _ h => h) rfl⟩
  ·intro p2 z2 H2 hp2 s2 gp2 hz2
   have ez : z2 = (List.replicate qq.1.length true).map V.bl := by
    clear gp2 hPw hsh
    generalize qq.1 = l at hz2
    induction hz2 with
    | nil => rfl
    | cons h _ ih => rw [h, ih]; rfl
   refine ⟨p2, List.replicate qq.1.length true, rfl, SqL.of (by rw [gp2, ez]), true, ?_, iteF ⟨_, rfl, s1.trans s2⟩⟩
   exact congrArg V.bl (by simp)
 ·rintro Z H1 ⟨o1, rfl, s1⟩
  exact q H1 s1
theorem scLRight : FnScope ["book", "tree", "found"] ["book", "tree"] (defScope sLRight) := fsc
theorem ok_lright (F : Fun K "_law_right" "_law_right" sLRight f fd)
  (GS : FnOk P w K mg base CX0 7 f2 fd2 ["book", "tree"] spSpots) (bS : Binds K fd2 ["book", "tree"] []) (kS : PySem.W.keepIn K (.ref f2) = true) (mS : mg "spots_of" = some (.ref f2))
  (GA : FnOk P w K mg base CX0 2 f3 fd3 ["found"] spAre) (bA : Binds K fd3 ["found"] []) (kA : PySem.W.keepIn K (.ref f3) = true) (mA : mg "_law_are_spots" = some (.ref f3))
  (GL : FnOk P w K mg base CX0 2 f4 fd4 ["book", "tree"] spLSpots) (bL : Binds K fd4 ["book", "tree"] []) (kL : PySem.W.keepIn K (.ref f4) = true) (mL : mg "_law_spots" = some (.ref f4)) : FnOk P w K mg base CX0 8 f fd ["book", "tree"] spLRight := by
 refine F.ok scLRight (fun vs H Q E h => ?_) (fun cdv A outer s H vs Q E hr h => ?_)
 ·obtain ⟨bv, tv, bk, n, t, m, s, rfl, _⟩ := h
  rfl
 obtain ⟨bv, tv, bk, n, t, m, sr, rfl, hB, hok, hT, hTr, hsz, q⟩ := h
 have hu := hu_of hr
 have hr2 := hr.mono (show 2 <= 7 by decide)
 refine ⟨_, pss_cons (ps_set (i := 2) scLRight.nd rfl (Or.inl rfl) (pe_call GS hr rfl mS kS bS .nil pass0 (pa_cons (pv 0) (pa_cons (pv 1) pa_nil))))
  (pss_cons (ps_if (PW.pt (pw_or (pt_not (pt_val (pe_call GA hr2 rfl mA kA bA .nil pass0 (pa_cons (pv 2) pa_nil)))) (pw_or1 (pt_cmpR (op_neL (n := 2) (Nat.lt_of_le_of_lt (Nat.add_le_add_left (show 3 <= 16 by decide) _) hu)) (pv 2) (pe_call GL hr2 rfl mL kL bL .nil pass0 (pa_cons (pv 0) (pa_cons (pv 1) pa_nil))) (nomark _))))) pss_never pss_nil)
  (pss_cons (ps_expr (pe_bm0 PySem.F.plainAttrs_list PySem.F.slot_list_clear PySem.F.type_list_clear mt_clear (pv 2)))
  (pss_one (ps_ret pe_bl)))), ?_⟩
 refine ⟨_, rfl, _, rfl, bv, tv, bk, n, t, m, sr, rfl, hB, hok, hT, hTr, hsz, fun p zs H1 hp s1 gp hZ => ?_⟩
 have lZ : (spots bk t).length = zs.length := Paired.length hZ
 have l6 := spots_len hok hTr hsz
 refine ⟨_, rfl, p, zs, spots bk t, rfl, gp, hZ, by lia, spots_short hok hTr hsz, fun H2 s2 => ⟨true, rfl, iteF ?_⟩⟩
 have S2 := s1.trans s2
 refine ⟨_, rfl, _, rfl, _, rfl, bv, tv, bk, n, t, m, sr, rfl, hB.mono (tk_of S2), hok, hT.mono (tk_of S2), hTr, hsz, fun p2 z2 H3 hp2 s3 gp2 hZ2 => ?_⟩
 have gp3 := s3 _ _ (s2 _ _ gp)
 refine ⟨p, p2, zs, z2, rfl, rfl, gp3, gp2, spots_alk (Paired.mapP hZ fun _ _ r => r.mono (tk_of (s2.trans s3))) hZ2, _, rfl, iteF ?_⟩
 refine ⟨_, rfl, .inl ⟨rfl, _, SqL.of gp3⟩, p, zs, rfl, rfl, gp3, q _ fun y oo h => ?_⟩
 rw [upd_ne (ne_of_none h hp)]
 exact s3 _ _ (S2 _ _ h)
theorem six_at {d : Int} (h0 : 0 <= d) (h1 : d < 6) : ∃ r : Nat, atI [V.int 4, .int 8, .int 16, .int 24, .int 8, .int 61] d = some (.int ((r : Nat) : Int)) /\ 4 <= r := by
 have : d = 0 \/ d = 1 \/ d = 2 \/ d = 3 \/ d = 4 \/ d = 5 := by lia
 rcases this with rfl | rfl | rfl | rfl | rfl | rfl
 ·exact ⟨4, rfl, by lia⟩
 ·exact ⟨8, rfl, by lia⟩
 ·exact ⟨16, rfl, by lia⟩
 ·exact ⟨24, rfl, by lia⟩
 ·exact ⟨8, rfl, by lia⟩
 ·exact ⟨61, rfl, by lia⟩
inductive spLGrown (K : PySem.W.Frag) (vs : List V) (H : Hp) (Q : VK) (E_ : XK) : Prop
 | mk : ∀ (sc : Addr) (ns : List Int) (st : Int) (few : Bool), (vs = [.ref sc, .int st, .bl few]) -> (SqL K H sc (ns.map V.int)) -> (ns.length <= 63) -> (0 <= st) -> (st < 800) -> (∀ d bv tv bk t s H', Same H H' -> H' d = some (.tup [bv, tv]) -> RepB H' bk bv -> BookOk bk -> RepT H' 60 t tv -> TreeOk bk 60 t s -> t.sz <= 60 -> Q (.ref d) H') -> spLGrown K vs H Q E_
noncomputable abbrev NLGrown : List Str := ["script", "start", "few", "book", "least", "tape", "sort", "grown", "more", "room"]
theorem scLGrown : FnScope NLGrown ["script", "start", "few"] (defScope sLGrown) := fsc
theorem ok_lgrown (F : Fun K "_law_grown" "_law_grown" sLGrown f fd) (G : Gb mg)
  (GB : FnOk P w K mg base CX0 6 f2 fd2 ["script", "start", "few"] (spBook K)) (bB : Binds K fd2 ["script", "start", "few"] []) (kB : PySem.W.keepIn K (.ref f2) = true) (mB : mg "_law_book" = some (.ref f2))
  (GL : FnOk P w K mg base CX0 1 f3 fd3 ["book"] spLeast) (bL : Binds K fd3 ["book"] []) (kL : PySem.W.keepIn K (.ref f3) = true) (mL : mg "_law_least" = some (.ref f3))
  (GT : FnOk P w K mg base CX0 2 f4 fd4 ["script", "k"] (spTape K)) (bT : Binds K fd4 ["script", "k"] []) (kT : PySem.W.keepIn K (.ref f4) = true) (mT : mg "_law_tape" = some (.ref f4))
  (GD : FnOk P w K mg base CX0 1 f5 fd5 ["tape", "many"] spDigit) (bD : Binds K fd5 ["tape", "many"] []) (kD : PySem.W.keepIn K (.ref f5) = true) (mD : mg "_law_digit" = some (.ref f5))
  (GR : FnOk P w K mg base CX0 62 f6 fd6 ["tape", "book", "least", "sort", "room"] (spTree 60)) (bR : Binds K fd6 ["tape", "book", "least", "sort", "room"] []) (kR : PySem.W.keepIn K (.ref f6) = true) (mR : mg "_law_tree" = some (.ref f6)) :
  FnOk P w K mg base CX0 63 f fd ["script", "start", "few"] (spLGrown K) := by
 refine F.ok scLGrown (fun vs H Q E h => ?_) (fun cdv A outer s H vs Q E hr h => ?_)
 ·obtain ⟨sc, ns, st, few, rfl, _⟩ := h
  rfl
 obtain ⟨sc, ns, st, few, rfl, hS, hlen, hst0, hst1, q⟩ := h
 have hu := hu_of hr
 have hr1 := hr.mono (show 1 <= 62 by decide)
 have hr2 := hr.mono (show 2 <= 62 by decide)
 have hr6 := hr.mono (show 6 <= 62 by decide)
 refine ⟨_, pss_cons (ps_set (i := 3) scLGrown.nd rfl (Or.inl rfl) (pe_call GB hr6 rfl mB kB bB .nil pass0 (pa_cons (pv 0) (pa_cons (pe_op op_add (pv 1) pe_int) (pa_cons (pv 2) pa_nil)))))
  (pss_cons (ps_set (i := 4) scLGrown.nd rfl (Or.inr rfl) (pe_call GL hr1 rfl mL kL bL .nil pass0 (pa_cons (pv 3) pa_nil)))
  (pss_cons (ps_set (i := 5) scLGrown.nd rfl (Or.inl rfl) (pe_call GT hr2 rfl mT kT bT .nil pass0 (pa_cons (pv 0) (pa_cons (pv 1) pa_nil))))
  (pss_cons (ps_setCT (i := 7) (sc0 := defScope sLGrown) (N0 := NLGrown) (ys := ["least"]) (fr := [4]) rfl scLGrown.nd rfl (Or.inl rfl)
    (pi_tup (pe_ix (r := rIxT K) ix_tup (pv 3) pe_int (fun _ _ => rfl))) rfl rfl
    cok
    (fun C s H ex => pt_cmp (pc_din hu (pe_ix (r := rIxT K) ix_tup (pv 0) pe_int (fun _ _ => rfl)) (pv 1)))
    (fun C s H ex => pe_ix (r := rIxT K) ix_tup (pv 0) pe_int (fun _ _ => rfl)))
  (pss_cons (ps_set (i := 6) scLGrown.nd rfl (Or.inl rfl) (pe_ix (r := rIxL K) ix_list (pv 7) (pe_call GD hr1 rfl mD kD bD .nil pass0 (pa_cons (pv 5) (pa_cons (pe_callB (r := rLen K) call_len_seq rfl G.len PySem.boot_len (pa_cons (pv 7) pa_nil)) pa_nil))) (fun _ _ => rfl)))
  (pss_cons (ps_set (i := 8) scLGrown.nd rfl (Or.inl rfl) (pe_callB (call_min2 rfl) rfl G.min (by decide +kernel) (pa_cons (pe_op op_sub pe_int (pe_dget hu (pv 4) (pv 6) (fun _ _ => rfl))) (pa_cons
    (pe_ix (r := rIxL K) ix_list (pe_lst (pa_cons pe_int (pa_cons pe_int (pa_cons pe_int (pa_cons pe_int (pa_cons pe_int (pa_cons pe_int pa_nil))))))) (pe_call GD hr1 rfl mD kD bD .nil pass0 (pa_cons (pv 5) (pa_cons pe_int pa_nil))) (fun _ _ => rfl)) pa_nil))))
  (pss_cons (ps_set (i := 9) scLGrown.nd rfl (Or.inl rfl) (pe_op op_add (pe_dget hu (pv 4) (pv 6) (fun _ _ => rfl)) (pe_call GD hr1 rfl mD kD bD .nil pass0 (pa_cons (pv 5) (pa_cons (pv 8) pa_nil)))))
  (pss_one (ps_ret (pe_tup (pa_cons (pv 3) (pa_cons (pe_call GR hr rfl mR kR bR .nil pass0 (pa_cons (pv 5) (pa_cons (pv 3) (pa_cons (pv 4) (pa_cons (pv 6) (pa_cons (pv 9) pa_nil)))))) pa_nil))))))))))), ?_⟩
 refine ⟨_, rfl, _, rfl, _, _, rfl, rfl, _, rfl, sc, ns, st + 1, few, rfl, hS, hlen, by lia, by lia, fun bv bk H1 hB hok s1 => ?_⟩
 refine ⟨_, rfl, bv, bk, rfl, hB, hok, fun d H2 hd s2 gd2 hI hTop => ?_⟩
 have S2 := s1.trans s2
 refine ⟨_, rfl, _, rfl, sc, ns, st, rfl, SqL.keep hS (fun o e => S2 _ _ e), hlen, by lia, by lia, fun tp tt htp => ?_⟩
 have s3 := same_new htp (.lst [.int tt])
 have tp3 : Tp (upd H2 tp (.lst [.int tt])) tp := ⟨tt, upd_same⟩
 generalize upd H2 tp (.lst [.int tt]) = H3 at s3 tp3 ⊢
 have S3 := S2.trans s3
 have htp0 : H tp = none := S2.free htp
 have hB3 : RepB H3 bk bv := hB.mono (tk_of (s2.trans s3))
 have hB3' := hB3
 obtain ⟨a, sa, fa, fv, rfl, ha, ⟨sx, hsa, hSx⟩, hfa, hF⟩ := hB3'
 have lS := hSx.len
 have h4 := hok.so.2.1
 have gd3 := s3 _ _ gd2
 refine ⟨_, rfl, a, _, 1, .ref sa, rfl, rfl, SqT.of ha, atI_nat (j := 1) rfl, sa, rfl, ⟨sx, SqT.of hsa⟩, ?_⟩
 refine compT_mk (by lia) hSx (itt_go hsa) (itt_st hsa) (itt_y hsa) (hasB (leastKv bk)) (fun _ s v => v = .str s.name) (fun _ h => h) ?_ ?_ ?_
 ·rintro sr v H' k _ ⟨a1, b1, c1, rfl, g1, _⟩ s' hk
  exact ⟨_, rfl, a1, _, 0, _, rfl, rfl, SqT.of (s' _ _ g1), atI0, _, rfl, d, _, rfl, DGet.k (k := .inr sr.name) (s' _ _ gd3), _, rfl, hk⟩
 ·rintro sr v H' k _ ⟨a1, b1, c1, rfl, g1, _⟩ _ s' hk
  exact ⟨_, rfl, a1, _, 0, _, rfl, rfl, SqT.of (s' _ _ g1), atI0, hk _ _ (fun _ _ h => h) rfl⟩
 intro gl zs H4 hgl s4 ggl hz
 have ez := paired_eq hz
 subst ez
 have tp4 := tp3.same s4
 have hpos : 0 < (bk.sorts.filter (hasB (leastKv bk))).length := by
  obtain ⟨fr, hfr, m, hm⟩ := hTop
  obtain ⟨mode, _, hfo⟩ := hok.fo
  refine List.length_pos_of_mem (List.mem_filter.mpr ⟨(hfo fr hfr).1, ?_⟩)
  unfold hasB
  rw [show valV (leastKv bk) (.inr fr.own.name) = _ from hm]
  rfl
 have hfl : (bk.sorts.filter (hasB (leastKv bk))).length <= bk.sorts.length := List.length_filter_le _ _
 have lmap : ((bk.sorts.filter (hasB (leastKv bk))).map fun s => V.str (Srt.name s)).length = (bk.sorts.filter (hasB (leastKv bk))).length := List.length_map _
 refine ⟨_, rfl, _, rfl, _, rfl, gl, _, rfl, .inl (SqL.of ggl), tp, _, rfl, tp4, by lia, by lia, fun dd t1 hd0 hd1 => ?_⟩
 obtain ⟨x, ex, ex2⟩ := atI_lt hd0 hd1
 have k5 : Kp tp H3 (upd H4 tp (.lst [.int t1])) := (Kp.refl.same s4).trans Kp.tape
 have tp5 : Tp (upd H4 tp (.lst [.int t1])) tp := ⟨t1, upd_same⟩
 have ngl : gl ≠ tp := tp_ne tp3 hgl
 have nd : d ≠ tp := fun z => by rw [z, htp] at gd2; cases gd2
 have g5 : (upd H4 tp (.lst [.int t1])) gl = some (.lst ((bk.sorts.filter (hasB (leastKv bk))).map fun s => V.str (Srt.name s))) := by rw [upd_ne ngl]; exact ggl
 have gd5 : (upd H4 tp (.lst [.int t1])) d = some (.dK (leastKv bk)) := by rw [upd_ne nd]; exact s4 _ _ gd3
 generalize upd H4 tp (.lst [.int t1]) = H5 at k5 tp5 g5 gd5 ⊢
 refine ⟨gl, _, dd, x, rfl, rfl, SqL.of g5, ex, ?_⟩
 obtain ⟨sr, hsr, rfl⟩ : ∃ sr, sr ∈ bk.sorts.filter (hasB (leastKv bk)) /\ x = V.str (Srt.name sr) := by
  obtain ⟨sr, h1, h2⟩ := List.mem_map.mp (List.mem_of_getElem? ex2)
  exact ⟨sr, h1, h2.symm⟩
 obtain ⟨hsin, hshas⟩ := List.mem_filter.mp hsr
 obtain ⟨v, hv⟩ := Option.isSome_iff_exists.mp (show (valV (leastKv bk) (.inr sr.name)).isSome = true from hshas)
 obtain ⟨m, rfl, hm1, _⟩ := hI.val hv
 have hm40 := hI.small hok hv
 refine ⟨_, rfl, _, rfl, d, _, rfl, get_dget gd5 hv, _, _, rfl, rfl, (by show 6 <= sizeLine; decide), fun ml hml => ?_⟩
 have s6 := same_new hml (.lst [.int 4, .int 8, .int 16, .int 24, .int 8, .int 61])
 have g6 : (upd H5 ml (.lst [.int 4, .int 8, .int 16, .int 24, .int 8, .int 61])) ml = some (.lst [.int 4, .int 8, .int 16, .int 24, .int 8, .int 61]) := upd_same
 generalize upd H5 ml (.lst [.int 4, .int 8, .int 16, .int 24, .int 8, .int 61]) = H6 at s6 g6 ⊢
 have nml : ml ≠ tp := tp_ne tp5 hml
 have tp6 := tp5.same s6
 refine ⟨_, rfl, tp, _, rfl, tp6, by decide, by decide, fun d2 t2 hd20 hd21 => ?_⟩
 obtain ⟨r6, er6, hr64⟩ := six_at hd20 hd21
 have k7 : Kp tp H5 (upd H6 tp (.lst [.int t2])) := (Kp.refl.same s6).trans Kp.tape
 have tp7 : Tp (upd H6 tp (.lst [.int t2])) tp := ⟨t2, upd_same⟩
 have gd7 : (upd H6 tp (.lst [.int t2])) d = some (.dK (leastKv bk)) := by rw [upd_ne nd]; exact s6 _ _ gd5
 have g7 : (upd H6 tp (.lst [.int t2])) ml = some (.lst [.int 4, .int 8, .int 16, .int 24, .int 8, .int 61]) := by rw [upd_ne nml]; exact g6
 generalize upd H6 tp (.lst [.int t2]) = H7 at k7 tp7 gd7 g7 ⊢
 refine ⟨ml, _, _, _, rfl, rfl, SqL.of g7, er6, ?_⟩
 refine ⟨_, _, rfl, ?_⟩
 obtain ⟨mo, hmo, hmo1, hmo2⟩ : ∃ mo : Nat, (if ((r6 : Nat) : Int) < 61 - (m : Int) then ((r6 : Nat) : Int) else 61 - (m : Int)) = ((mo : Nat) : Int) /\ 4 <= mo /\ mo + m <= 61 := by
  split
  ·exact ⟨r6, rfl, hr64, by lia⟩
  ·exact ⟨61 - m, by lia, by lia, by lia⟩
 rw [hmo]
 refine ⟨_, rfl, _, rfl, d, _, rfl, get_dget gd7 hv, _, rfl, _, rfl, tp, _, rfl, tp7, by lia, by lia, fun d3 t3 hd30 hd31 => ⟨_, _, rfl, rfl, ?_⟩⟩
 obtain ⟨k3, rfl⟩ : ∃ k : Nat, d3 = (k : Int) := ⟨d3.toNat, by lia⟩
 try rw [show (V.int (((m : Nat) : Int) + ((k3 : Nat) : Int))) = V.int ((m + k3 : Nat) : Int) from congrArg V.int (show ((m : Nat) : Int) + ((k3 : Nat) : Int) = ((m + k3 : Nat) : Int) by lia)]
 have k8 : Kp tp H7 (upd H7 tp (.lst [.int t3])) := Kp.tape
 have tp8 : Tp (upd H7 tp (.lst [.int t3])) tp := ⟨t3, upd_same⟩
 have gd8 : (upd H7 tp (.lst [.int t3])) d = some (.dK (leastKv bk)) := by rw [upd_ne nd]; exact gd7
 generalize upd H7 tp (.lst [.int t3]) = H8 at k8 tp8 gd8 ⊢
 have K8 : Kp tp H3 H8 := (k5.trans k7).trans k8
 refine ⟨_, rfl, _, rfl, _, rfl, _, rfl, _, rfl, _, rfl, tp, _, d, bk, sr, m + k3, m, rfl, hB3.mono (K8.tk tp3), hok, hI, gd8, tp8, hsin, hv, by lia, by lia, by lia, fun tv t H9 rT tO tsz k9 tp9 => ?_⟩
 refine ⟨(by show 2 <= sizeLine; decide), fun p hp => ?_⟩
 have s10 := same_new hp (.tup [.ref a, tv])
 have K9 := K8.trans k9
 exact q p (.ref a) tv bk t sr _ (fun b o e => s10 _ _ (K9 _ _ (S3 _ _ e) (ne_of_none e htp0))) upd_same ((hB3.mono (K9.tk tp3)).mono (tk_of s10)) hok (rT.mono (tk_of s10)) tO (by lia)
noncomputable def sA : Srt := ⟨"a", [], []⟩
noncomputable def sB : Srt := ⟨"b", [], ["u"]⟩
noncomputable def fF : Frm := ⟨"f", sA, [], []⟩
noncomputable def fG : Frm := ⟨"g", sB, [sA], [⟨-1, "u", .num 3⟩]⟩
noncomputable def bareBk : Bk := ⟨2, [sA, sB], [fF, fG]⟩
theorem in2 {α : Type} {a b x : α} (h : x ∈ [a, b]) : x = a \/ x = b := by simpa using h
theorem bare_ok : BkS bareBk where
 few := by show 2 <= 10; decide
 nd := by show (["f", "g"] : List Str).Nodup; decide +kernel
 s4 := by show 2 <= 4; decide
 sd := by show (["a", "b"] : List Str).Nodup; decide +kernel
 ws := fun s hs => by
  rcases in2 hs with rfl | rfl
  ·exact ⟨by show 0 <= 3; decide, by show 0 <= 3; decide, List.nodup_nil, fun x h => (by cases h)⟩
  ·refine ⟨by show 0 <= 3; decide, by show 1 <= 3; decide, by show (["u"] : List Str).Nodup; decide +kernel, fun x h => ?_⟩
   have e : x = "u" := by
    have h' : x ∈ (["u"] : List Str) := h
    simpa using h'
   rw [e]; decide +kernel
 fo := fun fr hf => by
  rcases in2 hf with rfl | rfl
  ·exact ⟨List.mem_cons_self, fun q h => (by cases h), by show 0 <= 3; decide, rfl, fun r h => (by cases h)⟩
  ·refine ⟨List.mem_cons_of_mem _ List.mem_cons_self, fun q h => ?_, by show 1 <= 3; decide, rfl, fun r h => ?_⟩
   ·have e : q = sA := by
     have h' : q ∈ [sA] := h
     simpa using h'
    rw [e]; exact List.mem_cons_self
   ·have e : r = ⟨-1, "u", .num 3⟩ := by
     have h' : r ∈ ([⟨-1, "u", .num 3⟩] : List Rul) := h
     simpa using h'
    rw [e]
    exact ⟨by show (Fm.num 3).wf; unfold Fm.wf; decide, by show 1 <= 15; decide⟩
noncomputable def spBare : Sp := fun vs H Q _ => vs = [] /\ ∀ bv H', Same H H' -> RepB H' bareBk bv -> Q bv H'
theorem paired_cons {α β : Type} {F : α -> β -> Prop} {a : α} {l : List α} {r : List β} (h : Paired F (a :: l) r) : ∃ y r', r = y :: r' /\ F a y /\ Paired F l r' := by
 cases h with
 | cons x t => exact ⟨_, _, rfl, x, t⟩
theorem RepC.tup0 {H : Hp} {k : Nat} {v : V} (h : RepC H (k + 1) (.t []) v) : ∃ a, v = .ref a /\ H a = some (.tup []) := by
 obtain ⟨a, vs, e, h1, hp⟩ := h
 cases hp
 exact ⟨a, e, h1⟩
theorem RepC.tup1 {H : Hp} {k : Nat} {c1 : CT} {v : V} (h : RepC H (k + 1) (.t [c1]) v) : ∃ a x1, v = .ref a /\ H a = some (.tup [x1]) /\ RepC H k c1 x1 := by
 obtain ⟨a, vs, e, h1, hp⟩ := h
 obtain ⟨y1, r1, rfl, q1, hp⟩ := paired_cons hp
 cases hp
 exact ⟨a, _, e, h1, q1⟩
theorem RepC.tup2 {H : Hp} {k : Nat} {c1 c2 : CT} {v : V} (h : RepC H (k + 1) (.t [c1, c2]) v) : ∃ a x1 x2, v = .ref a /\ H a = some (.tup [x1, x2]) /\ RepC H k c1 x1 /\ RepC H k c2 x2 := by
 obtain ⟨a, vs, e, h1, hp⟩ := h
 obtain ⟨y1, r1, rfl, q1, hp⟩ := paired_cons hp
 obtain ⟨y2, r2, rfl, q2, hp⟩ := paired_cons hp
 cases hp
 exact ⟨a, _, _, e, h1, q1, q2⟩
theorem RepC.tup3 {H : Hp} {k : Nat} {c1 c2 c3 : CT} {v : V} (h : RepC H (k + 1) (.t [c1, c2, c3]) v) : ∃ a x1 x2 x3, v = .ref a /\ H a = some (.tup [x1, x2, x3]) /\ RepC H k c1 x1 /\ RepC H k c2 x2 /\ RepC H k c3 x3 := by
 obtain ⟨a, vs, e, h1, hp⟩ := h
 obtain ⟨y1, r1, rfl, q1, hp⟩ := paired_cons hp
 obtain ⟨y2, r2, rfl, q2, hp⟩ := paired_cons hp
 obtain ⟨y3, r3, rfl, q3, hp⟩ := paired_cons hp
 cases hp
 exact ⟨a, _, _, _, e, h1, q1, q2, q3⟩
theorem RepC.tup4 {H : Hp} {k : Nat} {c1 c2 c3 c4 : CT} {v : V} (h : RepC H (k + 1) (.t [c1, c2, c3, c4]) v) : ∃ a x1 x2 x3 x4, v = .ref a /\ H a = some (.tup [x1, x2, x3, x4]) /\ RepC H k c1 x1 /\ RepC H k c2 x2 /\ RepC H k c3 x3 /\ RepC H k c4 x4 := by
 obtain ⟨a, vs, e, h1, hp⟩ := h
 obtain ⟨y1, r1, rfl, q1, hp⟩ := paired_cons hp
 obtain ⟨y2, r2, rfl, q2, hp⟩ := paired_cons hp
 obtain ⟨y3, r3, rfl, q3, hp⟩ := paired_cons hp
 obtain ⟨y4, r4, rfl, q4, hp⟩ := paired_cons hp
 cases hp
 exact ⟨a, _, _, _, _, e, h1, q1, q2, q3, q4⟩
noncomputable def ctS : CT := .t [.t [.s "a", .t [], .t []], .t [.s "b", .t [], .t [.s "u"]]]
noncomputable def ctF : CT := .t [.t [.s "f", .s "a", .t [], .t []], .t [.s "g", .s "b", .t [.s "a"], .t [.t [.i (-1), .s "u", .t [.s "num", .i 3]]]]]
noncomputable def stB (i : Nat) : Stmt := (defBody sBare).getD i (.Pass ⟨0, 0, 0, 0⟩)
noncomputable def asgE : Stmt -> Expr
 | .Assign _ e _ => e
 | _ => .Constant .none 0 ⟨0, 0, 0, 0⟩
noncomputable def asgP : Stmt -> Pos
 | .Assign _ _ p => p
 | _ => ⟨0, 0, 0, 0⟩
noncomputable def asgN : Stmt -> Pos
 | .Assign [.Name _ p] _ _ => p
 | _ => ⟨0, 0, 0, 0⟩
theorem ctB0 : ctOf 8 (asgE (stB 0)) = some ctS := by kernel_rfl
theorem ctB1 : ctOf 8 (asgE (stB 1)) = some ctF := by kernel_rfl
theorem eqB0 : stB 0 = .Assign [.Name "sorts" (asgN (stB 0))] (asgE (stB 0)) (asgP (stB 0)) := by kernel_rfl
theorem eqB1 : stB 1 = .Assign [.Name "forms" (asgN (stB 1))] (asgE (stB 1)) (asgP (stB 1)) := by kernel_rfl
theorem list3 {α : Type} {l : List α} {d : α} (h : l.length = 3) : l = [l.getD 0 d, l.getD 1 d, l.getD 2 d] := by
 match l, h with
 | [_, _, _], _ => rfl
theorem bodyB : defBody sBare = [stB 0, stB 1, stB 2] := list3 (by decide +kernel)
theorem ps_ct {X : Cx} {st : Stmt} {i n : Nat} {x : Str} {e : Expr} {p p' : Pos} {c : CT} (h : st = .Assign [.Name x p'] e p) (hc : ctOf n e = some c) (hN : X.N.Nodup) (hi : X.N[i]? = some x) (hx : Loc X.env.scope x) (hf : X.fn x = true \/ X.env.scope.names.lookup x = some .local)
  (hs : swapsWith e (some (.Name x p')) p.line X.env = pure false) : PS X st (tAsg (tK n c) (gName i)) := by
 subst h
 exact ps_setX hN hi hx hf hs (pe_ct n hc)
theorem scBare : FnScope ["sorts", "forms"] [] (defScope sBare) := fsc
theorem ok_bare (F : Fun K "_law_bare" "_law_bare" sBare f fd) : FnOk P w K mg base CX0 1 f fd [] spBare := by
 refine F.ok scBare (fun vs H Q E h => ?_) (fun cdv A outer s H0 vs Q E hr h => ?_)
 ·obtain ⟨rfl, _⟩ := h
  rfl
 obtain ⟨rfl, q⟩ := h
 rw [bodyB]
 have w0 : swapsWith (asgE (stB 0)) (some (.Name "sorts" (asgN (stB 0)))) (asgP (stB 0)).line (cxOf CX0 P w K mg base ["sorts", "forms"] "_law_bare" (defScope sBare) f cdv A outer s H0 E).nox.env = pure false := by kernel_rfl
 have w1 : swapsWith (asgE (stB 1)) (some (.Name "forms" (asgN (stB 1)))) (asgP (stB 1)).line (cxOf CX0 P w K mg base ["sorts", "forms"] "_law_bare" (defScope sBare) f cdv A outer s H0 E).nox.env = pure false := by kernel_rfl
 have e0 := eqB0
 have c0 := ctB0
 have e1 := eqB1
 have c1 := ctB1
 generalize stB 0 = st0 at e0 c0 w0 ⊢
 generalize stB 1 = st1 at e1 c1 w1 ⊢
 have h0 : PS (cxOf CX0 P w K mg base ["sorts", "forms"] "_law_bare" (defScope sBare) f cdv A outer s H0 E).nox st0 (tAsg (tK 8 ctS) (gName 0)) := ps_ct e0 c0 scBare.nd rfl (Or.inl rfl) (Or.inl rfl) w0
 have h1 : PS (cxOf CX0 P w K mg base ["sorts", "forms"] "_law_bare" (defScope sBare) f cdv A outer s H0 E).nox st1 (tAsg (tK 8 ctF) (gName 1)) := ps_ct e1 c1 scBare.nd rfl (Or.inl rfl) (Or.inl rfl) w1
 refine ⟨_, pss_cons h0 (pss_cons h1 (pss_one (ps_ret (pe_tup (pa_cons pe_int (pa_cons (pv 0) (pa_cons (pv 1) pa_nil))))))), ?_⟩
 refine fun sv H1 s1 hs fv H2 s2 hf => ?_
 refine ⟨_, rfl, _, rfl, (by show 3 <= sizeLine; decide), fun W hW => ?_⟩
 have s3 := same_new hW (.tup [.int 2, sv, fv])
 have g3 : (upd H2 W (.tup [.int 2, sv, fv])) W = some (.tup [.int 2, sv, fv]) := upd_same
 generalize upd H2 W (.tup [.int 2, sv, fv]) = H3 at s3 g3 ⊢
 replace hs := RepC.mono (fun b o e => s3 _ _ (s2 _ _ e)) hs
 replace hf := RepC.mono s3 hf
 obtain ⟨S, xA, xB, rfl, gS, hA, hB⟩ := RepC.tup2 hs
 obtain ⟨A1, a1, a2, a3, rfl, gA, rfl, ha2, ha3⟩ := RepC.tup3 hA
 obtain ⟨e1, rfl, ge1⟩ := RepC.tup0 ha2
 obtain ⟨e2, rfl, ge2⟩ := RepC.tup0 ha3
 obtain ⟨B1, b1, b2, b3, rfl, gB, rfl, hb2, hb3⟩ := RepC.tup3 hB
 obtain ⟨e3, rfl, ge3⟩ := RepC.tup0 hb2
 obtain ⟨u1, u2, rfl, gu, rfl⟩ := RepC.tup1 hb3
 obtain ⟨G1, yF, yG, rfl, gG, hF, hG⟩ := RepC.tup2 hf
 obtain ⟨F1, f1, f2, f3, f4, rfl, gF, rfl, rfl, hf3, hf4⟩ := RepC.tup4 hF
 obtain ⟨p1, rfl, gp1⟩ := RepC.tup0 hf3
 obtain ⟨r1, rfl, gr1⟩ := RepC.tup0 hf4
 obtain ⟨F2, g1, g2, g3', g4, rfl, gF2, rfl, rfl, hg3, hg4⟩ := RepC.tup4 hG
 obtain ⟨p2, p3, rfl, gp2, rfl⟩ := RepC.tup1 hg3
 obtain ⟨r2, r3, rfl, gr2, hr3⟩ := RepC.tup1 hg4
 obtain ⟨q1, q2, q3, q4, rfl, gq, rfl, rfl, hq4⟩ := RepC.tup3 hr3
 obtain ⟨m1, m2, m3, rfl, gm, rfl, rfl⟩ := RepC.tup2 hq4
 refine q (.ref W) H3 (fun b o e => s3 _ _ (s2 _ _ (s1 _ _ e))) ⟨W, S, G1, [.ref F1, .ref F2], rfl, g3, ⟨[.ref A1, .ref B1], gS, .cons ⟨A1, e1, e2, rfl, gA, ge1, ge2⟩ (.cons ⟨B1, e3, u1, rfl, gB, ge3, gu⟩ .nil)⟩, gG,
  .cons ⟨F1, p1, r1, [], rfl, gF, gp1, gr1, .nil⟩ (.cons ⟨F2, p2, r2, [.ref q1], rfl, gF2, gp2, gr2, .cons ⟨q1, .ref m1, rfl, gq, m1, rfl, gm⟩ .nil⟩ .nil)⟩
inductive spLaw (K : PySem.W.Frag) (vs : List V) (H : Hp) (Q : VK) (E_ : XK) : Prop
 | mk : ∀ (a : Addr) (ns : List Int), (vs = [.ref a]) -> (SqL K H a (ns.map V.int)) -> (ns.length <= 63) -> (∀ H', Q (.bl true) H') -> spLaw K vs H Q E_
theorem cut_at {zs : List V} {k j : Nat} {x : V} (h : (cutV zs none (some (k : Int)))[j]? = some x) : zs[j]? = some x := by
 unfold cutV at h
 rw [HT.sIx_none, List.drop_zero, Nat.sub_zero, List.getElem?_take] at h
 split at h
 ·exact h
 ·cases h
noncomputable def tF : Bt := .mk "f" []
noncomputable def tG : Bt := .mk "g" [tF]
theorem tF_ok : TrS bareBk 1 tF sA := ⟨fF, List.mem_cons_self, rfl, rfl, .nil⟩
theorem tG_ok : TrS bareBk 2 tG sB := ⟨fG, List.mem_cons_of_mem _ List.mem_cons_self, rfl, rfl, .cons tF_ok .nil⟩
theorem tF_sz : tF.sz = 1 := by rw [sz_eq]; rfl
theorem tG_sz : tG.sz <= 100 := by
 rw [sz_eq]
 show (tF.sz + 0) + 1 <= 100
 rw [tF_sz]; decide
theorem tF_spots : spots bareBk tF = [] := by
 unfold spots
 rw [places_eq, subs_eq]
 show ((([] : List Nat) :: placesL 0 []).zip (tF :: subsL [])).flatMap (spotsAt bareBk) = []
 rw [placesL_nil, subsL_nil]
 show spotsAt bareBk ([], tF) ++ [] = []
 unfold spotsAt
 rw [srtOf_frm bare_ok.nd (show fF ∈ bareBk.forms from List.mem_cons_self) (show Frm.name fF = tF.nm from rfl)]
 rfl
noncomputable abbrev NLaw : List Str := ["script", "book", "tree", "other", "second", "place", "bough", "bare"]
theorem scLaw : FnScope NLaw ["script"] (defScope sLaw) := fsc
theorem ok_law (F : Fun K "law" "law" sLaw f fd)
  (GG : FnOk P w K mg base CX0 63 f2 fd2 ["script", "start", "few"] (spLGrown K)) (bG : Binds K fd2 ["script", "start", "few"] []) (kG : PySem.W.keepIn K (.ref f2) = true) (mG : mg "_law_grown" = some (.ref f2))
  (GR : FnOk P w K mg base CX0 8 f3 fd3 ["book", "tree"] spLRight) (bR : Binds K fd3 ["book", "tree"] []) (kR : PySem.W.keepIn K (.ref f3) = true) (mR : mg "_law_right" = some (.ref f3))
  (GB : FnOk P w K mg base CX0 1 f4 fd4 ["tree"] spLBoughs) (bB : Binds K fd4 ["tree"] []) (kB : PySem.W.keepIn K (.ref f4) = true) (mB : mg "_law_boughs" = some (.ref f4))
  (GE : FnOk P w K mg base CX0 1 f5 fd5 [] spBare) (bE : Binds K fd5 [] []) (kE : PySem.W.keepIn K (.ref f5) = true) (mE : mg "_law_bare" = some (.ref f5))
  (GS : FnOk P w K mg base CX0 7 f6 fd6 ["book", "tree"] spSpots) (bS : Binds K fd6 ["book", "tree"] []) (kS : PySem.W.keepIn K (.ref f6) = true) (mS : mg "spots_of" = some (.ref f6)) :
  FnOk P w K mg base CX0 64 f fd ["script"] (spLaw K) := by
 refine F.ok scLaw (fun vs H Q E h => ?_) (fun cdv A outer s H vs Q E hr h => ?_)
 ·obtain ⟨a, ns, rfl, _⟩ := h
  rfl
 obtain ⟨a, ns, rfl, hS, hlen, q⟩ := h
 have hr1 := hr.mono (show 1 <= 63 by decide)
 have hr7 := hr.mono (show 7 <= 63 by decide)
 have hr8 := hr.mono (show 8 <= 63 by decide)
 refine ⟨_, pss_cons (ps_asg (pe_call GG hr rfl mG kG bG .nil pass0 (pa_cons (pv 0) (pa_cons pe_int (pa_cons pe_bl pa_nil)))) (pg_tup rfl (pgs_cons (pg_name (i := 1) scLaw.nd rfl (Or.inl rfl)) (pgs_cons (pg_name (i := 2) scLaw.nd rfl (Or.inl rfl)) pgs_nil))))
  (pss_cons (ps_asg (pe_call GG hr rfl mG kG bG .nil pass0 (pa_cons (pv 0) (pa_cons pe_int (pa_cons pe_bl pa_nil)))) (pg_tup rfl (pgs_cons (pg_name (i := 3) scLaw.nd rfl (Or.inl rfl)) (pgs_cons (pg_name (i := 4) scLaw.nd rfl (Or.inl rfl)) pgs_nil))))
  (pss_cons (ps_if (PW.pt (pw_or (pt_not (pt_val (pe_call GR hr8 rfl mR kR bR .nil pass0 (pa_cons (pv 1) (pa_cons (pv 2) pa_nil))))) (pw_or1 (pt_not (pt_val (pe_call GR hr8 rfl mR kR bR .nil pass0 (pa_cons (pv 3) (pa_cons (pv 4) pa_nil)))))))) pss_never pss_nil)
  (pss_cons (ps_for PassesOwn.never rfl (pi_list (pe_slice sl_list (pe_call GB hr1 rfl mB kB bB .nil pass0 (pa_cons (pv 2) pa_nil)) po_none (po_some pe_int))) (pg_tup rfl (pgs_cons (pg_name (i := 5) scLaw.nd rfl (Or.inl rfl)) (pgs_cons (pg_name (i := 6) scLaw.nd rfl (Or.inl rfl)) pgs_nil)))
   (pss_one (ps_if (pt_not (pt_val (pe_call GR hr8 rfl mR kR bR .nil pass0 (pa_cons (pv 1) (pa_cons (pv 6) pa_nil))))) pss_never pss_nil)))
  (pss_cons (ps_set (i := 7) scLaw.nd rfl (Or.inl rfl) (pe_call0 GE hr1 rfl mE kE bE .nil pass0))
  (pss_cons (ps_if (PW.pt (pw_or (pt_cmpR (op_ne_nil hr.units0) (pe_call GS hr7 rfl mS kS bS .nil pass0 (pac (pv 7) (pac (pe_tup (pac pe_str (pac (pe_tup pa_nil) pa_nil))) pa_nil))) (pe_lst pa_nil) (nomark _))
    (pw_or1 (pt_not (pt_val (pe_call GR hr8 rfl mR kR bR .nil pass0 (pac (pv 7) (pac (pe_tup (pac pe_str (pac (pe_tup (pac (pe_tup (pac pe_str (pac (pe_tup pa_nil) pa_nil))) pa_nil)) pa_nil))) pa_nil)))))))) pss_never pss_nil)
  (pss_one (ps_ret (pe_and (pe_call GR hr8 rfl mR kR bR .nil pass0 (pa_cons (pv 1) (pa_cons (pv 2) pa_nil))) (pe_one (pe_call GR hr8 rfl mR kR bR .nil pass0 (pa_cons (pv 3) (pa_cons (pv 4) pa_nil)))))))))))), ?_⟩
 refine ⟨_, rfl, a, ns, 0, false, rfl, hS, hlen, by decide, by decide, fun d1 bv tv bk t sr H1 s1 gd1 hB1 hk1 hT1 hO1 hz1 => ?_⟩
 refine ⟨d1, _, rfl, SqT.of gd1, rfl, _, _, rfl, _, _, rfl, rfl, ?_⟩
 refine ⟨_, rfl, a, ns, 20, false, rfl, SqL.keep hS (fun o e => s1 _ _ e), hlen, by decide, by decide, fun d2 bv2 tv2 bk2 t2 sr2 H2 s2 gd2 hB2 hk2 hT2 hO2 hz2 => ?_⟩
 refine ⟨d2, _, rfl, SqT.of gd2, rfl, _, _, rfl, _, _, rfl, rfl, ?_⟩
 have hB1' := hB1.mono (tk_of s2)
 have hT1' := hT1.mono (tk_of s2)
 refine ⟨_, rfl, _, rfl, bv, tv, bk, 60, t, 60, sr, rfl, hB1', hk1.s, hT1', hO1.trS, by lia, fun H3 s3 => ⟨true, rfl, iteF ?_⟩⟩
 refine ⟨_, rfl, _, rfl, bv2, tv2, bk2, 60, t2, 60, sr2, rfl, hB2.mono (tk_of s3), hk2.s, hT2.mono (tk_of s3), hO2.trS, by lia, fun H4 s4 => ⟨true, rfl, iteF ?_⟩⟩
 have S4 := s3.trans s4
 refine ⟨_, rfl, 60, t, tv, rfl, hT1'.mono (tk_of S4), by lia, fun bl zs H5 hbl s5 gbl hZ => ?_⟩
 refine ⟨8, rfl, bl, zs, rfl, SqL.of gbl, fun cl hcl => ?_⟩
 have s6 := same_new hcl (.lst (cutV zs none (some 8)))
 have g6 : (upd H5 cl (.lst (cutV zs none (some 8)))) cl = some (.lst (cutV zs none (some 8))) := upd_same
 generalize upd H5 cl (.lst (cutV zs none (some 8))) = H6 at s6 g6 ⊢
 refine ⟨cl, rfl, ⟨_, SqL.of g6⟩, ?_⟩
 refine for_list (xs := cutV zs none (some 8)) (fun i Z H' => ∃ o5 o6, Z = [some (.ref a), some bv, some tv, some bv2, some tv2, o5, o6, none] /\ Same H6 H') ⟨none, none, rfl, Same.refl H6⟩ (fun i Z H' _ h => by obtain ⟨_, _, _, sm⟩ := h; exact SqL.of (sm _ _ g6)) ?_ ?_
 ·rintro i x Z H7 hx ⟨o5, o6, rfl, s7⟩
  have hx' := cut_at (k := 8) hx
  obtain ⟨qu, hitem, hRP⟩ := paired_get hZ hx'
  obtain ⟨pl, u⟩ := qu
  obtain ⟨c, pa, uv, rfl, hc, hpa, hu⟩ := hRP.mono (tk_of (s6.trans s7))
  have hum : u ∈ t.subs := (List.of_mem_zip (List.mem_of_getElem? hitem)).2
  obtain ⟨j, hj⟩ := List.getElem?_of_mem hum
  obtain ⟨pl', _, hat⟩ := paired_get (at_subs t.sz t (Nat.le_refl _)) hj
  obtain ⟨mu, su, hTu⟩ := hO1.trS.at hat
  have hsu := subs_sz t.sz t (Nat.le_refl _) u hum
  refine ⟨c, _, rfl, SqT.of hc, rfl, _, _, rfl, _, _, rfl, rfl, ?_⟩
  exact ⟨_, rfl, _, rfl, bv, uv, bk, 60, u, mu, su, rfl, hB1'.mono (tk_of (S4.trans (s5.trans (s6.trans s7)))), hk1.s, hu, hTu, by lia, fun H8 s8 => ⟨true, rfl, iteF ⟨_, _, rfl, s7.trans s8⟩⟩⟩
 ·rintro Z H7 ⟨o5, o6, rfl, s7⟩
  have S7 := S4.trans (s5.trans (s6.trans s7))
  refine ⟨rfl, fun ev H8 s8 hE => ?_⟩
  refine ⟨_, rfl, (by show 0 <= sizeLine; decide), fun x1 hx1 => ?_⟩
  have sx1 := same_new hx1 (.tup [])
  have gx1 : (upd H8 x1 (.tup [])) x1 = some (.tup []) := upd_same
  generalize upd H8 x1 (.tup []) = H9 at sx1 gx1 ⊢
  refine ⟨(by show 2 <= sizeLine; decide), fun x2 hx2 => ?_⟩
  have sx2 := same_new hx2 (.tup [.str "f", .ref x1])
  have gx2 : (upd H9 x2 (.tup [.str "f", .ref x1])) x2 = some (.tup [.str "f", .ref x1]) := upd_same
  generalize upd H9 x2 (.tup [.str "f", .ref x1]) = H10 at sx2 gx2 ⊢
  have S10 : Same H8 H10 := sx1.trans sx2
  refine ⟨ev, .ref x2, bareBk, 1, tF, 1, sA, rfl, hE.mono (tk_of S10), bare_ok, ⟨x2, x1, [], rfl, gx2, sx2 _ _ gx1, .nil⟩, tF_ok, by rw [tF_sz]; decide, fun p z1 H11 hp s11 gp hz1' => ?_⟩
  rw [tF_spots] at hz1'
  cases hz1'
  refine ⟨(by show 0 <= sizeLine; decide), fun nl hnl => ?_⟩
  have s12 := same_new hnl (.lst [])
  have g12 : (upd H11 nl (.lst [])) nl = some (.lst []) := upd_same
  generalize upd H11 nl (.lst []) = H12 at s12 g12 ⊢
  refine ⟨p, nl, [], rfl, rfl, SqL.of (s12 _ _ gp), SqL.of g12, _, rfl, iteF ?_⟩
  have S12 : Same H8 H12 := S10.trans (s11.trans s12)
  refine ⟨_, rfl, (by show 0 <= sizeLine; decide), fun y1 hy1 => ?_⟩
  have sy1 := same_new hy1 (.tup [])
  have gy1 : (upd H12 y1 (.tup [])) y1 = some (.tup []) := upd_same
  generalize upd H12 y1 (.tup []) = H13 at sy1 gy1 ⊢
  refine ⟨(by show 2 <= sizeLine; decide), fun y2 hy2 => ?_⟩
  have sy2 := same_new hy2 (.tup [.str "f", .ref y1])
  have gy2 : (upd H13 y2 (.tup [.str "f", .ref y1])) y2 = some (.tup [.str "f", .ref y1]) := upd_same
  generalize upd H13 y2 (.tup [.str "f", .ref y1]) = H14 at sy2 gy2 ⊢
  refine ⟨(by show 1 <= sizeLine; decide), fun y3 hy3 => ?_⟩
  have sy3 := same_new hy3 (.tup [.ref y2])
  have gy3 : (upd H14 y3 (.tup [.ref y2])) y3 = some (.tup [.ref y2]) := upd_same
  generalize upd H14 y3 (.tup [.ref y2]) = H15 at sy3 gy3 ⊢
  refine ⟨(by show 2 <= sizeLine; decide), fun y4 hy4 => ?_⟩
  have sy4 := same_new hy4 (.tup [.str "g", .ref y3])
  have gy4 : (upd H15 y4 (.tup [.str "g", .ref y3])) y4 = some (.tup [.str "g", .ref y3]) := upd_same
  generalize upd H15 y4 (.tup [.str "g", .ref y3]) = H16 at sy4 gy4 ⊢
  have S16 : Same H8 H16 := S12.trans (sy1.trans (sy2.trans (sy3.trans sy4)))
  refine ⟨ev, .ref y4, bareBk, 2, tG, 2, sB, rfl, hE.mono (tk_of S16), bare_ok, ⟨y4, y3, [.ref y2], rfl, gy4, sy4 _ _ gy3, .cons ⟨y2, y1, [], rfl, sy4 _ _ (sy3 _ _ gy2), sy4 _ _ (sy3 _ _ (sy2 _ _ gy1)), .nil⟩ .nil⟩, tG_ok, tG_sz, fun H17 s17 => ⟨true, rfl, iteF ?_⟩⟩
  have S17 := S7.trans (s8.trans (S16.trans s17))
  refine ⟨_, rfl, _, rfl, bv, tv, bk, 60, t, 60, sr, rfl, hB1'.mono (tk_of S17), hk1.s, hT1'.mono (tk_of S17), hO1.trS, by lia, fun H18 s18 => ⟨true, rfl, iteT ?_⟩⟩
  exact ⟨_, rfl, _, rfl, bv2, tv2, bk2, 60, t2, 60, sr2, rfl, hB2.mono (tk_of (S17.trans s18)), hk2.s, hT2.mono (tk_of (S17.trans s18)), hO2.trS, by lia, fun H19 _ => q H19⟩
theorem dtab_mk {P : Program} {w : World} {K : PySem.W.Frag} {aD : Addr} {h1 h2 h3 h4 h5 h6 : Int} {t1 t2 t3 t4 t5 t6 u1 u2 u3 u4 u5 u6 : Tok} {ep : Nat}
  (lD : K.lookup aD = some ⟨.type "dict", none, .dict #[⟨h1, .str "plus" t1, .int 2 u1⟩, ⟨h2, .str "less" t2, .int 2 u2⟩, ⟨h3, .str "times" t3, .int 2 u3⟩, ⟨h4, .str "least" t4, .int 2 u4⟩, ⟨h5, .str "most" t5, .int 2 u5⟩, ⟨h6, .str "when" t6, .int 3 u6⟩] ep, #[]⟩)
  (e1 : h1 = hashStr w "plus") (e2 : h2 = hashStr w "less") (e3 : h3 = hashStr w "times") (e4 : h4 = hashStr w "least") (e5 : h5 = hashStr w "most") (e6 : h6 = hashStr w "when") (nD : (aD == sysModules) = false) : DTab P w K aD icKvs := by
 refine ⟨nD, fun h X => ⟨[(.inr "plus", .int 2 u1), (.inr "less", .int 2 u2), (.inr "times", .int 2 u3), (.inr "least", .int 2 u4), (.inr "most", .int 2 u5), (.inr "when", .int 3 u6)], ?_, ?_⟩⟩
 ·exact .cons ⟨rfl, _, rfl⟩ (.cons ⟨rfl, _, rfl⟩ (.cons ⟨rfl, _, rfl⟩ (.cons ⟨rfl, _, rfl⟩ (.cons ⟨rfl, _, rfl⟩ (.cons ⟨rfl, _, rfl⟩ .nil)))))
 ·refine ⟨_, _, _, X _ _ lD, ⟨rfl, rfl, rfl⟩, rfl, ?_, ?_, by dsimp only [List.map]; decide +kernel⟩
  ·intro e he
   simp only [List.mem_toArray, List.mem_cons, List.not_mem_nil, or_false] at he
   rcases he with rfl | rfl | rfl | rfl | rfl | rfl
   ·exact ⟨.inr "plus", keyIs_str "plus" t1, e1⟩
   ·exact ⟨.inr "less", keyIs_str "less" t2, e2⟩
   ·exact ⟨.inr "times", keyIs_str "times" t3, e3⟩
   ·exact ⟨.inr "least", keyIs_str "least" t4, e4⟩
   ·exact ⟨.inr "most", keyIs_str "most" t5, e5⟩
   ·exact ⟨.inr "when", keyIs_str "when" t6, e6⟩
  ·exact .cons (keyIs_str "plus" t1) rfl (.cons (keyIs_str "less" t2) rfl (.cons (keyIs_str "times" t3) rfl (.cons (keyIs_str "least" t4) rfl (.cons (keyIs_str "most" t5) rfl (.cons (keyIs_str "when" t6) rfl .nil)))))
theorem binds0 {α : Type} {l : List α} (h : l.length = 0) : l = [] := List.length_eq_zero_iff.mp h
theorem binds1 {α : Type} {l : List α} (h : l.length = 1) : ∃ a, l = [a] := by
 match l, h with
 | [a], _ => exact ⟨a, rfl⟩
theorem binds2 {α : Type} {l : List α} (h : l.length = 2) : ∃ a b, l = [a, b] := by
 match l, h with
 | [a, b], _ => exact ⟨a, b, rfl⟩
theorem binds3 {α : Type} {l : List α} (h : l.length = 3) : ∃ a b c, l = [a, b, c] := by
 match l, h with
 | [a, b, c], _ => exact ⟨a, b, c, rfl⟩
theorem binds4 {α : Type} {l : List α} (h : l.length = 4) : ∃ a b c d, l = [a, b, c, d] := by
 match l, h with
 | [a, b, c, d], _ => exact ⟨a, b, c, d, rfl⟩
theorem binds5 {α : Type} {l : List α} (h : l.length = 5) : ∃ a b c d e, l = [a, b, c, d, e] := by
 match l, h with
 | [a, b, c, d, e], _ => exact ⟨a, b, c, d, e, rfl⟩
theorem binds6 {α : Type} {l : List α} (h : l.length = 6) : ∃ a b c d e f, l = [a, b, c, d, e, f] := by
 match l, h with
 | [a, b, c, d, e, f], _ => exact ⟨a, b, c, d, e, f, rfl⟩
theorem reads_mk {K : PySem.W.Frag} {aR : Addr} {od : Option Addr} {sl : Array (Option Value)} {t1 t2 : Tok} {m : Nat} (l : K.lookup aR = some ⟨.type "tuple", od, .seq #[.str "own" t1, .str "part" t2] m, sl⟩) : ∀ H, SqT K H aR [.str "own", .str "part"] :=
 fun H => .inr ⟨_, _, _, l, rfl, rfl, (show 2 <= sizeLine by decide), .cons ⟨_, rfl⟩ (.cons ⟨_, rfl⟩ .nil)⟩
theorem all_mk {l : PySem.W.OpenLaw} {w : World} {K : PySem.W.Frag} {h : Heap} {mg : Str -> Option Value} {fa aD aR f1 f2 f3 f4 f5 f6 f7 f8 f9 f10 f11 f12 f13 f14 f15 f16 f17 f18 f19 f20 f21 f22 f23 f24 f25 f26 f27 f28 f29 f30 f31 f32 f33 f34 f35 f36 f37 f38 f39 f40 f41 : Addr} (X : K.In h) (G : h.Ns mainGlobals mg) (hfa : mg "law" = some (.ref fa))
  {odR od1 an1 od2 an2 od3 an3 od4 an4 od5 an5 od6 an6 od7 an7 od8 an8 od9 an9 od10 an10 od11 an11 od12 an12 od13 an13 od14 an14 od15 an15 od16 an16 od17 an17 od18 an18 od19 an19 od20 an20 od21 an21 od22 an22 od23 an23 od24 an24 od25 an25 od26 an26 od27 an27 od28 an28 od29 an29 od30 an30 od31 an31 od32 an32 od33 an33 od34 an34 od35 an35 od36 an36 od37 an37 od38 an38 od39 an39 od40 an40 od41 an41 : Option Addr} {slR sl1 sl2 sl3 sl4 sl5 sl6 sl7 sl8 sl9 sl10 sl11 sl12 sl13 sl14 sl15 sl16 sl17 sl18 sl19 sl20 sl21 sl22 sl23 sl24 sl25 sl26 sl27 sl28 sl29 sl30 sl31 sl32 sl33 sl34 sl35 sl36 sl37 sl38 sl39 sl40 sl41 : Array (Option Value)} {oc1 kV1 dc1 pm1 cd1 ct1 oc2 kV2 dc2 pm2 cd2 ct2 oc3 kV3 dc3 pm3 cd3 ct3 oc4 kV4 dc4 pm4 cd4 ct4 oc5 kV5 dc5 pm5 cd5 ct5 oc6 kV6 dc6 pm6 cd6 ct6 oc7 kV7 dc7 pm7 cd7 ct7 oc8 kV8 dc8 pm8 cd8 ct8 oc9 kV9 dc9 pm9 cd9 ct9 oc10 kV10 dc10 pm10 cd10 ct10 oc11 kV11 dc11 pm11 cd11 ct11 oc12 kV12 dc12 pm12 cd12 ct12 oc13 kV13 dc13 pm13 cd13 ct13 oc14 kV14 dc14 pm14 cd14 ct14 oc15 kV15 dc15 pm15 cd15 ct15 oc16 kV16 dc16 pm16 cd16 ct16 oc17 kV17 dc17 pm17 cd17 ct17 oc18 kV18 dc18 pm18 cd18 ct18 oc19 kV19 dc19 pm19 cd19 ct19 oc20 kV20 dc20 pm20 cd20 ct20 oc21 kV21 dc21 pm21 cd21 ct21 oc22 kV22 dc22 pm22 cd22 ct22 oc23 kV23 dc23 pm23 cd23 ct23 oc24 kV24 dc24 pm24 cd24 ct24 oc25 kV25 dc25 pm25 cd25 ct25 oc26 kV26 dc26 pm26 cd26 ct26 oc27 kV27 dc27 pm27 cd27 ct27 oc28 kV28 dc28 pm28 cd28 ct28 oc29 kV29 dc29 pm29 cd29 ct29 oc30 kV30 dc30 pm30 cd30 ct30 oc31 kV31 dc31 pm31 cd31 ct31 oc32 kV32 dc32 pm32 cd32 ct32 oc33 kV33 dc33 pm33 cd33 ct33 oc34 kV34 dc34 pm34 cd34 ct34 oc35 kV35 dc35 pm35 cd35 ct35 oc36 kV36 dc36 pm36 cd36 ct36 oc37 kV37 dc37 pm37 cd37 ct37 oc38 kV38 dc38 pm38 cd38 ct38 oc39 kV39 dc39 pm39 cd39 ct39 oc40 kV40 dc40 pm40 cd40 ct40 oc41 kV41 dc41 pm41 cd41 ct41 : Value} {w1 w2 t1 t2 t3 t4 t5 t6 u1 u2 u3 u4 u5 u6 : Tok} {h1 h2 h3 h4 h5 h6 : Int} {ep mR : Nat}
  (a1 : PySem.W.nsIn K mainGlobals "inner_of" = some (some (.ref f1))) (l1 : K.lookup f1 = some ⟨oc1, od1, .func (PySem.W.fnOf "inner_of" "inner_of" (defArgs sInner) (defBody sInner) (defScope sInner) .none kV1 dc1 pm1 an1 cd1 ct1), sl1⟩) (c1 : PySem.W.codeIn K cd1 "inner_of" = true) (k1 : PySem.W.keepIn K (.ref f1) = true)
  (a2 : PySem.W.nsIn K mainGlobals "tuples_of" = some (some (.ref f2))) (l2 : K.lookup f2 = some ⟨oc2, od2, .func (PySem.W.fnOf "tuples_of" "tuples_of" (defArgs sTuples) (defBody sTuples) (defScope sTuples) .none kV2 dc2 pm2 an2 cd2 ct2), sl2⟩) (c2 : PySem.W.codeIn K cd2 "tuples_of" = true) (k2 : PySem.W.keepIn K (.ref f2) = true)
  (a3 : PySem.W.nsIn K mainGlobals "readings_of" = some (some (.ref f3))) (l3 : K.lookup f3 = some ⟨oc3, od3, .func (PySem.W.fnOf "readings_of" "readings_of" (defArgs sReads) (defBody sReads) (defScope sReads) .none kV3 dc3 pm3 an3 cd3 ct3), sl3⟩) (c3 : PySem.W.codeIn K cd3 "readings_of" = true) (k3 : PySem.W.keepIn K (.ref f3) = true)
  (a4 : PySem.W.nsIn K mainGlobals "sorts_of" = some (some (.ref f4))) (l4 : K.lookup f4 = some ⟨oc4, od4, .func (PySem.W.fnOf "sorts_of" "sorts_of" (defArgs sSortsOf) (defBody sSortsOf) (defScope sSortsOf) .none kV4 dc4 pm4 an4 cd4 ct4), sl4⟩) (c4 : PySem.W.codeIn K cd4 "sorts_of" = true) (k4 : PySem.W.keepIn K (.ref f4) = true)
  (a5 : PySem.W.nsIn K mainGlobals "forms_of" = some (some (.ref f5))) (l5 : K.lookup f5 = some ⟨oc5, od5, .func (PySem.W.fnOf "forms_of" "forms_of" (defArgs sFormsOf) (defBody sFormsOf) (defScope sFormsOf) .none kV5 dc5 pm5 an5 cd5 ct5), sl5⟩) (c5 : PySem.W.codeIn K cd5 "forms_of" = true) (k5 : PySem.W.keepIn K (.ref f5) = true)
  (a6 : PySem.W.nsIn K mainGlobals "sort_named" = some (some (.ref f6))) (l6 : K.lookup f6 = some ⟨oc6, od6, .func (PySem.W.fnOf "sort_named" "sort_named" (defArgs sSortNamed) (defBody sSortNamed) (defScope sSortNamed) .none kV6 dc6 pm6 an6 cd6 ct6), sl6⟩) (c6 : PySem.W.codeIn K cd6 "sort_named" = true) (k6 : PySem.W.keepIn K (.ref f6) = true)
  (a7 : PySem.W.nsIn K mainGlobals "form_named" = some (some (.ref f7))) (l7 : K.lookup f7 = some ⟨oc7, od7, .func (PySem.W.fnOf "form_named" "form_named" (defArgs sFormNamed) (defBody sFormNamed) (defScope sFormNamed) .none kV7 dc7 pm7 an7 cd7 ct7), sl7⟩) (c7 : PySem.W.codeIn K cd7 "form_named" = true) (k7 : PySem.W.keepIn K (.ref f7) = true)
  (a8 : PySem.W.nsIn K mainGlobals "downs_of" = some (some (.ref f8))) (l8 : K.lookup f8 = some ⟨oc8, od8, .func (PySem.W.fnOf "downs_of" "downs_of" (defArgs sDowns) (defBody sDowns) (defScope sDowns) .none kV8 dc8 pm8 an8 cd8 ct8), sl8⟩) (c8 : PySem.W.codeIn K cd8 "downs_of" = true) (k8 : PySem.W.keepIn K (.ref f8) = true)
  (a9 : PySem.W.nsIn K mainGlobals "ups_of" = some (some (.ref f9))) (l9 : K.lookup f9 = some ⟨oc9, od9, .func (PySem.W.fnOf "ups_of" "ups_of" (defArgs sUps) (defBody sUps) (defScope sUps) .none kV9 dc9 pm9 an9 cd9 ct9), sl9⟩) (c9 : PySem.W.codeIn K cd9 "ups_of" = true) (k9 : PySem.W.keepIn K (.ref f9) = true)
  (a10 : PySem.W.nsIn K mainGlobals "sort_of_form" = some (some (.ref f10))) (l10 : K.lookup f10 = some ⟨oc10, od10, .func (PySem.W.fnOf "sort_of_form" "sort_of_form" (defArgs sSortOfForm) (defBody sSortOfForm) (defScope sSortOfForm) .none kV10 dc10 pm10 an10 cd10 ct10), sl10⟩) (c10 : PySem.W.codeIn K cd10 "sort_of_form" = true) (k10 : PySem.W.keepIn K (.ref f10) = true)
  (a11 : PySem.W.nsIn K mainGlobals "rules_of" = some (some (.ref f11))) (l11 : K.lookup f11 = some ⟨oc11, od11, .func (PySem.W.fnOf "rules_of" "rules_of" (defArgs sRulesOf) (defBody sRulesOf) (defScope sRulesOf) .none kV11 dc11 pm11 an11 cd11 ct11), sl11⟩) (c11 : PySem.W.codeIn K cd11 "rules_of" = true) (k11 : PySem.W.keepIn K (.ref f11) = true)
  (a12 : PySem.W.nsIn K mainGlobals "formulas_by_key" = some (some (.ref f12))) (l12 : K.lookup f12 = some ⟨oc12, od12, .func (PySem.W.fnOf "formulas_by_key" "formulas_by_key" (defArgs sByKey) (defBody sByKey) (defScope sByKey) .none kV12 dc12 pm12 an12 cd12 ct12), sl12⟩) (c12 : PySem.W.codeIn K cd12 "formulas_by_key" = true) (k12 : PySem.W.keepIn K (.ref f12) = true)
  (a13 : PySem.W.nsIn K mainGlobals "sort_of" = some (some (.ref f13))) (l13 : K.lookup f13 = some ⟨oc13, od13, .func (PySem.W.fnOf "sort_of" "sort_of" (defArgs sSortOf) (defBody sSortOf) (defScope sSortOf) .none kV13 dc13 pm13 an13 cd13 ct13), sl13⟩) (c13 : PySem.W.codeIn K cd13 "sort_of" = true) (k13 : PySem.W.keepIn K (.ref f13) = true)
  (a14 : PySem.W.nsIn K mainGlobals "boughs_by_place" = some (some (.ref f14))) (l14 : K.lookup f14 = some ⟨oc14, od14, .func (PySem.W.fnOf "boughs_by_place" "boughs_by_place" (defArgs sByPlace) (defBody sByPlace) (defScope sByPlace) .none kV14 dc14 pm14 an14 cd14 ct14), sl14⟩) (c14 : PySem.W.codeIn K cd14 "boughs_by_place" = true) (k14 : PySem.W.keepIn K (.ref f14) = true)
  (a15 : PySem.W.nsIn K mainGlobals "spots_of" = some (some (.ref f15))) (l15 : K.lookup f15 = some ⟨oc15, od15, .func (PySem.W.fnOf "spots_of" "spots_of" (defArgs sSpots) (defBody sSpots) (defScope sSpots) .none kV15 dc15 pm15 an15 cd15 ct15), sl15⟩) (c15 : PySem.W.codeIn K cd15 "spots_of" = true) (k15 : PySem.W.keepIn K (.ref f15) = true)
  (a16 : PySem.W.nsIn K mainGlobals "rules_by_spot" = some (some (.ref f16))) (l16 : K.lookup f16 = some ⟨oc16, od16, .func (PySem.W.fnOf "rules_by_spot" "rules_by_spot" (defArgs sBySpot) (defBody sBySpot) (defScope sBySpot) .none kV16 dc16 pm16 an16 cd16 ct16), sl16⟩) (c16 : PySem.W.codeIn K cd16 "rules_by_spot" = true) (k16 : PySem.W.keepIn K (.ref f16) = true)
  (a17 : PySem.W.nsIn K mainGlobals "told_by_forms" = some (some (.ref f17))) (l17 : K.lookup f17 = some ⟨oc17, od17, .func (PySem.W.fnOf "told_by_forms" "told_by_forms" (defArgs sTolds) (defBody sTolds) (defScope sTolds) .none kV17 dc17 pm17 an17 cd17 ct17), sl17⟩) (c17 : PySem.W.codeIn K cd17 "told_by_forms" = true) (k17 : PySem.W.keepIn K (.ref f17) = true)
  (a18 : PySem.W.nsIn K mainGlobals "told_by_form" = some (some (.ref f18))) (l18 : K.lookup f18 = some ⟨oc18, od18, .func (PySem.W.fnOf "told_by_form" "told_by_form" (defArgs sTold) (defBody sTold) (defScope sTold) .none kV18 dc18 pm18 an18 cd18 ct18), sl18⟩) (c18 : PySem.W.codeIn K cd18 "told_by_form" = true) (k18 : PySem.W.keepIn K (.ref f18) = true)
  (a19 : PySem.W.nsIn K mainGlobals "_law_cell_at" = some (some (.ref f19))) (l19 : K.lookup f19 = some ⟨oc19, od19, .func (PySem.W.fnOf "_law_cell_at" "_law_cell_at" (defArgs sCell) (defBody sCell) (defScope sCell) .none kV19 dc19 pm19 an19 cd19 ct19), sl19⟩) (c19 : PySem.W.codeIn K cd19 "_law_cell_at" = true) (k19 : PySem.W.keepIn K (.ref f19) = true)
  (a20 : PySem.W.nsIn K mainGlobals "_law_tape" = some (some (.ref f20))) (l20 : K.lookup f20 = some ⟨oc20, od20, .func (PySem.W.fnOf "_law_tape" "_law_tape" (defArgs sTape) (defBody sTape) (defScope sTape) .none kV20 dc20 pm20 an20 cd20 ct20), sl20⟩) (c20 : PySem.W.codeIn K cd20 "_law_tape" = true) (k20 : PySem.W.keepIn K (.ref f20) = true)
  (a21 : PySem.W.nsIn K mainGlobals "_law_digit" = some (some (.ref f21))) (l21 : K.lookup f21 = some ⟨oc21, od21, .func (PySem.W.fnOf "_law_digit" "_law_digit" (defArgs sDigit) (defBody sDigit) (defScope sDigit) .none kV21 dc21 pm21 an21 cd21 ct21), sl21⟩) (c21 : PySem.W.codeIn K cd21 "_law_digit" = true) (k21 : PySem.W.keepIn K (.ref f21) = true)
  (a22 : PySem.W.nsIn K mainGlobals "_law_names" = some (some (.ref f22))) (l22 : K.lookup f22 = some ⟨oc22, od22, .func (PySem.W.fnOf "_law_names" "_law_names" (defArgs sNames) (defBody sNames) (defScope sNames) .none kV22 dc22 pm22 an22 cd22 ct22), sl22⟩) (c22 : PySem.W.codeIn K cd22 "_law_names" = true) (k22 : PySem.W.keepIn K (.ref f22) = true)
  (a23 : PySem.W.nsIn K mainGlobals "_law_number" = some (some (.ref f23))) (l23 : K.lookup f23 = some ⟨oc23, od23, .func (PySem.W.fnOf "_law_number" "_law_number" (defArgs sNumber) (defBody sNumber) (defScope sNumber) .none kV23 dc23 pm23 an23 cd23 ct23), sl23⟩) (c23 : PySem.W.codeIn K cd23 "_law_number" = true) (k23 : PySem.W.keepIn K (.ref f23) = true)
  (a24 : PySem.W.nsIn K mainGlobals "_law_leaf" = some (some (.ref f24))) (l24 : K.lookup f24 = some ⟨oc24, od24, .func (PySem.W.fnOf "_law_leaf" "_law_leaf" (defArgs sLeaf) (defBody sLeaf) (defScope sLeaf) .none kV24 dc24 pm24 an24 cd24 ct24), sl24⟩) (c24 : PySem.W.codeIn K cd24 "_law_leaf" = true) (k24 : PySem.W.keepIn K (.ref f24) = true)
  (a25 : PySem.W.nsIn K mainGlobals "_law_formula" = some (some (.ref f25))) (l25 : K.lookup f25 = some ⟨oc25, od25, .func (PySem.W.fnOf "_law_formula" "_law_formula" (defArgs sFormula) (defBody sFormula) (defScope sFormula) .none kV25 dc25 pm25 an25 cd25 ct25), sl25⟩) (c25 : PySem.W.codeIn K cd25 "_law_formula" = true) (k25 : PySem.W.keepIn K (.ref f25) = true)
  (a26 : PySem.W.nsIn K mainGlobals "_law_sorts" = some (some (.ref f26))) (l26 : K.lookup f26 = some ⟨oc26, od26, .func (PySem.W.fnOf "_law_sorts" "_law_sorts" (defArgs sSorts) (defBody sSorts) (defScope sSorts) .none kV26 dc26 pm26 an26 cd26 ct26), sl26⟩) (c26 : PySem.W.codeIn K cd26 "_law_sorts" = true) (k26 : PySem.W.keepIn K (.ref f26) = true)
  (a27 : PySem.W.nsIn K mainGlobals "_law_targets" = some (some (.ref f27))) (l27 : K.lookup f27 = some ⟨oc27, od27, .func (PySem.W.fnOf "_law_targets" "_law_targets" (defArgs sTargets) (defBody sTargets) (defScope sTargets) .none kV27 dc27 pm27 an27 cd27 ct27), sl27⟩) (c27 : PySem.W.codeIn K cd27 "_law_targets" = true) (k27 : PySem.W.keepIn K (.ref f27) = true)
  (a28 : PySem.W.nsIn K mainGlobals "_law_readings" = some (some (.ref f28))) (l28 : K.lookup f28 = some ⟨oc28, od28, .func (PySem.W.fnOf "_law_readings" "_law_readings" (defArgs sLReadings) (defBody sLReadings) (defScope sLReadings) .none kV28 dc28 pm28 an28 cd28 ct28), sl28⟩) (c28 : PySem.W.codeIn K cd28 "_law_readings" = true) (k28 : PySem.W.keepIn K (.ref f28) = true)
  (a29 : PySem.W.nsIn K mainGlobals "_law_form" = some (some (.ref f29))) (l29 : K.lookup f29 = some ⟨oc29, od29, .func (PySem.W.fnOf "_law_form" "_law_form" (defArgs sLForm) (defBody sLForm) (defScope sLForm) .none kV29 dc29 pm29 an29 cd29 ct29), sl29⟩) (c29 : PySem.W.codeIn K cd29 "_law_form" = true) (k29 : PySem.W.keepIn K (.ref f29) = true)
  (a30 : PySem.W.nsIn K mainGlobals "_law_book" = some (some (.ref f30))) (l30 : K.lookup f30 = some ⟨oc30, od30, .func (PySem.W.fnOf "_law_book" "_law_book" (defArgs sBook) (defBody sBook) (defScope sBook) .none kV30 dc30 pm30 an30 cd30 ct30), sl30⟩) (c30 : PySem.W.codeIn K cd30 "_law_book" = true) (k30 : PySem.W.keepIn K (.ref f30) = true)
  (a31 : PySem.W.nsIn K mainGlobals "_law_least" = some (some (.ref f31))) (l31 : K.lookup f31 = some ⟨oc31, od31, .func (PySem.W.fnOf "_law_least" "_law_least" (defArgs sLeast) (defBody sLeast) (defScope sLeast) .none kV31 dc31 pm31 an31 cd31 ct31), sl31⟩) (c31 : PySem.W.codeIn K cd31 "_law_least" = true) (k31 : PySem.W.keepIn K (.ref f31) = true)
  (a32 : PySem.W.nsIn K mainGlobals "_law_tree" = some (some (.ref f32))) (l32 : K.lookup f32 = some ⟨oc32, od32, .func (PySem.W.fnOf "_law_tree" "_law_tree" (defArgs sTree) (defBody sTree) (defScope sTree) .none kV32 dc32 pm32 an32 cd32 ct32), sl32⟩) (c32 : PySem.W.codeIn K cd32 "_law_tree" = true) (k32 : PySem.W.keepIn K (.ref f32) = true)
  (a33 : PySem.W.nsIn K mainGlobals "_law_whole" = some (some (.ref f33))) (l33 : K.lookup f33 = some ⟨oc33, od33, .func (PySem.W.fnOf "_law_whole" "_law_whole" (defArgs sLWhole) (defBody sLWhole) (defScope sLWhole) .none kV33 dc33 pm33 an33 cd33 ct33), sl33⟩) (c33 : PySem.W.codeIn K cd33 "_law_whole" = true) (k33 : PySem.W.keepIn K (.ref f33) = true)
  (a34 : PySem.W.nsIn K mainGlobals "_law_grown" = some (some (.ref f34))) (l34 : K.lookup f34 = some ⟨oc34, od34, .func (PySem.W.fnOf "_law_grown" "_law_grown" (defArgs sLGrown) (defBody sLGrown) (defScope sLGrown) .none kV34 dc34 pm34 an34 cd34 ct34), sl34⟩) (c34 : PySem.W.codeIn K cd34 "_law_grown" = true) (k34 : PySem.W.keepIn K (.ref f34) = true)
  (a35 : PySem.W.nsIn K mainGlobals "_law_words" = some (some (.ref f35))) (l35 : K.lookup f35 = some ⟨oc35, od35, .func (PySem.W.fnOf "_law_words" "_law_words" (defArgs sLWords) (defBody sLWords) (defScope sLWords) .none kV35 dc35 pm35 an35 cd35 ct35), sl35⟩) (c35 : PySem.W.codeIn K cd35 "_law_words" = true) (k35 : PySem.W.keepIn K (.ref f35) = true)
  (a36 : PySem.W.nsIn K mainGlobals "_law_boughs" = some (some (.ref f36))) (l36 : K.lookup f36 = some ⟨oc36, od36, .func (PySem.W.fnOf "_law_boughs" "_law_boughs" (defArgs sLBoughs) (defBody sLBoughs) (defScope sLBoughs) .none kV36 dc36 pm36 an36 cd36 ct36), sl36⟩) (c36 : PySem.W.codeIn K cd36 "_law_boughs" = true) (k36 : PySem.W.keepIn K (.ref f36) = true)
  (a37 : PySem.W.nsIn K mainGlobals "_law_spots" = some (some (.ref f37))) (l37 : K.lookup f37 = some ⟨oc37, od37, .func (PySem.W.fnOf "_law_spots" "_law_spots" (defArgs sLSpots) (defBody sLSpots) (defScope sLSpots) .none kV37 dc37 pm37 an37 cd37 ct37), sl37⟩) (c37 : PySem.W.codeIn K cd37 "_law_spots" = true) (k37 : PySem.W.keepIn K (.ref f37) = true)
  (a38 : PySem.W.nsIn K mainGlobals "_law_are_spots" = some (some (.ref f38))) (l38 : K.lookup f38 = some ⟨oc38, od38, .func (PySem.W.fnOf "_law_are_spots" "_law_are_spots" (defArgs sAreSpots) (defBody sAreSpots) (defScope sAreSpots) .none kV38 dc38 pm38 an38 cd38 ct38), sl38⟩) (c38 : PySem.W.codeIn K cd38 "_law_are_spots" = true) (k38 : PySem.W.keepIn K (.ref f38) = true)
  (a39 : PySem.W.nsIn K mainGlobals "_law_bare" = some (some (.ref f39))) (l39 : K.lookup f39 = some ⟨oc39, od39, .func (PySem.W.fnOf "_law_bare" "_law_bare" (defArgs sBare) (defBody sBare) (defScope sBare) .none kV39 dc39 pm39 an39 cd39 ct39), sl39⟩) (c39 : PySem.W.codeIn K cd39 "_law_bare" = true) (k39 : PySem.W.keepIn K (.ref f39) = true)
  (a40 : PySem.W.nsIn K mainGlobals "_law_right" = some (some (.ref f40))) (l40 : K.lookup f40 = some ⟨oc40, od40, .func (PySem.W.fnOf "_law_right" "_law_right" (defArgs sLRight) (defBody sLRight) (defScope sLRight) .none kV40 dc40 pm40 an40 cd40 ct40), sl40⟩) (c40 : PySem.W.codeIn K cd40 "_law_right" = true) (k40 : PySem.W.keepIn K (.ref f40) = true)
  (a41 : PySem.W.nsIn K mainGlobals "law" = some (some (.ref f41))) (l41 : K.lookup f41 = some ⟨oc41, od41, .func (PySem.W.fnOf "law" "law" (defArgs sLaw) (defBody sLaw) (defScope sLaw) .none kV41 dc41 pm41 an41 cd41 ct41), sl41⟩) (c41 : PySem.W.codeIn K cd41 "law" = true) (k41 : PySem.W.keepIn K (.ref f41) = true)
  (z1 : PySem.W.nsIn K mainGlobals "isinstance" = some none)
  (z2 : PySem.W.nsIn K mainGlobals "int" = some none)
  (z3 : PySem.W.nsIn K mainGlobals "bool" = some none)
  (z4 : PySem.W.nsIn K mainGlobals "str" = some none)
  (z5 : PySem.W.nsIn K mainGlobals "tuple" = some none)
  (z6 : PySem.W.nsIn K mainGlobals "len" = some none)
  (z7 : PySem.W.nsIn K mainGlobals "all" = some none)
  (z8 : PySem.W.nsIn K mainGlobals "range" = some none)
  (z9 : PySem.W.nsIn K mainGlobals "max" = some none)
  (z10 : PySem.W.nsIn K mainGlobals "min" = some none)
  (z11 : PySem.W.nsIn K mainGlobals "list" = some none)
  (z12 : PySem.W.nsIn K mainGlobals "sum" = some none)
  (z13 : PySem.W.nsIn K mainGlobals "enumerate" = some none)
  (aI : PySem.W.nsIn K mainGlobals "INNER_COUNTS" = some (some (.ref aD)))
  (lD : K.lookup aD = some ⟨.type "dict", none, .dict #[⟨h1, .str "plus" t1, .int 2 u1⟩, ⟨h2, .str "less" t2, .int 2 u2⟩, ⟨h3, .str "times" t3, .int 2 u3⟩, ⟨h4, .str "least" t4, .int 2 u4⟩, ⟨h5, .str "most" t5, .int 2 u5⟩, ⟨h6, .str "when" t6, .int 3 u6⟩] ep, #[]⟩)
  (e1 : h1 = hashStr w "plus")    (e2 : h2 = hashStr w "less")    (e3 : h3 = hashStr w "times")    (e4 : h4 = hashStr w "least")    (e5 : h5 = hashStr w "most")    (e6 : h6 = hashStr w "when")
  (nD : (aD == sysModules) = false)
  (aQ : PySem.W.nsIn K mainGlobals "READINGS" = some (some (.ref aR))) (lR : K.lookup aR = some ⟨.type "tuple", odR, .seq #[.str "own" w1, .str "part" w2] mR, slR⟩) :
  ∃ fd : FuncData, (∀ (s : Shared) (v : Value), BindsTo s fd ⟨[v], []⟩ [("script", v)]) /\ ∀ base : Heap, K.In base -> base.Ns mainGlobals mg -> FnOk l.prog w K mg base CX0 64 fa fd ["script"] (spLaw K) := by
 have e := hfa.symm.trans (PySem.W.mg_of X G a41)
 cases e
 have F1 := fun_mk (st := sInner) l1 c1 k1
 have b1 := F1.binds (ps := ["formula"]) fun _ _ _ _ _ _ us hl => by obtain ⟨x, rfl⟩ := binds1 hl; rfl
 have m1 := PySem.W.mg_of X G a1
 have F2 := fun_mk (st := sTuples) l2 c2 k2
 have b2 := F2.binds (ps := ["formula"]) fun _ _ _ _ _ _ us hl => by obtain ⟨x, rfl⟩ := binds1 hl; rfl
 have m2 := PySem.W.mg_of X G a2
 have F3 := fun_mk (st := sReads) l3 c3 k3
 have b3 := F3.binds (ps := ["formula"]) fun _ _ _ _ _ _ us hl => by obtain ⟨x, rfl⟩ := binds1 hl; rfl
 have m3 := PySem.W.mg_of X G a3
 have F4 := fun_mk (st := sSortsOf) l4 c4 k4
 have b4 := F4.binds (ps := ["book"]) fun _ _ _ _ _ _ us hl => by obtain ⟨x, rfl⟩ := binds1 hl; rfl
 have m4 := PySem.W.mg_of X G a4
 have F5 := fun_mk (st := sFormsOf) l5 c5 k5
 have b5 := F5.binds (ps := ["book"]) fun _ _ _ _ _ _ us hl => by obtain ⟨x, rfl⟩ := binds1 hl; rfl
 have m5 := PySem.W.mg_of X G a5
 have F6 := fun_mk (st := sSortNamed) l6 c6 k6
 have b6 := F6.binds (ps := ["book", "name"]) fun _ _ _ _ _ _ us hl => by obtain ⟨x, y, rfl⟩ := binds2 hl; rfl
 have m6 := PySem.W.mg_of X G a6
 have F7 := fun_mk (st := sFormNamed) l7 c7 k7
 have b7 := F7.binds (ps := ["book", "name"]) fun _ _ _ _ _ _ us hl => by obtain ⟨x, y, rfl⟩ := binds2 hl; rfl
 have m7 := PySem.W.mg_of X G a7
 have F8 := fun_mk (st := sDowns) l8 c8 k8
 have b8 := F8.binds (ps := ["book", "sort"]) fun _ _ _ _ _ _ us hl => by obtain ⟨x, y, rfl⟩ := binds2 hl; rfl
 have m8 := PySem.W.mg_of X G a8
 have F9 := fun_mk (st := sUps) l9 c9 k9
 have b9 := F9.binds (ps := ["book", "sort"]) fun _ _ _ _ _ _ us hl => by obtain ⟨x, y, rfl⟩ := binds2 hl; rfl
 have m9 := PySem.W.mg_of X G a9
 have F10 := fun_mk (st := sSortOfForm) l10 c10 k10
 have b10 := F10.binds (ps := ["form"]) fun _ _ _ _ _ _ us hl => by obtain ⟨x, rfl⟩ := binds1 hl; rfl
 have m10 := PySem.W.mg_of X G a10
 have F11 := fun_mk (st := sRulesOf) l11 c11 k11
 have b11 := F11.binds (ps := ["form"]) fun _ _ _ _ _ _ us hl => by obtain ⟨x, rfl⟩ := binds1 hl; rfl
 have m11 := PySem.W.mg_of X G a11
 have F12 := fun_mk (st := sByKey) l12 c12 k12
 have b12 := F12.binds (ps := ["form"]) fun _ _ _ _ _ _ us hl => by obtain ⟨x, rfl⟩ := binds1 hl; rfl
 have m12 := PySem.W.mg_of X G a12
 have F13 := fun_mk (st := sSortOf) l13 c13 k13
 have b13 := F13.binds (ps := ["book", "tree"]) fun _ _ _ _ _ _ us hl => by obtain ⟨x, y, rfl⟩ := binds2 hl; rfl
 have m13 := PySem.W.mg_of X G a13
 have F14 := fun_mk (st := sByPlace) l14 c14 k14
 have b14 := F14.binds (ps := ["tree"]) fun _ _ _ _ _ _ us hl => by obtain ⟨x, rfl⟩ := binds1 hl; rfl
 have m14 := PySem.W.mg_of X G a14
 have F15 := fun_mk (st := sSpots) l15 c15 k15
 have b15 := F15.binds (ps := ["book", "tree"]) fun _ _ _ _ _ _ us hl => by obtain ⟨x, y, rfl⟩ := binds2 hl; rfl
 have m15 := PySem.W.mg_of X G a15
 have F16 := fun_mk (st := sBySpot) l16 c16 k16
 have b16 := F16.binds (ps := ["book", "tree"]) fun _ _ _ _ _ _ us hl => by obtain ⟨x, y, rfl⟩ := binds2 hl; rfl
 have m16 := PySem.W.mg_of X G a16
 have F17 := fun_mk (st := sTolds) l17 c17 k17
 have b17 := F17.binds (ps := ["book", "names"]) fun _ _ _ _ _ _ us hl => by obtain ⟨x, y, rfl⟩ := binds2 hl; rfl
 have m17 := PySem.W.mg_of X G a17
 have F18 := fun_mk (st := sTold) l18 c18 k18
 have b18 := F18.binds (ps := ["form"]) fun _ _ _ _ _ _ us hl => by obtain ⟨x, rfl⟩ := binds1 hl; rfl
 have m18 := PySem.W.mg_of X G a18
 have F19 := fun_mk (st := sCell) l19 c19 k19
 have b19 := F19.binds (ps := ["script", "k"]) fun _ _ _ _ _ _ us hl => by obtain ⟨x, y, rfl⟩ := binds2 hl; rfl
 have m19 := PySem.W.mg_of X G a19
 have F20 := fun_mk (st := sTape) l20 c20 k20
 have b20 := F20.binds (ps := ["script", "k"]) fun _ _ _ _ _ _ us hl => by obtain ⟨x, y, rfl⟩ := binds2 hl; rfl
 have m20 := PySem.W.mg_of X G a20
 have F21 := fun_mk (st := sDigit) l21 c21 k21
 have b21 := F21.binds (ps := ["tape", "many"]) fun _ _ _ _ _ _ us hl => by obtain ⟨x, y, rfl⟩ := binds2 hl; rfl
 have m21 := PySem.W.mg_of X G a21
 have F22 := fun_mk (st := sNames) l22 c22 k22
 have b22 := F22.binds (ps := ["tape", "many"]) fun _ _ _ _ _ _ us hl => by obtain ⟨x, y, rfl⟩ := binds2 hl; rfl
 have m22 := PySem.W.mg_of X G a22
 have F23 := fun_mk (st := sNumber) l23 c23 k23
 have b23 := F23.binds (ps := ["tape"]) fun _ _ _ _ _ _ us hl => by obtain ⟨x, rfl⟩ := binds1 hl; rfl
 have m23 := PySem.W.mg_of X G a23
 have F24 := fun_mk (st := sLeaf) l24 c24 k24
 have b24 := F24.binds (ps := ["tape", "readings"]) fun _ _ _ _ _ _ us hl => by obtain ⟨x, y, rfl⟩ := binds2 hl; rfl
 have m24 := PySem.W.mg_of X G a24
 have F25 := fun_mk (st := sFormula) l25 c25 k25
 have b25 := F25.binds (ps := ["tape", "readings"]) fun _ _ _ _ _ _ us hl => by obtain ⟨x, y, rfl⟩ := binds2 hl; rfl
 have m25 := PySem.W.mg_of X G a25
 have F26 := fun_mk (st := sSorts) l26 c26 k26
 have b26 := F26.binds (ps := ["tape", "few"]) fun _ _ _ _ _ _ us hl => by obtain ⟨x, y, rfl⟩ := binds2 hl; rfl
 have m26 := PySem.W.mg_of X G a26
 have F27 := fun_mk (st := sTargets) l27 c27 k27
 have b27 := F27.binds (ps := ["sorts", "own", "parts"]) fun _ _ _ _ _ _ us hl => by obtain ⟨x, y, z, rfl⟩ := binds3 hl; rfl
 have m27 := PySem.W.mg_of X G a27
 have F28 := fun_mk (st := sLReadings) l28 c28 k28
 have b28 := F28.binds (ps := ["sorts", "own", "parts", "mode", "j"]) fun _ _ _ _ _ _ us hl => by obtain ⟨x, y, z, u, v, rfl⟩ := binds5 hl; rfl
 have m28 := PySem.W.mg_of X G a28
 have F29 := fun_mk (st := sLForm) l29 c29 k29
 have b29 := F29.binds (ps := ["tape", "sorts", "name", "own", "parts", "mode"]) fun _ _ _ _ _ _ us hl => by obtain ⟨x, y, z, u, v, w, rfl⟩ := binds6 hl; rfl
 have m29 := PySem.W.mg_of X G a29
 have F30 := fun_mk (st := sBook) l30 c30 k30
 have b30 := F30.binds (ps := ["script", "start", "few"]) fun _ _ _ _ _ _ us hl => by obtain ⟨x, y, z, rfl⟩ := binds3 hl; rfl
 have m30 := PySem.W.mg_of X G a30
 have F31 := fun_mk (st := sLeast) l31 c31 k31
 have b31 := F31.binds (ps := ["book"]) fun _ _ _ _ _ _ us hl => by obtain ⟨x, rfl⟩ := binds1 hl; rfl
 have m31 := PySem.W.mg_of X G a31
 have F32 := fun_mk (st := sTree) l32 c32 k32
 have b32 := F32.binds (ps := ["tape", "book", "least", "sort", "room"]) fun _ _ _ _ _ _ us hl => by obtain ⟨x, y, z, u, v, rfl⟩ := binds5 hl; rfl
 have m32 := PySem.W.mg_of X G a32
 have F33 := fun_mk (st := sLWhole) l33 c33 k33
 have b33 := F33.binds (ps := ["found"]) fun _ _ _ _ _ _ us hl => by obtain ⟨x, rfl⟩ := binds1 hl; rfl
 have m33 := PySem.W.mg_of X G a33
 have F34 := fun_mk (st := sLGrown) l34 c34 k34
 have b34 := F34.binds (ps := ["script", "start", "few"]) fun _ _ _ _ _ _ us hl => by obtain ⟨x, y, z, rfl⟩ := binds3 hl; rfl
 have m34 := PySem.W.mg_of X G a34
 have F35 := fun_mk (st := sLWords) l35 c35 k35
 have b35 := F35.binds (ps := ["book", "name"]) fun _ _ _ _ _ _ us hl => by obtain ⟨x, y, rfl⟩ := binds2 hl; rfl
 have m35 := PySem.W.mg_of X G a35
 have F36 := fun_mk (st := sLBoughs) l36 c36 k36
 have b36 := F36.binds (ps := ["tree"]) fun _ _ _ _ _ _ us hl => by obtain ⟨x, rfl⟩ := binds1 hl; rfl
 have m36 := PySem.W.mg_of X G a36
 have F37 := fun_mk (st := sLSpots) l37 c37 k37
 have b37 := F37.binds (ps := ["book", "tree"]) fun _ _ _ _ _ _ us hl => by obtain ⟨x, y, rfl⟩ := binds2 hl; rfl
 have m37 := PySem.W.mg_of X G a37
 have F38 := fun_mk (st := sAreSpots) l38 c38 k38
 have b38 := F38.binds (ps := ["found"]) fun _ _ _ _ _ _ us hl => by obtain ⟨x, rfl⟩ := binds1 hl; rfl
 have m38 := PySem.W.mg_of X G a38
 have F39 := fun_mk (st := sBare) l39 c39 k39
 have b39 := F39.binds (ps := []) fun _ _ _ _ _ _ us hl => by obtain rfl := binds0 hl; rfl
 have m39 := PySem.W.mg_of X G a39
 have F40 := fun_mk (st := sLRight) l40 c40 k40
 have b40 := F40.binds (ps := ["book", "tree"]) fun _ _ _ _ _ _ us hl => by obtain ⟨x, y, rfl⟩ := binds2 hl; rfl
 have m40 := PySem.W.mg_of X G a40
 have F41 := fun_mk (st := sLaw) l41 c41 k41
 have m41 := PySem.W.mg_of X G a41
 have Gb0 : Gb mg := ⟨PySem.W.mg_none_of X G z1, PySem.W.mg_none_of X G z2, PySem.W.mg_none_of X G z3, PySem.W.mg_none_of X G z4, PySem.W.mg_none_of X G z5, PySem.W.mg_none_of X G z6, PySem.W.mg_none_of X G z7, PySem.W.mg_none_of X G z8, PySem.W.mg_none_of X G z9, PySem.W.mg_none_of X G z10⟩
 have D : DTab l.prog w K aD icKvs := dtab_mk lD e1 e2 e3 e4 e5 e6 nD
 have mI := PySem.W.mg_of X G aI
 have mQ := PySem.W.mg_of X G aQ
 have hR := reads_mk lR
 have v11 := PySem.W.mg_none_of X G z11
 have v12 := PySem.W.mg_none_of X G z12
 have v13 := PySem.W.mg_none_of X G z13
 refine ⟨PySem.W.fnOf "law" "law" (defArgs sLaw) (defBody sLaw) (defScope sLaw) .none kV41 dc41 pm41 an41 cd41 ct41, fun s v => .of_eq rfl, fun base _ _ => ?_⟩
 have g_inner := ok_inner (base := base) F1 mI D
 have g_tuples := ok_tuples F2 g_inner b1 k1 m1
 have g_reads := ok_reads F3 v11 mQ hR g_tuples b2 k2 m2
 have g_sortsOf := ok_sortsOf (P := l.prog) (w := w) (mg := mg) (base := base) F4
 have g_forms := ok_formsOf (P := l.prog) (w := w) (mg := mg) (base := base) F5
 have g_sortN := ok_sortNamed F6 g_sortsOf b4 k4 m4
 have g_formN := ok_formNamed F7 g_forms b5 k5 m5
 have g_downs := ok_downs F8 g_sortN b6 k6 m6
 have g_ups := ok_ups F9 g_sortN b6 k6 m6
 have g_sortf := ok_sortOfForm (P := l.prog) (w := w) (mg := mg) (base := base) F10
 have g_rules := ok_rulesOf (P := l.prog) (w := w) (mg := mg) (base := base) F11
 have g_byKey := ok_byKey F12 g_rules b11 k11 m11
 have g_sortOf := ok_sortOf F13 g_formN b7 k7 m7 g_sortf b10 k10 m10
 have g_byp := ok_byPlace (P := l.prog) (w := w) (mg := mg) (base := base) F14 v13
 have g_told := ok_told F18 g_byKey b12 k12 m12 g_reads b3 k3 m3
 have g_tolds := ok_tolds F17 g_told b18 k18 m18 g_formN b7 k7 m7
 have g_bySpot := ok_bySpot F16 g_byp b14 k14 m14 g_tolds b17 k17 m17 g_sortOf b13 k13 m13 g_downs b8 k8 m8 g_ups b9 k9 m9
 have g_spots := ok_spots F15 v11 g_bySpot b16 k16 m16
 have g_cell := ok_cell (P := l.prog) (w := w) (base := base) F19 Gb0
 have g_tape := ok_tape F20 g_cell b19 k19 m19
 have g_digit := ok_digit (P := l.prog) (w := w) (mg := mg) (base := base) F21
 have g_names := ok_namesX F22 Gb0 g_digit b21 k21 m21
 have g_number := ok_number F23 g_digit b21 k21 m21
 have g_formula := fun ρ => ok_formulaP (ρ := ρ) F25 Gb0 g_digit b21 k21 m21 (ok_leafP (ρ := ρ) F24 Gb0 g_digit b21 k21 m21 g_number b23 k23 m23) b24 k24 m24
 have g_sorts := ok_sorts F26 Gb0 g_digit b21 k21 m21 g_names b22 k22 m22
 have g_targets := ok_targets (P := l.prog) (w := w) (mg := mg) (base := base) F27 Gb0
 have g_lread := ok_lreadings F28 Gb0 g_targets b27 k27 m27
 have g_lform := ok_lform F29 Gb0 g_targets b27 k27 m27 g_lread b28 k28 m28 g_formula b25 k25 m25
 have g_book := ok_book F30 Gb0 g_digit b21 k21 m21 g_lform b29 k29 m29 g_tape b20 k20 m20 g_sorts b26 k26 m26 g_names b22 k22 m22
 have g_least := ok_least (P := l.prog) (w := w) (mg := mg) (base := base) F31 Gb0 v12
 have g_tree := ok_tree F32 Gb0 v12 g_digit b21 k21 m21 b32 m32 60
 have g_whole := ok_lwhole (P := l.prog) (w := w) (mg := mg) (base := base) F33 Gb0
 have g_grown := ok_lgrown F34 Gb0 g_book b30 k30 m30 g_least b31 k31 m31 g_tape b20 k20 m20 g_digit b21 k21 m21 g_tree b32 k32 m32
 have g_lwords := ok_lwords (P := l.prog) (w := w) (mg := mg) (base := base) F35
 have g_lboughs := ok_lboughs (P := l.prog) (w := w) (mg := mg) (base := base) F36 Gb0
 have g_lspots := ok_lspots F37 g_lboughs b36 k36 m36 g_lwords b35 k35 m35
 have g_are := ok_are F38 Gb0 v11 g_whole b33 k33 m33
 have g_bare := ok_bare (P := l.prog) (w := w) (mg := mg) (base := base) F39
 have g_right := ok_lright F40 g_spots b15 k15 m15 g_are b38 k38 m38 g_lspots b37 k37 m37
 exact ok_law F41 g_grown b34 k34 m34 g_right b40 k40 m40 g_lboughs b36 k36 m36 g_bare b39 k39 m39 g_spots b15 k15 m15
theorem walk {l : PySem.W.OpenLaw} {q : Program} {loose : List Str} {XP : (Str -> Option Value) -> Heap -> Prop} {YP : World -> Heap -> Prop} {d : DefRec} {K : Params -> PySem.W.Frag} (hn : l.most = some 63) (hdf : d.params.defaults = [])
  (hY : ∀ (w : World) (h : Heap), YP w h -> (K w.params).In h)
  (F : ∀ (w : World) (mg : Str -> Option Value) (fa : Addr) (h : Heap), (K w.params).In h -> h.Ns mainGlobals mg -> mg d.name = some (.ref fa) ->
   ∃ fd : FuncData, (∀ (s : Shared) (u : Value), BindsTo s fd ⟨[u], []⟩ [("script", u)]) /\ ∀ base : Heap, (K w.params).In base -> base.Ns mainGlobals mg -> FnOk l.prog w (K w.params) mg base CX0 64 fa fd ["script"] (spLaw (K w.params))) :
  PySem.W.WalkO q loose XP YP l.row.toRowW d [] (fun f vs => PySem.call f vs) :=
 L2.walk_of (n := 63) (k := 64) (x := "script") (CX := fun _ => CX0) (sp := fun w => spLaw (K w.params)) hn (by decide) hdf ⟨rfl, by decide, by decide⟩ hY F (fun _ _ a ns hl _ hS => ⟨a, ns, rfl, hS, hl, fun _ => rfl⟩) fun _ _ _ _ _ z => z
end My
open PySem PySem.W PyProof.Rows
set_option maxRecDepth 100000 in
set_option maxHeartbeats 0 in
theorem PySem.Challenge.cw_boughworth_k25_spots_of_a_tree_holds : PySem.Challenge.rw_boughworth_k25_spots_of_a_tree.Holds := by
 refine My.parts.c My.parts.a0 My.parts.a1 My.parts.b0 My.parts.b1 ?_
 delta My.parts
 dsimp only
 k_fill
 refine My.walk (l := PySem.Challenge.rw_boughworth_k25_spots_of_a_tree) rfl rfl (fun w h Y => PySem.W.kIn_of Y) ?F
 case F =>
  intro w mg fa h KX G hmg
  refine' My.all_mk KX G hmg ?a1 ?l1 ?c1 ?k1 ?a2 ?l2 ?c2 ?k2 ?a3 ?l3 ?c3 ?k3 ?a4 ?l4 ?c4 ?k4 ?a5 ?l5 ?c5 ?k5 ?a6 ?l6 ?c6 ?k6 ?a7 ?l7 ?c7 ?k7 ?a8 ?l8 ?c8 ?k8 ?a9 ?l9 ?c9 ?k9 ?a10 ?l10 ?c10 ?k10 ?a11 ?l11 ?c11 ?k11 ?a12 ?l12 ?c12 ?k12 ?a13 ?l13 ?c13 ?k13 ?a14 ?l14 ?c14 ?k14 ?a15 ?l15 ?c15 ?k15 ?a16 ?l16 ?c16 ?k16 ?a17 ?l17 ?c17 ?k17 ?a18 ?l18 ?c18 ?k18 ?a19 ?l19 ?c19 ?k19 ?a20 ?l20 ?c20 ?k20 ?a21 ?l21 ?c21 ?k21 ?a22 ?l22 ?c22 ?k22 ?a23 ?l23 ?c23 ?k23 ?a24 ?l24 ?c24 ?k24 ?a25 ?l25 ?c25 ?k25 ?a26 ?l26 ?c26 ?k26 ?a27 ?l27 ?c27 ?k27 ?a28 ?l28 ?c28 ?k28 ?a29 ?l29 ?c29 ?k29 ?a30 ?l30 ?c30 ?k30 ?a31 ?l31 ?c31 ?k31 ?a32 ?l32 ?c32 ?k32 ?a33 ?l33 ?c33 ?k33 ?a34 ?l34 ?c34 ?k34 ?a35 ?l35 ?c35 ?k35 ?a36 ?l36 ?c36 ?k36 ?a37 ?l37 ?c37 ?k37 ?a38 ?l38 ?c38 ?k38 ?a39 ?l39 ?c39 ?k39 ?a40 ?l40 ?c40 ?k40 ?a41 ?l41 ?c41 ?k41 ?z1 ?z2 ?z3 ?z4 ?z5 ?z6 ?z7 ?z8 ?z9 ?z10 ?z11 ?z12 ?z13 ?aI ?lD ?e1 ?e2 ?e3 ?e4 ?e5 ?e6 ?nD ?aQ ?lR
  (case a1 => k_is)
  (case l1 => k_is)
  (case c1 => k_is)
  (case k1 => k_is)
  (case a2 => k_is)
  (case l2 => k_is)
  (case c2 => k_is)
  (case k2 => k_is)
  (case a3 => k_is)
  (case l3 => k_is)
  (case c3 => k_is)
  (case k3 => k_is)
  (case a4 => k_is)
  (case l4 => k_is)
  (case c4 => k_is)
  (case k4 => k_is)
  (case a5 => k_is)
  (case l5 => k_is)
  (case c5 => k_is)
  (case k5 => k_is)
  (case a6 => k_is)
  (case l6 => k_is)
  (case c6 => k_is)
  (case k6 => k_is)
  (case a7 => k_is)
  (case l7 => k_is)
  (case c7 => k_is)
  (case k7 => k_is)
  (case a8 => k_is)
  (case l8 => k_is)
  (case c8 => k_is)
  (case k8 => k_is)
  (case a9 => k_is)
  (case l9 => k_is)
  (case c9 => k_is)
  (case k9 => k_is)
  (case a10 => k_is)
  (case l10 => k_is)
  (case c10 => k_is)
  (case k10 => k_is)
  (case a11 => k_is)
  (case l11 => k_is)
  (case c11 => k_is)
  (case k11 => k_is)
  (case a12 => k_is)
  (case l12 => k_is)
  (case c12 => k_is)
  (case k12 => k_is)
  (case a13 => k_is)
  (case l13 => k_is)
  (case c13 => k_is)
  (case k13 => k_is)
  (case a14 => k_is)
  (case l14 => k_is)
  (case c14 => k_is)
  (case k14 => k_is)
  (case a15 => k_is)
  (case l15 => k_is)
  (case c15 => k_is)
  (case k15 => k_is)
  (case a16 => k_is)
  (case l16 => k_is)
  (case c16 => k_is)
  (case k16 => k_is)
  (case a17 => k_is)
  (case l17 => k_is)
  (case c17 => k_is)
  (case k17 => k_is)
  (case a18 => k_is)
  (case l18 => k_is)
  (case c18 => k_is)
  (case k18 => k_is)
  (case a19 => k_is)
  (case l19 => k_is)
  (case c19 => k_is)
  (case k19 => k_is)
  (case a20 => k_is)
  (case l20 => k_is)
  (case c20 => k_is)
  (case k20 => k_is)
  (case a21 => k_is)
  (case l21 => k_is)
  (case c21 => k_is)
  (case k21 => k_is)
  (case a22 => k_is)
  (case l22 => k_is)
  (case c22 => k_is)
  (case k22 => k_is)
  (case a23 => k_is)
  (case l23 => k_is)
  (case c23 => k_is)
  (case k23 => k_is)
  (case a24 => k_is)
  (case l24 => k_is)
  (case c24 => k_is)
  (case k24 => k_is)
  (case a25 => k_is)
  (case l25 => k_is)
  (case c25 => k_is)
  (case k25 => k_is)
  (case a26 => k_is)
  (case l26 => k_is)
  (case c26 => k_is)
  (case k26 => k_is)
  (case a27 => k_is)
  (case l27 => k_is)
  (case c27 => k_is)
  (case k27 => k_is)
  (case a28 => k_is)
  (case l28 => k_is)
  (case c28 => k_is)
  (case k28 => k_is)
  (case a29 => k_is)
  (case l29 => k_is)
  (case c29 => k_is)
  (case k29 => k_is)
  (case a30 => k_is)
  (case l30 => k_is)
  (case c30 => k_is)
  (case k30 => k_is)
  (case a31 => k_is)
  (case l31 => k_is)
  (case c31 => k_is)
  (case k31 => k_is)
  (case a32 => k_is)
  (case l32 => k_is)
  (case c32 => k_is)
  (case k32 => k_is)
  (case a33 => k_is)
  (case l33 => k_is)
  (case c33 => k_is)
  (case k33 => k_is)
  (case a34 => k_is)
  (case l34 => k_is)
  (case c34 => k_is)
  (case k34 => k_is)
  (case a35 => k_is)
  (case l35 => k_is)
  (case c35 => k_is)
  (case k35 => k_is)
  (case a36 => k_is)
  (case l36 => k_is)
  (case c36 => k_is)
  (case k36 => k_is)
  (case a37 => k_is)
  (case l37 => k_is)
  (case c37 => k_is)
  (case k37 => k_is)
  (case a38 => k_is)
  (case l38 => k_is)
  (case c38 => k_is)
  (case k38 => k_is)
  (case a39 => k_is)
  (case l39 => k_is)
  (case c39 => k_is)
  (case k39 => k_is)
  (case a40 => k_is)
  (case l40 => k_is)
  (case c40 => k_is)
  (case k40 => k_is)
  (case a41 => k_is)
  (case l41 => k_is)
  (case c41 => k_is)
  (case k41 => k_is)
  (case z1 => k_is)
  (case z2 => k_is)
  (case z3 => k_is)
  (case z4 => k_is)
  (case z5 => k_is)
  (case z6 => k_is)
  (case z7 => k_is)
  (case z8 => k_is)
  (case z9 => k_is)
  (case z10 => k_is)
  (case z11 => k_is)
  (case z12 => k_is)
  (case z13 => k_is)
  (case aI => k_is)
  (case lD => k_is)
  (case e1 => first | rfl | k_is)
  (case e2 => first | rfl | k_is)
  (case e3 => first | rfl | k_is)
  (case e4 => first | rfl | k_is)
  (case e5 => first | rfl | k_is)
  (case e6 => first | rfl | k_is)
  (case nD => first | rfl | decide | k_is)
  (case aQ => k_is)
  (case lR => k_is)
