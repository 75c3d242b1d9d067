import PyProof.Rows.All
import Wide.All
import OpenK.AllK
import Wide.FinOn
import Lean
import PyProof.EqAt
import PyProof.EqKinds
import PyProof.TupleCall
import PyProof.TupleKey
import PyProof.DictKeyH
import PyProof.SumWalk
import KE.KDictList
import PyProof.NeKinds
import PyProof.Draws
import PyProof.ZipIter
import PyProof.ListMulRoad
import KE.RegKIsAll
import OpenK.KOwn
import PyProof.EnumMake
import PyProof.Rows.StrNews
import Flt.Sum
import PyProof.FitsBits
import PyProof.DictTable
import KE.KItemsList
import PyProof.CollectWalk
import PySem.Challenge.RW_boughworth_k21_trees_counted
set_option Elab.async false
set_option linter.all false
set_option bootstrap.genMatcherCode false
set_option compiler.extract_closed false
set_option genSizeOfSpec false
set_option maxRecDepth 100000
set_option maxHeartbeats 4000000
namespace My
open PySem PySem.W PySem.Calls PyProof.Rows
theorem with_hl {P R Q : Prop} (hl : P) (hc : R) (main : Q) : Q := main
structure Parts (Q : Prop) : Type where
  {P1 : Prop}
  {P2 : Prop}
  {W : Prop}
  a : P1
  b : P2
  c : P1 → P2 → W → Q
noncomputable def hO11 (_ : Params) : Obj := { cls := Value.type "tuple", data := Data.seq #[] }
noncomputable def hO12 (_ : Params) : Obj := { cls := Value.none, data := Data.fields #[] }
noncomputable def hO13 (_ : Params) : Obj := { cls := Value.type "code", data := Data.fields #[Value.str (Str.ofString "<module>") 182, Value.str (Str.ofString "<module>") 183, Value.str (Str.ofString "/claim/cut.py") 184, Value.int 1 0, Value.int 0 0, Value.int 0 0, Value.int 0 0, Value.int 0 0, Value.ref 11, Value.bool false, Value.int 181 0, Value.ref 12, Value.none, Value.none, Value.none, Value.none, Value.int 185 0, Value.int 1 0, Value.str (Str.ofString "/claim/cut.py") 186] }
noncomputable def hO14 (_ : Params) : Obj := { cls := Value.type "frame", slots := #[some (Value.ref 13), some (Value.ref 3), some (Value.ref 3), none, some (Value.str (Str.ofString "__main__") 164), none, some (Value.ref 0)] }
noncomputable def hTree (P : Params) : BT := (BT.node (boot_o_0 P) (BT.node (boot_o_1 P) (BT.node (boot_o_3 P) (BT.node (boot_o_7 P) BT.nil BT.nil) (BT.node (hO11 P) BT.nil BT.nil)) (BT.node (boot_o_5 P) (BT.node (boot_o_9 P) BT.nil BT.nil) (BT.node (hO13 P) BT.nil BT.nil))) (BT.node (boot_o_2 P) (BT.node (boot_o_4 P) (BT.node (boot_o_8 P) BT.nil BT.nil) (BT.node (hO12 P) BT.nil BT.nil)) (BT.node (boot_o_6 P) (BT.node (boot_o_10 P) BT.nil BT.nil) (BT.node (hO14 P) BT.nil BT.nil))))
noncomputable def hEnv (p : Program) : Env := { scope := p.main.scope, locals := mainNs, globals := mainNs, cells := [], code := .ref 13, frame := some 14 }
noncomputable abbrev hC (p : Program) : Code := .body (behindTheImports p) (hEnv p)
noncomputable def hSt (w : World) (os : OsState) : SharedT := ⟨hTree w.params, 15, {}, #[], {}, 187, os⟩
abbrev hPos : Pos := ⟨0, 0, 0, 0⟩
noncomputable abbrev hThr (p : Program) : Thread := piecesOf (behindTheImports p) (hEnv p) (hC p) hPos [topFrame hPos]
noncomputable abbrev hRun (p : Program) (n : Nat) (w : World) (os : OsState) : Option (Flow × SharedT × Code × Pos) := PySem.W.Fast.tw10110043849684766642 PySem.W.Fast.tw14364793385576792824 p w 11 (some (.ref 6)) 1 n (hSt w os) (hThr p)
theorem hFin {p : Program} {w : World} {n₀ : Nat} {ann : Option Value} (s : Shared) (c : Code) (pos : Pos) : topRun treeTable p w n₀ ann 2 s ⟨doneF .next, c, pos, [topFrame hPos]⟩ = some s := by
  obtain ⟨h, g, d, t, o⟩ := s
  kernel_rfl
theorem hSize (P : Params) : ((boot_heap P).isNs mainGlobals && (#[] : Array GenState).size == 0, (boot_heap P).objs.size, (boot_heap P).nsMap mainGlobals "__annotations__") = (true, 11, some (.ref 6)) := by kernel_rfl
theorem left_of {p q : Program} {loose : List Str} {Xt : Shared → Bool} {α : Type} {Yf : Shared → α} {Ya : World → α} {N n : Nat} {g0 : Bool} {posE : Pos}
    (e : opening p = plainProg p.main.scope.names) (hN : Nat.ble 600 N = true) (f : ∀ s, fenceModules? p s = some s) (le : Nat.ble (12 + (1 + (n + 2))) N = true)
    (pre : ∀ (w : World) (os : OsState), topGo treeTable p w 11 (some (.ref 6)) 12 ⟨boot_heap w.params, #[], boot_drawn, boot_toks, os⟩ (topStub p) = some ((hSt w os).abs, ⟨denote treeTable (hC p), hC p, hPos, [topFrame hPos]⟩))
    (block : ∀ (w : World) (os : OsState), segRun treeTable p w 11 (some (.ref 6)) 1 1 (hSt w os).abs (blockOf (behindTheImports p) (hEnv p) (hC p) hPos [topFrame hPos]) = some (.next, (hSt w os).abs, hC p, hPos))
    (runA : ∀ (w : World) (os : OsState), (hRun p n w os).map (fun r => (r.1, r.2.2, (staticsOk (importedModules p.main.body) (boot_heap w.params) r.2.1.abs.heap && namesBound p r.2.1.abs.heap && gensDone r.2.1.abs && laidKept (boot_heap w.params) r.2.1.abs.heap), openSeen q loose (importedModules p.main.body) Xt g0 r.2.1.abs)) = some (.next, (hC p, posE), true, openGood q loose))
    (runB : ∀ (w : World) (os : OsState), (hRun p n w os).map (fun r => Yf r.2.1.abs) = some (Ya w)) : LeftO p q loose Xt Yf Ya N g0 := by
  intro w
  obtain ⟨⟨h, gs, d, k, os⟩, e1, e'⟩ := Option.map_eq_some_iff.mp (boot_open e hN f w)
  obtain ⟨rfl, rfl, rfl, rfl⟩ : h = boot_heap w.params ∧ gs = #[] ∧ d = boot_drawn ∧ k = boot_toks := by simpa using e'
  obtain ⟨z1, z2, z3⟩ : _ ∧ _ ∧ _ := by simpa only [Prod.mk.injEq] using hSize w.params
  have E : segRunT treeTable p w 11 (some (.ref 6)) 1 n (hSt w os) (hThr p) = hRun p n w os := by
    unfold hRun
    rw [← PySem.W.Fast.te10110043849684766642, ← PySem.W.Fast.te14364793385576792824]
  have A := runA w os
  have B := runB w os
  obtain ⟨⟨fl, x, c, pos⟩, r1, r2⟩ := Option.map_eq_some_iff.mp A
  simp only [Prod.mk.injEq] at r2
  obtain ⟨rfl, ⟨rfl, rfl⟩, l1, l2⟩ := r2
  have yb : Yf x.abs = Ya w := by rw [r1] at B; exact Option.some.inj B
  have s1 := segRun_of (E.trans r1)
  have t1 := piece_app (rest := []) s1 (piece_nil (hFin x.abs _ _))
  rw [List.append_nil] at t1
  have t3 := go_top (pre w os) (piece_block (block w os) t1)
  have r := topRun_mono (N - (12 + (1 + (n + 2)))) _ _ _ _ t3
  rw [show 12 + (1 + (n + 2)) + (N - (12 + (1 + (n + 2)))) = N by have := Nat.le_of_ble_eq_true le; omega] at r
  have t : topFrom treeTable p w N ⟨boot_heap w.params, #[], boot_drawn, boot_toks, os⟩ = some x.abs := by
    unfold topFrom
    dsimp only
    rw [z1, z2, z3, r]
    show (match staticsOk _ _ _ && namesBound _ _ && gensDone _ && laidKept _ _ with | true => _ | false => _) = _
    rw [l1]
  unfold openEnds
  rw [e1]
  change Option.map _ (topFrom treeTable p w N _) = _
  rw [t]
  exact congrArg some (Prod.ext l2 yb)
end My
open PySem PySem.W PyProof.Rows in
set_option maxHeartbeats 0 in
noncomputable def My.parts : My.Parts PySem.Challenge.rw_boughworth_k21_trees_counted.Holds := by
  apply My.Parts.mk
  case c =>
    intro ha hb hW
    w_on; o_law
    apply My.with_hl
    case main =>
      k_head; (case hw => w_witness2)
    case hc => exact hW
    case hl =>
      refine My.left_of (n := 900) (posE := ⟨203, 0, 213, 15⟩) ?e ?hN ?f ?le ?pre ?block ha hb
      case e => kernel_rfl
      case hN => decide
      case f => intro s; kernel_rfl
      case le => decide
      case pre => (intro w os; kernel_rfl)
      case block => (intro w os; kernel_rfl)
  case a => (intro w os; kernel_rfl)
  case b => (intro w os; kernel_rfl)
namespace PySem
section
variable {prog : Program} {w : World} {K K2 : Type} [DecidableEq K] [DecidableEq K2] {knd : KeyKind prog w K} {kn2 : KeyKind prog w K2}
noncomputable def IsPairKey (knd : KeyKind prog w K) (kn2 : KeyKind prog w K2) (h : Heap) (p : List K × K2) (a : Addr) : Prop :=
  ∃ o items n b v, h.get? a = some o ∧ o.cls = .type "tuple" ∧ o.data = .seq items n ∧ items.toList = [.ref b, v] ∧ IsTupleKey knd h p.1 b ∧ kn2.is p.2 v = true
noncomputable def pairHash (knd : KeyKind prog w K) (kn2 : KeyKind prog w K2) (p : List K × K2) : Int := reduceHash (Builtin.Tuple.tupleHashOf [tupleKeyHash knd p.1, kn2.hash p.2])
variable {A : Around} {E : Value → Shared → Prop} {s : Shared}
theorem IsPairKey.typeIs {p : List K × K2} {a : Addr} (x : IsPairKey knd kn2 s.heap p a) : s.TypeIs (.ref a) "tuple" := by
  obtain ⟨o, _, _, _, _, e, c, _⟩ := x
  exact ⟨o, e, c⟩
theorem IsPairKey.inj {h : Heap} {p q : List K × K2} {a : Addr} (x : IsPairKey knd kn2 h p a) (y : IsPairKey knd kn2 h q a) : p = q := by
  obtain ⟨o, i, n, b, v, e, _, d, t, k, m⟩ := x
  obtain ⟨o', i', n', b', v', e', _, d', t', k', m'⟩ := y
  rw [e] at e'; cases e'
  rw [d] at d'; cases d'
  rw [t] at t'
  have h1 : b = b' ∧ v = v' := by simpa using t'
  obtain ⟨rfl, rfl⟩ := h1
  exact Prod.ext (k.inj k') (kn2.inj _ _ _ m m')
theorem IsPairKey.keeps {h h' : Heap} {p : List K × K2} {a d : Addr} {o : Obj} {es ep} (x : IsPairKey knd kn2 h p a) (ho : h.get? d = some o) (hd : o.data = .dict es ep) (hs : Heap.SameBut d h h') : IsPairKey knd kn2 h' p a := by
  obtain ⟨o', i, n, b, v, e, c, dt, t, k, m⟩ := x
  refine ⟨o', i, n, b, v, ?_, c, dt, t, k.keeps ho hd hs, m⟩
  have ne : a ≠ d := fun z => by
    subst z
    rw [ho] at e; cases e
    rw [hd] at dt; cases dt
  rw [← e]
  exact hs.2 a ne
theorem wpAny_pyHash_pair {p : List K × K2} {a : Addr} {Q : Int → Shared → Prop} (hu : A.units + 8 < cLine) (hk : IsPairKey knd kn2 s.heap p a) (h : Q (pairHash knd kn2 p) { s with toks := s.toks + (p.1.length + 1 + 1 + 1) }) :
    wpAny (model prog w) A (pyHash (.ref a)) Q E s := by
  have hT := hk.typeIs
  obtain ⟨o, items, n, b, v, ho, _, hd, hi, hb, hv⟩ := hk
  unfold pyHash
  first | unfold pyHashByItsType | skip
  first | refine wpAny_bind (wpAny_cRoomFor_or (.inr (by lia)) ?_) | skip
  refine wpAny_bind (wpAny_specialOf hT F.slot_tuple_hash.lookup ?_)
  show wpAny _ _ (if (some (Value.builtin "tuple.__hash__") == some Value.none) = true then _ else _) Q E s
  rw [if_neg (by rw [beq_builtin_none]; exact Bool.false_ne_true)]
  refine wpAny_bind (wpAny_specialOf hT F.slot_tuple_hash.lookup ?_)
  show wpAny _ _ (callSpecialIfBoundUnlessNone? (.ref a) "__hash__" _ >>= _) Q E s
  refine wpAny_bind (wpAny_callSpecialIfBoundUnlessNone?_slot hT F.slot_tuple_hash (wpAny_call_entry F.slot_tuple_hash hT F.entry_tuple_hash ?_ (F.args_tuple_hash_1 _)))
  show wpAny _ _ (Builtin.Tuple.tupleItemsOf (.ref a) >>= _) _ _ s
  refine wpAny_bind (wpAny_tupleItemsOf ho hd ?_)
  refine wpAny_bind ?_
  rw [← Array.forIn_toList, hi, List.forIn_cons]
  refine wpAny_bind (wpAny_bind (wpAny_pyHash_tuple (by show _ < cLine; simp; lia) hb ?_))
  refine wpAny_pure ?_
  show wpAny _ _ (forIn [v] #[tupleKeyHash knd p.1] _) _ _ _
  rw [List.forIn_cons]
  refine wpAny_bind (wpAny_bind (kn2.pyHash hv ?_))
  refine wpAny_pure ?_
  show wpAny _ _ (forIn [] _ _) _ _ _
  rw [List.forIn_nil]
  refine wpAny_pure ?_
  show wpAny _ _ (retInt (Builtin.Tuple.tupleHashOf [tupleKeyHash knd p.1, kn2.hash p.2])) _ _ _
  refine wpAny_ret_mkInt ?_
  generalize hz : Builtin.Tuple.tupleHashOf [tupleKeyHash knd p.1, kn2.hash p.2] = z
  show wpAny _ _ (if (decide (-(2 : Int) ^ 63 ≤ z) && decide (z < 2 ^ 63)) = true then _ else _) Q E _
  unfold pairHash reduceHash at h
  rw [hz] at h
  by_cases hr : (decide (-(2 : Int) ^ 63 ≤ z) && decide (z < 2 ^ 63)) = true
  · rw [if_pos hr]
    rw [if_pos hr] at h
    exact wpAny_pure (by simpa [Nat.add_assoc] using h)
  · rw [if_neg hr]
    rw [if_neg hr] at h
    exact wpAny_bind (wpAny_rule (wpAny_pure (by simpa [Nat.add_assoc] using h)))
theorem quiet_tuple (m : Nat) {ks : List K} {a : Addr} {Q : Bool → Shared → Prop} (hk : IsTupleKey knd s.heap ks a) (h : Q true s) : wpAny (model prog w) A (eqIsQuiet (m + 1) (.ref a)) Q E s := by
  have hT := hk.typeIs
  obtain ⟨o, items, n, ho, _, hd, hi⟩ := hk
  unfold eqIsQuiet
  refine wpAny_bind (wpAny_specialOf hT F.slot_tuple_eq.lookup ?_)
  show wpAny _ _ (isInstance (.ref a) (.type "tuple") >>= _) _ _ s
  refine wpAny_bind (wpAny_isInstance hT isSubtype_tuple_tuple ?_)
  simp only [Bool.not_true, Bool.false_eq_true, if_false]
  refine wpAny_bind (wpAny_seqItems ho hd (wpAny_bind ?_))
  show wpAny _ _ (forIn items _ _) _ _ s
  rw [← Array.forIn_toList]
  refine wpAny_forIn_list _ (fun rest r s' => r.1 = none ∧ s' = s ∧ ∀ v ∈ rest, carriedByValue v = true) _ ?_ ?_ _ _ ⟨rfl, rfl, hi.byValue⟩
  · rintro v rest r s' ⟨hr, rfl, hall⟩
    rw [eqIsQuiet_byValue _ (hall v List.mem_cons_self)]
    refine wpAny_bind (wpAny_pure ?_)
    simp only [Bool.not_true, Bool.false_eq_true, if_false]
    exact wpAny_pure ⟨rfl, rfl, fun u hu' => hall u (List.mem_cons_of_mem _ hu')⟩
  · rintro ⟨r1, r2⟩ s' ⟨hr, rfl, _⟩
    simp only at hr
    subst hr
    exact wpAny_pure h
theorem wpAny_eqIsQuiet_pair {p : List K × K2} {a : Addr} {Q : Bool → Shared → Prop} (hk : IsPairKey knd kn2 s.heap p a) (h : Q true s) : wpAny (model prog w) A (eqIsQuiet 8 (.ref a)) Q E s := by
  have hT := hk.typeIs
  obtain ⟨o, items, n, b, v, ho, _, hd, hi, hb, hv⟩ := hk
  unfold eqIsQuiet
  refine wpAny_bind (wpAny_specialOf hT F.slot_tuple_eq.lookup ?_)
  show wpAny _ _ (isInstance (.ref a) (.type "tuple") >>= _) _ _ s
  refine wpAny_bind (wpAny_isInstance hT isSubtype_tuple_tuple ?_)
  simp only [Bool.not_true, Bool.false_eq_true, if_false]
  refine wpAny_bind (wpAny_seqItems ho hd ?_)
  refine wpAny_bind ?_
  show wpAny _ _ (forIn items _ _) _ _ s
  rw [← Array.forIn_toList, hi, List.forIn_cons]
  refine wpAny_bind (wpAny_bind (quiet_tuple 6 hb ?_))
  simp only [Bool.not_true, Bool.false_eq_true, if_false]
  refine wpAny_pure ?_
  show wpAny _ _ (forIn [v] (none, ()) _) _ _ _
  rw [List.forIn_cons, eqIsQuiet_byValue _ (kn2.byValue _ _ hv)]
  refine wpAny_bind (wpAny_bind (wpAny_pure ?_))
  simp only [Bool.not_true, Bool.false_eq_true, if_false]
  refine wpAny_pure ?_
  show wpAny _ _ (forIn [] _ _) _ _ _
  rw [List.forIn_nil]
  exact wpAny_pure (wpAny_pure h)
theorem pair_eq_tree {p q : List K × K2} {a b : Addr} {R : Fin → Shared → Prop} (hu : A.units + 4 < cLine) (hx : IsPairKey knd kn2 s.heap p a) (hy : IsPairKey knd kn2 s.heap q b) (h : R (.done (.ret (.bool (decide (p = q))))) s) :
    wpAny (model prog w) A (Builtin.«tuple.__eq__» ⟨[.ref a, .ref b], []⟩) R E s := by
  have hTb := hy.typeIs
  obtain ⟨oa, xs, na, a1, v1, hoa, _, hda, hia, hka, hva⟩ := hx
  obtain ⟨ob, ys, nb, b1, v2, hob, _, hdb, hib, hkb, hvb⟩ := hy
  show wpAny _ _ (isInstance (.ref b) (.type "tuple") >>= _) _ _ s
  refine wpAny_bind (wpAny_isInstance hTb isSubtype_tuple_tuple ?_)
  simp only [Bool.not_true, Bool.false_eq_true, if_false]
  refine wpAny_bind (wpAny_tupleItemsOf hoa hda (wpAny_bind (wpAny_tupleItemsOf hob hdb (wpAny_bind ?_))))
  have hs : xs.size = ys.size := by rw [← Array.length_toList, ← Array.length_toList, hia, hib]; rfl
  rw [hia, hib]
  show wpAny _ _ (forIn [(Value.ref a1, Value.ref b1), (v1, v2)] (none, ()) _) _ _ _
  rw [List.forIn_cons]
  refine wpAny_bind (wpAny_bind (wpAny_eqBool_tuple (by lia) hka hkb ?_))
  by_cases h1 : p.1 = q.1
  · rw [decide_eq_true h1]
    simp only [Bool.not_true, Bool.false_eq_true, if_false]
    refine wpAny_pure ?_
    show wpAny _ _ (forIn [(v1, v2)] (none, ()) _) _ _ _
    rw [List.forIn_cons]
    refine wpAny_bind (wpAny_bind (kn2.eqBool (a := p.2) (b := q.2) hva hvb ?_))
    by_cases h2 : p.2 = q.2
    · rw [decide_eq_true h2]
      simp only [Bool.not_true, Bool.false_eq_true, if_false]
      refine wpAny_pure ?_
      show wpAny _ _ (forIn [] _ _) _ _ _
      rw [List.forIn_nil]
      rw [decide_eq_true (Prod.ext h1 h2)] at h
      refine wpAny_pure (wpAny_pure ?_)
      show R (.done (.ret (.bool (xs.size == ys.size)))) s
      rw [hs, beq_self_eq_true]
      exact h
    · rw [decide_eq_false h2]
      simp only [Bool.not_false, if_true]
      rw [decide_eq_false fun e => h2 (congrArg Prod.snd e)] at h
      exact wpAny_bind (wpAny_pure (wpAny_pure (wpAny_pure (wpAny_pure h))))
  · rw [decide_eq_false h1]
    simp only [Bool.not_false, if_true]
    rw [decide_eq_false fun e => h1 (congrArg Prod.fst e)] at h
    exact wpAny_bind (wpAny_pure (wpAny_pure (wpAny_pure (wpAny_pure h))))
theorem wpAny_eqBool_pair {p q : List K × K2} {a b : Addr} {Q : Bool → Shared → Prop} (hu : A.units + 8 < cLine) (hx : IsPairKey knd kn2 s.heap p a) (hy : IsPairKey knd kn2 s.heap q b) (h : Q (decide (p = q)) s) :
    wpAny (model prog w) A (eqBool (.ref a) (.ref b)) Q E s := by
  unfold eqBool
  try with_reducible refine wpAny_holding ?_
  show wpAny _ _ (if (Value.ref a == Value.ref b) = true then _ else _) Q E s
  by_cases hab : (Value.ref a == Value.ref b) = true
  · rw [if_pos hab]
    have e : a = b := by have := eq_of_beq hab; injection this
    subst e
    obtain rfl := hx.inj hy
    exact wpAny_bind (wpAny_rule (wpAny_pure (by simpa using h)))
  · rw [if_neg hab]
    exact wpAny_bind (wpAny_richCompare_same_room (op := .Eq) hx.typeIs hy.typeIs F.slot_tuple_eq
      (wpAny_call_entry F.slot_tuple_eq hx.typeIs F.entry_tuple_eq (pair_eq_tree (by simp; lia) hx hy ⟨_, rfl, (fun e => nomatch e), wpAny_truthy_bool h⟩) (F.args_tuple_eq_2 _ _)) (by lia))
end
noncomputable def pairKind {prog : Program} {w : World} {K K2 : Type} [DecidableEq K] [DecidableEq K2] (knd : KeyKind prog w K) (kn2 : KeyKind prog w K2) : HeapKind prog w (List K × K2) where
  is := IsPairKey knd kn2
  hash := pairHash knd kn2
  draws := fun p => p.1.length + 1 + 1 + 1
  room := fun A => A.units + 8 < cLine
  inj := fun hx hy => hx.inj hy
  keeps := fun x ho hd hs => x.keeps ho hd hs
  pyHash := fun hu hk h => wpAny_pyHash_pair hu hk h
  eqBool := fun hu hx hy h => wpAny_eqBool_pair hu hx hy h
  quiet := fun hk h => wpAny_eqIsQuiet_pair hk h
end PySem
namespace L2
open PySem PySem.Spec PyProof.Rows
noncomputable abbrev Key := Sum Int Str
noncomputable def keyIs : Key → Value → Bool
  | .inl k, v => Value.isInt k v
  | .inr x, v => Value.isStrOf x v
noncomputable def keyH (w : World) : Key → Int
  | .inl k => hashInt k
  | .inr x => hashStr w x
theorem keyIs_shape : ∀ {k : Key} {v : Value}, keyIs k v = true → (∃ i t, k = Sum.inl i ∧ v = Value.int i t) ∨ (∃ x t, k = Sum.inr x ∧ v = Value.str x t)
  | .inl i, v, h => by
    obtain ⟨t, e⟩ := Value.isInt_shape (k := i) (v := v) h
    exact .inl ⟨i, t, rfl, e⟩
  | .inr x, v, h => by
    obtain ⟨t, e⟩ := Value.isStrOf_shape (x := x) (v := v) h
    exact .inr ⟨x, t, rfl, e⟩
theorem keyIs_int (i : Int) (t : Tok) : keyIs (.inl i) (.int i t) = true := by simp [keyIs, Value.isInt]
theorem keyIs_str (x : Str) (t : Tok) : keyIs (.inr x) (.str x t) = true := by simp [keyIs, Value.isStrOf]
theorem key_ll (a b : Int) : decide ((Sum.inl a : Key) = Sum.inl b) = (a == b) := by
  by_cases e : a = b
  · subst e; simp
  · have h : ¬ (Sum.inl a : Key) = Sum.inl b := fun q => e (Sum.inl.inj q)
    rw [decide_eq_false h]
    exact (beq_eq_false_iff_ne.mpr e).symm
theorem key_rr (a b : Str) : decide ((Sum.inr a : Key) = Sum.inr b) = decide (a = b) := by
  by_cases e : a = b
  · subst e; simp
  · have h : ¬ (Sum.inr a : Key) = Sum.inr b := fun q => e (Sum.inr.inj q)
    rw [decide_eq_false h, decide_eq_false e]
theorem key_lr (a : Int) (b : Str) : decide ((Sum.inl a : Key) = Sum.inr b) = false := decide_eq_false (fun q => nomatch q)
theorem key_rl (a : Str) (b : Int) : decide ((Sum.inr a : Key) = Sum.inl b) = false := decide_eq_false (fun q => nomatch q)
noncomputable def mixKind (prog : Program) (w : World) : PySem.KeyKind prog w Key where
  is := keyIs
  hash := keyH w
  inj := fun v a b ha hb => by
    rcases keyIs_shape ha with ⟨i, t, rfl, rfl⟩ | ⟨x, t, rfl, rfl⟩
    · rcases keyIs_shape hb with ⟨j, u, rfl, e⟩ | ⟨y, u, rfl, e⟩
      · injection e with e1 _; rw [e1]
      · exact nomatch e
    · rcases keyIs_shape hb with ⟨j, u, rfl, e⟩ | ⟨y, u, rfl, e⟩
      · exact nomatch e
      · injection e with e1 _; rw [e1]
  byValue := fun k v h => by
    rcases keyIs_shape h with ⟨i, t, rfl, rfl⟩ | ⟨x, t, rfl, rfl⟩ <;> rfl
  pyHash := fun hv h => by
    rcases keyIs_shape hv with ⟨i, t, rfl, rfl⟩ | ⟨x, t, rfl, rfl⟩
    · exact wpAny_pyHash_int h
    · exact wpAny_pyHash_str h
  eqBool := fun hu hv h => by
    rcases keyIs_shape hu with ⟨i, t, rfl, rfl⟩ | ⟨x, t, rfl, rfl⟩
    · rcases keyIs_shape hv with ⟨j, u, rfl, rfl⟩ | ⟨y, u, rfl, rfl⟩
      · rw [key_ll] at h; exact wpAny_eqBool_int h
      · rw [key_lr] at h; exact SeqAt.EqAt.int_str i t y u _ _ _ _ h
    · rcases keyIs_shape hv with ⟨j, u, rfl, rfl⟩ | ⟨y, u, rfl, rfl⟩
      · rw [key_rl] at h; exact SeqAt.EqAt.str_int x t j u _ _ _ _ h
      · rw [key_rr] at h; exact wpAny_eqBool_str h
  «strs» := fun k x t v h => by
    rcases keyIs_shape h with ⟨i, u, rfl, e⟩ | ⟨y, u, rfl, e⟩
    · exact nomatch e
    · injection e with e1 _
      subst e1
      cases v <;> rfl
theorem mixKind_int (prog : Program) (w : World) (i : Int) (t : Tok) : (mixKind prog w).is (.inl i) (.int i t) = true := keyIs_int i t
theorem mixKind_str (prog : Program) (w : World) (x : Str) (t : Tok) : (mixKind prog w).is (.inr x) (.str x t) = true := keyIs_str x t
end L2
namespace L2
open PySem PySem.Spec PyProof.Rows
inductive V where
  | non | bl (b : Bool) | int (i : Int) | str (x : Str) | byt (b : Array UInt8) | flt (b : UInt64) | ref (a : Addr) | ty (n : String)
  deriving DecidableEq
noncomputable def RelV : V → Value → Prop
  | .non, u => u = Value.none
  | .bl b, u => u = Value.bool b
  | .int i, u => ∃ t, u = Value.int i t
  | .str x, u => ∃ t, u = Value.str x t
  | .byt b, u => ∃ t, u = Value.bytes b t
  | .flt b, u => ∃ t, u = Value.float b t
  | .ref a, u => u = Value.ref a
  | .ty n, u => u = Value.type n
noncomputable abbrev Vals : List V → List Value → Prop := Paired RelV
theorem Vals.length {xs : List V} {us : List Value} (r : Vals xs us) : xs.length = us.length := Paired.length r
theorem Vals.get : ∀ {xs : List V} {us : List Value} {i : Nat} {x : V}, Vals xs us → xs[i]? = some x → ∃ u, us[i]? = some u ∧ RelV x u
  | _, _, _, _, .nil, e => by simp at e
  | _, _, 0, _, .cons r _, e => by simp at e; subst e; exact ⟨_, rfl, r⟩
  | _, _, i + 1, x, .cons _ t, e => by
    obtain ⟨u, h1, h2⟩ := Vals.get (i := i) (x := x) t (by simpa using e)
    exact ⟨u, by simpa using h1, h2⟩
theorem Vals.set {x : V} {u : Value} (r : RelV x u) : ∀ {xs : List V} {us : List Value} (i : Nat), Vals xs us → Vals (xs.set i x) (us.set i u)
  | _, _, _, .nil => .nil
  | _, _, 0, .cons _ t => .cons r t
  | _, _, i + 1, .cons q t => .cons q (Vals.set r i t)
theorem Vals.append : ∀ {xs ys : List V} {us ws : List Value}, Vals xs us → Vals ys ws → Vals (xs ++ ys) (us ++ ws)
  | _, _, _, _, .nil, s => s
  | _, _, _, _, .cons r t, s => .cons r (Vals.append t s)
theorem Vals.take : ∀ {xs : List V} {us : List Value} (n : Nat), Vals xs us → Vals (xs.take n) (us.take n)
  | _, _, 0, _ => .nil
  | _, _, _ + 1, .nil => .nil
  | _, _, n + 1, .cons r t => .cons r (Vals.take n t)
theorem Vals.drop : ∀ {xs : List V} {us : List Value} (n : Nat), Vals xs us → Vals (xs.drop n) (us.drop n)
  | _, _, 0, r => r
  | _, _, _ + 1, .nil => .nil
  | _, _, n + 1, .cons _ t => Vals.drop n t
theorem Vals.none_of : ∀ {xs : List V} {us : List Value} {i : Nat}, Vals xs us → xs[i]? = none → us[i]? = none := fun {xs us i} r e => by
  have h1 := r.length
  have h2 : xs.length ≤ i := List.getElem?_eq_none_iff.mp e
  exact List.getElem?_eq_none_iff.mpr (by lia)
noncomputable def RelO : Option V → Option Value → Prop
  | some v, some u => RelV v u
  | none, none => True
  | _, _ => False
noncomputable def KV {κ : Type} : List (κ × V) → List (κ × Value) → Prop := Paired fun (p : κ × V) (q : κ × Value) => p.1 = q.1 ∧ RelV p.2 q.2
noncomputable def kV : Key → V
  | .inl i => .int i
  | .inr x => .str x
inductive HO where
  /-- a list -/
  | lst (xs : List V)
  /-- a tuple (never changes) -/
  | tup (xs : List V)
  /-- a dict whose keys are ints and texts; one whose keys are tuples of ints and texts (the empty one is both) -/
  | dK (kvs : List (Key × V)) | dT (kvs : List (List Key × V)) | dP (kvs : List ((List Key × Key) × V))
  /-- a set of ints: its members, its size -/
  | set (S : Int → Bool) (n : Nat)
  /-- an instance of the class at C, its dict at dx, its attributes -/
  | ins (C dx : Addr) (fs : List (Str × V))
  /-- the dict of the instance at x -/
  | own (x : Addr)
  /-- the dict of an exception -/
  | xd (fs : List (Str × V))
  /-- a bound method, f of x -/
  | met (f x : Addr)
  /-- a range object lo, lo + 1, .. below hi -/
  | rng (lo hi : Int)
  /-- a thing that is known to the object (the script; a dict while a loop walks it): read, never written while it is so -/
  | frz (o : Obj) (u : HO)
  /-- a code object's table -/
  | tbl (ps : Array Value)
  /-- any other thing, by what is true of its one object (a def of one's own: SetO a S n := HO.ext fun h => ..) -/
  | ext (φ : Heap → Prop)
noncomputable abbrev Hp := Addr → Option HO
noncomputable def upd (H : Hp) (a : Addr) (o : HO) : Hp := fun b => if b = a then some o else H b
theorem upd_same {H : Hp} {a : Addr} {o : HO} : upd H a o a = some o := by unfold upd; rw [if_pos rfl]
theorem upd_ne {H : Hp} {a b : Addr} {o : HO} (h : b ≠ a) : upd H a o b = H b := by unfold upd; rw [if_neg h]
theorem upd_upd {H : Hp} {a : Addr} {o u : HO} : upd (upd H a o) a u = upd H a u := by
  funext b; unfold upd; split <;> rfl
theorem ne_of {H : Hp} {a b : Addr} {o u : HO} (h : H a = some o) (h' : H b = some u) (d : o ≠ u) : a ≠ b := by
  intro e; subst e; rw [h] at h'; exact d (Option.some.inj h')
theorem ne_of_none {H : Hp} {a b : Addr} {o : HO} (h : H a = some o) (h' : H b = none) : a ≠ b := by
  intro e; subst e; rw [h] at h'; cases h'
section
variable (P : Program) (w : World)
noncomputable def ObjOk (H : Hp) (h : Heap) (a : Addr) : HO → Prop
  | .lst xs => xs.length ≤ sizeLine ∧ ∃ (its : List Value) (n : Nat), Vals xs its ∧ h.get? a = some { cls := .type "list", data := .seq its.toArray n }
  | .tup xs => xs.length ≤ sizeLine ∧ ∃ its : List Value, Vals xs its ∧ IsTup h a its.toArray
  | .dK kvs => kvs.length ≤ sizeLine ∧ (a == sysModules) = false ∧ ∃ vs, KV kvs vs ∧ h.DictOf (mixKind P w) a vs
  | .dT kvs => kvs.length ≤ sizeLine ∧ (a == sysModules) = false ∧ ∃ xs : List (List Key × Addr × Value),
      Paired (fun (p : List Key × V) (q : List Key × Addr × Value) => p.1 = q.1 ∧ H q.2.1 = some (.tup (p.1.map kV)) ∧ RelV p.2 q.2.2) kvs xs ∧
      ∃ o es ep, h.get? a = some o ∧ o.ExactDict ∧ o.data = .dict es ep ∧ es.toList = xs.map (entryOfKey (tupleKind (mixKind P w))) ∧ (xs.map (·.1)).Nodup
  | .dP kvs => kvs.length ≤ sizeLine ∧ (a == sysModules) = false ∧ ∃ xs : List ((List Key × Key) × Addr × Value),
      Paired (fun (p : (List Key × Key) × V) (q : (List Key × Key) × Addr × Value) => p.1 = q.1 ∧ (∃ b, H q.2.1 = some (.tup [.ref b, kV p.1.2]) ∧ H b = some (.tup (p.1.1.map kV))) ∧ RelV p.2 q.2.2) kvs xs ∧
      ∃ o es ep, h.get? a = some o ∧ o.ExactDict ∧ o.data = .dict es ep ∧ es.toList = xs.map (entryOfKey (pairKind (mixKind P w) (mixKind P w))) ∧ (xs.map (·.1)).Nodup
  | .set S n => h.SetOf (intKind P w) a S n
  | .ins C dx fs => H dx = some (.own a) ∧ fs.length ≤ 1000 ∧ dx ≠ a ∧ h.get? a = some (PySem.W.instObj C dx) ∧
      ∃ mA, h.Ns1 dx mA ∧ (∀ f, RelO (fs.lookup f) (mA f)) ∧ PySem.Within mA (fs.map (·.1))
  | .own _ => ∃ o, h.get? a = some o
  | .xd fs => ∃ mA, h.Ns1 a mA ∧ ∀ f, RelO (fs.lookup f) (mA f)
  | .rng lo hi => ∃ t u v, h.get? a = some { cls := .type "range", data := .fields #[.int lo t, .int hi u, .int 1 v] }
  | .frz o u => h.get? a = some o ∧ ObjOk H h a u
  | .tbl ps => h.get? a = some { cls := .none, data := .fields ps }
  | .met f x => h.get? a = some (PySem.W.methodObj (.ref f) (.ref x))
  | .ext φ => φ h ∧ (∃ o, h.get? a = some o) ∧ ∀ h1 h2 : Heap, φ h1 → (∀ o, h1.get? a = some o → h2.get? a = some o) → φ h2
noncomputable def HOk (H : Hp) (h : Heap) : Prop := ∀ a o, H a = some o → ObjOk P w H h a o
end
section
variable {P : Program} {w : World} {H H' : Hp} {h h' : Heap} {a : Addr} {o : HO}
theorem ObjOk.lt (x : ObjOk P w H h a o) : a < h.objs.size := by
  cases o with
  | lst xs => obtain ⟨_, _, _, _, e⟩ := x; exact Heap.lt_size e
  | tup xs => obtain ⟨_, _, _, p⟩ := x; exact p.lt
  | dK kvs => obtain ⟨_, _, _, _, o, _, _, e, _⟩ := x; exact Heap.lt_size e
  | dT kvs => obtain ⟨_, _, _, _, o, _, _, e, _⟩ := x; exact Heap.lt_size e
  | dP kvs => obtain ⟨_, _, _, _, o, _, _, e, _⟩ := x; exact Heap.lt_size e
  | set S n => obtain ⟨o, _, _, _, e, _⟩ := x; exact Heap.lt_size e
  | ins C dx fs => obtain ⟨_, _, _, e, _⟩ := x; exact Heap.lt_size e
  | own y => obtain ⟨_, e⟩ := x; exact Heap.lt_size e
  | xd fs => obtain ⟨_, ⟨_, _, _, e, _⟩, _⟩ := x; exact Heap.lt_size e
  | rng lo hi => obtain ⟨_, _, _, e⟩ := x; exact Heap.lt_size e
  | frz ob u => obtain ⟨e, _⟩ := x; exact Heap.lt_size e
  | tbl ps => exact Heap.lt_size (show h.get? a = some _ from x)
  | met f y => exact Heap.lt_size (show h.get? a = some _ from x)
  | ext φ => obtain ⟨_, ⟨_, e⟩, _⟩ := x; exact Heap.lt_size e
theorem Paired.mapP {α β : Type} {F G : α → β → Prop} : ∀ {l₁ : List α} {l₂ : List β}, Paired F l₁ l₂ → (∀ a b, F a b → G a b) → Paired G l₁ l₂
  | _, _, .nil, _ => .nil
  | _, _, .cons r t, f => .cons (f _ _ r) (Paired.mapP t f)
theorem ObjOk.stay (x : ObjOk P w H h a o) (k : ∀ b u, (b = a ∨ H b = some (.own a)) → h.get? b = some u → h'.get? b = some u)
    (ho : ∀ b, H b = some (.own a) → H' b = some (.own a)) (ht : ∀ b xs, H b = some (.tup xs) → H' b = some (.tup xs)) : ObjOk P w H' h' a o := by
  induction o with
  | lst xs => obtain ⟨z, its, n, r, e⟩ := x; exact ⟨z, its, n, r, k _ _ (.inl rfl) e⟩
  | tup xs => obtain ⟨z, its, r, ob, e, c⟩ := x; exact ⟨z, its, r, ob, k _ _ (.inl rfl) e, c⟩
  | dK kvs => obtain ⟨z, y, vs, r, ob, es, ep, e, c⟩ := x; exact ⟨z, y, vs, r, ob, es, ep, k _ _ (.inl rfl) e, c⟩
  | dT kvs =>
    obtain ⟨z, y, xs, r, ob, es, ep, e, c⟩ := x
    exact ⟨z, y, xs, Paired.mapP r fun p q z => ⟨z.1, ht _ _ z.2.1, z.2.2⟩, ob, es, ep, k _ _ (.inl rfl) e, c⟩
  | dP kvs =>
    obtain ⟨z, y, xs, r, ob, es, ep, e, c⟩ := x
    exact ⟨z, y, xs, Paired.mapP r fun p q z => ⟨z.1, let ⟨b, e1, e2⟩ := z.2.1; ⟨b, ht _ _ e1, ht _ _ e2⟩, z.2.2⟩, ob, es, ep, k _ _ (.inl rfl) e, c⟩
  | set S n => obtain ⟨ob, es, ep, t, e, c⟩ := x; exact ⟨ob, es, ep, t, k _ _ (.inl rfl) e, c⟩
  | ins C dx fs =>
    obtain ⟨d, z, ne, e, mA, ⟨od, es, ep, e2, c⟩, r⟩ := x
    exact ⟨ho _ d, z, ne, k _ _ (.inl rfl) e, mA, ⟨od, es, ep, k _ _ (.inr d) e2, c⟩, r⟩
  | own y => obtain ⟨ob, e⟩ := x; exact ⟨ob, k _ _ (.inl rfl) e⟩
  | xd fs => obtain ⟨mA, ⟨od, es, ep, e, c⟩, r⟩ := x; exact ⟨mA, ⟨od, es, ep, k _ _ (.inl rfl) e, c⟩, r⟩
  | rng lo hi => obtain ⟨t, u, v, e⟩ := x; exact ⟨t, u, v, k _ _ (.inl rfl) e⟩
  | frz ob u ih => obtain ⟨e, q⟩ := x; exact ⟨k _ _ (.inl rfl) e, ih q⟩
  | tbl ps =>
    have e : h.get? a = some { cls := .none, data := .fields ps } := x
    show h'.get? a = some { cls := .none, data := .fields ps }
    exact k a _ (.inl rfl) e
  | met f y =>
    have e : h.get? a = some (PySem.W.methodObj (.ref f) (.ref y)) := x
    show h'.get? a = some (PySem.W.methodObj (.ref f) (.ref y))
    exact k a _ (.inl rfl) e
  | ext φ => obtain ⟨p, ⟨o, e⟩, st⟩ := x; exact ⟨st _ _ p fun o q => k _ _ (.inl rfl) q, ⟨o, k _ _ (.inl rfl) e⟩, st⟩
theorem HOk.lt (x : HOk P w H h) (e : H a = some o) : a < h.objs.size := (x a o e).lt
theorem HOk.fresh (x : HOk P w H h) (e : h.objs.size ≤ a) : H a = none := by
  cases q : H a with
  | none => rfl
  | some u => exact absurd (Nat.lt_of_lt_of_le (x.lt q) e) (Nat.lt_irrefl _)
theorem HOk.kept (x : HOk P w H h) (k : ∀ b u, h.get? b = some u → h'.get? b = some u) : HOk P w H h' := fun a o e =>
  (x a o e).stay (fun b u _ q => k b u q) (fun _ q => q) fun _ _ q => q
theorem HOk.laid (x : HOk P w H h) (k : ∀ b u, h.get? b = some u → h'.get? b = some u) (hp : h.objs.size ≤ a) (new : ObjOk P w (upd H a o) h' a o) : HOk P w (upd H a o) h' := fun b u e => by
  have hn := x.fresh hp
  by_cases hb : b = a
  · subst hb; rw [upd_same] at e; cases e; exact new
  · rw [upd_ne hb] at e
    exact (x b u e).stay (fun c v _ q => k c v q) (fun c q => by rw [upd_ne (ne_of_none q hn)]; exact q) fun c xs q => by rw [upd_ne (ne_of_none q hn)]; exact q
end
noncomputable def Rd (H : Hp) (a : Addr) (u : HO) : Prop := H a = some u ∨ ∃ o, H a = some (.frz o u)
theorem Rd.ok {P : Program} {w : World} {H : Hp} {h : Heap} {a : Addr} {u : HO} (r : Rd H a u) (x : HOk P w H h) : ObjOk P w H h a u := by
  rcases r with r | ⟨o, r⟩
  · exact x a u r
  · obtain ⟨_, q⟩ := x a _ r
    exact q
noncomputable def Mut : Option HO → Prop
  | some (.lst _) => True
  | some (.dK _) => True
  | some (.dT _) => True
  | some (.dP _) => True
  | some (.set _ _) => True
  | some (.ins _ _ _) => True
  | some (.ext _) => True
  | _ => False
section
variable {P : Program} {w : World} {H : Hp} {h h' : Heap} {x e : Addr} {o' : HO}
theorem HOk.write (ok : HOk P w H h) (mu : Mut (H x)) (he : e = x ∨ H e = some (.own x)) (k : ∀ b u, b ≠ e → h.get? b = some u → h'.get? b = some u) (heo : ∃ u, h'.get? e = some u)
    (new : ObjOk P w (upd H x o') h' x o') : HOk P w (upd H x o') h' := fun b u q => by
  have nown : ∀ c y, H c = some (.own y) → c ≠ x := fun c y r z => by subst z; rw [r] at mu; exact mu
  have ntup : ∀ c xs, H c = some (.tup xs) → c ≠ x := fun c xs r z => by subst z; rw [r] at mu; exact mu
  by_cases hb : b = x
  · subst hb; rw [upd_same] at q; cases q; exact new
  · rw [upd_ne hb] at q
    by_cases hbe : b = e
    · have q' : H b = some (.own x) := by
        rcases he with z | z
        · exact absurd (hbe.trans z) hb
        · rw [hbe]; exact z
      rw [q] at q'; cases q'
      obtain ⟨v, hv⟩ := heo
      exact ⟨v, by rw [hbe]; exact hv⟩
    · refine (ok b u q).stay (fun c v hc r => k c v ?_ r) (fun c r => by rw [upd_ne (nown c b r)]; exact r) fun c xs r => by rw [upd_ne (ntup c xs r)]; exact r
      rcases hc with rfl | hc
      · exact hbe
      · rintro rfl
        rcases he with z | z
        · exact nown c b hc z
        · rw [hc] at z; cases z; exact hb rfl
end
structure Un (fs ex : List Addr) (H H' : Hp) (h h' : Heap) : Prop where
  keep : ∀ b o, h.get? b = some o → H b = none → b ∉ fs → b ∉ ex → h'.get? b = some o
  slot : ∀ b o, h.get? b = some o → H b = none → b ∈ fs → b ∉ ex → ∃ sl, h'.get? b = some { o with slots := sl }
  free : ∀ b o, h.get? b = some o → H b = none → b ∉ ex → H' b = none
  there : ∀ b o, h.get? b = some o → b ∉ ex → ∃ o', h'.get? b = some o'
  tups : ∀ b xs, H b = some (.tup xs) → H' b = some (.tup xs)
  frzs : ∀ b o u, H b = some (.frz o u) → H' b = some (.frz o u)
  tbls : ∀ b ps, H b = some (.tbl ps) → ∃ more, H' b = some (.tbl (ps ++ more))
section
variable {fs fs' ex ex' : List Addr} {H H1 H2 : Hp} {h h1 h2 h' : Heap} {a x e : Addr} {o : HO}
theorem Un.any (u : Un fs ex H H1 h h1) {b : Addr} {ob : Obj} (q : h.get? b = some ob) (n : H b = none) (hx : b ∉ ex) : ∃ sl, h1.get? b = some { ob with slots := sl } := by
  by_cases hb : b ∈ fs
  · exact u.slot b ob q n hb hx
  · exact ⟨ob.slots, u.keep b ob q n hb hx⟩
theorem Un.kept (k : ∀ b u, h.get? b = some u → h'.get? b = some u) : Un fs ex H H h h' :=
  ⟨fun b ob q _ _ _ => k b ob q, fun b ob q _ _ _ => ⟨ob.slots, k b ob q⟩, fun _ _ _ n _ => n, fun b ob q _ => ⟨ob, k b ob q⟩, fun _ _ q => q, fun _ _ _ q => q, fun _ ps q => ⟨#[], by rw [q]; simp⟩⟩
theorem Un.refl : Un fs ex H H h h := Un.kept fun _ _ q => q
theorem Un.laid (k : ∀ b u, h.get? b = some u → h'.get? b = some u) (hp : h.objs.size ≤ a) (hn : H a = none) : Un fs ex H (upd H a o) h h' where
  keep := fun b u q _ _ _ => k b u q
  slot := fun b u q _ _ _ => ⟨u.slots, k b u q⟩
  free := fun b u q n _ => by rw [upd_ne (Nat.ne_of_lt (Nat.lt_of_lt_of_le (Heap.lt_size q) hp))]; exact n
  there := fun b u q _ => ⟨u, k b u q⟩
  tups := fun b xs q => by rw [upd_ne (ne_of_none q hn)]; exact q
  frzs := fun b u xs q => by rw [upd_ne (ne_of_none q hn)]; exact q
  tbls := fun b ps q => ⟨#[], by rw [upd_ne (ne_of_none q hn), q]; simp⟩
theorem Un.write (mu : Mut (H x)) (he : e = x ∨ H e = some (.own x)) (k : ∀ b u, b ≠ e → h.get? b = some u → h'.get? b = some u) (heo : ∃ u, h'.get? e = some u) : Un fs ex H (upd H x o) h h' := by
  have hx : ∀ b, H b = none → b ≠ x := fun b n z => by subst z; rw [n] at mu; exact mu
  have hb : ∀ b, H b = none → b ≠ e := fun b n z => by
    subst z
    rcases he with r | r
    · exact hx b n r
    · rw [n] at r; cases r
  have hm : ∀ b u, H b = some u → ¬ Mut (some u) → b ≠ x := fun b u q nm z => by subst z; rw [q] at mu; exact nm mu
  refine ⟨fun b u q n _ _ => k b u (hb b n) q, fun b u q n _ _ => ⟨u.slots, k b u (hb b n) q⟩, fun b u q n _ => by rw [upd_ne (hx b n)]; exact n, fun b u q _ => ?_,
    fun b xs q => by rw [upd_ne (hm b _ q fun z => z)]; exact q, fun b u xs q => by rw [upd_ne (hm b _ q fun z => z)]; exact q, fun b ps q => ⟨#[], by rw [upd_ne (hm b _ q fun z => z), q]; simp⟩⟩
  by_cases hbe : b = e
  · subst hbe; exact heo
  · exact ⟨u, k b u hbe q⟩
end
noncomputable def trk (h : Heap) (H : Hp) : List Addr := (List.range h.objs.size).filter fun a => (H a).isSome
noncomputable def hidT (h : Heap) (H : Hp) : Heap := PySem.W.hideAll h (trk h H)
theorem hidT_size (h : Heap) (H : Hp) : (hidT h H).objs.size = h.objs.size := PySem.W.hideAll_size _ _
theorem hidT_get {h : Heap} {H : Hp} {b : Addr} {o : Obj} (e : h.get? b = some o) (n : H b = none) : (hidT h H).get? b = some o :=
  PySem.W.hideAll_get _ e fun hm => by
    have q : (H b).isSome = true := (List.mem_filter.mp hm).2
    rw [n] at q; simp at q
theorem of_hidT {h : Heap} {H : Hp} {b : Addr} {o : Obj} (e : (hidT h H).get? b = some o) : h.get? b = some o ∧ H b = none := by
  have e' : h.get? b = some o := PySem.W.of_hideAll (trk h H) e
  refine ⟨e', ?_⟩
  cases q : H b with
  | none => rfl
  | some x =>
    have hm : b ∈ trk h H := List.mem_filter.mpr ⟨List.mem_range.mpr (Heap.lt_size e'), by simp [q]⟩
    have z : (hidT h H).get? b = none := PySem.W.hideAll_none (trk h H) hm
    rw [z] at e; cases e
end L2
namespace L2
open PySem PySem.Spec PyProof.Rows
structure Mod (K : PySem.W.Frag) (mg : Str → Option Value) (base : Heap) : Prop where
  kin : K.In base
  glob : base.Ns mainGlobals mg
  blt : ∃ mb, base.Ns builtinsNs mb ∧ ∀ x : Str, x ≠ "__name__" → mb x = bootBuiltins x
  nolimit : base.NoLimit
structure Cx where
  prog : Program
  w : World
  K : PySem.W.Frag
  mg : Str → Option Value
  base : Heap
  A : Around
  N : List Str
  s₀ : Shared
  H₀ : Hp
  env : Env
  outer : List Env
  stack : List Env
  ex : List Addr
  fn : Str → Bool
  calm : Bool
  pn : List (Addr × Obj)
  xe : Value → Shared → Prop
noncomputable def frs (l : List Env) : List Addr := l.filterMap (·.frame)
noncomputable abbrev Cx.fs (X : Cx) : List Addr := frs X.outer
noncomputable def Vis (sc : Scope) (x : Str) : Prop := sc.names.lookup x = some .local ∨ sc.names.lookup x = some .cell ∨ sc.names.lookup x = some .free
noncomputable def Loc (sc : Scope) (x : Str) : Prop := sc.names.lookup x = some .local ∨ sc.names.lookup x = some .cell
noncomputable def Look (env : Env) (h : Heap) (m : Str → Option Value) (x : Str) (u : Value) : Prop :=
  (env.kindOf x = some .local ∧ m x = some u) ∨ ((env.kindOf x = some .cell ∨ env.kindOf x = some .free) ∧ ∃ c, env.cells.lookup x = some c ∧ h.IsCell c (some u))
structure Cx.Ok (X : Cx) : Prop where
  mod : Mod X.K X.mg X.base
  kind : X.env.scope.kind = .function
  glob : X.env.globals = mainGlobals
  blt : X.env.builtins = builtinsNs
  above : X.s₀.heap.objs.size ≤ X.env.locals
  inj : ∀ x y c, X.env.cells.lookup x = some c → X.env.cells.lookup y = some c → x = y
  has : ∀ x, (X.env.kindOf x = some .cell ∨ X.env.kindOf x = some .free) → ∃ c, X.env.cells.lookup x = some c
  cab : ∀ x c, X.fn x = true → X.env.cells.lookup x = some c → X.s₀.heap.objs.size ≤ c
  hd : X.calm = true → X.A.handled = none
  frames : X.A.frames = some X.stack
  stk : X.stack = X.outer ∨ (X.stack = X.env :: X.outer ∧ X.env.frame = some X.env.locals)
  exf : ∀ b ∈ X.ex, b ≠ X.env.locals ∧ ∀ x c, X.env.cells.lookup x = some c → c ≠ b
  bs : ∀ b o, X.base.get? b = some o → X.s₀.heap.get? b = some o ∧ X.H₀ b = none
  bsz : X.base.objs.size ≤ X.s₀.heap.objs.size
  noex : ∀ b o, X.base.get? b = some o → b ∉ X.ex
  exfs : ∀ b ∈ X.ex, b ∉ X.fs
  funs : X.s₀.heap.FunFrames X.base X.outer
  frf : ∀ b ∈ X.fs, X.H₀ b = none
structure Inv (X : Cx) (pins : List (Addr × Obj)) (σ : List (Option V)) (H : Hp) (s : Shared) : Prop where
  ok : X.Ok
  os : s.os = X.s₀.os
  bare : AllBare s.gens
  base : Un X.fs X.ex X.H₀ H X.s₀.heap s.heap
  loc : ∃ m, s.heap.Ns X.env.locals m ∧ ∀ (i : Nat) (x : Str) (v : V), X.N[i]? = some x → σ[i]? = some (some v) → Vis X.env.scope x → ∃ u, RelV v u ∧ Look X.env s.heap m x u
  cell : ∀ x c, X.env.cells.lookup x = some c → ∃ v, s.heap.IsCell c v
  free : H X.env.locals = none
  freeC : ∀ x c, X.env.cells.lookup x = some c → H c = none
  pin : ∀ p ∈ X.pn ++ pins, s.heap.get? p.1 = some p.2 ∧ H p.1 = none ∧ p.1 ≠ X.env.locals ∧ p.1 ∉ X.fs ∧ ∀ v, p.2.data ≠ .cell v
  hok : HOk X.prog X.w H s.heap
  len : σ.length = X.N.length
section
variable {X : Cx} {pins : List (Addr × Obj)} {σ : List (Option V)} {H H' : Hp} {s : Shared} {h' : Heap}
theorem Cx.Ok.nofr (ok : X.Ok) {b : Addr} {o : Obj} (e : X.base.get? b = some o) : b ∉ X.fs := fun hb => by
  have := (ok.funs.mem hb).1
  rw [e] at this; cases this
theorem Inv.bs (I : Inv X pins σ H s) : ∀ b o, X.base.get? b = some o → s.heap.get? b = some o ∧ H b = none := fun b o e =>
  ⟨I.base.keep b o (I.ok.bs b o e).1 (I.ok.bs b o e).2 (I.ok.nofr e) (I.ok.noex b o e), I.base.free b o (I.ok.bs b o e).1 (I.ok.bs b o e).2 (I.ok.noex b o e)⟩
theorem Inv.bk (I : Inv X pins σ H s) : ∀ b o, X.base.get? b = some o → s.heap.get? b = some o := fun b o e => (I.bs b o e).1
theorem Inv.mod (I : Inv X pins σ H s) : Mod X.K X.mg X.base := I.ok.mod
theorem Inv.kIn (I : Inv X pins σ H s) : X.K.In s.heap := I.ok.mod.kin.keeps I.bk
theorem Inv.lt (I : Inv X pins σ H s) : X.env.locals < s.heap.objs.size := let ⟨_, hn, _⟩ := I.loc; hn.lt
theorem Inv.sz (I : Inv X pins σ H s) : X.s₀.heap.objs.size ≤ s.heap.objs.size := Nat.le_trans I.ok.above (Nat.le_of_lt I.lt)
theorem Inv.nofs (I : Inv X pins σ H s) {a : Addr} (h : s.heap.objs.size ≤ a) : a ∉ X.fs := fun hb => by
  obtain ⟨_, o, ho, _⟩ := I.ok.funs.mem hb
  exact absurd (Nat.lt_of_lt_of_le (Heap.lt_size ho) (Nat.le_trans I.sz h)) (Nat.lt_irrefl _)
theorem Inv.cne (I : Inv X pins σ H s) : ∀ x c, X.env.cells.lookup x = some c → c ≠ X.env.locals := fun x c e z => by
  obtain ⟨v, o, ho, hd⟩ := I.cell x c e
  obtain ⟨m, ⟨o', es, ep, ho', hd', _⟩, _⟩ := I.loc
  rw [z, ho'] at ho; cases ho; rw [hd'] at hd; cases hd
theorem Inv.funs (I : Inv X pins σ H s) : s.heap.FunFrames X.base X.outer := by
  have all : ∀ (l : List Env), (∀ b ∈ frs l, b ∈ X.fs) → X.s₀.heap.FunFrames X.base l → s.heap.FunFrames X.base l := by
    intro l
    induction l with
    | nil => intro _ _; trivial
    | cons env r ih =>
      intro hs hl
      obtain ⟨hk, ⟨L, o, hf, hn, ho, hd⟩, hr⟩ := hl
      have hL : L ∈ X.fs := hs L (by unfold frs; rw [List.filterMap_cons, hf]; exact List.mem_cons_self)
      obtain ⟨sl, e⟩ := I.base.slot L o ho (I.ok.frf L hL) hL fun z => I.ok.exfs L z hL
      exact ⟨hk, ⟨L, _, hf, hn, e, hd⟩, ih (fun b hb => hs b (by unfold frs; rw [List.filterMap_cons, hf]; exact List.mem_cons_of_mem _ hb)) hr⟩
  exact all X.outer (fun _ hb => hb) I.ok.funs
theorem Inv.stack (I : Inv X pins σ H s) : s.heap.FunFrames X.base X.stack := by
  rcases I.ok.stk with e | ⟨e, hf⟩
  · rw [e]; exact I.funs
  · rw [e]
    obtain ⟨m, hn, _⟩ := I.loc
    refine .cons (by rw [I.ok.kind]; decide) hf hn ?_ I.funs
    exact Heap.get?_none_of_le (Nat.le_trans I.ok.bsz I.ok.above)
theorem Inv.stkSub (I : Inv X pins σ H s) : ∀ b ∈ frs X.stack, b ∈ X.env.locals :: X.fs := fun b hb => by
  rcases I.ok.stk with e | ⟨e, hf⟩
  · rw [e] at hb; exact List.mem_cons_of_mem _ hb
  · rw [e] at hb
    unfold frs at hb
    rw [List.filterMap_cons, hf] at hb
    exact hb
theorem Inv.stkFree (I : Inv X pins σ H s) : ∀ b ∈ frs X.stack, H b = none := fun b hb => by
  rcases List.mem_cons.mp (I.stkSub b hb) with e | hb
  · rw [e]; exact I.free
  · obtain ⟨_, o, ho, _⟩ := I.ok.funs.mem hb
    exact I.base.free b o ho (I.ok.frf b hb) fun z => I.ok.exfs b z hb
theorem Inv.step {g' : Array GenState} {t' : Nat} {d' : Drawn} {ch : List Addr} (I : Inv X pins σ H s)
    (hch : ∀ b ∈ ch, (b ∈ X.ex ∨ X.s₀.heap.objs.size ≤ b) ∧ b ≠ X.env.locals ∧ (∀ x c, X.env.cells.lookup x = some c → c ≠ b) ∧ ∀ p ∈ X.pn ++ pins, p.1 ≠ b)
    (keep : ∀ b o, b ≠ X.env.locals → b ∉ X.fs → b ∉ ch → s.heap.get? b = some o → H b = none → h'.get? b = some o)
    (slot : ∀ b o, b ≠ X.env.locals → b ∈ X.fs → b ∉ ch → s.heap.get? b = some o → H b = none → ∃ sl, h'.get? b = some { o with slots := sl }) (free : ∀ b o, b ∉ ch → s.heap.get? b = some o → H b = none → H' b = none)
    (there : ∀ b o, b ∉ ch → s.heap.get? b = some o → ∃ o', h'.get? b = some o')
    (tups : ∀ b xs, H b = some (.tup xs) → H' b = some (.tup xs)) (frzs : ∀ b o u, H b = some (.frz o u) → H' b = some (.frz o u)) (tbls : ∀ b ps, H b = some (.tbl ps) → ∃ more, H' b = some (.tbl (ps ++ more)))
    (ns : ∀ m, s.heap.Ns X.env.locals m → h'.Ns X.env.locals m) (hok : HOk X.prog X.w H' h') (hg : AllBare g') :
    Inv X pins σ H' { s with heap := h', gens := g', drawn := d', toks := t' } := by
  have neL : ∀ b o, X.s₀.heap.get? b = some o → b ≠ X.env.locals := fun b o e => Nat.ne_of_lt (Nat.lt_of_lt_of_le (Heap.lt_size e) I.ok.above)
  have neC : ∀ b o, X.s₀.heap.get? b = some o → b ∉ X.ex → b ∉ ch := fun b o e hx hb => by
    rcases (hch b hb).1 with z | z
    · exact hx z
    · exact absurd (Nat.lt_of_lt_of_le (Heap.lt_size e) z) (Nat.lt_irrefl _)
  have cellK : ∀ x c, X.env.cells.lookup x = some c → ∀ v, s.heap.IsCell c v → h'.IsCell c v := fun x c e v ⟨o, ho, hd⟩ => by
    have nch : c ∉ ch := fun z => (hch c z).2.2.1 x c e rfl
    by_cases hc : c ∈ X.fs
    · obtain ⟨sl, q⟩ := slot c o (I.cne x c e) hc nch ho (I.freeC x c e)
      exact ⟨_, q, hd⟩
    · exact ⟨o, keep c o (I.cne x c e) hc nch ho (I.freeC x c e), hd⟩
  refine ⟨I.ok, I.os, hg, ⟨fun b o e n hb hx => ?_, fun b o e n hb hx => ?_, fun b o e n hx => ?_, fun b o e hx => ?_, fun b xs e => tups b xs (I.base.tups b xs e), fun b o xs e => frzs b o xs (I.base.frzs b o xs e), fun b ps e => ?_⟩, ?_, fun x c e => ?_, ?_, fun x c e => ?_, fun p hp => ?_, hok, I.len⟩
  · exact keep b o (neL b o e) hb (neC b o e hx) (I.base.keep b o e n hb hx) (I.base.free b o e n hx)
  · obtain ⟨sl, e1⟩ := I.base.slot b o e n hb hx
    obtain ⟨sl', e2⟩ := slot b _ (neL b o e) hb (neC b o e hx) e1 (I.base.free b o e n hx)
    exact ⟨sl', e2⟩
  · obtain ⟨o', e1⟩ := I.base.there b o e hx
    exact free b o' (neC b o e hx) e1 (I.base.free b o e n hx)
  · obtain ⟨o', e1⟩ := I.base.there b o e hx
    exact there b o' (neC b o e hx) e1
  · obtain ⟨m1, e1⟩ := I.base.tbls b ps e
    obtain ⟨m2, e2⟩ := tbls b _ e1
    exact ⟨m1 ++ m2, by rw [e2, Array.append_assoc]⟩
  · obtain ⟨m, hn, hl⟩ := I.loc
    refine ⟨m, ns m hn, fun i x v e1 e2 e3 => ?_⟩
    obtain ⟨u, r, l⟩ := hl i x v e1 e2 e3
    refine ⟨u, r, ?_⟩
    rcases l with l | ⟨k, c, e, z⟩
    · exact .inl l
    · exact .inr ⟨k, c, e, cellK x c e _ z⟩
  · obtain ⟨v, z⟩ := I.cell x c e
    exact ⟨v, cellK x c e v z⟩
  · obtain ⟨m, ⟨o, _, _, ho, _⟩, _⟩ := I.loc
    exact free _ o (fun z => (hch _ z).2.1 rfl) ho I.free
  · obtain ⟨v, o, ho, hd⟩ := I.cell x c e
    exact free c o (fun z => (hch c z).2.2.1 x c e rfl) ho (I.freeC x c e)
  · obtain ⟨e, n, ne, nf, d⟩ := I.pin p hp
    have nch : p.1 ∉ ch := fun z => (hch p.1 z).2.2.2 p hp rfl
    exact ⟨keep p.1 p.2 ne nf nch e n, free p.1 p.2 nch e n, ne, nf, d⟩
theorem Inv.un {t' : Nat} (I : Inv X pins σ H s) (u : Un X.fs [] H H' s.heap h') (hok : HOk X.prog X.w H' h') : Inv X pins σ H' { s with heap := h', toks := t' } := by
  obtain ⟨m, ⟨o, es, ep, ho, r⟩, _⟩ := id I.loc
  obtain ⟨sl, hL⟩ := u.any ho I.free (by simp)
  exact I.step (g' := s.gens) (d' := s.drawn) (ch := []) (fun _ z => nomatch z) (fun b o _ hb _ e n => u.keep b o e n hb (by simp)) (fun b o _ hb _ e n => u.slot b o e n hb (by simp)) (fun b o _ e n => u.free b o e n (by simp)) (fun b o _ e => u.there b o e (by simp)) u.tups u.frzs u.tbls (fun m' hm => by
    obtain ⟨o', es', ep', ho', r'⟩ := hm
    rw [ho] at ho'; cases ho'
    exact ⟨_, es', ep', hL, r'⟩) hok I.bare
theorem Inv.call {g' : Array GenState} {t' : Nat} {d' : Drawn} {ch : List Addr} (I : Inv X pins σ H s) (u : Un (frs X.stack) ch H H' s.heap h') (hok : HOk X.prog X.w H' h') (hg : AllBare g')
    (hch : ∀ b ∈ ch, (b ∈ X.ex ∨ X.s₀.heap.objs.size ≤ b) ∧ b ≠ X.env.locals ∧ (∀ x c, X.env.cells.lookup x = some c → c ≠ b) ∧ ∀ p ∈ X.pn ++ pins, p.1 ≠ b) :
    Inv X pins σ H' { s with heap := h', gens := g', drawn := d', toks := t' } := by
  obtain ⟨m, ⟨o, es, ep, ho, r⟩, _⟩ := id I.loc
  obtain ⟨sl, hL⟩ := u.any ho I.free fun z => (hch _ z).2.1 rfl
  exact I.step (ch := ch) hch (fun b o hL hb hc e n => u.keep b o e n (fun z => (List.mem_cons.mp (I.stkSub b z)).elim hL hb) hc) (fun b o _ _ hc e n => u.any e n hc) (fun b o hc e n => u.free b o e n hc) (fun b o hc e => u.there b o e hc) u.tups u.frzs u.tbls (fun m' hm => by
    obtain ⟨o', es', ep', ho', r'⟩ := hm
    rw [ho] at ho'; cases ho'
    exact ⟨_, es', ep', hL, r'⟩) hok hg
theorem Inv.turned {t' : Nat} {it : Addr} (I : Inv X pins σ H s) (k : ∀ b o, b ≠ it → s.heap.get? b = some o → h'.get? b = some o) (hn : H it = none) (hL : it ≠ X.env.locals)
    (h1 : it ∈ X.ex ∨ X.s₀.heap.objs.size ≤ it) (h2 : ∀ x c, X.env.cells.lookup x = some c → c ≠ it) (h3 : ∀ p ∈ X.pn ++ pins, p.1 ≠ it) : Inv X pins σ H { s with heap := h', toks := t' } := by
  have nit : ∀ b u, H b = some u → b ≠ it := fun b u e z => by rw [z, hn] at e; cases e
  refine I.step (g' := s.gens) (d' := s.drawn) (ch := [it]) (fun b hb => ?_) (fun b o _ _ hc e _ => k b o (fun z => hc (by simp [z])) e) (fun b o _ _ hc e _ => ⟨o.slots, k b o (fun z => hc (by simp [z])) e⟩) (fun _ _ _ _ n => n)
    (fun b o hc e => ⟨o, k b o (fun z => hc (by simp [z])) e⟩) (fun _ _ e => e) (fun _ _ _ e => e) (fun b ps e => ⟨#[], by rw [e]; simp⟩) (fun m hm => ?_) (fun b u e => ?_) I.bare
  · have e : b = it := by simpa using hb
    subst e
    exact ⟨h1, hL, h2, h3⟩
  · obtain ⟨o, es, ep, ho, r⟩ := hm
    exact ⟨o, es, ep, k _ o (Ne.symm hL) ho, r⟩
  · refine (I.hok b u e).stay (fun c v hc q => k c v ?_ q) (fun _ q => q) fun _ _ q => q
    rcases hc with z | z
    · rw [z]; exact nit b u e
    · exact nit c _ z
theorem Inv.tok (I : Inv X pins σ H s) (t : Nat) : Inv X pins σ H { s with toks := t } := I.un (h' := s.heap) (t' := t) Un.refl I.hok
theorem Inv.kept {t' : Nat} (I : Inv X pins σ H s) (k : ∀ b u, s.heap.get? b = some u → h'.get? b = some u) : Inv X pins σ H { s with heap := h', toks := t' } := I.un (Un.kept k) (I.hok.kept k)
theorem Inv.laid {a : Addr} {o : HO} {t' : Nat} (I : Inv X pins σ H s) (k : ∀ b u, s.heap.get? b = some u → h'.get? b = some u) (hp : s.heap.objs.size ≤ a) (new : ObjOk X.prog X.w (upd H a o) h' a o) :
    Inv X pins σ (upd H a o) { s with heap := h', toks := t' } := I.un (Un.laid k hp (I.hok.fresh hp)) (I.hok.laid k hp new)
theorem Inv.write {x e : Addr} {o : HO} {t' : Nat} (I : Inv X pins σ H s) (mu : Mut (H x)) (he : e = x ∨ H e = some (.own x)) (k : ∀ b u, b ≠ e → s.heap.get? b = some u → h'.get? b = some u) (heo : ∃ u, h'.get? e = some u)
    (new : ObjOk X.prog X.w (upd H x o) h' x o) : Inv X pins σ (upd H x o) { s with heap := h', toks := t' } := I.un (Un.write mu he k heo) (I.hok.write mu he k heo new)
theorem Inv.pins_of {pins' : List (Addr × Obj)} (I : Inv X pins σ H s) (h : ∀ p ∈ pins', s.heap.get? p.1 = some p.2 ∧ H p.1 = none ∧ p.1 ≠ X.env.locals ∧ p.1 ∉ X.fs ∧ ∀ v, p.2.data ≠ .cell v) : Inv X pins' σ H s :=
  ⟨I.ok, I.os, I.bare, I.base, I.loc, I.cell, I.free, I.freeC, fun p hp => (List.mem_append.mp hp).elim (fun z => I.pin p (List.mem_append_left _ z)) (h p), I.hok, I.len⟩
theorem nodup_ix {N : List Str} (hN : N.Nodup) {i j : Nat} {x : Str} (a : N[i]? = some x) (b : N[j]? = some x) : i = j := by
  obtain ⟨h1, e1⟩ := List.getElem?_eq_some_iff.mp a
  obtain ⟨h2, e2⟩ := List.getElem?_eq_some_iff.mp b
  exact (List.getElem_inj hN).mp (e1.trans e2.symm)
theorem store_ok2 {M : Model} {A : Around} {E : Value → Shared → Prop} {i : Nat} {x : Str} {v : V} {u : Value} {Q : Unit → Shared → Prop} (I : Inv X pins σ H s) (hN : X.N.Nodup) (hi : X.N[i]? = some x) (hx : Loc X.env.scope x) (r : RelV v u)
    (h : ∀ s', Inv X pins (σ.set i (some v)) H s' → (∃ a, Heap.SameBut a s.heap s'.heap ∧ (a = X.env.locals ∨ X.env.cells.lookup x = some a)) → Q () s') (hf : X.fn x = true ∨ X.env.scope.names.lookup x = some .local := by first | exact .inl rfl | exact .inr rfl | assumption) : wpAny M A (storeName X.env x u) Q E s := by
  obtain ⟨m, hn, hl⟩ := id I.loc
  have hcls : (X.env.scope.kind == .class || (X.env.scope.kind == .module && X.env.locals != X.env.globals)) = false := by rw [I.ok.kind]; rfl
  have hiσ : i < σ.length := by rw [I.len]; exact (List.getElem?_eq_some_iff.mp hi).1
  have cne := I.cne
  have tracked : ∀ {a : Addr} {h' : Heap}, (∃ o, s.heap.get? a = some o ∧ H a = none) → Heap.SameBut a s.heap h' → HOk X.prog X.w H h' := fun {a h'} ha hs b ob e => by
    obtain ⟨_, _, hfree⟩ := ha
    refine (I.hok b ob e).stay (fun c w' hc q => (hs.2 c ?_).trans q) (fun _ q => q) fun _ _ q => q
    rintro rfl
    rcases hc with rfl | hc
    · rw [hfree] at e; cases e
    · rw [hfree] at hc; cases hc
  rcases hx with hk | hk
  · refine wpAny_storeName_local hk hn (fun h' hn' hs => ?_) hcls
    obtain ⟨oL, _, _, hoL, _⟩ := id hn
    refine h _ ⟨I.ok, I.os, I.bare, ⟨fun b o e n hb hx => ?_, fun b o e n hb hx => ?_, I.base.free, fun b o e hx => ?_, I.base.tups, I.base.frzs, I.base.tbls⟩, ⟨_, hn', fun j y v' e1 e2 e3 => ?_⟩, fun y c e => ?_, I.free, I.freeC, fun p hp => ?_, tracked ⟨oL, hoL, I.free⟩ hs, by simpa using I.len⟩ ⟨_, hs, .inl rfl⟩
    · exact (hs.2 b (Nat.ne_of_lt (Nat.lt_of_lt_of_le (Heap.lt_size e) I.ok.above))).trans (I.base.keep b o e n hb hx)
    · obtain ⟨sl, e1⟩ := I.base.slot b o e n hb hx
      exact ⟨sl, (hs.2 b (Nat.ne_of_lt (Nat.lt_of_lt_of_le (Heap.lt_size e) I.ok.above))).trans e1⟩
    · obtain ⟨o', e1⟩ := I.base.there b o e hx
      exact ⟨o', (hs.2 b (Nat.ne_of_lt (Nat.lt_of_lt_of_le (Heap.lt_size e) I.ok.above))).trans e1⟩
    · by_cases hj : j = i
      · subst hj
        rw [hi] at e1; cases e1
        rw [List.getElem?_set_self hiσ] at e2
        cases e2
        exact ⟨u, r, .inl ⟨hk, by simp⟩⟩
      · rw [List.getElem?_set_ne (Ne.symm hj)] at e2
        obtain ⟨u', r', q⟩ := hl j y v' e1 e2 e3
        refine ⟨u', r', ?_⟩
        rcases q with ⟨k, e⟩ | ⟨k, c, e, z⟩
        · refine .inl ⟨k, ?_⟩
          have : y ≠ x := fun e => hj (nodup_ix hN e1 (e ▸ hi))
          simp [this, e]
        · exact .inr ⟨k, c, e, z.sameBut hs (cne y c e)⟩
    · obtain ⟨w', z⟩ := I.cell y c e
      exact ⟨w', z.sameBut hs (cne y c e)⟩
    · obtain ⟨e, n, ne, nf, d⟩ := I.pin p hp
      exact ⟨(hs.2 p.1 ne).trans e, n, ne, nf, d⟩
  · have hfn : X.fn x = true := by
      rcases hf with z | z
      · exact z
      · rw [z] at hk; cases hk
    obtain ⟨c, hc⟩ := I.ok.has x (.inl hk)
    obtain ⟨w', z⟩ := I.cell x c hc
    refine wpAny_storeName_cell I.ok.kind hk hc z (fun h' hc' hs => ?_)
    obtain ⟨oc, hoc, hocd⟩ := id z
    refine h { s with heap := h' } ⟨I.ok, I.os, I.bare, ⟨fun b o e n hb hx => ?_, fun b o e n hb hx => ?_, I.base.free, fun b o e hx => ?_, I.base.tups, I.base.frzs, I.base.tbls⟩, ⟨m, hn.sameBut hs (Ne.symm (cne x c hc)), fun j y v' e1 e2 e3 => ?_⟩, fun y c' e => ?_, I.free, I.freeC, fun p hp => ?_, tracked ⟨oc, hoc, I.freeC x c hc⟩ hs, by simpa using I.len⟩ ⟨c, hs, .inr hc⟩
    · exact (hs.2 b (Nat.ne_of_lt (Nat.lt_of_lt_of_le (Heap.lt_size e) (I.ok.cab x c hfn hc)))).trans (I.base.keep b o e n hb hx)
    · obtain ⟨sl, e1⟩ := I.base.slot b o e n hb hx
      exact ⟨sl, (hs.2 b (Nat.ne_of_lt (Nat.lt_of_lt_of_le (Heap.lt_size e) (I.ok.cab x c hfn hc)))).trans e1⟩
    · obtain ⟨o', e1⟩ := I.base.there b o e hx
      exact ⟨o', (hs.2 b (Nat.ne_of_lt (Nat.lt_of_lt_of_le (Heap.lt_size e) (I.ok.cab x c hfn hc)))).trans e1⟩
    · by_cases hj : j = i
      · subst hj
        rw [hi] at e1; cases e1
        rw [List.getElem?_set_self hiσ] at e2
        cases e2
        exact ⟨u, r, .inr ⟨.inl hk, c, hc, hc'⟩⟩
      · rw [List.getElem?_set_ne (Ne.symm hj)] at e2
        obtain ⟨u', r', q⟩ := hl j y v' e1 e2 e3
        refine ⟨u', r', ?_⟩
        rcases q with q | ⟨k, c', e, z'⟩
        · exact .inl q
        · refine .inr ⟨k, c', e, z'.sameBut hs ?_⟩
          rintro rfl
          exact hj (nodup_ix hN e1 (I.ok.inj _ _ _ e hc ▸ hi))
    · by_cases hcc : c' = c
      · subst hcc; exact ⟨_, hc'⟩
      · obtain ⟨w2, z2⟩ := I.cell y c' e
        exact ⟨w2, z2.sameBut hs hcc⟩
    · obtain ⟨e, n, ne, nf, d⟩ := I.pin p hp
      refine ⟨(hs.2 p.1 ?_).trans e, n, ne, nf, d⟩
      intro q
      rw [q, hoc] at e
      have q' : oc = p.2 := Option.some.inj e
      exact d w' (by rw [← q']; exact hocd)
theorem store_ok {M : Model} {A : Around} {E : Value → Shared → Prop} {i : Nat} {x : Str} {v : V} {u : Value} {Q : Unit → Shared → Prop} (I : Inv X pins σ H s) (hN : X.N.Nodup) (hi : X.N[i]? = some x) (hx : Loc X.env.scope x) (r : RelV v u)
    (h : ∀ s', Inv X pins (σ.set i (some v)) H s' → Q () s') (hf : X.fn x = true ∨ X.env.scope.names.lookup x = some .local := by first | exact .inl rfl | exact .inr rfl | assumption) : wpAny M A (storeName X.env x u) Q E s :=
  store_ok2 I hN hi hx r (fun s' I' _ => h s' I') hf
theorem Inv.call' {s' : Shared} {ch : List Addr} (I : Inv X pins σ H s) (ho : s'.os = s.os) (u : Un (frs X.stack) ch H H' s.heap s'.heap) (hok : HOk X.prog X.w H' s'.heap) (hg : AllBare s'.gens)
    (hch : ∀ b ∈ ch, (b ∈ X.ex ∨ X.s₀.heap.objs.size ≤ b) ∧ b ≠ X.env.locals ∧ (∀ x c, X.env.cells.lookup x = some c → c ≠ b) ∧ ∀ p ∈ X.pn ++ pins, p.1 ≠ b) : Inv X pins σ H' s' := by
  obtain ⟨h', g', d', t', o'⟩ := s'
  have e : o' = s.os := ho
  subst e
  exact I.call (g' := g') (t' := t') (d' := d') u hok hg hch
end
noncomputable abbrev XK := Value → Option Addr → Hp → Prop
noncomputable abbrev St := List (Option V)
noncomputable abbrev VK := V → Hp → Prop
noncomputable abbrev TE := St → Hp → VK → Prop
noncomputable abbrev TT := St → Hp → (Bool → Hp → Prop) → Prop
noncomputable abbrev TA := St → Hp → (List V → Hp → Prop) → Prop
structure Ends where
  nx : St → Hp → Prop
  rt : VK
  bk : St → Hp → Prop := fun _ _ => False
  ct : St → Hp → Prop := fun _ _ => False
noncomputable abbrev TS := Ends → St → Hp → Prop
inductive EP (X : Cx) (pins : List (Addr × Obj)) (σ : St) (Q : VK) (u : Value) (s' : Shared) : Prop
  | mk : ∀ v H', (Inv X pins σ H' s') → (RelV v u) → (Q v H') → EP X pins σ Q u s'
noncomputable def TP (X : Cx) (pins : List (Addr × Obj)) (σ : St) (Q : Bool → Hp → Prop) (b : Bool) (s' : Shared) : Prop := ∃ H', Inv X pins σ H' s' ∧ Q b H'
inductive AP (X : Cx) (pins : List (Addr × Obj)) (σ : St) (Q : List V → Hp → Prop) (us : List Value) (s' : Shared) : Prop
  | mk : ∀ vs H', (Inv X pins σ H' s') → (Vals vs us) → (Q vs H') → AP X pins σ Q us s'
noncomputable def SP (X : Cx) (pins : List (Addr × Obj)) (D : Ends) (f : Flow) (s' : Shared) : Prop :=
  match f with
  | .next => ∃ σ' H', Inv X pins σ' H' s' ∧ D.nx σ' H'
  | .brk => ∃ σ' H', Inv X pins σ' H' s' ∧ D.bk σ' H'
  | .cont => ∃ σ' H', Inv X pins σ' H' s' ∧ D.ct σ' H'
  | .ret u => ∃ v σ' H', Inv X pins σ' H' s' ∧ RelV v u ∧ D.rt v H'
noncomputable def PE (X : Cx) (e : Expr) (t : TE) : Prop :=
  ∀ (pins : List (Addr × Obj)) (s : Shared) (σ : St) (H : Hp) (Q : VK), Inv X pins σ H s → t σ H Q → wpAny (model X.prog X.w) X.A (eval e X.env) (EP X pins σ Q) X.xe s
noncomputable def PT (X : Cx) (e : Expr) (t : TT) : Prop :=
  ∀ (pins : List (Addr × Obj)) (s : Shared) (σ : St) (H : Hp) (Q : Bool → Hp → Prop), Inv X pins σ H s → t σ H Q → wpAny (model X.prog X.w) X.A (isTrue e X.env (eval e X.env)) (TP X pins σ Q) X.xe s
noncomputable def PW (X : Cx) (e : Expr) (t : TT) : Prop :=
  ∀ (whole : Sem Value) (pins : List (Addr × Obj)) (s : Shared) (σ : St) (H : Hp) (Q : Bool → Hp → Prop), Inv X pins σ H s → t σ H Q → wpAny (model X.prog X.w) X.A (isTrue e X.env whole) (TP X pins σ Q) X.xe s
theorem PW.pt {X : Cx} {e : Expr} {t : TT} (h : PW X e t) : PT X e t := h _
noncomputable def PA (X : Cx) (es : List Expr) (t : TA) : Prop :=
  ∀ (pos : Pos) (pins : List (Addr × Obj)) (s : Shared) (σ : St) (H : Hp) (Q : List V → Hp → Prop), Inv X pins σ H s → t σ H Q → wpAny (model X.prog X.w) X.A (spliced (backTo pos (starEach es X.env))) (AP X pins σ Q) X.xe s
noncomputable def PS (X : Cx) (st : Stmt) (t : TS) : Prop :=
  ∀ (pins : List (Addr × Obj)) (s : Shared) (σ : St) (H : Hp) (D : Ends), Inv X pins σ H s → t D σ H → wpAny (model X.prog X.w) X.A (exec st X.env) (SP X pins D) X.xe s
noncomputable def PSs (X : Cx) (st : List Stmt) (t : TS) : Prop :=
  ∀ (pins : List (Addr × Obj)) (s : Shared) (σ : St) (H : Hp) (D : Ends), Inv X pins σ H s → t D σ H → wpAny (model X.prog X.w) X.A (execs st X.env) (SP X pins D) X.xe s
theorem thn {α : Type} {t : Sem α} {Q Q' : α → Shared → Prop} {M : Model} {A : Around} {E : Value → Shared → Prop} {s : Shared} (h : wpAny M A t Q E s) (hQ : ∀ a s, Q a s → Q' a s) : wpAny M A t Q' E s := wpAny_mono h hQ fun _ _ x => x
end L2
namespace L2
open PySem PySem.Spec PyProof.Rows
section
variable {X : Cx}
theorem bin {a b : Expr} {ta tb : TE} (ha : PE X a ta) (hb : PE X b tb) {pins : List (Addr × Obj)} {s : Shared} {σ : St} {H : Hp} {R : V → V → Hp → Prop} (I : Inv X pins σ H s) (h : ta σ H fun x H1 => tb σ H1 fun y H2 => R x y H2)
    {α : Type} {Q : α → Shared → Prop} {f : Value → Value → Sem α}
    (hf : ∀ v u s2 x y H2, Inv X pins σ H2 s2 → RelV x v → RelV y u → R x y H2 → wpAny (model X.prog X.w) X.A (f v u) Q X.xe s2) :
    wpAny (model X.prog X.w) X.A (eval a X.env) (fun v s₁ => wpAny (model X.prog X.w) X.A (eval b X.env) (fun u s₂ => wpAny (model X.prog X.w) X.A (f v u) Q X.xe s₂) X.xe s₁) X.xe s := by
  refine thn (ha pins s σ H _ I h) fun v s1 ⟨x, H1, I1, r1, q1⟩ => ?_
  refine thn (hb pins s1 σ H1 _ I1 q1) fun u s2 ⟨y, H2, I2, r2, q2⟩ => ?_
  exact hf v u s2 x y H2 I2 r1 r2 q2
inductive tVar (i : Nat) (σ : St) (H : Hp) (Q : VK) : Prop
  | mk : ∀ v, (σ[i]? = some (some v)) → (Q v H) → tVar i σ H Q
noncomputable def tC (v : V) : TE := fun _ H Q => Q v H
theorem pe_var {i : Nat} {x : Str} {pos : Pos} (hN : X.N[i]? = some x) (hv : Vis X.env.scope x) (hd : (x == ("__debug__" : Str)) = false := by decide) (hcd : (x == ("__classdict__" : Str)) = false := by decide) : PE X (.Name x pos) (tVar i) := by
  intro pins s σ H Q I h
  obtain ⟨v, e, h⟩ := h
  obtain ⟨m, hn, hl⟩ := I.loc
  obtain ⟨u, r, l⟩ := hl i x v hN e hv
  have fin : EP X pins σ Q u s := ⟨v, H, I, r, h⟩
  rcases l with ⟨hk, hm⟩ | ⟨hk, c, hc, hcell⟩
  · exact wpAny_Name (wpAny_loadName_local I.ok.kind hk hn hm fin) hd
  · rcases hk with hk | hk
    · exact wpAny_Name (wpAny_loadName_cell I.ok.kind hk hc hcell fin) hd
    · exact wpAny_Name (wpAny_loadName_free I.ok.kind hk hc hcell fin hcd) hd
theorem pe_int {i j pos} : PE X (.Constant (.int i) j pos) (tC (.int i)) := fun _ _ _ H _ I h => wpAny_Constant_int ⟨.int i, H, I.tok _, ⟨_, rfl⟩, h⟩
theorem pe_bl {b j pos} : PE X (.Constant (.bool b) j pos) (tC (.bl b)) := fun _ _ _ H _ I h => Constant_bool ⟨.bl b, H, I, rfl, h⟩
theorem pe_non {j pos} : PE X (.Constant .none j pos) (tC .non) := fun _ _ _ H _ I h => Constant_none ⟨.non, H, I, rfl, h⟩
theorem pe_str {x j pos} : PE X (.Constant (.str x) j pos) (tC (.str x)) := fun _ _ _ H _ I h => Calls.Constant_str ⟨.str x, H, I.tok _, ⟨_, rfl⟩, h⟩
noncomputable def Gl (X : Cx) (x : Str) : Prop := X.env.kindOf x = some .globalImplicit
theorem ld_glob {E : Value → Shared → Prop} {pins : List (Addr × Obj)} {s : Shared} {σ : St} {H : Hp} {x : Str} {u : Value} {pos : Pos} {Q : Value → Shared → Prop} (I : Inv X pins σ H s) (hg : Gl X x) (hm : X.mg x = some u) (h : Q u s)
    (hd : (x == ("__debug__" : Str)) = false := by decide) : wpAny (model X.prog X.w) X.A (eval (.Name x pos) X.env) Q E s :=
  Calls.Name_function_global I.ok.kind hg (Calls.loadGlobal_global (by rw [I.ok.glob]; exact I.mod.glob.keeps I.bk) hm h) hd
theorem ld_blt {E : Value → Shared → Prop} {pins : List (Addr × Obj)} {s : Shared} {σ : St} {H : Hp} {x : Str} {u : Value} {pos : Pos} {Q : Value → Shared → Prop} (I : Inv X pins σ H s) (hg : Gl X x) (hm : X.mg x = none) (hv : bootBuiltins x = some u) (h : Q u s)
    (hn : x ≠ "__name__" := by decide) (hd : (x == ("__debug__" : Str)) = false := by decide) : wpAny (model X.prog X.w) X.A (eval (.Name x pos) X.env) Q E s := by
  obtain ⟨mb, h1, h2⟩ := I.mod.blt
  exact Calls.Name_function_global I.ok.kind hg (Calls.loadGlobal_builtin (by rw [I.ok.glob]; exact I.mod.glob.keeps I.bk) hm (by rw [I.ok.blt]; exact h1.keeps I.bk) ((h2 x hn).trans hv) h) hd
theorem pe_bltn {x : Str} {v : V} {u : Value} {pos : Pos} (hg : Gl X x) (hm : X.mg x = none) (hv : bootBuiltins x = some u) (r : RelV v u) (hn : x ≠ "__name__" := by decide) (hd : (x == ("__debug__" : Str)) = false := by decide) : PE X (.Name x pos) (tC v) :=
  fun _ _ _ H _ I h => ld_blt I hg hm hv ⟨v, H, I, r, h⟩ hn hd
noncomputable def t2I (ta tb : TE) (k : Int → Int → Hp → Prop) : St → Hp → Prop := fun σ H => ta σ H fun x H1 => tb σ H1 fun y H2 => ∃ i j, x = .int i ∧ y = .int j ∧ k i j H2
variable {a b : Expr} {ta tb : TE} {pos : Pos}
noncomputable def PC (X : Cx) (op : CmpOp) (a b : Expr) (t : TE) : Prop :=
  ∀ (pins : List (Addr × Obj)) (s : Shared) (σ : St) (H : Hp) (Q : VK), Inv X pins σ H s → t σ H Q →
    wpAny (model X.prog X.w) X.A (eval a X.env) (fun v s₁ => wpAny (model X.prog X.w) X.A (eval b X.env) (fun u s₂ => wpAny (model X.prog X.w) X.A (compareOp op v u) (EP X pins σ Q) X.xe s₂) X.xe s₁) X.xe s
theorem nobehind (b : Expr) {op : CmpOp} (h : op ≠ .In) (h2 : op ≠ .NotIn) : behindInMarks op b = false := by
  have e1 : (op == CmpOp.In) = false := by cases op <;> first | rfl | exact absurd rfl h
  have e2 : (op == CmpOp.NotIn) = false := by cases op <;> first | rfl | exact absurd rfl h2
  cases b <;> simp [behindInMarks, e1, e2]
noncomputable def tCmp (p : Int → Int → Bool) (ta tb : TE) : TE := fun σ H Q => t2I ta tb (fun i j H2 => Q (.bl (p i j)) H2) σ H
noncomputable abbrev tGt : TE → TE → TE := tCmp fun i j => decide (j < i)
noncomputable abbrev tEqI : TE → TE → TE := tCmp fun i j => decide (i = j)
theorem pc_int {op : CmpOp} {p : Int → Int → Bool} (ha : PE X a ta) (hb : PE X b tb)
    (rule : ∀ (i j : Int) (t u : Tok) (Q : Value → Shared → Prop) (s : Shared), Q (.bool (p i j)) s → wpAny (model X.prog X.w) X.A (compareOp op (.int i t) (.int j u)) Q X.xe s) : PC X op a b (tCmp p ta tb) := by
  intro pins s σ H Q I h
  refine bin ha hb I h fun v u s2 x y H2 I2 rx ry q => ?_
  obtain ⟨i, j, rfl, rfl, q⟩ := q
  obtain ⟨t, rfl⟩ := rx
  obtain ⟨t', rfl⟩ := ry
  exact rule i j t t' _ s2 ⟨.bl _, H2, I2, rfl, q⟩
theorem pc_gt (ha : PE X a ta) (hb : PE X b tb) : PC X .Gt a b (tGt ta tb) := pc_int ha hb fun _ _ _ _ _ _ h => gt_int h
theorem pc_eqI (ha : PE X a ta) (hb : PE X b tb) : PC X .Eq a b (tEqI ta tb) := pc_int ha hb fun _ _ _ _ _ _ h => eq_int (by rw [Bool.beq_eq_decide_eq]; exact h)
inductive rBl  (x : V) (H1 : Hp) (Q : (Bool → Hp → Prop)) : Prop
  | mk : ∀ c, (x = .bl c) → (Q c H1) → rBl x H1 Q
noncomputable def tB (t : TE) : TT := fun σ H Q => t σ H fun x H1 => rBl x H1 Q
theorem pt_cmp {op : CmpOp} {t : TE} (h : PC X op a b t) (h1 : behindInMarks op b = false := by first | exact nobehind _ (by decide) (by decide) | rfl) : PT X (.Compare a [op] [b] pos) (tB t) := by
  intro pins s σ H Q I hw
  refine wpAny_isTrue_Compare1 (thn (h pins s σ H _ I hw) fun v s1 h1 => thn h1 fun u s2 h2 => thn h2 fun c s3 ⟨x, H1, I1, r1, q1⟩ => ?_) h1
  obtain ⟨d, rfl, q⟩ := q1
  cases r1
  exact wpAny_truthy_bool ⟨H1, I1, q⟩
theorem pt_val {e : Expr} {t : TE} (h : PE X e t) (he : ∀ whole, isTrue e X.env whole = (do let v ← whole; standAt e.pos; holding [v] (truthy v)) := by intro _; rfl) : PT X e (tB t) := by
  intro pins s σ H Q I hw
  refine isTrue_plain (thn (h pins s σ H _ I hw) fun v s1 ⟨x, H1, I1, r1, q1⟩ => ?_) (he _)
  obtain ⟨d, rfl, q⟩ := q1
  cases r1
  exact wpAny_truthy_bool ⟨H1, I1, q⟩
variable {tA tB' : TT} {rest : List Expr}
noncomputable def tAnd (t u : TT) : TT := fun σ H Q => t σ H fun c H1 => if c = true then u σ H1 Q else Q false H1
noncomputable def tOr (t u : TT) : TT := fun σ H Q => t σ H fun c H1 => if c = true then Q true H1 else u σ H1 Q
noncomputable def tNot (t : TT) : TT := fun σ H Q => t σ H fun c H1 => Q (!c) H1
theorem pw_and1 (ha : PT X a tA) : PW X (.BoolOp .And [a] pos) tA := by
  intro wh pins s σ H Q I h
  refine isTrue_and (thn (ha pins s σ H Q I h) fun c s1 e => ?_)
  cases c with
  | true => exact isTrue_and_nil e
  | false => exact e
theorem pw_or1 (ha : PT X a tA) : PW X (.BoolOp .Or [a] pos) tA := by
  intro wh pins s σ H Q I h
  refine isTrue_or (thn (ha pins s σ H Q I h) fun c s1 e => ?_)
  cases c with
  | false => exact isTrue_or_nil e
  | true => exact e
theorem pw_and (ha : PT X a tA) (hb : PW X (.BoolOp .And (b :: rest) pos) tB') : PW X (.BoolOp .And (a :: b :: rest) pos) (tAnd tA tB') := by
  intro wh pins s σ H Q I h
  refine isTrue_and (thn (ha pins s σ H _ I h) fun c s1 ⟨H1, I1, q1⟩ => ?_)
  cases c with
  | true => exact hb wh pins s1 σ H1 Q I1 q1
  | false => exact ⟨H1, I1, q1⟩
theorem pw_or (ha : PT X a tA) (hb : PW X (.BoolOp .Or (b :: rest) pos) tB') : PW X (.BoolOp .Or (a :: b :: rest) pos) (tOr tA tB') := by
  intro wh pins s σ H Q I h
  refine isTrue_or (thn (ha pins s σ H _ I h) fun c s1 ⟨H1, I1, q1⟩ => ?_)
  cases c with
  | true => exact ⟨H1, I1, q1⟩
  | false => exact hb wh pins s1 σ H1 Q I1 q1
theorem pt_not (ha : PT X a tA) : PT X (.UnaryOp .Not a pos) (tNot tA) := by
  intro pins s σ H Q I h
  exact isTrue_not (ha pins s σ H (fun c H1 => Q (!c) H1) I h)
noncomputable def tAndV (ta tb : TE) : TE := fun σ H Q => ta σ H fun x H1 => ∃ c, x = .bl c ∧ if c = true then tb σ H1 Q else Q (.bl false) H1
noncomputable def tNotV (ta : TE) : TE := fun σ H Q => ta σ H fun x H1 => ∃ c, x = .bl c ∧ Q (.bl (!c)) H1
theorem pe_one {op} {t : TE} (h : PE X a t) : PE X (.BoolOp op [a] pos) t := fun pins s σ H Q I hw => BoolOp_one (h pins s σ H Q I hw)
theorem pe_and (ha : PE X a ta) (hb : PE X (.BoolOp .And (b :: rest) pos) tb) : PE X (.BoolOp .And (a :: b :: rest) pos) (tAndV ta tb) := by
  intro pins s σ H Q I h
  refine BoolOp_and (thn (ha pins s σ H _ I h) fun v s1 ⟨x, H1, I1, r1, q1⟩ => ?_)
  obtain ⟨c, rfl, q1⟩ := q1
  cases r1
  refine wpAny_truthy_bool ?_
  cases c with
  | true => exact hb pins s1 σ H1 Q I1 q1
  | false => exact ⟨.bl false, H1, I1, rfl, q1⟩
theorem pe_not (ha : PE X a ta) : PE X (.UnaryOp .Not a pos) (tNotV ta) := by
  intro pins s σ H Q I h
  refine UnaryOp_ (thn (ha pins s σ H _ I h) fun v s1 ⟨x, H1, I1, r1, q1⟩ => ?_)
  obtain ⟨c, rfl, q1⟩ := q1
  cases r1
  exact not_of (wpAny_truthy_bool ⟨.bl (!c), H1, I1, rfl, q1⟩)
noncomputable def tIf (t : TT) (ta tb : TE) : TE := fun σ H Q => t σ H fun c H1 => if c = true then ta σ H1 Q else tb σ H1 Q
theorem pe_ifExp {c : Expr} (hc : PT X c tA) (ha : PE X a ta) (hb : PE X b tb) : PE X (.IfExp c a b pos) (tIf tA ta tb) := by
  intro pins s σ H Q I h
  refine wpAny_IfExp (thn (hc pins s σ H _ I h) fun d s1 ⟨H1, I1, q1⟩ => ?_)
  cases d with
  | true => exact ha pins s1 σ H1 Q I1 q1
  | false => exact hb pins s1 σ H1 Q I1 q1
end
end L2
namespace L2
open PySem PySem.Spec PyProof.Rows
noncomputable def SqL (K : PySem.W.Frag) (H : Hp) (a : Addr) (xs : List V) : Prop :=
  Rd H a (.lst xs) ∨
    ∃ (o : Obj) (its : Array Value) (n : Nat), K.lookup a = some o ∧ o.cls = .type "list" ∧ o.dict = none ∧ o.data = .seq its n ∧ its.size ≤ sizeLine ∧ Vals xs its.toList
noncomputable def SqT (K : PySem.W.Frag) (H : Hp) (a : Addr) (xs : List V) : Prop :=
  Rd H a (.tup xs) ∨
    ∃ (o : Obj) (its : Array Value) (n : Nat), K.lookup a = some o ∧ o.cls = .type "tuple" ∧ o.data = .seq its n ∧ its.size ≤ sizeLine ∧ Vals xs its.toList
noncomputable def absV : Value → Option V
  | .none => some .non
  | .bool b => some (.bl b)
  | .int i _ => some (.int i)
  | .str x _ => some (.str x)
  | .bytes b _ => some (.byt b)
  | .float b _ => some (.flt b)
  | .ref a => some (.ref a)
  | .type n => some (.ty n)
  | _ => none
theorem RelV.abs {x : V} {u : Value} (r : RelV x u) : absV u = some x := by
  cases x with
  | non => cases r; rfl
  | bl _ => cases r; rfl
  | int _ => obtain ⟨t, rfl⟩ := r; rfl
  | str _ => obtain ⟨t, rfl⟩ := r; rfl
  | byt _ => obtain ⟨t, rfl⟩ := r; rfl
  | flt _ => obtain ⟨t, rfl⟩ := r; rfl
  | ref _ => cases r; rfl
  | ty _ => cases r; rfl
theorem RelV.inj {x y : V} {u : Value} (r : RelV x u) (q : RelV y u) : x = y := Option.some.inj (r.abs.symm.trans q.abs)
theorem Vals.inj : ∀ {xs ys : List V} {us : List Value}, Vals xs us → Vals ys us → xs = ys
  | _, _, _, .nil, .nil => rfl
  | _, _, _, .cons r t, .cons r' t' => by rw [r.inj r', Vals.inj t t']
section
variable {X : Cx} {pins : List (Addr × Obj)} {σ : St} {H : Hp} {s : Shared} {a : Addr} {xs ys : List V}
theorem SqL.of {K : PySem.W.Frag} (h : H a = some (.lst xs)) : SqL K H a xs := .inl (.inl h)
theorem SqT.of {K : PySem.W.Frag} (h : H a = some (.tup xs)) : SqT K H a xs := .inl (.inl h)
theorem Inv.list (I : Inv X pins σ H s) (h : SqL X.K H a xs) : ∃ its : List Value, Vals xs its ∧ PlainL s.heap a its.toArray ∧ xs.length ≤ sizeLine := by
  rcases h with h | ⟨o, its, n, hk, hc, hd, hs, hz, r⟩
  · obtain ⟨z, its, n, r, e⟩ := h.ok I.hok
    exact ⟨its, r, ⟨_, n, e, rfl, rfl, rfl⟩, z⟩
  · refine ⟨its.toList, r, ⟨o, n, I.kIn a o hk, hc, hd, by simpa using hs⟩, ?_⟩
    have e := r.length
    simp only [Array.length_toList] at e
    lia
theorem Inv.tuple (I : Inv X pins σ H s) (h : SqT X.K H a xs) : ∃ its : List Value, Vals xs its ∧ IsTup s.heap a its.toArray ∧ xs.length ≤ sizeLine := by
  rcases h with h | ⟨o, its, n, hk, hc, hs, hz, r⟩
  · obtain ⟨z, its, r, p⟩ := h.ok I.hok
    exact ⟨its, r, p, z⟩
  · refine ⟨its.toList, r, ⟨o, I.kIn a o hk, hc, n, by simpa using hs⟩, ?_⟩
    have e := r.length
    simp only [Array.length_toList] at e
    lia
theorem Inv.list_inj (I : Inv X pins σ H s) (h : SqL X.K H a xs) (h' : SqL X.K H a ys) : xs = ys := by
  obtain ⟨its, r, ⟨o, n, e, _, _, d⟩, _⟩ := I.list h
  obtain ⟨its', r', ⟨o', n', e', _, _, d'⟩, _⟩ := I.list h'
  rw [e] at e'; cases e'
  rw [d] at d'
  injection d' with d1 _
  have : its = its' := by simpa using congrArg Array.toList d1
  subst this
  exact r.inj r'
theorem Inv.tuple_inj (I : Inv X pins σ H s) (h : SqT X.K H a xs) (h' : SqT X.K H a ys) : xs = ys := by
  obtain ⟨its, r, ⟨o, e, _, n, d⟩, _⟩ := I.tuple h
  obtain ⟨its', r', ⟨o', e', _, n', d'⟩, _⟩ := I.tuple h'
  rw [e] at e'; cases e'
  rw [d] at d'
  injection d' with d1 _
  have : its = its' := by simpa using congrArg Array.toList d1
  subst this
  exact r.inj r'
end
noncomputable abbrev Cx.wish (X : Cx) (E : Value → Shared → Prop) : Cx := { X with xe := E }
noncomputable abbrev Cx.nox (X : Cx) : Cx := X.wish fun _ _ => False
theorem Cx.Ok.wish {X : Cx} (ok : X.Ok) (E : Value → Shared → Prop) : (X.wish E).Ok :=
  ⟨ok.mod, ok.kind, ok.glob, ok.blt, ok.above, ok.inj, ok.has, ok.cab, ok.hd, ok.frames, ok.stk, ok.exf, ok.bs, ok.bsz, ok.noex, ok.exfs, ok.funs, ok.frf⟩
theorem Cx.Ok.unwish {X : Cx} {E : Value → Shared → Prop} (ok : (X.wish E).Ok) : X.Ok :=
  ⟨ok.mod, ok.kind, ok.glob, ok.blt, ok.above, ok.inj, ok.has, ok.cab, ok.hd, ok.frames, ok.stk, ok.exf, ok.bs, ok.bsz, ok.noex, ok.exfs, ok.funs, ok.frf⟩
section
variable {X : Cx} {pins : List (Addr × Obj)} {σ : St} {H : Hp} {s : Shared} {E : Value → Shared → Prop}
theorem Inv.wish (I : Inv X pins σ H s) (E : Value → Shared → Prop) : Inv (X.wish E) pins σ H s := ⟨I.ok.wish E, I.os, I.bare, I.base, I.loc, I.cell, I.free, I.freeC, I.pin, I.hok, I.len⟩
theorem Inv.unwish (I : Inv (X.wish E) pins σ H s) : Inv X pins σ H s := ⟨I.ok.unwish, I.os, I.bare, I.base, I.loc, I.cell, I.free, I.freeC, I.pin, I.hok, I.len⟩
theorem SP.unwish {D : Ends} {f : Flow} {s' : Shared} (h : SP (X.wish E) pins D f s') : SP X pins D f s' := by
  cases f with
  | next => obtain ⟨σ', H', I, q⟩ := h; exact ⟨σ', H', I.unwish, q⟩
  | brk => obtain ⟨σ', H', I, q⟩ := h; exact ⟨σ', H', I.unwish, q⟩
  | cont => obtain ⟨σ', H', I, q⟩ := h; exact ⟨σ', H', I.unwish, q⟩
  | ret u => obtain ⟨v, σ', H', I, r, q⟩ := h; exact ⟨v, σ', H', I.unwish, r, q⟩
theorem PSs.nox {st : List Stmt} {t : TS} (h : PSs X.nox st t) : PSs X st t := fun pins s σ H D I hw =>
  wpAny_mono (h pins s σ H D (I.wish _) hw) (fun _ _ q => q.unwish) fun _ _ z => False.elim z
end
section
variable {X : Cx} {st : Stmt} {rest : List Stmt} {t u : TS} {e : Expr} {te : TE} {pos : Pos}
noncomputable def tNext : TS := fun D σ H => D.nx σ H
noncomputable def tSeq (t u : TS) : TS := fun D σ H => t { D with nx := u D } σ H
theorem pss_nil : PSs X [] tNext := fun _ _ σ H _ I h => wpAny_execs_nil ⟨σ, H, I, h⟩
theorem pss_cons (h1 : PS X st t) (h2 : PSs X rest u) : PSs X (st :: rest) (tSeq t u) := by
  intro pins s σ H D I h
  refine wpAny_execs_cons (thn (h1 pins s σ H { D with nx := u D } I h) fun f s1 q => ?_)
  cases f with
  | next =>
    obtain ⟨σ', H', I', q⟩ := q
    exact h2 pins s1 σ' H' D I' q
  | ret v => exact q
  | brk => exact q
  | cont => exact q
theorem pss_one (h1 : PS X st t) : PSs X [st] t := by
  intro pins s σ H D I h
  refine wpAny_execs_cons (thn (h1 pins s σ H D I h) fun f s1 q => ?_)
  cases f with
  | next => exact wpAny_execs_nil q
  | ret v => exact q
  | brk => exact q
  | cont => exact q
theorem Inv.quiet {pins : List (Addr × Obj)} {σ : St} {H : Hp} {s : Shared} (I : Inv X pins σ H s) : interactive X.env = false := by simp [interactive, I.ok.kind]
noncomputable def tDrop (te : TE) : TS := fun D σ H => te σ H fun _ H1 => D.nx σ H1
theorem ps_expr (he : PE X e te) (hs : swapsWith e none pos.line X.env = pure false := by rfl) : PS X (.Expr e pos) (tDrop te) := by
  intro pins s σ H D I h
  exact wpAny_Expr_any (thn (he pins s σ H _ I h) fun v s1 ⟨x, H1, I1, r1, q1⟩ => ⟨σ, H1, I1, q1⟩) I.quiet hs
noncomputable def tRet (te : TE) : TS := fun D σ H => te σ H D.rt
theorem ps_ret (he : PE X e te) : PS X (.Return (some e) pos) (tRet te) := by
  intro pins s σ H D I h
  exact wpAny_Return_some (thn (he pins s σ H _ I h) fun v s1 ⟨x, H1, I1, r1, q1⟩ => ⟨x, σ, H1, I1, r1, q1⟩)
noncomputable def tIfS (c : TT) (t u : TS) : TS := fun D σ H => c σ H fun b H1 => if b = true then t D σ H1 else u D σ H1
theorem ps_if {c : Expr} {a b : List Stmt} {tc : TT} (hc : PT X c tc) (ha : PSs X a t) (hb : PSs X b u) : PS X (.If c a b pos) (tIfS tc t u) := by
  intro pins s σ H D I h
  refine wpAny_If (thn (hc pins s σ H _ I h) fun d s1 ⟨H1, I1, q1⟩ => ?_)
  cases d with
  | true => exact ha pins s1 σ H1 D I1 q1
  | false => exact hb pins s1 σ H1 D I1 q1
noncomputable def tNever : TS := fun _ _ _ => False
theorem pss_never {sts : List Stmt} : PSs X sts tNever := fun _ _ _ _ _ _ h => h.elim
end
noncomputable abbrev TG := V → St → Hp → (St → Hp → Prop) → Prop
noncomputable abbrev TGs := List V → St → Hp → (St → Hp → Prop) → Prop
noncomputable def PG (X : Cx) (target : Expr) (t : TG) : Prop :=
  ∀ (pins : List (Addr × Obj)) (s : Shared) (σ : St) (H : Hp) (v : V) (u : Value) (Q : St → Hp → Prop), Inv X pins σ H s → RelV v u → t v σ H Q →
    wpAny (model X.prog X.w) X.A (assign target X.env u) (fun _ s' => ∃ σ' H', Inv X pins σ' H' s' ∧ Q σ' H') X.xe s
noncomputable def PGs (X : Cx) (ts : List Expr) (t : TGs) : Prop :=
  ∀ (pins : List (Addr × Obj)) (s : Shared) (σ : St) (H : Hp) (vs : List V) (us : List Value) (Q : St → Hp → Prop), Inv X pins σ H s → Vals vs us → t vs σ H Q →
    wpAny (model X.prog X.w) X.A (assignInOrder ((assignEach ts X.env).map (·.2)) us) (fun _ s' => ∃ σ' H', Inv X pins σ' H' s' ∧ Q σ' H') X.xe s
noncomputable abbrev TSet := V → V → V → Hp → (Hp → Prop) → Prop
noncomputable def PSet (X : Cx) (t : TSet) : Prop :=
  ∀ (pins : List (Addr × Obj)) (s : Shared) (σ : St) (H : Hp) (o i v : V) (ov iv u : Value) (Q : Hp → Prop), Inv X pins σ H s → RelV o ov → RelV i iv → RelV v u → t o i v H Q →
    wpAny (model X.prog X.w) X.A (setItem ov iv u) (fun _ s' => ∃ H', Inv X pins σ H' s' ∧ Q H') X.xe s
section
variable {X : Cx} {pos : Pos}
noncomputable def gName (i : Nat) : TG := fun v σ H Q => Q (σ.set i (some v)) H
theorem pg_name {i : Nat} {x : Str} (hN : X.N.Nodup) (hi : X.N[i]? = some x) (hx : Loc X.env.scope x) (hf : X.fn x = true ∨ X.env.scope.names.lookup x = some .local := by first | exact .inl rfl | exact .inr rfl | assumption) : PG X (.Name x pos) (gName i) := by
  intro pins s σ H v u Q I r h
  exact wpAny_assign_Name (store_ok I hN hi hx r (fun s' I' => ⟨_, H, I', h⟩) hf)
noncomputable def gNil : TGs := fun vs σ H Q => vs = [] ∧ Q σ H
inductive gCons (t : TG) (u : TGs) (vs : List V) (σ : St) (H : Hp) (Q : (St → Hp → Prop)) : Prop
  | mk : ∀ v r, (vs = v :: r) → (t v σ H fun σ' H' => u r σ' H' Q) → gCons t u vs σ H Q
theorem pgs_nil : PGs X [] gNil := by
  intro pins s σ H vs us Q I r h
  obtain ⟨e, h⟩ := h
  subst e
  cases r
  exact assignInOrder_nil ⟨σ, H, I, h⟩
theorem pgs_cons {e : Expr} {es : List Expr} {t : TG} {u : TGs} (h1 : PG X e t) (h2 : PGs X es u)
    (hs : (assignEach (e :: es) X.env).map (·.2) = assign e X.env :: (assignEach es X.env).map (·.2) := by rfl) : PGs X (e :: es) (gCons t u) := by
  intro pins s σ H vs us Q I r h
  obtain ⟨v, vr, e1, h⟩ := h
  subst e1
  cases r with
  | cons r rr =>
    rw [hs]
    refine assignInOrder_cons (thn (h1 pins s σ H _ _ _ I r h) fun _ s1 ⟨σ1, H1, I1, q1⟩ => ?_)
    exact h2 pins s1 σ1 H1 _ _ Q I1 rr q1
inductive gTup (K : PySem.W.Frag) (n : Nat) (t : TGs) (v : V) (σ : St) (H : Hp) (Q : (St → Hp → Prop)) : Prop
  | mk : ∀ a xs, (v = .ref a) → (SqT K H a xs) → (xs.length = n) → (t xs σ H Q) → gTup K n t v σ H Q
theorem pg_tup {es : List Expr} {k : Nat} {t : TGs} {n : Nat} (hc : X.calm = true) (h : PGs X es t)
    (hn : (assignEach es X.env).length = n := by rfl) (hst : (assignEach es X.env).findIdx? (·.1) = none := by rfl) : PG X (.Tuple es k pos) (gTup X.K n t) := by
  intro pins s σ H v u Q I r hw
  obtain ⟨a, xs, e1, hq, hl, hw⟩ := hw
  subst e1
  cases r
  obtain ⟨its, rv, ht, hz⟩ := I.tuple hq
  refine assign_Tuple_tuple (I.ok.hd hc) ht (by simp [hn, ← hl, rv.length]) hst fun h' hx => ?_
  have I1 : Inv X pins σ H { s with heap := h' } := I.kept (t' := s.toks) fun b o e => hx b o (Nat.ne_of_lt (Heap.lt_size e)) e
  exact h pins _ σ H xs _ Q I1 (by simpa using rv) hw
noncomputable def gSub (to ti : TE) (t : TSet) : TG := fun v σ H Q => to σ H fun o H1 => ti σ H1 fun i H2 => t o i v H2 fun H3 => Q σ H3
theorem pg_sub {o i : Expr} {to ti : TE} {t : TSet} (ho : PE X o to) (hi : PE X i ti) (hs : PSet X t)
    (ha : ∀ v, assign (.Subscript o i pos) X.env v = (do
      let ov ← holding [v] (eval o X.env)
      let iv ← holding [v, ov] (eval i X.env)
      standAt pos
      holding [v, ov, iv] (setItem ov iv v)
      release [v, ov, iv] []) := by intro _; rfl) : PG X (.Subscript o i pos) (gSub to ti t) := by
  intro pins s σ H v u Q I r h
  rw [ha]
  refine wpAny_bind (wpAny_holding (thn (ho pins s σ H _ I h) fun ov s1 ⟨x, H1, I1, r1, q1⟩ => ?_))
  refine wpAny_bind (wpAny_holding (thn (hi pins s1 σ H1 _ I1 q1) fun iv s2 ⟨y, H2, I2, r2, q2⟩ => ?_))
  refine wpAny_bind (wpAny_standAt (wpAny_bind (wpAny_holding (thn (hs pins s2 σ H2 x y v ov iv u _ I2 r1 r2 r q2) fun _ s3 ⟨H3, I3, q3⟩ => ?_))))
  exact wpAny_release ⟨σ, H3, I3, q3⟩
noncomputable def tAsg (te : TE) (g : TG) : TS := fun D σ H => te σ H fun x H1 => g x σ H1 D.nx
theorem ps_asg {tg e : Expr} {te : TE} {g : TG} (he : PE X e te) (hg : PG X tg g) (hs : swapsWithSole [tg] e pos.line X.env = pure false := by rfl) (hw : swappedStores [tg] e X.env = pure none := by rfl)
    (h1 : (assignEach [tg] X.env).map (·.2) = [assign tg X.env] := by rfl) : PS X (.Assign [tg] e pos) (tAsg te g) := by
  intro pins s σ H D I h
  refine wpAny_Assign_stores (thn (he pins s σ H _ I h) fun v s1 ⟨x, H1, I1, r1, q1⟩ => ?_) hs hw
  rw [h1]
  exact thn (hg pins s1 σ H1 x v _ I1 r1 q1) fun _ s2 q => q
theorem ps_set {i : Nat} {x : Str} {e : Expr} {te : TE} {pos' : Pos} (hN : X.N.Nodup) (hi : X.N[i]? = some x) (hx : Loc X.env.scope x) (he : PE X e te) (hs : swapsWith e (some (.Name x pos')) pos.line X.env = pure false := by rfl) (hf : X.fn x = true ∨ X.env.scope.names.lookup x = some .local := by first | exact .inl rfl | exact .inr rfl | assumption) :
    PS X (.Assign [.Name x pos'] e pos) (tAsg te (gName i)) := by
  intro pins s σ H D I h
  refine wpAny_Assign_Name (thn (he pins s σ H _ I h) fun v s1 ⟨y, H1, I1, r1, q1⟩ => ?_) hs
  exact store_ok I1 hN hi hx r1 (fun s2 I2 => ⟨_, H1, I2, q1⟩) hf
end
section
variable {X : Cx} {pos : Pos}
inductive tWhile (c : TT) (tb : TS) (D : Ends) (σ : St) (H : Hp) : Prop
  | mk : ∀ (W : Nat → St → Hp → Prop), ((∃ m, W m σ H)) → (∀ m σ H, W m σ H → c σ H fun b H1 => if b = true then ∃ N : St → Hp → Prop, (∀ σ' H', N σ' H' → ∃ m', m' < m ∧ W m' σ' H') ∧ tb { D with nx := N, ct := N, bk := D.nx } σ H1 else D.nx σ H1) → tWhile c tb D σ H
theorem ps_while {c : Expr} {body : List Stmt} {tc : TT} {tb : TS} (hp : PassesOwn (model X.prog X.w) X.A X.env X.xe) (hc : PT X c tc) (hb : PSs X body tb) : PS X (.While c body [] pos) (tWhile tc tb) := by
  intro pins s σ H D I h
  obtain ⟨W, ⟨m0, w0⟩, turn⟩ := h
  refine wpAny_While (codeAny_whileLoop (fun n s' => ∃ σ' H', Inv X pins σ' H' s' ∧ W n σ' H') ?_ m0 ⟨σ, H, I, w0⟩)
  rintro n s1 ⟨σ1, H1, I1, w1⟩
  refine wpAny_passesOwn hp (thn (hc pins s1 σ1 H1 _ I1 (turn n σ1 H1 w1)) fun b s2 ⟨H2, I2, q2⟩ => ?_)
  cases b with
  | true =>
    obtain ⟨N, hN, q2⟩ := q2
    rw [if_pos rfl]
    refine wpAny_passesOwn hp (thn (hb pins s2 σ1 H2 _ I2 q2) fun f s3 q3 => ?_)
    cases f with
    | next =>
      obtain ⟨σ3, H3, I3, n3⟩ := q3
      obtain ⟨m', hm, w3⟩ := hN σ3 H3 n3
      exact ⟨m', hm, σ3, H3, I3, w3⟩
    | cont =>
      obtain ⟨σ3, H3, I3, n3⟩ := q3
      obtain ⟨m', hm, w3⟩ := hN σ3 H3 n3
      exact ⟨m', hm, σ3, H3, I3, w3⟩
    | brk => exact q3
    | ret v => exact q3
  | false =>
    rw [if_neg Bool.false_ne_true]
    exact wpAny_execs_nil ⟨σ1, H2, I2, q2⟩
end
structure It where
  go : Nat → Hp → Prop
  yld : Nat → Hp → V → Hp → Prop
  stop : Nat → Hp → Prop
noncomputable def FpOk (X : Cx) (pins : List (Addr × Obj)) (H : Hp) (b : Addr) : Prop :=
  H b = none ∧ b ≠ X.env.locals ∧ b ∉ X.fs ∧ (b ∈ X.ex ∨ X.s₀.heap.objs.size ≤ b) ∧ (∀ x c, X.env.cells.lookup x = some c → c ≠ b) ∧ ∀ p ∈ X.pn ++ pins, p.1 ≠ b
theorem Inv.fpOk {X : Cx} {pins : List (Addr × Obj)} {σ : St} {H H' : Hp} {s : Shared} {b : Addr} (I : Inv X pins σ H s) (hb : s.heap.objs.size ≤ b) (hn : H' b = none) : FpOk X pins H' b := by
  refine ⟨hn, Nat.ne_of_gt (Nat.lt_of_lt_of_le I.lt hb), I.nofs hb, .inr (Nat.le_trans I.sz hb), fun x c e z => ?_, fun p hp z => ?_⟩
  · obtain ⟨v, q⟩ := I.cell x c e
    exact absurd (Nat.lt_of_lt_of_le q.lt (by rw [z]; exact hb)) (Nat.lt_irrefl _)
  · exact absurd (Nat.lt_of_lt_of_le (Heap.lt_size (I.pin p hp).1) (by rw [z]; exact hb)) (Nat.lt_irrefl _)
structure Turn (P : Program) (w : World) (K : PySem.W.Frag) (tg : Expr) (J : It) (fp : List Addr) (it : Addr) (tn : Nat → Heap → Prop) : Prop where
  mem : it ∈ fp
  obj : ∀ i h, tn i h → ∀ b ∈ fp, ∃ o, h.get? b = some o ∧ ∀ v, o.data ≠ .cell v
  keep : ∀ i h h', tn i h → (∀ b ∈ fp, ∀ o, h.get? b = some o → h'.get? b = some o) → tn i h'
  item : ∀ (X : Cx), X.prog = P → X.w = w → X.K = K → X.calm = true → ∀ (i : Nat) (pins : List (Addr × Obj)) (s : Shared) (σ : St) (H : Hp) (E : Value → Shared → Prop), Inv X pins σ H s → (∀ b ∈ fp, FpOk X pins H b) → tn i s.heap → J.go i H →
    wpAny (model P w) X.A (pyNext (.ref it)) (fun r s1 => ∃ u, r = some u ∧
      wpAny (model P w) X.A (letOwnedTupleGo tg (.ref it) u) (fun _ s2 => ∃ x H', Inv X pins σ H' s2 ∧ RelV x u ∧ J.yld i H x H' ∧ tn (i + 1) s2.heap ∧ ∀ b ∈ fp, H' b = none) E s1) E s
  done : ∀ (X : Cx), X.prog = P → X.w = w → X.K = K → X.calm = true → ∀ (i : Nat) (pins : List (Addr × Obj)) (s : Shared) (σ : St) (H : Hp) (E : Value → Shared → Prop), Inv X pins σ H s → (∀ b ∈ fp, FpOk X pins H b) → tn i s.heap → J.stop i H →
    wpAny (model P w) X.A (pyNext (.ref it)) (fun r s1 => r = none ∧ Inv X pins σ H s1) E s
  self : ∀ (A : Around) (i : Nat) (s : Shared) (Q : Value → Shared → Prop) (E : Value → Shared → Prop), tn i s.heap → Q (.ref it) s → wpAny (model P w) A (pyIter (.ref it)) Q E s
noncomputable abbrev TI := St → Hp → (It → Hp → Prop) → Prop
inductive PIE (X : Cx) (pins : List (Addr × Obj)) (σ : St) (tg : Expr) (R : It → Hp → Prop) (itv : Value) (s2 : Shared) : Prop
  | mk : ∀ (it : Addr) (fp : List Addr) (tn : Nat → Heap → Prop) (J : It) (H' : Hp), (itv = .ref it) → (Inv X pins σ H' s2) → (Turn X.prog X.w X.K tg J fp it tn) → (tn 0 s2.heap) → ((∀ b ∈ fp, FpOk X pins H' b)) → (R J H') → PIE X pins σ tg R itv s2
noncomputable def PI (X : Cx) (tg iter : Expr) (wi : TI) : Prop :=
  ∀ (pins : List (Addr × Obj)) (s : Shared) (σ : St) (H : Hp) (R : It → Hp → Prop), Inv X pins σ H s → wi σ H R →
    wpAny (model X.prog X.w) X.A (eval iter X.env) (fun v s1 => wpAny (model X.prog X.w) X.A (pyIter v) (PIE X pins σ tg R) X.xe s1) X.xe s
theorem go_of {M : Model} {A : Around} {E : Value → Shared → Prop} {s : Shared} {tg : Expr} {it : Addr} {u : Value} {o : Obj} {n : String} {vs : Array Value} {Q : Unit → Shared → Prop} (ho : s.heap.get? it = some o) (hc : o.cls = .type n) (hd : o.data = .fields vs)
    (hn : ["enumerate", "zip", "dict_itemiterator", "dict_reverseitemiterator", "odict_iterator", "itertools.zip_longest", "itertools.pairwise"].contains n = false) (hQ : Q () s) : wpAny M A (letOwnedTupleGo tg (.ref it) u) Q E s := by
  unfold letOwnedTupleGo
  cases tg <;> first
    | exact wpAny_pure hQ
    | (cases u <;> first
        | exact wpAny_pure hQ
        | (refine wpAny_bind (wpAny_load ho ?_)
           rw [hc, hd]
           show wpAny M A (if (["enumerate", "zip", "dict_itemiterator", "dict_reverseitemiterator", "odict_iterator", "itertools.zip_longest", "itertools.pairwise"].contains n && vs[0]? == some (rawInt _)) = true then _ else _) Q E s
           rw [if_neg (by intro h; rw [hn, Bool.false_and] at h; cases h)]
           exact wpAny_pure hQ))
noncomputable def Itl (K : PySem.W.Frag) (a : Addr) : It :=
  ⟨fun i H => ∃ xs x, SqL K H a xs ∧ xs[i]? = some x, fun i H x H' => H' = H ∧ ∀ xs, SqL K H a xs → xs[i]? = some x, fun i H => ∃ xs, SqL K H a xs ∧ xs.length ≤ i⟩
noncomputable def Itt (K : PySem.W.Frag) (a : Addr) : It :=
  ⟨fun i H => ∃ xs x, SqT K H a xs ∧ xs[i]? = some x, fun i H x H' => H' = H ∧ ∀ xs, SqT K H a xs → xs[i]? = some x, fun i H => ∃ xs, SqT K H a xs ∧ xs.length ≤ i⟩
noncomputable def Itr (lo : Int) (n : Nat) : It := ⟨fun i _ => i < n, fun i H x H' => H' = H ∧ x = .int (lo + i), fun i _ => n ≤ i⟩
theorem turn_list {P : Program} {w : World} {K : PySem.W.Frag} {tg : Expr} (a it : Addr) : Turn P w K tg (Itl K a) [it] it (fun i h => h.IsListIter it a i) where
  mem := by simp
  obj := fun i h st b hb => by
    have e : b = it := by simpa using hb
    subst e
    obtain ⟨o, e, c, d⟩ := st
    exact ⟨o, e, fun v z => by rw [d] at z; cases z⟩
  keep := fun i h h' st k => st.at fun o e => k it (by simp) o e
  item := by
    intro X hP hw hK hc i pins s σ H E I hf st hg
    subst hP hw hK
    obtain ⟨xs, x, hq, hx⟩ := hg
    obtain ⟨its, rv, p, hz⟩ := I.list hq
    obtain ⟨u, hu, ru⟩ := rv.get hx
    obtain ⟨f0, f1, f2, f3, f4, f5⟩ := hf it (by simp)
    refine wpAny_pyNext_list_item st p.isList (x := u) (by simpa using hu) fun h' st' sb => ?_
    have I1 : Inv X pins σ H { s with heap := h' } := I.turned (t' := s.toks) (fun b o hb e => (sb.2 b hb).trans e) f0 f1 f3 f4 f5
    obtain ⟨o, e, c, d⟩ := id st'
    exact ⟨u, rfl, go_of (s := { s with heap := h' }) e c d (by decide) ⟨x, H, I1, ru, ⟨rfl, fun ys hy => by rw [I.list_inj hy hq]; exact hx⟩, st', fun b hb => (hf b hb).1⟩⟩
  done := by
    intro X hP hw hK hc i pins s σ H E I hf st hg
    subst hP hw hK
    obtain ⟨xs, hq, hx⟩ := hg
    obtain ⟨its, rv, p, hz⟩ := I.list hq
    obtain ⟨f0, f1, f2, f3, f4, f5⟩ := hf it (by simp)
    have hl := rv.length
    exact wpAny_pyNext_list_end (I.ok.hd hc) st p.isList (by simp; lia) fun h' eb => ⟨rfl, I.turned (t' := s.toks) (fun b o hb e => eb b o hb e) f0 f1 f3 f4 f5⟩
  self := fun _ _ _ _ _ st h => wpAny_pyIter_listiter st h
theorem turn_tuple {P : Program} {w : World} {K : PySem.W.Frag} {tg : Expr} (a it : Addr) : Turn P w K tg (Itt K a) [it] it (fun i h => h.IsTupleIter it a i) where
  mem := by simp
  obj := fun i h st b hb => by
    have e : b = it := by simpa using hb
    subst e
    obtain ⟨o, e, c, d⟩ := st
    exact ⟨o, e, fun v z => by rw [d] at z; cases z⟩
  keep := fun i h h' st k => st.at fun o e => k it (by simp) o e
  item := by
    intro X hP hw hK hc i pins s σ H E I hf st hg
    subst hP hw hK
    obtain ⟨xs, x, hq, hx⟩ := hg
    obtain ⟨its, rv, p, hz⟩ := I.tuple hq
    obtain ⟨u, hu, ru⟩ := rv.get hx
    obtain ⟨f0, f1, f2, f3, f4, f5⟩ := hf it (by simp)
    refine wpAny_pyNext_tuple_item st (show s.heap.IsTuple a its.toArray from p) (x := u) (by simpa using hu) fun h' st' sb => ?_
    have I1 : Inv X pins σ H { s with heap := h' } := I.turned (t' := s.toks) (fun b o hb e => (sb.2 b hb).trans e) f0 f1 f3 f4 f5
    obtain ⟨o, e, c, d⟩ := id st'
    exact ⟨u, rfl, go_of (s := { s with heap := h' }) e c d (by decide) ⟨x, H, I1, ru, ⟨rfl, fun ys hy => by rw [I.tuple_inj hy hq]; exact hx⟩, st', fun b hb => (hf b hb).1⟩⟩
  done := by
    intro X hP hw hK hc i pins s σ H E I hf st hg
    subst hP hw hK
    obtain ⟨xs, hq, hx⟩ := hg
    obtain ⟨its, rv, p, hz⟩ := I.tuple hq
    obtain ⟨f0, f1, f2, f3, f4, f5⟩ := hf it (by simp)
    have hl := rv.length
    exact wpAny_pyNext_tuple_end (I.ok.hd hc) st (show s.heap.IsTuple a its.toArray from p) (by simp; lia) fun h' eb => ⟨rfl, I.turned (t' := s.toks) (fun b o hb e => eb b o hb e) f0 f1 f3 f4 f5⟩
  self := fun _ _ _ _ _ st h => wpAny_pyIter_tupleiter st h
theorem turn_range {P : Program} {w : World} {K : PySem.W.Frag} {tg : Expr} (it : Addr) (lo : Int) (n : Nat) : Turn P w K tg (Itr lo n) [it] it (fun i h => IsRangeIter h it (lo + (i : Nat) * 1) ((n : Int) - (i : Nat)) 1) where
  mem := by simp
  obj := fun i h st b hb => by
    have e : b = it := by simpa using hb
    subst e
    exact ⟨_, st, fun v z => by
      have z' : Data.fields _ = Data.cell v := z
      cases z'⟩
  keep := fun i h h' st k => k it (by simp) _ st
  item := by
    intro X hP hw hK hc i pins s σ H E I hf st hg
    subst hP hw hK
    obtain ⟨f0, f1, f2, f3, f4, f5⟩ := hf it (by simp)
    have W := Walks.range (prog := X.prog) (w := X.w) (I.ok.hd hc) it lo 1 n
    refine W.item i s _ _ hg st fun v h' tk hv st' kk => ?_
    obtain ⟨t, rfl⟩ := hv
    have I1 : Inv X pins σ H { s with heap := h', toks := tk } := I.turned (fun b o hb e => kk b o (by simpa using hb) e) f0 f1 f3 f4 f5
    refine ⟨_, rfl, go_of (s := { s with heap := h', toks := tk }) (n := "range_iterator") st' rfl rfl (by decide) ⟨.int (lo + i), H, I1, ⟨t, ?_⟩, ⟨rfl, rfl⟩, st', fun b hb => (hf b hb).1⟩⟩
    rw [Int.mul_one]
  done := by
    intro X hP hw hK hc i pins s σ H E I hf st hg
    subst hP hw hK
    obtain ⟨f0, f1, f2, f3, f4, f5⟩ := hf it (by simp)
    exact wpAny_pyNext_range_end (I.ok.hd hc) st (by have : n ≤ i := hg; lia) fun h' eb => ⟨rfl, I.turned (t' := s.toks) (fun b o hb e => eb b o hb e) f0 f1 f3 f4 f5⟩
  self := fun _ _ _ _ _ st h => wpAny_pyIter_rangeiter st h
end L2
namespace L2
open PySem PySem.Spec PyProof.Rows
section
variable {X : Cx} {tg : Expr}
noncomputable def iList (K : PySem.W.Frag) (tl : TE) : TI := fun σ H R => tl σ H fun x H1 => ∃ a, x = .ref a ∧ (∃ xs, SqL K H1 a xs) ∧ R (Itl K a) H1
noncomputable def iTup (K : PySem.W.Frag) (tl : TE) : TI := fun σ H R => tl σ H fun x H1 => ∃ a, x = .ref a ∧ (∃ xs, SqT K H1 a xs) ∧ R (Itt K a) H1
theorem pi_list {l : Expr} {tl : TE} (hl : PE X l tl) : PI X tg l (iList X.K tl) := by
  intro pins s σ H R I h
  refine thn (hl pins s σ H _ I h) fun v s1 ⟨x, H1, I1, r1, q1⟩ => ?_
  obtain ⟨a, e, ⟨xs, hq⟩, q⟩ := q1
  subst e
  cases r1
  obtain ⟨its, rv, p, hz⟩ := I1.list hq
  refine wpAny_pyIter_list p.isList ?_
  refine ⟨s1.heap.objs.size, [s1.heap.objs.size], _, _, H1, rfl, I1.kept (t' := s1.toks) fun b o e => Heap.get?_push_of_some _ e, turn_list a _, ⟨_, Heap.get?_push_size _ rfl, rfl, rfl⟩, fun b hb => ?_, q⟩
  have e : b = s1.heap.objs.size := by simpa using hb
  subst e
  exact I1.fpOk (Nat.le_refl _) (I1.hok.fresh (Nat.le_refl _))
theorem pi_tup {l : Expr} {tl : TE} (hl : PE X l tl) : PI X tg l (iTup X.K tl) := by
  intro pins s σ H R I h
  refine thn (hl pins s σ H _ I h) fun v s1 ⟨x, H1, I1, r1, q1⟩ => ?_
  obtain ⟨a, e, ⟨xs, hq⟩, q⟩ := q1
  subst e
  cases r1
  obtain ⟨its, rv, p, hz⟩ := I1.tuple hq
  refine wpAny_pyIter_tuple (show s1.heap.IsTuple a its.toArray from p) ?_
  refine ⟨s1.heap.objs.size, [s1.heap.objs.size], _, _, H1, rfl, I1.kept (t' := s1.toks) fun b o e => Heap.get?_push_of_some _ e, turn_tuple a _, ⟨_, Heap.get?_push_size _ rfl, rfl, rfl⟩, fun b hb => ?_, q⟩
  have e : b = s1.heap.objs.size := by simpa using hb
  subst e
  exact I1.fpOk (Nat.le_refl _) (I1.hok.fresh (Nat.le_refl _))
theorem range_it {pins : List (Addr × Obj)} {σ : St} {H : Hp} {s : Shared} {R : It → Hp → Prop} {E : Value → Shared → Prop} {lo hi : Int} {t u v : Tok} {tk : Nat} (I : Inv X pins σ H s) (h1 : -(2 ^ 62) ≤ lo) (h2 : lo < 2 ^ 62) (h3 : -(2 ^ 62) ≤ hi) (h4 : hi < 2 ^ 62)
    (q : R (Itr lo (hi - lo).toNat) H) : wpAny (model X.prog X.w) X.A (pyIter (.ref s.heap.objs.size)) (PIE X pins σ tg R) E { s with heap := s.heap.push { cls := .type "range", data := .fields #[.int lo t, .int hi u, .int 1 v] }, toks := tk } := by
  refine wpAny_pyIter_range (IsRange.new ..) (small_one h1 h2 h3 h4) ?_
  have I1 : Inv X pins σ H { s with heap := s.heap.push { cls := .type "range", data := .fields #[.int lo t, .int hi u, .int 1 v] }, toks := tk } := I.kept fun b o e => Heap.get?_push_of_some _ e
  refine ⟨(s.heap.push { cls := .type "range", data := .fields #[.int lo t, .int hi u, .int 1 v] }).objs.size, [(s.heap.push { cls := .type "range", data := .fields #[.int lo t, .int hi u, .int 1 v] }).objs.size], _, _, H, rfl,
    I1.kept (t' := tk) fun b o e => Heap.get?_push_of_some _ e, turn_range _ lo (hi - lo).toNat, ?_, fun b hb => ?_, q⟩
  · have e1 : lo + ((0 : Nat) : Int) * 1 = lo := by simp
    have e2 : (((hi - lo).toNat : Nat) : Int) - ((0 : Nat) : Int) = Builtin.Range.rangeSize lo hi 1 := by rw [rangeSize_one]; split <;> lia
    show IsRangeIter _ _ (lo + ((0 : Nat) : Int) * 1) ((((hi - lo).toNat : Nat) : Int) - ((0 : Nat) : Int)) 1
    rw [e1, e2]
    exact Heap.get?_push_size _ rfl
  · have e : b = (s.heap.push { cls := .type "range", data := .fields #[.int lo t, .int hi u, .int 1 v] }).objs.size := by simpa using hb
    subst e
    exact I1.fpOk (Nat.le_refl _) (I1.hok.fresh (Nat.le_refl _))
noncomputable def iRng1 (ta : TA) : TI := fun σ H R => ta σ H fun vs H1 => ∃ j : Int, vs = [.int j] ∧ -(2 ^ 62) ≤ j ∧ j < 2 ^ 62 ∧ R (Itr 0 j.toNat) H1
noncomputable def iRng2 (ta : TA) : TI := fun σ H R => ta σ H fun vs H1 => ∃ i j : Int, vs = [.int i, .int j] ∧ (-(2 ^ 62) ≤ i ∧ i < 2 ^ 62 ∧ -(2 ^ 62) ≤ j ∧ j < 2 ^ 62) ∧ R (Itr i (j - i).toNat) H1
theorem pi_range1 {a : Expr} {ta : TA} {p pos : Pos} (hg : Gl X "range") (hm : X.mg "range" = none) (ha : PA X [a] ta) (hs : starEach [a] X.env = [(false, eval a X.env)] := by rfl) : PI X tg (.Call (.Name "range" p) [a] [] pos) (iRng1 ta) := by
  intro pins s σ H R I h
  refine Call_ (ld_blt I hg hm boot_range (PyProof.Rows.callWith_type1 (thn (ha pos pins s σ H _ I h) fun us s1 ⟨vs, H1, I1, r1, q1⟩ => ?_) hs rfl))
  obtain ⟨j, e, q1, q2, q⟩ := q1
  subst e
  cases r1 with
  | cons r rr =>
    cases rr
    obtain ⟨t, rfl⟩ := r
    exact call_range_1 (range_it I1 (by lia) (by lia) q1 q2 (by simpa using q))
theorem pi_range2 {a b : Expr} {ta : TA} {p pos : Pos} (hg : Gl X "range") (hm : X.mg "range" = none) (ha : PA X [a, b] ta) (hs : starEach [a, b] X.env = [(false, eval a X.env), (false, eval b X.env)] := by rfl) (hs2 : starEach [b] X.env = [(false, eval b X.env)] := by rfl) :
    PI X tg (.Call (.Name "range" p) [a, b] [] pos) (iRng2 ta) := by
  intro pins s σ H R I h
  refine Call_ (ld_blt I hg hm boot_range (PyProof.Rows.callWith_type1 (thn (ha pos pins s σ H _ I h) fun us s1 ⟨vs, H1, I1, r1, q1⟩ => ?_) (by rw [hs, hs2]) (by rw [hs2]; rfl)))
  obtain ⟨i, j, e, ⟨q1, q2, q3, q4⟩, q⟩ := q1
  subst e
  cases r1 with
  | cons r rr =>
    cases rr with
    | cons r' rr =>
      cases rr
      obtain ⟨t, rfl⟩ := r
      obtain ⟨t', rfl⟩ := r'
      exact call_range_2 (range_it I1 q1 q2 q3 q4 q)
noncomputable def tFor (wi : TI) (g : TG) (tb : TS) : TS := fun D σ H => wi σ H fun J H1 => ∃ W : Nat → Nat → St → Hp → Prop, (∃ m, W 0 m σ H1) ∧ ∀ i m σ H, W i m σ H →
  (J.stop i H ∧ D.nx σ H) ∨ (J.go i H ∧ ∃ N : St → Hp → Prop, (∀ σ' H', N σ' H' → ∃ m', m' < m ∧ W (i + 1) m' σ' H') ∧ ∀ x H', J.yld i H x H' → g x σ H' fun σ2 H2 => tb { D with nx := N, ct := N, bk := D.nx } σ2 H2)
noncomputable def pinsAt (fp : List Addr) (h : Heap) : List (Addr × Obj) := fp.filterMap fun b => (h.get? b).map fun o => (b, o)
theorem mem_pinsAt {fp : List Addr} {h : Heap} {b : Addr} {o : Obj} (hb : b ∈ fp) (e : h.get? b = some o) : (b, o) ∈ pinsAt fp h := List.mem_filterMap.mpr ⟨b, hb, by rw [e]; rfl⟩
theorem of_pinsAt {fp : List Addr} {h : Heap} {p : Addr × Obj} (hp : p ∈ pinsAt fp h) : p.1 ∈ fp ∧ h.get? p.1 = some p.2 := by
  obtain ⟨b, hb, e⟩ := List.mem_filterMap.mp hp
  cases q : h.get? b with
  | none => rw [q] at e; cases e
  | some o =>
    rw [q] at e
    have e' : (b, o) = p := Option.some.inj e
    subst e'
    exact ⟨hb, q⟩
theorem Inv.pinned {pins : List (Addr × Obj)} {σ : St} {H : Hp} {s : Shared} {fp : List Addr} (I : Inv X pins σ H s) (hf : ∀ b ∈ fp, FpOk X pins H b) (ho : ∀ b ∈ fp, ∃ o, s.heap.get? b = some o ∧ ∀ v, o.data ≠ .cell v) : Inv X (pins ++ pinsAt fp s.heap) σ H s :=
  I.pins_of fun p hp => (List.mem_append.mp hp).elim (fun z => I.pin p (List.mem_append_right _ z)) fun z => by
    obtain ⟨hb, e⟩ := of_pinsAt z
    obtain ⟨f0, f1, f2, _⟩ := hf p.1 hb
    obtain ⟨o, e', d⟩ := ho p.1 hb
    rw [e] at e'; cases e'
    exact ⟨e, f0, f1, f2, d⟩
theorem Inv.unpinned {pins pl : List (Addr × Obj)} {σ : St} {H : Hp} {s : Shared} (I : Inv X (pins ++ pl) σ H s) : Inv X pins σ H s := I.pins_of fun p hp => I.pin p (List.mem_append_right _ (List.mem_append_left _ hp))
theorem ps_for {iter : Expr} {body : List Stmt} {wi : TI} {g : TG} {tb : TS} {pos : Pos} (hp : PassesOwn (model X.prog X.w) X.A X.env X.xe) (hc : X.calm = true) (hi : PI X tg iter wi) (hg : PG X tg g) (hb : PSs X body tb)
    (hs : ∀ x, foldedSetIterable iter X.env x = pure x := by intro _; rfl) : PS X (.For tg iter body [] pos) (tFor wi g tb) := by
  intro pins s σ H D I h
  refine wpAny_For (thn (hi pins s σ H _ I h) fun v s1 h1 => thn h1 fun itv s2 h2 => ?_) hs
  obtain ⟨it, fp, tn, J, H2, e, I2, T, st2, f2, W, ⟨m0, w0⟩, turn⟩ := h2
  subst e
  have stat : ∀ {H' : Hp}, (∀ b ∈ fp, H' b = none) → ∀ b ∈ fp, FpOk X pins H' b := fun hn b hb => ⟨hn b hb, (f2 b hb).2⟩
  refine codeAny_forLoop_any (fun n s' => ∃ i σ' H', Inv X pins σ' H' s' ∧ tn i s'.heap ∧ (∀ b ∈ fp, H' b = none) ∧ W i n σ' H') ?_ m0 ⟨0, σ, H2, I2, st2, fun b hb => (f2 b hb).1, w0⟩
  rintro n s3 ⟨i, σ3, H3, I3, st3, fr3, w3⟩
  rcases turn i n σ3 H3 w3 with ⟨stop, qn⟩ | ⟨go, N, hN, step⟩
  · refine wpAny_passesOwn hp (thn (T.done X rfl rfl rfl hc i pins s3 σ3 H3 X.xe I3 (stat fr3) st3 stop) fun r s4 ⟨hr, I4⟩ => ?_)
    subst hr
    exact wpAny_execs_nil ⟨σ3, H3, I4, qn⟩
  · refine wpAny_passesOwn hp (thn (T.item X rfl rfl rfl hc i pins s3 σ3 H3 X.xe I3 (stat fr3) st3 go) fun r s4 ⟨u, hr, h4⟩ => ?_)
    subst hr
    refine wpAny_passesOwn hp (thn h4 fun _ s5 ⟨x, H5, I5, r5, y5, st5, fr5⟩ => ?_)
    have I5' := I5.pinned (stat fr5) (T.obj _ _ st5)
    refine wpAny_passesOwn hp (thn (hg _ s5 σ3 H5 x u _ I5' r5 (step x H5 y5)) fun _ s6 ⟨σ6, H6, I6, q6⟩ => ?_)
    refine wpAny_passesOwn hp (thn (hb _ s6 σ6 H6 _ I6 q6) fun f s7 q7 => ?_)
    have again : ∀ {σ7 : St} {H7 : Hp}, Inv X (pins ++ pinsAt fp s5.heap) σ7 H7 s7 → N σ7 H7 → ∃ m, m < n ∧ ∃ i σ' H', Inv X pins σ' H' s7 ∧ tn i s7.heap ∧ (∀ b ∈ fp, H' b = none) ∧ W i m σ' H' := fun {σ7 H7} I7 n7 => by
      obtain ⟨m', hm, w7⟩ := hN σ7 H7 n7
      refine ⟨m', hm, i + 1, σ7, H7, I7.unpinned, T.keep _ _ _ st5 fun b hb o e => (I7.pin (b, o) (List.mem_append_right _ (List.mem_append_right _ (mem_pinsAt hb e)))).1, fun b hb => ?_, w7⟩
      obtain ⟨o, e, d⟩ := T.obj _ _ st5 b hb
      exact (I7.pin (b, o) (List.mem_append_right _ (List.mem_append_right _ (mem_pinsAt hb e)))).2.1
    cases f with
    | next => obtain ⟨σ7, H7, I7, n7⟩ := q7; exact again I7 n7
    | cont => obtain ⟨σ7, H7, I7, n7⟩ := q7; exact again I7 n7
    | brk => obtain ⟨σ7, H7, I7, q7⟩ := q7; exact ⟨σ7, H7, I7.unpinned, q7⟩
    | ret v => obtain ⟨x7, σ7, H7, I7, r7, q7⟩ := q7; exact ⟨x7, σ7, H7, I7.unpinned, r7, q7⟩
end
theorem for_list {K : PySem.W.Frag} {a : Addr} {xs : List V} {g : TG} {tb : TS} {D : Ends} {σ : St} {H : Hp} (Pv : Nat → St → Hp → Prop) (h0 : Pv 0 σ H) (hl : ∀ i σ H, i ≤ xs.length → Pv i σ H → SqL K H a xs)
    (hs : ∀ i x σ H, xs[i]? = some x → Pv i σ H → g x σ H fun σ2 H2 => tb { D with nx := Pv (i + 1), ct := Pv (i + 1), bk := D.nx } σ2 H2) (hd : ∀ σ H, Pv xs.length σ H → D.nx σ H) :
    ∃ W : Nat → Nat → St → Hp → Prop, (∃ m, W 0 m σ H) ∧ ∀ i m σ H, W i m σ H →
      ((Itl K a).stop i H ∧ D.nx σ H) ∨ ((Itl K a).go i H ∧ ∃ N : St → Hp → Prop, (∀ σ' H', N σ' H' → ∃ m', m' < m ∧ W (i + 1) m' σ' H') ∧ ∀ x H', (Itl K a).yld i H x H' → g x σ H' fun σ2 H2 => tb { D with nx := N, ct := N, bk := D.nx } σ2 H2) := by
  refine ⟨fun i m σ H => m = xs.length - i ∧ i ≤ xs.length ∧ Pv i σ H, ⟨xs.length, by simp, Nat.zero_le _, h0⟩, ?_⟩
  rintro i m σ H ⟨rfl, hi, p⟩
  have q := hl i σ H hi p
  by_cases hlt : i < xs.length
  · refine .inr ⟨⟨xs, xs[i], q, by simp [hlt]⟩, Pv (i + 1), fun σ' H' p' => ⟨xs.length - (i + 1), by lia, rfl, hlt, p'⟩, fun x H' y => ?_⟩
    obtain ⟨e, y⟩ := y
    subst e
    exact hs i x σ _ (y xs q) p
  · have e : i = xs.length := by lia
    subst e
    exact .inl ⟨⟨xs, q, Nat.le_refl _⟩, hd σ H p⟩
theorem for_tup {K : PySem.W.Frag} {a : Addr} {xs : List V} {g : TG} {tb : TS} {D : Ends} {σ : St} {H : Hp} (Pv : Nat → St → Hp → Prop) (h0 : Pv 0 σ H) (hl : ∀ i σ H, i ≤ xs.length → Pv i σ H → SqT K H a xs)
    (hs : ∀ i x σ H, xs[i]? = some x → Pv i σ H → g x σ H fun σ2 H2 => tb { D with nx := Pv (i + 1), ct := Pv (i + 1), bk := D.nx } σ2 H2) (hd : ∀ σ H, Pv xs.length σ H → D.nx σ H) :
    ∃ W : Nat → Nat → St → Hp → Prop, (∃ m, W 0 m σ H) ∧ ∀ i m σ H, W i m σ H →
      ((Itt K a).stop i H ∧ D.nx σ H) ∨ ((Itt K a).go i H ∧ ∃ N : St → Hp → Prop, (∀ σ' H', N σ' H' → ∃ m', m' < m ∧ W (i + 1) m' σ' H') ∧ ∀ x H', (Itt K a).yld i H x H' → g x σ H' fun σ2 H2 => tb { D with nx := N, ct := N, bk := D.nx } σ2 H2) := by
  refine ⟨fun i m σ H => m = xs.length - i ∧ i ≤ xs.length ∧ Pv i σ H, ⟨xs.length, by simp, Nat.zero_le _, h0⟩, ?_⟩
  rintro i m σ H ⟨rfl, hi, p⟩
  have q := hl i σ H hi p
  by_cases hlt : i < xs.length
  · refine .inr ⟨⟨xs, xs[i], q, by simp [hlt]⟩, Pv (i + 1), fun σ' H' p' => ⟨xs.length - (i + 1), by lia, rfl, hlt, p'⟩, fun x H' y => ?_⟩
    obtain ⟨e, y⟩ := y
    subst e
    exact hs i x σ _ (y xs q) p
  · have e : i = xs.length := by lia
    subst e
    exact .inl ⟨⟨xs, q, Nat.le_refl _⟩, hd σ H p⟩
theorem for_range {lo : Int} {n : Nat} {g : TG} {tb : TS} {D : Ends} {σ : St} {H : Hp} (Pv : Nat → St → Hp → Prop) (h0 : Pv 0 σ H)
    (hs : ∀ i σ H, i < n → Pv i σ H → g (.int (lo + i)) σ H fun σ2 H2 => tb { D with nx := Pv (i + 1), ct := Pv (i + 1), bk := D.nx } σ2 H2) (hd : ∀ σ H, Pv n σ H → D.nx σ H) :
    ∃ W : Nat → Nat → St → Hp → Prop, (∃ m, W 0 m σ H) ∧ ∀ i m σ H, W i m σ H →
      ((Itr lo n).stop i H ∧ D.nx σ H) ∨ ((Itr lo n).go i H ∧ ∃ N : St → Hp → Prop, (∀ σ' H', N σ' H' → ∃ m', m' < m ∧ W (i + 1) m' σ' H') ∧ ∀ x H', (Itr lo n).yld i H x H' → g x σ H' fun σ2 H2 => tb { D with nx := N, ct := N, bk := D.nx } σ2 H2) := by
  refine ⟨fun i m σ H => m = n - i ∧ i ≤ n ∧ Pv i σ H, ⟨n, by simp, Nat.zero_le _, h0⟩, ?_⟩
  rintro i m σ H ⟨rfl, hi, p⟩
  by_cases hlt : i < n
  · refine .inr ⟨hlt, Pv (i + 1), fun σ' H' p' => ⟨n - (i + 1), by lia, rfl, hlt, p'⟩, fun x H' y => ?_⟩
    obtain ⟨e, y⟩ := y
    subst e y
    exact hs i σ _ hlt p
  · have e : i = n := by lia
    subst e
    exact .inl ⟨Nat.le_refl _, hd σ H p⟩
theorem while_by {c : TT} {tb : TS} {D : Ends} {σ : St} {H : Hp} (Pv : St → Hp → Prop) (μ : St → Hp → Nat) (h0 : Pv σ H)
    (hs : ∀ σ H, Pv σ H → c σ H fun b H1 => if b = true then tb { D with nx := fun σ' H' => Pv σ' H' ∧ μ σ' H' < μ σ H, ct := fun σ' H' => Pv σ' H' ∧ μ σ' H' < μ σ H, bk := D.nx } σ H1 else D.nx σ H1)
    (mono : ∀ σ H Q Q', (∀ b H1, Q b H1 → Q' b H1) → c σ H Q → c σ H Q') : tWhile c tb D σ H := by
  refine ⟨fun m σ H => m = μ σ H ∧ Pv σ H, ⟨_, rfl, h0⟩, ?_⟩
  rintro m σ H ⟨rfl, p⟩
  refine mono σ H _ _ (fun b H1 q => ?_) (hs σ H p)
  cases b with
  | true => exact ⟨_, fun σ' H' ⟨p', l⟩ => ⟨_, l, rfl, p'⟩, q⟩
  | false => exact q
end L2
namespace L2
open PySem PySem.Spec PyProof.Rows
noncomputable abbrev R2 := V → V → Hp → VK → Prop
noncomputable def OpR (X : Cx) (f : Value → Value → Sem Value) (r : R2) : Prop :=
  ∀ (pins : List (Addr × Obj)) (s : Shared) (σ : St) (H : Hp) (x y : V) (v u : Value) (Q : VK), Inv X pins σ H s → RelV x v → RelV y u → r x y H Q →
    wpAny (model X.prog X.w) X.A (f v u) (EP X pins σ Q) X.xe s
noncomputable def UnR (X : Cx) (f : Value → Sem Value) (r : V → Hp → VK → Prop) : Prop :=
  ∀ (pins : List (Addr × Obj)) (s : Shared) (σ : St) (H : Hp) (x : V) (v : Value) (Q : VK), Inv X pins σ H s → RelV x v → r x H Q →
    wpAny (model X.prog X.w) X.A (f v) (EP X pins σ Q) X.xe s
noncomputable def CallR (X : Cx) (f : Value) (r : List V → Hp → VK → Prop) : Prop :=
  ∀ (pins : List (Addr × Obj)) (s : Shared) (σ : St) (H : Hp) (xs : List V) (us : List Value) (Q : VK), Inv X pins σ H s → Vals xs us → r xs H Q →
    wpAny (model X.prog X.w) X.A (call f us) (EP X pins σ Q) X.xe s
noncomputable def tOp (r : R2) (ta tb : TE) : TE := fun σ H Q => ta σ H fun x H1 => tb σ H1 fun y H2 => r x y H2 Q
noncomputable def tUn (r : V → Hp → VK → Prop) (ta : TE) : TE := fun σ H Q => ta σ H fun x H1 => r x H1 Q
inductive rI (C : Int → Int → Prop) (g : Int → Int → V) (x : V) (y : V) (H : Hp) (Q : VK) : Prop
  | mk : ∀ i j, (x = .int i) → (y = .int j) → (C i j) → (Q (g i j) H) → rI C g x y H Q
inductive rI0 (g : Int → Int → V) (x : V) (y : V) (H : Hp) (Q : VK) : Prop
  | mk : ∀ i j, (x = .int i) → (y = .int j) → (Q (g i j) H) → rI0 g x y H Q
inductive rU (g : Int → V) (x : V) (H : Hp) (Q : VK) : Prop
  | mk : ∀ i, (x = .int i) → (Q (g i) H) → rU g x H Q
section
variable {X : Cx} {a b c : Expr} {ta tb tc : TE} {pos : Pos}
theorem binT (ha : PE X a ta) (hb : PE X b tb) {pins : List (Addr × Obj)} {s : Shared} {σ : St} {H : Hp} {R : V → V → Hp → Prop} (I : Inv X pins σ H s)
    (h : ta σ H fun x H1 => tb σ H1 fun y H2 => R x y H2) {Q : Value → Shared → Prop} {f : Value → Value → Sem Value}
    (hf : ∀ v u s2 x y H2, Inv X pins σ H2 s2 → RelV x v → RelV y u → R x y H2 → wpAny (model X.prog X.w) X.A (f v u) Q X.xe s2) :
    wpAny (model X.prog X.w) X.A (eval a X.env) (fun v s₁ => wpAny (model X.prog X.w) X.A (eval b X.env) (fun u s₂ => wpAny (model X.prog X.w) X.A (f v u) Q X.xe s₂) X.xe s₁) X.xe s := by
  refine thn (ha pins s σ H _ I h) fun v s1 ⟨x, H1, I1, r1, q1⟩ => ?_
  refine thn (hb pins s1 σ H1 _ I1 q1) fun u s2 ⟨y, H2, I2, r2, q2⟩ => ?_
  exact hf v u s2 x y H2 I2 r1 r2 q2
theorem pe_op {op : Operator} {r : R2} (ho : OpR X (binaryOp op) r) (ha : PE X a ta) (hb : PE X b tb) : PE X (.BinOp a op b pos) (tOp r ta tb) := by
  intro pins s σ H Q I h
  exact wpAny_BinOp (binT ha hb I h fun v u s2 x y H2 I2 rx ry q => ho pins s2 σ H2 x y v u Q I2 rx ry q)
theorem pe_un {op : UnaryOp} {r : V → Hp → VK → Prop} (ho : UnR X (unaryOp op) r) (ha : PE X a ta) : PE X (.UnaryOp op a pos) (tUn r ta) := by
  intro pins s σ H Q I h
  exact UnaryOp_ (thn (ha pins s σ H _ I h) fun v s1 ⟨x, H1, I1, r1, q1⟩ => ho pins s1 σ H1 x v Q I1 r1 q1)
theorem opI {f : Value → Value → Sem Value} {C : Int → Int → Prop} {g : Int → Int → Int}
    (rule : ∀ (i j : Int) (t u : Tok) (s : Shared) (Q : Value → Shared → Prop) (E : Value → Shared → Prop), C i j → Q (.int (g i j) s.toks) { s with toks := s.toks + 1 } → wpAny (model X.prog X.w) X.A (f (.int i t) (.int j u)) Q E s) :
    OpR X f (rI C fun i j => .int (g i j)) := by
  intro pins s σ H x y v u Q I rx ry h
  obtain ⟨i, j, rfl, rfl, hc, q⟩ := h
  obtain ⟨t, rfl⟩ := rx
  obtain ⟨t', rfl⟩ := ry
  exact rule i j t t' s _ _ hc ⟨.int (g i j), H, I.tok _, ⟨_, rfl⟩, q⟩
theorem opI0 {f : Value → Value → Sem Value} {g : Int → Int → Int}
    (rule : ∀ (i j : Int) (t u : Tok) (s : Shared) (Q : Value → Shared → Prop) (E : Value → Shared → Prop), Q (.int (g i j) s.toks) { s with toks := s.toks + 1 } → wpAny (model X.prog X.w) X.A (f (.int i t) (.int j u)) Q E s) :
    OpR X f (rI0 fun i j => .int (g i j)) := by
  intro pins s σ H x y v u Q I rx ry h
  obtain ⟨i, j, rfl, rfl, q⟩ := h
  obtain ⟨t, rfl⟩ := rx
  obtain ⟨t', rfl⟩ := ry
  exact rule i j t t' s _ _ ⟨.int (g i j), H, I.tok _, ⟨_, rfl⟩, q⟩
theorem opB0 {f : Value → Value → Sem Value} {g : Int → Int → Bool}
    (rule : ∀ (i j : Int) (t u : Tok) (s : Shared) (Q : Value → Shared → Prop) (E : Value → Shared → Prop), Q (.bool (g i j)) s → wpAny (model X.prog X.w) X.A (f (.int i t) (.int j u)) Q E s) :
    OpR X f (rI0 fun i j => .bl (g i j)) := by
  intro pins s σ H x y v u Q I rx ry h
  obtain ⟨i, j, rfl, rfl, q⟩ := h
  obtain ⟨t, rfl⟩ := rx
  obtain ⟨t', rfl⟩ := ry
  exact rule i j t t' s _ _ ⟨.bl (g i j), H, I, rfl, q⟩
noncomputable def CDiv (i j : Int) : Prop := 0 < j ∧ j < 1073741824
noncomputable def CPow (i j : Int) : Prop := 0 ≤ j ∧ j ≤ 1000000 ∧ i.natAbs < 2 ^ 64
noncomputable def CMul (i j : Int) : Prop := (-(2 ^ 64) < i ∧ i < 2 ^ 64) ∨ (-(2 ^ 64) < j ∧ j < 2 ^ 64)
theorem CMul.ok {i j : Int} (h : CMul i j) : IntMulOk i j := by
  rcases h with ⟨h1, h2⟩ | ⟨h1, h2⟩
  · exact .of_left (intBits_le_64 h1 h2)
  · exact .of_right (intBits_le_64 h1 h2)
theorem op_add : OpR X (binaryOp .Add) (rI0 fun i j => .int (i + j)) := opI0 fun _ _ _ _ _ _ _ q => add_int q
theorem op_sub : OpR X (binaryOp .Sub) (rI0 fun i j => .int (i - j)) := opI0 fun _ _ _ _ _ _ _ q => sub_int q
theorem op_mul : OpR X (binaryOp .Mult) (rI CMul fun i j => .int (i * j)) := opI fun _ _ _ _ _ _ _ hc q => mul_int q hc.ok
theorem op_fdiv : OpR X (binaryOp .FloorDiv) (rI CDiv fun i j => .int (i / j)) := opI fun i j _ _ _ _ _ hc q => by
  have h1 : (0 : Int) < j := hc.1
  have h2 : j < 1073741824 := hc.2
  exact floordiv_int (by lia) (by rw [Int.fdiv_eq_ediv_of_nonneg i (by lia)]; exact q) (.inl (PyProof.noPylong_small (by lia)))
theorem op_mod : OpR X (binaryOp .Mod) (rI (fun _ j => 0 < j) fun i j => .int (i % j)) := opI fun i j _ _ _ _ _ hc q => by
  have h1 : (0 : Int) < j := hc
  exact mod_int' (by lia) (by rw [Int.fmod_eq_emod_of_nonneg i (by lia)]; exact q)
theorem op_pow : OpR X (binaryOp .Pow) (rI CPow fun i j => .int (i ^ j.toNat)) := opI fun _ _ _ _ _ _ _ hc q => pow_int_small hc.1 hc.2.1 hc.2.2 q
theorem unI {f : Value → Sem Value} {g : Int → Int}
    (rule : ∀ (i : Int) (t : Tok) (s : Shared) (Q : Value → Shared → Prop) (E : Value → Shared → Prop), Q (.int (g i) s.toks) { s with toks := s.toks + 1 } → wpAny (model X.prog X.w) X.A (f (.int i t)) Q E s) :
    UnR X f (rU fun i => .int (g i)) := by
  intro pins s σ H x v Q I rx h
  obtain ⟨i, rfl, q⟩ := h
  obtain ⟨t, rfl⟩ := rx
  exact rule i t s _ _ ⟨.int (g i), H, I.tok _, ⟨_, rfl⟩, q⟩
theorem un_neg : UnR X (unaryOp .USub) (rU fun i => .int (-i)) := unI fun _ _ _ _ _ q => neg_int q
end
noncomputable def scal : V → V → Bool
  | .non, .non => true | .non, .int _ => true | .int _, .non => true | .non, .bl _ => true | .bl _, .non => true | .non, .str _ => true | .str _, .non => true
  | .int _, .int _ => true | .bl _, .bl _ => true | .str _, .str _ => true | .byt _, .byt _ => true
  | .int _, .str _ => true | .str _, .int _ => true | .bl _, .str _ => true | .str _, .bl _ => true
  | _, _ => false
noncomputable def rEq : R2 := fun x y H Q => scal x y = true ∧ Q (.bl (decide (x = y))) H
noncomputable def rNe : R2 := fun x y H Q => scal x y = true ∧ Q (.bl (!decide (x = y))) H
theorem dec_int {i j : Int} : decide (V.int i = V.int j) = (i == j) := by
  rw [Bool.eq_iff_iff]
  simp
theorem dec_bl {i j : Bool} : decide (V.bl i = V.bl j) = (i == j) := by
  rw [Bool.eq_iff_iff]
  simp
theorem dec_str {i j : Str} : decide (V.str i = V.str j) = (i == j) := by
  rw [Bool.eq_iff_iff]
  simp
theorem dec_byt {i j : Array UInt8} : decide (V.byt i = V.byt j) = (i.toList == j.toList) := by
  rw [Bool.eq_iff_iff]
  cases i
  cases j
  simp
section
variable {X : Cx} {a b c : Expr} {ta tb tc : TE} {pos : Pos}
theorem fin_bl {pins : List (Addr × Obj)} {σ : St} {H : Hp} {s : Shared} {Q : VK} {k k' : Bool} (I : Inv X pins σ H s) (q : Q (.bl k) H) (e : k = k') : EP X pins σ Q (.bool k') s := by
  subst e
  exact ⟨.bl k, H, I, rfl, q⟩
theorem op_eq : OpR X (compareOp .Eq) rEq := by
  intro pins s σ H x y v u Q I rx ry h
  obtain ⟨hs, q⟩ := h
  cases x with
  | non =>
    cases rx
    cases y with
    | non => cases ry; exact PySem.EqNone.eq_none_none (fin_bl I q (by simp))
    | bl j => cases ry; exact PySem.EqNone.eq_none_bool (fin_bl I q (by simp))
    | int j => obtain ⟨t', rfl⟩ := ry; exact PySem.EqNone.eq_none_int (fin_bl I q (by simp))
    | str j => obtain ⟨t', rfl⟩ := ry; exact PySem.EqNone.eq_none_str (fin_bl I q (by simp))
    | _ => exact absurd (show false = true from hs) Bool.false_ne_true
  | bl i =>
    cases rx
    cases y with
    | non => cases ry; exact PySem.EqNone.eq_bool_none (fin_bl I q (by simp))
    | bl j => cases ry; exact eq_bool (fin_bl I q dec_bl)
    | str j => obtain ⟨t', rfl⟩ := ry; exact PySem.EqMixed.eq_bool_str (fin_bl I q (by simp))
    | _ => exact absurd (show false = true from hs) Bool.false_ne_true
  | int i =>
    obtain ⟨t, rfl⟩ := rx
    cases y with
    | non => cases ry; exact PySem.EqNone.eq_int_none (fin_bl I q (by simp))
    | int j => obtain ⟨t', rfl⟩ := ry; exact eq_int (fin_bl I q dec_int)
    | str j => obtain ⟨t', rfl⟩ := ry; exact PySem.EqMixed.eq_int_str (fin_bl I q (by simp))
    | _ => exact absurd (show false = true from hs) Bool.false_ne_true
  | str i =>
    obtain ⟨t, rfl⟩ := rx
    cases y with
    | non => cases ry; exact PySem.EqNone.eq_str_none (fin_bl I q (by simp))
    | bl j => cases ry; exact PySem.EqMixed.eq_str_bool (fin_bl I q (by simp))
    | int j => obtain ⟨t', rfl⟩ := ry; exact PySem.EqMixed.eq_str_int (fin_bl I q (by simp))
    | str j => obtain ⟨t', rfl⟩ := ry; exact eq_str (fin_bl I q dec_str)
    | _ => exact absurd (show false = true from hs) Bool.false_ne_true
  | byt i =>
    obtain ⟨t, rfl⟩ := rx
    cases y with
    | byt j => obtain ⟨t', rfl⟩ := ry; exact PySem.W.eq_bytes (fin_bl I q dec_byt)
    | _ => exact absurd (show false = true from hs) Bool.false_ne_true
  | _ => cases y <;> exact absurd (show false = true from hs) Bool.false_ne_true
theorem op_ne : OpR X (compareOp .NotEq) rNe := by
  intro pins s σ H x y v u Q I rx ry h
  obtain ⟨hs, q⟩ := h
  cases x with
  | non =>
    cases rx
    cases y with
    | non => cases ry; exact PySem.EqNone.ne_none_none (fin_bl I q (by simp))
    | bl j => cases ry; exact PySem.EqNone.ne_none_bool (fin_bl I q (by simp))
    | int j => obtain ⟨t', rfl⟩ := ry; exact PySem.EqNone.ne_none_int (fin_bl I q (by simp))
    | str j => obtain ⟨t', rfl⟩ := ry; exact PySem.EqNone.ne_none_str (fin_bl I q (by simp))
    | _ => exact absurd (show false = true from hs) Bool.false_ne_true
  | bl i =>
    cases rx
    cases y with
    | non => cases ry; exact PySem.EqNone.ne_bool_none (fin_bl I q (by simp))
    | bl j => cases ry; exact ne_bool (fin_bl I q (congrArg not dec_bl))
    | str j => obtain ⟨t', rfl⟩ := ry; exact PySem.EqMixed.ne_bool_str (fin_bl I q (by simp))
    | _ => exact absurd (show false = true from hs) Bool.false_ne_true
  | int i =>
    obtain ⟨t, rfl⟩ := rx
    cases y with
    | non => cases ry; exact PySem.EqNone.ne_int_none (fin_bl I q (by simp))
    | int j => obtain ⟨t', rfl⟩ := ry; exact ne_int (fin_bl I q (congrArg not dec_int))
    | str j => obtain ⟨t', rfl⟩ := ry; exact PySem.EqMixed.ne_int_str (fin_bl I q (by simp))
    | _ => exact absurd (show false = true from hs) Bool.false_ne_true
  | str i =>
    obtain ⟨t, rfl⟩ := rx
    cases y with
    | non => cases ry; exact PySem.EqNone.ne_str_none (fin_bl I q (by simp))
    | bl j => cases ry; exact PySem.EqMixed.ne_str_bool (fin_bl I q (by simp))
    | int j => obtain ⟨t', rfl⟩ := ry; exact PySem.EqMixed.ne_str_int (fin_bl I q (by simp))
    | str j => obtain ⟨t', rfl⟩ := ry; exact ne_str (fin_bl I q (congrArg not dec_str))
    | _ => exact absurd (show false = true from hs) Bool.false_ne_true
  | byt i =>
    obtain ⟨t, rfl⟩ := rx
    cases y with
    | byt j => obtain ⟨t', rfl⟩ := ry; exact PySem.W.ne_bytes (fin_bl I q (congrArg not dec_byt))
    | _ => exact absurd (show false = true from hs) Bool.false_ne_true
  | _ => cases y <;> exact absurd (show false = true from hs) Bool.false_ne_true
theorem op_lt : OpR X (compareOp .Lt) (rI0 fun i j => .bl (decide (i < j))) := opB0 fun _ _ _ _ _ _ _ q => lt_int q
theorem op_gt : OpR X (compareOp .Gt) (rI0 fun i j => .bl (decide (j < i))) := opB0 fun _ _ _ _ _ _ _ q => gt_int q
theorem op_ge : OpR X (compareOp .GtE) (rI0 fun i j => .bl (decide (j ≤ i))) := opB0 fun _ _ _ _ _ _ _ q => ge_int q
theorem op_isN : OpR X (compareOp .Is) (fun x y H Q => y = .non ∧ Q (.bl (decide (x = .non))) H) := by
  intro pins s σ H x y v u Q I rx ry h
  obtain ⟨rfl, q⟩ := h
  cases ry
  refine is_none_gen (fin_bl I q ?_)
  cases x <;> first
    | (cases rx; rfl)
    | (obtain ⟨t, rfl⟩ := rx; rfl)
theorem nomark (b : Expr) {op : CmpOp} (h : op ≠ .In := by decide) (h2 : op ≠ .NotIn := by decide) : behindInMarks op b = false := by
  have e1 : (op == CmpOp.In) = false := by cases op <;> first | rfl | exact absurd rfl h
  have e2 : (op == CmpOp.NotIn) = false := by cases op <;> first | rfl | exact absurd rfl h2
  cases b <;> simp [behindInMarks, e1, e2]
theorem pe_cmpR {op : CmpOp} {r : R2} (ho : OpR X (compareOp op) r) (ha : PE X a ta) (hb : PE X b tb) (hm : behindInMarks op b = false) : PE X (.Compare a [op] [b] pos) (tOp r ta tb) := by
  intro pins s σ H Q I h
  exact wpAny_Compare1 (binT ha hb I h fun v u s2 x y H2 I2 rx ry q => ho pins s2 σ H2 x y v u Q I2 rx ry q) hm
noncomputable def tTest (t : TE) : TT := fun σ H Q => t σ H fun x H' => rBl x H' Q
theorem pt_cmpR {op : CmpOp} {r : R2} (ho : OpR X (compareOp op) r) (ha : PE X a ta) (hb : PE X b tb) (hm : behindInMarks op b = false) : PT X (.Compare a [op] [b] pos) (tTest (tOp r ta tb)) := by
  intro pins s σ H Q I h
  refine wpAny_isTrue_Compare1 (thn (ha pins s σ H _ I h) fun v s1 ⟨x, H1, I1, r1, q1⟩ => thn (hb pins s1 σ H1 _ I1 q1) fun u s2 ⟨y, H2, I2, r2, q2⟩ =>
    thn (ho pins s2 σ H2 x y v u _ I2 r1 r2 q2) fun c s3 ⟨z, H3, I3, r3, k, e, q3⟩ => ?_) hm
  subst e
  cases r3
  exact wpAny_truthy_bool ⟨H3, I3, q3⟩
theorem line63 : (sizeLine : Nat) < 2 ^ 63 := by rw [sizeLine_eq]; decide
theorem op_add_str : OpR X (binaryOp .Add) (fun x y H Q => ∃ i j, x = .str i ∧ y = .str j ∧ i.length + j.length ≤ sizeLine ∧ Q (.str (i ++ j)) H) := by
  intro pins s σ H x y v u Q I rx ry h
  obtain ⟨i, j, rfl, rfl, hz, q⟩ := h
  obtain ⟨t, rfl⟩ := rx
  obtain ⟨t', rfl⟩ := ry
  exact add_str (fun t' tk => ⟨.str (i ++ j), H, I.tok _, ⟨_, rfl⟩, q⟩) hz
theorem vals1 {x : V} {us : List Value} (r : Vals [x] us) : ∃ u, us = [u] ∧ RelV x u := by
  cases r with
  | cons r1 r2 => cases r2; exact ⟨_, rfl, r1⟩
theorem vals2 {x y : V} {us : List Value} (r : Vals [x, y] us) : ∃ u w', us = [u, w'] ∧ RelV x u ∧ RelV y w' := by
  cases r with
  | cons r1 r2 =>
    cases r2 with
    | cons r3 r4 => cases r4; exact ⟨_, _, rfl, r1, r3⟩
theorem call_max2 (hc : X.calm = true) : CallR X (.builtin "max") (fun xs H Q => ∃ i j, xs = [.int i, .int j] ∧ Q (.int (if j > i then j else i)) H) := by
  intro pins s σ H xs us Q I r h
  obtain ⟨i, j, rfl, q⟩ := h
  obtain ⟨u, w', rfl, ⟨t, rfl⟩, ⟨t', rfl⟩⟩ := vals2 r
  refine max_two_ints (I.ok.hd hc) fun h' tk k => ⟨_, H, I.kept k, ?_, q⟩
  by_cases hj : j > i
  · rw [if_pos hj, if_pos hj]; exact ⟨_, rfl⟩
  · rw [if_neg hj, if_neg hj]; exact ⟨_, rfl⟩
theorem call_min2 (hc : X.calm = true) : CallR X (.builtin "min") (fun xs H Q => ∃ i j, xs = [.int i, .int j] ∧ Q (.int (if j < i then j else i)) H) := by
  intro pins s σ H xs us Q I r h
  obtain ⟨i, j, rfl, q⟩ := h
  obtain ⟨u, w', rfl, ⟨t, rfl⟩, ⟨t', rfl⟩⟩ := vals2 r
  refine min_two_ints (I.ok.hd hc) fun h' tk k => ⟨_, H, I.kept k, ?_, q⟩
  by_cases hj : j < i
  · rw [if_pos hj, if_pos hj]; exact ⟨_, rfl⟩
  · rw [if_neg hj, if_neg hj]; exact ⟨_, rfl⟩
theorem call_int1 : CallR X (.type "int") (fun xs H Q => (∃ i, xs = [.int i] ∧ Q (.int i) H) ∨ ∃ k, xs = [.bl k] ∧ Q (.int (if k then 1 else 0)) H) := by
  intro pins s σ H xs us Q I r h
  rcases h with ⟨i, rfl, q⟩ | ⟨k, rfl, q⟩
  · obtain ⟨u, rfl, t, rfl⟩ := vals1 r
    exact call_int_int ⟨.int i, H, I, ⟨_, rfl⟩, q⟩
  · obtain ⟨u, rfl, r1⟩ := vals1 r
    cases r1
    exact call_int_bool ⟨.int (if k then 1 else 0), H, I.tok _, ⟨_, rfl⟩, q⟩
end
end L2
namespace L2
open PySem PySem.Spec PyProof.Rows
structure ObjM (h : Heap) (x dx C : Addr) (mA : Str → Option Value) : Prop where
  obj : h.get? x = some (PySem.W.instObj C dx)
  ns : h.Ns1 dx mA
  ne : dx ≠ x
theorem lookIn_ns {h : Heap} {dx : Addr} {mA : Str → Option Value} (n : h.Ns1 dx mA) : ∃ od, h.get? dx = some od ∧ ∀ name, PySem.W.lookIn name od = some (mA name) := by
  obtain ⟨o, es, ep, ho, hd, hk, _, hm⟩ := n
  refine ⟨o, ho, fun name => ?_⟩
  have e := hm name
  unfold nsFind findBy at e
  rw [← Array.find?_toList] at e
  unfold PySem.W.lookIn
  rw [hd]
  dsimp only
  split
  · rename_i y q
    rw [q] at e
    exact congrArg some e
  · rename_i q
    rw [q] at e
    have a : es.toList.any (·.refKey) = false := by
      rw [List.any_eq_false]
      intro y hy
      obtain ⟨z, t, hkey⟩ := hk y (Array.mem_toList_iff.mp hy)
      simp [DictEntry.refKey, hkey]
    have a' : ¬ es.toList.any (·.refKey) = true := by rw [a]; exact Bool.false_ne_true
    rw [if_neg a']
    exact congrArg some e
theorem ObjM.look {h : Heap} {x dx C : Addr} {mA : Str → Option Value} (I : ObjM h x dx C mA) : ∃ od, PySem.W.InstAt h x (PySem.W.instObj C dx) C (some od) ∧ ∀ name, PySem.W.lookIn name od = some (mA name) :=
  let ⟨od, ho, hl⟩ := lookIn_ns I.ns
  ⟨od, ⟨I.obj, rfl, rfl, ho⟩, hl⟩
section
variable {prog : Program} {w : World} {A : Around} {E : Value → Shared → Prop} {s : Shared} {K : PySem.W.Frag} {x dx C f : Addr} {mA : Str → Option Value} {name : Str} {v : Value}
end
theorem RelO.some_of {v : V} {o : Option Value} (r : RelO (some v) o) : ∃ u, o = some u ∧ RelV v u := by
  cases o with
  | none => exact (show False from r).elim
  | some u => exact ⟨u, rfl, r⟩
section
variable {P : Program} {w : World} {H H' : Hp} {h h' : Heap} {a C dx : Addr} {fs fs' : List (Str × V)}
theorem ins_get (hok : HOk P w H h) (e : H a = some (.ins C dx fs)) : ∃ mA, ObjM h a dx C mA ∧ (∀ f, RelO (fs.lookup f) (mA f)) ∧ PySem.Within mA (fs.map (·.1)) ∧ fs.length ≤ 1000 ∧ H dx = some (.own a) := by
  obtain ⟨d, z, ne, ob, mA, n, r, q⟩ := (show ObjOk P w H h a (.ins C dx fs) from hok a _ e)
  exact ⟨mA, ⟨ob, n, ne⟩, r, q, z, d⟩
end
structure Cls (K : PySem.W.Frag) (C : Addr) : Prop where
  pg : PySem.W.plainGet K C Str.empty = true
  hd : PySem.W.hasDictIn K C = true
  po : PySem.W.plainOver K C = true
  sa : PySem.W.findIn K (.ref C) "__setattr__" = some (some (.builtin "object.__setattr__"))
theorem Cls.get {K : PySem.W.Frag} {C : Addr} (c : Cls K C) (f : Str) : PySem.W.plainGet K C f = true := c.pg
section
variable {X : Cx} {pins : List (Addr × Obj)} {σ : St} {H : Hp} {s : Shared} {a C dx : Addr} {fs : List (Str × V)} {f : Str} {v : V} {A : Around} {E : Value → Shared → Prop}
end
section
variable {X : Cx} {o e value : Expr} {f : Str} {pos pos' tpos : Pos} {ta tv : TE}
end
section
variable {X : Cx} {pins : List (Addr × Obj)} {σ : St} {H : Hp} {s : Shared} {A : Around} {E : Value → Shared → Prop} {Q : Value → Shared → Prop} {c : Value} {b : Bool}
inductive TyOf (K : PySem.W.Frag) (H : Hp) : V → Value → Prop where
  | non : TyOf K H .non (.type "NoneType")
  | bl (x : Bool) : TyOf K H (.bl x) (.type "bool")
  | int (i : Int) : TyOf K H (.int i) (.type "int")
  | str (x : Str) : TyOf K H (.str x) (.type "str")
  | flt (x : UInt64) : TyOf K H (.flt x) (.type "float")
  | lst {a : Addr} {xs : List V} (e : H a = some (.lst xs)) : TyOf K H (.ref a) (.type "list")
  | frz {a : Addr} {o : Obj} {xs : List V} (e : H a = some (.frz o (.lst xs))) : TyOf K H (.ref a) (.type "list")
  | tup {a : Addr} {xs : List V} (e : H a = some (.tup xs)) : TyOf K H (.ref a) (.type "tuple")
  | dK {a : Addr} {kvs : List (Key × V)} (e : H a = some (.dK kvs)) : TyOf K H (.ref a) (.type "dict")
  | dT {a : Addr} {kvs : List (List Key × V)} (e : H a = some (.dT kvs)) : TyOf K H (.ref a) (.type "dict")
  | ins {a C dx : Addr} {fs : List (Str × V)} (e : H a = some (.ins C dx fs)) (cl : Cls K C) (ha : PySem.W.findIn K (.ref C) "__class__" = some (some (.builtin "object.__class__")))
      (hn : PySem.W.specialIn K (.builtin "object.__class__") "__get__" = some (some (.builtin "getset_descriptor.__get__"))) (htk : PySem.W.takesIn K (.builtin "object.__class__") = some true)
      (hm : PySem.W.mroIn K C (.type "object") = some true) : TyOf K H (.ref a) (.ref C)
theorem isinst_ok {x : V} {u t : Value} (I : Inv X pins σ H s) (rx : RelV x u) (ty : TyOf X.K H x t) (e : PySem.W.kitOne X.K t c = some b) (h : ∀ tk, Q (.bool b) { s with toks := tk }) :
    wpAny (model X.prog X.w) A (call (.builtin "isinstance") [u, c]) Q E s := by
  cases ty with
  | non => cases (show u = Value.none from rx); exact PySem.W.kia_one PySem.W.kitx_none I.kIn True.intro e (fun z => nomatch z) h
  | bl y => cases (show u = Value.bool y from rx); exact PySem.W.kia_one PySem.W.kitx_bool I.kIn True.intro e (fun z => nomatch z) h
  | int i => obtain ⟨t, q⟩ := (show ∃ t, u = Value.int i t from rx); cases q; exact PySem.W.kia_one PySem.W.kitx_int I.kIn True.intro e (fun z => nomatch z) h
  | str y => obtain ⟨t, q⟩ := (show ∃ t, u = Value.str y t from rx); cases q; exact PySem.W.kia_one PySem.W.kitx_str I.kIn True.intro e (fun z => nomatch z) h
  | flt y => obtain ⟨t, q⟩ := (show ∃ t, u = Value.float y t from rx); cases q; exact PySem.W.kia_one PySem.W.kitx_float I.kIn True.intro e (fun z => nomatch z) h
  | @lst a xs ea =>
    cases (show u = Value.ref a from rx)
    obtain ⟨_, _, n, _, h1⟩ := (show ObjOk X.prog X.w H s.heap a (.lst xs) from I.hok a _ ea)
    exact PySem.W.kia_one PySem.W.kitx_list I.kIn ⟨_, h1, rfl⟩ e (fun z => nomatch z) h
  | @frz a ob xs ea =>
    cases (show u = Value.ref a from rx)
    obtain ⟨_, _, _, n, _, h1⟩ := (show ObjOk X.prog X.w H s.heap a (.frz ob (.lst xs)) from I.hok a _ ea)
    exact PySem.W.kia_one PySem.W.kitx_list I.kIn ⟨_, h1, rfl⟩ e (fun z => nomatch z) h
  | @tup a xs ea =>
    cases (show u = Value.ref a from rx)
    obtain ⟨_, _, _, p⟩ := (show ObjOk X.prog X.w H s.heap a (.tup xs) from I.hok a _ ea)
    obtain ⟨o, h1, h2, _⟩ := p
    exact PySem.W.kia_one PySem.W.kitx_tuple I.kIn ⟨o, h1, h2⟩ e (fun z => nomatch z) h
  | @dK a kvs ea =>
    cases (show u = Value.ref a from rx)
    obtain ⟨_, _, vs, _, p⟩ := (show ObjOk X.prog X.w H s.heap a (.dK kvs) from I.hok a _ ea)
    obtain ⟨o, es, ep, h1, h2, _⟩ := p
    exact PySem.W.kia_one PySem.W.kitx_dict I.kIn ⟨o, h1, h2.1⟩ e (fun z => nomatch z) h
  | @dT a kvs ea =>
    cases (show u = Value.ref a from rx)
    obtain ⟨_, _, xs, _, o, es, ep, h1, h2, _⟩ := (show ObjOk X.prog X.w H s.heap a (.dT kvs) from I.hok a _ ea)
    exact PySem.W.kia_one PySem.W.kitx_dict I.kIn ⟨o, h1, h2.1⟩ e (fun z => nomatch z) h
  | @ins a C dx fs ea cl ha hn htk hm =>
    cases (show u = Value.ref a from rx)
    obtain ⟨mA, O, _⟩ := ins_get I.hok ea
    obtain ⟨od, J, _⟩ := O.look
    exact PySem.W.kia_one (PySem.W.kitx_own (cl.get _) cl.hd ha hn htk hm) I.kIn J e (fun z => nomatch z) h
end
end L2
namespace L2
open PySem PySem.Spec PyProof.Rows
structure Room (k : Nat) (A : Around) : Prop where
  hd : A.handled = none
  dp : A.depth + 3 * k + 5 < recursionLimit
  un : A.units + 16 * k + 200 < cLine
theorem Room.mono {j k : Nat} {A : Around} (r : Room k A) (h : j ≤ k) : Room j A := ⟨r.hd, by have := r.dp; lia, by have := r.un; lia⟩
theorem Room.deeper {k : Nat} {A : Around} (r : Room (k + 1) A) (env : Env) : Room k (A.deeper env) :=
  ⟨r.hd, by have := r.dp; show A.depth + 1 + 3 * k + 5 < _; lia, by have := r.un; show A.units + 3 + 16 * k + 200 < _; lia⟩
theorem Room.depth {k : Nat} {A : Around} (r : Room k A) : A.depth < recursionLimit := by have := r.dp; lia
theorem Room.units {k : Nat} {A : Around} (r : Room k A) : A.units + 64 < cLine := by have := r.un; lia
theorem Room.units0 {k : Nat} {A : Around} (r : Room k A) : A.units < cLine := by have := r.un; lia
noncomputable def tNil : TA := fun _ H Q => Q [] H
noncomputable def tCons (ta : TE) (tr : TA) : TA := fun σ H Q => ta σ H fun x H1 => tr σ H1 fun xs H2 => Q (x :: xs) H2
section
variable {X : Cx} {e : Expr} {es : List Expr} {te : TE} {t : TA} {pos : Pos}
theorem pa_nil : PA X [] tNil := fun _ _ _ _ H Q I h => Calls.spliced_nil ⟨[], H, I, .nil, h⟩
theorem pa_cons (ha : PE X e te) (hr : PA X es t) (hs : starEach (e :: es) X.env = (false, eval e X.env) :: starEach es X.env := by rfl) : PA X (e :: es) (tCons te t) := by
  intro pos pins s σ H Q I h
  rw [hs]
  show wpAny _ _ (spliced ((false, eval e X.env) :: backTo pos (starEach es X.env))) _ _ s
  refine Calls.spliced_cons (thn (ha pins s σ H _ I h) fun u s1 ⟨x, H1, I1, r1, q1⟩ => ?_)
  exact thn (hr pos pins s1 σ H1 _ I1 q1) fun us s2 ⟨xs, H2, I2, r2, q2⟩ => ⟨x :: xs, H2, I2, .cons r1 r2, q2⟩
noncomputable def tTup (t : TA) : TE := fun σ H Q => t σ H fun xs H1 => xs.length ≤ sizeLine ∧ ∀ p, H1 p = none → Q (.ref p) (upd H1 p (.tup xs))
noncomputable def tLst (t : TA) : TE := fun σ H Q => t σ H fun xs H1 => xs.length ≤ sizeLine ∧ ∀ p, H1 p = none → Q (.ref p) (upd H1 p (.lst xs))
theorem pe_tup {x1} (h : PA X es t) : PE X (.Tuple es x1 pos) (tTup t) := by
  intro pins s σ H Q I hq
  refine wpAny_Tuple_spliced (thn (h pos pins s σ H _ I hq) fun us s1 ⟨xs, H1, I1, r, z, q⟩ => ⟨by rw [← r.length]; exact z, ?_⟩)
  have hf : H1 s1.heap.objs.size = none := I1.hok.fresh (Nat.le_refl _)
  refine ⟨.ref s1.heap.objs.size, upd H1 s1.heap.objs.size (.tup xs), I1.laid (t' := s1.toks) (fun b u e => Heap.get?_push_of_some _ e) (Nat.le_refl _) ?_, rfl, q _ hf⟩
  exact ⟨z, us, r, ⟨_, Heap.get?_push_size _ rfl, rfl, _, rfl⟩⟩
theorem pe_lst (h : PA X es t) : PE X (.List es pos) (tLst t) := by
  intro pins s σ H Q I hq
  refine wpAny_List_spliced (thn (h pos pins s σ H _ I hq) fun us s1 ⟨xs, H1, I1, r, z, q⟩ => ⟨by rw [← r.length]; exact z, ?_⟩)
  have hf : H1 s1.heap.objs.size = none := I1.hok.fresh (Nat.le_refl _)
  refine ⟨.ref s1.heap.objs.size, upd H1 s1.heap.objs.size (.lst xs), I1.laid (t' := s1.toks) (fun b u e => Heap.get?_push_of_some _ e) (Nat.le_refl _) ?_, rfl, q _ hf⟩
  exact ⟨z, us, 0, r, Heap.get?_push_size _ rfl⟩
end
noncomputable abbrev Sp := List V → Hp → VK → XK → Prop
noncomputable abbrev CXT := List Env → Hp → Shared → XK → Value → Shared → Prop
structure Env0 (P : Program) (w : World) (K : PySem.W.Frag) (mg : Str → Option Value) (base : Heap) (A : Around) (outer : List Env) (s : Shared) (H : Hp) : Prop where
  frames : A.frames = some outer
  mod : Mod K mg base
  bs : ∀ b o, base.get? b = some o → s.heap.get? b = some o ∧ H b = none
  bsz : base.objs.size ≤ s.heap.objs.size
  funs : s.heap.FunFrames base outer
  frf : ∀ b ∈ frs outer, H b = none
  hok : HOk P w H s.heap
  bare : AllBare s.gens
inductive CE (outer : List Env) (P : Program) (w : World) (H : Hp) (s : Shared) (Q : VK) (u : Value) (s' : Shared) : Prop
  | mk : ∀ v H', (s'.os = s.os) → (AllBare s'.gens) → (Un (frs outer) [] H H' s.heap s'.heap) → (HOk P w H' s'.heap) → (RelV v u) → (Q v H') → CE outer P w H s Q u s'
noncomputable def CR (CX : CXT) (outer : List Env) (P : Program) (w : World) (H : Hp) (s : Shared) (Q : VK) (E : XK) (r : Result) (s' : Shared) : Prop :=
  match r with
  | .ok (.ret u) => CE outer P w H s Q u s'
  | .ok _ => False
  | .error e => CX outer H s E e s'
structure FnOk (P : Program) (w : World) (K : PySem.W.Frag) (mg : Str → Option Value) (base : Heap) (CX : CXT) (k : Nat) (f : Addr) (fd : FuncData) (ps : List Str) (sp : Sp) : Prop where
  len : ∀ vs H Q E, sp vs H Q E → vs.length = ps.length
  run : ∀ (A : Around) (outer : List Env) (s : Shared) (H : Hp) (args : Args) (us : List Value) (vs : List V) (Q : VK) (E : XK), Room k A → Env0 P w K mg base A outer s H → BindsTo s fd args (ps.zip us) → Vals vs us → sp vs H Q E →
    codeAny (model P w) A (.call (.ref f) args) (CR CX outer P w H s Q E) s
section
variable {X : Cx} {pins : List (Addr × Obj)} {σ : St} {H : Hp} {s s' : Shared}
theorem Inv.env0 (I : Inv X pins σ H s) : Env0 X.prog X.w X.K X.mg X.base X.A X.stack s H :=
  ⟨I.ok.frames, I.ok.mod, I.bs, Nat.le_trans I.ok.bsz I.sz, I.stack, I.stkFree, I.hok, I.bare⟩
theorem Inv.after {Q : VK} {u : Value} (I : Inv X pins σ H s) (h : CE X.stack X.prog X.w H s Q u s') : EP X pins σ Q u s' := by
  obtain ⟨v, H', os, bare, un, hok, r, q⟩ := h
  obtain ⟨hh, g, d, t, os'⟩ := s'
  obtain rfl : os' = s.os := os
  exact ⟨v, H', I.call (h' := hh) (g' := g) (d' := d) (t' := t) (ch := []) un hok bare (fun b z => absurd z (by simp)), r, q⟩
end
noncomputable def tCall (sp : Sp) (dvs : List V) (E : XK) (t : TA) : TE := fun σ H Q => t σ H fun vs H1 => sp (vs ++ dvs) H1 Q E
noncomputable def Binds (K : PySem.W.Frag) (fd : FuncData) (ps : List Str) (ds : List Value) : Prop :=
  ∀ (s : Shared) (us : List Value), K.In s.heap → (us ++ ds).length = ps.length → BindsTo s fd ⟨us, []⟩ (ps.zip (us ++ ds))
theorem Binds.all {K : PySem.W.Frag} {fd : FuncData} {ps : List Str} (h : ∀ us : List Value, us.length = ps.length → bindArgs fd ⟨us, []⟩ = pure (ps.zip us)) : Binds K fd ps [] := fun s us _ hl => by
  rw [List.append_nil] at hl ⊢
  exact .of_eq (h us hl)
noncomputable def Passes (CX : CXT) (X : Cx) (E : XK) : Prop := ∀ (pins : List (Addr × Obj)) (σ : St) (H : Hp) (s : Shared) (e : Value) (s' : Shared), Inv X pins σ H s → CX X.stack H s E e s' → X.xe e s'
section
variable {X : Cx} {CX : CXT} {k : Nat} {f C : Addr} {fd : FuncData} {ps : List Str} {sp : Sp} {dvs : List V} {ds : List Value} {E : XK} {x m : Str} {p pos apos : Pos} {e o : Expr} {es : List Expr} {ta : TE} {t : TA}
theorem run_fn {pins : List (Addr × Obj)} {σ : St} {H : Hp} {s : Shared} {Q : VK} {us : List Value} {vs : List V} (F : FnOk X.prog X.w X.K X.mg X.base CX k f fd ps sp) (hr : Room k X.A) (hb : Binds X.K fd ps ds) (hd : Vals dvs ds) (hx : Passes CX X E)
    (I : Inv X pins σ H s) (r : Vals vs us) (h : sp (vs ++ dvs) H Q E) : wpAny (model X.prog X.w) X.A (call (.ref f) us) (EP X pins σ Q) X.xe s := by
  have r2 : Vals (vs ++ dvs) (us ++ ds) := r.append hd
  have hl : (us ++ ds).length = ps.length := by rw [← r2.length]; exact F.len _ _ _ _ h
  refine wpAny_call (codeAny_mono (F.run X.A X.stack s H ⟨us, []⟩ (us ++ ds) (vs ++ dvs) Q E hr I.env0 (hb s us I.kIn hl) r2 h) fun r s' hq => ?_)
  cases r with
  | error e => exact hx pins σ H s e s' I hq
  | ok fl =>
    cases fl with
    | ret u => exact I.after hq
    | next => exact False.elim hq
    | brk => exact False.elim hq
    | cont => exact False.elim hq
theorem pe_call (F : FnOk X.prog X.w X.K X.mg X.base CX k f fd ps sp) (hr : Room k X.A) (hg : Gl X x) (hm : X.mg x = some (.ref f)) (hk : PySem.W.keepIn X.K (.ref f) = true) (hb : Binds X.K fd ps ds) (hd : Vals dvs ds) (hx : Passes CX X E)
    (ha : PA X (e :: es) t) (hdb : (x == ("__debug__" : Str)) = false := by decide) (he : starEach (e :: es) X.env = (false, eval e X.env) :: starEach es X.env := by rfl) (hpl : (backTo pos (starEach es X.env)).any (·.1) = false := by rfl) :
    PE X (.Call (.Name x p) (e :: es) [] pos) (tCall sp dvs E t) := by
  intro pins s σ H Q I h
  refine wpAny_Call_Name_kw (ld_glob I hg hm ?_ hdb)
  refine PySem.W.callWith_K (h₀ := X.base) I.ok.mod.kin hk (thn (ha pos pins s σ H _ I h) fun us s1 ⟨vs, H1, I1, r, q⟩ => ⟨I1.kIn, ?_⟩) he hpl
  exact run_fn F hr hb hd hx I1 r q
end
section
variable {X : Cx} {CX : CXT} {k : Nat} {f C : Addr} {fd : FuncData} {ps ks : List Str} {sp : Sp} {E : XK} {x m : Str} {p pos apos kpos : Pos} {e o : Expr} {es : List Expr} {kws : List Keyword} {te ta : TE} {t tk : TA} {nm : Option Str}
variable {g : List Value → List Value → List Value} {gV : List V → List V → List V}
end
structure FnScope (N P : List Str) (sc : Scope) : Prop where
  kind : sc.kind = .function
  co : sc.isCoroutine = false
  gen : sc.isGenerator = false
  nd : N.Nodup
  pre : N.take P.length = P
  par : ∀ x ∈ P, sc.names.lookup x = some .local ∨ sc.names.lookup x = some .cell
  nofree : ∀ y ∈ sc.names, y.2 ≠ .free
theorem bindL_out {kindOf : Str → Option NameKind} {x : Str} : ∀ {binds : List (Str × Value)} {m : Str → Option Value}, (∀ v, (x, v) ∉ binds) → bindL kindOf binds m x = m x
  | [], _, _ => rfl
  | (n, v) :: r, m, h => by
    unfold bindL
    rw [bindL_out fun w hw => h w (List.mem_cons_of_mem _ hw)]
    split
    · have : x ≠ n := by rintro rfl; exact h v List.mem_cons_self
      simp [this]
    · rfl
theorem bindC_out {kindOf : Str → Option NameKind} {x : Str} : ∀ {binds : List (Str × Value)} {m : Str → Option Value}, (∀ v, (x, v) ∉ binds) → bindC kindOf binds m x = m x
  | [], _, _ => rfl
  | (n, v) :: r, m, h => by
    unfold bindC
    rw [bindC_out fun w hw => h w (List.mem_cons_of_mem _ hw)]
    split
    · rfl
    · have : x ≠ n := by rintro rfl; exact h v List.mem_cons_self
      simp [this]
theorem bindL_get {kindOf : Str → Option NameKind} {x : Str} {v : Value} : ∀ {P : List Str} {vs : List Value} {i : Nat} {m : Str → Option Value}, P.Nodup → P[i]? = some x → vs[i]? = some v → kindOf x = some .local →
    bindL kindOf (P.zip vs) m x = some v
  | [], _, _, _, _, h, _, _ => by simp at h
  | _ :: _, [], _, _, _, _, h, _ => by simp at h
  | p :: P, w :: vs, 0, m, nd, h1, h2, hk => by
    simp at h1 h2; subst h1; subst h2
    show bindL kindOf ((p, w) :: P.zip vs) m p = _
    unfold bindL
    rw [bindL_out fun v hv => (List.nodup_cons.mp nd).1 (List.of_mem_zip hv).1, if_pos hk]
    simp
  | p :: P, w :: vs, i + 1, m, nd, h1, h2, hk => by
    show bindL kindOf ((p, w) :: P.zip vs) m x = _
    unfold bindL
    exact bindL_get (i := i) (List.nodup_cons.mp nd).2 (by simpa using h1) (by simpa using h2) hk
theorem bindC_get {kindOf : Str → Option NameKind} {x : Str} {v : Value} : ∀ {P : List Str} {vs : List Value} {i : Nat} {m : Str → Option Value}, P.Nodup → P[i]? = some x → vs[i]? = some v → kindOf x ≠ some .local →
    bindC kindOf (P.zip vs) m x = some v
  | [], _, _, _, _, h, _, _ => by simp at h
  | _ :: _, [], _, _, _, _, h, _ => by simp at h
  | p :: P, w :: vs, 0, m, nd, h1, h2, hk => by
    simp at h1 h2; subst h1; subst h2
    show bindC kindOf ((p, w) :: P.zip vs) m p = _
    unfold bindC
    rw [bindC_out fun v hv => (List.nodup_cons.mp nd).1 (List.of_mem_zip hv).1, if_neg hk]
    simp
  | p :: P, w :: vs, i + 1, m, nd, h1, h2, hk => by
    show bindC kindOf ((p, w) :: P.zip vs) m x = _
    unfold bindC
    exact bindC_get (i := i) (List.nodup_cons.mp nd).2 (by simpa using h1) (by simpa using h2) hk
noncomputable def start (N : List Str) (vs : List V) : St := vs.map some ++ List.replicate (N.length - vs.length) none
noncomputable def cxOf (CX : CXT) (P : Program) (w : World) (K : PySem.W.Frag) (mg : Str → Option Value) (base : Heap) (N : List Str) (qual : Str) (scope : Scope) (f : Addr) (cd : Value) (A : Around) (outer : List Env) (s : Shared) (H : Hp) (E : XK) : Cx where
  prog := P
  w := w
  K := K
  mg := mg
  base := base
  A := A.deeper (envOfC qual scope s.heap.objs.size f cd)
  N := N
  s₀ := s
  H₀ := H
  env := envOfC qual scope s.heap.objs.size f cd
  outer := outer
  stack := envOfC qual scope s.heap.objs.size f cd :: outer
  ex := []
  calm := true
  fn := fun _ => true
  pn := []
  xe := fun e s' => wpAny (model P w) (A.deeper (envOfC qual scope s.heap.objs.size f cd)) (leaving (envOfC qual scope s.heap.objs.size f cd) e) (fun _ s'' => CX outer H s E e s'') (fun e' s'' => CX outer H s E e' s'') s'
theorem cell_has {sc : Scope} {n : Nat} {x : Str} (h : sc.names.lookup x = some .cell) : ∃ c, (cellsFrom n sc.names []).lookup x = some c := by
  have q := PySem.W.cellsFrom_some sc.names n [] (.inl h)
  exact Option.isSome_iff_exists.mp q
theorem inv_start {CX : CXT} {P : Program} {w : World} {K : PySem.W.Frag} {mg : Str → Option Value} {base : Heap} {N ps : List Str} {qual : Str} {scope : Scope} {f : Addr} {cd : Value} {A : Around} {outer : List Env} {s s1 : Shared} {H : Hp} {E : XK} {us : List Value} {vs : List V}
    (S : FnScope N ps scope) (hd : A.handled = none) (e0 : Env0 P w K mg base A outer s H) (hl : vs.length = ps.length) (r : Vals vs us)
    (x : InCallC s s.heap.objs.size (bindL (envOfC qual scope s.heap.objs.size f cd).kindOf (ps.zip us) fun _ => none) (cellsFrom (s.heap.objs.size + 1) scope.names []) (bindC (envOfC qual scope s.heap.objs.size f cd).kindOf (ps.zip us) fun _ => none) s1) :
    Inv (cxOf CX P w K mg base N qual scope f cd A outer s H E) [] (start N vs) H s1 := by
  have hpl : ps.length ≤ N.length := by have := congrArg List.length S.pre; rw [List.length_take] at this; lia
  obtain ⟨h1, tk, rfl, hk⟩ := x.done
  have noA : ∀ b : Addr, b ∉ (cxOf CX P w K mg base N qual scope f cd A outer s H E).ex := fun b z => absurd (show b ∈ ([] : List Addr) from z) (by simp)
  refine ⟨⟨e0.mod, S.kind, rfl, rfl, Nat.le_refl _, fun y z c h1 h2 => ?_, fun y hy => ?_, fun y c _ h => ?_, fun _ => hd, Around.frames_deeper e0.frames, .inr ⟨rfl, rfl⟩, fun b z => absurd z (noA b), e0.bs, e0.bsz, fun b _ _ => noA b, fun b z => absurd z (noA b), e0.funs, e0.frf⟩,
    rfl, e0.bare, Un.kept hk, ⟨_, x.toInCall.ns, fun i y v h1 h2 h3 => ?_⟩, fun y c h => ⟨_, x.cell y c h⟩, e0.hok.fresh (Nat.le_refl _), fun y c h => ?_, fun p hp => absurd (show p ∈ ([] : List (Addr × Obj)) from hp) (by simp), e0.hok.kept hk, ?_⟩
  · exact name_of_addr x.apart (PySem.mem_of_lookup h1) (PySem.mem_of_lookup h2)
  · have hy : scope.names.lookup y = some .cell ∨ scope.names.lookup y = some .free := hy
    rcases hy with hy | hy
    · exact cell_has hy
    · exact absurd rfl (S.nofree _ (PySem.mem_of_lookup hy))
  · exact Nat.le_of_lt (x.above y c (PySem.mem_of_lookup h))
  · have hi : i < vs.length := by
      unfold start at h2
      by_cases hi : i < vs.length
      · exact hi
      · rw [List.getElem?_append_right (by simpa using hi)] at h2
        rw [List.getElem?_replicate] at h2
        split at h2 <;> cases h2
    have ha : vs[i]? = some v := by
      unfold start at h2
      rw [List.getElem?_append_left (by simpa using hi), List.getElem?_map] at h2
      cases e : vs[i]? with
      | none => rw [e] at h2; cases h2
      | some a => rw [e] at h2; cases h2; rfl
    obtain ⟨u, hu, rv⟩ := r.get ha
    have hp : ps[i]? = some y := by
      rw [← S.pre, List.getElem?_take_of_lt (by lia)]; exact h1
    have ndP : ps.Nodup := by rw [← S.pre]; exact S.nd.sublist (List.take_sublist _ _)
    refine ⟨u, rv, ?_⟩
    rcases S.par y (List.mem_of_getElem? hp) with k | k
    · exact .inl ⟨k, bindL_get ndP hp hu k⟩
    · obtain ⟨c, e⟩ := cell_has (n := s.heap.objs.size + 1) k
      refine .inr ⟨.inl k, c, e, ?_⟩
      have q := x.cell y c e
      rw [bindC_get ndP hp hu (by show scope.names.lookup y ≠ _; rw [k]; decide)] at q
      exact q
  · exact e0.hok.fresh (Nat.le_of_lt (x.above y c (PySem.mem_of_lookup h)))
  · unfold start
    show _ = N.length
    rw [List.length_append, List.length_map, List.length_replicate]
    lia
theorem fn_of {CX : CXT} {P : Program} {w : World} {K : PySem.W.Frag} {mg : Str → Option Value} {base : Heap} {k : Nat} {f : Addr} {name qual : Str} {params : Arguments} {body : List Stmt} {scope : Scope} {dV kV doc pm cdv ct oc : Value} {an od : Option Addr}
    {osl : Array (Option Value)} {N ps : List Str} {sp : Sp} (lk : K.lookup f = some ⟨oc, od, .func (PySem.W.fnOf name qual params body scope dV kV doc pm an cdv ct), osl⟩) (hcd : PySem.W.codeIn K cdv qual = true) (S : FnScope N ps scope)
    (len : ∀ vs H Q E, sp vs H Q E → vs.length = ps.length)
    (hbody : ∀ (A : Around) (outer : List Env) (s : Shared) (H : Hp) (vs : List V) (Q : VK) (E : XK), Room k (A.deeper (envOfC qual scope s.heap.objs.size f cdv)) → sp vs H Q E →
      ∃ t, PSs (cxOf CX P w K mg base N qual scope f cdv A outer s H E) body t ∧ t { nx := fun _ H' => Q .non H', rt := Q } (start N vs) H) :
    FnOk P w K mg base CX (k + 1) f (PySem.W.fnOf name qual params body scope dV kV doc pm an cdv ct) ps sp := by
  refine ⟨len, fun A outer s H args us vs Q E hr e0 hb r hsp => ?_⟩
  have hl := len _ _ _ _ hsp
  have KX : K.In s.heap := e0.mod.kin.keeps fun b o e => (e0.bs b o e).1
  have lim : s.heap.NoLimit := e0.mod.nolimit.keeps fun b o e => (e0.bs b o e).1
  have hkind : ∀ y ∈ ps.zip us, scope.names.lookup y.1 = some .local ∨ (scope.names.lookup y.1 = some .cell ∧ ((cellsFrom (s.heap.objs.size + 1) scope.names []).lookup y.1).isSome = true) := fun ⟨n, v⟩ hy => by
    rcases S.par n (List.of_mem_zip hy).1 with q | q
    · exact .inl q
    · exact .inr ⟨q, PySem.W.cellsFrom_some _ _ _ (.inl q)⟩
  refine codeAny_call_function hr.depth (KX _ _ lk) rfl S.co S.gen rfl (PySem.W.codeRec_of KX hcd) (hb _ _ _ _ ?_)
  refine wpAny_newFunctionEnv_cells S.kind hkind fun env he s1 x => ?_
  subst he
  refine ⟨lim.keeps x.toInCall.keep, codeAny_func ?_⟩
  obtain ⟨t, ht, hq⟩ := hbody A outer s H vs Q E (hr.deeper _) hsp
  have I : Inv (cxOf CX P w K mg base N qual scope f cdv A outer s H E) [] (start N vs) H s1 := inv_start S hr.hd e0 hl r x
  refine wpAny_mono (ht [] s1 (start N vs) H _ I hq) (fun fl s' hs => ?_) fun e s' hs => hs
  have fin : ∀ {σ' : St} {H' : Hp} {v : V} {u : Value}, Inv (cxOf CX P w K mg base N qual scope f cdv A outer s H E) [] σ' H' s' → RelV v u → Q v H' → CE outer P w H s Q u s' :=
    fun {σ' H' v u} J rv q => ⟨v, H', J.os, J.bare, J.base, J.hok, rv, q⟩
  cases fl with
  | ret u =>
    obtain ⟨v, σ', H', J, rv, q⟩ := hs
    exact fin J rv q
  | next =>
    obtain ⟨σ', H', J, q⟩ := hs
    exact fin (v := V.non) (u := Value.none) J rfl q
  | brk =>
    obtain ⟨_, _, _, q⟩ := hs
    exact False.elim q
  | cont =>
    obtain ⟨_, _, _, q⟩ := hs
    exact False.elim q
end L2
namespace L2
open PySem PySem.Spec PyProof.Rows
section
variable {X : Cx} {x : Str} {p pos : Pos} {e : Expr} {es : List Expr} {t : TA} {id T : String} {r : List V → Hp → VK → Prop}
noncomputable def tCB (r : List V → Hp → VK → Prop) (t : TA) : TE := fun σ H Q => t σ H fun vs H1 => r vs H1 Q
theorem pe_callB (hc : CallR X (.builtin id) r) (hg : Gl X x) (hm : X.mg x = none) (hv : bootBuiltins x = some (.builtin id)) (ha : PA X (e :: es) t) (hn : x ≠ "__name__" := by decide) (hdb : (x == ("__debug__" : Str)) = false := by decide)
    (he : starEach (e :: es) X.env = (false, eval e X.env) :: starEach es X.env := by rfl) (hpl : (backTo pos (starEach es X.env)).any (·.1) = false := by rfl) : PE X (.Call (.Name x p) (e :: es) [] pos) (tCB r t) := by
  intro pins s σ H Q I h
  refine wpAny_Call_Name_kw (ld_blt I hg hm hv ?_ hn hdb)
  exact PyProof.Rows.callWith_builtin1 (thn (ha pos pins s σ H _ I h) fun us s1 ⟨vs, H1, I1, r1, q1⟩ => hc pins s1 σ H1 vs us Q I1 r1 q1) he hpl
theorem pe_callTy (hc : CallR X (.type T) r) (hg : Gl X x) (hm : X.mg x = none) (hv : bootBuiltins x = some (.type T)) (ha : PA X (e :: es) t) (hn : x ≠ "__name__" := by decide) (hdb : (x == ("__debug__" : Str)) = false := by decide)
    (he : starEach (e :: es) X.env = (false, eval e X.env) :: starEach es X.env := by rfl) (hpl : (backTo pos (starEach es X.env)).any (·.1) = false := by rfl) : PE X (.Call (.Name x p) (e :: es) [] pos) (tCB r t) := by
  intro pins s σ H Q I h
  refine wpAny_Call_Name_kw (ld_blt I hg hm hv ?_ hn hdb)
  exact PyProof.Rows.callWith_type1 (thn (ha pos pins s σ H _ I h) fun us s1 ⟨vs, H1, I1, r1, q1⟩ => hc pins s1 σ H1 vs us Q I1 r1 q1) he hpl
end
end L2
namespace HT
open PySem PyProof.Rows
section
open PySem.SeqAt
open PySem.AutoSeq1 (wpAny_loadPart')
open PySem.MeetsSeq PySem.MeetsSeq2 PySem.MeetsSeq3
end
section
variable {prog : Program} {w : World} {A : Around} {E : Value → Shared → Prop} {s : Shared}
theorem cat_tup {t b : Addr} {vs ws : List Value} {Q : Value → Shared → Prop} (ht : IsTup s.heap t vs.toArray) (hb : IsTup s.heap b ws.toArray) (hv : vs ≠ [])
    (h1 : ws = [] → Q (.ref t) s) (h2 : ws ≠ [] → Q (.ref s.heap.objs.size) { s with heap := s.heap.push { cls := .type "tuple", data := .seq (vs ++ ws).toArray } })
    (hsz : vs.length + ws.length ≤ sizeLine) : wpAny (model prog w) A (binaryOp .Add (.ref t) (.ref b)) Q E s := by
  obtain ⟨⟨cls, dd, data, sl⟩, ho, hc, n, hd⟩ := id ht
  obtain ⟨⟨cls2, dd2, data2, sl2⟩, ho2, hc2, n2, hd2⟩ := id hb
  simp only at hc hd hc2 hd2
  subst hc hd hc2 hd2
  have e : vs.toArray ++ ws.toArray = (vs ++ ws).toArray := by simp
  by_cases hw : ws = []
  · exact concat_meets ⟨_, ho, rfl⟩ ⟨_, ho2, rfl⟩ noFill_tuple_add seq_tuple_add PySem.F.slot_tuple_add PySem.F.entry_tuple_add (PySem.F.args_tuple_add_2 _ _)
      (tuple_addW1 t b vs.toArray ws.toArray n n2 dd dd2 sl sl2 (by simpa using hv) (by simp [hw])) ⟨ho, ho2, h1 hw⟩
  · refine concat_meets ⟨_, ho, rfl⟩ ⟨_, ho2, rfl⟩ noFill_tuple_add seq_tuple_add PySem.F.slot_tuple_add PySem.F.entry_tuple_add (PySem.F.args_tuple_add_2 _ _)
      (tuple_addW2 t b vs.toArray ws.toArray n n2 dd dd2 sl sl2 (by simpa using hv) (by simpa using hw) (by rw [List.size_toArray, List.size_toArray]; exact hsz)) ⟨ho, ho2, ?_⟩
    rw [e]
    exact h2 hw
noncomputable def sIx (n d : Nat) : Option Int → Nat
  | none => d
  | some v => if v < 0 then (v + (n : Int)).toNat else min v.toNat n
theorem sIx_none (n d : Nat) : sIx n d none = d := rfl
theorem sIx_nat (n d k : Nat) : sIx n d (some (k : Int)) = min k n := by
  show (if (k : Int) < 0 then ((k : Int) + (n : Int)).toNat else min (k : Int).toNat n) = min k n
  rw [if_neg (by lia), Int.toNat_natCast]
theorem sIx_le (n d : Nat) (hd : d ≤ n) (o : Option Int) : sIx n d o ≤ n := by
  cases o with
  | none => exact hd
  | some v =>
    show (if v < 0 then (v + (n : Int)).toNat else min v.toNat n) ≤ n
    by_cases hv : v < 0
    · rw [if_pos hv]; lia
    · rw [if_neg hv]; exact Nat.min_le_right _ _
theorem clip_eq (v : Int) (n d : Nat) : (if v < 0 then max (v + (n : Int)) 0 else min v (n : Int)) = ((sIx n d (some v) : Nat) : Int) := by
  show (if v < 0 then max (v + (n : Int)) 0 else min v (n : Int)) = (((if v < 0 then (v + (n : Int)).toNat else min v.toNat n) : Nat) : Int)
  by_cases hv : v < 0
  · simp only [if_pos hv]; lia
  · simp only [if_neg hv]; lia
theorem adjust_gen (lo hi : Option Int) (n : Nat) : Builtin.Slice.sliceAdjust lo hi 1 (n : Int) = (((sIx n 0 lo : Nat) : Int), ((sIx n n hi : Nat) : Int)) := by
  have h1 : ¬ ((1 : Int) < 0) := by lia
  unfold Builtin.Slice.sliceAdjust
  simp only [h1, if_false]
  refine Prod.ext ?_ ?_
  · cases lo with
    | none => rfl
    | some v => exact clip_eq v n 0
  · cases hi with
    | none => rfl
    | some v => exact clip_eq v n n
theorem places_gen (i j : Nat) : Builtin.Slice.slicePlaces (i : Int) (j : Int) 1 = j - i := by
  unfold Builtin.Slice.slicePlaces
  have h1 : (1 : Int) > 0 := by lia
  simp only [h1, if_true, Int.ediv_one]
  split <;> lia
theorem slicePart_ {v : Value} {o : Option Int} {Q : Option Int → Shared → Prop} (p : IsPart v o) (h : Q o s) : wpAny (model prog w) A (Builtin.Slice.slicePartIndex v) Q E s := by
  cases p with
  | none => exact slicePart_none h
  | int i t => exact slicePart_int h
theorem sliceApplied_gen {sl : Addr} {vl vu : Value} {lo hi : Option Int} {n : Nat} {Q : Int × Int × Nat → Shared → Prop} (hs : s.heap.IsSliceOf sl vl vu .none) (pl : IsPart vl lo) (pu : IsPart vu hi)
    (h : Q (((sIx n 0 lo : Nat) : Int), 1, sIx n n hi - sIx n 0 lo) s) : wpAny (model prog w) A (Builtin.Slice.sliceApplied (.ref sl) (pure (n : Int))) Q E s := by
  obtain ⟨os, hos, hcs, hds⟩ := id hs
  unfold Builtin.Slice.sliceApplied Builtin.Slice.sliceFields
  refine wpAny_bind (wpAny_bind (wpAny_field hos hds (x := vl) rfl (wpAny_bind (wpAny_field hos hds (x := vu) rfl (wpAny_bind (wpAny_field hos hds (x := .none) rfl (wpAny_pure ?_)))))))
  refine wpAny_bind (slicePart_none ?_)
  show wpAny _ _ (if ((1 : Int) == 0) = true then _ else _) _ _ s
  rw [if_neg (by decide)]
  refine wpAny_bind (slicePart_ pl (wpAny_bind (slicePart_ pu (wpAny_bind (wpAny_pure ?_)))))
  show wpAny _ _ (match Builtin.Slice.sliceAdjust lo hi 1 (n : Int) with | (lo, hi) => pure (lo, (1 : Int), Builtin.Slice.slicePlaces lo hi 1)) _ _ s
  rw [adjust_gen lo hi n]
  show wpAny _ _ (pure (((sIx n 0 lo : Nat) : Int), (1 : Int), Builtin.Slice.slicePlaces ((sIx n 0 lo : Nat) : Int) ((sIx n n hi : Nat) : Int) 1)) _ _ s
  rw [places_gen]
  exact wpAny_pure h
theorem pick_gen (xs : Array Value) (i k : Nat) : ((List.range k).filterMap fun (m : Nat) => xs[((i : Int) + (m : Int) * 1).toNat]?).toArray = ((xs.toList.drop i).take k).toArray := by
  have e : (fun (m : Nat) => xs[((i : Int) + (m : Int) * 1).toNat]?) = fun m => xs[i + m]? := by
    funext m
    have : ((i : Int) + (m : Int) * 1).toNat = i + m := by lia
    rw [this]
  rw [e]
  have := pick_run xs i k
  rw [List.filterMap_map] at this
  have e2 : ((fun x => xs[x]?) ∘ fun x => i + x) = fun m => xs[i + m]? := rfl
  rw [e2] at this
  rw [this]
theorem getItem_tuple_cut {t sl : Addr} {items : Array Value} {vl vu : Value} {lo hi : Option Int} {Q : Value → Shared → Prop} (ht : IsTup s.heap t items) (hs : s.heap.IsSliceOf sl vl vu .none) (pl : IsPart vl lo) (pu : IsPart vu hi)
    (hw : ¬ (sIx items.size 0 lo = 0 ∧ sIx items.size items.size hi = items.size))
    (h : Q (.ref s.heap.objs.size) { s with heap := s.heap.push { cls := .type "tuple", data := .seq ((items.toList.drop (sIx items.size 0 lo)).take (sIx items.size items.size hi - sIx items.size 0 lo)).toArray } })
    (hsz : items.size ≤ sizeLine) : wpAny (model prog w) A (getItem (.ref t) (.ref sl)) Q E s := by
  have htake : sizeOk (.seq ((items.toList.drop (sIx items.size 0 lo)).take (sIx items.size items.size hi - sIx items.size 0 lo)).toArray) := by
    show ((items.toList.drop (sIx items.size 0 lo)).take (sIx items.size items.size hi - sIx items.size 0 lo)).toArray.size ≤ sizeLine
    rw [List.size_toArray, List.length_take, List.length_drop, Array.length_toList]
    lia
  have hj : sIx items.size items.size hi ≤ items.size := sIx_le _ _ (Nat.le_refl _) hi
  obtain ⟨os, hos, hcs, hds⟩ := id hs
  have hTs : s.TypeIs (.ref sl) "slice" := ⟨os, hos, hcs⟩
  unfold getItem
  try with_reducible refine wpAny_holding ?_
  first | refine wpAny_bind (wpAny_pure ?_) | skip
  refine wpAny_bind (wpAny_sequenceKey ht.typeIs (by decide) ?_)
  refine wpAny_bind (wpAny_callSpecial?_slot (name := Str.ofString "__getitem__") ht.typeIs PyProof.Rows.slot_tuple_getitem
    (wpAny_call_entry PyProof.Rows.slot_tuple_getitem ht.typeIs entry_tuple_getitem ?_ (args_tuple_getitem _ _)))
  show wpAny _ _ (Builtin.Tuple.tupleItemsOf (.ref t) >>= _) _ _ s
  refine wpAny_bind (tupleItemsOf_ ht ?_)
  refine wpAny_bind (wpAny_typeOf hTs ?_)
  rw [if_pos (by decide)]
  refine wpAny_bind (sliceApplied_gen hs pl pu ?_)
  have hno : ¬ ((((sIx items.size 0 lo : Nat) : Int) == 0 && (1 : Int) == 1 && (sIx items.size items.size hi - sIx items.size 0 lo) == items.size) = true) := by
    intro q
    rw [Bool.and_eq_true, Bool.and_eq_true] at q
    have q1 : ((sIx items.size 0 lo : Nat) : Int) = 0 := eq_of_beq q.1.1
    have q2 : sIx items.size items.size hi - sIx items.size 0 lo = items.size := eq_of_beq q.2
    exact hw ⟨by lia, by lia⟩
  show wpAny _ _ (if (((sIx items.size 0 lo : Nat) : Int) == 0 && (1 : Int) == 1 && (sIx items.size items.size hi - sIx items.size 0 lo) == items.size) = true then _ else _) _ _ s
  rw [if_neg hno, pick_gen]
  first
    | exact wpAny_bind (m := Builtin.Tuple.tupleExact _) (wpAny_newObj_type (wpAny_pure ⟨_, rfl, wpAny_pure h⟩) htake)
    | exact wpAny_bind (m := Builtin.Tuple.tupleExact _) (wpAny_newObj_type (wpAny_bind (wpAny_pure (wpAny_pure ⟨_, rfl, wpAny_pure h⟩))) htake)
    | exact wpAny_bind (wpAny_bind (m := Builtin.Tuple.tupleExact _) (wpAny_newObj_type (wpAny_pure (wpAny_pure ⟨_, rfl, wpAny_pure h⟩)) htake))
    | exact wpAny_bind (wpAny_bind (m := Builtin.Tuple.tupleExact _) (wpAny_newObj_type (wpAny_pure ⟨_, rfl, wpAny_pure h⟩) htake))
end
end HT
namespace L2
open PySem PySem.Spec PyProof.Rows
noncomputable abbrev TO := St → Hp → (Option Int → Hp → Prop) → Prop
noncomputable def PO (X : Cx) (e : Option Expr) (t : TO) : Prop :=
  ∀ (pins : List (Addr × Obj)) (s : Shared) (σ : St) (H : Hp) (Q : Option Int → Hp → Prop), Inv X pins σ H s → t σ H Q →
    wpAny (model X.prog X.w) X.A (evalPart e X.env) (fun u s' => ∃ o H', Inv X pins σ H' s' ∧ IsPart u o ∧ Q o H') X.xe s
noncomputable def tNoPart : TO := fun _ H Q => Q none H
inductive rIntP  (x : V) (H1 : Hp) (Q : (Option Int → Hp → Prop)) : Prop
  | mk : ∀ i, (x = .int i) → (Q (some i) H1) → rIntP x H1 Q
noncomputable def tPart (t : TE) : TO := fun σ H Q => t σ H fun x H1 => rIntP x H1 Q
section
variable {X : Cx} {e : Expr} {te : TE} {lo hi : Option Expr} {tl th : TO} {pos p2 : Pos}
theorem po_none : PO X none tNoPart := by
  intro pins s σ H Q I h
  rw [evalPart_none]
  exact wpAny_pure ⟨none, H, I, .none, h⟩
theorem po_some (h : PE X e te) : PO X (some e) (tPart te) := by
  intro pins s σ H Q I hw
  rw [evalPart_some]
  refine thn (h pins s σ H _ I hw) fun u s1 ⟨x, H1, I1, r1, q1⟩ => ?_
  obtain ⟨i, rfl, q⟩ := q1
  obtain ⟨t, rfl⟩ := r1
  exact ⟨some i, H1, I1, .int i t, q⟩
noncomputable def SlR (X : Cx) (r : V → Option Int → Option Int → Hp → VK → Prop) : Prop :=
  ∀ (pins : List (Addr × Obj)) (s : Shared) (σ : St) (H : Hp) (x : V) (v vl vu : Value) (lo hi : Option Int) (sl : Addr) (Q : VK), Inv X pins σ H s → RelV x v → s.heap.IsSliceOf sl vl vu .none → IsPart vl lo → IsPart vu hi → r x lo hi H Q →
    ∃ T id, typeLookup (.type T) "__getitem__" = pure (some (.builtin id)) ∧ s.TypeIs v T ∧ wpAny (model X.prog X.w) X.A (getItem v (.ref sl)) (EP X pins σ Q) X.xe s
noncomputable def tSl (r : V → Option Int → Option Int → Hp → VK → Prop) (te : TE) (tl th : TO) : TE := fun σ H Q => te σ H fun x H1 => tl σ H1 fun l H2 => th σ H2 fun u H3 => r x l u H3 Q
theorem pe_slice {r : V → Option Int → Option Int → Hp → VK → Prop} (hr : SlR X r) (he : PE X e te) (hl : PO X lo tl) (hu : PO X hi th) : PE X (.Subscript e (.Slice lo hi none p2) pos) (tSl r te tl th) := by
  intro pins s σ H Q I h
  refine Subscript_ (thn (he pins s σ H _ I h) fun v s1 ⟨x, H1, I1, r1, q1⟩ => ?_)
  refine wpAny_Slice (thn (hl pins s1 σ H1 _ I1 q1) fun vl s2 ⟨l, H2, I2, pl, q2⟩ => thn (hu pins s2 σ H2 _ I2 q2) fun vu s3 ⟨u, H3, I3, pu, q3⟩ => ?_)
  rw [evalPart_none]
  refine wpAny_pure ?_
  have I4 : Inv X pins σ H3 { s3 with heap := s3.heap.push { cls := .type "slice", data := .fields #[vl, vu, .none] } } := I3.kept (t' := s3.toks) fun b ob q => Heap.get?_push_of_some _ q
  obtain ⟨T, id, hT, ht, hg⟩ := hr pins { s3 with heap := s3.heap.push { cls := .type "slice", data := .fields #[vl, vu, .none] } } σ H3 x v vl vu l u s3.heap.objs.size Q I4 r1 (Heap.IsSliceOf.new ..) pl pu q3
  show wpAny (model X.prog X.w) X.A (subscriptTail e (.Slice lo hi none p2) v (.ref s3.heap.objs.size)) (EP X pins σ Q) X.xe { s3 with heap := s3.heap.push { cls := .type "slice", data := .fields #[vl, vu, .none] } }
  exact tail_any (ops := [.ref s3.heap.objs.size, v]) ht hT hg (by with_unfolding_all rfl)
noncomputable def cutV (xs : List V) (lo hi : Option Int) : List V := (xs.drop (HT.sIx xs.length 0 lo)).take (HT.sIx xs.length xs.length hi - HT.sIx xs.length 0 lo)
theorem cutV_length (xs : List V) (lo hi : Option Int) : (cutV xs lo hi).length ≤ xs.length := by
  unfold cutV
  rw [List.length_take, List.length_drop]
  lia
inductive rSlT (K : PySem.W.Frag) (x : V) (lo : Option Int) (hi : Option Int) (H : Hp) (Q : VK) : Prop
  | mk : ∀ a xs, (x = .ref a) → (SqT K H a xs) → (¬ (HT.sIx xs.length 0 lo = 0 ∧ HT.sIx xs.length xs.length hi = xs.length)) → (∀ p, H p = none → Q (.ref p) (upd H p (.tup (cutV xs lo hi)))) → rSlT K x lo hi H Q
theorem sl_tup : SlR X (rSlT X.K) := by
  intro pins s σ H x v vl vu lo hi sl Q I rx hs pl pu h
  obtain ⟨a, xs, rfl, hx, hw, q⟩ := h
  cases rx
  obtain ⟨its, r, ht, hz⟩ := I.tuple hx
  have hlen : its.toArray.size = xs.length := by rw [List.size_toArray]; exact r.length.symm
  refine ⟨"tuple", _, PyProof.Rows.slot_tuple_getitem.lookup, ht.typeIs, ?_⟩
  refine HT.getItem_tuple_cut ht hs pl pu (by rw [hlen]; exact hw) ?_ (by rw [hlen]; exact hz)
  rw [hlen]
  refine ⟨.ref s.heap.objs.size, _, I.laid (t' := s.toks) (o := .tup (cutV xs lo hi)) (fun b ob q => Heap.get?_push_of_some _ q) (Nat.le_refl _) ?_, rfl, q _ (I.hok.fresh (Nat.le_refl _))⟩
  exact ⟨Nat.le_trans (cutV_length xs lo hi) hz, _, (r.drop (HT.sIx xs.length 0 lo)).take (HT.sIx xs.length xs.length hi - HT.sIx xs.length 0 lo), IsTup.new _ _⟩
inductive rCatT (K : PySem.W.Frag) (x : V) (y : V) (H : Hp) (Q : VK) : Prop
  | mk : ∀ a b xs ys, (x = .ref a) → (y = .ref b) → (SqT K H a xs) → (SqT K H b ys) → (xs ≠ []) → (xs.length + ys.length ≤ sizeLine) → ((ys = [] → Q (.ref a) H)) → ((ys ≠ [] → ∀ p, H p = none → Q (.ref p) (upd H p (.tup (xs ++ ys))))) → rCatT K x y H Q
theorem Vals.nil_iff {xs : List V} {us : List Value} (r : Vals xs us) : us = [] ↔ xs = [] := by
  cases r with
  | nil => simp
  | cons _ _ => simp
theorem op_catT : OpR X (binaryOp .Add) (rCatT X.K) := by
  intro pins s σ H x y v u Q I rx ry h
  obtain ⟨a, b, xs, ys, rfl, rfl, ha, hb, hx, hz, q1, q2⟩ := h
  cases rx
  cases ry
  obtain ⟨its, r1, p1, _⟩ := I.tuple ha
  obtain ⟨its2, r2, p2, _⟩ := I.tuple hb
  refine HT.cat_tup p1 p2 (fun z => hx (r1.nil_iff.mp z)) (fun z => ⟨.ref a, H, I, rfl, q1 (r2.nil_iff.mp z)⟩) (fun z => ?_) (by rw [← r1.length, ← r2.length]; exact hz)
  refine ⟨.ref s.heap.objs.size, _, I.laid (t' := s.toks) (o := .tup (xs ++ ys)) (fun b ob q => Heap.get?_push_of_some _ q) (Nat.le_refl _) ?_, rfl, q2 (fun w => z (r2.nil_iff.mpr w)) _ (I.hok.fresh (Nat.le_refl _))⟩
  exact ⟨by rw [List.length_append]; exact hz, _, r1.append r2, IsTup.new _ _⟩
end
end L2
namespace L2
open PySem PySem.Spec PyProof.Rows
noncomputable def ixN (n : Nat) (i : Int) : Option Nat := if 0 ≤ i then (if i < n then some i.toNat else none) else if -(n : Int) ≤ i then some (i + n).toNat else none
noncomputable def atI {α : Type} (xs : List α) (i : Int) : Option α := (ixN xs.length i).bind fun j => xs[j]?
theorem ixN_seq {n : Nat} {i : Int} {j : Nat} (h : ixN n i = some j) : seqIndex? i n = some j ∧ j < n ∧ -(n : Int) ≤ i ∧ i < n := by
  unfold ixN at h
  by_cases h0 : 0 ≤ i
  · rw [if_pos h0] at h
    by_cases h1 : i < n
    · rw [if_pos h1] at h
      have e : i.toNat = j := Option.some.inj h
      exact ⟨by rw [seqIndex_of h0 h1, e], by lia, by lia, h1⟩
    · rw [if_neg h1] at h; cases h
  · rw [if_neg h0] at h
    by_cases h1 : -(n : Int) ≤ i
    · rw [if_pos h1] at h
      have e : (i + n).toNat = j := Option.some.inj h
      exact ⟨by rw [seqIndex_neg (by lia) h1, e], by lia, h1, by lia⟩
    · rw [if_neg h1] at h; cases h
theorem atI_get {α : Type} {xs : List α} {i : Int} {v : α} (h : atI xs i = some v) : ∃ j, seqIndex? i xs.length = some j ∧ xs[j]? = some v ∧ j < xs.length ∧ -(xs.length : Int) ≤ i ∧ i < xs.length := by
  unfold atI at h
  cases e : ixN xs.length i with
  | none => rw [e] at h; cases h
  | some j =>
    rw [e] at h
    obtain ⟨h1, h2, h3, h4⟩ := ixN_seq e
    exact ⟨j, h1, h, h2, h3, h4⟩
theorem atI_nat {α : Type} {xs : List α} {j : Nat} {v : α} (h : xs[j]? = some v) : atI xs (j : Int) = some v := by
  have hj : j < xs.length := (List.getElem?_eq_some_iff.mp h).1
  have e : ixN xs.length (j : Int) = some j := by
    unfold ixN
    rw [if_pos (by lia), if_pos (by lia)]; simp
  unfold atI; rw [e]; exact h
noncomputable def PlainIx (b : Expr) : Prop := ∀ o i, subscripted b false o i = operate [o, i] (getItem o i)
noncomputable def IxR (X : Cx) (r : R2) : Prop :=
  ∀ (value slice : Expr) (pins : List (Addr × Obj)) (s : Shared) (σ : St) (H : Hp) (x y : V) (v u : Value) (Q : VK), Inv X pins σ H s → RelV x v → RelV y u → r x y H Q →
    subscripted slice false v u = operate [v, u] (getItem v u) → wpAny (model X.prog X.w) X.A (subscriptTail value slice v u) (EP X pins σ Q) X.xe s
noncomputable def MtR (X : Cx) (id : String) (r : V → List V → Hp → VK → Prop) : Prop :=
  ∀ (pins : List (Addr × Obj)) (s : Shared) (σ : St) (H : Hp) (x : V) (xs : List V) (v : Value) (us : List Value) (Q : VK), Inv X pins σ H s → RelV x v → Vals xs us → r x xs H Q →
    wpAny (model X.prog X.w) X.A (call (.builtin id) (v :: us)) (EP X pins σ Q) X.xe s
section
variable {X : Cx} {a b : Expr} {ta tb : TE} {pos : Pos}
theorem pe_ix {r : R2} (hr : IxR X r) (ha : PE X a ta) (hb : PE X b tb) (hs : PlainIx b) : PE X (.Subscript a b pos) (tOp r ta tb) := by
  intro pins s σ H Q I h
  exact Subscript_ (binT ha hb I h fun v u s2 x y H2 I2 rx ry q => hr a b pins s2 σ H2 x y v u Q I2 rx ry q (hs _ _))
inductive rIxL (K : PySem.W.Frag) (x : V) (y : V) (H : Hp) (Q : VK) : Prop
  | mk : ∀ p xs i v, (x = .ref p) → (y = .int i) → (SqL K H p xs) → (atI xs i = some v) → (Q v H) → rIxL K x y H Q
inductive rIxT (K : PySem.W.Frag) (x : V) (y : V) (H : Hp) (Q : VK) : Prop
  | mk : ∀ p xs i v, (x = .ref p) → (y = .int i) → (SqT K H p xs) → (atI xs i = some v) → (Q v H) → rIxT K x y H Q
inductive rIxS  (x : V) (y : V) (H : Hp) (Q : VK) : Prop
  | mk : ∀ z i c, (x = .str z) → (y = .int i) → (z.length ≤ sizeLine) → (atI z.cps.toList i = some c) → (Q (.str ⟨#[c]⟩) H) → rIxS x y H Q
theorem ix_list : IxR X (rIxL X.K) := by
  intro value slice pins s σ H x y v u Q I rx ry h hs
  obtain ⟨p, xs, i, z, rfl, rfl, hq, he, q⟩ := h
  cases rx
  obtain ⟨t, rfl⟩ := ry
  obtain ⟨its, r, pl, hz⟩ := I.list hq
  obtain ⟨j, h1, h2, h3, h4, h5⟩ := atI_get he
  obtain ⟨w, ew, rw'⟩ := r.get h2
  have hl := r.length
  have hn := line63
  have fin : EP X pins σ Q w s := ⟨z, H, I, rw', q⟩
  by_cases h0 : 0 ≤ i
  · have hj : i.toNat = j := by
      rw [seqIndex_of h0 h5] at h1
      exact Option.some.inj h1
    exact item_listR pl.isList h0 (by lia) (by rw [hj]; simpa using ew) fin hs
  · have hj : (i + (its.toArray.size : Int)).toNat = j := by
      rw [seqIndex_neg (by lia) h4] at h1
      rw [List.size_toArray, ← hl]
      exact Option.some.inj h1
    exact subscriptTail_builtinR (x := w) pl.isList.typeIs slot_list_getitem.lookup
      (wpAny_getItem_list_neg (Q := fun r s' => r = w ∧ EP X pins σ Q r s') pl.isList (by lia) (by rw [List.size_toArray] <;> lia) (by lia) (by rw [hj]; simpa using ew) ⟨rfl, fin⟩) hs
theorem ix_tup : IxR X (rIxT X.K) := by
  intro value slice pins s σ H x y v u Q I rx ry h hs
  obtain ⟨p, xs, i, z, rfl, rfl, hq, he, q⟩ := h
  cases rx
  obtain ⟨t, rfl⟩ := ry
  obtain ⟨its, r, pl, hz⟩ := I.tuple hq
  obtain ⟨j, h1, h2, h3, h4, h5⟩ := atI_get he
  obtain ⟨w, ew, rw'⟩ := r.get h2
  have hl := r.length
  have hn := line63
  have fin : EP X pins σ Q w s := ⟨z, H, I, rw', q⟩
  exact subscriptTail_builtinR (x := w) pl.typeIs slot_tuple_getitem.lookup
    (getItem_tuple (j := j) (Q := fun r s' => r = w ∧ EP X pins σ Q r s') pl (by lia) (by lia) (by rw [List.size_toArray, ← hl]; exact h1) (by simpa using ew) ⟨rfl, fin⟩) hs
theorem ix_str : IxR X rIxS := by
  intro value slice pins s σ H x y v u Q I rx ry h hs
  obtain ⟨z, i, c, rfl, rfl, hz, he, q⟩ := h
  obtain ⟨t, rfl⟩ := rx
  obtain ⟨t', rfl⟩ := ry
  obtain ⟨j, h1, h2, h3, h4, h5⟩ := atI_get he
  have hl : z.cps.toList.length = z.length := by simp [Str.length]
  rw [hl] at h1 h4 h5
  have hn := line63
  exact tail_any (typeIs_str s z t) slot_str_getitem.lookup (getItem_str (c := c) (by
    have e1 : decide (i < -(2 ^ 63 : Int)) = false := decide_eq_false (by lia)
    have e2 : decide (i ≥ 2 ^ 63) = false := decide_eq_false (by lia)
    rw [e1, e2, Bool.or_false]) (by rw [h1]; simpa using h2) ⟨.str ⟨#[c]⟩, H, I.tok _, ⟨_, rfl⟩, q⟩) hs
theorem mapSeq_set (its : List Value) (n j : Nat) (u : Value) : Obj.mapSeq (·.setIfInBounds j u) { cls := .type "list", data := .seq its.toArray n } = { cls := .type "list", data := .seq (its.set j u).toArray n } := by
  simp [Obj.mapSeq]
theorem Inv.lst {pins : List (Addr × Obj)} {σ : St} {H : Hp} {s : Shared} {p : Addr} {xs : List V} (I : Inv X pins σ H s) (h : H p = some (.lst xs)) :
    ∃ (its : List Value) (n : Nat), Vals xs its ∧ s.heap.get? p = some { cls := .type "list", data := .seq its.toArray n } ∧ xs.length ≤ sizeLine := by
  obtain ⟨z, its, n, r, e⟩ := I.hok p _ h
  exact ⟨its, n, r, e, z⟩
theorem Inv.lstUpd {pins : List (Addr × Obj)} {σ : St} {H : Hp} {s : Shared} {p : Addr} {xs ys : List V} {its its' : List Value} {n n' : Nat} {f : Obj → Obj} (I : Inv X pins σ H s) (h : H p = some (.lst xs))
    (ho : s.heap.get? p = some { cls := .type "list", data := .seq its.toArray n }) (hf : f { cls := .type "list", data := .seq its.toArray n } = { cls := .type "list", data := .seq its'.toArray n' }) (r : Vals ys its') (hz : ys.length ≤ sizeLine) (t : Nat) :
    Inv X pins σ (upd H p (.lst ys)) { s with heap := s.heap.update p f, toks := t } := by
  have e : (s.heap.update p f).get? p = some { cls := .type "list", data := .seq its'.toArray n' } := by
    rw [Heap.get?_update_self f ho (by rw [hf] <;> rfl), hf]
  refine I.write (x := p) (e := p) (by rw [h]; trivial) (.inl rfl) (fun b u hb q => (Heap.get?_update_other _ _ (Ne.symm hb)).trans q) ⟨_, e⟩ ?_
  exact ⟨hz, its', n', r, e⟩
inductive rSetL  (o : V) (i : V) (v : V) (H : Hp) (Q : (Hp → Prop)) : Prop
  | mk : ∀ p xs k j, (o = .ref p) → (i = .int k) → (H p = some (.lst xs)) → (ixN xs.length k = some j) → (Q (upd H p (.lst (xs.set j v)))) → rSetL o i v H Q
theorem set_list : PSet X rSetL := by
  intro pins s σ H o i v ov iv u Q I ro ri rv h
  obtain ⟨p, xs, k, j, rfl, rfl, hp, hj, q⟩ := h
  cases ro
  obtain ⟨t, rfl⟩ := ri
  obtain ⟨its, n, r, ho, hz⟩ := I.lst hp
  obtain ⟨h1, h2, h3, h4⟩ := ixN_seq hj
  have hl := r.length
  have hn := line63
  have I' : Inv X pins σ (upd H p (.lst (xs.set j v))) { s with heap := s.heap.update p (Obj.mapSeq (·.setIfInBounds j u)) } :=
    I.lstUpd hp ho (mapSeq_set its n j u) (r.set rv j) (by rw [List.length_set]; exact hz) s.toks
  by_cases h0 : 0 ≤ k
  · have hk : k.toNat = j := by
      rw [seqIndex_of h0 h4] at h1
      exact Option.some.inj h1
    exact PySem.W.ki_setAt ho h0 (by lia) (by rw [List.size_toArray, ← hl]; exact h4) (by rw [hk]; exact ⟨_, I', q⟩)
  · have hk : (k + (its.toArray.size : Int)).toNat = j := by
      rw [seqIndex_neg (by lia) h3] at h1
      rw [List.size_toArray, ← hl]
      exact Option.some.inj h1
    exact PySem.W.ki_setBack ho (by lia) (by rw [List.size_toArray, ← hl]; exact h3) (by lia) (by rw [hk]; exact ⟨_, I', q⟩)
theorem slice_bounds (lo hi : Option Int) (n : Nat) : (sliceBounds lo hi none n).1 = ((HT.sIx n 0 lo : Nat) : Int) ∧ (sliceBounds lo hi none n).2.1 = ((HT.sIx n n hi : Nat) : Int) ∧ (sliceBounds lo hi none n).2.2 = 1 := by
  refine ⟨?_, ?_, rfl⟩
  · cases lo with
    | none => simp [sliceBounds, HT.sIx]
    | some i =>
      simp only [sliceBounds, HT.sIx, Option.getD_none, show (1 : Int) > 0 by decide, if_true]
      by_cases h : i < 0
      · simp only [h, if_true] <;> lia
      · simp only [h, if_false] <;> lia
  · cases hi with
    | none => simp [sliceBounds, HT.sIx]
    | some i =>
      simp only [sliceBounds, HT.sIx, Option.getD_none, show (1 : Int) > 0 by decide, if_true]
      by_cases h : i < 0
      · simp only [h, if_true] <;> lia
      · simp only [h, if_false] <;> lia
theorem slicePick_cut (its : List Value) (lo hi : Option Int) : slicePick its.toArray lo hi none = ((its.drop (HT.sIx its.length 0 lo)).take (HT.sIx its.length its.length hi - HT.sIx its.length 0 lo)).toArray := by
  obtain ⟨h1, h2, h3⟩ := slice_bounds lo hi its.toArray.size
  unfold slicePick
  rw [h1, h2, h3]
  simp only [sliceRange_one, pick_run, List.size_toArray] <;> rfl
inductive rSlL (K : PySem.W.Frag) (x : V) (lo : Option Int) (hi : Option Int) (H : Hp) (Q : VK) : Prop
  | mk : ∀ a xs, (x = .ref a) → (SqL K H a xs) → (∀ p, H p = none → Q (.ref p) (upd H p (.lst (cutV xs lo hi)))) → rSlL K x lo hi H Q
theorem sl_list : SlR X (rSlL X.K) := by
  intro pins s σ H x v vl vu lo hi sl Q I rx hs pl pu h
  obtain ⟨a, xs, rfl, hx, q⟩ := h
  cases rx
  obtain ⟨its, r, ht, hz⟩ := I.list hx
  have hlen := r.length
  refine ⟨"list", _, slot_list_getitem.lookup, ht.isList.typeIs, ?_⟩
  refine wpAny_getItem_list_slice ht.isList hs pl pu .none (by simp) ?_ (by rw [List.size_toArray] <;> lia)
  rw [slicePick_cut, ← hlen]
  refine ⟨.ref s.heap.objs.size, _, I.laid (t' := s.toks) (o := .lst (cutV xs lo hi)) (fun b ob q => Heap.get?_push_of_some _ q) (Nat.le_refl _) ?_, rfl, q _ (I.hok.fresh (Nat.le_refl _))⟩
  exact ⟨Nat.le_trans (cutV_length xs lo hi) hz, _, 0, (r.drop (HT.sIx xs.length 0 lo)).take (HT.sIx xs.length xs.length hi - HT.sIx xs.length 0 lo), Heap.get?_push_size _ rfl⟩
inductive rLen (K : PySem.W.Frag) (xs : List V) (H : Hp) (Q : VK) : Prop
  | mk : ∀ p ys, (xs = [.ref p]) → ((SqL K H p ys ∨ SqT K H p ys)) → (Q (.int ys.length) H) → rLen K xs H Q
theorem call_len_seq : CallR X (.builtin "len") (rLen X.K) := by
  intro pins s σ H xs us Q I r h
  obtain ⟨p, ys, rfl, hq, q⟩ := h
  obtain ⟨u, rfl, rx⟩ := vals1 r
  cases rx
  have hn := line63
  rcases hq with hq | hq
  · obtain ⟨its, r', pl, hz⟩ := I.list hq
    have hlen := r'.length
    exact Calls.call_len_list pl.isList (by simp only [List.size_toArray] <;> lia) ⟨.int ys.length, H, I.tok _, ⟨s.toks + 1, by rw [List.size_toArray, hlen]⟩, q⟩
  · obtain ⟨its, r', pl, hz⟩ := I.tuple hq
    have hlen := r'.length
    exact len_tuple pl (by simp only [List.size_toArray] <;> lia) ⟨.int ys.length, H, I.tok _, ⟨s.toks + 1, by rw [List.size_toArray, hlen]⟩, q⟩
inductive rTupOf (K : PySem.W.Frag) (xs : List V) (H : Hp) (Q : VK) : Prop
  | mk : ∀ p ys, (xs = [.ref p]) → (((SqL K H p ys ∧ ∀ l, H l = none → Q (.ref l) (upd H l (.tup ys))) ∨ (SqT K H p ys ∧ Q (.ref p) H))) → rTupOf K xs H Q
theorem call_tuple_of : CallR X (.type "tuple") (rTupOf X.K) := by
  intro pins s σ H xs us Q I r h
  obtain ⟨p, ys, rfl, h⟩ := h
  obtain ⟨u, rfl, rx⟩ := vals1 r
  cases rx
  rcases h with ⟨hq, q⟩ | ⟨hq, q⟩
  · obtain ⟨its, r', pl, hz⟩ := I.list hq
    have hlen := r'.length
    refine call_tuple_list pl.isList (fun h' kp => ?_) (by simp only [List.size_toArray] <;> lia)
    have I1 : Inv X pins σ H { s with heap := h' } := I.kept (t' := s.toks) kp
    have I2 : Inv X pins σ (upd H h'.objs.size (.tup ys)) { s with heap := h'.push { cls := .type "tuple", data := .seq its.toArray } } :=
      I1.laid (t' := s.toks) (fun b o e => Heap.get?_push_of_some _ e) (Nat.le_refl _) (show ObjOk X.prog X.w _ _ _ (.tup ys) from ⟨hz, its, r', IsTup.new _ _⟩)
    exact ⟨.ref h'.objs.size, _, I2, rfl, q _ (I1.hok.fresh (Nat.le_refl _))⟩
  · obtain ⟨its, r', pl, hz⟩ := I.tuple hq
    exact call_tuple_same pl ⟨.ref p, H, I, rfl, q⟩
noncomputable def tyV (K : PySem.W.Frag) (T : String) (x : V) (H : Hp) : Prop := match x with
  | .str _ => T = "str"
  | .int _ => T = "int"
  | .ref p => (T = "list" ∧ ∃ xs, SqL K H p xs) ∨ (T = "tuple" ∧ ∃ o, K.lookup p = some o ∧ o.cls = .type "tuple" ∧ o.dict = none) ∨
      (T = "dict" ∧ ((∃ kvs, H p = some (.dK kvs)) ∨ ∃ kvs, H p = some (.dT kvs))) ∨ (T = "set" ∧ ∃ S n, H p = some (.set S n))
  | _ => False
theorem tyV_is {pins : List (Addr × Obj)} {σ : St} {H : Hp} {s : Shared} {T : String} {x : V} {v : Value} (I : Inv X pins σ H s) (r : RelV x v) (ty : tyV X.K T x H) :
    s.TypeIs v T ∧ ∀ a, v = .ref a → ∃ ob, s.heap.get? a = some ob ∧ ob.dict = none := by
  cases x with
  | str z =>
    obtain ⟨t, rfl⟩ := r
    cases (show T = "str" from ty)
    exact ⟨typeIs_str s z t, fun _ e => nomatch e⟩
  | int i =>
    obtain ⟨t, rfl⟩ := r
    cases (show T = "int" from ty)
    exact ⟨typeIs_int s i t, fun _ e => nomatch e⟩
  | ref p =>
    cases r
    rcases ty with ⟨rfl, xs, hq⟩ | ⟨rfl, o, hk, hc, hd⟩ | ⟨rfl, hk⟩ | ⟨rfl, S, n, hk⟩
    · obtain ⟨its, _, pl, _⟩ := I.list hq
      refine ⟨pl.isList.typeIs, fun a e => ?_⟩
      cases e
      obtain ⟨o, n, e, c, hd, _⟩ := pl
      exact ⟨o, e, hd⟩
    · refine ⟨⟨o, I.kIn p o hk, hc⟩, fun a e => ?_⟩
      cases e
      exact ⟨o, I.kIn _ o hk, hd⟩
    · have z : ∃ o, s.heap.get? p = some o ∧ o.ExactDict := by
        rcases hk with ⟨kvs, hk⟩ | ⟨kvs, hk⟩
        · obtain ⟨_, _, _, _, o, _, _, e, ex, _⟩ := I.hok p _ hk
          exact ⟨o, e, ex⟩
        · obtain ⟨_, _, _, _, o, _, _, e, ex, _⟩ := I.hok p _ hk
          exact ⟨o, e, ex⟩
      obtain ⟨o, e, ex⟩ := z
      refine ⟨⟨o, e, ex.1⟩, fun a e2 => ?_⟩
      cases e2
      exact ⟨o, e, ex.2.1⟩
    · obtain ⟨o, _, _, _, e, ex, _⟩ := I.hok p _ hk
      refine ⟨⟨o, e, ex.1⟩, fun a e2 => ?_⟩
      cases e2
      exact ⟨o, e, ex.2.1⟩
  | _ => exact False.elim ty
noncomputable def tBM (K : PySem.W.Frag) (T : String) (r : V → List V → Hp → VK → Prop) (to : TE) (t : TA) : TE := fun σ H Q => to σ H fun x H1 => tyV K T x H1 ∧ t σ H1 fun xs H2 => r x xs H2 Q
variable {o e : Expr} {es : List Expr} {to : TE} {t : TA} {name : Str} {apos cpos : Pos} {T id : String} {r : V → List V → Hp → VK → Prop}
theorem pe_bm (pa : PlainAttrs T) (slot : Slot T name id) (hty : typeOf (.builtin id) = pure (.type "method_descriptor")) (hm : MtR X id r) (ho : PE X o to) (ha : PA X (e :: es) t)
    (hbase : attributeBase o name X.env (eval o X.env) = eval o X.env := by rfl)
    (hfew : ((backTo cpos (starEach (e :: es) X.env)).all (fun x => !x.1) && (backToKw cpos (keywordEach [] X.env)).all (fun x => x.1.isSome)
      && decide ((e :: es).length + ([] : List Keyword).length + (if ([] : List Keyword).isEmpty then 0 else 1) < 30)) = true := by rfl)
    (hline : (apos.endLine == cpos.line) = true := by rfl) (hs : starEach (e :: es) X.env = (false, eval e X.env) :: starEach es X.env := by rfl) (hplain : (backTo cpos (starEach es X.env)).any (·.1) = false := by rfl) :
    PE X (.Call (.Attribute o name apos) (e :: es) [] cpos) (tBM X.K T r to t) := by
  intro pins s σ H Q I h
  refine wpAny_Call_method_late hbase hfew hline rfl (thn (ho pins s σ H _ I h) fun v s1 ⟨x, H1, I1, r1, ty, q1⟩ => ?_)
  obtain ⟨h1, h2⟩ := tyV_is I1 r1 ty
  refine ⟨T, id, pa, slot, hty, h1, h2, ?_⟩
  have hA := ha cpos pins s1 σ H1 _ I1 q1
  rw [hs] at hA ⊢
  refine Calls.callWith_builtin (by show (false || (backTo cpos (starEach es X.env)).any (·.1)) = false; rw [hplain] <;> rfl) (Calls.evalArgs_plain ?_)
  exact thn hA fun us s2 ⟨vs, H2, I2, r2, q2⟩ => hm pins s2 σ H2 x vs v us Q I2 r1 r2 q2
end
end L2
namespace L2
open PySem PySem.Spec PyProof.Rows
noncomputable def MtM (X : Cx) (id : String) (r : V → List V → Hp → VK → Prop) : Prop :=
  ∀ (pins : List (Addr × Obj)) (s : Shared) (σ : St) (H : Hp) (x : V) (xs : List V) (v : Value) (us : List Value) (Q : VK), Inv X pins σ H s → RelV x v → Vals xs us → r x xs H Q →
    wpAny (model X.prog X.w) X.A (call (.builtin id) (v :: us)) (EP X pins σ Q) X.xe s
theorem Vals.one : ∀ {x : V} {us : List Value}, Vals [x] us → ∃ u, us = [u] ∧ RelV x u
  | _, _, .cons r .nil => ⟨_, rfl, r⟩
theorem Vals.two : ∀ {x y : V} {us : List Value}, Vals [x, y] us → ∃ u v, us = [u, v] ∧ RelV x u ∧ RelV y v
  | _, _, _, .cons r (.cons q .nil) => ⟨_, _, rfl, r, q⟩
section
variable {X : Cx} {pins : List (Addr × Obj)} {σ : St} {H : Hp} {s : Shared} {l b : Addr} {xs ys zs : List V}
theorem Inv.lset {its its' : List Value} {n : Nat} {f : Array Value → Array Value} {t' : Nat} (I : Inv X pins σ H s) (hH : H l = some (.lst xs))
    (e : s.heap.get? l = some { cls := .type "list", data := .seq its.toArray n }) (hf : f its.toArray = its'.toArray) (hv : Vals ys its') (hz : ys.length ≤ sizeLine) :
    Inv X pins σ (upd H l (.lst ys)) { s with heap := s.heap.update l (Obj.mapSeq f), toks := t' } := by
  have q := PySem.IsL.update e f
  rw [hf] at q
  refine I.write (x := l) (e := l) (by rw [hH]; exact trivial) (.inl rfl) (fun b' u hb hu => (Heap.get?_update_other s.heap (Obj.mapSeq f) (Ne.symm hb)).trans hu) ⟨_, q⟩ ?_
  exact ⟨hz, its', _, hv, q⟩
theorem Inv.lnew {its : List Value} {t' : Nat} (I : Inv X pins σ H s) (hv : Vals ys its) (hz : ys.length ≤ sizeLine) :
    Inv X pins σ (upd H s.heap.objs.size (.lst ys)) { s with heap := s.heap.push { cls := .type "list", data := .seq its.toArray }, toks := t' } :=
  I.laid (fun _ _ q => Heap.get?_push_of_some _ q) (Nat.le_refl _) ⟨hz, its, 0, hv, Heap.get?_push_size _ rfl⟩
theorem Inv.fresh (I : Inv X pins σ H s) : H s.heap.objs.size = none := I.hok.fresh (Nat.le_refl _)
theorem Inv.lstM (I : Inv X pins σ H s) (hH : H l = some (.lst xs)) : xs.length ≤ sizeLine ∧ ∃ (its : List Value) (n : Nat), Vals xs its ∧ xs.length = its.length ∧ s.heap.get? l = some { cls := .type "list", data := .seq its.toArray n } := by
  obtain ⟨z, its, n, r, e⟩ := I.hok l _ hH
  exact ⟨z, its, n, r, r.length, e⟩
theorem notLongL {n : Nat} (h : n ≤ sizeLine) : Builtin.List.listTooLong n = false := by
  unfold Builtin.List.listTooLong
  exact decide_eq_false (by lia)
end
section
variable {X : Cx}
inductive rAppend  (x : V) (vs : List V) (H : Hp) (Q : VK) : Prop
  | mk : ∀ l xs y, (x = .ref l) → (vs = [y]) → (H l = some (.lst xs)) → (xs.length < sizeLine) → (Q .non (upd H l (.lst (xs ++ [y])))) → rAppend x vs H Q
theorem mt_append : MtM X "list.append" rAppend := by
  intro pins s σ H x vs v us Q I rx rv h
  obtain ⟨l, xs, y, rfl, rfl, hH, hz, q⟩ := h
  cases rx
  obtain ⟨u, rfl, ru⟩ := rv.one
  obtain ⟨z, its, n, r, hl, e⟩ := I.lstM hH
  refine call_meets F.slot_list_append ⟨_, e, rfl⟩ F.entry_list_append (F.args_list_append_2 _ _) (PySem.list_append l its.toArray n u (by rw [List.size_toArray]; lia)) ⟨e, ?_⟩
  refine ⟨.non, _, I.lset (its' := its ++ [u]) hH e (by simp) (r.append (.cons ru .nil)) ?_, rfl, q⟩
  rw [List.length_append, List.length_singleton]
  lia
inductive rExtend  (x : V) (vs : List V) (H : Hp) (Q : VK) : Prop
  | mk : ∀ l b xs zs, (x = .ref l) → (vs = [.ref b]) → (H l = some (.lst xs)) → (H b = some (.lst zs)) → (xs.length + zs.length ≤ sizeLine) → (Q .non (upd H l (.lst (xs ++ zs)))) → rExtend x vs H Q
theorem mt_extend : MtM X "list.extend" rExtend := by
  intro pins s σ H x vs v us Q I rx rv h
  obtain ⟨l, b, xs, zs, rfl, rfl, hH, hB, hz, q⟩ := h
  cases rx
  obtain ⟨u, rfl, ru⟩ := rv.one
  cases ru
  obtain ⟨z, its, n, r, hl, e⟩ := I.lstM hH
  obtain ⟨z2, its2, n2, r2, hl2, e2⟩ := I.lstM hB
  have hsz : its.toArray.size + its2.toArray.size ≤ sizeLine := by rw [List.size_toArray, List.size_toArray]; lia
  have hlong : ¬ (!its.toArray.isEmpty && Builtin.List.listTooLong (its.toArray.size + its2.toArray.size)) = true := by
    rw [notLongL hsz, Bool.and_false]
    exact Bool.false_ne_true
  refine call_meets F.slot_list_extend ⟨_, e, rfl⟩ F.entry_list_extend (F.args_list_extend_2 _ _)
    (AutoSeq1.list_extend_list_list_0 l its.toArray n b its2.toArray n2 hlong (by rw [List.size_toArray]; lia) (by lia)) ⟨e, e2, ?_⟩
  refine ⟨.non, _, I.lset (its' := its ++ its2) hH e (by simp) (r.append r2) ?_, rfl, q⟩
  rw [List.length_append]
  lia
inductive rCat  (x : V) (y : V) (H : Hp) (Q : VK) : Prop
  | mk : ∀ l b xs zs, (x = .ref l) → (y = .ref b) → (H l = some (.lst xs)) → (H b = some (.lst zs)) → (xs.length + zs.length ≤ sizeLine) → (∀ p, H p = none → Q (.ref p) (upd H p (.lst (xs ++ zs)))) → rCat x y H Q
theorem op_cat : OpR X (binaryOp .Add) rCat := by
  intro pins s σ H x y v u Q I rx ry h
  obtain ⟨l, b, xs, zs, rfl, rfl, hH, hB, hz, q⟩ := h
  cases rx
  cases ry
  obtain ⟨z, its, n, r, hl, e⟩ := I.lstM hH
  obtain ⟨z2, its2, n2, r2, hl2, e2⟩ := I.lstM hB
  refine PySem.P.add_list e e2 ?_ (by rw [List.size_toArray, List.size_toArray]; lia)
  have ea : its.toArray ++ its2.toArray = (its ++ its2).toArray := by simp
  rw [ea]
  exact ⟨.ref _, _, I.lnew (t' := s.toks) (r.append r2) (by rw [List.length_append]; lia), rfl, q _ I.fresh⟩
end
section
variable {prog : Program} {w : World} {A : Around} {E : Value → Shared → Prop} {s : Shared}
set_option maxRecDepth 100000 in
end
section
variable {X : Cx}
end
end L2
namespace L2
open PySem PySem.Spec PyProof.Rows
section
variable {κ : Type} [DecidableEq κ]
noncomputable def valV (kvs : List (κ × V)) (k : κ) : Option V := (kvs.find? fun kv => decide (kv.1 = k)).map (·.2)
noncomputable def putK (kvs : List (κ × V)) (k : κ) (v : V) : List (κ × V) :=
  if (kvs.any fun kv => decide (kv.1 = k)) = true then kvs.map (fun kv => if kv.1 = k then (kv.1, v) else kv) else kvs ++ [(k, v)]
theorem valV_pos {p : κ × V} {r : List (κ × V)} {k : κ} (e : p.1 = k) : valV (p :: r) k = some p.2 := by simp [valV, List.find?_cons, e]
theorem valV_neg {p : κ × V} {r : List (κ × V)} {k : κ} (e : ¬ p.1 = k) : valV (p :: r) k = valV r k := by simp [valV, List.find?_cons, e]
theorem valV_any (k : κ) : ∀ kvs : List (κ × V), (kvs.any fun kv => decide (kv.1 = k)) = (valV kvs k).isSome
  | [] => rfl
  | p :: r => by
    rw [List.any_cons]
    by_cases e : p.1 = k
    · simp only [valV_pos e, decide_eq_true e, Bool.true_or, Option.isSome_some]
    · rw [valV_neg e, decide_eq_false e, Bool.false_or]; exact valV_any k r
theorem valV_map (k j : κ) (y : V) : ∀ kvs : List (κ × V), valV (kvs.map fun kv => if kv.1 = k then (kv.1, y) else kv) j = (valV kvs j).map fun x => if j = k then y else x
  | [] => rfl
  | p :: r => by
    have ih := valV_map k j y r
    rw [List.map_cons]
    by_cases h : p.1 = k
    · rw [if_pos h]
      by_cases e : p.1 = j
      · rw [valV_pos (p := (p.1, y)) e, valV_pos e, Option.map_some, if_pos (e.symm.trans h)]
      · rw [valV_neg (p := (p.1, y)) e, valV_neg e, ih]
    · rw [if_neg h]
      by_cases e : p.1 = j
      · rw [valV_pos (p := p) e, valV_pos e, Option.map_some, if_neg (fun z => h (e.trans z))]
      · rw [valV_neg (p := p) e, valV_neg e, ih]
theorem valV_snoc (k j : κ) (y : V) : ∀ kvs : List (κ × V), valV kvs k = none → valV (kvs ++ [(k, y)]) j = if j = k then some y else valV kvs j
  | [], _ => by
    by_cases e : k = j
    · rw [if_pos e.symm]; exact valV_pos (p := (k, y)) e
    · rw [if_neg (fun z => e z.symm)]; exact valV_neg (p := (k, y)) e
  | p :: r, hn => by
    rw [List.cons_append]
    have hk : ¬ p.1 = k := fun z => by rw [valV_pos z] at hn; cases hn
    rw [valV_neg hk] at hn
    have ih := valV_snoc k j y r hn
    by_cases e : p.1 = j
    · rw [valV_pos e, valV_pos e, if_neg (fun z => hk (e.trans z))]
    · rw [valV_neg e, valV_neg e, ih]
theorem valV_put (kvs : List (κ × V)) (k j : κ) (y : V) : valV (putK kvs k y) j = if j = k then some y else valV kvs j := by
  unfold putK
  by_cases a : (kvs.any fun kv => decide (kv.1 = k)) = true
  · rw [if_pos a, valV_map]
    rw [valV_any] at a
    by_cases e : j = k
    · obtain ⟨x, hx⟩ := Option.isSome_iff_exists.mp a
      rw [if_pos e, e, hx, Option.map_some, if_pos rfl]
    · rw [if_neg e]
      cases valV kvs j with
      | none => rfl
      | some x => rw [Option.map_some, if_neg e]
  · rw [if_neg a]
    refine valV_snoc k j y kvs ?_
    rw [valV_any] at a
    cases q : valV kvs k with
    | none => rfl
    | some x => rw [q] at a; exact (a rfl).elim
theorem length_putK (kvs : List (κ × V)) (k : κ) (v : V) : (putK kvs k v).length ≤ kvs.length + 1 := by
  unfold putK
  split
  · rw [List.length_map]; lia
  · rw [List.length_append, List.length_cons, List.length_nil]; lia
theorem RelO.isSome_eq {o : Option V} {u : Option Value} (r : RelO o u) : o.isSome = u.isSome := by
  cases o with
  | none => cases u with
    | none => rfl
    | some _ => exact (show False from r).elim
  | some _ => cases u with
    | none => exact (show False from r).elim
    | some _ => rfl
theorem RelO.getD {o : Option V} {u : Option Value} {d : V} {d' : Value} (r : RelO o u) (rd : RelV d d') : RelV (o.getD d) (u.getD d') := by
  cases o with
  | none => cases u with
    | none => exact rd
    | some _ => exact (show False from r).elim
  | some _ => cases u with
    | none => exact (show False from r).elim
    | some _ => exact r
theorem KV.val {kvs : List (κ × V)} {vs : List (κ × Value)} (r : KV kvs vs) (k : κ) : RelO (valV kvs k) (valueAt vs k) := by
  unfold KV at r
  induction r with
  | nil => exact True.intro
  | @cons p q ps qs h t ih =>
    obtain ⟨h1, h2⟩ := h
    by_cases e : p.1 = k
    · have e' : q.1 = k := h1.symm.trans e
      have b : valueAt (q :: qs) k = some q.2 := by simp [valueAt, List.find?_cons, e']
      rw [valV_pos e, b]; exact h2
    · have e' : ¬ q.1 = k := fun z => e (h1.trans z)
      have b : valueAt (q :: qs) k = valueAt qs k := by simp [valueAt, List.find?_cons, e']
      rw [valV_neg e, b]; exact ih
theorem KV.any {kvs : List (κ × V)} {vs : List (κ × Value)} (r : KV kvs vs) (k : κ) : (kvs.any fun kv => decide (kv.1 = k)) = vs.any fun kv => decide (kv.1 = k) := by
  unfold KV at r
  induction r with
  | nil => rfl
  | cons h t ih => rw [List.any_cons, List.any_cons, ih, h.1]
theorem KV.repl {kvs : List (κ × V)} {vs : List (κ × Value)} (r : KV kvs vs) (k : κ) {y : V} {u : Value} (ry : RelV y u) :
    KV (kvs.map fun kv => if kv.1 = k then (kv.1, y) else kv) (vs.map fun kv => if kv.1 = k then (kv.1, u) else kv) := by
  unfold KV at r ⊢
  induction r with
  | nil => exact .nil
  | @cons p q ps qs h t ih =>
    rw [List.map_cons, List.map_cons]
    refine .cons ?_ ih
    obtain ⟨h1, h2⟩ := h
    by_cases e : p.1 = k
    · rw [if_pos e, if_pos (h1.symm.trans e)]; exact ⟨h1, ry⟩
    · rw [if_neg e, if_neg (fun z => e (h1.trans z))]; exact ⟨h1, h2⟩
theorem KV.put {kvs : List (κ × V)} {vs : List (κ × Value)} (r : KV kvs vs) (k : κ) {y : V} {u : Value} (ry : RelV y u) : KV (putK kvs k y) (stored vs k u) := by
  unfold putK stored
  rw [r.any k]
  by_cases e : (vs.any fun kv => decide (kv.1 = k)) = true
  · rw [if_pos e, if_pos e]; exact r.repl k ry
  · rw [if_neg e, if_neg e]; exact Paired.snoc r ⟨rfl, ry⟩
theorem KV.length {kvs : List (κ × V)} {vs : List (κ × Value)} (r : KV kvs vs) : kvs.length = vs.length := Paired.length r
end
theorem kV_is {P : Program} {w : World} {k : Key} {u : Value} (r : RelV (kV k) u) : (mixKind P w).is k u = true := by
  cases k with
  | inl i => obtain ⟨t, e⟩ := (show ∃ t, u = Value.int i t from r); subst e; exact mixKind_int P w i t
  | inr x => obtain ⟨t, e⟩ := (show ∃ t, u = Value.str x t from r); subst e; exact mixKind_str P w x t
theorem items_are {P : Program} {w : World} : ∀ {ks : List Key} {us : List Value}, Vals (ks.map kV) us → ItemsAre (mixKind P w) ks us
  | [], _, r => by rw [List.map_nil] at r; cases r; exact .nil
  | k :: ks, _, r => by
    rw [List.map_cons] at r
    cases r with
    | cons h t => exact .cons (kV_is h) (items_are t)
noncomputable abbrev KT (H : Hp) : List (List Key × V) → List (List Key × Addr × Value) → Prop := Paired fun p q => p.1 = q.1 ∧ H q.2.1 = some (.tup (p.1.map kV)) ∧ RelV p.2 q.2.2
theorem KT.val {H : Hp} {kvs : List (List Key × V)} {xs : List (List Key × Addr × Value)} (r : KT H kvs xs) (k : List Key) : RelO (valV kvs k) ((atKey xs k).map (·.2)) := by
  induction r with
  | nil => exact True.intro
  | @cons p q ps qs h t ih =>
    obtain ⟨h1, _, h2⟩ := h
    by_cases e : p.1 = k
    · have e' : q.1 = k := h1.symm.trans e
      have b : atKey (q :: qs) k = some q.2 := by simp [atKey, List.find?_cons, e']
      rw [valV_pos e, b]; exact h2
    · have e' : ¬ q.1 = k := fun z => e (h1.trans z)
      have b : atKey (q :: qs) k = atKey qs k := by simp [atKey, List.find?_cons, e']
      rw [valV_neg e, b]; exact ih
theorem KT.repl {H : Hp} {kvs : List (List Key × V)} {xs : List (List Key × Addr × Value)} (r : KT H kvs xs) (k : List Key) {y : V} {u : Value} (ry : RelV y u) :
    KT H (kvs.map fun kv => if kv.1 = k then (kv.1, y) else kv) (xs.map (putAt k u)) := by
  induction r with
  | nil => exact .nil
  | @cons p q ps qs h t ih =>
    rw [List.map_cons, List.map_cons]
    refine .cons ?_ ih
    obtain ⟨h1, h2, h3⟩ := h
    unfold putAt
    by_cases e : p.1 = k
    · rw [if_pos e, if_pos (h1.symm.trans e)]; exact ⟨h1, h2, ry⟩
    · rw [if_neg e, if_neg (fun z => e (h1.trans z))]; exact ⟨h1, h2, h3⟩
theorem KT.put {H : Hp} {kvs : List (List Key × V)} {xs : List (List Key × Addr × Value)} (r : KT H kvs xs) (k : List Key) {b : Addr} {y : V} {u : Value} (hb : H b = some (.tup (k.map kV))) (ry : RelV y u) :
    KT H (putK kvs k y) (storedH xs k b u) := by
  have e : (kvs.any fun kv => decide (kv.1 = k)) = (atKey xs k).isSome := by
    rw [valV_any, (r.val k).isSome_eq, Option.isSome_map]
  unfold putK storedH
  rw [e]
  by_cases q : (atKey xs k).isSome = true
  · rw [if_pos q, if_pos q]; exact r.repl k ry
  · rw [if_neg q, if_neg q]; exact Paired.snoc r ⟨rfl, hb, ry⟩
theorem KT.keeps {H H' : Hp} {kvs : List (List Key × V)} {xs : List (List Key × Addr × Value)} (r : KT H kvs xs) (ht : ∀ b ys, H b = some (.tup ys) → H' b = some (.tup ys)) : KT H' kvs xs :=
  Paired.mapP r fun _ _ z => ⟨z.1, ht _ _ z.2.1, z.2.2⟩
noncomputable abbrev KP (H : Hp) : List ((List Key × Key) × V) → List ((List Key × Key) × Addr × Value) → Prop := Paired fun p q => p.1 = q.1 ∧ (∃ c, H q.2.1 = some (.tup [.ref c, kV p.1.2]) ∧ H c = some (.tup (p.1.1.map kV))) ∧ RelV p.2 q.2.2
theorem KP.val {H : Hp} {kvs : List ((List Key × Key) × V)} {xs : List ((List Key × Key) × Addr × Value)} (r : KP H kvs xs) (k : List Key × Key) : RelO (valV kvs k) ((atKey xs k).map (·.2)) := by
  induction r with
  | nil => exact True.intro
  | @cons p q ps qs h t ih =>
    obtain ⟨h1, _, h2⟩ := h
    by_cases e : p.1 = k
    · have e' : q.1 = k := h1.symm.trans e
      have b : atKey (q :: qs) k = some q.2 := by simp [atKey, List.find?_cons, e']
      rw [valV_pos e, b]; exact h2
    · have e' : ¬ q.1 = k := fun z => e (h1.trans z)
      have b : atKey (q :: qs) k = atKey qs k := by simp [atKey, List.find?_cons, e']
      rw [valV_neg e, b]; exact ih
theorem KP.repl {H : Hp} {kvs : List ((List Key × Key) × V)} {xs : List ((List Key × Key) × Addr × Value)} (r : KP H kvs xs) (k : List Key × Key) {y : V} {u : Value} (ry : RelV y u) :
    KP H (kvs.map fun kv => if kv.1 = k then (kv.1, y) else kv) (xs.map (putAt k u)) := by
  induction r with
  | nil => exact .nil
  | @cons p q ps qs h t ih =>
    rw [List.map_cons, List.map_cons]
    refine .cons ?_ ih
    obtain ⟨h1, h2, h3⟩ := h
    unfold putAt
    by_cases e : p.1 = k
    · rw [if_pos e, if_pos (h1.symm.trans e)]; exact ⟨h1, h2, ry⟩
    · rw [if_neg e, if_neg (fun z => e (h1.trans z))]; exact ⟨h1, h2, h3⟩
theorem KP.put {H : Hp} {kvs : List ((List Key × Key) × V)} {xs : List ((List Key × Key) × Addr × Value)} (r : KP H kvs xs) (k : List Key × Key) {b : Addr} {y : V} {u : Value} (hb : ∃ c, H b = some (.tup [.ref c, kV k.2]) ∧ H c = some (.tup (k.1.map kV))) (ry : RelV y u) :
    KP H (putK kvs k y) (storedH xs k b u) := by
  have e : (kvs.any fun kv => decide (kv.1 = k)) = (atKey xs k).isSome := by
    rw [valV_any, (r.val k).isSome_eq, Option.isSome_map]
  unfold putK storedH
  rw [e]
  by_cases q : (atKey xs k).isSome = true
  · rw [if_pos q, if_pos q]; exact r.repl k ry
  · rw [if_neg q, if_neg q]; exact Paired.snoc r ⟨rfl, hb, ry⟩
theorem KP.keeps {H H' : Hp} {kvs : List ((List Key × Key) × V)} {xs : List ((List Key × Key) × Addr × Value)} (r : KP H kvs xs) (ht : ∀ b ys, H b = some (.tup ys) → H' b = some (.tup ys)) : KP H' kvs xs :=
  Paired.mapP r fun _ _ z => ⟨z.1, let ⟨c, e1, e2⟩ := z.2.1; ⟨c, ht _ _ e1, ht _ _ e2⟩, z.2.2⟩
section
variable {P : Program} {w : World} {H : Hp} {h : Heap} {a : Addr}
theorem rd_of {u : HO} (ok : HOk P w H h) (e : Rd H a u) : ObjOk P w H h a u := e.ok ok
theorem dk_rd {kvs : List (Key × V)} (ok : HOk P w H h) (e : Rd H a (.dK kvs)) : kvs.length ≤ sizeLine ∧ (a == sysModules) = false ∧ ∃ vs, KV kvs vs ∧ h.DictOf (mixKind P w) a vs :=
  show ObjOk P w H h a (.dK kvs) from rd_of ok e
theorem dk_of {kvs : List (Key × V)} (ok : HOk P w H h) (e : H a = some (.dK kvs)) : kvs.length ≤ sizeLine ∧ (a == sysModules) = false ∧ ∃ vs, KV kvs vs ∧ h.DictOf (mixKind P w) a vs := dk_rd ok (.inl e)
theorem key_of {ks : List Key} (ok : HOk P w H h) (e : H a = some (.tup (ks.map kV))) : (tupleKind (mixKind P w)).is h ks a := by
  obtain ⟨_, its, r, o, h1, h2, n, h3⟩ := (show ObjOk P w H h a (.tup (ks.map kV)) from ok a _ e)
  exact ⟨o, its.toArray, n, h1, h2, h3, by simpa using items_are r⟩
theorem dt_rd {kvs : List (List Key × V)} (ok : HOk P w H h) (e : Rd H a (.dT kvs)) : kvs.length ≤ sizeLine ∧ (a == sysModules) = false ∧
    ∃ xs, KT H kvs xs ∧ h.DictOfH (tupleKind (mixKind P w)) a xs := by
  obtain ⟨z, y, xs, r, o, es, ep, h1, h2, h3, h4, h5⟩ := (show ObjOk P w H h a (.dT kvs) from rd_of ok e)
  refine ⟨z, y, xs, r, o, es, ep, h1, h2, h3, h4, fun x hx => ?_, h5⟩
  have all : ∀ {l : List (List Key × V)} {m : List (List Key × Addr × Value)}, KT H l m → ∀ x ∈ m, (tupleKind (mixKind P w)).is h x.1 x.2.1 := by
    intro l m q
    induction q with
    | nil => intro x hx; exact nomatch hx
    | @cons p q ps qs hq t ih =>
      intro x hx
      rcases List.mem_cons.mp hx with e | hx
      · subst e
        exact key_of ok (by rw [← hq.1]; exact hq.2.1)
      · exact ih x hx
  exact all r x hx
theorem dt_of {kvs : List (List Key × V)} (ok : HOk P w H h) (e : H a = some (.dT kvs)) : kvs.length ≤ sizeLine ∧ (a == sysModules) = false ∧
    ∃ xs, KT H kvs xs ∧ h.DictOfH (tupleKind (mixKind P w)) a xs := dt_rd ok (.inl e)
theorem keyP_of {k : List Key × Key} (ok : HOk P w H h) (e : ∃ c, H a = some (.tup [.ref c, kV k.2]) ∧ H c = some (.tup (k.1.map kV))) : (pairKind (mixKind P w) (mixKind P w)).is h k a := by
  obtain ⟨c, e1, e2⟩ := e
  obtain ⟨_, its, r, o, h1, h2, n, h3⟩ := (show ObjOk P w H h a (.tup [.ref c, kV k.2]) from ok a _ e1)
  obtain ⟨u, v, rfl, ru, rv⟩ := r.two
  cases (show u = Value.ref c from ru)
  exact ⟨o, _, n, c, v, h1, h2, h3, by simp, key_of ok e2, kV_is rv⟩
theorem dp_rd {kvs : List ((List Key × Key) × V)} (ok : HOk P w H h) (e : Rd H a (.dP kvs)) : kvs.length ≤ sizeLine ∧ (a == sysModules) = false ∧
    ∃ xs, KP H kvs xs ∧ h.DictOfH (pairKind (mixKind P w) (mixKind P w)) a xs := by
  obtain ⟨z, y, xs, r, o, es, ep, h1, h2, h3, h4, h5⟩ := (show ObjOk P w H h a (.dP kvs) from rd_of ok e)
  refine ⟨z, y, xs, r, o, es, ep, h1, h2, h3, h4, fun x hx => ?_, h5⟩
  have all : ∀ {l : List ((List Key × Key) × V)} {m : List ((List Key × Key) × Addr × Value)}, KP H l m → ∀ x ∈ m, (pairKind (mixKind P w) (mixKind P w)).is h x.1 x.2.1 := by
    intro l m q
    induction q with
    | nil => intro x hx; exact nomatch hx
    | @cons p q ps qs hq t ih =>
      intro x hx
      rcases List.mem_cons.mp hx with e | hx
      · subst e
        rw [← hq.1]; exact keyP_of ok hq.2.1
      · exact ih x hx
  exact all r x hx
theorem dp_of {kvs : List ((List Key × Key) × V)} (ok : HOk P w H h) (e : H a = some (.dP kvs)) : kvs.length ≤ sizeLine ∧ (a == sysModules) = false ∧
    ∃ xs, KP H kvs xs ∧ h.DictOfH (pairKind (mixKind P w) (mixKind P w)) a xs := dp_rd ok (.inl e)
end
noncomputable def DGet (H : Hp) (a : Addr) (y : V) (r : Option V) : Prop :=
  (∃ kvs k, Rd H a (.dK kvs) ∧ y = kV k ∧ r = valV kvs k) ∨ (∃ kvs k b, Rd H a (.dT kvs) ∧ y = .ref b ∧ H b = some (.tup (k.map kV)) ∧ r = valV kvs k) ∨
  ∃ kvs k b, Rd H a (.dP kvs) ∧ y = .ref b ∧ (∃ c, H b = some (.tup [.ref c, kV k.2]) ∧ H c = some (.tup (k.1.map kV))) ∧ r = valV kvs k
noncomputable def DPut (H : Hp) (a : Addr) (y v : V) (H' : Hp) : Prop :=
  (∃ kvs k, H a = some (.dK kvs) ∧ y = kV k ∧ kvs.length < sizeLine ∧ H' = upd H a (.dK (putK kvs k v))) ∨
  (∃ kvs k b, H a = some (.dT kvs) ∧ y = .ref b ∧ H b = some (.tup (k.map kV)) ∧ kvs.length < sizeLine ∧ H' = upd H a (.dT (putK kvs k v))) ∨
  ∃ kvs k b, H a = some (.dP kvs) ∧ y = .ref b ∧ (∃ c, H b = some (.tup [.ref c, kV k.2]) ∧ H c = some (.tup (k.1.map kV))) ∧ kvs.length < sizeLine ∧ H' = upd H a (.dP (putK kvs k v))
theorem DGet.k {H : Hp} {a : Addr} {kvs : List (Key × V)} {k : Key} (e : H a = some (.dK kvs)) : DGet H a (kV k) (valV kvs k) := .inl ⟨kvs, k, .inl e, rfl, rfl⟩
theorem DGet.p {H : Hp} {a b c : Addr} {kvs : List ((List Key × Key) × V)} {t : List Key} {k : Key} (e : H a = some (.dP kvs)) (eb : H b = some (.tup [.ref c, kV k])) (ec : H c = some (.tup (t.map kV))) : DGet H a (.ref b) (valV kvs (t, k)) := .inr (.inr ⟨kvs, (t, k), b, .inl e, rfl, ⟨c, eb, ec⟩, rfl⟩)
theorem DPut.k {H : Hp} {a : Addr} {kvs : List (Key × V)} {k : Key} {v : V} (e : H a = some (.dK kvs)) (hl : kvs.length < sizeLine) : DPut H a (kV k) v (upd H a (.dK (putK kvs k v))) := .inl ⟨kvs, k, e, rfl, hl, rfl⟩
theorem DPut.t {H : Hp} {a b : Addr} {kvs : List (List Key × V)} {k : List Key} {v : V} (e : H a = some (.dT kvs)) (eb : H b = some (.tup (k.map kV))) (hl : kvs.length < sizeLine) :
    DPut H a (.ref b) v (upd H a (.dT (putK kvs k v))) := .inr (.inl ⟨kvs, k, b, e, rfl, eb, hl, rfl⟩)
theorem DPut.p {H : Hp} {a b c : Addr} {kvs : List ((List Key × Key) × V)} {t : List Key} {k : Key} {v : V} (e : H a = some (.dP kvs)) (eb : H b = some (.tup [.ref c, kV k])) (ec : H c = some (.tup (t.map kV))) (hl : kvs.length < sizeLine) :
    DPut H a (.ref b) v (upd H a (.dP (putK kvs (t, k) v))) := .inr (.inr ⟨kvs, (t, k), b, e, rfl, ⟨c, eb, ec⟩, hl, rfl⟩)
section
variable {X : Cx} {pins : List (Addr × Obj)} {σ : St} {H : Hp} {s : Shared} {a : Addr} {y v : V} {u r : Value} {o : Option V} {A : Around} {E : Value → Shared → Prop}
theorem Inv.big (I : Inv X pins σ H s) : sysModules < s.heap.objs.size := by
  have h : mainGlobals < s.heap.objs.size := (I.mod.glob.keeps I.bk).lt
  exact Nat.lt_trans (by decide) h
theorem d_getItem {Q : Value → Shared → Prop} (hu : A.units + 16 < cLine) (I : Inv X pins σ H s) (g : DGet H a y (some v)) (ry : RelV y u) (h : ∀ w' s', Inv X pins σ H s' → RelV v w' → Q w' s') :
    wpAny (model X.prog X.w) A (getItem (.ref a) u) Q E s := by
  rcases g with ⟨kvs, k, e, ey, l⟩ | ⟨kvs, k, b, e, ey, eb, l⟩ | ⟨kvs, k, b, e, ey, eb, l⟩
  · subst ey
    obtain ⟨z, hd, vs, rel, dd⟩ := dk_rd I.hok e
    obtain ⟨w', hw, rw'⟩ := RelO.some_of (v := v) (o := valueAt vs k) (by rw [l]; exact rel.val k)
    exact wpAny_getItem_of (kV_is ry) dd.mapOf hw (h w' _ (I.tok _) rw')
  · subst ey
    cases (show u = Value.ref b from ry)
    obtain ⟨z, hd, xs, rel, dd⟩ := dt_rd I.hok e
    obtain ⟨w', hw, rw'⟩ := RelO.some_of (v := v) (o := (atKey xs k).map (·.2)) (by rw [l]; exact rel.val k)
    obtain ⟨p, hp, hp2⟩ := Option.map_eq_some_iff.mp hw
    refine wpAny_getItem_heap (tupleKind_room_in1 (by lia)) (key_of I.hok eb) dd hp ?_
    rw [hp2]
    exact h w' _ (I.tok _) rw'
  · subst ey
    cases (show u = Value.ref b from ry)
    obtain ⟨z, hd, xs, rel, dd⟩ := dp_rd I.hok e
    obtain ⟨w', hw, rw'⟩ := RelO.some_of (v := v) (o := (atKey xs k).map (·.2)) (by rw [l]; exact rel.val k)
    obtain ⟨p, hp, hp2⟩ := Option.map_eq_some_iff.mp hw
    refine wpAny_getItem_heap (show _ + 8 < cLine by show A.units + 1 + 8 < cLine; lia) (keyP_of I.hok eb) dd hp ?_
    rw [hp2]
    exact h w' _ (I.tok _) rw'
theorem d_write {h' : Heap} {t' : Nat} {ob : HO} (I : Inv X pins σ H s) (mu : Mut (H a)) (hs : Heap.SameBut a s.heap h') (he : ∃ q, h'.get? a = some q) (new : ObjOk X.prog X.w (upd H a ob) h' a ob) :
    Inv X pins σ (upd H a ob) { s with heap := h', toks := t' } :=
  I.write (x := a) (e := a) mu (.inl rfl) (fun b q hb z => (hs.2 b hb).trans z) he new
theorem dk_new {P : Program} {w : World} {H' : Hp} {h' : Heap} {kvs : List (Key × V)} {vs : List (Key × Value)} (z : kvs.length ≤ sizeLine) (hd : (a == sysModules) = false) (rel : KV kvs vs) (dd : h'.DictOf (mixKind P w) a vs) :
    ObjOk P w H' h' a (.dK kvs) := ⟨z, hd, vs, rel, dd⟩
theorem d_setItem {H' : Hp} {Q : Unit → Shared → Prop} (hu : A.units + 16 < cLine) (I : Inv X pins σ H s) (g : DPut H a y v H') (ry : RelV y u) (rv : RelV v r) (h : ∀ s', Inv X pins σ H' s' → Q () s') :
    wpAny (model X.prog X.w) A (setItem (.ref a) u r) Q E s := by
  rcases g with ⟨kvs, k, e, ey, l, eH⟩ | ⟨kvs, k, b, e, ey, eb, l, eH⟩ | ⟨kvs, k, b, e, ey, eb, l, eH⟩
  · subst ey eH
    obtain ⟨z, hd, vs, rel, dd⟩ := dk_of I.hok e
    have hz : vs.length ≤ sizeLine := by rw [← rel.length]; exact z
    have hl : (putK kvs k v).length ≤ sizeLine := by have := length_putK kvs k v; lia
    refine wpAny_setItem_pairs (hsz := hz) (kV_is ry) dd fun h' dd' hs => h _ ?_
    have he : ∃ q, h'.get? a = some q := let ⟨q, _, _, hq, _⟩ := dd'; ⟨q, hq⟩
    exact d_write I (by rw [e]; exact True.intro) hs he (dk_new hl hd (rel.put k rv) dd')
  · subst ey eH
    cases (show u = Value.ref b from ry)
    obtain ⟨z, hd, xs, rel, dd⟩ := dt_of I.hok e
    have hz : xs.length ≤ sizeLine := by rw [← Paired.length rel]; exact z
    have hl : (putK kvs k v).length ≤ sizeLine := by have := length_putK kvs k v; lia
    refine wpAny_setItem_heap (hsz := hz) (tupleKind_room_in1 (by lia)) (key_of I.hok eb) dd fun h' dd' hs => h _ ?_
    obtain ⟨q, es, ep, hq, h2, h3, h4, _, h5⟩ := dd'
    refine d_write I (by rw [e]; exact True.intro) hs ⟨q, hq⟩ ⟨hl, hd, _, (rel.put k eb rv).keeps fun c ys ec => ?_, q, es, ep, hq, h2, h3, h4, h5⟩
    rw [upd_ne (ne_of ec e (fun z => nomatch z))]
    exact ec
  · subst ey eH
    cases (show u = Value.ref b from ry)
    obtain ⟨z, hd, xs, rel, dd⟩ := dp_of I.hok e
    have hz : xs.length ≤ sizeLine := by rw [← Paired.length rel]; exact z
    have hl : (putK kvs k v).length ≤ sizeLine := by have := length_putK kvs k v; lia
    refine wpAny_setItem_heap (hsz := hz) (show _ + 8 < cLine by show A.units + 1 + 8 < cLine; lia) (keyP_of I.hok eb) dd fun h' dd' hs => h _ ?_
    obtain ⟨q, es, ep, hq, h2, h3, h4, _, h5⟩ := dd'
    refine d_write I (by rw [e]; exact True.intro) hs ⟨q, hq⟩ ⟨hl, hd, _, (rel.put k eb rv).keeps fun c ys ec => ?_, q, es, ep, hq, h2, h3, h4, h5⟩
    rw [upd_ne (ne_of ec e (fun z => nomatch z))]
    exact ec
end
section
variable {X : Cx} {pins : List (Addr × Obj)} {σ : St} {H : Hp} {s : Shared} {a : Addr} {kvs : List (Key × V)} {k : Key} {u : Value} {A : Around} {E : Value → Shared → Prop}
end
noncomputable def NoSl (i : Expr) : Prop := ∀ ov iv, subscripted i false ov iv = operate [ov, iv] (getItem ov iv)
theorem subD_of {prog : Program} {w : World} {A : Around} {E : Value → Shared → Prop} {s : Shared} {env : Env} {value slice : Expr} {pos : Pos} {T id : String} {Q : Value → Shared → Prop}
    (hl : typeLookup (.type T) "__getitem__" = pure (some (.builtin id))) (hs : NoSl slice)
    (h : wpAny (model prog w) A (eval value env) (fun o s₁ => wpAny (model prog w) A (eval slice env) (fun i s₂ => s₂.TypeIs o T ∧ wpAny (model prog w) A (getItem o i) Q E s₂) E s₁) E s) :
    wpAny (model prog w) A (eval (.Subscript value slice pos) env) Q E s := by
  refine Subscript_ (wpAny_mono h (fun o s₁ h₁ => wpAny_mono h₁ (fun i s₂ h₂ => ?_) fun _ _ x => x) fun _ _ x => x)
  obtain ⟨hT, h₂⟩ := h₂
  unfold subscriptTail
  refine wpAny_bind ?_
  rw [getitemInPython_of_ne hT.not_modules]
  refine wpAny_bind (wpAny_specialOf hT hl ?_)
  have fin : wpAny (model prog w) A (subscripted slice false o i) (fun r s₃ => wpAny (model prog w) A (letTemporaryGo value o r >>= fun _ => pure r) Q E s₃) E s₂ := by
    rw [hs o i]
    exact wpAny_operating (wpAny_mono h₂ (fun r s₃ h₃ => wpAny_bind (wpAny_letTemporaryGo (wpAny_pure h₃))) fun _ _ x => x)
  first
    | exact wpAny_pure (wpAny_bind fin)
    | exact wpAny_bind (wpAny_pure (wpAny_bind fin))
    | exact wpAny_bind fin
theorem dict_typeIs {X : Cx} {pins : List (Addr × Obj)} {σ : St} {H : Hp} {s : Shared} {a : Addr} {y : V} {o : Option V} (I : Inv X pins σ H s) (g : DGet H a y o) : s.TypeIs (.ref a) "dict" := by
  rcases g with ⟨kvs, k, e, _, _⟩ | ⟨kvs, k, b, e, _, _, _⟩ | ⟨kvs, k, b, e, _, _, _⟩
  · obtain ⟨_, _, vs, _, dd⟩ := dk_rd I.hok e
    exact dd.typeIs
  · obtain ⟨_, _, xs, _, dd⟩ := dt_rd I.hok e
    exact dd.typeIs
  · obtain ⟨_, _, xs, _, dd⟩ := dp_rd I.hok e
    exact dd.typeIs
noncomputable def tDGet (td ty : TE) : TE := fun σ H Q => td σ H fun x H1 => ty σ H1 fun y H2 => ∃ a v, x = .ref a ∧ DGet H2 a y (some v) ∧ Q v H2
noncomputable def sDPut (td ty tv : TE) : TS := fun D σ H => tv σ H fun v H1 => td σ H1 fun x H2 => ty σ H2 fun y H3 => ∃ a H4, x = .ref a ∧ DPut H3 a y v H4 ∧ D.nx σ H4
section
variable {X : Cx} {o i e value : Expr} {pos pos' tpos : Pos} {td ty tv : TE}
theorem pe_dget (hu : X.A.units + 16 < cLine) (ho : PE X o td) (hi : PE X i ty) (hs : NoSl i) : PE X (.Subscript o i pos) (tDGet td ty) := by
  intro pins s σ H Q I h
  refine subD_of PySem.F.slot_dict_getitem.lookup hs (thn (ho pins s σ H _ I h) fun u s1 ⟨x, H1, I1, rx, q1⟩ => thn (hi pins s1 σ H1 _ I1 q1) fun iv s2 ⟨y, H2, I2, ry, a, v, ex, g, q2⟩ => ?_)
  subst ex
  obtain rfl : u = Value.ref a := rx
  exact ⟨dict_typeIs I2 g, d_getItem hu I2 g ry fun w' s3 I3 rw' => ⟨v, H2, I3, rw', q2⟩⟩
theorem ps_dput (hu : X.A.units + 16 < cLine) (ho : PE X o td) (hi : PE X i ty) (hv : PE X value tv) (hs : swapsWith value (some (.Subscript o i pos')) pos.line X.env = pure false) :
    PS X (.Assign [.Subscript o i pos'] value pos) (sDPut td ty tv) := by
  intro pins s σ H D I h
  refine wpAny_Assign_Subscript (thn (hv pins s σ H _ I h) fun r s1 ⟨v, H1, I1, rv, q1⟩ => thn (ho pins s1 σ H1 _ I1 q1) fun u s2 ⟨x, H2, I2, rx, q2⟩ => thn (hi pins s2 σ H2 _ I2 q2) fun iv s3 ⟨y, H3, I3, ry, a, H4, ex, g, q3⟩ => ?_) hs
  subst ex
  obtain rfl : u = Value.ref a := rx
  exact d_setItem hu I3 g ry rv fun s4 I4 => ⟨σ, H4, I4, q3⟩
end
theorem dk_empty {P : Program} {w : World} {H : Hp} (h : Heap) (hb : sysModules < h.objs.size) : ObjOk P w H (h.push { cls := .type "dict", data := .dict #[] }) h.objs.size (.dK []) :=
  ⟨Nat.zero_le _, beq_eq_false_iff_ne.mpr (Ne.symm (Nat.ne_of_lt hb)), [], .nil, Heap.DictOf.new h⟩
theorem dt_empty {P : Program} {w : World} {H : Hp} (h : Heap) (hb : sysModules < h.objs.size) : ObjOk P w H (h.push { cls := .type "dict", data := .dict #[] }) h.objs.size (.dT []) :=
  ⟨Nat.zero_le _, beq_eq_false_iff_ne.mpr (Ne.symm (Nat.ne_of_lt hb)), [], .nil, _, #[], 0, Heap.get?_push_size _ rfl, ⟨rfl, rfl, rfl⟩, rfl, rfl, List.nodup_nil⟩
noncomputable def tDNewK : TE := fun _ H Q => ∀ p, H p = none → Q (.ref p) (upd H p (.dK []))
section
variable {X : Cx} {pos : Pos}
theorem pe_dnewK : PE X (.Dict [] [] pos) tDNewK := fun pins s σ H Q I h =>
  wpAny_Dict_empty ⟨.ref s.heap.objs.size, _, I.laid (a := s.heap.objs.size) (o := .dK []) (t' := s.toks) (fun _ _ q => Heap.get?_push_of_some _ q) (Nat.le_refl _) (dk_empty s.heap I.big), rfl, h _ (I.hok.fresh (Nat.le_refl _))⟩
end
structure M2 (X : Cx) (o : Expr) (m : Str) (apos : Pos) (e f : Expr) (cpos : Pos) : Prop where
  base : attributeBase o m X.env (eval o X.env) = eval o X.env
  few : ((backTo cpos (starEach [e, f] X.env)).all (fun x => !x.1) && (backToKw cpos (keywordEach [] X.env)).all (fun x => x.1.isSome)
    && decide (([e, f] : List Expr).length + ([] : List Keyword).length + (if ([] : List Keyword).isEmpty then 0 else 1) < 30)) = true
  line : (apos.endLine == cpos.line) = true
  trees : backTo cpos (starEach [e, f] X.env) = [(false, eval e X.env), (false, eval f X.env)]
noncomputable def IsD (H : Hp) (a : Addr) : Prop := (∃ kvs, Rd H a (.dK kvs)) ∨ ∃ kvs, Rd H a (.dT kvs)
theorem isD_at {X : Cx} {pins : List (Addr × Obj)} {σ : St} {H : Hp} {s : Shared} {a : Addr} (I : Inv X pins σ H s) (d : IsD H a) :
    s.TypeIs (.ref a) "dict" ∧ (∀ b, Value.ref a = .ref b → ∃ ob, s.heap.get? b = some ob ∧ ob.dict = none) ∧ (a == sysModules) = false := by
  rcases d with ⟨kvs, e⟩ | ⟨kvs, e⟩
  · obtain ⟨_, hd, vs, _, dd⟩ := dk_rd I.hok e
    refine ⟨dd.typeIs, fun b q => ?_, hd⟩
    cases q
    obtain ⟨ob, _, _, h1, h2, _⟩ := dd
    exact ⟨ob, h1, h2.2.1⟩
  · obtain ⟨_, hd, xs, _, dd⟩ := dt_rd I.hok e
    refine ⟨dd.typeIs, fun b q => ?_, hd⟩
    cases q
    obtain ⟨ob, _, _, h1, h2, _⟩ := dd
    exact ⟨ob, h1, h2.2.1⟩
section
variable {X : Cx} {pins : List (Addr × Obj)} {σ : St} {H : Hp} {s : Shared} {a : Addr} {y d : V} {u r : Value} {o : Option V} {A : Around} {E : Value → Shared → Prop}
theorem d_get2 {Q : Value → Shared → Prop} (hu : A.units + 16 < cLine) (I : Inv X pins σ H s) (g : DGet H a y o) (ry : RelV y u) (rd : RelV d r) (h : ∀ w' s', Inv X pins σ H s' → RelV (o.getD d) w' → Q w' s') :
    wpAny (model X.prog X.w) A (call (.builtin "dict.get") [.ref a, u, r]) Q E s := by
  rcases g with ⟨kvs, k, e, ey, l⟩ | ⟨kvs, k, b, e, ey, eb, l⟩ | ⟨kvs, k, b, e, ey, eb, l⟩
  · subst ey
    obtain ⟨z, hd, vs, rel, dd⟩ := dk_rd I.hok e
    refine call_meetsIn PySem.F.slot_dict_get dd.typeIs PySem.F.entry_dict_get (PySem.F.args_dict_get_3 _ _ _) (meets_dict_get_default (mixKind X.prog X.w) a (kV_is ry) hd r) ⟨_, dd.mapOf, h _ _ (I.tok _) ?_⟩
    rw [l]
    exact (rel.val k).getD rd
  · subst ey
    cases (show u = Value.ref b from ry)
    obtain ⟨z, hd, xs, rel, dd⟩ := dt_rd I.hok e
    refine call_meetsIn PySem.F.slot_dict_get dd.typeIs PySem.F.entry_dict_get (PySem.F.args_dict_get_3 _ _ _) (meetsH_dict_get_default (tupleKind (mixKind X.prog X.w)) a b hd r) ⟨tupleKind_room_in1 (by lia), k, xs, key_of I.hok eb, dd, h _ _ (I.tok _) ?_⟩
    rw [l]
    exact (rel.val k).getD rd
  · subst ey
    cases (show u = Value.ref b from ry)
    obtain ⟨z, hd, xs, rel, dd⟩ := dp_rd I.hok e
    refine call_meetsIn PySem.F.slot_dict_get dd.typeIs PySem.F.entry_dict_get (PySem.F.args_dict_get_3 _ _ _) (meetsH_dict_get_default (pairKind (mixKind X.prog X.w) (mixKind X.prog X.w)) a b hd r) ⟨(show _ + 8 < cLine by show A.units + 1 + 8 < cLine; lia), k, xs, keyP_of I.hok eb, dd, h _ _ (I.tok _) ?_⟩
    rw [l]
    exact (rel.val k).getD rd
end
noncomputable def tDGet2 (td ty tx : TE) : TE := fun σ H Q => td σ H fun x H1 => ∃ a, x = .ref a ∧ IsD H1 a ∧ ty σ H1 fun y H2 => tx σ H2 fun z H3 => ∃ o, DGet H3 a y o ∧ Q (o.getD z) H3
section
variable {X : Cx} {o e f : Expr} {apos cpos : Pos} {td ty tx : TE}
theorem pe_dget2 (hu : X.A.units + 16 < cLine) (ho : PE X o td) (he : PE X e ty) (hf : PE X f tx) (m : M2 X o "get" apos e f cpos) : PE X (.Call (.Attribute o "get" apos) [e, f] [] cpos) (tDGet2 td ty tx) := by
  intro pins s σ H Q I h
  refine wpAny_Call_method m.base m.few m.line PySem.F.plainAttrs_dict PySem.F.slot_dict_get PySem.F.type_dict_get (thn (ho pins s σ H _ I h) fun u s1 ⟨x, H1, I1, rx, a, ex, d, q1⟩ => ?_)
  subst ex
  obtain rfl : u = Value.ref a := rx
  obtain ⟨t1, t2, _⟩ := isD_at I1 d
  refine ⟨t1, t2, ?_⟩
  rw [m.trees]
  refine Calls.callWith_builtin rfl (Calls.evalArgs_plain (Calls.spliced_cons (thn (he pins s1 σ H1 _ I1 q1) fun iv s2 ⟨y, H2, I2, ry, q2⟩ =>
    Calls.spliced_cons (thn (hf pins s2 σ H2 _ I2 q2) fun fv s3 ⟨z, H3, I3, rz, ov, g, q3⟩ => Calls.spliced_nil ?_))))
  exact d_get2 hu I3 g ry rz fun w' s4 I4 rw' => ⟨_, H3, I4, rw', q3⟩
end
section
variable {X : Cx} {pins : List (Addr × Obj)} {σ : St} {H : Hp} {s : Shared} {a : Addr} {kvs : List (Key × V)} {A : Around} {E : Value → Shared → Prop}
end
section
variable {X : Cx} {pins : List (Addr × Obj)} {σ : St} {H : Hp} {s : Shared} {a : Addr} {y : V} {u : Value} {A : Around} {E : Value → Shared → Prop}
end
end L2
namespace Att
open PySem PySem.W PySem.Calls PyProof.Rows
theorem ints_of_wellAll {P : Params} {h : Heap} : ∀ (ns : List Int) (vs : List Value), WellAll P h vs (ns.map WData.int) → IntsAre vs ns := by
  intro ns
  induction ns with
  | nil =>
    intro vs w
    rw [List.map_nil] at w
    cases w
    exact .nil
  | cons n ns ih =>
    intro vs w
    rw [List.map_cons] at w
    cases w with
    | cons a b =>
      cases a
      exact .cons _ _ (ih _ b)
theorem script_of {l : OpenLaw} {n : Nat} (hn : l.most = some n) {P : Params} {h : Heap} {args : List WData} {vals : List Value}
    (hpre : l.row.toRowW.claim.pre args = true) (hwl : WellAll P h vals args) :
    ∃ a vs ns, vals = [Value.ref a] ∧ args = [WData.list (ns.map WData.int)] ∧ h.get? a = some { cls := .type "list", data := .seq vs.toArray } ∧ IntsAre vs ns ∧ ns.length ≤ n := by
  have hsh : WShape.hasAll [] args [.list .int] = true := (pre_splitW hpre).1
  have hc : l.pre.holds [] { args := args } = true := (pre_splitW hpre).2
  obtain ⟨d, r, rfl, h1, h2⟩ := hasAllW_cons hsh
  obtain rfl := hasAllW_nil h2
  obtain ⟨xs, rfl, h3⟩ := hasW_list h1
  obtain ⟨ns, rfl⟩ := items_int h3
  have hlen : ns.length ≤ n := by
    unfold OpenLaw.pre at hc
    have h4 : (WTm.not (.lt (.lit (.int (n : Int))) (.len (.arg 0)))).holds [] { args := [.list (ns.map .int)] } = true := by
      have h4 := (holds_andW hc).1
      rw [hn] at h4
      exact h4
    have h5 := condW_of h4 (w_not (w_lt w_lit (w_len_list (w_arg rfl))))
    rw [List.length_map] at h5
    refine Nat.le_of_not_lt fun q => ?_
    have q' : (n : Int) < ((ns.length : Nat) : Int) := by lia
    first
      | (rw [decide_eq_true q'] at h5; exact absurd h5 (by decide))
      | (simp at h5; lia)
  cases hwl with
  | cons w1 w2 =>
    cases w2
    cases w1 with
    | list ho hall => exact ⟨_, _, ns, rfl, rfl, ho, ints_of_wellAll ns _ hall, hlen⟩
theorem post_true (l : OpenLaw) (args : List WData) : l.row.toRowW.claim.post args (.bool true) args = true :=
  postW_of (r := l.row.toRowW) (X := (true == true))
    (show WShape.has [] (.bool true) .bool = true by first | rfl | decide | simp [WShape.has, WShape.arms, WShape.armsAll])
    (show (WTm.eq .res (.lit (.bool true))).value [] { args := args, res := some (.bool true), after := args } = some (.bool (true == true)) from w_eq_bool (w_res rfl) w_lit) rfl
theorem attach_call {l : OpenLaw} {n : Nat} {q : Program} {loose : List Str} {XP : (Str → Option Value) → Heap → Prop} {YP : World → Heap → Prop} {d : DefRec}
    (hn : l.most = some n) (hdf : d.params.defaults = [])
    (call : ∀ (w : World) (s₀ s₁ : Shared) (mg mb : Str → Option Value) (fa : Addr) (o : Obj) (pm cd doc : Value) (a : Addr) (vs : List Value) (ns : List Int),
      Ground q loose [] XP w s₀ mg mb s₁.heap → YP w s₁.heap →
      s₁.heap.get? fa = some o → o.data = .func (docDef d.name d.params d.body d.scope pm cd doc) → s₁.heap.CodeRec cd d.name → mg d.name = some (.ref fa) →
      s₁.heap.get? a = some { cls := .type "list", data := .seq vs.toArray } → IntsAre vs ns → ns.length ≤ n → s₁.gens = #[] →
      codeAny (model l.prog w) callerA (.call (.ref fa) ⟨[.ref a], []⟩) (fun r s' => r = .ok (.ret (.bool true)) ∧ OldK s₁.heap s'.heap ∧ s'.os = s₁.os ∧ AllBare s'.gens) s₁) :
    WalkO q loose XP YP l.row.toRowW d [] (fun f vs => PySem.call f vs) := by
  intro w s₀ s₁ mg mb G Y fa o pm cd doc dV kV ho hd hcd hD hmg hg args vals as hpre hlay hrd hwl hlo
  obtain rfl : dV = .none := Dflts.none hD hdf
  obtain rfl : kV = .none := Dflts.noKw hD
  obtain ⟨a, vs, ns, rfl, rfl, hobj, hints, hlen⟩ := script_of hn hpre hwl
  refine enter_call (codeAny_mono (call w s₀ s₁ mg mb fa o pm cd doc a vs ns G Y ho (fd_plain hd) hcd hmg hobj hints hlen hg) fun r s' hq => ?_)
  obtain ⟨rfl, h2, h3, h4⟩ := hq
  exact ⟨.inl ⟨.bool true, .bool true, [], rfl, fun _ => rfl, .bool true, post_true l _, fun _ => ⟨List.Pairwise.nil, fun _ hm => (nomatch hm)⟩⟩, h2, h3, h4⟩
section
variable {prog : Program} {w : World} {A : Around} {E : Value → Shared → Prop} {s : Shared} {K : Frag}
end
end Att
namespace L2
open PySem PySem.Spec PyProof.Rows
theorem vals_ints : ∀ {vs : List Value} {ns : List Int}, IntsAre vs ns → Vals (ns.map V.int) vs
  | _, _, .nil => .nil
  | _, _, .cons n t h => .cons ⟨t, rfl⟩ (vals_ints h)
noncomputable def Only (H : Hp) : Prop := ∀ b, H b = none ∨ ∃ o xs, H b = some (.frz o (.lst xs))
theorem law_call {P : Program} {w : World} {K : PySem.W.Frag} {mg mb : Str → Option Value} {CX : CXT} {k : Nat} {fa a : Addr} {fd : FuncData} {x : Str} {sp : Sp} {s₁ : Shared} {vs : List Value} {ns : List Int}
    (KX : K.In s₁.heap) (hns : s₁.heap.Ns mainGlobals mg) (hb : s₁.heap.Ns builtinsNs mb) (hbb : ∀ x : Str, x ≠ "__name__" → mb x = bootBuiltins x) (hlim : s₁.heap.NoLimit) (hg : s₁.gens = #[])
    (ha : s₁.heap.get? a = some { cls := .type "list", data := .seq vs.toArray }) (hi : IntsAre vs ns) (hl : ns.length ≤ sizeLine) (hr : Room k callerA)
    (F : ∀ base : Heap, K.In base → base.Ns mainGlobals mg → FnOk P w K mg base CX k fa fd [x] sp) (hbind : ∀ (s : Shared) (u : Value), BindsTo s fd ⟨[u], []⟩ [(x, u)])
    (hsp : ∀ H : Hp, Only H → SqL K H a (ns.map V.int) → sp [.ref a] H (fun v _ => v = .bl true) fun _ _ _ => False)
    (hCX : ∀ H e s', CX [] H s₁ (fun _ _ _ => False) e s' → False) :
    codeAny (model P w) callerA (.call (.ref fa) ⟨[.ref a], []⟩) (fun r s' => r = .ok (.ret (.bool true)) ∧ OldK s₁.heap s'.heap ∧ s'.os = s₁.os ∧ AllBare s'.gens) s₁ := by
  have rv := vals_ints hi
  have lenV := hi.length
  have core : ∀ H : Hp, Only H → SqL K H a (ns.map V.int) → HOk P w H s₁.heap → (∀ b, H b ≠ none → b = a) → (H a ≠ none → K.lookup a = none) →
      codeAny (model P w) callerA (.call (.ref fa) ⟨[.ref a], []⟩) (fun r s' => r = .ok (.ret (.bool true)) ∧ OldK s₁.heap s'.heap ∧ s'.os = s₁.os ∧ AllBare s'.gens) s₁ := by
    intro H hO hS hok hA hK
    have base_of : ∀ {b : Addr} {o : Obj}, s₁.heap.get? b = some o → H b = none → (hidT s₁.heap H).get? b = some o := fun e n => hidT_get e n
    have noA : ∀ {b : Addr} {o : Obj} {es : Array DictEntry} {ep : Nat}, s₁.heap.get? b = some o → o.data = .dict es ep → H b = none := fun {b o es ep} e d => by
      cases q : H b with
      | none => rfl
      | some u =>
        have e' : b = a := hA b (by rw [q]; simp)
        subst e'
        rw [ha] at e; cases e
        have d' : Data.seq vs.toArray _ = Data.dict es ep := d
        cases d'
    have nsK : ∀ {b : Addr} {m : Str → Option Value}, s₁.heap.Ns b m → (hidT s₁.heap H).Ns b m := fun {b m} ⟨o, es, ep, e, d, r⟩ => ⟨o, es, ep, base_of e (noA e d), d, r⟩
    have hKb : K.In (hidT s₁.heap H) := fun b o e => base_of (KX b o e) (by
      cases q : H b with
      | none => rfl
      | some u =>
        have e' : b = a := hA b (by rw [q]; simp)
        subst e'
        rw [hK (by rw [q]; simp)] at e; cases e)
    have hM : Mod K mg (hidT s₁.heap H) := ⟨hKb, nsK hns, ⟨mb, nsK hb, hbb⟩, let ⟨mc, h1, h2⟩ := hlim; ⟨mc, nsK h1, h2⟩⟩
    have e0 : Env0 P w K mg (hidT s₁.heap H) callerA [] s₁ H := ⟨rfl, hM, fun b o e => of_hidT e, Nat.le_of_eq (hidT_size _ _), trivial, fun b hb => absurd (show b ∈ ([] : List Addr) from hb) (by simp), hok, .of_eq hg⟩
    refine codeAny_mono ((F _ hKb (nsK hns)).run callerA [] s₁ H ⟨[.ref a], []⟩ [.ref a] [.ref a] _ _ hr e0 (hbind s₁ (.ref a)) (.cons rfl .nil) (hsp H hO hS)) fun r s' h => ?_
    cases r with
    | error e => exact (hCX H e s' h).elim
    | ok fl =>
      cases fl with
      | next => exact False.elim h
      | brk => exact False.elim h
      | cont => exact False.elim h
      | ret u =>
        obtain ⟨v, H', os, bare, un, hok', r', q⟩ := h
        have q' : v = .bl true := q
        subst q'
        obtain rfl : u = Value.bool true := r'
        refine ⟨rfl, OldK.of_keep fun b o e => ?_, os, bare⟩
        cases q : H b with
        | none => exact un.keep b o e q (by intro z; exact absurd (show b ∈ ([] : List Addr) from z) (by simp)) (by simp)
        | some u =>
          rcases hO b with z | ⟨ob, xs, z⟩
          · rw [q] at z; cases z
          · have z2 := un.frzs b ob _ z
            obtain ⟨e1, _⟩ := hok b _ z
            obtain ⟨e2, _⟩ := hok' b _ z2
            rw [e] at e1; cases e1
            exact e2
  cases hk : K.lookup a with
  | some o =>
    have e := KX a o hk
    rw [ha] at e
    cases e
    refine core (fun _ => none) (fun _ => .inl rfl) (.inr ⟨_, vs.toArray, _, hk, rfl, rfl, rfl, by rw [List.size_toArray, lenV]; exact hl, by simpa using rv⟩) (fun b u z => by have z' : (none : Option HO) = some u := z; cases z') (fun b z => absurd rfl z) fun z => absurd rfl z
  | none =>
    refine core (fun b => if b = a then some (.frz { cls := .type "list", data := .seq vs.toArray } (.lst (ns.map V.int))) else none) (fun b => ?_) (.inl (.inr ⟨{ cls := .type "list", data := .seq vs.toArray }, if_pos rfl⟩)) (fun b u z => ?_) (fun b z => ?_) fun _ => hk
    · by_cases hb : b = a
      · exact .inr ⟨_, _, if_pos hb⟩
      · exact .inl (if_neg hb)
    · by_cases hb : b = a
      · have z' := (if_pos hb).symm.trans z
        cases z'
        subst hb
        exact ⟨ha, by rw [List.length_map]; exact hl, vs, _, rv, ha⟩
      · have z' := (if_neg hb).symm.trans z
        cases z'
    · by_cases hb : b = a
      · exact hb
      · exact absurd (if_neg hb) z
end L2
namespace L2
open PySem PySem.Spec PyProof.Rows
theorem walk_of {l : PySem.W.OpenLaw} {n k : Nat} {q : Program} {loose : List Str} {XP : (Str → Option Value) → Heap → Prop} {YP : World → Heap → Prop} {d : DefRec} {K : Params → PySem.W.Frag} {CX : World → CXT} {sp : World → Sp} {x : Str}
    (hn : l.most = some n) (hn2 : n ≤ sizeLine) (hdf : d.params.defaults = []) (hr : Room k callerA)
    (hY : ∀ (w : World) (h : Heap), YP w h → (K w.params).In h)
    (F : ∀ (w : World) (mg : Str → Option Value) (fa : Addr) (h : Heap), (K w.params).In h → h.Ns mainGlobals mg → mg d.name = some (.ref fa) →
      ∃ fd : FuncData, (∀ (s : Shared) (u : Value), BindsTo s fd ⟨[u], []⟩ [(x, u)]) ∧
        ∀ base : Heap, (K w.params).In base → base.Ns mainGlobals mg → FnOk l.prog w (K w.params) mg base (CX w) k fa fd [x] (sp w))
    (hsp : ∀ (w : World) (H : Hp) (a : Addr) (ns : List Int), ns.length ≤ n → Only H → SqL (K w.params) H a (ns.map V.int) → sp w [.ref a] H (fun v _ => v = .bl true) fun _ _ _ => False)
    (hCX : ∀ (w : World) (H : Hp) (s : Shared) (e : Value) (s' : Shared), CX w [] H s (fun _ _ _ => False) e s' → False) :
    PySem.W.WalkO q loose XP YP l.row.toRowW d [] (fun f vs => PySem.call f vs) := by
  refine Att.attach_call hn hdf fun w s₀ s₁ mg mb fa o pm cd doc a vs ns G Y ho hd hcd hmg hobj hints hlen hg => ?_
  have KX := hY w _ Y
  obtain ⟨fd, hb, hF⟩ := F w mg fa _ KX G.T.g hmg
  exact law_call KX G.T.g G.T.b G.T.builtins G.T.nolimit hg hobj hints (Nat.le_trans hlen hn2) hr hF hb (fun H hO hS => hsp w H a ns hlen hO hS) fun H e s' => hCX w H s₁ e s'
end L2
namespace L2
open PySem PySem.Spec PyProof.Rows
noncomputable def defArgs (s : Stmt) : Arguments := match s with
  | .FunctionDef _ a _ _ _ _ _ _ _ _ => a
  | _ => { posonlyargs := [], args := [], vararg := none, kwonlyargs := [], kw_defaults := [], kwarg := none, defaults := [] }
noncomputable def defBody (s : Stmt) : List Stmt := match s with
  | .FunctionDef _ _ b _ _ _ _ _ _ _ => b
  | _ => []
noncomputable def defScope (s : Stmt) : Scope := match s with
  | .FunctionDef _ _ _ _ _ _ sc _ _ _ => sc
  | _ => { kind := .function, names := [], isGenerator := false, isCoroutine := false }
noncomputable abbrev CX0 : CXT := fun _ _ _ _ _ _ => False
noncomputable abbrev E0 : XK := fun _ _ _ => False
theorem pass0 {X : Cx} : Passes CX0 X E0 := fun _ _ _ _ _ _ _ h => h.elim
structure Fun (K : PySem.W.Frag) (x qual : Str) (st : Stmt) (f : Addr) (fd : FuncData) : Prop where
  ex : ∃ (oc : Value) (od : Option Addr) (kV doc pm : Value) (an : Option Addr) (cdv ct : Value) (osl : Array (Option Value)),
    fd = PySem.W.fnOf x qual (defArgs st) (defBody st) (defScope st) .none kV doc pm an cdv ct ∧ K.lookup f = some ⟨oc, od, .func fd, osl⟩ ∧ PySem.W.codeIn K cdv qual = true
  kp : PySem.W.keepIn K (.ref f) = true
section
variable {P : Program} {w : World} {K : PySem.W.Frag} {mg : Str → Option Value} {base : Heap}
theorem Fun.ok {x qual : Str} {st : Stmt} {f : Addr} {fd : FuncData} {N ps : List Str} {k : Nat} {sp : Sp} (F : Fun K x qual st f fd) (S : FnScope N ps (defScope st)) (len : ∀ vs H Q E, sp vs H Q E → vs.length = ps.length)
    (hbody : ∀ (cdv : Value) (A : Around) (outer : List Env) (s : Shared) (H : Hp) (vs : List V) (Q : VK) (E : XK), Room k (A.deeper (envOfC qual (defScope st) s.heap.objs.size f cdv)) → sp vs H Q E →
      ∃ t, PSs (cxOf CX0 P w K mg base N qual (defScope st) f cdv A outer s H E).nox (defBody st) t ∧ t { nx := fun _ H' => Q .non H', rt := Q } (start N vs) H) : FnOk P w K mg base CX0 (k + 1) f fd ps sp := by
  obtain ⟨oc, od, kV, doc, pm, an, cdv, ct, osl, rfl, lk, hcd⟩ := F.ex
  refine fn_of lk hcd S len fun A outer s H vs Q E hr hsp => ?_
  obtain ⟨t, h, q⟩ := hbody cdv A outer s H vs Q E hr hsp
  exact ⟨t, h.nox, q⟩
theorem Fun.binds {x qual : Str} {st : Stmt} {f : Addr} {fd : FuncData} {ps : List Str} (F : Fun K x qual st f fd)
    (h : ∀ (kV doc pm : Value) (an : Option Addr) (cdv ct : Value) (us : List Value), us.length = ps.length → bindArgs (PySem.W.fnOf x qual (defArgs st) (defBody st) (defScope st) .none kV doc pm an cdv ct) ⟨us, []⟩ = pure (ps.zip us)) : Binds K fd ps [] := by
  obtain ⟨oc, od, kV, doc, pm, an, cdv, ct, osl, rfl, lk, hcd⟩ := F.ex
  exact .all (h kV doc pm an cdv ct)
theorem fun_mk {x qual : Str} {st : Stmt} {f : Addr} {oc : Value} {od an : Option Addr} {osl : Array (Option Value)} {kV doc pm cdv ct : Value} (l : K.lookup f = some ⟨oc, od, .func (PySem.W.fnOf x qual (defArgs st) (defBody st) (defScope st) .none kV doc pm an cdv ct), osl⟩)
    (c : PySem.W.codeIn K cdv qual = true) (k : PySem.W.keepIn K (.ref f) = true) : Fun K x qual st f (PySem.W.fnOf x qual (defArgs st) (defBody st) (defScope st) .none kV doc pm an cdv ct) := ⟨⟨oc, od, kV, doc, pm, an, cdv, ct, osl, rfl, l, c⟩, k⟩
end
theorem hu_of {A : Around} {k : Nat} (hr : Room k A) : A.units + 16 < cLine := Nat.lt_of_le_of_lt (Nat.add_le_add_left (by decide : 16 ≤ 64) _) hr.units
theorem small1000 {n : Nat} (h : n ≤ 1000) : n < sizeLine := Nat.lt_of_le_of_lt h (by decide)
section
variable {X : Cx}
theorem pv (i : Nat) {x : Str} {pos : Pos} (hN : X.N[i]? = some x := by rfl) (hv : Vis X.env.scope x := by first | exact Or.inl rfl | exact Or.inr (Or.inl rfl) | exact Or.inr (Or.inr rfl)) (hd : (x == ("__debug__" : Str)) = false := by decide)
    (hcd : (x == ("__classdict__" : Str)) = false := by decide) : PE X (.Name x pos) (tVar i) := pe_var hN hv hd hcd
end
theorem iteF {A B : Prop} (h : B) : if false = true then A else B := by
  rw [if_neg Bool.false_ne_true]
  exact h
theorem iteT {A B : Prop} (h : A) : if true = true then A else B := by
  rw [if_pos rfl]
  exact h
theorem ite2 {c A B : Prop} [Decidable c] (h1 : c → A) (h2 : ¬ c → B) : if c then A else B := by
  by_cases h : c
  · rw [if_pos h]
    exact h1 h
  · rw [if_neg h]
    exact h2 h
noncomputable def Same (H H' : Hp) : Prop := ∀ b o, H b = some o → H' b = some o
theorem Same.refl (H : Hp) : Same H H := fun _ _ h => h
theorem Same.trans {H H1 H2 : Hp} (a : Same H H1) (b : Same H1 H2) : Same H H2 := fun c o h => b c o (a c o h)
theorem Same.free {H H' : Hp} (e : Same H H') {l : Addr} (h : H' l = Option.none) : H l = Option.none := by
  cases q : H l with
  | none => rfl
  | some o =>
    rw [e l o q] at h
    cases h
end L2
namespace L2
open PySem PySem.Spec PyProof.Rows
section
variable {X : Cx}
end
end L2
namespace L2
open PySem PySem.Spec PyProof.Rows
section
variable {κ : Type} [DecidableEq κ]
end
end L2
namespace L2
open PySem PySem.Spec PyProof.Rows
section
variable {X : Cx}
theorem call_isi : CallR X (.builtin "isinstance") (fun xs H Q => ∃ x T t b, xs = [x, .ty T] ∧ TyOf X.K H x t ∧ PySem.W.kitOne X.K t (.type T) = some b ∧ Q (.bl b) H) := by
  intro pins s σ H xs us Q I r h
  obtain ⟨x, T, t, b, rfl, ty, e, q⟩ := h
  obtain ⟨u, w', rfl, ru, rw'⟩ := vals2 r
  cases (show w' = Value.type T from rw')
  exact isinst_ok I ru ty e fun tk => ⟨.bl b, H, I.tok tk, rfl, q⟩
end
noncomputable def Itw (n : Nat) (R : Nat → V → Prop) : It := ⟨fun i _ => i < n, fun i H x H' => H' = H ∧ R i x, fun i _ => i = n⟩
theorem turn_walks {P : Program} {w : World} {K : PySem.W.Frag} {tg : Expr} (it : Addr) (n : Nat) (Pv : Nat → Value → Prop) (tn : Nat → Heap → Prop) (R : Nat → V → Prop)
    (hW : ∀ A : Around, A.handled = none → Walks P w A it [it] [it] n Pv tn)
    (hobj : ∀ i h, tn i h → ∃ (o : Obj) (nm : String) (vs : Array Value), h.get? it = some o ∧ o.cls = .type nm ∧ o.data = .fields vs ∧
      ["enumerate", "zip", "dict_itemiterator", "dict_reverseitemiterator", "odict_iterator", "itertools.zip_longest", "itertools.pairwise"].contains nm = false)
    (hP : ∀ i v, Pv i v → ∃ x, RelV x v ∧ R i x)
    (hself : ∀ (A : Around) (i : Nat) (s : Shared) (Q : Value → Shared → Prop) (E : Value → Shared → Prop), tn i s.heap → Q (.ref it) s → wpAny (model P w) A (pyIter (.ref it)) Q E s) : Turn P w K tg (Itw n R) [it] it tn where
  mem := by simp
  obj := fun i h st b hb => by
    have e : b = it := by simpa using hb
    subst e
    obtain ⟨o, nm, vs, e, _, d, _⟩ := hobj i h st
    exact ⟨o, e, fun v z => by rw [d] at z; cases z⟩
  keep := fun i h h' st k => (hW callerA rfl).frame i h h' st fun b hb o e => k b hb o e
  item := by
    intro X hP' hw hK hc i pins s σ H E I hf st hg
    subst hP' hw hK
    obtain ⟨f0, f1, f2, f3, f4, f5⟩ := hf it (by simp)
    refine (hW X.A (I.ok.hd hc)).item i s _ _ hg st fun v h' tk hv st' kk => ?_
    obtain ⟨x, rx, qx⟩ := hP i v hv
    have I1 : Inv X pins σ H { s with heap := h', toks := tk } := I.turned (fun b o hb e => kk b o (by simpa using hb) e) f0 f1 f3 f4 f5
    obtain ⟨o, nm, vs, e, c, d, ne⟩ := hobj _ _ st'
    exact ⟨v, rfl, go_of (s := { s with heap := h', toks := tk }) e c d ne ⟨x, H, I1, rx, ⟨rfl, qx⟩, st', fun b hb => (hf b hb).1⟩⟩
  done := by
    intro X hP' hw hK hc i pins s σ H E I hf st hg
    subst hP' hw hK
    obtain ⟨f0, f1, f2, f3, f4, f5⟩ := hf it (by simp)
    have hg' : i = n := hg
    subst hg'
    exact (hW X.A (I.ok.hd hc)).done s _ _ st fun h' tk kk => ⟨rfl, I.turned (t' := tk) (fun b o hb e => kk b o (by simpa using hb) e) f0 f1 f3 f4 f5⟩
  self := hself
theorem for_walk {n : Nat} {R : Nat → V → Prop} {g : TG} {tb : TS} {D : Ends} {σ : St} {H : Hp} (Pv : Nat → St → Hp → Prop) (h0 : Pv 0 σ H)
    (hs : ∀ i x σ H, i < n → R i x → Pv i σ H → g x σ H fun σ2 H2 => tb { D with nx := Pv (i + 1), ct := Pv (i + 1), bk := D.nx } σ2 H2) (hd : ∀ σ H, Pv n σ H → D.nx σ H) :
    ∃ W : Nat → Nat → St → Hp → Prop, (∃ m, W 0 m σ H) ∧ ∀ i m σ H, W i m σ H →
      ((Itw n R).stop i H ∧ D.nx σ H) ∨ ((Itw n R).go i H ∧ ∃ N : St → Hp → Prop, (∀ σ' H', N σ' H' → ∃ m', m' < m ∧ W (i + 1) m' σ' H') ∧ ∀ x H', (Itw n R).yld i H x H' → g x σ H' fun σ2 H2 => tb { D with nx := N, ct := N, bk := D.nx } σ2 H2) := by
  refine ⟨fun i m σ H => i ≤ n ∧ m = n - i ∧ Pv i σ H, ⟨n, Nat.zero_le _, by simp, h0⟩, ?_⟩
  rintro i m σ H ⟨hi, hm, p⟩
  by_cases e : i = n
  · subst e
    exact .inl ⟨rfl, hd σ H p⟩
  · have hlt : i < n := by lia
    refine .inr ⟨hlt, Pv (i + 1), fun σ' H' p' => ⟨n - (i + 1), by lia, by lia, rfl, p'⟩, ?_⟩
    rintro x H' ⟨rfl, r⟩
    exact hs i x σ H' hlt r p
section
variable {X : Cx} {tg : Expr}
noncomputable def iRng3 (ta : TA) : TI := fun σ H R => ta σ H fun vs H1 => ∃ i j c : Int, vs = [.int i, .int j, .int c] ∧ (-(2 ^ 40) ≤ i ∧ i < 2 ^ 40 ∧ -(2 ^ 40) ≤ j ∧ j < 2 ^ 40 ∧ 0 < c ∧ c < 2 ^ 20) ∧
  R (Itw (Builtin.Range.rangeSize i j c).toNat fun k v => v = .int (i + k * c)) H1
theorem small_step {a b c : Int} (h1 : -(2 ^ 40) ≤ a) (h2 : a < 2 ^ 40) (h3 : -(2 ^ 40) ≤ b) (h4 : b < 2 ^ 40) (h5 : 0 < c) (h6 : c < 2 ^ 20) : Builtin.Range.small a b c = true := by
  have hz : Builtin.Range.rangeSize a b c ≤ 2 ^ 41 ∧ 0 ≤ Builtin.Range.rangeSize a b c := by
    unfold Builtin.Range.rangeSize
    rw [if_pos h5]
    split
    · have e1 : (b - a - 1) / c ≤ b - a - 1 := Int.ediv_le_self _ (by lia)
      have e2 : 0 ≤ (b - a - 1) / c := Int.ediv_nonneg (by lia) (by lia)
      lia
    · lia
  unfold Builtin.Range.small
  simp only [Builtin.Range.rangeFitsLong, Bool.and_eq_true, Bool.or_eq_true, decide_eq_true_eq, beq_iff_eq, show c > 0 from h5, if_true]
  lia
theorem pi_range3 {a b c : Expr} {ta : TA} {p pos : Pos} (hg : Gl X "range") (hm : X.mg "range" = none) (ha : PA X [a, b, c] ta) (hs : starEach [a, b, c] X.env = [(false, eval a X.env), (false, eval b X.env), (false, eval c X.env)] := by rfl)
    (hs2 : starEach [b, c] X.env = [(false, eval b X.env), (false, eval c X.env)] := by rfl) : PI X tg (.Call (.Name "range" p) [a, b, c] [] pos) (iRng3 ta) := by
  intro pins s σ H R I h
  refine Call_ (ld_blt I hg hm boot_range (PyProof.Rows.callWith_type1 (thn (ha pos pins s σ H _ I h) fun us s1 ⟨vs, H1, I1, r1, q1⟩ => ?_) (by rw [hs, hs2]) (by rw [hs2]; rfl)))
  obtain ⟨i, j, c, e, ⟨q1, q2, q3, q4, q5, q6⟩, q⟩ := q1
  subst e
  cases r1 with
  | cons r rr =>
    cases rr with
    | cons r' rr =>
      cases rr with
      | cons r'' rr =>
        cases rr
        obtain ⟨t, rfl⟩ := r
        obtain ⟨t', rfl⟩ := r'
        obtain ⟨t'', rfl⟩ := r''
        refine call_range_3 (by lia) ?_ (Or.inl (PyProof.noPylong_small (by lia)))
        refine wpAny_pyIter_range (IsRange.new ..) (small_step q1 q2 q3 q4 q5 q6) ?_
        have I2 : Inv X pins σ H1 { s1 with heap := s1.heap.push { cls := .type "range", data := .fields #[.int i t, .int j t', .int c t''] } } := I1.kept (t' := s1.toks) fun b o e => Heap.get?_push_of_some _ e
        have hn : 0 ≤ Builtin.Range.rangeSize i j c := by
          unfold Builtin.Range.rangeSize
          rw [if_pos q5]
          split
          · have := Int.ediv_nonneg (a := j - i - 1) (b := c) (by lia) (by lia)
            lia
          · lia
        refine ⟨(s1.heap.push { cls := .type "range", data := .fields #[.int i t, .int j t', .int c t''] }).objs.size, [(s1.heap.push { cls := .type "range", data := .fields #[.int i t, .int j t', .int c t''] }).objs.size], _, _, H1, rfl,
          I2.kept (t' := s1.toks) fun b o e => Heap.get?_push_of_some _ e,
          turn_walks _ (Builtin.Range.rangeSize i j c).toNat _ _ (fun k v => v = .int (i + k * c)) (fun A hA => Walks.range hA _ i c _) (fun k h st => ⟨_, "range_iterator", _, st, rfl, rfl, by decide⟩) (fun k v hv => ?_) (fun _ _ _ _ _ st h => wpAny_pyIter_rangeiter st h), ?_, fun b hb => ?_, q⟩
        · obtain ⟨tt, rfl⟩ := hv
          exact ⟨.int (i + k * c), ⟨tt, rfl⟩, rfl⟩
        · show IsRangeIter _ _ (i + ((0 : Nat) : Int) * c) (((Builtin.Range.rangeSize i j c).toNat : Int) - ((0 : Nat) : Int)) c
          have e1 : i + ((0 : Nat) : Int) * c = i := by simp
          have e2 : (((Builtin.Range.rangeSize i j c).toNat : Nat) : Int) - ((0 : Nat) : Int) = Builtin.Range.rangeSize i j c := by lia
          rw [e1, e2]
          exact Heap.get?_push_size _ rfl
        · have e : b = (s1.heap.push { cls := .type "range", data := .fields #[.int i t, .int j t', .int c t''] }).objs.size := by simpa using hb
          subst e
          exact I2.fpOk (Nat.le_refl _) I2.fresh
end
end L2
namespace L2
open PySem PySem.Spec PyProof.Rows
section
variable {X : Cx} {e k : Expr} {te tk : TE} {pos p2 : Pos}
theorem vals_pick : ∀ (ix : List Nat) {xs : List V} {us : List Value}, Vals xs us → Vals (ix.filterMap (xs[·]?)) (ix.filterMap (us[·]?))
  | [], _, _, _ => .nil
  | i :: r, xs, us, h => by
    rw [List.filterMap_cons, List.filterMap_cons]
    cases ex : xs[i]? with
    | none =>
      rw [h.none_of ex]
      exact vals_pick r h
    | some x =>
      obtain ⟨u, eu, ru⟩ := h.get ex
      rw [eu]
      exact .cons ru (vals_pick r h)
noncomputable def stepIx (n : Nat) (c : Int) : List Nat := sliceRange (sliceBounds none none (some c) n).1 (sliceBounds none none (some c) n).2.1 (sliceBounds none none (some c) n).2.2
noncomputable def stepV (xs : List V) (c : Int) : List V := (stepIx xs.length c).filterMap (xs[·]?)
theorem range_pick {α : Type} (xs : List α) : (List.range xs.length).filterMap (xs[·]?) = xs := by
  induction xs with
  | nil => rfl
  | cons x r ih =>
    rw [List.length_cons, List.range_succ_eq_map, List.filterMap_cons, List.filterMap_map]
    show x :: List.filterMap ((fun j => (x :: r)[j]?) ∘ Nat.succ) (List.range r.length) = x :: r
    congr 1
theorem stepIx_one (n : Nat) : stepIx n 1 = List.range n := by
  unfold stepIx sliceBounds sliceRange
  simp only [Option.getD_some, show (1 : Int) > 0 by decide, if_true]
  by_cases h : n = 0
  · subst h
    rfl
  · rw [if_pos (by lia)]
    have e : (((n : Int) - 0 + 1 - 1) / 1).toNat = n := by rw [Int.ediv_one]; lia
    rw [e]
    conv => rhs; rw [← List.map_id (List.range n)]
    apply List.map_congr_left
    intro k hk
    show (0 + 1 * (k : Int)).toNat = k
    lia
theorem stepV_one (xs : List V) : stepV xs 1 = xs := by
  unfold stepV
  rw [stepIx_one]
  exact range_pick xs
theorem stepIx_neg (n : Nat) : stepIx n (-1) = (List.range n).map fun k => n - 1 - k := by
  unfold stepIx sliceBounds sliceRange
  simp only [Option.getD_some, show ¬ ((-1 : Int) > 0) by decide, if_false]
  by_cases h : n = 0
  · subst h
    rfl
  · rw [if_pos (by lia)]
    have e : (((n : Int) - 1 - -1 - -1 - 1) / (- -1)).toNat = n := by
      rw [show (- -1 : Int) = 1 by decide, Int.ediv_one]; lia
    rw [e]
    apply List.map_congr_left
    intro k hk
    have := List.mem_range.mp hk
    show ((n : Int) - 1 + -1 * (k : Int)).toNat = n - 1 - k
    lia
theorem rev_pick {α : Type} (xs : List α) : ((List.range xs.length).map fun k => xs.length - 1 - k).filterMap (xs[·]?) = xs.reverse := by
  apply List.ext_getElem?
  intro i
  have hall : ((List.range xs.length).map fun k => xs.length - 1 - k).filterMap (xs[·]?) = (List.range xs.length).filterMap fun k => xs[xs.length - 1 - k]? := by
    rw [List.filterMap_map]
    rfl
  rw [hall]
  have hsome : ∀ (l : List Nat), (∀ k ∈ l, k < xs.length) → ∀ j : Nat, (l.filterMap fun k => xs[xs.length - 1 - k]?)[j]? = l[j]?.bind fun k => xs[xs.length - 1 - k]? := by
    intro l
    induction l with
    | nil => intro _ j; rfl
    | cons a r ih =>
      intro hl j
      have ha := hl a List.mem_cons_self
      have hx : xs[xs.length - 1 - a]? = some xs[xs.length - 1 - a] := List.getElem?_eq_getElem (by lia)
      rw [List.filterMap_cons, hx]
      cases j with
      | zero => simp [hx]
      | succ j =>
        rw [List.getElem?_cons_succ, List.getElem?_cons_succ]
        exact ih (fun k hk => hl k (List.mem_cons_of_mem _ hk)) j
  rw [hsome _ (fun k hk => List.mem_range.mp hk) i]
  by_cases hi : i < xs.length
  · rw [List.getElem?_range hi, List.getElem?_reverse hi]
    rfl
  · rw [List.getElem?_eq_none (by simpa using hi), List.getElem?_eq_none (by simpa using hi)]
    rfl
theorem stepV_neg (xs : List V) : stepV xs (-1) = xs.reverse := by
  unfold stepV
  rw [stepIx_neg]
  exact rev_pick xs
noncomputable def tStep (K : PySem.W.Frag) (te tk : TE) : TE := fun σ H Q => te σ H fun x H1 => tk σ H1 fun y H2 => ∃ a xs c, x = .ref a ∧ y = .int c ∧ SqL K H2 a xs ∧ c ≠ 0 ∧ ∀ p, H2 p = none → Q (.ref p) (upd H2 p (.lst (stepV xs c)))
theorem pe_step (he : PE X e te) (hk : PE X k tk) : PE X (.Subscript e (.Slice none none (some k) p2) pos) (tStep X.K te tk) := by
  intro pins s σ H Q I h
  refine Subscript_ (thn (he pins s σ H _ I h) fun v s1 ⟨x, H1, I1, r1, q1⟩ => ?_)
  refine wpAny_Slice ?_
  rw [evalPart_none, evalPart_some]
  refine wpAny_pure (wpAny_pure ?_)
  refine thn (hk pins s1 σ H1 _ I1 q1) fun vk s3 ⟨y, H3, I3, ry, a, xs, c, ex, ey, hq, hc, q⟩ => ?_
  subst ex ey
  obtain ⟨t, rfl⟩ := ry
  cases r1
  have I4 : Inv X pins σ H3 { s3 with heap := s3.heap.push { cls := .type "slice", data := .fields #[.none, .none, .int c t] } } := I3.kept (t' := s3.toks) fun b ob q => Heap.get?_push_of_some _ q
  obtain ⟨its, r, ht, hz⟩ := I4.list hq
  have hlen := r.length
  have hpick : slicePick its.toArray none none (some c) = ((stepIx xs.length c).filterMap (its[·]?)).toArray := by
    unfold slicePick stepIx
    rw [List.size_toArray, hlen]
    simp
  have hle : (stepV xs c).length ≤ sizeLine := by
    have h1 := slicePick_size_le its.toArray none none (some c)
    rw [hpick, List.size_toArray, List.size_toArray] at h1
    have h2 := (vals_pick (stepIx xs.length c) r).length
    unfold stepV
    lia
  show wpAny (model X.prog X.w) X.A (subscriptTail e (.Slice none none (some k) p2) (.ref a) (.ref s3.heap.objs.size)) (EP X pins σ Q) X.xe { s3 with heap := s3.heap.push { cls := .type "slice", data := .fields #[.none, .none, .int c t] } }
  refine tail_any (ops := [.ref a, .ref s3.heap.objs.size]) ht.isList.typeIs slot_list_getitem.lookup (wpAny_getItem_list_slice ht.isList (Heap.IsSliceOf.new ..) .none .none (.int c t) (by simpa using hc) ?_ (by rw [List.size_toArray]; lia)) (by with_unfolding_all rfl)
  rw [hpick]
  refine ⟨.ref (s3.heap.push { cls := .type "slice", data := .fields #[.none, .none, .int c t] }).objs.size, _, I4.laid (t' := s3.toks) (o := .lst (stepV xs c)) (fun b ob q => Heap.get?_push_of_some _ q) (Nat.le_refl _) ?_, rfl, q _ I4.fresh⟩
  exact ⟨hle, _, 0, vals_pick _ r, Heap.get?_push_size _ rfl⟩
inductive rSlS  (x : V) (lo : Option Int) (hi : Option Int) (H : Hp) (Q : VK) : Prop
  | mk : ∀ z, (x = .str z) → (z.length ≤ sizeLine) → (Q (.str (Txt.slice z lo hi)) H) → rSlS x lo hi H Q
theorem sl_str : SlR X rSlS := by
  intro pins s σ H x v vl vu lo hi sl Q I rx hs pl pu h
  obtain ⟨z, rfl, hz, q⟩ := h
  obtain ⟨t, rfl⟩ := rx
  refine ⟨"str", _, F.slot_str_getitem.lookup, typeIs_str _ _ _, ?_⟩
  have go : ∀ (l u : Option (Int × Tok)), vl = partValue l → vu = partValue u → lo = l.map (·.1) → hi = u.map (·.1) → wpAny (model X.prog X.w) X.A (getItem (.str z t) (.ref sl)) (EP X pins σ Q) X.xe s := by
    intro l u e1 e2 e3 e4
    subst e1 e2 e3 e4
    refine wpAny_getItem_str_slice (l := l) (u := u) (st := none) hs rfl ?_
    exact post_val_or_str ⟨Nat.le_trans (Txt.slice_le z _ _) hz, fun t' k => ⟨.str (Txt.slice z (l.map (·.1)) (u.map (·.1))), H, I.tok k, ⟨t', rfl⟩, q⟩⟩
  cases pl with
  | none =>
    cases pu with
    | none => exact go none none rfl rfl rfl rfl
    | int j tj => exact go none (some (j, tj)) rfl rfl rfl rfl
  | int i ti =>
    cases pu with
    | none => exact go (some (i, ti)) none rfl rfl rfl rfl
    | int j tj => exact go (some (i, ti)) (some (j, tj)) rfl rfl rfl rfl
open PySem.AutoSeq1 (wpAny_loadPart') in
theorem range_all (bs : List Bool) : ((List.range bs.length).all fun i => (bs[i]?).getD true) = bs.all id := by
  induction bs with
  | nil => rfl
  | cons b r ih =>
    rw [List.length_cons, List.range_succ_eq_map, List.all_cons, List.all_map]
    show (b && (List.range r.length).all (fun i => ((b :: r)[i + 1]?).getD true)) = (b && r.all id)
    rw [← ih]
    rfl
theorem call_all (hc : X.calm = true) : CallR X (.builtin "all") (fun xs H Q => ∃ (p : Addr) (bs : List Bool), xs = [.ref p] ∧ SqL X.K H p (bs.map V.bl) ∧ Q (.bl (bs.all id)) H) := by
  intro pins s σ H xs us Q I r h
  obtain ⟨p, bs, rfl, hq, q⟩ := h
  obtain ⟨u, rfl, ru⟩ := vals1 r
  cases ru
  obtain ⟨its, rv, pl, hz⟩ := I.list hq
  have hl := pl.isList
  have hlt : p < s.heap.objs.size := by obtain ⟨_, e, _⟩ := hl; exact Heap.lt_size e
  have hn : its.toArray.size = bs.length := by have := rv.length; rw [List.length_map] at this; rw [List.size_toArray]; lia
  refine call_all_walk (wpAny_pyIter_list hl ?_)
  refine ⟨s.heap.objs.size, [s.heap.objs.size, p], [s.heap.objs.size], its.toArray.size, _, _, fun i => (bs[i]?).getD true, rfl, Walks.list (A := X.A.in1) (I.ok.hd hc) _ p (Nat.ne_of_lt hlt) its.toArray,
    ⟨⟨_, Heap.get?_push_size _ rfl, rfl, rfl⟩, hl.push _⟩, fun i v s' Q' E' hP hQ => ?_, fun h' tk hk => ?_⟩
  · have hv : its[i]? = some v := by simpa using hP
    have hi : i < bs.length := by
      have := (List.getElem?_eq_some_iff.mp hv).1
      have := rv.length
      rw [List.length_map] at this
      lia
    have hb : (bs.map V.bl)[i]? = some (V.bl bs[i]) := by rw [List.getElem?_map, List.getElem?_eq_getElem hi] <;> rfl
    obtain ⟨u, eu, ru⟩ := rv.get hb
    rw [hv] at eu
    cases eu
    cases (show v = Value.bool bs[i] from ru)
    have hQ' := hQ
    simp only [List.getElem?_eq_getElem hi, Option.getD_some] at hQ'
    exact wpAny_truthy_bool hQ'
  · rw [hn, range_all]
    refine ⟨.bl (bs.all id), H, I.kept (t' := tk) fun b x e => ?_, rfl, q⟩
    exact hk b x (fun hm => by rw [List.mem_singleton.mp hm] at e; exact Nat.lt_irrefl _ (Heap.lt_size e)) (Heap.get?_push_of_some _ e)
end
end L2
namespace L2
open PySem PySem.Spec PyProof.Rows
theorem forIn_yields {α β : Type} {f : α → β → Sem (ForInStep β)} (g : β → α → β) : ∀ {l : List α} (c : β), (∀ x ∈ l, ∀ c, f x c = pure (.yield (g c x))) → forIn l c f = pure (l.foldl g c)
  | [], c, _ => rfl
  | x :: l, c, h => by
    have hx := h x List.mem_cons_self c
    rw [List.forIn_cons, hx, pure_bind]
    exact forIn_yields g (g c x) fun y hy => h y (List.mem_cons_of_mem _ hy)
noncomputable def closStep (cells : List (Str × Addr)) (c : List (Str × Addr)) (x : Str × NameKind) : List (Str × Addr) :=
  if x.2 = .free then (match cells.lookup x.1 with | some a => (x.1, a) :: c | none => c) else c
noncomputable def closOf (cells : List (Str × Addr)) (names : List (Str × NameKind)) : List (Str × Addr) := names.foldl (closStep cells) []
theorem closureFor_ok {scope : Scope} {env : Env} (h : ∀ x ∈ scope.names, x.2 = .free → ∃ c, env.cells.lookup x.1 = some c) : closureFor scope env = pure (closOf env.cells scope.names) := by
  simp only [closureFor]
  rw [forIn_yields (closStep env.cells) [] (fun x hx c => by
    obtain ⟨n, kind⟩ := x
    by_cases hk : kind = .free
    · subst hk
      obtain ⟨a, ha⟩ := h _ hx rfl
      simp only [closStep, if_true, beq_self_eq_true, cellOf, ha, pure_bind]
    · have hb : (kind == NameKind.free) = false := by simpa using hk
      simp only [closStep, hb, hk, Bool.false_eq_true, if_false])]
  rfl
theorem clos_sound {cells : List (Str × Addr)} : ∀ {names : List (Str × NameKind)} {acc : List (Str × Addr)}, (∀ p ∈ acc, cells.lookup p.1 = some p.2) → ∀ p ∈ names.foldl (closStep cells) acc, cells.lookup p.1 = some p.2
  | [], _, h => h
  | x :: r, acc, h => by
    refine clos_sound (names := r) (acc := closStep cells acc x) ?_
    intro p hp
    unfold closStep at hp
    split at hp
    · split at hp
      · rename_i a ha
        rcases List.mem_cons.mp hp with e | e
        · subst e
          exact ha
        · exact h p e
      · exact h p hp
    · exact h p hp
theorem clos_keeps {cells : List (Str × Addr)} : ∀ {names : List (Str × NameKind)} {acc : List (Str × Addr)} {p : Str × Addr}, p ∈ acc → p ∈ names.foldl (closStep cells) acc
  | [], _, _, h => h
  | x :: r, acc, p, h => by
    refine clos_keeps (names := r) (acc := closStep cells acc x) ?_
    unfold closStep
    split
    · split
      · exact List.mem_cons_of_mem _ h
      · exact h
    · exact h
theorem clos_has {cells : List (Str × Addr)} {n : Str} {c : Addr} (hc : cells.lookup n = some c) : ∀ {names : List (Str × NameKind)} {acc : List (Str × Addr)}, (n, NameKind.free) ∈ names → (n, c) ∈ names.foldl (closStep cells) acc
  | [], _, h => by simp at h
  | x :: r, acc, h => by
    rcases List.mem_cons.mp h with e | e
    · subst e
      refine clos_keeps (names := r) ?_
      simp [closStep, hc]
    · exact clos_has hc (names := r) e
theorem mem_of_lookup {α β : Type} [BEq α] [LawfulBEq α] {k : α} {v : β} : ∀ {l : List (α × β)}, l.lookup k = some v → (k, v) ∈ l
  | [], h => by simp at h
  | (a, b) :: r, h => by
    rw [List.lookup_cons] at h
    split at h
    · rename_i e
      have := eq_of_beq e
      subst this
      cases h
      exact List.mem_cons_self
    · exact List.mem_cons_of_mem _ (mem_of_lookup h)
theorem lookup_of_mem {α β : Type} [BEq α] [LawfulBEq α] {k : α} {v : β} : ∀ {l : List (α × β)}, (k, v) ∈ l → ∃ v', l.lookup k = some v'
  | [], h => by simp at h
  | (a, b) :: r, h => by
    rw [List.lookup_cons]
    split
    · exact ⟨b, rfl⟩
    · rename_i e
      rcases List.mem_cons.mp h with q | q
      · cases q
        simp at e
      · exact lookup_of_mem q
theorem closOf_sound {cells : List (Str × Addr)} {names : List (Str × NameKind)} {n : Str} {c : Addr} (h : (closOf cells names).lookup n = some c) : cells.lookup n = some c :=
  clos_sound (names := names) (acc := []) (by simp) (n, c) (mem_of_lookup h)
theorem closOf_has {cells : List (Str × Addr)} {names : List (Str × NameKind)} {n : Str} {c : Addr} (hc : cells.lookup n = some c) (h : (n, NameKind.free) ∈ names) : (closOf cells names).lookup n = some c := by
  obtain ⟨c', e⟩ := lookup_of_mem (clos_has hc (acc := []) h)
  have := closOf_sound e
  rw [hc] at this
  cases this
  exact e
noncomputable def relabelN (sc0 scope : Scope) : List (Str × NameKind) :=
  scope.names.map fun (n, k) => if (k == .free && sc0.kind == .function && sc0.names.lookup n == some .cell) then (n, .cell) else (n, k)
structure CompOk (sc0 : Scope) (N0 : List Str) (scope : Scope) (x : Str) (ys : List Str) (fr : List Nat) : Prop where
  kind : scope.kind = .function
  nocell : ∀ y ∈ scope.names, y.2 ≠ .cell
  loc : ∀ y ∈ scope.names, y.2 = .local → scope.names.lookup y.1 = some .local
  xl : (relabelN sc0 scope).lookup x = some .local
  free : ∀ y ∈ scope.names, y.2 = .free → sc0.names.lookup y.1 = some .cell
  nd : (x :: ys).Nodup
  len : ys.length = fr.length
  sl : ∀ q ∈ ys.zip fr, N0[q.2]? = some q.1 ∧ sc0.names.lookup q.1 = some .cell ∧ (relabelN sc0 scope).lookup q.1 = some .cell
noncomputable def cxComp (X : Cx) (x : Str) (ys : List Str) (scope : Scope) (C : Addr) (s : Shared) (H : Hp) (ex : List Addr) : Cx :=
  { X with N := x :: ys, s₀ := s, H₀ := H, env := compEnvC scope (closOf X.env.cells scope.names) C X.env, outer := X.stack, stack := X.stack, ex := ex, fn := fun _ => false, pn := [], xe := fun _ _ => False }
section
variable {prog : Program} {w : World} {A : Around} {R : Result → Shared → Prop} {s : Shared}
theorem compLoop_list {elt target iter : Expr} {scope : Scope} {pos : Pos} {it acc : Value} {env : Env} (I : Nat → Shared → Prop)
    (turn : ∀ n s, I n s → wpAny (model prog w) A (pyNext it) (fun r s₁ => match r with
      | none => R (.ok .next) s₁
      | some v => wpAny (model prog w) A (letOwnedTupleGo target it v) (fun _ s₁' => wpAny (model prog w) A (assign target env v) (fun _ s₂ => wpAny (model prog w) A (eval elt env) (fun x s₃ =>
          wpAny (model prog w) A (call (.builtin "list.append") [acc, x]) (fun _ s₄ => ∃ m, m < n ∧ I m s₄) (fun _ _ => False) s₃) (fun _ _ => False) s₂) (fun _ _ => False) s₁') (fun _ _ => False) s₁) (fun _ _ => False) s)
    (n : Nat) (h : I n s) : codeAny (model prog w) A (.compLoop (.ListComp elt [⟨target, iter, [], 0⟩] scope pos) 0 it acc env) R s := by
  refine codeAny_loop rfl I (fun n s hI => ?_) n h
  show wpAny _ _ ((compTurn (.ListComp elt [⟨target, iter, [], 0⟩] scope pos) 0 it acc env).onRaise (fun x => do noteFrame x env; theTreesLotGoes x)) _ _ s
  refine wpAny_noted ?_
  rw [compTurn_list1]
  refine wpAny_noRaise ?_
  refine wpAny_bind (wpAny_standAt (wpAny_bind (wpAny_mono (turn n s hI) (fun r s₁ h₁ => ?_) fun _ _ h' => h')))
  cases r with
  | none => exact wpAny_pure h₁
  | some v =>
    refine wpAny_bind (wpAny_mono h₁ (fun _ s₁' h₁' => ?_) fun _ _ h' => h')
    exact wpAny_bind (wpAny_mono h₁' (fun _ s₂ h₂ => wpAny_bind (wpAny_bind (wpAny_mono h₂ (fun x s₃ h₃ => wpAny_bind (wpAny_mono h₃
      (fun _ s₄ h₄ => wpAny_pure (wpAny_pure ⟨rfl, h₄⟩)) fun _ _ h' => h')) fun _ _ h' => h'))) fun _ _ h' => h')
end
noncomputable def caps (fr : List Nat) (σ : St) : St := fr.map fun j => (σ[j]?).join
noncomputable def tCompW (fr : List Nat) (te : TE) (σ : St) (J : It) (H1 : Hp) (Q : VK) : Prop :=
  ∀ p, H1 p = none → ∃ W : Nat → Nat → List V → Hp → Prop, (∃ m, W 0 m [] (upd H1 p (.lst []))) ∧ ∀ i m ys H, W i m ys H → H p = some (.lst ys) ∧
    ((J.stop i H ∧ Q (.ref p) H) ∨ (J.go i H ∧ ys.length < sizeLine ∧ ∀ x H', J.yld i H x H' → te (some x :: caps fr σ) H' fun v H2 =>
      H2 p = some (.lst ys) ∧ ∃ m', m' < m ∧ W (i + 1) m' (ys ++ [v]) (upd H2 p (.lst (ys ++ [v])))))
noncomputable def tComp (wi : TI) (fr : List Nat) (te : TE) : TE := fun σ H Q => wi σ H fun J H1 => tCompW fr te σ J H1 Q
section
variable {X : Cx} {x : Str} {px pos fpos : Pos} {iter elt : Expr} {scope sc0 : Scope} {N0 ys : List Str} {fr : List Nat} {wi : TI} {te : TE} {pins : List (Addr × Obj)} {σ : St} {H : Hp} {s : Shared}
theorem comp_core {use : Option (Value → Sem Unit)} {Qv : Value → Shared → Prop} {Q : VK} (hcalm : X.calm = true) (hi : PI X (.Name x px) iter wi) (hsc : X.env.scope = sc0) (hN : X.N = N0) (ok : CompOk sc0 N0 scope x ys fr)
    (hE : ∀ C s H ex, PE (cxComp X x ys scope C s H ex) elt te) (I : Inv X pins σ H s) (h : tComp wi fr te σ H Q) (hs : ∀ v, foldedSetIterable iter X.env v = pure v)
    (fin : ∀ (p C : Addr) (H' : Hp) (s' : Shared) (m : Str → Option Value), Inv X pins σ H' s' → s'.heap.Ns C m → H' C = none → C ≠ X.env.locals → X.s₀.heap.objs.size ≤ C → (∀ y c, X.env.cells.lookup y = some c → c ≠ C) → (∀ q ∈ X.pn ++ pins, q.1 ≠ C) → Q (.ref p) H' →
      compPost (model X.prog X.w) X.A X.xe use Qv (.ref p) C (.ok .next) s') :
    wpAny (model X.prog X.w) X.A (comprehension (.ListComp elt [⟨.Name x px, iter, [], 0⟩] scope pos) scope X.env fpos (newList []) false (eval iter X.env) use) Qv X.xe s := by
  subst hsc hN
  have hkof : ∀ y, X.env.kindOf y = X.env.scope.names.lookup y := fun y => rfl
  have hfree : ∀ y ∈ scope.names, y.2 = .free → ∃ c, X.env.cells.lookup y.1 = some c := fun y hy e => I.ok.has y.1 (.inl (ok.free y hy e))
  refine wpAny_comprehension_free (gs := []) rfl hs (closureFor_ok hfree) ok.kind ok.loc (thn (hi pins s σ H _ I h) fun v s1 h1 => thn h1 fun itv s2 h2 => ?_)
  obtain ⟨it, fp, tn, J, H2, e, I2, T, st2, f2, hp⟩ := h2
  subst e
  refine wpAny_newObj_type (wpAny_newFunctionEnv ok.nocell (by intro y hy; simp at hy) (fun h₁ hns₁ hsb₁ => ?_) ok.kind)
  dsimp only at hns₁ hsb₁ ⊢
  have I3 : Inv X pins σ (upd H2 s2.heap.objs.size (.lst [])) { s2 with heap := s2.heap.push { cls := .type "list", data := .seq ([] : List Value).toArray } } :=
    I2.lnew (its := []) (ys := []) (t' := s2.toks) .nil (Nat.zero_le _)
  have hf2 : ∀ b ∈ fp, b < s2.heap.objs.size := fun b hb => by
    obtain ⟨o, e, _⟩ := T.obj _ _ st2 b hb
    exact Heap.lt_size e
  have hps : s2.heap.objs.size < (s2.heap.push { cls := .type "list", data := .seq ([] : List Value).toArray }).objs.size := by rw [Heap.size_push]; exact Nat.lt_succ_self _
  have W0 := hp s2.heap.objs.size I2.fresh
  have st3 : tn 0 (s2.heap.push { cls := .type "list", data := .seq ([] : List Value).toArray }) := T.keep _ _ _ st2 fun b hb o e => Heap.get?_push_of_some _ e
  generalize hpp : s2.heap.objs.size = p at I3 W0 hf2 hps ⊢
  generalize hh3 : (s2.heap.push { cls := .type "list", data := .seq ([] : List Value).toArray }) = h3 at I3 hns₁ hsb₁ hps st3 ⊢
  generalize hH3 : upd H2 p (.lst []) = H3 at I3 W0
  have hold : ∀ b o, h3.get? b = some o → h₁.get? b = some o := fun b o e => hsb₁.extBut b o (Nat.ne_of_lt (Heap.lt_size e)) (Heap.get?_push_of_some _ e)
  have fH3 : ∀ b ∈ fp, H3 b = none := fun b hb => by
    rw [← hH3, upd_ne (Nat.ne_of_lt (hf2 b hb))]
    exact (f2 b hb).1
  have hclos : ∀ y c, (closOf X.env.cells scope.names).lookup y = some c → X.env.cells.lookup y = some c := fun y c e => closOf_sound e
  have hcell3 : ∀ y c, X.env.cells.lookup y = some c → c < h3.objs.size := fun y c e => by
    obtain ⟨v, o, ho, _⟩ := I3.cell y c e
    exact Heap.lt_size ho
  have hlt3 : X.env.locals < h3.objs.size := I3.lt
  have Yok : (cxComp X x ys scope h3.objs.size { s2 with heap := h3 } H3 fp).Ok := {
    mod := I.ok.mod
    kind := ok.kind
    glob := I.ok.glob
    blt := I.ok.blt
    above := Nat.le_refl _
    inj := fun y z c e1 e2 => I.ok.inj y z c (hclos _ _ e1) (hclos _ _ e2)
    has := fun y hk => by
      have hfr : (y, NameKind.free) ∈ scope.names := by
        have hm : ∃ k, (relabelN X.env.scope scope).lookup y = some k ∧ (k = .cell ∨ k = .free) := by
          rcases hk with hk | hk
          · exact ⟨_, hk, .inl rfl⟩
          · exact ⟨_, hk, .inr rfl⟩
        obtain ⟨k, hk, hkk⟩ := hm
        have hmem := mem_of_lookup hk
        unfold relabelN at hmem
        obtain ⟨⟨n, k0⟩, hn, en⟩ := List.mem_map.mp hmem
        dsimp only at en
        split at en
        · rename_i hc
          simp only [Bool.and_eq_true] at hc
          have hk0 : k0 = .free := by simpa using hc.1.1
          cases en
          rw [← hk0]
          exact hn
        · cases en
          rcases hkk with e | e
          · exact absurd e (ok.nocell _ hn)
          · rw [← e]
            exact hn
      obtain ⟨c, hc⟩ := hfree _ hfr rfl
      exact ⟨c, closOf_has hc hfr⟩
    cab := fun y c hf _ => by cases hf
    hd := I.ok.hd
    frames := I.ok.frames
    stk := .inl rfl
    exf := fun b hb => ⟨fun e => absurd (hf2 b hb) (by rw [e]; exact Nat.not_lt.mpr (Nat.le_of_lt hps)), fun y c e => (f2 b hb).2.2.2.2.1 y c (hclos _ _ e)⟩
    bs := fun b o e => ⟨(I3.bs b o e).1, (I3.bs b o e).2⟩
    bsz := Nat.le_trans I.ok.bsz I3.sz
    noex := fun b o e hb => by
      rcases (f2 b hb).2.2.2.1 with q | q
      · exact I.ok.noex b o e q
      · have h1 : b < X.base.objs.size := Heap.lt_size e
        exact absurd h1 (Nat.not_lt.mpr (Nat.le_trans I.ok.bsz q))
    exfs := fun b hb hm => by
      rcases List.mem_cons.mp (I3.stkSub b hm) with q | q
      · exact (f2 b hb).2.1 q
      · exact (f2 b hb).2.2.1 q
    funs := I3.stack
    frf := I3.stkFree }
  have IY : Inv (cxComp X x ys scope h3.objs.size { s2 with heap := h3 } H3 fp) [] (none :: caps fr σ) H3 { s2 with heap := h₁, toks := s2.toks + ([] : List (Str × Value)).length } := {
    ok := Yok
    os := rfl
    bare := I2.bare
    base := Un.kept hold
    loc := by
      refine ⟨_, hns₁, fun i y v hy hv hvis => ?_⟩
      cases i with
      | zero => cases hv
      | succ j =>
        have hy' : ys[j]? = some y := hy
        have hv' : (caps fr σ)[j]? = some (some v) := hv
        unfold caps at hv'
        rw [List.getElem?_map] at hv'
        obtain ⟨i0, hi0, hv0⟩ := Option.map_eq_some_iff.mp hv'
        have hz : (y, i0) ∈ ys.zip fr := by
          refine List.mem_iff_getElem?.mpr ⟨j, ?_⟩
          rw [List.getElem?_zip_eq_some]
          exact ⟨hy', hi0⟩
        obtain ⟨hn, hk, hk2⟩ := ok.sl _ hz
        have hσ : σ[i0]? = some (some v) := by
          cases e : σ[i0]? with
          | none => rw [e] at hv0; cases hv0
          | some o =>
            rw [e] at hv0
            rw [show o = some v from hv0]
        obtain ⟨m, hm, hl⟩ := I3.loc
        obtain ⟨u, ru, lk⟩ := hl i0 y v hn hσ (.inr (.inl hk))
        refine ⟨u, ru, .inr ⟨.inl hk2, ?_⟩⟩
        rcases lk with ⟨a, _⟩ | ⟨_, c, hc, hcell⟩
        · have a' : X.env.scope.names.lookup y = some .local := a
          have hk' : X.env.scope.names.lookup y = some .cell := hk
          rw [hk'] at a'
          cases a'
        · have hfr : (y, NameKind.free) ∈ scope.names := by
            have hmem := mem_of_lookup hk2
            unfold relabelN at hmem
            obtain ⟨⟨n, k0⟩, hn0, en⟩ := List.mem_map.mp hmem
            dsimp only at en
            split at en
            · rename_i hc0
              simp only [Bool.and_eq_true] at hc0
              have hk0 : k0 = .free := by simpa using hc0.1.1
              cases en
              rw [← hk0]
              exact hn0
            · cases en
              exact absurd rfl (ok.nocell _ hn0)
          exact ⟨c, closOf_has hc hfr, hcell.keeps hold⟩
    cell := fun y c e => by
      obtain ⟨v, hv⟩ := I3.cell y c (hclos _ _ e)
      exact ⟨v, hv.keeps hold⟩
    free := I3.fresh
    freeC := fun y c e => I3.freeC y c (hclos _ _ e)
    pin := fun q hq => by cases hq
    hok := I3.hok.kept hold
    len := by
      show (none :: caps fr σ).length = (x :: ys).length
      rw [List.length_cons, List.length_cons, ok.len]
      unfold caps
      rw [List.length_map] }
  have hxl : (cxComp X x ys scope h3.objs.size { s2 with heap := h3 } H3 fp).env.scope.names.lookup x = some .local := ok.xl
  have pgx : PG (cxComp X x ys scope h3.objs.size { s2 with heap := h3 } H3 fp) (.Name x px) (gName 0) := pg_name (i := 0) ok.nd rfl (.inl hxl) (.inr hxl)
  have pel := hE h3.objs.size { s2 with heap := h3 } H3 fp
  obtain ⟨W, ⟨m0, w0⟩, turn⟩ := W0
  have stat : ∀ {H' : Hp}, (∀ b ∈ fp, H' b = none) → ∀ b ∈ fp, FpOk (cxComp X x ys scope h3.objs.size { s2 with heap := h3 } H3 fp) [] H' b := fun hn b hb =>
    ⟨hn b hb, (Yok.exf b hb).1, Yok.exfs b hb, .inl hb, (Yok.exf b hb).2, fun q hq => by cases hq⟩
  have loop : codeAny (model X.prog X.w) X.A (.compLoop (.ListComp elt [⟨.Name x px, iter, [], 0⟩] scope pos) 0 (.ref it) (.ref p) (compEnvC scope (closOf X.env.cells scope.names) h3.objs.size X.env))
      (compPost (model X.prog X.w) X.A X.xe use Qv (.ref p) h3.objs.size) { s2 with heap := h₁, toks := s2.toks + ([] : List (Str × Value)).length } := by
    refine compLoop_list (fun n s' => ∃ i zs v0 H', Inv (cxComp X x ys scope h3.objs.size { s2 with heap := h3 } H3 fp) [] (v0 :: caps fr σ) H' s' ∧ tn i s'.heap ∧ (∀ b ∈ fp, H' b = none) ∧ W i n zs H') ?_ m0
      ⟨0, [], none, H3, IY, T.keep _ _ _ st3 fun b hb o e => hold b o e, fH3, w0⟩
    rintro n s5 ⟨i, zs, v0, H5, I5, st5, fr5, w5⟩
    obtain ⟨hacc, turn5⟩ := turn i n zs H5 w5
    rcases turn5 with ⟨stop, qn⟩ | ⟨go, hlen, step⟩
    · refine thn (T.done (cxComp X x ys scope h3.objs.size { s2 with heap := h3 } H3 fp) rfl rfl rfl hcalm i [] s5 _ H5 _ I5 (stat fr5) st5 stop) fun r s6 ⟨hr, I6⟩ => ?_
      subst hr
      obtain ⟨m6, n6, _⟩ := I6.loc
      refine fin p h3.objs.size H5 s6 m6 (I3.call' I6.os I6.base I6.hok I6.bare fun b hb => ⟨(f2 b hb).2.2.2.1, (f2 b hb).2.1, (f2 b hb).2.2.2.2.1, (f2 b hb).2.2.2.2.2⟩) n6 I6.free (Nat.ne_of_gt hlt3) I3.sz (fun y c e => Nat.ne_of_lt (hcell3 y c e)) (fun q hq => ?_) qn
      exact Nat.ne_of_lt (Heap.lt_size (I3.pin q hq).1)
    · refine thn (T.item (cxComp X x ys scope h3.objs.size { s2 with heap := h3 } H3 fp) rfl rfl rfl hcalm i [] s5 _ H5 _ I5 (stat fr5) st5 go) fun r s6 ⟨u, hr, h6⟩ => ?_
      subst hr
      refine thn h6 fun _ s7 ⟨xv, H7, I7, r7, y7, st7, fr7⟩ => ?_
      have I7' := I7.pinned (stat fr7) (T.obj _ _ st7)
      refine thn (pgx _ s7 _ H7 xv u (fun σ' H' => σ' = some xv :: caps fr σ ∧ H' = H7) I7' r7 ⟨rfl, rfl⟩) fun _ s8 ⟨σ8, H8, I8, e8, e8'⟩ => ?_
      subst e8 e8'
      refine thn (pel _ s8 _ H8 _ I8 (step xv H8 y7)) fun yv s9 ⟨v9, H9, I9, r9, hp9, m', hm', w9⟩ => ?_
      refine thn (mt_append _ s9 _ H9 (.ref p) [v9] (.ref p) [yv] (fun _ H' => H' = upd H9 p (.lst (zs ++ [v9]))) I9 rfl (.cons r9 .nil) ⟨p, zs, v9, rfl, rfl, hp9, hlen, rfl⟩) fun _ s10 ⟨_, H10, I10, _, e10⟩ => ?_
      subst e10
      refine ⟨m', hm', i + 1, zs ++ [v9], some xv, _, I10.unpinned, T.keep _ _ _ st7 fun b hb o e => (I10.pin (b, o) (List.mem_append_right _ (List.mem_append_right _ (mem_pinsAt hb e)))).1, fun b hb => ?_, w9⟩
      obtain ⟨o, e, d⟩ := T.obj _ _ st7 b hb
      exact (I10.pin (b, o) (List.mem_append_right _ (List.mem_append_right _ (mem_pinsAt hb e)))).2.1
  exact codeAny_compStart_list loop (T.self X.A 0 _ _ _ (T.keep _ _ _ st3 fun b hb o e => hold b o e) loop)
theorem pe_comp (hcalm : X.calm = true) (hi : PI X (.Name x px) iter wi) (hsc : X.env.scope = sc0) (hN : X.N = N0) (ok : CompOk sc0 N0 scope x ys fr)
    (hE : ∀ C s H ex, PE (cxComp X x ys scope C s H ex) elt te) (hs : ∀ v, foldedSetIterable iter X.env v = pure v := by intro _; rfl) :
    PE X (.ListComp elt [⟨.Name x px, iter, [], 0⟩] scope pos) (tComp wi fr te) := by
  intro pins s σ H Q I h
  rw [eval_ListComp]
  refine comp_core (use := none) (Qv := EP X pins σ Q) (Q := Q) hcalm hi hsc hN ok hE I h hs fun p C H' s' m I' hn h0 h1 h2 h3 h4 q => ?_
  refine ⟨m, hn, fun h' sb => ⟨.ref p, H', I'.turned (t' := s'.toks) (fun b o hb e => sb.extBut b o hb e) h0 (Ne.symm (Ne.symm h1)) (.inr h2) h3 h4, rfl, q⟩⟩
theorem ps_setC {i : Nat} {y : Str} {py spos : Pos} (hcalm : X.calm = true) (hnd : X.N.Nodup) (hiN : X.N[i]? = some y) (hy : Loc X.env.scope y) (hi : PI X (.Name x px) iter wi) (hsc : X.env.scope = sc0) (hN : X.N = N0) (ok : CompOk sc0 N0 scope x ys fr)
    (hE : ∀ C s H ex, PE (cxComp X x ys scope C s H ex) elt te) (hsw : swapsWith (.ListComp elt [⟨.Name x px, iter, [], 0⟩] scope pos) (some (.Name y py)) spos.line X.env = pure true := by rfl)
    (hs : ∀ v, foldedSetIterable iter X.env v = pure v := by intro _; rfl) (hf : X.fn y = true ∨ X.env.scope.names.lookup y = some .local := by first | exact .inl rfl | exact .inr rfl | assumption) :
    PS X (.Assign [.Name y py] (.ListComp elt [⟨.Name x px, iter, [], 0⟩] scope pos) spos) (tAsg (tComp wi fr te) (gName i)) := by
  intro pins s σ H D I h
  rw [exec_Assign_Name_used _ _ _ _ hsw]
  refine wpAny_bind (wpAny_standAt (wpAny_bind ?_))
  show wpAny _ X.A (do let _ ← comprehension (.ListComp elt [⟨.Name x px, iter, [], 0⟩] scope pos) scope X.env _ (newList []) false (eval iter X.env) (some (assign (.Name y py) X.env))) _ _ s
  refine wpAny_bind (thn (comp_core (use := some (assign (.Name y py) X.env)) (Qv := fun _ s' => SP X pins D .next s') (Q := fun v H' => D.nx (σ.set i (some v)) H') hcalm hi hsc hN ok hE I h hs fun p C H' s' m I' hn h0 h1 h2 h3 h4 q => ?_) fun _ s' hq => wpAny_pure (wpAny_pure hq))
  show wpAny _ X.A (assign (.Name y py) X.env (.ref p)) _ _ s'
  refine wpAny_assign_Name (store_ok2 (v := .ref p) I' hnd hiN hy rfl (fun s'' I'' ⟨a, sb, ha⟩ => ?_) hf)
  have hCa : C ≠ a := by
    rcases ha with e | e
    · rw [e]; exact h1
    · exact (h3 y a e).symm
  refine ⟨m, hn.sameBut sb hCa, fun h' sb' => ⟨_, H', I''.turned (t' := s''.toks) (fun b o hb e => sb'.extBut b o hb e) h0 h1 (.inr h2) h3 h4, q⟩⟩
theorem comp_walk {n : Nat} {J : It} {H1 : Hp} {Q : VK} {R : Nat → V → Prop} (hn : n ≤ 1000) (hgo : ∀ i H, i < n → J.go i H) (hstop : ∀ H, J.stop n H) (hy : ∀ i H v H', J.yld i H v H' → H' = H ∧ R i v)
    (Pv : Addr → Nat → List V → Hp → Prop) (h0 : ∀ p, H1 p = none → Pv p 0 [] (upd H1 p (.lst []))) (hl : ∀ p i zs H, Pv p i zs H → H p = some (.lst zs) ∧ zs.length = i)
    (hs : ∀ p i zs H v (k : VK), H1 p = none → i < n → R i v → Pv p i zs H → (∀ u H2, H2 p = some (.lst zs) → Pv p (i + 1) (zs ++ [u]) (upd H2 p (.lst (zs ++ [u]))) → k u H2) → te (some v :: caps fr σ) H k)
    (hd : ∀ p zs H, H1 p = none → Pv p n zs H → Q (.ref p) H) : tCompW fr te σ J H1 Q := by
  intro p hp
  refine ⟨fun i m zs H => i ≤ n ∧ m = n - i ∧ Pv p i zs H, ⟨n, Nat.zero_le _, by simp, h0 p hp⟩, ?_⟩
  rintro i m zs H ⟨hi, hm, q⟩
  obtain ⟨hp', hz⟩ := hl p i zs H q
  refine ⟨hp', ?_⟩
  by_cases e : i = n
  · subst e
    exact .inl ⟨hstop H, hd p zs H hp q⟩
  · have hlt : i < n := by lia
    refine .inr ⟨hgo i H hlt, small1000 (by lia), fun v H' hv => ?_⟩
    obtain ⟨rfl, r⟩ := hy i H v H' hv
    refine hs p i zs H' v _ hp hlt r q fun u H2 a b => ?_
    exact ⟨a, n - (i + 1), by lia, by lia, rfl, b⟩
theorem itr_go {lo : Int} {n : Nat} : ∀ i H, i < n → (Itr lo n).go i H := fun _ _ h => h
theorem itr_stop {lo : Int} {n : Nat} : ∀ H, (Itr lo n).stop n H := fun _ => Nat.le_refl n
theorem itr_yld {lo : Int} {n : Nat} : ∀ i H v H', (Itr lo n).yld i H v H' → H' = H ∧ v = .int (lo + i) := fun _ _ _ _ h => h
end
end L2
namespace L2
open PySem PySem.Spec PyProof.Rows
noncomputable def notStar : Expr → Bool
  | .Starred _ _ => false
  | _ => true
theorem starEach_cons {e : Expr} {es : List Expr} {env : Env} (h : notStar e = true) : starEach (e :: es) env = (false, eval e env) :: starEach es env := by
  cases e <;> first | rfl | cases h
theorem pac {X : Cx} {e : Expr} {es : List Expr} {te : TE} {t : TA} (ha : PE X e te) (hr : PA X es t) (h : notStar e = true := by rfl) : PA X (e :: es) (tCons te t) := pa_cons ha hr (starEach_cons h)
noncomputable def constV : Const → Option V
  | .str x => some (.str x)
  | .int i => some (.int i)
  | .bool b => some (.bl b)
  | .none => some .non
  | _ => none
noncomputable def constsV : List Expr → Option (List V)
  | [] => some []
  | .Constant c _ _ :: r => (match constV c, constsV r with | some v, some vs => some (v :: vs) | _, _ => none)
  | _ :: _ => none
theorem pe_const {X : Cx} {c : Const} {j : Nat} {pos : Pos} {v : V} (h : constV c = some v) : PE X (.Constant c j pos) (tC v) := by
  cases c with
  | str x => cases h; exact pe_str
  | int i => cases h; exact pe_int
  | bool b => cases h; exact pe_bl
  | none => cases h; exact pe_non
  | _ => cases h
theorem pa_consts {X : Cx} : ∀ {es : List Expr} {vs : List V}, constsV es = some vs → PA X es (fun _ H Q => Q vs H)
  | [], vs, h => by
    cases h
    exact pa_nil
  | e :: r, vs, h => by
    cases e with
    | Constant c j pos =>
      simp only [constsV] at h
      cases hc : constV c with
      | none => rw [hc] at h; cases h
      | some v =>
        cases hr : constsV r with
        | none => rw [hc, hr] at h; cases h
        | some ws =>
          rw [hc, hr] at h
          cases h
          exact pac (pe_const hc) (pa_consts hr)
    | _ => cases h
end L2
namespace L2
open PySem PySem.Spec PyProof.Rows
theorem ps_setL {X : Cx} {i : Nat} {x : Str} {es : List Expr} {vs : List V} {pos p pos' : Pos} (hN : X.N.Nodup) (hi : X.N[i]? = some x) (hx : Loc X.env.scope x) (hf : X.fn x = true ∨ X.env.scope.names.lookup x = some .local) (h : constsV es = some vs) :
    PS X (.Assign [.Name x pos'] (.List es p) pos) (tAsg (tLst (fun _ H Q => Q vs H)) (gName i)) :=
  ps_set hN hi hx (pe_lst (pa_consts h)) rfl hf
end L2
namespace L2
open PySem PySem.Spec PyProof.Rows
end L2
namespace HT
open PySem PyProof.Rows
section
variable {prog : Program} {w : World} {A : Around} {s : Shared} {E : Value → Shared → Prop}
end
end HT
namespace L2
open PySem PySem.Spec PyProof.Rows
section
variable {X : Cx} {e k : Expr} {te tk : TE} {pos p2 : Pos}
end
end L2
namespace L2
open PySem PySem.Spec PyProof.Rows
section
variable {X : Cx}
noncomputable def sumI : List Int → Int
  | [] => 0
  | n :: r => n + sumI r
end
end L2
namespace HT
open PySem PyProof.Rows
section
variable {prog : Program} {w : World} {A : Around} {s : Shared} {E : Value → Shared → Prop} {d j : Addr} {ks : List Value} {i ep : Nat}
noncomputable def DEs (h : Heap) (d : Addr) (ks : List Value) (ep : Nat) : Prop := ∃ o es, h.get? d = some o ∧ o.ExactDict ∧ o.data = .dict es ep ∧ es.toList.map (·.key) = ks
theorem DEs.type (m : DEs s.heap d ks ep) : s.TypeIs (.ref d) "dict" := by
  obtain ⟨o, _, ho, hc, _⟩ := m
  exact ⟨o, ho, hc.1⟩
theorem DEs.keeps {h h' : Heap} (m : DEs h d ks ep) (k : ∀ o, h.get? d = some o → h'.get? d = some o) : DEs h' d ks ep := by
  obtain ⟨o, es, ho, r⟩ := m
  exact ⟨o, es, k o ho, r⟩
theorem DEs.lt {h : Heap} (m : DEs h d ks ep) : d < h.objs.size := by
  obtain ⟨o, es, ho, _⟩ := m
  exact Heap.lt_size ho
theorem size_keys {es : Array DictEntry} (e : es.toList.map (·.key) = ks) : es.size = ks.length := by
  rw [← e, List.length_map, Array.length_toList]
theorem iter_des {Q : Value → Shared → Prop} (lo : (d == sysModules) = false) (m : DEs s.heap d ks ep)
    (q : Q (.ref s.heap.objs.size) { s with heap := s.heap.push { cls := .type "dict_keyiterator", data := .fields #[.ref d, .int 0 0, .int ks.length 0, .int ep 0] } }) : wpAny (model prog w) A (pyIter (.ref d)) Q E s := by
  have ty := m.type
  obtain ⟨o, es, ho, hc, hdat, hk⟩ := m
  refine wpAny_pyIter_slot ty PySem.F.slot_dict_iter (wpAny_call_entry PySem.F.slot_dict_iter ty PySem.F.entry_dict_iter ?_ (PySem.F.args_dict_iter_1 _))
  unfold Builtin.«dict.__iter__» Builtin.Dict.dictSlotNone
  refine wpAny_bind (wpAny_bind (wpAny_notOrdered_dict ty ?_))
  refine wpAny_pure (show wpAny _ _ (Builtin.Dict.showsAll d >>= _) _ _ s from ?_)
  unfold Builtin.Dict.showsAll
  rw [if_neg (by rw [lo]; exact Bool.false_ne_true)]
  refine wpAny_bind (wpAny_pure (wpAny_bind (wpAny_dictEntries ho hdat (wpAny_bind (wpAny_dictEpoch ho hdat ?_)))))
  refine wpAny_bind (wpAny_newObj_type (wpAny_pure ⟨_, rfl, "dict_keyiterator", _, ⟨_, Heap.get?_push_size _ rfl, rfl⟩, PySem.F.slot_dict_keyiterator_next.lookup, ?_⟩))
  simpa [rawInt, size_keys hk] using q
theorem next_des {x : Value} {Q : Option Value → Shared → Prop} (st : s.heap.IsKeyIter j d i ks.length ep) (m : DEs s.heap d ks ep) (hx : ks[i]? = some x)
    (q : ∀ h', h'.IsKeyIter j d (i + 1) ks.length ep → Heap.SameBut j s.heap h' → Q (some x) { s with heap := h' }) : wpAny (model prog w) A (pyNext (.ref j)) Q E s := by
  have ty := st.typeIs
  obtain ⟨o, ho, hc, hd⟩ := id st
  obtain ⟨od, es, hod, hcd, hdd, hk⟩ := m
  have hz := size_keys hk
  have hlt : i < ks.length := (List.getElem?_eq_some_iff.mp hx).1
  have hes : i < es.size := by lia
  have hkey : es[i].key = x := by
    have e1 : (es.toList.map (·.key))[i]? = some x := by rw [hk]; exact hx
    rw [List.getElem?_map, Array.getElem?_toList, Array.getElem?_eq_getElem hes] at e1
    exact Option.some.inj e1
  unfold pyNext
  refine wpAny_bind (wpAny_attempt (wpAny_callSpecial?_slot (name := Str.ofString "__next__") ty PySem.F.slot_dict_keyiterator_next (wpAny_call_entry PySem.F.slot_dict_keyiterator_next ty PySem.F.entry_dict_keyiterator_next ?_ (PySem.F.args_dict_keyiterator_next_1 _))))
  refine wpAny_bind (wpAny_pure (wpAny_bind (wpAny_bind ?_)))
  first | refine wpAny_bind (wpAny_typeNameOfWhole_keyiter ty (wpAny_pure (wpAny_bind (wpAny_fieldsOf ho hd ?_)))) | refine wpAny_bind (wpAny_typeNameOf_keyiter ty (wpAny_pure (wpAny_bind (wpAny_fieldsOf ho hd ?_))))
  have own : Builtin.Dict_items.ownsTuple "dict_keyiterator" = false := by decide
  simp only [own, Bool.false_eq_true, if_false]
  refine (show wpAny _ _ (if (Value.ref d == Value.none) = true then _ else _) _ _ s from ?_)
  rw [if_neg fun b0 : (Value.ref d == Value.none) = true => Bool.false_ne_true b0]
  refine wpAny_bind (wpAny_pure (wpAny_bind (wpAny_dictEntries hod hdd ?_)))
  rw [if_neg (by rw [hz]; simp)]
  refine wpAny_bind (wpAny_pure (wpAny_bind (wpAny_dictEpoch hod hdd ?_)))
  rw [if_neg (by simp)]
  refine wpAny_pure ?_
  simp only [show ¬ ((i : Int) < 0) from by lia, if_false, Int.toNat_natCast, Array.getElem?_eq_getElem hes]
  refine wpAny_bind ?_
  first | refine wpAny_bind (wpAny_typeNameOfWhole_keyiter ty (wpAny_pure (wpAny_bind (wpAny_isOneOf_keyiter ty ?_)))) | refine wpAny_bind (wpAny_typeNameOf_keyiter ty (wpAny_pure (wpAny_bind (wpAny_isOneOf_keyiter ty ?_))))
  refine (show wpAny _ _ (setField (.ref j) 1 (rawInt ((i : Int) + 1)) >>= _) _ _ s from ?_)
  refine wpAny_bind (wpAny_setField ho hd (by simp) ?_)
  have st' : (s.heap.update j (Obj.mapFields (·.setIfInBounds 1 (rawInt ((i : Int) + 1))))).IsKeyIter j d (i + 1) ks.length ep := by
    refine ⟨_, Heap.get?_update_self _ ho (Obj.isFreed_of_fields (Obj.data_mapFields hd _)), (Obj.cls_mapFields ..).trans hc, ?_⟩
    rw [Obj.data_mapFields hd]; simp [rawInt]
  refine wpAny_bind (wpAny_holding (wpAny_bind (wpAny_isOneOf_keyiter (s := { s with heap := s.heap.update j (Obj.mapFields (·.setIfInBounds 1 (rawInt ((i : Int) + 1)))) }) st'.typeIs ?_)))
  refine (show wpAny _ _ (pure es[i].key) _ _ _ from ?_)
  rw [hkey]
  exact wpAny_pure (wpAny_pure ⟨_, rfl, wpAny_pure (q _ st' (Heap.SameBut.update ..))⟩)
theorem end_des {Q : Option Value → Shared → Prop} (hh : A.handled = none) (st : s.heap.IsKeyIter j d i ks.length ep) (m : DEs s.heap d ks ep) (hx : ks.length ≤ i)
    (q : ∀ h', Heap.ExtBut j s.heap h' → Q none { s with heap := h' }) : wpAny (model prog w) A (pyNext (.ref j)) Q E s := by
  have ty := st.typeIs
  obtain ⟨o, ho, hc, hd⟩ := id st
  obtain ⟨od, es, hod, hcd, hdd, hk⟩ := m
  have hz := size_keys hk
  unfold pyNext
  refine wpAny_bind (wpAny_attempt (wpAny_callSpecial?_slot (name := Str.ofString "__next__") ty PySem.F.slot_dict_keyiterator_next (wpAny_call_entry PySem.F.slot_dict_keyiterator_next ty PySem.F.entry_dict_keyiterator_next ?_ (PySem.F.args_dict_keyiterator_next_1 _))))
  refine wpAny_bind (wpAny_pure (wpAny_bind (wpAny_bind ?_)))
  first | refine wpAny_bind (wpAny_typeNameOfWhole_keyiter ty (wpAny_pure (wpAny_bind (wpAny_fieldsOf ho hd ?_)))) | refine wpAny_bind (wpAny_typeNameOf_keyiter ty (wpAny_pure (wpAny_bind (wpAny_fieldsOf ho hd ?_))))
  have own : Builtin.Dict_items.ownsTuple "dict_keyiterator" = false := by decide
  simp only [own, Bool.false_eq_true, if_false]
  refine (show wpAny _ _ (if (Value.ref d == Value.none) = true then _ else _) _ _ s from ?_)
  rw [if_neg fun b0 : (Value.ref d == Value.none) = true => Bool.false_ne_true b0]
  refine wpAny_bind (wpAny_pure (wpAny_bind (wpAny_dictEntries hod hdd ?_)))
  rw [if_neg (by rw [hz]; simp)]
  refine wpAny_bind (wpAny_pure (wpAny_bind (wpAny_dictEpoch hod hdd ?_)))
  rw [if_neg (by simp)]
  refine wpAny_pure ?_
  have hge : es.size ≤ i := by lia
  simp only [show ¬ ((i : Int) < 0) from by lia, if_false, Int.toNat_natCast, Array.getElem?_eq_none hge]
  refine wpAny_bind ?_
  first | refine wpAny_bind (wpAny_typeNameOfWhole_keyiter ty (wpAny_pure ?_)) | refine wpAny_bind (wpAny_typeNameOf_keyiter ty (wpAny_pure ?_))
  refine (show wpAny _ _ (setField (.ref j) 0 .none >>= _) _ _ s from wpAny_bind (wpAny_setField ho hd (by simp) ?_))
  refine (show wpAny _ _ (newExc (.type "StopIteration") [] >>= _) _ _ _ from wpAny_bind ?_)
  simp only [newExc, newTuple]
  refine wpAny_bind (wpAny_newObj_type (wpAny_bind (m := firstArgMember _ _) (wpAny_of_eq (a := Value.none) (by first | rfl | (simp only [firstArgMember]; rfl)) (wpAny_newObj_type ?_ (by size_fits)))) (by size_fits))
  simp only [raiseNew]
  refine wpAny_bind (wpAny_handled ?_)
  rw [show A.in1.handled = none from hh]
  refine (wpAny_bind (wpAny_pure (wpAny_throw (?_))))
  refine wpAny_bind (wpAny_isInstance (T := "StopIteration") (b := true) ⟨_, Heap.get?_push_size _ rfl, rfl⟩ isSubtype_stop (wpAny_pure (q _ ?_)))
  exact ((Heap.SameBut.update ..).extBut.push _).push _
theorem walks_des (hh : A.handled = none) (hne : d ≠ j) : Walks prog w A j [j, d] [j] ks.length (fun i v => ks[i]? = some v) (fun i h => h.IsKeyIter j d i ks.length ep ∧ DEs h d ks ep) where
  sub := fun b hb => by rw [List.mem_singleton.mp hb]; exact List.mem_cons_self
  frame := fun _ _ _ st k => ⟨st.1.at fun o e => k j (by simp) o e, st.2.keeps fun o e => k d (by simp) o e⟩
  item := fun i s Q E hi st hQ => by
    have hx : ks[i]? = some ks[i] := List.getElem?_eq_getElem hi
    refine next_des st.1 st.2 hx fun h' st' sb => ?_
    exact hQ _ h' s.toks hx ⟨st', st.2.keeps fun o e => sb.extBut d o hne e⟩ fun b o hb e => sb.extBut b o (fun z => hb (by rw [z]; exact List.mem_cons_self)) e
  done := fun s Q E st hQ => end_des hh st.1 st.2 (Nat.le_refl _) fun h' eb => hQ h' s.toks fun b o hb e => eb b o (fun z => hb (by rw [z]; exact List.mem_cons_self)) e
  self := fun _ _ _ _ st hQ => wpAny_pyIter_keyiter st.1 hQ
theorem src_des (lo : (d == sysModules) = false) : PySem.W.KdlSrc prog w "dict" d d ks.length (fun i v => ks[i]? = some v) (fun h => DEs h d ks ep) where
  type := fun _ m => m.type
  there := fun _ m => ⟨m.lt, m.lt⟩
  keep := fun _ _ m k => m.keeps fun o e => k d (.inl rfl) o e
  notList := by decide
  notTuple := by decide
  hint := fun _ _ _ _ m q => PySem.W.kdl_hint_dict m.type q
  iter := fun _ _ hh m => ⟨_, _, fun _ _ q => iter_des lo m q, walks_des hh (Nat.ne_of_lt m.lt), ⟨⟨_, Heap.get?_push_size _ rfl, rfl, rfl⟩, m.keeps fun o e => Heap.get?_push_of_some _ e⟩⟩
end
end HT
namespace L2
open PySem PySem.Spec PyProof.Rows
section
variable {X : Cx}
noncomputable def KsOf (H : Hp) : List V → List (List Key) → Prop := Paired fun y ks => ∃ b, y = .ref b ∧ H b = some (.tup (ks.map kV))
theorem KsOf.mono {H H' : Hp} {ys : List V} {kss : List (List Key)} (h : KsOf H ys kss) (t : ∀ b xs, H b = some (.tup xs) → H' b = some (.tup xs)) : KsOf H' ys kss :=
  Paired.mapP h fun _ _ ⟨b, e, hb⟩ => ⟨b, e, t _ _ hb⟩
theorem ks_of_kt {H : Hp} {kvs : List (List Key × V)} {xs : List (List Key × Addr × Value)} (r : KT H kvs xs) : KsOf H (xs.map fun q => V.ref q.2.1) (kvs.map (·.1)) := by
  induction r with
  | nil => exact .nil
  | cons h _ ih => exact .cons ⟨_, rfl, h.2.1⟩ ih
theorem call_listD (hc : X.calm = true) : CallR X (.type "list") (fun xs H Q => ∃ a kvs, xs = [.ref a] ∧ H a = some (.dT kvs) ∧ ∀ p ys, H p = none → KsOf H ys (kvs.map (·.1)) → Q (.ref p) (upd H p (.lst ys))) := by
  intro pins s σ H xs us Q I r h
  obtain ⟨a, kvs, rfl, ha, q⟩ := h
  obtain ⟨u, rfl, ru⟩ := vals1 r
  cases ru
  obtain ⟨hz, lo, ys, kt, o, es, ep, h1, h2, h3, h4, h5⟩ := (show ObjOk X.prog X.w H s.heap a (.dT kvs) from I.hok a _ ha)
  have hm : HT.DEs s.heap a (ys.map fun q => Value.ref q.2.1) ep := by
    refine ⟨o, es, h1, h2, h3, ?_⟩
    rw [h4, List.map_map]
    rfl
  have hl : ys.length = kvs.length := (Paired.length kt).symm
  refine PySem.W.kdl_call (HT.src_des lo) (I.ok.hd hc) hm (by rw [List.length_map]; lia) fun h' tk acc c' kp e hi => ?_
  obtain ⟨i1, i2⟩ := hi
  have hacc : acc.toList = ys.map fun q => Value.ref q.2.1 := by
    refine List.ext_getElem? fun i => ?_
    rw [Array.getElem?_toList]
    cases hv : acc[i]? with
    | some v => exact (i2 i v hv).symm
    | none =>
      have : acc.size ≤ i := Array.getElem?_eq_none_iff.mp hv
      exact (List.getElem?_eq_none (by rw [← i1]; exact this)).symm
  have rv : Vals (ys.map fun q => V.ref q.2.1) (ys.map fun q => Value.ref q.2.1) := by
    clear kt h4 h5 hl i1 i2 hacc hm
    induction ys with
    | nil => exact .nil
    | cons y r ih => exact .cons rfl ih
  refine ⟨.ref s.heap.objs.size, _, I.laid (t' := tk) (o := .lst (ys.map fun q => V.ref q.2.1)) kp (Nat.le_refl _) ?_, rfl, q _ _ (I.hok.fresh (Nat.le_refl _)) (ks_of_kt kt)⟩
  refine ⟨by rw [List.length_map]; lia, _, c', rv, ?_⟩
  rw [← hacc, Array.toArray_toList]
  exact e
end
end L2
namespace L2
open PySem PySem.Spec PyProof.Rows
section
variable {X : Cx}
instance decKs (ks : List Key) (kss : List (List Key)) : Decidable (ks ∈ kss) := decidable_of_iff (kss.any (fun l => decide (l = ks)) = true) ⟨fun h => by
    obtain ⟨x, hx, e⟩ := List.any_eq_true.mp h
    rw [← of_decide_eq_true e]
    exact hx, fun h => List.any_eq_true.mpr ⟨ks, h, decide_eq_true rfl⟩⟩
theorem kit_two (K : PySem.W.Frag) (t : String) (ht : t ∈ ["NoneType", "bool", "int", "str", "list", "tuple", "dict"]) :
    PySem.W.kitAny K (.type t) [.type "tuple", .type "list"] = some (t == "tuple" || t == "list") := by
  simp only [List.mem_cons, List.not_mem_nil, or_false] at ht
  rcases ht with rfl | rfl | rfl | rfl | rfl | rfl | rfl <;> first | rfl | (with_unfolding_all rfl) | (with_unfolding_all decide)
inductive TL (H : Hp) : V → Bool → Prop where
  | str (z : Str) : TL H (.str z) false
  | int (i : Int) : TL H (.int i) false
  | tup {a : Addr} {xs : List V} : H a = some (.tup xs) → TL H (.ref a) true
  | lst {a : Addr} {xs : List V} : H a = some (.lst xs) → TL H (.ref a) true
theorem call_isTL : CallR X (.builtin "isinstance") (fun xs H Q => ∃ x p b, xs = [x, .ref p] ∧ H p = some (.tup [.ty "tuple", .ty "list"]) ∧ TL H x b ∧ Q (.bl b) H) := by
  intro pins s σ H xs us Q I r h
  obtain ⟨x, p, b, rfl, hp, ty, q⟩ := h
  obtain ⟨u, w', rfl, rx, rp⟩ := vals2 r
  cases (show w' = Value.ref p from rp)
  obtain ⟨_, its, rv, o, h1, h2, n, h3⟩ := (show ObjOk X.prog X.w H s.heap p (.tup [.ty "tuple", .ty "list"]) from I.hok p _ hp)
  obtain ⟨u1, u2, rfl, r1, r2⟩ := vals2 rv
  cases (show u1 = Value.type "tuple" from r1)
  cases (show u2 = Value.type "list" from r2)
  obtain ⟨c, d, dt, sl⟩ := o
  simp only at h2 h3
  subst h2 h3
  have k : ∀ tk, EP X pins σ Q (.bool b) { s with toks := tk } := fun tk => ⟨.bl b, H, I.tok tk, rfl, q⟩
  cases ty with
  | int i =>
    obtain ⟨t, e⟩ := (show ∃ t, u = Value.int i t from rx)
    cases e
    exact PySem.W.kia_tup PySem.W.kitx_int I.kIn True.intro h1 (kit_two _ "int" (by simp)) (fun z => nomatch z) k
  | str y =>
    obtain ⟨t, e⟩ := (show ∃ t, u = Value.str y t from rx)
    cases e
    exact PySem.W.kia_tup PySem.W.kitx_str I.kIn True.intro h1 (kit_two _ "str" (by simp)) (fun z => nomatch z) k
  | @lst a xs ea =>
    cases (show u = Value.ref a from rx)
    obtain ⟨_, _, _, _, h4⟩ := (show ObjOk X.prog X.w H s.heap a (.lst xs) from I.hok a _ ea)
    exact PySem.W.kia_tup PySem.W.kitx_list I.kIn ⟨_, h4, rfl⟩ h1 (kit_two _ "list" (by simp)) (fun z => nomatch z) k
  | @tup a xs ea =>
    cases (show u = Value.ref a from rx)
    obtain ⟨_, _, _, o2, h4, h5, _⟩ := (show ObjOk X.prog X.w H s.heap a (.tup xs) from I.hok a _ ea)
    exact PySem.W.kia_tup PySem.W.kitx_tuple I.kIn ⟨o2, h4, h5⟩ h1 (kit_two _ "tuple" (by simp)) (fun z => nomatch z) k
end
end L2
namespace HT
open PySem PyProof.Rows
section
variable {prog : Program} {w : World} {A : Around} {s : Shared} {E : Value → Shared → Prop} {j t : Addr} {i : Nat} {items : Array Value}
theorem draw_tup {x : Value} {Q : Value → Shared → Prop} (st : s.heap.IsTupleIter j t i) (ht : s.heap.IsTuple t items) (hx : items[i]? = some x)
    (q : ∀ h', h'.IsTupleIter j t (i + 1) → Heap.SameBut j s.heap h' → Q x { s with heap := h' }) : wpAny (model prog w) A (Builtin.SmallTypes.nextOf (.ref j)) Q E s := by
  have ty := st.typeIs
  obtain ⟨o, ho, hc, hd⟩ := id st
  obtain ⟨ol, hol, _, nl, hdl⟩ := ht
  unfold Builtin.SmallTypes.nextOf
  refine wpAny_bind (wpAny_callSpecial?_slot (name := Str.ofString "__next__") ty PySem.F.slot_tuple_iterator_next (wpAny_call_entry PySem.F.slot_tuple_iterator_next ty PySem.F.entry_tuple_iterator_next ?_ (PySem.F.args_tuple_iterator_next_1 _)))
  refine (show wpAny _ _ (field (.ref j) 0 >>= _) _ _ s from wpAny_bind (wpAny_field ho hd (x := .ref t) rfl ?_))
  refine (show wpAny _ _ (if (Value.ref t == Value.none) = true then _ else _) _ _ s from ?_)
  rw [if_neg fun b0 : (Value.ref t == Value.none) = true => Bool.false_ne_true b0]
  refine (show wpAny _ _ (field (.ref j) 1 >>= _) _ _ s from wpAny_bind (wpAny_field ho hd (x := .int i 0) rfl ?_))
  refine (show wpAny _ _ (seqItems? (.ref t) >>= _) _ _ s from wpAny_bind (wpAny_seqItems hol hdl ?_))
  simp only [Int.toNat_natCast, hx]
  refine wpAny_bind (wpAny_setField ho hd (by simp) (wpAny_pure ⟨x, rfl, wpAny_pure (q _ ⟨_, Heap.get?_update_self _ ho (Obj.isFreed_of_fields (Obj.data_mapFields hd _)), (Obj.cls_mapFields ..).trans hc, ?_⟩ (Heap.SameBut.update ..))⟩))
  rw [Obj.data_mapFields hd]; simp [rawInt]
theorem draw_tupEnd {Q : Value → Shared → Prop} (hh : A.handled = none) (st : s.heap.IsTupleIter j t i) (ht : s.heap.IsTuple t items) (hx : items[i]? = none)
    (q : ∀ h' e, Heap.ExtBut j s.heap h' → (∃ o, h'.get? e = some o ∧ o.cls = .type "StopIteration") → E (.ref e) { s with heap := h' }) : wpAny (model prog w) A (Builtin.SmallTypes.nextOf (.ref j)) Q E s := by
  have ty := st.typeIs
  obtain ⟨o, ho, hc, hd⟩ := id st
  obtain ⟨ol, hol, _, nl, hdl⟩ := ht
  unfold Builtin.SmallTypes.nextOf
  refine wpAny_bind (wpAny_callSpecial?_slot (name := Str.ofString "__next__") ty PySem.F.slot_tuple_iterator_next (wpAny_call_entry PySem.F.slot_tuple_iterator_next ty PySem.F.entry_tuple_iterator_next ?_ (PySem.F.args_tuple_iterator_next_1 _)))
  refine (show wpAny _ _ (field (.ref j) 0 >>= _) _ _ s from wpAny_bind (wpAny_field ho hd (x := .ref t) rfl ?_))
  refine (show wpAny _ _ (if (Value.ref t == Value.none) = true then _ else _) _ _ s from ?_)
  rw [if_neg fun b0 : (Value.ref t == Value.none) = true => Bool.false_ne_true b0]
  refine (show wpAny _ _ (field (.ref j) 1 >>= _) _ _ s from wpAny_bind (wpAny_field ho hd (x := .int i 0) rfl ?_))
  refine (show wpAny _ _ (seqItems? (.ref t) >>= _) _ _ s from wpAny_bind (wpAny_seqItems hol hdl ?_))
  simp only [Int.toNat_natCast, hx]
  refine wpAny_bind (wpAny_rule (wpAny_bind (wpAny_setField ho hd (by simp) (show wpAny _ _ (newExc (.type "StopIteration") [] >>= _) _ _ _ from wpAny_bind ?_))))
  simp only [newExc, newTuple]
  refine wpAny_bind (wpAny_newObj_type (wpAny_bind (m := firstArgMember _ _) (wpAny_of_eq (a := Value.none) (by first | rfl | (simp only [firstArgMember]; rfl)) (wpAny_newObj_type ?_ (by size_fits)))) (by size_fits))
  simp only [raiseNew]
  refine wpAny_bind (wpAny_handled ?_)
  rw [show A.in1.handled = none from hh]
  exact wpAny_bind (wpAny_pure (wpAny_throw (q _ _ (((Heap.SameBut.update ..).extBut.push _).push _) ⟨_, Heap.get?_push_size _ rfl, rfl⟩)))
noncomputable def SIter (c : Bool) (h : Heap) (j l : Addr) (i : Nat) : Prop := if c = true then h.IsTupleIter j l i else h.IsListIter j l i
noncomputable def SSeq (c : Bool) (h : Heap) (l : Addr) (items : Array Value) : Prop := if c = true then h.IsTuple l items else h.IsList l items
theorem SIter.obj {c : Bool} {h : Heap} {l : Addr} (x : SIter c h j l i) : ∃ o, h.get? j = some o ∧ ∀ v, o.data ≠ .cell v := by
  cases c with
  | true => obtain ⟨o, e, _, d⟩ := (show h.IsTupleIter j l i from x); exact ⟨o, e, fun v z => by rw [d] at z; cases z⟩
  | false => obtain ⟨o, e, _, d⟩ := (show h.IsListIter j l i from x); exact ⟨o, e, fun v z => by rw [d] at z; cases z⟩
theorem SIter.at {c : Bool} {h h' : Heap} {l : Addr} (x : SIter c h j l i) (k : ∀ o, h.get? j = some o → h'.get? j = some o) : SIter c h' j l i := by
  cases c with
  | true => obtain ⟨o, e, r⟩ := (show h.IsTupleIter j l i from x); exact (show h'.IsTupleIter j l i from ⟨o, k o e, r⟩)
  | false => obtain ⟨o, e, r⟩ := (show h.IsListIter j l i from x); exact (show h'.IsListIter j l i from ⟨o, k o e, r⟩)
theorem SSeq.at {c : Bool} {h h' : Heap} {l : Addr} (x : SSeq c h l items) (k : ∀ o, h.get? l = some o → h'.get? l = some o) : SSeq c h' l items := by
  cases c with
  | true => obtain ⟨o, e, r⟩ := (show h.IsTuple l items from x); exact (show h'.IsTuple l items from ⟨o, k o e, r⟩)
  | false => obtain ⟨o, e, r⟩ := (show h.IsList l items from x); exact (show h'.IsList l items from ⟨o, k o e, r⟩)
theorem draws_seq (c : Bool) (hh : A.handled = none) (j l : Addr) (hne : l ≠ j) (items : Array Value) :
    Draws prog w A j [j, l] items.size (fun i v => items[i]? = some v) (fun i h => SIter c h j l i ∧ SSeq c h l items) where
  live := fun _ _ st => let ⟨o, e, _⟩ := st.1.obj; ⟨o, e⟩
  frame := fun _ _ _ st k => ⟨st.1.at fun o e => k j (by simp) o e, st.2.at fun o e => k l (by simp) o e⟩
  item := fun i s Q E hi st hQ => by
    have hx : items[i]? = some items[i] := Array.getElem?_eq_getElem hi
    cases c with
    | true => exact draw_tup st.1 st.2 hx fun h' st' sb => hQ _ h' s.toks hx ⟨st', st.2.at fun o e => sb.extBut l o hne e⟩ sb
    | false => exact wpAny_nextOf_list_item st.1 st.2 hx fun h' st' sb => hQ _ h' s.toks hx ⟨st', st.2.at fun o e => sb.extBut l o hne e⟩ sb
  done := fun s Q E st hE => by
    cases c with
    | true => exact draw_tupEnd hh st.1 st.2 (by simp) hE
    | false => exact wpAny_nextOf_list_end hh st.1 st.2 (by simp) hE
end
structure ZAp (z TI TO i1 i2 : Addr) (f1 f2 : List Addr) : Prop where
  tz : TI ≠ z
  oz : TO ≠ z
  a1z : i1 ≠ z
  a2z : i2 ≠ z
  to : TI ≠ TO
  t1 : TI ≠ i1
  t2 : TI ≠ i2
  o1 : TO ≠ i1
  o2 : TO ≠ i2
  ii : i1 ≠ i2
  z1 : z ∉ f1
  z2 : z ∉ f2
  p1 : TO ∉ f1
  p2 : TO ∉ f2
  q1 : i2 ∉ f1
  q2 : i1 ∉ f2
section
variable {prog : Program} {w : World} {A : Around} {s : Shared} {E : Value → Shared → Prop} {z TI TO i1 i2 : Addr} {f1 f2 : List Addr} {n1 n2 k : Nat} {P1 P2 : Nat → Value → Prop} {S1 S2 : Nat → Heap → Prop} {a b : Value}
theorem zip_draw {Q : Value → Shared → Prop} (D1 : Draws prog w A i1 f1 n1 P1 S1) (D2 : Draws prog w A i2 f2 n2 P2 S2) (D : ZAp z TI TO i1 i2 f1 f2)
    (hz : IsZip s.heap z TI TO .none) (hTI : IsPair s.heap TI (.ref i1) (.ref i2)) (hTO : IsPair s.heap TO a b) (st1 : S1 k s.heap) (st2 : S2 k s.heap) (k1 : k < n1) (k2 : k < n2)
    (q : ∀ x y h' tk, P1 k x → P2 k y → IsZip h' z TI TO (rawInt s.heap.objs.size) → IsPair h' TO x y → S1 (k + 1) h' → S2 (k + 1) h' → IsPair h' s.heap.objs.size x y →
      (∀ c o, c ≠ z → c ≠ TO → c ≠ i1 → c ≠ i2 → s.heap.get? c = some o → h'.get? c = some o) → Q (.ref s.heap.objs.size) { s with heap := h', toks := tk }) :
    wpAny (model prog w) A (Builtin.«zip.__next__» ⟨[.ref z], []⟩) (fun fin s' => ∃ v, fin = .done (.ret v) ∧ Q v s') E s := by
  refine (show wpAny _ _ (field (.ref z) 2 >>= _) _ _ _ from wpAny_bind (wpAny_field hz rfl (x := .bool false) rfl ?_))
  refine (show wpAny _ _ (field (.ref z) 3 >>= _) _ _ _ from wpAny_bind (wpAny_field hz rfl (x := .ref TI) rfl (wpAny_bind (wpAny_seqItems hTI rfl ?_))))
  refine (show wpAny _ _ (Builtin.SmallTypes.ownedTupleIsFree (.ref z) >>= _) _ _ _ from wpAny_bind ?_)
  unfold Builtin.SmallTypes.ownedTupleIsFree
  refine wpAny_bind (wpAny_field hz rfl (x := .none) rfl (wpAny_pure ?_))
  simp only [if_true]
  refine wpAny_bind (wpAny_rule (wpAny_bind (wpAny_field hz rfl (x := .ref TO) rfl (wpAny_bind (wpAny_setField_rec hz (by simp) fun g1 zz1 sb1 => ?_)))))
  replace zz1 : IsZip g1 z TI TO .ellipsis := zz1
  refine wpAny_bind ?_
  simp only [List.zipIdx_cons, List.zipIdx_nil, List.forIn_cons, List.forIn_nil]
  refine wpAny_bind (wpAny_bind (wpAny_onRaise (show wpAny _ _ (Builtin.SmallTypes.nextOf (.ref i1) >>= _) _ _ _ from ?_)))
  refine wpAny_bind (D1.item k _ _ _ k1 (D1.frame k s.heap g1 st1 fun c hc o e => sb1.extBut c o (fun x => D.z1 (x ▸ hc)) e) fun x g2 tk2 hx s1' sb2 => wpAny_pure ?_)
  have to2 : IsPair g2 TO a b := sb2.extBut _ _ D.o1 (sb1.extBut _ _ D.oz hTO)
  refine wpAny_bind (wpAny_seqItems to2 rfl (wpAny_bind (wpAny_updateSeq_pair to2 fun g3 to3 sb3 => ?_)))
  replace to3 : IsPair g3 TO x b := to3
  refine wpAny_bind (wpAny_letGo (wpAny_pure ?_))
  refine wpAny_bind (wpAny_bind (wpAny_onRaise (show wpAny _ _ (Builtin.SmallTypes.nextOf (.ref i2) >>= _) _ _ _ from ?_)))
  refine wpAny_bind (D2.item k _ _ _ k2 (D2.frame k s.heap g3 st2 fun c hc o e => ?_) fun y g4 tk4 hy s2' sb4 => wpAny_pure ?_)
  · exact sb3.extBut c o (fun x => D.p2 (x ▸ hc)) (sb2.extBut c o (fun x => D.q2 (x ▸ hc)) (sb1.extBut c o (fun x => D.z2 (x ▸ hc)) e))
  have to4 : IsPair g4 TO x b := sb4.extBut _ _ D.o2 to3
  refine wpAny_bind (wpAny_seqItems to4 rfl (wpAny_bind (wpAny_updateSeq_pair to4 fun g5 to5 sb5 => ?_)))
  replace to5 : IsPair g5 TO x y := to5
  refine wpAny_bind (wpAny_letGo (wpAny_pure (wpAny_pure ?_)))
  refine wpAny_bind (wpAny_seqItems to5 rfl (wpAny_bind (wpAny_newTuple ?_)))
  have sz : g5.objs.size = s.heap.objs.size := by rw [sb5.1, sb4.1, sb3.1, sb2.1, sb1.1]
  have zz5 : IsZip g5 z TI TO .ellipsis := sb5.extBut _ _ D.oz.symm (sb4.extBut _ _ D.a2z.symm (sb3.extBut _ _ D.oz.symm (sb2.extBut _ _ D.a1z.symm zz1)))
  have kk5 : ∀ c o, c ≠ z → c ≠ TO → c ≠ i1 → c ≠ i2 → s.heap.get? c = some o → g5.get? c = some o := fun c o c1 c2 c3 c4 e =>
    sb5.extBut c o c2 (sb4.extBut c o c4 (sb3.extBut c o c2 (sb2.extBut c o c3 (sb1.extBut c o c1 e))))
  have zlt : z < g5.objs.size := Heap.lt_size zz5
  refine (show wpAny _ _ (Builtin.SmallTypes.ownedTupleHandOut (.ref z) (.ref g5.objs.size) >>= _) _ _ _ from wpAny_bind ?_)
  unfold Builtin.SmallTypes.ownedTupleHandOut
  have zz6 : IsZip (g5.push { cls := .type "tuple", data := .seq #[x, y] }) z TI TO .ellipsis := Heap.get?_push_of_some _ zz5
  refine wpAny_bind (wpAny_setField_rec zz6 (by simp) fun g7 zz7 sb7 => ?_)
  replace zz7 : IsZip g7 z TI TO (rawInt g5.objs.size) := zz7
  refine wpAny_setField_rec zz7 (by simp) fun g8 zz8 sb8 => ?_
  replace zz8 : IsZip g8 z TI TO (rawInt g5.objs.size) := zz8
  have up : ∀ c o, c ≠ z → g5.get? c = some o → g8.get? c = some o := fun c o c1 e => sb8.extBut c o c1 (sb7.extBut c o c1 (Heap.get?_push_of_some _ e))
  have tt8 : IsPair g8 g5.objs.size x y := sb8.extBut _ _ (Nat.ne_of_gt zlt) (sb7.extBut _ _ (Nat.ne_of_gt zlt) (Heap.get?_push_size _ rfl))
  rw [sz] at zz8 tt8
  refine wpAny_pure ⟨_, rfl, (show Q (.ref g5.objs.size) _ from ?_)⟩
  rw [sz]
  refine q x y g8 _ hx hy zz8 (up _ _ D.oz to5) ?_ ?_ tt8 fun c o c1 c2 c3 c4 e => up c o c1 (kk5 c o c1 c2 c3 c4 e)
  · refine D1.frame (k + 1) g2 g8 s1' fun c hc o e => up c o (fun x => D.z1 (x ▸ hc)) (sb5.extBut c o (fun x => D.p1 (x ▸ hc)) (sb4.extBut c o (fun x => D.q1 (x ▸ hc)) (sb3.extBut c o (fun x => D.p1 (x ▸ hc)) e)))
  · exact D2.frame (k + 1) g4 g8 s2' fun c hc o e => up c o (fun x => D.z2 (x ▸ hc)) (sb5.extBut c o (fun x => D.p2 (x ▸ hc)) e)
theorem zip_drawEnd {Q : Fin → Shared → Prop} (D1 : Draws prog w A i1 f1 n1 P1 S1) (D : ZAp z TI TO i1 i2 f1 f2)
    (hz : IsZip s.heap z TI TO .none) (hTI : IsPair s.heap TI (.ref i1) (.ref i2)) (hTO : IsPair s.heap TO a b) (st1 : S1 n1 s.heap)
    (q : ∀ h' e, (∀ c o, c ≠ z → c ≠ TO → c ≠ i1 → c ≠ i2 → s.heap.get? c = some o → h'.get? c = some o) → (∃ o, h'.get? e = some o ∧ o.cls = .type "StopIteration") → E (.ref e) { s with heap := h' }) :
    wpAny (model prog w) A (Builtin.«zip.__next__» ⟨[.ref z], []⟩) Q E s := by
  refine (show wpAny _ _ (field (.ref z) 2 >>= _) _ _ _ from wpAny_bind (wpAny_field hz rfl (x := .bool false) rfl ?_))
  refine (show wpAny _ _ (field (.ref z) 3 >>= _) _ _ _ from wpAny_bind (wpAny_field hz rfl (x := .ref TI) rfl (wpAny_bind (wpAny_seqItems hTI rfl ?_))))
  refine (show wpAny _ _ (Builtin.SmallTypes.ownedTupleIsFree (.ref z) >>= _) _ _ _ from wpAny_bind ?_)
  unfold Builtin.SmallTypes.ownedTupleIsFree
  refine wpAny_bind (wpAny_field hz rfl (x := .none) rfl (wpAny_pure ?_))
  simp only [if_true]
  refine wpAny_bind (wpAny_rule (wpAny_bind (wpAny_field hz rfl (x := .ref TO) rfl (wpAny_bind (wpAny_setField_rec hz (by simp) fun g1 zz1 sb1 => ?_)))))
  replace zz1 : IsZip g1 z TI TO .ellipsis := zz1
  refine wpAny_bind ?_
  simp only [List.zipIdx_cons, List.zipIdx_nil, List.forIn_cons, List.forIn_nil]
  refine wpAny_bind (wpAny_bind (wpAny_onRaise (show wpAny _ _ (Builtin.SmallTypes.nextOf (.ref i1) >>= _) _ _ _ from ?_)))
  refine wpAny_bind (D1.done _ _ _ (D1.frame n1 s.heap g1 st1 fun c hc o e => sb1.extBut c o (fun x => D.z1 (x ▸ hc)) e) fun g2 e eb2 he => ?_)
  obtain ⟨oe, hoe, hce⟩ := he
  have zz2 : IsZip g2 z TI TO .ellipsis := eb2 _ _ D.a1z.symm zz1
  have ez : e ≠ z := fun x => by subst x; rw [zz2] at hoe; cases hoe; simp at hce
  exact wpAny_setField_rec zz2 (by simp) fun g3 _ sb3 => q g3 e (fun c o c1 _ c3 _ x => sb3.extBut c o c1 (eb2 c o c3 (sb1.extBut c o c1 x))) ⟨oe, sb3.extBut _ _ ez hoe, hce⟩
theorem next_zip {Q : Option Value → Shared → Prop} (D1 : Draws prog w A.in1 i1 f1 n1 P1 S1) (D2 : Draws prog w A.in1 i2 f2 n2 P2 S2) (D : ZAp z TI TO i1 i2 f1 f2)
    (hz : IsZip s.heap z TI TO .none) (hTI : IsPair s.heap TI (.ref i1) (.ref i2)) (hTO : IsPair s.heap TO a b) (st1 : S1 k s.heap) (st2 : S2 k s.heap) (k1 : k < n1) (k2 : k < n2)
    (q : ∀ x y h' tk, P1 k x → P2 k y → IsZip h' z TI TO (rawInt s.heap.objs.size) → IsPair h' TO x y → S1 (k + 1) h' → S2 (k + 1) h' → IsPair h' s.heap.objs.size x y →
      (∀ c o, c ≠ z → c ≠ TO → c ≠ i1 → c ≠ i2 → s.heap.get? c = some o → h'.get? c = some o) → Q (some (.ref s.heap.objs.size)) { s with heap := h', toks := tk }) :
    wpAny (model prog w) A (pyNext (.ref z)) Q E s := by
  have ty : s.TypeIs (.ref z) "zip" := ⟨_, hz, rfl⟩
  unfold pyNext
  exact wpAny_bind (wpAny_attempt (wpAny_callSpecial?_slot (name := Str.ofString "__next__") ty PySem.F.slot_zip_next (wpAny_call_entry PySem.F.slot_zip_next ty PySem.F.entry_zip_next
    (zip_draw D1 D2 D hz hTI hTO st1 st2 k1 k2 fun x y h' tk a0 b0 a1 a2 a3 a4 a5 a6 => wpAny_pure (q x y h' tk a0 b0 a1 a2 a3 a4 a5 a6)) (PySem.F.args_zip_next_1 _))))
theorem end_zip {Q : Option Value → Shared → Prop} (D1 : Draws prog w A.in1 i1 f1 n1 P1 S1) (D : ZAp z TI TO i1 i2 f1 f2)
    (hz : IsZip s.heap z TI TO .none) (hTI : IsPair s.heap TI (.ref i1) (.ref i2)) (hTO : IsPair s.heap TO a b) (st1 : S1 n1 s.heap)
    (q : ∀ h', (∀ c o, c ≠ z → c ≠ TO → c ≠ i1 → c ≠ i2 → s.heap.get? c = some o → h'.get? c = some o) → Q none { s with heap := h' }) : wpAny (model prog w) A (pyNext (.ref z)) Q E s := by
  have ty : s.TypeIs (.ref z) "zip" := ⟨_, hz, rfl⟩
  unfold pyNext
  refine wpAny_bind (wpAny_attempt (wpAny_callSpecial?_slot (name := Str.ofString "__next__") ty PySem.F.slot_zip_next (wpAny_call_entry PySem.F.slot_zip_next ty PySem.F.entry_zip_next
    (zip_drawEnd D1 D hz hTI hTO st1 fun h' e kk he => ?_) (PySem.F.args_zip_next_1 _))))
  obtain ⟨o, ho, hc⟩ := he
  exact wpAny_bind (wpAny_isInstance (T := "StopIteration") (b := true) ⟨o, ho, hc⟩ isSubtype_stop (wpAny_pure (q _ kk)))
end
end HT
namespace HT
open PySem PyProof.Rows
section
variable {prog : Program} {w : World} {A : Around} {s : Shared} {E : Value → Shared → Prop}
noncomputable def tIt (l : Addr) : Obj := { cls := .type "tuple_iterator", data := .fields #[.ref l, .int 0 0] }
noncomputable def zG2 (h : Heap) (l1 l2 : Addr) : Heap := (h.push (tIt l1)).push (tIt l2)
noncomputable def zG3 (h : Heap) (l1 l2 : Addr) : Heap := (zG2 h l1 l2).push { cls := .type "tuple", data := .seq #[.ref h.objs.size, .ref (h.push (tIt l1)).objs.size] }
noncomputable def zG4 (h : Heap) (l1 l2 : Addr) : Heap := (zG3 h l1 l2).push { cls := .type "tuple", data := .seq #[.none, .none] }
noncomputable def zG5 (h : Heap) (l1 l2 : Addr) : Heap := (zG4 h l1 l2).push { cls := .type "zip", data := .fields #[.none, .bool false, .bool false, .ref (zG2 h l1 l2).objs.size, .ref (zG3 h l1 l2).objs.size] }
theorem zip_newT (l1 l2 : Addr) (xs ys : Array Value) : Meets (Builtin.«zip.__new__» ⟨[.type "zip", .ref l1, .ref l2], []⟩)
    (fun _ R s => s.heap.IsTuple l1 xs ∧ s.heap.IsTuple l2 ys ∧ R (.ok (.ret (.ref (zG4 s.heap l1 l2).objs.size))) { s with heap := zG5 s.heap l1 l2 }) :=
  .of_wp fun prog w A R s h => by
    obtain ⟨hp, g, d, tk, os⟩ := s
    obtain ⟨a1, a2, h⟩ := h
    have sub := sub_zip
    have b1 : Heap.IsTuple (Shared.heap ⟨hp, g, d, tk, os⟩) l1 xs := a1
    have b2 : Heap.IsTuple (Shared.heap ⟨hp.push { cls := .type "tuple_iterator", data := .fields #[.ref l1, .int 0 0] }, g, d, tk, os⟩) l2 ys := Heap.IsTuple.push a2 _
    wp_walk using wpAny_pyIter_tuple b1, wpAny_pyIter_tuple b2
    exact ⟨_, rfl, h⟩
theorem call_zipS {c : Bool} {l1 l2 : Addr} {xs ys : Array Value} {Q : Value → Shared → Prop} (a1 : SSeq c s.heap l1 xs) (a2 : SSeq c s.heap l2 ys)
    (q : ∀ h', IsZip h' (s.heap.objs.size + 4) (s.heap.objs.size + 2) (s.heap.objs.size + 3) .none → IsPair h' (s.heap.objs.size + 2) (.ref s.heap.objs.size) (.ref (s.heap.objs.size + 1)) →
      IsPair h' (s.heap.objs.size + 3) .none .none → SIter c h' s.heap.objs.size l1 0 → SIter c h' (s.heap.objs.size + 1) l2 0 →
      (∀ b o, s.heap.get? b = some o → h'.get? b = some o) → Q (.ref (s.heap.objs.size + 4)) { s with heap := h' }) : wpAny (model prog w) A (call (.type "zip") [.ref l1, .ref l2]) Q E s := by
  cases c with
  | false => exact call_zip_2 a1 a2 fun h' b1 b2 b3 b4 b5 _ b7 => q h' b1 b2 b3 b4 b5 b7
  | true =>
    refine callType_new PySem.F.called_zip (by decide) (PySem.F.typeCall_zip_2 _ _) (PySem.F.newCall_zip_2 _ _) (fun obj => PySem.F.args_object_init_3 obj _ _) PySem.F.entry_zip_new (zip_newT l1 l2 xs ys) ⟨a1, a2, ?_⟩
    have z1 : (s.heap.push (tIt l1)).objs.size = s.heap.objs.size + 1 := Heap.size_push ..
    have z2 : (zG2 s.heap l1 l2).objs.size = s.heap.objs.size + 2 := by unfold zG2; rw [Heap.size_push, z1]
    have z3 : (zG3 s.heap l1 l2).objs.size = s.heap.objs.size + 3 := by unfold zG3; rw [Heap.size_push, z2]
    have z4 : (zG4 s.heap l1 l2).objs.size = s.heap.objs.size + 4 := by unfold zG4; rw [Heap.size_push, z3]
    have g5 : (zG5 s.heap l1 l2).get? (zG4 s.heap l1 l2).objs.size = some { cls := .type "zip", data := .fields #[.none, .bool false, .bool false, .ref (zG2 s.heap l1 l2).objs.size, .ref (zG3 s.heap l1 l2).objs.size] } := Heap.get?_push_size _ rfl
    have g4 : (zG5 s.heap l1 l2).get? (zG3 s.heap l1 l2).objs.size = some { cls := .type "tuple", data := .seq #[.none, .none] } := Heap.get?_push_of_some _ (Heap.get?_push_size _ rfl)
    have g3 : (zG5 s.heap l1 l2).get? (zG2 s.heap l1 l2).objs.size = some { cls := .type "tuple", data := .seq #[.ref s.heap.objs.size, .ref (s.heap.push (tIt l1)).objs.size] } := Heap.get?_push_of_some _ (Heap.get?_push_of_some _ (Heap.get?_push_size _ rfl))
    have g2 : (zG5 s.heap l1 l2).get? (s.heap.push (tIt l1)).objs.size = some (tIt l2) := Heap.get?_push_of_some _ (Heap.get?_push_of_some _ (Heap.get?_push_of_some _ (Heap.get?_push_size _ rfl)))
    have g1 : (zG5 s.heap l1 l2).get? s.heap.objs.size = some (tIt l1) := Heap.get?_push_of_some _ (Heap.get?_push_of_some _ (Heap.get?_push_of_some _ (Heap.get?_push_of_some _ (Heap.get?_push_size _ rfl))))
    show _ ∧ _
    rw [z2, z3, z4] at g5
    rw [z1, z2] at g3
    rw [z3] at g4
    rw [z1] at g2
    rw [z4]
    exact ⟨⟨_, g5, rfl⟩, q _ g5 g3 g4 (show Heap.IsTupleIter _ _ _ _ from ⟨_, g1, rfl, rfl⟩) (show Heap.IsTupleIter _ _ _ _ from ⟨_, g2, rfl, rfl⟩) fun b o x =>
      Heap.get?_push_of_some _ (Heap.get?_push_of_some _ (Heap.get?_push_of_some _ (Heap.get?_push_of_some _ (Heap.get?_push_of_some _ x))))⟩
end
end HT
namespace L2
open PySem PySem.Spec PyProof.Rows
noncomputable def seqO (c : Bool) (xs : List V) : HO := if c = true then .tup xs else .lst xs
theorem seqO_inj {c : Bool} {xs ys : List V} (h : seqO c xs = seqO c ys) : xs = ys := by
  cases c with
  | true => exact HO.tup.inj h
  | false => exact HO.lst.inj h
theorem Inv.seqS {X : Cx} {pins : List (Addr × Obj)} {σ : St} {H : Hp} {s : Shared} {c : Bool} {a : Addr} {xs : List V} (I : Inv X pins σ H s) (h : H a = some (seqO c xs)) : ∃ its : List Value, Vals xs its ∧ HT.SSeq c s.heap a its.toArray ∧ xs.length ≤ sizeLine := by
  cases c with
  | true => obtain ⟨its, r, p, z⟩ := I.tuple (SqT.of (K := X.K) h); exact ⟨its, r, p, z⟩
  | false => obtain ⟨its, r, p, z⟩ := I.list (SqL.of (K := X.K) h); exact ⟨its, r, p.isList, z⟩
noncomputable def Itz (c : Bool) (l1 l2 : Addr) : It :=
  ⟨fun i H => ∃ xs ys x y, H l1 = some (seqO c xs) ∧ H l2 = some (seqO c ys) ∧ xs[i]? = some x ∧ ys[i]? = some y,
   fun i H v H' => ∃ T x y, H T = none ∧ v = .ref T ∧ H' = upd H T (.tup [x, y]) ∧ ∀ xs ys, H l1 = some (seqO c xs) → H l2 = some (seqO c ys) → xs[i]? = some x ∧ ys[i]? = some y,
   fun i H => ∃ xs ys, H l1 = some (seqO c xs) ∧ H l2 = some (seqO c ys) ∧ xs.length = i ∧ ys.length = i⟩
noncomputable def ZAt (c : Bool) (z TI TO i1 i2 l1 l2 : Addr) (i : Nat) (h : Heap) : Prop := IsZip h z TI TO .none ∧ IsPair h TI (.ref i1) (.ref i2) ∧ (∃ a b, IsPair h TO a b) ∧ HT.SIter c h i1 l1 i ∧ HT.SIter c h i2 l2 i
theorem fp5 {z TI TO i1 i2 b : Addr} (h : b ∈ [z, TI, TO, i1, i2]) : b = z ∨ b = TI ∨ b = TO ∨ b = i1 ∨ b = i2 := by simpa using h
theorem turn_zip {P : Program} {w : World} {K : PySem.W.Frag} {es : List Expr} {kk : Nat} {tpos : Pos} (c : Bool) (z TI TO i1 i2 l1 l2 : Addr) (nd : [z, TI, TO, i1, i2].Nodup) :
    Turn P w K (.Tuple es kk tpos) (Itz c l1 l2) [z, TI, TO, i1, i2] z (ZAt c z TI TO i1 i2 l1 l2) := by
  simp only [List.nodup_cons, List.mem_cons, List.not_mem_nil, or_false, not_or, List.nodup_nil, and_true] at nd
  obtain ⟨⟨n1, n2, n3, n4⟩, ⟨n5, n6, n7⟩, ⟨n8, n9⟩, n10, _⟩ := nd
  have ap : ∀ {X : Cx} {pins : List (Addr × Obj)} {H : Hp} {xs ys : List V}, (∀ b ∈ [z, TI, TO, i1, i2], FpOk X pins H b) → H l1 = some (seqO c xs) → H l2 = some (seqO c ys) →
      HT.ZAp z TI TO i1 i2 [i1, l1] [i2, l2] ∧ l1 ≠ i1 ∧ l2 ≠ i2 := by
    intro X pins H xs ys hf h1 h2
    have a : ∀ b ∈ [z, TI, TO, i1, i2], b ≠ l1 ∧ b ≠ l2 := fun b hb => ⟨(ne_of_none h1 (hf b hb).1).symm, (ne_of_none h2 (hf b hb).1).symm⟩
    have az := a z (by simp)
    have aO := a TO (by simp)
    have a1 := a i1 (by simp)
    have a2 := a i2 (by simp)
    refine ⟨⟨Ne.symm n1, Ne.symm n2, Ne.symm n3, Ne.symm n4, n5, n6, n7, n8, n9, n10, ?_, ?_, ?_, ?_, ?_, ?_⟩, Ne.symm a1.1, Ne.symm a2.2⟩ <;> simp only [List.mem_cons, List.not_mem_nil, or_false, not_or]
    · exact ⟨n3, az.1⟩
    · exact ⟨n4, az.2⟩
    · exact ⟨n8, aO.1⟩
    · exact ⟨n9, aO.2⟩
    · exact ⟨Ne.symm n10, a2.1⟩
    · exact ⟨n10, a1.2⟩
  refine ⟨by simp, fun i h st b hb => ?_, fun i h h' st k => ?_, ?_, ?_, fun _ _ _ _ _ st h => wpAny_pyIter_zip st.1 h⟩
  · obtain ⟨h1, h2, ⟨a, b', h3⟩, h4, h5⟩ := st
    rcases fp5 hb with rfl | rfl | rfl | rfl | rfl
    · exact ⟨_, h1, fun v e => nomatch e⟩
    · exact ⟨_, h2, fun v e => nomatch e⟩
    · exact ⟨_, h3, fun v e => nomatch e⟩
    · exact h4.obj
    · exact h5.obj
  · obtain ⟨h1, h2, ⟨a, b', h3⟩, h4, h5⟩ := st
    exact ⟨k z (by simp) _ h1, k TI (by simp) _ h2, ⟨a, b', k TO (by simp) _ h3⟩, h4.at fun o e => k i1 (by simp) o e, h5.at fun o e => k i2 (by simp) o e⟩
  · intro X hP hw hK hc i pins s σ H E I hf st hg
    subst hP hw hK
    obtain ⟨xs, ys, x, y, hx, hy, ex, ey⟩ := hg
    obtain ⟨its1, r1, q1, _⟩ := I.seqS hx
    obtain ⟨its2, r2, q2, _⟩ := I.seqS hy
    obtain ⟨u, hu, ru⟩ := r1.get ex
    obtain ⟨v, hv, rv⟩ := r2.get ey
    obtain ⟨z0, t0, ⟨a, b, o0⟩, s1, s2⟩ := st
    obtain ⟨D, e1, e2⟩ := ap hf hx hy
    refine HT.next_zip (HT.draws_seq (A := X.A.in1) c (I.ok.hd hc) i1 l1 e1 its1.toArray) (HT.draws_seq (A := X.A.in1) c (I.ok.hd hc) i2 l2 e2 its2.toArray) D z0 t0 o0 ⟨s1, q1⟩ ⟨s2, q2⟩
      (by rw [List.size_toArray]; exact (List.getElem?_eq_some_iff.mp hu).1) (by rw [List.size_toArray]; exact (List.getElem?_eq_some_iff.mp hv).1) fun x' y' h' tk px py z1 o1 t1 t2 pr kk => ?_
    have ex' : x' = u := by
      have p1 : its1[i]? = some x' := by simpa using px
      rw [hu] at p1; exact (Option.some.inj p1).symm
    have ey' : y' = v := by
      have p1 : its2[i]? = some y' := by simpa using py
      rw [hv] at p1; exact (Option.some.inj p1).symm
    subst ex' ey'
    refine ⟨_, rfl, wpAny_letOwnedTupleGo_zip z1 fun h'' z2 sb => ?_⟩
    have lt : ∀ {b : Addr} {ob : Obj}, s.heap.get? b = some ob → b ≠ s.heap.objs.size := fun e => Nat.ne_of_lt (Heap.lt_size e)
    have fT : H s.heap.objs.size = none := I.hok.fresh (Nat.le_refl _)
    have keep : ∀ b ob, b ∉ [z, TO, i1, i2] → s.heap.get? b = some ob → h''.get? b = some ob := fun b ob hb e => by
      simp only [List.mem_cons, List.not_mem_nil, or_false, not_or] at hb
      exact sb.extBut b ob hb.1 (kk b ob hb.1 hb.2.1 hb.2.2.1 hb.2.2.2 e)
    have sub : ∀ b, b ∈ [z, TO, i1, i2] → b ∈ [z, TI, TO, i1, i2] := fun b hb => by
      simp only [List.mem_cons, List.not_mem_nil, or_false] at hb ⊢
      rcases hb with h | h | h | h
      · exact .inl h
      · exact .inr (.inr (.inl h))
      · exact .inr (.inr (.inr (.inl h)))
      · exact .inr (.inr (.inr (.inr h)))
    have trk : ∀ b uo, H b = some uo → b ∉ [z, TO, i1, i2] := fun b uo e hb => by rw [(hf b (sub b hb)).1] at e; cases e
    have ptT : IsPair h'' s.heap.objs.size x' y' := sb.extBut _ _ (Ne.symm (lt z0)) pr
    have I2 : Inv X pins σ (upd H s.heap.objs.size (.tup [x, y])) { s with heap := h'', toks := tk } := by
      refine I.step (g' := s.gens) (d' := s.drawn) (ch := [z, TO, i1, i2]) (fun b hb => ?_) (fun b ob _ _ hb e _ => keep b ob hb e) (fun b ob _ _ hb e _ => ⟨ob.slots, keep b ob hb e⟩) (fun b ob hb e n => by rw [upd_ne (lt e)]; exact n)
        (fun b ob hb e => ⟨ob, keep b ob hb e⟩) (fun b zs e => by rw [upd_ne (ne_of_none e fT)]; exact e) (fun b ob uo e => by rw [upd_ne (ne_of_none e fT)]; exact e) (fun b ps e => ⟨#[], by rw [upd_ne (ne_of_none e fT), e]; simp⟩) (fun m hm => ?_) (fun b uo e => ?_) I.bare
      · obtain ⟨_, f1, _, f3, f4, f5⟩ := hf b (sub b hb)
        exact ⟨f3, f1, f4, f5⟩
      · obtain ⟨ob, es', ep, ho, r⟩ := hm
        exact ⟨ob, es', ep, keep _ ob (fun hb => (hf _ (sub _ hb)).2.1 rfl) ho, r⟩
      · by_cases hb : b = s.heap.objs.size
        · subst hb
          rw [upd_same] at e
          cases e
          exact ⟨by show 2 ≤ sizeLine; decide, [x', y'], .cons ru (.cons rv .nil), _, ptT, rfl, _, rfl⟩
        · rw [upd_ne hb] at e
          refine (I.hok b uo e).stay (fun c' v' hc' q => keep c' v' ?_ q) (fun c' q => by rw [upd_ne (ne_of_none q fT)]; exact q) fun c' zs q => by rw [upd_ne (ne_of_none q fT)]; exact q
          rcases hc' with h | h
          · rw [h]; exact trk b uo e
          · exact trk c' _ h
    refine ⟨.ref s.heap.objs.size, _, I2, rfl, ⟨_, x, y, fT, rfl, rfl, fun xs' ys' h1 h2 => ?_⟩, ⟨z2, sb.extBut _ _ (Ne.symm n1) (kk _ _ (Ne.symm n1) n5 n6 n7 t0), ⟨_, _, sb.extBut _ _ (Ne.symm n2) o1⟩, t1.1.at fun o e => sb.extBut _ o (Ne.symm n3) e, t2.1.at fun o e => sb.extBut _ o (Ne.symm n4) e⟩, fun b hb => ?_⟩
    · rw [hx] at h1
      rw [hy] at h2
      rw [← seqO_inj (Option.some.inj h1), ← seqO_inj (Option.some.inj h2)]
      exact ⟨ex, ey⟩
    · have hb' : ∃ ob, s.heap.get? b = some ob := by
        rcases fp5 hb with rfl | rfl | rfl | rfl | rfl
        · exact ⟨_, z0⟩
        · exact ⟨_, t0⟩
        · exact ⟨_, o0⟩
        · obtain ⟨ob, e, _⟩ := s1.obj; exact ⟨ob, e⟩
        · obtain ⟨ob, e, _⟩ := s2.obj; exact ⟨ob, e⟩
      obtain ⟨ob, e⟩ := hb'
      rw [upd_ne (lt e)]
      exact (hf b hb).1
  · intro X hP hw hK hc i pins s σ H E I hf st hg
    subst hP hw hK
    obtain ⟨xs, ys, hx, hy, l, l'⟩ := hg
    obtain ⟨its1, r1, q1, _⟩ := I.seqS hx
    obtain ⟨z0, t0, ⟨a, b, o0⟩, s1, s2⟩ := st
    obtain ⟨D, e1, e2⟩ := ap hf hx hy
    have hi : i = its1.toArray.size := by rw [List.size_toArray, ← l]; exact r1.length
    rw [hi] at s1
    refine HT.end_zip (HT.draws_seq (A := X.A.in1) c (I.ok.hd hc) i1 l1 e1 its1.toArray) D z0 t0 o0 ⟨s1, q1⟩ fun h' kk => ⟨rfl, ?_⟩
    have keep : ∀ b ob, b ∉ [z, TO, i1, i2] → s.heap.get? b = some ob → h'.get? b = some ob := fun b ob hb e => by
      simp only [List.mem_cons, List.not_mem_nil, or_false, not_or] at hb
      exact kk b ob hb.1 hb.2.1 hb.2.2.1 hb.2.2.2 e
    have sub : ∀ b, b ∈ [z, TO, i1, i2] → b ∈ [z, TI, TO, i1, i2] := fun b hb => by
      simp only [List.mem_cons, List.not_mem_nil, or_false] at hb ⊢
      rcases hb with h | h | h | h
      · exact .inl h
      · exact .inr (.inr (.inl h))
      · exact .inr (.inr (.inr (.inl h)))
      · exact .inr (.inr (.inr (.inr h)))
    have trk : ∀ b uo, H b = some uo → b ∉ [z, TO, i1, i2] := fun b uo e hb => by rw [(hf b (sub b hb)).1] at e; cases e
    refine I.step (g' := s.gens) (d' := s.drawn) (t' := s.toks) (ch := [z, TO, i1, i2]) (fun b hb => ?_) (fun b ob _ _ hb e _ => keep b ob hb e) (fun b ob _ _ hb e _ => ⟨ob.slots, keep b ob hb e⟩) (fun b ob hb e n => n)
      (fun b ob hb e => ⟨ob, keep b ob hb e⟩) (fun b zs e => e) (fun b ob uo e => e) (fun b ps e => ⟨#[], by rw [e]; simp⟩) (fun m hm => ?_) (fun b uo e => ?_) I.bare
    · obtain ⟨_, f1, _, f3, f4, f5⟩ := hf b (sub b hb)
      exact ⟨f3, f1, f4, f5⟩
    · obtain ⟨ob, es', ep, ho, r⟩ := hm
      exact ⟨ob, es', ep, keep _ ob (fun hb => (hf _ (sub _ hb)).2.1 rfl) ho, r⟩
    · refine (I.hok b uo e).stay (fun c' v' hc' q => keep c' v' ?_ q) (fun _ q => q) fun _ _ q => q
      rcases hc' with h | h
      · rw [h]; exact trk b uo e
      · exact trk c' _ h
noncomputable def iZip (ta : TA) : TI := fun σ H R => ta σ H fun vs H1 => ∃ c l1 l2 xs ys, vs = [.ref l1, .ref l2] ∧ H1 l1 = some (seqO c xs) ∧ H1 l2 = some (seqO c ys) ∧ R (Itz c l1 l2) H1
theorem pi_zip {X : Cx} {es : List Expr} {kk : Nat} {tpos : Pos} {a b : Expr} {ta : TA} {p pos : Pos} (hg : Gl X "zip") (hm : X.mg "zip" = none) (ha : PA X [a, b] ta) (hs : starEach [a, b] X.env = [(false, eval a X.env), (false, eval b X.env)] := by rfl) (hs2 : starEach [b] X.env = [(false, eval b X.env)] := by rfl) :
    PI X (.Tuple es kk tpos) (.Call (.Name "zip" p) [a, b] [] pos) (iZip ta) := by
  intro pins s σ H R I h
  refine Call_ (ld_blt I hg hm (show bootBuiltins "zip" = some (.type "zip") by decide +kernel) (PyProof.Rows.callWith_type1 (thn (ha pos pins s σ H _ I h) fun us s1 ⟨vs, H1, I1, r1, q1⟩ => ?_) (by rw [hs, hs2]) (by rw [hs2]; rfl)))
  obtain ⟨c, l1, l2, xs, ys, rfl, hx, hy, q⟩ := q1
  obtain ⟨u, v, rfl, ru, rv⟩ := vals2 r1
  cases (show u = Value.ref l1 from ru)
  cases (show v = Value.ref l2 from rv)
  obtain ⟨its1, _, e1, _⟩ := I1.seqS hx
  obtain ⟨its2, _, e2, _⟩ := I1.seqS hy
  refine HT.call_zipS e1 e2 fun h' a1 a2 a3 a4 a5 kp => ?_
  have I2 : Inv X pins σ H1 { s1 with heap := h' } := I1.kept (t' := s1.toks) kp
  refine wpAny_pyIter_zip a1 ?_
  refine ⟨s1.heap.objs.size + 4, [s1.heap.objs.size + 4, s1.heap.objs.size + 2, s1.heap.objs.size + 3, s1.heap.objs.size, s1.heap.objs.size + 1], _, _, H1, rfl, I2, turn_zip c _ _ _ _ _ l1 l2 (by simp), ⟨a1, a2, ⟨_, _, a3⟩, a4, a5⟩, fun b hb => ?_, q⟩
  have hb' : s1.heap.objs.size ≤ b := by rcases fp5 hb with rfl | rfl | rfl | rfl | rfl <;> lia
  exact I1.fpOk hb' (I1.hok.fresh hb')
structure CompOk2 (sc0 : Scope) (N0 : List Str) (scope : Scope) (x x2 : Str) (ys : List Str) (fr : List Nat) : Prop where
  kind : scope.kind = .function
  nocell : ∀ y ∈ scope.names, y.2 ≠ .cell
  loc : ∀ y ∈ scope.names, y.2 = .local → scope.names.lookup y.1 = some .local
  xl : (relabelN sc0 scope).lookup x = some .local
  xl2 : (relabelN sc0 scope).lookup x2 = some .local
  free : ∀ y ∈ scope.names, y.2 = .free → sc0.names.lookup y.1 = some .cell
  nd : (x :: x2 :: ys).Nodup
  len : ys.length = fr.length
  sl : ∀ q ∈ ys.zip fr, N0[q.2]? = some q.1 ∧ sc0.names.lookup q.1 = some .cell ∧ (relabelN sc0 scope).lookup q.1 = some .cell
noncomputable def cxComp2 (X : Cx) (x x2 : Str) (ys : List Str) (scope : Scope) (C : Addr) (s : Shared) (H : Hp) (ex : List Addr) : Cx :=
  { X with N := x :: x2 :: ys, s₀ := s, H₀ := H, env := compEnvC scope (closOf X.env.cells scope.names) C X.env, outer := X.stack, stack := X.stack, ex := ex, fn := fun _ => false, pn := [], xe := fun _ _ => False }
noncomputable def tCompW2 (fr : List Nat) (te : TE) (σ : St) (J : It) (H1 : Hp) (Q : VK) : Prop :=
  ∀ p, H1 p = none → ∃ W : Nat → Nat → List V → Hp → Prop, (∃ m, W 0 m [] (upd H1 p (.lst []))) ∧ ∀ i m ys H, W i m ys H → H p = some (.lst ys) ∧
    ((J.stop i H ∧ Q (.ref p) H) ∨ (J.go i H ∧ ys.length < sizeLine ∧ ∀ x H', J.yld i H x H' → ∃ T v1 v2, x = .ref T ∧ H' T = some (.tup [v1, v2]) ∧ te (some v1 :: some v2 :: caps fr σ) H' fun v H2 =>
      H2 p = some (.lst ys) ∧ ∃ m', m' < m ∧ W (i + 1) m' (ys ++ [v]) (upd H2 p (.lst (ys ++ [v])))))
noncomputable def tComp2 (wi : TI) (fr : List Nat) (te : TE) : TE := fun σ H Q => wi σ H fun J H1 => tCompW2 fr te σ J H1 Q
section
variable {X : Cx} {x x2 : Str} {px px2 tpos pos fpos : Pos} {kk : Nat} {iter elt : Expr} {scope sc0 : Scope} {N0 ys : List Str} {fr : List Nat} {wi : TI} {te : TE} {pins : List (Addr × Obj)} {σ : St} {H : Hp} {s : Shared}
theorem comp_core2 {use : Option (Value → Sem Unit)} {Qv : Value → Shared → Prop} {Q : VK} (hcalm : X.calm = true) (hi : PI X (.Tuple [.Name x px, .Name x2 px2] kk tpos) iter wi) (hsc : X.env.scope = sc0) (hN : X.N = N0) (ok : CompOk2 sc0 N0 scope x x2 ys fr)
    (hE : ∀ C s H ex, PE (cxComp2 X x x2 ys scope C s H ex) elt te) (I : Inv X pins σ H s) (h : tComp2 wi fr te σ H Q) (hs : ∀ v, foldedSetIterable iter X.env v = pure v)
    (fin : ∀ (p C : Addr) (H' : Hp) (s' : Shared) (m : Str → Option Value), Inv X pins σ H' s' → s'.heap.Ns C m → H' C = none → C ≠ X.env.locals → X.s₀.heap.objs.size ≤ C → (∀ y c, X.env.cells.lookup y = some c → c ≠ C) → (∀ q ∈ X.pn ++ pins, q.1 ≠ C) → Q (.ref p) H' →
      compPost (model X.prog X.w) X.A X.xe use Qv (.ref p) C (.ok .next) s') :
    wpAny (model X.prog X.w) X.A (comprehension (.ListComp elt [⟨.Tuple [.Name x px, .Name x2 px2] kk tpos, iter, [], 0⟩] scope pos) scope X.env fpos (newList []) false (eval iter X.env) use) Qv X.xe s := by
  subst hsc hN
  have hkof : ∀ y, X.env.kindOf y = X.env.scope.names.lookup y := fun y => rfl
  have hfree : ∀ y ∈ scope.names, y.2 = .free → ∃ c, X.env.cells.lookup y.1 = some c := fun y hy e => I.ok.has y.1 (.inl (ok.free y hy e))
  refine wpAny_comprehension_free (gs := []) rfl hs (closureFor_ok hfree) ok.kind ok.loc (thn (hi pins s σ H _ I h) fun v s1 h1 => thn h1 fun itv s2 h2 => ?_)
  obtain ⟨it, fp, tn, J, H2, e, I2, T, st2, f2, hp⟩ := h2
  subst e
  refine wpAny_newObj_type (wpAny_newFunctionEnv ok.nocell (by intro y hy; simp at hy) (fun h₁ hns₁ hsb₁ => ?_) ok.kind)
  dsimp only at hns₁ hsb₁ ⊢
  have I3 : Inv X pins σ (upd H2 s2.heap.objs.size (.lst [])) { s2 with heap := s2.heap.push { cls := .type "list", data := .seq ([] : List Value).toArray } } :=
    I2.lnew (its := []) (ys := []) (t' := s2.toks) .nil (Nat.zero_le _)
  have hf2 : ∀ b ∈ fp, b < s2.heap.objs.size := fun b hb => by
    obtain ⟨o, e, _⟩ := T.obj _ _ st2 b hb
    exact Heap.lt_size e
  have hps : s2.heap.objs.size < (s2.heap.push { cls := .type "list", data := .seq ([] : List Value).toArray }).objs.size := by rw [Heap.size_push]; exact Nat.lt_succ_self _
  have W0 := hp s2.heap.objs.size I2.fresh
  have st3 : tn 0 (s2.heap.push { cls := .type "list", data := .seq ([] : List Value).toArray }) := T.keep _ _ _ st2 fun b hb o e => Heap.get?_push_of_some _ e
  generalize hpp : s2.heap.objs.size = p at I3 W0 hf2 hps ⊢
  generalize hh3 : (s2.heap.push { cls := .type "list", data := .seq ([] : List Value).toArray }) = h3 at I3 hns₁ hsb₁ hps st3 ⊢
  generalize hH3 : upd H2 p (.lst []) = H3 at I3 W0
  have hold : ∀ b o, h3.get? b = some o → h₁.get? b = some o := fun b o e => hsb₁.extBut b o (Nat.ne_of_lt (Heap.lt_size e)) (Heap.get?_push_of_some _ e)
  have fH3 : ∀ b ∈ fp, H3 b = none := fun b hb => by
    rw [← hH3, upd_ne (Nat.ne_of_lt (hf2 b hb))]
    exact (f2 b hb).1
  have hclos : ∀ y c, (closOf X.env.cells scope.names).lookup y = some c → X.env.cells.lookup y = some c := fun y c e => closOf_sound e
  have hcell3 : ∀ y c, X.env.cells.lookup y = some c → c < h3.objs.size := fun y c e => by
    obtain ⟨v, o, ho, _⟩ := I3.cell y c e
    exact Heap.lt_size ho
  have hlt3 : X.env.locals < h3.objs.size := I3.lt
  have Yok : (cxComp2 X x x2 ys scope h3.objs.size { s2 with heap := h3 } H3 fp).Ok := {
    mod := I.ok.mod
    kind := ok.kind
    glob := I.ok.glob
    blt := I.ok.blt
    above := Nat.le_refl _
    inj := fun y z c e1 e2 => I.ok.inj y z c (hclos _ _ e1) (hclos _ _ e2)
    has := fun y hk => by
      have hfr : (y, NameKind.free) ∈ scope.names := by
        have hm : ∃ k, (relabelN X.env.scope scope).lookup y = some k ∧ (k = .cell ∨ k = .free) := by
          rcases hk with hk | hk
          · exact ⟨_, hk, .inl rfl⟩
          · exact ⟨_, hk, .inr rfl⟩
        obtain ⟨k, hk, hkk⟩ := hm
        have hmem := mem_of_lookup hk
        unfold relabelN at hmem
        obtain ⟨⟨n, k0⟩, hn, en⟩ := List.mem_map.mp hmem
        dsimp only at en
        split at en
        · rename_i hc
          simp only [Bool.and_eq_true] at hc
          have hk0 : k0 = .free := by simpa using hc.1.1
          cases en
          rw [← hk0]
          exact hn
        · cases en
          rcases hkk with e | e
          · exact absurd e (ok.nocell _ hn)
          · rw [← e]
            exact hn
      obtain ⟨c, hc⟩ := hfree _ hfr rfl
      exact ⟨c, closOf_has hc hfr⟩
    cab := fun y c hf _ => by cases hf
    hd := I.ok.hd
    frames := I.ok.frames
    stk := .inl rfl
    exf := fun b hb => ⟨fun e => absurd (hf2 b hb) (by rw [e]; exact Nat.not_lt.mpr (Nat.le_of_lt hps)), fun y c e => (f2 b hb).2.2.2.2.1 y c (hclos _ _ e)⟩
    bs := fun b o e => ⟨(I3.bs b o e).1, (I3.bs b o e).2⟩
    bsz := Nat.le_trans I.ok.bsz I3.sz
    noex := fun b o e hb => by
      rcases (f2 b hb).2.2.2.1 with q | q
      · exact I.ok.noex b o e q
      · have h1 : b < X.base.objs.size := Heap.lt_size e
        exact absurd h1 (Nat.not_lt.mpr (Nat.le_trans I.ok.bsz q))
    exfs := fun b hb hm => by
      rcases List.mem_cons.mp (I3.stkSub b hm) with q | q
      · exact (f2 b hb).2.1 q
      · exact (f2 b hb).2.2.1 q
    funs := I3.stack
    frf := I3.stkFree }
  have IY : Inv (cxComp2 X x x2 ys scope h3.objs.size { s2 with heap := h3 } H3 fp) [] (none :: none :: caps fr σ) H3 { s2 with heap := h₁, toks := s2.toks + ([] : List (Str × Value)).length } := {
    ok := Yok
    os := rfl
    bare := I2.bare
    base := Un.kept hold
    loc := by
      refine ⟨_, hns₁, fun i y v hy hv hvis => ?_⟩
      match i, hy, hv with
      | 0, _, hv => cases hv
      | 1, _, hv => cases hv
      | j + 2, hy, hv =>
        have hy' : ys[j]? = some y := hy
        have hv' : (caps fr σ)[j]? = some (some v) := hv
        unfold caps at hv'
        rw [List.getElem?_map] at hv'
        obtain ⟨i0, hi0, hv0⟩ := Option.map_eq_some_iff.mp hv'
        have hz : (y, i0) ∈ ys.zip fr := by
          refine List.mem_iff_getElem?.mpr ⟨j, ?_⟩
          rw [List.getElem?_zip_eq_some]
          exact ⟨hy', hi0⟩
        obtain ⟨hn, hk, hk2⟩ := ok.sl _ hz
        have hσ : σ[i0]? = some (some v) := by
          cases e : σ[i0]? with
          | none => rw [e] at hv0; cases hv0
          | some o =>
            rw [e] at hv0
            rw [show o = some v from hv0]
        obtain ⟨m, hm, hl⟩ := I3.loc
        obtain ⟨u, ru, lk⟩ := hl i0 y v hn hσ (.inr (.inl hk))
        refine ⟨u, ru, .inr ⟨.inl hk2, ?_⟩⟩
        rcases lk with ⟨a, _⟩ | ⟨_, c, hc, hcell⟩
        · have a' : X.env.scope.names.lookup y = some .local := a
          have hk' : X.env.scope.names.lookup y = some .cell := hk
          rw [hk'] at a'
          cases a'
        · have hfr : (y, NameKind.free) ∈ scope.names := by
            have hmem := mem_of_lookup hk2
            unfold relabelN at hmem
            obtain ⟨⟨n, k0⟩, hn0, en⟩ := List.mem_map.mp hmem
            dsimp only at en
            split at en
            · rename_i hc0
              simp only [Bool.and_eq_true] at hc0
              have hk0 : k0 = .free := by simpa using hc0.1.1
              cases en
              rw [← hk0]
              exact hn0
            · cases en
              exact absurd rfl (ok.nocell _ hn0)
          exact ⟨c, closOf_has hc hfr, hcell.keeps hold⟩
    cell := fun y c e => by
      obtain ⟨v, hv⟩ := I3.cell y c (hclos _ _ e)
      exact ⟨v, hv.keeps hold⟩
    free := I3.fresh
    freeC := fun y c e => I3.freeC y c (hclos _ _ e)
    pin := fun q hq => by cases hq
    hok := I3.hok.kept hold
    len := by
      show (none :: none :: caps fr σ).length = (x :: x2 :: ys).length
      rw [List.length_cons, List.length_cons, List.length_cons, List.length_cons, ok.len]
      unfold caps
      rw [List.length_map] }
  have hxl : (cxComp2 X x x2 ys scope h3.objs.size { s2 with heap := h3 } H3 fp).env.scope.names.lookup x = some .local := ok.xl
  have hxl2 : (cxComp2 X x x2 ys scope h3.objs.size { s2 with heap := h3 } H3 fp).env.scope.names.lookup x2 = some .local := ok.xl2
  have pgx : PG (cxComp2 X x x2 ys scope h3.objs.size { s2 with heap := h3 } H3 fp) (.Tuple [.Name x px, .Name x2 px2] kk tpos) (gTup X.K 2 (gCons (gName 0) (gCons (gName 1) gNil))) :=
    pg_tup hcalm (pgs_cons (pg_name (i := 0) ok.nd rfl (.inl hxl) (.inr hxl)) (pgs_cons (pg_name (i := 1) ok.nd rfl (.inl hxl2) (.inr hxl2)) pgs_nil))
  have pel := hE h3.objs.size { s2 with heap := h3 } H3 fp
  obtain ⟨W, ⟨m0, w0⟩, turn⟩ := W0
  have stat : ∀ {H' : Hp}, (∀ b ∈ fp, H' b = none) → ∀ b ∈ fp, FpOk (cxComp2 X x x2 ys scope h3.objs.size { s2 with heap := h3 } H3 fp) [] H' b := fun hn b hb =>
    ⟨hn b hb, (Yok.exf b hb).1, Yok.exfs b hb, .inl hb, (Yok.exf b hb).2, fun q hq => by cases hq⟩
  have loop : codeAny (model X.prog X.w) X.A (.compLoop (.ListComp elt [⟨.Tuple [.Name x px, .Name x2 px2] kk tpos, iter, [], 0⟩] scope pos) 0 (.ref it) (.ref p) (compEnvC scope (closOf X.env.cells scope.names) h3.objs.size X.env))
      (compPost (model X.prog X.w) X.A X.xe use Qv (.ref p) h3.objs.size) { s2 with heap := h₁, toks := s2.toks + ([] : List (Str × Value)).length } := by
    refine compLoop_list (fun n s' => ∃ i zs v0 w0 H', Inv (cxComp2 X x x2 ys scope h3.objs.size { s2 with heap := h3 } H3 fp) [] (v0 :: w0 :: caps fr σ) H' s' ∧ tn i s'.heap ∧ (∀ b ∈ fp, H' b = none) ∧ W i n zs H') ?_ m0
      ⟨0, [], none, none, H3, IY, T.keep _ _ _ st3 fun b hb o e => hold b o e, fH3, w0⟩
    rintro n s5 ⟨i, zs, v0, wv0, H5, I5, st5, fr5, w5⟩
    obtain ⟨hacc, turn5⟩ := turn i n zs H5 w5
    rcases turn5 with ⟨stop, qn⟩ | ⟨go, hlen, step⟩
    · refine thn (T.done (cxComp2 X x x2 ys scope h3.objs.size { s2 with heap := h3 } H3 fp) rfl rfl rfl hcalm i [] s5 _ H5 _ I5 (stat fr5) st5 stop) fun r s6 ⟨hr, I6⟩ => ?_
      subst hr
      obtain ⟨m6, n6, _⟩ := I6.loc
      refine fin p h3.objs.size H5 s6 m6 (I3.call' I6.os I6.base I6.hok I6.bare fun b hb => ⟨(f2 b hb).2.2.2.1, (f2 b hb).2.1, (f2 b hb).2.2.2.2.1, (f2 b hb).2.2.2.2.2⟩) n6 I6.free (Nat.ne_of_gt hlt3) I3.sz (fun y c e => Nat.ne_of_lt (hcell3 y c e)) (fun q hq => ?_) qn
      exact Nat.ne_of_lt (Heap.lt_size (I3.pin q hq).1)
    · refine thn (T.item (cxComp2 X x x2 ys scope h3.objs.size { s2 with heap := h3 } H3 fp) rfl rfl rfl hcalm i [] s5 _ H5 _ I5 (stat fr5) st5 go) fun r s6 ⟨u, hr, h6⟩ => ?_
      subst hr
      refine thn h6 fun _ s7 ⟨xv, H7, I7, r7, y7, st7, fr7⟩ => ?_
      have I7' := I7.pinned (stat fr7) (T.obj _ _ st7)
      obtain ⟨T7, v1, v2, eT, hT7, step7⟩ := step xv H7 y7
      refine thn (pgx _ s7 _ H7 xv u (fun σ' H' => σ' = some v1 :: some v2 :: caps fr σ ∧ H' = H7) I7' r7 ⟨T7, [v1, v2], eT, SqT.of hT7, rfl, v1, [v2], rfl, v2, [], rfl, rfl, rfl, rfl⟩) fun _ s8 ⟨σ8, H8, I8, e8, e8'⟩ => ?_
      subst e8 e8'
      refine thn (pel _ s8 _ H8 _ I8 step7) fun yv s9 ⟨v9, H9, I9, r9, hp9, m', hm', w9⟩ => ?_
      refine thn (mt_append _ s9 _ H9 (.ref p) [v9] (.ref p) [yv] (fun _ H' => H' = upd H9 p (.lst (zs ++ [v9]))) I9 rfl (.cons r9 .nil) ⟨p, zs, v9, rfl, rfl, hp9, hlen, rfl⟩) fun _ s10 ⟨_, H10, I10, _, e10⟩ => ?_
      subst e10
      refine ⟨m', hm', i + 1, zs ++ [v9], some v1, some v2, _, I10.unpinned, T.keep _ _ _ st7 fun b hb o e => (I10.pin (b, o) (List.mem_append_right _ (List.mem_append_right _ (mem_pinsAt hb e)))).1, fun b hb => ?_, w9⟩
      obtain ⟨o, e, d⟩ := T.obj _ _ st7 b hb
      exact (I10.pin (b, o) (List.mem_append_right _ (List.mem_append_right _ (mem_pinsAt hb e)))).2.1
  exact codeAny_compStart_list loop (T.self X.A 0 _ _ _ (T.keep _ _ _ st3 fun b hb o e => hold b o e) loop)
theorem pe_comp2 (hcalm : X.calm = true) (hi : PI X (.Tuple [.Name x px, .Name x2 px2] kk tpos) iter wi) (hsc : X.env.scope = sc0) (hN : X.N = N0) (ok : CompOk2 sc0 N0 scope x x2 ys fr)
    (hE : ∀ C s H ex, PE (cxComp2 X x x2 ys scope C s H ex) elt te) (hs : ∀ v, foldedSetIterable iter X.env v = pure v := by intro _; rfl) :
    PE X (.ListComp elt [⟨.Tuple [.Name x px, .Name x2 px2] kk tpos, iter, [], 0⟩] scope pos) (tComp2 wi fr te) := by
  intro pins s σ H Q I h
  rw [eval_ListComp]
  refine comp_core2 (use := none) (Qv := EP X pins σ Q) (Q := Q) hcalm hi hsc hN ok hE I h hs fun p C H' s' m I' hn h0 h1 h2 h3 h4 q => ?_
  refine ⟨m, hn, fun h' sb => ⟨.ref p, H', I'.turned (t' := s'.toks) (fun b o hb e => sb.extBut b o hb e) h0 (Ne.symm (Ne.symm h1)) (.inr h2) h3 h4, rfl, q⟩⟩
end
end L2
namespace L2
open PySem PySem.Spec PyProof.Rows
section
variable {prog : Program} {w : World} {A : Around} {R : Result → Shared → Prop} {s : Shared}
theorem compLoop_listT {elt target iter cnd : Expr} {scope : Scope} {pos : Pos} {it acc : Value} {env : Env} (I : Nat → Shared → Prop)
    (turn : ∀ n s, I n s → wpAny (model prog w) A (pyNext it) (fun r s₁ => match r with
      | none => R (.ok .next) s₁
      | some v => wpAny (model prog w) A (letOwnedTupleGo target it v) (fun _ s₁' => wpAny (model prog w) A (assign target env v) (fun _ s₂ => wpAny (model prog w) A (isTrue cnd env (eval cnd env)) (fun ok s₃ =>
          if ok = true then wpAny (model prog w) A (eval elt env) (fun x s₄ =>
            wpAny (model prog w) A (call (.builtin "list.append") [acc, x]) (fun _ s₅ => ∃ m, m < n ∧ I m s₅) (fun _ _ => False) s₄) (fun _ _ => False) s₃
          else ∃ m, m < n ∧ I m s₃) (fun _ _ => False) s₂) (fun _ _ => False) s₁') (fun _ _ => False) s₁) (fun _ _ => False) s)
    (n : Nat) (h : I n s) : codeAny (model prog w) A (.compLoop (.ListComp elt [⟨target, iter, [cnd], 0⟩] scope pos) 0 it acc env) R s := by
  refine codeAny_loop rfl I (fun n s hI => ?_) n h
  show wpAny _ _ ((compTurn (.ListComp elt [⟨target, iter, [cnd], 0⟩] scope pos) 0 it acc env).onRaise (fun x => do noteFrame x env; theTreesLotGoes x)) _ _ s
  refine wpAny_noted ?_
  rw [compTurn_list]
  refine wpAny_noRaise ?_
  refine wpAny_bind (wpAny_standAt (wpAny_bind (wpAny_mono (turn n s hI) (fun r s₁ h₁ => ?_) fun _ _ h' => h')))
  cases r with
  | none => exact wpAny_pure h₁
  | some v =>
    refine wpAny_bind (wpAny_mono h₁ (fun _ s₁' h₁' => ?_) fun _ _ h' => h')
    refine wpAny_bind (wpAny_mono h₁' (fun _ s₂ h₂ => wpAny_bind (wpAny_mono (wpAny_tests_one h₂) (fun ok s₃ h₃ => ?_) fun _ _ h' => h')) fun _ _ h' => h')
    cases ok with
    | false => exact wpAny_pure ⟨rfl, h₃⟩
    | true =>
      exact wpAny_bind (wpAny_bind (wpAny_mono h₃ (fun x s₄ h₄ => wpAny_bind (wpAny_mono h₄ (fun _ s₅ h₅ => wpAny_pure (wpAny_pure ⟨rfl, h₅⟩)) fun _ _ h' => h')) fun _ _ h' => h'))
end
noncomputable def tCompWT (fr : List Nat) (tc : TT) (te : TE) (σ : St) (J : It) (H1 : Hp) (Q : VK) : Prop :=
  ∀ p, H1 p = none → ∃ W : Nat → Nat → List V → Hp → Prop, (∃ m, W 0 m [] (upd H1 p (.lst []))) ∧ ∀ i m ys H, W i m ys H → H p = some (.lst ys) ∧
    ((J.stop i H ∧ Q (.ref p) H) ∨ (J.go i H ∧ ys.length < sizeLine ∧ ∀ x H', J.yld i H x H' → tc (some x :: caps fr σ) H' fun b H2 => if b = true then te (some x :: caps fr σ) H2 fun v H3 =>
      H3 p = some (.lst ys) ∧ ∃ m', m' < m ∧ W (i + 1) m' (ys ++ [v]) (upd H3 p (.lst (ys ++ [v]))) else ∃ m', m' < m ∧ W (i + 1) m' ys H2))
noncomputable def tCompT (wi : TI) (fr : List Nat) (tc : TT) (te : TE) : TE := fun σ H Q => wi σ H fun J H1 => tCompWT fr tc te σ J H1 Q
section
variable {X : Cx} {x : Str} {px pos fpos : Pos} {iter elt cnd : Expr} {scope sc0 : Scope} {N0 ys : List Str} {fr : List Nat} {wi : TI} {tc : TT} {te : TE} {pins : List (Addr × Obj)} {σ : St} {H : Hp} {s : Shared}
theorem comp_coreT {use : Option (Value → Sem Unit)} {Qv : Value → Shared → Prop} {Q : VK} (hcalm : X.calm = true) (hi : PI X (.Name x px) iter wi) (hsc : X.env.scope = sc0) (hN : X.N = N0) (ok : CompOk sc0 N0 scope x ys fr)
    (hT : ∀ C s H ex, PT (cxComp X x ys scope C s H ex) cnd tc) (hE : ∀ C s H ex, PE (cxComp X x ys scope C s H ex) elt te) (I : Inv X pins σ H s) (h : tCompT wi fr tc te σ H Q) (hs : ∀ v, foldedSetIterable iter X.env v = pure v)
    (fin : ∀ (p C : Addr) (H' : Hp) (s' : Shared) (m : Str → Option Value), Inv X pins σ H' s' → s'.heap.Ns C m → H' C = none → C ≠ X.env.locals → X.s₀.heap.objs.size ≤ C → (∀ y c, X.env.cells.lookup y = some c → c ≠ C) → (∀ q ∈ X.pn ++ pins, q.1 ≠ C) → Q (.ref p) H' →
      compPost (model X.prog X.w) X.A X.xe use Qv (.ref p) C (.ok .next) s') :
    wpAny (model X.prog X.w) X.A (comprehension (.ListComp elt [⟨.Name x px, iter, [cnd], 0⟩] scope pos) scope X.env fpos (newList []) false (eval iter X.env) use) Qv X.xe s := by
  subst hsc hN
  have hkof : ∀ y, X.env.kindOf y = X.env.scope.names.lookup y := fun y => rfl
  have hfree : ∀ y ∈ scope.names, y.2 = .free → ∃ c, X.env.cells.lookup y.1 = some c := fun y hy e => I.ok.has y.1 (.inl (ok.free y hy e))
  refine wpAny_comprehension_free (gs := []) rfl hs (closureFor_ok hfree) ok.kind ok.loc (thn (hi pins s σ H _ I h) fun v s1 h1 => thn h1 fun itv s2 h2 => ?_)
  obtain ⟨it, fp, tn, J, H2, e, I2, T, st2, f2, hp⟩ := h2
  subst e
  refine wpAny_newObj_type (wpAny_newFunctionEnv ok.nocell (by intro y hy; simp at hy) (fun h₁ hns₁ hsb₁ => ?_) ok.kind)
  dsimp only at hns₁ hsb₁ ⊢
  have I3 : Inv X pins σ (upd H2 s2.heap.objs.size (.lst [])) { s2 with heap := s2.heap.push { cls := .type "list", data := .seq ([] : List Value).toArray } } :=
    I2.lnew (its := []) (ys := []) (t' := s2.toks) .nil (Nat.zero_le _)
  have hf2 : ∀ b ∈ fp, b < s2.heap.objs.size := fun b hb => by
    obtain ⟨o, e, _⟩ := T.obj _ _ st2 b hb
    exact Heap.lt_size e
  have hps : s2.heap.objs.size < (s2.heap.push { cls := .type "list", data := .seq ([] : List Value).toArray }).objs.size := by rw [Heap.size_push]; exact Nat.lt_succ_self _
  have W0 := hp s2.heap.objs.size I2.fresh
  have st3 : tn 0 (s2.heap.push { cls := .type "list", data := .seq ([] : List Value).toArray }) := T.keep _ _ _ st2 fun b hb o e => Heap.get?_push_of_some _ e
  generalize hpp : s2.heap.objs.size = p at I3 W0 hf2 hps ⊢
  generalize hh3 : (s2.heap.push { cls := .type "list", data := .seq ([] : List Value).toArray }) = h3 at I3 hns₁ hsb₁ hps st3 ⊢
  generalize hH3 : upd H2 p (.lst []) = H3 at I3 W0
  have hold : ∀ b o, h3.get? b = some o → h₁.get? b = some o := fun b o e => hsb₁.extBut b o (Nat.ne_of_lt (Heap.lt_size e)) (Heap.get?_push_of_some _ e)
  have fH3 : ∀ b ∈ fp, H3 b = none := fun b hb => by
    rw [← hH3, upd_ne (Nat.ne_of_lt (hf2 b hb))]
    exact (f2 b hb).1
  have hclos : ∀ y c, (closOf X.env.cells scope.names).lookup y = some c → X.env.cells.lookup y = some c := fun y c e => closOf_sound e
  have hcell3 : ∀ y c, X.env.cells.lookup y = some c → c < h3.objs.size := fun y c e => by
    obtain ⟨v, o, ho, _⟩ := I3.cell y c e
    exact Heap.lt_size ho
  have hlt3 : X.env.locals < h3.objs.size := I3.lt
  have Yok : (cxComp X x ys scope h3.objs.size { s2 with heap := h3 } H3 fp).Ok := {
    mod := I.ok.mod
    kind := ok.kind
    glob := I.ok.glob
    blt := I.ok.blt
    above := Nat.le_refl _
    inj := fun y z c e1 e2 => I.ok.inj y z c (hclos _ _ e1) (hclos _ _ e2)
    has := fun y hk => by
      have hfr : (y, NameKind.free) ∈ scope.names := by
        have hm : ∃ k, (relabelN X.env.scope scope).lookup y = some k ∧ (k = .cell ∨ k = .free) := by
          rcases hk with hk | hk
          · exact ⟨_, hk, .inl rfl⟩
          · exact ⟨_, hk, .inr rfl⟩
        obtain ⟨k, hk, hkk⟩ := hm
        have hmem := mem_of_lookup hk
        unfold relabelN at hmem
        obtain ⟨⟨n, k0⟩, hn, en⟩ := List.mem_map.mp hmem
        dsimp only at en
        split at en
        · rename_i hc
          simp only [Bool.and_eq_true] at hc
          have hk0 : k0 = .free := by simpa using hc.1.1
          cases en
          rw [← hk0]
          exact hn
        · cases en
          rcases hkk with e | e
          · exact absurd e (ok.nocell _ hn)
          · rw [← e]
            exact hn
      obtain ⟨c, hc⟩ := hfree _ hfr rfl
      exact ⟨c, closOf_has hc hfr⟩
    cab := fun y c hf _ => by cases hf
    hd := I.ok.hd
    frames := I.ok.frames
    stk := .inl rfl
    exf := fun b hb => ⟨fun e => absurd (hf2 b hb) (by rw [e]; exact Nat.not_lt.mpr (Nat.le_of_lt hps)), fun y c e => (f2 b hb).2.2.2.2.1 y c (hclos _ _ e)⟩
    bs := fun b o e => ⟨(I3.bs b o e).1, (I3.bs b o e).2⟩
    bsz := Nat.le_trans I.ok.bsz I3.sz
    noex := fun b o e hb => by
      rcases (f2 b hb).2.2.2.1 with q | q
      · exact I.ok.noex b o e q
      · have h1 : b < X.base.objs.size := Heap.lt_size e
        exact absurd h1 (Nat.not_lt.mpr (Nat.le_trans I.ok.bsz q))
    exfs := fun b hb hm => by
      rcases List.mem_cons.mp (I3.stkSub b hm) with q | q
      · exact (f2 b hb).2.1 q
      · exact (f2 b hb).2.2.1 q
    funs := I3.stack
    frf := I3.stkFree }
  have IY : Inv (cxComp X x ys scope h3.objs.size { s2 with heap := h3 } H3 fp) [] (none :: caps fr σ) H3 { s2 with heap := h₁, toks := s2.toks + ([] : List (Str × Value)).length } := {
    ok := Yok
    os := rfl
    bare := I2.bare
    base := Un.kept hold
    loc := by
      refine ⟨_, hns₁, fun i y v hy hv hvis => ?_⟩
      cases i with
      | zero => cases hv
      | succ j =>
        have hy' : ys[j]? = some y := hy
        have hv' : (caps fr σ)[j]? = some (some v) := hv
        unfold caps at hv'
        rw [List.getElem?_map] at hv'
        obtain ⟨i0, hi0, hv0⟩ := Option.map_eq_some_iff.mp hv'
        have hz : (y, i0) ∈ ys.zip fr := by
          refine List.mem_iff_getElem?.mpr ⟨j, ?_⟩
          rw [List.getElem?_zip_eq_some]
          exact ⟨hy', hi0⟩
        obtain ⟨hn, hk, hk2⟩ := ok.sl _ hz
        have hσ : σ[i0]? = some (some v) := by
          cases e : σ[i0]? with
          | none => rw [e] at hv0; cases hv0
          | some o =>
            rw [e] at hv0
            rw [show o = some v from hv0]
        obtain ⟨m, hm, hl⟩ := I3.loc
        obtain ⟨u, ru, lk⟩ := hl i0 y v hn hσ (.inr (.inl hk))
        refine ⟨u, ru, .inr ⟨.inl hk2, ?_⟩⟩
        rcases lk with ⟨a, _⟩ | ⟨_, c, hc, hcell⟩
        · have a' : X.env.scope.names.lookup y = some .local := a
          have hk' : X.env.scope.names.lookup y = some .cell := hk
          rw [hk'] at a'
          cases a'
        · have hfr : (y, NameKind.free) ∈ scope.names := by
            have hmem := mem_of_lookup hk2
            unfold relabelN at hmem
            obtain ⟨⟨n, k0⟩, hn0, en⟩ := List.mem_map.mp hmem
            dsimp only at en
            split at en
            · rename_i hc0
              simp only [Bool.and_eq_true] at hc0
              have hk0 : k0 = .free := by simpa using hc0.1.1
              cases en
              rw [← hk0]
              exact hn0
            · cases en
              exact absurd rfl (ok.nocell _ hn0)
          exact ⟨c, closOf_has hc hfr, hcell.keeps hold⟩
    cell := fun y c e => by
      obtain ⟨v, hv⟩ := I3.cell y c (hclos _ _ e)
      exact ⟨v, hv.keeps hold⟩
    free := I3.fresh
    freeC := fun y c e => I3.freeC y c (hclos _ _ e)
    pin := fun q hq => by cases hq
    hok := I3.hok.kept hold
    len := by
      show (none :: caps fr σ).length = (x :: ys).length
      rw [List.length_cons, List.length_cons, ok.len]
      unfold caps
      rw [List.length_map] }
  have hxl : (cxComp X x ys scope h3.objs.size { s2 with heap := h3 } H3 fp).env.scope.names.lookup x = some .local := ok.xl
  have pgx : PG (cxComp X x ys scope h3.objs.size { s2 with heap := h3 } H3 fp) (.Name x px) (gName 0) := pg_name (i := 0) ok.nd rfl (.inl hxl) (.inr hxl)
  have pel := hE h3.objs.size { s2 with heap := h3 } H3 fp
  have ptl := hT h3.objs.size { s2 with heap := h3 } H3 fp
  obtain ⟨W, ⟨m0, w0⟩, turn⟩ := W0
  have stat : ∀ {H' : Hp}, (∀ b ∈ fp, H' b = none) → ∀ b ∈ fp, FpOk (cxComp X x ys scope h3.objs.size { s2 with heap := h3 } H3 fp) [] H' b := fun hn b hb =>
    ⟨hn b hb, (Yok.exf b hb).1, Yok.exfs b hb, .inl hb, (Yok.exf b hb).2, fun q hq => by cases hq⟩
  have loop : codeAny (model X.prog X.w) X.A (.compLoop (.ListComp elt [⟨.Name x px, iter, [cnd], 0⟩] scope pos) 0 (.ref it) (.ref p) (compEnvC scope (closOf X.env.cells scope.names) h3.objs.size X.env))
      (compPost (model X.prog X.w) X.A X.xe use Qv (.ref p) h3.objs.size) { s2 with heap := h₁, toks := s2.toks + ([] : List (Str × Value)).length } := by
    refine compLoop_listT (fun n s' => ∃ i zs v0 H', Inv (cxComp X x ys scope h3.objs.size { s2 with heap := h3 } H3 fp) [] (v0 :: caps fr σ) H' s' ∧ tn i s'.heap ∧ (∀ b ∈ fp, H' b = none) ∧ W i n zs H') ?_ m0
      ⟨0, [], none, H3, IY, T.keep _ _ _ st3 fun b hb o e => hold b o e, fH3, w0⟩
    rintro n s5 ⟨i, zs, v0, H5, I5, st5, fr5, w5⟩
    obtain ⟨hacc, turn5⟩ := turn i n zs H5 w5
    rcases turn5 with ⟨stop, qn⟩ | ⟨go, hlen, step⟩
    · refine thn (T.done (cxComp X x ys scope h3.objs.size { s2 with heap := h3 } H3 fp) rfl rfl rfl hcalm i [] s5 _ H5 _ I5 (stat fr5) st5 stop) fun r s6 ⟨hr, I6⟩ => ?_
      subst hr
      obtain ⟨m6, n6, _⟩ := I6.loc
      refine fin p h3.objs.size H5 s6 m6 (I3.call' I6.os I6.base I6.hok I6.bare fun b hb => ⟨(f2 b hb).2.2.2.1, (f2 b hb).2.1, (f2 b hb).2.2.2.2.1, (f2 b hb).2.2.2.2.2⟩) n6 I6.free (Nat.ne_of_gt hlt3) I3.sz (fun y c e => Nat.ne_of_lt (hcell3 y c e)) (fun q hq => ?_) qn
      exact Nat.ne_of_lt (Heap.lt_size (I3.pin q hq).1)
    · refine thn (T.item (cxComp X x ys scope h3.objs.size { s2 with heap := h3 } H3 fp) rfl rfl rfl hcalm i [] s5 _ H5 _ I5 (stat fr5) st5 go) fun r s6 ⟨u, hr, h6⟩ => ?_
      subst hr
      refine thn h6 fun _ s7 ⟨xv, H7, I7, r7, y7, st7, fr7⟩ => ?_
      have I7' := I7.pinned (stat fr7) (T.obj _ _ st7)
      refine thn (pgx _ s7 _ H7 xv u (fun σ' H' => σ' = some xv :: caps fr σ ∧ H' = H7) I7' r7 ⟨rfl, rfl⟩) fun _ s8 ⟨σ8, H8, I8, e8, e8'⟩ => ?_
      subst e8 e8'
      refine thn (ptl _ s8 _ H8 _ I8 (step xv H8 y7)) fun bb s8' ⟨H8', I8', hb⟩ => ?_
      cases bb with
      | false =>
        obtain ⟨m', hm', w9⟩ := hb
        refine ⟨m', hm', i + 1, zs, some xv, _, I8'.unpinned, T.keep _ _ _ st7 fun b hb o e => (I8'.pin (b, o) (List.mem_append_right _ (List.mem_append_right _ (mem_pinsAt hb e)))).1, fun b hb => ?_, w9⟩
        obtain ⟨o, e, d⟩ := T.obj _ _ st7 b hb
        exact (I8'.pin (b, o) (List.mem_append_right _ (List.mem_append_right _ (mem_pinsAt hb e)))).2.1
      | true =>
      refine thn (pel _ s8' _ H8' _ I8' hb) fun yv s9 ⟨v9, H9, I9, r9, hp9, m', hm', w9⟩ => ?_
      refine thn (mt_append _ s9 _ H9 (.ref p) [v9] (.ref p) [yv] (fun _ H' => H' = upd H9 p (.lst (zs ++ [v9]))) I9 rfl (.cons r9 .nil) ⟨p, zs, v9, rfl, rfl, hp9, hlen, rfl⟩) fun _ s10 ⟨_, H10, I10, _, e10⟩ => ?_
      subst e10
      refine ⟨m', hm', i + 1, zs ++ [v9], some xv, _, I10.unpinned, T.keep _ _ _ st7 fun b hb o e => (I10.pin (b, o) (List.mem_append_right _ (List.mem_append_right _ (mem_pinsAt hb e)))).1, fun b hb => ?_, w9⟩
      obtain ⟨o, e, d⟩ := T.obj _ _ st7 b hb
      exact (I10.pin (b, o) (List.mem_append_right _ (List.mem_append_right _ (mem_pinsAt hb e)))).2.1
  exact codeAny_compStart_list loop (T.self X.A 0 _ _ _ (T.keep _ _ _ st3 fun b hb o e => hold b o e) loop)
theorem pe_compT (hcalm : X.calm = true) (hi : PI X (.Name x px) iter wi) (hsc : X.env.scope = sc0) (hN : X.N = N0) (ok : CompOk sc0 N0 scope x ys fr)
    (hT : ∀ C s H ex, PT (cxComp X x ys scope C s H ex) cnd tc) (hE : ∀ C s H ex, PE (cxComp X x ys scope C s H ex) elt te) (hs : ∀ v, foldedSetIterable iter X.env v = pure v := by intro _; rfl) :
    PE X (.ListComp elt [⟨.Name x px, iter, [cnd], 0⟩] scope pos) (tCompT wi fr tc te) := by
  intro pins s σ H Q I h
  rw [eval_ListComp]
  refine comp_coreT (use := none) (Qv := EP X pins σ Q) (Q := Q) hcalm hi hsc hN ok hT hE I h hs fun p C H' s' m I' hn h0 h1 h2 h3 h4 q => ?_
  refine ⟨m, hn, fun h' sb => ⟨.ref p, H', I'.turned (t' := s'.toks) (fun b o hb e => sb.extBut b o hb e) h0 (Ne.symm (Ne.symm h1)) (.inr h2) h3 h4, rfl, q⟩⟩
end
end L2
namespace HT
open PySem PyProof.Rows
end HT
namespace HT
open PySem PyProof.Rows
section
variable {prog : Program} {w : World} {A : Around} {s : Shared} {E : Value → Shared → Prop}
end
end HT
namespace L2
open PySem PySem.Spec PyProof.Rows
section
variable {X : Cx}
theorem op_catTA : OpR X (binaryOp .Add) (fun x y H Q => ∃ a b xs ys, x = .ref a ∧ y = .ref b ∧ SqT X.K H a xs ∧ SqT X.K H b ys ∧ xs.length + ys.length ≤ sizeLine ∧ (xs = [] → Q (.ref b) H) ∧ (xs ≠ [] → ys = [] → Q (.ref a) H) ∧
    (xs ≠ [] → ys ≠ [] → ∀ p, H p = none → Q (.ref p) (upd H p (.tup (xs ++ ys))))) := by
  intro pins s σ H x y v u Q I rx ry h
  obtain ⟨a, b, xs, ys, rfl, rfl, ha, hb, hz, q0, q1, q2⟩ := h
  by_cases hx : xs = []
  · subst hx
    cases rx
    cases ry
    obtain ⟨its, r1, p1, _⟩ := I.tuple ha
    obtain ⟨its2, r2, p2, _⟩ := I.tuple hb
    cases r1
    obtain ⟨⟨cls, dd, data, sl⟩, ho, hc, n, hd⟩ := id p1
    obtain ⟨⟨cls2, dd2, data2, sl2⟩, ho2, hc2, n2, hd2⟩ := id p2
    simp only at hc hd hc2 hd2
    subst hc hd hc2 hd2
    exact concat_meets ⟨_, ho, rfl⟩ ⟨_, ho2, rfl⟩ noFill_tuple_add seq_tuple_add PySem.F.slot_tuple_add PySem.F.entry_tuple_add (PySem.F.args_tuple_add_2 _ _)
      (tuple_addW0 a b #[] its2.toArray n n2 dd dd2 sl sl2 rfl) ⟨ho, ho2, ⟨.ref b, H, I, rfl, q0 rfl⟩⟩
  · exact op_catT pins s σ H _ _ v u Q I rx ry ⟨a, b, xs, ys, rfl, rfl, ha, hb, hx, hz, q1 hx, q2 hx⟩
end
end L2
namespace L2
open PySem PySem.Spec PyProof.Rows
section
variable {base G h h' : Heap}
end
section
variable {base h h' : Heap} {l : List Env} {x C : Addr} {hs : List Addr}
end
section
variable {M : Model} {A : Around} {E : Value → Shared → Prop} {s : Shared} {base : Heap} {env : Env} {outer : List Env} {L x C T : Addr} {Q : Unit → Shared → Prop}
end
section
variable {P : Program} {w : World} {K : PySem.W.Frag} {mg : Str → Option Value} {base : Heap} {N : List Str} {qual : Str} {scope : Scope} {f : Addr} {cd : Value} {A : Around} {outer : List Env} {s : Shared} {H : Hp} {E : XK} {C : Addr}
end
section
open PySem.W (excIn tailIn nsOkIn nsIn)
variable {X : Cx} {C : Addr} {x : Str} {np cpos pos : Pos} {e : Expr} {es : List Expr} {t : TA} {E : XK} {bmB : List Value} {newId initId : String}
end
end L2
namespace L2
open PySem PySem.Spec PyProof.Rows
open PySem.W (findIn specialIn takesIn mroIn clsIn Looks)
section
variable {prog : Program} {w : World} {A : Around} {E : Value → Shared → Prop} {K : PySem.W.Frag} {x C : Addr}
open PySem.Builtin PySem.Builtin.ObjectAttr PySem.Builtin.Getset_descriptor PySem.W
end
section
variable {X : Cx}
end
end L2
namespace L2
open PySem PySem.Spec PyProof.Rows
open PySem.W (findIn specialIn takesIn mroIn clsIn typeIn Looks)
section
variable {P : Program} {w : World} {C : Addr} {stack : List Env} {H H' : Hp} {h₀ h h' base : Heap} {x T : Addr}
end
section
variable {M : Model} {A : Around} {E : Value → Shared → Prop} {s : Shared} {base : Heap} {env : Env} {outer : List Env} {L x C T : Addr}
end
end L2
namespace L2
open PySem PySem.Spec PyProof.Rows
open PySem.W (findIn specialIn takesIn mroIn clsIn typeIn Looks)
section
variable {X : Cx} {pins : List (Addr × Obj)} {σ : St} {H : Hp} {s : Shared} {e : Value}
end
section
variable {X : Cx}
end
end L2
namespace HT
open PySem PyProof.Rows
open PySem.AutoSeq1 (wpAny_loadPart')
section
variable {prog : Program} {w : World} {A : Around} {s : Shared} {E : Value → Shared → Prop}
end
end HT
namespace L2
open PySem PySem.Spec PyProof.Rows
end L2
namespace L2
open PySem PySem.Spec PyProof.Rows
section
variable {X : Cx} {x x2 : Str} {px px2 tpos pos fpos : Pos} {kk : Nat} {iter elt : Expr} {scope sc0 : Scope} {N0 ys : List Str} {fr : List Nat} {wi : TI} {te : TE}
inductive rCatTA (K : PySem.W.Frag) (x : V) (y : V) (H : Hp) (Q : VK) : Prop
  | mk : ∀ a b xs ys, (x = .ref a) → (y = .ref b) → (SqT K H a xs) → (SqT K H b ys) → (xs.length + ys.length ≤ sizeLine) → ((xs = [] → Q (.ref b) H)) → ((xs ≠ [] → ys = [] → Q (.ref a) H)) → ((xs ≠ [] → ys ≠ [] → ∀ p, H p = none → Q (.ref p) (upd H p (.tup (xs ++ ys))))) → rCatTA K x y H Q
theorem op_catTB : OpR X (binaryOp .Add) (rCatTA X.K) := by
  intro pins s σ H x y v u Q I rx ry h
  obtain ⟨a, b, xs, ys, e1, e2, h1, h2, h3, q1, q2, q3⟩ := h
  exact op_catTA pins s σ H x y v u Q I rx ry ⟨a, b, xs, ys, e1, e2, h1, h2, h3, q1, q2, q3⟩
end
end L2
namespace L2
open PySem PySem.Spec PyProof.Rows
section
variable {X : Cx}
end
end L2
namespace L2
open PySem PySem.Spec PyProof.Rows
open PySem.W (findIn specialIn takesIn mroIn clsIn typeIn Looks)
section
variable {X : Cx}
end
end L2
namespace L2
open PySem PySem.Spec PyProof.Rows
section
variable {X : Cx}
end
end L2
namespace HT
open PySem PyProof.Rows
section
variable {prog : Program} {w : World} {A : Around} {s : Shared} {E : Value → Shared → Prop}
end
end HT
namespace L2
open PySem PySem.Spec PyProof.Rows
end L2
namespace L2
open PySem PySem.Spec PyProof.Rows
section
variable {X : Cx}
end
end L2
namespace HT
open PySem PyProof.Rows
section
variable {prog : Program} {w : World} {A : Around} {s : Shared} {E : Value → Shared → Prop}
theorem getItem_tuple_all {t sl : Addr} {items : Array Value} {vl vu : Value} {lo hi : Option Int} {Q : Value → Shared → Prop} (ht : IsTup s.heap t items) (hs : s.heap.IsSliceOf sl vl vu .none) (pl : IsPart vl lo) (pu : IsPart vu hi)
    (i1 : sIx items.size 0 lo = 0) (i2 : sIx items.size items.size hi = items.size) (h : Q (.ref t) s) : wpAny (model prog w) A (getItem (.ref t) (.ref sl)) Q E s := by
  obtain ⟨os, hos, hcs, hds⟩ := id hs
  have hTs : s.TypeIs (.ref sl) "slice" := ⟨os, hos, hcs⟩
  unfold getItem
  try with_reducible refine wpAny_holding ?_
  first | refine wpAny_bind (wpAny_pure ?_) | skip
  refine wpAny_bind (wpAny_sequenceKey ht.typeIs (by decide) (wpAny_bind (wpAny_callSpecial?_slot (name := Str.ofString "__getitem__") ht.typeIs PyProof.Rows.slot_tuple_getitem
    (wpAny_call_entry PyProof.Rows.slot_tuple_getitem ht.typeIs entry_tuple_getitem ?_ (args_tuple_getitem _ _)))))
  refine (show wpAny _ _ (Builtin.Tuple.tupleItemsOf (.ref t) >>= _) _ _ s from wpAny_bind (tupleItemsOf_ ht (wpAny_bind (wpAny_typeOf hTs ?_))))
  rw [if_pos (by decide)]
  refine wpAny_bind (sliceApplied_gen hs pl pu ?_)
  rw [i1, i2]
  refine (show wpAny _ _ (if (((0 : Nat) : Int) == 0 && (1 : Int) == 1 && (items.size - 0) == items.size) = true then _ else _) _ _ s from ?_)
  rw [if_pos (by simp)]
  refine wpAny_bind (m := Builtin.Tuple.tupleIsExact _) ?_
  unfold Builtin.Tuple.tupleIsExact
  refine wpAny_bind (wpAny_typeOf ht.typeIs (wpAny_pure ?_))
  rw [if_pos (by decide)]
  exact wpAny_bind (wpAny_rule (wpAny_pure ⟨_, rfl, wpAny_pure h⟩))
end
end HT
namespace L2
open PySem PySem.Spec PyProof.Rows
section
variable {X : Cx}
inductive rSlA  (x : V) (lo : Option Int) (hi : Option Int) (H : Hp) (Q : VK) : Prop
  | mk : ∀ a xs, (x = .ref a) → (H a = some (.tup xs)) → (∀ p H', (∀ b o, H b = some o → H' b = some o) → H' p = some (.tup (cutV xs lo hi)) → Q (.ref p) H') → rSlA x lo hi H Q
theorem sl_tupA : SlR X rSlA := by
  intro pins s σ H x v vl vu lo hi sl Q I rx hs pl pu h
  obtain ⟨a, xs, ex, hx, q⟩ := h
  by_cases hw : HT.sIx xs.length 0 lo = 0 ∧ HT.sIx xs.length xs.length hi = xs.length
  · subst ex
    cases rx
    obtain ⟨its, r, ht, hz⟩ := I.tuple (SqT.of (K := X.K) hx)
    have hl := r.length
    refine ⟨"tuple", _, PyProof.Rows.slot_tuple_getitem.lookup, ht.typeIs, HT.getItem_tuple_all ht hs pl pu (by rw [List.size_toArray, ← hl]; exact hw.1) (by rw [List.size_toArray, ← hl]; exact hw.2) ⟨.ref a, H, I, rfl, q a H (fun _ _ h => h) ?_⟩⟩
    rw [hx]
    unfold cutV
    rw [hw.1, hw.2, List.drop_zero, Nat.sub_zero, List.take_length]
  · exact sl_tup pins s σ H x v vl vu lo hi sl Q I rx hs pl pu ⟨a, xs, ex, SqT.of hx, hw, fun p hp => q p _ (fun b o e => by rw [upd_ne (ne_of_none e hp)]; exact e) upd_same⟩
theorem op_mulB : OpR X (binaryOp .Mult) (rI IntMulOk fun i j => .int (i * j)) := opI fun _ _ _ _ _ _ _ hc q => mul_int q hc
theorem sumInts_all : ∀ (ns : List Int) (a : Int), PySem.W.Num.sumInts a (ns.map PySem.W.WData.int) = some (.int (a + sumI ns))
  | [], a => by show some (PySem.W.WData.int a) = some (.int (a + 0)); rw [Int.add_zero]
  | n :: r, a => by
    have fold : ∀ (r : List Int) (b : Int), PySem.W.Num.foldFrom PySem.W.Num.add (.int b) (r.map PySem.W.WData.int) = some (.int (b + sumI r)) := by
      intro r
      induction r with
      | nil => intro b; show some (PySem.W.WData.int b) = some (.int (b + 0)); rw [Int.add_zero]
      | cons m r ih =>
        intro b
        show PySem.W.Num.foldFrom PySem.W.Num.add (.int (b + m)) (r.map PySem.W.WData.int) = some (.int (b + (m + sumI r)))
        rw [ih, Int.add_assoc]
    show (if (PySem.W.Num.fitsLong n && PySem.W.Num.fitsLong (a + n)) = true then PySem.W.Num.sumInts (a + n) (r.map PySem.W.WData.int) else PySem.W.Num.foldFrom PySem.W.Num.add (.int (a + n)) (r.map PySem.W.WData.int)) = some (.int (a + (n + sumI r)))
    split
    · rw [sumInts_all r, Int.add_assoc]
    · rw [fold, Int.add_assoc]
theorem call_sumB (hc : X.calm = true) : CallR X (.builtin "sum") (fun xs H Q => ∃ (p : Addr) (ns : List Int), xs = [.ref p] ∧ SqL X.K H p (ns.map V.int) ∧ Q (.int (sumI ns)) H) := by
  intro pins s σ H xs us Q I r h
  obtain ⟨p, ns, rfl, hq, q⟩ := h
  obtain ⟨u, rfl, ru⟩ := vals1 r
  cases ru
  obtain ⟨its, rv, pl, hz⟩ := I.list hq
  have hl := pl.isList
  have hlt : p < s.heap.objs.size := by obtain ⟨_, e, _⟩ := hl; exact Heap.lt_size e
  have hlen : its.length = ns.length := by have := rv.length; rw [List.length_map] at this; lia
  refine PySem.Flt.call_sum_walkF (xs := ns.map PySem.W.WData.int) (r := .int (sumI ns)) (by rw [sumInts_all, Int.zero_add]) (wpAny_pyIter_list hl ?_)
  have W := Walks.toS (Walks.list (prog := X.prog) (w := X.w) (A := X.A.in1) (I.ok.hd hc) s.heap.objs.size p (Nat.ne_of_lt hlt) its.toArray)
  rw [show its.toArray.size = (ns.map PySem.W.WData.int).length by rw [List.size_toArray, List.length_map]; exact hlen] at W
  refine ⟨s.heap.objs.size, [s.heap.objs.size, p], [s.heap.objs.size], _, _, _, rfl, W, ⟨⟨_, Heap.get?_push_size _ rfl, rfl, rfl⟩, hl.push _⟩, fun b hb => ?_, fun i v hP => ?_, fun s' v hv hm => ?_⟩
  · show b < (s.heap.push _).objs.size
    rw [Heap.size_push]
    rcases List.mem_cons.mp hb with e | e
    · rw [e]; exact Nat.lt_succ_self _
    · rw [List.mem_singleton.mp e]; exact Nat.lt_succ_of_lt hlt
  · have hv : its[i]? = some v := by simpa using hP
    have hi : i < ns.length := by
      have := (List.getElem?_eq_some_iff.mp hv).1
      lia
    have hx : (ns.map V.int)[i]? = some (V.int ns[i]) := by rw [List.getElem?_map, List.getElem?_eq_getElem hi] <;> rfl
    obtain ⟨u, eu, ru⟩ := rv.get hx
    rw [hv] at eu
    cases eu
    obtain ⟨t, rfl⟩ := ru
    exact ⟨.int ns[i], by rw [List.getElem?_map, List.getElem?_eq_getElem hi] <;> rfl, .int _ t⟩
  · cases hv
    obtain ⟨hh, g, d, tk, os⟩ := s'
    obtain rfl : g = s.gens := hm.gens
    obtain rfl : d = s.drawn := hm.drawn
    obtain rfl : os = s.os := hm.os
    refine ⟨.int _, H, I.kept (t' := tk) (h' := hh) fun b o e => hm.heap b o (fun z => ?_) (Heap.get?_push_of_some _ e), ⟨_, rfl⟩, q⟩
    rw [List.mem_singleton.mp z] at e
    exact absurd (Heap.lt_size e) (Nat.lt_irrefl _)
theorem dp_empty {P : Program} {w : World} {H : Hp} (h : Heap) (hb : sysModules < h.objs.size) : ObjOk P w H (h.push { cls := .type "dict", data := .dict #[] }) h.objs.size (.dP []) :=
  ⟨Nat.zero_le _, beq_eq_false_iff_ne.mpr (Ne.symm (Nat.ne_of_lt hb)), [], .nil, _, #[], 0, Heap.get?_push_size _ rfl, ⟨rfl, rfl, rfl⟩, rfl, rfl, List.nodup_nil⟩
noncomputable def tDNewP : TE := fun _ H Q => ∀ p, H p = none → Q (.ref p) (upd H p (.dP []))
theorem pe_dnewP {pos : Pos} : PE X (.Dict [] [] pos) tDNewP := fun pins s σ H Q I h =>
  wpAny_Dict_empty ⟨.ref s.heap.objs.size, _, I.laid (a := s.heap.objs.size) (o := .dP []) (t' := s.toks) (fun _ _ q => Heap.get?_push_of_some _ q) (Nat.le_refl _) (dp_empty s.heap I.big), rfl, h _ (I.hok.fresh (Nat.le_refl _))⟩
noncomputable def tDisp1 (tk tv : TE) : TE := fun σ H Q => ∀ p, H p = none → tk σ (upd H p (.dT [])) fun x H1 => tv σ H1 fun y H2 => ∃ b ks, x = .ref b ∧ H2 b = some (.tup (List.map kV ks)) ∧ H2 p = some (.dT []) ∧ Q (.ref p) (upd H2 p (.dT [(ks, y)]))
theorem pe_disp1 {pos : Pos} {k v : Expr} {tk tv : TE} (hu : X.A.units + 16 < cLine) (hk : PE X k tk) (hv : PE X v tv) : PE X (.Dict [some k] [v] pos) (tDisp1 tk tv) := by
  intro pins s σ H Q I q
  have hn := I.hok.fresh (Nat.le_refl s.heap.objs.size)
  have I1 := I.laid (a := s.heap.objs.size) (o := .dT []) (h' := s.heap.push { cls := .type "dict", data := .dict #[] }) (t' := s.toks) (fun _ _ q => Heap.get?_push_of_some _ q) (Nat.le_refl _) (dt_empty s.heap I.big)
  rw [arm_eval_Dict, zip_pairTrees [some k] [v] X.env pos rfl rfl, dictDisplay_pairs (pairTrees [some k] [v] X.env pos) (by intro z; cases z) (show 1 < 17 by decide)]
  refine wpAny_bind (wpAny_standAt (wpAny_bind ?_))
  unfold subDict
  refine wpAny_bind (wpAny_alloc (wpAny_bind (wpAny_holding ?_)))
  rw [if_pos (show (pairTrees [some k] [v] X.env pos).length ≤ 15 by show 1 ≤ 15; decide)]
  refine wpAny_bind (pairTrees_cons_walk (thn (hk pins _ σ _ _ I1 (q _ hn)) fun u s1 ⟨x, H1, I2, rx, q1⟩ => thn (hv pins s1 σ H1 _ I2 q1) fun w2 s2 ⟨y, H2, I3, ry, b, ks, ex, hb, hp, q2⟩ => pairTrees_nil_walk ?_))
  subst ex
  cases rx
  refine wpAny_holding ?_
  rw [List.forIn_cons]
  obtain ⟨z, hd, xs, rel, dd⟩ := dt_of I3.hok hp
  cases rel
  refine wpAny_bind (wpAny_bind (wpAny_bind (wpAny_dictSet_heap (hsz := Nat.zero_le _) (knd := tupleKind (mixKind X.prog X.w)) (show X.A.units < cLine by lia) (key_of I3.hok hb) dd fun h' dd' hs => wpAny_pure ?_)))
  refine (show wpAny _ _ (forIn [] PUnit.unit _) _ _ _ from ?_)
  rw [List.forIn_nil]
  refine wpAny_pure (wpAny_pure (wpAny_pure (wpAny_pure ⟨.ref s.heap.objs.size, _, ?_, rfl, q2⟩)))
  obtain ⟨ob, es, ep, hq, h2, h3, h4, _, h5⟩ := dd'
  refine d_write I3 (by rw [hp]; exact True.intro) hs ⟨ob, hq⟩ ⟨(by show 1 ≤ sizeLine; decide), hd, _, (KT.put (kvs := []) .nil ks hb ry).keeps fun c ys ec => ?_, ob, es, ep, hq, h2, h3, h4, h5⟩
  rw [upd_ne (ne_of ec hp (fun z => nomatch z))]
  exact ec
theorem Inv.grow {pins : List (Addr × Obj)} {σ : St} {H H' : Hp} {s : Shared} {h' : Heap} {t' : Nat} (I : Inv X pins σ H s) (k : ∀ b u, s.heap.get? b = some u → h'.get? b = some u) (ag : ∀ b, b < s.heap.objs.size → H' b = H b)
    (new : ∀ b o, s.heap.objs.size ≤ b → H' b = some o → ObjOk X.prog X.w H' h' b o) : Inv X pins σ H' { s with heap := h', toks := t' } := by
  have lt : ∀ b o, H b = some o → b < s.heap.objs.size := fun b o e => by
    by_cases c : b < s.heap.objs.size
    · exact c
    · rw [I.hok.fresh (Nat.le_of_not_lt c)] at e; cases e
  have up : ∀ b o, H b = some o → H' b = some o := fun b o e => by rw [ag b (lt b o e)]; exact e
  refine I.un (t' := t') ⟨fun b o e _ _ _ => k b o e, fun b o e _ _ _ => ⟨o.slots, k b o e⟩, fun b o e n _ => ?_, fun b o e _ => ⟨o, k b o e⟩, fun b xs e => up _ _ e, fun b o u e => up _ _ e, fun b ps e => ⟨#[], by rw [up _ _ e, Array.append_empty]⟩⟩ fun b o e => ?_
  · rw [ag b (Heap.lt_size e)]; exact n
  · by_cases c : b < s.heap.objs.size
    · rw [ag b c] at e
      exact (I.hok b o e).stay (fun c v _ q => k c v q) (fun c q => up _ _ q) fun c zs q => up _ _ q
    · exact new b o (Nat.le_of_not_lt c) e
noncomputable def tLi (to : TE) : TE := fun σ H Q => to σ H fun x H1 => ∃ a kvs, x = .ref a ∧ H1 a = some (.dK kvs) ∧ ∀ p zs H2, H1 p = none → (∀ b o, H1 b = some o → H2 b = some o) → H2 p = some (.lst zs) →
  Paired (fun (kv : Key × V) z => ∃ T, z = .ref T ∧ H2 T = some (.tup [kV kv.1, kv.2])) kvs zs → Q (.ref p) H2
theorem kV_of {P : Program} {w : World} {k : Key} {u : Value} (h : (mixKind P w).is k u = true) : RelV (kV k) u := by
  rcases keyIs_shape h with ⟨i, t, rfl, rfl⟩ | ⟨x, t, rfl, rfl⟩
  · exact ⟨t, rfl⟩
  · exact ⟨t, rfl⟩
theorem kv_at : ∀ {kvs : List (Key × V)} {vs : List (Key × Value)} {j : Nat} {k : Key} {u : Value}, KV kvs vs → vs[j]? = some (k, u) → ∃ v, kvs[j]? = some (k, v) ∧ RelV v u
  | _, _, j, _, _, .nil, e => by cases j <;> cases e
  | _, _, 0, _, _, .cons (a := p) h _, e => by cases e; obtain ⟨k', v⟩ := p; obtain ⟨rfl, r⟩ := h; exact ⟨v, rfl, r⟩
  | _, _, j + 1, _, _, .cons _ t, e => kv_at (j := j) t e
noncomputable def gH (n : Nat) (H : Hp) (as : List Nat) (kvs : List (Key × V)) : Hp := fun (b : Nat) => if b < n then H b else if b = n + 1 then some (.lst (as.map V.ref)) else (kvs[as.idxOf b]?).map fun kv => .tup [kV kv.1, kv.2]
theorem gH_old {n b : Nat} {H : Hp} {as : List Nat} {kvs : List (Key × V)} (h : b < n) : gH n H as kvs b = H b := if_pos h
theorem gH_p {n : Nat} {H : Hp} {as : List Nat} {kvs : List (Key × V)} : gH n H as kvs (n + 1) = some (.lst (as.map V.ref)) := by
  unfold gH
  rw [if_neg (by lia), if_pos rfl]
theorem gH_t {n b : Nat} {H : Hp} {as : List Nat} {kvs : List (Key × V)} (h1 : n ≤ b) (h2 : b ≠ n + 1) : gH n H as kvs b = (kvs[as.idxOf b]?).map fun kv => .tup [kV kv.1, kv.2] := by
  unfold gH
  rw [if_neg (by lia), if_neg h2]
theorem vals_refs : ∀ as : List Addr, Vals (as.map V.ref) (as.map Value.ref)
  | [] => .nil
  | _ :: r => .cons rfl (vals_refs r)
theorem pairedI {α β : Type} {F : α → β → Prop} : ∀ {l : List α} {r : List β}, l.length = r.length → (∀ (i : Nat) a b, l[i]? = some a → r[i]? = some b → F a b) → Paired F l r
  | [], [], _, _ => .nil
  | [], _ :: _, h, _ => by cases h
  | _ :: _, [], h, _ => by cases h
  | a :: l, b :: r, h, g => .cons (g 0 a b rfl rfl) (pairedI (Nat.succ.inj h) fun i x y e1 e2 => g (i + 1) x y e1 e2)
theorem pe_listItems {o : Expr} {to : TE} {p pos apos cpos : Pos} (hc : X.calm = true) (hg : Gl X "list") (hm : X.mg "list" = none) (ho : PE X o to)
    (hbase : attributeBase o "items" X.env (eval o X.env) = eval o X.env := by rfl) (hline : (apos.endLine == cpos.line) = true := by rfl) :
    PE X (.Call (.Name "list" p) [.Call (.Attribute o "items" apos) [] [] cpos] [] pos) (tLi to) := by
  intro pins s σ H Q I h
  refine Call_ (ld_blt I hg hm (show bootBuiltins "list" = some (.type "list") by decide +kernel) (PyProof.Rows.callWith_type1 (Calls.spliced_cons ?_) rfl rfl))
  refine wpAny_Call_method0_late hbase hline (thn (ho pins s σ H _ I h) fun v s1 ⟨x, H1, I1, r1, a, kvs, ex, ha, q1⟩ => ?_)
  subst ex
  cases r1
  obtain ⟨hz, lo, vs, rel, dd⟩ := dk_of I1.hok ha
  have hl : kvs.length = vs.length := Paired.length rel
  obtain ⟨ob, es, ep, e1, e2, e3, e4⟩ := id dd
  refine ⟨"dict", "dict.items", PySem.F.plainAttrs_dict, PySem.F.slot_dict_items, PySem.F.type_dict_items, dd.typeIs, (fun b e => ?_), Calls.callWith_builtin rfl (PySem.evalArgs_none (call_meetsIn PySem.F.slot_dict_items dd.typeIs PySem.F.entry_dict_items (PySem.F.args_dict_items_1 _) (meets_dict_items (mixKind X.prog X.w) a lo) ⟨⟨vs, dd⟩, ?_⟩))⟩
  · cases e
    exact ⟨ob, e1, e2.2.1⟩
  refine Calls.spliced_nil ?_
  have kp0 : ∀ b o, s1.heap.get? b = some o → (s1.heap.push { cls := .type "dict_items", data := .fields #[.ref a] }).get? b = some o := fun b o e => Heap.get?_push_of_some _ e
  refine PySem.W.kdx_call (knd := mixKind X.prog X.w) (kvs := vs) (ep := ep) (d := a) (I.ok.hd hc) ⟨_, Heap.get?_push_size _ rfl, rfl, rfl⟩ ⟨ob, es, kp0 _ _ e1, e2, e3, e4⟩ (by rw [← hl]; exact hz) fun h' tk acc c as kp e las G hacc => ?_
  have hsz : (s1.heap.push { cls := .type "dict_items", data := .fields #[.ref a] }).objs.size = s1.heap.objs.size + 1 := Heap.size_push ..
  rw [hsz] at e G ⊢
  have nd : as.Nodup := List.Pairwise.imp (fun h => Nat.ne_of_lt h) G.rise
  have big : ∀ b ∈ as, s1.heap.objs.size + 1 < b := G.above
  generalize hn : s1.heap.objs.size = n at e G big hsz ⊢
  have up : ∀ b o, H1 b = some o → gH n H1 as kvs b = some o := fun b o e => by
    by_cases c : b < s1.heap.objs.size
    · rw [gH_old (by rw [← hn]; exact c)]; exact e
    · rw [I1.hok.fresh (Nat.le_of_not_lt c)] at e; cases e
  refine ⟨.ref (n + 1), gH n H1 as kvs, I1.grow (t' := tk) (fun b o z => kp b o (kp0 b o z)) (fun b hb => gH_old (by rw [← hn]; exact hb)) fun b o hb he => ?_, rfl, q1 _ (as.map V.ref) _ (I1.hok.fresh (by rw [hn]; exact Nat.le_succ _)) up gH_p ?_⟩
  · by_cases c : b = n + 1
    · subst c
      rw [gH_p] at he
      cases he
      refine ⟨by rw [List.length_map, las, ← hl]; exact hz, as.map Value.ref, c, vals_refs as, ?_⟩
      rw [← hacc, Array.toArray_toList]; exact e
    · rw [gH_t (by rw [← hn]; exact hb) c] at he
      cases hk : kvs[as.idxOf b]? with
      | none => rw [hk] at he; cases he
      | some kv =>
        rw [hk] at he
        cases he
        have hi : as.idxOf b < as.length := by rw [las, ← hl]; exact (List.getElem?_eq_some_iff.mp hk).1
        obtain ⟨key, k, u, e5, e6, e7⟩ := G.pairs (as.idxOf b) b (by rw [List.getElem?_eq_getElem hi, List.getElem_idxOf])
        obtain ⟨v, e8, rv⟩ := kv_at rel e5
        rw [hk] at e8
        cases e8
        exact ⟨(by show 2 ≤ sizeLine; decide), [key, u], .cons (kV_of e6) (.cons rv .nil), _, e7, rfl, _, rfl⟩
  · refine pairedI (by rw [List.length_map, las]; exact hl) fun i kv z h1 h2 => ?_
    rw [List.getElem?_map] at h2
    cases hb : as[i]? with
    | none => rw [hb] at h2; cases h2
    | some b =>
      rw [hb] at h2
      cases h2
      have hbm := big b (List.mem_of_getElem? hb)
      have hi := List.getElem?_eq_some_iff.mp hb
      refine ⟨b, rfl, ?_⟩
      rw [gH_t (Nat.le_of_lt (Nat.lt_of_succ_lt hbm)) (Nat.ne_of_gt hbm)]
      have : as.idxOf b = i := by rw [← hi.2]; exact nd.idxOf_getElem i hi.1
      rw [this, h1]; rfl
end
end L2
namespace L2
open PySem PySem.Spec PyProof.Rows
section
variable {X : Cx} {o e f : Expr} {td ty tx : TE} {apos cpos : Pos}
noncomputable def tDGet2P (td ty tx : TE) : TE := fun σ H Q => td σ H fun x H1 => ∃ a kvs, x = .ref a ∧ H1 a = some (.dP kvs) ∧ ty σ H1 fun y H2 => tx σ H2 fun z H3 => ∃ o, DGet H3 a y o ∧ Q (o.getD z) H3
theorem pe_dget2P (hu : X.A.units + 16 < cLine) (ho : PE X o td) (he : PE X e ty) (hf : PE X f tx) (m : M2 X o "get" apos e f cpos) : PE X (.Call (.Attribute o "get" apos) [e, f] [] cpos) (tDGet2P td ty tx) := by
  intro pins s σ H Q I h
  refine wpAny_Call_method m.base m.few m.line PySem.F.plainAttrs_dict PySem.F.slot_dict_get PySem.F.type_dict_get (thn (ho pins s σ H _ I h) fun u s1 ⟨x, H1, I1, rx, a, kvs, ex, ha, q1⟩ => ?_)
  subst ex
  obtain rfl : u = Value.ref a := rx
  obtain ⟨_, _, _, _, ob, _, _, h1, h2, _⟩ := (show ObjOk X.prog X.w H1 s1.heap a (.dP kvs) from I1.hok a _ ha)
  refine ⟨⟨ob, h1, h2.1⟩, (fun b z => by cases z; exact ⟨ob, h1, h2.2.1⟩), ?_⟩
  rw [m.trees]
  refine Calls.callWith_builtin rfl (Calls.evalArgs_plain (Calls.spliced_cons (thn (he pins s1 σ H1 _ I1 q1) fun iv s2 ⟨y, H2, I2, ry, q2⟩ =>
    Calls.spliced_cons (thn (hf pins s2 σ H2 _ I2 q2) fun fv s3 ⟨z, H3, I3, rz, ov, g, q3⟩ => Calls.spliced_nil ?_))))
  exact d_get2 hu I3 g ry rz fun w' s4 I4 rw' => ⟨_, H3, I4, rw', q3⟩
end
end L2
namespace L2
open PySem PySem.Spec PyProof.Rows
noncomputable def tCompWT2 (fr : List Nat) (tc : TT) (te : TE) (σ : St) (J : It) (H1 : Hp) (Q : VK) : Prop :=
  ∀ p, H1 p = none → ∃ W : Nat → Nat → List V → Hp → Prop, (∃ m, W 0 m [] (upd H1 p (.lst []))) ∧ ∀ i m ys H, W i m ys H → H p = some (.lst ys) ∧
    ((J.stop i H ∧ Q (.ref p) H) ∨ (J.go i H ∧ ys.length < sizeLine ∧ ∀ x H', J.yld i H x H' → ∃ T v1 v2, x = .ref T ∧ H' T = some (.tup [v1, v2]) ∧ tc (some v1 :: some v2 :: caps fr σ) H' fun b H2 => if b = true then te (some v1 :: some v2 :: caps fr σ) H2 fun v H3 =>
      H3 p = some (.lst ys) ∧ ∃ m', m' < m ∧ W (i + 1) m' (ys ++ [v]) (upd H3 p (.lst (ys ++ [v]))) else ∃ m', m' < m ∧ W (i + 1) m' ys H2))
noncomputable def tCompT2 (wi : TI) (fr : List Nat) (tc : TT) (te : TE) : TE := fun σ H Q => wi σ H fun J H1 => tCompWT2 fr tc te σ J H1 Q
section
variable {X : Cx} {x x2 : Str} {px px2 tpos pos fpos : Pos} {kk : Nat} {iter elt cnd : Expr} {scope sc0 : Scope} {N0 ys : List Str} {fr : List Nat} {wi : TI} {tc : TT} {te : TE} {pins : List (Addr × Obj)} {σ : St} {H : Hp} {s : Shared}
theorem comp_coreT2 {use : Option (Value → Sem Unit)} {Qv : Value → Shared → Prop} {Q : VK} (hcalm : X.calm = true) (hi : PI X (.Tuple [.Name x px, .Name x2 px2] kk tpos) iter wi) (hsc : X.env.scope = sc0) (hN : X.N = N0) (ok : CompOk2 sc0 N0 scope x x2 ys fr)
    (hT : ∀ C s H ex, PT (cxComp2 X x x2 ys scope C s H ex) cnd tc) (hE : ∀ C s H ex, PE (cxComp2 X x x2 ys scope C s H ex) elt te) (I : Inv X pins σ H s) (h : tCompT2 wi fr tc te σ H Q) (hs : ∀ v, foldedSetIterable iter X.env v = pure v)
    (fin : ∀ (p C : Addr) (H' : Hp) (s' : Shared) (m : Str → Option Value), Inv X pins σ H' s' → s'.heap.Ns C m → H' C = none → C ≠ X.env.locals → X.s₀.heap.objs.size ≤ C → (∀ y c, X.env.cells.lookup y = some c → c ≠ C) → (∀ q ∈ X.pn ++ pins, q.1 ≠ C) → Q (.ref p) H' →
      compPost (model X.prog X.w) X.A X.xe use Qv (.ref p) C (.ok .next) s') :
    wpAny (model X.prog X.w) X.A (comprehension (.ListComp elt [⟨.Tuple [.Name x px, .Name x2 px2] kk tpos, iter, [cnd], 0⟩] scope pos) scope X.env fpos (newList []) false (eval iter X.env) use) Qv X.xe s := by
  subst hsc hN
  have hkof : ∀ y, X.env.kindOf y = X.env.scope.names.lookup y := fun y => rfl
  have hfree : ∀ y ∈ scope.names, y.2 = .free → ∃ c, X.env.cells.lookup y.1 = some c := fun y hy e => I.ok.has y.1 (.inl (ok.free y hy e))
  refine wpAny_comprehension_free (gs := []) rfl hs (closureFor_ok hfree) ok.kind ok.loc (thn (hi pins s σ H _ I h) fun v s1 h1 => thn h1 fun itv s2 h2 => ?_)
  obtain ⟨it, fp, tn, J, H2, e, I2, T, st2, f2, hp⟩ := h2
  subst e
  refine wpAny_newObj_type (wpAny_newFunctionEnv ok.nocell (by intro y hy; simp at hy) (fun h₁ hns₁ hsb₁ => ?_) ok.kind)
  dsimp only at hns₁ hsb₁ ⊢
  have I3 : Inv X pins σ (upd H2 s2.heap.objs.size (.lst [])) { s2 with heap := s2.heap.push { cls := .type "list", data := .seq ([] : List Value).toArray } } :=
    I2.lnew (its := []) (ys := []) (t' := s2.toks) .nil (Nat.zero_le _)
  have hf2 : ∀ b ∈ fp, b < s2.heap.objs.size := fun b hb => by
    obtain ⟨o, e, _⟩ := T.obj _ _ st2 b hb
    exact Heap.lt_size e
  have hps : s2.heap.objs.size < (s2.heap.push { cls := .type "list", data := .seq ([] : List Value).toArray }).objs.size := by rw [Heap.size_push]; exact Nat.lt_succ_self _
  have W0 := hp s2.heap.objs.size I2.fresh
  have st3 : tn 0 (s2.heap.push { cls := .type "list", data := .seq ([] : List Value).toArray }) := T.keep _ _ _ st2 fun b hb o e => Heap.get?_push_of_some _ e
  generalize hpp : s2.heap.objs.size = p at I3 W0 hf2 hps ⊢
  generalize hh3 : (s2.heap.push { cls := .type "list", data := .seq ([] : List Value).toArray }) = h3 at I3 hns₁ hsb₁ hps st3 ⊢
  generalize hH3 : upd H2 p (.lst []) = H3 at I3 W0
  have hold : ∀ b o, h3.get? b = some o → h₁.get? b = some o := fun b o e => hsb₁.extBut b o (Nat.ne_of_lt (Heap.lt_size e)) (Heap.get?_push_of_some _ e)
  have fH3 : ∀ b ∈ fp, H3 b = none := fun b hb => by
    rw [← hH3, upd_ne (Nat.ne_of_lt (hf2 b hb))]
    exact (f2 b hb).1
  have hclos : ∀ y c, (closOf X.env.cells scope.names).lookup y = some c → X.env.cells.lookup y = some c := fun y c e => closOf_sound e
  have hcell3 : ∀ y c, X.env.cells.lookup y = some c → c < h3.objs.size := fun y c e => by
    obtain ⟨v, o, ho, _⟩ := I3.cell y c e
    exact Heap.lt_size ho
  have hlt3 : X.env.locals < h3.objs.size := I3.lt
  have Yok : (cxComp2 X x x2 ys scope h3.objs.size { s2 with heap := h3 } H3 fp).Ok := {
    mod := I.ok.mod
    kind := ok.kind
    glob := I.ok.glob
    blt := I.ok.blt
    above := Nat.le_refl _
    inj := fun y z c e1 e2 => I.ok.inj y z c (hclos _ _ e1) (hclos _ _ e2)
    has := fun y hk => by
      have hfr : (y, NameKind.free) ∈ scope.names := by
        have hm : ∃ k, (relabelN X.env.scope scope).lookup y = some k ∧ (k = .cell ∨ k = .free) := by
          rcases hk with hk | hk
          · exact ⟨_, hk, .inl rfl⟩
          · exact ⟨_, hk, .inr rfl⟩
        obtain ⟨k, hk, hkk⟩ := hm
        have hmem := mem_of_lookup hk
        unfold relabelN at hmem
        obtain ⟨⟨n, k0⟩, hn, en⟩ := List.mem_map.mp hmem
        dsimp only at en
        split at en
        · rename_i hc
          simp only [Bool.and_eq_true] at hc
          have hk0 : k0 = .free := by simpa using hc.1.1
          cases en
          rw [← hk0]
          exact hn
        · cases en
          rcases hkk with e | e
          · exact absurd e (ok.nocell _ hn)
          · rw [← e]
            exact hn
      obtain ⟨c, hc⟩ := hfree _ hfr rfl
      exact ⟨c, closOf_has hc hfr⟩
    cab := fun y c hf _ => by cases hf
    hd := I.ok.hd
    frames := I.ok.frames
    stk := .inl rfl
    exf := fun b hb => ⟨fun e => absurd (hf2 b hb) (by rw [e]; exact Nat.not_lt.mpr (Nat.le_of_lt hps)), fun y c e => (f2 b hb).2.2.2.2.1 y c (hclos _ _ e)⟩
    bs := fun b o e => ⟨(I3.bs b o e).1, (I3.bs b o e).2⟩
    bsz := Nat.le_trans I.ok.bsz I3.sz
    noex := fun b o e hb => by
      rcases (f2 b hb).2.2.2.1 with q | q
      · exact I.ok.noex b o e q
      · have h1 : b < X.base.objs.size := Heap.lt_size e
        exact absurd h1 (Nat.not_lt.mpr (Nat.le_trans I.ok.bsz q))
    exfs := fun b hb hm => by
      rcases List.mem_cons.mp (I3.stkSub b hm) with q | q
      · exact (f2 b hb).2.1 q
      · exact (f2 b hb).2.2.1 q
    funs := I3.stack
    frf := I3.stkFree }
  have IY : Inv (cxComp2 X x x2 ys scope h3.objs.size { s2 with heap := h3 } H3 fp) [] (none :: none :: caps fr σ) H3 { s2 with heap := h₁, toks := s2.toks + ([] : List (Str × Value)).length } := {
    ok := Yok
    os := rfl
    bare := I2.bare
    base := Un.kept hold
    loc := by
      refine ⟨_, hns₁, fun i y v hy hv hvis => ?_⟩
      match i, hy, hv with
      | 0, _, hv => cases hv
      | 1, _, hv => cases hv
      | j + 2, hy, hv =>
        have hy' : ys[j]? = some y := hy
        have hv' : (caps fr σ)[j]? = some (some v) := hv
        unfold caps at hv'
        rw [List.getElem?_map] at hv'
        obtain ⟨i0, hi0, hv0⟩ := Option.map_eq_some_iff.mp hv'
        have hz : (y, i0) ∈ ys.zip fr := by
          refine List.mem_iff_getElem?.mpr ⟨j, ?_⟩
          rw [List.getElem?_zip_eq_some]
          exact ⟨hy', hi0⟩
        obtain ⟨hn, hk, hk2⟩ := ok.sl _ hz
        have hσ : σ[i0]? = some (some v) := by
          cases e : σ[i0]? with
          | none => rw [e] at hv0; cases hv0
          | some o =>
            rw [e] at hv0
            rw [show o = some v from hv0]
        obtain ⟨m, hm, hl⟩ := I3.loc
        obtain ⟨u, ru, lk⟩ := hl i0 y v hn hσ (.inr (.inl hk))
        refine ⟨u, ru, .inr ⟨.inl hk2, ?_⟩⟩
        rcases lk with ⟨a, _⟩ | ⟨_, c, hc, hcell⟩
        · have a' : X.env.scope.names.lookup y = some .local := a
          have hk' : X.env.scope.names.lookup y = some .cell := hk
          rw [hk'] at a'
          cases a'
        · have hfr : (y, NameKind.free) ∈ scope.names := by
            have hmem := mem_of_lookup hk2
            unfold relabelN at hmem
            obtain ⟨⟨n, k0⟩, hn0, en⟩ := List.mem_map.mp hmem
            dsimp only at en
            split at en
            · rename_i hc0
              simp only [Bool.and_eq_true] at hc0
              have hk0 : k0 = .free := by simpa using hc0.1.1
              cases en
              rw [← hk0]
              exact hn0
            · cases en
              exact absurd rfl (ok.nocell _ hn0)
          exact ⟨c, closOf_has hc hfr, hcell.keeps hold⟩
    cell := fun y c e => by
      obtain ⟨v, hv⟩ := I3.cell y c (hclos _ _ e)
      exact ⟨v, hv.keeps hold⟩
    free := I3.fresh
    freeC := fun y c e => I3.freeC y c (hclos _ _ e)
    pin := fun q hq => by cases hq
    hok := I3.hok.kept hold
    len := by
      show (none :: none :: caps fr σ).length = (x :: x2 :: ys).length
      rw [List.length_cons, List.length_cons, List.length_cons, List.length_cons, ok.len]
      unfold caps
      rw [List.length_map] }
  have hxl : (cxComp2 X x x2 ys scope h3.objs.size { s2 with heap := h3 } H3 fp).env.scope.names.lookup x = some .local := ok.xl
  have hxl2 : (cxComp2 X x x2 ys scope h3.objs.size { s2 with heap := h3 } H3 fp).env.scope.names.lookup x2 = some .local := ok.xl2
  have pgx : PG (cxComp2 X x x2 ys scope h3.objs.size { s2 with heap := h3 } H3 fp) (.Tuple [.Name x px, .Name x2 px2] kk tpos) (gTup X.K 2 (gCons (gName 0) (gCons (gName 1) gNil))) :=
    pg_tup hcalm (pgs_cons (pg_name (i := 0) ok.nd rfl (.inl hxl) (.inr hxl)) (pgs_cons (pg_name (i := 1) ok.nd rfl (.inl hxl2) (.inr hxl2)) pgs_nil))
  have ptl := hT h3.objs.size { s2 with heap := h3 } H3 fp
  have pel := hE h3.objs.size { s2 with heap := h3 } H3 fp
  obtain ⟨W, ⟨m0, w0⟩, turn⟩ := W0
  have stat : ∀ {H' : Hp}, (∀ b ∈ fp, H' b = none) → ∀ b ∈ fp, FpOk (cxComp2 X x x2 ys scope h3.objs.size { s2 with heap := h3 } H3 fp) [] H' b := fun hn b hb =>
    ⟨hn b hb, (Yok.exf b hb).1, Yok.exfs b hb, .inl hb, (Yok.exf b hb).2, fun q hq => by cases hq⟩
  have loop : codeAny (model X.prog X.w) X.A (.compLoop (.ListComp elt [⟨.Tuple [.Name x px, .Name x2 px2] kk tpos, iter, [cnd], 0⟩] scope pos) 0 (.ref it) (.ref p) (compEnvC scope (closOf X.env.cells scope.names) h3.objs.size X.env))
      (compPost (model X.prog X.w) X.A X.xe use Qv (.ref p) h3.objs.size) { s2 with heap := h₁, toks := s2.toks + ([] : List (Str × Value)).length } := by
    refine compLoop_listT (fun n s' => ∃ i zs v0 w0 H', Inv (cxComp2 X x x2 ys scope h3.objs.size { s2 with heap := h3 } H3 fp) [] (v0 :: w0 :: caps fr σ) H' s' ∧ tn i s'.heap ∧ (∀ b ∈ fp, H' b = none) ∧ W i n zs H') ?_ m0
      ⟨0, [], none, none, H3, IY, T.keep _ _ _ st3 fun b hb o e => hold b o e, fH3, w0⟩
    rintro n s5 ⟨i, zs, v0, wv0, H5, I5, st5, fr5, w5⟩
    obtain ⟨hacc, turn5⟩ := turn i n zs H5 w5
    rcases turn5 with ⟨stop, qn⟩ | ⟨go, hlen, step⟩
    · refine thn (T.done (cxComp2 X x x2 ys scope h3.objs.size { s2 with heap := h3 } H3 fp) rfl rfl rfl hcalm i [] s5 _ H5 _ I5 (stat fr5) st5 stop) fun r s6 ⟨hr, I6⟩ => ?_
      subst hr
      obtain ⟨m6, n6, _⟩ := I6.loc
      refine fin p h3.objs.size H5 s6 m6 (I3.call' I6.os I6.base I6.hok I6.bare fun b hb => ⟨(f2 b hb).2.2.2.1, (f2 b hb).2.1, (f2 b hb).2.2.2.2.1, (f2 b hb).2.2.2.2.2⟩) n6 I6.free (Nat.ne_of_gt hlt3) I3.sz (fun y c e => Nat.ne_of_lt (hcell3 y c e)) (fun q hq => ?_) qn
      exact Nat.ne_of_lt (Heap.lt_size (I3.pin q hq).1)
    · refine thn (T.item (cxComp2 X x x2 ys scope h3.objs.size { s2 with heap := h3 } H3 fp) rfl rfl rfl hcalm i [] s5 _ H5 _ I5 (stat fr5) st5 go) fun r s6 ⟨u, hr, h6⟩ => ?_
      subst hr
      refine thn h6 fun _ s7 ⟨xv, H7, I7, r7, y7, st7, fr7⟩ => ?_
      have I7' := I7.pinned (stat fr7) (T.obj _ _ st7)
      obtain ⟨T7, v1, v2, eT, hT7, step7⟩ := step xv H7 y7
      refine thn (pgx _ s7 _ H7 xv u (fun σ' H' => σ' = some v1 :: some v2 :: caps fr σ ∧ H' = H7) I7' r7 ⟨T7, [v1, v2], eT, SqT.of hT7, rfl, v1, [v2], rfl, v2, [], rfl, rfl, rfl, rfl⟩) fun _ s8 ⟨σ8, H8, I8, e8, e8'⟩ => ?_
      subst e8 e8'
      refine thn (ptl _ s8 _ H8 _ I8 step7) fun bb s8' ⟨H8', I8', hb⟩ => ?_
      cases bb with
      | false =>
        obtain ⟨m', hm', w9⟩ := hb
        refine ⟨m', hm', i + 1, zs, some v1, some v2, _, I8'.unpinned, T.keep _ _ _ st7 fun b hb o e => (I8'.pin (b, o) (List.mem_append_right _ (List.mem_append_right _ (mem_pinsAt hb e)))).1, fun b hb => ?_, w9⟩
        obtain ⟨o, e, d⟩ := T.obj _ _ st7 b hb
        exact (I8'.pin (b, o) (List.mem_append_right _ (List.mem_append_right _ (mem_pinsAt hb e)))).2.1
      | true =>
      refine thn (pel _ s8' _ H8' _ I8' hb) fun yv s9 ⟨v9, H9, I9, r9, hp9, m', hm', w9⟩ => ?_
      refine thn (mt_append _ s9 _ H9 (.ref p) [v9] (.ref p) [yv] (fun _ H' => H' = upd H9 p (.lst (zs ++ [v9]))) I9 rfl (.cons r9 .nil) ⟨p, zs, v9, rfl, rfl, hp9, hlen, rfl⟩) fun _ s10 ⟨_, H10, I10, _, e10⟩ => ?_
      subst e10
      refine ⟨m', hm', i + 1, zs ++ [v9], some v1, some v2, _, I10.unpinned, T.keep _ _ _ st7 fun b hb o e => (I10.pin (b, o) (List.mem_append_right _ (List.mem_append_right _ (mem_pinsAt hb e)))).1, fun b hb => ?_, w9⟩
      obtain ⟨o, e, d⟩ := T.obj _ _ st7 b hb
      exact (I10.pin (b, o) (List.mem_append_right _ (List.mem_append_right _ (mem_pinsAt hb e)))).2.1
  exact codeAny_compStart_list loop (T.self X.A 0 _ _ _ (T.keep _ _ _ st3 fun b hb o e => hold b o e) loop)
theorem pe_compT2 (hcalm : X.calm = true) (hi : PI X (.Tuple [.Name x px, .Name x2 px2] kk tpos) iter wi) (hsc : X.env.scope = sc0) (hN : X.N = N0) (ok : CompOk2 sc0 N0 scope x x2 ys fr)
    (hT : ∀ C s H ex, PT (cxComp2 X x x2 ys scope C s H ex) cnd tc) (hE : ∀ C s H ex, PE (cxComp2 X x x2 ys scope C s H ex) elt te) (hs : ∀ v, foldedSetIterable iter X.env v = pure v := by intro _; rfl) :
    PE X (.ListComp elt [⟨.Tuple [.Name x px, .Name x2 px2] kk tpos, iter, [cnd], 0⟩] scope pos) (tCompT2 wi fr tc te) := by
  intro pins s σ H Q I h
  rw [eval_ListComp]
  refine comp_coreT2 (use := none) (Qv := EP X pins σ Q) (Q := Q) hcalm hi hsc hN ok hT hE I h hs fun p C H' s' m I' hn h0 h1 h2 h3 h4 q => ?_
  refine ⟨m, hn, fun h' sb => ⟨.ref p, H', I'.turned (t' := s'.toks) (fun b o hb e => sb.extBut b o hb e) h0 (Ne.symm (Ne.symm h1)) (.inr h2) h3 h4, rfl, q⟩⟩
end
end L2
namespace HT
open PySem PyProof.Rows
section
variable {prog : Program} {w : World} {A : Around} {s : Shared} {E : Value → Shared → Prop} {z TI TO T i1 i2 : Addr} {fl : Bool} {f1 f2 : List Addr} {n1 n2 k : Nat} {P1 P2 : Nat → Value → Prop} {S1 S2 : Nat → Heap → Prop} {a b : Value}
end
end HT
namespace HT
open PySem PyProof.Rows
section
variable {prog : Program} {w : World} {A : Around} {s : Shared} {E : Value → Shared → Prop} {z TI TO i1 i2 l1 l2 : Addr} {c : Bool} {xs ys : Array Value}
end
end HT
namespace HT
open PySem PyProof.Rows
section
variable {prog : Program} {w : World} {A : Around} {s : Shared} {E : Value → Shared → Prop} {z TI TO i1 i2 l1 l2 : Addr} {c : Bool} {xs ys : Array Value}
end
end HT
namespace L2
open PySem PySem.Spec PyProof.Rows
section
variable {X : Cx} {pins : List (Addr × Obj)} {σ : St} {H H' : Hp} {s : Shared} {h' : Heap}
end
end L2
namespace My
open PySem L2
noncomputable def lett (c : Nat) : Bool := decide (97 ≤ c ∧ c ≤ 122)
noncomputable def wordB (x : Str) : Bool := decide (1 ≤ x.length) && decide (x.length ≤ 8) && x.cps.toList.all lett
noncomputable def ops : List Str := ["plus", "less", "times", "least", "most"]
inductive Fm where
  | num (n : Int)
  | own (x : Str)
  | part (k : Int) (x : Str)
  | bin (op : Str) (a b : Fm)
  | whn (a b c : Fm)
noncomputable def Fm.size : Fm → Nat
  | .num _ => 1
  | .own _ => 1
  | .part _ _ => 1
  | .bin _ a b => a.size + b.size + 1
  | .whn a b c => a.size + b.size + c.size + 1
noncomputable def Rep (H : Hp) : Fm → V → Prop
  | .num n, v => ∃ a, v = .ref a ∧ H a = some (.tup [.str "num", .int n])
  | .own x, v => ∃ a, v = .ref a ∧ H a = some (.tup [.str "own", .str x])
  | .part k x, v => ∃ a, v = .ref a ∧ H a = some (.tup [.str "part", .int k, .str x])
  | .bin op A B, v => ∃ a u w, v = .ref a ∧ H a = some (.tup [.str op, u, w]) ∧ Rep H A u ∧ Rep H B w
  | .whn A B C, v => ∃ a u w z, v = .ref a ∧ H a = some (.tup [.str "when", u, w, z]) ∧ Rep H A u ∧ Rep H B w ∧ Rep H C z
noncomputable def TK (H H' : Hp) : Prop := ∀ a xs, H a = some (.tup xs) → H' a = some (.tup xs)
theorem TK.trans {H H1 H2 : Hp} (a : TK H H1) (b : TK H1 H2) : TK H H2 := fun c o h => b c o (a c o h)
theorem TK.upd {H : Hp} {p : Addr} {o : HO} (h : ∀ xs, H p ≠ some (.tup xs)) : TK H (upd H p o) := fun a xs e => by
  by_cases q : a = p
  · subst q
    exact absurd e (h xs)
  · rw [upd_ne q]
    exact e
theorem TK.lst {H : Hp} {p : Addr} {o : HO} {ys : List V} (h : H p = some (.lst ys)) : TK H (L2.upd H p o) := TK.upd fun xs e => by rw [h] at e; cases e
theorem TK.new {H : Hp} {p : Addr} {o : HO} (h : H p = none) : TK H (L2.upd H p o) := TK.upd fun xs e => by rw [h] at e; cases e
theorem Rep.mono {H H' : Hp} (t : TK H H') : ∀ {f : Fm} {v : V}, Rep H f v → Rep H' f v
  | .num _, _, ⟨a, e, h⟩ => ⟨a, e, t _ _ h⟩
  | .own _, _, ⟨a, e, h⟩ => ⟨a, e, t _ _ h⟩
  | .part _ _, _, ⟨a, e, h⟩ => ⟨a, e, t _ _ h⟩
  | .bin _ _ _, _, ⟨a, u, w, e, h, r1, r2⟩ => ⟨a, u, w, e, t _ _ h, Rep.mono t r1, Rep.mono t r2⟩
  | .whn _ _ _, _, ⟨a, u, w, z, e, h, r1, r2, r3⟩ => ⟨a, u, w, z, e, t _ _ h, Rep.mono t r1, Rep.mono t r2, Rep.mono t r3⟩
noncomputable def isV (T : String) (H : Hp) (v : V) : Bool := match v with
  | .bl _ => T == "bool" || T == "int"
  | .int _ => T == "int"
  | .str _ => T == "str"
  | .ref a => (match H a with | some (.lst _) => T == "list" | some (.tup _) => T == "tuple" | some (.dK _) => T == "dict" | _ => false)
  | _ => false
noncomputable def Sh (H : Hp) : V → Prop
  | .non => True
  | .bl _ => True
  | .int _ => True
  | .str x => x.length ≤ 1000
  | .ref a => (∃ xs, H a = some (.lst xs)) ∨ (∃ xs, H a = some (.tup xs)) ∨ ∃ kvs, H a = some (.dK kvs)
  | _ => False
section
variable {X : Cx}
theorem kit_all (K : PySem.W.Frag) (t T : String) (ht : t ∈ ["NoneType", "bool", "int", "str", "list", "tuple", "dict"]) (hT : T ∈ ["bool", "int", "str", "list", "tuple", "dict"]) :
    PySem.W.kitOne K (.type t) (.type T) = some (t == T || (t == "bool" && T == "int")) := by
  simp only [List.mem_cons, List.not_mem_nil, or_false] at ht hT
  rcases ht with rfl | rfl | rfl | rfl | rfl | rfl | rfl <;> rcases hT with rfl | rfl | rfl | rfl | rfl | rfl <;> first | rfl | (with_unfolding_all rfl) | (with_unfolding_all decide)
theorem call_isV : CallR X (.builtin "isinstance") (fun xs H Q => ∃ x T, xs = [x, .ty T] ∧ Sh H x ∧ T ∈ ["bool", "int", "str", "list", "tuple", "dict"] ∧ Q (.bl (isV T H x)) H) := by
  intro pins s σ H xs us Q I r h
  obtain ⟨x, T, rfl, hs, hT, q⟩ := h
  have go : ∀ t, TyOf X.K H x (.type t) → t ∈ ["NoneType", "bool", "int", "str", "list", "tuple", "dict"] → isV T H x = (t == T || (t == "bool" && T == "int")) → wpAny (model X.prog X.w) X.A (call (.builtin "isinstance") us) (EP X pins σ Q) X.xe s := by
    intro t ty ht e
    refine call_isi pins s σ H _ us Q I r ⟨x, T, .type t, _, rfl, ty, kit_all X.K t T ht hT, ?_⟩
    rw [← e]
    exact q
  have hTT := hT
  simp only [List.mem_cons, List.not_mem_nil, or_false] at hTT
  cases x with
  | non => exact go _ .non (by simp) (by rcases hTT with rfl | rfl | rfl | rfl | rfl | rfl <;> rfl)
  | bl b => exact go _ (.bl b) (by simp) (by rcases hTT with rfl | rfl | rfl | rfl | rfl | rfl <;> rfl)
  | int i => exact go _ (.int i) (by simp) (by rcases hTT with rfl | rfl | rfl | rfl | rfl | rfl <;> rfl)
  | str z => exact go _ (.str z) (by simp) (by rcases hTT with rfl | rfl | rfl | rfl | rfl | rfl <;> rfl)
  | ref a =>
    rcases hs with ⟨ys, e⟩ | ⟨ys, e⟩ | ⟨ys, e⟩
    · exact go _ (.lst e) (by simp) (by simp only [isV, e]; rcases hTT with rfl | rfl | rfl | rfl | rfl | rfl <;> rfl)
    · exact go _ (.tup e) (by simp) (by simp only [isV, e]; rcases hTT with rfl | rfl | rfl | rfl | rfl | rfl <;> rfl)
    · exact go _ (.dK e) (by simp) (by simp only [isV, e]; rcases hTT with rfl | rfl | rfl | rfl | rfl | rfl <;> rfl)
  | byt _ => exact hs.elim
  | flt _ => exact hs.elim
  | ty _ => exact hs.elim
end
end My
namespace My
open PySem L2
noncomputable def top (i : Nat) : Stmt := PySem.Challenge.pw_boughworth_k21_trees_counted.main.body.getD i (.Pass ⟨0, 0, 0, 0⟩)
noncomputable abbrev sSortsOf : Stmt := top 1
noncomputable abbrev sFormsOf : Stmt := top 2
noncomputable abbrev sSortOfForm : Stmt := top 3
noncomputable abbrev sPartsOf : Stmt := top 4
noncomputable abbrev sMany : Stmt := top 6
noncomputable abbrev sUpTo : Stmt := top 7
noncomputable abbrev sRowsOf : Stmt := top 8
noncomputable abbrev sCountOf : Stmt := top 9
noncomputable abbrev sWithKeys : Stmt := top 10
noncomputable abbrev sCuts : Stmt := top 11
noncomputable abbrev sCell : Stmt := top 13
noncomputable abbrev sTape : Stmt := top 14
noncomputable abbrev sDigit : Stmt := top 15
noncomputable abbrev sNames : Stmt := top 16
noncomputable abbrev sNumber : Stmt := top 17
noncomputable abbrev sLeaf : Stmt := top 18
noncomputable abbrev sFormula : Stmt := top 19
noncomputable abbrev sSorts : Stmt := top 20
noncomputable abbrev sTargets : Stmt := top 21
noncomputable abbrev sLReadings : Stmt := top 22
noncomputable abbrev sLForm : Stmt := top 23
noncomputable abbrev sBook : Stmt := top 24
noncomputable abbrev sLWhole : Stmt := top 25
noncomputable abbrev sSame : Stmt := top 26
noncomputable abbrev sLRows : Stmt := top 27
noncomputable abbrev sLCounts : Stmt := top 28
noncomputable abbrev sLRight : Stmt := top 29
noncomputable abbrev sLaw : Stmt := top 30
end My
namespace My
open PySem L2
structure Gb (mg : Str → Option Value) : Prop where
  isi : mg "isinstance" = none
  int : mg "int" = none
  bool : mg "bool" = none
  str : mg "str" = none
  tuple : mg "tuple" = none
  len : mg "len" = none
  all : mg "all" = none
  range : mg "range" = none
  max : mg "max" = none
  min : mg "min" = none
noncomputable def wholeV : V → Bool
  | .int _ => true
  | _ => false
theorem isV_int {H : Hp} {v : V} (h : Sh H v) : (if isV "int" H v = true then !isV "bool" H v else false) = wholeV v := by
  cases v with
  | ref a => rcases h with ⟨ys, e⟩ | ⟨ys, e⟩ | ⟨ys, e⟩ <;> (simp only [isV, e]; rfl)
  | _ => rfl
theorem qb {Q : VK} {b b' : Bool} {H : Hp} (q : Q (.bl b) H) (e : b = b') : Q (.bl b') H := e ▸ q
theorem same_new {H : Hp} {p : Addr} (h : H p = none) (o : HO) : Same H (upd H p o) := fun b u q => by rw [upd_ne (ne_of_none q h)]; exact q
noncomputable def spWhole : Sp := fun vs H Q _ => ∃ v, vs = [v] ∧ Sh H v ∧ Q (.bl (wholeV v)) H
section
variable {P : Program} {w : World} {K : PySem.W.Frag} {mg : Str → Option Value} {base : Heap} {f g f2 : Addr} {fd gd fd2 : FuncData}
end
end My
namespace My
open PySem L2
theorem atI0 {α : Type} {x : α} {r : List α} : atI (x :: r) 0 = some x := atI_nat (j := 0) rfl
theorem atI1 {α : Type} {x y : α} {r : List α} : atI (x :: y :: r) 1 = some y := atI_nat (j := 1) rfl
theorem atI2 {α : Type} {x y z : α} {r : List α} : atI (x :: y :: z :: r) 2 = some z := atI_nat (j := 2) rfl
section
variable {P : Program} {w : World} {K : PySem.W.Frag} {mg : Str → Option Value} {base : Heap} {f g f2 aD : Addr} {fd gd fd2 : FuncData}
end
end My
namespace My
open PySem L2
section
variable {P : Program} {w : World} {K : PySem.W.Frag} {mg : Str → Option Value} {base : Heap} {f g f2 : Addr} {fd gd fd2 : FuncData}
end
end My
namespace My
open PySem L2
noncomputable def Kp (tp : Addr) (H H' : Hp) : Prop := ∀ b o, H b = some o → b ≠ tp → H' b = some o
theorem Kp.refl {tp : Addr} {H : Hp} : Kp tp H H := fun _ _ h _ => h
theorem Kp.trans {tp : Addr} {H H1 H2 : Hp} (a : Kp tp H H1) (b : Kp tp H1 H2) : Kp tp H H2 := fun c o h n => b c o (a c o h n) n
theorem Kp.same {tp : Addr} {H H1 H2 : Hp} (a : Kp tp H H1) (b : Same H1 H2) : Kp tp H H2 := fun c o h n => b c o (a c o h n)
theorem Kp.tape {tp : Addr} {H : Hp} {o : HO} : Kp tp H (upd H tp o) := fun b u h n => by rw [upd_ne n]; exact h
theorem Kp.new {tp p : Addr} {H H1 : Hp} {o : HO} (a : Kp tp H H1) (h : H1 p = none) : Kp tp H (upd H1 p o) := a.same (same_new h _)
noncomputable def Tp (H : Hp) (tp : Addr) : Prop := ∃ t : Int, H tp = some (.lst [.int t])
theorem Kp.tk {tp : Addr} {H H' : Hp} (a : Kp tp H H') (t : Tp H tp) : TK H H' := fun b xs h => a b _ h fun e => by
  obtain ⟨t, ht⟩ := t
  subst e
  rw [ht] at h
  cases h
theorem Tp.new {H : Hp} {tp p : Addr} {o : HO} (t : Tp H tp) (h : H p = none) : Tp (upd H p o) tp := by
  obtain ⟨t, ht⟩ := t
  exact ⟨t, by rw [upd_ne (ne_of_none ht h)]; exact ht⟩
inductive spCell (K : PySem.W.Frag) (vs : List V) (H : Hp) (Q : VK) (E_ : XK) : Prop
  | mk : ∀ (a : Addr) (ns : List Int) (k : Int), (vs = [.ref a, .int k]) → (SqL K H a (ns.map V.int)) → (ns.length ≤ 63) → (0 ≤ k) → (∀ c : Int, Q (.int c) H) → spCell K vs H Q E_
inductive spTape (K : PySem.W.Frag) (vs : List V) (H : Hp) (Q : VK) (E_ : XK) : Prop
  | mk : ∀ (a : Addr) (ns : List Int) (k : Int), (vs = [.ref a, .int k]) → (SqL K H a (ns.map V.int)) → (ns.length ≤ 63) → (0 ≤ k) → (k < 1000) → (∀ p t, H p = none → Q (.ref p) (upd H p (.lst [.int t]))) → spTape K vs H Q E_
inductive spDigit  (vs : List V) (H : Hp) (Q : VK) (E_ : XK) : Prop
  | mk : ∀ (tp : Addr) (m : Int), (vs = [.ref tp, .int m]) → (Tp H tp) → (0 < m) → (m < 1073741824) → (∀ d t : Int, 0 ≤ d → d < m → Q (.int d) (upd H tp (.lst [.int t]))) → spDigit vs H Q E_
inductive spNumber  (vs : List V) (H : Hp) (Q : VK) (E_ : XK) : Prop
  | mk : ∀ tp, (vs = [.ref tp]) → (Tp H tp) → (∀ (n : Int) H', -999999 ≤ n → n ≤ 999999 → Kp tp H H' → Tp H' tp → Q (.int n) H') → spNumber vs H Q E_
section
variable {P : Program} {w : World} {K : PySem.W.Frag} {mg : Str → Option Value} {base : Heap} {f g f2 f3 : Addr} {fd gd fd2 fd3 : FuncData}
theorem scCell : FnScope ["script", "k"] ["script", "k"] (defScope sCell) := ⟨rfl, rfl, rfl, by decide +kernel, rfl, by decide +kernel, by decide +kernel⟩
theorem ok_cell (F : Fun K "_law_cell_at" "_law_cell_at" sCell f fd) (G : Gb mg) : FnOk P w K mg base CX0 1 f fd ["script", "k"] (spCell K) := by
  refine F.ok scCell (fun vs H Q E h => ?_) (fun cdv A outer s H vs Q E hr h => ?_)
  · obtain ⟨a, ns, k, rfl, _⟩ := h
    rfl
  obtain ⟨a, ns, k, rfl, hS, hl, hk, q⟩ := h
  refine ⟨_, pss_cons (ps_if (pt_cmpR op_lt (pv 1) (pe_callB (r := rLen K) call_len_seq rfl G.len PySem.boot_len (pa_cons (pv 0) pa_nil)) (nomark _)) (pss_one (ps_ret (pe_ix (r := rIxL K) ix_list (pv 0) (pv 1) (fun _ _ => rfl)))) pss_nil) (pss_one (ps_ret pe_int)), ?_⟩
  refine ⟨_, rfl, _, rfl, a, _, rfl, .inl hS, _, _, rfl, rfl, _, rfl, ?_⟩
  refine ite2 (fun c => ?_) (fun c => ?_)
  · have c' : k < (((ns.map V.int).length : Nat) : Int) := of_decide_eq_true c
    rw [List.length_map] at c'
    have hk' : k.toNat < ns.length := by lia
    have e : atI (ns.map V.int) k = some (V.int ns[k.toNat]) := by
      have ek : k = ((k.toNat : Nat) : Int) := by lia
      have q : atI (ns.map V.int) ((k.toNat : Nat) : Int) = some (V.int ns[k.toNat]) := atI_nat (by rw [List.getElem?_map, List.getElem?_eq_getElem hk'] <;> rfl)
      rw [← ek] at q
      exact q
    exact ⟨_, rfl, _, rfl, a, _, k, _, rfl, rfl, hS, e, q _⟩
  · exact q 0
theorem scTape : FnScope ["script", "k", "cell", "p", "one", "two", "three", "four"] ["script", "k"] (defScope sTape) := ⟨rfl, rfl, rfl, by decide +kernel, rfl, by decide +kernel, by decide +kernel⟩
theorem ok_tape (F : Fun K "_law_tape" "_law_tape" sTape f fd) (GC : FnOk P w K mg base CX0 1 g gd ["script", "k"] (spCell K)) (bC : Binds K gd ["script", "k"] []) (kC : PySem.W.keepIn K (.ref g) = true) (mC : mg "_law_cell_at" = some (.ref g)) :
    FnOk P w K mg base CX0 2 f fd ["script", "k"] (spTape K) := by
  refine F.ok scTape (fun vs H Q E h => ?_) (fun cdv A outer s H vs Q E hr h => ?_)
  · obtain ⟨a, ns, k, rfl, _⟩ := h
    rfl
  obtain ⟨a, ns, k, rfl, hS, hl, hk, hk2, q⟩ := h
  refine ⟨_, pss_cons (ps_set (i := 2) scTape.nd rfl (Or.inl rfl) (pe_call GC hr rfl mC kC bC .nil pass0 (pa_cons (pv 0) (pa_cons (pv 1) pa_nil))))
    (pss_cons (ps_if (pt_cmpR op_eq (pe_op op_mod (pv 2) pe_int) pe_int (nomark _)) (pss_one (ps_ret (pe_lst (pa_cons (pe_op op_fdiv (pv 2) pe_int) pa_nil)))) pss_nil)
    (pss_cons (ps_set (i := 3) scTape.nd rfl (Or.inl rfl) pe_int)
    (pss_cons (ps_set (i := 4) scTape.nd rfl (Or.inl rfl) (pe_op op_mod (pe_op op_add (pe_op op_add (pe_op op_mul (pe_op op_mod (pv 2) (pv 3)) pe_int) (pe_op op_mul pe_int (pv 1))) pe_int) (pv 3)))
    (pss_cons (ps_set (i := 5) scTape.nd rfl (Or.inl rfl) (pe_op op_mod (pe_op op_add (pe_op op_add (pe_op op_mul (pv 4) (pv 4)) (pe_op op_mul pe_int (pv 1))) (pv 4)) (pv 3)))
    (pss_cons (ps_set (i := 6) scTape.nd rfl (Or.inl rfl) (pe_op op_mod (pe_op op_add (pe_op op_mul (pv 5) (pv 5)) (pv 4)) (pv 3)))
    (pss_cons (ps_set (i := 7) scTape.nd rfl (Or.inl rfl) (pe_op op_mod (pe_op op_add (pe_op op_mul (pv 6) (pv 6)) (pv 5)) (pv 3)))
    (pss_one (ps_ret (pe_lst (pa_cons (pe_op op_add (pe_op op_mul (pe_op op_add (pe_op op_mul (pe_op op_add (pe_op op_mul (pv 4) (pv 3)) (pv 5)) (pv 3)) (pv 6)) (pv 3)) (pv 7)) pa_nil)))))))))), ?_⟩
  refine ⟨_, rfl, _, rfl, a, ns, k, rfl, hS, hl, hk, fun c => ?_⟩
  refine ⟨_, rfl, _, _, rfl, rfl, (by show (0 : Int) < 2; decide), rfl, _, rfl, ?_⟩
  refine ite2 (fun _ => ?_) (fun _ => ?_)
  · exact ⟨_, rfl, _, _, rfl, rfl, ⟨by decide, by decide⟩, (by show 1 ≤ sizeLine; decide), fun p hp => q p _ hp⟩
  have hp0 : (0 : Int) < 2305843009213693951 := by decide
  have mm : ∀ x : Int, -(2 ^ 64) < x % 2305843009213693951 ∧ x % 2305843009213693951 < 2 ^ 64 := fun x => by
    have h1 := Int.emod_nonneg x (show (2305843009213693951 : Int) ≠ 0 by decide)
    have h2 := Int.emod_lt_of_pos x hp0
    lia
  have hkk : -(2 ^ 64) < k ∧ k < 2 ^ 64 := by lia
  have hpp : (-(2 ^ 64) : Int) < 2305843009213693951 ∧ (2305843009213693951 : Int) < 2 ^ 64 := by decide
  refine ⟨_, rfl, _, rfl, _, _, rfl, rfl, hp0, _, _, rfl, rfl, .inl (mm _), _, rfl, _, _, rfl, rfl, .inr hkk, _, _, rfl, rfl, _, _, rfl, rfl, _, rfl, _, _, rfl, rfl, hp0, ?_⟩
  refine ⟨_, rfl, _, rfl, _, _, rfl, rfl, .inl (mm _), _, rfl, _, _, rfl, rfl, .inr hkk, _, _, rfl, rfl, _, rfl, _, _, rfl, rfl, _, rfl, _, _, rfl, rfl, hp0, ?_⟩
  refine ⟨_, rfl, _, rfl, _, _, rfl, rfl, .inl (mm _), _, rfl, _, _, rfl, rfl, _, rfl, _, _, rfl, rfl, hp0, ?_⟩
  refine ⟨_, rfl, _, rfl, _, _, rfl, rfl, .inl (mm _), _, rfl, _, _, rfl, rfl, _, rfl, _, _, rfl, rfl, hp0, ?_⟩
  refine ⟨_, rfl, _, rfl, _, _, rfl, rfl, .inr hpp, _, rfl, _, _, rfl, rfl, _, rfl, _, _, rfl, rfl, .inr hpp, _, rfl, _, _, rfl, rfl, _, rfl, _, _, rfl, rfl, .inr hpp, _, rfl, _, _, rfl, rfl, (by show 1 ≤ sizeLine; decide), fun p hp => q p _ hp⟩
theorem scDigit : FnScope ["tape", "many", "found"] ["tape", "many"] (defScope sDigit) := ⟨rfl, rfl, rfl, by decide +kernel, rfl, by decide +kernel, by decide +kernel⟩
theorem ok_digit (F : Fun K "_law_digit" "_law_digit" sDigit f fd) : FnOk P w K mg base CX0 1 f fd ["tape", "many"] spDigit := by
  refine F.ok scDigit (fun vs H Q E h => ?_) (fun cdv A outer s H vs Q E hr h => ?_)
  · obtain ⟨tp, m, rfl, _⟩ := h
    rfl
  obtain ⟨tp, m, rfl, ⟨t, ht⟩, hm, hm2, q⟩ := h
  refine ⟨_, pss_cons (ps_set (i := 2) scDigit.nd rfl (Or.inl rfl) (pe_op op_mod (pe_ix (r := rIxL K) ix_list (pv 0) pe_int (fun _ _ => rfl)) (pv 1)))
    (pss_cons (ps_asg (pe_op op_fdiv (pe_ix (r := rIxL K) ix_list (pv 0) pe_int (fun _ _ => rfl)) (pv 1)) (pg_sub (pv 0) pe_int set_list))
    (pss_one (ps_ret (pv 2)))), ?_⟩
  refine ⟨_, rfl, tp, _, 0, _, rfl, rfl, SqL.of ht, atI0, _, rfl, _, _, rfl, rfl, hm, ?_⟩
  refine ⟨_, rfl, tp, _, 0, _, rfl, rfl, SqL.of ht, atI0, _, rfl, _, _, rfl, rfl, ⟨hm, hm2⟩, ?_⟩
  refine ⟨_, rfl, tp, _, 0, 0, rfl, rfl, ht, rfl, ?_⟩
  exact ⟨_, rfl, q (t % m) (t / m) (Int.emod_nonneg _ (by lia)) (Int.emod_lt_of_pos _ hm)⟩
theorem scNumber : FnScope ["tape", "way"] ["tape"] (defScope sNumber) := ⟨rfl, rfl, rfl, by decide +kernel, rfl, by decide +kernel, by decide +kernel⟩
theorem ok_number (F : Fun K "_law_number" "_law_number" sNumber f fd) (GD : FnOk P w K mg base CX0 1 g gd ["tape", "many"] spDigit) (bD : Binds K gd ["tape", "many"] []) (kD : PySem.W.keepIn K (.ref g) = true) (mD : mg "_law_digit" = some (.ref g)) :
    FnOk P w K mg base CX0 2 f fd ["tape"] spNumber := by
  refine F.ok scNumber (fun vs H Q E h => ?_) (fun cdv A outer s H vs Q E hr h => ?_)
  · obtain ⟨tp, rfl, _⟩ := h
    rfl
  obtain ⟨tp, rfl, hT, q⟩ := h
  refine ⟨_, pss_cons (ps_set (i := 1) scNumber.nd rfl (Or.inl rfl) (pe_call GD hr rfl mD kD bD .nil pass0 (pa_cons (pv 0) (pa_cons pe_int pa_nil))))
    (pss_cons (ps_if (pt_cmpR op_lt (pv 1) pe_int (nomark _)) (pss_one (ps_ret (pv 1))) pss_nil)
    (pss_one (ps_ret (pe_ix (r := rIxL K) ix_list (pe_lst (pa_cons (pe_un un_neg pe_int) (pa_cons (pe_op op_sub (pe_call GD hr rfl mD kD bD .nil pass0 (pa_cons (pv 0) (pa_cons pe_int pa_nil))) pe_int)
      (pa_cons (pe_op op_sub (pe_call GD hr rfl mD kD bD .nil pass0 (pa_cons (pv 0) (pa_cons pe_int pa_nil))) pe_int) pa_nil)))) (pe_op op_sub (pv 1) pe_int) (fun _ _ => rfl))))), ?_⟩
  refine ⟨_, rfl, tp, 6, rfl, hT, by decide, by decide, fun d t h0 h1 => ?_⟩
  refine ⟨_, rfl, _, _, rfl, rfl, _, rfl, ?_⟩
  refine ite2 (fun c => ?_) (fun c => ?_)
  · exact ⟨_, rfl, q d _ (by lia) (by lia) Kp.tape ⟨t, upd_same⟩⟩
  have c' : 3 ≤ d := by
    rcases Int.lt_or_le d 3 with z | z
    · exact absurd (decide_eq_true z) c
    · exact z
  refine ⟨_, rfl, _, rfl, tp, 1001, rfl, ⟨t, upd_same⟩, by decide, by decide, fun d2 t2 h20 h21 => ?_⟩
  refine ⟨_, _, rfl, rfl, _, rfl, tp, 1999999, rfl, ⟨t2, upd_same⟩, by decide, by decide, fun d3 t3 h30 h31 => ?_⟩
  refine ⟨_, _, rfl, rfl, (by show 3 ≤ sizeLine; decide), fun p hp => ?_⟩
  rw [upd_upd, upd_upd] at hp ⊢
  have hd : d = 3 ∨ d = 4 ∨ d = 5 := by lia
  have fin : ∀ n : Int, -999999 ≤ n → n ≤ 999999 → Q (.int n) (upd (upd H tp (.lst [.int t3])) p (.lst [.int (-1), .int (d2 - 500), .int (d3 - 999999)])) := fun n h1 h2 =>
    q n _ h1 h2 (Kp.tape.new hp) (Tp.new ⟨t3, upd_same⟩ hp)
  rcases hd with rfl | rfl | rfl
  · exact ⟨_, rfl, _, _, rfl, rfl, p, _, 0, _, rfl, rfl, SqL.of upd_same, atI0, fin _ (by lia) (by lia)⟩
  · exact ⟨_, rfl, _, _, rfl, rfl, p, _, 1, _, rfl, rfl, SqL.of upd_same, atI1, fin _ (by lia) (by lia)⟩
  · exact ⟨_, rfl, _, _, rfl, rfl, p, _, 2, _, rfl, rfl, SqL.of upd_same, atI2, fin _ (by lia) (by lia)⟩
end
end My
namespace My
open PySem L2
theorem atI_lt {α : Type} {xs : List α} {d : Int} (h0 : 0 ≤ d) (h1 : d < xs.length) : ∃ x, atI xs d = some x ∧ xs[d.toNat]? = some x := by
  have hk : d.toNat < xs.length := by lia
  have ek : d = ((d.toNat : Nat) : Int) := by lia
  have q : atI xs ((d.toNat : Nat) : Int) = some xs[d.toNat] := atI_nat (List.getElem?_eq_getElem hk)
  rw [← ek] at q
  exact ⟨_, q, List.getElem?_eq_getElem hk⟩
section
variable {P : Program} {w : World} {K : PySem.W.Frag} {mg : Str → Option Value} {base : Heap} {f g f2 f3 : Addr} {fd gd fd2 fd3 : FuncData}
end
end My
namespace My
open PySem L2
theorem cut_take (xs : List V) {j : Int} (h0 : 0 ≤ j) (h1 : j ≤ xs.length) : cutV xs none (some j) = xs.take j.toNat := by
  have ej : j = ((j.toNat : Nat) : Int) := by lia
  have e : HT.sIx xs.length xs.length (some j) = j.toNat := by
    rw [ej, HT.sIx_nat]
    lia
  unfold cutV
  rw [e, HT.sIx_none, List.drop_zero, Nat.sub_zero]
theorem cut_drop (xs : List V) {j : Int} (h0 : 0 ≤ j) (h1 : j ≤ xs.length) : cutV xs (some j) none = xs.drop j.toNat := by
  have ej : j = ((j.toNat : Nat) : Int) := by lia
  have e : HT.sIx xs.length 0 (some j) = j.toNat := by
    rw [ej, HT.sIx_nat]
    lia
  unfold cutV
  rw [e, HT.sIx_none]
  apply List.take_of_length_le
  rw [List.length_drop]
  lia
theorem split2 {xs : List V} {j : Nat} (h : j + 2 ≤ xs.length) : ∃ a x y b, xs = a ++ x :: y :: b ∧ a.length = j ∧ xs.take j = a ∧ xs.drop (j + 2) = b := by
  refine ⟨xs.take j, xs[j], xs[j + 1], xs.drop (j + 2), ?_, by rw [List.length_take]; lia, rfl, rfl⟩
  rw [← List.drop_eq_getElem_cons (by lia), ← List.drop_eq_getElem_cons (by lia), List.take_append_drop]
theorem split3 {xs : List V} {j : Nat} (h : j + 3 ≤ xs.length) : ∃ a x y z b, xs = a ++ x :: y :: z :: b ∧ a.length = j ∧ xs.take j = a ∧ xs.drop (j + 3) = b := by
  refine ⟨xs.take j, xs[j], xs[j + 1], xs[j + 2], xs.drop (j + 3), ?_, by rw [List.length_take]; lia, rfl, rfl⟩
  rw [← List.drop_eq_getElem_cons (by lia), ← List.drop_eq_getElem_cons (by lia), ← List.drop_eq_getElem_cons (by lia), List.take_append_drop]
theorem at_app {a b : List V} {x : V} {d : Int} (h : d = (a.length : Int)) : atI (a ++ x :: b) d = some x := by
  subst h
  exact atI_nat (by rw [List.getElem?_append_right (Nat.le_refl _), Nat.sub_self]; rfl)
theorem tand {A B R : Prop} {c1 c2 : Bool} (hr : (if c2 = true then A else B) → R) (h1 : c1 = true → c2 = true → A) (h2 : ¬ (c1 = true ∧ c2 = true) → B) : if c1 = true then R else (if false = true then A else B) := by
  cases c1 with
  | true =>
    rw [if_pos rfl]
    apply hr
    cases c2 with
    | true => rw [if_pos rfl]; exact h1 rfl rfl
    | false => exact iteF (h2 fun z => Bool.false_ne_true z.2)
  | false => exact iteF (iteF (h2 fun z => Bool.false_ne_true z.1))
section
variable {P : Program} {w : World} {K : PySem.W.Frag} {mg : Str → Option Value} {base : Heap} {f g f2 f3 : Addr} {fd gd fd2 fd3 : FuncData}
end
end My
namespace My
open PySem L2
theorem slice_len (z : Str) {j : Int} (h0 : 0 ≤ j) (h1 : j ≤ z.length) : ((Txt.slice z none (some j)).length : Int) = j := by
  rcases PyProof.Rows.slice_ns_cases z j h0 with ⟨_, h⟩ | ⟨h, _⟩
  · exact h
  · lia
noncomputable def letters : Str := "abcdefghijklmnopqrstuvwxyz"
theorem letters_all : letters.cps.toList.all lett = true := by decide +kernel
theorem letters_len : letters.length = 26 := by decide +kernel
theorem letter_at {d : Int} (h0 : 0 ≤ d) (h1 : d < 26) : ∃ c, atI letters.cps.toList d = some c ∧ lett c = true := by
  have hl : letters.cps.toList.length = 26 := by decide +kernel
  obtain ⟨c, e, e2⟩ := atI_lt (xs := letters.cps.toList) h0 (by rw [hl]; lia)
  exact ⟨c, e, List.all_eq_true.mp letters_all c (List.mem_of_getElem? e2)⟩
theorem app_len (x y : Str) : (x ++ y).length = x.length + y.length := by
  show (x.cps ++ y.cps).size = _
  rw [Array.size_append]
  rfl
noncomputable def names13 : List Str := ["own", "up", "down", "min", "max", "of", "top", "form", "sort", "wheel", "book", "tree", "ok"]
theorem aneq : (Txt.slice "aneqoubi" none (some 7)).length = 7 ∧ (Txt.slice "aneqoubi" none (some 7)).cps.toList.all lett = true := by decide +kernel
theorem eyz_len : ("eyzmopq" : Str).length = 7 := by decide +kernel
section
variable {P : Program} {w : World} {K : PySem.W.Frag} {mg : Str → Option Value} {base : Heap} {f g f2 f3 : Addr} {fd gd fd2 fd3 : FuncData}
end
end My
namespace My
open PySem L2
theorem Tp.same {H H' : Hp} {tp : Addr} (t : Tp H tp) (s : Same H H') : Tp H' tp := by
  obtain ⟨t0, e⟩ := t
  exact ⟨t0, s _ _ e⟩
section
variable {P : Program} {w : World} {K : PySem.W.Frag} {mg : Str → Option Value} {base : Heap} {f g f2 f3 : Addr} {fd gd fd2 fd3 : FuncData}
end
end My
namespace My
open PySem L2
noncomputable def Fm.wfp (ρ : Fm → Prop) : Fm → Prop
  | .num n => -999999 ≤ n ∧ n ≤ 999999
  | .own x => wordB x = true ∧ ρ (.own x)
  | .part k x => ((0 ≤ k ∧ k ≤ 2) ∧ wordB x = true) ∧ ρ (.part k x)
  | .bin op a b => op ∈ ops ∧ a.wfp ρ ∧ b.wfp ρ
  | .whn a b c => a.wfp ρ ∧ b.wfp ρ ∧ c.wfp ρ
inductive FsP (ρ : Fm → Prop) (H : Hp) : List V → Nat → Prop where
  | nil : FsP ρ H [] 0
  | cons {v : V} {f : Fm} {vs : List V} {n : Nat} : Rep H f v → f.wfp ρ → FsP ρ H vs n → FsP ρ H (v :: vs) (f.size + n)
theorem FsP.append {ρ : Fm → Prop} {H : Hp} {xs ys : List V} {m n : Nat} (a : FsP ρ H xs m) (b : FsP ρ H ys n) : FsP ρ H (xs ++ ys) (m + n) := by
  induction a with
  | nil => rw [Nat.zero_add]; exact b
  | cons r w _ ih => rw [Nat.add_assoc]; exact .cons r w ih
theorem FsP.split {ρ : Fm → Prop} {H : Hp} : ∀ {xs ys : List V} {n : Nat}, FsP ρ H (xs ++ ys) n → ∃ a b, FsP ρ H xs a ∧ FsP ρ H ys b ∧ n = a + b
  | [], ys, n, h => ⟨0, n, .nil, h, by lia⟩
  | x :: r, ys, n, h => by
    cases h with
    | cons rp wf t =>
      obtain ⟨a, b, h1, h2, e⟩ := FsP.split t
      exact ⟨_, b, .cons rp wf h1, h2, by lia⟩
end My
namespace My
open PySem L2
theorem FsP.mono {ρ : Fm → Prop} {H H' : Hp} (t : TK H H') {xs : List V} {n : Nat} (h : FsP ρ H xs n) : FsP ρ H' xs n := by
  induction h with
  | nil => exact .nil
  | cons r w _ ih => exact .cons (r.mono t) w ih
noncomputable def LvsP (ρ : Fm → Prop) (H : Hp) (rs : List V) : Prop := ∀ v ∈ rs, ∃ f, Rep H f v ∧ f.wfp ρ ∧ f.size = 1
theorem LvsP.mono {ρ : Fm → Prop} {H H' : Hp} (t : TK H H') {rs : List V} (h : LvsP ρ H rs) : LvsP ρ H' rs := fun v hv => by
  obtain ⟨f, r, w, s⟩ := h v hv
  exact ⟨f, r.mono t, w, s⟩
inductive spLeafP (ρ : Fm → Prop) (vs : List V) (H : Hp) (Q : VK) (E_ : XK) : Prop
  | mk : ∀ tp rl rs, (vs = [.ref tp, .ref rl]) → (Tp H tp) → (rl ≠ tp) → (H rl = some (.lst rs)) → (rs.length ≤ 1000) → (LvsP ρ H rs) → (∀ v f H', Rep H' f v → f.wfp ρ → f.size = 1 → Kp tp H H' → Tp H' tp → Q v H') → spLeafP ρ vs H Q E_
inductive spFormulaP (ρ : Fm → Prop) (vs : List V) (H : Hp) (Q : VK) (E_ : XK) : Prop
  | mk : ∀ tp rl rs, (vs = [.ref tp, .ref rl]) → (Tp H tp) → (rl ≠ tp) → (H rl = some (.lst rs)) → (rs.length ≤ 1000) → (LvsP ρ H rs) → (∀ v f H', Rep H' f v → f.wfp ρ → f.size ≤ 15 → Kp tp H H' → Tp H' tp → Q v H') → spFormulaP ρ vs H Q E_
section
variable {P : Program} {w : World} {K : PySem.W.Frag} {mg : Str → Option Value} {base : Heap} {f g f2 f3 : Addr} {fd gd fd2 fd3 : FuncData}
theorem scLeafP : FnScope ["tape", "readings"] ["tape", "readings"] (defScope sLeaf) := ⟨rfl, rfl, rfl, by decide +kernel, rfl, by decide +kernel, by decide +kernel⟩
theorem ok_leafP {ρ : Fm → Prop} (F : Fun K "_law_leaf" "_law_leaf" sLeaf f fd) (G : Gb mg) (GD : FnOk P w K mg base CX0 1 g gd ["tape", "many"] spDigit) (bD : Binds K gd ["tape", "many"] []) (kD : PySem.W.keepIn K (.ref g) = true) (mD : mg "_law_digit" = some (.ref g))
    (GN : FnOk P w K mg base CX0 2 f2 fd2 ["tape"] spNumber) (bN : Binds K fd2 ["tape"] []) (kN : PySem.W.keepIn K (.ref f2) = true) (mN : mg "_law_number" = some (.ref f2)) :
    FnOk P w K mg base CX0 3 f fd ["tape", "readings"] (spLeafP ρ) := by
  refine F.ok scLeafP (fun vs H Q E h => ?_) (fun cdv A outer s H vs Q E hr h => ?_)
  · obtain ⟨tp, rl, rs, rfl, _⟩ := h
    rfl
  obtain ⟨tp, rl, rs, rfl, hT, hne, hrl, hlen, hL, q⟩ := h
  have hr1 := hr.mono (show 1 ≤ 2 by decide)
  refine ⟨_, pss_cons (ps_if (PW.pt (pw_and (pt_cmpR op_gt (pe_callB (r := rLen K) call_len_seq rfl G.len PySem.boot_len (pa_cons (pv 1) pa_nil)) pe_int (nomark _))
      (pw_and1 (pt_cmpR op_lt (pe_call GD hr1 rfl mD kD bD .nil pass0 (pa_cons (pv 0) (pa_cons pe_int pa_nil))) pe_int (nomark _)))))
      (pss_one (ps_ret (pe_ix (r := rIxL K) ix_list (pv 1) (pe_call GD hr1 rfl mD kD bD .nil pass0 (pa_cons (pv 0) (pa_cons (pe_callB (r := rLen K) call_len_seq rfl G.len PySem.boot_len (pa_cons (pv 1) pa_nil)) pa_nil))) (fun _ _ => rfl)))) pss_nil)
    (pss_one (ps_ret (pe_tup (pa_cons pe_str (pa_cons (pe_call GN hr rfl mN kN bN .nil pass0 (pa_cons (pv 0) pa_nil)) pa_nil))))), ?_⟩
  have num : ∀ H1, Kp tp H H1 → Tp H1 tp → (tVar 0 ([some (V.ref tp), some (.ref rl)] : St) H1 fun v H1 => spNumber [v] H1 (fun x H2 => [V.str "num", x].length ≤ sizeLine ∧ ∀ p, H2 p = none → Q (.ref p) (upd H2 p (.tup [V.str "num", x]))) E0) := fun H1 k1 t1 => by
    refine ⟨_, rfl, tp, rfl, t1, fun n H2 h1 h2 k2 t2 => ⟨(by show 2 ≤ sizeLine; decide), fun p hp => ?_⟩⟩
    exact q _ (.num n) _ ⟨p, rfl, upd_same⟩ ⟨h1, h2⟩ rfl ((k1.trans k2).new hp) (t2.new hp)
  refine ⟨_, rfl, rl, rs, rfl, .inl (SqL.of hrl), _, _, rfl, rfl, _, rfl, ?_⟩
  refine ite2 (fun c => ?_) (fun c => ?_)
  · have c' : 0 < rs.length := by have := of_decide_eq_true c; lia
    refine ⟨_, rfl, tp, 4, rfl, hT, by decide, by decide, fun d t h0 h1 => ?_⟩
    refine ⟨_, _, rfl, rfl, _, rfl, ?_⟩
    refine ite2 (fun c2 => ?_) (fun c2 => ?_)
    · have h2 : (upd H tp (.lst [.int t])) rl = some (.lst rs) := by rw [upd_ne hne]; exact hrl
      refine ⟨_, rfl, _, rfl, _, rfl, rl, rs, rfl, .inl (SqL.of h2), tp, _, rfl, ⟨t, upd_same⟩, by lia, by lia, fun d2 t2 h20 h21 => ?_⟩
      rw [upd_upd]
      have h3 : (upd H tp (.lst [.int t2])) rl = some (.lst rs) := by rw [upd_ne hne]; exact hrl
      obtain ⟨x, ex, ex2⟩ := atI_lt (xs := rs) h20 h21
      obtain ⟨fm, r, wf, sz⟩ := hL x (List.mem_of_getElem? ex2)
      have k2 : Kp tp H (upd H tp (.lst [.int t2])) := Kp.tape
      exact ⟨rl, rs, d2, x, rfl, rfl, SqL.of h3, ex, q x fm _ (r.mono (k2.tk hT)) wf sz k2 ⟨t2, upd_same⟩⟩
    · exact num _ Kp.tape ⟨t, upd_same⟩
  · exact num _ Kp.refl hT
end
end My
namespace My
open PySem L2
theorem fsP_bin {H : Hp} {a b : List V} {x y : V} {n : Nat} (h : FsP ρ H (a ++ x :: y :: b) n) : ∃ A B, Rep H A x ∧ Rep H B y ∧ A.wfp ρ ∧ B.wfp ρ ∧ ∃ m1 m2, FsP ρ H a m1 ∧ FsP ρ H b m2 ∧ n = m1 + (A.size + (B.size + m2)) := by
  obtain ⟨m1, r, h1, h2, e⟩ := h.split
  cases h2 with
  | cons ra wa h3 =>
    cases h3 with
    | cons rb wb h4 => exact ⟨_, _, ra, rb, wa, wb, m1, _, h1, h4, e⟩
theorem fsP_whn {H : Hp} {a b : List V} {x y z : V} {n : Nat} (h : FsP ρ H (a ++ x :: y :: z :: b) n) : ∃ A B C, Rep H A x ∧ Rep H B y ∧ Rep H C z ∧ A.wfp ρ ∧ B.wfp ρ ∧ C.wfp ρ ∧ ∃ m1 m2, FsP ρ H a m1 ∧ FsP ρ H b m2 ∧ n = m1 + (A.size + (B.size + (C.size + m2))) := by
  obtain ⟨m1, r, h1, h2, e⟩ := h.split
  cases h2 with
  | cons ra wa h3 =>
    cases h3 with
    | cons rb wb h4 =>
      cases h4 with
      | cons rc wc h5 => exact ⟨_, _, _, ra, rb, rc, wa, wb, wc, m1, _, h1, h5, e⟩
section
variable {P : Program} {w : World} {K : PySem.W.Frag} {mg : Str → Option Value} {base : Heap} {f g f2 f3 : Addr} {fd gd fd2 fd3 : FuncData}
theorem scFormulaP : FnScope ["tape", "readings", "many", "j", "stack", "way", "sign"] ["tape", "readings"] (defScope sFormula) := ⟨rfl, rfl, rfl, by decide +kernel, rfl, by decide +kernel, by decide +kernel⟩
theorem ok_formulaP (F : Fun K "_law_formula" "_law_formula" sFormula f fd) (G : Gb mg) (GD : FnOk P w K mg base CX0 1 g gd ["tape", "many"] spDigit) (bD : Binds K gd ["tape", "many"] []) (kD : PySem.W.keepIn K (.ref g) = true) (mD : mg "_law_digit" = some (.ref g))
    (GL : FnOk P w K mg base CX0 3 f2 fd2 ["tape", "readings"] (spLeafP ρ)) (bL : Binds K fd2 ["tape", "readings"] []) (kL : PySem.W.keepIn K (.ref f2) = true) (mL : mg "_law_leaf" = some (.ref f2)) :
    FnOk P w K mg base CX0 4 f fd ["tape", "readings"] (spFormulaP ρ) := by
  refine F.ok scFormulaP (fun vs H Q E h => ?_) (fun cdv A outer s H vs Q E hr h => ?_)
  · obtain ⟨tp, rl, rs, rfl, _⟩ := h
    rfl
  obtain ⟨tp, rl, rs, rfl, hT, hne, hrl, hlen, hL, q⟩ := h
  have hr1 := hr.mono (show 1 ≤ 3 by decide)
  obtain ⟨t, ht, hread⟩ : ∃ t, PSs (cxOf CX0 P w K mg base ["tape", "readings", "many", "j", "stack", "way", "sign"] "_law_formula" (defScope sFormula) f cdv A outer s H E).nox ((defBody sFormula).drop 2) t ∧
      ∀ (m : Int) (H2 : Hp), 1 ≤ m → m ≤ 8 → Kp tp H H2 → Tp H2 tp → t { nx := fun _ H' => Q .non H', rt := Q } [some (.ref tp), some (.ref rl), some (.int m), none, none, none, none] H2 := by
    refine ⟨_, pss_cons (ps_setC (i := 4) (sc0 := defScope sFormula) (N0 := ["tape", "readings", "many", "j", "stack", "way", "sign"]) (ys := ["tape", "readings"]) (fr := [0, 1]) rfl scFormulaP.nd rfl (Or.inl rfl) (pi_range1 rfl G.range (pa_cons (pv 2) pa_nil)) rfl rfl
        ⟨rfl, by decide +kernel, by decide +kernel, by decide +kernel, by decide +kernel, by decide +kernel, rfl, by decide +kernel⟩
        (fun C s H ex => pe_call GL hr rfl mL kL bL .nil pass0 (pa_cons (pv 1) (pa_cons (pv 2) pa_nil))))
      (pss_cons (ps_while PassesOwn.never (pt_cmpR op_gt (pe_callB (r := rLen K) call_len_seq rfl G.len PySem.boot_len (pa_cons (pv 4) pa_nil)) pe_int (nomark _))
        (pss_cons (ps_set (i := 5) scFormulaP.nd rfl (Or.inl rfl) (pe_call GD hr1 rfl mD kD bD .nil pass0 (pa_cons (pv 0) (pa_cons pe_int pa_nil))))
        (pss_one (ps_if (PW.pt (pw_and (pt_cmpR op_eq (pv 5) pe_int (nomark _)) (pw_and1 (pt_cmpR op_gt (pe_callB (r := rLen K) call_len_seq rfl G.len PySem.boot_len (pa_cons (pv 4) pa_nil)) pe_int (nomark _)))))
          (pss_cons (ps_set (i := 3) scFormulaP.nd rfl (Or.inl rfl) (pe_call GD hr1 rfl mD kD bD .nil pass0 (pa_cons (pv 0) (pa_cons (pe_op op_sub (pe_callB (r := rLen K) call_len_seq rfl G.len PySem.boot_len (pa_cons (pv 4) pa_nil)) pe_int) pa_nil))))
          (pss_one (ps_set (i := 4) scFormulaP.nd rfl (Or.inl rfl) (pe_op op_cat (pe_op op_cat (pe_slice sl_list (pv 4) po_none (po_some (pv 3)))
            (pe_lst (pa_cons (pe_tup (pa_cons pe_str (pa_cons (pe_ix (r := rIxL K) ix_list (pv 4) (pv 3) (fun _ _ => rfl)) (pa_cons (pe_ix (r := rIxL K) ix_list (pv 4) (pe_op op_add (pv 3) pe_int) (fun _ _ => rfl)) (pa_cons (pe_ix (r := rIxL K) ix_list (pv 4) (pe_op op_add (pv 3) pe_int) (fun _ _ => rfl)) pa_nil))))) pa_nil)))
            (pe_slice sl_list (pv 4) (po_some (pe_op op_add (pv 3) pe_int)) po_none)))))
          (pss_cons (ps_set (i := 3) scFormulaP.nd rfl (Or.inl rfl) (pe_call GD hr1 rfl mD kD bD .nil pass0 (pa_cons (pv 0) (pa_cons (pe_op op_sub (pe_callB (r := rLen K) call_len_seq rfl G.len PySem.boot_len (pa_cons (pv 4) pa_nil)) pe_int) pa_nil))))
          (pss_cons (ps_set (i := 6) scFormulaP.nd rfl (Or.inl rfl) (pe_ix (r := rIxL K) ix_list (pe_lst (pa_cons pe_str (pa_cons pe_str (pa_cons pe_str (pa_cons pe_str (pa_cons pe_str pa_nil)))))) (pe_op op_mod (pv 5) pe_int) (fun _ _ => rfl)))
          (pss_one (ps_set (i := 4) scFormulaP.nd rfl (Or.inl rfl) (pe_op op_cat (pe_op op_cat (pe_slice sl_list (pv 4) po_none (po_some (pv 3)))
            (pe_lst (pa_cons (pe_tup (pa_cons (pv 6) (pa_cons (pe_ix (r := rIxL K) ix_list (pv 4) (pv 3) (fun _ _ => rfl)) (pa_cons (pe_ix (r := rIxL K) ix_list (pv 4) (pe_op op_add (pv 3) pe_int) (fun _ _ => rfl)) pa_nil)))) pa_nil)))
            (pe_slice sl_list (pv 4) (po_some (pe_op op_add (pv 3) pe_int)) po_none))))))))))
      (pss_one (ps_ret (pe_ix (r := rIxL K) ix_list (pv 4) pe_int (fun _ _ => rfl))))), fun m H2 hm1 hm8 k2 tt2 => ?_⟩
    have tpn : ∀ {p : Addr} {Hx : Hp}, Tp Hx tp → Hx p = none → p ≠ tp := fun t hp e => by
      obtain ⟨t0, e0⟩ := t
      subst e
      rw [e0] at hp
      cases hp
    refine ⟨_, rfl, m, rfl, by lia, by lia, ?_⟩
    refine comp_walk (n := m.toNat) (R := fun i v => v = .int (0 + i)) (by lia) itr_go itr_stop itr_yld
      (fun p i zs H' => Kp tp H H' ∧ Tp H' tp ∧ H' p = some (.lst zs) ∧ p ≠ tp ∧ zs.length = i ∧ FsP ρ H' zs i) ?_ ?_ ?_ ?_
    · intro p hp
      exact ⟨k2.new hp, tt2.new hp, upd_same, tpn tt2 hp, rfl, .nil⟩
    · rintro p i zs H' ⟨_, _, h, _, e, _⟩
      exact ⟨h, e⟩
    · rintro p i zs H' v k hp hi rfl ⟨k3, t3, hz, hpn, hzl, hf⟩ hk
      have hrl' : H' rl = some (.lst rs) := k3 _ _ hrl hne
      refine ⟨_, rfl, _, rfl, tp, rl, rs, rfl, t3, hne, hrl', hlen, hL.mono (k3.tk hT), fun v f H3 rp wf sz k4 t4 => ?_⟩
      refine hk v H3 (k4 _ _ hz hpn) ⟨?_, ?_, upd_same, hpn, by rw [List.length_append, hzl]; rfl, ?_⟩
      · intro b o hb hne'
        have hbp : b ≠ p := fun e => by
          subst e
          have := k2 b o hb hne'
          rw [hp] at this
          cases this
        rw [upd_ne hbp]
        exact k4 _ _ (k3 _ _ hb hne') hne'
      · obtain ⟨t0, e0⟩ := t4
        exact ⟨t0, by rw [upd_ne (Ne.symm hpn)]; exact e0⟩
      · have tk : TK H3 (upd H3 p (.lst (zs ++ [v]))) := TK.lst (k4 _ _ hz hpn)
        have e1 : FsP ρ H3 zs i := hf.mono (k4.tk t3)
        have e2 := e1.append (FsP.cons rp wf .nil)
        rw [sz] at e2
        exact e2.mono tk
    · rintro p zs H' hp ⟨k3, t3, hz, hpn, hzl, hf⟩
      refine while_by (fun σ H' => ∃ (sl : Addr) (ws : List V) (n : Nat) (j wy sg : Option V), σ = [some (.ref tp), some (.ref rl), some (.int m), j, some (.ref sl), wy, sg] ∧ H' sl = some (.lst ws) ∧ sl ≠ tp ∧ 1 ≤ ws.length ∧ ws.length ≤ 8 ∧
          FsP ρ H' ws n ∧ n + ws.length ≤ 16 ∧ Kp tp H H' ∧ Tp H' tp)
        (fun σ H' => match σ with | [_, _, _, _, some (.ref sl), _, _] => (match H' sl with | some (.lst ws) => ws.length | _ => 0) | _ => 0)
        ⟨p, zs, m.toNat, none, none, none, rfl, hz, hpn, by lia, by lia, hf, by lia, k3, t3⟩ ?_ ?_
      · rintro σ H3 ⟨sl, ws, n, j, wy, sg, rfl, hsl, hsn, hw1, hw8, hfs, hsz, k4, t4⟩
        refine ⟨_, rfl, sl, ws, rfl, .inl (SqL.of hsl), _, _, rfl, rfl, _, rfl, ?_⟩
        refine ite2 (fun c => ?_) (fun c => ?_)
        · have c' : 1 < ws.length := by have := of_decide_eq_true c; lia
          refine ⟨_, rfl, tp, 6, rfl, t4, by decide, by decide, fun wy t5 hw0 hw6 => ?_⟩
          have k5 : Kp tp H3 (upd H3 tp (.lst [.int t5])) := Kp.tape
          have tt5 : Tp (upd H3 tp (.lst [.int t5])) tp := ⟨t5, upd_same⟩
          have hsl5 := k5 _ _ hsl hsn
          have hfs5 := hfs.mono (k5.tk t4)
          have k5' := k4.trans k5
          generalize upd H3 tp (.lst [.int t5]) = H5 at k5 tt5 hsl5 hfs5 k5' ⊢
          refine ⟨_, rfl, rfl, _, rfl, ?_⟩
          refine tand (c2 := decide (2 < (ws.length : Int))) (fun h => ⟨_, rfl, sl, ws, rfl, .inl (SqL.of hsl5), _, _, rfl, rfl, _, rfl, h⟩) (fun _ cw => ?_) (fun _ => ?_)
          · -- when
            have cw' : 2 < ws.length := by have := of_decide_eq_true cw; lia
            refine ⟨_, rfl, _, rfl, sl, ws, rfl, .inl (SqL.of hsl5), _, _, rfl, rfl, tp, _, rfl, tt5, by lia, by lia, fun jj t6 hj0 hj1 => ?_⟩
            have k6 : Kp tp H5 (upd H5 tp (.lst [.int t6])) := Kp.tape
            have tt6 : Tp (upd H5 tp (.lst [.int t6])) tp := ⟨t6, upd_same⟩
            have hsl6 := k6 _ _ hsl5 hsn
            have hfs6 := hfs5.mono (k6.tk tt5)
            have k6' := k5'.trans k6
            generalize upd H5 tp (.lst [.int t6]) = H6 at k6 tt6 hsl6 hfs6 k6' ⊢
            obtain ⟨a, x, y, z, b, ew, ea, etk, edr⟩ := split3 (xs := ws) (j := jj.toNat) (by lia)
            have ej : jj = (a.length : Int) := by lia
            obtain ⟨A, B, C, ra, rb, rc, wa, wb, wc, m1, m2, f1, f2, en⟩ := fsP_whn (ew ▸ hfs6)
            have hlw : ws.length = a.length + 3 + b.length := by rw [ew]; simp; lia
            refine ⟨_, rfl, _, rfl, jj, rfl, sl, ws, rfl, SqL.of hsl6, fun p1 hp1 => ?_⟩
            rw [cut_take ws hj0 (by lia), etk]
            have s1 : Same H6 (upd H6 p1 (.lst a)) := same_new hp1 _
            have g1 : (upd H6 p1 (.lst a)) p1 = some (.lst a) := upd_same
            generalize upd H6 p1 (.lst a) = H7 at s1 g1 ⊢
            have hsl7 := s1 _ _ hsl6
            refine ⟨_, rfl, _, rfl, sl, ws, jj, x, rfl, rfl, SqL.of hsl7, ew ▸ at_app ej, _, rfl, _, rfl, _, _, rfl, rfl, sl, ws, jj + 1, y, rfl, rfl, SqL.of hsl7, ?_, _, rfl, _, rfl, _, _, rfl, rfl, sl, ws, jj + 2, z, rfl, rfl, SqL.of hsl7, ?_, (by show 4 ≤ sizeLine; decide), fun p2 hp2 => ?_⟩
            · rw [ew, show a ++ x :: y :: z :: b = (a ++ [x]) ++ y :: z :: b by simp]
              exact at_app (by simp; lia)
            · rw [ew, show a ++ x :: y :: z :: b = (a ++ [x, y]) ++ z :: b by simp]
              exact at_app (by simp; lia)
            have s2 : Same H7 (upd H7 p2 (.tup [.str "when", x, y, z])) := same_new hp2 _
            have g2 : (upd H7 p2 (.tup [.str "when", x, y, z])) p2 = some (.tup [.str "when", x, y, z]) := upd_same
            generalize upd H7 p2 (.tup [.str "when", x, y, z]) = H8 at s2 g2 ⊢
            refine ⟨(by show 1 ≤ sizeLine; decide), fun p3 hp3 => ?_⟩
            have s3 : Same H8 (upd H8 p3 (.lst [.ref p2])) := same_new hp3 _
            have g3 : (upd H8 p3 (.lst [.ref p2])) p3 = some (.lst [.ref p2]) := upd_same
            generalize upd H8 p3 (.lst [.ref p2]) = H9 at s3 g3 ⊢
            refine ⟨p1, p3, a, _, rfl, rfl, s3 _ _ (s2 _ _ g1), g3, Nat.le_of_lt (small1000 (by simp; lia)), fun p4 hp4 => ?_⟩
            have s4 : Same H9 (upd H9 p4 (.lst (a ++ [.ref p2]))) := same_new hp4 _
            have g4 : (upd H9 p4 (.lst (a ++ [.ref p2]))) p4 = some (.lst (a ++ [.ref p2])) := upd_same
            generalize upd H9 p4 (.lst (a ++ [.ref p2])) = H10 at s4 g4 ⊢
            have s7 : Same H7 H10 := s2.trans (s3.trans s4)
            refine ⟨_, rfl, _, rfl, _, _, rfl, rfl, jj + 3, rfl, sl, ws, rfl, SqL.of (s7 _ _ hsl7), fun p5 hp5 => ?_⟩
            rw [cut_drop ws (by lia) (by lia), show (jj + 3).toNat = jj.toNat + 3 by lia, edr]
            have s5 : Same H10 (upd H10 p5 (.lst b)) := same_new hp5 _
            have g5 : (upd H10 p5 (.lst b)) p5 = some (.lst b) := upd_same
            generalize upd H10 p5 (.lst b) = H11 at s5 g5 ⊢
            refine ⟨p4, p5, _, b, rfl, rfl, s5 _ _ g4, g5, Nat.le_of_lt (small1000 (by simp; lia)), fun p6 hp6 => ?_⟩
            have s6 : Same H6 H11 := s1.trans (s7.trans s5)
            have st : Same H6 (upd H11 p6 (.lst (a ++ [.ref p2] ++ b))) := s6.trans (same_new hp6 _)
            have tk : TK H6 (upd H11 p6 (.lst (a ++ [.ref p2] ++ b))) := fun c xs h => st _ _ h
            have g2' : (upd H11 p6 (.lst (a ++ [.ref p2] ++ b))) p2 = some (.tup [.str "when", x, y, z]) := (same_new hp6 _) _ _ (s5 _ _ (s4 _ _ (s3 _ _ g2)))
            have tt7 : Tp (upd H11 p6 (.lst (a ++ [.ref p2] ++ b))) tp := by obtain ⟨t0, e0⟩ := tt6; exact ⟨t0, st _ _ e0⟩
            refine ⟨⟨p6, _, m1 + ((Fm.whn A B C).size + 0) + m2, _, _, _, rfl, upd_same, ?_, by simp; lia, by simp; lia, ?_, ?_, k6'.same st, tt7⟩, ?_⟩
            · intro e
              obtain ⟨t0, e0⟩ := tt6
              have := s6 _ _ e0
              rw [← e, hp6] at this
              cases this
            · exact ((f1.mono tk).append (FsP.cons (f := .whn A B C) ⟨p2, x, y, z, rfl, g2', ra.mono tk, rb.mono tk, rc.mono tk⟩ ⟨wa, wb, wc⟩ .nil)).append (f2.mono tk)
            · show m1 + ((A.size + B.size + C.size + 1) + 0) + m2 + (a ++ [V.ref p2] ++ b).length ≤ 16
              simp
              lia
            · show (match (upd H11 p6 (.lst (a ++ [.ref p2] ++ b))) p6 with | some (.lst ws) => ws.length | _ => 0) < (match H3 sl with | some (.lst ws) => ws.length | _ => 0)
              rw [upd_same, hsl]
              simp
              lia
          · -- one of the five signs
            refine ⟨_, rfl, _, rfl, sl, ws, rfl, .inl (SqL.of hsl5), _, _, rfl, rfl, tp, _, rfl, tt5, by lia, by lia, fun jj t6 hj0 hj1 => ?_⟩
            have k6 : Kp tp H5 (upd H5 tp (.lst [.int t6])) := Kp.tape
            have tt6 : Tp (upd H5 tp (.lst [.int t6])) tp := ⟨t6, upd_same⟩
            have hsl6 := k6 _ _ hsl5 hsn
            have hfs6 := hfs5.mono (k6.tk tt5)
            have k6' := k5'.trans k6
            generalize upd H5 tp (.lst [.int t6]) = H6 at k6 tt6 hsl6 hfs6 k6' ⊢
            refine ⟨(by show 5 ≤ sizeLine; decide), fun p0 hp0 => ?_⟩
            have s0 : Same H6 (upd H6 p0 (.lst [.str "plus", .str "less", .str "times", .str "least", .str "most"])) := same_new hp0 _
            have g0 : (upd H6 p0 (.lst [.str "plus", .str "less", .str "times", .str "least", .str "most"])) p0 = some (.lst [.str "plus", .str "less", .str "times", .str "least", .str "most"]) := upd_same
            generalize upd H6 p0 (.lst [.str "plus", .str "less", .str "times", .str "least", .str "most"]) = H6b at s0 g0 ⊢
            obtain ⟨op, hop, hopm⟩ : ∃ op, atI [V.str "plus", .str "less", .str "times", .str "least", .str "most"] (wy % 5) = some (.str op) ∧ op ∈ ops := by
              have h1 := Int.emod_nonneg wy (show (5 : Int) ≠ 0 by decide)
              have h2 := Int.emod_lt_of_pos wy (show (0 : Int) < 5 by decide)
              have h5 : wy % 5 = 0 ∨ wy % 5 = 1 ∨ wy % 5 = 2 ∨ wy % 5 = 3 ∨ wy % 5 = 4 := by lia
              rcases h5 with h | h | h | h | h <;> rw [h]
              · exact ⟨"plus", rfl, by simp [ops]⟩
              · exact ⟨"less", rfl, by simp [ops]⟩
              · exact ⟨"times", rfl, by simp [ops]⟩
              · exact ⟨"least", rfl, by simp [ops]⟩
              · exact ⟨"most", rfl, by simp [ops]⟩
            refine ⟨_, rfl, _, _, rfl, rfl, (by show (0 : Int) < 5; decide), p0, _, _, _, rfl, rfl, SqL.of g0, hop, ?_⟩
            obtain ⟨a, x, y, b, ew, ea, etk, edr⟩ := split2 (xs := ws) (j := jj.toNat) (by lia)
            have ej : jj = (a.length : Int) := by lia
            obtain ⟨A, B, ra, rb, wa, wb, m1, m2, f1, f2, en⟩ := fsP_bin (ew ▸ hfs6)
            have hlw : ws.length = a.length + 2 + b.length := by rw [ew]; simp; lia
            have hsl6b := s0 _ _ hsl6
            refine ⟨_, rfl, _, rfl, jj, rfl, sl, ws, rfl, SqL.of hsl6b, fun p1 hp1 => ?_⟩
            rw [cut_take ws hj0 (by lia), etk]
            have s1 : Same H6b (upd H6b p1 (.lst a)) := same_new hp1 _
            have g1 : (upd H6b p1 (.lst a)) p1 = some (.lst a) := upd_same
            generalize upd H6b p1 (.lst a) = H7 at s1 g1 ⊢
            have hsl7 := s1 _ _ hsl6b
            refine ⟨_, rfl, _, rfl, _, rfl, sl, ws, jj, x, rfl, rfl, SqL.of hsl7, ew ▸ at_app ej, _, rfl, _, rfl, _, _, rfl, rfl, sl, ws, jj + 1, y, rfl, rfl, SqL.of hsl7, ?_, (by show 3 ≤ sizeLine; decide), fun p2 hp2 => ?_⟩
            · rw [ew, show a ++ x :: y :: b = (a ++ [x]) ++ y :: b by simp]
              exact at_app (by simp; lia)
            have s2 : Same H7 (upd H7 p2 (.tup [.str op, x, y])) := same_new hp2 _
            have g2 : (upd H7 p2 (.tup [.str op, x, y])) p2 = some (.tup [.str op, x, y]) := upd_same
            generalize upd H7 p2 (.tup [.str op, x, y]) = H8 at s2 g2 ⊢
            refine ⟨(by show 1 ≤ sizeLine; decide), fun p3 hp3 => ?_⟩
            have s3 : Same H8 (upd H8 p3 (.lst [.ref p2])) := same_new hp3 _
            have g3 : (upd H8 p3 (.lst [.ref p2])) p3 = some (.lst [.ref p2]) := upd_same
            generalize upd H8 p3 (.lst [.ref p2]) = H9 at s3 g3 ⊢
            refine ⟨p1, p3, a, _, rfl, rfl, s3 _ _ (s2 _ _ g1), g3, Nat.le_of_lt (small1000 (by simp; lia)), fun p4 hp4 => ?_⟩
            have s4 : Same H9 (upd H9 p4 (.lst (a ++ [.ref p2]))) := same_new hp4 _
            have g4 : (upd H9 p4 (.lst (a ++ [.ref p2]))) p4 = some (.lst (a ++ [.ref p2])) := upd_same
            generalize upd H9 p4 (.lst (a ++ [.ref p2])) = H10 at s4 g4 ⊢
            have s7 : Same H7 H10 := s2.trans (s3.trans s4)
            refine ⟨_, rfl, _, rfl, _, _, rfl, rfl, jj + 2, rfl, sl, ws, rfl, SqL.of (s7 _ _ hsl7), fun p5 hp5 => ?_⟩
            rw [cut_drop ws (by lia) (by lia), show (jj + 2).toNat = jj.toNat + 2 by lia, edr]
            have s5 : Same H10 (upd H10 p5 (.lst b)) := same_new hp5 _
            have g5 : (upd H10 p5 (.lst b)) p5 = some (.lst b) := upd_same
            generalize upd H10 p5 (.lst b) = H11 at s5 g5 ⊢
            refine ⟨p4, p5, _, b, rfl, rfl, s5 _ _ g4, g5, Nat.le_of_lt (small1000 (by simp; lia)), fun p6 hp6 => ?_⟩
            have s6 : Same H6 H11 := s0.trans (s1.trans (s7.trans s5))
            have st : Same H6 (upd H11 p6 (.lst (a ++ [.ref p2] ++ b))) := s6.trans (same_new hp6 _)
            have tk : TK H6 (upd H11 p6 (.lst (a ++ [.ref p2] ++ b))) := fun c xs h => st _ _ h
            have g2' : (upd H11 p6 (.lst (a ++ [.ref p2] ++ b))) p2 = some (.tup [.str op, x, y]) := (same_new hp6 _) _ _ (s5 _ _ (s4 _ _ (s3 _ _ g2)))
            have tt7 : Tp (upd H11 p6 (.lst (a ++ [.ref p2] ++ b))) tp := by obtain ⟨t0, e0⟩ := tt6; exact ⟨t0, st _ _ e0⟩
            refine ⟨⟨p6, _, m1 + ((Fm.bin op A B).size + 0) + m2, _, _, _, rfl, upd_same, ?_, by simp; lia, by simp; lia, ?_, ?_, k6'.same st, tt7⟩, ?_⟩
            · intro e
              obtain ⟨t0, e0⟩ := tt6
              have := s6 _ _ e0
              rw [← e, hp6] at this
              cases this
            · exact ((f1.mono tk).append (FsP.cons (f := .bin op A B) ⟨p2, x, y, rfl, g2', ra.mono tk, rb.mono tk⟩ ⟨hopm, wa, wb⟩ .nil)).append (f2.mono tk)
            · show m1 + ((A.size + B.size + 1) + 0) + m2 + (a ++ [V.ref p2] ++ b).length ≤ 16
              simp
              lia
            · show (match (upd H11 p6 (.lst (a ++ [.ref p2] ++ b))) p6 with | some (.lst ws) => ws.length | _ => 0) < (match H3 sl with | some (.lst ws) => ws.length | _ => 0)
              rw [upd_same, hsl]
              simp
              lia
        · have c' : ws.length = 1 := by
            have : ¬ (1 : Int) < (ws.length : Int) := fun z => c (decide_eq_true z)
            lia
          obtain ⟨x, ex⟩ := List.length_eq_one_iff.mp c'
          subst ex
          cases hfs with
          | cons rp wf f2 =>
            cases f2
            refine ⟨_, rfl, sl, _, 0, x, rfl, rfl, SqL.of hsl, atI0, q x _ H3 rp wf (by simp at hsz; lia) k4 t4⟩
      · rintro σ H3 Q1 Q2 hq ⟨y, e1, p, ys, e2, h2, i, j, e3, e4, k, e5, h⟩
        exact ⟨y, e1, p, ys, e2, h2, i, j, e3, e4, k, e5, hq _ _ h⟩
  refine ⟨_, pss_cons (ps_set (i := 2) scFormulaP.nd rfl (Or.inl rfl) (pe_op op_add pe_int (pe_call GD hr1 rfl mD kD bD .nil pass0 (pa_cons (pv 0) (pa_cons pe_int pa_nil)))))
    (pss_cons (ps_if (pt_cmpR op_eq (pe_call GD hr1 rfl mD kD bD .nil pass0 (pa_cons (pv 0) (pa_cons pe_int pa_nil))) pe_int (nomark _)) (pss_one (ps_set (i := 2) scFormulaP.nd rfl (Or.inl rfl) pe_int)) pss_nil) ht), ?_⟩
  refine ⟨_, rfl, tp, 4, rfl, hT, by decide, by decide, fun d1 t1 h10 h11 => ?_⟩
  refine ⟨1, _, rfl, rfl, ?_⟩
  refine ⟨_, rfl, tp, 16, rfl, ⟨t1, upd_same⟩, by decide, by decide, fun d2 t2 h20 h21 => ?_⟩
  rw [upd_upd]
  refine ⟨rfl, _, rfl, ?_⟩
  refine ite2 (fun c9 => ?_) (fun c9 => ?_)
  · exact hread 8 _ (by decide) (by decide) Kp.tape ⟨t2, upd_same⟩
  · exact hread (1 + d1) _ (by lia) (by lia) Kp.tape ⟨t2, upd_same⟩
end
end My
namespace My
open PySem L2
noncomputable def letC (d : Int) : Nat := (atI letters.cps.toList d).getD 0
noncomputable def stemOf (tu : Int) : Str := (⟨#[letC tu]⟩ : Str) ++ Txt.slice "aneqoubi" none (some 7)
noncomputable def nm0 (tu : Int) (i : Nat) : Str := if (0 + (i : Int)) < 8 then Txt.slice (stemOf tu) none (some (0 + (i : Int) + 1)) else (⟨#[letC ((tu + 1) % 26)]⟩ : Str) ++ Txt.slice (stemOf tu) none (some (0 + (i : Int) - 8))
noncomputable def nm1 (tu : Int) (i : Nat) : Str := ((names13)[((tu + (0 + (i : Int))) % 13).toNat]?).getD ""
noncomputable def nm2 (tu : Int) (i : Nat) : Str := (⟨#[letC ((tu + (0 + (i : Int))) % 26)]⟩ : Str) ++ Txt.slice "eyzmopq" none (some ((tu + 3 * (0 + (i : Int))) % 8))
noncomputable def nmOf (way : Nat) (tu : Int) (i : Nat) : Str := if way = 0 then nm0 tu i else if way = 1 then nm1 tu i else nm2 tu i
noncomputable def NamesAre (m : Nat) (ws : List Str) : Prop := ∃ (way tu : Nat) (back : Bool), way < 3 ∧ tu < 26 ∧ ws = (if back = true then ((List.range m).map (nmOf way tu)).reverse else (List.range m).map (nmOf way tu))
inductive spNamesX  (vs : List V) (H : Hp) (Q : VK) (E_ : XK) : Prop
  | mk : ∀ tp m, (vs = [.ref tp, .int m]) → (Tp H tp) → (0 ≤ m) → (m ≤ 13) → (∀ l (ws : List Str) H', H' l = some (.lst (ws.map V.str)) → (ws.length : Int) = m → NamesAre m.toNat ws → l ≠ tp → Kp tp H H' → Tp H' tp → Q (.ref l) H') → spNamesX vs H Q E_
theorem letC_at {d : Int} (h0 : 0 ≤ d) (h1 : d < 26) : atI letters.cps.toList d = some (letC d) := by
  obtain ⟨c, e, _⟩ := letter_at h0 h1
  unfold letC
  rw [e]
  rfl
theorem stem_len (tu : Int) : (stemOf tu).length = 8 := by unfold stemOf; rw [app_len, aneq.1]; rfl
section
variable {P : Program} {w : World} {K : PySem.W.Frag} {mg : Str → Option Value} {base : Heap} {f g f2 f3 : Addr} {fd gd fd2 fd3 : FuncData}
theorem scNamesX : FnScope ["tape", "many", "letters", "way", "turn", "back", "stem", "names", "words"] ["tape", "many"] (defScope sNames) := ⟨rfl, rfl, rfl, by decide +kernel, rfl, by decide +kernel, by decide +kernel⟩
theorem ok_namesX (F : Fun K "_law_names" "_law_names" sNames f fd) (G : Gb mg) (GD : FnOk P w K mg base CX0 1 g gd ["tape", "many"] spDigit) (bD : Binds K gd ["tape", "many"] []) (kD : PySem.W.keepIn K (.ref g) = true) (mD : mg "_law_digit" = some (.ref g)) :
    FnOk P w K mg base CX0 2 f fd ["tape", "many"] spNamesX := by
  refine F.ok scNamesX (fun vs H Q E h => ?_) (fun cdv A outer s H vs Q E hr h => ?_)
  · obtain ⟨tp, m, rfl, _⟩ := h
    rfl
  obtain ⟨tp, m, rfl, hT, hm0, hm1, q⟩ := h
  obtain ⟨t, ht, hread⟩ : ∃ t, PSs (cxOf CX0 P w K mg base ["tape", "many", "letters", "way", "turn", "back", "stem", "names", "words"] "_law_names" (defScope sNames) f cdv A outer s H E).nox ((defBody sNames).drop 5) t ∧
      ∀ (b : Int) (l : Addr) (way tu : Nat) (H2 : Hp) (o2 o3 o4 o6 o8 : Option V), (b = 1 ∨ b = -1) → way < 3 → tu < 26 → H2 l = some (.lst (((List.range m.toNat).map (nmOf way tu)).map V.str)) → Kp tp H H2 → Tp H2 tp →
        t { nx := fun _ H' => Q .non H', rt := Q } [some (.ref tp), some (.int m), o2, o3, o4, some (.int b), o6, some (.ref l), o8] H2 := by
    refine ⟨_, pss_one (ps_ret (pe_step (pv 7) (pv 5))), fun b l way tu H2 o2 o3 o4 o6 o8 hb hw1 hw2 hl k2 t2 => ?_⟩
    have hlen : (((List.range m.toNat).map (nmOf way tu)).length : Int) = m := by rw [List.length_map, List.length_range]; lia
    refine ⟨_, rfl, _, rfl, l, _, b, rfl, rfl, SqL.of hl, by lia, fun p hp => ?_⟩
    have hpt : p ≠ tp := fun e => by
      obtain ⟨t0, e0⟩ := t2
      subst e
      rw [e0] at hp
      cases hp
    rcases hb with rfl | rfl
    · rw [stepV_one]
      exact q p _ _ upd_same hlen ⟨way, tu, false, hw1, hw2, rfl⟩ hpt (k2.new hp) (t2.new hp)
    · rw [stepV_neg, ← List.map_reverse]
      exact q p _ _ upd_same (by rw [List.length_reverse]; exact hlen) ⟨way, tu, true, hw1, hw2, rfl⟩ hpt (k2.new hp) (t2.new hp)
  have cw : ∀ {te : TE} {fr : List Nat} {σ : St} {H2 : Hp} {Q2 : VK} (g : Nat → Str), (∀ (i : Nat) (H3 : Hp) (k : VK), (i : Int) < m → k (.str (g i)) H3 → te (some (.int (0 + i)) :: caps fr σ) H3 k) →
      (∀ p, H2 p = none → Q2 (.ref p) (upd H2 p (.lst (((List.range m.toNat).map g).map V.str)))) → tCompW fr te σ (Itr 0 m.toNat) H2 Q2 := by
    intro te fr σ H2 Q2 g hs hd
    refine comp_walk (n := m.toNat) (R := fun i v => v = .int (0 + i)) (by lia) itr_go itr_stop itr_yld
      (fun p i zs H' => H' = upd H2 p (.lst zs) ∧ zs = ((List.range i).map g).map V.str) (fun p hp => ⟨rfl, rfl⟩) ?_ ?_ ?_
    · rintro p i zs H' ⟨rfl, rfl⟩
      exact ⟨upd_same, by rw [List.length_map, List.length_map, List.length_range]⟩
    · rintro p i zs H' v k hp hi rfl ⟨rfl, rfl⟩ hk
      exact hs i _ k (by lia) (hk (.str (g i)) _ upd_same ⟨upd_upd, by rw [List.range_succ]; simp⟩)
    · rintro p zs H' hp ⟨rfl, rfl⟩
      exact hd p hp
  refine ⟨_, pss_cons (ps_set (i := 2) scNamesX.nd rfl (Or.inr rfl) pe_str)
    (pss_cons (ps_set (i := 3) scNamesX.nd rfl (Or.inl rfl) (pe_call GD hr rfl mD kD bD .nil pass0 (pa_cons (pv 0) (pa_cons pe_int pa_nil))))
    (pss_cons (ps_set (i := 4) scNamesX.nd rfl (Or.inr rfl) (pe_call GD hr rfl mD kD bD .nil pass0 (pa_cons (pv 0) (pa_cons pe_int pa_nil))))
    (pss_cons (ps_set (i := 5) scNamesX.nd rfl (Or.inl rfl) (pe_op op_sub pe_int (pe_op op_mul pe_int (pe_call GD hr rfl mD kD bD .nil pass0 (pa_cons (pv 0) (pa_cons pe_int pa_nil))))))
    (pss_cons (ps_if (pt_cmpR op_eq (pv 3) pe_int (nomark _))
      (pss_cons (ps_set (i := 6) scNamesX.nd rfl (Or.inr rfl) (pe_op op_add_str (pe_ix ix_str (pv 2) (pv 4) (fun _ _ => rfl)) (pe_slice sl_str pe_str po_none (po_some pe_int))))
      (pss_one (ps_setC (i := 7) (sc0 := defScope sNames) (N0 := ["tape", "many", "letters", "way", "turn", "back", "stem", "names", "words"]) (ys := ["letters", "stem", "turn"]) (fr := [2, 6, 4]) rfl scNamesX.nd rfl (Or.inl rfl) (pi_range1 rfl G.range (pa_cons (pv 1) pa_nil)) rfl rfl
        ⟨rfl, by decide +kernel, by decide +kernel, by decide +kernel, by decide +kernel, by decide +kernel, rfl, by decide +kernel⟩
        (fun C s H ex => pe_ifExp (pt_cmpR op_lt (pv 0) pe_int (nomark _)) (pe_slice sl_str (pv 2) po_none (po_some (pe_op op_add (pv 0) pe_int)))
          (pe_op op_add_str (pe_ix ix_str (pv 1) (pe_op op_mod (pe_op op_add (pv 3) pe_int) pe_int) (fun _ _ => rfl)) (pe_slice sl_str (pv 2) po_none (po_some (pe_op op_sub (pv 0) pe_int))))))))
      (pss_one (ps_if (pt_cmpR op_eq (pv 3) pe_int (nomark _))
        (@pss_cons _ _ _ _ _ (@ps_setL _ 8 _ _ (names13.map V.str) _ _ _ scNamesX.nd rfl (Or.inr rfl) (Or.inl rfl) rfl)
        (pss_one (ps_setC (i := 7) (sc0 := defScope sNames) (N0 := ["tape", "many", "letters", "way", "turn", "back", "stem", "names", "words"]) (ys := ["turn", "words"]) (fr := [4, 8]) rfl scNamesX.nd rfl (Or.inl rfl) (pi_range1 rfl G.range (pa_cons (pv 1) pa_nil)) rfl rfl
          ⟨rfl, by decide +kernel, by decide +kernel, by decide +kernel, by decide +kernel, by decide +kernel, rfl, by decide +kernel⟩
          (fun C s H ex => pe_ix (r := rIxL K) ix_list (pv 2) (pe_op op_mod (pe_op op_add (pv 1) (pv 0)) pe_int) (fun _ _ => rfl)))))
        (pss_one (ps_setC (i := 7) (sc0 := defScope sNames) (N0 := ["tape", "many", "letters", "way", "turn", "back", "stem", "names", "words"]) (ys := ["letters", "turn"]) (fr := [2, 4]) rfl scNamesX.nd rfl (Or.inl rfl) (pi_range1 rfl G.range (pa_cons (pv 1) pa_nil)) rfl rfl
          ⟨rfl, by decide +kernel, by decide +kernel, by decide +kernel, by decide +kernel, by decide +kernel, rfl, by decide +kernel⟩
          (fun C s H ex => pe_op op_add_str (pe_ix ix_str (pv 1) (pe_op op_mod (pe_op op_add (pv 2) (pv 0)) pe_int) (fun _ _ => rfl)) (pe_slice sl_str pe_str po_none (po_some (pe_op op_mod (pe_op op_add (pv 2) (pe_op op_mul pe_int (pv 0))) pe_int)))))))))
    ht)))), ?_⟩
  refine ⟨_, rfl, tp, 3, rfl, hT, by decide, by decide, fun wy t1 hw0 hw1 => ?_⟩
  refine ⟨_, rfl, tp, 26, rfl, ⟨t1, upd_same⟩, by decide, by decide, fun tu t2 htu0 htu1 => ?_⟩
  rw [upd_upd]
  refine ⟨_, rfl, tp, 2, rfl, ⟨t2, upd_same⟩, by decide, by decide, fun bk t3 hb0 hb1 => ?_⟩
  rw [upd_upd]
  refine ⟨2, _, rfl, rfl, .inl ⟨by decide, by decide⟩, 1, _, rfl, rfl, ?_⟩
  have hb : (1 - 2 * bk = 1 ∨ 1 - 2 * bk = -1) := by lia
  have k3 : Kp tp H (upd H tp (.lst [.int t3])) := Kp.tape
  have tt3 : Tp (upd H tp (.lst [.int t3])) tp := ⟨t3, upd_same⟩
  generalize upd H tp (.lst [.int t3]) = H3 at k3 tt3 ⊢
  have l26 : (letters.length : Int) = 26 := by rw [letters_len]; rfl
  have lsz : letters.length ≤ sizeLine := by rw [letters_len]; exact Nat.le_of_lt (small1000 (by decide))
  refine ⟨_, rfl, rfl, _, rfl, ?_⟩
  refine ite2 (fun c => ?_) (fun c => ?_)
  · -- stems
    have hwy : wy = 0 := V.int.inj (of_decide_eq_true c)
    have ec0 := letC_at htu0 htu1
    refine ⟨_, rfl, _, rfl, letters, tu, letC tu, rfl, rfl, lsz, ec0, 7, rfl, "aneqoubi", rfl, (by decide +kernel), _, _, rfl, rfl, ?_, ?_⟩
    · rw [aneq.1]
      show 1 + 7 ≤ sizeLine
      exact Nat.le_of_lt (small1000 (by decide))
    have zl := stem_len tu
    have zsz : (stemOf tu).length ≤ sizeLine := by rw [zl]; exact Nat.le_of_lt (small1000 (by decide))
    refine ⟨_, rfl, m, rfl, by lia, by lia, ?_⟩
    refine cw (nm0 tu) ?_ ?_
    · intro i H4 k hi hk
      refine ⟨_, rfl, _, _, rfl, rfl, _, rfl, ?_⟩
      refine ite2 (fun ci => ?_) (fun ci => ?_)
      · have ci' : (0 + (i : Int)) < 8 := of_decide_eq_true ci
        refine ⟨_, rfl, _, rfl, _, _, rfl, rfl, _, rfl, stemOf tu, rfl, zsz, ?_⟩
        unfold nm0 at hk
        rw [if_pos ci'] at hk
        exact hk
      · have ci' : ¬ (0 + (i : Int)) < 8 := fun y => ci (decide_eq_true y)
        have ec1 := letC_at (d := (tu + 1) % 26) (Int.emod_nonneg _ (by decide)) (Int.emod_lt_of_pos _ (by decide))
        have e := slice_len (stemOf tu) (j := 0 + (i : Int) - 8) (by lia) (by rw [zl]; lia)
        unfold nm0 at hk
        rw [if_neg ci'] at hk
        refine ⟨_, rfl, _, rfl, _, _, rfl, rfl, _, _, rfl, rfl, (by show (0 : Int) < 26; decide), letters, _, letC ((tu + 1) % 26), rfl, rfl, lsz, ec1, _, rfl, _, rfl, _, _, rfl, rfl, _, rfl, stemOf tu, rfl, zsz, _, _, rfl, rfl, ?_, hk⟩
        show 1 + (Txt.slice (stemOf tu) none (some (0 + (i : Int) - 8))).length ≤ sizeLine
        exact Nat.le_of_lt (small1000 (by lia))
    · intro p hp
      have etu : ((tu.toNat : Nat) : Int) = tu := by lia
      refine hread (1 - 2 * bk) p 0 tu.toNat _ _ _ _ _ _ hb (by decide) (by lia) ?_ (k3.new hp) (tt3.new hp)
      rw [etu]
      exact upd_same
  · refine ⟨_, rfl, rfl, _, rfl, ?_⟩
    refine ite2 (fun c2 => ?_) (fun c2 => ?_)
    · -- written words
      refine ⟨(by show 13 ≤ sizeLine; decide), fun pw hpw => ?_⟩
      refine ⟨_, rfl, m, rfl, by lia, by lia, ?_⟩
      have s4 : Same H3 (upd H3 pw (.lst (names13.map V.str))) := same_new hpw _
      have g4 : (upd H3 pw (.lst (names13.map V.str))) pw = some (.lst (names13.map V.str)) := upd_same
      have k4 : Kp tp H (upd H3 pw (.lst (names13.map V.str))) := k3.same s4
      have tt4 : Tp (upd H3 pw (.lst (names13.map V.str))) tp := tt3.new hpw
      generalize upd H3 pw (.lst (names13.map V.str)) = H4 at s4 g4 k4 tt4 ⊢
      refine comp_walk (n := m.toNat) (R := fun i v => v = .int (0 + i)) (by lia) itr_go itr_stop itr_yld
        (fun p i zs H' => H' = upd H4 p (.lst zs) ∧ H4 p = none ∧ zs = ((List.range i).map (nm1 tu)).map V.str) (fun p hp => ⟨rfl, hp, rfl⟩) ?_ ?_ ?_
      · rintro p i zs H' ⟨rfl, _, rfl⟩
        exact ⟨upd_same, by rw [List.length_map, List.length_map, List.length_range]⟩
      · rintro p i zs H' v k hp hi rfl ⟨rfl, hp4, rfl⟩ hk
        have h1 := Int.emod_nonneg (tu + (0 + (i : Int))) (show (13 : Int) ≠ 0 by decide)
        have h2 := Int.emod_lt_of_pos (tu + (0 + (i : Int))) (show (0 : Int) < 13 by decide)
        obtain ⟨xv, ex, ex2⟩ := atI_lt (xs := names13.map V.str) h1 (by rw [List.length_map]; exact h2)
        have exv : xv = .str (nm1 tu i) := by
          rw [List.getElem?_map] at ex2
          unfold nm1
          cases hx : names13[((tu + (0 + (i : Int))) % 13).toNat]? with
          | none => rw [hx] at ex2; cases ex2
          | some y => rw [hx] at ex2; exact (Option.some.inj ex2).symm
        subst exv
        have g5 : (upd H4 p (.lst (((List.range i).map (nm1 tu)).map V.str))) pw = some (.lst (names13.map V.str)) := by rw [upd_ne (ne_of_none g4 hp4)]; exact g4
        refine ⟨_, rfl, _, rfl, _, rfl, _, _, rfl, rfl, _, _, rfl, rfl, (by show (0 : Int) < 13; decide), pw, _, _, _, rfl, rfl, SqL.of g5, ex, ?_⟩
        exact hk _ _ upd_same ⟨upd_upd, hp4, by rw [List.range_succ]; simp⟩
      · rintro p zs H' hp ⟨rfl, hp4, rfl⟩
        have etu : ((tu.toNat : Nat) : Int) = tu := by lia
        refine hread (1 - 2 * bk) p 1 tu.toNat _ _ _ _ _ _ hb (by decide) (by lia) ?_ (k4.new hp4) (tt4.new hp4)
        rw [etu]
        exact upd_same
    · -- a letter and a tail
      refine ⟨_, rfl, m, rfl, by lia, by lia, ?_⟩
      refine cw (nm2 tu) ?_ ?_
      · intro i H4 k hi hk
        have ec1 := letC_at (d := (tu + (0 + (i : Int))) % 26) (Int.emod_nonneg _ (by decide)) (Int.emod_lt_of_pos _ (by decide))
        have h1 := Int.emod_nonneg (tu + 3 * (0 + (i : Int))) (show (8 : Int) ≠ 0 by decide)
        have h2 := Int.emod_lt_of_pos (tu + 3 * (0 + (i : Int))) (show (0 : Int) < 8 by decide)
        have e := slice_len "eyzmopq" (j := (tu + 3 * (0 + (i : Int))) % 8) h1 (by rw [eyz_len]; lia)
        refine ⟨_, rfl, _, rfl, _, rfl, _, _, rfl, rfl, _, _, rfl, rfl, (by show (0 : Int) < 26; decide), letters, _, letC ((tu + (0 + (i : Int))) % 26), rfl, rfl, lsz, ec1, _, rfl, _, rfl, 3, _, rfl, rfl, .inl ⟨by decide, by decide⟩, _, _, rfl, rfl, _, _, rfl, rfl, (by show (0 : Int) < 8; decide), _, rfl, "eyzmopq", rfl, (by rw [eyz_len]; exact Nat.le_of_lt (small1000 (by decide))), _, _, rfl, rfl, ?_, hk⟩
        · show 1 + (Txt.slice "eyzmopq" none (some ((tu + 3 * (0 + (i : Int))) % 8))).length ≤ sizeLine
          exact Nat.le_of_lt (small1000 (by lia))
      · intro p hp
        have etu : ((tu.toNat : Nat) : Int) = tu := by lia
        refine hread (1 - 2 * bk) p 2 tu.toNat _ _ _ _ _ _ hb (by decide) (by lia) ?_ (k3.new hp) (tt3.new hp)
        rw [etu]
        exact upd_same
end
end My
namespace My
open PySem L2
noncomputable def ndB : List Str → Bool
  | [] => true
  | x :: r => !(r.any fun y => x.cps.toList == y.cps.toList) && ndB r
theorem ndB_ok : ∀ {l : List Str}, ndB l = true → l.Nodup
  | [], _ => List.nodup_nil
  | x :: r, h => by
    unfold ndB at h
    rw [Bool.and_eq_true] at h
    refine List.nodup_cons.mpr ⟨fun m => ?_, ndB_ok h.2⟩
    have h1 := h.1
    rw [Bool.not_eq_true', List.any_eq_false] at h1
    exact h1 x m (by simp)
theorem names_all : ((List.range 3).all fun way => (List.range 26).all fun tu => ndB ((List.range 13).map (nmOf way tu)) && ((List.range 13).map (nmOf way tu)).all wordB) = true := by
  decide +kernel
theorem no_all : ((List.range 3).all fun way => (List.range 26).all fun tu => ((List.range 13).map (nmOf way tu)).all fun x => !(x.cps.toList == ("nosuch" : Str).cps.toList)) = true := by
  decide +kernel
theorem NamesAre.no {m : Nat} {ws : List Str} (h : NamesAre m ws) (hm : m ≤ 13) : ∀ x ∈ ws, x ≠ "nosuch" := by
  obtain ⟨way, tu, back, h1, h2, e⟩ := h
  have a := no_all
  rw [List.all_eq_true] at a
  have a := a way (List.mem_range.mpr h1)
  rw [List.all_eq_true] at a
  have a := List.all_eq_true.mp (a tu (List.mem_range.mpr h2))
  have sub : ((List.range m).map (nmOf way tu)).Sublist ((List.range 13).map (nmOf way tu)) := List.Sublist.map _ (List.range_sublist.mpr hm)
  have wd : ∀ x ∈ (List.range m).map (nmOf way tu), x ≠ "nosuch" := fun x hx z => by
    have := a x (sub.subset hx)
    rw [z] at this
    revert this
    decide +kernel
  cases back with
  | false =>
    rw [if_neg (by decide)] at e
    subst e
    exact wd
  | true =>
    rw [if_pos rfl] at e
    subst e
    exact fun x hx => wd x (List.mem_reverse.mp hx)
theorem NamesAre.ok {m : Nat} {ws : List Str} (h : NamesAre m ws) (hm : m ≤ 13) : ws.length = m ∧ ws.Nodup ∧ ∀ x ∈ ws, wordB x = true := by
  obtain ⟨way, tu, back, h1, h2, e⟩ := h
  have a := names_all
  rw [List.all_eq_true] at a
  have a := a way (List.mem_range.mpr h1)
  rw [List.all_eq_true] at a
  have a := a tu (List.mem_range.mpr h2)
  rw [Bool.and_eq_true] at a
  have n13 := ndB_ok a.1
  have w13 := List.all_eq_true.mp a.2
  have sub : ((List.range m).map (nmOf way tu)).Sublist ((List.range 13).map (nmOf way tu)) := List.Sublist.map _ (List.range_sublist.mpr hm)
  have nd := n13.sublist sub
  have wd : ∀ x ∈ (List.range m).map (nmOf way tu), wordB x = true := fun x hx => w13 x (sub.subset hx)
  have ln : ((List.range m).map (nmOf way tu)).length = m := by rw [List.length_map, List.length_range]
  cases back with
  | false =>
    rw [if_neg (by decide)] at e
    subst e
    exact ⟨ln, nd, wd⟩
  | true =>
    rw [if_pos rfl] at e
    subst e
    exact ⟨by rw [List.length_reverse]; exact ln, (List.reverse_perm _).nodup_iff.mpr nd, fun x hx => wd x (List.mem_reverse.mp hx)⟩
structure Srt where
  name : Str
  downs : List Str
  ups : List Str
inductive RepS (H : Hp) (s : Srt) (v : V) : Prop
  | mk : ∀ a b c, (v = .ref a) → (H a = some (.tup [.str s.name, .ref b, .ref c])) → (H b = some (.tup (s.downs.map V.str))) → (H c = some (.tup (s.ups.map V.str))) → RepS H s v
theorem RepS.mono {H H' : Hp} (t : TK H H') {s : Srt} {v : V} : RepS H s v → RepS H' s v := fun ⟨a, b, c, e, h1, h2, h3⟩ => ⟨a, b, c, e, t _ _ h1, t _ _ h2, t _ _ h3⟩
noncomputable def Srt.ok (s : Srt) : Prop := (s.downs ++ s.ups).Nodup ∧ (∀ x ∈ s.downs ++ s.ups, wordB x = true) ∧ s.downs.length ≤ 3 ∧ s.ups.length ≤ 3 ∧ 1 ≤ s.downs.length + s.ups.length
noncomputable def RepSs (H : Hp) (ss : List Srt) (vs : List V) : Prop := Paired (RepS H) ss vs
theorem RepSs.mono {H H' : Hp} (t : TK H H') {ss : List Srt} {vs : List V} (h : RepSs H ss vs) : RepSs H' ss vs := Paired.mapP h fun _ _ r => r.mono t
theorem RepSs.len {H : Hp} {ss : List Srt} {vs : List V} (h : RepSs H ss vs) : ss.length = vs.length := Paired.length h
theorem paired_get {α β : Type} {F : α → β → Prop} : ∀ {l : List α} {r : List β} {i : Nat} {b : β}, Paired F l r → r[i]? = some b → ∃ a, l[i]? = some a ∧ F a b
  | _, _, i, b, .nil, e => by cases i <;> cases e
  | _, _, 0, b, .cons h _, e => ⟨_, rfl, by cases e; exact h⟩
  | _, _, i + 1, b, .cons _ t, e => paired_get (i := i) t e
noncomputable def SortsOk (ss : List Srt) : Prop := 1 ≤ ss.length ∧ ss.length ≤ 4 ∧ (ss.map Srt.name).Nodup ∧ (∀ s ∈ ss, wordB s.name = true ∧ s.name ≠ "nosuch") ∧ ∀ s ∈ ss, s.ok
theorem turned_ok {ws : List Str} (n : ws.Nodup) (w : ∀ x ∈ ws, wordB x = true) (hl : ws.length = 6) (k d u : Nat) (hd : d ≤ 3) (hu : u ≤ 3) (h1 : 1 ≤ d + u) (nm : Str) :
    (Srt.mk nm ((ws.drop k ++ ws.take k).take d) (((ws.drop k ++ ws.take k).drop d).take u)).ok := by
  have nt : (ws.drop k ++ ws.take k).Nodup := by
    have : (ws.drop k ++ ws.take k).Perm (ws.take k ++ ws.drop k) := List.perm_append_comm
    rw [List.take_append_drop] at this
    exact this.nodup_iff.mpr n
  have mt : ∀ x ∈ ws.drop k ++ ws.take k, wordB x = true := fun x hx => by
    rw [List.mem_append] at hx
    rcases hx with h | h
    · exact w x (List.mem_of_mem_drop h)
    · exact w x (List.mem_of_mem_take h)
  have lt : (ws.drop k ++ ws.take k).length = 6 := by rw [List.length_append, List.length_drop, List.length_take]; lia
  generalize ws.drop k ++ ws.take k = ts at nt mt lt
  have sub : (ts.take d ++ (ts.drop d).take u).Sublist ts := by
    have := List.take_append_drop d ts
    conv => rhs; rw [← this]
    exact List.Sublist.append (List.Sublist.refl _) (List.take_sublist _ _)
  refine ⟨nt.sublist sub, fun x hx => mt x (sub.subset hx), ?_, ?_, ?_⟩
  · show (ts.take d).length ≤ 3
    rw [List.length_take]; lia
  · show ((ts.drop d).take u).length ≤ 3
    rw [List.length_take]; lia
  · show 1 ≤ (ts.take d).length + ((ts.drop d).take u).length
    rw [List.length_take, List.length_take, List.length_drop]; lia
end My
namespace My
open PySem L2
inductive spSorts  (vs : List V) (H : Hp) (Q : VK) (E_ : XK) : Prop
  | mk : ∀ tp c, (vs = [.ref tp, .bl c]) → (Tp H tp) → (∀ a ss xs H', H' a = some (.tup xs) → RepSs H' ss xs → SortsOk ss → Kp tp H H' → Tp H' tp → Q (.ref a) H') → spSorts vs H Q E_
theorem ix34 (k : Bool) : ∃ m : Int, atI [V.int 3, V.int 4] (if k then 1 else 0) = some (.int m) ∧ 3 ≤ m ∧ m ≤ 4 := by
  cases k
  · exact ⟨3, rfl, by decide, by decide⟩
  · exact ⟨4, rfl, by decide, by decide⟩
theorem max_fact {d u : Int} (hd : 0 ≤ d) (hu : 0 ≤ u) (hu3 : u ≤ 3) : ∃ u1 : Int, (if (if decide (V.int d = V.int 0) = true then (1 : Int) else 0) > u then (if decide (V.int d = V.int 0) = true then (1 : Int) else 0) else u) = u1 ∧ 0 ≤ u1 ∧ u1 ≤ 3 ∧ 1 ≤ d + u1 := by
  refine ⟨_, rfl, ?_⟩
  by_cases c : d = 0
  · subst c
    rw [if_pos (decide_eq_true rfl)]
    split <;> lia
  · rw [if_neg (fun e => c (V.int.inj (of_decide_eq_true e)))]
    split <;> lia
theorem tp_ne {H : Hp} {tp p : Addr} (t : Tp H tp) (hp : H p = none) : p ≠ tp := fun e => by
  obtain ⟨t0, e0⟩ := t
  subst e
  rw [e0] at hp
  cases hp
theorem cut_mid (xs : List V) {a b : Nat} (h : a + b ≤ xs.length) : cutV xs (some (a : Int)) (some ((a : Int) + (b : Int))) = (xs.drop a).take b := by
  unfold cutV
  rw [show ((a : Int) + (b : Int)) = ((a + b : Nat) : Int) by lia, HT.sIx_nat, HT.sIx_nat, Nat.min_eq_left h, Nat.min_eq_left (by lia), Nat.add_sub_cancel_left]
section
variable {P : Program} {w : World} {K : PySem.W.Frag} {mg : Str → Option Value} {base : Heap} {f g f2 f3 : Addr} {fd gd fd2 fd3 : FuncData}
theorem scSorts : FnScope ["tape", "few", "many", "names", "words", "sorts", "k", "most", "downs", "ups", "turned"] ["tape", "few"] (defScope sSorts) := ⟨rfl, rfl, rfl, by decide +kernel, rfl, by decide +kernel, by decide +kernel⟩
theorem ok_sorts (F : Fun K "_law_sorts" "_law_sorts" sSorts f fd) (G : Gb mg) (GD : FnOk P w K mg base CX0 1 g gd ["tape", "many"] spDigit) (bD : Binds K gd ["tape", "many"] []) (kD : PySem.W.keepIn K (.ref g) = true) (mD : mg "_law_digit" = some (.ref g))
    (GN : FnOk P w K mg base CX0 2 f2 fd2 ["tape", "many"] spNamesX) (bN : Binds K fd2 ["tape", "many"] []) (kN : PySem.W.keepIn K (.ref f2) = true) (mN : mg "_law_names" = some (.ref f2)) :
    FnOk P w K mg base CX0 3 f fd ["tape", "few"] spSorts := by
  refine F.ok scSorts (fun vs H Q E h => ?_) (fun cdv A outer s H vs Q E hr h => ?_)
  · obtain ⟨tp, c, rfl, _⟩ := h
    rfl
  obtain ⟨tp, few, rfl, hT, q⟩ := h
  have hr1 := hr.mono (show 1 ≤ 2 by decide)
  refine ⟨_, pss_cons (ps_set (i := 2) scSorts.nd rfl (Or.inl rfl) (pe_op op_add pe_int (pe_call GD hr1 rfl mD kD bD .nil pass0 (pa_cons (pv 0) (pa_cons
        (pe_ix (r := rIxL K) ix_list (pe_lst (pa_cons pe_int (pa_cons pe_int pa_nil))) (pe_callTy call_int1 rfl G.int (by decide +kernel) (pa_cons (pe_cmpR op_eq (pe_call GD hr1 rfl mD kD bD .nil pass0 (pa_cons (pv 0) (pa_cons pe_int pa_nil))) pe_int (nomark _)) pa_nil)) (fun _ _ => rfl)) pa_nil)))))
    (pss_cons (ps_set (i := 3) scSorts.nd rfl (Or.inl rfl) (pe_call GN hr rfl mN kN bN .nil pass0 (pa_cons (pv 0) (pa_cons (pv 2) pa_nil))))
    (pss_cons (ps_set (i := 4) scSorts.nd rfl (Or.inl rfl) (pe_call GN hr rfl mN kN bN .nil pass0 (pa_cons (pv 0) (pa_cons pe_int pa_nil))))
    (pss_cons (ps_set (i := 5) scSorts.nd rfl (Or.inl rfl) (pe_lst pa_nil))
    (pss_cons (ps_for PassesOwn.never rfl (pi_range1 rfl G.range (pa_cons (pv 2) pa_nil)) (pg_name (i := 6) scSorts.nd rfl (Or.inl rfl))
      (pss_cons (ps_set (i := 7) scSorts.nd rfl (Or.inl rfl) (pe_ix (r := rIxL K) ix_list (pe_lst (pa_cons pe_int (pa_cons pe_int pa_nil))) (pe_callTy call_int1 rfl G.int (by decide +kernel) (pa_cons (pe_cmpR op_eq (pe_call GD hr1 rfl mD kD bD .nil pass0 (pa_cons (pv 0) (pa_cons pe_int pa_nil))) pe_int (nomark _)) pa_nil)) (fun _ _ => rfl)))
      (pss_cons (ps_set (i := 8) scSorts.nd rfl (Or.inl rfl) (pe_call GD hr1 rfl mD kD bD .nil pass0 (pa_cons (pv 0) (pa_cons (pv 7) pa_nil))))
      (pss_cons (ps_set (i := 9) scSorts.nd rfl (Or.inl rfl) (pe_callB (call_max2 rfl) rfl G.max (by decide +kernel) (pa_cons (pe_call GD hr1 rfl mD kD bD .nil pass0 (pa_cons (pv 0) (pa_cons (pv 7) pa_nil)))
        (pa_cons (pe_callTy call_int1 rfl G.int (by decide +kernel) (pa_cons (pe_cmpR op_eq (pv 8) pe_int (nomark _)) pa_nil)) pa_nil))))
      (pss_cons (ps_if (PW.pt (pw_and (pt_val (pv 1)) (pw_and1 (pt_cmpR op_gt (pe_op op_mul (pv 8) (pv 9)) pe_int (nomark _))))) (pss_one (ps_set (i := 9) scSorts.nd rfl (Or.inl rfl) (pe_op op_fdiv pe_int (pv 8)))) pss_nil)
      (pss_cons (ps_set (i := 10) scSorts.nd rfl (Or.inl rfl) (pe_op op_cat (pe_slice sl_list (pv 4) (po_some (pe_op op_mod (pv 6) pe_int)) po_none) (pe_slice sl_list (pv 4) po_none (po_some (pe_op op_mod (pv 6) pe_int)))))
      (pss_one (ps_expr (pe_bm PySem.F.plainAttrs_list PySem.F.slot_list_append PySem.F.type_list_append mt_append (pv 5) (pa_cons (pe_tup (pa_cons (pe_ix (r := rIxL K) ix_list (pv 3) (pv 6) (fun _ _ => rfl))
        (pa_cons (pe_callTy (r := rTupOf K) call_tuple_of rfl G.tuple (by decide +kernel) (pa_cons (pe_slice sl_list (pv 10) po_none (po_some (pv 8))) pa_nil))
        (pa_cons (pe_callTy (r := rTupOf K) call_tuple_of rfl G.tuple (by decide +kernel) (pa_cons (pe_slice sl_list (pv 10) (po_some (pv 8)) (po_some (pe_op op_add (pv 8) (pv 9)))) pa_nil)) pa_nil)))) pa_nil))))))))))
    (pss_one (ps_ret (pe_callTy (r := rTupOf K) call_tuple_of rfl G.tuple (by decide +kernel) (pa_cons (pv 5) pa_nil)))))))), ?_⟩
  refine ⟨_, rfl, (by show 2 ≤ sizeLine; decide), fun p0 hp0 => ?_⟩
  refine ⟨_, rfl, tp, 8, rfl, hT.new hp0, by decide, by decide, fun d0 t0 _ _ => ⟨rfl, ?_⟩⟩
  obtain ⟨m0, em0, hm3, hm4⟩ := ix34 (decide (V.int d0 = V.int 5))
  refine .inr ⟨_, rfl, p0, _, _, _, rfl, rfl, SqL.of (by rw [upd_ne (tp_ne hT hp0)]; exact upd_same), em0, ?_⟩
  have k0 : Kp tp H (upd (upd H p0 (.lst [.int 3, .int 4])) tp (.lst [.int t0])) := (Kp.refl.new hp0).trans Kp.tape
  have tt0 : Tp (upd (upd H p0 (.lst [.int 3, .int 4])) tp (.lst [.int t0])) tp := ⟨t0, upd_same⟩
  generalize upd (upd H p0 (.lst [.int 3, .int 4])) tp (.lst [.int t0]) = H1 at k0 tt0 ⊢
  refine ⟨tp, _, rfl, tt0, by lia, by lia, fun dm t1 hdm0 hdm1 => ?_⟩
  have k1 : Kp tp H (upd H1 tp (.lst [.int t1])) := k0.trans Kp.tape
  have tt1 : Tp (upd H1 tp (.lst [.int t1])) tp := ⟨t1, upd_same⟩
  generalize upd H1 tp (.lst [.int t1]) = H2 at k1 tt1 ⊢
  refine ⟨1, _, rfl, rfl, ?_⟩
  refine ⟨_, rfl, _, rfl, tp, _, rfl, tt1, by lia, by lia, fun nl ns H3 hnl hnlen hN hnne k2' tt2 => ?_⟩
  have k2 := k1.trans k2'
  refine ⟨_, rfl, tp, 6, rfl, tt2, by decide, by decide, fun wl ws H4 hwl hwlen hW hwne k3' tt3 => ?_⟩
  have k3 := k2.trans k3'
  have hnl4 := k3' _ _ hnl hnne
  refine ⟨(by show 0 ≤ sizeLine; decide), fun sl hsl => ?_⟩
  have hslt := tp_ne tt3 hsl
  have k4 : Kp tp H (upd H4 sl (.lst [])) := k3.new hsl
  have tt4 := tt3.new (o := .lst []) hsl
  have s4 := same_new hsl (.lst [])
  have nsl : nl ≠ sl := ne_of_none hnl4 hsl
  have wsl : wl ≠ sl := ne_of_none hwl hsl
  have hnl5 := s4 _ _ hnl4
  have hwl5 := s4 _ _ hwl
  have hsl5 : (upd H4 sl (.lst [])) sl = some (.lst []) := upd_same
  generalize upd H4 sl (.lst []) = H5 at k4 tt4 hnl5 hwl5 hsl5 ⊢
  obtain ⟨nLen, nNd, nWd⟩ := hN.ok (by lia)
  have nNo := hN.no (by lia)
  obtain ⟨wLen, wNd, wWd⟩ := hW.ok (by decide)
  have wLen6 : ws.length = 6 := wLen
  refine ⟨_, rfl, 1 + dm, rfl, by lia, by lia, ?_⟩
  refine for_range (fun i σ H' => ∃ o6 o7 o8 o9 o10 zs ss, σ = [some (.ref tp), some (.bl few), some (.int (1 + dm)), some (.ref nl), some (.ref wl), some (.ref sl), o6, o7, o8, o9, o10] ∧ Kp tp H H' ∧ Tp H' tp ∧ H' nl = some (.lst (ns.map V.str)) ∧ H' wl = some (.lst (ws.map V.str)) ∧ H' sl = some (.lst zs) ∧ RepSs H' ss zs ∧ ss.length = i ∧ (∀ s ∈ ss, s.ok) ∧ ss.map Srt.name = ns.take i)
    ⟨none, none, none, none, none, [], [], rfl, k4, tt4, hnl5, hwl5, hsl5, .nil, rfl, fun s h => (by cases h), rfl⟩ ?_ ?_
  · rintro i σ H6 hi ⟨o6, o7, o8, o9, o10, zs, ss, rfl, k6, tt6, hnl6, hwl6, hsl6, hR, hssl, hok, hnm⟩
    refine ⟨(by show 2 ≤ sizeLine; decide), fun p0 hp0 => ?_⟩
    refine ⟨_, rfl, tp, 8, rfl, tt6.new hp0, by decide, by decide, fun d0 t0 _ _ => ⟨rfl, ?_⟩⟩
    obtain ⟨m1, em1, hm3, hm4⟩ := ix34 (decide (V.int d0 = V.int 5))
    refine .inr ⟨_, rfl, p0, _, _, _, rfl, rfl, SqL.of (by rw [upd_ne (tp_ne tt6 hp0)]; exact upd_same), em1, ?_⟩
    have k7 : Kp tp H6 (upd (upd H6 p0 (.lst [.int 3, .int 4])) tp (.lst [.int t0])) := (Kp.refl.new hp0).trans Kp.tape
    have tt7 : Tp (upd (upd H6 p0 (.lst [.int 3, .int 4])) tp (.lst [.int t0])) tp := ⟨t0, upd_same⟩
    generalize upd (upd H6 p0 (.lst [.int 3, .int 4])) tp (.lst [.int t0]) = H7 at k7 tt7 ⊢
    refine ⟨_, rfl, _, rfl, tp, _, rfl, tt7, by lia, by lia, fun d t2 hd0 hd1 => ?_⟩
    have k8 : Kp tp H6 (upd H7 tp (.lst [.int t2])) := k7.trans Kp.tape
    have tt8 : Tp (upd H7 tp (.lst [.int t2])) tp := ⟨t2, upd_same⟩
    generalize upd H7 tp (.lst [.int t2]) = H8 at k8 tt8 ⊢
    refine ⟨_, rfl, _, rfl, tp, _, rfl, tt8, by lia, by lia, fun u t3 hu0 hu1 => ?_⟩
    have k9 : Kp tp H6 (upd H8 tp (.lst [.int t3])) := k8.trans Kp.tape
    have tt9 : Tp (upd H8 tp (.lst [.int t3])) tp := ⟨t3, upd_same⟩
    generalize upd H8 tp (.lst [.int t3]) = H9 at k9 tt9 ⊢
    obtain ⟨u1, eu1, hu10, hu13, hdu⟩ := max_fact (d := d) (u := u) hd0 hu0 (by lia)
    refine ⟨_, rfl, rfl, .inr ⟨_, rfl, _, _, rfl, ?_⟩⟩
    rw [eu1]
    refine ⟨_, rfl, few, rfl, ?_⟩
    refine tand (c2 := decide (3 < d * u1)) (fun h => ⟨_, rfl, _, rfl, _, _, rfl, rfl, .inl ⟨by lia, by lia⟩, _, _, rfl, rfl, _, rfl, h⟩) (fun _ c => ?A) (fun _ => ?B)
    case' A =>
      have c' : 3 < d * u1 := of_decide_eq_true c
      have hdp : 0 < d := by
        rcases (show d = 0 ∨ 0 < d by lia) with h | h
        · subst h; lia
        · exact h
      refine ⟨_, rfl, 3, d, rfl, rfl, ⟨hdp, by lia⟩, ?_⟩
      obtain ⟨v, hv, ev⟩ : ∃ v : Int, (0 ≤ v ∧ v ≤ 3 ∧ 1 ≤ d + v) ∧ V.int (3 / d) = V.int v := by
        refine ⟨3 / d, ?_, rfl⟩
        rcases (show d = 1 ∨ d = 2 ∨ d = 3 by lia) with h | h | h <;> subst h <;> decide
      rw [ev]
    case' B =>
      have hv : 0 ≤ u1 ∧ u1 ≤ 3 ∧ 1 ≤ d + u1 := ⟨hu10, hu13, hdu⟩
      generalize u1 = v at hv ⊢
    all_goals
      have hwl9 := k9 _ _ hwl6 hwne
      have hnl9 := k9 _ _ hnl6 hnne
      have hsl9 := k9 _ _ hsl6 hslt
      have hkk0 : 0 ≤ (0 + (i : Int)) % 6 := Int.emod_nonneg _ (by decide)
      have hkk1 : (0 + (i : Int)) % 6 < 6 := Int.emod_lt_of_pos _ (by decide)
      refine ⟨_, rfl, _, rfl, _, _, rfl, rfl, (by show (0 : Int) < 6; decide), _, rfl, wl, _, rfl, SqL.of hwl9, fun p1 hp1 => ?_⟩
      rw [cut_drop (ws.map V.str) hkk0 (by rw [List.length_map]; lia)]
      have hn6 : ((0 + (i : Int)) % 6).toNat ≤ 6 := by lia
      have hct : cutV (ws.map V.str) none (some ((0 + (i : Int)) % 6)) = (ws.map V.str).take ((0 + (i : Int)) % 6).toNat := cut_take (ws.map V.str) hkk0 (by rw [List.length_map]; lia)
      generalize hn : ((0 + (i : Int)) % 6).toNat = n at hct hn6 ⊢
      have s1 := same_new hp1 (.lst ((ws.map V.str).drop n))
      have g1 : (upd H9 p1 (.lst ((ws.map V.str).drop n))) p1 = some (.lst ((ws.map V.str).drop n)) := upd_same
      generalize upd H9 p1 (.lst ((ws.map V.str).drop n)) = Ha at s1 g1 ⊢
      refine ⟨_, rfl, _, rfl, _, _, rfl, rfl, (by show (0 : Int) < 6; decide), _, rfl, wl, _, rfl, SqL.of (s1 _ _ hwl9), fun p2 hp2 => ?_⟩
      rw [hct]
      have s2 := same_new hp2 (.lst ((ws.map V.str).take n))
      have g2 : (upd Ha p2 (.lst ((ws.map V.str).take n))) p2 = some (.lst ((ws.map V.str).take n)) := upd_same
      generalize upd Ha p2 (.lst ((ws.map V.str).take n)) = Hb at s2 g2 ⊢
      have lcat : ((ws.map V.str).drop n).length + ((ws.map V.str).take n).length ≤ 12 := by rw [List.length_drop, List.length_take, List.length_map]; lia
      refine ⟨p1, p2, _, _, rfl, rfl, s2 _ _ g1, g2, Nat.le_of_lt (small1000 (by lia)), fun p3 hp3 => ?_⟩
      have e3 : (ws.map V.str).drop n ++ (ws.map V.str).take n = (ws.drop n ++ ws.take n).map V.str := by rw [List.map_append, List.map_drop, List.map_take]
      rw [e3]
      have lts : (ws.drop n ++ ws.take n).length = 6 := by rw [List.length_append, List.length_drop, List.length_take]; lia
      have hsok := fun nm => turned_ok wNd wWd wLen6 n d.toNat v.toNat (by lia) (by lia) (by lia) nm
      generalize ws.drop n ++ ws.take n = ts at lts hsok ⊢
      have s3 := same_new hp3 (.lst (ts.map V.str))
      have g3 : (upd Hb p3 (.lst (ts.map V.str))) p3 = some (.lst (ts.map V.str)) := upd_same
      generalize upd Hb p3 (.lst (ts.map V.str)) = Hc at s3 g3 ⊢
      have S9 : Same H9 Hc := s1.trans (s2.trans s3)
      have hslc := S9 _ _ hsl9
      have hnlc := S9 _ _ hnl9
      have hwlc := S9 _ _ hwl9
      have kc : Kp tp H6 Hc := k9.same S9
      have ttc : Tp Hc tp := tt9.same S9
      refine ⟨_, rfl, .inl ⟨rfl, _, SqL.of hslc⟩, ?_⟩
      obtain ⟨nm, enm⟩ : ∃ nm, ns[i]? = some nm := ⟨ns[i]'(by lia), List.getElem?_eq_getElem (by lia)⟩
      have eat : atI (ns.map V.str) (0 + (i : Int)) = some (V.str nm) := by
        rw [Int.zero_add]
        exact atI_nat (by rw [List.getElem?_map, enm]; rfl)
      refine ⟨_, rfl, _, rfl, nl, _, _, _, rfl, rfl, SqL.of hnlc, eat, ?_⟩
      refine ⟨_, rfl, _, rfl, d, rfl, p3, _, rfl, SqL.of g3, fun p4 hp4 => ?_⟩
      rw [cut_take (ts.map V.str) hd0 (by rw [List.length_map]; lia), ← List.map_take]
      have s4 := same_new hp4 (.lst ((ts.take d.toNat).map V.str))
      have g4 : (upd Hc p4 (.lst ((ts.take d.toNat).map V.str))) p4 = some (.lst ((ts.take d.toNat).map V.str)) := upd_same
      generalize upd Hc p4 (.lst ((ts.take d.toNat).map V.str)) = Hd at s4 g4 ⊢
      refine ⟨p4, _, rfl, .inl ⟨SqL.of g4, fun p5 hp5 => ?_⟩⟩
      have s5 := same_new hp5 (.tup ((ts.take d.toNat).map V.str))
      have g5 : (upd Hd p5 (.tup ((ts.take d.toNat).map V.str))) p5 = some (.tup ((ts.take d.toNat).map V.str)) := upd_same
      generalize upd Hd p5 (.tup ((ts.take d.toNat).map V.str)) = He at s5 g5 ⊢
      refine ⟨_, rfl, _, rfl, d, rfl, _, rfl, _, rfl, _, _, rfl, rfl, _, rfl, p3, _, rfl, SqL.of (s5 _ _ (s4 _ _ g3)), fun p6 hp6 => ?_⟩
      have ecm : cutV (ts.map V.str) (some d) (some (d + v)) = ((ts.drop d.toNat).take v.toNat).map V.str := by
        have := cut_mid (ts.map V.str) (a := d.toNat) (b := v.toNat) (by rw [List.length_map]; lia)
        rw [show ((d.toNat : Nat) : Int) = d by lia, show ((v.toNat : Nat) : Int) = v by lia] at this
        rw [this, List.map_take, List.map_drop]
      rw [ecm]
      have s6 := same_new hp6 (.lst (((ts.drop d.toNat).take v.toNat).map V.str))
      have g6 : (upd He p6 (.lst (((ts.drop d.toNat).take v.toNat).map V.str))) p6 = some (.lst (((ts.drop d.toNat).take v.toNat).map V.str)) := upd_same
      generalize upd He p6 (.lst (((ts.drop d.toNat).take v.toNat).map V.str)) = Hf at s6 g6 ⊢
      refine ⟨p6, _, rfl, .inl ⟨SqL.of g6, fun p7 hp7 => ?_⟩⟩
      have s7 := same_new hp7 (.tup (((ts.drop d.toNat).take v.toNat).map V.str))
      have g7 : (upd Hf p7 (.tup (((ts.drop d.toNat).take v.toNat).map V.str))) p7 = some (.tup (((ts.drop d.toNat).take v.toNat).map V.str)) := upd_same
      generalize upd Hf p7 (.tup (((ts.drop d.toNat).take v.toNat).map V.str)) = Hg at s7 g7 ⊢
      refine ⟨(by show 3 ≤ sizeLine; decide), fun p8 hp8 => ?_⟩
      have s8 := same_new hp8 (.tup [.str nm, .ref p5, .ref p7])
      have g8 : (upd Hg p8 (.tup [.str nm, .ref p5, .ref p7])) p8 = some (.tup [.str nm, .ref p5, .ref p7]) := upd_same
      generalize upd Hg p8 (.tup [.str nm, .ref p5, .ref p7]) = Hh at s8 g8 ⊢
      have Sc : Same Hc Hh := s4.trans (s5.trans (s6.trans (s7.trans s8)))
      have hslh := Sc _ _ hslc
      have hzl : zs.length = i := by rw [← hR.len]; exact hssl
      refine ⟨sl, zs, .ref p8, rfl, rfl, hslh, small1000 (by lia), ?_⟩
      have tk : TK Hh (upd Hh sl (.lst (zs ++ [.ref p8]))) := TK.lst hslh
      have kh : Kp tp H6 Hh := kc.same Sc
      refine ⟨_, _, _, _, _, zs ++ [.ref p8], ss ++ [⟨nm, ts.take d.toNat, (ts.drop d.toNat).take v.toNat⟩], rfl, ?_, ?_, ?_, ?_, upd_same, ?_, ?_, ?_, ?_⟩
      · intro b o hb hbn
        rw [upd_ne (ne_of_none (k3 _ _ hb hbn) hsl)]
        exact kh _ _ (k6 _ _ hb hbn) hbn
      · obtain ⟨t9, e9⟩ := ttc.same Sc
        exact ⟨t9, by rw [upd_ne (Ne.symm hslt)]; exact e9⟩
      · rw [upd_ne nsl]; exact Sc _ _ hnlc
      · rw [upd_ne wsl]; exact Sc _ _ hwlc
      · exact Paired.snoc (hR.mono ((kh.tk tt6).trans tk)) ⟨p8, p5, p7, rfl, tk _ _ g8, tk _ _ (s8 _ _ (s7 _ _ (s6 _ _ g5))), tk _ _ (s8 _ _ g7)⟩
      · rw [List.length_append, hssl]; rfl
      · intro s hs
        rw [List.mem_append, List.mem_singleton] at hs
        rcases hs with h | h
        · exact hok s h
        · subst h; exact hsok nm
      · rw [List.map_append, hnm, List.map_singleton, List.take_add_one, enm]
        rfl
  · rintro σ H6 ⟨o6, o7, o8, o9, o10, zs, ss, rfl, k6, tt6, hnl6, hwl6, hsl6, hR, hssl, hok, hnm⟩
    refine ⟨_, rfl, sl, zs, rfl, .inl ⟨SqL.of hsl6, fun pt hpt => ?_⟩⟩
    refine q pt ss zs _ upd_same (hR.mono (TK.new hpt)) ⟨by lia, by lia, ?_, ?_, hok⟩ (k6.new hpt) (tt6.new hpt)
    · rw [hnm]
      exact nNd.sublist (List.take_sublist _ _)
    · intro s hs
      have hm : s.name ∈ ns := List.mem_of_mem_take (i := (1 + dm).toNat) (by rw [← hnm]; exact List.mem_map_of_mem hs)
      exact ⟨nWd _ hm, nNo _ hm⟩
end
end My
namespace My
open PySem L2
noncomputable def TupAt (H : Hp) (ys : List V) (z : V) : Prop := ∃ a, z = .ref a ∧ H a = some (.tup ys)
noncomputable def Tups (H : Hp) (yss : List (List V)) (zs : List V) : Prop := Paired (TupAt H) yss zs
theorem Tups.mono {H H' : Hp} (t : TK H H') {yss : List (List V)} {zs : List V} (h : Tups H yss zs) : Tups H' yss zs := Paired.mapP h fun _ _ ⟨a, e, g⟩ => ⟨a, e, t _ _ g⟩
theorem Tups.len {H : Hp} {yss : List (List V)} {zs : List V} (h : Tups H yss zs) : yss.length = zs.length := Paired.length h
theorem Tups.append {H : Hp} : ∀ {a c : List (List V)} {b d : List V}, Tups H a b → Tups H c d → Tups H (a ++ c) (b ++ d)
  | _, _, _, _, .nil, h => h
  | _, _, _, _, .cons x t, h => .cons x (Tups.append t h)
theorem tk_of {H H' : Hp} (s : Same H H') : TK H H' := fun a xs h => s _ _ h
theorem comp_tups {K : PySem.W.Frag} {a : Addr} {xs : List V} {fr : List Nat} {te : TE} {σ : St} {H1 : Hp} {Q : VK} (hn : xs.length ≤ 1000) (ha : H1 a = some (.tup xs)) (g : V → List V)
    (hte : ∀ v H k, v ∈ xs → (∀ p, H p = none → k (.ref p) (upd H p (.tup (g v)))) → te (some v :: caps fr σ) H k)
    (hd : ∀ p zs H', H1 p = none → Same H1 H' → H' p = some (.lst zs) → Tups H' (xs.map g) zs → Q (.ref p) H') : tCompW fr te σ (Itt K a) H1 Q := by
  intro p hp
  refine ⟨fun i m zs H => i ≤ xs.length ∧ m = xs.length - i ∧ Same H1 H ∧ H p = some (.lst zs) ∧ zs.length = i ∧ Tups H ((xs.take i).map g) zs, ⟨_, Nat.zero_le _, rfl, same_new hp _, upd_same, rfl, .nil⟩, ?_⟩
  rintro i m zs H ⟨hi, hm, sm, gp, hz, hT⟩
  refine ⟨gp, ?_⟩
  by_cases e : i = xs.length
  · subst e
    rw [List.take_length] at hT
    exact .inl ⟨⟨xs, SqT.of (sm _ _ ha), Nat.le_refl _⟩, hd p zs H hp sm gp hT⟩
  · have hlt : i < xs.length := by lia
    refine .inr ⟨⟨xs, xs[i], SqT.of (sm _ _ ha), List.getElem?_eq_getElem hlt⟩, small1000 (by lia), fun v H' hv => ?_⟩
    obtain ⟨rfl, hv⟩ := hv
    have hv := hv xs (SqT.of (sm _ _ ha))
    refine hte v _ _ (List.mem_of_getElem? hv) fun q hq => ?_
    have s2 := same_new hq (.tup (g v))
    have gq : (upd H' q (.tup (g v))) q = some (.tup (g v)) := upd_same
    generalize upd H' q (.tup (g v)) = H2 at s2 gq ⊢
    have gp2 := s2 _ _ gp
    have tk : TK H2 (upd H2 p (.lst (zs ++ [.ref q]))) := TK.lst gp2
    refine ⟨gp2, xs.length - (i + 1), by lia, by lia, rfl, ?_, upd_same, by rw [List.length_append, hz]; rfl, ?_⟩
    · intro b o hb
      rw [upd_ne (ne_of_none hb hp)]
      exact s2 _ _ (sm _ _ hb)
    · rw [List.take_add_one, hv, List.map_append]
      exact Paired.snoc (hT.mono ((tk_of s2).trans tk)) ⟨q, rfl, tk _ _ gq⟩
theorem paired_take {α β : Type} {F : α → β → Prop} : ∀ {l : List α} {r : List β}, Paired F l r → ∀ n, Paired F (l.take n) (r.take n)
  | _, _, .nil, n => by rw [List.take_nil, List.take_nil]; exact .nil
  | _, _, .cons h t, 0 => .nil
  | _, _, .cons h t, n + 1 => .cons h (paired_take t n)
noncomputable def tgFrom (k : Int) : List Srt → List (Int × Str)
  | [] => []
  | q :: r => q.downs.map (fun x => (k, x)) ++ tgFrom (k + 1) r
noncomputable def tgts (o : Srt) (qs : List Srt) : List (Int × Str) := o.ups.map (fun x => (-1, x)) ++ tgFrom 0 qs
noncomputable def tgV (t : Int × Str) : List V := [.int t.1, .str t.2]
theorem tgFrom_len (k : Int) : ∀ (qs : List Srt), (∀ s ∈ qs, s.ok) → (tgFrom k qs).length ≤ 3 * qs.length := by
  intro qs
  induction qs generalizing k with
  | nil => intro _; exact Nat.le_refl _
  | cons q r ih =>
    intro h
    have h1 := ih (k + 1) fun s hs => h s (List.mem_cons_of_mem _ hs)
    have h2 := (h q List.mem_cons_self).2.2.1
    unfold tgFrom
    rw [List.length_append, List.length_map, List.length_cons]
    lia
theorem tgFrom_snoc (k : Int) : ∀ (qs : List Srt) (q : Srt), tgFrom k (qs ++ [q]) = tgFrom k qs ++ q.downs.map (fun x => (k + qs.length, x)) := by
  intro qs
  induction qs generalizing k with
  | nil => intro q; show q.downs.map (fun x => (k, x)) ++ [] = _; rw [List.append_nil]; show _ = q.downs.map (fun x => (k + ((0 : Nat) : Int), x)); rw [show k + ((0 : Nat) : Int) = k by lia]
  | cons r rs ih =>
    intro q
    show r.downs.map _ ++ tgFrom (k + 1) (rs ++ [q]) = (r.downs.map _ ++ tgFrom (k + 1) rs) ++ _
    rw [ih, List.append_assoc]
    have : k + 1 + (rs.length : Int) = k + ((r :: rs).length : Int) := by rw [List.length_cons]; lia
    rw [this]
noncomputable def TabOk (H : Hp) (kvs : List (Key × V)) (ss : List Srt) : Prop := ∀ s ∈ ss, ∃ a b c, valV kvs (.inr s.name) = some (.ref a) ∧ H a = some (.tup [.ref b, .ref c]) ∧ H b = some (.tup (s.downs.map V.str)) ∧ H c = some (.tup (s.ups.map V.str))
theorem TabOk.mono {H H' : Hp} (t : TK H H') {kvs : List (Key × V)} {ss : List Srt} (h : TabOk H kvs ss) : TabOk H' kvs ss := fun s hs => by
  obtain ⟨a, b, c, e, h1, h2, h3⟩ := h s hs
  exact ⟨a, b, c, e, t _ _ h1, t _ _ h2, t _ _ h3⟩
theorem TabOk.put {H : Hp} {kvs : List (Key × V)} {ss : List Srt} {i : Nat} {s : Srt} {a b c : Addr} (nd : (ss.map Srt.name).Nodup) (hs : ss[i]? = some s) (h : TabOk H kvs (ss.take i))
    (h1 : H a = some (.tup [.ref b, .ref c])) (h2 : H b = some (.tup (s.downs.map V.str))) (h3 : H c = some (.tup (s.ups.map V.str))) : TabOk H (putK kvs (.inr s.name) (.ref a)) (ss.take (i + 1)) := by
  intro x hx
  rw [List.take_add_one, hs, List.mem_append] at hx
  rcases hx with hx | hx
  · obtain ⟨a', b', c', e, r⟩ := h x hx
    refine ⟨a', b', c', ?_, r⟩
    rw [valV_put, if_neg]
    · exact e
    · intro z
      have z : x.name = s.name := Sum.inr.inj z
      obtain ⟨j, hj⟩ := List.getElem?_of_mem hx
      have hji : j < i := by
        have := (List.getElem?_eq_some_iff.mp hj).1
        rw [List.length_take] at this
        lia
      rw [List.getElem?_take, if_pos hji] at hj
      have q1 : (ss.map Srt.name)[j]? = some s.name := by rw [List.getElem?_map, hj, ← z]; rfl
      have q2 : (ss.map Srt.name)[i]? = some s.name := by rw [List.getElem?_map, hs]; rfl
      have := nodup_ix nd q1 q2
      lia
  · have hx : x = s := by simpa using hx
    subst hx
    exact ⟨a, b, c, by rw [valV_put, if_pos rfl], h1, h2, h3⟩
end My
namespace My
open PySem L2
noncomputable def SrtsAt (H : Hp) (a : Addr) (ss : List Srt) : Prop := ∃ xs, H a = some (.tup xs) ∧ RepSs H ss xs
theorem SrtsAt.mono {H H' : Hp} (t : TK H H') {a : Addr} {ss : List Srt} : SrtsAt H a ss → SrtsAt H' a ss := fun ⟨xs, h, r⟩ => ⟨xs, t _ _ h, r.mono t⟩
inductive spTargets  (vs : List V) (H : Hp) (Q : VK) (E_ : XK) : Prop
  | mk : ∀ sa pa ss o qs, (vs = [.ref sa, .str (Srt.name o), .ref pa]) → (SrtsAt H sa ss) → (SortsOk ss) → (o ∈ ss) → (H pa = some (.tup (qs.map fun q => V.str (Srt.name q)))) → ((∀ q ∈ qs, q ∈ ss)) → (qs.length ≤ 3) → (∀ p zs H', H p = none → Same H H' → H' p = some (.lst zs) → Tups H' ((tgts o qs).map tgV) zs → Q (.ref p) H') → spTargets vs H Q E_
section
variable {P : Program} {w : World} {K : PySem.W.Frag} {mg : Str → Option Value} {base : Heap} {f g f2 f3 : Addr} {fd gd fd2 fd3 : FuncData}
theorem scTargets : FnScope ["sorts", "own", "parts", "table", "name", "downs", "ups", "found", "k"] ["sorts", "own", "parts"] (defScope sTargets) := ⟨rfl, rfl, rfl, by decide +kernel, rfl, by decide +kernel, by decide +kernel⟩
theorem ok_targets (F : Fun K "_law_targets" "_law_targets" sTargets f fd) (G : Gb mg) :
    FnOk P w K mg base CX0 1 f fd ["sorts", "own", "parts"] spTargets := by
  refine F.ok scTargets (fun vs H Q E h => ?_) (fun cdv A outer s H vs Q E hr h => ?_)
  · obtain ⟨sa, pa, ss, o, qs, rfl, _⟩ := h
    rfl
  obtain ⟨sa, pa, ss, o, qs, rfl, ⟨xs, hsa, hR⟩, hok, ho, hpa, hqs, hql, q⟩ := h
  have hu := hu_of hr
  refine ⟨_, pss_cons (ps_set (i := 3) scTargets.nd rfl (Or.inl rfl) pe_dnewK)
    (pss_cons (ps_for PassesOwn.never rfl (pi_tup (pv 0)) (pg_tup rfl (pgs_cons (pg_name (i := 4) scTargets.nd rfl (Or.inl rfl)) (pgs_cons (pg_name (i := 5) scTargets.nd rfl (Or.inl rfl)) (pgs_cons (pg_name (i := 6) scTargets.nd rfl (Or.inl rfl)) pgs_nil))))
      (pss_one (ps_dput hu (pv 3) (pv 4) (pe_tup (pa_cons (pv 5) (pa_cons (pv 6) pa_nil))) rfl)))
    (pss_cons (ps_setC (i := 7) (sc0 := defScope sTargets) (N0 := ["sorts", "own", "parts", "table", "name", "downs", "ups", "found", "k"]) (ys := []) (fr := []) rfl scTargets.nd rfl (Or.inl rfl)
        (pi_tup (pe_ix (r := rIxT K) ix_tup (pe_dget hu (pv 3) (pv 1) (fun _ _ => rfl)) pe_int (fun _ _ => rfl))) rfl rfl
        ⟨rfl, by decide +kernel, by decide +kernel, by decide +kernel, by decide +kernel, by decide +kernel, rfl, by decide +kernel⟩
        (fun C s H ex => pe_tup (pa_cons (pe_un un_neg pe_int) (pa_cons (pv 0) pa_nil))))
    (pss_cons (ps_for PassesOwn.never rfl (pi_range1 rfl G.range (pa_cons (pe_callB (r := rLen K) call_len_seq rfl G.len PySem.boot_len (pa_cons (pv 2) pa_nil)) pa_nil)) (pg_name (i := 8) scTargets.nd rfl (Or.inr rfl))
      (pss_one (ps_expr (pe_bm PySem.F.plainAttrs_list PySem.F.slot_list_extend PySem.F.type_list_extend mt_extend (pv 7) (pa_cons
        (pe_comp (sc0 := defScope sTargets) (N0 := ["sorts", "own", "parts", "table", "name", "downs", "ups", "found", "k"]) (ys := ["k"]) (fr := [8]) rfl
          (pi_tup (pe_ix (r := rIxT K) ix_tup (pe_dget hu (pv 3) (pe_ix (r := rIxT K) ix_tup (pv 2) (pv 8) (fun _ _ => rfl)) (fun _ _ => rfl)) pe_int (fun _ _ => rfl))) rfl rfl
          ⟨rfl, by decide +kernel, by decide +kernel, by decide +kernel, by decide +kernel, by decide +kernel, rfl, by decide +kernel⟩
          (fun C s H ex => pe_tup (pa_cons (pv 1) (pa_cons (pv 0) pa_nil)))) pa_nil)))))
    (pss_one (ps_ret (pv 7)))))), ?_⟩
  refine fun td htd => ?_
  have s0 := same_new htd (.dK [])
  have g0 : (upd H td (.dK [])) td = some (.dK []) := upd_same
  generalize upd H td (.dK []) = H0 at s0 g0 ⊢
  have hlen := hR.len
  refine ⟨_, rfl, sa, rfl, ⟨xs, SqT.of (s0 _ _ hsa)⟩, ?_⟩
  refine for_tup (xs := xs) (fun i σ H' => i ≤ xs.length ∧ ∃ o4 o5 o6 kvs, σ = [some (.ref sa), some (.str o.name), some (.ref pa), some (.ref td), o4, o5, o6, none, none] ∧ Same H H' ∧ H' td = some (.dK kvs) ∧ kvs.length ≤ i ∧ TabOk H' kvs (ss.take i))
    ⟨Nat.zero_le _, none, none, none, [], rfl, s0, g0, Nat.le_refl _, fun s hs => (by cases hs)⟩ (fun i σ H' _ h => by obtain ⟨_, _, _, _, _, _, sm, _⟩ := h; exact SqT.of (sm _ _ hsa)) ?_ ?_
  · rintro i x σ H1 hx ⟨hi, o4, o5, o6, kvs, rfl, sm, gd, hl, hT⟩
    have hlt : i < xs.length := (List.getElem?_eq_some_iff.mp hx).1
    obtain ⟨sr, hsr, a, b, c, rfl, ha, hb, hc⟩ := paired_get hR hx
    refine ⟨a, _, rfl, SqT.of (sm _ _ ha), rfl, _, _, rfl, _, _, rfl, _, _, rfl, rfl, ?_⟩
    refine ⟨_, rfl, _, rfl, (by show 2 ≤ sizeLine; decide), fun pt hpt => ?_⟩
    have s1 := same_new hpt (.tup [.ref b, .ref c])
    have g1 : (upd H1 pt (.tup [.ref b, .ref c])) pt = some (.tup [.ref b, .ref c]) := upd_same
    generalize upd H1 pt (.tup [.ref b, .ref c]) = H2 at s1 g1 ⊢
    have gd2 := s1 _ _ gd
    have S2 : Same H H2 := sm.trans s1
    refine ⟨_, rfl, _, rfl, td, _, rfl, DPut.k (k := .inr sr.name) gd2 (small1000 (by have := hok.2.1; lia)), ?_⟩
    have tk : TK H2 (upd H2 td (.dK (putK kvs (.inr sr.name) (.ref pt)))) := TK.upd fun ys e => by rw [gd2] at e; cases e
    refine ⟨hlt, _, _, _, _, rfl, ?_, upd_same, ?_, ?_⟩
    · intro y oo h
      rw [upd_ne (ne_of_none h htd)]
      exact S2 _ _ h
    · have := length_putK kvs (.inr sr.name) (.ref pt)
      lia
    · exact TabOk.put hok.2.2.1 hsr (hT.mono ((tk_of s1).trans tk)) (tk _ _ g1) (tk _ _ (S2 _ _ hb)) (tk _ _ (S2 _ _ hc))
  · rintro σ H1 ⟨_, o4, o5, o6, kvs, rfl, sm, gd, hl, hT⟩
    rw [← hlen, List.take_length] at hT
    obtain ⟨a, b, c, eo, ha, hb, hc⟩ := hT o ho
    refine ⟨_, rfl, _, rfl, td, .ref a, rfl, (by rw [← eo]; exact DGet.k (k := .inr o.name) gd), a, _, 1, .ref c, rfl, rfl, SqT.of ha, atI_nat (j := 1) rfl, c, rfl, ⟨_, SqT.of hc⟩, ?_⟩
    have lo : o.ups.length ≤ 3 := (hok.2.2.2.2 o ho).2.2.2.1
    refine comp_tups (by rw [List.length_map]; lia) hc (fun v => [.int (-1), v]) (fun v H k _ hk => ⟨1, rfl, _, rfl, (by show 2 ≤ sizeLine; decide), fun p hp => hk p hp⟩) fun fl zs H2 hfl s2 gfl hTz => ?_
    have ez : (o.ups.map V.str).map (fun v => [V.int (-1), v]) = (o.ups.map fun x => ((-1 : Int), x)).map tgV := by rw [List.map_map, List.map_map]; rfl
    rw [ez] at hTz
    have S2 : Same H H2 := sm.trans s2
    have hfl0 : H fl = none := sm.free hfl
    have gd2 := s2 _ _ gd
    have hT2 := hT.mono (tk_of s2)
    have dfl : fl ≠ td := Ne.symm (ne_of_none gd hfl)
    have hlp : (qs.map fun q => V.str (Srt.name q)).length = qs.length := List.length_map _
    refine ⟨_, rfl, pa, _, rfl, .inr (SqT.of (S2 _ _ hpa)), _, rfl, by lia, by lia, ?_⟩
    refine for_range (fun i σ H' => ∃ o8 zs, σ = [some (.ref sa), some (.str o.name), some (.ref pa), some (.ref td), o4, o5, o6, some (.ref fl), o8] ∧ Same H H' ∧ H' td = some (.dK kvs) ∧ TabOk H' kvs ss ∧ H' fl = some (.lst zs) ∧
        Tups H' ((o.ups.map (fun x => ((-1 : Int), x)) ++ tgFrom 0 (qs.take i)).map tgV) zs)
      ⟨none, zs, rfl, S2, gd2, hT2, gfl, by rw [List.take_zero]; show Tups H2 ((_ ++ []).map tgV) zs; rw [List.append_nil]; exact hTz⟩ ?_ ?_
    · rintro i σ H3 hi ⟨o8, zs3, rfl, S3, gd3, hT3, gfl3, hTz3⟩
      have hi' : i < qs.length := by lia
      obtain ⟨sq, hsq⟩ : ∃ sq, qs[i]? = some sq := ⟨qs[i], List.getElem?_eq_getElem hi'⟩
      obtain ⟨a, b, c, eq, ha, hb, hc⟩ := hT3 sq (hqs sq (List.mem_of_getElem? hsq))
      have eat : atI (qs.map fun q => V.str (Srt.name q)) (0 + (i : Int)) = some (V.str sq.name) := by
        rw [Int.zero_add]
        exact atI_nat (by rw [List.getElem?_map, hsq]; rfl)
      refine ⟨_, rfl, .inl ⟨rfl, _, SqL.of gfl3⟩, ?_⟩
      refine ⟨_, rfl, _, rfl, _, rfl, pa, _, _, _, rfl, rfl, SqT.of (S3 _ _ hpa), eat, td, .ref a, rfl, (by rw [← eq]; exact DGet.k (k := .inr sq.name) gd3), a, _, 0, .ref b, rfl, rfl, SqT.of ha, atI0, b, rfl, ⟨_, SqT.of hb⟩, ?_⟩
      have ld : sq.downs.length ≤ 3 := (hok.2.2.2.2 sq (hqs sq (List.mem_of_getElem? hsq))).2.2.1
      refine comp_tups (by rw [List.length_map]; lia) hb (fun v => [.int (0 + (i : Int)), v]) (fun v H k _ hk => ⟨_, rfl, _, rfl, (by show 2 ≤ sizeLine; decide), fun p hp => hk p hp⟩) fun pl ws H4 hpl s4 gpl hTw => ?_
      have ew : (sq.downs.map V.str).map (fun v => [V.int (0 + (i : Int)), v]) = (sq.downs.map fun x => (0 + (i : Int), x)).map tgV := by rw [List.map_map, List.map_map]; rfl
      rw [ew] at hTw
      have gfl4 := s4 _ _ gfl3
      have lz := hTz3.len
      have lw := hTw.len
      have lt := tgFrom_len 0 (qs.take i) fun s hs => hok.2.2.2.2 s (hqs s (List.mem_of_mem_take hs))
      rw [List.length_map, List.length_append, List.length_map] at lz
      rw [List.length_map, List.length_map] at lw
      rw [List.length_take] at lt
      refine ⟨fl, pl, zs3, ws, rfl, rfl, gfl4, gpl, Nat.le_of_lt (small1000 (by lia)), ?_⟩
      have tk : TK H4 (upd H4 fl (.lst (zs3 ++ ws))) := TK.lst gfl4
      have tk3 : TK H3 (upd H4 fl (.lst (zs3 ++ ws))) := (tk_of s4).trans tk
      refine ⟨_, zs3 ++ ws, rfl, ?_, ?_, hT3.mono tk3, upd_same, ?_⟩
      · intro y oo h
        rw [upd_ne (ne_of_none h hfl0)]
        exact s4 _ _ (S3 _ _ h)
      · rw [upd_ne (Ne.symm dfl)]
        exact s4 _ _ gd3
      · rw [List.take_add_one, hsq]
        show Tups _ ((_ ++ tgFrom 0 (qs.take i ++ [sq])).map tgV) _
        rw [tgFrom_snoc, ← List.append_assoc, List.map_append]
        have e9 : (0 : Int) + ((qs.take i).length : Int) = 0 + (i : Int) := by rw [List.length_take]; lia
        rw [e9]
        exact (hTz3.mono tk3).append (hTw.mono tk)
    · rintro σ H3 ⟨o8, zs3, rfl, S3, gd3, hT3, gfl3, hTz3⟩
      have e9 : qs.take (((qs.map fun q => V.str (Srt.name q)).length : Int)).toNat = qs := by rw [hlp]; exact List.take_of_length_le (by lia)
      rw [e9] at hTz3
      exact ⟨_, rfl, q fl zs3 H3 hfl0 S3 gfl3 hTz3⟩
end
end My
namespace My
open PySem L2
noncomputable def rdFrom (k : Int) : List Srt → List Fm
  | [] => []
  | q :: r => q.ups.map (fun x => Fm.part k x) ++ rdFrom (k + 1) r
noncomputable def tgF (t : Int × Str) : Fm := if t.1 < 0 then .own t.2 else .part t.1 t.2
noncomputable def tgSel (o : Srt) (qs : List Srt) (mode j : Int) : List (Int × Str) := if mode = 2 then (tgts o qs).take j.toNat else tgts o qs
noncomputable def rds (o : Srt) (qs : List Srt) (mode j : Int) : List Fm := (o.downs.map Fm.own ++ rdFrom 0 qs) ++ (if mode > 0 then (tgSel o qs mode j).map tgF else [])
noncomputable def fmV : Fm → List V
  | .own x => [.str "own", .str x]
  | .part k x => [.str "part", .int k, .str x]
  | _ => []
theorem rdFrom_len (k : Int) : ∀ (qs : List Srt), (∀ s ∈ qs, s.ok) → (rdFrom k qs).length ≤ 3 * qs.length := by
  intro qs
  induction qs generalizing k with
  | nil => intro _; exact Nat.le_refl _
  | cons q r ih =>
    intro h
    have h1 := ih (k + 1) fun s hs => h s (List.mem_cons_of_mem _ hs)
    have h2 := (h q List.mem_cons_self).2.2.2.1
    unfold rdFrom
    rw [List.length_append, List.length_map, List.length_cons]
    lia
theorem rdFrom_snoc (k : Int) : ∀ (qs : List Srt) (q : Srt), rdFrom k (qs ++ [q]) = rdFrom k qs ++ q.ups.map (fun x => Fm.part (k + qs.length) x) := by
  intro qs
  induction qs generalizing k with
  | nil => intro q; show q.ups.map (fun x => Fm.part k x) ++ [] = _; rw [List.append_nil]; show _ = q.ups.map (fun x => Fm.part (k + ((0 : Nat) : Int)) x); rw [show k + ((0 : Nat) : Int) = k by lia]
  | cons r rs ih =>
    intro q
    show r.ups.map _ ++ rdFrom (k + 1) (rs ++ [q]) = (r.ups.map _ ++ rdFrom (k + 1) rs) ++ _
    rw [ih, List.append_assoc]
    have : k + 1 + (rs.length : Int) = k + ((r :: rs).length : Int) := by rw [List.length_cons]; lia
    rw [this]
theorem tgts_len {ss : List Srt} {o : Srt} {qs : List Srt} (hok : ∀ s ∈ ss, s.ok) (ho : o ∈ ss) (hq : ∀ q ∈ qs, q ∈ ss) (hl : qs.length ≤ 3) : (tgts o qs).length ≤ 12 := by
  have h1 := tgFrom_len 0 qs fun s hs => hok s (hq s hs)
  have h2 := (hok o ho).2.2.2.1
  unfold tgts
  rw [List.length_append, List.length_map]
  lia
theorem tgSel_len (o : Srt) (qs : List Srt) (mode j : Int) : (tgSel o qs mode j).length ≤ (tgts o qs).length := by
  unfold tgSel
  by_cases c : mode = 2
  · rw [if_pos c, List.length_take]; exact Nat.min_le_right _ _
  · rw [if_neg c]; exact Nat.le_refl _
inductive spLReadings  (vs : List V) (H : Hp) (Q : VK) (E_ : XK) : Prop
  | mk : ∀ sa pa ss o qs mode j, (vs = [.ref sa, .str (Srt.name o), .ref pa, .int mode, .int j]) → (SrtsAt H sa ss) → (SortsOk ss) → (o ∈ ss) → (H pa = some (.tup (qs.map fun q => V.str (Srt.name q)))) → ((∀ q ∈ qs, q ∈ ss)) → (qs.length ≤ 3) → (0 ≤ j) → (j ≤ (tgts o qs).length) → (∀ p zs H', H p = none → Same H H' → H' p = some (.lst zs) → Tups H' ((rds o qs mode j).map fmV) zs → Q (.ref p) H') → spLReadings vs H Q E_
theorem ix_own {z u : V} (k : Bool) : atI [z, u] (if k then 1 else 0) = some (if k then u else z) := by cases k <;> rfl
section
variable {P : Program} {w : World} {K : PySem.W.Frag} {mg : Str → Option Value} {base : Heap} {f g f2 f3 : Addr} {fd gd fd2 fd3 : FuncData}
theorem scLReadings : FnScope ["sorts", "own", "parts", "mode", "j", "table", "name", "downs", "ups", "word", "found", "k", "targets", "at"] ["sorts", "own", "parts", "mode", "j"] (defScope sLReadings) := ⟨rfl, rfl, rfl, by decide +kernel, rfl, by decide +kernel, by decide +kernel⟩
theorem ok_lreadings (F : Fun K "_law_readings" "_law_readings" sLReadings f fd) (G : Gb mg) (GT : FnOk P w K mg base CX0 1 g gd ["sorts", "own", "parts"] spTargets) (bT : Binds K gd ["sorts", "own", "parts"] []) (kT : PySem.W.keepIn K (.ref g) = true) (mT : mg "_law_targets" = some (.ref g)) :
    FnOk P w K mg base CX0 2 f fd ["sorts", "own", "parts", "mode", "j"] spLReadings := by
  refine F.ok scLReadings (fun vs H Q E h => ?_) (fun cdv A outer s H vs Q E hr h => ?_)
  · obtain ⟨sa, pa, ss, o, qs, mode, j, rfl, _⟩ := h
    rfl
  obtain ⟨sa, pa, ss, o, qs, mode, j, rfl, ⟨xs, hsa, hR⟩, hok, ho, hpa, hqs, hql, hj0, hj1, q⟩ := h
  have hu := hu_of hr
  refine ⟨_, pss_cons (ps_set (i := 5) scLReadings.nd rfl (Or.inl rfl) pe_dnewK)
    (pss_cons (ps_for PassesOwn.never rfl (pi_tup (pv 0)) (pg_tup rfl (pgs_cons (pg_name (i := 6) scLReadings.nd rfl (Or.inl rfl)) (pgs_cons (pg_name (i := 7) scLReadings.nd rfl (Or.inl rfl)) (pgs_cons (pg_name (i := 8) scLReadings.nd rfl (Or.inl rfl)) pgs_nil))))
      (pss_one (ps_dput hu (pv 5) (pv 6) (pe_tup (pa_cons (pv 7) (pa_cons (pv 8) pa_nil))) rfl)))
    (pss_cons (ps_setC (i := 10) (sc0 := defScope sLReadings) (N0 := ["sorts", "own", "parts", "mode", "j", "table", "name", "downs", "ups", "word", "found", "k", "targets", "at"]) (ys := []) (fr := []) rfl scLReadings.nd rfl (Or.inl rfl)
        (pi_tup (pe_ix (r := rIxT K) ix_tup (pe_dget hu (pv 5) (pv 1) (fun _ _ => rfl)) pe_int (fun _ _ => rfl))) rfl rfl
        ⟨rfl, by decide +kernel, by decide +kernel, by decide +kernel, by decide +kernel, by decide +kernel, rfl, by decide +kernel⟩
        (fun C s H ex => pe_tup (pa_cons pe_str (pa_cons (pv 0) pa_nil))))
    (pss_cons (ps_for PassesOwn.never rfl (pi_range1 rfl G.range (pa_cons (pe_callB (r := rLen K) call_len_seq rfl G.len PySem.boot_len (pa_cons (pv 2) pa_nil)) pa_nil)) (pg_name (i := 11) scLReadings.nd rfl (Or.inr rfl))
      (pss_one (ps_expr (pe_bm PySem.F.plainAttrs_list PySem.F.slot_list_extend PySem.F.type_list_extend mt_extend (pv 10) (pa_cons
        (pe_comp (sc0 := defScope sLReadings) (N0 := ["sorts", "own", "parts", "mode", "j", "table", "name", "downs", "ups", "word", "found", "k", "targets", "at"]) (ys := ["k"]) (fr := [11]) rfl
          (pi_tup (pe_ix (r := rIxT K) ix_tup (pe_dget hu (pv 5) (pe_ix (r := rIxT K) ix_tup (pv 2) (pv 11) (fun _ _ => rfl)) (fun _ _ => rfl)) pe_int (fun _ _ => rfl))) rfl rfl
          ⟨rfl, by decide +kernel, by decide +kernel, by decide +kernel, by decide +kernel, by decide +kernel, rfl, by decide +kernel⟩
          (fun C s H ex => pe_tup (pa_cons pe_str (pa_cons (pv 1) (pa_cons (pv 0) pa_nil))))) pa_nil)))))
    (pss_cons (ps_set (i := 12) scLReadings.nd rfl (Or.inl rfl) (pe_call GT hr rfl mT kT bT .nil pass0 (pa_cons (pv 0) (pa_cons (pv 1) (pa_cons (pv 2) pa_nil)))))
    (pss_cons (ps_if (pt_cmpR op_eq (pv 3) pe_int (nomark _)) (pss_one (ps_set (i := 12) scLReadings.nd rfl (Or.inl rfl) (pe_slice sl_list (pv 12) po_none (po_some (pv 4))))) pss_nil)
    (pss_cons (ps_for PassesOwn.never rfl (pi_list (pv 12)) (pg_tup rfl (pgs_cons (pg_name (i := 13) scLReadings.nd rfl (Or.inl rfl)) (pgs_cons (pg_name (i := 9) scLReadings.nd rfl (Or.inl rfl)) pgs_nil)))
      (pss_one (ps_if (pt_cmpR op_gt (pv 3) pe_int (nomark _))
        (pss_one (ps_expr (pe_bm PySem.F.plainAttrs_list PySem.F.slot_list_append PySem.F.type_list_append mt_append (pv 10) (pa_cons
          (pe_ix (r := rIxL K) ix_list (pe_lst (pa_cons (pe_tup (pa_cons pe_str (pa_cons (pv 13) (pa_cons (pv 9) pa_nil)))) (pa_cons (pe_tup (pa_cons pe_str (pa_cons (pv 9) pa_nil))) pa_nil)))
            (pe_callTy call_int1 rfl G.int (by decide +kernel) (pa_cons (pe_cmpR op_lt (pv 13) pe_int (nomark _)) pa_nil)) (fun _ _ => rfl)) pa_nil)))) pss_nil)))
    (pss_one (ps_ret (pv 10))))))))), ?_⟩
  refine fun td htd => ?_
  have s0 := same_new htd (.dK [])
  have g0 : (upd H td (.dK [])) td = some (.dK []) := upd_same
  generalize upd H td (.dK []) = H0 at s0 g0 ⊢
  have hlen := hR.len
  refine ⟨_, rfl, sa, rfl, ⟨xs, SqT.of (s0 _ _ hsa)⟩, ?_⟩
  refine for_tup (xs := xs) (fun i σ H' => i ≤ xs.length ∧ ∃ o4 o5 o6 kvs, σ = [some (.ref sa), some (.str o.name), some (.ref pa), some (.int mode), some (.int j), some (.ref td), o4, o5, o6, none, none, none, none, none] ∧ Same H H' ∧ H' td = some (.dK kvs) ∧ kvs.length ≤ i ∧ TabOk H' kvs (ss.take i))
    ⟨Nat.zero_le _, none, none, none, [], rfl, s0, g0, Nat.le_refl _, fun s hs => (by cases hs)⟩ (fun i σ H' _ h => by obtain ⟨_, _, _, _, _, _, sm, _⟩ := h; exact SqT.of (sm _ _ hsa)) ?_ ?_
  · rintro i x σ H1 hx ⟨hi, o4, o5, o6, kvs, rfl, sm, gd, hl, hT⟩
    have hlt : i < xs.length := (List.getElem?_eq_some_iff.mp hx).1
    obtain ⟨sr, hsr, a, b, c, rfl, ha, hb, hc⟩ := paired_get hR hx
    refine ⟨a, _, rfl, SqT.of (sm _ _ ha), rfl, _, _, rfl, _, _, rfl, _, _, rfl, rfl, ?_⟩
    refine ⟨_, rfl, _, rfl, (by show 2 ≤ sizeLine; decide), fun pt hpt => ?_⟩
    have s1 := same_new hpt (.tup [.ref b, .ref c])
    have g1 : (upd H1 pt (.tup [.ref b, .ref c])) pt = some (.tup [.ref b, .ref c]) := upd_same
    generalize upd H1 pt (.tup [.ref b, .ref c]) = H2 at s1 g1 ⊢
    have gd2 := s1 _ _ gd
    have S2 : Same H H2 := sm.trans s1
    refine ⟨_, rfl, _, rfl, td, _, rfl, DPut.k (k := .inr sr.name) gd2 (small1000 (by have := hok.2.1; lia)), ?_⟩
    have tk : TK H2 (upd H2 td (.dK (putK kvs (.inr sr.name) (.ref pt)))) := TK.upd fun ys e => by rw [gd2] at e; cases e
    refine ⟨hlt, _, _, _, _, rfl, ?_, upd_same, ?_, ?_⟩
    · intro y oo h
      rw [upd_ne (ne_of_none h htd)]
      exact S2 _ _ h
    · have := length_putK kvs (.inr sr.name) (.ref pt)
      lia
    · exact TabOk.put hok.2.2.1 hsr (hT.mono ((tk_of s1).trans tk)) (tk _ _ g1) (tk _ _ (S2 _ _ hb)) (tk _ _ (S2 _ _ hc))
  · rintro σ H1 ⟨_, o4, o5, o6, kvs, rfl, sm, gd, hl, hT⟩
    rw [← hlen, List.take_length] at hT
    obtain ⟨a, b, c, eo, ha, hb, hc⟩ := hT o ho
    refine ⟨_, rfl, _, rfl, td, .ref a, rfl, (by rw [← eo]; exact DGet.k (k := .inr o.name) gd), a, _, 0, .ref b, rfl, rfl, SqT.of ha, atI0, b, rfl, ⟨_, SqT.of hb⟩, ?_⟩
    have lo : o.downs.length ≤ 3 := (hok.2.2.2.2 o ho).2.2.1
    refine comp_tups (by rw [List.length_map]; lia) hb (fun v => [.str "own", v]) (fun v H k _ hk => ⟨_, rfl, (by show 2 ≤ sizeLine; decide), fun p hp => hk p hp⟩) fun fl zs H2 hfl s2 gfl hTz => ?_
    have ez : (o.downs.map V.str).map (fun v => [V.str "own", v]) = (o.downs.map Fm.own).map fmV := by rw [List.map_map, List.map_map]; rfl
    rw [ez] at hTz
    have S2 : Same H H2 := sm.trans s2
    have hfl0 : H fl = none := sm.free hfl
    have gd2 := s2 _ _ gd
    have hT2 := hT.mono (tk_of s2)
    have dfl : fl ≠ td := Ne.symm (ne_of_none gd hfl)
    have hlp : (qs.map fun q => V.str (Srt.name q)).length = qs.length := List.length_map _
    refine ⟨_, rfl, pa, _, rfl, .inr (SqT.of (S2 _ _ hpa)), _, rfl, by lia, by lia, ?_⟩
    refine for_range (fun i σ H' => ∃ o8 zs, σ = [some (.ref sa), some (.str o.name), some (.ref pa), some (.int mode), some (.int j), some (.ref td), o4, o5, o6, none, some (.ref fl), o8, none, none] ∧ Same H H' ∧ H' td = some (.dK kvs) ∧ TabOk H' kvs ss ∧ H' fl = some (.lst zs) ∧
        Tups H' ((o.downs.map Fm.own ++ rdFrom 0 (qs.take i)).map fmV) zs)
      ⟨none, zs, rfl, S2, gd2, hT2, gfl, by rw [List.take_zero]; show Tups H2 ((_ ++ []).map fmV) zs; rw [List.append_nil]; exact hTz⟩ ?_ ?_
    · rintro i σ H3 hi ⟨o8, zs3, rfl, S3, gd3, hT3, gfl3, hTz3⟩
      have hi' : i < qs.length := by lia
      obtain ⟨sq, hsq⟩ : ∃ sq, qs[i]? = some sq := ⟨qs[i], List.getElem?_eq_getElem hi'⟩
      obtain ⟨a, b, c, eq, ha, hb, hc⟩ := hT3 sq (hqs sq (List.mem_of_getElem? hsq))
      have eat : atI (qs.map fun q => V.str (Srt.name q)) (0 + (i : Int)) = some (V.str sq.name) := by
        rw [Int.zero_add]
        exact atI_nat (by rw [List.getElem?_map, hsq]; rfl)
      refine ⟨_, rfl, .inl ⟨rfl, _, SqL.of gfl3⟩, ?_⟩
      refine ⟨_, rfl, _, rfl, _, rfl, pa, _, _, _, rfl, rfl, SqT.of (S3 _ _ hpa), eat, td, .ref a, rfl, (by rw [← eq]; exact DGet.k (k := .inr sq.name) gd3), a, _, 1, .ref c, rfl, rfl, SqT.of ha, atI_nat (j := 1) rfl, c, rfl, ⟨_, SqT.of hc⟩, ?_⟩
      have ld : sq.ups.length ≤ 3 := (hok.2.2.2.2 sq (hqs sq (List.mem_of_getElem? hsq))).2.2.2.1
      refine comp_tups (by rw [List.length_map]; lia) hc (fun v => [.str "part", .int (0 + (i : Int)), v]) (fun v H k _ hk => ⟨_, rfl, _, rfl, (by show 3 ≤ sizeLine; decide), fun p hp => hk p hp⟩) fun pl ws H4 hpl s4 gpl hTw => ?_
      have ew : (sq.ups.map V.str).map (fun v => [V.str "part", V.int (0 + (i : Int)), v]) = (sq.ups.map fun x => Fm.part (0 + (i : Int)) x).map fmV := by rw [List.map_map, List.map_map]; rfl
      rw [ew] at hTw
      have gfl4 := s4 _ _ gfl3
      have lz := hTz3.len
      have lw := hTw.len
      have lt := rdFrom_len 0 (qs.take i) fun s hs => hok.2.2.2.2 s (hqs s (List.mem_of_mem_take hs))
      rw [List.length_map, List.length_append, List.length_map] at lz
      rw [List.length_map, List.length_map] at lw
      rw [List.length_take] at lt
      refine ⟨fl, pl, zs3, ws, rfl, rfl, gfl4, gpl, Nat.le_of_lt (small1000 (by lia)), ?_⟩
      have tk : TK H4 (upd H4 fl (.lst (zs3 ++ ws))) := TK.lst gfl4
      have tk3 : TK H3 (upd H4 fl (.lst (zs3 ++ ws))) := (tk_of s4).trans tk
      refine ⟨_, zs3 ++ ws, rfl, ?_, ?_, hT3.mono tk3, upd_same, ?_⟩
      · intro y oo h
        rw [upd_ne (ne_of_none h hfl0)]
        exact s4 _ _ (S3 _ _ h)
      · rw [upd_ne (Ne.symm dfl)]
        exact s4 _ _ gd3
      · rw [List.take_add_one, hsq]
        show Tups _ ((_ ++ rdFrom 0 (qs.take i ++ [sq])).map fmV) _
        rw [rdFrom_snoc, ← List.append_assoc, List.map_append]
        have e9 : (0 : Int) + ((qs.take i).length : Int) = 0 + (i : Int) := by rw [List.length_take]; lia
        rw [e9]
        exact (hTz3.mono tk3).append (hTw.mono tk)
    · rintro σ H3 ⟨o8, zs3, rfl, S3, gd3, hT3, gfl3, hTz3⟩
      have e9 : qs.take (((qs.map fun q => V.str (Srt.name q)).length : Int)).toNat = qs := by rw [hlp]; exact List.take_of_length_le (by lia)
      rw [e9] at hTz3
      have lt12 := tgts_len hok.2.2.2.2 ho hqs hql
      have l12 : zs3.length ≤ 12 := by
        have lt := rdFrom_len 0 qs fun s hs => hok.2.2.2.2 s (hqs s hs)
        have lz := hTz3.len
        rw [List.length_map, List.length_append, List.length_map] at lz
        lia
      refine ⟨_, rfl, _, rfl, _, rfl, sa, pa, ss, o, qs, rfl, ⟨xs, S3 _ _ hsa, hR.mono (tk_of S3)⟩, hok, ho, S3 _ _ hpa, hqs, hql, fun tl zt H4 htl s4 gtl hTt => ?_⟩
      have S4 : Same H H4 := S3.trans s4
      have gfl4 := s4 _ _ gfl3
      have hTz4 := hTz3.mono (tk_of s4)
      have nft : fl ≠ tl := ne_of_none gfl3 htl
      refine ⟨_, rfl, rfl, _, rfl, ?_⟩
      refine ite2 (fun c => ?A) (fun c => ?B)
      case' A =>
        have cm : mode = 2 := V.int.inj (of_decide_eq_true c)
        have lzt : zt.length = (tgts o qs).length := by rw [← hTt.len, List.length_map]
        refine ⟨_, rfl, _, rfl, j, rfl, tl, zt, rfl, SqL.of gtl, fun tl2 htl2 => ?_⟩
        rw [cut_take zt hj0 (by lia)]
        have hsel : Tups H4 ((tgSel o qs mode j).map tgV) (zt.take j.toNat) := by
          unfold tgSel
          rw [if_pos cm, List.map_take]
          exact paired_take hTt _
        have s5 := same_new htl2 (.lst (zt.take j.toNat))
        have gt : (upd H4 tl2 (.lst (zt.take j.toNat))) tl2 = some (.lst (zt.take j.toNat)) := upd_same
        have nft2 : fl ≠ tl2 := ne_of_none gfl4 htl2
        have gfl5 := s5 _ _ gfl4
        have hTz5 := hTz4.mono (tk_of s5)
        have hsel5 := hsel.mono (tk_of s5)
        have S5 : Same H (upd H4 tl2 (.lst (zt.take j.toNat))) := S4.trans s5
        generalize upd H4 tl2 (.lst (zt.take j.toNat)) = H5 at gt gfl5 hTz5 hsel5 S5 ⊢
        generalize zt.take j.toNat = zu at gt hsel5
        generalize tl2 = tx at gt nft2 ⊢
      case' B =>
        have cm : ¬ mode = 2 := fun e => c (decide_eq_true (by rw [e]))
        have hsel5 : Tups H4 ((tgSel o qs mode j).map tgV) zt := by
          unfold tgSel
          rw [if_neg cm]
          exact hTt
        have gt := gtl
        have nft2 := nft
        have gfl5 := gfl4
        have hTz5 := hTz4
        have S5 := S4
        generalize H4 = H5 at gt gfl5 hTz5 hsel5 S5 ⊢
        generalize zt = zu at gt hsel5
        generalize tl = tx at gt nft2 ⊢
      all_goals
        have ltg : (tgSel o qs mode j).length ≤ 12 := Nat.le_trans (tgSel_len o qs mode j) lt12
        have lzu : zu.length = (tgSel o qs mode j).length := by rw [← hsel5.len, List.length_map]
        have hrd : rds o qs mode j = (o.downs.map Fm.own ++ rdFrom 0 qs) ++ (if mode > 0 then (tgSel o qs mode j).map tgF else []) := rfl
        generalize tgSel o qs mode j = tg at ltg lzu hrd hsel5
        have e0 : (if mode > 0 then (tg.take 0).map tgF else []) = [] := by split <;> rfl
        refine ⟨_, rfl, tx, rfl, ⟨zu, SqL.of gt⟩, ?_⟩
        refine for_list (xs := zu) (fun i σ H' => i ≤ zu.length ∧ ∃ o9 zs o13, σ = [some (.ref sa), some (.str o.name), some (.ref pa), some (.int mode), some (.int j), some (.ref td), o4, o5, o6, o9, some (.ref fl), o8, some (.ref tx), o13] ∧ Same H H' ∧ H' tx = some (.lst zu) ∧ Tups H' (tg.map tgV) zu ∧ H' fl = some (.lst zs) ∧ zs.length ≤ 12 + i ∧
            Tups H' (((o.downs.map Fm.own ++ rdFrom 0 qs) ++ (if mode > 0 then (tg.take i).map tgF else [])).map fmV) zs)
          ⟨Nat.zero_le _, none, zs3, none, rfl, S5, gt, hsel5, gfl5, l12, by rw [e0, List.append_nil]; exact hTz5⟩ (fun i σ H' _ h => by obtain ⟨_, _, _, _, _, _, gg, _⟩ := h; exact SqL.of gg) ?_ ?_
        · rintro i x σ H6 hx ⟨hi, o9, zs6, o13, rfl, S6, gt6, hsel6, gfl6, l6, hT6⟩
          have hlt : i < zu.length := (List.getElem?_eq_some_iff.mp hx).1
          obtain ⟨ys, hys, a, rfl, ha⟩ := paired_get hsel6 hx
          obtain ⟨t, ht, rfl⟩ : ∃ t, tg[i]? = some t ∧ tgV t = ys := by
            rw [List.getElem?_map] at hys
            cases he : tg[i]? with
            | none => rw [he] at hys; cases hys
            | some t => rw [he] at hys; exact ⟨t, rfl, Option.some.inj hys⟩
          refine ⟨a, _, rfl, SqT.of ha, rfl, _, _, rfl, _, _, rfl, rfl, ?_⟩
          refine ⟨_, rfl, _, _, rfl, rfl, _, rfl, ?_⟩
          refine ite2 (fun cm => ?_) (fun cm => ?_)
          · have cm' : mode > 0 := of_decide_eq_true cm
            refine ⟨_, rfl, .inl ⟨rfl, _, SqL.of gfl6⟩, ?_⟩
            refine ⟨_, rfl, _, rfl, (by show 3 ≤ sizeLine; decide), fun p1 hp1 => ?_⟩
            have s1 := same_new hp1 (.tup [.str "part", .int t.1, .str t.2])
            have g1 : (upd H6 p1 (.tup [.str "part", .int t.1, .str t.2])) p1 = some (.tup [.str "part", .int t.1, .str t.2]) := upd_same
            generalize upd H6 p1 (.tup [.str "part", .int t.1, .str t.2]) = H7 at s1 g1 ⊢
            refine ⟨_, rfl, (by show 2 ≤ sizeLine; decide), fun p2 hp2 => ?_⟩
            have s2 := same_new hp2 (.tup [.str "own", .str t.2])
            have g2 : (upd H7 p2 (.tup [.str "own", .str t.2])) p2 = some (.tup [.str "own", .str t.2]) := upd_same
            generalize upd H7 p2 (.tup [.str "own", .str t.2]) = H8 at s2 g2 ⊢
            refine ⟨(by show 2 ≤ sizeLine; decide), fun p3 hp3 => ?_⟩
            have s3 := same_new hp3 (.lst [.ref p1, .ref p2])
            have g3 : (upd H8 p3 (.lst [.ref p1, .ref p2])) p3 = some (.lst [.ref p1, .ref p2]) := upd_same
            generalize upd H8 p3 (.lst [.ref p1, .ref p2]) = H9 at s3 g3 ⊢
            have S69 : Same H6 H9 := s1.trans (s2.trans s3)
            refine ⟨_, rfl, _, _, rfl, rfl, .inr ⟨_, rfl, p3, _, _, _, rfl, rfl, SqL.of g3, ix_own _, ?_⟩⟩
            have gfl9 := S69 _ _ gfl6
            refine ⟨fl, zs6, _, rfl, rfl, gfl9, small1000 (by lia), ?_⟩
            have hz : TupAt H9 (fmV (tgF t)) (if decide (t.1 < 0) = true then .ref p2 else .ref p1) := by
              by_cases cn : t.1 < 0
              · rw [if_pos (decide_eq_true cn)]
                unfold tgF
                rw [if_pos cn]
                exact ⟨p2, rfl, s3 _ _ g2⟩
              · rw [if_neg (fun e => cn (of_decide_eq_true e))]
                unfold tgF
                rw [if_neg cn]
                exact ⟨p1, rfl, s3 _ _ (s2 _ _ g1)⟩
            generalize (if decide (t.1 < 0) = true then V.ref p2 else .ref p1) = zv at hz ⊢
            have tk : TK H9 (upd H9 fl (.lst (zs6 ++ [zv]))) := TK.lst gfl9
            have tk6 : TK H6 (upd H9 fl (.lst (zs6 ++ [zv]))) := (tk_of S69).trans tk
            refine ⟨hlt, _, zs6 ++ [zv], _, rfl, ?_, ?_, hsel6.mono tk6, upd_same, by rw [List.length_append]; show zs6.length + 1 ≤ _; lia, ?_⟩
            · intro y oo h
              rw [upd_ne (ne_of_none h hfl0)]
              exact S69 _ _ (S6 _ _ h)
            · rw [upd_ne (Ne.symm nft2)]
              exact S69 _ _ gt6
            · rw [if_pos cm'] at hT6 ⊢
              rw [List.take_add_one, ht]
              show Tups _ ((_ ++ (tg.take i ++ [t]).map tgF).map fmV) _
              rw [List.map_append (f := tgF), ← List.append_assoc, List.map_append (f := fmV)]
              obtain ⟨az, ez, gz⟩ := hz
              exact Paired.snoc (hT6.mono tk6) ⟨az, ez, tk _ _ gz⟩
          · have cm' : ¬ mode > 0 := fun e => cm (decide_eq_true e)
            refine ⟨hlt, _, zs6, _, rfl, S6, gt6, hsel6, gfl6, by lia, ?_⟩
            rw [if_neg cm'] at hT6 ⊢
            exact hT6
        · rintro σ H6 ⟨_, o9, zs6, o13, rfl, S6, gt6, hsel6, gfl6, l6, hT6⟩
          rw [List.take_of_length_le (by lia), ← hrd] at hT6
          exact ⟨_, rfl, q fl zs6 H6 hfl0 S6 gfl6 hT6⟩
end
end My
namespace My
open PySem L2
structure Rul where
  pl : Int
  word : Str
  fm : Fm
structure Frm where
  name : Str
  own : Srt
  parts : List Srt
  rules : List Rul
inductive RepR (H : Hp) (r : Rul) (v : V) : Prop
  | mk : ∀ a u, (v = .ref a) → (H a = some (.tup [.int r.pl, .str r.word, u])) → (Rep H r.fm u) → RepR H r v
theorem RepR.mono {H H' : Hp} (t : TK H H') {r : Rul} {v : V} : RepR H r v → RepR H' r v := fun ⟨a, u, e, h, p⟩ => ⟨a, u, e, t _ _ h, p.mono t⟩
noncomputable def RepRs (H : Hp) (rs : List Rul) (vs : List V) : Prop := Paired (RepR H) rs vs
theorem RepRs.mono {H H' : Hp} (t : TK H H') {rs : List Rul} {vs : List V} (h : RepRs H rs vs) : RepRs H' rs vs := Paired.mapP h fun _ _ r => r.mono t
theorem RepRs.len {H : Hp} {rs : List Rul} {vs : List V} (h : RepRs H rs vs) : rs.length = vs.length := Paired.length h
noncomputable def partsV (qs : List Srt) : List V := qs.map fun q => V.str (Srt.name q)
inductive RepF (H : Hp) (fr : Frm) (v : V) : Prop
  | mk : ∀ a pa ra rv, (v = .ref a) → (H a = some (.tup [.str fr.name, .str fr.own.name, .ref pa, .ref ra])) → (H pa = some (.tup (partsV fr.parts))) → (H ra = some (.tup rv)) → (RepRs H fr.rules rv) → RepF H fr v
theorem RepF.mono {H H' : Hp} (t : TK H H') {fr : Frm} {v : V} : RepF H fr v → RepF H' fr v := fun ⟨a, pa, ra, rv, e, h1, h2, h3, h4⟩ => ⟨a, pa, ra, rv, e, t _ _ h1, t _ _ h2, t _ _ h3, h4.mono t⟩
noncomputable def RulesOk (o : Srt) (qs : List Srt) (mode : Int) (rules : List Rul) : Prop := rules.map (fun r => (r.pl, r.word)) = tgts o qs ∧ ∀ (j : Nat) r, rules[j]? = some r → r.fm.wfp (fun f => f ∈ rds o qs mode j) ∧ r.fm.size ≤ 15
noncomputable def leafOk : Fm → Prop
  | .own x => wordB x = true
  | .part k x => (0 ≤ k ∧ k ≤ 2) ∧ wordB x = true
  | _ => False
theorem tgFrom_mem {k : Int} : ∀ {qs : List Srt} {t : Int × Str}, t ∈ tgFrom k qs → k ≤ t.1 ∧ t.1 < k + qs.length ∧ ∃ q ∈ qs, t.2 ∈ q.downs := by
  intro qs
  induction qs generalizing k with
  | nil => intro t h; cases h
  | cons q r ih =>
    intro t h
    unfold tgFrom at h
    rw [List.mem_append] at h
    rcases h with h | h
    · obtain ⟨x, hx, rfl⟩ := List.mem_map.mp h
      exact ⟨Int.le_refl _, by rw [List.length_cons]; show k < _; lia, q, List.mem_cons_self, hx⟩
    · obtain ⟨h1, h2, q', h3, h4⟩ := ih h
      exact ⟨by lia, by rw [List.length_cons]; lia, q', List.mem_cons_of_mem _ h3, h4⟩
theorem rdFrom_mem {k : Int} : ∀ {qs : List Srt} {f : Fm}, f ∈ rdFrom k qs → ∃ j x, f = .part j x ∧ k ≤ j ∧ j < k + qs.length ∧ ∃ q ∈ qs, x ∈ q.ups := by
  intro qs
  induction qs generalizing k with
  | nil => intro t h; cases h
  | cons q r ih =>
    intro t h
    unfold rdFrom at h
    rw [List.mem_append] at h
    rcases h with h | h
    · obtain ⟨x, hx, rfl⟩ := List.mem_map.mp h
      exact ⟨k, x, rfl, Int.le_refl _, by rw [List.length_cons]; lia, q, List.mem_cons_self, hx⟩
    · obtain ⟨j, x, e, h1, h2, q', h3, h4⟩ := ih h
      exact ⟨j, x, e, by lia, by rw [List.length_cons]; lia, q', List.mem_cons_of_mem _ h3, h4⟩
theorem tgF_leaf {ss : List Srt} {o : Srt} {qs : List Srt} (hok : ∀ s ∈ ss, s.ok) (ho : o ∈ ss) (hq : ∀ q ∈ qs, q ∈ ss) (hl : qs.length ≤ 3) {t : Int × Str} (ht : t ∈ tgts o qs) : leafOk (tgF t) := by
  unfold tgts at ht
  rw [List.mem_append] at ht
  unfold tgF
  rcases ht with h | h
  · obtain ⟨x, hx, rfl⟩ := List.mem_map.mp h
    rw [if_pos (show ((-1 : Int), x).1 < 0 from (by decide : (-1 : Int) < 0))]
    exact (hok o ho).2.1 x (List.mem_append_right _ hx)
  · obtain ⟨h1, h2, q, h3, h4⟩ := tgFrom_mem h
    rw [if_neg (by lia)]
    exact ⟨⟨h1, by lia⟩, (hok q (hq q h3)).2.1 _ (List.mem_append_left _ h4)⟩
theorem rds_leaf {ss : List Srt} {o : Srt} {qs : List Srt} {mode j : Int} (hok : ∀ s ∈ ss, s.ok) (ho : o ∈ ss) (hq : ∀ q ∈ qs, q ∈ ss) (hl : qs.length ≤ 3) {f : Fm} (hf : f ∈ rds o qs mode j) : leafOk f := by
  unfold rds at hf
  rw [List.mem_append, List.mem_append] at hf
  rcases hf with (h | h) | h
  · obtain ⟨x, hx, rfl⟩ := List.mem_map.mp h
    exact (hok o ho).2.1 x (List.mem_append_left _ hx)
  · obtain ⟨k, x, rfl, h1, h2, q, h3, h4⟩ := rdFrom_mem h
    exact ⟨⟨h1, by lia⟩, (hok q (hq q h3)).2.1 _ (List.mem_append_right _ h4)⟩
  · by_cases c : mode > 0
    · rw [if_pos c] at h
      obtain ⟨t, ht, rfl⟩ := List.mem_map.mp h
      refine tgF_leaf hok ho hq hl ?_
      unfold tgSel at ht
      by_cases c2 : mode = 2
      · rw [if_pos c2] at ht; exact List.mem_of_mem_take ht
      · rw [if_neg c2] at ht; exact ht
    · rw [if_neg c] at h; cases h
theorem paired_mem {α β : Type} {F : α → β → Prop} : ∀ {l : List α} {r : List β} {b : β}, Paired F l r → b ∈ r → ∃ a ∈ l, F a b := fun {l r b} h m => by
  obtain ⟨i, hi⟩ := List.getElem?_of_mem m
  obtain ⟨a, ha, f⟩ := paired_get h hi
  exact ⟨a, List.mem_of_getElem? ha, f⟩
theorem leaf_rep {H : Hp} {f : Fm} {v : V} (hl : leafOk f) (h : TupAt H (fmV f) v) : Rep H f v ∧ f.size = 1 := by
  obtain ⟨a, rfl, ha⟩ := h
  cases f with
  | own x => exact ⟨⟨a, rfl, ha⟩, rfl⟩
  | part k x => exact ⟨⟨a, rfl, ha⟩, rfl⟩
  | num n => exact hl.elim
  | bin op x y => exact hl.elim
  | whn x y z => exact hl.elim
theorem leaf_wfp {ρ : Fm → Prop} {f : Fm} (hl : leafOk f) (h : ρ f) : f.wfp ρ := by
  cases f with
  | own x => exact ⟨hl, h⟩
  | part k x => exact ⟨hl, h⟩
  | num n => exact hl.elim
  | bin op x y => exact hl.elim
  | whn x y z => exact hl.elim
theorem rds_lvs {H : Hp} {ss : List Srt} {o : Srt} {qs : List Srt} {mode j : Int} {zs : List V} (hok : ∀ s ∈ ss, s.ok) (ho : o ∈ ss) (hq : ∀ q ∈ qs, q ∈ ss) (hl : qs.length ≤ 3) (h : Tups H ((rds o qs mode j).map fmV) zs) : LvsP (fun f => f ∈ rds o qs mode j) H zs := fun v hv => by
  obtain ⟨ys, hy, hz⟩ := paired_mem h hv
  obtain ⟨f, hf, rfl⟩ := List.mem_map.mp hy
  have lf := rds_leaf hok ho hq hl hf
  obtain ⟨r, s⟩ := leaf_rep lf hz
  exact ⟨f, r, leaf_wfp lf hf, s⟩
theorem rds_len {ss : List Srt} {o : Srt} {qs : List Srt} {mode j : Int} (hok : ∀ s ∈ ss, s.ok) (ho : o ∈ ss) (hq : ∀ q ∈ qs, q ∈ ss) (hl : qs.length ≤ 3) : (rds o qs mode j).length ≤ 24 := by
  have h1 := rdFrom_len 0 qs fun s hs => hok s (hq s hs)
  have h2 := (hok o ho).2.2.1
  have h3 := tgts_len hok ho hq hl
  have h4 := tgSel_len o qs mode j
  unfold rds
  rw [List.length_append, List.length_append, List.length_map]
  by_cases c : mode > 0
  · rw [if_pos c, List.length_map]; lia
  · rw [if_neg c]; show _ + 0 ≤ 24; lia
inductive spLForm  (vs : List V) (H : Hp) (Q : VK) (E_ : XK) : Prop
  | mk : ∀ tp sa pa ss nm o qs mode, (vs = [.ref tp, .ref sa, .str nm, .str (Srt.name o), .ref pa, .int mode]) → (Tp H tp) → (SrtsAt H sa ss) → (SortsOk ss) → (o ∈ ss) → (H pa = some (.tup (partsV qs))) → ((∀ q ∈ qs, q ∈ ss)) → (qs.length ≤ 3) → (∀ v rules H', RepF H' ⟨nm, o, qs, rules⟩ v → RulesOk o qs mode rules → Kp tp H H' → Tp H' tp → Q v H') → spLForm vs H Q E_
section
variable {P : Program} {w : World} {K : PySem.W.Frag} {mg : Str → Option Value} {base : Heap} {f g f2 f3 : Addr} {fd gd fd2 fd3 : FuncData}
theorem scLForm : FnScope ["tape", "sorts", "name", "own", "parts", "mode", "rules", "targets", "j", "readings"] ["tape", "sorts", "name", "own", "parts", "mode"] (defScope sLForm) := ⟨rfl, rfl, rfl, by decide +kernel, rfl, by decide +kernel, by decide +kernel⟩
theorem ok_lform (F : Fun K "_law_form" "_law_form" sLForm f fd) (G : Gb mg) (GT : FnOk P w K mg base CX0 1 g gd ["sorts", "own", "parts"] spTargets) (bT : Binds K gd ["sorts", "own", "parts"] []) (kT : PySem.W.keepIn K (.ref g) = true) (mT : mg "_law_targets" = some (.ref g))
    (GR : FnOk P w K mg base CX0 2 f2 fd2 ["sorts", "own", "parts", "mode", "j"] spLReadings) (bR : Binds K fd2 ["sorts", "own", "parts", "mode", "j"] []) (kR : PySem.W.keepIn K (.ref f2) = true) (mR : mg "_law_readings" = some (.ref f2))
    (GF : ∀ ρ, FnOk P w K mg base CX0 4 f3 fd3 ["tape", "readings"] (spFormulaP ρ)) (bF : Binds K fd3 ["tape", "readings"] []) (kF : PySem.W.keepIn K (.ref f3) = true) (mF : mg "_law_formula" = some (.ref f3)) :
    FnOk P w K mg base CX0 5 f fd ["tape", "sorts", "name", "own", "parts", "mode"] spLForm := by
  have GF' : FnOk P w K mg base CX0 4 f3 fd3 ["tape", "readings"] (fun vs H Q E => ∃ ρ, spFormulaP ρ vs H Q E) := ⟨fun vs H Q E ⟨ρ, h⟩ => (GF ρ).len vs H Q E h, fun A outer s H args us vs Q E hr he hb hv ⟨ρ, h⟩ => (GF ρ).run A outer s H args us vs Q E hr he hb hv h⟩
  refine F.ok scLForm (fun vs H Q E h => ?_) (fun cdv A outer s H vs Q E hr h => ?_)
  · obtain ⟨tp, sa, pa, ss, nm, o, qs, mode, rfl, _⟩ := h
    rfl
  obtain ⟨tp, sa, pa, ss, nm, o, qs, mode, rfl, hT, hsa, hok, ho, hpa, hqs, hql, q⟩ := h
  refine ⟨_, pss_cons (ps_set (i := 6) scLForm.nd rfl (Or.inl rfl) (pe_lst pa_nil))
    (pss_cons (ps_set (i := 7) scLForm.nd rfl (Or.inl rfl) (pe_call GT (hr.mono (show 1 ≤ 4 by decide)) rfl mT kT bT .nil pass0 (pa_cons (pv 1) (pa_cons (pv 3) (pa_cons (pv 4) pa_nil)))))
    (pss_cons (ps_for PassesOwn.never rfl (pi_range1 rfl G.range (pa_cons (pe_callB (r := rLen K) call_len_seq rfl G.len PySem.boot_len (pa_cons (pv 7) pa_nil)) pa_nil)) (pg_name (i := 8) scLForm.nd rfl (Or.inl rfl))
      (pss_cons (ps_set (i := 9) scLForm.nd rfl (Or.inl rfl) (pe_call GR (hr.mono (show 2 ≤ 4 by decide)) rfl mR kR bR .nil pass0 (pa_cons (pv 1) (pa_cons (pv 3) (pa_cons (pv 4) (pa_cons (pv 5) (pa_cons (pv 8) pa_nil)))))))
      (pss_one (ps_expr (pe_bm PySem.F.plainAttrs_list PySem.F.slot_list_append PySem.F.type_list_append mt_append (pv 6) (pa_cons
        (pe_tup (pa_cons (pe_ix (r := rIxT K) ix_tup (pe_ix (r := rIxL K) ix_list (pv 7) (pv 8) (fun _ _ => rfl)) pe_int (fun _ _ => rfl)) (pa_cons (pe_ix (r := rIxT K) ix_tup (pe_ix (r := rIxL K) ix_list (pv 7) (pv 8) (fun _ _ => rfl)) pe_int (fun _ _ => rfl))
          (pa_cons (pe_call GF' hr rfl mF kF bF .nil pass0 (pa_cons (pv 0) (pa_cons (pv 9) pa_nil))) pa_nil)))) pa_nil))))))
    (pss_one (ps_ret (pe_tup (pa_cons (pv 2) (pa_cons (pv 3) (pa_cons (pv 4) (pa_cons (pe_callTy (r := rTupOf K) call_tuple_of rfl G.tuple (by decide +kernel) (pa_cons (pv 6) pa_nil)) pa_nil))))))))), ?_⟩
  refine ⟨(by show 0 ≤ sizeLine; decide), fun rl hrl => ?_⟩
  have s0 := same_new hrl (.lst [])
  have g0 : (upd H rl (.lst [])) rl = some (.lst []) := upd_same
  have nrt := tp_ne hT hrl
  have t0 := hT.new (o := .lst []) hrl
  generalize upd H rl (.lst []) = H0 at s0 g0 t0 ⊢
  refine ⟨_, rfl, _, rfl, _, rfl, sa, pa, ss, o, qs, rfl, hsa.mono (tk_of s0), hok, ho, s0 _ _ hpa, hqs, hql, fun tl zt H1 htl s1 gtl hTt => ?_⟩
  have S1 : Same H H1 := s0.trans s1
  have grl1 := s1 _ _ g0
  have tt1 := t0.same s1
  have ntt : tl ≠ tp := tp_ne t0 htl
  have nrl : rl ≠ tl := ne_of_none g0 htl
  have lt12 := tgts_len hok.2.2.2.2 ho hqs hql
  have lzt : zt.length = (tgts o qs).length := by rw [← hTt.len, List.length_map]
  refine ⟨_, rfl, tl, zt, rfl, .inl (SqL.of gtl), _, rfl, by lia, by lia, ?_⟩
  refine for_range (fun i σ H' => ∃ o8 o9 rv rules, σ = [some (.ref tp), some (.ref sa), some (.str nm), some (.str o.name), some (.ref pa), some (.int mode), some (.ref rl), some (.ref tl), o8, o9] ∧ Kp tp H H' ∧ Tp H' tp ∧ H' tl = some (.lst zt) ∧ Tups H' ((tgts o qs).map tgV) zt ∧
      H' rl = some (.lst rv) ∧ RepRs H' rules rv ∧ rules.map (fun r => (r.pl, r.word)) = (tgts o qs).take i ∧ ∀ (j : Nat) r, rules[j]? = some r → r.fm.wfp (fun f => f ∈ rds o qs mode j) ∧ r.fm.size ≤ 15)
    ⟨none, none, [], [], rfl, Kp.refl.same S1, tt1, gtl, hTt, grl1, .nil, rfl, fun j r h => by cases h⟩ ?_ ?_
  · rintro i σ H2 hi ⟨o8, o9, rv, rules, rfl, k2, tt2, gtl2, hTt2, grl2, hRr, hmap, hfm⟩
    have hi' : i < (tgts o qs).length := by lia
    have tk2 := k2.tk hT
    have lrules : rules.length = i := by
      have := congrArg List.length hmap
      rw [List.length_map, List.length_take] at this
      lia
    have lrv : rv.length = i := by rw [← hRr.len]; exact lrules
    refine ⟨_, rfl, _, rfl, _, rfl, _, rfl, _, rfl, sa, pa, ss, o, qs, mode, 0 + (i : Int), rfl, hsa.mono tk2, hok, ho, tk2 _ _ hpa, hqs, hql, by lia, by lia, fun rdl zr H3 hrdl s3 grdl hTr => ?_⟩
    have tt3 := tt2.same s3
    have grl3 := s3 _ _ grl2
    have gtl3 := s3 _ _ gtl2
    have hTt3 := hTt2.mono (tk_of s3)
    have nrdt : rdl ≠ tp := tp_ne tt2 hrdl
    obtain ⟨t, ht⟩ : ∃ t, (tgts o qs)[i]? = some t := ⟨(tgts o qs)[i], List.getElem?_eq_getElem hi'⟩
    obtain ⟨x, hx⟩ : ∃ x, zt[i]? = some x := ⟨zt[i]'(by lia), List.getElem?_eq_getElem (by lia)⟩
    obtain ⟨ys, hys, a, rfl, ha⟩ := paired_get hTt3 hx
    have eys : ys = tgV t := by
      rw [List.getElem?_map, ht] at hys
      exact (Option.some.inj hys).symm
    subst eys
    have eat : atI zt (0 + (i : Int)) = some (.ref a) := by
      rw [Int.zero_add]
      exact atI_nat hx
    refine ⟨_, rfl, .inl ⟨rfl, _, SqL.of grl3⟩, ?_⟩
    refine ⟨_, rfl, _, rfl, tl, _, _, _, rfl, rfl, SqL.of gtl3, eat, a, _, 0, .int t.1, rfl, rfl, SqT.of ha, atI0, ?_⟩
    refine ⟨_, rfl, _, rfl, tl, _, _, _, rfl, rfl, SqL.of gtl3, eat, a, _, 1, .str t.2, rfl, rfl, SqT.of ha, atI_nat (j := 1) rfl, ?_⟩
    have lzr : zr.length ≤ 24 := by
      rw [← hTr.len, List.length_map]
      exact rds_len hok.2.2.2.2 ho hqs hql
    refine ⟨_, rfl, _, rfl, fun fm => fm ∈ rds o qs mode (0 + (i : Int)), tp, rdl, zr, rfl, tt3, nrdt, grdl, by lia, rds_lvs hok.2.2.2.2 ho hqs hql hTr, fun v fm H4 rp wf sz k4 tt4 => ?_⟩
    have k24 : Kp tp H2 H4 := (Kp.refl.same s3).trans k4
    have grl4 := k24 _ _ grl2 nrt
    have gtl4 := k24 _ _ gtl2 ntt
    refine ⟨(by show 3 ≤ sizeLine; decide), fun p5 hp5 => ?_⟩
    have s5 := same_new hp5 (.tup [.int t.1, .str t.2, v])
    have g5 : (upd H4 p5 (.tup [.int t.1, .str t.2, v])) p5 = some (.tup [.int t.1, .str t.2, v]) := upd_same
    have tt5 := tt4.same s5
    generalize upd H4 p5 (.tup [.int t.1, .str t.2, v]) = H5 at s5 g5 tt5 ⊢
    have k25 : Kp tp H2 H5 := k24.same s5
    have grl5 := s5 _ _ grl4
    refine ⟨rl, rv, .ref p5, rfl, rfl, grl5, small1000 (by lia), ?_⟩
    have tk : TK H5 (upd H5 rl (.lst (rv ++ [.ref p5]))) := TK.lst grl5
    have tk26 : TK H2 (upd H5 rl (.lst (rv ++ [.ref p5]))) := (k25.tk tt2).trans tk
    refine ⟨_, _, rv ++ [.ref p5], rules ++ [⟨t.1, t.2, fm⟩], rfl, ?_, ?_, ?_, hTt2.mono tk26, upd_same, ?_, ?_, ?_⟩
    · intro b oo hb hbn
      rw [upd_ne (ne_of_none hb hrl)]
      exact k25 _ _ (k2 _ _ hb hbn) hbn
    · obtain ⟨t9, e9⟩ := tt5
      exact ⟨t9, by rw [upd_ne (Ne.symm nrt)]; exact e9⟩
    · rw [upd_ne (Ne.symm nrl)]
      exact s5 _ _ gtl4
    · exact Paired.snoc (hRr.mono tk26) ⟨p5, v, rfl, tk _ _ g5, rp.mono ((tk_of s5).trans tk)⟩
    · rw [List.map_append, hmap, List.take_add_one, ht]
      rfl
    · intro j r hj
      by_cases c : j < i
      · rw [List.getElem?_append_left (by lia)] at hj
        exact hfm j r hj
      · rw [List.getElem?_append_right (by lia), lrules] at hj
        have hji : j = i := by
          by_cases c2 : j = i
          · exact c2
          · have : j - i ≠ 0 := by lia
            rw [List.getElem?_eq_none (by show 1 ≤ j - i; lia)] at hj
            cases hj
        subst hji
        rw [Nat.sub_self] at hj
        have : r = ⟨t.1, t.2, fm⟩ := (Option.some.inj hj).symm
        subst this
        rw [Int.zero_add] at wf
        exact ⟨wf, sz⟩
  · rintro σ H2 ⟨o8, o9, rv, rules, rfl, k2, tt2, gtl2, hTt2, grl2, hRr, hmap, hfm⟩
    have tk2 := k2.tk hT
    rw [List.take_of_length_le (by lia)] at hmap
    refine ⟨_, rfl, _, rfl, _, rfl, _, rfl, rl, rv, rfl, .inl ⟨SqL.of grl2, fun p3 hp3 => ?_⟩⟩
    have s3 := same_new hp3 (.tup rv)
    have g3 : (upd H2 p3 (.tup rv)) p3 = some (.tup rv) := upd_same
    generalize upd H2 p3 (.tup rv) = H3 at s3 g3 ⊢
    refine ⟨(by show 4 ≤ sizeLine; decide), fun p4 hp4 => ?_⟩
    have s4 := same_new hp4 (.tup [.str nm, .str o.name, .ref pa, .ref p3])
    refine q (.ref p4) rules _ ⟨p4, pa, p3, rv, rfl, upd_same, s4 _ _ (s3 _ _ (tk2 _ _ hpa)), s4 _ _ g3, hRr.mono (tk_of (s3.trans s4))⟩ ⟨hmap, hfm⟩ (k2.same (s3.trans s4)) (tt2.same (s3.trans s4))
end
end My
namespace My
open PySem L2
structure Bk where
  wheel : Int
  sorts : List Srt
  forms : List Frm
noncomputable def RepFs (H : Hp) (fs : List Frm) (vs : List V) : Prop := Paired (RepF H) fs vs
theorem RepFs.mono {H H' : Hp} (t : TK H H') {fs : List Frm} {vs : List V} (h : RepFs H fs vs) : RepFs H' fs vs := Paired.mapP h fun _ _ r => r.mono t
theorem RepFs.len {H : Hp} {fs : List Frm} {vs : List V} (h : RepFs H fs vs) : fs.length = vs.length := Paired.length h
inductive RepB (H : Hp) (b : Bk) (v : V) : Prop
  | mk : ∀ a sa fa fv, (v = .ref a) → (H a = some (.tup [.int b.wheel, .ref sa, .ref fa])) → (SrtsAt H sa b.sorts) → (H fa = some (.tup fv)) → (RepFs H b.forms fv) → RepB H b v
theorem RepB.mono {H H' : Hp} (t : TK H H') {b : Bk} {v : V} : RepB H b v → RepB H' b v := fun ⟨a, sa, fa, fv, e, h1, h2, h3, h4⟩ => ⟨a, sa, fa, fv, e, t _ _ h1, h2.mono t, t _ _ h3, h4.mono t⟩
noncomputable def FrmOk (ss : List Srt) (mode : Int) (fr : Frm) : Prop := fr.own ∈ ss ∧ (∀ q ∈ fr.parts, q ∈ ss) ∧ fr.parts.length ≤ 3 ∧ RulesOk fr.own fr.parts mode fr.rules
structure BookOk (b : Bk) : Prop where
  so : SortsOk b.sorts
  wh : 2 ≤ b.wheel ∧ b.wheel ≤ 10 ^ 30
  few : b.forms.length ≤ 10
  more : b.sorts.length ≤ b.forms.length
  nd : (b.forms.map Frm.name).Nodup
  wd : ∀ fr ∈ b.forms, wordB fr.name = true
  fo : ∃ mode : Int, (mode = 0 ∨ mode = 1 ∨ mode = 2) ∧ ∀ fr ∈ b.forms, FrmOk b.sorts mode fr
  nil : ∃ fr, fr ∈ b.forms ∧ fr.parts = []
theorem SqL.keep {K : PySem.W.Frag} {H H' : Hp} {a : Addr} {xs : List V} (h : SqL K H a xs) (k : ∀ o, H a = some o → H' a = some o) : SqL K H' a xs := by
  rcases h with (h | ⟨o, h⟩) | h
  · exact .inl (.inl (k _ h))
  · exact .inl (.inr ⟨o, k _ h⟩)
  · exact .inr h
theorem sort_at {H : Hp} {ss : List Srt} {xs : List V} (h : RepSs H ss xs) {d : Int} (h0 : 0 ≤ d) (h1 : d < xs.length) : ∃ q a b c, ss[d.toNat]? = some q ∧ atI xs d = some (.ref a) ∧ H a = some (.tup [.str (Srt.name q), b, c]) := by
  obtain ⟨x, ex, ex2⟩ := atI_lt h0 h1
  obtain ⟨q, hq, a, b, c, rfl, ha, _⟩ := paired_get h ex2
  exact ⟨q, a, .ref b, .ref c, hq, ex, ha⟩
inductive spBook (K : PySem.W.Frag) (vs : List V) (H : Hp) (Q : VK) (E_ : XK) : Prop
  | mk : ∀ (sc : Addr) (ns : List Int) (st : Int) (few : Bool), (vs = [.ref sc, .int st, .bl few]) → (SqL K H sc (ns.map V.int)) → (ns.length ≤ 63) → (0 ≤ st) → (st < 900) → (∀ v bk H', RepB H' bk v → BookOk bk → Same H H' → Q v H') → spBook K vs H Q E_
noncomputable def forBody (s : Stmt) : List Stmt := match s with
  | .For _ _ b _ _ => b
  | _ => []
noncomputable def bkFor : List Stmt := forBody ((defBody sBook).getD 8 (.Pass ⟨0, 0, 0, 0⟩))
inductive BLoop (H : Hp) (sc hd sa nl fl : Addr) (st wh mode gr mo : Int) (few : Bool) (ss : List Srt) (ws : List Str) (i : Nat) (σ : St) (H' : Hp) : Prop
  | mk : ∀ o11 o12 o13 o14 o15 fv frs, (σ = [some (.ref sc), some (.int st), some (.bl few), some (.ref hd), some (.int wh), some (.int mode), some (.int gr), some (.int mo), some (.ref sa), some (.ref nl), some (.ref fl), o11, o12, o13, o14, o15]) → (Same H H') → (SrtsAt H' sa ss) → (H' nl = some (.lst (ws.map V.str))) → (H' fl = some (.lst fv)) → (RepFs H' frs fv) → (frs.length = i) → (frs.map Frm.name = ws.take i) → ((∀ fr ∈ frs, FrmOk ss mode fr)) → ((∀ k, k < i → k < ss.length → (frs[k]?).map Frm.own = ss[k]?)) → (∀ fr, frs[0]? = some fr → fr.parts = []) → BLoop H sc hd sa nl fl st wh mode gr mo few ss ws i σ H'
theorem snoc_get {α : Type} {l : List α} {x y : α} {j : Nat} (h : (l ++ [x])[j]? = some y) : (j < l.length ∧ l[j]? = some y) ∨ (j = l.length ∧ y = x) := by
  by_cases c : j < l.length
  · rw [List.getElem?_append_left c] at h
    exact .inl ⟨c, h⟩
  · rw [List.getElem?_append_right (by lia)] at h
    by_cases c2 : j - l.length = 0
    · rw [c2] at h
      exact .inr ⟨by lia, (Option.some.inj h).symm⟩
    · rw [List.getElem?_eq_none (by show 1 ≤ j - l.length; lia)] at h
      cases h
section
variable {P : Program} {w : World} {K : PySem.W.Frag} {mg : Str → Option Value} {base : Heap} {f g f2 f3 f4 f5 : Addr} {fd gd fd2 fd3 fd4 fd5 : FuncData}
noncomputable abbrev NBook : List Str := ["script", "start", "few", "head", "wheel", "mode", "grown", "more", "sorts", "names", "forms", "k", "tape", "own", "many", "parts"]
theorem scBook : FnScope NBook ["script", "start", "few"] (defScope sBook) := ⟨rfl, rfl, rfl, by decide +kernel, rfl, by decide +kernel, by decide +kernel⟩
theorem bk_tail2 {cdv : Value} {A : Around} {outer : List Env} {s : Shared} {H H0 : Hp} {E : XK} (G : Gb mg)
    (GD : FnOk P w K mg base CX0 1 g gd ["tape", "many"] spDigit) (bD : Binds K gd ["tape", "many"] []) (kD : PySem.W.keepIn K (.ref g) = true) (mD : mg "_law_digit" = some (.ref g))
    (GF : FnOk P w K mg base CX0 5 f2 fd2 ["tape", "sorts", "name", "own", "parts", "mode"] spLForm) (bF : Binds K fd2 ["tape", "sorts", "name", "own", "parts", "mode"] []) (kF : PySem.W.keepIn K (.ref f2) = true) (mF : mg "_law_form" = some (.ref f2))
    (hr : Room 5 (cxOf CX0 P w K mg base NBook "_law_book" (defScope sBook) f cdv A outer s H0 E).nox.A) :
    ∃ t, PSs (cxOf CX0 P w K mg base NBook "_law_book" (defScope sBook) f cdv A outer s H0 E).nox (bkFor.drop 5) t ∧
      ∀ (sc hd sa nl fl : Addr) (st wh mode gr mo : Int) (few : Bool) (ss : List Srt) (ws : List Str), SortsOk ss → ws.length = 10 → H fl = none → nl ≠ fl → ∀ (D : Ends) (i : Nat) (σ : St) (H2 H5 : Hp) (tp : Addr) (o : Srt) (m : Int) (o15 : Option V), BLoop H sc hd sa nl fl st wh mode gr mo few ss ws i σ H2 → i < 10 → H2 tp = none → Same H2 H5 → Tp H5 tp → o ∈ ss → (i < ss.length → ss[i]? = some o) → 0 ≤ m → m ≤ 3 → (i = 0 → m = 0) →
        (∀ σ' H', BLoop H sc hd sa nl fl st wh mode gr mo few ss ws (i + 1) σ' H' → D.nx σ' H') →
        t D [some (.ref sc), some (.int st), some (.bl few), some (.ref hd), some (.int wh), some (.int mode), some (.int gr), some (.int mo), some (.ref sa), some (.ref nl), some (.ref fl), some (.int (0 + (i : Int))), some (.ref tp), some (.str o.name), some (.int m), o15] H5 := by
  have hr1 := hr.mono (show 1 ≤ 5 by decide)
  refine ⟨_, pss_cons (ps_set (i := 15) scBook.nd rfl (Or.inl rfl) (pe_callTy (r := rTupOf K) call_tuple_of rfl G.tuple (by decide +kernel) (pa_cons
      (pe_comp (sc0 := defScope sBook) (N0 := NBook) (ys := ["sorts", "tape"]) (fr := [8, 12]) rfl (pi_range1 rfl G.range (pa_cons (pv 14) pa_nil)) rfl rfl
        ⟨rfl, by decide +kernel, by decide +kernel, by decide +kernel, by decide +kernel, by decide +kernel, rfl, by decide +kernel⟩
        (fun C s H ex => pe_ix (r := rIxT K) ix_tup (pe_ix (r := rIxT K) ix_tup (pv 1) (pe_call GD hr1 rfl mD kD bD .nil pass0 (pa_cons (pv 2) (pa_cons (pe_callB (r := rLen K) call_len_seq rfl G.len PySem.boot_len (pa_cons (pv 1) pa_nil)) pa_nil))) (fun _ _ => rfl)) pe_int (fun _ _ => rfl))) pa_nil)))
    (pss_one (ps_expr (pe_bm PySem.F.plainAttrs_list PySem.F.slot_list_append PySem.F.type_list_append mt_append (pv 10) (pa_cons
      (pe_call GF hr rfl mF kF bF .nil pass0 (pa_cons (pv 12) (pa_cons (pv 8) (pa_cons (pe_ix (r := rIxL K) ix_list (pv 9) (pv 11) (fun _ _ => rfl)) (pa_cons (pv 13) (pa_cons (pv 15) (pa_cons (pv 5) pa_nil))))))) pa_nil)))), ?_⟩
  rintro sc hd sa nl fl st wh mode gr mo few ss ws hok hws hfl0 hnf D i σ H2 H5 tp o m o15 ⟨o11, o12, o13, o14, o15', fv, frs, rfl, sm, hsa, gnl, gfl, hF, hfl, hnm, hfok, hown, hnil⟩ hi htp s5 tt5 ho hoi hm0 hm3 hmi hD
  obtain ⟨xs, gsa, hR⟩ := hsa.mono (tk_of s5)
  have lxs := hR.len
  refine ⟨_, rfl, m, rfl, by lia, by lia, ?_⟩
  refine comp_walk (n := m.toNat) (R := fun i v => v = .int (0 + i)) (by lia) itr_go itr_stop itr_yld
    (fun p n zs H' => Kp tp H5 H' ∧ Tp H' tp ∧ H' p = some (.lst zs) ∧ p ≠ tp ∧ ∃ qs, zs = partsV qs ∧ qs.length = n ∧ ∀ q ∈ qs, q ∈ ss) ?_ ?_ ?_ ?_
  · intro p hp
    exact ⟨Kp.refl.new hp, tt5.new hp, upd_same, tp_ne tt5 hp, [], rfl, rfl, fun q h => by cases h⟩
  · rintro p n zs H' ⟨_, _, gp, _, qs, rfl, hl, _⟩
    exact ⟨gp, by unfold partsV; rw [List.length_map]; exact hl⟩
  · rintro p n zs H' v k hp hn rfl ⟨k6, tt6, gp, hpn, qs, rfl, hl, hqs⟩ hk
    have tk6 := k6.tk tt5
    have h1 := hok.1
    refine ⟨_, rfl, _, rfl, _, rfl, sa, _, rfl, .inr (SqT.of (tk6 _ _ gsa)), tp, _, rfl, tt6, by lia, by have := hok.2.1; lia, fun d t hd0 hd1 => ?_⟩
    obtain ⟨q, a, b, c, hq, eat, ha⟩ := sort_at hR hd0 hd1
    have k7 : Kp tp H5 (upd H' tp (.lst [.int t])) := k6.trans Kp.tape
    have tk7 := k7.tk tt5
    refine ⟨sa, xs, d, .ref a, rfl, rfl, SqT.of (tk7 _ _ gsa), eat, a, _, 0, _, rfl, rfl, SqT.of (tk7 _ _ ha), atI0, ?_⟩
    have gp7 : (upd H' tp (.lst [.int t])) p = some (.lst (partsV qs)) := by rw [upd_ne hpn]; exact gp
    refine hk _ _ gp7 ⟨?_, ⟨t, ?_⟩, upd_same, hpn, qs ++ [q], ?_, ?_, ?_⟩
    · intro b' o' hb hbn
      rw [upd_ne (ne_of_none hb hp)]
      exact k7 _ _ hb hbn
    · rw [upd_ne (Ne.symm hpn), upd_same]
    · unfold partsV; rw [List.map_append]; rfl
    · rw [List.length_append, hl]; rfl
    · intro x hx
      rw [List.mem_append, List.mem_singleton] at hx
      rcases hx with h | rfl
      · exact hqs x h
      · exact List.mem_of_getElem? hq
  · rintro p zs H6 hp ⟨k6, tt6, gp, hpn, qs, rfl, hl, hqs⟩
    refine ⟨p, _, rfl, .inl ⟨SqL.of gp, fun pa hpa => ?_⟩⟩
    have s7 := same_new hpa (.tup (partsV qs))
    have g7 : (upd H6 pa (.tup (partsV qs))) pa = some (.tup (partsV qs)) := upd_same
    have tt7 := tt6.same s7
    generalize upd H6 pa (.tup (partsV qs)) = H7 at s7 g7 tt7 ⊢
    have k27 : Kp tp H2 H7 := ((Kp.refl.same s5).trans k6).same s7
    have S27 : Same H2 H7 := fun b oo h => k27 b oo h (ne_of_none h htp)
    have gfl7 := S27 _ _ gfl
    obtain ⟨nm, enm⟩ : ∃ nm, ws[i]? = some nm := ⟨ws[i]'(by lia), List.getElem?_eq_getElem (by lia)⟩
    have eat : atI (ws.map V.str) (0 + (i : Int)) = some (V.str nm) := by
      rw [Int.zero_add]
      exact atI_nat (by rw [List.getElem?_map, enm]; rfl)
    refine ⟨_, rfl, .inl ⟨rfl, _, SqL.of gfl7⟩, ?_⟩
    refine ⟨_, rfl, _, rfl, _, rfl, _, rfl, nl, _, _, _, rfl, rfl, SqL.of (S27 _ _ gnl), eat, _, rfl, _, rfl, _, rfl, tp, sa, pa, ss, nm, o, qs, mode, rfl, tt7, hsa.mono (tk_of S27), hok, ho, g7, hqs, by lia, fun v rules H8 rf rok k8 tt8 => ?_⟩
    have S28 : Same H2 H8 := fun b oo h => k8 b oo (S27 b oo h) (ne_of_none h htp)
    have gfl8 := S28 _ _ gfl
    have lfv := hF.len
    refine ⟨fl, fv, v, rfl, rfl, gfl8, small1000 (by lia), ?_⟩
    have tk : TK H8 (upd H8 fl (.lst (fv ++ [v]))) := TK.lst gfl8
    have tk2 : TK H2 (upd H8 fl (.lst (fv ++ [v]))) := (tk_of S28).trans tk
    refine hD _ _ ⟨_, _, _, _, _, fv ++ [v], frs ++ [⟨nm, o, qs, rules⟩], rfl, ?_, hsa.mono tk2, ?_, upd_same, ?_, ?_, ?_, ?_, ?_, ?_⟩
    · intro b oo h
      rw [upd_ne (ne_of_none h hfl0)]
      exact S28 _ _ (sm _ _ h)
    · rw [upd_ne hnf]
      exact S28 _ _ gnl
    · exact Paired.snoc (hF.mono tk2) (rf.mono tk)
    · rw [List.length_append, hfl]; rfl
    · rw [List.map_append, hnm, List.take_add_one, enm]; rfl
    · intro fr hfr
      rw [List.mem_append, List.mem_singleton] at hfr
      rcases hfr with h | rfl
      · exact hfok fr h
      · exact ⟨ho, hqs, by show qs.length ≤ 3; lia, rok⟩
    · intro k hk hks
      by_cases c : k < i
      · rw [List.getElem?_append_left (by lia)]
        exact hown k c hks
      · have : k = i := by lia
        subst this
        rw [List.getElem?_append_right (by lia), hfl, Nat.sub_self]
        show some o = _
        rw [hoi hks]
    · intro fr hfr
      rcases snoc_get hfr with ⟨h, e⟩ | ⟨h, e⟩
      · exact hnil fr e
      · subst e
        have : qs.length = 0 := by rw [hl, hmi (by lia)]; rfl
        exact List.eq_nil_of_length_eq_zero this
end
end My
namespace My
open PySem L2
theorem many_at {d : Int} (h0 : 0 ≤ d) (h1 : d < 5) : ∃ m : Int, atI [V.int 2, .int 1, .int 3, .int 2, .int 0] d = some (.int m) ∧ 0 ≤ m ∧ m ≤ 3 := by
  have h5 : d = 0 ∨ d = 1 ∨ d = 2 ∨ d = 3 ∨ d = 4 := by lia
  rcases h5 with h | h | h | h | h <;> subst h <;> exact ⟨_, rfl, by decide, by decide⟩
theorem mode_at {d : Int} (h0 : 0 ≤ d) (h1 : d < 5) : ∃ m : Int, atI [V.int 0, .int 0, .int 1, .int 2, .int 2] d = some (.int m) ∧ (m = 0 ∨ m = 1 ∨ m = 2) := by
  have h5 : d = 0 ∨ d = 1 ∨ d = 2 ∨ d = 3 ∨ d = 4 := by lia
  rcases h5 with h | h | h | h | h <;> subst h <;> exact ⟨_, rfl, by decide⟩
theorem more_at {d : Int} (h0 : 0 ≤ d) (h1 : d < 3) : ∃ m : Int, atI [V.int 3, .int 4, .int 7] d = some (.int m) ∧ 3 ≤ m ∧ m ≤ 7 := by
  have h5 : d = 0 ∨ d = 1 ∨ d = 2 := by lia
  rcases h5 with h | h | h <;> subst h <;> exact ⟨_, rfl, by decide, by decide⟩
theorem wheel_at {z d : Int} (hz0 : 0 ≤ z) (hz1 : z < 1000) (h0 : 0 ≤ d) (h1 : d < 6) : ∃ m : Int, atI [V.int 2, .int 7, .int 10, .int 97, .int (10 ^ (30 : Int).toNat), .int (2 + z)] d = some (.int m) ∧ 2 ≤ m ∧ m ≤ 10 ^ 30 := by
  have e : (10 : Int) ^ (30 : Int).toNat = 10 ^ 30 := rfl
  have b : (2000 : Int) ≤ 10 ^ 30 := by decide +kernel
  have h5 : d = 0 ∨ d = 1 ∨ d = 2 ∨ d = 3 ∨ d = 4 ∨ d = 5 := by lia
  rcases h5 with h | h | h | h | h | h <;> subst h
  · exact ⟨2, rfl, by lia, by lia⟩
  · exact ⟨7, rfl, by lia, by lia⟩
  · exact ⟨10, rfl, by lia, by lia⟩
  · exact ⟨97, rfl, by lia, by lia⟩
  · exact ⟨_, rfl, by rw [e]; lia, by rw [e]; lia⟩
  · exact ⟨_, rfl, by lia, by lia⟩
section
variable {P : Program} {w : World} {K : PySem.W.Frag} {mg : Str → Option Value} {base : Heap} {f g f2 f3 f4 f5 : Addr} {fd gd fd2 fd3 fd4 fd5 : FuncData}
theorem bk_tail1 {cdv : Value} {A : Around} {outer : List Env} {s : Shared} {H H0 : Hp} {E : XK} (G : Gb mg)
    (GD : FnOk P w K mg base CX0 1 g gd ["tape", "many"] spDigit) (bD : Binds K gd ["tape", "many"] []) (kD : PySem.W.keepIn K (.ref g) = true) (mD : mg "_law_digit" = some (.ref g))
    (GF : FnOk P w K mg base CX0 5 f2 fd2 ["tape", "sorts", "name", "own", "parts", "mode"] spLForm) (bF : Binds K fd2 ["tape", "sorts", "name", "own", "parts", "mode"] []) (kF : PySem.W.keepIn K (.ref f2) = true) (mF : mg "_law_form" = some (.ref f2))
    (hr : Room 5 (cxOf CX0 P w K mg base NBook "_law_book" (defScope sBook) f cdv A outer s H0 E).nox.A) :
    ∃ t, PSs (cxOf CX0 P w K mg base NBook "_law_book" (defScope sBook) f cdv A outer s H0 E).nox (bkFor.drop 3) t ∧
      ∀ (sc hd sa nl fl : Addr) (st wh mode gr mo : Int) (few : Bool) (ss : List Srt) (ws : List Str), SortsOk ss → ws.length = 10 → H fl = none → nl ≠ fl → ∀ (D : Ends) (i : Nat) (σ : St) (H2 H5 : Hp) (tp : Addr) (o : Srt) (o14 o15 : Option V), BLoop H sc hd sa nl fl st wh mode gr mo few ss ws i σ H2 → i < 10 → H2 tp = none → Same H2 H5 → Tp H5 tp → o ∈ ss → (i < ss.length → ss[i]? = some o) →
        (∀ σ' H', BLoop H sc hd sa nl fl st wh mode gr mo few ss ws (i + 1) σ' H' → D.nx σ' H') →
        t D [some (.ref sc), some (.int st), some (.bl few), some (.ref hd), some (.int wh), some (.int mode), some (.int gr), some (.int mo), some (.ref sa), some (.ref nl), some (.ref fl), some (.int (0 + (i : Int))), some (.ref tp), some (.str o.name), o14, o15] H5 := by
  have hr1 := hr.mono (show 1 ≤ 5 by decide)
  obtain ⟨t2, ht2, hread2⟩ := bk_tail2 (cdv := cdv) (A := A) (outer := outer) (s := s) (H := H) (H0 := H0) (E := E) (f := f) G GD bD kD mD GF bF kF mF hr
  refine ⟨_, pss_cons (ps_set (i := 14) scBook.nd rfl (Or.inl rfl) (pe_ix (r := rIxL K) ix_list (pe_lst (pa_cons pe_int (pa_cons pe_int (pa_cons pe_int (pa_cons pe_int (pa_cons pe_int pa_nil)))))) (pe_call GD hr1 rfl mD kD bD .nil pass0 (pa_cons (pv 12) (pa_cons pe_int pa_nil))) (fun _ _ => rfl)))
    (pss_cons (ps_if (PW.pt (pw_or (pt_cmpR op_eq (pv 11) pe_int (nomark _)) (pw_or1 (PW.pt (pw_and (pt_cmpR op_eq (pv 6) pe_int (nomark _)) (pw_and1 (pt_cmpR op_lt (pv 11) (pe_callB (r := rLen K) call_len_seq rfl G.len PySem.boot_len (pa_cons (pv 8) pa_nil)) (nomark _))))))))
      (pss_one (ps_set (i := 14) scBook.nd rfl (Or.inl rfl) pe_int)) pss_nil) ht2), ?_⟩
  intro sc hd sa nl fl st wh mode gr mo few ss ws hok hws hfl0 hnf D i σ H2 H5 tp o o14 o15 hB hi htp s5 tt5 ho hoi hD
  obtain ⟨xs, gsa, hR⟩ : SrtsAt H5 sa ss := by
    obtain ⟨_, _, _, _, _, _, _, _, _, h, _⟩ := hB
    exact h.mono (tk_of s5)
  refine ⟨(by show 5 ≤ sizeLine; decide), fun p hp => ?_⟩
  have npt := tp_ne tt5 hp
  refine ⟨_, rfl, tp, 5, rfl, tt5.new hp, by decide, by decide, fun d t hd0 hd1 => ?_⟩
  obtain ⟨m, em, hm0, hm3⟩ := many_at hd0 hd1
  refine ⟨p, _, d, .int m, rfl, rfl, SqL.of (by rw [upd_ne npt]; exact upd_same), em, ?_⟩
  have k6 : Kp tp H5 (upd (upd H5 p (.lst [.int 2, .int 1, .int 3, .int 2, .int 0])) tp (.lst [.int t])) := (Kp.refl.new hp).trans Kp.tape
  have tt6 : Tp (upd (upd H5 p (.lst [.int 2, .int 1, .int 3, .int 2, .int 0])) tp (.lst [.int t])) tp := ⟨t, upd_same⟩
  generalize upd (upd H5 p (.lst [.int 2, .int 1, .int 3, .int 2, .int 0])) tp (.lst [.int t]) = H6 at k6 tt6 ⊢
  have s6 : Same H2 H6 := fun b oo h => k6 b oo (s5 b oo h) (ne_of_none h htp)
  have gsa6 := k6.tk tt5 _ _ gsa
  refine ⟨_, rfl, rfl, _, rfl, ?_⟩
  refine ite2 (fun c => iteT ?_) (fun c => ?_)
  · exact hread2 sc hd sa nl fl st wh mode gr mo few ss ws hok hws hfl0 hnf D i σ H2 H6 tp o 0 o15 hB hi htp s6 tt6 ho hoi (by decide) (by decide) (fun _ => rfl) hD
  have hne : i = 0 → m = 0 := fun e => by
    subst e
    exact absurd (decide_eq_true rfl) c
  refine ⟨_, rfl, rfl, _, rfl, ?_⟩
  refine ite2 (fun c2 => ?_) (fun c2 => iteF ?_)
  · refine ⟨_, rfl, _, rfl, sa, xs, rfl, .inr (SqT.of gsa6), _, _, rfl, rfl, _, rfl, ?_⟩
    refine ite2 (fun c3 => ?_) (fun c3 => ?_)
    · exact hread2 sc hd sa nl fl st wh mode gr mo few ss ws hok hws hfl0 hnf D i σ H2 H6 tp o 0 o15 hB hi htp s6 tt6 ho hoi (by decide) (by decide) (fun _ => rfl) hD
    · exact hread2 sc hd sa nl fl st wh mode gr mo few ss ws hok hws hfl0 hnf D i σ H2 H6 tp o m o15 hB hi htp s6 tt6 ho hoi hm0 hm3 hne hD
  · exact hread2 sc hd sa nl fl st wh mode gr mo few ss ws hok hws hfl0 hnf D i σ H2 H6 tp o m o15 hB hi htp s6 tt6 ho hoi hm0 hm3 hne hD
end
end My
namespace My
open PySem L2
section
variable {P : Program} {w : World} {K : PySem.W.Frag} {mg : Str → Option Value} {base : Heap} {f g f2 f3 f4 f5 : Addr} {fd gd fd2 fd3 fd4 fd5 : FuncData}
theorem bk_loop {cdv : Value} {A : Around} {outer : List Env} {s : Shared} {H : Hp} {Q : VK} {E : XK} {sc : Addr} {ns : List Int} {st : Int} {few : Bool} (G : Gb mg)
    (GD : FnOk P w K mg base CX0 1 g gd ["tape", "many"] spDigit) (bD : Binds K gd ["tape", "many"] []) (kD : PySem.W.keepIn K (.ref g) = true) (mD : mg "_law_digit" = some (.ref g))
    (GF : FnOk P w K mg base CX0 5 f2 fd2 ["tape", "sorts", "name", "own", "parts", "mode"] spLForm) (bF : Binds K fd2 ["tape", "sorts", "name", "own", "parts", "mode"] []) (kF : PySem.W.keepIn K (.ref f2) = true) (mF : mg "_law_form" = some (.ref f2))
    (GT : FnOk P w K mg base CX0 2 f3 fd3 ["script", "k"] (spTape K)) (bT : Binds K fd3 ["script", "k"] []) (kT : PySem.W.keepIn K (.ref f3) = true) (mT : mg "_law_tape" = some (.ref f3))
    (hS : SqL K H sc (ns.map V.int)) (hns : ns.length ≤ 63) (hst0 : 0 ≤ st) (hst1 : st < 900) (q : ∀ v bk H', RepB H' bk v → BookOk bk → Same H H' → Q v H')
    (hr : Room 5 (cxOf CX0 P w K mg base NBook "_law_book" (defScope sBook) f cdv A outer s H E).nox.A) :
    ∃ t, PSs (cxOf CX0 P w K mg base NBook "_law_book" (defScope sBook) f cdv A outer s H E).nox ((defBody sBook).drop 8) t ∧
      ∀ (hd sa nl fl : Addr) (wh mode gr mo : Int) (ss : List Srt) (ws : List Str) (H5 : Hp), SortsOk ss → NamesAre 10 ws → 2 ≤ wh → wh ≤ 10 ^ 30 → (mode = 0 ∨ mode = 1 ∨ mode = 2) → 0 ≤ mo → mo ≤ 7 → H fl = none → nl ≠ fl → H fl = none →
        Same H H5 → SrtsAt H5 sa ss → H5 nl = some (.lst (ws.map V.str)) → H5 fl = some (.lst []) →
        t { nx := fun _ H' => Q .non H', rt := Q } [some (.ref sc), some (.int st), some (.bl few), some (.ref hd), some (.int wh), some (.int mode), some (.int gr), some (.int mo), some (.ref sa), some (.ref nl), some (.ref fl), none, none, none, none, none] H5 := by
  have hr1 := hr.mono (show 1 ≤ 5 by decide)
  have hr2 := hr.mono (show 2 ≤ 5 by decide)
  obtain ⟨t1, ht1, hread1⟩ := bk_tail1 (cdv := cdv) (A := A) (outer := outer) (s := s) (H := H) (H0 := H) (E := E) (f := f) G GD bD kD mD GF bF kF mF hr
  refine ⟨_, pss_cons (ps_for PassesOwn.never rfl (pi_range1 rfl G.range (pa_cons (pe_callB (call_min2 rfl) rfl G.min (by decide +kernel) (pa_cons pe_int (pa_cons (pe_op op_add (pe_callB (r := rLen K) call_len_seq rfl G.len PySem.boot_len (pa_cons (pv 8) pa_nil)) (pv 7)) pa_nil))) pa_nil)) (pg_name (i := 11) scBook.nd rfl (Or.inl rfl))
      (pss_cons (ps_set (i := 12) scBook.nd rfl (Or.inr rfl) (pe_call GT hr2 rfl mT kT bT .nil pass0 (pa_cons (pv 0) (pa_cons (pe_op op_add (pe_op op_add (pv 1) pe_int) (pv 11)) pa_nil))))
      (pss_cons (ps_set (i := 13) scBook.nd rfl (Or.inl rfl) (pe_ix (r := rIxT K) ix_tup (pe_ix (r := rIxT K) ix_tup (pv 8) (pe_op op_mod (pv 11) (pe_callB (r := rLen K) call_len_seq rfl G.len PySem.boot_len (pa_cons (pv 8) pa_nil))) (fun _ _ => rfl)) pe_int (fun _ _ => rfl)))
      (pss_cons (ps_if (pt_cmpR op_ge (pv 11) (pe_callB (r := rLen K) call_len_seq rfl G.len PySem.boot_len (pa_cons (pv 8) pa_nil)) (nomark _))
        (pss_one (ps_set (i := 13) scBook.nd rfl (Or.inl rfl) (pe_ix (r := rIxT K) ix_tup (pe_ix (r := rIxT K) ix_tup (pv 8) (pe_call GD hr1 rfl mD kD bD .nil pass0 (pa_cons (pv 12) (pa_cons (pe_callB (r := rLen K) call_len_seq rfl G.len PySem.boot_len (pa_cons (pv 8) pa_nil)) pa_nil))) (fun _ _ => rfl)) pe_int (fun _ _ => rfl)))) pss_nil) ht1))))
    (pss_one (ps_ret (pe_tup (pa_cons (pv 4) (pa_cons (pv 8) (pa_cons (pe_callTy (r := rTupOf K) call_tuple_of rfl G.tuple (by decide +kernel) (pa_cons (pv 10) pa_nil)) pa_nil)))))), ?_⟩
  intro hd sa nl fl wh mode gr mo ss ws H5 hok hN hw2 hw3 hmode hmo0 hmo7 hfl0 hnf _ S5 hsa gnl gfl
  obtain ⟨nLen, nNd, nWd⟩ := hN.ok (by decide)
  obtain ⟨xs, gsa, hR⟩ := hsa
  have lxs := hR.len
  have l1 := hok.1
  have l4 := hok.2.1
  obtain ⟨n, en, hn1, hn2⟩ : ∃ n : Int, (if (xs.length : Int) + mo < 10 then (xs.length : Int) + mo else 10) = n ∧ (xs.length : Int) ≤ n ∧ n ≤ 10 := ⟨_, rfl, by split <;> lia, by split <;> lia⟩
  refine ⟨_, rfl, sa, xs, rfl, .inr (SqT.of gsa), _, rfl, _, _, rfl, rfl, _, _, rfl, ?_⟩
  rw [en]
  refine ⟨n, rfl, by lia, by lia, ?_⟩
  refine for_range (fun i σ H' => BLoop H sc hd sa nl fl st wh mode gr mo few ss ws i σ H')
    ⟨none, none, none, none, none, [], [], rfl, S5, ⟨xs, gsa, hR⟩, gnl, gfl, .nil, rfl, rfl, fun _ h => (by cases h), fun k h => (by lia), fun fr h => (by cases h)⟩ ?_ ?_
  · intro i σ H6 hi hB
    have hB' := hB
    obtain ⟨o11, o12, o13, o14, o15, fv, frs, rfl, S6, hsa6, gnl6, gfl6, hF6, _⟩ := hB'
    obtain ⟨xs6, gsa6, hR6⟩ := hsa6
    have lx6 := hR6.len
    refine ⟨_, rfl, _, rfl, _, _, rfl, rfl, _, rfl, _, _, rfl, rfl, sc, ns, _, rfl, SqL.keep hS (fun oo h => S6 _ _ h), hns, by lia, by lia, fun tp t0 htp => ?_⟩
    have s7 := same_new htp (.lst [.int t0])
    have tt7 : Tp (upd H6 tp (.lst [.int t0])) tp := ⟨t0, upd_same⟩
    generalize upd H6 tp (.lst [.int t0]) = H7 at s7 tt7 ⊢
    have gsa7 := s7 _ _ gsa6
    have hR7 := hR6.mono (tk_of s7)
    have hm0 : 0 ≤ (0 + (i : Int)) % (xs6.length : Int) := Int.emod_nonneg _ (by lia)
    have hm1 : (0 + (i : Int)) % (xs6.length : Int) < xs6.length := Int.emod_lt_of_pos _ (by lia)
    obtain ⟨o, a, b, c, ho, eat, ha⟩ := sort_at hR7 hm0 hm1
    refine ⟨_, rfl, _, rfl, _, rfl, sa, xs6, rfl, .inr (SqT.of gsa7), _, _, rfl, rfl, (by show (0 : Int) < xs6.length; lia), sa, xs6, _, .ref a, rfl, rfl, SqT.of gsa7, eat, a, _, 0, _, rfl, rfl, SqT.of ha, atI0, ?_⟩
    refine ⟨_, rfl, _, rfl, sa, xs6, rfl, .inr (SqT.of gsa7), _, _, rfl, rfl, _, rfl, ?_⟩
    refine ite2 (fun c => ?_) (fun c => ?_)
    · have c' : (xs6.length : Int) ≤ 0 + (i : Int) := of_decide_eq_true c
      refine ⟨_, rfl, _, rfl, _, rfl, sa, xs6, rfl, .inr (SqT.of gsa7), tp, _, rfl, tt7, by lia, by lia, fun d t1 hd0 hd1 => ?_⟩
      have k8 : Kp tp H7 (upd H7 tp (.lst [.int t1])) := Kp.tape
      have tt8 : Tp (upd H7 tp (.lst [.int t1])) tp := ⟨t1, upd_same⟩
      generalize upd H7 tp (.lst [.int t1]) = H8 at k8 tt8 ⊢
      have tk8 := k8.tk tt7
      obtain ⟨o2, a2, b2, c2, ho2, eat2, ha2⟩ := sort_at hR7 hd0 hd1
      refine ⟨sa, xs6, d, .ref a2, rfl, rfl, SqT.of (tk8 _ _ gsa7), eat2, a2, _, 0, _, rfl, rfl, SqT.of (tk8 _ _ ha2), atI0, ?_⟩
      exact hread1 sc hd sa nl fl st wh mode gr mo few ss ws hok nLen hfl0 hnf _ i _ H6 H8 tp o2 _ _ hB (by lia) htp (fun y oo h => k8 y oo (s7 y oo h) (ne_of_none h htp)) tt8 (List.mem_of_getElem? ho2) (fun h => by lia) (fun σ' H' h => h)
    · have c' : ¬ (xs6.length : Int) ≤ 0 + (i : Int) := fun e => c (decide_eq_true e)
      have ei : ((0 + (i : Int)) % (xs6.length : Int)).toNat = i := by
        rw [Int.emod_eq_of_lt (by lia) (by lia)]
        lia
      rw [ei] at ho
      exact hread1 sc hd sa nl fl st wh mode gr mo few ss ws hok nLen hfl0 hnf _ i _ H6 H7 tp o _ _ hB (by lia) htp s7 tt7 (List.mem_of_getElem? ho) (fun _ => ho) (fun σ' H' h => h)
  · rintro σ H6 ⟨o11, o12, o13, o14, o15, fv, frs, rfl, S6, hsa6, gnl6, gfl6, hF6, lfr, hnm, hfok, hown, hnil⟩
    refine ⟨_, rfl, _, rfl, _, rfl, fl, fv, rfl, .inl ⟨SqL.of gfl6, fun fa hfa => ?_⟩⟩
    have s7 := same_new hfa (.tup fv)
    have g7 : (upd H6 fa (.tup fv)) fa = some (.tup fv) := upd_same
    generalize upd H6 fa (.tup fv) = H7 at s7 g7 ⊢
    refine ⟨(by show 3 ≤ sizeLine; decide), fun pb hpb => ?_⟩
    have s8 := same_new hpb (.tup [.int wh, .ref sa, .ref fa])
    have tk68 := tk_of (s7.trans s8)
    refine q (.ref pb) ⟨wh, ss, frs⟩ _ ⟨pb, sa, fa, fv, rfl, upd_same, hsa6.mono tk68, s8 _ _ g7, hF6.mono tk68⟩ ?_ (S6.trans (s7.trans s8))
    refine ⟨hok, ⟨hw2, hw3⟩, ?_, ?_, ?_, ?_, ⟨mode, hmode, hfok⟩, ?_⟩
    · show frs.length ≤ 10
      lia
    · show ss.length ≤ frs.length
      lia
    · show (frs.map Frm.name).Nodup
      rw [hnm]
      exact nNd.sublist (List.take_sublist _ _)
    · intro fr hfr
      refine nWd _ (List.mem_of_mem_take (i := n.toNat) ?_)
      rw [← hnm]
      exact List.mem_map_of_mem hfr
    · have l0 : 0 < frs.length := by have := hok.1; lia
      exact ⟨frs[0], List.getElem_mem l0, hnil _ (List.getElem?_eq_getElem l0)⟩
end
end My
namespace My
open PySem L2
section
variable {P : Program} {w : World} {K : PySem.W.Frag} {mg : Str → Option Value} {base : Heap} {f g f2 f3 f4 f5 : Addr} {fd gd fd2 fd3 fd4 fd5 : FuncData}
theorem ok_book (F : Fun K "_law_book" "_law_book" sBook f fd) (G : Gb mg)
    (GD : FnOk P w K mg base CX0 1 g gd ["tape", "many"] spDigit) (bD : Binds K gd ["tape", "many"] []) (kD : PySem.W.keepIn K (.ref g) = true) (mD : mg "_law_digit" = some (.ref g))
    (GF : FnOk P w K mg base CX0 5 f2 fd2 ["tape", "sorts", "name", "own", "parts", "mode"] spLForm) (bF : Binds K fd2 ["tape", "sorts", "name", "own", "parts", "mode"] []) (kF : PySem.W.keepIn K (.ref f2) = true) (mF : mg "_law_form" = some (.ref f2))
    (GT : FnOk P w K mg base CX0 2 f3 fd3 ["script", "k"] (spTape K)) (bT : Binds K fd3 ["script", "k"] []) (kT : PySem.W.keepIn K (.ref f3) = true) (mT : mg "_law_tape" = some (.ref f3))
    (GS : FnOk P w K mg base CX0 3 f4 fd4 ["tape", "few"] spSorts) (bS : Binds K fd4 ["tape", "few"] []) (kS : PySem.W.keepIn K (.ref f4) = true) (mS : mg "_law_sorts" = some (.ref f4))
    (GN : FnOk P w K mg base CX0 2 f5 fd5 ["tape", "many"] spNamesX) (bN : Binds K fd5 ["tape", "many"] []) (kN : PySem.W.keepIn K (.ref f5) = true) (mN : mg "_law_names" = some (.ref f5)) :
    FnOk P w K mg base CX0 6 f fd ["script", "start", "few"] (spBook K) := by
  refine F.ok scBook (fun vs H Q E h => ?_) (fun cdv A outer s H vs Q E hr h => ?_)
  · obtain ⟨sc, ns, st, few, rfl, _⟩ := h
    rfl
  obtain ⟨sc, ns, st, few, rfl, hS, hns, hst0, hst1, q⟩ := h
  have hr1 := hr.mono (show 1 ≤ 5 by decide)
  have hr2 := hr.mono (show 2 ≤ 5 by decide)
  have hr3 := hr.mono (show 3 ≤ 5 by decide)
  obtain ⟨t, ht, hread⟩ := bk_loop (cdv := cdv) (A := A) (outer := outer) (s := s) (H := H) (Q := Q) (E := E) (f := f) (few := few) G GD bD kD mD GF bF kF mF GT bT kT mT hS hns hst0 hst1 q hr
  refine ⟨_, pss_cons (ps_set (i := 3) scBook.nd rfl (Or.inl rfl) (pe_call GT hr2 rfl mT kT bT .nil pass0 (pac (pv 0) (pac (pv 1) pa_nil))))
    (pss_cons (ps_set (i := 4) scBook.nd rfl (Or.inl rfl) (pe_ix (r := rIxL K) ix_list (pe_lst (pac pe_int (pac pe_int (pac pe_int (pac pe_int (pac (pe_op op_pow pe_int pe_int) (pac (pe_op op_add pe_int (pe_call GD hr1 rfl mD kD bD .nil pass0 (pac (pv 3) (pac pe_int pa_nil)))) pa_nil)))))))
      (pe_call GD hr1 rfl mD kD bD .nil pass0 (pac (pv 3) (pac pe_int pa_nil))) (fun _ _ => rfl)))
    (pss_cons (ps_set (i := 5) scBook.nd rfl (Or.inl rfl) (pe_ix (r := rIxL K) ix_list (pe_lst (pac pe_int (pac pe_int (pac pe_int (pac pe_int (pac pe_int pa_nil)))))) (pe_call GD hr1 rfl mD kD bD .nil pass0 (pac (pv 3) (pac pe_int pa_nil))) (fun _ _ => rfl)))
    (pss_cons (ps_set (i := 6) scBook.nd rfl (Or.inl rfl) (pe_call GD hr1 rfl mD kD bD .nil pass0 (pac (pv 3) (pac pe_int pa_nil))))
    (pss_cons (ps_set (i := 7) scBook.nd rfl (Or.inl rfl) (pe_call GD hr1 rfl mD kD bD .nil pass0 (pac (pv 3) (pac (pe_ix (r := rIxL K) ix_list (pe_lst (pac pe_int (pac pe_int (pac pe_int pa_nil)))) (pe_call GD hr1 rfl mD kD bD .nil pass0 (pac (pv 3) (pac pe_int pa_nil))) (fun _ _ => rfl)) pa_nil))))
    (pss_cons (ps_set (i := 8) scBook.nd rfl (Or.inr rfl) (pe_call GS hr3 rfl mS kS bS .nil pass0 (pac (pv 3) (pac (pv 2) pa_nil))))
    (pss_cons (ps_set (i := 9) scBook.nd rfl (Or.inl rfl) (pe_call GN hr2 rfl mN kN bN .nil pass0 (pac (pv 3) (pac pe_int pa_nil))))
    (pss_cons (ps_set (i := 10) scBook.nd rfl (Or.inl rfl) (pe_lst pa_nil)) ht))))))), ?_⟩
  refine ⟨_, rfl, _, rfl, sc, ns, st, rfl, hS, hns, hst0, by lia, fun hd t0 hhd => ?_⟩
  have S1 := same_new hhd (.lst [.int t0])
  have tt1 : Tp (upd H hd (.lst [.int t0])) hd := ⟨t0, upd_same⟩
  generalize upd H hd (.lst [.int t0]) = H1 at S1 tt1 ⊢
  refine ⟨10, 30, rfl, rfl, ⟨by decide, by decide, by decide +kernel⟩, ?_⟩
  refine ⟨_, rfl, hd, 1000, rfl, tt1, by decide, by decide, fun z t1 hz0 hz1 => ⟨2, z, rfl, rfl, ?_⟩⟩
  have k2 : Kp hd H1 (upd H1 hd (.lst [.int t1])) := Kp.tape
  have tt2 : Tp (upd H1 hd (.lst [.int t1])) hd := ⟨t1, upd_same⟩
  generalize upd H1 hd (.lst [.int t1]) = H2 at k2 tt2 ⊢
  refine ⟨(by show 6 ≤ sizeLine; decide), fun p hp => ?_⟩
  have np := tp_ne tt2 hp
  refine ⟨_, rfl, hd, 6, rfl, tt2.new hp, by decide, by decide, fun d t2 hd0 hd1 => ?_⟩
  obtain ⟨wh, ewh, hw2, hw3⟩ := wheel_at hz0 hz1 hd0 hd1
  refine ⟨p, _, d, .int wh, rfl, rfl, SqL.of (by rw [upd_ne np]; exact upd_same), ewh, ?_⟩
  have k3 : Kp hd H1 (upd (upd H2 p (.lst [.int 2, .int 7, .int 10, .int 97, .int (10 ^ (30 : Int).toNat), .int (2 + z)])) hd (.lst [.int t2])) := (k2.new hp).trans Kp.tape
  have tt3 : Tp (upd (upd H2 p (.lst [.int 2, .int 7, .int 10, .int 97, .int (10 ^ (30 : Int).toNat), .int (2 + z)])) hd (.lst [.int t2])) hd := ⟨t2, upd_same⟩
  generalize upd (upd H2 p (.lst [.int 2, .int 7, .int 10, .int 97, .int (10 ^ (30 : Int).toNat), .int (2 + z)])) hd (.lst [.int t2]) = H3 at k3 tt3 ⊢
  refine ⟨(by show 5 ≤ sizeLine; decide), fun p hp => ?_⟩
  have np := tp_ne tt3 hp
  refine ⟨_, rfl, hd, 5, rfl, tt3.new hp, by decide, by decide, fun d t2 hd0 hd1 => ?_⟩
  obtain ⟨mode, emo, hmode⟩ := mode_at hd0 hd1
  refine ⟨p, _, d, .int mode, rfl, rfl, SqL.of (by rw [upd_ne np]; exact upd_same), emo, ?_⟩
  have k4 : Kp hd H1 (upd (upd H3 p (.lst [.int 0, .int 0, .int 1, .int 2, .int 2])) hd (.lst [.int t2])) := (k3.new hp).trans Kp.tape
  have tt4 : Tp (upd (upd H3 p (.lst [.int 0, .int 0, .int 1, .int 2, .int 2])) hd (.lst [.int t2])) hd := ⟨t2, upd_same⟩
  generalize upd (upd H3 p (.lst [.int 0, .int 0, .int 1, .int 2, .int 2])) hd (.lst [.int t2]) = H4 at k4 tt4 ⊢
  refine ⟨_, rfl, hd, 2, rfl, tt4, by decide, by decide, fun gr t3 _ _ => ?_⟩
  have k5 : Kp hd H1 (upd H4 hd (.lst [.int t3])) := k4.trans Kp.tape
  have tt5 : Tp (upd H4 hd (.lst [.int t3])) hd := ⟨t3, upd_same⟩
  generalize upd H4 hd (.lst [.int t3]) = H5 at k5 tt5 ⊢
  refine ⟨_, rfl, (by show 3 ≤ sizeLine; decide), fun p hp => ?_⟩
  have np := tp_ne tt5 hp
  refine ⟨_, rfl, hd, 3, rfl, tt5.new hp, by decide, by decide, fun d t4 hd0 hd1 => ?_⟩
  obtain ⟨mm, emm, hmm3, hmm7⟩ := more_at hd0 hd1
  refine ⟨p, _, d, .int mm, rfl, rfl, SqL.of (by rw [upd_ne np]; exact upd_same), emm, ?_⟩
  have k6 : Kp hd H1 (upd (upd H5 p (.lst [.int 3, .int 4, .int 7])) hd (.lst [.int t4])) := (k5.new hp).trans Kp.tape
  have tt6 : Tp (upd (upd H5 p (.lst [.int 3, .int 4, .int 7])) hd (.lst [.int t4])) hd := ⟨t4, upd_same⟩
  generalize upd (upd H5 p (.lst [.int 3, .int 4, .int 7])) hd (.lst [.int t4]) = H6 at k6 tt6 ⊢
  refine ⟨hd, mm, rfl, tt6, by lia, by lia, fun mo t5 hmo0 hmo1 => ?_⟩
  have k7 : Kp hd H1 (upd H6 hd (.lst [.int t5])) := k6.trans Kp.tape
  have tt7 : Tp (upd H6 hd (.lst [.int t5])) hd := ⟨t5, upd_same⟩
  generalize upd H6 hd (.lst [.int t5]) = H7 at k7 tt7 ⊢
  refine ⟨_, rfl, _, rfl, hd, few, rfl, tt7, fun sa ss xs H8 gsa hR hok k8 tt8 => ?_⟩
  refine ⟨_, rfl, hd, 10, rfl, tt8, by decide, by decide, fun nl ws H9 gnl hnl hN hnh k9 tt9 => ?_⟩
  refine ⟨(by show 0 ≤ sizeLine; decide), fun fl hfl => ?_⟩
  have k19 : Kp hd H1 H9 := k7.trans (k8.trans k9)
  have S9 : Same H H9 := fun b oo h => k19 b oo (S1 b oo h) (ne_of_none h hhd)
  have s10 := same_new hfl (.lst [])
  exact hread hd sa nl fl wh mode gr mo ss ws _ hok hN hw2 hw3 hmode hmo0 (by lia) (S9.free hfl) (ne_of_none gnl hfl) (S9.free hfl) (S9.trans s10) (SrtsAt.mono (tk_of s10) (SrtsAt.mono (k9.tk tt8) ⟨xs, gsa, hR⟩)) (s10 _ _ gnl) upd_same
end
end My
namespace My
open PySem L2
section
variable {P : Program} {w : World} {K : PySem.W.Frag} {mg : Str → Option Value} {base : Heap} {f g f2 f3 : Addr} {fd gd fd2 fd3 : FuncData}
end
end My
namespace My
open PySem L2
theorem paired_get' {α β : Type} {F : α → β → Prop} : ∀ {l : List α} {r : List β} {i : Nat} {a : α}, Paired F l r → l[i]? = some a → ∃ b, r[i]? = some b ∧ F a b
  | _, _, i, a, .nil, e => by cases i <;> cases e
  | _, _, 0, a, .cons h _, e => ⟨_, rfl, by cases e; exact h⟩
  | _, _, i + 1, a, .cons _ t, e => paired_get' (i := i) t e
section
variable {P : Program} {w : World} {K : PySem.W.Frag} {mg : Str → Option Value} {base : Heap} {f g f2 f3 : Addr} {fd gd fd2 fd3 : FuncData}
end
end My
namespace My
open PySem L2
theorem itl_go {K : PySem.W.Frag} {a : Addr} {xs : List V} {H1 : Hp} (ha : H1 a = some (.lst xs)) : ∀ i H, Same H1 H → i < xs.length → (Itl K a).go i H := fun i H s h => ⟨xs, xs[i], SqL.of (s _ _ ha), List.getElem?_eq_getElem h⟩
theorem itl_st {K : PySem.W.Frag} {a : Addr} {xs : List V} {H1 : Hp} (ha : H1 a = some (.lst xs)) : ∀ H, Same H1 H → (Itl K a).stop xs.length H := fun H s => ⟨xs, SqL.of (s _ _ ha), Nat.le_refl _⟩
theorem itl_y {K : PySem.W.Frag} {a : Addr} {xs : List V} {H1 : Hp} (ha : H1 a = some (.lst xs)) : ∀ i H v H', Same H1 H → (Itl K a).yld i H v H' → H' = H ∧ xs[i]? = some v := fun i H v H' s hv => ⟨hv.1, by obtain ⟨rfl, hv⟩ := hv; exact hv xs (SqL.of (s _ _ ha))⟩
theorem itt_go {K : PySem.W.Frag} {a : Addr} {xs : List V} {H1 : Hp} (ha : H1 a = some (.tup xs)) : ∀ i H, Same H1 H → i < xs.length → (Itt K a).go i H := fun i H s h => ⟨xs, xs[i], SqT.of (s _ _ ha), List.getElem?_eq_getElem h⟩
theorem itt_st {K : PySem.W.Frag} {a : Addr} {xs : List V} {H1 : Hp} (ha : H1 a = some (.tup xs)) : ∀ H, Same H1 H → (Itt K a).stop xs.length H := fun H s => ⟨xs, SqT.of (s _ _ ha), Nat.le_refl _⟩
theorem itt_y {K : PySem.W.Frag} {a : Addr} {xs : List V} {H1 : Hp} (ha : H1 a = some (.tup xs)) : ∀ i H v H', Same H1 H → (Itt K a).yld i H v H' → H' = H ∧ xs[i]? = some v := fun i H v H' s hv => ⟨hv.1, by obtain ⟨rfl, hv⟩ := hv; exact hv xs (SqT.of (s _ _ ha))⟩
section
variable {P : Program} {w : World} {K : PySem.W.Frag} {mg : Str → Option Value} {base : Heap} {f g f2 f3 : Addr} {fd gd fd2 fd3 : FuncData}
end
end My
namespace My
open PySem L2
noncomputable def sumN : List Nat → Nat
  | [] => 0
  | n :: r => n + sumN r
theorem sumI_nat : ∀ ms : List Nat, sumI (ms.map fun m => ((m : Nat) : Int)) = (sumN ms : Int)
  | [] => rfl
  | m :: r => by
    show (m : Int) + sumI (r.map fun m => ((m : Nat) : Int)) = ((m + sumN r : Nat) : Int)
    rw [sumI_nat r]
    lia
theorem partsV_len (ps : List Srt) : (partsV ps).length = ps.length := List.length_map _
section
variable {P : Program} {w : World} {K : PySem.W.Frag} {mg : Str → Option Value} {base : Heap} {f g f2 f3 : Addr} {fd gd fd2 fd3 : FuncData}
end
end My
namespace My
open PySem L2
theorem compT_mk {α : Type} {J : It} {as : List α} {xs : List V} {A : α → V → Prop} {fr : List Nat} {tc : TT} {te : TE} {σ : St} {H1 : Hp} {Q : VK} (hn : xs.length ≤ 1000) (hP : Paired A as xs)
    (hgo : ∀ i H, Same H1 H → i < xs.length → J.go i H) (hst : ∀ H, Same H1 H → J.stop xs.length H) (hy : ∀ i H v H', Same H1 H → J.yld i H v H' → H' = H ∧ xs[i]? = some v)
    (c : α → Bool) (R : Hp → α → V → Prop) (mono : ∀ {H H' : Hp} {a : α} {v : V}, TK H H' → R H a v → R H' a v)
    (htc : ∀ a v H (k : Bool → Hp → Prop), a ∈ as → A a v → Same H1 H → k (c a) H → tc (some v :: caps fr σ) H k)
    (hte : ∀ a v H (k : VK), a ∈ as → A a v → c a = true → Same H1 H → (∀ u H', Same H H' → R H' a u → k u H') → te (some v :: caps fr σ) H k)
    (hd : ∀ p zs H', H1 p = none → Same H1 H' → H' p = some (.lst zs) → Paired (R H') (as.filter c) zs → Q (.ref p) H') : tCompWT fr tc te σ J H1 Q := by
  intro p hp
  refine ⟨fun i m zs H => i ≤ xs.length ∧ m = xs.length - i ∧ Same H1 H ∧ H p = some (.lst zs) ∧ zs.length ≤ i ∧ Paired (R H) ((as.take i).filter c) zs, ⟨_, Nat.zero_le _, rfl, same_new hp _, upd_same, Nat.le_refl _, .nil⟩, ?_⟩
  rintro i m zs H ⟨hi, hm, sm, gp, hz, hT⟩
  refine ⟨gp, ?_⟩
  by_cases e : i = xs.length
  · subst e
    rw [← Paired.length hP, List.take_length] at hT
    exact .inl ⟨hst H sm, hd p zs H hp sm gp hT⟩
  · have hlt : i < xs.length := by lia
    refine .inr ⟨hgo i H sm hlt, small1000 (by lia), fun v H' hv => ?_⟩
    obtain ⟨rfl, hv2⟩ := hy i H v H' sm hv
    obtain ⟨a, ha, hA⟩ := paired_get hP hv2
    have etk : (as.take (i + 1)).filter c = (as.take i).filter c ++ (if c a then [a] else []) := take_succ_filter c as i a ha
    refine htc a v _ _ (List.mem_of_getElem? ha) hA sm ?_
    by_cases hc : c a = true
    · rw [if_pos hc] at etk
      show if c a = true then _ else _
      rw [if_pos hc]
      refine hte a v _ _ (List.mem_of_getElem? ha) hA hc sm fun u H2 s2 r => ?_
      have gp2 := s2 _ _ gp
      have tk : TK H2 (upd H2 p (.lst (zs ++ [u]))) := TK.lst gp2
      refine ⟨gp2, xs.length - (i + 1), by lia, by lia, rfl, ?_, upd_same, by rw [List.length_append]; show zs.length + 1 ≤ i + 1; lia, ?_⟩
      · intro b o hb
        rw [upd_ne (ne_of_none hb hp)]
        exact s2 _ _ (sm _ _ hb)
      · rw [etk]
        exact Paired.snoc (Paired.mapP hT fun _ _ r => mono ((tk_of s2).trans tk) r) (mono tk r)
    · rw [if_neg hc, List.append_nil] at etk
      show if c a = true then _ else _
      rw [if_neg hc]
      exact ⟨xs.length - (i + 1), by lia, by lia, rfl, sm, gp, by lia, by rw [etk]; exact hT⟩
theorem paired_eq {α : Type} {h : α → V} : ∀ {l : List α} {r : List V}, Paired (fun (a : α) (v : V) => v = h a) l r → r = l.map h
  | _, _, .nil => rfl
  | _, _, .cons a t => by rw [a, paired_eq t]; rfl
section
variable {P : Program} {w : World} {K : PySem.W.Frag} {mg : Str → Option Value} {base : Heap} {f g f2 f3 : Addr} {fd gd fd2 fd3 : FuncData}
end
end My
namespace My
open PySem L2
section
variable {X : Cx}
theorem op_eq_nilT (hu : X.A.units < cLine) : OpR X (compareOp .Eq) (fun x y H Q => ∃ a b xs, x = .ref a ∧ y = .ref b ∧ SqT X.K H a xs ∧ SqT X.K H b [] ∧ Q (.bl xs.isEmpty) H) := by
  intro pins s σ H x y v u Q I rx ry h
  obtain ⟨a, b, xs, rfl, rfl, ha, hb, q⟩ := h
  cases rx
  cases ry
  obtain ⟨its, r, ht, _⟩ := I.tuple ha
  obtain ⟨its2, r2, ht2, _⟩ := I.tuple hb
  cases r2
  refine SeqAt.eq_tupleAt (e := fun _ => true) ht ht2 hu (fun j _ h2 => absurd h2 (Nat.not_lt_zero _)) ⟨.bl _, H, I, ?_, q⟩
  cases r with
  | nil => rfl
  | cons r1 t => simp [RelV]
end
end My
namespace My
open PySem L2
inductive spFormsOf  (vs : List V) (H : Hp) (Q : VK) (E_ : XK) : Prop
  | mk : ∀ bv bk, (vs = [bv]) → (RepB H bk bv) → (∀ fa fv, H fa = some (.tup fv) → RepFs H bk.forms fv → Q (.ref fa) H) → spFormsOf vs H Q E_
inductive spSortOfForm  (vs : List V) (H : Hp) (Q : VK) (E_ : XK) : Prop
  | mk : ∀ v fr, (vs = [v]) → (RepF H fr v) → (Q (.str fr.own.name) H) → spSortOfForm vs H Q E_
inductive spPartsOf  (vs : List V) (H : Hp) (Q : VK) (E_ : XK) : Prop
  | mk : ∀ v fr, (vs = [v]) → (RepF H fr v) → (∀ pa, H pa = some (.tup (partsV fr.parts)) → Q (.ref pa) H) → spPartsOf vs H Q E_
section
variable {P : Program} {w : World} {K : PySem.W.Frag} {mg : Str → Option Value} {base : Heap} {f g f2 f3 : Addr} {fd gd fd2 fd3 : FuncData}
theorem scFormsOf : FnScope ["book"] ["book"] (defScope sFormsOf) := ⟨rfl, rfl, rfl, by decide +kernel, rfl, by decide +kernel, by decide +kernel⟩
theorem ok_formsOf (F : Fun K "forms_of" "forms_of" sFormsOf f fd) : FnOk P w K mg base CX0 1 f fd ["book"] spFormsOf := by
  refine F.ok scFormsOf (fun vs H Q E h => ?_) (fun cdv A outer s H vs Q E hr h => ?_)
  · obtain ⟨bv, bk, rfl, _⟩ := h
    rfl
  obtain ⟨bv, bk, rfl, ⟨a, sa, fa, fv, rfl, ha, _, hfa, hF⟩, q⟩ := h
  refine ⟨_, pss_one (ps_ret (pe_ix (r := rIxT K) ix_tup (pv 0) pe_int (fun _ _ => rfl))), ?_⟩
  exact ⟨_, rfl, a, _, 2, _, rfl, rfl, SqT.of ha, atI_nat (j := 2) rfl, q fa fv hfa hF⟩
theorem scSortOfForm : FnScope ["form"] ["form"] (defScope sSortOfForm) := ⟨rfl, rfl, rfl, by decide +kernel, rfl, by decide +kernel, by decide +kernel⟩
theorem ok_sortOfForm (F : Fun K "sort_of_form" "sort_of_form" sSortOfForm f fd) : FnOk P w K mg base CX0 1 f fd ["form"] spSortOfForm := by
  refine F.ok scSortOfForm (fun vs H Q E h => ?_) (fun cdv A outer s H vs Q E hr h => ?_)
  · obtain ⟨v, fr, rfl, _⟩ := h
    rfl
  obtain ⟨v, fr, rfl, ⟨a, pa, ra, rv, rfl, ha, _⟩, q⟩ := h
  refine ⟨_, pss_one (ps_ret (pe_ix (r := rIxT K) ix_tup (pv 0) pe_int (fun _ _ => rfl))), ?_⟩
  exact ⟨_, rfl, a, _, 1, _, rfl, rfl, SqT.of ha, atI_nat (j := 1) rfl, q⟩
theorem scPartsOf : FnScope ["form"] ["form"] (defScope sPartsOf) := ⟨rfl, rfl, rfl, by decide +kernel, rfl, by decide +kernel, by decide +kernel⟩
theorem ok_partsOf (F : Fun K "parts_of" "parts_of" sPartsOf f fd) : FnOk P w K mg base CX0 1 f fd ["form"] spPartsOf := by
  refine F.ok scPartsOf (fun vs H Q E h => ?_) (fun cdv A outer s H vs Q E hr h => ?_)
  · obtain ⟨v, fr, rfl, _⟩ := h
    rfl
  obtain ⟨v, fr, rfl, ⟨a, pa, ra, rv, rfl, ha, hpa, _⟩, q⟩ := h
  refine ⟨_, pss_one (ps_ret (pe_ix (r := rIxT K) ix_tup (pv 0) pe_int (fun _ _ => rfl))), ?_⟩
  exact ⟨_, rfl, a, _, 2, _, rfl, rfl, SqT.of ha, atI_nat (j := 2) rfl, q pa hpa⟩
end
section
variable {P : Program} {w : World} {K : PySem.W.Frag} {mg : Str → Option Value} {base : Heap} {f g f2 f3 : Addr} {fd gd fd2 fd3 : FuncData}
end
end My
namespace My
open PySem L2
section
variable {P : Program} {w : World} {K : PySem.W.Frag} {mg : Str → Option Value} {base : Heap} {f g f2 : Addr} {fd gd fd2 : FuncData}
theorem scLWhole : FnScope ["found"] ["found"] (defScope sLWhole) := ⟨rfl, rfl, rfl, by decide +kernel, rfl, by decide +kernel, by decide +kernel⟩
theorem ok_lwhole (F : Fun K "_law_whole" "_law_whole" sLWhole f fd) (G : Gb mg) : FnOk P w K mg base CX0 1 f fd ["found"] spWhole := by
  refine F.ok scLWhole (fun vs H Q E h => ?_) (fun cdv A outer s H vs Q E hr h => ?_)
  · obtain ⟨v, rfl, _⟩ := h
    rfl
  obtain ⟨v, rfl, hS, q⟩ := h
  refine ⟨_, pss_one (ps_ret (pe_and (pe_callB call_isV rfl G.isi (by decide +kernel) (pa_cons (pv 0) (pa_cons (pe_bltn (v := .ty "int") rfl G.int (by decide +kernel) rfl) pa_nil)))
    (pe_one (pe_not (pe_callB call_isV rfl G.isi (by decide +kernel) (pa_cons (pv 0) (pa_cons (pe_bltn (v := .ty "bool") rfl G.bool (by decide +kernel) rfl) pa_nil))))))), ?_⟩
  have e := isV_int hS
  refine ⟨_, rfl, v, "int", rfl, hS, by simp, _, rfl, ?_⟩
  refine ite2 (fun c => ?_) (fun c => ?_)
  · rw [if_pos c] at e
    refine ⟨_, rfl, v, "bool", rfl, hS, by simp, _, rfl, ?_⟩
    exact qb q e.symm
  · rw [if_neg c] at e
    exact qb q e.symm
end
end My
namespace My
open PySem L2
noncomputable def SameV (H : Hp) : Nat → V → V → Prop
  | 0, _, _ => False
  | n + 1, v, u => (∃ x : Str, v = .str x ∧ u = .str x ∧ x.length ≤ 1000) ∨ (∃ i : Int, v = .int i ∧ u = .int i) ∨
    ∃ (c : Bool) (a b : Addr) (xs ys : List V), v = .ref a ∧ u = .ref b ∧ H a = some (seqO c xs) ∧ H b = some (seqO c ys) ∧ xs.length ≤ 1000 ∧ Paired (SameV H n) xs ys
theorem SameV.mono {H H' : Hp} (s : Same H H') : ∀ {n : Nat} {v u : V}, SameV H n v u → SameV H' n v u
  | 0, _, _, h => h
  | n + 1, _, _, h => by
    rcases h with h | h | ⟨c, a, b, xs, ys, e1, e2, h1, h2, hl, hp⟩
    · exact .inl h
    · exact .inr (.inl h)
    · exact .inr (.inr ⟨c, a, b, xs, ys, e1, e2, s _ _ h1, s _ _ h2, hl, Paired.mapP hp fun _ _ h => SameV.mono s h⟩)
inductive spSame (n : Nat) (vs : List V) (H : Hp) (Q : VK) (E_ : XK) : Prop
  | mk : ∀ v u, (vs = [v, u]) → (SameV H n v u) → (∀ H', Same H H' → Q (.bl true) H') → spSame n vs H Q E_
theorem isV_seq {H : Hp} {c : Bool} {a : Addr} {xs : List V} (h : H a = some (seqO c xs)) : isV "tuple" H (.ref a) = c ∧ isV "list" H (.ref a) = !c ∧ isV "bool" H (.ref a) = false := by
  cases c with
  | true =>
    have h' : H a = some (.tup xs) := h
    simp only [isV, h']
    exact ⟨rfl, rfl, rfl⟩
  | false =>
    have h' : H a = some (.lst xs) := h
    simp only [isV, h']
    exact ⟨rfl, rfl, rfl⟩
theorem sh_seq {H : Hp} {c : Bool} {a : Addr} {xs : List V} (h : H a = some (seqO c xs)) : Sh H (.ref a) := by
  cases c with
  | true => exact .inr (.inl ⟨xs, h⟩)
  | false => exact .inl ⟨xs, h⟩
theorem tl_seq {H : Hp} {c : Bool} {a : Addr} {xs : List V} (h : H a = some (seqO c xs)) : TL H (.ref a) true := by
  cases c with
  | true => exact .tup (show H a = some (.tup xs) from h)
  | false => exact .lst (show H a = some (.lst xs) from h)
theorem sq_seq {K : PySem.W.Frag} {H : Hp} {c : Bool} {a : Addr} {xs : List V} (h : H a = some (seqO c xs)) : SqL K H a xs ∨ SqT K H a xs := by
  cases c with
  | true => exact .inr (SqT.of h)
  | false => exact .inl (SqL.of h)
section
variable {P : Program} {w : World} {K : PySem.W.Frag} {mg : Str → Option Value} {base : Heap} {f g f2 aR : Addr} {fd gd fd2 : FuncData}
theorem scSame : FnScope ["found", "due"] ["found", "due"] (defScope sSame) := ⟨rfl, rfl, rfl, by decide +kernel, rfl, by decide +kernel, by decide +kernel⟩
theorem ok_same1 {n : Nat} (F : Fun K "_law_same" "_law_same" sSame f fd) (G : Gb mg) (hlist : mg "list" = none) (hzip : mg "zip" = none)
    (GS : FnOk P w K mg base CX0 (n + 2) f fd ["found", "due"] (spSame n)) (bS : Binds K fd ["found", "due"] []) (mS : mg "_law_same" = some (.ref f))
    (GW : FnOk P w K mg base CX0 1 f2 fd2 ["found"] spWhole) (bW : Binds K fd2 ["found"] []) (kW : PySem.W.keepIn K (.ref f2) = true) (mW : mg "_law_whole" = some (.ref f2)) :
    FnOk P w K mg base CX0 (n + 3) f fd ["found", "due"] (spSame (n + 1)) := by
  refine F.ok scSame (fun vs H Q E h => ?_) (fun cdv A outer s H vs Q E hr h => ?_)
  · obtain ⟨v, u, rfl, _⟩ := h
    rfl
  obtain ⟨v, u, rfl, hS, q⟩ := h
  have hr1 := hr.mono (show 1 ≤ n + 2 by lia)
  refine ⟨_, pss_cons (ps_if (pt_val (pe_callB call_isTL rfl G.isi (by decide +kernel) (pa_cons (pv 1) (pa_cons (pe_tup (pa_cons (pe_bltn (v := .ty "tuple") rfl G.tuple (by decide +kernel) rfl) (pa_cons (pe_bltn (v := .ty "list") rfl hlist (by decide +kernel) rfl) pa_nil))) pa_nil))))
      (pss_cons (ps_if (PW.pt (pw_or (pt_cmpR op_ne (pe_callB call_isV rfl G.isi (by decide +kernel) (pa_cons (pv 1) (pa_cons (pe_bltn (v := .ty "tuple") rfl G.tuple (by decide +kernel) rfl) pa_nil))) (pe_callB call_isV rfl G.isi (by decide +kernel) (pa_cons (pv 0) (pa_cons (pe_bltn (v := .ty "tuple") rfl G.tuple (by decide +kernel) rfl) pa_nil))) (nomark _))
          (pw_or1 (pt_cmpR op_ne (pe_callB call_isV rfl G.isi (by decide +kernel) (pa_cons (pv 1) (pa_cons (pe_bltn (v := .ty "list") rfl hlist (by decide +kernel) rfl) pa_nil))) (pe_callB call_isV rfl G.isi (by decide +kernel) (pa_cons (pv 0) (pa_cons (pe_bltn (v := .ty "list") rfl hlist (by decide +kernel) rfl) pa_nil))) (nomark _)))))
        (pss_one (ps_ret pe_bl)) pss_nil)
      (pss_one (ps_ret (pe_and (pe_cmpR op_eq (pe_callB (r := rLen K) call_len_seq rfl G.len PySem.boot_len (pa_cons (pv 0) pa_nil)) (pe_callB (r := rLen K) call_len_seq rfl G.len PySem.boot_len (pa_cons (pv 1) pa_nil)) (nomark _))
        (pe_one (pe_callB (call_all rfl) rfl G.all (by decide +kernel) (pa_cons (pe_comp2 (sc0 := defScope sSame) (N0 := ["found", "due"]) (ys := []) (fr := []) rfl (pi_zip rfl hzip (pa_cons (pv 0) (pa_cons (pv 1) pa_nil))) rfl rfl
          ⟨rfl, by decide +kernel, by decide +kernel, by decide +kernel, by decide +kernel, by decide +kernel, by decide +kernel, rfl, by decide +kernel⟩ (fun C s H ex => pe_call GS hr rfl mS F.kp bS .nil pass0 (pa_cons (pv 0) (pa_cons (pv 1) pa_nil)))) pa_nil)))))))
      pss_nil)
    (pss_cons (ps_if (pt_cmpR op_isN (pv 1) pe_non (nomark _)) (pss_one (ps_ret (pe_cmpR op_isN (pv 0) pe_non (nomark _)))) pss_nil)
    (pss_cons (ps_if (pt_val (pe_callB call_isV rfl G.isi (by decide +kernel) (pa_cons (pv 1) (pa_cons (pe_bltn (v := .ty "bool") rfl G.bool (by decide +kernel) rfl) pa_nil))))
      (pss_one (ps_ret (pe_and (pe_callB call_isV rfl G.isi (by decide +kernel) (pa_cons (pv 0) (pa_cons (pe_bltn (v := .ty "bool") rfl G.bool (by decide +kernel) rfl) pa_nil))) (pe_one (pe_cmpR op_eq (pv 0) (pv 1) (nomark _)))))) pss_nil)
    (pss_cons (ps_if (pt_val (pe_callB call_isV rfl G.isi (by decide +kernel) (pa_cons (pv 1) (pa_cons (pe_bltn (v := .ty "str") rfl G.str (by decide +kernel) rfl) pa_nil))))
      (pss_one (ps_ret (pe_and (pe_callB call_isV rfl G.isi (by decide +kernel) (pa_cons (pv 0) (pa_cons (pe_bltn (v := .ty "str") rfl G.str (by decide +kernel) rfl) pa_nil))) (pe_one (pe_cmpR op_eq (pv 0) (pv 1) (nomark _)))))) pss_nil)
    (pss_one (ps_ret (pe_and (pe_call GW hr1 rfl mW kW bW .nil pass0 (pa_cons (pv 0) pa_nil)) (pe_one (pe_cmpR op_eq (pv 0) (pv 1) (nomark _))))))))), ?_⟩
  refine ⟨_, rfl, (by show 2 ≤ sizeLine; decide), fun p0 h0 => ?_⟩
  have s0 := same_new h0 (.tup [.ty "tuple", .ty "list"])
  have g0 : (upd H p0 (.tup [.ty "tuple", .ty "list"])) p0 = some (.tup [.ty "tuple", .ty "list"]) := upd_same
  generalize upd H p0 (.tup [.ty "tuple", .ty "list"]) = H0 at s0 g0 ⊢
  have hS0 := SameV.mono s0 hS
  rcases hS0 with ⟨x, rfl, rfl, hx⟩ | ⟨i, rfl, rfl⟩ | ⟨c, a, b, xs, ys, rfl, rfl, ha, hb, hl, hp⟩
  · refine ⟨_, p0, false, rfl, g0, .str x, _, rfl, ?_⟩
    refine iteF ⟨_, rfl, rfl, _, rfl, ?_⟩
    rw [show decide (V.str x = V.non) = false from decide_eq_false fun e => nomatch e]
    refine iteF ⟨_, rfl, _, "bool", rfl, hx, by simp, _, rfl, ?_⟩
    rw [show isV "bool" H0 (V.str x) = false from rfl]
    refine iteF ⟨_, rfl, _, "str", rfl, hx, by simp, _, rfl, ?_⟩
    rw [show isV "str" H0 (V.str x) = true from rfl]
    refine iteT ⟨_, rfl, _, "str", rfl, hx, by simp, _, rfl, ?_⟩
    rw [show isV "str" H0 (V.str x) = true from rfl]
    refine iteT ⟨_, rfl, _, rfl, rfl, ?_⟩
    rw [decide_eq_true rfl]
    exact q H0 s0
  · refine ⟨_, p0, false, rfl, g0, .int i, _, rfl, ?_⟩
    refine iteF ⟨_, rfl, rfl, _, rfl, ?_⟩
    rw [show decide (V.int i = V.non) = false from decide_eq_false fun e => nomatch e]
    refine iteF ⟨_, rfl, _, "bool", rfl, True.intro, by simp, _, rfl, ?_⟩
    rw [show isV "bool" H0 (V.int i) = false from rfl]
    refine iteF ⟨_, rfl, _, "str", rfl, True.intro, by simp, _, rfl, ?_⟩
    rw [show isV "str" H0 (V.int i) = false from rfl]
    refine iteF ⟨_, rfl, _, rfl, True.intro, _, rfl, ?_⟩
    rw [show wholeV (V.int i) = true from rfl]
    refine iteT ⟨_, rfl, _, rfl, rfl, ?_⟩
    rw [decide_eq_true rfl]
    exact q H0 s0
  · obtain ⟨a1, a2, _⟩ := isV_seq ha
    obtain ⟨b1, b2, _⟩ := isV_seq hb
    have hlen : xs.length = ys.length := Paired.length hp
    refine ⟨_, p0, true, rfl, g0, tl_seq hb, _, rfl, ?_⟩
    refine iteT ⟨_, rfl, _, "tuple", rfl, sh_seq hb, by simp, _, rfl, _, "tuple", rfl, sh_seq ha, by simp, rfl, _, rfl, ?_⟩
    rw [a1, b1, decide_eq_true rfl]
    refine iteF ⟨_, rfl, _, "list", rfl, sh_seq hb, by simp, _, rfl, _, "list", rfl, sh_seq ha, by simp, rfl, _, rfl, ?_⟩
    rw [a2, b2, decide_eq_true rfl]
    refine iteF ⟨_, rfl, a, xs, rfl, sq_seq ha, _, rfl, b, ys, rfl, sq_seq hb, rfl, _, rfl, ?_⟩
    rw [hlen, decide_eq_true rfl]
    refine iteT ⟨_, rfl, _, rfl, c, a, b, xs, ys, rfl, ha, hb, fun l hl0 => ?_⟩
    refine ⟨fun i m zs H' => i ≤ xs.length ∧ m = xs.length - i ∧ Same H0 H' ∧ H' l = some (.lst zs) ∧ zs = List.replicate i (.bl true), ⟨_, Nat.zero_le _, rfl, same_new hl0 _, upd_same, rfl⟩, ?_⟩
    rintro i m zs H' ⟨hi, hm, sm, gl, rfl⟩
    refine ⟨gl, ?_⟩
    by_cases e : i = xs.length
    · refine .inl ⟨⟨xs, ys, sm _ _ ha, sm _ _ hb, e.symm, by lia⟩, l, List.replicate i true, rfl, SqL.of (by rw [List.map_replicate]; exact gl), ?_⟩
      rw [show (List.replicate i true).all id = true by simp]
      exact q H' (s0.trans sm)
    · have hlt : i < xs.length := by lia
      refine .inr ⟨⟨xs, ys, xs[i], ys[i], sm _ _ ha, sm _ _ hb, List.getElem?_eq_getElem hlt, List.getElem?_eq_getElem (by lia)⟩, small1000 (by rw [List.length_replicate]; lia), ?_⟩
      rintro _ _ ⟨T, x, y, fT, rfl, rfl, hxy⟩
      obtain ⟨ex, ey⟩ := hxy xs ys (sm _ _ ha) (sm _ _ hb)
      obtain ⟨y', ey', hs⟩ := paired_get' hp ex
      rw [ey] at ey'
      cases ey'
      have sT := sm.trans (same_new fT (.tup [x, y]))
      refine ⟨T, x, y, rfl, upd_same, _, rfl, _, rfl, x, y, rfl, SameV.mono sT hs, fun H4 s4 => ?_⟩
      have gl4 := s4 _ _ (same_new fT (.tup [x, y]) _ _ gl)
      refine ⟨gl4, _, (by lia : xs.length - (i + 1) < m), by lia, rfl, fun c' o h => ?_, upd_same, ?_⟩
      · rw [upd_ne (ne_of_none h hl0)]
        exact s4 _ _ (sT _ _ h)
      · exact List.replicate_succ'.symm
theorem ok_same0 : FnOk P w K mg base CX0 2 f fd ["found", "due"] (spSame 0) := by
  have no : ∀ vs H Q E, ¬ spSame 0 vs H Q E := fun vs H Q E h => by
    obtain ⟨v, u, _, h, _⟩ := h
    exact h
  exact ⟨fun vs H Q E h => absurd h (no vs H Q E), fun A outer s H args us vs Q E _ _ _ _ h => absurd h (no vs H Q E)⟩
theorem ok_same (F : Fun K "_law_same" "_law_same" sSame f fd) (G : Gb mg) (hlist : mg "list" = none) (hzip : mg "zip" = none) (bS : Binds K fd ["found", "due"] []) (mS : mg "_law_same" = some (.ref f))
    (GW : FnOk P w K mg base CX0 1 f2 fd2 ["found"] spWhole) (bW : Binds K fd2 ["found"] []) (kW : PySem.W.keepIn K (.ref f2) = true) (mW : mg "_law_whole" = some (.ref f2)) : ∀ n : Nat, FnOk P w K mg base CX0 (n + 2) f fd ["found", "due"] (spSame n)
  | 0 => ok_same0
  | n + 1 => ok_same1 F G hlist hzip (ok_same F G hlist hzip bS mS GW bW kW mW n) bS mS GW bW kW mW
end
end My
namespace My
open PySem L2
theorem comp_pr {J : It} {α : Type} {as : List α} {A : α → V → Prop} {xs : List V} {fr : List Nat} {te : TE} {σ : St} {H1 : Hp} {Q : VK} (hn : xs.length ≤ 1000) (hP : Paired A as xs)
    (hgo : ∀ i H, Same H1 H → i < xs.length → J.go i H) (hst : ∀ H, Same H1 H → J.stop xs.length H) (hy : ∀ i H v H', i < xs.length → Same H1 H → J.yld i H v H' → H' = H ∧ xs[i]? = some v)
    (R : Hp → α → V → Prop) (mono : ∀ {H H' : Hp} {a : α} {v : V}, TK H H' → R H a v → R H' a v)
    (hte : ∀ a v H (k : VK), a ∈ as → A a v → Same H1 H → (∀ u H', Same H H' → R H' a u → k u H') → te (some v :: caps fr σ) H k)
    (hd : ∀ p zs H', H1 p = none → Same H1 H' → H' p = some (.lst zs) → Paired (R H') as zs → Q (.ref p) H') : tCompW fr te σ J H1 Q := by
  intro p hp
  have hl : as.length = xs.length := Paired.length hP
  refine ⟨fun i m zs H => i ≤ xs.length ∧ m = xs.length - i ∧ Same H1 H ∧ H p = some (.lst zs) ∧ zs.length = i ∧ Paired (R H) (as.take i) zs, ⟨_, Nat.zero_le _, rfl, same_new hp _, upd_same, rfl, .nil⟩, ?_⟩
  rintro i m zs H ⟨hi, hm, sm, gp, hz, hT⟩
  refine ⟨gp, ?_⟩
  by_cases e : i = xs.length
  · subst e
    rw [← hl, List.take_length] at hT
    exact .inl ⟨hst H sm, hd p zs H hp sm gp hT⟩
  · have hlt : i < xs.length := by lia
    refine .inr ⟨hgo i H sm hlt, small1000 (by lia), fun v H' hv => ?_⟩
    obtain ⟨rfl, hv2⟩ := hy i H v H' hlt sm hv
    obtain ⟨a, ha, hA⟩ := paired_get hP hv2
    refine hte a v _ _ (List.mem_of_getElem? ha) hA sm fun u H2 s2 r => ?_
    have gp2 := s2 _ _ gp
    have tk : TK H2 (upd H2 p (.lst (zs ++ [u]))) := TK.lst gp2
    refine ⟨gp2, xs.length - (i + 1), by lia, by lia, rfl, ?_, upd_same, by rw [List.length_append, hz]; rfl, ?_⟩
    · intro b o hb
      rw [upd_ne (ne_of_none hb hp)]
      exact s2 _ _ (sm _ _ hb)
    · rw [List.take_add_one, ha]
      exact Paired.snoc (Paired.mapP hT fun _ _ r => mono ((tk_of s2).trans tk) r) (mono tk r)
end My
namespace My
open PySem L2
noncomputable def nmsOf (fr : Frm) : List Str := fr.parts.map Srt.name
noncomputable def Rf (bk : Bk) : Nat → List Str → Nat → Nat
  | 0, _, _ => 0
  | _ + 1, [], t => if t = 0 then 1 else 0
  | f + 1, [s], t => if t = 0 then 0 else sumN ((bk.forms.filter fun fr => decide (fr.own.name = s)).map fun fr => Rf bk f (nmsOf fr) (t - 1))
  | f + 1, s :: s' :: r, t => sumN ((List.range (t - 1)).map fun j => Rf bk f [s] (j + 1) * Rf bk f (s' :: r) (t - (j + 1)))
noncomputable def Few (bk : Bk) : Prop := bk.forms.length ≤ 10 ∧ ∀ fr ∈ bk.forms, fr.parts.length ≤ 3
theorem sumN_congr {α : Type} {f g : α → Nat} : ∀ {l : List α}, (∀ x ∈ l, f x = g x) → sumN (l.map f) = sumN (l.map g)
  | [], _ => rfl
  | a :: r, h => by
    show f a + sumN (r.map f) = g a + sumN (r.map g)
    rw [h a List.mem_cons_self, sumN_congr fun x hx => h x (List.mem_cons_of_mem _ hx)]
theorem Rf_stable {bk : Bk} (hk : Few bk) : ∀ (f g : Nat) (row : List Str) (t : Nat), 4 * t + row.length < f → 4 * t + row.length < g → Rf bk f row t = Rf bk g row t := by
  intro f
  induction f with
  | zero => intro g row t h; lia
  | succ f ih =>
    intro g row t h1 h2
    obtain ⟨g, rfl⟩ : ∃ k, g = k + 1 := ⟨g - 1, by lia⟩
    match row with
    | [] => rfl
    | [s] =>
      show (if t = 0 then 0 else _) = (if t = 0 then 0 else _)
      by_cases c : t = 0
      · rw [if_pos c, if_pos c]
      · rw [if_neg c, if_neg c]
        refine sumN_congr fun fr hfr => ?_
        have h3 := hk.2 fr (List.mem_filter.mp hfr).1
        have hl : (nmsOf fr).length = fr.parts.length := List.length_map _
        have h1' : 4 * t + 1 < f + 1 := h1
        have h2' : 4 * t + 1 < g + 1 := h2
        exact ih g (nmsOf fr) (t - 1) (by lia) (by lia)
    | s :: s' :: r =>
      refine sumN_congr fun j hj => ?_
      have hj' := List.mem_range.mp hj
      have h1' : 4 * t + (r.length + 1 + 1) < f + 1 := h1
      have h2' : 4 * t + (r.length + 1 + 1) < g + 1 := h2
      rw [ih g [s] (j + 1) (by show 4 * (j + 1) + 1 < f; lia) (by show 4 * (j + 1) + 1 < g; lia), ih g (s' :: r) (t - (j + 1)) (by show 4 * (t - (j + 1)) + (r.length + 1) < f; lia) (by show 4 * (t - (j + 1)) + (r.length + 1) < g; lia)]
noncomputable def Rn (bk : Bk) (row : List Str) (t : Nat) : Nat := Rf bk (4 * t + row.length + 1) row t
theorem Rn_nil (bk : Bk) (t : Nat) : Rn bk [] t = if t = 0 then 1 else 0 := rfl
theorem Rn_one {bk : Bk} (hk : Few bk) (s : Str) (t : Nat) : Rn bk [s] t = if t = 0 then 0 else sumN ((bk.forms.filter fun fr => decide (fr.own.name = s)).map fun fr => Rn bk (nmsOf fr) (t - 1)) := by
  show (if t = 0 then 0 else _) = _
  by_cases c : t = 0
  · rw [if_pos c, if_pos c]
  · rw [if_neg c, if_neg c]
    refine sumN_congr fun fr hfr => ?_
    have h3 := hk.2 fr (List.mem_filter.mp hfr).1
    have hl : (nmsOf fr).length = fr.parts.length := List.length_map _
    exact Rf_stable hk _ _ _ _ (by show 4 * (t - 1) + (nmsOf fr).length < 4 * t + 1; lia) (by lia)
theorem Rn_cons {bk : Bk} (hk : Few bk) (s s' : Str) (r : List Str) (t : Nat) : Rn bk (s :: s' :: r) t = sumN ((List.range (t - 1)).map fun j => Rn bk [s] (j + 1) * Rn bk (s' :: r) (t - (j + 1))) := by
  refine sumN_congr fun j hj => ?_
  have hj' := List.mem_range.mp hj
  rw [Rf_stable hk _ (4 * (j + 1) + [s].length + 1) [s] (j + 1) (by show 4 * (j + 1) + 1 < 4 * t + (r.length + 1 + 1); lia) (by lia),
    Rf_stable hk _ (4 * (t - (j + 1)) + (s' :: r).length + 1) (s' :: r) (t - (j + 1)) (by show 4 * (t - (j + 1)) + (r.length + 1) < 4 * t + (r.length + 1 + 1); lia) (by lia)]
  rfl
noncomputable def Rl (bk : Bk) : List Str → Nat → Nat
  | [], l => if l = 0 then 1 else 0
  | s :: r, l => sumN ((List.range l).map fun j => Rn bk [s] (j + 1) * Rl bk r (l - (j + 1)))
theorem sumN_zero {α : Type} {f : α → Nat} : ∀ {l : List α}, (∀ x ∈ l, f x = 0) → sumN (l.map f) = 0
  | [], _ => rfl
  | a :: r, h => by
    show f a + sumN (r.map f) = 0
    rw [h a List.mem_cons_self, sumN_zero fun x hx => h x (List.mem_cons_of_mem _ hx)]
theorem sumN_app : ∀ (a b : List Nat), sumN (a ++ b) = sumN a + sumN b
  | [], b => by show sumN b = 0 + sumN b; lia
  | x :: a, b => by show x + sumN (a ++ b) = x + sumN a + sumN b; rw [sumN_app a b]; lia
theorem Rl_eq {bk : Bk} (hk : Few bk) : ∀ (row : List Str) (t : Nat), Rl bk row t = Rn bk row t
  | [], t => rfl
  | [s], t => by
    show sumN ((List.range t).map fun j => Rn bk [s] (j + 1) * (if t - (j + 1) = 0 then 1 else 0)) = _
    cases t with
    | zero => rw [Rn_one hk, if_pos rfl]; rfl
    | succ t =>
      rw [List.range_succ, List.map_append, sumN_app, sumN_zero fun j hj => by
        have := List.mem_range.mp hj
        rw [if_neg (by lia), Nat.mul_zero]]
      show 0 + (Rn bk [s] (t + 1) * (if t + 1 - (t + 1) = 0 then 1 else 0) + 0) = _
      rw [Nat.sub_self, if_pos rfl]
      lia
  | s :: s' :: r, t => by
    rw [Rn_cons hk]
    show sumN ((List.range t).map fun j => Rn bk [s] (j + 1) * Rl bk (s' :: r) (t - (j + 1))) = _
    cases t with
    | zero => rfl
    | succ t =>
      rw [List.range_succ, List.map_append, sumN_app]
      show _ + (Rn bk [s] (t + 1) * Rl bk (s' :: r) (t + 1 - (t + 1)) + 0) = _
      rw [Nat.sub_self, show Rl bk (s' :: r) 0 = 0 from rfl, Nat.mul_zero]
      show _ = sumN ((List.range t).map fun j => Rn bk [s] (j + 1) * Rn bk (s' :: r) (t + 1 - (j + 1)))
      rw [sumN_congr fun j _ => by rw [Rl_eq hk (s' :: r) (t + 1 - (j + 1))]]
      lia
theorem sumN_le {α : Type} {f : α → Nat} {B : Nat} : ∀ {l : List α}, (∀ x ∈ l, f x ≤ B) → sumN (l.map f) ≤ l.length * B
  | [], _ => Nat.zero_le _
  | a :: r, h => by
    show f a + sumN (r.map f) ≤ (r.length + 1) * B
    have h1 := h a List.mem_cons_self
    have h2 := sumN_le (l := r) fun x hx => h x (List.mem_cons_of_mem _ hx)
    rw [Nat.succ_mul]
    lia
theorem Rn_le {bk : Bk} (hk : Few bk) : ∀ (t : Nat) (row : List Str), t ≤ 24 → row.length ≤ 3 → Rn bk row t ≤ 24 ^ (row.length - 1) * 5760 ^ t := by
  intro t
  induction t using Nat.strongRecOn with
  | ind t iht =>
    intro row ht
    induction row with
    | nil =>
      intro _
      rw [Rn_nil]
      split
      · subst_vars; decide
      · exact Nat.zero_le _
    | cons s r ihr =>
      intro hl
      match r, hl, ihr with
      | [], _, _ =>
        rw [Rn_one hk]
        by_cases c : t = 0
        · rw [if_pos c]; exact Nat.zero_le _
        · rw [if_neg c]
          have h1 := sumN_le (B := 24 ^ 2 * 5760 ^ (t - 1)) (l := bk.forms.filter fun fr => decide (fr.own.name = s)) (f := fun fr => Rn bk (nmsOf fr) (t - 1)) fun fr hfr => by
            have h3 := hk.2 fr (List.mem_filter.mp hfr).1
            have hl : (nmsOf fr).length = fr.parts.length := List.length_map _
            refine Nat.le_trans (iht (t - 1) (by lia) (nmsOf fr) (by lia) (by lia)) (Nat.mul_le_mul_right _ (Nat.pow_le_pow_right (by decide) (by lia)))
          have h2 : (bk.forms.filter fun fr => decide (fr.own.name = s)).length ≤ 10 := Nat.le_trans (List.length_filter_le _ _) hk.1
          have h3 : (bk.forms.filter fun fr => decide (fr.own.name = s)).length * (24 ^ 2 * 5760 ^ (t - 1)) ≤ 10 * (24 ^ 2 * 5760 ^ (t - 1)) := Nat.mul_le_mul_right _ h2
          have h4 : 10 * (24 ^ 2 * 5760 ^ (t - 1)) = 5760 ^ t := by
            obtain ⟨k, rfl⟩ : ∃ k, t = k + 1 := ⟨t - 1, by lia⟩
            rw [Nat.add_sub_cancel, show 5760 ^ (k + 1) = 5760 ^ k * 5760 from Nat.pow_succ _ _, ← Nat.mul_assoc, Nat.mul_comm (5760 ^ k)]
          show _ ≤ 24 ^ 0 * 5760 ^ t
          rw [Nat.pow_zero, Nat.one_mul]
          lia
      | s' :: r, hl, ihr =>
        rw [Rn_cons hk]
        have hlr : r.length + 1 ≤ 2 := by have : r.length + 1 + 1 ≤ 3 := hl; lia
        have h1 := sumN_le (B := 24 ^ r.length * 5760 ^ t) (l := List.range (t - 1)) (f := fun j => Rn bk [s] (j + 1) * Rn bk (s' :: r) (t - (j + 1))) fun j hj => by
          have hj' := List.mem_range.mp hj
          have a := iht (j + 1) (by lia) [s] (by lia) (by show 1 ≤ 3; decide)
          have b := iht (t - (j + 1)) (by lia) (s' :: r) (by lia) (by show r.length + 1 ≤ 3; lia)
          have a' : Rn bk [s] (j + 1) ≤ 5760 ^ (j + 1) := by
            have : 24 ^ ([s].length - 1) * 5760 ^ (j + 1) = 5760 ^ (j + 1) := Nat.one_mul _
            lia
          refine Nat.le_trans (Nat.mul_le_mul a' b) ?_
          show 5760 ^ (j + 1) * (24 ^ r.length * 5760 ^ (t - (j + 1))) ≤ _
          rw [Nat.mul_left_comm, ← Nat.pow_add, show j + 1 + (t - (j + 1)) = t by lia]
          exact Nat.le_refl _
        rw [List.length_range] at h1
        refine Nat.le_trans h1 ?_
        show _ ≤ 24 ^ (r.length + 1) * 5760 ^ t
        rw [Nat.pow_succ, Nat.mul_comm (24 ^ r.length) 24, Nat.mul_assoc]
        exact Nat.mul_le_mul_right _ (by lia)
theorem Rn_lt {bk : Bk} (hk : Few bk) {t : Nat} {row : List Str} (ht : t ≤ 24) (hl : row.length ≤ 3) : Rn bk row t < 2 ^ 400 := by
  refine Nat.lt_of_le_of_lt (Rn_le hk t row ht hl) (Nat.lt_of_le_of_lt (Nat.mul_le_mul (Nat.pow_le_pow_right (n := 24) (by decide) (show row.length - 1 ≤ 2 by lia)) (Nat.pow_le_pow_right (n := 5760) (by decide) ht)) (by decide +kernel))
theorem mul_ok {a b : Nat} (ha : a < 2 ^ 2000) (hb : b < 2 ^ 2000) : IntMulOk (a : Int) (b : Int) := by
  have e : (2000 : Nat) ≤ 2 ^ 20 := by decide
  refine IntMulOk.of_bits (Nat.le_trans (PyProof.Rows.intBits_le (k := 2000) ?_) e) (Nat.le_trans (PyProof.Rows.intBits_le (k := 2000) ?_) e)
  · rw [Int.natAbs_natCast]; exact ha
  · rw [Int.natAbs_natCast]; exact hb
end My
namespace My
open PySem L2
structure BkW (bk : Bk) : Prop where
  so : SortsOk bk.sorts
  few : bk.forms.length ≤ 10
  fo : ∀ fr ∈ bk.forms, fr.own ∈ bk.sorts ∧ (∀ q ∈ fr.parts, q ∈ bk.sorts) ∧ fr.parts.length ≤ 3
theorem BookOk.w {bk : Bk} (h : BookOk bk) : BkW bk := by
  obtain ⟨mode, _, hf⟩ := h.fo
  exact ⟨h.so, h.few, fun fr m => ⟨(hf fr m).1, (hf fr m).2.1, (hf fr m).2.2.1⟩⟩
theorem BkW.two {bk : Bk} (h : BkW bk) : Few bk := ⟨h.few, fun fr m => (h.fo fr m).2.2⟩
noncomputable def rk (row : List Str) : List Key := row.map fun x => (Sum.inr x : Key)
theorem rk_kV (row : List Str) : (rk row).map kV = row.map V.str := by
  unfold rk
  rw [List.map_map]; rfl
theorem rk_inj : ∀ {a b : List Str}, rk a = rk b → a = b
  | [], [], _ => rfl
  | [], _ :: _, h => by cases h
  | _ :: _, [], h => by cases h
  | x :: a, y :: b, h => by
    have h : (Sum.inr x : Key) :: rk a = Sum.inr y :: rk b := h
    rw [List.cons.injEq] at h
    rw [rk_inj h.2, Sum.inr.inj h.1]
theorem nms_parts (fr : Frm) : partsV fr.parts = (nmsOf fr).map V.str := by
  unfold nmsOf
  rw [List.map_map]; rfl
noncomputable def RowIn (bk : Bk) (row : List Str) : Prop := row = [] ∨ (∃ s, s ∈ bk.sorts ∧ row = [Srt.name s]) ∨ ∃ fr k, fr ∈ bk.forms ∧ k < (nmsOf fr).length ∧ row = (nmsOf fr).drop k
theorem RowIn.len {bk : Bk} (hk : BkW bk) {row : List Str} (h : RowIn bk row) : row.length ≤ 3 := by
  rcases h with rfl | ⟨s, _, rfl⟩ | ⟨fr, k, hf, _, rfl⟩
  · exact Nat.zero_le _
  · show 1 ≤ 3; decide
  · have := (hk.fo fr hf).2.2
    have hl : (nmsOf fr).length = fr.parts.length := List.length_map _
    rw [List.length_drop]; lia
theorem RowIn.form {bk : Bk} {fr : Frm} (h : fr ∈ bk.forms) : RowIn bk (nmsOf fr) := by
  cases hl : nmsOf fr with
  | nil => exact .inl rfl
  | cons x r => exact .inr (.inr ⟨fr, 0, h, by rw [hl]; exact Nat.succ_pos _, by rw [hl]; rfl⟩)
theorem RowIn.split {bk : Bk} (hk : BkW bk) {s s' : Str} {r : List Str} (h : RowIn bk (s :: s' :: r)) : RowIn bk [s] ∧ RowIn bk (s' :: r) := by
  rcases h with h | ⟨_, _, h⟩ | ⟨fr, k, hf, hl, h⟩
  · cases h
  · cases h
  · have e := List.drop_eq_getElem_cons hl
    rw [← h] at e
    have e1 := (List.cons.inj e).1
    have e2 := (List.cons.inj e).2
    refine ⟨?_, .inr (.inr ⟨fr, k + 1, hf, ?_, e2⟩)⟩
    · have hm : s ∈ nmsOf fr := by rw [e1]; exact List.getElem_mem hl
      obtain ⟨q, hq, hqn⟩ := List.mem_map.mp hm
      exact .inr (.inl ⟨q, (hk.fo fr hf).2.1 q hq, by rw [hqn]⟩)
    · have := congrArg List.length e2
      rw [List.length_drop, List.length_cons] at this
      lia
theorem RowIn.no {bk : Bk} (hk : BkW bk) : ¬ RowIn bk ["nosuch"] := by
  rintro (h | ⟨s, hs, h⟩ | ⟨fr, k, hf, hl, h⟩)
  · cases h
  · have := (List.cons.inj h).1
    exact (hk.so.2.2.2.1 s hs).2 this.symm
  · have e := List.drop_eq_getElem_cons hl
    rw [← h] at e
    have hm : ("nosuch" : Str) ∈ nmsOf fr := by rw [(List.cons.inj e).1]; exact List.getElem_mem hl
    obtain ⟨q, hq, hqn⟩ := List.mem_map.mp hm
    exact (hk.so.2.2.2.1 q ((hk.fo fr hf).2.1 q hq)).2 hqn
noncomputable def RowsOk (bk : Bk) (RS : List (List Str)) : Prop := ∀ row, RowIn bk row ↔ row ∈ RS
theorem keys_putT (kvs : List (List Key × V)) (k : List Key) (v : V) : (putK kvs k v).map (·.1) = if k ∈ kvs.map (·.1) then kvs.map (·.1) else kvs.map (·.1) ++ [k] := by
  unfold putK
  have e : (kvs.any fun kv => decide (kv.1 = k)) = true ↔ k ∈ kvs.map (·.1) := by
    rw [List.any_eq_true, List.mem_map]
    constructor
    · rintro ⟨kv, h1, h2⟩; exact ⟨kv, h1, of_decide_eq_true h2⟩
    · rintro ⟨kv, h1, h2⟩; exact ⟨kv, h1, decide_eq_true h2⟩
  by_cases c : k ∈ kvs.map (·.1)
  · rw [if_pos (e.mpr c), if_pos c, List.map_map]
    refine List.map_congr_left fun kv _ => ?_
    show (if kv.1 = k then (kv.1, v) else kv).1 = kv.1
    split <;> rfl
  · rw [if_neg (fun z => c (e.mp z)), if_neg c, List.map_append]; rfl
noncomputable def RowsAt (H : Hp) (d : Addr) (RS : List (List Str)) : Prop := ∃ kvs, H d = some (.dT kvs) ∧ kvs.map (·.1) = RS.map rk
theorem RowsAt.put {H : Hp} {d b : Addr} {RS : List (List Str)} {row : List Str} {v : V} (h : RowsAt H d RS) (hb : H b = some (.tup (row.map V.str))) (hl : RS.length ≤ 900) :
    ∃ H' RS', DPut H d (.ref b) v H' ∧ (∀ a, a ≠ d → H' a = H a) ∧ RowsAt H' d RS' ∧ (∀ x ∈ RS, x ∈ RS') ∧ row ∈ RS' ∧ (∀ x ∈ RS', x ∈ RS ∨ x = row) ∧ RS'.length ≤ RS.length + 1 := by
  obtain ⟨kvs, hd, hk⟩ := h
  have lk : kvs.length = RS.length := by have := congrArg List.length hk; rw [List.length_map, List.length_map] at this; exact this
  refine ⟨_, if rk row ∈ kvs.map (·.1) then RS else RS ++ [row], DPut.t hd (k := rk row) (by rw [rk_kV]; exact hb) (small1000 (by lia)), fun a ha => upd_ne ha, ⟨_, upd_same, ?_⟩, ?_⟩
  · rw [keys_putT]
    split
    · exact hk
    · rw [hk, List.map_append]; rfl
  · by_cases c : rk row ∈ kvs.map (·.1)
    · rw [if_pos c]
      refine ⟨fun x hx => hx, ?_, fun x hx => .inl hx, Nat.le_succ _⟩
      rw [hk] at c
      obtain ⟨x, hx, e⟩ := List.mem_map.mp c
      rw [← rk_inj e]; exact hx
    · rw [if_neg c]
      refine ⟨fun x hx => List.mem_append_left _ hx, List.mem_append_right _ List.mem_cons_self, fun x hx => ?_, by rw [List.length_append]; exact Nat.le_refl _⟩
      rcases List.mem_append.mp hx with h | h
      · exact .inl h
      · exact .inr (by simpa using h)
inductive spSortsOf  (vs : List V) (H : Hp) (Q : VK) (E_ : XK) : Prop
  | mk : ∀ bv bk, (vs = [bv]) → (RepB H bk bv) → (∀ sa sx, H sa = some (.tup sx) → RepSs H bk.sorts sx → Q (.ref sa) H) → spSortsOf vs H Q E_
inductive spRowsOf  (vs : List V) (H : Hp) (Q : VK) (E_ : XK) : Prop
  | mk : ∀ bv bk, (vs = [bv]) → (RepB H bk bv) → (BkW bk) → (∀ p ys RS H', H p = none → Same H H' → H' p = some (.lst ys) → KsOf H' ys (List.map rk RS) → RowsOk bk RS → RS.length ≤ 40 → Q (.ref p) H') → spRowsOf vs H Q E_
section
variable {P : Program} {w : World} {K : PySem.W.Frag} {mg : Str → Option Value} {base : Heap} {f f2 f3 f4 : Addr} {fd fd2 fd3 fd4 : FuncData}
theorem scSortsOf : FnScope ["book"] ["book"] (defScope sSortsOf) := ⟨rfl, rfl, rfl, by decide +kernel, rfl, by decide +kernel, by decide +kernel⟩
theorem ok_sortsOf (F : Fun K "sorts_of" "sorts_of" sSortsOf f fd) : FnOk P w K mg base CX0 1 f fd ["book"] spSortsOf := by
  refine F.ok scSortsOf (fun vs H Q E h => ?_) (fun cdv A outer s H vs Q E hr h => ?_)
  · obtain ⟨bv, bk, rfl, _⟩ := h
    rfl
  obtain ⟨bv, bk, rfl, ⟨a, sa, fa, fv, rfl, ha, ⟨sx, hsa, hS⟩, _⟩, q⟩ := h
  refine ⟨_, pss_one (ps_ret (pe_ix (r := rIxT K) ix_tup (pv 0) pe_int (fun _ _ => rfl))), ?_⟩
  exact ⟨_, rfl, a, _, 1, _, rfl, rfl, SqT.of ha, atI_nat (j := 1) rfl, q sa sx hsa hS⟩
noncomputable abbrev NRowsOf : List Str := ["book", "rows", "name", "downs", "ups", "form", "start"]
theorem scRowsOf : FnScope NRowsOf ["book"] (defScope sRowsOf) := ⟨rfl, rfl, rfl, by decide +kernel, rfl, by decide +kernel, by decide +kernel⟩
theorem cut_from (xs : List V) (k : Nat) : cutV xs (some (k : Int)) none = xs.drop k := by
  unfold cutV
  rw [HT.sIx_nat, HT.sIx_none, List.take_of_length_le (by rw [List.length_drop]; lia)]
  by_cases c : k ≤ xs.length
  · rw [Nat.min_eq_left c]
  · rw [Nat.min_eq_right (by lia), List.drop_length, List.drop_eq_nil_of_le (by lia)]
theorem ok_rowsOf (F : Fun K "rows_of" "rows_of" sRowsOf f fd) (G : Gb mg) (hlist : mg "list" = none)
    (GS : FnOk P w K mg base CX0 1 f2 fd2 ["book"] spSortsOf) (bS : Binds K fd2 ["book"] []) (kS : PySem.W.keepIn K (.ref f2) = true) (mS : mg "sorts_of" = some (.ref f2))
    (GF : FnOk P w K mg base CX0 1 f3 fd3 ["book"] spFormsOf) (bF : Binds K fd3 ["book"] []) (kF : PySem.W.keepIn K (.ref f3) = true) (mF : mg "forms_of" = some (.ref f3))
    (GP : FnOk P w K mg base CX0 1 f4 fd4 ["form"] spPartsOf) (bP : Binds K fd4 ["form"] []) (kP : PySem.W.keepIn K (.ref f4) = true) (mP : mg "parts_of" = some (.ref f4)) : FnOk P w K mg base CX0 2 f fd ["book"] spRowsOf := by
  refine F.ok scRowsOf (fun vs H Q E h => ?_) (fun cdv A outer s H vs Q E hr h => ?_)
  · obtain ⟨bv, bk, rfl, _⟩ := h
    rfl
  obtain ⟨bv, bk, rfl, hB, hok, q⟩ := h
  have hu := hu_of hr
  refine ⟨_, pss_cons (ps_set (i := 1) scRowsOf.nd rfl (Or.inl rfl) (pe_disp1 hu (pe_tup pa_nil) pe_bl))
    (pss_cons (ps_for PassesOwn.never rfl (pi_tup (pe_call GS hr rfl mS kS bS .nil pass0 (pa_cons (pv 0) pa_nil)))
        (pg_tup rfl (pgs_cons (pg_name (i := 2) scRowsOf.nd rfl (Or.inl rfl)) (pgs_cons (pg_name (i := 3) scRowsOf.nd rfl (Or.inl rfl)) (pgs_cons (pg_name (i := 4) scRowsOf.nd rfl (Or.inl rfl)) pgs_nil))))
        (pss_one (ps_dput hu (pv 1) (pe_tup (pa_cons (pv 2) pa_nil)) pe_bl rfl)))
    (pss_cons (ps_for PassesOwn.never rfl (pi_tup (pe_call GF hr rfl mF kF bF .nil pass0 (pa_cons (pv 0) pa_nil))) (pg_name (i := 5) scRowsOf.nd rfl (Or.inl rfl))
        (pss_one (ps_for PassesOwn.never rfl (pi_range1 rfl G.range (pa_cons (pe_callB (r := rLen K) call_len_seq rfl G.len PySem.boot_len (pa_cons (pe_call GP hr rfl mP kP bP .nil pass0 (pa_cons (pv 5) pa_nil)) pa_nil)) pa_nil)) (pg_name (i := 6) scRowsOf.nd rfl (Or.inl rfl))
          (pss_one (ps_dput hu (pv 1) (pe_slice sl_tupA (pe_call GP hr rfl mP kP bP .nil pass0 (pa_cons (pv 5) pa_nil)) (po_some (pv 6)) po_none) pe_bl rfl)))))
    (pss_one (ps_ret (pe_callTy (call_listD rfl) rfl hlist (by decide +kernel) (pa_cons (pv 1) pa_nil)))))), ?_⟩
  refine fun d hd => ⟨(by show 0 ≤ sizeLine; decide), fun e0 he0 => ?_⟩
  have s0 := same_new hd (.dT [])
  have g0 : (upd H d (.dT [])) d = some (.dT []) := upd_same
  generalize upd H d (.dT []) = H0 at s0 g0 he0 ⊢
  have s1 := same_new he0 (.tup [])
  have g1 : (upd H0 e0 (.tup [])) e0 = some (.tup []) := upd_same
  have gd1 := s1 _ _ g0
  generalize upd H0 e0 (.tup []) = H1 at s1 g1 gd1 ⊢
  refine ⟨e0, [], rfl, g1, gd1, ?_⟩
  have hd1 : ∀ y o, H y = some o → (upd H1 d (.dT [([], .bl true)])) y = some o := fun y o h => by
    rw [upd_ne (ne_of_none h hd)]; exact s1 _ _ (s0 _ _ h)
  have hr1 : RowsAt (upd H1 d (.dT [([], .bl true)])) d [[]] := ⟨_, upd_same, rfl⟩
  generalize upd H1 d (.dT [([], .bl true)]) = H2 at hd1 hr1 ⊢
  have S2 : Same H H2 := hd1
  refine ⟨_, rfl, bv, bk, rfl, hB.mono (tk_of S2), fun sa sx hsa hS => ?_⟩
  have lS := hS.len
  have h4 := hok.so.2.1
  refine ⟨sa, rfl, ⟨sx, SqT.of hsa⟩, ?_⟩
  refine for_tup (xs := sx) (fun i σ H' => i ≤ sx.length ∧ ∃ o2 o3 o4 RS, σ = [some bv, some (.ref d), o2, o3, o4, none, none] ∧ Same H H' ∧ (∀ b xs, H2 b = some (.tup xs) → H' b = some (.tup xs)) ∧ RowsAt H' d RS ∧ RS.length ≤ 1 + i ∧ [] ∈ RS ∧ (∀ s ∈ bk.sorts.take i, [Srt.name s] ∈ RS) ∧ ∀ row ∈ RS, RowIn bk row)
    ⟨Nat.zero_le _, none, none, none, [[]], rfl, S2, fun _ _ h => h, hr1, Nat.le_refl _, List.mem_cons_self, fun s h => (by cases h), fun row h => .inl (by simpa using h)⟩ (fun i σ H' _ h => by obtain ⟨_, _, _, _, _, _, _, tk, _⟩ := h; exact SqT.of (tk _ _ hsa)) ?_ ?_
  · rintro i x σ H3 hx ⟨hi, o2, o3, o4, RS, rfl, S3, tk3, hR3, hl3, he3, hs3, hin3⟩
    have hil : i < sx.length := (List.getElem?_eq_some_iff.mp hx).1
    obtain ⟨sr, hsr, a, b, c, rfl, ha, hb, hc⟩ := paired_get hS hx
    refine ⟨a, _, rfl, SqT.of (tk3 _ _ ha), rfl, _, _, rfl, _, _, rfl, _, _, rfl, rfl, ?_⟩
    refine ⟨_, rfl, _, rfl, (by show 1 ≤ sizeLine; decide), fun kt hkt => ?_⟩
    have s4 := same_new hkt (.tup [.str sr.name])
    have g4 : (upd H3 kt (.tup [.str sr.name])) kt = some (.tup [.str sr.name]) := upd_same
    have hR4 : RowsAt (upd H3 kt (.tup [.str sr.name])) d RS := by obtain ⟨kvs, e1, e2⟩ := hR3; exact ⟨kvs, s4 _ _ e1, e2⟩
    generalize upd H3 kt (.tup [.str sr.name]) = H4 at s4 g4 hR4 ⊢
    obtain ⟨H5, RS5, hp, hne, hR5, hsub, hm5, hor, hl5⟩ := hR4.put (row := [sr.name]) (v := .bl true) g4 (by lia)
    refine ⟨d, H5, rfl, hp, hil, _, _, _, RS5, rfl, ?_, ?_, hR5, by lia, hsub _ he3, ?_, ?_⟩
    · intro y o h
      rw [hne y (ne_of_none h hd)]
      exact s4 _ _ (S3 _ _ h)
    · intro b' xs h
      have hb' := s4 _ _ (tk3 _ _ h)
      rw [hne b' (fun z => by obtain ⟨kvs, e1, _⟩ := hR4; rw [z, e1] at hb'; cases hb')]
      exact hb'
    · intro s hs
      rw [List.take_add_one, hsr] at hs
      rcases List.mem_append.mp hs with h | h
      · exact hsub _ (hs3 s h)
      · have : s = sr := by simpa using h
        rw [this]; exact hm5
    · intro row hrow
      rcases hor row hrow with h | rfl
      · exact hin3 row h
      · exact .inr (.inl ⟨sr, List.mem_of_getElem? hsr, rfl⟩)
  rintro σ H3 ⟨_, o2, o3, o4, RS, rfl, S3, _, hR3, hl3, he3, hs3, hin3⟩
  rw [← lS, List.take_length] at hs3
  refine ⟨_, rfl, bv, bk, rfl, hB.mono (tk_of S3), fun fa fv hfa hF => ?_⟩
  have lF := hF.len
  have h10 := hok.few
  refine ⟨fa, rfl, ⟨fv, SqT.of hfa⟩, ?_⟩
  refine for_tup (xs := fv) (fun j σ H' => j ≤ fv.length ∧ ∃ o5 o6 RS, σ = [some bv, some (.ref d), o2, o3, o4, o5, o6] ∧ Same H H' ∧ (∀ b xs, H3 b = some (.tup xs) → H' b = some (.tup xs)) ∧ RowsAt H' d RS ∧ RS.length ≤ 5 + 3 * j ∧ [] ∈ RS ∧ (∀ s ∈ bk.sorts, [Srt.name s] ∈ RS) ∧ (∀ fr ∈ bk.forms.take j, ∀ k, k < (nmsOf fr).length → (nmsOf fr).drop k ∈ RS) ∧ ∀ row ∈ RS, RowIn bk row)
    ⟨Nat.zero_le _, none, none, RS, rfl, S3, fun _ _ h => h, hR3, by lia, he3, hs3, fun fr h => (by cases h), hin3⟩ (fun j σ H' _ h => by obtain ⟨_, _, _, _, _, _, tk, _⟩ := h; exact SqT.of (tk _ _ hfa)) ?_ ?_
  · rintro j x σ H4 hx ⟨hj, o5, o6, RS4, rfl, S4, tk4, hR4, hl4, he4, hs4, hf4, hin4⟩
    have hjl : j < fv.length := (List.getElem?_eq_some_iff.mp hx).1
    obtain ⟨fr, hfr, hRF⟩ := paired_get hF hx
    have hfm := List.mem_of_getElem? hfr
    have hp3 := (hok.fo fr hfm).2.2
    have hnl : (nmsOf fr).length = fr.parts.length := List.length_map _
    refine ⟨_, rfl, x, fr, rfl, hRF.mono (fun b xs h => tk4 b xs h), fun pa hpa => ⟨pa, _, rfl, .inr (SqT.of hpa), _, rfl, ?_, ?_, ?_⟩⟩
    · rw [partsV_len]; lia
    · rw [partsV_len]; lia
    rw [partsV_len, Int.toNat_natCast]
    refine for_range (fun i σ H' => i ≤ fr.parts.length ∧ ∃ o6 RS, σ = [some bv, some (.ref d), o2, o3, o4, some x, o6] ∧ Same H H' ∧ (∀ b xs, H4 b = some (.tup xs) → H' b = some (.tup xs)) ∧ RowsAt H' d RS ∧ RS.length ≤ 5 + 3 * j + i ∧ (∀ y ∈ RS4, y ∈ RS) ∧ (∀ k, k < i → (nmsOf fr).drop k ∈ RS) ∧ ∀ row ∈ RS, RowIn bk row)
      ⟨Nat.zero_le _, o6, RS4, rfl, S4, fun _ _ h => h, hR4, by lia, fun _ h => h, fun k h => absurd h (Nat.not_lt_zero _), hin4⟩ ?_ ?_
    · rintro i σ H5 hi ⟨_, o6', RS5, rfl, S5, tk5, hR5, hl5, hsub5, hk5, hin5⟩
      refine ⟨_, rfl, _, rfl, x, fr, rfl, hRF.mono (fun b xs h => tk5 b xs (tk4 b xs h)), fun pa2 hpa2 => ?_⟩
      refine ⟨_, rfl, _, rfl, pa2, _, rfl, hpa2, fun kt H6 s6 g6 => ?_⟩
      rw [show (0 + (i : Int)) = ((i : Nat) : Int) by lia, cut_from, nms_parts, ← List.map_drop] at g6
      have hR6 : RowsAt H6 d RS5 := by obtain ⟨kvs, e1, e2⟩ := hR5; exact ⟨kvs, s6 _ _ e1, e2⟩
      obtain ⟨H7, RS7, hp, hne, hR7, hsub, hm7, hor, hl7⟩ := hR6.put (row := (nmsOf fr).drop i) (v := .bl true) g6 (by lia)
      refine ⟨d, H7, rfl, hp, hi, _, RS7, rfl, ?_, ?_, hR7, by lia, fun y h => hsub _ (hsub5 _ h), ?_, ?_⟩
      · intro y o h
        rw [hne y (ne_of_none h hd)]
        exact s6 _ _ (S5 _ _ h)
      · intro b' xs h
        have hb' := s6 _ _ (tk5 _ _ h)
        rw [hne b' (fun z => by obtain ⟨kvs, e1, _⟩ := hR6; rw [z, e1] at hb'; cases hb')]
        exact hb'
      · intro k hk
        by_cases c : k < i
        · exact hsub _ (hk5 k c)
        · have : k = i := by lia
          subst this
          exact hm7
      · intro row hrow
        rcases hor row hrow with h | rfl
        · exact hin5 row h
        · exact .inr (.inr ⟨fr, i, hfm, by lia, rfl⟩)
    · rintro σ H5 ⟨_, o6', RS5, rfl, S5, tk5, hR5, hl5, hsub5, hk5, hin5⟩
      refine ⟨hjl, _, _, RS5, rfl, S5, fun b xs h => tk5 b xs (tk4 b xs h), hR5, by lia, hsub5 _ he4, fun s hs => hsub5 _ (hs4 s hs), ?_, hin5⟩
      intro fr' hfr' k hk
      rw [List.take_add_one, hfr] at hfr'
      rcases List.mem_append.mp hfr' with h | h
      · exact hsub5 _ (hf4 fr' h k hk)
      · have : fr' = fr := by simpa using h
        subst this
        exact hk5 k (by lia)
  · rintro σ H4 ⟨_, o5, o6, RS4, rfl, S4, _, ⟨kvs, gd, hk⟩, hl4, he4, hs4, hf4, hin4⟩
    rw [← lF, List.take_length] at hf4
    refine ⟨_, rfl, d, kvs, rfl, gd, fun p ys hp hK => ?_⟩
    rw [hk] at hK
    have s5 := same_new hp (.lst ys)
    refine q p ys RS4 _ (S4.free hp) (S4.trans s5) upd_same (hK.mono fun b xs h => s5 _ _ h) (fun row => ⟨?_, hin4 row⟩) (by lia)
    rintro (rfl | ⟨s, hs, rfl⟩ | ⟨fr, k, hf, hkl, rfl⟩)
    · exact he4
    · exact hs4 s hs
    · exact hf4 fr hf k hkl
end
end My
namespace My
open PySem L2
theorem comp2_pr {J : It} {α : Type} {as : List α} {A : α → V → Prop} {xs : List V} {fr : List Nat} {te : TE} {σ : St} {H1 : Hp} {Q : VK} (hn : xs.length ≤ 1000) (hP : Paired A as xs)
    (hgo : ∀ i H, Same H1 H → i < xs.length → J.go i H) (hst : ∀ H, Same H1 H → J.stop xs.length H) (hy : ∀ i H v H', Same H1 H → J.yld i H v H' → H' = H ∧ xs[i]? = some v)
    (R : Hp → α → V → Prop) (mono : ∀ {H H' : Hp} {a : α} {v : V}, TK H H' → R H a v → R H' a v)
    (hte : ∀ a v H (k : VK), a ∈ as → A a v → Same H1 H → ∃ T v1 v2, v = .ref T ∧ H T = some (.tup [v1, v2]) ∧ ((∀ u H', Same H H' → R H' a u → k u H') → te (some v1 :: some v2 :: caps fr σ) H k))
    (hd : ∀ p zs H', H1 p = none → Same H1 H' → H' p = some (.lst zs) → Paired (R H') as zs → Q (.ref p) H') : tCompW2 fr te σ J H1 Q := by
  intro p hp
  have hl : as.length = xs.length := Paired.length hP
  refine ⟨fun i m zs H => i ≤ xs.length ∧ m = xs.length - i ∧ Same H1 H ∧ H p = some (.lst zs) ∧ zs.length = i ∧ Paired (R H) (as.take i) zs, ⟨_, Nat.zero_le _, rfl, same_new hp _, upd_same, rfl, .nil⟩, ?_⟩
  rintro i m zs H ⟨hi, hm, sm, gp, hz, hT⟩
  refine ⟨gp, ?_⟩
  by_cases e : i = xs.length
  · subst e
    rw [← hl, List.take_length] at hT
    exact .inl ⟨hst H sm, hd p zs H hp sm gp hT⟩
  · have hlt : i < xs.length := by lia
    refine .inr ⟨hgo i H sm hlt, small1000 (by lia), fun v H' hv => ?_⟩
    obtain ⟨rfl, hv2⟩ := hy i H v H' sm hv
    obtain ⟨a, ha, hA⟩ := paired_get hP hv2
    obtain ⟨T, v1, v2, e1, e2, go⟩ := hte a v _ _ (List.mem_of_getElem? ha) hA sm
    refine ⟨T, v1, v2, e1, e2, go fun u H2 s2 r => ?_⟩
    have gp2 := s2 _ _ gp
    have tk : TK H2 (upd H2 p (.lst (zs ++ [u]))) := TK.lst gp2
    refine ⟨gp2, xs.length - (i + 1), by lia, by lia, rfl, ?_, upd_same, by rw [List.length_append, hz]; rfl, ?_⟩
    · intro b o hb
      rw [upd_ne (ne_of_none hb hp)]
      exact s2 _ _ (sm _ _ hb)
    · rw [List.take_add_one, ha]
      exact Paired.snoc (Paired.mapP hT fun _ _ r => mono ((tk_of s2).trans tk) r) (mono tk r)
noncomputable def WK (H : Hp) (t : Nat) (fr : Frm) (z : V) : Prop := ∃ T b pa, z = .ref T ∧ H T = some (.tup [.str fr.name, .ref b]) ∧ H b = some (.tup [.ref pa, .int (t : Int)]) ∧ H pa = some (.tup ((nmsOf fr).map V.str))
theorem WK.mono {H H' : Hp} (k : TK H H') {t : Nat} {fr : Frm} {z : V} : WK H t fr z → WK H' t fr z := fun ⟨T, b, pa, e, h1, h2, h3⟩ => ⟨T, b, pa, e, k _ _ h1, k _ _ h2, k _ _ h3⟩
noncomputable def CK (H : Hp) (s : Str) (r : List Str) (t : Nat) (j : Nat) (z : V) : Prop := ∃ T a b c d, z = .ref T ∧ H T = some (.tup [.ref a, .ref b]) ∧ H a = some (.tup [.ref c, .int ((j + 1 : Nat) : Int)]) ∧ H c = some (.tup [.str s]) ∧
  H b = some (.tup [.ref d, .int ((t - (j + 1) : Nat) : Int)]) ∧ H d = some (.tup (r.map V.str))
theorem CK.mono {H H' : Hp} (k : TK H H') {s : Str} {r : List Str} {t j : Nat} {z : V} : CK H s r t j z → CK H' s r t j z := fun ⟨T, a, b, c, d, e, h1, h2, h3, h4, h5⟩ => ⟨T, a, b, c, d, e, k _ _ h1, k _ _ h2, k _ _ h3, k _ _ h4, k _ _ h5⟩
noncomputable def ownOf (bk : Bk) (s : Str) : List Frm := bk.forms.filter fun fr => decide (fr.own.name = s)
inductive spWithKeys  (vs : List V) (H : Hp) (Q : VK) (E_ : XK) : Prop
  | mk : ∀ bv bk ra s t, (vs = [bv, .ref ra, .int ((t : Nat) : Int)]) → (RepB H bk bv) → (BkW bk) → (H ra = some (.tup [.str s])) → (∀ p zs H', H p = none → Same H H' → H' p = some (.lst zs) → Paired (WK H' (t - 1)) (if t = 0 then [] else ownOf bk s) zs → Q (.ref p) H') → spWithKeys vs H Q E_
inductive spCuts  (vs : List V) (H : Hp) (Q : VK) (E_ : XK) : Prop
  | mk : ∀ ra s r t, (vs = [.ref ra, .int ((t : Nat) : Int)]) → (H ra = some (.tup (.str s :: List.map V.str r))) → (t ≤ 24) → (∀ p zs H', H p = none → Same H H' → H' p = some (.lst zs) → Paired (CK H' s r t) (List.range (t - 1)) zs → Q (.ref p) H') → spCuts vs H Q E_
section
variable {P : Program} {w : World} {K : PySem.W.Frag} {mg : Str → Option Value} {base : Heap} {f f2 f3 f4 : Addr} {fd fd2 fd3 fd4 : FuncData}
theorem scWithKeys : FnScope ["book", "row", "total"] ["book", "row", "total"] (defScope sWithKeys) := ⟨rfl, rfl, rfl, by decide +kernel, rfl, by decide +kernel, by decide +kernel⟩
theorem ok_withKeys (F : Fun K "forms_with_keys" "forms_with_keys" sWithKeys f fd)
    (GF : FnOk P w K mg base CX0 1 f2 fd2 ["book"] spFormsOf) (bF : Binds K fd2 ["book"] []) (kF : PySem.W.keepIn K (.ref f2) = true) (mF : mg "forms_of" = some (.ref f2))
    (GS : FnOk P w K mg base CX0 1 f3 fd3 ["form"] spSortOfForm) (bS : Binds K fd3 ["form"] []) (kS : PySem.W.keepIn K (.ref f3) = true) (mS : mg "sort_of_form" = some (.ref f3))
    (GP : FnOk P w K mg base CX0 1 f4 fd4 ["form"] spPartsOf) (bP : Binds K fd4 ["form"] []) (kP : PySem.W.keepIn K (.ref f4) = true) (mP : mg "parts_of" = some (.ref f4)) : FnOk P w K mg base CX0 2 f fd ["book", "row", "total"] spWithKeys := by
  refine F.ok scWithKeys (fun vs H Q E h => ?_) (fun cdv A outer s H vs Q E hr h => ?_)
  · obtain ⟨bv, bk, ra, s, t, rfl, _⟩ := h
    rfl
  obtain ⟨bv, bk, ra, sn, t, rfl, hB, hok, hra, q⟩ := h
  refine ⟨_, pss_cons (ps_if (pt_cmp (pc_eqI (pv 2) pe_int)) (pss_one (ps_ret (pe_lst pa_nil))) pss_nil)
    (pss_one (ps_ret (pe_compT (sc0 := defScope sWithKeys) (N0 := ["book", "row", "total"]) (ys := ["row", "total"]) (fr := [1, 2]) rfl (pi_tup (pe_call GF hr rfl mF kF bF .nil pass0 (pa_cons (pv 0) pa_nil))) rfl rfl
        ⟨rfl, by decide +kernel, by decide +kernel, by decide +kernel, by decide +kernel, by decide +kernel, rfl, by decide +kernel⟩
        (fun C s H ex => pt_cmpR op_eq (pe_call GS hr rfl mS kS bS .nil pass0 (pa_cons (pv 0) pa_nil)) (pe_ix (r := rIxT K) ix_tup (pv 1) pe_int (fun _ _ => rfl)) (nomark _))
        (fun C s H ex => pe_tup (pa_cons (pe_ix (r := rIxT K) ix_tup (pv 0) pe_int (fun _ _ => rfl)) (pa_cons (pe_tup (pa_cons (pe_call GP hr rfl mP kP bP .nil pass0 (pa_cons (pv 0) pa_nil)) (pa_cons (pe_op op_sub (pv 2) pe_int) pa_nil))) pa_nil)))))), ?_⟩
  refine ⟨_, rfl, _, _, rfl, rfl, _, rfl, ?_⟩
  refine ite2 (fun c => ?_) (fun c => ?_)
  · have t0 : t = 0 := by have := of_decide_eq_true c; lia
    subst t0
    refine ⟨(by show 0 ≤ sizeLine; decide), fun p hp => q p [] _ hp (same_new hp _) upd_same ?_⟩
    rw [if_pos rfl]; exact .nil
  · have t0 : ¬ t = 0 := fun z => c (by rw [z]; rfl)
    rw [if_neg t0] at q
    refine ⟨_, rfl, bv, bk, rfl, hB, fun fa fv hfa hF => ?_⟩
    have lF := hF.len
    have h10 := hok.few
    refine ⟨fa, rfl, ⟨fv, SqT.of hfa⟩, ?_⟩
    refine compT_mk (by lia) hF (itt_go hfa) (itt_st hfa) (itt_y hfa) (fun fr => decide (fr.own.name = sn)) (fun H fr z => WK H (t - 1) fr z) (fun k h => h.mono k) ?_ ?_ ?_
    · rintro fr v H' k _ hRF s' hk
      refine ⟨_, rfl, v, fr, rfl, hRF.mono (tk_of s'), _, rfl, ra, _, 0, .str sn, rfl, rfl, SqT.of (s' _ _ hra), atI_nat (j := 0) rfl, rfl, _, rfl, ?_⟩
      rw [show decide (V.str fr.own.name = V.str sn) = decide (fr.own.name = sn) from decide_eq_decide.mpr ⟨fun e => V.str.inj e, fun e => by rw [e]⟩]
      exact hk
    · rintro fr v H' k _ hRF _ s' hk
      have hRF' := hRF.mono (tk_of s')
      have hRF2 := hRF'
      obtain ⟨b, pa, ra', rv, rfl, hb, hpa, _⟩ := hRF2
      refine ⟨_, rfl, b, _, 0, .str fr.name, rfl, rfl, SqT.of hb, atI_nat (j := 0) rfl, _, rfl, _, fr, rfl, hRF', fun pa2 hpa2 => ?_⟩
      refine ⟨_, rfl, _, _, rfl, rfl, (by show 2 ≤ sizeLine; decide), fun p1 hp1 => ?_⟩
      rw [show (V.int (((t : Nat) : Int) - 1)) = V.int ((t - 1 : Nat) : Int) from congrArg V.int (show ((t : Nat) : Int) - 1 = ((t - 1 : Nat) : Int) by lia)]
      have s1 := same_new hp1 (.tup [.ref pa2, .int ((t - 1 : Nat) : Int)])
      have g1 : (upd H' p1 (.tup [.ref pa2, .int ((t - 1 : Nat) : Int)])) p1 = some (.tup [.ref pa2, .int ((t - 1 : Nat) : Int)]) := upd_same
      generalize upd H' p1 (.tup [.ref pa2, .int ((t - 1 : Nat) : Int)]) = H1 at s1 g1 ⊢
      refine ⟨(by show 2 ≤ sizeLine; decide), fun p2 hp2 => ?_⟩
      have s2 := same_new hp2 (.tup [.str fr.name, .ref p1])
      exact hk _ _ (s1.trans s2) ⟨p2, p1, pa2, rfl, upd_same, s2 _ _ g1, by rw [← nms_parts]; exact s2 _ _ (s1 _ _ hpa2)⟩
    · intro p zs H' hp s' gp hz
      exact q p zs H' hp s' gp hz
theorem scCuts : FnScope ["row", "total"] ["row", "total"] (defScope sCuts) := ⟨rfl, rfl, rfl, by decide +kernel, rfl, by decide +kernel, by decide +kernel⟩
theorem cut_one (x : V) (r : List V) : cutV (x :: r) none (some 1) = [x] := by
  unfold cutV
  rw [HT.sIx_none, show (HT.sIx (x :: r).length (x :: r).length (some 1)) = min 1 (x :: r).length from HT.sIx_nat _ _ 1, List.length_cons, Nat.min_eq_left (by lia)]
  rfl
theorem ok_cuts (F : Fun K "cuts_of" "cuts_of" sCuts f fd) (G : Gb mg) : FnOk P w K mg base CX0 1 f fd ["row", "total"] spCuts := by
  refine F.ok scCuts (fun vs H Q E h => ?_) (fun cdv A outer s H vs Q E hr h => ?_)
  · obtain ⟨ra, s, r, t, rfl, _⟩ := h
    rfl
  obtain ⟨ra, sn, r, t, rfl, hra, ht, q⟩ := h
  refine ⟨_, pss_one (ps_ret (pe_comp (sc0 := defScope sCuts) (N0 := ["row", "total"]) (ys := ["row", "total"]) (fr := [0, 1]) rfl (pi_range2 rfl G.range (pa_cons pe_int (pa_cons (pv 1) pa_nil))) rfl rfl
        ⟨rfl, by decide +kernel, by decide +kernel, by decide +kernel, by decide +kernel, by decide +kernel, rfl, by decide +kernel⟩
        (fun C s H ex => pe_tup (pa_cons (pe_tup (pa_cons (pe_slice sl_tupA (pv 1) po_none (po_some pe_int)) (pa_cons (pv 0) pa_nil))) (pa_cons (pe_tup (pa_cons (pe_slice sl_tupA (pv 1) (po_some pe_int) po_none) (pa_cons (pe_op op_sub (pv 2) (pv 0)) pa_nil))) pa_nil))))), ?_⟩
  refine ⟨_, rfl, 1, _, rfl, ⟨by decide, by decide, by lia, by lia⟩, ?_⟩
  have en : (((t : Nat) : Int) - 1).toNat = t - 1 := by lia
  rw [en]
  have hx : ∀ i, i < t - 1 → ((List.range (t - 1)).map fun j => V.int ((j + 1 : Nat) : Int))[i]? = some (V.int ((i + 1 : Nat) : Int)) := fun i hi => by
    rw [List.getElem?_map, List.getElem?_range hi]; rfl
  have hl : ((List.range (t - 1)).map fun j => V.int ((j + 1 : Nat) : Int)).length = t - 1 := by rw [List.length_map, List.length_range]
  have hP : Paired (fun (j : Nat) (v : V) => v = V.int ((j + 1 : Nat) : Int)) (List.range (t - 1)) ((List.range (t - 1)).map fun j => V.int ((j + 1 : Nat) : Int)) := by
    generalize List.range (t - 1) = l
    induction l with
    | nil => exact .nil
    | cons a r ih => exact .cons rfl ih
  refine comp_pr (by lia) hP (fun i H _ h => itr_go i H (by lia)) (fun H _ => by rw [hl]; exact itr_stop H) (fun i H v H' hi _ h => ?_) (fun H j z => CK H sn r t j z) (fun k h => h.mono k) ?_ ?_
  · refine ⟨h.1, ?_⟩
    rw [hx i (by lia), h.2]
    exact congrArg (fun x => some (V.int x)) (show ((i + 1 : Nat) : Int) = 1 + (i : Int) by lia)
  · intro j v H1 k hj hv s1 hk
    subst hv
    have hj' := List.mem_range.mp hj
    have hra1 := s1 _ _ hra
    refine ⟨_, rfl, 1, rfl, ra, _, rfl, hra1, fun pc H2 s2 g2 => ?_⟩
    rw [cut_one] at g2
    refine ⟨_, rfl, (by show 2 ≤ sizeLine; decide), fun pa hpa => ?_⟩
    have s3 := same_new hpa (.tup [.ref pc, .int ((j + 1 : Nat) : Int)])
    have g3 : (upd H2 pa (.tup [.ref pc, .int ((j + 1 : Nat) : Int)])) pa = some (.tup [.ref pc, .int ((j + 1 : Nat) : Int)]) := upd_same
    generalize upd H2 pa (.tup [.ref pc, .int ((j + 1 : Nat) : Int)]) = H3 at s3 g3 ⊢
    refine ⟨_, rfl, 1, rfl, ra, _, rfl, s3 _ _ (s2 _ _ hra1), fun pd H4 s4 g4 => ?_⟩
    rw [show cutV (V.str sn :: r.map V.str) (some 1) none = r.map V.str from cut_from _ 1] at g4
    refine ⟨_, rfl, _, rfl, _, _, rfl, rfl, (by show 2 ≤ sizeLine; decide), fun pb hpb => ?_⟩
    rw [show (V.int (((t : Nat) : Int) - ((j + 1 : Nat) : Int))) = V.int ((t - (j + 1) : Nat) : Int) from congrArg V.int (show ((t : Nat) : Int) - ((j + 1 : Nat) : Int) = ((t - (j + 1) : Nat) : Int) by lia)]
    have s5 := same_new hpb (.tup [.ref pd, .int ((t - (j + 1) : Nat) : Int)])
    have g5 : (upd H4 pb (.tup [.ref pd, .int ((t - (j + 1) : Nat) : Int)])) pb = some (.tup [.ref pd, .int ((t - (j + 1) : Nat) : Int)]) := upd_same
    generalize upd H4 pb (.tup [.ref pd, .int ((t - (j + 1) : Nat) : Int)]) = H5 at s5 g5 ⊢
    refine ⟨(by show 2 ≤ sizeLine; decide), fun pT hpT => ?_⟩
    have s6 := same_new hpT (.tup [.ref pa, .ref pb])
    exact hk _ _ (Same.trans s2 (s3.trans (Same.trans s4 (s5.trans s6)))) ⟨pT, pa, pb, pc, pd, rfl, upd_same, s6 _ _ (s5 _ _ (s4 _ _ g3)), s6 _ _ (s5 _ _ (s4 _ _ (s3 _ _ g2))), s6 _ _ g5, s6 _ _ (s5 _ _ g4)⟩
  · intro p zs H' hp s' gp hz
    exact q p zs H' hp s' gp hz
end
noncomputable def CntOk (bk : Bk) (kvs : List ((List Key × Key) × V)) (t : Nat) : Prop := ∀ row k, RowIn bk row → k < t → valV kvs (rk row, Sum.inl ((k : Nat) : Int)) = some (.int ((Rn bk row k : Nat) : Int))
inductive spCountOf  (vs : List V) (H : Hp) (Q : VK) (E_ : XK) : Prop
  | mk : ∀ bv bk d ra row t kvs, (vs = [bv, .ref d, .ref ra, .int ((t : Nat) : Int)]) → (RepB H bk bv) → (BkW bk) → (H d = some (.dP kvs)) → (H ra = some (.tup (List.map V.str row))) → (RowIn bk row) → (t ≤ 24) → (CntOk bk kvs t) → (∀ H', Same H H' → Q (.int ((Rn bk row t : Nat) : Int)) H') → spCountOf vs H Q E_
section
variable {P : Program} {w : World} {K : PySem.W.Frag} {mg : Str → Option Value} {base : Heap} {f f2 f3 f4 : Addr} {fd fd2 fd3 fd4 : FuncData}
theorem natL (ms : List Nat) : (ms.map fun m => ((m : Nat) : Int)).map V.int = ms.map fun m => V.int ((m : Nat) : Int) := by rw [List.map_map]; rfl
theorem scCountOf : FnScope ["book", "counts", "row", "total"] ["book", "counts", "row", "total"] (defScope sCountOf) := ⟨rfl, rfl, rfl, by decide +kernel, rfl, by decide +kernel, by decide +kernel⟩
theorem ok_countOf (F : Fun K "count_of" "count_of" sCountOf f fd) (G : Gb mg) (hsum : mg "sum" = none)
    (GW : FnOk P w K mg base CX0 2 f2 fd2 ["book", "row", "total"] spWithKeys) (bW : Binds K fd2 ["book", "row", "total"] []) (kW : PySem.W.keepIn K (.ref f2) = true) (mW : mg "forms_with_keys" = some (.ref f2))
    (GC : FnOk P w K mg base CX0 1 f3 fd3 ["row", "total"] spCuts) (bC : Binds K fd3 ["row", "total"] []) (kC : PySem.W.keepIn K (.ref f3) = true) (mC : mg "cuts_of" = some (.ref f3)) : FnOk P w K mg base CX0 3 f fd ["book", "counts", "row", "total"] spCountOf := by
  refine F.ok scCountOf (fun vs H Q E h => ?_) (fun cdv A outer s H vs Q E hr h => ?_)
  · obtain ⟨bv, bk, d, ra, row, t, kvs, rfl, _⟩ := h
    rfl
  obtain ⟨bv, bk, d, ra, row, t, kvs, rfl, hB, hok, hd, hra, hin, ht, hcnt, q⟩ := h
  have hu := hu_of hr
  have hr1 := hr.mono (show 1 ≤ 2 by decide)
  have hfew := hok.two
  refine ⟨_, pss_cons (ps_if (pt_cmpR (op_eq_nilT hr.units0) (pv 2) (pe_tup pa_nil) (nomark _)) (pss_one (ps_ret (pe_ifExp (pt_cmp (pc_eqI (pv 3) pe_int)) pe_int pe_int))) pss_nil)
    (pss_cons (ps_if (pt_cmp (pc_eqI (pe_callB (r := rLen K) call_len_seq rfl G.len PySem.boot_len (pa_cons (pv 2) pa_nil)) pe_int))
      (pss_one (ps_ret (pe_callB (call_sumB rfl) rfl hsum (by decide +kernel) (pa_cons (pe_comp2 (sc0 := defScope sCountOf) (N0 := ["book", "counts", "row", "total"]) (ys := ["counts"]) (fr := [1]) rfl (pi_list (pe_call GW hr rfl mW kW bW .nil pass0 (pa_cons (pv 0) (pa_cons (pv 2) (pa_cons (pv 3) pa_nil))))) rfl rfl
        ⟨rfl, by decide +kernel, by decide +kernel, by decide +kernel, by decide +kernel, by decide +kernel, by decide +kernel, rfl, by decide +kernel⟩
        (fun C s H ex => pe_dget hu (pv 2) (pv 1) (fun _ _ => rfl))) pa_nil)))) pss_nil)
    (pss_one (ps_ret (pe_callB (call_sumB rfl) rfl hsum (by decide +kernel) (pa_cons (pe_comp2 (sc0 := defScope sCountOf) (N0 := ["book", "counts", "row", "total"]) (ys := ["counts"]) (fr := [1]) rfl (pi_list (pe_call GC hr1 rfl mC kC bC .nil pass0 (pa_cons (pv 2) (pa_cons (pv 3) pa_nil)))) rfl rfl
        ⟨rfl, by decide +kernel, by decide +kernel, by decide +kernel, by decide +kernel, by decide +kernel, by decide +kernel, rfl, by decide +kernel⟩
        (fun C s H ex => pe_op op_mulB (pe_dget hu (pv 2) (pv 0) (fun _ _ => rfl)) (pe_dget hu (pv 2) (pv 1) (fun _ _ => rfl)))) pa_nil))))), ?_⟩
  refine ⟨_, rfl, (by show 0 ≤ sizeLine; decide), fun e0 he0 => ?_⟩
  have s0 := same_new he0 (.tup [])
  have g0 : (upd H e0 (.tup [])) e0 = some (.tup []) := upd_same
  generalize upd H e0 (.tup []) = H0 at s0 g0 ⊢
  have hra0 := s0 _ _ hra
  have hd0 := s0 _ _ hd
  refine ⟨ra, e0, _, rfl, rfl, SqT.of hra0, SqT.of g0, _, rfl, ?_⟩
  match row, hin, hra0, q with
  | [], hin, hra0, q =>
    refine iteT ⟨_, rfl, _, _, rfl, rfl, _, rfl, ?_⟩
    rw [Rn_nil] at q
    refine ite2 (fun c => ?_) (fun c => ?_)
    · have : t = 0 := by have := of_decide_eq_true c; lia
      rw [if_pos this] at q
      exact q H0 s0
    · have : ¬ t = 0 := fun z => c (by rw [z]; rfl)
      rw [if_neg this] at q
      exact q H0 s0
  | [sn], hin, hra0, q =>
    refine iteF ⟨_, rfl, ra, _, rfl, .inr (SqT.of hra0), _, _, rfl, rfl, _, rfl, iteT ?_⟩
    refine ⟨_, rfl, _, rfl, _, rfl, bv, bk, ra, sn, t, rfl, hB.mono (tk_of s0), hok, hra0, fun p zs H1 hp s1 gp hz => ?_⟩
    refine ⟨p, rfl, ⟨_, SqL.of gp⟩, ?_⟩
    have lz := Paired.length hz
    have lz10 : zs.length ≤ 10 := by
      rw [← lz]
      split
      · exact Nat.zero_le _
      · exact Nat.le_trans (List.length_filter_le _ _) hok.few
    have hd1 := s1 _ _ hd0
    refine comp2_pr (by lia) hz (itl_go gp) (itl_st gp) (itl_y gp) (fun _ fr v => v = .int ((Rn bk (nmsOf fr) (t - 1) : Nat) : Int)) (fun _ h => h) ?_ ?_
    · rintro fr v H2 k hfr ⟨T, b, pa, rfl, h1, h2, h3⟩ s2
      refine ⟨T, _, _, rfl, s2 _ _ h1, fun hk => ?_⟩
      have t0 : ¬ t = 0 := fun z => by rw [if_pos z] at hfr; cases hfr
      rw [if_neg t0] at hfr
      have hfm := (List.mem_filter.mp hfr).1
      refine ⟨_, rfl, _, rfl, d, .int ((Rn bk (nmsOf fr) (t - 1) : Nat) : Int), rfl, ?_, hk _ _ (fun _ _ h => h) rfl⟩
      rw [← hcnt (nmsOf fr) (t - 1) (RowIn.form hfm) (by lia)]
      exact DGet.p (s2 _ _ hd1) (k := Sum.inl (((t - 1 : Nat)) : Int)) (s2 _ _ h2) (by rw [rk_kV]; exact s2 _ _ h3)
    · intro p2 ws H2 hp2 s2 g2 hw
      have ew := paired_eq hw
      subst ew
      refine ⟨p2, ((if t = 0 then [] else ownOf bk sn).map fun fr => Rn bk (nmsOf fr) (t - 1)).map fun m => ((m : Nat) : Int), rfl, SqL.of ?_, ?_⟩
      · rw [g2, natL, List.map_map]; rfl
      · rw [sumI_nat]
        rw [Rn_one hfew] at q
        by_cases c : t = 0
        · rw [if_pos c] at q ⊢
          exact q H2 (s0.trans (s1.trans s2))
        · rw [if_neg c] at q ⊢
          exact q H2 (s0.trans (s1.trans s2))
  | sn :: s2n :: r, hin, hra0, q =>
    refine iteF ⟨_, rfl, ra, _, rfl, .inr (SqT.of hra0), _, _, rfl, rfl, _, rfl, ?_⟩
    refine ite2 (fun c => ?_) (fun _ => ?_)
    · exfalso
      have c' := of_decide_eq_true c
      rw [List.length_map] at c'
      have : ((r.length + 1 + 1 : Nat) : Int) = 1 := c'
      lia
    obtain ⟨hin1, hin2⟩ := hin.split hok
    have l1 := hin1.len hok
    have l2 := hin2.len hok
    refine ⟨_, rfl, _, rfl, ra, sn, s2n :: r, t, rfl, hra0, ht, fun p zs H1 hp s1 gp hz => ?_⟩
    refine ⟨p, rfl, ⟨_, SqL.of gp⟩, ?_⟩
    have lz := Paired.length hz
    rw [List.length_range] at lz
    have hd1 := s1 _ _ hd0
    refine comp2_pr (by lia) hz (itl_go gp) (itl_st gp) (itl_y gp) (fun _ j v => v = .int ((Rn bk [sn] (j + 1) * Rn bk (s2n :: r) (t - (j + 1)) : Nat) : Int)) (fun _ h => h) ?_ ?_
    · rintro j v H2 k hj ⟨T, a, b, c, d2, rfl, h1, h2, h3, h4, h5⟩ s2
      have hj' := List.mem_range.mp hj
      refine ⟨T, _, _, rfl, s2 _ _ h1, fun hk => ?_⟩
      refine ⟨_, rfl, _, rfl, d, .int ((Rn bk [sn] (j + 1) : Nat) : Int), rfl, ?_, ?_⟩
      · rw [← hcnt [sn] (j + 1) hin1 (by lia)]
        exact DGet.p (s2 _ _ hd1) (k := Sum.inl (((j + 1 : Nat)) : Int)) (s2 _ _ h2) (s2 _ _ h3)
      refine ⟨_, rfl, _, rfl, d, .int ((Rn bk (s2n :: r) (t - (j + 1)) : Nat) : Int), rfl, ?_, ?_⟩
      · rw [← hcnt (s2n :: r) (t - (j + 1)) hin2 (by lia)]
        exact DGet.p (s2 _ _ hd1) (k := Sum.inl (((t - (j + 1) : Nat)) : Int)) (s2 _ _ h4) (by rw [rk_kV]; exact s2 _ _ h5)
      have b1 := Rn_lt hfew (t := j + 1) (row := [sn]) (by lia) (by lia)
      have b2 := Rn_lt hfew (t := t - (j + 1)) (row := s2n :: r) (by lia) (by lia)
      have p400 : (2 : Nat) ^ 400 ≤ 2 ^ 2000 := Nat.pow_le_pow_right (by decide) (by decide)
      refine ⟨_, _, rfl, rfl, mul_ok (Nat.lt_of_lt_of_le b1 p400) (Nat.lt_of_lt_of_le b2 p400), hk _ _ (fun _ _ h => h) ?_⟩
      exact congrArg V.int (Int.natCast_mul _ _).symm
    · intro p2 ws H2 hp2 s2 g2 hw
      have ew := paired_eq hw
      subst ew
      refine ⟨p2, ((List.range (t - 1)).map fun j => Rn bk [sn] (j + 1) * Rn bk (s2n :: r) (t - (j + 1))).map fun m => ((m : Nat) : Int), rfl, SqL.of ?_, ?_⟩
      · rw [g2, natL, List.map_map]; rfl
      · rw [sumI_nat, ← Rn_cons hfew]
        exact q H2 (s0.trans (s1.trans s2))
end
end My
namespace My
open PySem L2
noncomputable def KeysIn (bk : Bk) (kvs : List ((List Key × Key) × V)) : Prop := ∀ k v, valV kvs k = some v → ∃ row, RowIn bk row ∧ k.1 = rk row
inductive spUpTo  (vs : List V) (H : Hp) (Q : VK) (E_ : XK) : Prop
  | mk : ∀ bv bk n, (vs = [bv, .int ((n : Nat) : Int)]) → (RepB H bk bv) → (BkW bk) → (n ≤ 24) → (∀ d kvs H', H d = none → Same H H' → H' d = some (.dP kvs) → CntOk bk kvs (n + 1) → KeysIn bk kvs → Q (.ref d) H') → spUpTo vs H Q E_
inductive spMany  (vs : List V) (H : Hp) (Q : VK) (E_ : XK) : Prop
  | mk : ∀ bv bk sn n, (vs = [bv, .str sn, .int ((n : Nat) : Int)]) → (RepB H bk bv) → (BkW bk) → (n ≤ 24) → (∀ (m : Nat) H', (RowIn bk [sn] → m = Rn bk [sn] n) → (¬ RowIn bk [sn] → m = 0) → Same H H' → Q (.int (m : Int)) H') → spMany vs H Q E_
section
variable {P : Program} {w : World} {K : PySem.W.Frag} {mg : Str → Option Value} {base : Heap} {f f2 f3 f4 : Addr} {fd fd2 fd3 fd4 : FuncData}
noncomputable abbrev NUpTo : List Str := ["book", "size", "rows", "counts", "total", "row"]
theorem scUpTo : FnScope NUpTo ["book", "size"] (defScope sUpTo) := ⟨rfl, rfl, rfl, by decide +kernel, rfl, by decide +kernel, by decide +kernel⟩
theorem ok_upTo (F : Fun K "counts_up_to" "counts_up_to" sUpTo f fd) (G : Gb mg)
    (GR : FnOk P w K mg base CX0 2 f2 fd2 ["book"] spRowsOf) (bR : Binds K fd2 ["book"] []) (kR : PySem.W.keepIn K (.ref f2) = true) (mR : mg "rows_of" = some (.ref f2))
    (GC : FnOk P w K mg base CX0 3 f3 fd3 ["book", "counts", "row", "total"] spCountOf) (bC : Binds K fd3 ["book", "counts", "row", "total"] []) (kC : PySem.W.keepIn K (.ref f3) = true) (mC : mg "count_of" = some (.ref f3)) : FnOk P w K mg base CX0 4 f fd ["book", "size"] spUpTo := by
  refine F.ok scUpTo (fun vs H Q E h => ?_) (fun cdv A outer s H vs Q E hr h => ?_)
  · obtain ⟨bv, bk, n, rfl, _⟩ := h
    rfl
  obtain ⟨bv, bk, n, rfl, hB, hok, hn, q⟩ := h
  have hu := hu_of hr
  have hr2 := hr.mono (show 2 ≤ 3 by decide)
  refine ⟨_, pss_cons (ps_set (i := 2) scUpTo.nd rfl (Or.inl rfl) (pe_call GR hr2 rfl mR kR bR .nil pass0 (pa_cons (pv 0) pa_nil)))
    (pss_cons (ps_set (i := 3) scUpTo.nd rfl (Or.inl rfl) pe_dnewP)
    (pss_cons (ps_for PassesOwn.never rfl (pi_range1 rfl G.range (pa_cons (pe_op op_add (pv 1) pe_int) pa_nil)) (pg_name (i := 4) scUpTo.nd rfl (Or.inl rfl))
      (pss_one (ps_for PassesOwn.never rfl (pi_list (pv 2)) (pg_name (i := 5) scUpTo.nd rfl (Or.inl rfl))
        (pss_one (ps_dput hu (pv 3) (pe_tup (pa_cons (pv 5) (pa_cons (pv 4) pa_nil))) (pe_call GC hr rfl mC kC bC .nil pass0 (pa_cons (pv 0) (pa_cons (pv 3) (pa_cons (pv 5) (pa_cons (pv 4) pa_nil))))) rfl)))))
    (pss_one (ps_ret (pv 3))))), ?_⟩
  refine ⟨_, rfl, bv, bk, rfl, hB, hok, fun rl ys RS H1 hrl s1 gr1 hK1 hRS hl40 => ?_⟩
  have lK : ys.length = RS.length := by have := Paired.length hK1; rw [List.length_map] at this; exact this
  refine fun d hd => ?_
  have s2 := same_new hd (.dP [])
  have g2 : (upd H1 d (.dP [])) d = some (.dP []) := upd_same
  have hd0 : H d = none := s1.free hd
  have nrd : rl ≠ d := fun z => by rw [← z, gr1] at hd; cases hd
  have gr2 := s2 _ _ gr1
  have hK2 : KsOf (upd H1 d (.dP [])) ys (RS.map rk) := hK1.mono fun b xs h => s2 _ _ h
  have S2 : Same H (upd H1 d (.dP [])) := s1.trans s2
  generalize upd H1 d (.dP []) = H2 at s2 g2 gr2 hK2 S2 ⊢
  refine ⟨_, rfl, _, _, rfl, rfl, _, rfl, ?_, ?_, ?_⟩
  · show -(2 ^ 62) ≤ ((n : Nat) : Int) + 1
    lia
  · show ((n : Nat) : Int) + 1 < 2 ^ 62
    lia
  rw [show (((n : Nat) : Int) + 1).toNat = n + 1 by lia]
  refine for_range (fun i σ H' => i ≤ n + 1 ∧ ∃ o4 o5 kvs, σ = [some bv, some (.int ((n : Nat) : Int)), some (.ref rl), some (.ref d), o4, o5] ∧ Same H H' ∧ H' rl = some (.lst ys) ∧ KsOf H' ys (RS.map rk) ∧ H' d = some (.dP kvs) ∧ CntOk bk kvs i ∧ KeysIn bk kvs ∧ kvs.length ≤ 40 * i)
    ⟨Nat.zero_le _, none, none, [], rfl, S2, gr2, hK2, g2, fun _ k _ h => absurd h (Nat.not_lt_zero _), fun k v h => (by cases h), Nat.le_refl _⟩ ?_ ?_
  · rintro i σ H3 hi ⟨_, o4, o5, kvs, rfl, S3, gr3, hK3, g3, hc3, hin3, hl3⟩
    rw [Int.zero_add]
    refine ⟨_, rfl, rl, rfl, ⟨_, SqL.of gr3⟩, ?_⟩
    refine for_list (xs := ys) (fun j σ H' => j ≤ ys.length ∧ ∃ o5 kvs, σ = [some bv, some (.int ((n : Nat) : Int)), some (.ref rl), some (.ref d), some (.int ((i : Nat) : Int)), o5] ∧ Same H H' ∧ H' rl = some (.lst ys) ∧ KsOf H' ys (RS.map rk) ∧ H' d = some (.dP kvs) ∧ CntOk bk kvs i ∧ (∀ row ∈ RS.take j, valV kvs (rk row, Sum.inl ((i : Nat) : Int)) = some (.int ((Rn bk row i : Nat) : Int))) ∧ KeysIn bk kvs ∧ kvs.length ≤ 40 * i + j)
      ⟨Nat.zero_le _, o5, kvs, rfl, S3, gr3, hK3, g3, hc3, fun row h => (by cases h), hin3, hl3⟩ (fun j σ H' _ h => by obtain ⟨_, _, _, _, _, g, _⟩ := h; exact SqL.of g) ?_ ?_
    · rintro j x σ H4 hx ⟨_, o5', kv4, rfl, S4, gr4, hK4, g4, hc4, hr4, hin4, hl4⟩
      have hjl : j < ys.length := (List.getElem?_eq_some_iff.mp hx).1
      obtain ⟨ks, hks, b, rfl, hb⟩ := paired_get' hK4 hx
      rw [List.getElem?_map] at hks
      obtain ⟨row, hrow, rfl⟩ : ∃ row, RS[j]? = some row ∧ ks = rk row := by
        cases h : RS[j]? with
        | none => rw [h] at hks; cases hks
        | some row => rw [h] at hks; exact ⟨row, rfl, (Option.some.inj hks).symm⟩
      have hrm := List.mem_of_getElem? hrow
      have hrin : RowIn bk row := (hRS row).mpr hrm
      refine ⟨_, rfl, _, rfl, _, rfl, _, rfl, bv, bk, d, b, row, i, kv4, rfl, hB.mono (tk_of S4), hok, g4, by rw [← rk_kV]; exact hb, hrin, by lia, hc4, fun H5 s5 => ?_⟩
      refine ⟨_, rfl, _, rfl, _, rfl, (by show 2 ≤ sizeLine; decide), fun kt hkt => ?_⟩
      have s6 := same_new hkt (.tup [.ref b, .int ((i : Nat) : Int)])
      have g6 : (upd H5 kt (.tup [.ref b, .int ((i : Nat) : Int)])) kt = some (.tup [.ref b, .int ((i : Nat) : Int)]) := upd_same
      have S6 : Same H4 (upd H5 kt (.tup [.ref b, .int ((i : Nat) : Int)])) := Same.trans s5 s6
      generalize upd H5 kt (.tup [.ref b, .int ((i : Nat) : Int)]) = H6 at s6 g6 S6 ⊢
      have gd6 := S6 _ _ g4
      refine ⟨d, _, rfl, DPut.p gd6 (k := Sum.inl ((i : Nat) : Int)) g6 (S6 _ _ hb) (small1000 (by lia)), hjl, _, _, rfl, ?_, ?_, ?_, upd_same, ?_, ?_, ?_, ?_⟩
      · intro y o h
        rw [upd_ne (ne_of_none h hd0)]
        exact S6 _ _ (S4 _ _ h)
      · rw [upd_ne nrd]; exact S6 _ _ gr4
      · refine hK4.mono fun b' xs h => ?_
        have h' := S6 _ _ h
        rw [upd_ne (fun z => by rw [z, gd6] at h'; cases h')]; exact h'
      · intro row' k hin' hk
        rw [valV_put, if_neg (fun z => by have := (Prod.mk.inj z).2; have := Sum.inl.inj this; lia)]
        exact hc4 row' k hin' hk
      · intro row' hr'
        rw [valV_put]
        by_cases c : row' = row
        · subst c
          rw [if_pos rfl]
        · rw [if_neg (fun z => c (rk_inj (Prod.mk.inj z).1))]
          rw [List.take_add_one, hrow] at hr'
          rcases List.mem_append.mp hr' with h | h
          · exact hr4 row' h
          · exact absurd (by simpa using h) c
      · intro k v hv
        rw [valV_put] at hv
        by_cases c : k = (rk row, Sum.inl ((i : Nat) : Int))
        · exact ⟨row, hrin, by rw [c]⟩
        · rw [if_neg c] at hv
          exact hin4 k v hv
      · have := length_putK kv4 (rk row, Sum.inl ((i : Nat) : Int)) (.int ((Rn bk row i : Nat) : Int))
        lia
    · rintro σ H4 ⟨_, o5', kv4, rfl, S4, gr4, hK4, g4, hc4, hr4, hin4, hl4⟩
      rw [lK, List.take_length] at hr4
      refine ⟨hi, _, _, kv4, rfl, S4, gr4, hK4, g4, fun row k hin' hk => ?_, hin4, by lia⟩
      by_cases c : k < i
      · exact hc4 row k hin' c
      · have : k = i := by lia
        subst this
        exact hr4 row ((hRS row).mp hin')
  · rintro σ H3 ⟨_, o4, o5, kvs, rfl, S3, gr3, hK3, g3, hc3, hin3, hl3⟩
    exact ⟨_, rfl, q d kvs H3 hd0 S3 g3 hc3 hin3⟩
theorem scMany : FnScope ["book", "sort", "size"] ["book", "sort", "size"] (defScope sMany) := ⟨rfl, rfl, rfl, by decide +kernel, rfl, by decide +kernel, by decide +kernel⟩
theorem ok_many (F : Fun K "many_trees" "many_trees" sMany f fd)
    (GU : FnOk P w K mg base CX0 4 f2 fd2 ["book", "size"] spUpTo) (bU : Binds K fd2 ["book", "size"] []) (kU : PySem.W.keepIn K (.ref f2) = true) (mU : mg "counts_up_to" = some (.ref f2)) : FnOk P w K mg base CX0 5 f fd ["book", "sort", "size"] spMany := by
  refine F.ok scMany (fun vs H Q E h => ?_) (fun cdv A outer s H vs Q E hr h => ?_)
  · obtain ⟨bv, bk, sn, n, rfl, _⟩ := h
    rfl
  obtain ⟨bv, bk, sn, n, rfl, hB, hok, hn, q⟩ := h
  have hu := hu_of hr
  refine ⟨_, pss_one (ps_ret (pe_dget2P hu (pe_call GU hr rfl mU kU bU .nil pass0 (pa_cons (pv 0) (pa_cons (pv 2) pa_nil))) (pe_tup (pa_cons (pe_tup (pa_cons (pv 1) pa_nil)) (pa_cons (pv 2) pa_nil))) pe_int ⟨rfl, rfl, rfl, rfl⟩)), ?_⟩
  refine ⟨_, rfl, _, rfl, bv, bk, n, rfl, hB, hok, hn, fun d kvs H1 hd s1 gd hc hin => ?_⟩
  refine ⟨d, kvs, rfl, gd, _, rfl, (by show 1 ≤ sizeLine; decide), fun ta hta => ?_⟩
  have s2 := same_new hta (.tup [.str sn])
  have g2 : (upd H1 ta (.tup [.str sn])) ta = some (.tup [.str sn]) := upd_same
  generalize upd H1 ta (.tup [.str sn]) = H2 at s2 g2 ⊢
  refine ⟨_, rfl, (by show 2 ≤ sizeLine; decide), fun tb htb => ?_⟩
  have s3 := same_new htb (.tup [.ref ta, .int ((n : Nat) : Int)])
  have g3 : (upd H2 tb (.tup [.ref ta, .int ((n : Nat) : Int)])) tb = some (.tup [.ref ta, .int ((n : Nat) : Int)]) := upd_same
  generalize upd H2 tb (.tup [.ref ta, .int ((n : Nat) : Int)]) = H3 at s3 g3 ⊢
  refine ⟨_, DGet.p (s3 _ _ (s2 _ _ gd)) (t := rk [sn]) (k := Sum.inl ((n : Nat) : Int)) g3 (s3 _ _ g2), ?_⟩
  have S3 : Same H H3 := Same.trans s1 (s2.trans s3)
  by_cases c : RowIn bk [sn]
  · rw [hc [sn] n c (by lia)]
    exact q _ H3 (fun _ => rfl) (fun z => absurd c z) S3
  · cases hv : valV kvs (rk [sn], Sum.inl ((n : Nat) : Int)) with
    | none => exact q 0 H3 (fun z => absurd z c) (fun _ => rfl) S3
    | some v =>
      obtain ⟨row, hrow, e⟩ := hin _ _ hv
      rw [← rk_inj (show rk [sn] = rk row from e)] at hrow
      exact absurd hrow c
end
end My
namespace My
open PySem L2
noncomputable abbrev NN := List (Nat × Nat)
noncomputable def toK (D : NN) : List (Key × V) := D.map fun q => ((Sum.inl ((q.1 : Nat) : Int) : Key), V.int ((q.2 : Nat) : Int))
noncomputable def lkN : NN → Nat → Option Nat
  | [], _ => none
  | q :: r, l => if q.1 = l then some q.2 else lkN r l
noncomputable def hasN (D : NN) (l : Nat) : Bool := D.any fun q => decide (q.1 = l)
noncomputable def putN (D : NN) (l m : Nat) : NN := if hasN D l = true then D.map (fun q => if q.1 = l then (q.1, m) else q) else D ++ [(l, m)]
noncomputable def SG (g : Nat → Nat) (D : NN) : Nat := sumN (D.map fun q => q.2 * g q.1)
theorem inl_inj {a b : Nat} : ((Sum.inl ((a : Nat) : Int) : Key) = Sum.inl ((b : Nat) : Int)) ↔ a = b := ⟨fun h => Int.ofNat.inj (Sum.inl.inj h), fun h => by rw [h]⟩
theorem toK_val : ∀ (D : NN) (l : Nat), valV (toK D) (Sum.inl ((l : Nat) : Int)) = (lkN D l).map fun m => V.int ((m : Nat) : Int)
  | [], _ => rfl
  | q :: r, l => by
    by_cases c : q.1 = l
    · rw [show toK (q :: r) = ((Sum.inl ((q.1 : Nat) : Int) : Key), V.int ((q.2 : Nat) : Int)) :: toK r from rfl, valV_pos (inl_inj.mpr c)]
      unfold lkN
      rw [if_pos c]; rfl
    · rw [show toK (q :: r) = ((Sum.inl ((q.1 : Nat) : Int) : Key), V.int ((q.2 : Nat) : Int)) :: toK r from rfl, valV_neg (fun z => c (inl_inj.mp z)), toK_val r l]
      unfold lkN
      rw [if_neg c]
      cases r <;> rfl
theorem toK_put (D : NN) (l m : Nat) : putK (toK D) (Sum.inl ((l : Nat) : Int)) (.int ((m : Nat) : Int)) = toK (putN D l m) := by
  unfold putK putN
  have e : ((toK D).any fun kv => decide (kv.1 = Sum.inl ((l : Nat) : Int))) = hasN D l := by
    unfold toK hasN
    rw [List.any_map]
    refine congrArg (fun f => D.any f) (funext fun q => ?_)
    exact decide_eq_decide.mpr inl_inj
  rw [e]
  cases hasN D l with
  | false =>
    rw [if_neg (by decide), if_neg (by decide)]
    unfold toK
    rw [List.map_append]; rfl
  | true =>
    rw [if_pos rfl, if_pos rfl]
    unfold toK
    rw [List.map_map, List.map_map]
    refine List.map_congr_left fun q _ => ?_
    show (if (Sum.inl ((q.1 : Nat) : Int) : Key) = Sum.inl ((l : Nat) : Int) then _ else _) = _
    show _ = ((Sum.inl (((if q.1 = l then (q.1, m) else q).1 : Nat) : Int) : Key), V.int (((if q.1 = l then (q.1, m) else q).2 : Nat) : Int))
    by_cases c : q.1 = l
    · rw [if_pos (inl_inj.mpr c), if_pos c]
    · rw [if_neg (fun z => c (inl_inj.mp z)), if_neg c]
theorem hasN_iff (D : NN) (l : Nat) : hasN D l = true ↔ l ∈ D.map (·.1) := by
  unfold hasN
  rw [List.any_eq_true, List.mem_map]
  constructor
  · rintro ⟨q, h1, h2⟩; exact ⟨q, h1, of_decide_eq_true h2⟩
  · rintro ⟨q, h1, h2⟩; exact ⟨q, h1, decide_eq_true h2⟩
theorem putN_keys (D : NN) (l m : Nat) : (putN D l m).map (·.1) = if l ∈ D.map (·.1) then D.map (·.1) else D.map (·.1) ++ [l] := by
  unfold putN
  by_cases c : l ∈ D.map (·.1)
  · rw [if_pos ((hasN_iff D l).mpr c), if_pos c, List.map_map]
    refine List.map_congr_left fun q _ => ?_
    show (if q.1 = l then (q.1, m) else q).1 = q.1
    split <;> rfl
  · rw [if_neg (fun z => c ((hasN_iff D l).mp z)), if_neg c, List.map_append]; rfl
theorem putN_nd {D : NN} {l m : Nat} (h : (D.map (·.1)).Nodup) : ((putN D l m).map (·.1)).Nodup := by
  rw [putN_keys]
  split
  · exact h
  · rename_i c
    rw [List.nodup_append]
    refine ⟨h, List.nodup_cons.mpr ⟨fun z => (by cases z), List.nodup_nil⟩, fun a ha b hb e => c ?_⟩
    have hbl : b = l := by simpa using hb
    rw [← hbl, ← e]; exact ha
theorem SG_put (g : Nat → Nat) (l m : Nat) : ∀ {D : NN}, (D.map (·.1)).Nodup → SG g (putN D l m) + (lkN D l).getD 0 * g l = SG g D + m * g l := by
  have rep : ∀ {D : NN}, (D.map (·.1)).Nodup → hasN D l = true → SG g (D.map fun q => if q.1 = l then (q.1, m) else q) + (lkN D l).getD 0 * g l = SG g D + m * g l := by
    intro D
    induction D with
    | nil => intro _ h; cases h
    | cons q r ih =>
      intro hn hh
      have hn' := List.nodup_cons.mp (show (q.1 :: r.map (·.1)).Nodup from hn)
      by_cases c : q.1 = l
      · have hno : ¬ l ∈ r.map (·.1) := by rw [← c]; exact hn'.1
        have hsame : (r.map fun q => if q.1 = l then (q.1, m) else q) = r := by
          have : ∀ x ∈ r, (if x.1 = l then (x.1, m) else x) = x := fun x hx => if_neg fun e => hno (List.mem_map.mpr ⟨x, hx, e⟩)
          rw [List.map_congr_left this]; exact List.map_id _
        rw [List.map_cons, hsame, if_pos c]
        unfold lkN
        rw [if_pos c]
        show (m * g q.1 + SG g r) + q.2 * g l = (q.2 * g q.1 + SG g r) + m * g l
        rw [c]; lia
      · have hh' : hasN r l = true := by
          rw [hasN_iff] at hh ⊢
          rcases List.mem_cons.mp (show l ∈ q.1 :: r.map (·.1) from hh) with e | e
          · exact absurd e.symm c
          · exact e
        have := ih hn'.2 hh'
        rw [List.map_cons, if_neg c]
        unfold lkN
        rw [if_neg c]
        show (q.2 * g q.1 + SG g (r.map fun q => if q.1 = l then (q.1, m) else q)) + (lkN r l).getD 0 * g l = (q.2 * g q.1 + SG g r) + m * g l
        lia
  have lkno : ∀ {D : NN}, hasN D l = false → lkN D l = none := by
    intro D
    induction D with
    | nil => intro _; rfl
    | cons q r ih =>
      intro h
      have h : (decide (q.1 = l) || hasN r l) = false := h
      rw [Bool.or_eq_false_iff] at h
      unfold lkN
      rw [if_neg (of_decide_eq_false h.1)]
      exact ih h.2
  intro D hn
  unfold putN
  cases c : hasN D l with
  | true => rw [if_pos rfl]; exact rep hn c
  | false =>
    rw [if_neg (by decide), lkno c]
    show sumN ((D ++ [(l, m)]).map _) + 0 * g l = _
    rw [List.map_append, sumN_app]
    show SG g D + (m * g l + 0) + 0 * g l = _
    lia
theorem nd_len : ∀ (n : Nat) (l : List Nat), l.Nodup → (∀ x ∈ l, x < n) → l.length ≤ n := by
  intro n
  induction n with
  | zero => intro l _ h; cases l with
    | nil => exact Nat.le_refl _
    | cons a r => exact absurd (h a List.mem_cons_self) (Nat.not_lt_zero _)
  | succ n ih =>
    intro l hn h
    have h1 := ih (l.filter fun x => decide (x ≠ n)) (hn.sublist (List.filter_sublist)) fun x hx => by
      have := List.mem_filter.mp hx
      have h2 := h x this.1
      have h3 : x ≠ n := of_decide_eq_true this.2
      lia
    have h2 : l.length ≤ (l.filter fun x => decide (x ≠ n)).length + 1 := by
      clear h ih h1
      induction l with
      | nil => exact Nat.zero_le _
      | cons a r ih2 =>
        have hn' := List.nodup_cons.mp hn
        by_cases c : a = n
        · have : (r.filter fun x => decide (x ≠ n)) = r := List.filter_eq_self.mpr fun x hx => decide_eq_true fun e => hn'.1 (by rw [c, ← e]; exact hx)
          rw [List.filter_cons, if_neg (by rw [decide_eq_true_eq]; exact fun z => z c), this]
          exact Nat.le_refl _
        · rw [List.filter_cons, if_pos (decide_eq_true c)]
          have := ih2 hn'.2
          rw [List.length_cons, List.length_cons]; lia
    lia
noncomputable def stepW (N : Nat → Nat) (g : Nat → Nat) (q : Nat × Nat) : Nat := q.2 * sumN ((List.range q.1).map fun f => N (f + 1) * g (q.1 - (f + 1)))
theorem SG_mem {D : NN} {q : Nat × Nat} (h : q ∈ D) : q.2 ≤ SG (fun _ => 1) D := by
  unfold SG
  induction D with
  | nil => cases h
  | cons a r ih =>
    show q.2 ≤ a.2 * 1 + sumN (r.map _)
    rcases List.mem_cons.mp h with rfl | h
    · lia
    · have := ih h
      lia
theorem sumN_mono {α : Type} {f g : α → Nat} : ∀ {l : List α}, (∀ x ∈ l, f x ≤ g x) → sumN (l.map f) ≤ sumN (l.map g)
  | [], _ => Nat.le_refl _
  | a :: r, h => by
    show f a + sumN (r.map f) ≤ g a + sumN (r.map g)
    have h1 := h a List.mem_cons_self
    have h2 := sumN_mono (l := r) fun x hx => h x (List.mem_cons_of_mem _ hx)
    lia
theorem sumN_mulR {α : Type} {f : α → Nat} (B : Nat) : ∀ (l : List α), sumN (l.map fun x => f x * B) = sumN (l.map f) * B
  | [] => (Nat.zero_mul _).symm
  | a :: r => by
    show f a * B + sumN (r.map fun x => f x * B) = (f a + sumN (r.map f)) * B
    rw [sumN_mulR B r, Nat.add_mul]
theorem mass_step {N : Nat → Nat} {B : Nat} (hN : ∀ k, k ≤ 24 → N k ≤ B) {D : NN} (hD : ∀ q ∈ D, q.1 ≤ 24) : sumN (D.map (stepW N fun _ => 1)) ≤ SG (fun _ => 1) D * (24 * B) := by
  unfold SG
  rw [← sumN_mulR]
  refine sumN_mono fun q hq => ?_
  show q.2 * _ ≤ q.2 * 1 * (24 * B)
  rw [Nat.mul_one]
  refine Nat.mul_le_mul_left _ (Nat.le_trans (sumN_le (B := B) fun f hf => ?_) ?_)
  · have := List.mem_range.mp hf
    rw [Nat.mul_one]
    exact hN _ (by have := hD q hq; lia)
  · rw [List.length_range]; exact Nat.mul_le_mul_right _ (hD q hq)
end My
namespace My
open PySem L2
theorem comp2T_mk {J : It} {α : Type} {as : List α} {A : α → V → Prop} {xs : List V} {fr : List Nat} {tc : TT} {te : TE} {σ : St} {H1 : Hp} {Q : VK} (hn : xs.length ≤ 1000) (hP : Paired A as xs)
    (hgo : ∀ i H, Same H1 H → i < xs.length → J.go i H) (hst : ∀ H, Same H1 H → J.stop xs.length H) (hy : ∀ i H v H', Same H1 H → J.yld i H v H' → H' = H ∧ xs[i]? = some v) (c : α → Bool)
    (R : Hp → α → V → Prop) (mono : ∀ {H H' : Hp} {a : α} {v : V}, TK H H' → R H a v → R H' a v)
    (hte : ∀ a v H, a ∈ as → A a v → Same H1 H → ∃ T v1 v2, v = .ref T ∧ H T = some (.tup [v1, v2]) ∧ (∀ k : Bool → Hp → Prop, k (c a) H → tc (some v1 :: some v2 :: caps fr σ) H k) ∧
      (c a = true → ∀ k : VK, (∀ u H', Same H H' → R H' a u → k u H') → te (some v1 :: some v2 :: caps fr σ) H k))
    (hd : ∀ p zs H', H1 p = none → Same H1 H' → H' p = some (.lst zs) → Paired (R H') (as.filter c) zs → Q (.ref p) H') : tCompWT2 fr tc te σ J H1 Q := by
  intro p hp
  have hl : as.length = xs.length := Paired.length hP
  refine ⟨fun i m zs H => i ≤ xs.length ∧ m = xs.length - i ∧ Same H1 H ∧ H p = some (.lst zs) ∧ zs.length ≤ i ∧ Paired (R H) ((as.take i).filter c) zs, ⟨_, Nat.zero_le _, rfl, same_new hp _, upd_same, Nat.le_refl _, .nil⟩, ?_⟩
  rintro i m zs H ⟨hi, hm, sm, gp, hz, hT⟩
  refine ⟨gp, ?_⟩
  by_cases e : i = xs.length
  · subst e
    rw [← hl, List.take_length] at hT
    exact .inl ⟨hst H sm, hd p zs H hp sm gp hT⟩
  · have hlt : i < xs.length := by lia
    refine .inr ⟨hgo i H sm hlt, small1000 (by lia), fun v H' hv => ?_⟩
    obtain ⟨rfl, hv2⟩ := hy i H v H' sm hv
    obtain ⟨a, ha, hA⟩ := paired_get hP hv2
    have etk : (as.take (i + 1)).filter c = (as.take i).filter c ++ (if c a then [a] else []) := take_succ_filter c as i a ha
    obtain ⟨T, v1, v2, e1, e2, g1, g2⟩ := hte a v _ (List.mem_of_getElem? ha) hA sm
    refine ⟨T, v1, v2, e1, e2, g1 _ ?_⟩
    by_cases hc : c a = true
    · rw [if_pos hc] at etk
      show if c a = true then _ else _
      rw [if_pos hc]
      refine g2 hc _ fun u H2 s2 r => ?_
      have gp2 := s2 _ _ gp
      have tk : TK H2 (upd H2 p (.lst (zs ++ [u]))) := TK.lst gp2
      refine ⟨gp2, xs.length - (i + 1), by lia, by lia, rfl, ?_, upd_same, by rw [List.length_append]; show zs.length + 1 ≤ i + 1; lia, ?_⟩
      · intro b o hb
        rw [upd_ne (ne_of_none hb hp)]
        exact s2 _ _ (sm _ _ hb)
      · rw [etk]
        exact Paired.snoc (Paired.mapP hT fun _ _ r => mono ((tk_of s2).trans tk) r) (mono tk r)
    · rw [if_neg hc, List.append_nil] at etk
      show if c a = true then _ else _
      rw [if_neg hc]
      exact ⟨xs.length - (i + 1), by lia, by lia, rfl, sm, gp, by lia, by rw [etk]; exact hT⟩
noncomputable def LC (bk : Bk) (H : Hp) (cl : Addr) (n : Nat) : Prop := ∃ ds : List V, H cl = some (.lst ds) ∧ ds.length = n ∧ ∀ k, 1 ≤ k → k < n → ∃ d kvs, ds[k]? = some (.ref d) ∧ H d = some (.dK kvs) ∧ ∀ s ∈ bk.sorts, valV kvs (Sum.inr (Srt.name s)) = some (.int ((Rn bk [s.name] k : Nat) : Int))
theorem LC.keep {bk : Bk} {H H' : Hp} {cl : Addr} {n : Nat} (s : Same H H') (h : LC bk H cl n) : LC bk H' cl n := by
  obtain ⟨ds, e, l, g⟩ := h
  refine ⟨ds, s _ _ e, l, fun k h1 h2 => ?_⟩
  obtain ⟨d, kvs, g1, g2, g3⟩ := g k h1 h2
  exact ⟨d, kvs, g1, s _ _ g2, g3⟩
noncomputable def RWt (H : Hp) (q : Nat × Nat) (z : V) : Prop := ∃ T, z = .ref T ∧ H T = some (.tup [.int ((q.1 : Nat) : Int), .int ((q.2 : Nat) : Int)])
inductive spLRows  (vs : List V) (H : Hp) (Q : VK) (E_ : XK) : Prop
  | mk : ∀ cl pa bk nms n t, (vs = [.ref cl, .ref pa, .int ((t : Nat) : Int)]) → (BkW bk) → (LC bk H cl n) → (H pa = some (.tup (List.map V.str nms))) → ((∀ x ∈ nms, ∃ s, s ∈ bk.sorts ∧ Srt.name s = x)) → (nms.length ≤ 3) → (t < n) → (t ≤ 24) → (n ≤ 100) → (∀ H', Same H H' → Q (.int ((Rn bk nms t : Nat) : Int)) H') → spLRows vs H Q E_
section
variable {P : Program} {w : World} {K : PySem.W.Frag} {mg : Str → Option Value} {base : Heap} {f : Addr} {fd : FuncData}
noncomputable abbrev NLRows : List Str := ["counts", "parts", "size", "rows", "name", "longer", "left", "many", "first"]
theorem scLRows : FnScope NLRows ["counts", "parts", "size"] (defScope sLRows) := ⟨rfl, rfl, rfl, by decide +kernel, rfl, by decide +kernel, by decide +kernel⟩
theorem ok_lrows (F : Fun K "_law_rows" "_law_rows" sLRows f fd) (G : Gb mg) (hlist : mg "list" = none) (hsum : mg "sum" = none) : FnOk P w K mg base CX0 1 f fd ["counts", "parts", "size"] spLRows := by
  refine F.ok scLRows (fun vs H Q E h => ?_) (fun cdv A outer s H vs Q E hr h => ?_)
  · obtain ⟨cl, pa, bk, nms, n, t, rfl, _⟩ := h
    rfl
  obtain ⟨cl, pa, bk, nms, n, t, rfl, hok, hLC, hpa, hnm, hl3, htn, ht24, hn100, q⟩ := h
  have hu := hu_of hr
  have hfew := hok.two
  refine ⟨_, pss_cons (ps_set (i := 3) scLRows.nd rfl (Or.inl rfl) (pe_lst (pa_cons (pe_tup (pa_cons (pv 2) (pa_cons pe_int pa_nil))) pa_nil)))
    (pss_cons (ps_for PassesOwn.never rfl (pi_tup (pv 1)) (pg_name (i := 4) scLRows.nd rfl (Or.inl rfl))
      (pss_cons (ps_set (i := 5) scLRows.nd rfl (Or.inl rfl) pe_dnewK)
      (pss_cons (ps_for PassesOwn.never rfl (pi_list (pv 3)) (pg_tup rfl (pgs_cons (pg_name (i := 6) scLRows.nd rfl (Or.inl rfl)) (pgs_cons (pg_name (i := 7) scLRows.nd rfl (Or.inl rfl)) pgs_nil)))
        (pss_one (ps_for PassesOwn.never rfl (pi_range2 rfl G.range (pa_cons pe_int (pa_cons (pe_op op_add (pv 6) pe_int) pa_nil))) (pg_name (i := 8) scLRows.nd rfl (Or.inl rfl))
          (pss_one (ps_if (pt_cmp (pc_gt (pe_dget hu (pe_ix (r := rIxL K) ix_list (pv 0) (pv 8) (fun _ _ => rfl)) (pv 4) (fun _ _ => rfl)) pe_int))
            (pss_one (ps_dput hu (pv 5) (pe_op op_sub (pv 6) (pv 8)) (pe_op op_add (pe_dget2 hu (pv 5) (pe_op op_sub (pv 6) (pv 8)) pe_int ⟨rfl, rfl, rfl, rfl⟩) (pe_op op_mulB (pv 7) (pe_dget hu (pe_ix (r := rIxL K) ix_list (pv 0) (pv 8) (fun _ _ => rfl)) (pv 4) (fun _ _ => rfl)))) rfl)) pss_nil)))))
      (pss_one (ps_set (i := 3) scLRows.nd rfl (Or.inl rfl) (pe_listItems rfl rfl hlist (pv 5)))))))
    (pss_one (ps_ret (pe_callB (call_sumB rfl) rfl hsum (by decide +kernel) (pa_cons (pe_compT2 (sc0 := defScope sLRows) (N0 := NLRows) (ys := []) (fr := []) rfl (pi_list (pv 3)) rfl rfl
        ⟨rfl, by decide +kernel, by decide +kernel, by decide +kernel, by decide +kernel, by decide +kernel, by decide +kernel, rfl, by decide +kernel⟩
        (fun C s H ex => pt_cmp (pc_eqI (pv 0) pe_int)) (fun C s H ex => pv 1)) pa_nil))))), ?_⟩
  refine ⟨_, rfl, (by show 2 ≤ sizeLine; decide), fun t0 ht0 => ?_⟩
  have s0 := same_new ht0 (.tup [.int ((t : Nat) : Int), .int 1])
  have g0 : (upd H t0 (.tup [.int ((t : Nat) : Int), .int 1])) t0 = some (.tup [.int ((t : Nat) : Int), .int 1]) := upd_same
  generalize upd H t0 (.tup [.int ((t : Nat) : Int), .int 1]) = H0 at s0 g0 ⊢
  refine ⟨(by show 1 ≤ sizeLine; decide), fun rl hrl => ?_⟩
  have s1 := same_new hrl (.lst [.ref t0])
  have g1 : (upd H0 rl (.lst [.ref t0])) rl = some (.lst [.ref t0]) := upd_same
  have S1 : Same H (upd H0 rl (.lst [.ref t0])) := s0.trans s1
  have g01 := s1 _ _ g0
  generalize upd H0 rl (.lst [.ref t0]) = H1 at s1 g1 S1 g01 ⊢
  refine ⟨_, rfl, pa, rfl, ⟨_, SqT.of (S1 _ _ hpa)⟩, ?_⟩
  have hlV : (nms.map V.str).length = nms.length := List.length_map _
  refine for_tup (xs := nms.map V.str) (fun i σ H' => i ≤ nms.length ∧ ∃ o4 o5 o6 o7 o8 rl zs D, σ = [some (.ref cl), some (.ref pa), some (.int ((t : Nat) : Int)), some (.ref rl), o4, o5, o6, o7, o8] ∧ Same H H' ∧ H' rl = some (.lst zs) ∧ Paired (RWt H') D zs ∧
      SG (Rl bk (nms.drop i)) D = Rl bk nms t ∧ (∀ q ∈ D, q.1 ≤ t) ∧ D.length ≤ 25 ∧ SG (fun _ => 1) D ≤ 2 ^ (410 * i))
    ⟨Nat.zero_le _, none, none, none, none, none, rl, _, [(t, 1)], rfl, S1, g1, .cons ⟨t0, rfl, g01⟩ .nil, ?_, ?_, by show 1 ≤ 25; decide, by show 1 * 1 + 0 ≤ 1; decide⟩
    (fun i σ H' _ h => by obtain ⟨_, _, _, _, _, _, _, _, _, _, sm, _⟩ := h; exact SqT.of (sm _ _ hpa)) ?_ ?_
  · show 1 * Rl bk nms t + 0 = Rl bk nms t
    lia
  · intro q hq
    have : q = (t, 1) := by simpa using hq
    rw [this]; exact Nat.le_refl _
  · rintro i x σ H2 hx ⟨hi, o4, o5, o6, o7, o8, rl2, zs, D, rfl, S2, gr2, hD, hSG, hle, hl25, hmass⟩
    rw [List.getElem?_map] at hx
    obtain ⟨nm, hnmi, rfl⟩ : ∃ nm, nms[i]? = some nm ∧ x = .str nm := by
      cases h : nms[i]? with
      | none => rw [h] at hx; cases hx
      | some nm => rw [h] at hx; exact ⟨nm, rfl, (Option.some.inj hx).symm⟩
    have hil : i < nms.length := (List.getElem?_eq_some_iff.mp hnmi).1
    obtain ⟨sr, hsr, hsrn⟩ := hnm nm (List.mem_of_getElem? hnmi)
    have hrest : nms.drop i = nm :: nms.drop (i + 1) := by
      have h := List.getElem?_eq_some_iff.mp hnmi
      rw [List.drop_eq_getElem_cons h.1, h.2]
    have lz : D.length = zs.length := Paired.length hD
    refine fun ld hld => ?_
    have s3 := same_new hld (.dK [])
    have g3 : (upd H2 ld (.dK [])) ld = some (.dK []) := upd_same
    have hld0 : H ld = none := S2.free hld
    have nrl : rl2 ≠ ld := fun z => by rw [← z, gr2] at hld; cases hld
    have S3 : Same H2 (upd H2 ld (.dK [])) := s3
    generalize upd H2 ld (.dK []) = H3 at s3 g3 S3 ⊢
    refine ⟨_, rfl, rl2, rfl, ⟨_, SqL.of (S3 _ _ gr2)⟩, ?_⟩
    have hLCof : ∀ H', Kp ld H3 H' → LC bk H' cl n := fun H' kp => by
      obtain ⟨ds, e, ln, gg⟩ := hLC
      refine ⟨ds, kp _ _ (S3 _ _ (S2 _ _ e)) (ne_of_none e hld0), ln, fun k h1 h2 => ?_⟩
      obtain ⟨d, kvs, e1, e2, e3⟩ := gg k h1 h2
      exact ⟨d, kvs, e1, kp _ _ (S3 _ _ (S2 _ _ e2)) (ne_of_none e2 hld0), e3⟩
    refine for_list (xs := zs) (fun j σ H' => j ≤ zs.length ∧ ∃ o6 o7 o8 D2, σ = [some (.ref cl), some (.ref pa), some (.int ((t : Nat) : Int)), some (.ref rl2), some (.str nm), some (.ref ld), o6, o7, o8] ∧ Kp ld H3 H' ∧ H' ld = some (.dK (toK D2)) ∧ (D2.map (·.1)).Nodup ∧ (∀ q ∈ D2, q.1 ≤ t) ∧
        ∀ g, SG g D2 = sumN ((D.take j).map (stepW (Rn bk [nm]) g)))
      ⟨Nat.zero_le _, o6, o7, o8, [], rfl, Kp.refl, g3, List.nodup_nil, fun q h => (by cases h), fun g => rfl⟩ (fun j σ H' _ h => by obtain ⟨_, _, _, _, _, _, kp, _⟩ := h; exact SqL.of (kp _ _ (S3 _ _ gr2) nrl)) ?_ ?_
    · rintro j x σ H4 hx ⟨hj, o6', o7', o8', D2, rfl, k4, g4, hnd, hle4, hsg4⟩
      have hjl : j < zs.length := (List.getElem?_eq_some_iff.mp hx).1
      obtain ⟨qq, hqq, T, rfl, hT⟩ := paired_get hD hx
      obtain ⟨l, m⟩ := qq
      have hqm := List.mem_of_getElem? hqq
      have hlt : l ≤ t := hle _ hqm
      have hmle : m ≤ 2 ^ (410 * i) := Nat.le_trans (SG_mem hqm) hmass
      have nT : T ≠ ld := fun z => by have := S3 _ _ hT; rw [z, g3] at this; cases this
      have hT4 := k4 _ _ (S3 _ _ hT) nT
      refine ⟨T, _, rfl, SqT.of hT4, rfl, _, _, rfl, _, _, rfl, rfl, ?_⟩
      refine ⟨_, rfl, _, _, rfl, rfl, 1, _, rfl, ⟨by decide, by decide, ?_, ?_⟩, ?_⟩
      · show -(2 ^ 62) ≤ ((l : Nat) : Int) + 1
        lia
      · show ((l : Nat) : Int) + 1 < 2 ^ 62
        lia
      rw [show (((l : Nat) : Int) + 1 - 1).toNat = l by lia]
      refine for_range (fun k σ H' => k ≤ l ∧ ∃ o8 D3, σ = [some (.ref cl), some (.ref pa), some (.int ((t : Nat) : Int)), some (.ref rl2), some (.str nm), some (.ref ld), some (.int ((l : Nat) : Int)), some (.int ((m : Nat) : Int)), o8] ∧ Kp ld H3 H' ∧ H' ld = some (.dK (toK D3)) ∧ (D3.map (·.1)).Nodup ∧ (∀ q ∈ D3, q.1 ≤ t) ∧
          ∀ g, SG g D3 = SG g D2 + m * sumN ((List.range k).map fun f => Rn bk [nm] (f + 1) * g (l - (f + 1))))
        ⟨Nat.zero_le _, o8', D2, rfl, k4, g4, hnd, hle4, fun g => by show SG g D2 = SG g D2 + m * 0; lia⟩ ?_ ?_
      · rintro k σ H5 hk ⟨_, o8'', D3, rfl, k5, g5, hnd5, hle5, hsg5⟩
        rw [show (1 + (k : Int)) = ((k + 1 : Nat) : Int) by lia]
        obtain ⟨ds, e1, e2, e3⟩ := hLCof H5 k5
        obtain ⟨dd, kvs, e4, e5, e6⟩ := e3 (k + 1) (by lia) (by lia)
        have eval := e6 sr hsr
        rw [hsrn] at eval
        have hget : DGet H5 dd (.str nm) (some (.int ((Rn bk [nm] (k + 1) : Nat) : Int))) := by rw [← eval]; exact DGet.k (k := Sum.inr nm) e5
        have hat : atI ds (((k + 1 : Nat)) : Int) = some (.ref dd) := atI_nat e4
        refine ⟨_, rfl, _, rfl, cl, _, _, .ref dd, rfl, rfl, SqL.of e1, hat, _, rfl, dd, _, rfl, hget, _, _, rfl, rfl, _, rfl, ?_⟩
        have hsucc : ∀ g : Nat → Nat, sumN ((List.range (k + 1)).map fun f => Rn bk [nm] (f + 1) * g (l - (f + 1))) = sumN ((List.range k).map fun f => Rn bk [nm] (f + 1) * g (l - (f + 1))) + Rn bk [nm] (k + 1) * g (l - (k + 1)) := fun g => by
          rw [List.range_succ, List.map_append, sumN_app]
          show _ + (_ + 0) = _
          rw [Nat.add_zero]
        refine ite2 (fun c => ?_) (fun c => ?_)
        · have hN := Rn_lt hfew (t := k + 1) (row := [nm]) (by lia) (by show 1 ≤ 3; decide)
          have p400 : (2 : Nat) ^ 400 ≤ 2 ^ 2000 := Nat.pow_le_pow_right (by decide) (by decide)
          have pm : (2 : Nat) ^ (410 * i) < 2 ^ 2000 := Nat.pow_lt_pow_right (by decide) (by lia)
          refine ⟨_, rfl, ld, rfl, .inl ⟨_, .inl g5⟩, _, rfl, _, rfl, _, _, rfl, rfl, ?_⟩
          rw [show (V.int (((l : Nat) : Int) - ((k + 1 : Nat) : Int))) = V.int ((l - (k + 1) : Nat) : Int) from congrArg V.int (show ((l : Nat) : Int) - ((k + 1 : Nat) : Int) = ((l - (k + 1) : Nat) : Int) by lia)]
          refine ⟨_, DGet.k (k := Sum.inl ((l - (k + 1) : Nat) : Int)) g5, _, rfl, _, rfl, _, rfl, cl, _, _, .ref dd, rfl, rfl, SqL.of e1, hat, _, rfl, dd, _, rfl, hget, _, _, rfl, rfl, mul_ok (Nat.lt_of_le_of_lt hmle pm) (Nat.lt_of_lt_of_le hN p400), ?_⟩
          rw [toK_val]
          have esum : ∀ o : Option Nat, (o.map fun m => V.int ((m : Nat) : Int)).getD (.int 0) = V.int ((o.getD 0 : Nat) : Int) := fun o => by cases o <;> rfl
          rw [esum]
          refine ⟨_, _, rfl, rfl, _, rfl, _, rfl, _, rfl, _, _, rfl, rfl, ?_⟩
          rw [show (V.int (((l : Nat) : Int) - ((k + 1 : Nat) : Int))) = V.int ((l - (k + 1) : Nat) : Int) from congrArg V.int (show ((l : Nat) : Int) - ((k + 1 : Nat) : Int) = ((l - (k + 1) : Nat) : Int) by lia)]
          rw [show (V.int ((((lkN D3 (l - (k + 1))).getD 0 : Nat) : Int) + (((m : Nat) : Int) * ((Rn bk [nm] (k + 1) : Nat) : Int)))) = V.int (((lkN D3 (l - (k + 1))).getD 0 + m * Rn bk [nm] (k + 1) : Nat) : Int) from congrArg V.int (show (((lkN D3 (l - (k + 1))).getD 0 : Nat) : Int) + ((m : Nat) : Int) * ((Rn bk [nm] (k + 1) : Nat) : Int) = _ by rw [Int.natCast_add, Int.natCast_mul])]
          have hD3 : D3.length ≤ 25 := by
            have := nd_len 25 (D3.map (·.1)) hnd5 fun x hx => by obtain ⟨q, h1, h2⟩ := List.mem_map.mp hx; have := hle5 q h1; lia
            rw [List.length_map] at this; exact this
          have hlk : (toK D3).length = D3.length := List.length_map _
          refine ⟨ld, _, rfl, DPut.k (k := Sum.inl ((l - (k + 1) : Nat) : Int)) g5 (small1000 (by lia)), hk, _, putN D3 (l - (k + 1)) ((lkN D3 (l - (k + 1))).getD 0 + m * Rn bk [nm] (k + 1)), rfl, ?_, by rw [upd_same, toK_put], putN_nd hnd5, ?_, ?_⟩
          · intro b o hb hne
            rw [upd_ne hne]; exact k5 b o hb hne
          · intro q hq
            have hmem : q.1 ∈ (putN D3 (l - (k + 1)) ((lkN D3 (l - (k + 1))).getD 0 + m * Rn bk [nm] (k + 1))).map (·.1) := List.mem_map_of_mem hq
            rw [putN_keys] at hmem
            have hcase : q.1 ∈ D3.map (·.1) ∨ q.1 = l - (k + 1) := by
              split at hmem
              · exact .inl hmem
              · rcases List.mem_append.mp hmem with h | h
                · exact .inl h
                · exact .inr (by simpa using h)
            rcases hcase with h | h
            · obtain ⟨q', h1, h2⟩ := List.mem_map.mp h
              rw [← h2]; exact hle5 q' h1
            · lia
          · intro g
            have := SG_put g (l - (k + 1)) ((lkN D3 (l - (k + 1))).getD 0 + m * Rn bk [nm] (k + 1)) hnd5
            rw [Nat.add_mul] at this
            rw [hsucc g, Nat.mul_add, ← Nat.mul_assoc, ← Nat.add_assoc, ← hsg5 g]
            lia
        · refine ⟨hk, _, D3, rfl, k5, g5, hnd5, hle5, fun g => ?_⟩
          have hz : Rn bk [nm] (k + 1) = 0 := by
            by_cases z : Rn bk [nm] (k + 1) = 0
            · exact z
            · exact absurd (decide_eq_true (show (0 : Int) < ((Rn bk [nm] (k + 1) : Nat) : Int) by lia)) c
          rw [hsucc g, hz, Nat.zero_mul, Nat.add_zero]
          exact hsg5 g
      · rintro σ H5 ⟨_, o8'', D3, rfl, k5, g5, hnd5, hle5, hsg5⟩
        refine ⟨hjl, _, _, _, D3, rfl, k5, g5, hnd5, hle5, fun g => ?_⟩
        rw [hsg5 g, hsg4 g, List.take_add_one, hqq, List.map_append, sumN_app]
        show _ + _ = _ + (stepW (Rn bk [nm]) g (l, m) + 0)
        rw [Nat.add_zero]; rfl
    · rintro σ H4 ⟨_, o6', o7', o8', D2, rfl, k4, g4, hnd, hle4, hsg4⟩
      rw [← lz, List.take_length] at hsg4
      refine ⟨_, rfl, ld, _, rfl, g4, fun p zs2 H5 hp s5 gp hz2 => ?_⟩
      have hK4 : ∀ b o, H b = some o → H4 b = some o := fun b o h => k4 _ _ (S3 _ _ (S2 _ _ h)) (ne_of_none h hld0)
      have hD2 : D2.length ≤ 25 := by
        have := nd_len 25 (D2.map (·.1)) hnd fun x hx => by obtain ⟨q, h1, h2⟩ := List.mem_map.mp hx; have := hle4 q h1; lia
        rw [List.length_map] at this; exact this
      have hPz : Paired (RWt H5) D2 zs2 := by
        unfold toK at hz2
        clear hsg4 hle4 hnd g4 hD2 gp
        induction D2 generalizing zs2 with
        | nil => cases hz2; exact .nil
        | cons q r ih =>
          rw [List.map_cons] at hz2
          cases hz2 with
          | cons a b => exact .cons a (ih _ b)
      refine ⟨hil, _, _, _, _, _, p, zs2, D2, rfl, fun b o h => s5 _ _ (hK4 b o h), gp, hPz, ?_, hle4, hD2, ?_⟩
      · rw [hsg4, ← hSG, hrest]
        unfold SG
        rfl
      · rw [hsg4]
        refine Nat.le_trans (mass_step (B := 2 ^ 400) (fun k hk => Nat.le_of_lt (Rn_lt hfew hk (by show 1 ≤ 3; decide))) fun q hq => Nat.le_trans (hle q hq) ht24) ?_
        refine Nat.le_trans (Nat.mul_le_mul hmass (show 24 * 2 ^ 400 ≤ 2 ^ 410 by decide +kernel)) ?_
        rw [← Nat.pow_add]
        exact Nat.pow_le_pow_right (by decide) (by lia)
  · rintro σ H2 ⟨_, o4, o5, o6, o7, o8, rl2, zs, D, rfl, S2, gr2, hD, hSG, hle, hl25, hmass⟩
    rw [hlV, List.drop_length] at hSG
    have lz : D.length = zs.length := Paired.length hD
    refine ⟨_, rfl, rl2, rfl, ⟨_, SqL.of gr2⟩, ?_⟩
    refine comp2T_mk (by lia) hD (itl_go gr2) (itl_st gr2) (itl_y gr2) (fun q => decide (q.1 = 0)) (fun _ q v => v = .int ((q.2 : Nat) : Int)) (fun _ h => h) ?_ ?_
    · rintro q v H3 hq ⟨T, rfl, hT⟩ s3
      refine ⟨T, _, _, rfl, s3 _ _ hT, fun k hk => ⟨_, rfl, _, _, rfl, rfl, _, rfl, ?_⟩, fun _ k hk => ⟨_, rfl, hk _ _ (fun _ _ h => h) rfl⟩⟩
      rw [show (fun (i j : Int) => decide (i = j)) ((q.1 : Nat) : Int) 0 = decide (q.1 = 0) from decide_eq_decide.mpr ⟨fun e => by have e : ((q.1 : Nat) : Int) = 0 := e; lia, fun e => by show ((q.1 : Nat) : Int) = 0; lia⟩]
      exact hk
    · intro p ws H3 hp s3 gp hw
      have ew := paired_eq hw
      subst ew
      refine ⟨p, ((D.filter fun q => decide (q.1 = 0)).map (·.2)).map fun m => ((m : Nat) : Int), rfl, SqL.of ?_, ?_⟩
      · rw [gp, natL, List.map_map]; rfl
      · rw [sumI_nat]
        have hfin : sumN ((D.filter fun q => decide (q.1 = 0)).map (·.2)) = SG (Rl bk []) D := by
          clear hSG hle hl25 hmass hD lz gp hw
          unfold SG
          induction D with
          | nil => rfl
          | cons q r ih =>
            rw [List.filter_cons]
            show _ = q.2 * (if q.1 = 0 then 1 else 0) + sumN _
            by_cases c : q.1 = 0
            · rw [if_pos (decide_eq_true c), if_pos c, Nat.mul_one, ← ih]; rfl
            · rw [if_neg (by rw [decide_eq_true_eq]; exact c), if_neg c, Nat.mul_zero, Nat.zero_add, ← ih]
        rw [hfin, hSG, Rl_eq hfew]
        exact q H3 (S2.trans s3)
end
end My
namespace My
open PySem L2
section
variable {X : Cx}
theorem op_ne_nilT (hu : X.A.units < cLine) : OpR X (compareOp .NotEq) (fun x y H Q => ∃ a b xs, x = .ref a ∧ y = .ref b ∧ SqT X.K H a xs ∧ SqT X.K H b [] ∧ Q (.bl (!xs.isEmpty)) H) := by
  intro pins s σ H x y v u Q I rx ry h
  obtain ⟨a, b, xs, rfl, rfl, ha, hb, q⟩ := h
  cases rx
  cases ry
  obtain ⟨its, r, pl, _⟩ := I.tuple ha
  obtain ⟨its2, r2, pl2, _⟩ := I.tuple hb
  cases r2
  refine SeqAt.RcNeAt.tuples (e := fun _ => true) pl pl2 hu (fun j _ h2 => absurd h2 (Nat.not_lt_zero _)) X.prog X.w X.xe _ ⟨V.bl _, H, I, ?_, q⟩
  cases r with
  | nil => rfl
  | cons r1 t => simp [RelV]
end
inductive spLCounts  (vs : List V) (H : Hp) (Q : VK) (E_ : XK) : Prop
  | mk : ∀ bv bk n, (vs = [bv, .int ((n : Nat) : Int)]) → (RepB H bk bv) → (BkW bk) → (n ≤ 24) → (∀ cl H', H cl = none → Same H H' → LC bk H' cl (n + 1) → Q (.ref cl) H') → spLCounts vs H Q E_
noncomputable def pSum (bk : Bk) (i j : Nat) (s : Str) : Nat := sumN (((bk.forms.take j).filter fun fr => decide (fr.own.name = s)).map fun fr => Rn bk (nmsOf fr) i)
section
variable {P : Program} {w : World} {K : PySem.W.Frag} {mg : Str → Option Value} {base : Heap} {f f2 f3 f4 : Addr} {fd fd2 fd3 fd4 : FuncData}
noncomputable abbrev NLCounts : List Str := ["book", "most", "counts", "size", "here", "sort", "name", "parts", "rules"]
theorem scLCounts : FnScope NLCounts ["book", "most"] (defScope sLCounts) := ⟨rfl, rfl, rfl, by decide +kernel, rfl, by decide +kernel, by decide +kernel⟩
theorem ok_lcounts (F : Fun K "_law_counts" "_law_counts" sLCounts f fd) (G : Gb mg)
    (GR : FnOk P w K mg base CX0 1 f2 fd2 ["counts", "parts", "size"] spLRows) (bR : Binds K fd2 ["counts", "parts", "size"] []) (kR : PySem.W.keepIn K (.ref f2) = true) (mR : mg "_law_rows" = some (.ref f2)) : FnOk P w K mg base CX0 2 f fd ["book", "most"] spLCounts := by
  refine F.ok scLCounts (fun vs H Q E h => ?_) (fun cdv A outer s H vs Q E hr h => ?_)
  · obtain ⟨bv, bk, n, rfl, _⟩ := h
    rfl
  obtain ⟨bv, bk, n, rfl, hB, hok, hn, q⟩ := h
  have hu := hu_of hr
  have hfew := hok.two
  refine ⟨_, pss_cons (ps_set (i := 2) scLCounts.nd rfl (Or.inl rfl) (pe_lst (pa_cons pe_dnewK pa_nil)))
    (pss_cons (ps_for PassesOwn.never rfl (pi_range2 rfl G.range (pa_cons pe_int (pa_cons (pe_op op_add (pv 1) pe_int) pa_nil))) (pg_name (i := 3) scLCounts.nd rfl (Or.inl rfl))
      (pss_cons (ps_set (i := 4) scLCounts.nd rfl (Or.inl rfl) pe_dnewK)
      (pss_cons (ps_for PassesOwn.never rfl (pi_tup (pe_ix (r := rIxT K) ix_tup (pv 0) pe_int (fun _ _ => rfl))) (pg_name (i := 5) scLCounts.nd rfl (Or.inl rfl))
        (pss_one (ps_dput hu (pv 4) (pe_ix (r := rIxT K) ix_tup (pv 5) pe_int (fun _ _ => rfl)) pe_int rfl)))
      (pss_cons (ps_for PassesOwn.never rfl (pi_tup (pe_ix (r := rIxT K) ix_tup (pv 0) pe_int (fun _ _ => rfl)))
        (pg_tup rfl (pgs_cons (pg_name (i := 6) scLCounts.nd rfl (Or.inl rfl)) (pgs_cons (pg_name (i := 5) scLCounts.nd rfl (Or.inl rfl)) (pgs_cons (pg_name (i := 7) scLCounts.nd rfl (Or.inl rfl)) (pgs_cons (pg_name (i := 8) scLCounts.nd rfl (Or.inl rfl)) pgs_nil)))))
        (pss_one (ps_dput hu (pv 4) (pv 5) (pe_op op_add (pe_dget hu (pv 4) (pv 5) (fun _ _ => rfl)) (pe_call GR hr rfl mR kR bR .nil pass0 (pa_cons (pv 2) (pa_cons (pv 7) (pa_cons (pe_op op_sub (pv 3) pe_int) pa_nil))))) rfl)))
      (pss_one (ps_expr (pe_bm PySem.F.plainAttrs_list PySem.F.slot_list_append PySem.F.type_list_append mt_append (pv 2) (pa_cons (pv 4) pa_nil))))))))
    (pss_one (ps_ret (pv 2)))), ?_⟩
  have hB0 := hB
  obtain ⟨a, sa, fa, fv, rfl, ha, ⟨sx, hsa, hS⟩, hfa, hF⟩ := hB0
  have lS := hS.len
  have lF := hF.len
  have h4 := hok.so.2.1
  have h10 := hok.few
  refine fun d0 hd0 => ?_
  have s0 := same_new hd0 (.dK [])
  generalize upd H d0 (.dK []) = H0 at s0 ⊢
  refine ⟨(by show 1 ≤ sizeLine; decide), fun cl hcl => ?_⟩
  have s1 := same_new hcl (.lst [.ref d0])
  have g1 : (upd H0 cl (.lst [.ref d0])) cl = some (.lst [.ref d0]) := upd_same
  have S1 : Same H (upd H0 cl (.lst [.ref d0])) := s0.trans s1
  have hcl0 : H cl = none := s0.free hcl
  generalize upd H0 cl (.lst [.ref d0]) = H1 at s1 g1 S1 ⊢
  refine ⟨_, rfl, _, _, rfl, rfl, 1, _, rfl, ⟨by decide, by decide, ?_, ?_⟩, ?_⟩
  · show -(2 ^ 62) ≤ ((n : Nat) : Int) + 1
    lia
  · show ((n : Nat) : Int) + 1 < 2 ^ 62
    lia
  rw [show (((n : Nat) : Int) + 1 - 1).toNat = n by lia]
  refine for_range (fun i σ H' => i ≤ n ∧ ∃ o3 o4 o5 o6 o7 o8, σ = [some (.ref a), some (.int ((n : Nat) : Int)), some (.ref cl), o3, o4, o5, o6, o7, o8] ∧ Same H H' ∧ LC bk H' cl (i + 1))
    ⟨Nat.zero_le _, none, none, none, none, none, none, rfl, S1, [.ref d0], g1, rfl, fun k h1 h2 => absurd h2 (by lia)⟩ ?_ ?_
  · rintro i σ H2 hi ⟨_, o3, o4, o5, o6, o7, o8, rfl, S2, hLC⟩
    rw [show (1 + (i : Int)) = ((i + 1 : Nat) : Int) by lia]
    refine fun hd hhd => ?_
    have s3 := same_new hhd (.dK [])
    have g3 : (upd H2 hd (.dK [])) hd = some (.dK []) := upd_same
    have hhd0 : H hd = none := S2.free hhd
    generalize upd H2 hd (.dK []) = H3 at s3 g3 ⊢
    refine ⟨_, rfl, a, _, 1, .ref sa, rfl, rfl, SqT.of (s3 _ _ (S2 _ _ ha)), atI_nat (j := 1) rfl, sa, rfl, ⟨sx, SqT.of (s3 _ _ (S2 _ _ hsa))⟩, ?_⟩
    refine for_tup (xs := sx) (fun j σ H' => j ≤ sx.length ∧ ∃ o5 kvs, σ = [some (.ref a), some (.int ((n : Nat) : Int)), some (.ref cl), some (.int ((i + 1 : Nat) : Int)), some (.ref hd), o5, o6, o7, o8] ∧ Same H2 H' ∧ H' hd = some (.dK kvs) ∧ kvs.length ≤ j ∧ ∀ s ∈ bk.sorts.take j, valV kvs (Sum.inr (Srt.name s)) = some (.int 0))
      ⟨Nat.zero_le _, o5, [], rfl, s3, g3, Nat.le_refl _, fun s h => (by cases h)⟩ (fun j σ H' _ h => by obtain ⟨_, _, _, _, sm, _⟩ := h; exact SqT.of (sm _ _ (S2 _ _ hsa))) ?_ ?_
    · rintro j x σ H4 hx ⟨_, o5', kvs, rfl, S4, g4, hl4, hv4⟩
      have hjl : j < sx.length := (List.getElem?_eq_some_iff.mp hx).1
      obtain ⟨sr, hsr, b, c, e, rfl, hb, hc, he⟩ := paired_get hS hx
      refine ⟨_, rfl, _, rfl, b, _, 0, .str sr.name, rfl, rfl, SqT.of (S4 _ _ (S2 _ _ hb)), atI_nat (j := 0) rfl, hd, _, rfl, DPut.k (k := Sum.inr sr.name) g4 (small1000 (by lia)), hjl, _, _, rfl, ?_, upd_same, ?_, ?_⟩
      · intro y o h
        rw [upd_ne (ne_of_none h hhd)]
        exact S4 _ _ h
      · have := length_putK kvs (Sum.inr sr.name) (.int 0)
        lia
      · intro s hs
        rw [valV_put]
        by_cases c : s.name = sr.name
        · rw [if_pos (by rw [c])]
        · rw [if_neg (fun z => c (Sum.inr.inj z))]
          rw [List.take_add_one, hsr] at hs
          rcases List.mem_append.mp hs with h | h
          · exact hv4 s h
          · exact absurd (congrArg Srt.name (show s = sr by simpa using h)) c
    rintro σ H4 ⟨_, o5', kvs, rfl, S4, g4, hl4, hv4⟩
    rw [← lS, List.take_length] at hv4
    refine ⟨_, rfl, a, _, 2, .ref fa, rfl, rfl, SqT.of (S4 _ _ (S2 _ _ ha)), atI_nat (j := 2) rfl, fa, rfl, ⟨fv, SqT.of (S4 _ _ (S2 _ _ hfa))⟩, ?_⟩
    refine for_tup (xs := fv) (fun j σ H' => j ≤ fv.length ∧ ∃ o5 o6 o7 o8 kvs, σ = [some (.ref a), some (.int ((n : Nat) : Int)), some (.ref cl), some (.int ((i + 1 : Nat) : Int)), some (.ref hd), o5, o6, o7, o8] ∧ Same H2 H' ∧ H' hd = some (.dK kvs) ∧ kvs.length ≤ 4 + j ∧ ∀ s ∈ bk.sorts, valV kvs (Sum.inr (Srt.name s)) = some (.int ((pSum bk i j s.name : Nat) : Int)))
      ⟨Nat.zero_le _, o5', o6, o7, o8, kvs, rfl, S4, g4, by lia, hv4⟩ (fun j σ H' _ h => by obtain ⟨_, _, _, _, _, _, _, sm, _⟩ := h; exact SqT.of (sm _ _ (S2 _ _ hfa))) ?_ ?_
    · rintro j x σ H5 hx ⟨_, o5'', o6', o7', o8', kv5, rfl, S5, g5, hl5, hv5⟩
      have hjl : j < fv.length := (List.getElem?_eq_some_iff.mp hx).1
      obtain ⟨fr, hfr, b, pa, ra, rv, rfl, hb, hpa, hra, hRR⟩ := paired_get hF hx
      have hfm := List.mem_of_getElem? hfr
      obtain ⟨hown, hparts, hp3⟩ := hok.fo fr hfm
      have hnl : (nmsOf fr).length = fr.parts.length := List.length_map _
      refine ⟨b, _, rfl, SqT.of (S5 _ _ (S2 _ _ hb)), rfl, _, _, rfl, _, _, rfl, _, _, rfl, _, _, rfl, rfl, ?_⟩
      refine ⟨_, rfl, _, rfl, hd, _, rfl, (by rw [← hv5 fr.own hown]; exact DGet.k (k := Sum.inr fr.own.name) g5), _, rfl, _, rfl, _, rfl, _, _, rfl, rfl, ?_⟩
      rw [show (V.int (((i + 1 : Nat) : Int) - 1)) = V.int ((i : Nat) : Int) from congrArg V.int (show ((i + 1 : Nat) : Int) - 1 = ((i : Nat) : Int) by lia)]
      refine ⟨cl, pa, bk, nmsOf fr, i + 1, i, rfl, hok, LC.keep S5 hLC, by rw [← nms_parts]; exact S5 _ _ (S2 _ _ hpa), fun x hx => ?_, by lia, by lia, by lia, by lia, fun H6 s6 => ?_⟩
      · obtain ⟨p, hp, e⟩ := List.mem_map.mp hx
        exact ⟨p, hparts p hp, e⟩
      refine ⟨_, _, rfl, rfl, _, rfl, _, rfl, hd, _, rfl, DPut.k (k := Sum.inr fr.own.name) (s6 _ _ g5) (small1000 (by lia)), hjl, _, _, _, _, _, rfl, ?_, upd_same, ?_, ?_⟩
      · intro y o h
        rw [upd_ne (ne_of_none h hhd)]
        exact s6 _ _ (S5 _ _ h)
      · have := length_putK kv5 (Sum.inr fr.own.name) ((V.int (((pSum bk i j fr.own.name : Nat) : Int) + ((Rn bk (nmsOf fr) i : Nat) : Int))))
        lia
      · intro s hs
        rw [valV_put]
        have et : (bk.forms.take (j + 1)).filter (fun (x : Frm) => decide (x.own.name = s.name)) = (bk.forms.take j).filter (fun (x : Frm) => decide (x.own.name = s.name)) ++ (if decide (fr.own.name = s.name) then [fr] else []) := take_succ_filter (fun (x : Frm) => decide (x.own.name = s.name)) bk.forms j fr hfr
        by_cases c : s.name = fr.own.name
        · rw [if_pos (by rw [c])]
          refine congrArg some (congrArg V.int ?_)
          show ((pSum bk i j fr.own.name : Nat) : Int) + ((Rn bk (nmsOf fr) i : Nat) : Int) = ((pSum bk i (j + 1) s.name : Nat) : Int)
          unfold pSum
          rw [et, if_pos (decide_eq_true c.symm), List.map_append, sumN_app, c]
          show _ = ((_ + (Rn bk (nmsOf fr) i + 0) : Nat) : Int)
          lia
        · rw [if_neg (fun z => c (Sum.inr.inj z)), hv5 s hs]
          unfold pSum
          rw [et, if_neg (by rw [decide_eq_true_eq]; exact fun z => c z.symm), List.append_nil]
    · rintro σ H5 ⟨_, o5'', o6', o7', o8', kv5, rfl, S5, g5, hl5, hv5⟩
      obtain ⟨ds, e1, e2, e3⟩ := LC.keep S5 hLC
      refine ⟨_, rfl, .inl ⟨rfl, _, SqL.of e1⟩, _, rfl, cl, _, _, rfl, rfl, e1, small1000 (by lia), ?_⟩
      have ncl : ∀ d kvs, H5 d = some (.dK kvs) → d ≠ cl := fun d kvs h z => by rw [z, e1] at h; cases h
      refine ⟨hi, _, _, _, _, _, _, rfl, ?_, ds ++ [.ref hd], upd_same, by rw [List.length_append, e2]; rfl, fun k h1 h2 => ?_⟩
      · intro y o h
        rw [upd_ne (ne_of_none h hcl0)]
        exact S5 _ _ (S2 _ _ h)
      · by_cases c : k < i + 1
        · obtain ⟨d, kvs', f1, f2, f3⟩ := e3 k h1 c
          exact ⟨d, kvs', by rw [List.getElem?_append_left (by lia)]; exact f1, by rw [upd_ne (ncl _ _ f2)]; exact f2, f3⟩
        · have : k = i + 1 := by lia
          subst this
          refine ⟨hd, kv5, by rw [List.getElem?_append_right (by lia), e2, Nat.sub_self]; rfl, by rw [upd_ne (ncl _ _ g5)]; exact g5, fun s hs => ?_⟩
          rw [hv5 s hs, Rn_one hfew, if_neg (Nat.succ_ne_zero i), Nat.add_sub_cancel]
          unfold pSum
          rw [← lF, List.take_length]
  · rintro σ H2 ⟨_, o3, o4, o5, o6, o7, o8, rfl, S2, hLC⟩
    exact ⟨_, rfl, q cl H2 hcl0 S2 hLC⟩
end
end My
namespace My
open PySem L2
inductive spLRight  (vs : List V) (H : Hp) (Q : VK) (E_ : XK) : Prop
  | mk : ∀ bv bk few more, (vs = [bv, .int ((few : Nat) : Int), .int ((more : Nat) : Int)]) → (RepB H bk bv) → (BkW bk) → (1 ≤ few) → (few ≤ more) → (more ≤ 24) → (∀ H', Same H H' → Q (.bl true) H') → spLRight vs H Q E_
theorem RowIn.sort {bk : Bk} {s : Srt} (h : s ∈ bk.sorts) : RowIn bk [s.name] := .inr (.inl ⟨s, h, rfl⟩)
theorem LC.get {bk : Bk} {H : Hp} {cl : Addr} {n k : Nat} {s : Srt} (h : LC bk H cl n) (h1 : 1 ≤ k) (h2 : k < n) (hs : s ∈ bk.sorts) :
    ∃ ds d, H cl = some (.lst ds) ∧ atI ds ((k : Nat) : Int) = some (.ref d) ∧ DGet H d (.str s.name) (some (.int ((Rn bk [s.name] k : Nat) : Int))) := by
  obtain ⟨ds, e1, e2, e3⟩ := h
  obtain ⟨d, kvs, f1, f2, f3⟩ := e3 k h1 h2
  exact ⟨ds, d, e1, atI_nat f1, by rw [← f3 s hs]; exact DGet.k (k := Sum.inr s.name) f2⟩
section
variable {P : Program} {w : World} {K : PySem.W.Frag} {mg : Str → Option Value} {base : Heap} {f f2 f3 f4 : Addr} {fd fd2 fd3 fd4 : FuncData}
noncomputable abbrev NLRight : List Str := ["book", "few", "more", "counts", "sort", "name"]
theorem scLRight : FnScope NLRight ["book", "few", "more"] (defScope sLRight) := ⟨rfl, rfl, rfl, by decide +kernel, rfl, by decide +kernel, by decide +kernel⟩
theorem ok_lright (F : Fun K "_law_right" "_law_right" sLRight f fd) (G : Gb mg)
    (GC : FnOk P w K mg base CX0 2 f2 fd2 ["book", "most"] spLCounts) (bC : Binds K fd2 ["book", "most"] []) (kC : PySem.W.keepIn K (.ref f2) = true) (mC : mg "_law_counts" = some (.ref f2))
    (GM : FnOk P w K mg base CX0 5 f3 fd3 ["book", "sort", "size"] spMany) (bM : Binds K fd3 ["book", "sort", "size"] []) (kM : PySem.W.keepIn K (.ref f3) = true) (mM : mg "many_trees" = some (.ref f3))
    (GS : FnOk P w K mg base CX0 3 f4 fd4 ["found", "due"] (spSame 1)) (bS : Binds K fd4 ["found", "due"] []) (kS : PySem.W.keepIn K (.ref f4) = true) (mS : mg "_law_same" = some (.ref f4)) :
    FnOk P w K mg base CX0 6 f fd ["book", "few", "more"] spLRight := by
  refine F.ok scLRight (fun vs H Q E h => ?_) (fun cdv A outer s H vs Q E hr h => ?_)
  · obtain ⟨bv, bk, few, more, rfl, _⟩ := h
    rfl
  obtain ⟨bv, bk, few, more, rfl, hB, hok, hf1, hfm, hm24, q⟩ := h
  have hu := hu_of hr
  have hr2 := hr.mono (show 2 ≤ 5 by decide)
  have hr3 := hr.mono (show 3 ≤ 5 by decide)
  refine ⟨_, pss_cons (ps_set (i := 3) scLRight.nd rfl (Or.inl rfl) (pe_call GC hr2 rfl mC kC bC .nil pass0 (pa_cons (pv 0) (pa_cons (pv 2) pa_nil))))
    (pss_cons (ps_for PassesOwn.never rfl (pi_tup (pe_ix (r := rIxT K) ix_tup (pv 0) pe_int (fun _ _ => rfl))) (pg_name (i := 4) scLRight.nd rfl (Or.inl rfl))
      (pss_one (ps_if (pt_not (pt_val (pe_call GS hr3 rfl mS kS bS .nil pass0 (pa_cons (pe_call GM hr rfl mM kM bM .nil pass0 (pa_cons (pv 0) (pa_cons (pe_ix (r := rIxT K) ix_tup (pv 4) pe_int (fun _ _ => rfl)) (pa_cons (pv 1) pa_nil))))
        (pa_cons (pe_dget hu (pe_ix (r := rIxL K) ix_list (pv 3) (pv 1) (fun _ _ => rfl)) (pe_ix (r := rIxT K) ix_tup (pv 4) pe_int (fun _ _ => rfl)) (fun _ _ => rfl)) pa_nil))))) pss_never pss_nil)))
    (pss_cons (ps_set (i := 5) scLRight.nd rfl (Or.inl rfl) (pe_ix (r := rIxT K) ix_tup (pe_ix (r := rIxT K) ix_tup (pe_ix (r := rIxT K) ix_tup (pv 0) pe_int (fun _ _ => rfl)) (pe_op op_mod (pv 2) (pe_callB (r := rLen K) call_len_seq rfl G.len PySem.boot_len (pa_cons (pe_ix (r := rIxT K) ix_tup (pv 0) pe_int (fun _ _ => rfl)) pa_nil))) (fun _ _ => rfl)) pe_int (fun _ _ => rfl)))
    (pss_cons (ps_if (pt_not (pt_val (pe_call GS hr3 rfl mS kS bS .nil pass0 (pa_cons (pe_call GM hr rfl mM kM bM .nil pass0 (pa_cons (pv 0) (pa_cons (pv 5) (pa_cons (pv 2) pa_nil))))
        (pa_cons (pe_dget hu (pe_ix (r := rIxL K) ix_list (pv 3) (pv 2) (fun _ _ => rfl)) (pv 5) (fun _ _ => rfl)) pa_nil))))) pss_never pss_nil)
    (pss_one (ps_ret (pe_call GS hr3 rfl mS kS bS .nil pass0 (pa_cons (pe_call GM hr rfl mM kM bM .nil pass0 (pa_cons (pv 0) (pa_cons pe_str (pa_cons (pv 1) pa_nil)))) (pa_cons pe_int pa_nil)))))))), ?_⟩
  refine ⟨_, rfl, _, rfl, bv, bk, more, rfl, hB, hok, hm24, fun cl H1 hcl s1 hLC => ?_⟩
  have hB0 := hB
  obtain ⟨a, sa, fa, fv, rfl, ha, ⟨sx, hsa, hS⟩, hfa, hF⟩ := hB0
  have lS := hS.len
  have h1 := hok.so.1
  have h4 := hok.so.2.1
  refine ⟨_, rfl, a, _, 1, .ref sa, rfl, rfl, SqT.of (s1 _ _ ha), atI_nat (j := 1) rfl, sa, rfl, ⟨sx, SqT.of (s1 _ _ hsa)⟩, ?_⟩
  refine for_tup (xs := sx) (fun j σ H' => ∃ o4, σ = [some (.ref a), some (.int ((few : Nat) : Int)), some (.int ((more : Nat) : Int)), some (.ref cl), o4, none] ∧ Same H1 H')
    ⟨none, rfl, Same.refl H1⟩ (fun j σ H' _ h => by obtain ⟨_, _, sm⟩ := h; exact SqT.of (sm _ _ (s1 _ _ hsa))) ?_ ?_
  · rintro j x σ H2 hx ⟨o4, rfl, s2⟩
    obtain ⟨sr, hsr, b, c, e, rfl, hb, hc, he⟩ := paired_get hS hx
    have hsm := List.mem_of_getElem? hsr
    have S2 := s1.trans s2
    refine ⟨_, rfl, _, rfl, b, _, 0, .str sr.name, rfl, rfl, SqT.of (S2 _ _ hb), atI0, _, rfl, .ref a, bk, sr.name, few, rfl, hB.mono (tk_of S2), hok, by lia, fun m H3 hm _ s3 => ?_⟩
    rw [hm (RowIn.sort hsm)]
    obtain ⟨ds, d, g1, g2, g3⟩ := LC.get (LC.keep (s2.trans s3) hLC) hf1 (show few < more + 1 by lia) hsm
    refine ⟨_, rfl, _, rfl, cl, ds, _, .ref d, rfl, rfl, SqL.of g1, g2, _, rfl, b, _, 0, .str sr.name, rfl, rfl, SqT.of ((S2.trans s3) _ _ hb), atI0, d, _, rfl, g3, _, _, rfl, .inr (.inl ⟨_, rfl, rfl⟩), fun H4 s4 => ⟨true, rfl, iteF ⟨_, rfl, s2.trans (s3.trans s4)⟩⟩⟩
  · rintro σ H2 ⟨o4, rfl, s2⟩
    have S2 := s1.trans s2
    have hd0 : (0 : Int) ≤ ((more : Nat) : Int) % ((sx.length : Nat) : Int) := Int.emod_nonneg _ (by lia)
    have hd1 : ((more : Nat) : Int) % ((sx.length : Nat) : Int) < ((sx.length : Nat) : Int) := Int.emod_lt_of_pos _ (by lia)
    obtain ⟨sr, b, c, e, hsm, eat, hb⟩ := sort_at (hS.mono (tk_of S2)) hd0 hd1
    replace hsm := List.mem_of_getElem? hsm
    refine ⟨_, rfl, a, _, 1, .ref sa, rfl, rfl, SqT.of (S2 _ _ ha), atI_nat (j := 1) rfl, _, rfl, _, rfl, a, _, 1, .ref sa, rfl, rfl, SqT.of (S2 _ _ ha), atI_nat (j := 1) rfl, sa, sx, rfl, .inr (SqT.of (S2 _ _ hsa)), _, _, rfl, rfl, by lia,
      sa, sx, _, .ref b, rfl, rfl, SqT.of (S2 _ _ hsa), eat, b, _, 0, .str sr.name, rfl, rfl, SqT.of hb, atI0, ?_⟩
    refine ⟨_, rfl, _, rfl, _, rfl, .ref a, bk, sr.name, more, rfl, hB.mono (tk_of S2), hok, hm24, fun m H3 hm _ s3 => ?_⟩
    rw [hm (RowIn.sort hsm)]
    obtain ⟨ds, d, g1, g2, g3⟩ := LC.get (LC.keep (s2.trans s3) hLC) (show 1 ≤ more by lia) (show more < more + 1 by lia) hsm
    refine ⟨_, rfl, _, rfl, cl, ds, _, .ref d, rfl, rfl, SqL.of g1, g2, _, rfl, d, _, rfl, g3, _, _, rfl, .inr (.inl ⟨_, rfl, rfl⟩), fun H4 s4 => ⟨true, rfl, iteF ?_⟩⟩
    have S4 := S2.trans (s3.trans s4)
    refine ⟨_, rfl, _, rfl, .ref a, bk, "nosuch", few, rfl, hB.mono (tk_of S4), hok, by lia, fun m H5 _ hm s5 => ?_⟩
    rw [hm (RowIn.no hok)]
    exact ⟨_, _, rfl, .inr (.inl ⟨_, rfl, rfl⟩), fun H6 s6 => q H6 (S4.trans (s5.trans s6))⟩
end
end My
namespace My
open PySem L2
inductive spLaw (K : PySem.W.Frag) (vs : List V) (H : Hp) (Q : VK) (E_ : XK) : Prop
  | mk : ∀ (a : Addr) (ns : List Int), (vs = [.ref a]) → (SqL K H a (ns.map V.int)) → (ns.length ≤ 63) → (∀ H', Q (.bl true) H') → spLaw K vs H Q E_
theorem Same.lst {K : PySem.W.Frag} {H H' : Hp} {a : Addr} {xs : List V} (s : Same H H') (h : SqL K H a xs) : SqL K H' a xs := SqL.keep h fun o e => s _ _ e
theorem not_whole2 (x y z : V) : ¬ (HT.sIx [x, y, z].length 0 none = 0 ∧ HT.sIx [x, y, z].length [x, y, z].length (some 2) = [x, y, z].length) := by
  rintro ⟨_, h⟩
  have h2 : HT.sIx 3 3 (some 2) = 3 := h
  exact absurd h2 (by decide)
theorem cut2 (x y z : V) : cutV [x, y, z] none (some 2) = [x, y] := rfl
theorem two_at {d : Int} (h0 : 0 ≤ d) (h1 : d < 2) : ∃ r : Nat, atI [V.int 8, .int 17] d = some (.int ((r : Nat) : Int)) ∧ 8 ≤ r ∧ r ≤ 17 := by
  have : d = 0 ∨ d = 1 := by lia
  rcases this with rfl | rfl
  · exact ⟨8, rfl, by lia, by lia⟩
  · exact ⟨17, rfl, by lia, by lia⟩
noncomputable def Bk.less (bk : Bk) (g : Str) : Bk := ⟨bk.wheel, bk.sorts, bk.forms.filter fun fr => !decide (fr.own.name = g)⟩
theorem BkW.less {bk : Bk} (h : BkW bk) (g : Str) : BkW (bk.less g) :=
  ⟨h.so, Nat.le_trans (List.length_filter_le _ _) h.few, fun fr m => h.fo fr (List.mem_filter.mp m).1⟩
section
variable {P : Program} {w : World} {K : PySem.W.Frag} {mg : Str → Option Value} {base : Heap} {f g f2 f3 f4 f5 : Addr} {fd gd fd2 fd3 fd4 fd5 : FuncData}
noncomputable abbrev NLaw : List Str := ["script", "start", "tape", "few", "more", "book", "gone", "rest"]
theorem scLaw : FnScope NLaw ["script"] (defScope sLaw) := ⟨rfl, rfl, rfl, by decide +kernel, rfl, by decide +kernel, by decide +kernel⟩
theorem ok_law (F : Fun K "law" "law" sLaw f fd) (G : Gb mg)
    (GT : FnOk P w K mg base CX0 2 g gd ["script", "k"] (spTape K)) (bT : Binds K gd ["script", "k"] []) (kT : PySem.W.keepIn K (.ref g) = true) (mT : mg "_law_tape" = some (.ref g))
    (GD : FnOk P w K mg base CX0 1 f2 fd2 ["tape", "many"] spDigit) (bD : Binds K fd2 ["tape", "many"] []) (kD : PySem.W.keepIn K (.ref f2) = true) (mD : mg "_law_digit" = some (.ref f2))
    (GB : FnOk P w K mg base CX0 6 f3 fd3 ["script", "start", "few"] (spBook K)) (bB : Binds K fd3 ["script", "start", "few"] []) (kB : PySem.W.keepIn K (.ref f3) = true) (mB : mg "_law_book" = some (.ref f3))
    (GC : FnOk P w K mg base CX0 1 f4 fd4 ["script", "k"] (spCell K)) (bC : Binds K fd4 ["script", "k"] []) (kC : PySem.W.keepIn K (.ref f4) = true) (mC : mg "_law_cell_at" = some (.ref f4))
    (GI : FnOk P w K mg base CX0 6 f5 fd5 ["book", "few", "more"] spLRight) (bI : Binds K fd5 ["book", "few", "more"] []) (kI : PySem.W.keepIn K (.ref f5) = true) (mI : mg "_law_right" = some (.ref f5)) :
    FnOk P w K mg base CX0 7 f fd ["script"] (spLaw K) := by
  refine F.ok scLaw (fun vs H Q E h => ?_) (fun cdv A outer s H vs Q E hr h => ?_)
  · obtain ⟨a, ns, rfl, _⟩ := h
    rfl
  obtain ⟨a, ns, rfl, hS, hlen, q⟩ := h
  have hu := hr.units0
  have hr1 := hr.mono (show 1 ≤ 6 by decide)
  have hr2 := hr.mono (show 2 ≤ 6 by decide)
  refine ⟨_, pss_cons (ps_for PassesOwn.never rfl (pi_range3 rfl G.range (pa_cons pe_int (pa_cons (pe_callB (call_max2 rfl) rfl G.max (by decide +kernel) (pa_cons pe_int (pa_cons (pe_callB (call_min2 rfl) rfl G.min (by decide +kernel) (pa_cons pe_int (pa_cons (pe_callB (r := rLen K) call_len_seq rfl G.len PySem.boot_len (pa_cons (pv 0) pa_nil)) pa_nil))) pa_nil))) (pa_cons pe_int pa_nil)))) (pg_name (i := 1) scLaw.nd rfl (Or.inl rfl))
      (pss_cons (ps_set (i := 2) scLaw.nd rfl (Or.inl rfl) (pe_call GT hr2 rfl mT kT bT .nil pass0 (pa_cons (pv 0) (pa_cons (pv 1) pa_nil))))
      (pss_cons (ps_set (i := 3) scLaw.nd rfl (Or.inl rfl) (pe_op op_add pe_int (pe_call GD hr1 rfl mD kD bD .nil pass0 (pa_cons (pv 2) (pa_cons pe_int pa_nil)))))
      (pss_cons (ps_set (i := 4) scLaw.nd rfl (Or.inl rfl) (pe_op op_add (pe_ix (r := rIxL K) ix_list (pe_lst (pa_cons pe_int (pa_cons pe_int pa_nil))) (pe_call GD hr1 rfl mD kD bD .nil pass0 (pa_cons (pv 2) (pa_cons pe_int pa_nil))) (fun _ _ => rfl)) (pe_call GD hr1 rfl mD kD bD .nil pass0 (pa_cons (pv 2) (pa_cons pe_int pa_nil)))))
      (pss_cons (ps_set (i := 5) scLaw.nd rfl (Or.inl rfl) (pe_call GB hr rfl mB kB bB .nil pass0 (pa_cons (pv 0) (pa_cons (pv 1) (pa_cons pe_bl pa_nil)))))
      (pss_cons (ps_set (i := 6) scLaw.nd rfl (Or.inr rfl) (pe_ix (r := rIxT K) ix_tup (pe_ix (r := rIxT K) ix_tup (pe_ix (r := rIxT K) ix_tup (pv 5) pe_int (fun _ _ => rfl)) (pe_op op_mod (pe_op op_fdiv (pe_call GC hr1 rfl mC kC bC .nil pass0 (pa_cons (pv 0) (pa_cons (pv 1) pa_nil))) pe_int) (pe_callB (r := rLen K) call_len_seq rfl G.len PySem.boot_len (pa_cons (pe_ix (r := rIxT K) ix_tup (pv 5) pe_int (fun _ _ => rfl)) pa_nil))) (fun _ _ => rfl)) pe_int (fun _ _ => rfl)))
      (pss_cons (ps_set (i := 7) scLaw.nd rfl (Or.inl rfl) (pe_callTy (r := rTupOf K) call_tuple_of rfl G.tuple (by decide +kernel) (pa_cons
        (pe_compT (sc0 := defScope sLaw) (N0 := NLaw) (ys := ["gone"]) (fr := [6]) rfl (pi_tup (pe_ix (r := rIxT K) ix_tup (pv 5) pe_int (fun _ _ => rfl))) rfl rfl
          ⟨rfl, by decide +kernel, by decide +kernel, by decide +kernel, by decide +kernel, by decide +kernel, rfl, by decide +kernel⟩
          (fun C s H ex => pt_cmpR op_ne (pe_ix (r := rIxT K) ix_tup (pv 0) pe_int (fun _ _ => rfl)) (pv 1) (nomark _)) (fun C s H ex => pv 0)) pa_nil)))
      (pss_one (ps_if (PW.pt (pw_or (pt_not (pt_val (pe_call GI hr rfl mI kI bI .nil pass0 (pa_cons (pv 5) (pa_cons (pv 3) (pa_cons (pv 4) pa_nil))))))
        (pw_or1 (PW.pt (pw_and (pt_cmpR (op_ne_nilT hu) (pv 7) (pe_tup pa_nil) (nomark _)) (pw_and1 (pt_not (pt_val (pe_call GI hr rfl mI kI bI .nil pass0
          (pa_cons (pe_op op_catTB (pe_slice sl_tup (pv 5) po_none (po_some pe_int)) (pe_tup (pa_cons (pv 7) pa_nil))) (pa_cons (pv 3) (pa_cons (pe_callB (call_min2 rfl) rfl G.min (by decide +kernel) (pa_cons pe_int (pa_cons (pv 4) pa_nil))) pa_nil)))))))))))) pss_never pss_nil)))))))))
    (pss_one (ps_ret pe_bl)), ?_⟩
  have hll : (ns.map V.int).length = ns.length := List.length_map _
  refine ⟨_, rfl, a, _, rfl, .inl hS, 22, _, rfl, 1, _, rfl, 0, _, 11, rfl, ?_, ?_⟩
  · rw [hll]
    refine ⟨by decide, by decide, ?_, ?_, by decide, by decide⟩ <;> split <;> split <;> lia
  rw [hll]
  have hb : Builtin.Range.rangeSize 0 (if (if (ns.length : Int) < 22 then (ns.length : Int) else 22) > 1 then (if (ns.length : Int) < 22 then (ns.length : Int) else 22) else 1) 11 ≤ 2 := by
    unfold Builtin.Range.rangeSize
    rw [if_pos (by decide)]
    split <;> (try split) <;> (try split) <;> lia
  refine for_walk (fun i σ H' => ∃ o1 o2 o3 o4 o5 o6 o7, σ = [some (.ref a), o1, o2, o3, o4, o5, o6, o7] ∧ Same H H') ⟨_, _, _, _, _, _, _, rfl, Same.refl H⟩ ?_ ?_
  · rintro i x σ H1 hi rfl ⟨o1, o2, o3, o4, o5, o6, o7, rfl, s1⟩
    have hi2 : (i : Int) < 2 := by lia
    refine ⟨_, rfl, _, rfl, a, ns, _, rfl, Same.lst s1 hS, hlen, by lia, by lia, fun tp t hp => ?_⟩
    have s2 := same_new hp (.lst [.int t])
    have t2 : Tp (upd H1 tp (.lst [.int t])) tp := ⟨t, upd_same⟩
    have n2 : H tp = none := s1.free hp
    generalize upd H1 tp (.lst [.int t]) = H2 at s2 t2 ⊢
    have S2 := s1.trans s2
    have kS : ∀ {Ha Hb : Hp}, Same H Ha → Kp tp Ha Hb → Same H Hb := fun sa kb c o h => kb _ _ (sa _ _ h) (ne_of_none h n2)
    refine ⟨_, rfl, tp, _, rfl, t2, by decide, by decide, fun d1 u1 hd1 hd1' => ⟨_, _, rfl, rfl, ?_⟩⟩
    obtain ⟨k1, rfl⟩ : ∃ k : Nat, d1 = (k : Int) := ⟨d1.toNat, by lia⟩
    rw [show (V.int (1 + ((k1 : Nat) : Int))) = V.int ((1 + k1 : Nat) : Int) from congrArg V.int (show (1 : Int) + ((k1 : Nat) : Int) = ((1 + k1 : Nat) : Int) by lia)]
    have S3 : Same H (upd H2 tp (.lst [.int u1])) := kS S2 Kp.tape
    have t3 : Tp (upd H2 tp (.lst [.int u1])) tp := ⟨u1, upd_same⟩
    generalize upd H2 tp (.lst [.int u1]) = H3 at S3 t3 ⊢
    refine ⟨(by show 2 ≤ sizeLine; decide), fun pr hpr => ?_⟩
    have s4 := same_new hpr (.lst [.int 8, .int 17])
    have g4 : (upd H3 pr (.lst [.int 8, .int 17])) pr = some (.lst [.int 8, .int 17]) := upd_same
    have npr : pr ≠ tp := fun z => by obtain ⟨_, e⟩ := t3; rw [← z, hpr] at e; cases e
    have t4 : Tp (upd H3 pr (.lst [.int 8, .int 17])) tp := t3.new hpr
    generalize upd H3 pr (.lst [.int 8, .int 17]) = H4 at s4 g4 t4 ⊢
    refine ⟨_, rfl, tp, _, rfl, t4, by decide, by decide, fun d2 u2 hd2 hd2' => ?_⟩
    obtain ⟨r, er, hr8, hr17⟩ := two_at hd2 hd2'
    refine ⟨pr, _, _, _, rfl, rfl, SqL.of (show (upd H4 tp (.lst [.int u2])) pr = some (.lst [.int 8, .int 17]) by rw [upd_ne npr]; exact g4), er, ?_⟩
    have S5 : Same H (upd H4 tp (.lst [.int u2])) := kS (S3.trans s4) Kp.tape
    have t5 : Tp (upd H4 tp (.lst [.int u2])) tp := ⟨u2, upd_same⟩
    generalize upd H4 tp (.lst [.int u2]) = H5 at S5 t5 ⊢
    refine ⟨_, rfl, tp, _, rfl, t5, by decide, by decide, fun d3 u3 hd3 hd3' => ⟨_, _, rfl, rfl, ?_⟩⟩
    obtain ⟨k3, rfl⟩ : ∃ k : Nat, d3 = (k : Int) := ⟨d3.toNat, by lia⟩
    rw [show (V.int (((r : Nat) : Int) + ((k3 : Nat) : Int))) = V.int ((r + k3 : Nat) : Int) from congrArg V.int (show ((r : Nat) : Int) + ((k3 : Nat) : Int) = ((r + k3 : Nat) : Int) by lia)]
    have S6 : Same H (upd H5 tp (.lst [.int u3])) := kS S5 Kp.tape
    generalize upd H5 tp (.lst [.int u3]) = H6 at S6 ⊢
    refine ⟨_, rfl, _, rfl, a, ns, _, false, rfl, Same.lst S6 hS, hlen, by lia, by lia, fun bv bk H7 hB hok s7 => ?_⟩
    have S7 := S6.trans s7
    have hw := hok.w
    have hB0 := hB
    obtain ⟨b, sa, fa, fv, rfl, hbk, ⟨sx, hsa, hSx⟩, hfa, hF⟩ := hB0
    have lS := hSx.len
    have lF := hF.len
    have h10 := hok.few
    have hs1 := hw.so.1
    refine ⟨_, rfl, b, _, 1, .ref sa, rfl, rfl, SqT.of hbk, atI_nat (j := 1) rfl, _, rfl, _, rfl, a, ns, _, rfl, Same.lst S7 hS, hlen, by lia, fun c => ?_⟩
    refine ⟨_, _, rfl, rfl, ⟨by decide, by decide⟩, _, rfl, b, _, 1, .ref sa, rfl, rfl, SqT.of hbk, atI_nat (j := 1) rfl, sa, sx, rfl, .inr (SqT.of hsa), _, _, rfl, rfl, by lia, ?_⟩
    obtain ⟨sr, sb, sc, se, hsm, eat, hsb⟩ := sort_at hSx (d := c / 7 % ((sx.length : Nat) : Int)) (Int.emod_nonneg _ (by lia)) (Int.emod_lt_of_pos _ (by lia))
    refine ⟨sa, sx, _, .ref sb, rfl, rfl, SqT.of hsa, eat, sb, _, 0, .str sr.name, rfl, rfl, SqT.of hsb, atI0, ?_⟩
    refine ⟨_, rfl, b, _, 2, .ref fa, rfl, rfl, SqT.of hbk, atI_nat (j := 2) rfl, fa, rfl, ⟨fv, SqT.of hfa⟩, ?_⟩
    refine compT_mk (by lia) hF (itt_go hfa) (itt_st hfa) (itt_y hfa) (fun fr => !decide (fr.own.name = sr.name)) (fun H fr v => RepF H fr v) (fun k h => h.mono k) ?_ ?_ ?_
    · rintro fr v H' k _ ⟨a1, pa, ra, rv, rfl, g1, _⟩ s' hk
      refine ⟨_, rfl, a1, _, 1, .str fr.own.name, rfl, rfl, SqT.of (s' _ _ g1), atI_nat (j := 1) rfl, _, rfl, rfl, _, rfl, ?_⟩
      rw [show decide (V.str fr.own.name = V.str sr.name) = decide (fr.own.name = sr.name) from decide_eq_decide.mpr ⟨fun e => V.str.inj e, fun e => by rw [e]⟩]
      exact hk
    · rintro fr v H' k _ hR _ s' hk
      exact ⟨_, rfl, hk _ _ (fun _ _ h => h) (hR.mono (tk_of s'))⟩
    intro p zs H8 hp s8 gp hz
    refine ⟨p, zs, rfl, .inl ⟨SqL.of gp, fun l hl => ?_⟩⟩
    have s9 := same_new hl (.tup zs)
    have g9 : (upd H8 l (.tup zs)) l = some (.tup zs) := upd_same
    generalize upd H8 l (.tup zs) = H9 at s9 g9 ⊢
    have T9 := s8.trans s9
    refine ⟨_, rfl, _, rfl, _, rfl, .ref b, bk, 1 + k1, r + k3, rfl, hB.mono (tk_of T9), hw, by lia, by lia, by lia, fun H10 s10 => ⟨true, rfl, iteF ?_⟩⟩
    have T10 := T9.trans s10
    refine ⟨_, rfl, (by show 0 ≤ sizeLine; decide), fun e he => ?_⟩
    have s11 := same_new he (.tup [])
    have g11 : (upd H10 e (.tup [])) e = some (.tup []) := upd_same
    generalize upd H10 e (.tup []) = H11 at s11 g11 ⊢
    have T11 := T10.trans s11
    have gl11 := (s10.trans s11) _ _ g9
    refine ⟨l, e, zs, rfl, rfl, SqT.of gl11, SqT.of g11, _, rfl, ?_⟩
    refine ite2 (fun c => ?_) (fun c => iteF ⟨_, _, _, _, _, _, _, rfl, S7.trans T11⟩)
    refine ⟨_, rfl, 2, rfl, b, _, rfl, SqT.of (T11 _ _ hbk), not_whole2 _ _ _, fun p2 hp2 => ?_⟩
    rw [cut2]
    have s12 := same_new hp2 (.tup [.int bk.wheel, .ref sa])
    have g12 : (upd H11 p2 (.tup [.int bk.wheel, .ref sa])) p2 = some (.tup [.int bk.wheel, .ref sa]) := upd_same
    generalize upd H11 p2 (.tup [.int bk.wheel, .ref sa]) = H12 at s12 g12 ⊢
    refine ⟨_, rfl, (by show 1 ≤ sizeLine; decide), fun p4 hp4 => ?_⟩
    have s13 := same_new hp4 (.tup [.ref l])
    have g13 : (upd H12 p4 (.tup [.ref l])) p4 = some (.tup [.ref l]) := upd_same
    generalize upd H12 p4 (.tup [.ref l]) = H13 at s13 g13 ⊢
    refine ⟨p2, p4, _, _, rfl, rfl, SqT.of (s13 _ _ g12), SqT.of g13, (by show 3 ≤ sizeLine; decide), fun e => (by cases e), fun _ e => (by cases e), fun _ _ p5 hp5 => ?_⟩
    have s14 := same_new hp5 (.tup ([.int bk.wheel, .ref sa] ++ [.ref l]))
    have g14 : (upd H13 p5 (.tup ([.int bk.wheel, .ref sa] ++ [.ref l]))) p5 = some (.tup ([.int bk.wheel, .ref sa] ++ [.ref l])) := upd_same
    generalize upd H13 p5 (.tup ([.int bk.wheel, .ref sa] ++ [.ref l])) = H14 at s14 g14 ⊢
    have T14 := T11.trans (s12.trans (s13.trans s14))
    have gl14 := (s12.trans (s13.trans s14)) _ _ gl11
    refine ⟨_, rfl, _, rfl, 12, _, rfl, ?_⟩
    rw [show V.int (if ((r + k3 : Nat) : Int) < 12 then ((r + k3 : Nat) : Int) else 12) = V.int ((min 12 (r + k3) : Nat) : Int) from congrArg V.int (by split <;> lia)]
    refine ⟨.ref p5, bk.less sr.name, 1 + k1, min 12 (r + k3), rfl, ⟨p5, sa, l, zs, rfl, g14, ⟨sx, T14 _ _ hsa, hSx.mono (tk_of T14)⟩, gl14, Paired.mapP hz fun _ _ h => h.mono (tk_of (s9.trans (s10.trans (s11.trans (s12.trans (s13.trans s14))))))⟩, hw.less _, by lia, by lia, by lia, fun H15 s15 => ⟨true, rfl, iteF ?_⟩⟩
    exact ⟨_, _, _, _, _, _, _, rfl, S7.trans (T14.trans s15)⟩
  · rintro σ H1 _
    exact q H1
end
end My
namespace My
open PySem L2
theorem binds1 {α : Type} {l : List α} (h : l.length = 1) : ∃ a, l = [a] := by
  match l, h with
  | [a], _ => exact ⟨a, rfl⟩
theorem binds2 {α : Type} {l : List α} (h : l.length = 2) : ∃ a b, l = [a, b] := by
  match l, h with
  | [a, b], _ => exact ⟨a, b, rfl⟩
theorem binds3 {α : Type} {l : List α} (h : l.length = 3) : ∃ a b c, l = [a, b, c] := by
  match l, h with
  | [a, b, c], _ => exact ⟨a, b, c, rfl⟩
theorem binds4 {α : Type} {l : List α} (h : l.length = 4) : ∃ a b c d, l = [a, b, c, d] := by
  match l, h with
  | [a, b, c, d], _ => exact ⟨a, b, c, d, rfl⟩
theorem binds5 {α : Type} {l : List α} (h : l.length = 5) : ∃ a b c d e, l = [a, b, c, d, e] := by
  match l, h with
  | [a, b, c, d, e], _ => exact ⟨a, b, c, d, e, rfl⟩
theorem binds6 {α : Type} {l : List α} (h : l.length = 6) : ∃ a b c d e f, l = [a, b, c, d, e, f] := by
  match l, h with
  | [a, b, c, d, e, f], _ => exact ⟨a, b, c, d, e, f, rfl⟩
theorem all_mk {l : PySem.W.OpenLaw} {w : World} {K : PySem.W.Frag} {h : Heap} {mg : Str → Option Value} {fa f1 f2 f3 f4 f5 f6 f7 f8 f9 f10 f11 f12 f13 f14 f15 f16 f17 f18 f19 f20 f21 f22 f23 f24 f25 f26 f27 f28 : Addr} (X : K.In h) (G : h.Ns mainGlobals mg) (hfa : mg "law" = some (.ref fa))
    {od1 an1 od2 an2 od3 an3 od4 an4 od5 an5 od6 an6 od7 an7 od8 an8 od9 an9 od10 an10 od11 an11 od12 an12 od13 an13 od14 an14 od15 an15 od16 an16 od17 an17 od18 an18 od19 an19 od20 an20 od21 an21 od22 an22 od23 an23 od24 an24 od25 an25 od26 an26 od27 an27 od28 an28 : Option Addr} {sl1 sl2 sl3 sl4 sl5 sl6 sl7 sl8 sl9 sl10 sl11 sl12 sl13 sl14 sl15 sl16 sl17 sl18 sl19 sl20 sl21 sl22 sl23 sl24 sl25 sl26 sl27 sl28 : Array (Option Value)} {oc1 kV1 dc1 pm1 cd1 ct1 oc2 kV2 dc2 pm2 cd2 ct2 oc3 kV3 dc3 pm3 cd3 ct3 oc4 kV4 dc4 pm4 cd4 ct4 oc5 kV5 dc5 pm5 cd5 ct5 oc6 kV6 dc6 pm6 cd6 ct6 oc7 kV7 dc7 pm7 cd7 ct7 oc8 kV8 dc8 pm8 cd8 ct8 oc9 kV9 dc9 pm9 cd9 ct9 oc10 kV10 dc10 pm10 cd10 ct10 oc11 kV11 dc11 pm11 cd11 ct11 oc12 kV12 dc12 pm12 cd12 ct12 oc13 kV13 dc13 pm13 cd13 ct13 oc14 kV14 dc14 pm14 cd14 ct14 oc15 kV15 dc15 pm15 cd15 ct15 oc16 kV16 dc16 pm16 cd16 ct16 oc17 kV17 dc17 pm17 cd17 ct17 oc18 kV18 dc18 pm18 cd18 ct18 oc19 kV19 dc19 pm19 cd19 ct19 oc20 kV20 dc20 pm20 cd20 ct20 oc21 kV21 dc21 pm21 cd21 ct21 oc22 kV22 dc22 pm22 cd22 ct22 oc23 kV23 dc23 pm23 cd23 ct23 oc24 kV24 dc24 pm24 cd24 ct24 oc25 kV25 dc25 pm25 cd25 ct25 oc26 kV26 dc26 pm26 cd26 ct26 oc27 kV27 dc27 pm27 cd27 ct27 oc28 kV28 dc28 pm28 cd28 ct28 : Value}
    (a1 : PySem.W.nsIn K mainGlobals "sorts_of" = some (some (.ref f1))) (l1 : K.lookup f1 = some ⟨oc1, od1, .func (PySem.W.fnOf "sorts_of" "sorts_of" (defArgs sSortsOf) (defBody sSortsOf) (defScope sSortsOf) .none kV1 dc1 pm1 an1 cd1 ct1), sl1⟩) (c1 : PySem.W.codeIn K cd1 "sorts_of" = true) (k1 : PySem.W.keepIn K (.ref f1) = true)
    (a2 : PySem.W.nsIn K mainGlobals "forms_of" = some (some (.ref f2))) (l2 : K.lookup f2 = some ⟨oc2, od2, .func (PySem.W.fnOf "forms_of" "forms_of" (defArgs sFormsOf) (defBody sFormsOf) (defScope sFormsOf) .none kV2 dc2 pm2 an2 cd2 ct2), sl2⟩) (c2 : PySem.W.codeIn K cd2 "forms_of" = true) (k2 : PySem.W.keepIn K (.ref f2) = true)
    (a3 : PySem.W.nsIn K mainGlobals "sort_of_form" = some (some (.ref f3))) (l3 : K.lookup f3 = some ⟨oc3, od3, .func (PySem.W.fnOf "sort_of_form" "sort_of_form" (defArgs sSortOfForm) (defBody sSortOfForm) (defScope sSortOfForm) .none kV3 dc3 pm3 an3 cd3 ct3), sl3⟩) (c3 : PySem.W.codeIn K cd3 "sort_of_form" = true) (k3 : PySem.W.keepIn K (.ref f3) = true)
    (a4 : PySem.W.nsIn K mainGlobals "parts_of" = some (some (.ref f4))) (l4 : K.lookup f4 = some ⟨oc4, od4, .func (PySem.W.fnOf "parts_of" "parts_of" (defArgs sPartsOf) (defBody sPartsOf) (defScope sPartsOf) .none kV4 dc4 pm4 an4 cd4 ct4), sl4⟩) (c4 : PySem.W.codeIn K cd4 "parts_of" = true) (k4 : PySem.W.keepIn K (.ref f4) = true)
    (a5 : PySem.W.nsIn K mainGlobals "many_trees" = some (some (.ref f5))) (l5 : K.lookup f5 = some ⟨oc5, od5, .func (PySem.W.fnOf "many_trees" "many_trees" (defArgs sMany) (defBody sMany) (defScope sMany) .none kV5 dc5 pm5 an5 cd5 ct5), sl5⟩) (c5 : PySem.W.codeIn K cd5 "many_trees" = true) (k5 : PySem.W.keepIn K (.ref f5) = true)
    (a6 : PySem.W.nsIn K mainGlobals "counts_up_to" = some (some (.ref f6))) (l6 : K.lookup f6 = some ⟨oc6, od6, .func (PySem.W.fnOf "counts_up_to" "counts_up_to" (defArgs sUpTo) (defBody sUpTo) (defScope sUpTo) .none kV6 dc6 pm6 an6 cd6 ct6), sl6⟩) (c6 : PySem.W.codeIn K cd6 "counts_up_to" = true) (k6 : PySem.W.keepIn K (.ref f6) = true)
    (a7 : PySem.W.nsIn K mainGlobals "rows_of" = some (some (.ref f7))) (l7 : K.lookup f7 = some ⟨oc7, od7, .func (PySem.W.fnOf "rows_of" "rows_of" (defArgs sRowsOf) (defBody sRowsOf) (defScope sRowsOf) .none kV7 dc7 pm7 an7 cd7 ct7), sl7⟩) (c7 : PySem.W.codeIn K cd7 "rows_of" = true) (k7 : PySem.W.keepIn K (.ref f7) = true)
    (a8 : PySem.W.nsIn K mainGlobals "count_of" = some (some (.ref f8))) (l8 : K.lookup f8 = some ⟨oc8, od8, .func (PySem.W.fnOf "count_of" "count_of" (defArgs sCountOf) (defBody sCountOf) (defScope sCountOf) .none kV8 dc8 pm8 an8 cd8 ct8), sl8⟩) (c8 : PySem.W.codeIn K cd8 "count_of" = true) (k8 : PySem.W.keepIn K (.ref f8) = true)
    (a9 : PySem.W.nsIn K mainGlobals "forms_with_keys" = some (some (.ref f9))) (l9 : K.lookup f9 = some ⟨oc9, od9, .func (PySem.W.fnOf "forms_with_keys" "forms_with_keys" (defArgs sWithKeys) (defBody sWithKeys) (defScope sWithKeys) .none kV9 dc9 pm9 an9 cd9 ct9), sl9⟩) (c9 : PySem.W.codeIn K cd9 "forms_with_keys" = true) (k9 : PySem.W.keepIn K (.ref f9) = true)
    (a10 : PySem.W.nsIn K mainGlobals "cuts_of" = some (some (.ref f10))) (l10 : K.lookup f10 = some ⟨oc10, od10, .func (PySem.W.fnOf "cuts_of" "cuts_of" (defArgs sCuts) (defBody sCuts) (defScope sCuts) .none kV10 dc10 pm10 an10 cd10 ct10), sl10⟩) (c10 : PySem.W.codeIn K cd10 "cuts_of" = true) (k10 : PySem.W.keepIn K (.ref f10) = true)
    (a11 : PySem.W.nsIn K mainGlobals "_law_cell_at" = some (some (.ref f11))) (l11 : K.lookup f11 = some ⟨oc11, od11, .func (PySem.W.fnOf "_law_cell_at" "_law_cell_at" (defArgs sCell) (defBody sCell) (defScope sCell) .none kV11 dc11 pm11 an11 cd11 ct11), sl11⟩) (c11 : PySem.W.codeIn K cd11 "_law_cell_at" = true) (k11 : PySem.W.keepIn K (.ref f11) = true)
    (a12 : PySem.W.nsIn K mainGlobals "_law_tape" = some (some (.ref f12))) (l12 : K.lookup f12 = some ⟨oc12, od12, .func (PySem.W.fnOf "_law_tape" "_law_tape" (defArgs sTape) (defBody sTape) (defScope sTape) .none kV12 dc12 pm12 an12 cd12 ct12), sl12⟩) (c12 : PySem.W.codeIn K cd12 "_law_tape" = true) (k12 : PySem.W.keepIn K (.ref f12) = true)
    (a13 : PySem.W.nsIn K mainGlobals "_law_digit" = some (some (.ref f13))) (l13 : K.lookup f13 = some ⟨oc13, od13, .func (PySem.W.fnOf "_law_digit" "_law_digit" (defArgs sDigit) (defBody sDigit) (defScope sDigit) .none kV13 dc13 pm13 an13 cd13 ct13), sl13⟩) (c13 : PySem.W.codeIn K cd13 "_law_digit" = true) (k13 : PySem.W.keepIn K (.ref f13) = true)
    (a14 : PySem.W.nsIn K mainGlobals "_law_names" = some (some (.ref f14))) (l14 : K.lookup f14 = some ⟨oc14, od14, .func (PySem.W.fnOf "_law_names" "_law_names" (defArgs sNames) (defBody sNames) (defScope sNames) .none kV14 dc14 pm14 an14 cd14 ct14), sl14⟩) (c14 : PySem.W.codeIn K cd14 "_law_names" = true) (k14 : PySem.W.keepIn K (.ref f14) = true)
    (a15 : PySem.W.nsIn K mainGlobals "_law_number" = some (some (.ref f15))) (l15 : K.lookup f15 = some ⟨oc15, od15, .func (PySem.W.fnOf "_law_number" "_law_number" (defArgs sNumber) (defBody sNumber) (defScope sNumber) .none kV15 dc15 pm15 an15 cd15 ct15), sl15⟩) (c15 : PySem.W.codeIn K cd15 "_law_number" = true) (k15 : PySem.W.keepIn K (.ref f15) = true)
    (a16 : PySem.W.nsIn K mainGlobals "_law_leaf" = some (some (.ref f16))) (l16 : K.lookup f16 = some ⟨oc16, od16, .func (PySem.W.fnOf "_law_leaf" "_law_leaf" (defArgs sLeaf) (defBody sLeaf) (defScope sLeaf) .none kV16 dc16 pm16 an16 cd16 ct16), sl16⟩) (c16 : PySem.W.codeIn K cd16 "_law_leaf" = true) (k16 : PySem.W.keepIn K (.ref f16) = true)
    (a17 : PySem.W.nsIn K mainGlobals "_law_formula" = some (some (.ref f17))) (l17 : K.lookup f17 = some ⟨oc17, od17, .func (PySem.W.fnOf "_law_formula" "_law_formula" (defArgs sFormula) (defBody sFormula) (defScope sFormula) .none kV17 dc17 pm17 an17 cd17 ct17), sl17⟩) (c17 : PySem.W.codeIn K cd17 "_law_formula" = true) (k17 : PySem.W.keepIn K (.ref f17) = true)
    (a18 : PySem.W.nsIn K mainGlobals "_law_sorts" = some (some (.ref f18))) (l18 : K.lookup f18 = some ⟨oc18, od18, .func (PySem.W.fnOf "_law_sorts" "_law_sorts" (defArgs sSorts) (defBody sSorts) (defScope sSorts) .none kV18 dc18 pm18 an18 cd18 ct18), sl18⟩) (c18 : PySem.W.codeIn K cd18 "_law_sorts" = true) (k18 : PySem.W.keepIn K (.ref f18) = true)
    (a19 : PySem.W.nsIn K mainGlobals "_law_targets" = some (some (.ref f19))) (l19 : K.lookup f19 = some ⟨oc19, od19, .func (PySem.W.fnOf "_law_targets" "_law_targets" (defArgs sTargets) (defBody sTargets) (defScope sTargets) .none kV19 dc19 pm19 an19 cd19 ct19), sl19⟩) (c19 : PySem.W.codeIn K cd19 "_law_targets" = true) (k19 : PySem.W.keepIn K (.ref f19) = true)
    (a20 : PySem.W.nsIn K mainGlobals "_law_readings" = some (some (.ref f20))) (l20 : K.lookup f20 = some ⟨oc20, od20, .func (PySem.W.fnOf "_law_readings" "_law_readings" (defArgs sLReadings) (defBody sLReadings) (defScope sLReadings) .none kV20 dc20 pm20 an20 cd20 ct20), sl20⟩) (c20 : PySem.W.codeIn K cd20 "_law_readings" = true) (k20 : PySem.W.keepIn K (.ref f20) = true)
    (a21 : PySem.W.nsIn K mainGlobals "_law_form" = some (some (.ref f21))) (l21 : K.lookup f21 = some ⟨oc21, od21, .func (PySem.W.fnOf "_law_form" "_law_form" (defArgs sLForm) (defBody sLForm) (defScope sLForm) .none kV21 dc21 pm21 an21 cd21 ct21), sl21⟩) (c21 : PySem.W.codeIn K cd21 "_law_form" = true) (k21 : PySem.W.keepIn K (.ref f21) = true)
    (a22 : PySem.W.nsIn K mainGlobals "_law_book" = some (some (.ref f22))) (l22 : K.lookup f22 = some ⟨oc22, od22, .func (PySem.W.fnOf "_law_book" "_law_book" (defArgs sBook) (defBody sBook) (defScope sBook) .none kV22 dc22 pm22 an22 cd22 ct22), sl22⟩) (c22 : PySem.W.codeIn K cd22 "_law_book" = true) (k22 : PySem.W.keepIn K (.ref f22) = true)
    (a23 : PySem.W.nsIn K mainGlobals "_law_whole" = some (some (.ref f23))) (l23 : K.lookup f23 = some ⟨oc23, od23, .func (PySem.W.fnOf "_law_whole" "_law_whole" (defArgs sLWhole) (defBody sLWhole) (defScope sLWhole) .none kV23 dc23 pm23 an23 cd23 ct23), sl23⟩) (c23 : PySem.W.codeIn K cd23 "_law_whole" = true) (k23 : PySem.W.keepIn K (.ref f23) = true)
    (a24 : PySem.W.nsIn K mainGlobals "_law_same" = some (some (.ref f24))) (l24 : K.lookup f24 = some ⟨oc24, od24, .func (PySem.W.fnOf "_law_same" "_law_same" (defArgs sSame) (defBody sSame) (defScope sSame) .none kV24 dc24 pm24 an24 cd24 ct24), sl24⟩) (c24 : PySem.W.codeIn K cd24 "_law_same" = true) (k24 : PySem.W.keepIn K (.ref f24) = true)
    (a25 : PySem.W.nsIn K mainGlobals "_law_rows" = some (some (.ref f25))) (l25 : K.lookup f25 = some ⟨oc25, od25, .func (PySem.W.fnOf "_law_rows" "_law_rows" (defArgs sLRows) (defBody sLRows) (defScope sLRows) .none kV25 dc25 pm25 an25 cd25 ct25), sl25⟩) (c25 : PySem.W.codeIn K cd25 "_law_rows" = true) (k25 : PySem.W.keepIn K (.ref f25) = true)
    (a26 : PySem.W.nsIn K mainGlobals "_law_counts" = some (some (.ref f26))) (l26 : K.lookup f26 = some ⟨oc26, od26, .func (PySem.W.fnOf "_law_counts" "_law_counts" (defArgs sLCounts) (defBody sLCounts) (defScope sLCounts) .none kV26 dc26 pm26 an26 cd26 ct26), sl26⟩) (c26 : PySem.W.codeIn K cd26 "_law_counts" = true) (k26 : PySem.W.keepIn K (.ref f26) = true)
    (a27 : PySem.W.nsIn K mainGlobals "_law_right" = some (some (.ref f27))) (l27 : K.lookup f27 = some ⟨oc27, od27, .func (PySem.W.fnOf "_law_right" "_law_right" (defArgs sLRight) (defBody sLRight) (defScope sLRight) .none kV27 dc27 pm27 an27 cd27 ct27), sl27⟩) (c27 : PySem.W.codeIn K cd27 "_law_right" = true) (k27 : PySem.W.keepIn K (.ref f27) = true)
    (a28 : PySem.W.nsIn K mainGlobals "law" = some (some (.ref f28))) (l28 : K.lookup f28 = some ⟨oc28, od28, .func (PySem.W.fnOf "law" "law" (defArgs sLaw) (defBody sLaw) (defScope sLaw) .none kV28 dc28 pm28 an28 cd28 ct28), sl28⟩) (c28 : PySem.W.codeIn K cd28 "law" = true) (k28 : PySem.W.keepIn K (.ref f28) = true)
    (z1 : PySem.W.nsIn K mainGlobals "isinstance" = some none)
    (z2 : PySem.W.nsIn K mainGlobals "int" = some none)
    (z3 : PySem.W.nsIn K mainGlobals "bool" = some none)
    (z4 : PySem.W.nsIn K mainGlobals "str" = some none)
    (z5 : PySem.W.nsIn K mainGlobals "tuple" = some none)
    (z6 : PySem.W.nsIn K mainGlobals "len" = some none)
    (z7 : PySem.W.nsIn K mainGlobals "all" = some none)
    (z8 : PySem.W.nsIn K mainGlobals "range" = some none)
    (z9 : PySem.W.nsIn K mainGlobals "max" = some none)
    (z10 : PySem.W.nsIn K mainGlobals "min" = some none)
    (z11 : PySem.W.nsIn K mainGlobals "list" = some none)
    (z12 : PySem.W.nsIn K mainGlobals "zip" = some none)
    (z13 : PySem.W.nsIn K mainGlobals "sum" = some none) :
    ∃ fd : FuncData, (∀ (s : Shared) (v : Value), BindsTo s fd ⟨[v], []⟩ [("script", v)]) ∧ ∀ base : Heap, K.In base → base.Ns mainGlobals mg → FnOk l.prog w K mg base CX0 7 fa fd ["script"] (spLaw K) := by
  have e := hfa.symm.trans (PySem.W.mg_of X G a28)
  cases e
  have F1 := fun_mk (st := sSortsOf) l1 c1 k1
  have b1 := F1.binds (ps := ["book"]) fun _ _ _ _ _ _ us hl => by obtain ⟨x, rfl⟩ := binds1 hl; rfl
  have m1 := PySem.W.mg_of X G a1
  have F2 := fun_mk (st := sFormsOf) l2 c2 k2
  have b2 := F2.binds (ps := ["book"]) fun _ _ _ _ _ _ us hl => by obtain ⟨x, rfl⟩ := binds1 hl; rfl
  have m2 := PySem.W.mg_of X G a2
  have F3 := fun_mk (st := sSortOfForm) l3 c3 k3
  have b3 := F3.binds (ps := ["form"]) fun _ _ _ _ _ _ us hl => by obtain ⟨x, rfl⟩ := binds1 hl; rfl
  have m3 := PySem.W.mg_of X G a3
  have F4 := fun_mk (st := sPartsOf) l4 c4 k4
  have b4 := F4.binds (ps := ["form"]) fun _ _ _ _ _ _ us hl => by obtain ⟨x, rfl⟩ := binds1 hl; rfl
  have m4 := PySem.W.mg_of X G a4
  have F5 := fun_mk (st := sMany) l5 c5 k5
  have b5 := F5.binds (ps := ["book", "sort", "size"]) fun _ _ _ _ _ _ us hl => by obtain ⟨x, y, z, rfl⟩ := binds3 hl; rfl
  have m5 := PySem.W.mg_of X G a5
  have F6 := fun_mk (st := sUpTo) l6 c6 k6
  have b6 := F6.binds (ps := ["book", "size"]) fun _ _ _ _ _ _ us hl => by obtain ⟨x, y, rfl⟩ := binds2 hl; rfl
  have m6 := PySem.W.mg_of X G a6
  have F7 := fun_mk (st := sRowsOf) l7 c7 k7
  have b7 := F7.binds (ps := ["book"]) fun _ _ _ _ _ _ us hl => by obtain ⟨x, rfl⟩ := binds1 hl; rfl
  have m7 := PySem.W.mg_of X G a7
  have F8 := fun_mk (st := sCountOf) l8 c8 k8
  have b8 := F8.binds (ps := ["book", "counts", "row", "total"]) fun _ _ _ _ _ _ us hl => by obtain ⟨x, y, z, u, rfl⟩ := binds4 hl; rfl
  have m8 := PySem.W.mg_of X G a8
  have F9 := fun_mk (st := sWithKeys) l9 c9 k9
  have b9 := F9.binds (ps := ["book", "row", "total"]) fun _ _ _ _ _ _ us hl => by obtain ⟨x, y, z, rfl⟩ := binds3 hl; rfl
  have m9 := PySem.W.mg_of X G a9
  have F10 := fun_mk (st := sCuts) l10 c10 k10
  have b10 := F10.binds (ps := ["row", "total"]) fun _ _ _ _ _ _ us hl => by obtain ⟨x, y, rfl⟩ := binds2 hl; rfl
  have m10 := PySem.W.mg_of X G a10
  have F11 := fun_mk (st := sCell) l11 c11 k11
  have b11 := F11.binds (ps := ["script", "k"]) fun _ _ _ _ _ _ us hl => by obtain ⟨x, y, rfl⟩ := binds2 hl; rfl
  have m11 := PySem.W.mg_of X G a11
  have F12 := fun_mk (st := sTape) l12 c12 k12
  have b12 := F12.binds (ps := ["script", "k"]) fun _ _ _ _ _ _ us hl => by obtain ⟨x, y, rfl⟩ := binds2 hl; rfl
  have m12 := PySem.W.mg_of X G a12
  have F13 := fun_mk (st := sDigit) l13 c13 k13
  have b13 := F13.binds (ps := ["tape", "many"]) fun _ _ _ _ _ _ us hl => by obtain ⟨x, y, rfl⟩ := binds2 hl; rfl
  have m13 := PySem.W.mg_of X G a13
  have F14 := fun_mk (st := sNames) l14 c14 k14
  have b14 := F14.binds (ps := ["tape", "many"]) fun _ _ _ _ _ _ us hl => by obtain ⟨x, y, rfl⟩ := binds2 hl; rfl
  have m14 := PySem.W.mg_of X G a14
  have F15 := fun_mk (st := sNumber) l15 c15 k15
  have b15 := F15.binds (ps := ["tape"]) fun _ _ _ _ _ _ us hl => by obtain ⟨x, rfl⟩ := binds1 hl; rfl
  have m15 := PySem.W.mg_of X G a15
  have F16 := fun_mk (st := sLeaf) l16 c16 k16
  have b16 := F16.binds (ps := ["tape", "readings"]) fun _ _ _ _ _ _ us hl => by obtain ⟨x, y, rfl⟩ := binds2 hl; rfl
  have m16 := PySem.W.mg_of X G a16
  have F17 := fun_mk (st := sFormula) l17 c17 k17
  have b17 := F17.binds (ps := ["tape", "readings"]) fun _ _ _ _ _ _ us hl => by obtain ⟨x, y, rfl⟩ := binds2 hl; rfl
  have m17 := PySem.W.mg_of X G a17
  have F18 := fun_mk (st := sSorts) l18 c18 k18
  have b18 := F18.binds (ps := ["tape", "few"]) fun _ _ _ _ _ _ us hl => by obtain ⟨x, y, rfl⟩ := binds2 hl; rfl
  have m18 := PySem.W.mg_of X G a18
  have F19 := fun_mk (st := sTargets) l19 c19 k19
  have b19 := F19.binds (ps := ["sorts", "own", "parts"]) fun _ _ _ _ _ _ us hl => by obtain ⟨x, y, z, rfl⟩ := binds3 hl; rfl
  have m19 := PySem.W.mg_of X G a19
  have F20 := fun_mk (st := sLReadings) l20 c20 k20
  have b20 := F20.binds (ps := ["sorts", "own", "parts", "mode", "j"]) fun _ _ _ _ _ _ us hl => by obtain ⟨x, y, z, u, v, rfl⟩ := binds5 hl; rfl
  have m20 := PySem.W.mg_of X G a20
  have F21 := fun_mk (st := sLForm) l21 c21 k21
  have b21 := F21.binds (ps := ["tape", "sorts", "name", "own", "parts", "mode"]) fun _ _ _ _ _ _ us hl => by obtain ⟨x, y, z, u, v, w, rfl⟩ := binds6 hl; rfl
  have m21 := PySem.W.mg_of X G a21
  have F22 := fun_mk (st := sBook) l22 c22 k22
  have b22 := F22.binds (ps := ["script", "start", "few"]) fun _ _ _ _ _ _ us hl => by obtain ⟨x, y, z, rfl⟩ := binds3 hl; rfl
  have m22 := PySem.W.mg_of X G a22
  have F23 := fun_mk (st := sLWhole) l23 c23 k23
  have b23 := F23.binds (ps := ["found"]) fun _ _ _ _ _ _ us hl => by obtain ⟨x, rfl⟩ := binds1 hl; rfl
  have m23 := PySem.W.mg_of X G a23
  have F24 := fun_mk (st := sSame) l24 c24 k24
  have b24 := F24.binds (ps := ["found", "due"]) fun _ _ _ _ _ _ us hl => by obtain ⟨x, y, rfl⟩ := binds2 hl; rfl
  have m24 := PySem.W.mg_of X G a24
  have F25 := fun_mk (st := sLRows) l25 c25 k25
  have b25 := F25.binds (ps := ["counts", "parts", "size"]) fun _ _ _ _ _ _ us hl => by obtain ⟨x, y, z, rfl⟩ := binds3 hl; rfl
  have m25 := PySem.W.mg_of X G a25
  have F26 := fun_mk (st := sLCounts) l26 c26 k26
  have b26 := F26.binds (ps := ["book", "most"]) fun _ _ _ _ _ _ us hl => by obtain ⟨x, y, rfl⟩ := binds2 hl; rfl
  have m26 := PySem.W.mg_of X G a26
  have F27 := fun_mk (st := sLRight) l27 c27 k27
  have b27 := F27.binds (ps := ["book", "few", "more"]) fun _ _ _ _ _ _ us hl => by obtain ⟨x, y, z, rfl⟩ := binds3 hl; rfl
  have m27 := PySem.W.mg_of X G a27
  have F28 := fun_mk (st := sLaw) l28 c28 k28
  have m28 := PySem.W.mg_of X G a28
  have Gb0 : Gb mg := ⟨PySem.W.mg_none_of X G z1, PySem.W.mg_none_of X G z2, PySem.W.mg_none_of X G z3, PySem.W.mg_none_of X G z4, PySem.W.mg_none_of X G z5, PySem.W.mg_none_of X G z6, PySem.W.mg_none_of X G z7, PySem.W.mg_none_of X G z8, PySem.W.mg_none_of X G z9, PySem.W.mg_none_of X G z10⟩
  have v11 := PySem.W.mg_none_of X G z11
  have v12 := PySem.W.mg_none_of X G z12
  have v13 := PySem.W.mg_none_of X G z13
  refine ⟨PySem.W.fnOf "law" "law" (defArgs sLaw) (defBody sLaw) (defScope sLaw) .none kV28 dc28 pm28 an28 cd28 ct28, fun s v => .of_eq rfl, fun base _ _ => ?_⟩
  have g_forms := ok_formsOf (P := l.prog) (w := w) (mg := mg) (base := base) F2
  have g_sortf := ok_sortOfForm (P := l.prog) (w := w) (mg := mg) (base := base) F3
  have g_parts := ok_partsOf (P := l.prog) (w := w) (mg := mg) (base := base) F4
  have g_sortsOf := ok_sortsOf (P := l.prog) (w := w) (mg := mg) (base := base) F1
  have g_rowsOf := ok_rowsOf F7 Gb0 v11 g_sortsOf b1 k1 m1 g_forms b2 k2 m2 g_parts b4 k4 m4
  have g_withK := ok_withKeys F9 g_forms b2 k2 m2 g_sortf b3 k3 m3 g_parts b4 k4 m4
  have g_cuts := ok_cuts (P := l.prog) (w := w) (mg := mg) (base := base) F10 Gb0
  have g_countOf := ok_countOf F8 Gb0 v13 g_withK b9 k9 m9 g_cuts b10 k10 m10
  have g_upTo := ok_upTo F6 Gb0 g_rowsOf b7 k7 m7 g_countOf b8 k8 m8
  have g_many := ok_many F5 g_upTo b6 k6 m6
  have g_cell := ok_cell (P := l.prog) (w := w) (base := base) F11 Gb0
  have g_tape := ok_tape F12 g_cell b11 k11 m11
  have g_digit := ok_digit (P := l.prog) (w := w) (mg := mg) (base := base) F13
  have g_names := ok_namesX F14 Gb0 g_digit b13 k13 m13
  have g_number := ok_number F15 g_digit b13 k13 m13
  have g_formula := fun ρ => ok_formulaP (ρ := ρ) F17 Gb0 g_digit b13 k13 m13 (ok_leafP (ρ := ρ) F16 Gb0 g_digit b13 k13 m13 g_number b15 k15 m15) b16 k16 m16
  have g_sorts := ok_sorts F18 Gb0 g_digit b13 k13 m13 g_names b14 k14 m14
  have g_targets := ok_targets (P := l.prog) (w := w) (mg := mg) (base := base) F19 Gb0
  have g_lread := ok_lreadings F20 Gb0 g_targets b19 k19 m19
  have g_lform := ok_lform F21 Gb0 g_targets b19 k19 m19 g_lread b20 k20 m20 g_formula b17 k17 m17
  have g_book := ok_book F22 Gb0 g_digit b13 k13 m13 g_lform b21 k21 m21 g_tape b12 k12 m12 g_sorts b18 k18 m18 g_names b14 k14 m14
  have g_whole := ok_lwhole (P := l.prog) (w := w) (mg := mg) (base := base) F23 Gb0
  have g_same := ok_same F24 Gb0 v11 v12 b24 m24 g_whole b23 k23 m23 1
  have g_lrows := ok_lrows (P := l.prog) (w := w) (mg := mg) (base := base) F25 Gb0 v11 v13
  have g_lcounts := ok_lcounts F26 Gb0 g_lrows b25 k25 m25
  have g_right := ok_lright F27 Gb0 g_lcounts b26 k26 m26 g_many b5 k5 m5 g_same b24 k24 m24
  exact ok_law F28 Gb0 g_tape b12 k12 m12 g_digit b13 k13 m13 g_book b22 k22 m22 g_cell b11 k11 m11 g_right b27 k27 m27
theorem walk {l : PySem.W.OpenLaw} {q : Program} {loose : List Str} {XP : (Str → Option Value) → Heap → Prop} {YP : World → Heap → Prop} {d : DefRec} {K : Params → PySem.W.Frag} (hn : l.most = some 63) (hdf : d.params.defaults = [])
    (hY : ∀ (w : World) (h : Heap), YP w h → (K w.params).In h)
    (F : ∀ (w : World) (mg : Str → Option Value) (fa : Addr) (h : Heap), (K w.params).In h → h.Ns mainGlobals mg → mg d.name = some (.ref fa) →
      ∃ fd : FuncData, (∀ (s : Shared) (u : Value), BindsTo s fd ⟨[u], []⟩ [("script", u)]) ∧ ∀ base : Heap, (K w.params).In base → base.Ns mainGlobals mg → FnOk l.prog w (K w.params) mg base CX0 7 fa fd ["script"] (spLaw (K w.params))) :
    PySem.W.WalkO q loose XP YP l.row.toRowW d [] (fun f vs => PySem.call f vs) :=
  L2.walk_of (n := 63) (k := 7) (x := "script") (CX := fun _ => CX0) (sp := fun w => spLaw (K w.params)) hn (by decide) hdf ⟨rfl, by decide, by decide⟩ hY F (fun _ _ a ns hl _ hS => ⟨a, ns, rfl, hS, hl, fun _ => rfl⟩) fun _ _ _ _ _ z => z
end My
open PySem PySem.W PyProof.Rows
set_option maxRecDepth 100000 in
set_option maxHeartbeats 0 in
theorem PySem.Challenge.cw_boughworth_k21_trees_counted_holds : PySem.Challenge.rw_boughworth_k21_trees_counted.Holds := by
  refine My.parts.c My.parts.a My.parts.b ?_
  delta My.parts
  dsimp only
  k_fill
  refine My.walk (l := PySem.Challenge.rw_boughworth_k21_trees_counted) rfl rfl (fun w h Y => PySem.W.kIn_of Y) ?F
  case F =>
    intro w mg fa h KX G hmg
    refine' My.all_mk KX G hmg ?a1 ?l1 ?c1 ?k1 ?a2 ?l2 ?c2 ?k2 ?a3 ?l3 ?c3 ?k3 ?a4 ?l4 ?c4 ?k4 ?a5 ?l5 ?c5 ?k5 ?a6 ?l6 ?c6 ?k6 ?a7 ?l7 ?c7 ?k7 ?a8 ?l8 ?c8 ?k8 ?a9 ?l9 ?c9 ?k9 ?a10 ?l10 ?c10 ?k10 ?a11 ?l11 ?c11 ?k11 ?a12 ?l12 ?c12 ?k12 ?a13 ?l13 ?c13 ?k13 ?a14 ?l14 ?c14 ?k14 ?a15 ?l15 ?c15 ?k15 ?a16 ?l16 ?c16 ?k16 ?a17 ?l17 ?c17 ?k17 ?a18 ?l18 ?c18 ?k18 ?a19 ?l19 ?c19 ?k19 ?a20 ?l20 ?c20 ?k20 ?a21 ?l21 ?c21 ?k21 ?a22 ?l22 ?c22 ?k22 ?a23 ?l23 ?c23 ?k23 ?a24 ?l24 ?c24 ?k24 ?a25 ?l25 ?c25 ?k25 ?a26 ?l26 ?c26 ?k26 ?a27 ?l27 ?c27 ?k27 ?a28 ?l28 ?c28 ?k28 ?z1 ?z2 ?z3 ?z4 ?z5 ?z6 ?z7 ?z8 ?z9 ?z10 ?z11 ?z12 ?z13
    (case a1 => k_is)
    (case l1 => k_is)
    (case c1 => k_is)
    (case k1 => k_is)
    (case a2 => k_is)
    (case l2 => k_is)
    (case c2 => k_is)
    (case k2 => k_is)
    (case a3 => k_is)
    (case l3 => k_is)
    (case c3 => k_is)
    (case k3 => k_is)
    (case a4 => k_is)
    (case l4 => k_is)
    (case c4 => k_is)
    (case k4 => k_is)
    (case a5 => k_is)
    (case l5 => k_is)
    (case c5 => k_is)
    (case k5 => k_is)
    (case a6 => k_is)
    (case l6 => k_is)
    (case c6 => k_is)
    (case k6 => k_is)
    (case a7 => k_is)
    (case l7 => k_is)
    (case c7 => k_is)
    (case k7 => k_is)
    (case a8 => k_is)
    (case l8 => k_is)
    (case c8 => k_is)
    (case k8 => k_is)
    (case a9 => k_is)
    (case l9 => k_is)
    (case c9 => k_is)
    (case k9 => k_is)
    (case a10 => k_is)
    (case l10 => k_is)
    (case c10 => k_is)
    (case k10 => k_is)
    (case a11 => k_is)
    (case l11 => k_is)
    (case c11 => k_is)
    (case k11 => k_is)
    (case a12 => k_is)
    (case l12 => k_is)
    (case c12 => k_is)
    (case k12 => k_is)
    (case a13 => k_is)
    (case l13 => k_is)
    (case c13 => k_is)
    (case k13 => k_is)
    (case a14 => k_is)
    (case l14 => k_is)
    (case c14 => k_is)
    (case k14 => k_is)
    (case a15 => k_is)
    (case l15 => k_is)
    (case c15 => k_is)
    (case k15 => k_is)
    (case a16 => k_is)
    (case l16 => k_is)
    (case c16 => k_is)
    (case k16 => k_is)
    (case a17 => k_is)
    (case l17 => k_is)
    (case c17 => k_is)
    (case k17 => k_is)
    (case a18 => k_is)
    (case l18 => k_is)
    (case c18 => k_is)
    (case k18 => k_is)
    (case a19 => k_is)
    (case l19 => k_is)
    (case c19 => k_is)
    (case k19 => k_is)
    (case a20 => k_is)
    (case l20 => k_is)
    (case c20 => k_is)
    (case k20 => k_is)
    (case a21 => k_is)
    (case l21 => k_is)
    (case c21 => k_is)
    (case k21 => k_is)
    (case a22 => k_is)
    (case l22 => k_is)
    (case c22 => k_is)
    (case k22 => k_is)
    (case a23 => k_is)
    (case l23 => k_is)
    (case c23 => k_is)
    (case k23 => k_is)
    (case a24 => k_is)
    (case l24 => k_is)
    (case c24 => k_is)
    (case k24 => k_is)
    (case a25 => k_is)
    (case l25 => k_is)
    (case c25 => k_is)
    (case k25 => k_is)
    (case a26 => k_is)
    (case l26 => k_is)
    (case c26 => k_is)
    (case k26 => k_is)
    (case a27 => k_is)
    (case l27 => k_is)
    (case c27 => k_is)
    (case k27 => k_is)
    (case a28 => k_is)
    (case l28 => k_is)
    (case c28 => k_is)
    (case k28 => k_is)
    (case z1 => k_is)
    (case z2 => k_is)
    (case z3 => k_is)
    (case z4 => k_is)
    (case z5 => k_is)
    (case z6 => k_is)
    (case z7 => k_is)
    (case z8 => k_is)
    (case z9 => k_is)
    (case z10 => k_is)
    (case z11 => k_is)
    (case z12 => k_is)
    (case z13 => k_is)
