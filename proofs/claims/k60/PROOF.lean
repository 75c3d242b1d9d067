import PyProof.Rows.All
import Wide.All
import OpenK.AllK
import Wide.FinOn
import Lean
import PyProof.EqAt
import PyProof.EqKinds
import PyProof.TupleCall
import PyProof.TupleKey
import PyProof.DictKeyH
import PyProof.SumWalk
import KE.KDictList
import PyProof.NeKinds
import PyProof.Draws
import PyProof.ZipIter
import PyProof.ListMulRoad
import KE.RegKIsAll
import OpenK.KOwn
import PyProof.EnumMake
import PyProof.Rows.StrNews
import PyProof.StrCalls6
import PyProof.ToksMono
import PyProof.StrLawsReplace
import PyProof.StrLawsJoin
import PyProof.Rows.StrSplitJoin
import PyProof.DictValues
import PyProof.DictWalks
import KE.KRevIter
import Flt.Sum
import PyProof.FitsBits
import PyProof.DictTable
import KE.KItemsList
import PyProof.DictItems
import KE.KPairComp
import PyProof.MinMaxWalk
import PyProof.SeqI3
import PyProof.WalkInts
import PySem.Challenge.RW_boughworth_k60_plain_books_and_builds
set_option Elab.async false
set_option linter.all false
set_option bootstrap.genMatcherCode false
set_option compiler.extract_closed false
set_option genSizeOfSpec false
set_option maxRecDepth 100000
set_option maxHeartbeats 4000000
namespace My
open PySem PySem.W PySem.Calls PyProof.Rows
theorem with_hl {P R Q : Prop} (hl : P) (hc : R) (main : Q) : Q := main
structure Parts (Q : Prop) : Type where
  {P1 : Prop}
  {P2 : Prop}
  {P3 : Prop}
  {P4 : Prop}
  {P5 : Prop}
  {P6 : Prop}
  {W : Prop}
  a0 : P1
  a1 : P2
  e0 : P3
  e1 : P4
  b0 : P5
  b1 : P6
  c : P1 → P2 → P3 → P4 → P5 → P6 → W → Q
noncomputable def hO11 (_ : Params) : Obj := { cls := Value.type "tuple", data := Data.seq #[] }
noncomputable def hO12 (_ : Params) : Obj := { cls := Value.none, data := Data.fields #[] }
noncomputable def hO13 (_ : Params) : Obj := { cls := Value.type "code", data := Data.fields #[Value.str (Str.ofString "<module>") 182, Value.str (Str.ofString "<module>") 183, Value.str (Str.ofString "/claim/cut.py") 184, Value.int 1 0, Value.int 0 0, Value.int 0 0, Value.int 0 0, Value.int 0 0, Value.ref 11, Value.bool false, Value.int 181 0, Value.ref 12, Value.none, Value.none, Value.none, Value.none, Value.int 185 0, Value.int 1 0, Value.str (Str.ofString "/claim/cut.py") 186] }
noncomputable def hO14 (_ : Params) : Obj := { cls := Value.type "frame", slots := #[some (Value.ref 13), some (Value.ref 3), some (Value.ref 3), none, some (Value.str (Str.ofString "__main__") 164), none, some (Value.ref 0)] }
noncomputable def hTree (P : Params) : BT := (BT.node (boot_o_0 P) (BT.node (boot_o_1 P) (BT.node (boot_o_3 P) (BT.node (boot_o_7 P) BT.nil BT.nil) (BT.node (hO11 P) BT.nil BT.nil)) (BT.node (boot_o_5 P) (BT.node (boot_o_9 P) BT.nil BT.nil) (BT.node (hO13 P) BT.nil BT.nil))) (BT.node (boot_o_2 P) (BT.node (boot_o_4 P) (BT.node (boot_o_8 P) BT.nil BT.nil) (BT.node (hO12 P) BT.nil BT.nil)) (BT.node (boot_o_6 P) (BT.node (boot_o_10 P) BT.nil BT.nil) (BT.node (hO14 P) BT.nil BT.nil))))
noncomputable def hEnv (p : Program) : Env := { scope := p.main.scope, locals := mainNs, globals := mainNs, cells := [], code := .ref 13, frame := some 14 }
noncomputable abbrev hC (p : Program) : Code := .body (behindTheImports p) (hEnv p)
noncomputable def hSt (w : World) (os : OsState) : SharedT := ⟨hTree w.params, 15, {}, #[], {}, 187, os⟩
abbrev hPos : Pos := ⟨0, 0, 0, 0⟩
noncomputable abbrev hThr (p : Program) : Thread := piecesOf (behindTheImports p) (hEnv p) (hC p) hPos [topFrame hPos]
noncomputable abbrev hRun (p : Program) (n : Nat) (w : World) (os : OsState) : Option (Flow × SharedT × Code × Pos) := PySem.W.Fast.tw10110043849684766642 PySem.W.Fast.tw14364793385576792824 p w 11 (some (.ref 6)) 1 n (hSt w os) (hThr p)
theorem hFin {p : Program} {w : World} {n₀ : Nat} {ann : Option Value} (s : Shared) (c : Code) (pos : Pos) : topRun treeTable p w n₀ ann 2 s ⟨doneF .next, c, pos, [topFrame hPos]⟩ = some s := by
  obtain ⟨h, g, d, t, o⟩ := s
  kernel_rfl
theorem hSize (P : Params) : ((boot_heap P).isNs mainGlobals && (#[] : Array GenState).size == 0, (boot_heap P).objs.size, (boot_heap P).nsMap mainGlobals "__annotations__") = (true, 11, some (.ref 6)) := by kernel_rfl
theorem left_of {p q : Program} {loose : List Str} {Xt : Shared → Bool} {α : Type} {Yf : Shared → α} {Ya : World → α} {N n : Nat} {g0 : Bool} {posE : Pos}
    (e : opening p = plainProg p.main.scope.names) (hN : Nat.ble 600 N = true) (f : ∀ s, fenceModules? p s = some s) (le : Nat.ble (12 + (1 + (n + 2))) N = true)
    (pre : ∀ (w : World) (os : OsState), topGo treeTable p w 11 (some (.ref 6)) 12 ⟨boot_heap w.params, #[], boot_drawn, boot_toks, os⟩ (topStub p) = some ((hSt w os).abs, ⟨denote treeTable (hC p), hC p, hPos, [topFrame hPos]⟩))
    (block : ∀ (w : World) (os : OsState), segRun treeTable p w 11 (some (.ref 6)) 1 1 (hSt w os).abs (blockOf (behindTheImports p) (hEnv p) (hC p) hPos [topFrame hPos]) = some (.next, (hSt w os).abs, hC p, hPos))
    (runA : ∀ (w : World) (os : OsState), (hRun p n w os).map (fun r => (r.1, r.2.2, (staticsOk (importedModules p.main.body) (boot_heap w.params) r.2.1.abs.heap && namesBound p r.2.1.abs.heap && gensDone r.2.1.abs && laidKept (boot_heap w.params) r.2.1.abs.heap), (openSeen q loose (importedModules p.main.body) Xt g0 r.2.1.abs).1, Yf r.2.1.abs)) = some (.next, (hC p, posE), true, (openGood q loose).1, Ya w))
    (runE : ∀ (w : World) (os : OsState), (hRun p n w os).map (fun r => ((openSeen q loose (importedModules p.main.body) Xt g0 r.2.1.abs).2.1, (openSeen q loose (importedModules p.main.body) Xt g0 r.2.1.abs).2.2.1)) = some ((openGood q loose).2.1, (openGood q loose).2.2.1))
    (runB : ∀ (w : World) (os : OsState), (hRun p n w os).map (fun r => (openSeen q loose (importedModules p.main.body) Xt g0 r.2.1.abs).2.2.2) = some (openGood q loose).2.2.2) : LeftO p q loose Xt Yf Ya N g0 := by
  intro w
  obtain ⟨⟨h, gs, d, k, os⟩, e1, e'⟩ := Option.map_eq_some_iff.mp (boot_open e hN f w)
  obtain ⟨rfl, rfl, rfl, rfl⟩ : h = boot_heap w.params ∧ gs = #[] ∧ d = boot_drawn ∧ k = boot_toks := by simpa using e'
  obtain ⟨z1, z2, z3⟩ : _ ∧ _ ∧ _ := by simpa only [Prod.mk.injEq] using hSize w.params
  have E : segRunT treeTable p w 11 (some (.ref 6)) 1 n (hSt w os) (hThr p) = hRun p n w os := by
    unfold hRun
    rw [← PySem.W.Fast.te10110043849684766642, ← PySem.W.Fast.te14364793385576792824]
  have A := runA w os
  have B := runB w os
  have E2 := runE w os
  obtain ⟨⟨fl, x, c, pos⟩, r1, r2⟩ := Option.map_eq_some_iff.mp A
  simp only [Prod.mk.injEq] at r2
  obtain ⟨rfl, ⟨rfl, rfl⟩, l1, l2a, yb⟩ := r2
  have l2e : ((openSeen q loose (importedModules p.main.body) Xt g0 x.abs).2.1, (openSeen q loose (importedModules p.main.body) Xt g0 x.abs).2.2.1) = ((openGood q loose).2.1, (openGood q loose).2.2.1) := by rw [r1] at E2; exact Option.some.inj E2
  have l2d : (openSeen q loose (importedModules p.main.body) Xt g0 x.abs).2.2.2 = (openGood q loose).2.2.2 := by rw [r1] at B; exact Option.some.inj B
  have l2 : openSeen q loose (importedModules p.main.body) Xt g0 x.abs = openGood q loose := Prod.ext l2a (Prod.ext (Prod.mk.inj l2e).1 (Prod.ext (Prod.mk.inj l2e).2 l2d))
  have s1 := segRun_of (E.trans r1)
  have t1 := piece_app (rest := []) s1 (piece_nil (hFin x.abs _ _))
  rw [List.append_nil] at t1
  have t3 := go_top (pre w os) (piece_block (block w os) t1)
  have r := topRun_mono (N - (12 + (1 + (n + 2)))) _ _ _ _ t3
  rw [show 12 + (1 + (n + 2)) + (N - (12 + (1 + (n + 2)))) = N by have := Nat.le_of_ble_eq_true le; omega] at r
  have t : topFrom treeTable p w N ⟨boot_heap w.params, #[], boot_drawn, boot_toks, os⟩ = some x.abs := by
    unfold topFrom
    dsimp only
    rw [z1, z2, z3, r]
    show (match staticsOk _ _ _ && namesBound _ _ && gensDone _ && laidKept _ _ with | true => _ | false => _) = _
    rw [l1]
  unfold openEnds
  rw [e1]
  change Option.map _ (topFrom treeTable p w N _) = _
  rw [t]
  exact congrArg some (Prod.ext l2 yb)
end My
open PySem PySem.W PyProof.Rows in
set_option maxHeartbeats 0 in
noncomputable def My.parts : My.Parts PySem.Challenge.rw_boughworth_k60_plain_books_and_builds.Holds := by
  apply My.Parts.mk
  case c =>
    intro ha0 ha1 he0 he1 hb0 hb1 hW
    w_on; o_law
    apply My.with_hl
    case main =>
      k_head; (case hw => w_witness2)
    case hc => exact hW
    case hl =>
      refine My.left_of (n := 1250) (posE := ⟨282, 0, 294, 15⟩) ?e ?hN ?f ?le ?pre ?block (byRow2 "special-get-raises" ha0 ha1) (byRow2 "special-get-raises" he0 he1) (byRow2 "special-get-raises" hb0 hb1)
      case e => kernel_rfl
      case hN => decide
      case f => intro s; kernel_rfl
      case le => decide
      case pre => (intro w os; kernel_rfl)
      case block => (intro w os; kernel_rfl)
  case a0 => (intro w os; kernel_rfl)
  case a1 => (intro w os; kernel_rfl)
  case e0 => (intro w os; kernel_rfl)
  case e1 => (intro w os; kernel_rfl)
  case b0 => (intro w os; kernel_rfl)
  case b1 => (intro w os; kernel_rfl)
namespace PySem
section
variable {prog : Program} {w : World} {K K2 : Type} [DecidableEq K] [DecidableEq K2] {knd : KeyKind prog w K} {kn2 : KeyKind prog w K2}
noncomputable def IsPairKey (knd : KeyKind prog w K) (kn2 : KeyKind prog w K2) (h : Heap) (p : List K × K2) (a : Addr) : Prop :=
  ∃ o items n b v, h.get? a = some o ∧ o.cls = .type "tuple" ∧ o.data = .seq items n ∧ items.toList = [.ref b, v] ∧ IsTupleKey knd h p.1 b ∧ kn2.is p.2 v = true
noncomputable def pairHash (knd : KeyKind prog w K) (kn2 : KeyKind prog w K2) (p : List K × K2) : Int := reduceHash (Builtin.Tuple.tupleHashOf [tupleKeyHash knd p.1, kn2.hash p.2])
variable {A : Around} {E : Value → Shared → Prop} {s : Shared}
theorem IsPairKey.typeIs {p : List K × K2} {a : Addr} (x : IsPairKey knd kn2 s.heap p a) : s.TypeIs (.ref a) "tuple" := by
  obtain ⟨o, _, _, _, _, e, c, _⟩ := x
  exact ⟨o, e, c⟩
theorem IsPairKey.inj {h : Heap} {p q : List K × K2} {a : Addr} (x : IsPairKey knd kn2 h p a) (y : IsPairKey knd kn2 h q a) : p = q := by
  obtain ⟨o, i, n, b, v, e, _, d, t, k, m⟩ := x
  obtain ⟨o', i', n', b', v', e', _, d', t', k', m'⟩ := y
  rw [e] at e'; cases e'
  rw [d] at d'; cases d'
  rw [t] at t'
  have h1 : b = b' ∧ v = v' := by simpa using t'
  obtain ⟨rfl, rfl⟩ := h1
  exact Prod.ext (k.inj k') (kn2.inj _ _ _ m m')
theorem IsPairKey.keeps {h h' : Heap} {p : List K × K2} {a d : Addr} {o : Obj} {es ep} (x : IsPairKey knd kn2 h p a) (ho : h.get? d = some o) (hd : o.data = .dict es ep) (hs : Heap.SameBut d h h') : IsPairKey knd kn2 h' p a := by
  obtain ⟨o', i, n, b, v, e, c, dt, t, k, m⟩ := x
  refine ⟨o', i, n, b, v, ?_, c, dt, t, k.keeps ho hd hs, m⟩
  have ne : a ≠ d := fun z => by
    subst z
    rw [ho] at e; cases e
    rw [hd] at dt; cases dt
  rw [← e]
  exact hs.2 a ne
theorem wpAny_pyHash_pair {p : List K × K2} {a : Addr} {Q : Int → Shared → Prop} (hu : A.units + 8 < cLine) (hk : IsPairKey knd kn2 s.heap p a) (h : Q (pairHash knd kn2 p) { s with toks := s.toks + (p.1.length + 1 + 1 + 1) }) :
    wpAny (model prog w) A (pyHash (.ref a)) Q E s := by
  have hT := hk.typeIs
  obtain ⟨o, items, n, b, v, ho, _, hd, hi, hb, hv⟩ := hk
  unfold pyHash
  first | unfold pyHashByItsType | skip
  first | refine wpAny_bind (wpAny_cRoomFor_or (.inr (by omega)) ?_) | skip
  refine wpAny_bind (wpAny_specialOf hT F.slot_tuple_hash.lookup ?_)
  show wpAny _ _ (if (some (Value.builtin "tuple.__hash__") == some Value.none) = true then _ else _) Q E s
  rw [if_neg (by rw [beq_builtin_none]; exact Bool.false_ne_true)]
  refine wpAny_bind (wpAny_specialOf hT F.slot_tuple_hash.lookup ?_)
  show wpAny _ _ (callSpecialIfBoundUnlessNone? (.ref a) "__hash__" _ >>= _) Q E s
  refine wpAny_bind (wpAny_callSpecialIfBoundUnlessNone?_slot hT F.slot_tuple_hash (wpAny_call_entry F.slot_tuple_hash hT F.entry_tuple_hash ?_ (F.args_tuple_hash_1 _)))
  show wpAny _ _ (Builtin.Tuple.tupleItemsOf (.ref a) >>= _) _ _ s
  refine wpAny_bind (wpAny_tupleItemsOf ho hd ?_)
  refine wpAny_bind ?_
  rw [← Array.forIn_toList, hi, List.forIn_cons]
  refine wpAny_bind (wpAny_bind (wpAny_pyHash_tuple (by show _ < cLine; simp; omega) hb ?_))
  refine wpAny_pure ?_
  show wpAny _ _ (forIn [v] #[tupleKeyHash knd p.1] _) _ _ _
  rw [List.forIn_cons]
  refine wpAny_bind (wpAny_bind (kn2.pyHash hv ?_))
  refine wpAny_pure ?_
  show wpAny _ _ (forIn [] _ _) _ _ _
  rw [List.forIn_nil]
  refine wpAny_pure ?_
  show wpAny _ _ (retInt (Builtin.Tuple.tupleHashOf [tupleKeyHash knd p.1, kn2.hash p.2])) _ _ _
  refine wpAny_ret_mkInt ?_
  generalize hz : Builtin.Tuple.tupleHashOf [tupleKeyHash knd p.1, kn2.hash p.2] = z
  show wpAny _ _ (if (decide (-(2 : Int) ^ 63 ≤ z) && decide (z < 2 ^ 63)) = true then _ else _) Q E _
  unfold pairHash reduceHash at h
  rw [hz] at h
  by_cases hr : (decide (-(2 : Int) ^ 63 ≤ z) && decide (z < 2 ^ 63)) = true
  · rw [if_pos hr]
    rw [if_pos hr] at h
    exact wpAny_pure (by simpa [Nat.add_assoc] using h)
  · rw [if_neg hr]
    rw [if_neg hr] at h
    exact wpAny_bind (wpAny_rule (wpAny_pure (by simpa [Nat.add_assoc] using h)))
theorem quiet_tuple (m : Nat) {ks : List K} {a : Addr} {Q : Bool → Shared → Prop} (hk : IsTupleKey knd s.heap ks a) (h : Q true s) : wpAny (model prog w) A (eqIsQuiet (m + 1) (.ref a)) Q E s := by
  have hT := hk.typeIs
  obtain ⟨o, items, n, ho, _, hd, hi⟩ := hk
  unfold eqIsQuiet
  refine wpAny_bind (wpAny_specialOf hT F.slot_tuple_eq.lookup ?_)
  show wpAny _ _ (isInstance (.ref a) (.type "tuple") >>= _) _ _ s
  refine wpAny_bind (wpAny_isInstance hT isSubtype_tuple_tuple ?_)
  simp only [Bool.not_true, Bool.false_eq_true, if_false]
  refine wpAny_bind (wpAny_seqItems ho hd (wpAny_bind ?_))
  show wpAny _ _ (forIn items _ _) _ _ s
  rw [← Array.forIn_toList]
  refine wpAny_forIn_list _ (fun rest r s' => r.1 = none ∧ s' = s ∧ ∀ v ∈ rest, carriedByValue v = true) _ ?_ ?_ _ _ ⟨rfl, rfl, hi.byValue⟩
  · rintro v rest r s' ⟨hr, rfl, hall⟩
    rw [eqIsQuiet_byValue _ (hall v List.mem_cons_self)]
    refine wpAny_bind (wpAny_pure ?_)
    simp only [Bool.not_true, Bool.false_eq_true, if_false]
    exact wpAny_pure ⟨rfl, rfl, fun u hu' => hall u (List.mem_cons_of_mem _ hu')⟩
  · rintro ⟨r1, r2⟩ s' ⟨hr, rfl, _⟩
    simp only at hr
    subst hr
    exact wpAny_pure h
theorem wpAny_eqIsQuiet_pair {p : List K × K2} {a : Addr} {Q : Bool → Shared → Prop} (hk : IsPairKey knd kn2 s.heap p a) (h : Q true s) : wpAny (model prog w) A (eqIsQuiet 8 (.ref a)) Q E s := by
  have hT := hk.typeIs
  obtain ⟨o, items, n, b, v, ho, _, hd, hi, hb, hv⟩ := hk
  unfold eqIsQuiet
  refine wpAny_bind (wpAny_specialOf hT F.slot_tuple_eq.lookup ?_)
  show wpAny _ _ (isInstance (.ref a) (.type "tuple") >>= _) _ _ s
  refine wpAny_bind (wpAny_isInstance hT isSubtype_tuple_tuple ?_)
  simp only [Bool.not_true, Bool.false_eq_true, if_false]
  refine wpAny_bind (wpAny_seqItems ho hd ?_)
  refine wpAny_bind ?_
  show wpAny _ _ (forIn items _ _) _ _ s
  rw [← Array.forIn_toList, hi, List.forIn_cons]
  refine wpAny_bind (wpAny_bind (quiet_tuple 6 hb ?_))
  simp only [Bool.not_true, Bool.false_eq_true, if_false]
  refine wpAny_pure ?_
  show wpAny _ _ (forIn [v] (none, ()) _) _ _ _
  rw [List.forIn_cons, eqIsQuiet_byValue _ (kn2.byValue _ _ hv)]
  refine wpAny_bind (wpAny_bind (wpAny_pure ?_))
  simp only [Bool.not_true, Bool.false_eq_true, if_false]
  refine wpAny_pure ?_
  show wpAny _ _ (forIn [] _ _) _ _ _
  rw [List.forIn_nil]
  exact wpAny_pure (wpAny_pure h)
theorem pair_eq_tree {p q : List K × K2} {a b : Addr} {R : Fin → Shared → Prop} (hu : A.units + 4 < cLine) (hx : IsPairKey knd kn2 s.heap p a) (hy : IsPairKey knd kn2 s.heap q b) (h : R (.done (.ret (.bool (decide (p = q))))) s) :
    wpAny (model prog w) A (Builtin.«tuple.__eq__» ⟨[.ref a, .ref b], []⟩) R E s := by
  have hTb := hy.typeIs
  obtain ⟨oa, xs, na, a1, v1, hoa, _, hda, hia, hka, hva⟩ := hx
  obtain ⟨ob, ys, nb, b1, v2, hob, _, hdb, hib, hkb, hvb⟩ := hy
  show wpAny _ _ (isInstance (.ref b) (.type "tuple") >>= _) _ _ s
  refine wpAny_bind (wpAny_isInstance hTb isSubtype_tuple_tuple ?_)
  simp only [Bool.not_true, Bool.false_eq_true, if_false]
  refine wpAny_bind (wpAny_tupleItemsOf hoa hda (wpAny_bind (wpAny_tupleItemsOf hob hdb (wpAny_bind ?_))))
  have hs : xs.size = ys.size := by rw [← Array.length_toList, ← Array.length_toList, hia, hib]; rfl
  rw [hia, hib]
  show wpAny _ _ (forIn [(Value.ref a1, Value.ref b1), (v1, v2)] (none, ()) _) _ _ _
  rw [List.forIn_cons]
  refine wpAny_bind (wpAny_bind (wpAny_eqBool_tuple (by omega) hka hkb ?_))
  by_cases h1 : p.1 = q.1
  · rw [decide_eq_true h1]
    simp only [Bool.not_true, Bool.false_eq_true, if_false]
    refine wpAny_pure ?_
    show wpAny _ _ (forIn [(v1, v2)] (none, ()) _) _ _ _
    rw [List.forIn_cons]
    refine wpAny_bind (wpAny_bind (kn2.eqBool (a := p.2) (b := q.2) hva hvb ?_))
    by_cases h2 : p.2 = q.2
    · rw [decide_eq_true h2]
      simp only [Bool.not_true, Bool.false_eq_true, if_false]
      refine wpAny_pure ?_
      show wpAny _ _ (forIn [] _ _) _ _ _
      rw [List.forIn_nil]
      rw [decide_eq_true (Prod.ext h1 h2)] at h
      refine wpAny_pure (wpAny_pure ?_)
      show R (.done (.ret (.bool (xs.size == ys.size)))) s
      rw [hs, beq_self_eq_true]
      exact h
    · rw [decide_eq_false h2]
      simp only [Bool.not_false, if_true]
      rw [decide_eq_false fun e => h2 (congrArg Prod.snd e)] at h
      exact wpAny_bind (wpAny_pure (wpAny_pure (wpAny_pure (wpAny_pure h))))
  · rw [decide_eq_false h1]
    simp only [Bool.not_false, if_true]
    rw [decide_eq_false fun e => h1 (congrArg Prod.fst e)] at h
    exact wpAny_bind (wpAny_pure (wpAny_pure (wpAny_pure (wpAny_pure h))))
theorem wpAny_eqBool_pair {p q : List K × K2} {a b : Addr} {Q : Bool → Shared → Prop} (hu : A.units + 8 < cLine) (hx : IsPairKey knd kn2 s.heap p a) (hy : IsPairKey knd kn2 s.heap q b) (h : Q (decide (p = q)) s) :
    wpAny (model prog w) A (eqBool (.ref a) (.ref b)) Q E s := by
  unfold eqBool
  try with_reducible refine wpAny_holding ?_
  show wpAny _ _ (if (Value.ref a == Value.ref b) = true then _ else _) Q E s
  by_cases hab : (Value.ref a == Value.ref b) = true
  · rw [if_pos hab]
    have e : a = b := by have := eq_of_beq hab; injection this
    subst e
    obtain rfl := hx.inj hy
    exact wpAny_bind (wpAny_rule (wpAny_pure (by simpa using h)))
  · rw [if_neg hab]
    exact wpAny_bind (wpAny_richCompare_same_room (op := .Eq) hx.typeIs hy.typeIs F.slot_tuple_eq
      (wpAny_call_entry F.slot_tuple_eq hx.typeIs F.entry_tuple_eq (pair_eq_tree (by simp; omega) hx hy ⟨_, rfl, (fun e => nomatch e), wpAny_truthy_bool h⟩) (F.args_tuple_eq_2 _ _)) (by omega))
end
noncomputable def pairKind {prog : Program} {w : World} {K K2 : Type} [DecidableEq K] [DecidableEq K2] (knd : KeyKind prog w K) (kn2 : KeyKind prog w K2) : HeapKind prog w (List K × K2) where
  is := IsPairKey knd kn2
  hash := pairHash knd kn2
  draws := fun p => p.1.length + 1 + 1 + 1
  room := fun A => A.units + 8 < cLine
  inj := fun hx hy => hx.inj hy
  keeps := fun x ho hd hs => x.keeps ho hd hs
  pyHash := fun hu hk h => wpAny_pyHash_pair hu hk h
  eqBool := fun hu hx hy h => wpAny_eqBool_pair hu hx hy h
  quiet := fun hk h => wpAny_eqIsQuiet_pair hk h
end PySem
namespace L2
open PySem PySem.Spec PyProof.Rows
noncomputable abbrev Key := Sum Int Str
noncomputable def keyIs : Key → Value → Bool
  | .inl k, v => Value.isInt k v
  | .inr x, v => Value.isStrOf x v
noncomputable def keyH (w : World) : Key → Int
  | .inl k => hashInt k
  | .inr x => hashStr w x
theorem keyIs_shape : ∀ {k : Key} {v : Value}, keyIs k v = true → (∃ i t, k = Sum.inl i ∧ v = Value.int i t) ∨ (∃ x t, k = Sum.inr x ∧ v = Value.str x t)
  | .inl i, v, h => by
    obtain ⟨t, e⟩ := Value.isInt_shape (k := i) (v := v) h
    exact .inl ⟨i, t, rfl, e⟩
  | .inr x, v, h => by
    obtain ⟨t, e⟩ := Value.isStrOf_shape (x := x) (v := v) h
    exact .inr ⟨x, t, rfl, e⟩
theorem keyIs_int (i : Int) (t : Tok) : keyIs (.inl i) (.int i t) = true := by simp [keyIs, Value.isInt]
theorem keyIs_str (x : Str) (t : Tok) : keyIs (.inr x) (.str x t) = true := by simp [keyIs, Value.isStrOf]
theorem key_ll (a b : Int) : decide ((Sum.inl a : Key) = Sum.inl b) = (a == b) := by
  by_cases e : a = b
  · subst e; simp
  · have h : ¬ (Sum.inl a : Key) = Sum.inl b := fun q => e (Sum.inl.inj q)
    rw [decide_eq_false h]
    exact (beq_eq_false_iff_ne.mpr e).symm
theorem key_rr (a b : Str) : decide ((Sum.inr a : Key) = Sum.inr b) = decide (a = b) := by
  by_cases e : a = b
  · subst e; simp
  · have h : ¬ (Sum.inr a : Key) = Sum.inr b := fun q => e (Sum.inr.inj q)
    rw [decide_eq_false h, decide_eq_false e]
theorem key_lr (a : Int) (b : Str) : decide ((Sum.inl a : Key) = Sum.inr b) = false := decide_eq_false (fun q => nomatch q)
theorem key_rl (a : Str) (b : Int) : decide ((Sum.inr a : Key) = Sum.inl b) = false := decide_eq_false (fun q => nomatch q)
noncomputable def mixKind (prog : Program) (w : World) : PySem.KeyKind prog w Key where
  is := keyIs
  hash := keyH w
  inj := fun v a b ha hb => by
    rcases keyIs_shape ha with ⟨i, t, rfl, rfl⟩ | ⟨x, t, rfl, rfl⟩
    · rcases keyIs_shape hb with ⟨j, u, rfl, e⟩ | ⟨y, u, rfl, e⟩
      · injection e with e1 _; rw [e1]
      · exact nomatch e
    · rcases keyIs_shape hb with ⟨j, u, rfl, e⟩ | ⟨y, u, rfl, e⟩
      · exact nomatch e
      · injection e with e1 _; rw [e1]
  byValue := fun k v h => by
    rcases keyIs_shape h with ⟨i, t, rfl, rfl⟩ | ⟨x, t, rfl, rfl⟩ <;> rfl
  pyHash := fun hv h => by
    rcases keyIs_shape hv with ⟨i, t, rfl, rfl⟩ | ⟨x, t, rfl, rfl⟩
    · exact wpAny_pyHash_int h
    · exact wpAny_pyHash_str h
  eqBool := fun hu hv h => by
    rcases keyIs_shape hu with ⟨i, t, rfl, rfl⟩ | ⟨x, t, rfl, rfl⟩
    · rcases keyIs_shape hv with ⟨j, u, rfl, rfl⟩ | ⟨y, u, rfl, rfl⟩
      · rw [key_ll] at h; exact wpAny_eqBool_int h
      · rw [key_lr] at h; exact SeqAt.EqAt.int_str i t y u _ _ _ _ h
    · rcases keyIs_shape hv with ⟨j, u, rfl, rfl⟩ | ⟨y, u, rfl, rfl⟩
      · rw [key_rl] at h; exact SeqAt.EqAt.str_int x t j u _ _ _ _ h
      · rw [key_rr] at h; exact wpAny_eqBool_str h
  «strs» := fun k x t v h => by
    rcases keyIs_shape h with ⟨i, u, rfl, e⟩ | ⟨y, u, rfl, e⟩
    · exact nomatch e
    · injection e with e1 _
      subst e1
      cases v <;> rfl
theorem mixKind_int (prog : Program) (w : World) (i : Int) (t : Tok) : (mixKind prog w).is (.inl i) (.int i t) = true := keyIs_int i t
theorem mixKind_str (prog : Program) (w : World) (x : Str) (t : Tok) : (mixKind prog w).is (.inr x) (.str x t) = true := keyIs_str x t
end L2
namespace L2
open PySem PySem.Spec PyProof.Rows
inductive V where
  | non | bl (b : Bool) | int (i : Int) | str (x : Str) | byt (b : Array UInt8) | flt (b : UInt64) | ref (a : Addr) | ty (n : String)
  deriving DecidableEq
noncomputable def RelV : V → Value → Prop
  | .non, u => u = Value.none
  | .bl b, u => u = Value.bool b
  | .int i, u => ∃ t, u = Value.int i t
  | .str x, u => ∃ t, u = Value.str x t
  | .byt b, u => ∃ t, u = Value.bytes b t
  | .flt b, u => ∃ t, u = Value.float b t
  | .ref a, u => u = Value.ref a
  | .ty n, u => u = Value.type n
noncomputable abbrev Vals : List V → List Value → Prop := Paired RelV
theorem Vals.length {xs : List V} {us : List Value} (r : Vals xs us) : xs.length = us.length := Paired.length r
theorem Vals.get : ∀ {xs : List V} {us : List Value} {i : Nat} {x : V}, Vals xs us → xs[i]? = some x → ∃ u, us[i]? = some u ∧ RelV x u
  | _, _, _, _, .nil, e => by simp at e
  | _, _, 0, _, .cons r _, e => by simp at e; subst e; exact ⟨_, rfl, r⟩
  | _, _, i + 1, x, .cons _ t, e => by
    obtain ⟨u, h1, h2⟩ := Vals.get (i := i) (x := x) t (by simpa using e)
    exact ⟨u, by simpa using h1, h2⟩
theorem Vals.set {x : V} {u : Value} (r : RelV x u) : ∀ {xs : List V} {us : List Value} (i : Nat), Vals xs us → Vals (xs.set i x) (us.set i u)
  | _, _, _, .nil => .nil
  | _, _, 0, .cons _ t => .cons r t
  | _, _, i + 1, .cons q t => .cons q (Vals.set r i t)
theorem Vals.append : ∀ {xs ys : List V} {us ws : List Value}, Vals xs us → Vals ys ws → Vals (xs ++ ys) (us ++ ws)
  | _, _, _, _, .nil, s => s
  | _, _, _, _, .cons r t, s => .cons r (Vals.append t s)
theorem Vals.take : ∀ {xs : List V} {us : List Value} (n : Nat), Vals xs us → Vals (xs.take n) (us.take n)
  | _, _, 0, _ => .nil
  | _, _, _ + 1, .nil => .nil
  | _, _, n + 1, .cons r t => .cons r (Vals.take n t)
theorem Vals.drop : ∀ {xs : List V} {us : List Value} (n : Nat), Vals xs us → Vals (xs.drop n) (us.drop n)
  | _, _, 0, r => r
  | _, _, _ + 1, .nil => .nil
  | _, _, n + 1, .cons _ t => Vals.drop n t
theorem Vals.none_of : ∀ {xs : List V} {us : List Value} {i : Nat}, Vals xs us → xs[i]? = none → us[i]? = none := fun {xs us i} r e => by
  have h1 := r.length
  have h2 : xs.length ≤ i := List.getElem?_eq_none_iff.mp e
  exact List.getElem?_eq_none_iff.mpr (by omega)
noncomputable def RelO : Option V → Option Value → Prop
  | some v, some u => RelV v u
  | none, none => True
  | _, _ => False
noncomputable def KV {κ : Type} : List (κ × V) → List (κ × Value) → Prop := Paired fun (p : κ × V) (q : κ × Value) => p.1 = q.1 ∧ RelV p.2 q.2
noncomputable def kV : Key → V
  | .inl i => .int i
  | .inr x => .str x
inductive HO where
  /-- a list -/
  | lst (xs : List V)
  /-- a tuple (never changes) -/
  | tup (xs : List V)
  /-- a dict whose keys are ints and texts; one whose keys are tuples of ints and texts (the empty one is both) -/
  | dK (kvs : List (Key × V)) | dT (kvs : List (List Key × V)) | dP (kvs : List ((List Key × Key) × V))
  /-- a set of ints: its members, its size -/
  | set (S : Int → Bool) (n : Nat)
  /-- an instance of the class at C, its dict at dx, its attributes -/
  | ins (C dx : Addr) (fs : List (Str × V))
  /-- the dict of the instance at x -/
  | own (x : Addr)
  /-- the dict of an exception -/
  | xd (fs : List (Str × V))
  /-- a bound method, f of x -/
  | met (f x : Addr)
  /-- a range object lo, lo + 1, .. below hi -/
  | rng (lo hi : Int)
  /-- a thing that is known to the object (the script; a dict while a loop walks it): read, never written while it is so -/
  | frz (o : Obj) (u : HO)
  /-- a code object's table -/
  | tbl (ps : Array Value)
  /-- any other thing, by what is true of its one object (a def of one's own: SetO a S n := HO.ext fun h => ..) -/
  | ext (φ : Heap → Prop)
noncomputable abbrev Hp := Addr → Option HO
noncomputable def upd (H : Hp) (a : Addr) (o : HO) : Hp := fun b => if b = a then some o else H b
theorem upd_same {H : Hp} {a : Addr} {o : HO} : upd H a o a = some o := by unfold upd; rw [if_pos rfl]
theorem upd_ne {H : Hp} {a b : Addr} {o : HO} (h : b ≠ a) : upd H a o b = H b := by unfold upd; rw [if_neg h]
theorem upd_upd {H : Hp} {a : Addr} {o u : HO} : upd (upd H a o) a u = upd H a u := by
  funext b; unfold upd; split <;> rfl
theorem ne_of {H : Hp} {a b : Addr} {o u : HO} (h : H a = some o) (h' : H b = some u) (d : o ≠ u) : a ≠ b := by
  intro e; subst e; rw [h] at h'; exact d (Option.some.inj h')
theorem ne_of_none {H : Hp} {a b : Addr} {o : HO} (h : H a = some o) (h' : H b = none) : a ≠ b := by
  intro e; subst e; rw [h] at h'; cases h'
section
variable (P : Program) (w : World)
noncomputable def ObjOk (H : Hp) (h : Heap) (a : Addr) : HO → Prop
  | .lst xs => xs.length ≤ sizeLine ∧ ∃ (its : List Value) (n : Nat), Vals xs its ∧ h.get? a = some { cls := .type "list", data := .seq its.toArray n }
  | .tup xs => xs.length ≤ sizeLine ∧ ∃ its : List Value, Vals xs its ∧ IsTup h a its.toArray
  | .dK kvs => kvs.length ≤ sizeLine ∧ (a == sysModules) = false ∧ ∃ vs, KV kvs vs ∧ h.DictOf (mixKind P w) a vs
  | .dT kvs => kvs.length ≤ sizeLine ∧ (a == sysModules) = false ∧ ∃ xs : List (List Key × Addr × Value),
      Paired (fun (p : List Key × V) (q : List Key × Addr × Value) => p.1 = q.1 ∧ H q.2.1 = some (.tup (p.1.map kV)) ∧ RelV p.2 q.2.2) kvs xs ∧
      ∃ o es ep, h.get? a = some o ∧ o.ExactDict ∧ o.data = .dict es ep ∧ es.toList = xs.map (entryOfKey (tupleKind (mixKind P w))) ∧ (xs.map (·.1)).Nodup
  | .dP kvs => kvs.length ≤ sizeLine ∧ (a == sysModules) = false ∧ ∃ xs : List ((List Key × Key) × Addr × Value),
      Paired (fun (p : (List Key × Key) × V) (q : (List Key × Key) × Addr × Value) => p.1 = q.1 ∧ (∃ b, H q.2.1 = some (.tup [.ref b, kV p.1.2]) ∧ H b = some (.tup (p.1.1.map kV))) ∧ RelV p.2 q.2.2) kvs xs ∧
      ∃ o es ep, h.get? a = some o ∧ o.ExactDict ∧ o.data = .dict es ep ∧ es.toList = xs.map (entryOfKey (pairKind (mixKind P w) (mixKind P w))) ∧ (xs.map (·.1)).Nodup
  | .set S n => h.SetOf (intKind P w) a S n
  | .ins C dx fs => H dx = some (.own a) ∧ fs.length ≤ 1000 ∧ dx ≠ a ∧ h.get? a = some (PySem.W.instObj C dx) ∧
      ∃ mA, h.Ns1 dx mA ∧ (∀ f, RelO (fs.lookup f) (mA f)) ∧ PySem.Within mA (fs.map (·.1))
  | .own _ => ∃ o, h.get? a = some o
  | .xd fs => ∃ mA, h.Ns1 a mA ∧ ∀ f, RelO (fs.lookup f) (mA f)
  | .rng lo hi => ∃ t u v, h.get? a = some { cls := .type "range", data := .fields #[.int lo t, .int hi u, .int 1 v] }
  | .frz o u => h.get? a = some o ∧ ObjOk H h a u
  | .tbl ps => h.get? a = some { cls := .none, data := .fields ps }
  | .met f x => h.get? a = some (PySem.W.methodObj (.ref f) (.ref x))
  | .ext φ => φ h ∧ (∃ o, h.get? a = some o) ∧ ∀ h1 h2 : Heap, φ h1 → (∀ o, h1.get? a = some o → h2.get? a = some o) → φ h2
noncomputable def HOk (H : Hp) (h : Heap) : Prop := ∀ a o, H a = some o → ObjOk P w H h a o
end
section
variable {P : Program} {w : World} {H H' : Hp} {h h' : Heap} {a : Addr} {o : HO}
theorem ObjOk.lt (x : ObjOk P w H h a o) : a < h.objs.size := by
  cases o with
  | lst xs => obtain ⟨_, _, _, _, e⟩ := x; exact Heap.lt_size e
  | tup xs => obtain ⟨_, _, _, p⟩ := x; exact p.lt
  | dK kvs => obtain ⟨_, _, _, _, o, _, _, e, _⟩ := x; exact Heap.lt_size e
  | dT kvs => obtain ⟨_, _, _, _, o, _, _, e, _⟩ := x; exact Heap.lt_size e
  | dP kvs => obtain ⟨_, _, _, _, o, _, _, e, _⟩ := x; exact Heap.lt_size e
  | set S n => obtain ⟨o, _, _, _, e, _⟩ := x; exact Heap.lt_size e
  | ins C dx fs => obtain ⟨_, _, _, e, _⟩ := x; exact Heap.lt_size e
  | own y => obtain ⟨_, e⟩ := x; exact Heap.lt_size e
  | xd fs => obtain ⟨_, ⟨_, _, _, e, _⟩, _⟩ := x; exact Heap.lt_size e
  | rng lo hi => obtain ⟨_, _, _, e⟩ := x; exact Heap.lt_size e
  | frz ob u => obtain ⟨e, _⟩ := x; exact Heap.lt_size e
  | tbl ps => exact Heap.lt_size (show h.get? a = some _ from x)
  | met f y => exact Heap.lt_size (show h.get? a = some _ from x)
  | ext φ => obtain ⟨_, ⟨_, e⟩, _⟩ := x; exact Heap.lt_size e
theorem Paired.mapP {α β : Type} {F G : α → β → Prop} : ∀ {l₁ : List α} {l₂ : List β}, Paired F l₁ l₂ → (∀ a b, F a b → G a b) → Paired G l₁ l₂
  | _, _, .nil, _ => .nil
  | _, _, .cons r t, f => .cons (f _ _ r) (Paired.mapP t f)
theorem ObjOk.stay (x : ObjOk P w H h a o) (k : ∀ b u, (b = a ∨ H b = some (.own a)) → h.get? b = some u → h'.get? b = some u)
    (ho : ∀ b, H b = some (.own a) → H' b = some (.own a)) (ht : ∀ b xs, H b = some (.tup xs) → H' b = some (.tup xs)) : ObjOk P w H' h' a o := by
  induction o with
  | lst xs => obtain ⟨z, its, n, r, e⟩ := x; exact ⟨z, its, n, r, k _ _ (.inl rfl) e⟩
  | tup xs => obtain ⟨z, its, r, ob, e, c⟩ := x; exact ⟨z, its, r, ob, k _ _ (.inl rfl) e, c⟩
  | dK kvs => obtain ⟨z, y, vs, r, ob, es, ep, e, c⟩ := x; exact ⟨z, y, vs, r, ob, es, ep, k _ _ (.inl rfl) e, c⟩
  | dT kvs =>
    obtain ⟨z, y, xs, r, ob, es, ep, e, c⟩ := x
    exact ⟨z, y, xs, Paired.mapP r fun p q z => ⟨z.1, ht _ _ z.2.1, z.2.2⟩, ob, es, ep, k _ _ (.inl rfl) e, c⟩
  | dP kvs =>
    obtain ⟨z, y, xs, r, ob, es, ep, e, c⟩ := x
    exact ⟨z, y, xs, Paired.mapP r fun p q z => ⟨z.1, let ⟨b, e1, e2⟩ := z.2.1; ⟨b, ht _ _ e1, ht _ _ e2⟩, z.2.2⟩, ob, es, ep, k _ _ (.inl rfl) e, c⟩
  | set S n => obtain ⟨ob, es, ep, t, e, c⟩ := x; exact ⟨ob, es, ep, t, k _ _ (.inl rfl) e, c⟩
  | ins C dx fs =>
    obtain ⟨d, z, ne, e, mA, ⟨od, es, ep, e2, c⟩, r⟩ := x
    exact ⟨ho _ d, z, ne, k _ _ (.inl rfl) e, mA, ⟨od, es, ep, k _ _ (.inr d) e2, c⟩, r⟩
  | own y => obtain ⟨ob, e⟩ := x; exact ⟨ob, k _ _ (.inl rfl) e⟩
  | xd fs => obtain ⟨mA, ⟨od, es, ep, e, c⟩, r⟩ := x; exact ⟨mA, ⟨od, es, ep, k _ _ (.inl rfl) e, c⟩, r⟩
  | rng lo hi => obtain ⟨t, u, v, e⟩ := x; exact ⟨t, u, v, k _ _ (.inl rfl) e⟩
  | frz ob u ih => obtain ⟨e, q⟩ := x; exact ⟨k _ _ (.inl rfl) e, ih q⟩
  | tbl ps =>
    have e : h.get? a = some { cls := .none, data := .fields ps } := x
    show h'.get? a = some { cls := .none, data := .fields ps }
    exact k a _ (.inl rfl) e
  | met f y =>
    have e : h.get? a = some (PySem.W.methodObj (.ref f) (.ref y)) := x
    show h'.get? a = some (PySem.W.methodObj (.ref f) (.ref y))
    exact k a _ (.inl rfl) e
  | ext φ => obtain ⟨p, ⟨o, e⟩, st⟩ := x; exact ⟨st _ _ p fun o q => k _ _ (.inl rfl) q, ⟨o, k _ _ (.inl rfl) e⟩, st⟩
theorem HOk.lt (x : HOk P w H h) (e : H a = some o) : a < h.objs.size := (x a o e).lt
theorem HOk.fresh (x : HOk P w H h) (e : h.objs.size ≤ a) : H a = none := by
  cases q : H a with
  | none => rfl
  | some u => exact absurd (Nat.lt_of_lt_of_le (x.lt q) e) (Nat.lt_irrefl _)
theorem HOk.kept (x : HOk P w H h) (k : ∀ b u, h.get? b = some u → h'.get? b = some u) : HOk P w H h' := fun a o e =>
  (x a o e).stay (fun b u _ q => k b u q) (fun _ q => q) fun _ _ q => q
theorem HOk.laid (x : HOk P w H h) (k : ∀ b u, h.get? b = some u → h'.get? b = some u) (hp : h.objs.size ≤ a) (new : ObjOk P w (upd H a o) h' a o) : HOk P w (upd H a o) h' := fun b u e => by
  have hn := x.fresh hp
  by_cases hb : b = a
  · subst hb; rw [upd_same] at e; cases e; exact new
  · rw [upd_ne hb] at e
    exact (x b u e).stay (fun c v _ q => k c v q) (fun c q => by rw [upd_ne (ne_of_none q hn)]; exact q) fun c xs q => by rw [upd_ne (ne_of_none q hn)]; exact q
end
noncomputable def Rd (H : Hp) (a : Addr) (u : HO) : Prop := H a = some u ∨ ∃ o, H a = some (.frz o u)
theorem Rd.ok {P : Program} {w : World} {H : Hp} {h : Heap} {a : Addr} {u : HO} (r : Rd H a u) (x : HOk P w H h) : ObjOk P w H h a u := by
  rcases r with r | ⟨o, r⟩
  · exact x a u r
  · obtain ⟨_, q⟩ := x a _ r
    exact q
noncomputable def Mut : Option HO → Prop
  | some (.lst _) => True
  | some (.dK _) => True
  | some (.dT _) => True
  | some (.dP _) => True
  | some (.set _ _) => True
  | some (.ins _ _ _) => True
  | some (.ext _) => True
  | _ => False
section
variable {P : Program} {w : World} {H : Hp} {h h' : Heap} {x e : Addr} {o' : HO}
theorem HOk.write (ok : HOk P w H h) (mu : Mut (H x)) (he : e = x ∨ H e = some (.own x)) (k : ∀ b u, b ≠ e → h.get? b = some u → h'.get? b = some u) (heo : ∃ u, h'.get? e = some u)
    (new : ObjOk P w (upd H x o') h' x o') : HOk P w (upd H x o') h' := fun b u q => by
  have nown : ∀ c y, H c = some (.own y) → c ≠ x := fun c y r z => by subst z; rw [r] at mu; exact mu
  have ntup : ∀ c xs, H c = some (.tup xs) → c ≠ x := fun c xs r z => by subst z; rw [r] at mu; exact mu
  by_cases hb : b = x
  · subst hb; rw [upd_same] at q; cases q; exact new
  · rw [upd_ne hb] at q
    by_cases hbe : b = e
    · have q' : H b = some (.own x) := by
        rcases he with z | z
        · exact absurd (hbe.trans z) hb
        · rw [hbe]; exact z
      rw [q] at q'; cases q'
      obtain ⟨v, hv⟩ := heo
      exact ⟨v, by rw [hbe]; exact hv⟩
    · refine (ok b u q).stay (fun c v hc r => k c v ?_ r) (fun c r => by rw [upd_ne (nown c b r)]; exact r) fun c xs r => by rw [upd_ne (ntup c xs r)]; exact r
      rcases hc with rfl | hc
      · exact hbe
      · rintro rfl
        rcases he with z | z
        · exact nown c b hc z
        · rw [hc] at z; cases z; exact hb rfl
end
structure Un (fs ex : List Addr) (H H' : Hp) (h h' : Heap) : Prop where
  keep : ∀ b o, h.get? b = some o → H b = none → b ∉ fs → b ∉ ex → h'.get? b = some o
  slot : ∀ b o, h.get? b = some o → H b = none → b ∈ fs → b ∉ ex → ∃ sl, h'.get? b = some { o with slots := sl }
  free : ∀ b o, h.get? b = some o → H b = none → b ∉ ex → H' b = none
  there : ∀ b o, h.get? b = some o → b ∉ ex → ∃ o', h'.get? b = some o'
  tups : ∀ b xs, H b = some (.tup xs) → H' b = some (.tup xs)
  frzs : ∀ b o u, H b = some (.frz o u) → H' b = some (.frz o u)
  tbls : ∀ b ps, H b = some (.tbl ps) → ∃ more, H' b = some (.tbl (ps ++ more))
section
variable {fs fs' ex ex' : List Addr} {H H1 H2 : Hp} {h h1 h2 h' : Heap} {a x e : Addr} {o : HO}
theorem Un.any (u : Un fs ex H H1 h h1) {b : Addr} {ob : Obj} (q : h.get? b = some ob) (n : H b = none) (hx : b ∉ ex) : ∃ sl, h1.get? b = some { ob with slots := sl } := by
  by_cases hb : b ∈ fs
  · exact u.slot b ob q n hb hx
  · exact ⟨ob.slots, u.keep b ob q n hb hx⟩
theorem Un.kept (k : ∀ b u, h.get? b = some u → h'.get? b = some u) : Un fs ex H H h h' :=
  ⟨fun b ob q _ _ _ => k b ob q, fun b ob q _ _ _ => ⟨ob.slots, k b ob q⟩, fun _ _ _ n _ => n, fun b ob q _ => ⟨ob, k b ob q⟩, fun _ _ q => q, fun _ _ _ q => q, fun _ ps q => ⟨#[], by rw [q]; simp⟩⟩
theorem Un.refl : Un fs ex H H h h := Un.kept fun _ _ q => q
theorem Un.laid (k : ∀ b u, h.get? b = some u → h'.get? b = some u) (hp : h.objs.size ≤ a) (hn : H a = none) : Un fs ex H (upd H a o) h h' where
  keep := fun b u q _ _ _ => k b u q
  slot := fun b u q _ _ _ => ⟨u.slots, k b u q⟩
  free := fun b u q n _ => by rw [upd_ne (Nat.ne_of_lt (Nat.lt_of_lt_of_le (Heap.lt_size q) hp))]; exact n
  there := fun b u q _ => ⟨u, k b u q⟩
  tups := fun b xs q => by rw [upd_ne (ne_of_none q hn)]; exact q
  frzs := fun b u xs q => by rw [upd_ne (ne_of_none q hn)]; exact q
  tbls := fun b ps q => ⟨#[], by rw [upd_ne (ne_of_none q hn), q]; simp⟩
theorem Un.write (mu : Mut (H x)) (he : e = x ∨ H e = some (.own x)) (k : ∀ b u, b ≠ e → h.get? b = some u → h'.get? b = some u) (heo : ∃ u, h'.get? e = some u) : Un fs ex H (upd H x o) h h' := by
  have hx : ∀ b, H b = none → b ≠ x := fun b n z => by subst z; rw [n] at mu; exact mu
  have hb : ∀ b, H b = none → b ≠ e := fun b n z => by
    subst z
    rcases he with r | r
    · exact hx b n r
    · rw [n] at r; cases r
  have hm : ∀ b u, H b = some u → ¬ Mut (some u) → b ≠ x := fun b u q nm z => by subst z; rw [q] at mu; exact nm mu
  refine ⟨fun b u q n _ _ => k b u (hb b n) q, fun b u q n _ _ => ⟨u.slots, k b u (hb b n) q⟩, fun b u q n _ => by rw [upd_ne (hx b n)]; exact n, fun b u q _ => ?_,
    fun b xs q => by rw [upd_ne (hm b _ q fun z => z)]; exact q, fun b u xs q => by rw [upd_ne (hm b _ q fun z => z)]; exact q, fun b ps q => ⟨#[], by rw [upd_ne (hm b _ q fun z => z), q]; simp⟩⟩
  by_cases hbe : b = e
  · subst hbe; exact heo
  · exact ⟨u, k b u hbe q⟩
end
noncomputable def trk (h : Heap) (H : Hp) : List Addr := (List.range h.objs.size).filter fun a => (H a).isSome
noncomputable def hidT (h : Heap) (H : Hp) : Heap := PySem.W.hideAll h (trk h H)
theorem hidT_size (h : Heap) (H : Hp) : (hidT h H).objs.size = h.objs.size := PySem.W.hideAll_size _ _
theorem hidT_get {h : Heap} {H : Hp} {b : Addr} {o : Obj} (e : h.get? b = some o) (n : H b = none) : (hidT h H).get? b = some o :=
  PySem.W.hideAll_get _ e fun hm => by
    have q : (H b).isSome = true := (List.mem_filter.mp hm).2
    rw [n] at q; simp at q
theorem of_hidT {h : Heap} {H : Hp} {b : Addr} {o : Obj} (e : (hidT h H).get? b = some o) : h.get? b = some o ∧ H b = none := by
  have e' : h.get? b = some o := PySem.W.of_hideAll (trk h H) e
  refine ⟨e', ?_⟩
  cases q : H b with
  | none => rfl
  | some x =>
    have hm : b ∈ trk h H := List.mem_filter.mpr ⟨List.mem_range.mpr (Heap.lt_size e'), by simp [q]⟩
    have z : (hidT h H).get? b = none := PySem.W.hideAll_none (trk h H) hm
    rw [z] at e; cases e
end L2
namespace L2
open PySem PySem.Spec PyProof.Rows
structure Mod (K : PySem.W.Frag) (mg : Str → Option Value) (base : Heap) : Prop where
  kin : K.In base
  glob : base.Ns mainGlobals mg
  blt : ∃ mb, base.Ns builtinsNs mb ∧ ∀ x : Str, x ≠ "__name__" → mb x = bootBuiltins x
  nolimit : base.NoLimit
structure Cx where
  prog : Program
  w : World
  K : PySem.W.Frag
  mg : Str → Option Value
  base : Heap
  A : Around
  N : List Str
  s₀ : Shared
  H₀ : Hp
  env : Env
  outer : List Env
  stack : List Env
  ex : List Addr
  fn : Str → Bool
  calm : Bool
  pn : List (Addr × Obj)
  xe : Value → Shared → Prop
noncomputable def frs (l : List Env) : List Addr := l.filterMap (·.frame)
noncomputable abbrev Cx.fs (X : Cx) : List Addr := frs X.outer
noncomputable def Vis (sc : Scope) (x : Str) : Prop := sc.names.lookup x = some .local ∨ sc.names.lookup x = some .cell ∨ sc.names.lookup x = some .free
noncomputable def Loc (sc : Scope) (x : Str) : Prop := sc.names.lookup x = some .local ∨ sc.names.lookup x = some .cell
noncomputable def Look (env : Env) (h : Heap) (m : Str → Option Value) (x : Str) (u : Value) : Prop :=
  (env.kindOf x = some .local ∧ m x = some u) ∨ ((env.kindOf x = some .cell ∨ env.kindOf x = some .free) ∧ ∃ c, env.cells.lookup x = some c ∧ h.IsCell c (some u))
structure Cx.Ok (X : Cx) : Prop where
  mod : Mod X.K X.mg X.base
  kind : X.env.scope.kind = .function
  glob : X.env.globals = mainGlobals
  blt : X.env.builtins = builtinsNs
  above : X.s₀.heap.objs.size ≤ X.env.locals
  inj : ∀ x y c, X.env.cells.lookup x = some c → X.env.cells.lookup y = some c → x = y
  has : ∀ x, (X.env.kindOf x = some .cell ∨ X.env.kindOf x = some .free) → ∃ c, X.env.cells.lookup x = some c
  cab : ∀ x c, X.fn x = true → X.env.cells.lookup x = some c → X.s₀.heap.objs.size ≤ c
  hd : X.calm = true → X.A.handled = none
  frames : X.A.frames = some X.stack
  stk : X.stack = X.outer ∨ (X.stack = X.env :: X.outer ∧ X.env.frame = some X.env.locals)
  exf : ∀ b ∈ X.ex, b ≠ X.env.locals ∧ ∀ x c, X.env.cells.lookup x = some c → c ≠ b
  bs : ∀ b o, X.base.get? b = some o → X.s₀.heap.get? b = some o ∧ X.H₀ b = none
  bsz : X.base.objs.size ≤ X.s₀.heap.objs.size
  noex : ∀ b o, X.base.get? b = some o → b ∉ X.ex
  exfs : ∀ b ∈ X.ex, b ∉ X.fs
  funs : X.s₀.heap.FunFrames X.base X.outer
  frf : ∀ b ∈ X.fs, X.H₀ b = none
structure Inv (X : Cx) (pins : List (Addr × Obj)) (σ : List (Option V)) (H : Hp) (s : Shared) : Prop where
  ok : X.Ok
  os : s.os = X.s₀.os
  bare : AllBare s.gens
  base : Un X.fs X.ex X.H₀ H X.s₀.heap s.heap
  loc : ∃ m, s.heap.Ns X.env.locals m ∧ ∀ (i : Nat) (x : Str) (v : V), X.N[i]? = some x → σ[i]? = some (some v) → Vis X.env.scope x → ∃ u, RelV v u ∧ Look X.env s.heap m x u
  cell : ∀ x c, X.env.cells.lookup x = some c → ∃ v, s.heap.IsCell c v
  free : H X.env.locals = none
  freeC : ∀ x c, X.env.cells.lookup x = some c → H c = none
  pin : ∀ p ∈ X.pn ++ pins, s.heap.get? p.1 = some p.2 ∧ H p.1 = none ∧ p.1 ≠ X.env.locals ∧ p.1 ∉ X.fs ∧ ∀ v, p.2.data ≠ .cell v
  hok : HOk X.prog X.w H s.heap
  len : σ.length = X.N.length
section
variable {X : Cx} {pins : List (Addr × Obj)} {σ : List (Option V)} {H H' : Hp} {s : Shared} {h' : Heap}
theorem Cx.Ok.nofr (ok : X.Ok) {b : Addr} {o : Obj} (e : X.base.get? b = some o) : b ∉ X.fs := fun hb => by
  have := (ok.funs.mem hb).1
  rw [e] at this; cases this
theorem Inv.bs (I : Inv X pins σ H s) : ∀ b o, X.base.get? b = some o → s.heap.get? b = some o ∧ H b = none := fun b o e =>
  ⟨I.base.keep b o (I.ok.bs b o e).1 (I.ok.bs b o e).2 (I.ok.nofr e) (I.ok.noex b o e), I.base.free b o (I.ok.bs b o e).1 (I.ok.bs b o e).2 (I.ok.noex b o e)⟩
theorem Inv.bk (I : Inv X pins σ H s) : ∀ b o, X.base.get? b = some o → s.heap.get? b = some o := fun b o e => (I.bs b o e).1
theorem Inv.mod (I : Inv X pins σ H s) : Mod X.K X.mg X.base := I.ok.mod
theorem Inv.kIn (I : Inv X pins σ H s) : X.K.In s.heap := I.ok.mod.kin.keeps I.bk
theorem Inv.lt (I : Inv X pins σ H s) : X.env.locals < s.heap.objs.size := let ⟨_, hn, _⟩ := I.loc; hn.lt
theorem Inv.sz (I : Inv X pins σ H s) : X.s₀.heap.objs.size ≤ s.heap.objs.size := Nat.le_trans I.ok.above (Nat.le_of_lt I.lt)
theorem Inv.nofs (I : Inv X pins σ H s) {a : Addr} (h : s.heap.objs.size ≤ a) : a ∉ X.fs := fun hb => by
  obtain ⟨_, o, ho, _⟩ := I.ok.funs.mem hb
  exact absurd (Nat.lt_of_lt_of_le (Heap.lt_size ho) (Nat.le_trans I.sz h)) (Nat.lt_irrefl _)
theorem Inv.cne (I : Inv X pins σ H s) : ∀ x c, X.env.cells.lookup x = some c → c ≠ X.env.locals := fun x c e z => by
  obtain ⟨v, o, ho, hd⟩ := I.cell x c e
  obtain ⟨m, ⟨o', es, ep, ho', hd', _⟩, _⟩ := I.loc
  rw [z, ho'] at ho; cases ho; rw [hd'] at hd; cases hd
theorem Inv.funs (I : Inv X pins σ H s) : s.heap.FunFrames X.base X.outer := by
  have all : ∀ (l : List Env), (∀ b ∈ frs l, b ∈ X.fs) → X.s₀.heap.FunFrames X.base l → s.heap.FunFrames X.base l := by
    intro l
    induction l with
    | nil => intro _ _; trivial
    | cons env r ih =>
      intro hs hl
      obtain ⟨hk, ⟨L, o, hf, hn, ho, hd⟩, hr⟩ := hl
      have hL : L ∈ X.fs := hs L (by unfold frs; rw [List.filterMap_cons, hf]; exact List.mem_cons_self)
      obtain ⟨sl, e⟩ := I.base.slot L o ho (I.ok.frf L hL) hL fun z => I.ok.exfs L z hL
      exact ⟨hk, ⟨L, _, hf, hn, e, hd⟩, ih (fun b hb => hs b (by unfold frs; rw [List.filterMap_cons, hf]; exact List.mem_cons_of_mem _ hb)) hr⟩
  exact all X.outer (fun _ hb => hb) I.ok.funs
theorem Inv.stack (I : Inv X pins σ H s) : s.heap.FunFrames X.base X.stack := by
  rcases I.ok.stk with e | ⟨e, hf⟩
  · rw [e]; exact I.funs
  · rw [e]
    obtain ⟨m, hn, _⟩ := I.loc
    refine .cons (by rw [I.ok.kind]; decide) hf hn ?_ I.funs
    exact Heap.get?_none_of_le (Nat.le_trans I.ok.bsz I.ok.above)
theorem Inv.stkSub (I : Inv X pins σ H s) : ∀ b ∈ frs X.stack, b ∈ X.env.locals :: X.fs := fun b hb => by
  rcases I.ok.stk with e | ⟨e, hf⟩
  · rw [e] at hb; exact List.mem_cons_of_mem _ hb
  · rw [e] at hb
    unfold frs at hb
    rw [List.filterMap_cons, hf] at hb
    exact hb
theorem Inv.stkFree (I : Inv X pins σ H s) : ∀ b ∈ frs X.stack, H b = none := fun b hb => by
  rcases List.mem_cons.mp (I.stkSub b hb) with e | hb
  · rw [e]; exact I.free
  · obtain ⟨_, o, ho, _⟩ := I.ok.funs.mem hb
    exact I.base.free b o ho (I.ok.frf b hb) fun z => I.ok.exfs b z hb
theorem Inv.step {g' : Array GenState} {t' : Nat} {d' : Drawn} {ch : List Addr} (I : Inv X pins σ H s)
    (hch : ∀ b ∈ ch, (b ∈ X.ex ∨ X.s₀.heap.objs.size ≤ b) ∧ b ≠ X.env.locals ∧ (∀ x c, X.env.cells.lookup x = some c → c ≠ b) ∧ ∀ p ∈ X.pn ++ pins, p.1 ≠ b)
    (keep : ∀ b o, b ≠ X.env.locals → b ∉ X.fs → b ∉ ch → s.heap.get? b = some o → H b = none → h'.get? b = some o)
    (slot : ∀ b o, b ≠ X.env.locals → b ∈ X.fs → b ∉ ch → s.heap.get? b = some o → H b = none → ∃ sl, h'.get? b = some { o with slots := sl }) (free : ∀ b o, b ∉ ch → s.heap.get? b = some o → H b = none → H' b = none)
    (there : ∀ b o, b ∉ ch → s.heap.get? b = some o → ∃ o', h'.get? b = some o')
    (tups : ∀ b xs, H b = some (.tup xs) → H' b = some (.tup xs)) (frzs : ∀ b o u, H b = some (.frz o u) → H' b = some (.frz o u)) (tbls : ∀ b ps, H b = some (.tbl ps) → ∃ more, H' b = some (.tbl (ps ++ more)))
    (ns : ∀ m, s.heap.Ns X.env.locals m → h'.Ns X.env.locals m) (hok : HOk X.prog X.w H' h') (hg : AllBare g') :
    Inv X pins σ H' { s with heap := h', gens := g', drawn := d', toks := t' } := by
  have neL : ∀ b o, X.s₀.heap.get? b = some o → b ≠ X.env.locals := fun b o e => Nat.ne_of_lt (Nat.lt_of_lt_of_le (Heap.lt_size e) I.ok.above)
  have neC : ∀ b o, X.s₀.heap.get? b = some o → b ∉ X.ex → b ∉ ch := fun b o e hx hb => by
    rcases (hch b hb).1 with z | z
    · exact hx z
    · exact absurd (Nat.lt_of_lt_of_le (Heap.lt_size e) z) (Nat.lt_irrefl _)
  have cellK : ∀ x c, X.env.cells.lookup x = some c → ∀ v, s.heap.IsCell c v → h'.IsCell c v := fun x c e v ⟨o, ho, hd⟩ => by
    have nch : c ∉ ch := fun z => (hch c z).2.2.1 x c e rfl
    by_cases hc : c ∈ X.fs
    · obtain ⟨sl, q⟩ := slot c o (I.cne x c e) hc nch ho (I.freeC x c e)
      exact ⟨_, q, hd⟩
    · exact ⟨o, keep c o (I.cne x c e) hc nch ho (I.freeC x c e), hd⟩
  refine ⟨I.ok, I.os, hg, ⟨fun b o e n hb hx => ?_, fun b o e n hb hx => ?_, fun b o e n hx => ?_, fun b o e hx => ?_, fun b xs e => tups b xs (I.base.tups b xs e), fun b o xs e => frzs b o xs (I.base.frzs b o xs e), fun b ps e => ?_⟩, ?_, fun x c e => ?_, ?_, fun x c e => ?_, fun p hp => ?_, hok, I.len⟩
  · exact keep b o (neL b o e) hb (neC b o e hx) (I.base.keep b o e n hb hx) (I.base.free b o e n hx)
  · obtain ⟨sl, e1⟩ := I.base.slot b o e n hb hx
    obtain ⟨sl', e2⟩ := slot b _ (neL b o e) hb (neC b o e hx) e1 (I.base.free b o e n hx)
    exact ⟨sl', e2⟩
  · obtain ⟨o', e1⟩ := I.base.there b o e hx
    exact free b o' (neC b o e hx) e1 (I.base.free b o e n hx)
  · obtain ⟨o', e1⟩ := I.base.there b o e hx
    exact there b o' (neC b o e hx) e1
  · obtain ⟨m1, e1⟩ := I.base.tbls b ps e
    obtain ⟨m2, e2⟩ := tbls b _ e1
    exact ⟨m1 ++ m2, by rw [e2, Array.append_assoc]⟩
  · obtain ⟨m, hn, hl⟩ := I.loc
    refine ⟨m, ns m hn, fun i x v e1 e2 e3 => ?_⟩
    obtain ⟨u, r, l⟩ := hl i x v e1 e2 e3
    refine ⟨u, r, ?_⟩
    rcases l with l | ⟨k, c, e, z⟩
    · exact .inl l
    · exact .inr ⟨k, c, e, cellK x c e _ z⟩
  · obtain ⟨v, z⟩ := I.cell x c e
    exact ⟨v, cellK x c e v z⟩
  · obtain ⟨m, ⟨o, _, _, ho, _⟩, _⟩ := I.loc
    exact free _ o (fun z => (hch _ z).2.1 rfl) ho I.free
  · obtain ⟨v, o, ho, hd⟩ := I.cell x c e
    exact free c o (fun z => (hch c z).2.2.1 x c e rfl) ho (I.freeC x c e)
  · obtain ⟨e, n, ne, nf, d⟩ := I.pin p hp
    have nch : p.1 ∉ ch := fun z => (hch p.1 z).2.2.2 p hp rfl
    exact ⟨keep p.1 p.2 ne nf nch e n, free p.1 p.2 nch e n, ne, nf, d⟩
theorem Inv.un {t' : Nat} (I : Inv X pins σ H s) (u : Un X.fs [] H H' s.heap h') (hok : HOk X.prog X.w H' h') : Inv X pins σ H' { s with heap := h', toks := t' } := by
  obtain ⟨m, ⟨o, es, ep, ho, r⟩, _⟩ := id I.loc
  obtain ⟨sl, hL⟩ := u.any ho I.free (by simp)
  exact I.step (g' := s.gens) (d' := s.drawn) (ch := []) (fun _ z => nomatch z) (fun b o _ hb _ e n => u.keep b o e n hb (by simp)) (fun b o _ hb _ e n => u.slot b o e n hb (by simp)) (fun b o _ e n => u.free b o e n (by simp)) (fun b o _ e => u.there b o e (by simp)) u.tups u.frzs u.tbls (fun m' hm => by
    obtain ⟨o', es', ep', ho', r'⟩ := hm
    rw [ho] at ho'; cases ho'
    exact ⟨_, es', ep', hL, r'⟩) hok I.bare
theorem Inv.call {g' : Array GenState} {t' : Nat} {d' : Drawn} {ch : List Addr} (I : Inv X pins σ H s) (u : Un (frs X.stack) ch H H' s.heap h') (hok : HOk X.prog X.w H' h') (hg : AllBare g')
    (hch : ∀ b ∈ ch, (b ∈ X.ex ∨ X.s₀.heap.objs.size ≤ b) ∧ b ≠ X.env.locals ∧ (∀ x c, X.env.cells.lookup x = some c → c ≠ b) ∧ ∀ p ∈ X.pn ++ pins, p.1 ≠ b) :
    Inv X pins σ H' { s with heap := h', gens := g', drawn := d', toks := t' } := by
  obtain ⟨m, ⟨o, es, ep, ho, r⟩, _⟩ := id I.loc
  obtain ⟨sl, hL⟩ := u.any ho I.free fun z => (hch _ z).2.1 rfl
  exact I.step (ch := ch) hch (fun b o hL hb hc e n => u.keep b o e n (fun z => (List.mem_cons.mp (I.stkSub b z)).elim hL hb) hc) (fun b o _ _ hc e n => u.any e n hc) (fun b o hc e n => u.free b o e n hc) (fun b o hc e => u.there b o e hc) u.tups u.frzs u.tbls (fun m' hm => by
    obtain ⟨o', es', ep', ho', r'⟩ := hm
    rw [ho] at ho'; cases ho'
    exact ⟨_, es', ep', hL, r'⟩) hok hg
theorem Inv.turned {t' : Nat} {it : Addr} (I : Inv X pins σ H s) (k : ∀ b o, b ≠ it → s.heap.get? b = some o → h'.get? b = some o) (hn : H it = none) (hL : it ≠ X.env.locals)
    (h1 : it ∈ X.ex ∨ X.s₀.heap.objs.size ≤ it) (h2 : ∀ x c, X.env.cells.lookup x = some c → c ≠ it) (h3 : ∀ p ∈ X.pn ++ pins, p.1 ≠ it) : Inv X pins σ H { s with heap := h', toks := t' } := by
  have nit : ∀ b u, H b = some u → b ≠ it := fun b u e z => by rw [z, hn] at e; cases e
  refine I.step (g' := s.gens) (d' := s.drawn) (ch := [it]) (fun b hb => ?_) (fun b o _ _ hc e _ => k b o (fun z => hc (by simp [z])) e) (fun b o _ _ hc e _ => ⟨o.slots, k b o (fun z => hc (by simp [z])) e⟩) (fun _ _ _ _ n => n)
    (fun b o hc e => ⟨o, k b o (fun z => hc (by simp [z])) e⟩) (fun _ _ e => e) (fun _ _ _ e => e) (fun b ps e => ⟨#[], by rw [e]; simp⟩) (fun m hm => ?_) (fun b u e => ?_) I.bare
  · have e : b = it := by simpa using hb
    subst e
    exact ⟨h1, hL, h2, h3⟩
  · obtain ⟨o, es, ep, ho, r⟩ := hm
    exact ⟨o, es, ep, k _ o (Ne.symm hL) ho, r⟩
  · refine (I.hok b u e).stay (fun c v hc q => k c v ?_ q) (fun _ q => q) fun _ _ q => q
    rcases hc with z | z
    · rw [z]; exact nit b u e
    · exact nit c _ z
theorem Inv.tok (I : Inv X pins σ H s) (t : Nat) : Inv X pins σ H { s with toks := t } := I.un (h' := s.heap) (t' := t) Un.refl I.hok
theorem Inv.kept {t' : Nat} (I : Inv X pins σ H s) (k : ∀ b u, s.heap.get? b = some u → h'.get? b = some u) : Inv X pins σ H { s with heap := h', toks := t' } := I.un (Un.kept k) (I.hok.kept k)
theorem Inv.laid {a : Addr} {o : HO} {t' : Nat} (I : Inv X pins σ H s) (k : ∀ b u, s.heap.get? b = some u → h'.get? b = some u) (hp : s.heap.objs.size ≤ a) (new : ObjOk X.prog X.w (upd H a o) h' a o) :
    Inv X pins σ (upd H a o) { s with heap := h', toks := t' } := I.un (Un.laid k hp (I.hok.fresh hp)) (I.hok.laid k hp new)
theorem Inv.write {x e : Addr} {o : HO} {t' : Nat} (I : Inv X pins σ H s) (mu : Mut (H x)) (he : e = x ∨ H e = some (.own x)) (k : ∀ b u, b ≠ e → s.heap.get? b = some u → h'.get? b = some u) (heo : ∃ u, h'.get? e = some u)
    (new : ObjOk X.prog X.w (upd H x o) h' x o) : Inv X pins σ (upd H x o) { s with heap := h', toks := t' } := I.un (Un.write mu he k heo) (I.hok.write mu he k heo new)
theorem Inv.pins_of {pins' : List (Addr × Obj)} (I : Inv X pins σ H s) (h : ∀ p ∈ pins', s.heap.get? p.1 = some p.2 ∧ H p.1 = none ∧ p.1 ≠ X.env.locals ∧ p.1 ∉ X.fs ∧ ∀ v, p.2.data ≠ .cell v) : Inv X pins' σ H s :=
  ⟨I.ok, I.os, I.bare, I.base, I.loc, I.cell, I.free, I.freeC, fun p hp => (List.mem_append.mp hp).elim (fun z => I.pin p (List.mem_append_left _ z)) (h p), I.hok, I.len⟩
theorem nodup_ix {N : List Str} (hN : N.Nodup) {i j : Nat} {x : Str} (a : N[i]? = some x) (b : N[j]? = some x) : i = j := by
  obtain ⟨h1, e1⟩ := List.getElem?_eq_some_iff.mp a
  obtain ⟨h2, e2⟩ := List.getElem?_eq_some_iff.mp b
  exact (List.getElem_inj hN).mp (e1.trans e2.symm)
theorem store_ok2 {M : Model} {A : Around} {E : Value → Shared → Prop} {i : Nat} {x : Str} {v : V} {u : Value} {Q : Unit → Shared → Prop} (I : Inv X pins σ H s) (hN : X.N.Nodup) (hi : X.N[i]? = some x) (hx : Loc X.env.scope x) (r : RelV v u)
    (h : ∀ s', Inv X pins (σ.set i (some v)) H s' → (∃ a, Heap.SameBut a s.heap s'.heap ∧ (a = X.env.locals ∨ X.env.cells.lookup x = some a)) → Q () s') (hf : X.fn x = true ∨ X.env.scope.names.lookup x = some .local := by first | exact .inl rfl | exact .inr rfl | assumption) : wpAny M A (storeName X.env x u) Q E s := by
  obtain ⟨m, hn, hl⟩ := id I.loc
  have hcls : (X.env.scope.kind == .class || (X.env.scope.kind == .module && X.env.locals != X.env.globals)) = false := by rw [I.ok.kind]; rfl
  have hiσ : i < σ.length := by rw [I.len]; exact (List.getElem?_eq_some_iff.mp hi).1
  have cne := I.cne
  have tracked : ∀ {a : Addr} {h' : Heap}, (∃ o, s.heap.get? a = some o ∧ H a = none) → Heap.SameBut a s.heap h' → HOk X.prog X.w H h' := fun {a h'} ha hs b ob e => by
    obtain ⟨_, _, hfree⟩ := ha
    refine (I.hok b ob e).stay (fun c w' hc q => (hs.2 c ?_).trans q) (fun _ q => q) fun _ _ q => q
    rintro rfl
    rcases hc with rfl | hc
    · rw [hfree] at e; cases e
    · rw [hfree] at hc; cases hc
  rcases hx with hk | hk
  · refine wpAny_storeName_local hk hn (fun h' hn' hs => ?_) hcls
    obtain ⟨oL, _, _, hoL, _⟩ := id hn
    refine h _ ⟨I.ok, I.os, I.bare, ⟨fun b o e n hb hx => ?_, fun b o e n hb hx => ?_, I.base.free, fun b o e hx => ?_, I.base.tups, I.base.frzs, I.base.tbls⟩, ⟨_, hn', fun j y v' e1 e2 e3 => ?_⟩, fun y c e => ?_, I.free, I.freeC, fun p hp => ?_, tracked ⟨oL, hoL, I.free⟩ hs, by simpa using I.len⟩ ⟨_, hs, .inl rfl⟩
    · exact (hs.2 b (Nat.ne_of_lt (Nat.lt_of_lt_of_le (Heap.lt_size e) I.ok.above))).trans (I.base.keep b o e n hb hx)
    · obtain ⟨sl, e1⟩ := I.base.slot b o e n hb hx
      exact ⟨sl, (hs.2 b (Nat.ne_of_lt (Nat.lt_of_lt_of_le (Heap.lt_size e) I.ok.above))).trans e1⟩
    · obtain ⟨o', e1⟩ := I.base.there b o e hx
      exact ⟨o', (hs.2 b (Nat.ne_of_lt (Nat.lt_of_lt_of_le (Heap.lt_size e) I.ok.above))).trans e1⟩
    · by_cases hj : j = i
      · subst hj
        rw [hi] at e1; cases e1
        rw [List.getElem?_set_self hiσ] at e2
        cases e2
        exact ⟨u, r, .inl ⟨hk, by simp⟩⟩
      · rw [List.getElem?_set_ne (Ne.symm hj)] at e2
        obtain ⟨u', r', q⟩ := hl j y v' e1 e2 e3
        refine ⟨u', r', ?_⟩
        rcases q with ⟨k, e⟩ | ⟨k, c, e, z⟩
        · refine .inl ⟨k, ?_⟩
          have : y ≠ x := fun e => hj (nodup_ix hN e1 (e ▸ hi))
          simp [this, e]
        · exact .inr ⟨k, c, e, z.sameBut hs (cne y c e)⟩
    · obtain ⟨w', z⟩ := I.cell y c e
      exact ⟨w', z.sameBut hs (cne y c e)⟩
    · obtain ⟨e, n, ne, nf, d⟩ := I.pin p hp
      exact ⟨(hs.2 p.1 ne).trans e, n, ne, nf, d⟩
  · have hfn : X.fn x = true := by
      rcases hf with z | z
      · exact z
      · rw [z] at hk; cases hk
    obtain ⟨c, hc⟩ := I.ok.has x (.inl hk)
    obtain ⟨w', z⟩ := I.cell x c hc
    refine wpAny_storeName_cell I.ok.kind hk hc z (fun h' hc' hs => ?_)
    obtain ⟨oc, hoc, hocd⟩ := id z
    refine h { s with heap := h' } ⟨I.ok, I.os, I.bare, ⟨fun b o e n hb hx => ?_, fun b o e n hb hx => ?_, I.base.free, fun b o e hx => ?_, I.base.tups, I.base.frzs, I.base.tbls⟩, ⟨m, hn.sameBut hs (Ne.symm (cne x c hc)), fun j y v' e1 e2 e3 => ?_⟩, fun y c' e => ?_, I.free, I.freeC, fun p hp => ?_, tracked ⟨oc, hoc, I.freeC x c hc⟩ hs, by simpa using I.len⟩ ⟨c, hs, .inr hc⟩
    · exact (hs.2 b (Nat.ne_of_lt (Nat.lt_of_lt_of_le (Heap.lt_size e) (I.ok.cab x c hfn hc)))).trans (I.base.keep b o e n hb hx)
    · obtain ⟨sl, e1⟩ := I.base.slot b o e n hb hx
      exact ⟨sl, (hs.2 b (Nat.ne_of_lt (Nat.lt_of_lt_of_le (Heap.lt_size e) (I.ok.cab x c hfn hc)))).trans e1⟩
    · obtain ⟨o', e1⟩ := I.base.there b o e hx
      exact ⟨o', (hs.2 b (Nat.ne_of_lt (Nat.lt_of_lt_of_le (Heap.lt_size e) (I.ok.cab x c hfn hc)))).trans e1⟩
    · by_cases hj : j = i
      · subst hj
        rw [hi] at e1; cases e1
        rw [List.getElem?_set_self hiσ] at e2
        cases e2
        exact ⟨u, r, .inr ⟨.inl hk, c, hc, hc'⟩⟩
      · rw [List.getElem?_set_ne (Ne.symm hj)] at e2
        obtain ⟨u', r', q⟩ := hl j y v' e1 e2 e3
        refine ⟨u', r', ?_⟩
        rcases q with q | ⟨k, c', e, z'⟩
        · exact .inl q
        · refine .inr ⟨k, c', e, z'.sameBut hs ?_⟩
          rintro rfl
          exact hj (nodup_ix hN e1 (I.ok.inj _ _ _ e hc ▸ hi))
    · by_cases hcc : c' = c
      · subst hcc; exact ⟨_, hc'⟩
      · obtain ⟨w2, z2⟩ := I.cell y c' e
        exact ⟨w2, z2.sameBut hs hcc⟩
    · obtain ⟨e, n, ne, nf, d⟩ := I.pin p hp
      refine ⟨(hs.2 p.1 ?_).trans e, n, ne, nf, d⟩
      intro q
      rw [q, hoc] at e
      have q' : oc = p.2 := Option.some.inj e
      exact d w' (by rw [← q']; exact hocd)
theorem store_ok {M : Model} {A : Around} {E : Value → Shared → Prop} {i : Nat} {x : Str} {v : V} {u : Value} {Q : Unit → Shared → Prop} (I : Inv X pins σ H s) (hN : X.N.Nodup) (hi : X.N[i]? = some x) (hx : Loc X.env.scope x) (r : RelV v u)
    (h : ∀ s', Inv X pins (σ.set i (some v)) H s' → Q () s') (hf : X.fn x = true ∨ X.env.scope.names.lookup x = some .local := by first | exact .inl rfl | exact .inr rfl | assumption) : wpAny M A (storeName X.env x u) Q E s :=
  store_ok2 I hN hi hx r (fun s' I' _ => h s' I') hf
theorem Inv.call' {s' : Shared} {ch : List Addr} (I : Inv X pins σ H s) (ho : s'.os = s.os) (u : Un (frs X.stack) ch H H' s.heap s'.heap) (hok : HOk X.prog X.w H' s'.heap) (hg : AllBare s'.gens)
    (hch : ∀ b ∈ ch, (b ∈ X.ex ∨ X.s₀.heap.objs.size ≤ b) ∧ b ≠ X.env.locals ∧ (∀ x c, X.env.cells.lookup x = some c → c ≠ b) ∧ ∀ p ∈ X.pn ++ pins, p.1 ≠ b) : Inv X pins σ H' s' := by
  obtain ⟨h', g', d', t', o'⟩ := s'
  have e : o' = s.os := ho
  subst e
  exact I.call (g' := g') (t' := t') (d' := d') u hok hg hch
end
noncomputable abbrev XK := Value → Option Addr → Hp → Prop
noncomputable abbrev St := List (Option V)
noncomputable abbrev VK := V → Hp → Prop
noncomputable abbrev TE := St → Hp → VK → Prop
noncomputable abbrev TT := St → Hp → (Bool → Hp → Prop) → Prop
noncomputable abbrev TA := St → Hp → (List V → Hp → Prop) → Prop
structure Ends where
  nx : St → Hp → Prop
  rt : VK
  bk : St → Hp → Prop := fun _ _ => False
  ct : St → Hp → Prop := fun _ _ => False
noncomputable abbrev TS := Ends → St → Hp → Prop
noncomputable def EP (X : Cx) (pins : List (Addr × Obj)) (σ : St) (Q : VK) (u : Value) (s' : Shared) : Prop := ∃ v H', Inv X pins σ H' s' ∧ RelV v u ∧ Q v H'
noncomputable def TP (X : Cx) (pins : List (Addr × Obj)) (σ : St) (Q : Bool → Hp → Prop) (b : Bool) (s' : Shared) : Prop := ∃ H', Inv X pins σ H' s' ∧ Q b H'
noncomputable def AP (X : Cx) (pins : List (Addr × Obj)) (σ : St) (Q : List V → Hp → Prop) (us : List Value) (s' : Shared) : Prop := ∃ vs H', Inv X pins σ H' s' ∧ Vals vs us ∧ Q vs H'
noncomputable def SP (X : Cx) (pins : List (Addr × Obj)) (D : Ends) (f : Flow) (s' : Shared) : Prop :=
  match f with
  | .next => ∃ σ' H', Inv X pins σ' H' s' ∧ D.nx σ' H'
  | .brk => ∃ σ' H', Inv X pins σ' H' s' ∧ D.bk σ' H'
  | .cont => ∃ σ' H', Inv X pins σ' H' s' ∧ D.ct σ' H'
  | .ret u => ∃ v σ' H', Inv X pins σ' H' s' ∧ RelV v u ∧ D.rt v H'
noncomputable def PE (X : Cx) (e : Expr) (t : TE) : Prop :=
  ∀ (pins : List (Addr × Obj)) (s : Shared) (σ : St) (H : Hp) (Q : VK), Inv X pins σ H s → t σ H Q → wpAny (model X.prog X.w) X.A (eval e X.env) (EP X pins σ Q) X.xe s
noncomputable def PT (X : Cx) (e : Expr) (t : TT) : Prop :=
  ∀ (pins : List (Addr × Obj)) (s : Shared) (σ : St) (H : Hp) (Q : Bool → Hp → Prop), Inv X pins σ H s → t σ H Q → wpAny (model X.prog X.w) X.A (isTrue e X.env (eval e X.env)) (TP X pins σ Q) X.xe s
noncomputable def PW (X : Cx) (e : Expr) (t : TT) : Prop :=
  ∀ (whole : Sem Value) (pins : List (Addr × Obj)) (s : Shared) (σ : St) (H : Hp) (Q : Bool → Hp → Prop), Inv X pins σ H s → t σ H Q → wpAny (model X.prog X.w) X.A (isTrue e X.env whole) (TP X pins σ Q) X.xe s
theorem PW.pt {X : Cx} {e : Expr} {t : TT} (h : PW X e t) : PT X e t := h _
noncomputable def PA (X : Cx) (es : List Expr) (t : TA) : Prop :=
  ∀ (pos : Pos) (pins : List (Addr × Obj)) (s : Shared) (σ : St) (H : Hp) (Q : List V → Hp → Prop), Inv X pins σ H s → t σ H Q → wpAny (model X.prog X.w) X.A (spliced (backTo pos (starEach es X.env))) (AP X pins σ Q) X.xe s
noncomputable def PS (X : Cx) (st : Stmt) (t : TS) : Prop :=
  ∀ (pins : List (Addr × Obj)) (s : Shared) (σ : St) (H : Hp) (D : Ends), Inv X pins σ H s → t D σ H → wpAny (model X.prog X.w) X.A (exec st X.env) (SP X pins D) X.xe s
noncomputable def PSs (X : Cx) (st : List Stmt) (t : TS) : Prop :=
  ∀ (pins : List (Addr × Obj)) (s : Shared) (σ : St) (H : Hp) (D : Ends), Inv X pins σ H s → t D σ H → wpAny (model X.prog X.w) X.A (execs st X.env) (SP X pins D) X.xe s
theorem thn {α : Type} {t : Sem α} {Q Q' : α → Shared → Prop} {M : Model} {A : Around} {E : Value → Shared → Prop} {s : Shared} (h : wpAny M A t Q E s) (hQ : ∀ a s, Q a s → Q' a s) : wpAny M A t Q' E s := wpAny_mono h hQ fun _ _ x => x
end L2
namespace L2
open PySem PySem.Spec PyProof.Rows
section
variable {X : Cx}
noncomputable def tVar (i : Nat) : TE := fun σ H Q => ∃ v, σ[i]? = some (some v) ∧ Q v H
noncomputable def tC (v : V) : TE := fun _ H Q => Q v H
theorem pe_var {i : Nat} {x : Str} {pos : Pos} (hN : X.N[i]? = some x) (hv : Vis X.env.scope x) (hd : (x == ("__debug__" : Str)) = false := by decide) (hcd : (x == ("__classdict__" : Str)) = false := by decide) : PE X (.Name x pos) (tVar i) := by
  intro pins s σ H Q I h
  obtain ⟨v, e, h⟩ := h
  obtain ⟨m, hn, hl⟩ := I.loc
  obtain ⟨u, r, l⟩ := hl i x v hN e hv
  have fin : EP X pins σ Q u s := ⟨v, H, I, r, h⟩
  rcases l with ⟨hk, hm⟩ | ⟨hk, c, hc, hcell⟩
  · exact wpAny_Name (wpAny_loadName_local I.ok.kind hk hn hm fin) hd
  · rcases hk with hk | hk
    · exact wpAny_Name (wpAny_loadName_cell I.ok.kind hk hc hcell fin) hd
    · exact wpAny_Name (wpAny_loadName_free I.ok.kind hk hc hcell fin hcd) hd
theorem pe_int {i j pos} : PE X (.Constant (.int i) j pos) (tC (.int i)) := fun _ _ _ H _ I h => wpAny_Constant_int ⟨.int i, H, I.tok _, ⟨_, rfl⟩, h⟩
theorem pe_bl {b j pos} : PE X (.Constant (.bool b) j pos) (tC (.bl b)) := fun _ _ _ H _ I h => Constant_bool ⟨.bl b, H, I, rfl, h⟩
theorem pe_non {j pos} : PE X (.Constant .none j pos) (tC .non) := fun _ _ _ H _ I h => Constant_none ⟨.non, H, I, rfl, h⟩
theorem pe_str {x j pos} : PE X (.Constant (.str x) j pos) (tC (.str x)) := fun _ _ _ H _ I h => Calls.Constant_str ⟨.str x, H, I.tok _, ⟨_, rfl⟩, h⟩
noncomputable def Gl (X : Cx) (x : Str) : Prop := X.env.kindOf x = some .globalImplicit
theorem ld_glob {E : Value → Shared → Prop} {pins : List (Addr × Obj)} {s : Shared} {σ : St} {H : Hp} {x : Str} {u : Value} {pos : Pos} {Q : Value → Shared → Prop} (I : Inv X pins σ H s) (hg : Gl X x) (hm : X.mg x = some u) (h : Q u s)
    (hd : (x == ("__debug__" : Str)) = false := by decide) : wpAny (model X.prog X.w) X.A (eval (.Name x pos) X.env) Q E s :=
  Calls.Name_function_global I.ok.kind hg (Calls.loadGlobal_global (by rw [I.ok.glob]; exact I.mod.glob.keeps I.bk) hm h) hd
theorem ld_blt {E : Value → Shared → Prop} {pins : List (Addr × Obj)} {s : Shared} {σ : St} {H : Hp} {x : Str} {u : Value} {pos : Pos} {Q : Value → Shared → Prop} (I : Inv X pins σ H s) (hg : Gl X x) (hm : X.mg x = none) (hv : bootBuiltins x = some u) (h : Q u s)
    (hn : x ≠ "__name__" := by decide) (hd : (x == ("__debug__" : Str)) = false := by decide) : wpAny (model X.prog X.w) X.A (eval (.Name x pos) X.env) Q E s := by
  obtain ⟨mb, h1, h2⟩ := I.mod.blt
  exact Calls.Name_function_global I.ok.kind hg (Calls.loadGlobal_builtin (by rw [I.ok.glob]; exact I.mod.glob.keeps I.bk) hm (by rw [I.ok.blt]; exact h1.keeps I.bk) ((h2 x hn).trans hv) h) hd
theorem pe_glob {x : Str} {v : V} {u : Value} {pos : Pos} (hg : Gl X x) (hm : X.mg x = some u) (r : RelV v u) (hd : (x == ("__debug__" : Str)) = false := by decide) : PE X (.Name x pos) (tC v) :=
  fun _ _ _ H _ I h => ld_glob I hg hm ⟨v, H, I, r, h⟩ hd
theorem pe_bltn {x : Str} {v : V} {u : Value} {pos : Pos} (hg : Gl X x) (hm : X.mg x = none) (hv : bootBuiltins x = some u) (r : RelV v u) (hn : x ≠ "__name__" := by decide) (hd : (x == ("__debug__" : Str)) = false := by decide) : PE X (.Name x pos) (tC v) :=
  fun _ _ _ H _ I h => ld_blt I hg hm hv ⟨v, H, I, r, h⟩ hn hd
variable {a b : Expr} {ta tb : TE} {pos : Pos}
noncomputable def PC (X : Cx) (op : CmpOp) (a b : Expr) (t : TE) : Prop :=
  ∀ (pins : List (Addr × Obj)) (s : Shared) (σ : St) (H : Hp) (Q : VK), Inv X pins σ H s → t σ H Q →
    wpAny (model X.prog X.w) X.A (eval a X.env) (fun v s₁ => wpAny (model X.prog X.w) X.A (eval b X.env) (fun u s₂ => wpAny (model X.prog X.w) X.A (compareOp op v u) (EP X pins σ Q) X.xe s₂) X.xe s₁) X.xe s
noncomputable def tB (t : TE) : TT := fun σ H Q => t σ H fun x H1 => ∃ c, x = .bl c ∧ Q c H1
theorem pe_cmp {op : CmpOp} {t : TE} (h : PC X op a b t) (h1 : behindInMarks op b = false := by first | exact nobehind _ (by decide) (by decide) | rfl) : PE X (.Compare a [op] [b] pos) t := fun pins s σ H Q I hw => wpAny_Compare1 (h pins s σ H Q I hw) h1
theorem pt_cmp {op : CmpOp} {t : TE} (h : PC X op a b t) (h1 : behindInMarks op b = false := by first | exact nobehind _ (by decide) (by decide) | rfl) : PT X (.Compare a [op] [b] pos) (tB t) := by
  intro pins s σ H Q I hw
  refine wpAny_isTrue_Compare1 (thn (h pins s σ H _ I hw) fun v s1 h1 => thn h1 fun u s2 h2 => thn h2 fun c s3 ⟨x, H1, I1, r1, q1⟩ => ?_) h1
  obtain ⟨d, rfl, q⟩ := q1
  cases r1
  exact wpAny_truthy_bool ⟨H1, I1, q⟩
theorem pt_val {e : Expr} {t : TE} (h : PE X e t) (he : ∀ whole, isTrue e X.env whole = (do let v ← whole; standAt e.pos; holding [v] (truthy v)) := by intro _; rfl) : PT X e (tB t) := by
  intro pins s σ H Q I hw
  refine isTrue_plain (thn (h pins s σ H _ I hw) fun v s1 ⟨x, H1, I1, r1, q1⟩ => ?_) (he _)
  obtain ⟨d, rfl, q⟩ := q1
  cases r1
  exact wpAny_truthy_bool ⟨H1, I1, q⟩
variable {tA tB' : TT} {rest : List Expr}
noncomputable def tAnd (t u : TT) : TT := fun σ H Q => t σ H fun c H1 => if c = true then u σ H1 Q else Q false H1
noncomputable def tOr (t u : TT) : TT := fun σ H Q => t σ H fun c H1 => if c = true then Q true H1 else u σ H1 Q
noncomputable def tNot (t : TT) : TT := fun σ H Q => t σ H fun c H1 => Q (!c) H1
theorem pw_and1 (ha : PT X a tA) : PW X (.BoolOp .And [a] pos) tA := by
  intro wh pins s σ H Q I h
  refine isTrue_and (thn (ha pins s σ H Q I h) fun c s1 e => ?_)
  cases c with
  | true => exact isTrue_and_nil e
  | false => exact e
theorem pw_or1 (ha : PT X a tA) : PW X (.BoolOp .Or [a] pos) tA := by
  intro wh pins s σ H Q I h
  refine isTrue_or (thn (ha pins s σ H Q I h) fun c s1 e => ?_)
  cases c with
  | false => exact isTrue_or_nil e
  | true => exact e
theorem pw_and (ha : PT X a tA) (hb : PW X (.BoolOp .And (b :: rest) pos) tB') : PW X (.BoolOp .And (a :: b :: rest) pos) (tAnd tA tB') := by
  intro wh pins s σ H Q I h
  refine isTrue_and (thn (ha pins s σ H _ I h) fun c s1 ⟨H1, I1, q1⟩ => ?_)
  cases c with
  | true => exact hb wh pins s1 σ H1 Q I1 q1
  | false => exact ⟨H1, I1, q1⟩
theorem pw_or (ha : PT X a tA) (hb : PW X (.BoolOp .Or (b :: rest) pos) tB') : PW X (.BoolOp .Or (a :: b :: rest) pos) (tOr tA tB') := by
  intro wh pins s σ H Q I h
  refine isTrue_or (thn (ha pins s σ H _ I h) fun c s1 ⟨H1, I1, q1⟩ => ?_)
  cases c with
  | true => exact ⟨H1, I1, q1⟩
  | false => exact hb wh pins s1 σ H1 Q I1 q1
theorem pt_not (ha : PT X a tA) : PT X (.UnaryOp .Not a pos) (tNot tA) := by
  intro pins s σ H Q I h
  exact isTrue_not (ha pins s σ H (fun c H1 => Q (!c) H1) I h)
noncomputable def tAndV (ta tb : TE) : TE := fun σ H Q => ta σ H fun x H1 => ∃ c, x = .bl c ∧ if c = true then tb σ H1 Q else Q (.bl false) H1
noncomputable def tNotV (ta : TE) : TE := fun σ H Q => ta σ H fun x H1 => ∃ c, x = .bl c ∧ Q (.bl (!c)) H1
theorem pe_one {op} {t : TE} (h : PE X a t) : PE X (.BoolOp op [a] pos) t := fun pins s σ H Q I hw => BoolOp_one (h pins s σ H Q I hw)
theorem pe_and (ha : PE X a ta) (hb : PE X (.BoolOp .And (b :: rest) pos) tb) : PE X (.BoolOp .And (a :: b :: rest) pos) (tAndV ta tb) := by
  intro pins s σ H Q I h
  refine BoolOp_and (thn (ha pins s σ H _ I h) fun v s1 ⟨x, H1, I1, r1, q1⟩ => ?_)
  obtain ⟨c, rfl, q1⟩ := q1
  cases r1
  refine wpAny_truthy_bool ?_
  cases c with
  | true => exact hb pins s1 σ H1 Q I1 q1
  | false => exact ⟨.bl false, H1, I1, rfl, q1⟩
theorem pe_not (ha : PE X a ta) : PE X (.UnaryOp .Not a pos) (tNotV ta) := by
  intro pins s σ H Q I h
  refine UnaryOp_ (thn (ha pins s σ H _ I h) fun v s1 ⟨x, H1, I1, r1, q1⟩ => ?_)
  obtain ⟨c, rfl, q1⟩ := q1
  cases r1
  exact not_of (wpAny_truthy_bool ⟨.bl (!c), H1, I1, rfl, q1⟩)
noncomputable def tIf (t : TT) (ta tb : TE) : TE := fun σ H Q => t σ H fun c H1 => if c = true then ta σ H1 Q else tb σ H1 Q
theorem pe_ifExp {c : Expr} (hc : PT X c tA) (ha : PE X a ta) (hb : PE X b tb) : PE X (.IfExp c a b pos) (tIf tA ta tb) := by
  intro pins s σ H Q I h
  refine wpAny_IfExp (thn (hc pins s σ H _ I h) fun d s1 ⟨H1, I1, q1⟩ => ?_)
  cases d with
  | true => exact ha pins s1 σ H1 Q I1 q1
  | false => exact hb pins s1 σ H1 Q I1 q1
end
end L2
namespace L2
open PySem PySem.Spec PyProof.Rows
noncomputable def SqL (K : PySem.W.Frag) (H : Hp) (a : Addr) (xs : List V) : Prop :=
  Rd H a (.lst xs) ∨
    ∃ (o : Obj) (its : Array Value) (n : Nat), K.lookup a = some o ∧ o.cls = .type "list" ∧ o.dict = none ∧ o.data = .seq its n ∧ its.size ≤ sizeLine ∧ Vals xs its.toList
noncomputable def SqT (K : PySem.W.Frag) (H : Hp) (a : Addr) (xs : List V) : Prop :=
  Rd H a (.tup xs) ∨
    ∃ (o : Obj) (its : Array Value) (n : Nat), K.lookup a = some o ∧ o.cls = .type "tuple" ∧ o.data = .seq its n ∧ its.size ≤ sizeLine ∧ Vals xs its.toList
noncomputable def absV : Value → Option V
  | .none => some .non
  | .bool b => some (.bl b)
  | .int i _ => some (.int i)
  | .str x _ => some (.str x)
  | .bytes b _ => some (.byt b)
  | .float b _ => some (.flt b)
  | .ref a => some (.ref a)
  | .type n => some (.ty n)
  | _ => none
theorem RelV.abs {x : V} {u : Value} (r : RelV x u) : absV u = some x := by
  cases x with
  | non => cases r; rfl
  | bl _ => cases r; rfl
  | int _ => obtain ⟨t, rfl⟩ := r; rfl
  | str _ => obtain ⟨t, rfl⟩ := r; rfl
  | byt _ => obtain ⟨t, rfl⟩ := r; rfl
  | flt _ => obtain ⟨t, rfl⟩ := r; rfl
  | ref _ => cases r; rfl
  | ty _ => cases r; rfl
theorem RelV.inj {x y : V} {u : Value} (r : RelV x u) (q : RelV y u) : x = y := Option.some.inj (r.abs.symm.trans q.abs)
theorem Vals.inj : ∀ {xs ys : List V} {us : List Value}, Vals xs us → Vals ys us → xs = ys
  | _, _, _, .nil, .nil => rfl
  | _, _, _, .cons r t, .cons r' t' => by rw [r.inj r', Vals.inj t t']
section
variable {X : Cx} {pins : List (Addr × Obj)} {σ : St} {H : Hp} {s : Shared} {a : Addr} {xs ys : List V}
theorem SqL.of {K : PySem.W.Frag} (h : H a = some (.lst xs)) : SqL K H a xs := .inl (.inl h)
theorem SqT.of {K : PySem.W.Frag} (h : H a = some (.tup xs)) : SqT K H a xs := .inl (.inl h)
theorem Inv.list (I : Inv X pins σ H s) (h : SqL X.K H a xs) : ∃ its : List Value, Vals xs its ∧ PlainL s.heap a its.toArray ∧ xs.length ≤ sizeLine := by
  rcases h with h | ⟨o, its, n, hk, hc, hd, hs, hz, r⟩
  · obtain ⟨z, its, n, r, e⟩ := h.ok I.hok
    exact ⟨its, r, ⟨_, n, e, rfl, rfl, rfl⟩, z⟩
  · refine ⟨its.toList, r, ⟨o, n, I.kIn a o hk, hc, hd, by simpa using hs⟩, ?_⟩
    have e := r.length
    simp only [Array.length_toList] at e
    omega
theorem Inv.tuple (I : Inv X pins σ H s) (h : SqT X.K H a xs) : ∃ its : List Value, Vals xs its ∧ IsTup s.heap a its.toArray ∧ xs.length ≤ sizeLine := by
  rcases h with h | ⟨o, its, n, hk, hc, hs, hz, r⟩
  · obtain ⟨z, its, r, p⟩ := h.ok I.hok
    exact ⟨its, r, p, z⟩
  · refine ⟨its.toList, r, ⟨o, I.kIn a o hk, hc, n, by simpa using hs⟩, ?_⟩
    have e := r.length
    simp only [Array.length_toList] at e
    omega
theorem Inv.list_inj (I : Inv X pins σ H s) (h : SqL X.K H a xs) (h' : SqL X.K H a ys) : xs = ys := by
  obtain ⟨its, r, ⟨o, n, e, _, _, d⟩, _⟩ := I.list h
  obtain ⟨its', r', ⟨o', n', e', _, _, d'⟩, _⟩ := I.list h'
  rw [e] at e'; cases e'
  rw [d] at d'
  injection d' with d1 _
  have : its = its' := by simpa using congrArg Array.toList d1
  subst this
  exact r.inj r'
theorem Inv.tuple_inj (I : Inv X pins σ H s) (h : SqT X.K H a xs) (h' : SqT X.K H a ys) : xs = ys := by
  obtain ⟨its, r, ⟨o, e, _, n, d⟩, _⟩ := I.tuple h
  obtain ⟨its', r', ⟨o', e', _, n', d'⟩, _⟩ := I.tuple h'
  rw [e] at e'; cases e'
  rw [d] at d'
  injection d' with d1 _
  have : its = its' := by simpa using congrArg Array.toList d1
  subst this
  exact r.inj r'
end
noncomputable abbrev Cx.wish (X : Cx) (E : Value → Shared → Prop) : Cx := { X with xe := E }
noncomputable abbrev Cx.nox (X : Cx) : Cx := X.wish fun _ _ => False
theorem Cx.Ok.wish {X : Cx} (ok : X.Ok) (E : Value → Shared → Prop) : (X.wish E).Ok :=
  ⟨ok.mod, ok.kind, ok.glob, ok.blt, ok.above, ok.inj, ok.has, ok.cab, ok.hd, ok.frames, ok.stk, ok.exf, ok.bs, ok.bsz, ok.noex, ok.exfs, ok.funs, ok.frf⟩
theorem Cx.Ok.unwish {X : Cx} {E : Value → Shared → Prop} (ok : (X.wish E).Ok) : X.Ok :=
  ⟨ok.mod, ok.kind, ok.glob, ok.blt, ok.above, ok.inj, ok.has, ok.cab, ok.hd, ok.frames, ok.stk, ok.exf, ok.bs, ok.bsz, ok.noex, ok.exfs, ok.funs, ok.frf⟩
section
variable {X : Cx} {pins : List (Addr × Obj)} {σ : St} {H : Hp} {s : Shared} {E : Value → Shared → Prop}
theorem Inv.wish (I : Inv X pins σ H s) (E : Value → Shared → Prop) : Inv (X.wish E) pins σ H s := ⟨I.ok.wish E, I.os, I.bare, I.base, I.loc, I.cell, I.free, I.freeC, I.pin, I.hok, I.len⟩
theorem Inv.unwish (I : Inv (X.wish E) pins σ H s) : Inv X pins σ H s := ⟨I.ok.unwish, I.os, I.bare, I.base, I.loc, I.cell, I.free, I.freeC, I.pin, I.hok, I.len⟩
theorem SP.unwish {D : Ends} {f : Flow} {s' : Shared} (h : SP (X.wish E) pins D f s') : SP X pins D f s' := by
  cases f with
  | next => obtain ⟨σ', H', I, q⟩ := h; exact ⟨σ', H', I.unwish, q⟩
  | brk => obtain ⟨σ', H', I, q⟩ := h; exact ⟨σ', H', I.unwish, q⟩
  | cont => obtain ⟨σ', H', I, q⟩ := h; exact ⟨σ', H', I.unwish, q⟩
  | ret u => obtain ⟨v, σ', H', I, r, q⟩ := h; exact ⟨v, σ', H', I.unwish, r, q⟩
theorem PSs.nox {st : List Stmt} {t : TS} (h : PSs X.nox st t) : PSs X st t := fun pins s σ H D I hw =>
  wpAny_mono (h pins s σ H D (I.wish _) hw) (fun _ _ q => q.unwish) fun _ _ z => False.elim z
end
section
variable {X : Cx} {st : Stmt} {rest : List Stmt} {t u : TS} {e : Expr} {te : TE} {pos : Pos}
noncomputable def tNext : TS := fun D σ H => D.nx σ H
noncomputable def tSeq (t u : TS) : TS := fun D σ H => t { D with nx := u D } σ H
theorem pss_nil : PSs X [] tNext := fun _ _ σ H _ I h => wpAny_execs_nil ⟨σ, H, I, h⟩
theorem pss_cons (h1 : PS X st t) (h2 : PSs X rest u) : PSs X (st :: rest) (tSeq t u) := by
  intro pins s σ H D I h
  refine wpAny_execs_cons (thn (h1 pins s σ H { D with nx := u D } I h) fun f s1 q => ?_)
  cases f with
  | next =>
    obtain ⟨σ', H', I', q⟩ := q
    exact h2 pins s1 σ' H' D I' q
  | ret v => exact q
  | brk => exact q
  | cont => exact q
theorem pss_one (h1 : PS X st t) : PSs X [st] t := by
  intro pins s σ H D I h
  refine wpAny_execs_cons (thn (h1 pins s σ H D I h) fun f s1 q => ?_)
  cases f with
  | next => exact wpAny_execs_nil q
  | ret v => exact q
  | brk => exact q
  | cont => exact q
theorem Inv.quiet {pins : List (Addr × Obj)} {σ : St} {H : Hp} {s : Shared} (I : Inv X pins σ H s) : interactive X.env = false := by simp [interactive, I.ok.kind]
noncomputable def tDrop (te : TE) : TS := fun D σ H => te σ H fun _ H1 => D.nx σ H1
theorem ps_expr (he : PE X e te) (hs : swapsWith e none pos.line X.env = pure false := by rfl) : PS X (.Expr e pos) (tDrop te) := by
  intro pins s σ H D I h
  exact wpAny_Expr_any (thn (he pins s σ H _ I h) fun v s1 ⟨x, H1, I1, r1, q1⟩ => ⟨σ, H1, I1, q1⟩) I.quiet hs
noncomputable def tRet (te : TE) : TS := fun D σ H => te σ H D.rt
theorem ps_ret (he : PE X e te) : PS X (.Return (some e) pos) (tRet te) := by
  intro pins s σ H D I h
  exact wpAny_Return_some (thn (he pins s σ H _ I h) fun v s1 ⟨x, H1, I1, r1, q1⟩ => ⟨x, σ, H1, I1, r1, q1⟩)
noncomputable def tIfS (c : TT) (t u : TS) : TS := fun D σ H => c σ H fun b H1 => if b = true then t D σ H1 else u D σ H1
theorem ps_if {c : Expr} {a b : List Stmt} {tc : TT} (hc : PT X c tc) (ha : PSs X a t) (hb : PSs X b u) : PS X (.If c a b pos) (tIfS tc t u) := by
  intro pins s σ H D I h
  refine wpAny_If (thn (hc pins s σ H _ I h) fun d s1 ⟨H1, I1, q1⟩ => ?_)
  cases d with
  | true => exact ha pins s1 σ H1 D I1 q1
  | false => exact hb pins s1 σ H1 D I1 q1
noncomputable def tNever : TS := fun _ _ _ => False
theorem pss_never {sts : List Stmt} : PSs X sts tNever := fun _ _ _ _ _ _ h => h.elim
end
noncomputable abbrev TG := V → St → Hp → (St → Hp → Prop) → Prop
noncomputable abbrev TGs := List V → St → Hp → (St → Hp → Prop) → Prop
noncomputable def PG (X : Cx) (target : Expr) (t : TG) : Prop :=
  ∀ (pins : List (Addr × Obj)) (s : Shared) (σ : St) (H : Hp) (v : V) (u : Value) (Q : St → Hp → Prop), Inv X pins σ H s → RelV v u → t v σ H Q →
    wpAny (model X.prog X.w) X.A (assign target X.env u) (fun _ s' => ∃ σ' H', Inv X pins σ' H' s' ∧ Q σ' H') X.xe s
noncomputable def PGs (X : Cx) (ts : List Expr) (t : TGs) : Prop :=
  ∀ (pins : List (Addr × Obj)) (s : Shared) (σ : St) (H : Hp) (vs : List V) (us : List Value) (Q : St → Hp → Prop), Inv X pins σ H s → Vals vs us → t vs σ H Q →
    wpAny (model X.prog X.w) X.A (assignInOrder ((assignEach ts X.env).map (·.2)) us) (fun _ s' => ∃ σ' H', Inv X pins σ' H' s' ∧ Q σ' H') X.xe s
noncomputable abbrev TSet := V → V → V → Hp → (Hp → Prop) → Prop
noncomputable def PSet (X : Cx) (t : TSet) : Prop :=
  ∀ (pins : List (Addr × Obj)) (s : Shared) (σ : St) (H : Hp) (o i v : V) (ov iv u : Value) (Q : Hp → Prop), Inv X pins σ H s → RelV o ov → RelV i iv → RelV v u → t o i v H Q →
    wpAny (model X.prog X.w) X.A (setItem ov iv u) (fun _ s' => ∃ H', Inv X pins σ H' s' ∧ Q H') X.xe s
section
variable {X : Cx} {pos : Pos}
noncomputable def gName (i : Nat) : TG := fun v σ H Q => Q (σ.set i (some v)) H
theorem pg_name {i : Nat} {x : Str} (hN : X.N.Nodup) (hi : X.N[i]? = some x) (hx : Loc X.env.scope x) (hf : X.fn x = true ∨ X.env.scope.names.lookup x = some .local := by first | exact .inl rfl | exact .inr rfl | assumption) : PG X (.Name x pos) (gName i) := by
  intro pins s σ H v u Q I r h
  exact wpAny_assign_Name (store_ok I hN hi hx r (fun s' I' => ⟨_, H, I', h⟩) hf)
noncomputable def gNil : TGs := fun vs σ H Q => vs = [] ∧ Q σ H
noncomputable def gCons (t : TG) (u : TGs) : TGs := fun vs σ H Q => ∃ v r, vs = v :: r ∧ t v σ H fun σ' H' => u r σ' H' Q
theorem pgs_nil : PGs X [] gNil := by
  intro pins s σ H vs us Q I r h
  obtain ⟨e, h⟩ := h
  subst e
  cases r
  exact assignInOrder_nil ⟨σ, H, I, h⟩
theorem pgs_cons {e : Expr} {es : List Expr} {t : TG} {u : TGs} (h1 : PG X e t) (h2 : PGs X es u)
    (hs : (assignEach (e :: es) X.env).map (·.2) = assign e X.env :: (assignEach es X.env).map (·.2) := by rfl) : PGs X (e :: es) (gCons t u) := by
  intro pins s σ H vs us Q I r h
  obtain ⟨v, vr, e1, h⟩ := h
  subst e1
  cases r with
  | cons r rr =>
    rw [hs]
    refine assignInOrder_cons (thn (h1 pins s σ H _ _ _ I r h) fun _ s1 ⟨σ1, H1, I1, q1⟩ => ?_)
    exact h2 pins s1 σ1 H1 _ _ Q I1 rr q1
noncomputable def gTup (K : PySem.W.Frag) (n : Nat) (t : TGs) : TG := fun v σ H Q => ∃ a xs, v = .ref a ∧ SqT K H a xs ∧ xs.length = n ∧ t xs σ H Q
theorem pg_tup {es : List Expr} {k : Nat} {t : TGs} {n : Nat} (hc : X.calm = true) (h : PGs X es t)
    (hn : (assignEach es X.env).length = n := by rfl) (hst : (assignEach es X.env).findIdx? (·.1) = none := by rfl) : PG X (.Tuple es k pos) (gTup X.K n t) := by
  intro pins s σ H v u Q I r hw
  obtain ⟨a, xs, e1, hq, hl, hw⟩ := hw
  subst e1
  cases r
  obtain ⟨its, rv, ht, hz⟩ := I.tuple hq
  refine assign_Tuple_tuple (I.ok.hd hc) ht (by simp [hn, ← hl, rv.length]) hst fun h' hx => ?_
  have I1 : Inv X pins σ H { s with heap := h' } := I.kept (t' := s.toks) fun b o e => hx b o (Nat.ne_of_lt (Heap.lt_size e)) e
  exact h pins _ σ H xs _ Q I1 (by simpa using rv) hw
noncomputable def gSub (to ti : TE) (t : TSet) : TG := fun v σ H Q => to σ H fun o H1 => ti σ H1 fun i H2 => t o i v H2 fun H3 => Q σ H3
theorem pg_sub {o i : Expr} {to ti : TE} {t : TSet} (ho : PE X o to) (hi : PE X i ti) (hs : PSet X t)
    (ha : ∀ v, assign (.Subscript o i pos) X.env v = (do
      let ov ← holding [v] (eval o X.env)
      let iv ← holding [v, ov] (eval i X.env)
      standAt pos
      holding [v, ov, iv] (setItem ov iv v)
      release [v, ov, iv] []) := by intro _; rfl) : PG X (.Subscript o i pos) (gSub to ti t) := by
  intro pins s σ H v u Q I r h
  rw [ha]
  refine wpAny_bind (wpAny_holding (thn (ho pins s σ H _ I h) fun ov s1 ⟨x, H1, I1, r1, q1⟩ => ?_))
  refine wpAny_bind (wpAny_holding (thn (hi pins s1 σ H1 _ I1 q1) fun iv s2 ⟨y, H2, I2, r2, q2⟩ => ?_))
  refine wpAny_bind (wpAny_standAt (wpAny_bind (wpAny_holding (thn (hs pins s2 σ H2 x y v ov iv u _ I2 r1 r2 r q2) fun _ s3 ⟨H3, I3, q3⟩ => ?_))))
  exact wpAny_release ⟨σ, H3, I3, q3⟩
noncomputable def tAsg (te : TE) (g : TG) : TS := fun D σ H => te σ H fun x H1 => g x σ H1 D.nx
theorem ps_asg {tg e : Expr} {te : TE} {g : TG} (he : PE X e te) (hg : PG X tg g) (hs : swapsWithSole [tg] e pos.line X.env = pure false := by rfl) (hw : swappedStores [tg] e X.env = pure none := by rfl)
    (h1 : (assignEach [tg] X.env).map (·.2) = [assign tg X.env] := by rfl) : PS X (.Assign [tg] e pos) (tAsg te g) := by
  intro pins s σ H D I h
  refine wpAny_Assign_stores (thn (he pins s σ H _ I h) fun v s1 ⟨x, H1, I1, r1, q1⟩ => ?_) hs hw
  rw [h1]
  exact thn (hg pins s1 σ H1 x v _ I1 r1 q1) fun _ s2 q => q
theorem ps_set {i : Nat} {x : Str} {e : Expr} {te : TE} {pos' : Pos} (hN : X.N.Nodup) (hi : X.N[i]? = some x) (hx : Loc X.env.scope x) (he : PE X e te) (hs : swapsWith e (some (.Name x pos')) pos.line X.env = pure false := by rfl) (hf : X.fn x = true ∨ X.env.scope.names.lookup x = some .local := by first | exact .inl rfl | exact .inr rfl | assumption) :
    PS X (.Assign [.Name x pos'] e pos) (tAsg te (gName i)) := by
  intro pins s σ H D I h
  refine wpAny_Assign_Name (thn (he pins s σ H _ I h) fun v s1 ⟨y, H1, I1, r1, q1⟩ => ?_) hs
  exact store_ok I1 hN hi hx r1 (fun s2 I2 => ⟨_, H1, I2, q1⟩) hf
end
section
variable {X : Cx} {pos : Pos}
noncomputable def tWhile (c : TT) (tb : TS) : TS := fun D σ H => ∃ W : Nat → St → Hp → Prop, (∃ m, W m σ H) ∧ ∀ m σ H, W m σ H →
  c σ H fun b H1 => if b = true then ∃ N : St → Hp → Prop, (∀ σ' H', N σ' H' → ∃ m', m' < m ∧ W m' σ' H') ∧ tb { D with nx := N, ct := N, bk := D.nx } σ H1 else D.nx σ H1
theorem ps_while {c : Expr} {body : List Stmt} {tc : TT} {tb : TS} (hp : PassesOwn (model X.prog X.w) X.A X.env X.xe) (hc : PT X c tc) (hb : PSs X body tb) : PS X (.While c body [] pos) (tWhile tc tb) := by
  intro pins s σ H D I h
  obtain ⟨W, ⟨m0, w0⟩, turn⟩ := h
  refine wpAny_While (codeAny_whileLoop (fun n s' => ∃ σ' H', Inv X pins σ' H' s' ∧ W n σ' H') ?_ m0 ⟨σ, H, I, w0⟩)
  rintro n s1 ⟨σ1, H1, I1, w1⟩
  refine wpAny_passesOwn hp (thn (hc pins s1 σ1 H1 _ I1 (turn n σ1 H1 w1)) fun b s2 ⟨H2, I2, q2⟩ => ?_)
  cases b with
  | true =>
    obtain ⟨N, hN, q2⟩ := q2
    rw [if_pos rfl]
    refine wpAny_passesOwn hp (thn (hb pins s2 σ1 H2 _ I2 q2) fun f s3 q3 => ?_)
    cases f with
    | next =>
      obtain ⟨σ3, H3, I3, n3⟩ := q3
      obtain ⟨m', hm, w3⟩ := hN σ3 H3 n3
      exact ⟨m', hm, σ3, H3, I3, w3⟩
    | cont =>
      obtain ⟨σ3, H3, I3, n3⟩ := q3
      obtain ⟨m', hm, w3⟩ := hN σ3 H3 n3
      exact ⟨m', hm, σ3, H3, I3, w3⟩
    | brk => exact q3
    | ret v => exact q3
  | false =>
    rw [if_neg Bool.false_ne_true]
    exact wpAny_execs_nil ⟨σ1, H2, I2, q2⟩
end
structure It where
  go : Nat → Hp → Prop
  yld : Nat → Hp → V → Hp → Prop
  stop : Nat → Hp → Prop
noncomputable def FpOk (X : Cx) (pins : List (Addr × Obj)) (H : Hp) (b : Addr) : Prop :=
  H b = none ∧ b ≠ X.env.locals ∧ b ∉ X.fs ∧ (b ∈ X.ex ∨ X.s₀.heap.objs.size ≤ b) ∧ (∀ x c, X.env.cells.lookup x = some c → c ≠ b) ∧ ∀ p ∈ X.pn ++ pins, p.1 ≠ b
theorem Inv.fpOk {X : Cx} {pins : List (Addr × Obj)} {σ : St} {H H' : Hp} {s : Shared} {b : Addr} (I : Inv X pins σ H s) (hb : s.heap.objs.size ≤ b) (hn : H' b = none) : FpOk X pins H' b := by
  refine ⟨hn, Nat.ne_of_gt (Nat.lt_of_lt_of_le I.lt hb), I.nofs hb, .inr (Nat.le_trans I.sz hb), fun x c e z => ?_, fun p hp z => ?_⟩
  · obtain ⟨v, q⟩ := I.cell x c e
    exact absurd (Nat.lt_of_lt_of_le q.lt (by rw [z]; exact hb)) (Nat.lt_irrefl _)
  · exact absurd (Nat.lt_of_lt_of_le (Heap.lt_size (I.pin p hp).1) (by rw [z]; exact hb)) (Nat.lt_irrefl _)
structure Turn (P : Program) (w : World) (K : PySem.W.Frag) (tg : Expr) (J : It) (fp : List Addr) (it : Addr) (tn : Nat → Heap → Prop) : Prop where
  mem : it ∈ fp
  obj : ∀ i h, tn i h → ∀ b ∈ fp, ∃ o, h.get? b = some o ∧ ∀ v, o.data ≠ .cell v
  keep : ∀ i h h', tn i h → (∀ b ∈ fp, ∀ o, h.get? b = some o → h'.get? b = some o) → tn i h'
  item : ∀ (X : Cx), X.prog = P → X.w = w → X.K = K → X.calm = true → ∀ (i : Nat) (pins : List (Addr × Obj)) (s : Shared) (σ : St) (H : Hp) (E : Value → Shared → Prop), Inv X pins σ H s → (∀ b ∈ fp, FpOk X pins H b) → tn i s.heap → J.go i H →
    wpAny (model P w) X.A (pyNext (.ref it)) (fun r s1 => ∃ u, r = some u ∧
      wpAny (model P w) X.A (letOwnedTupleGo tg (.ref it) u) (fun _ s2 => ∃ x H', Inv X pins σ H' s2 ∧ RelV x u ∧ J.yld i H x H' ∧ tn (i + 1) s2.heap ∧ ∀ b ∈ fp, H' b = none) E s1) E s
  done : ∀ (X : Cx), X.prog = P → X.w = w → X.K = K → X.calm = true → ∀ (i : Nat) (pins : List (Addr × Obj)) (s : Shared) (σ : St) (H : Hp) (E : Value → Shared → Prop), Inv X pins σ H s → (∀ b ∈ fp, FpOk X pins H b) → tn i s.heap → J.stop i H →
    wpAny (model P w) X.A (pyNext (.ref it)) (fun r s1 => r = none ∧ Inv X pins σ H s1) E s
  self : ∀ (A : Around) (i : Nat) (s : Shared) (Q : Value → Shared → Prop) (E : Value → Shared → Prop), tn i s.heap → Q (.ref it) s → wpAny (model P w) A (pyIter (.ref it)) Q E s
noncomputable abbrev TI := St → Hp → (It → Hp → Prop) → Prop
noncomputable def PIE (X : Cx) (pins : List (Addr × Obj)) (σ : St) (tg : Expr) (R : It → Hp → Prop) (itv : Value) (s2 : Shared) : Prop :=
  ∃ (it : Addr) (fp : List Addr) (tn : Nat → Heap → Prop) (J : It) (H' : Hp), itv = .ref it ∧ Inv X pins σ H' s2 ∧ Turn X.prog X.w X.K tg J fp it tn ∧ tn 0 s2.heap ∧ (∀ b ∈ fp, FpOk X pins H' b) ∧ R J H'
noncomputable def PI (X : Cx) (tg iter : Expr) (wi : TI) : Prop :=
  ∀ (pins : List (Addr × Obj)) (s : Shared) (σ : St) (H : Hp) (R : It → Hp → Prop), Inv X pins σ H s → wi σ H R →
    wpAny (model X.prog X.w) X.A (eval iter X.env) (fun v s1 => wpAny (model X.prog X.w) X.A (pyIter v) (PIE X pins σ tg R) X.xe s1) X.xe s
theorem go_of {M : Model} {A : Around} {E : Value → Shared → Prop} {s : Shared} {tg : Expr} {it : Addr} {u : Value} {o : Obj} {n : String} {vs : Array Value} {Q : Unit → Shared → Prop} (ho : s.heap.get? it = some o) (hc : o.cls = .type n) (hd : o.data = .fields vs)
    (hn : ["enumerate", "zip", "dict_itemiterator", "dict_reverseitemiterator", "odict_iterator", "itertools.zip_longest", "itertools.pairwise"].contains n = false) (hQ : Q () s) : wpAny M A (letOwnedTupleGo tg (.ref it) u) Q E s := by
  unfold letOwnedTupleGo
  cases tg <;> first
    | exact wpAny_pure hQ
    | (cases u <;> first
        | exact wpAny_pure hQ
        | (refine wpAny_bind (wpAny_load ho ?_)
           rw [hc, hd]
           show wpAny M A (if (["enumerate", "zip", "dict_itemiterator", "dict_reverseitemiterator", "odict_iterator", "itertools.zip_longest", "itertools.pairwise"].contains n && vs[0]? == some (rawInt _)) = true then _ else _) Q E s
           rw [if_neg (by intro h; rw [hn, Bool.false_and] at h; cases h)]
           exact wpAny_pure hQ))
noncomputable def Itl (K : PySem.W.Frag) (a : Addr) : It :=
  ⟨fun i H => ∃ xs x, SqL K H a xs ∧ xs[i]? = some x, fun i H x H' => H' = H ∧ ∀ xs, SqL K H a xs → xs[i]? = some x, fun i H => ∃ xs, SqL K H a xs ∧ xs.length ≤ i⟩
noncomputable def Itt (K : PySem.W.Frag) (a : Addr) : It :=
  ⟨fun i H => ∃ xs x, SqT K H a xs ∧ xs[i]? = some x, fun i H x H' => H' = H ∧ ∀ xs, SqT K H a xs → xs[i]? = some x, fun i H => ∃ xs, SqT K H a xs ∧ xs.length ≤ i⟩
noncomputable def Itr (lo : Int) (n : Nat) : It := ⟨fun i _ => i < n, fun i H x H' => H' = H ∧ x = .int (lo + i), fun i _ => n ≤ i⟩
theorem turn_list {P : Program} {w : World} {K : PySem.W.Frag} {tg : Expr} (a it : Addr) : Turn P w K tg (Itl K a) [it] it (fun i h => h.IsListIter it a i) where
  mem := by simp
  obj := fun i h st b hb => by
    have e : b = it := by simpa using hb
    subst e
    obtain ⟨o, e, c, d⟩ := st
    exact ⟨o, e, fun v z => by rw [d] at z; cases z⟩
  keep := fun i h h' st k => st.at fun o e => k it (by simp) o e
  item := by
    intro X hP hw hK hc i pins s σ H E I hf st hg
    subst hP hw hK
    obtain ⟨xs, x, hq, hx⟩ := hg
    obtain ⟨its, rv, p, hz⟩ := I.list hq
    obtain ⟨u, hu, ru⟩ := rv.get hx
    obtain ⟨f0, f1, f2, f3, f4, f5⟩ := hf it (by simp)
    refine wpAny_pyNext_list_item st p.isList (x := u) (by simpa using hu) fun h' st' sb => ?_
    have I1 : Inv X pins σ H { s with heap := h' } := I.turned (t' := s.toks) (fun b o hb e => (sb.2 b hb).trans e) f0 f1 f3 f4 f5
    obtain ⟨o, e, c, d⟩ := id st'
    exact ⟨u, rfl, go_of (s := { s with heap := h' }) e c d (by decide) ⟨x, H, I1, ru, ⟨rfl, fun ys hy => by rw [I.list_inj hy hq]; exact hx⟩, st', fun b hb => (hf b hb).1⟩⟩
  done := by
    intro X hP hw hK hc i pins s σ H E I hf st hg
    subst hP hw hK
    obtain ⟨xs, hq, hx⟩ := hg
    obtain ⟨its, rv, p, hz⟩ := I.list hq
    obtain ⟨f0, f1, f2, f3, f4, f5⟩ := hf it (by simp)
    have hl := rv.length
    exact wpAny_pyNext_list_end (I.ok.hd hc) st p.isList (by simp; omega) fun h' eb => ⟨rfl, I.turned (t' := s.toks) (fun b o hb e => eb b o hb e) f0 f1 f3 f4 f5⟩
  self := fun _ _ _ _ _ st h => wpAny_pyIter_listiter st h
theorem turn_tuple {P : Program} {w : World} {K : PySem.W.Frag} {tg : Expr} (a it : Addr) : Turn P w K tg (Itt K a) [it] it (fun i h => h.IsTupleIter it a i) where
  mem := by simp
  obj := fun i h st b hb => by
    have e : b = it := by simpa using hb
    subst e
    obtain ⟨o, e, c, d⟩ := st
    exact ⟨o, e, fun v z => by rw [d] at z; cases z⟩
  keep := fun i h h' st k => st.at fun o e => k it (by simp) o e
  item := by
    intro X hP hw hK hc i pins s σ H E I hf st hg
    subst hP hw hK
    obtain ⟨xs, x, hq, hx⟩ := hg
    obtain ⟨its, rv, p, hz⟩ := I.tuple hq
    obtain ⟨u, hu, ru⟩ := rv.get hx
    obtain ⟨f0, f1, f2, f3, f4, f5⟩ := hf it (by simp)
    refine wpAny_pyNext_tuple_item st (show s.heap.IsTuple a its.toArray from p) (x := u) (by simpa using hu) fun h' st' sb => ?_
    have I1 : Inv X pins σ H { s with heap := h' } := I.turned (t' := s.toks) (fun b o hb e => (sb.2 b hb).trans e) f0 f1 f3 f4 f5
    obtain ⟨o, e, c, d⟩ := id st'
    exact ⟨u, rfl, go_of (s := { s with heap := h' }) e c d (by decide) ⟨x, H, I1, ru, ⟨rfl, fun ys hy => by rw [I.tuple_inj hy hq]; exact hx⟩, st', fun b hb => (hf b hb).1⟩⟩
  done := by
    intro X hP hw hK hc i pins s σ H E I hf st hg
    subst hP hw hK
    obtain ⟨xs, hq, hx⟩ := hg
    obtain ⟨its, rv, p, hz⟩ := I.tuple hq
    obtain ⟨f0, f1, f2, f3, f4, f5⟩ := hf it (by simp)
    have hl := rv.length
    exact wpAny_pyNext_tuple_end (I.ok.hd hc) st (show s.heap.IsTuple a its.toArray from p) (by simp; omega) fun h' eb => ⟨rfl, I.turned (t' := s.toks) (fun b o hb e => eb b o hb e) f0 f1 f3 f4 f5⟩
  self := fun _ _ _ _ _ st h => wpAny_pyIter_tupleiter st h
theorem turn_range {P : Program} {w : World} {K : PySem.W.Frag} {tg : Expr} (it : Addr) (lo : Int) (n : Nat) : Turn P w K tg (Itr lo n) [it] it (fun i h => IsRangeIter h it (lo + (i : Nat) * 1) ((n : Int) - (i : Nat)) 1) where
  mem := by simp
  obj := fun i h st b hb => by
    have e : b = it := by simpa using hb
    subst e
    exact ⟨_, st, fun v z => by
      have z' : Data.fields _ = Data.cell v := z
      cases z'⟩
  keep := fun i h h' st k => k it (by simp) _ st
  item := by
    intro X hP hw hK hc i pins s σ H E I hf st hg
    subst hP hw hK
    obtain ⟨f0, f1, f2, f3, f4, f5⟩ := hf it (by simp)
    have W := Walks.range (prog := X.prog) (w := X.w) (I.ok.hd hc) it lo 1 n
    refine W.item i s _ _ hg st fun v h' tk hv st' kk => ?_
    obtain ⟨t, rfl⟩ := hv
    have I1 : Inv X pins σ H { s with heap := h', toks := tk } := I.turned (fun b o hb e => kk b o (by simpa using hb) e) f0 f1 f3 f4 f5
    refine ⟨_, rfl, go_of (s := { s with heap := h', toks := tk }) (n := "range_iterator") st' rfl rfl (by decide) ⟨.int (lo + i), H, I1, ⟨t, ?_⟩, ⟨rfl, rfl⟩, st', fun b hb => (hf b hb).1⟩⟩
    rw [Int.mul_one]
  done := by
    intro X hP hw hK hc i pins s σ H E I hf st hg
    subst hP hw hK
    obtain ⟨f0, f1, f2, f3, f4, f5⟩ := hf it (by simp)
    exact wpAny_pyNext_range_end (I.ok.hd hc) st (by have : n ≤ i := hg; omega) fun h' eb => ⟨rfl, I.turned (t' := s.toks) (fun b o hb e => eb b o hb e) f0 f1 f3 f4 f5⟩
  self := fun _ _ _ _ _ st h => wpAny_pyIter_rangeiter st h
end L2
namespace L2
open PySem PySem.Spec PyProof.Rows
section
variable {X : Cx} {tg : Expr}
noncomputable def iList (K : PySem.W.Frag) (tl : TE) : TI := fun σ H R => tl σ H fun x H1 => ∃ a, x = .ref a ∧ (∃ xs, SqL K H1 a xs) ∧ R (Itl K a) H1
noncomputable def iTup (K : PySem.W.Frag) (tl : TE) : TI := fun σ H R => tl σ H fun x H1 => ∃ a, x = .ref a ∧ (∃ xs, SqT K H1 a xs) ∧ R (Itt K a) H1
theorem pi_list {l : Expr} {tl : TE} (hl : PE X l tl) : PI X tg l (iList X.K tl) := by
  intro pins s σ H R I h
  refine thn (hl pins s σ H _ I h) fun v s1 ⟨x, H1, I1, r1, q1⟩ => ?_
  obtain ⟨a, e, ⟨xs, hq⟩, q⟩ := q1
  subst e
  cases r1
  obtain ⟨its, rv, p, hz⟩ := I1.list hq
  refine wpAny_pyIter_list p.isList ?_
  refine ⟨s1.heap.objs.size, [s1.heap.objs.size], _, _, H1, rfl, I1.kept (t' := s1.toks) fun b o e => Heap.get?_push_of_some _ e, turn_list a _, ⟨_, Heap.get?_push_size _ rfl, rfl, rfl⟩, fun b hb => ?_, q⟩
  have e : b = s1.heap.objs.size := by simpa using hb
  subst e
  exact I1.fpOk (Nat.le_refl _) (I1.hok.fresh (Nat.le_refl _))
theorem pi_tup {l : Expr} {tl : TE} (hl : PE X l tl) : PI X tg l (iTup X.K tl) := by
  intro pins s σ H R I h
  refine thn (hl pins s σ H _ I h) fun v s1 ⟨x, H1, I1, r1, q1⟩ => ?_
  obtain ⟨a, e, ⟨xs, hq⟩, q⟩ := q1
  subst e
  cases r1
  obtain ⟨its, rv, p, hz⟩ := I1.tuple hq
  refine wpAny_pyIter_tuple (show s1.heap.IsTuple a its.toArray from p) ?_
  refine ⟨s1.heap.objs.size, [s1.heap.objs.size], _, _, H1, rfl, I1.kept (t' := s1.toks) fun b o e => Heap.get?_push_of_some _ e, turn_tuple a _, ⟨_, Heap.get?_push_size _ rfl, rfl, rfl⟩, fun b hb => ?_, q⟩
  have e : b = s1.heap.objs.size := by simpa using hb
  subst e
  exact I1.fpOk (Nat.le_refl _) (I1.hok.fresh (Nat.le_refl _))
theorem range_it {pins : List (Addr × Obj)} {σ : St} {H : Hp} {s : Shared} {R : It → Hp → Prop} {E : Value → Shared → Prop} {lo hi : Int} {t u v : Tok} {tk : Nat} (I : Inv X pins σ H s) (h1 : -(2 ^ 62) ≤ lo) (h2 : lo < 2 ^ 62) (h3 : -(2 ^ 62) ≤ hi) (h4 : hi < 2 ^ 62)
    (q : R (Itr lo (hi - lo).toNat) H) : wpAny (model X.prog X.w) X.A (pyIter (.ref s.heap.objs.size)) (PIE X pins σ tg R) E { s with heap := s.heap.push { cls := .type "range", data := .fields #[.int lo t, .int hi u, .int 1 v] }, toks := tk } := by
  refine wpAny_pyIter_range (IsRange.new ..) (small_one h1 h2 h3 h4) ?_
  have I1 : Inv X pins σ H { s with heap := s.heap.push { cls := .type "range", data := .fields #[.int lo t, .int hi u, .int 1 v] }, toks := tk } := I.kept fun b o e => Heap.get?_push_of_some _ e
  refine ⟨(s.heap.push { cls := .type "range", data := .fields #[.int lo t, .int hi u, .int 1 v] }).objs.size, [(s.heap.push { cls := .type "range", data := .fields #[.int lo t, .int hi u, .int 1 v] }).objs.size], _, _, H, rfl,
    I1.kept (t' := tk) fun b o e => Heap.get?_push_of_some _ e, turn_range _ lo (hi - lo).toNat, ?_, fun b hb => ?_, q⟩
  · have e1 : lo + ((0 : Nat) : Int) * 1 = lo := by simp
    have e2 : (((hi - lo).toNat : Nat) : Int) - ((0 : Nat) : Int) = Builtin.Range.rangeSize lo hi 1 := by rw [rangeSize_one]; split <;> omega
    show IsRangeIter _ _ (lo + ((0 : Nat) : Int) * 1) ((((hi - lo).toNat : Nat) : Int) - ((0 : Nat) : Int)) 1
    rw [e1, e2]
    exact Heap.get?_push_size _ rfl
  · have e : b = (s.heap.push { cls := .type "range", data := .fields #[.int lo t, .int hi u, .int 1 v] }).objs.size := by simpa using hb
    subst e
    exact I1.fpOk (Nat.le_refl _) (I1.hok.fresh (Nat.le_refl _))
noncomputable def iRng1 (ta : TA) : TI := fun σ H R => ta σ H fun vs H1 => ∃ j : Int, vs = [.int j] ∧ -(2 ^ 62) ≤ j ∧ j < 2 ^ 62 ∧ R (Itr 0 j.toNat) H1
theorem pi_range1 {a : Expr} {ta : TA} {p pos : Pos} (hg : Gl X "range") (hm : X.mg "range" = none) (ha : PA X [a] ta) (hs : starEach [a] X.env = [(false, eval a X.env)] := by rfl) : PI X tg (.Call (.Name "range" p) [a] [] pos) (iRng1 ta) := by
  intro pins s σ H R I h
  refine Call_ (ld_blt I hg hm boot_range (PyProof.Rows.callWith_type1 (thn (ha pos pins s σ H _ I h) fun us s1 ⟨vs, H1, I1, r1, q1⟩ => ?_) hs rfl))
  obtain ⟨j, e, q1, q2, q⟩ := q1
  subst e
  cases r1 with
  | cons r rr =>
    cases rr
    obtain ⟨t, rfl⟩ := r
    exact call_range_1 (range_it I1 (by omega) (by omega) q1 q2 (by simpa using q))
noncomputable def tFor (wi : TI) (g : TG) (tb : TS) : TS := fun D σ H => wi σ H fun J H1 => ∃ W : Nat → Nat → St → Hp → Prop, (∃ m, W 0 m σ H1) ∧ ∀ i m σ H, W i m σ H →
  (J.stop i H ∧ D.nx σ H) ∨ (J.go i H ∧ ∃ N : St → Hp → Prop, (∀ σ' H', N σ' H' → ∃ m', m' < m ∧ W (i + 1) m' σ' H') ∧ ∀ x H', J.yld i H x H' → g x σ H' fun σ2 H2 => tb { D with nx := N, ct := N, bk := D.nx } σ2 H2)
noncomputable def pinsAt (fp : List Addr) (h : Heap) : List (Addr × Obj) := fp.filterMap fun b => (h.get? b).map fun o => (b, o)
theorem mem_pinsAt {fp : List Addr} {h : Heap} {b : Addr} {o : Obj} (hb : b ∈ fp) (e : h.get? b = some o) : (b, o) ∈ pinsAt fp h := List.mem_filterMap.mpr ⟨b, hb, by rw [e]; rfl⟩
theorem of_pinsAt {fp : List Addr} {h : Heap} {p : Addr × Obj} (hp : p ∈ pinsAt fp h) : p.1 ∈ fp ∧ h.get? p.1 = some p.2 := by
  obtain ⟨b, hb, e⟩ := List.mem_filterMap.mp hp
  cases q : h.get? b with
  | none => rw [q] at e; cases e
  | some o =>
    rw [q] at e
    have e' : (b, o) = p := Option.some.inj e
    subst e'
    exact ⟨hb, q⟩
theorem Inv.pinned {pins : List (Addr × Obj)} {σ : St} {H : Hp} {s : Shared} {fp : List Addr} (I : Inv X pins σ H s) (hf : ∀ b ∈ fp, FpOk X pins H b) (ho : ∀ b ∈ fp, ∃ o, s.heap.get? b = some o ∧ ∀ v, o.data ≠ .cell v) : Inv X (pins ++ pinsAt fp s.heap) σ H s :=
  I.pins_of fun p hp => (List.mem_append.mp hp).elim (fun z => I.pin p (List.mem_append_right _ z)) fun z => by
    obtain ⟨hb, e⟩ := of_pinsAt z
    obtain ⟨f0, f1, f2, _⟩ := hf p.1 hb
    obtain ⟨o, e', d⟩ := ho p.1 hb
    rw [e] at e'; cases e'
    exact ⟨e, f0, f1, f2, d⟩
theorem Inv.unpinned {pins pl : List (Addr × Obj)} {σ : St} {H : Hp} {s : Shared} (I : Inv X (pins ++ pl) σ H s) : Inv X pins σ H s := I.pins_of fun p hp => I.pin p (List.mem_append_right _ (List.mem_append_left _ hp))
theorem ps_for {iter : Expr} {body : List Stmt} {wi : TI} {g : TG} {tb : TS} {pos : Pos} (hp : PassesOwn (model X.prog X.w) X.A X.env X.xe) (hc : X.calm = true) (hi : PI X tg iter wi) (hg : PG X tg g) (hb : PSs X body tb)
    (hs : ∀ x, foldedSetIterable iter X.env x = pure x := by intro _; rfl) : PS X (.For tg iter body [] pos) (tFor wi g tb) := by
  intro pins s σ H D I h
  refine wpAny_For (thn (hi pins s σ H _ I h) fun v s1 h1 => thn h1 fun itv s2 h2 => ?_) hs
  obtain ⟨it, fp, tn, J, H2, e, I2, T, st2, f2, W, ⟨m0, w0⟩, turn⟩ := h2
  subst e
  have stat : ∀ {H' : Hp}, (∀ b ∈ fp, H' b = none) → ∀ b ∈ fp, FpOk X pins H' b := fun hn b hb => ⟨hn b hb, (f2 b hb).2⟩
  refine codeAny_forLoop_any (fun n s' => ∃ i σ' H', Inv X pins σ' H' s' ∧ tn i s'.heap ∧ (∀ b ∈ fp, H' b = none) ∧ W i n σ' H') ?_ m0 ⟨0, σ, H2, I2, st2, fun b hb => (f2 b hb).1, w0⟩
  rintro n s3 ⟨i, σ3, H3, I3, st3, fr3, w3⟩
  rcases turn i n σ3 H3 w3 with ⟨stop, qn⟩ | ⟨go, N, hN, step⟩
  · refine wpAny_passesOwn hp (thn (T.done X rfl rfl rfl hc i pins s3 σ3 H3 X.xe I3 (stat fr3) st3 stop) fun r s4 ⟨hr, I4⟩ => ?_)
    subst hr
    exact wpAny_execs_nil ⟨σ3, H3, I4, qn⟩
  · refine wpAny_passesOwn hp (thn (T.item X rfl rfl rfl hc i pins s3 σ3 H3 X.xe I3 (stat fr3) st3 go) fun r s4 ⟨u, hr, h4⟩ => ?_)
    subst hr
    refine wpAny_passesOwn hp (thn h4 fun _ s5 ⟨x, H5, I5, r5, y5, st5, fr5⟩ => ?_)
    have I5' := I5.pinned (stat fr5) (T.obj _ _ st5)
    refine wpAny_passesOwn hp (thn (hg _ s5 σ3 H5 x u _ I5' r5 (step x H5 y5)) fun _ s6 ⟨σ6, H6, I6, q6⟩ => ?_)
    refine wpAny_passesOwn hp (thn (hb _ s6 σ6 H6 _ I6 q6) fun f s7 q7 => ?_)
    have again : ∀ {σ7 : St} {H7 : Hp}, Inv X (pins ++ pinsAt fp s5.heap) σ7 H7 s7 → N σ7 H7 → ∃ m, m < n ∧ ∃ i σ' H', Inv X pins σ' H' s7 ∧ tn i s7.heap ∧ (∀ b ∈ fp, H' b = none) ∧ W i m σ' H' := fun {σ7 H7} I7 n7 => by
      obtain ⟨m', hm, w7⟩ := hN σ7 H7 n7
      refine ⟨m', hm, i + 1, σ7, H7, I7.unpinned, T.keep _ _ _ st5 fun b hb o e => (I7.pin (b, o) (List.mem_append_right _ (List.mem_append_right _ (mem_pinsAt hb e)))).1, fun b hb => ?_, w7⟩
      obtain ⟨o, e, d⟩ := T.obj _ _ st5 b hb
      exact (I7.pin (b, o) (List.mem_append_right _ (List.mem_append_right _ (mem_pinsAt hb e)))).2.1
    cases f with
    | next => obtain ⟨σ7, H7, I7, n7⟩ := q7; exact again I7 n7
    | cont => obtain ⟨σ7, H7, I7, n7⟩ := q7; exact again I7 n7
    | brk => obtain ⟨σ7, H7, I7, q7⟩ := q7; exact ⟨σ7, H7, I7.unpinned, q7⟩
    | ret v => obtain ⟨x7, σ7, H7, I7, r7, q7⟩ := q7; exact ⟨x7, σ7, H7, I7.unpinned, r7, q7⟩
end
theorem for_list {K : PySem.W.Frag} {a : Addr} {xs : List V} {g : TG} {tb : TS} {D : Ends} {σ : St} {H : Hp} (Pv : Nat → St → Hp → Prop) (h0 : Pv 0 σ H) (hl : ∀ i σ H, i ≤ xs.length → Pv i σ H → SqL K H a xs)
    (hs : ∀ i x σ H, xs[i]? = some x → Pv i σ H → g x σ H fun σ2 H2 => tb { D with nx := Pv (i + 1), ct := Pv (i + 1), bk := D.nx } σ2 H2) (hd : ∀ σ H, Pv xs.length σ H → D.nx σ H) :
    ∃ W : Nat → Nat → St → Hp → Prop, (∃ m, W 0 m σ H) ∧ ∀ i m σ H, W i m σ H →
      ((Itl K a).stop i H ∧ D.nx σ H) ∨ ((Itl K a).go i H ∧ ∃ N : St → Hp → Prop, (∀ σ' H', N σ' H' → ∃ m', m' < m ∧ W (i + 1) m' σ' H') ∧ ∀ x H', (Itl K a).yld i H x H' → g x σ H' fun σ2 H2 => tb { D with nx := N, ct := N, bk := D.nx } σ2 H2) := by
  refine ⟨fun i m σ H => m = xs.length - i ∧ i ≤ xs.length ∧ Pv i σ H, ⟨xs.length, by simp, Nat.zero_le _, h0⟩, ?_⟩
  rintro i m σ H ⟨rfl, hi, p⟩
  have q := hl i σ H hi p
  by_cases hlt : i < xs.length
  · refine .inr ⟨⟨xs, xs[i], q, by simp [hlt]⟩, Pv (i + 1), fun σ' H' p' => ⟨xs.length - (i + 1), by omega, rfl, hlt, p'⟩, fun x H' y => ?_⟩
    obtain ⟨e, y⟩ := y
    subst e
    exact hs i x σ _ (y xs q) p
  · have e : i = xs.length := by omega
    subst e
    exact .inl ⟨⟨xs, q, Nat.le_refl _⟩, hd σ H p⟩
theorem for_tup {K : PySem.W.Frag} {a : Addr} {xs : List V} {g : TG} {tb : TS} {D : Ends} {σ : St} {H : Hp} (Pv : Nat → St → Hp → Prop) (h0 : Pv 0 σ H) (hl : ∀ i σ H, i ≤ xs.length → Pv i σ H → SqT K H a xs)
    (hs : ∀ i x σ H, xs[i]? = some x → Pv i σ H → g x σ H fun σ2 H2 => tb { D with nx := Pv (i + 1), ct := Pv (i + 1), bk := D.nx } σ2 H2) (hd : ∀ σ H, Pv xs.length σ H → D.nx σ H) :
    ∃ W : Nat → Nat → St → Hp → Prop, (∃ m, W 0 m σ H) ∧ ∀ i m σ H, W i m σ H →
      ((Itt K a).stop i H ∧ D.nx σ H) ∨ ((Itt K a).go i H ∧ ∃ N : St → Hp → Prop, (∀ σ' H', N σ' H' → ∃ m', m' < m ∧ W (i + 1) m' σ' H') ∧ ∀ x H', (Itt K a).yld i H x H' → g x σ H' fun σ2 H2 => tb { D with nx := N, ct := N, bk := D.nx } σ2 H2) := by
  refine ⟨fun i m σ H => m = xs.length - i ∧ i ≤ xs.length ∧ Pv i σ H, ⟨xs.length, by simp, Nat.zero_le _, h0⟩, ?_⟩
  rintro i m σ H ⟨rfl, hi, p⟩
  have q := hl i σ H hi p
  by_cases hlt : i < xs.length
  · refine .inr ⟨⟨xs, xs[i], q, by simp [hlt]⟩, Pv (i + 1), fun σ' H' p' => ⟨xs.length - (i + 1), by omega, rfl, hlt, p'⟩, fun x H' y => ?_⟩
    obtain ⟨e, y⟩ := y
    subst e
    exact hs i x σ _ (y xs q) p
  · have e : i = xs.length := by omega
    subst e
    exact .inl ⟨⟨xs, q, Nat.le_refl _⟩, hd σ H p⟩
theorem for_range {lo : Int} {n : Nat} {g : TG} {tb : TS} {D : Ends} {σ : St} {H : Hp} (Pv : Nat → St → Hp → Prop) (h0 : Pv 0 σ H)
    (hs : ∀ i σ H, i < n → Pv i σ H → g (.int (lo + i)) σ H fun σ2 H2 => tb { D with nx := Pv (i + 1), ct := Pv (i + 1), bk := D.nx } σ2 H2) (hd : ∀ σ H, Pv n σ H → D.nx σ H) :
    ∃ W : Nat → Nat → St → Hp → Prop, (∃ m, W 0 m σ H) ∧ ∀ i m σ H, W i m σ H →
      ((Itr lo n).stop i H ∧ D.nx σ H) ∨ ((Itr lo n).go i H ∧ ∃ N : St → Hp → Prop, (∀ σ' H', N σ' H' → ∃ m', m' < m ∧ W (i + 1) m' σ' H') ∧ ∀ x H', (Itr lo n).yld i H x H' → g x σ H' fun σ2 H2 => tb { D with nx := N, ct := N, bk := D.nx } σ2 H2) := by
  refine ⟨fun i m σ H => m = n - i ∧ i ≤ n ∧ Pv i σ H, ⟨n, by simp, Nat.zero_le _, h0⟩, ?_⟩
  rintro i m σ H ⟨rfl, hi, p⟩
  by_cases hlt : i < n
  · refine .inr ⟨hlt, Pv (i + 1), fun σ' H' p' => ⟨n - (i + 1), by omega, rfl, hlt, p'⟩, fun x H' y => ?_⟩
    obtain ⟨e, y⟩ := y
    subst e y
    exact hs i σ _ hlt p
  · have e : i = n := by omega
    subst e
    exact .inl ⟨Nat.le_refl _, hd σ H p⟩
theorem while_by {c : TT} {tb : TS} {D : Ends} {σ : St} {H : Hp} (Pv : St → Hp → Prop) (μ : St → Hp → Nat) (h0 : Pv σ H)
    (hs : ∀ σ H, Pv σ H → c σ H fun b H1 => if b = true then tb { D with nx := fun σ' H' => Pv σ' H' ∧ μ σ' H' < μ σ H, ct := fun σ' H' => Pv σ' H' ∧ μ σ' H' < μ σ H, bk := D.nx } σ H1 else D.nx σ H1)
    (mono : ∀ σ H Q Q', (∀ b H1, Q b H1 → Q' b H1) → c σ H Q → c σ H Q') : tWhile c tb D σ H := by
  refine ⟨fun m σ H => m = μ σ H ∧ Pv σ H, ⟨_, rfl, h0⟩, ?_⟩
  rintro m σ H ⟨rfl, p⟩
  refine mono σ H _ _ (fun b H1 q => ?_) (hs σ H p)
  cases b with
  | true => exact ⟨_, fun σ' H' ⟨p', l⟩ => ⟨_, l, rfl, p'⟩, q⟩
  | false => exact q
end L2
namespace L2
open PySem PySem.Spec PyProof.Rows
noncomputable abbrev R2 := V → V → Hp → VK → Prop
noncomputable def OpR (X : Cx) (f : Value → Value → Sem Value) (r : R2) : Prop :=
  ∀ (pins : List (Addr × Obj)) (s : Shared) (σ : St) (H : Hp) (x y : V) (v u : Value) (Q : VK), Inv X pins σ H s → RelV x v → RelV y u → r x y H Q →
    wpAny (model X.prog X.w) X.A (f v u) (EP X pins σ Q) X.xe s
noncomputable def UnR (X : Cx) (f : Value → Sem Value) (r : V → Hp → VK → Prop) : Prop :=
  ∀ (pins : List (Addr × Obj)) (s : Shared) (σ : St) (H : Hp) (x : V) (v : Value) (Q : VK), Inv X pins σ H s → RelV x v → r x H Q →
    wpAny (model X.prog X.w) X.A (f v) (EP X pins σ Q) X.xe s
noncomputable def CallR (X : Cx) (f : Value) (r : List V → Hp → VK → Prop) : Prop :=
  ∀ (pins : List (Addr × Obj)) (s : Shared) (σ : St) (H : Hp) (xs : List V) (us : List Value) (Q : VK), Inv X pins σ H s → Vals xs us → r xs H Q →
    wpAny (model X.prog X.w) X.A (call f us) (EP X pins σ Q) X.xe s
noncomputable def TruR (X : Cx) (r : V → Hp → (Bool → Hp → Prop) → Prop) : Prop :=
  ∀ (pins : List (Addr × Obj)) (s : Shared) (σ : St) (H : Hp) (x : V) (v : Value) (Q : Bool → Hp → Prop), Inv X pins σ H s → RelV x v → r x H Q →
    wpAny (model X.prog X.w) X.A (truthy v) (TP X pins σ Q) X.xe s
noncomputable def tOp (r : R2) (ta tb : TE) : TE := fun σ H Q => ta σ H fun x H1 => tb σ H1 fun y H2 => r x y H2 Q
noncomputable def tUn (r : V → Hp → VK → Prop) (ta : TE) : TE := fun σ H Q => ta σ H fun x H1 => r x H1 Q
noncomputable def rI (C : Int → Int → Prop) (g : Int → Int → V) : R2 := fun x y H Q => ∃ i j, x = .int i ∧ y = .int j ∧ C i j ∧ Q (g i j) H
noncomputable def rI0 (g : Int → Int → V) : R2 := fun x y H Q => ∃ i j, x = .int i ∧ y = .int j ∧ Q (g i j) H
noncomputable def rU (g : Int → V) : V → Hp → VK → Prop := fun x H Q => ∃ i, x = .int i ∧ Q (g i) H
section
variable {X : Cx} {a b c : Expr} {ta tb tc : TE} {pos : Pos}
theorem binT (ha : PE X a ta) (hb : PE X b tb) {pins : List (Addr × Obj)} {s : Shared} {σ : St} {H : Hp} {R : V → V → Hp → Prop} (I : Inv X pins σ H s)
    (h : ta σ H fun x H1 => tb σ H1 fun y H2 => R x y H2) {Q : Value → Shared → Prop} {f : Value → Value → Sem Value}
    (hf : ∀ v u s2 x y H2, Inv X pins σ H2 s2 → RelV x v → RelV y u → R x y H2 → wpAny (model X.prog X.w) X.A (f v u) Q X.xe s2) :
    wpAny (model X.prog X.w) X.A (eval a X.env) (fun v s₁ => wpAny (model X.prog X.w) X.A (eval b X.env) (fun u s₂ => wpAny (model X.prog X.w) X.A (f v u) Q X.xe s₂) X.xe s₁) X.xe s := by
  refine thn (ha pins s σ H _ I h) fun v s1 ⟨x, H1, I1, r1, q1⟩ => ?_
  refine thn (hb pins s1 σ H1 _ I1 q1) fun u s2 ⟨y, H2, I2, r2, q2⟩ => ?_
  exact hf v u s2 x y H2 I2 r1 r2 q2
theorem pe_op {op : Operator} {r : R2} (ho : OpR X (binaryOp op) r) (ha : PE X a ta) (hb : PE X b tb) : PE X (.BinOp a op b pos) (tOp r ta tb) := by
  intro pins s σ H Q I h
  exact wpAny_BinOp (binT ha hb I h fun v u s2 x y H2 I2 rx ry q => ho pins s2 σ H2 x y v u Q I2 rx ry q)
theorem pe_un {op : UnaryOp} {r : V → Hp → VK → Prop} (ho : UnR X (unaryOp op) r) (ha : PE X a ta) : PE X (.UnaryOp op a pos) (tUn r ta) := by
  intro pins s σ H Q I h
  exact UnaryOp_ (thn (ha pins s σ H _ I h) fun v s1 ⟨x, H1, I1, r1, q1⟩ => ho pins s1 σ H1 x v Q I1 r1 q1)
theorem opI {f : Value → Value → Sem Value} {C : Int → Int → Prop} {g : Int → Int → Int}
    (rule : ∀ (i j : Int) (t u : Tok) (s : Shared) (Q : Value → Shared → Prop) (E : Value → Shared → Prop), C i j → Q (.int (g i j) s.toks) { s with toks := s.toks + 1 } → wpAny (model X.prog X.w) X.A (f (.int i t) (.int j u)) Q E s) :
    OpR X f (rI C fun i j => .int (g i j)) := by
  intro pins s σ H x y v u Q I rx ry h
  obtain ⟨i, j, rfl, rfl, hc, q⟩ := h
  obtain ⟨t, rfl⟩ := rx
  obtain ⟨t', rfl⟩ := ry
  exact rule i j t t' s _ _ hc ⟨.int (g i j), H, I.tok _, ⟨_, rfl⟩, q⟩
theorem opI0 {f : Value → Value → Sem Value} {g : Int → Int → Int}
    (rule : ∀ (i j : Int) (t u : Tok) (s : Shared) (Q : Value → Shared → Prop) (E : Value → Shared → Prop), Q (.int (g i j) s.toks) { s with toks := s.toks + 1 } → wpAny (model X.prog X.w) X.A (f (.int i t) (.int j u)) Q E s) :
    OpR X f (rI0 fun i j => .int (g i j)) := by
  intro pins s σ H x y v u Q I rx ry h
  obtain ⟨i, j, rfl, rfl, q⟩ := h
  obtain ⟨t, rfl⟩ := rx
  obtain ⟨t', rfl⟩ := ry
  exact rule i j t t' s _ _ ⟨.int (g i j), H, I.tok _, ⟨_, rfl⟩, q⟩
theorem opB0 {f : Value → Value → Sem Value} {g : Int → Int → Bool}
    (rule : ∀ (i j : Int) (t u : Tok) (s : Shared) (Q : Value → Shared → Prop) (E : Value → Shared → Prop), Q (.bool (g i j)) s → wpAny (model X.prog X.w) X.A (f (.int i t) (.int j u)) Q E s) :
    OpR X f (rI0 fun i j => .bl (g i j)) := by
  intro pins s σ H x y v u Q I rx ry h
  obtain ⟨i, j, rfl, rfl, q⟩ := h
  obtain ⟨t, rfl⟩ := rx
  obtain ⟨t', rfl⟩ := ry
  exact rule i j t t' s _ _ ⟨.bl (g i j), H, I, rfl, q⟩
noncomputable def CDiv (i j : Int) : Prop := 0 < j ∧ j < 1073741824
noncomputable def CMul (i j : Int) : Prop := (-(2 ^ 64) < i ∧ i < 2 ^ 64) ∨ (-(2 ^ 64) < j ∧ j < 2 ^ 64)
theorem CMul.ok {i j : Int} (h : CMul i j) : IntMulOk i j := by
  rcases h with ⟨h1, h2⟩ | ⟨h1, h2⟩
  · exact .of_left (intBits_le_64 h1 h2)
  · exact .of_right (intBits_le_64 h1 h2)
theorem op_add : OpR X (binaryOp .Add) (rI0 fun i j => .int (i + j)) := opI0 fun _ _ _ _ _ _ _ q => add_int q
theorem op_sub : OpR X (binaryOp .Sub) (rI0 fun i j => .int (i - j)) := opI0 fun _ _ _ _ _ _ _ q => sub_int q
theorem op_mul : OpR X (binaryOp .Mult) (rI CMul fun i j => .int (i * j)) := opI fun _ _ _ _ _ _ _ hc q => mul_int q hc.ok
theorem op_fdiv : OpR X (binaryOp .FloorDiv) (rI CDiv fun i j => .int (i / j)) := opI fun i j _ _ _ _ _ hc q => by
  have h1 : (0 : Int) < j := hc.1
  have h2 : j < 1073741824 := hc.2
  exact floordiv_int (by omega) (by rw [Int.fdiv_eq_ediv_of_nonneg i (by omega)]; exact q) (.inl (PyProof.noPylong_small (by omega)))
theorem op_mod : OpR X (binaryOp .Mod) (rI (fun _ j => 0 < j) fun i j => .int (i % j)) := opI fun i j _ _ _ _ _ hc q => by
  have h1 : (0 : Int) < j := hc
  exact mod_int' (by omega) (by rw [Int.fmod_eq_emod_of_nonneg i (by omega)]; exact q)
theorem unI {f : Value → Sem Value} {g : Int → Int}
    (rule : ∀ (i : Int) (t : Tok) (s : Shared) (Q : Value → Shared → Prop) (E : Value → Shared → Prop), Q (.int (g i) s.toks) { s with toks := s.toks + 1 } → wpAny (model X.prog X.w) X.A (f (.int i t)) Q E s) :
    UnR X f (rU fun i => .int (g i)) := by
  intro pins s σ H x v Q I rx h
  obtain ⟨i, rfl, q⟩ := h
  obtain ⟨t, rfl⟩ := rx
  exact rule i t s _ _ ⟨.int (g i), H, I.tok _, ⟨_, rfl⟩, q⟩
theorem un_neg : UnR X (unaryOp .USub) (rU fun i => .int (-i)) := unI fun _ _ _ _ _ q => neg_int q
end
noncomputable def scal : V → V → Bool
  | .non, .non => true | .non, .int _ => true | .int _, .non => true | .non, .bl _ => true | .bl _, .non => true | .non, .str _ => true | .str _, .non => true
  | .int _, .int _ => true | .bl _, .bl _ => true | .str _, .str _ => true | .byt _, .byt _ => true
  | .int _, .str _ => true | .str _, .int _ => true | .bl _, .str _ => true | .str _, .bl _ => true
  | _, _ => false
noncomputable def rEq : R2 := fun x y H Q => scal x y = true ∧ Q (.bl (decide (x = y))) H
noncomputable def rNe : R2 := fun x y H Q => scal x y = true ∧ Q (.bl (!decide (x = y))) H
theorem dec_int {i j : Int} : decide (V.int i = V.int j) = (i == j) := by
  rw [Bool.eq_iff_iff]
  simp
theorem dec_bl {i j : Bool} : decide (V.bl i = V.bl j) = (i == j) := by
  rw [Bool.eq_iff_iff]
  simp
theorem dec_str {i j : Str} : decide (V.str i = V.str j) = (i == j) := by
  rw [Bool.eq_iff_iff]
  simp
theorem dec_byt {i j : Array UInt8} : decide (V.byt i = V.byt j) = (i.toList == j.toList) := by
  rw [Bool.eq_iff_iff]
  cases i
  cases j
  simp
section
variable {X : Cx} {a b c : Expr} {ta tb tc : TE} {pos : Pos}
theorem fin_bl {pins : List (Addr × Obj)} {σ : St} {H : Hp} {s : Shared} {Q : VK} {k k' : Bool} (I : Inv X pins σ H s) (q : Q (.bl k) H) (e : k = k') : EP X pins σ Q (.bool k') s := by
  subst e
  exact ⟨.bl k, H, I, rfl, q⟩
theorem op_eq : OpR X (compareOp .Eq) rEq := by
  intro pins s σ H x y v u Q I rx ry h
  obtain ⟨hs, q⟩ := h
  cases x with
  | non =>
    cases rx
    cases y with
    | non => cases ry; exact PySem.EqNone.eq_none_none (fin_bl I q (by simp))
    | bl j => cases ry; exact PySem.EqNone.eq_none_bool (fin_bl I q (by simp))
    | int j => obtain ⟨t', rfl⟩ := ry; exact PySem.EqNone.eq_none_int (fin_bl I q (by simp))
    | str j => obtain ⟨t', rfl⟩ := ry; exact PySem.EqNone.eq_none_str (fin_bl I q (by simp))
    | _ => exact absurd (show false = true from hs) Bool.false_ne_true
  | bl i =>
    cases rx
    cases y with
    | non => cases ry; exact PySem.EqNone.eq_bool_none (fin_bl I q (by simp))
    | bl j => cases ry; exact eq_bool (fin_bl I q dec_bl)
    | str j => obtain ⟨t', rfl⟩ := ry; exact PySem.EqMixed.eq_bool_str (fin_bl I q (by simp))
    | _ => exact absurd (show false = true from hs) Bool.false_ne_true
  | int i =>
    obtain ⟨t, rfl⟩ := rx
    cases y with
    | non => cases ry; exact PySem.EqNone.eq_int_none (fin_bl I q (by simp))
    | int j => obtain ⟨t', rfl⟩ := ry; exact eq_int (fin_bl I q dec_int)
    | str j => obtain ⟨t', rfl⟩ := ry; exact PySem.EqMixed.eq_int_str (fin_bl I q (by simp))
    | _ => exact absurd (show false = true from hs) Bool.false_ne_true
  | str i =>
    obtain ⟨t, rfl⟩ := rx
    cases y with
    | non => cases ry; exact PySem.EqNone.eq_str_none (fin_bl I q (by simp))
    | bl j => cases ry; exact PySem.EqMixed.eq_str_bool (fin_bl I q (by simp))
    | int j => obtain ⟨t', rfl⟩ := ry; exact PySem.EqMixed.eq_str_int (fin_bl I q (by simp))
    | str j => obtain ⟨t', rfl⟩ := ry; exact eq_str (fin_bl I q dec_str)
    | _ => exact absurd (show false = true from hs) Bool.false_ne_true
  | byt i =>
    obtain ⟨t, rfl⟩ := rx
    cases y with
    | byt j => obtain ⟨t', rfl⟩ := ry; exact PySem.W.eq_bytes (fin_bl I q dec_byt)
    | _ => exact absurd (show false = true from hs) Bool.false_ne_true
  | _ => cases y <;> exact absurd (show false = true from hs) Bool.false_ne_true
theorem op_ne : OpR X (compareOp .NotEq) rNe := by
  intro pins s σ H x y v u Q I rx ry h
  obtain ⟨hs, q⟩ := h
  cases x with
  | non =>
    cases rx
    cases y with
    | non => cases ry; exact PySem.EqNone.ne_none_none (fin_bl I q (by simp))
    | bl j => cases ry; exact PySem.EqNone.ne_none_bool (fin_bl I q (by simp))
    | int j => obtain ⟨t', rfl⟩ := ry; exact PySem.EqNone.ne_none_int (fin_bl I q (by simp))
    | str j => obtain ⟨t', rfl⟩ := ry; exact PySem.EqNone.ne_none_str (fin_bl I q (by simp))
    | _ => exact absurd (show false = true from hs) Bool.false_ne_true
  | bl i =>
    cases rx
    cases y with
    | non => cases ry; exact PySem.EqNone.ne_bool_none (fin_bl I q (by simp))
    | bl j => cases ry; exact ne_bool (fin_bl I q (congrArg not dec_bl))
    | str j => obtain ⟨t', rfl⟩ := ry; exact PySem.EqMixed.ne_bool_str (fin_bl I q (by simp))
    | _ => exact absurd (show false = true from hs) Bool.false_ne_true
  | int i =>
    obtain ⟨t, rfl⟩ := rx
    cases y with
    | non => cases ry; exact PySem.EqNone.ne_int_none (fin_bl I q (by simp))
    | int j => obtain ⟨t', rfl⟩ := ry; exact ne_int (fin_bl I q (congrArg not dec_int))
    | str j => obtain ⟨t', rfl⟩ := ry; exact PySem.EqMixed.ne_int_str (fin_bl I q (by simp))
    | _ => exact absurd (show false = true from hs) Bool.false_ne_true
  | str i =>
    obtain ⟨t, rfl⟩ := rx
    cases y with
    | non => cases ry; exact PySem.EqNone.ne_str_none (fin_bl I q (by simp))
    | bl j => cases ry; exact PySem.EqMixed.ne_str_bool (fin_bl I q (by simp))
    | int j => obtain ⟨t', rfl⟩ := ry; exact PySem.EqMixed.ne_str_int (fin_bl I q (by simp))
    | str j => obtain ⟨t', rfl⟩ := ry; exact ne_str (fin_bl I q (congrArg not dec_str))
    | _ => exact absurd (show false = true from hs) Bool.false_ne_true
  | byt i =>
    obtain ⟨t, rfl⟩ := rx
    cases y with
    | byt j => obtain ⟨t', rfl⟩ := ry; exact PySem.W.ne_bytes (fin_bl I q (congrArg not dec_byt))
    | _ => exact absurd (show false = true from hs) Bool.false_ne_true
  | _ => cases y <;> exact absurd (show false = true from hs) Bool.false_ne_true
theorem op_lt : OpR X (compareOp .Lt) (rI0 fun i j => .bl (decide (i < j))) := opB0 fun _ _ _ _ _ _ _ q => lt_int q
theorem op_gt : OpR X (compareOp .Gt) (rI0 fun i j => .bl (decide (j < i))) := opB0 fun _ _ _ _ _ _ _ q => gt_int q
theorem op_ge : OpR X (compareOp .GtE) (rI0 fun i j => .bl (decide (j ≤ i))) := opB0 fun _ _ _ _ _ _ _ q => ge_int q
theorem op_isN : OpR X (compareOp .Is) (fun x y H Q => y = .non ∧ Q (.bl (decide (x = .non))) H) := by
  intro pins s σ H x y v u Q I rx ry h
  obtain ⟨rfl, q⟩ := h
  cases ry
  refine is_none_gen (fin_bl I q ?_)
  cases x <;> first
    | (cases rx; rfl)
    | (obtain ⟨t, rfl⟩ := rx; rfl)
theorem nomark (b : Expr) {op : CmpOp} (h : op ≠ .In := by decide) (h2 : op ≠ .NotIn := by decide) : behindInMarks op b = false := by
  have e1 : (op == CmpOp.In) = false := by cases op <;> first | rfl | exact absurd rfl h
  have e2 : (op == CmpOp.NotIn) = false := by cases op <;> first | rfl | exact absurd rfl h2
  cases b <;> simp [behindInMarks, e1, e2]
theorem pe_cmpR {op : CmpOp} {r : R2} (ho : OpR X (compareOp op) r) (ha : PE X a ta) (hb : PE X b tb) (hm : behindInMarks op b = false) : PE X (.Compare a [op] [b] pos) (tOp r ta tb) := by
  intro pins s σ H Q I h
  exact wpAny_Compare1 (binT ha hb I h fun v u s2 x y H2 I2 rx ry q => ho pins s2 σ H2 x y v u Q I2 rx ry q) hm
noncomputable def tTest (t : TE) : TT := fun σ H Q => t σ H fun x H' => ∃ k, x = .bl k ∧ Q k H'
theorem pt_cmpR {op : CmpOp} {r : R2} (ho : OpR X (compareOp op) r) (ha : PE X a ta) (hb : PE X b tb) (hm : behindInMarks op b = false) : PT X (.Compare a [op] [b] pos) (tTest (tOp r ta tb)) := by
  intro pins s σ H Q I h
  refine wpAny_isTrue_Compare1 (thn (ha pins s σ H _ I h) fun v s1 ⟨x, H1, I1, r1, q1⟩ => thn (hb pins s1 σ H1 _ I1 q1) fun u s2 ⟨y, H2, I2, r2, q2⟩ =>
    thn (ho pins s2 σ H2 x y v u _ I2 r1 r2 q2) fun c s3 ⟨z, H3, I3, r3, k, e, q3⟩ => ?_) hm
  subst e
  cases r3
  exact wpAny_truthy_bool ⟨H3, I3, q3⟩
noncomputable def TruV (K : PySem.W.Frag) (x : V) (H : Hp) (k : Bool) : Prop :=
  match x with
  | .non => k = false
  | .bl b => k = b
  | .int i => k = (i != 0)
  | .str y => y.length ≤ sizeLine ∧ k = ((y.length : Int) != 0)
  | .byt y => y.size ≤ sizeLine ∧ k = ((y.size : Int) != 0)
  | .ref p => (∃ xs, SqL K H p xs ∧ k = !xs.isEmpty) ∨ (∃ xs, SqT K H p xs ∧ k = !xs.isEmpty) ∨ ∃ kvs, H p = some (.dK kvs) ∧ k = !kvs.isEmpty
  | _ => False
theorem isEmpty_kv {κ : Type} {kvs : List (κ × V)} {vs : List (κ × Value)} (r : KV kvs vs) : (!vs.isEmpty) = !kvs.isEmpty := by
  cases r <;> rfl
theorem isEmpty_of {xs : List V} {its : List Value} (r : Vals xs its) : (!its.toArray.isEmpty) = !xs.isEmpty := by
  cases r <;> simp
theorem line63 : (sizeLine : Nat) < 2 ^ 63 := by rw [sizeLine_eq]; decide
theorem tru_ok : TruR X (fun x H Q => ∃ k, TruV X.K x H k ∧ Q k H) := by
  intro pins s σ H x v Q I rx h
  obtain ⟨k, e, q⟩ := h
  have hl := line63
  have hs : sizeLine = 16777216 := sizeLine_eq
  cases x with
  | non =>
    cases rx
    have e' : k = false := e
    subst e'
    exact truthy_none ⟨H, I, q⟩
  | bl b =>
    cases rx
    have e' : k = b := e
    subst e'
    exact wpAny_truthy_bool ⟨H, I, q⟩
  | int i =>
    obtain ⟨t, rfl⟩ := rx
    have e' : k = (i != 0) := e
    subst e'
    exact PySem.P.truthy_int ⟨H, I, q⟩
  | str y =>
    obtain ⟨t, rfl⟩ := rx
    obtain ⟨hy, e'⟩ : y.length ≤ sizeLine ∧ k = ((y.length : Int) != 0) := e
    subst e'
    exact PySem.P.truthy_str (by omega) ⟨H, I.tok _, q⟩
  | byt y =>
    obtain ⟨t, rfl⟩ := rx
    obtain ⟨hy, e'⟩ : y.size ≤ sizeLine ∧ k = ((y.size : Int) != 0) := e
    subst e'
    exact PySem.W.truthy_bytes (by omega) ⟨H, I.tok _, q⟩
  | ref p =>
    cases rx
    have e' : (∃ xs, SqL X.K H p xs ∧ k = !xs.isEmpty) ∨ (∃ xs, SqT X.K H p xs ∧ k = !xs.isEmpty) ∨ ∃ kvs, H p = some (.dK kvs) ∧ k = !kvs.isEmpty := e
    rcases e' with ⟨xs, hx, e'⟩ | ⟨xs, hx, e'⟩ | ⟨kvs, hx, e'⟩
    · subst e'
      obtain ⟨its, r, pl, hz⟩ := I.list hx
      have hlen := r.length
      exact wpAny_truthy_list pl.isList (by simp only [List.size_toArray]; omega) ⟨H, I.tok _, by rw [isEmpty_of r]; exact q⟩
    · subst e'
      obtain ⟨its, r, pl, hz⟩ := I.tuple hx
      have hlen := r.length
      exact truthy_tuple pl (by simp only [List.size_toArray]; omega) ⟨H, I.tok _, by rw [isEmpty_of r]; exact q⟩
    · subst e'
      obtain ⟨hz, hS, vs, r, m⟩ : kvs.length ≤ sizeLine ∧ (p == sysModules) = false ∧ ∃ vs, KV kvs vs ∧ s.heap.DictOf (mixKind X.prog X.w) p vs := I.hok p _ hx
      have hlen : kvs.length = vs.length := Paired.length r
      exact wpAny_truthy_dict hS m (by omega) ⟨H, I.tok _, by rw [isEmpty_kv r]; exact q⟩
  | _ => exact (show False from e).elim
theorem pt_truth (ha : PE X a ta) (he : ∀ whole, isTrue a X.env whole = (do let v ← whole; standAt a.pos; holding [v] (truthy v))) :
    PT X a (fun σ H Q => ta σ H fun x H' => ∃ k, TruV X.K x H' k ∧ Q k H') := by
  intro pins s σ H Q I h
  exact isTrue_plain (thn (ha pins s σ H _ I h) fun v s1 ⟨x, H1, I1, r1, q1⟩ => tru_ok pins s1 σ H1 x v Q I1 r1 q1) (he _)
theorem op_add_str : OpR X (binaryOp .Add) (fun x y H Q => ∃ i j, x = .str i ∧ y = .str j ∧ i.length + j.length ≤ sizeLine ∧ Q (.str (i ++ j)) H) := by
  intro pins s σ H x y v u Q I rx ry h
  obtain ⟨i, j, rfl, rfl, hz, q⟩ := h
  obtain ⟨t, rfl⟩ := rx
  obtain ⟨t', rfl⟩ := ry
  exact add_str (fun t' tk => ⟨.str (i ++ j), H, I.tok _, ⟨_, rfl⟩, q⟩) hz
theorem vals1 {x : V} {us : List Value} (r : Vals [x] us) : ∃ u, us = [u] ∧ RelV x u := by
  cases r with
  | cons r1 r2 => cases r2; exact ⟨_, rfl, r1⟩
theorem vals2 {x y : V} {us : List Value} (r : Vals [x, y] us) : ∃ u w', us = [u, w'] ∧ RelV x u ∧ RelV y w' := by
  cases r with
  | cons r1 r2 =>
    cases r2 with
    | cons r3 r4 => cases r4; exact ⟨_, _, rfl, r1, r3⟩
theorem call_min2 (hc : X.calm = true) : CallR X (.builtin "min") (fun xs H Q => ∃ i j, xs = [.int i, .int j] ∧ Q (.int (if j < i then j else i)) H) := by
  intro pins s σ H xs us Q I r h
  obtain ⟨i, j, rfl, q⟩ := h
  obtain ⟨u, w', rfl, ⟨t, rfl⟩, ⟨t', rfl⟩⟩ := vals2 r
  refine min_two_ints (I.ok.hd hc) fun h' tk k => ⟨_, H, I.kept k, ?_, q⟩
  by_cases hj : j < i
  · rw [if_pos hj, if_pos hj]; exact ⟨_, rfl⟩
  · rw [if_neg hj, if_neg hj]; exact ⟨_, rfl⟩
end
end L2
namespace L2
open PySem PySem.Spec PyProof.Rows
structure ObjM (h : Heap) (x dx C : Addr) (mA : Str → Option Value) : Prop where
  obj : h.get? x = some (PySem.W.instObj C dx)
  ns : h.Ns1 dx mA
  ne : dx ≠ x
theorem lookIn_ns {h : Heap} {dx : Addr} {mA : Str → Option Value} (n : h.Ns1 dx mA) : ∃ od, h.get? dx = some od ∧ ∀ name, PySem.W.lookIn name od = some (mA name) := by
  obtain ⟨o, es, ep, ho, hd, hk, _, hm⟩ := n
  refine ⟨o, ho, fun name => ?_⟩
  have e := hm name
  unfold nsFind findBy at e
  rw [← Array.find?_toList] at e
  unfold PySem.W.lookIn
  rw [hd]
  dsimp only
  split
  · rename_i y q
    rw [q] at e
    exact congrArg some e
  · rename_i q
    rw [q] at e
    have a : es.toList.any (·.refKey) = false := by
      rw [List.any_eq_false]
      intro y hy
      obtain ⟨z, t, hkey⟩ := hk y (Array.mem_toList_iff.mp hy)
      simp [DictEntry.refKey, hkey]
    have a' : ¬ es.toList.any (·.refKey) = true := by rw [a]; exact Bool.false_ne_true
    rw [if_neg a']
    exact congrArg some e
theorem ObjM.look {h : Heap} {x dx C : Addr} {mA : Str → Option Value} (I : ObjM h x dx C mA) : ∃ od, PySem.W.InstAt h x (PySem.W.instObj C dx) C (some od) ∧ ∀ name, PySem.W.lookIn name od = some (mA name) :=
  let ⟨od, ho, hl⟩ := lookIn_ns I.ns
  ⟨od, ⟨I.obj, rfl, rfl, ho⟩, hl⟩
section
variable {prog : Program} {w : World} {A : Around} {E : Value → Shared → Prop} {s : Shared} {K : PySem.W.Frag} {x dx C f : Addr} {mA : Str → Option Value} {name : Str} {v : Value}
end
theorem RelO.some_of {v : V} {o : Option Value} (r : RelO (some v) o) : ∃ u, o = some u ∧ RelV v u := by
  cases o with
  | none => exact (show False from r).elim
  | some u => exact ⟨u, rfl, r⟩
section
variable {P : Program} {w : World} {H H' : Hp} {h h' : Heap} {a C dx : Addr} {fs fs' : List (Str × V)}
theorem ins_get (hok : HOk P w H h) (e : H a = some (.ins C dx fs)) : ∃ mA, ObjM h a dx C mA ∧ (∀ f, RelO (fs.lookup f) (mA f)) ∧ PySem.Within mA (fs.map (·.1)) ∧ fs.length ≤ 1000 ∧ H dx = some (.own a) := by
  obtain ⟨d, z, ne, ob, mA, n, r, q⟩ := (show ObjOk P w H h a (.ins C dx fs) from hok a _ e)
  exact ⟨mA, ⟨ob, n, ne⟩, r, q, z, d⟩
end
structure Cls (K : PySem.W.Frag) (C : Addr) : Prop where
  pg : PySem.W.plainGet K C Str.empty = true
  hd : PySem.W.hasDictIn K C = true
  po : PySem.W.plainOver K C = true
  sa : PySem.W.findIn K (.ref C) "__setattr__" = some (some (.builtin "object.__setattr__"))
theorem Cls.get {K : PySem.W.Frag} {C : Addr} (c : Cls K C) (f : Str) : PySem.W.plainGet K C f = true := c.pg
section
variable {X : Cx} {pins : List (Addr × Obj)} {σ : St} {H : Hp} {s : Shared} {a C dx : Addr} {fs : List (Str × V)} {f : Str} {v : V} {A : Around} {E : Value → Shared → Prop}
end
section
variable {X : Cx} {o e value : Expr} {f : Str} {pos pos' tpos : Pos} {ta tv : TE}
end
section
variable {X : Cx} {pins : List (Addr × Obj)} {σ : St} {H : Hp} {s : Shared} {A : Around} {E : Value → Shared → Prop} {Q : Value → Shared → Prop} {c : Value} {b : Bool}
inductive TyOf (K : PySem.W.Frag) (H : Hp) : V → Value → Prop where
  | non : TyOf K H .non (.type "NoneType")
  | bl (x : Bool) : TyOf K H (.bl x) (.type "bool")
  | int (i : Int) : TyOf K H (.int i) (.type "int")
  | str (x : Str) : TyOf K H (.str x) (.type "str")
  | flt (x : UInt64) : TyOf K H (.flt x) (.type "float")
  | lst {a : Addr} {xs : List V} (e : H a = some (.lst xs)) : TyOf K H (.ref a) (.type "list")
  | frz {a : Addr} {o : Obj} {xs : List V} (e : H a = some (.frz o (.lst xs))) : TyOf K H (.ref a) (.type "list")
  | tup {a : Addr} {xs : List V} (e : H a = some (.tup xs)) : TyOf K H (.ref a) (.type "tuple")
  | dK {a : Addr} {kvs : List (Key × V)} (e : H a = some (.dK kvs)) : TyOf K H (.ref a) (.type "dict")
  | dT {a : Addr} {kvs : List (List Key × V)} (e : H a = some (.dT kvs)) : TyOf K H (.ref a) (.type "dict")
  | ins {a C dx : Addr} {fs : List (Str × V)} (e : H a = some (.ins C dx fs)) (cl : Cls K C) (ha : PySem.W.findIn K (.ref C) "__class__" = some (some (.builtin "object.__class__")))
      (hn : PySem.W.specialIn K (.builtin "object.__class__") "__get__" = some (some (.builtin "getset_descriptor.__get__"))) (htk : PySem.W.takesIn K (.builtin "object.__class__") = some true)
      (hm : PySem.W.mroIn K C (.type "object") = some true) : TyOf K H (.ref a) (.ref C)
theorem isinst_ok {x : V} {u t : Value} (I : Inv X pins σ H s) (rx : RelV x u) (ty : TyOf X.K H x t) (e : PySem.W.kitOne X.K t c = some b) (h : ∀ tk, Q (.bool b) { s with toks := tk }) :
    wpAny (model X.prog X.w) A (call (.builtin "isinstance") [u, c]) Q E s := by
  cases ty with
  | non => cases (show u = Value.none from rx); exact PySem.W.kia_one PySem.W.kitx_none I.kIn True.intro e (fun z => nomatch z) h
  | bl y => cases (show u = Value.bool y from rx); exact PySem.W.kia_one PySem.W.kitx_bool I.kIn True.intro e (fun z => nomatch z) h
  | int i => obtain ⟨t, q⟩ := (show ∃ t, u = Value.int i t from rx); cases q; exact PySem.W.kia_one PySem.W.kitx_int I.kIn True.intro e (fun z => nomatch z) h
  | str y => obtain ⟨t, q⟩ := (show ∃ t, u = Value.str y t from rx); cases q; exact PySem.W.kia_one PySem.W.kitx_str I.kIn True.intro e (fun z => nomatch z) h
  | flt y => obtain ⟨t, q⟩ := (show ∃ t, u = Value.float y t from rx); cases q; exact PySem.W.kia_one PySem.W.kitx_float I.kIn True.intro e (fun z => nomatch z) h
  | @lst a xs ea =>
    cases (show u = Value.ref a from rx)
    obtain ⟨_, _, n, _, h1⟩ := (show ObjOk X.prog X.w H s.heap a (.lst xs) from I.hok a _ ea)
    exact PySem.W.kia_one PySem.W.kitx_list I.kIn ⟨_, h1, rfl⟩ e (fun z => nomatch z) h
  | @frz a ob xs ea =>
    cases (show u = Value.ref a from rx)
    obtain ⟨_, _, _, n, _, h1⟩ := (show ObjOk X.prog X.w H s.heap a (.frz ob (.lst xs)) from I.hok a _ ea)
    exact PySem.W.kia_one PySem.W.kitx_list I.kIn ⟨_, h1, rfl⟩ e (fun z => nomatch z) h
  | @tup a xs ea =>
    cases (show u = Value.ref a from rx)
    obtain ⟨_, _, _, p⟩ := (show ObjOk X.prog X.w H s.heap a (.tup xs) from I.hok a _ ea)
    obtain ⟨o, h1, h2, _⟩ := p
    exact PySem.W.kia_one PySem.W.kitx_tuple I.kIn ⟨o, h1, h2⟩ e (fun z => nomatch z) h
  | @dK a kvs ea =>
    cases (show u = Value.ref a from rx)
    obtain ⟨_, _, vs, _, p⟩ := (show ObjOk X.prog X.w H s.heap a (.dK kvs) from I.hok a _ ea)
    obtain ⟨o, es, ep, h1, h2, _⟩ := p
    exact PySem.W.kia_one PySem.W.kitx_dict I.kIn ⟨o, h1, h2.1⟩ e (fun z => nomatch z) h
  | @dT a kvs ea =>
    cases (show u = Value.ref a from rx)
    obtain ⟨_, _, xs, _, o, es, ep, h1, h2, _⟩ := (show ObjOk X.prog X.w H s.heap a (.dT kvs) from I.hok a _ ea)
    exact PySem.W.kia_one PySem.W.kitx_dict I.kIn ⟨o, h1, h2.1⟩ e (fun z => nomatch z) h
  | @ins a C dx fs ea cl ha hn htk hm =>
    cases (show u = Value.ref a from rx)
    obtain ⟨mA, O, _⟩ := ins_get I.hok ea
    obtain ⟨od, J, _⟩ := O.look
    exact PySem.W.kia_one (PySem.W.kitx_own (cl.get _) cl.hd ha hn htk hm) I.kIn J e (fun z => nomatch z) h
end
end L2
namespace L2
open PySem PySem.Spec PyProof.Rows
structure Room (k : Nat) (A : Around) : Prop where
  hd : A.handled = none
  dp : A.depth + 3 * k + 5 < recursionLimit
  un : A.units + 16 * k + 200 < cLine
theorem Room.mono {j k : Nat} {A : Around} (r : Room k A) (h : j ≤ k) : Room j A := ⟨r.hd, by have := r.dp; omega, by have := r.un; omega⟩
theorem Room.deeper {k : Nat} {A : Around} (r : Room (k + 1) A) (env : Env) : Room k (A.deeper env) :=
  ⟨r.hd, by have := r.dp; show A.depth + 1 + 3 * k + 5 < _; omega, by have := r.un; show A.units + 3 + 16 * k + 200 < _; omega⟩
theorem Room.depth {k : Nat} {A : Around} (r : Room k A) : A.depth < recursionLimit := by have := r.dp; omega
theorem Room.units {k : Nat} {A : Around} (r : Room k A) : A.units + 64 < cLine := by have := r.un; omega
theorem Room.units0 {k : Nat} {A : Around} (r : Room k A) : A.units < cLine := by have := r.un; omega
noncomputable def tNil : TA := fun _ H Q => Q [] H
noncomputable def tCons (ta : TE) (tr : TA) : TA := fun σ H Q => ta σ H fun x H1 => tr σ H1 fun xs H2 => Q (x :: xs) H2
section
variable {X : Cx} {e : Expr} {es : List Expr} {te : TE} {t : TA} {pos : Pos}
theorem pa_nil : PA X [] tNil := fun _ _ _ _ H Q I h => Calls.spliced_nil ⟨[], H, I, .nil, h⟩
theorem pa_cons (ha : PE X e te) (hr : PA X es t) (hs : starEach (e :: es) X.env = (false, eval e X.env) :: starEach es X.env := by rfl) : PA X (e :: es) (tCons te t) := by
  intro pos pins s σ H Q I h
  rw [hs]
  show wpAny _ _ (spliced ((false, eval e X.env) :: backTo pos (starEach es X.env))) _ _ s
  refine Calls.spliced_cons (thn (ha pins s σ H _ I h) fun u s1 ⟨x, H1, I1, r1, q1⟩ => ?_)
  exact thn (hr pos pins s1 σ H1 _ I1 q1) fun us s2 ⟨xs, H2, I2, r2, q2⟩ => ⟨x :: xs, H2, I2, .cons r1 r2, q2⟩
noncomputable def tTup (t : TA) : TE := fun σ H Q => t σ H fun xs H1 => xs.length ≤ sizeLine ∧ ∀ p, H1 p = none → Q (.ref p) (upd H1 p (.tup xs))
noncomputable def tLst (t : TA) : TE := fun σ H Q => t σ H fun xs H1 => xs.length ≤ sizeLine ∧ ∀ p, H1 p = none → Q (.ref p) (upd H1 p (.lst xs))
theorem pe_tup {x1} (h : PA X es t) : PE X (.Tuple es x1 pos) (tTup t) := by
  intro pins s σ H Q I hq
  refine wpAny_Tuple_spliced (thn (h pos pins s σ H _ I hq) fun us s1 ⟨xs, H1, I1, r, z, q⟩ => ⟨by rw [← r.length]; exact z, ?_⟩)
  have hf : H1 s1.heap.objs.size = none := I1.hok.fresh (Nat.le_refl _)
  refine ⟨.ref s1.heap.objs.size, upd H1 s1.heap.objs.size (.tup xs), I1.laid (t' := s1.toks) (fun b u e => Heap.get?_push_of_some _ e) (Nat.le_refl _) ?_, rfl, q _ hf⟩
  exact ⟨z, us, r, ⟨_, Heap.get?_push_size _ rfl, rfl, _, rfl⟩⟩
theorem pe_lst (h : PA X es t) : PE X (.List es pos) (tLst t) := by
  intro pins s σ H Q I hq
  refine wpAny_List_spliced (thn (h pos pins s σ H _ I hq) fun us s1 ⟨xs, H1, I1, r, z, q⟩ => ⟨by rw [← r.length]; exact z, ?_⟩)
  have hf : H1 s1.heap.objs.size = none := I1.hok.fresh (Nat.le_refl _)
  refine ⟨.ref s1.heap.objs.size, upd H1 s1.heap.objs.size (.lst xs), I1.laid (t' := s1.toks) (fun b u e => Heap.get?_push_of_some _ e) (Nat.le_refl _) ?_, rfl, q _ hf⟩
  exact ⟨z, us, 0, r, Heap.get?_push_size _ rfl⟩
end
noncomputable abbrev Sp := List V → Hp → VK → XK → Prop
noncomputable abbrev CXT := List Env → Hp → Shared → XK → Value → Shared → Prop
structure Env0 (P : Program) (w : World) (K : PySem.W.Frag) (mg : Str → Option Value) (base : Heap) (A : Around) (outer : List Env) (s : Shared) (H : Hp) : Prop where
  frames : A.frames = some outer
  mod : Mod K mg base
  bs : ∀ b o, base.get? b = some o → s.heap.get? b = some o ∧ H b = none
  bsz : base.objs.size ≤ s.heap.objs.size
  funs : s.heap.FunFrames base outer
  frf : ∀ b ∈ frs outer, H b = none
  hok : HOk P w H s.heap
  bare : AllBare s.gens
noncomputable def CE (outer : List Env) (P : Program) (w : World) (H : Hp) (s : Shared) (Q : VK) (u : Value) (s' : Shared) : Prop :=
  ∃ v H', s'.os = s.os ∧ AllBare s'.gens ∧ Un (frs outer) [] H H' s.heap s'.heap ∧ HOk P w H' s'.heap ∧ RelV v u ∧ Q v H'
noncomputable def CR (CX : CXT) (outer : List Env) (P : Program) (w : World) (H : Hp) (s : Shared) (Q : VK) (E : XK) (r : Result) (s' : Shared) : Prop :=
  match r with
  | .ok (.ret u) => CE outer P w H s Q u s'
  | .ok _ => False
  | .error e => CX outer H s E e s'
structure FnOk (P : Program) (w : World) (K : PySem.W.Frag) (mg : Str → Option Value) (base : Heap) (CX : CXT) (k : Nat) (f : Addr) (fd : FuncData) (ps : List Str) (sp : Sp) : Prop where
  len : ∀ vs H Q E, sp vs H Q E → vs.length = ps.length
  run : ∀ (A : Around) (outer : List Env) (s : Shared) (H : Hp) (args : Args) (us : List Value) (vs : List V) (Q : VK) (E : XK), Room k A → Env0 P w K mg base A outer s H → BindsTo s fd args (ps.zip us) → Vals vs us → sp vs H Q E →
    codeAny (model P w) A (.call (.ref f) args) (CR CX outer P w H s Q E) s
section
variable {X : Cx} {pins : List (Addr × Obj)} {σ : St} {H : Hp} {s s' : Shared}
theorem Inv.env0 (I : Inv X pins σ H s) : Env0 X.prog X.w X.K X.mg X.base X.A X.stack s H :=
  ⟨I.ok.frames, I.ok.mod, I.bs, Nat.le_trans I.ok.bsz I.sz, I.stack, I.stkFree, I.hok, I.bare⟩
theorem Inv.after {Q : VK} {u : Value} (I : Inv X pins σ H s) (h : CE X.stack X.prog X.w H s Q u s') : EP X pins σ Q u s' := by
  obtain ⟨v, H', os, bare, un, hok, r, q⟩ := h
  obtain ⟨hh, g, d, t, os'⟩ := s'
  obtain rfl : os' = s.os := os
  exact ⟨v, H', I.call (h' := hh) (g' := g) (d' := d) (t' := t) (ch := []) un hok bare (fun b z => absurd z (by simp)), r, q⟩
end
noncomputable def tCall (sp : Sp) (dvs : List V) (E : XK) (t : TA) : TE := fun σ H Q => t σ H fun vs H1 => sp (vs ++ dvs) H1 Q E
noncomputable def Binds (K : PySem.W.Frag) (fd : FuncData) (ps : List Str) (ds : List Value) : Prop :=
  ∀ (s : Shared) (us : List Value), K.In s.heap → (us ++ ds).length = ps.length → BindsTo s fd ⟨us, []⟩ (ps.zip (us ++ ds))
theorem Binds.all {K : PySem.W.Frag} {fd : FuncData} {ps : List Str} (h : ∀ us : List Value, us.length = ps.length → bindArgs fd ⟨us, []⟩ = pure (ps.zip us)) : Binds K fd ps [] := fun s us _ hl => by
  rw [List.append_nil] at hl ⊢
  exact .of_eq (h us hl)
noncomputable def Passes (CX : CXT) (X : Cx) (E : XK) : Prop := ∀ (pins : List (Addr × Obj)) (σ : St) (H : Hp) (s : Shared) (e : Value) (s' : Shared), Inv X pins σ H s → CX X.stack H s E e s' → X.xe e s'
section
variable {X : Cx} {CX : CXT} {k : Nat} {f C : Addr} {fd : FuncData} {ps : List Str} {sp : Sp} {dvs : List V} {ds : List Value} {E : XK} {x m : Str} {p pos apos : Pos} {e o : Expr} {es : List Expr} {ta : TE} {t : TA}
theorem run_fn {pins : List (Addr × Obj)} {σ : St} {H : Hp} {s : Shared} {Q : VK} {us : List Value} {vs : List V} (F : FnOk X.prog X.w X.K X.mg X.base CX k f fd ps sp) (hr : Room k X.A) (hb : Binds X.K fd ps ds) (hd : Vals dvs ds) (hx : Passes CX X E)
    (I : Inv X pins σ H s) (r : Vals vs us) (h : sp (vs ++ dvs) H Q E) : wpAny (model X.prog X.w) X.A (call (.ref f) us) (EP X pins σ Q) X.xe s := by
  have r2 : Vals (vs ++ dvs) (us ++ ds) := r.append hd
  have hl : (us ++ ds).length = ps.length := by rw [← r2.length]; exact F.len _ _ _ _ h
  refine wpAny_call (codeAny_mono (F.run X.A X.stack s H ⟨us, []⟩ (us ++ ds) (vs ++ dvs) Q E hr I.env0 (hb s us I.kIn hl) r2 h) fun r s' hq => ?_)
  cases r with
  | error e => exact hx pins σ H s e s' I hq
  | ok fl =>
    cases fl with
    | ret u => exact I.after hq
    | next => exact False.elim hq
    | brk => exact False.elim hq
    | cont => exact False.elim hq
theorem pe_call (F : FnOk X.prog X.w X.K X.mg X.base CX k f fd ps sp) (hr : Room k X.A) (hg : Gl X x) (hm : X.mg x = some (.ref f)) (hk : PySem.W.keepIn X.K (.ref f) = true) (hb : Binds X.K fd ps ds) (hd : Vals dvs ds) (hx : Passes CX X E)
    (ha : PA X (e :: es) t) (hdb : (x == ("__debug__" : Str)) = false := by decide) (he : starEach (e :: es) X.env = (false, eval e X.env) :: starEach es X.env := by rfl) (hpl : (backTo pos (starEach es X.env)).any (·.1) = false := by rfl) :
    PE X (.Call (.Name x p) (e :: es) [] pos) (tCall sp dvs E t) := by
  intro pins s σ H Q I h
  refine wpAny_Call_Name_kw (ld_glob I hg hm ?_ hdb)
  refine PySem.W.callWith_K (h₀ := X.base) I.ok.mod.kin hk (thn (ha pos pins s σ H _ I h) fun us s1 ⟨vs, H1, I1, r, q⟩ => ⟨I1.kIn, ?_⟩) he hpl
  exact run_fn F hr hb hd hx I1 r q
end
section
variable {X : Cx} {CX : CXT} {k : Nat} {f C : Addr} {fd : FuncData} {ps ks : List Str} {sp : Sp} {E : XK} {x m : Str} {p pos apos kpos : Pos} {e o : Expr} {es : List Expr} {kws : List Keyword} {te ta : TE} {t tk : TA} {nm : Option Str}
variable {g : List Value → List Value → List Value} {gV : List V → List V → List V}
end
structure FnScope (N P : List Str) (sc : Scope) : Prop where
  kind : sc.kind = .function
  co : sc.isCoroutine = false
  gen : sc.isGenerator = false
  nd : N.Nodup
  pre : N.take P.length = P
  par : ∀ x ∈ P, sc.names.lookup x = some .local ∨ sc.names.lookup x = some .cell
  nofree : ∀ y ∈ sc.names, y.2 ≠ .free
theorem bindL_out {kindOf : Str → Option NameKind} {x : Str} : ∀ {binds : List (Str × Value)} {m : Str → Option Value}, (∀ v, (x, v) ∉ binds) → bindL kindOf binds m x = m x
  | [], _, _ => rfl
  | (n, v) :: r, m, h => by
    unfold bindL
    rw [bindL_out fun w hw => h w (List.mem_cons_of_mem _ hw)]
    split
    · have : x ≠ n := by rintro rfl; exact h v List.mem_cons_self
      simp [this]
    · rfl
theorem bindC_out {kindOf : Str → Option NameKind} {x : Str} : ∀ {binds : List (Str × Value)} {m : Str → Option Value}, (∀ v, (x, v) ∉ binds) → bindC kindOf binds m x = m x
  | [], _, _ => rfl
  | (n, v) :: r, m, h => by
    unfold bindC
    rw [bindC_out fun w hw => h w (List.mem_cons_of_mem _ hw)]
    split
    · rfl
    · have : x ≠ n := by rintro rfl; exact h v List.mem_cons_self
      simp [this]
theorem bindL_get {kindOf : Str → Option NameKind} {x : Str} {v : Value} : ∀ {P : List Str} {vs : List Value} {i : Nat} {m : Str → Option Value}, P.Nodup → P[i]? = some x → vs[i]? = some v → kindOf x = some .local →
    bindL kindOf (P.zip vs) m x = some v
  | [], _, _, _, _, h, _, _ => by simp at h
  | _ :: _, [], _, _, _, _, h, _ => by simp at h
  | p :: P, w :: vs, 0, m, nd, h1, h2, hk => by
    simp at h1 h2; subst h1; subst h2
    show bindL kindOf ((p, w) :: P.zip vs) m p = _
    unfold bindL
    rw [bindL_out fun v hv => (List.nodup_cons.mp nd).1 (List.of_mem_zip hv).1, if_pos hk]
    simp
  | p :: P, w :: vs, i + 1, m, nd, h1, h2, hk => by
    show bindL kindOf ((p, w) :: P.zip vs) m x = _
    unfold bindL
    exact bindL_get (i := i) (List.nodup_cons.mp nd).2 (by simpa using h1) (by simpa using h2) hk
theorem bindC_get {kindOf : Str → Option NameKind} {x : Str} {v : Value} : ∀ {P : List Str} {vs : List Value} {i : Nat} {m : Str → Option Value}, P.Nodup → P[i]? = some x → vs[i]? = some v → kindOf x ≠ some .local →
    bindC kindOf (P.zip vs) m x = some v
  | [], _, _, _, _, h, _, _ => by simp at h
  | _ :: _, [], _, _, _, _, h, _ => by simp at h
  | p :: P, w :: vs, 0, m, nd, h1, h2, hk => by
    simp at h1 h2; subst h1; subst h2
    show bindC kindOf ((p, w) :: P.zip vs) m p = _
    unfold bindC
    rw [bindC_out fun v hv => (List.nodup_cons.mp nd).1 (List.of_mem_zip hv).1, if_neg hk]
    simp
  | p :: P, w :: vs, i + 1, m, nd, h1, h2, hk => by
    show bindC kindOf ((p, w) :: P.zip vs) m x = _
    unfold bindC
    exact bindC_get (i := i) (List.nodup_cons.mp nd).2 (by simpa using h1) (by simpa using h2) hk
noncomputable def start (N : List Str) (vs : List V) : St := vs.map some ++ List.replicate (N.length - vs.length) none
noncomputable def cxOf (CX : CXT) (P : Program) (w : World) (K : PySem.W.Frag) (mg : Str → Option Value) (base : Heap) (N : List Str) (qual : Str) (scope : Scope) (f : Addr) (cd : Value) (A : Around) (outer : List Env) (s : Shared) (H : Hp) (E : XK) : Cx where
  prog := P
  w := w
  K := K
  mg := mg
  base := base
  A := A.deeper (envOfC qual scope s.heap.objs.size f cd)
  N := N
  s₀ := s
  H₀ := H
  env := envOfC qual scope s.heap.objs.size f cd
  outer := outer
  stack := envOfC qual scope s.heap.objs.size f cd :: outer
  ex := []
  calm := true
  fn := fun _ => true
  pn := []
  xe := fun e s' => wpAny (model P w) (A.deeper (envOfC qual scope s.heap.objs.size f cd)) (leaving (envOfC qual scope s.heap.objs.size f cd) e) (fun _ s'' => CX outer H s E e s'') (fun e' s'' => CX outer H s E e' s'') s'
theorem cell_has {sc : Scope} {n : Nat} {x : Str} (h : sc.names.lookup x = some .cell) : ∃ c, (cellsFrom n sc.names []).lookup x = some c := by
  have q := PySem.W.cellsFrom_some sc.names n [] (.inl h)
  exact Option.isSome_iff_exists.mp q
theorem inv_start {CX : CXT} {P : Program} {w : World} {K : PySem.W.Frag} {mg : Str → Option Value} {base : Heap} {N ps : List Str} {qual : Str} {scope : Scope} {f : Addr} {cd : Value} {A : Around} {outer : List Env} {s s1 : Shared} {H : Hp} {E : XK} {us : List Value} {vs : List V}
    (S : FnScope N ps scope) (hd : A.handled = none) (e0 : Env0 P w K mg base A outer s H) (hl : vs.length = ps.length) (r : Vals vs us)
    (x : InCallC s s.heap.objs.size (bindL (envOfC qual scope s.heap.objs.size f cd).kindOf (ps.zip us) fun _ => none) (cellsFrom (s.heap.objs.size + 1) scope.names []) (bindC (envOfC qual scope s.heap.objs.size f cd).kindOf (ps.zip us) fun _ => none) s1) :
    Inv (cxOf CX P w K mg base N qual scope f cd A outer s H E) [] (start N vs) H s1 := by
  have hpl : ps.length ≤ N.length := by have := congrArg List.length S.pre; rw [List.length_take] at this; omega
  obtain ⟨h1, tk, rfl, hk⟩ := x.done
  have noA : ∀ b : Addr, b ∉ (cxOf CX P w K mg base N qual scope f cd A outer s H E).ex := fun b z => absurd (show b ∈ ([] : List Addr) from z) (by simp)
  refine ⟨⟨e0.mod, S.kind, rfl, rfl, Nat.le_refl _, fun y z c h1 h2 => ?_, fun y hy => ?_, fun y c _ h => ?_, fun _ => hd, Around.frames_deeper e0.frames, .inr ⟨rfl, rfl⟩, fun b z => absurd z (noA b), e0.bs, e0.bsz, fun b _ _ => noA b, fun b z => absurd z (noA b), e0.funs, e0.frf⟩,
    rfl, e0.bare, Un.kept hk, ⟨_, x.toInCall.ns, fun i y v h1 h2 h3 => ?_⟩, fun y c h => ⟨_, x.cell y c h⟩, e0.hok.fresh (Nat.le_refl _), fun y c h => ?_, fun p hp => absurd (show p ∈ ([] : List (Addr × Obj)) from hp) (by simp), e0.hok.kept hk, ?_⟩
  · exact name_of_addr x.apart (PySem.mem_of_lookup h1) (PySem.mem_of_lookup h2)
  · have hy : scope.names.lookup y = some .cell ∨ scope.names.lookup y = some .free := hy
    rcases hy with hy | hy
    · exact cell_has hy
    · exact absurd rfl (S.nofree _ (PySem.mem_of_lookup hy))
  · exact Nat.le_of_lt (x.above y c (PySem.mem_of_lookup h))
  · have hi : i < vs.length := by
      unfold start at h2
      by_cases hi : i < vs.length
      · exact hi
      · rw [List.getElem?_append_right (by simpa using hi)] at h2
        rw [List.getElem?_replicate] at h2
        split at h2 <;> cases h2
    have ha : vs[i]? = some v := by
      unfold start at h2
      rw [List.getElem?_append_left (by simpa using hi), List.getElem?_map] at h2
      cases e : vs[i]? with
      | none => rw [e] at h2; cases h2
      | some a => rw [e] at h2; cases h2; rfl
    obtain ⟨u, hu, rv⟩ := r.get ha
    have hp : ps[i]? = some y := by
      rw [← S.pre, List.getElem?_take_of_lt (by omega)]; exact h1
    have ndP : ps.Nodup := by rw [← S.pre]; exact S.nd.sublist (List.take_sublist _ _)
    refine ⟨u, rv, ?_⟩
    rcases S.par y (List.mem_of_getElem? hp) with k | k
    · exact .inl ⟨k, bindL_get ndP hp hu k⟩
    · obtain ⟨c, e⟩ := cell_has (n := s.heap.objs.size + 1) k
      refine .inr ⟨.inl k, c, e, ?_⟩
      have q := x.cell y c e
      rw [bindC_get ndP hp hu (by show scope.names.lookup y ≠ _; rw [k]; decide)] at q
      exact q
  · exact e0.hok.fresh (Nat.le_of_lt (x.above y c (PySem.mem_of_lookup h)))
  · unfold start
    show _ = N.length
    rw [List.length_append, List.length_map, List.length_replicate]
    omega
theorem fn_of {CX : CXT} {P : Program} {w : World} {K : PySem.W.Frag} {mg : Str → Option Value} {base : Heap} {k : Nat} {f : Addr} {name qual : Str} {params : Arguments} {body : List Stmt} {scope : Scope} {dV kV doc pm cdv ct oc : Value} {an od : Option Addr}
    {osl : Array (Option Value)} {N ps : List Str} {sp : Sp} (lk : K.lookup f = some ⟨oc, od, .func (PySem.W.fnOf name qual params body scope dV kV doc pm an cdv ct), osl⟩) (hcd : PySem.W.codeIn K cdv qual = true) (S : FnScope N ps scope)
    (len : ∀ vs H Q E, sp vs H Q E → vs.length = ps.length)
    (hbody : ∀ (A : Around) (outer : List Env) (s : Shared) (H : Hp) (vs : List V) (Q : VK) (E : XK), Room k (A.deeper (envOfC qual scope s.heap.objs.size f cdv)) → sp vs H Q E →
      ∃ t, PSs (cxOf CX P w K mg base N qual scope f cdv A outer s H E) body t ∧ t { nx := fun _ H' => Q .non H', rt := Q } (start N vs) H) :
    FnOk P w K mg base CX (k + 1) f (PySem.W.fnOf name qual params body scope dV kV doc pm an cdv ct) ps sp := by
  refine ⟨len, fun A outer s H args us vs Q E hr e0 hb r hsp => ?_⟩
  have hl := len _ _ _ _ hsp
  have KX : K.In s.heap := e0.mod.kin.keeps fun b o e => (e0.bs b o e).1
  have lim : s.heap.NoLimit := e0.mod.nolimit.keeps fun b o e => (e0.bs b o e).1
  have hkind : ∀ y ∈ ps.zip us, scope.names.lookup y.1 = some .local ∨ (scope.names.lookup y.1 = some .cell ∧ ((cellsFrom (s.heap.objs.size + 1) scope.names []).lookup y.1).isSome = true) := fun ⟨n, v⟩ hy => by
    rcases S.par n (List.of_mem_zip hy).1 with q | q
    · exact .inl q
    · exact .inr ⟨q, PySem.W.cellsFrom_some _ _ _ (.inl q)⟩
  refine codeAny_call_function hr.depth (KX _ _ lk) rfl S.co S.gen rfl (PySem.W.codeRec_of KX hcd) (hb _ _ _ _ ?_)
  refine wpAny_newFunctionEnv_cells S.kind hkind fun env he s1 x => ?_
  subst he
  refine ⟨lim.keeps x.toInCall.keep, codeAny_func ?_⟩
  obtain ⟨t, ht, hq⟩ := hbody A outer s H vs Q E (hr.deeper _) hsp
  have I : Inv (cxOf CX P w K mg base N qual scope f cdv A outer s H E) [] (start N vs) H s1 := inv_start S hr.hd e0 hl r x
  refine wpAny_mono (ht [] s1 (start N vs) H _ I hq) (fun fl s' hs => ?_) fun e s' hs => hs
  have fin : ∀ {σ' : St} {H' : Hp} {v : V} {u : Value}, Inv (cxOf CX P w K mg base N qual scope f cdv A outer s H E) [] σ' H' s' → RelV v u → Q v H' → CE outer P w H s Q u s' :=
    fun {σ' H' v u} J rv q => ⟨v, H', J.os, J.bare, J.base, J.hok, rv, q⟩
  cases fl with
  | ret u =>
    obtain ⟨v, σ', H', J, rv, q⟩ := hs
    exact fin J rv q
  | next =>
    obtain ⟨σ', H', J, q⟩ := hs
    exact fin (v := V.non) (u := Value.none) J rfl q
  | brk =>
    obtain ⟨_, _, _, q⟩ := hs
    exact False.elim q
  | cont =>
    obtain ⟨_, _, _, q⟩ := hs
    exact False.elim q
end L2
namespace L2
open PySem PySem.Spec PyProof.Rows
section
variable {X : Cx} {x : Str} {p pos : Pos} {e : Expr} {es : List Expr} {t : TA} {id T : String} {r : List V → Hp → VK → Prop}
noncomputable def tCB (r : List V → Hp → VK → Prop) (t : TA) : TE := fun σ H Q => t σ H fun vs H1 => r vs H1 Q
theorem pe_callB (hc : CallR X (.builtin id) r) (hg : Gl X x) (hm : X.mg x = none) (hv : bootBuiltins x = some (.builtin id)) (ha : PA X (e :: es) t) (hn : x ≠ "__name__" := by decide) (hdb : (x == ("__debug__" : Str)) = false := by decide)
    (he : starEach (e :: es) X.env = (false, eval e X.env) :: starEach es X.env := by rfl) (hpl : (backTo pos (starEach es X.env)).any (·.1) = false := by rfl) : PE X (.Call (.Name x p) (e :: es) [] pos) (tCB r t) := by
  intro pins s σ H Q I h
  refine wpAny_Call_Name_kw (ld_blt I hg hm hv ?_ hn hdb)
  exact PyProof.Rows.callWith_builtin1 (thn (ha pos pins s σ H _ I h) fun us s1 ⟨vs, H1, I1, r1, q1⟩ => hc pins s1 σ H1 vs us Q I1 r1 q1) he hpl
theorem pe_callTy (hc : CallR X (.type T) r) (hg : Gl X x) (hm : X.mg x = none) (hv : bootBuiltins x = some (.type T)) (ha : PA X (e :: es) t) (hn : x ≠ "__name__" := by decide) (hdb : (x == ("__debug__" : Str)) = false := by decide)
    (he : starEach (e :: es) X.env = (false, eval e X.env) :: starEach es X.env := by rfl) (hpl : (backTo pos (starEach es X.env)).any (·.1) = false := by rfl) : PE X (.Call (.Name x p) (e :: es) [] pos) (tCB r t) := by
  intro pins s σ H Q I h
  refine wpAny_Call_Name_kw (ld_blt I hg hm hv ?_ hn hdb)
  exact PyProof.Rows.callWith_type1 (thn (ha pos pins s σ H _ I h) fun us s1 ⟨vs, H1, I1, r1, q1⟩ => hc pins s1 σ H1 vs us Q I1 r1 q1) he hpl
end
end L2
namespace HT
open PySem PyProof.Rows
section
open PySem.SeqAt
open PySem.AutoSeq1 (wpAny_loadPart')
open PySem.MeetsSeq PySem.MeetsSeq2 PySem.MeetsSeq3
end
section
variable {prog : Program} {w : World} {A : Around} {E : Value → Shared → Prop} {s : Shared}
theorem cat_tup {t b : Addr} {vs ws : List Value} {Q : Value → Shared → Prop} (ht : IsTup s.heap t vs.toArray) (hb : IsTup s.heap b ws.toArray) (hv : vs ≠ [])
    (h1 : ws = [] → Q (.ref t) s) (h2 : ws ≠ [] → Q (.ref s.heap.objs.size) { s with heap := s.heap.push { cls := .type "tuple", data := .seq (vs ++ ws).toArray } })
    (hsz : vs.length + ws.length ≤ sizeLine) : wpAny (model prog w) A (binaryOp .Add (.ref t) (.ref b)) Q E s := by
  obtain ⟨⟨cls, dd, data, sl⟩, ho, hc, n, hd⟩ := id ht
  obtain ⟨⟨cls2, dd2, data2, sl2⟩, ho2, hc2, n2, hd2⟩ := id hb
  simp only at hc hd hc2 hd2
  subst hc hd hc2 hd2
  have e : vs.toArray ++ ws.toArray = (vs ++ ws).toArray := by simp
  by_cases hw : ws = []
  · exact concat_meets ⟨_, ho, rfl⟩ ⟨_, ho2, rfl⟩ noFill_tuple_add seq_tuple_add PySem.F.slot_tuple_add PySem.F.entry_tuple_add (PySem.F.args_tuple_add_2 _ _)
      (tuple_addW1 t b vs.toArray ws.toArray n n2 dd dd2 sl sl2 (by simpa using hv) (by simp [hw])) ⟨ho, ho2, h1 hw⟩
  · refine concat_meets ⟨_, ho, rfl⟩ ⟨_, ho2, rfl⟩ noFill_tuple_add seq_tuple_add PySem.F.slot_tuple_add PySem.F.entry_tuple_add (PySem.F.args_tuple_add_2 _ _)
      (tuple_addW2 t b vs.toArray ws.toArray n n2 dd dd2 sl sl2 (by simpa using hv) (by simpa using hw) (by rw [List.size_toArray, List.size_toArray]; exact hsz)) ⟨ho, ho2, ?_⟩
    rw [e]
    exact h2 hw
noncomputable def sIx (n d : Nat) : Option Int → Nat
  | none => d
  | some v => if v < 0 then (v + (n : Int)).toNat else min v.toNat n
theorem sIx_none (n d : Nat) : sIx n d none = d := rfl
theorem sIx_nat (n d k : Nat) : sIx n d (some (k : Int)) = min k n := by
  show (if (k : Int) < 0 then ((k : Int) + (n : Int)).toNat else min (k : Int).toNat n) = min k n
  rw [if_neg (by omega), Int.toNat_natCast]
theorem sIx_le (n d : Nat) (hd : d ≤ n) (o : Option Int) : sIx n d o ≤ n := by
  cases o with
  | none => exact hd
  | some v =>
    show (if v < 0 then (v + (n : Int)).toNat else min v.toNat n) ≤ n
    by_cases hv : v < 0
    · rw [if_pos hv]; omega
    · rw [if_neg hv]; exact Nat.min_le_right _ _
theorem clip_eq (v : Int) (n d : Nat) : (if v < 0 then max (v + (n : Int)) 0 else min v (n : Int)) = ((sIx n d (some v) : Nat) : Int) := by
  show (if v < 0 then max (v + (n : Int)) 0 else min v (n : Int)) = (((if v < 0 then (v + (n : Int)).toNat else min v.toNat n) : Nat) : Int)
  by_cases hv : v < 0
  · simp only [if_pos hv]; omega
  · simp only [if_neg hv]; omega
theorem adjust_gen (lo hi : Option Int) (n : Nat) : Builtin.Slice.sliceAdjust lo hi 1 (n : Int) = (((sIx n 0 lo : Nat) : Int), ((sIx n n hi : Nat) : Int)) := by
  have h1 : ¬ ((1 : Int) < 0) := by omega
  unfold Builtin.Slice.sliceAdjust
  simp only [h1, if_false]
  refine Prod.ext ?_ ?_
  · cases lo with
    | none => rfl
    | some v => exact clip_eq v n 0
  · cases hi with
    | none => rfl
    | some v => exact clip_eq v n n
theorem places_gen (i j : Nat) : Builtin.Slice.slicePlaces (i : Int) (j : Int) 1 = j - i := by
  unfold Builtin.Slice.slicePlaces
  have h1 : (1 : Int) > 0 := by omega
  simp only [h1, if_true, Int.ediv_one]
  split <;> omega
theorem slicePart_ {v : Value} {o : Option Int} {Q : Option Int → Shared → Prop} (p : IsPart v o) (h : Q o s) : wpAny (model prog w) A (Builtin.Slice.slicePartIndex v) Q E s := by
  cases p with
  | none => exact slicePart_none h
  | int i t => exact slicePart_int h
theorem sliceApplied_gen {sl : Addr} {vl vu : Value} {lo hi : Option Int} {n : Nat} {Q : Int × Int × Nat → Shared → Prop} (hs : s.heap.IsSliceOf sl vl vu .none) (pl : IsPart vl lo) (pu : IsPart vu hi)
    (h : Q (((sIx n 0 lo : Nat) : Int), 1, sIx n n hi - sIx n 0 lo) s) : wpAny (model prog w) A (Builtin.Slice.sliceApplied (.ref sl) (pure (n : Int))) Q E s := by
  obtain ⟨os, hos, hcs, hds⟩ := id hs
  unfold Builtin.Slice.sliceApplied Builtin.Slice.sliceFields
  refine wpAny_bind (wpAny_bind (wpAny_field hos hds (x := vl) rfl (wpAny_bind (wpAny_field hos hds (x := vu) rfl (wpAny_bind (wpAny_field hos hds (x := .none) rfl (wpAny_pure ?_)))))))
  refine wpAny_bind (slicePart_none ?_)
  show wpAny _ _ (if ((1 : Int) == 0) = true then _ else _) _ _ s
  rw [if_neg (by decide)]
  refine wpAny_bind (slicePart_ pl (wpAny_bind (slicePart_ pu (wpAny_bind (wpAny_pure ?_)))))
  show wpAny _ _ (match Builtin.Slice.sliceAdjust lo hi 1 (n : Int) with | (lo, hi) => pure (lo, (1 : Int), Builtin.Slice.slicePlaces lo hi 1)) _ _ s
  rw [adjust_gen lo hi n]
  show wpAny _ _ (pure (((sIx n 0 lo : Nat) : Int), (1 : Int), Builtin.Slice.slicePlaces ((sIx n 0 lo : Nat) : Int) ((sIx n n hi : Nat) : Int) 1)) _ _ s
  rw [places_gen]
  exact wpAny_pure h
theorem pick_gen (xs : Array Value) (i k : Nat) : ((List.range k).filterMap fun (m : Nat) => xs[((i : Int) + (m : Int) * 1).toNat]?).toArray = ((xs.toList.drop i).take k).toArray := by
  have e : (fun (m : Nat) => xs[((i : Int) + (m : Int) * 1).toNat]?) = fun m => xs[i + m]? := by
    funext m
    have : ((i : Int) + (m : Int) * 1).toNat = i + m := by omega
    rw [this]
  rw [e]
  have := pick_run xs i k
  rw [List.filterMap_map] at this
  have e2 : ((fun x => xs[x]?) ∘ fun x => i + x) = fun m => xs[i + m]? := rfl
  rw [e2] at this
  rw [this]
theorem getItem_tuple_cut {t sl : Addr} {items : Array Value} {vl vu : Value} {lo hi : Option Int} {Q : Value → Shared → Prop} (ht : IsTup s.heap t items) (hs : s.heap.IsSliceOf sl vl vu .none) (pl : IsPart vl lo) (pu : IsPart vu hi)
    (hw : ¬ (sIx items.size 0 lo = 0 ∧ sIx items.size items.size hi = items.size))
    (h : Q (.ref s.heap.objs.size) { s with heap := s.heap.push { cls := .type "tuple", data := .seq ((items.toList.drop (sIx items.size 0 lo)).take (sIx items.size items.size hi - sIx items.size 0 lo)).toArray } })
    (hsz : items.size ≤ sizeLine) : wpAny (model prog w) A (getItem (.ref t) (.ref sl)) Q E s := by
  have htake : sizeOk (.seq ((items.toList.drop (sIx items.size 0 lo)).take (sIx items.size items.size hi - sIx items.size 0 lo)).toArray) := by
    show ((items.toList.drop (sIx items.size 0 lo)).take (sIx items.size items.size hi - sIx items.size 0 lo)).toArray.size ≤ sizeLine
    rw [List.size_toArray, List.length_take, List.length_drop, Array.length_toList]
    omega
  have hj : sIx items.size items.size hi ≤ items.size := sIx_le _ _ (Nat.le_refl _) hi
  obtain ⟨os, hos, hcs, hds⟩ := id hs
  have hTs : s.TypeIs (.ref sl) "slice" := ⟨os, hos, hcs⟩
  unfold getItem
  try with_reducible refine wpAny_holding ?_
  first | refine wpAny_bind (wpAny_pure ?_) | skip
  refine wpAny_bind (wpAny_sequenceKey ht.typeIs (by decide) ?_)
  refine wpAny_bind (wpAny_callSpecial?_slot (name := Str.ofString "__getitem__") ht.typeIs PyProof.Rows.slot_tuple_getitem
    (wpAny_call_entry PyProof.Rows.slot_tuple_getitem ht.typeIs entry_tuple_getitem ?_ (args_tuple_getitem _ _)))
  show wpAny _ _ (Builtin.Tuple.tupleItemsOf (.ref t) >>= _) _ _ s
  refine wpAny_bind (tupleItemsOf_ ht ?_)
  refine wpAny_bind (wpAny_typeOf hTs ?_)
  rw [if_pos (by decide)]
  refine wpAny_bind (sliceApplied_gen hs pl pu ?_)
  have hno : ¬ ((((sIx items.size 0 lo : Nat) : Int) == 0 && (1 : Int) == 1 && (sIx items.size items.size hi - sIx items.size 0 lo) == items.size) = true) := by
    intro q
    rw [Bool.and_eq_true, Bool.and_eq_true] at q
    have q1 : ((sIx items.size 0 lo : Nat) : Int) = 0 := eq_of_beq q.1.1
    have q2 : sIx items.size items.size hi - sIx items.size 0 lo = items.size := eq_of_beq q.2
    exact hw ⟨by omega, by omega⟩
  show wpAny _ _ (if (((sIx items.size 0 lo : Nat) : Int) == 0 && (1 : Int) == 1 && (sIx items.size items.size hi - sIx items.size 0 lo) == items.size) = true then _ else _) _ _ s
  rw [if_neg hno, pick_gen]
  first
    | exact wpAny_bind (m := Builtin.Tuple.tupleExact _) (wpAny_newObj_type (wpAny_pure ⟨_, rfl, wpAny_pure h⟩) htake)
    | exact wpAny_bind (m := Builtin.Tuple.tupleExact _) (wpAny_newObj_type (wpAny_bind (wpAny_pure (wpAny_pure ⟨_, rfl, wpAny_pure h⟩))) htake)
    | exact wpAny_bind (wpAny_bind (m := Builtin.Tuple.tupleExact _) (wpAny_newObj_type (wpAny_pure (wpAny_pure ⟨_, rfl, wpAny_pure h⟩)) htake))
    | exact wpAny_bind (wpAny_bind (m := Builtin.Tuple.tupleExact _) (wpAny_newObj_type (wpAny_pure ⟨_, rfl, wpAny_pure h⟩) htake))
end
end HT
namespace L2
open PySem PySem.Spec PyProof.Rows
noncomputable abbrev TO := St → Hp → (Option Int → Hp → Prop) → Prop
noncomputable def PO (X : Cx) (e : Option Expr) (t : TO) : Prop :=
  ∀ (pins : List (Addr × Obj)) (s : Shared) (σ : St) (H : Hp) (Q : Option Int → Hp → Prop), Inv X pins σ H s → t σ H Q →
    wpAny (model X.prog X.w) X.A (evalPart e X.env) (fun u s' => ∃ o H', Inv X pins σ H' s' ∧ IsPart u o ∧ Q o H') X.xe s
noncomputable def tNoPart : TO := fun _ H Q => Q none H
noncomputable def tPart (t : TE) : TO := fun σ H Q => t σ H fun x H1 => ∃ i, x = .int i ∧ Q (some i) H1
section
variable {X : Cx} {e : Expr} {te : TE} {lo hi : Option Expr} {tl th : TO} {pos p2 : Pos}
theorem po_none : PO X none tNoPart := by
  intro pins s σ H Q I h
  rw [evalPart_none]
  exact wpAny_pure ⟨none, H, I, .none, h⟩
theorem po_some (h : PE X e te) : PO X (some e) (tPart te) := by
  intro pins s σ H Q I hw
  rw [evalPart_some]
  refine thn (h pins s σ H _ I hw) fun u s1 ⟨x, H1, I1, r1, q1⟩ => ?_
  obtain ⟨i, rfl, q⟩ := q1
  obtain ⟨t, rfl⟩ := r1
  exact ⟨some i, H1, I1, .int i t, q⟩
noncomputable def SlR (X : Cx) (r : V → Option Int → Option Int → Hp → VK → Prop) : Prop :=
  ∀ (pins : List (Addr × Obj)) (s : Shared) (σ : St) (H : Hp) (x : V) (v vl vu : Value) (lo hi : Option Int) (sl : Addr) (Q : VK), Inv X pins σ H s → RelV x v → s.heap.IsSliceOf sl vl vu .none → IsPart vl lo → IsPart vu hi → r x lo hi H Q →
    ∃ T id, typeLookup (.type T) "__getitem__" = pure (some (.builtin id)) ∧ s.TypeIs v T ∧ wpAny (model X.prog X.w) X.A (getItem v (.ref sl)) (EP X pins σ Q) X.xe s
noncomputable def tSl (r : V → Option Int → Option Int → Hp → VK → Prop) (te : TE) (tl th : TO) : TE := fun σ H Q => te σ H fun x H1 => tl σ H1 fun l H2 => th σ H2 fun u H3 => r x l u H3 Q
theorem pe_slice {r : V → Option Int → Option Int → Hp → VK → Prop} (hr : SlR X r) (he : PE X e te) (hl : PO X lo tl) (hu : PO X hi th) : PE X (.Subscript e (.Slice lo hi none p2) pos) (tSl r te tl th) := by
  intro pins s σ H Q I h
  refine Subscript_ (thn (he pins s σ H _ I h) fun v s1 ⟨x, H1, I1, r1, q1⟩ => ?_)
  refine wpAny_Slice (thn (hl pins s1 σ H1 _ I1 q1) fun vl s2 ⟨l, H2, I2, pl, q2⟩ => thn (hu pins s2 σ H2 _ I2 q2) fun vu s3 ⟨u, H3, I3, pu, q3⟩ => ?_)
  rw [evalPart_none]
  refine wpAny_pure ?_
  have I4 : Inv X pins σ H3 { s3 with heap := s3.heap.push { cls := .type "slice", data := .fields #[vl, vu, .none] } } := I3.kept (t' := s3.toks) fun b ob q => Heap.get?_push_of_some _ q
  obtain ⟨T, id, hT, ht, hg⟩ := hr pins { s3 with heap := s3.heap.push { cls := .type "slice", data := .fields #[vl, vu, .none] } } σ H3 x v vl vu l u s3.heap.objs.size Q I4 r1 (Heap.IsSliceOf.new ..) pl pu q3
  show wpAny (model X.prog X.w) X.A (subscriptTail e (.Slice lo hi none p2) v (.ref s3.heap.objs.size)) (EP X pins σ Q) X.xe { s3 with heap := s3.heap.push { cls := .type "slice", data := .fields #[vl, vu, .none] } }
  exact tail_any (ops := [.ref s3.heap.objs.size, v]) ht hT hg (by with_unfolding_all rfl)
noncomputable def cutV (xs : List V) (lo hi : Option Int) : List V := (xs.drop (HT.sIx xs.length 0 lo)).take (HT.sIx xs.length xs.length hi - HT.sIx xs.length 0 lo)
theorem cutV_length (xs : List V) (lo hi : Option Int) : (cutV xs lo hi).length ≤ xs.length := by
  unfold cutV
  rw [List.length_take, List.length_drop]
  omega
noncomputable def rSlT (K : PySem.W.Frag) : V → Option Int → Option Int → Hp → VK → Prop := fun x lo hi H Q => ∃ a xs, x = .ref a ∧ SqT K H a xs ∧
  ¬ (HT.sIx xs.length 0 lo = 0 ∧ HT.sIx xs.length xs.length hi = xs.length) ∧ ∀ p, H p = none → Q (.ref p) (upd H p (.tup (cutV xs lo hi)))
theorem sl_tup : SlR X (rSlT X.K) := by
  intro pins s σ H x v vl vu lo hi sl Q I rx hs pl pu h
  obtain ⟨a, xs, rfl, hx, hw, q⟩ := h
  cases rx
  obtain ⟨its, r, ht, hz⟩ := I.tuple hx
  have hlen : its.toArray.size = xs.length := by rw [List.size_toArray]; exact r.length.symm
  refine ⟨"tuple", _, PyProof.Rows.slot_tuple_getitem.lookup, ht.typeIs, ?_⟩
  refine HT.getItem_tuple_cut ht hs pl pu (by rw [hlen]; exact hw) ?_ (by rw [hlen]; exact hz)
  rw [hlen]
  refine ⟨.ref s.heap.objs.size, _, I.laid (t' := s.toks) (o := .tup (cutV xs lo hi)) (fun b ob q => Heap.get?_push_of_some _ q) (Nat.le_refl _) ?_, rfl, q _ (I.hok.fresh (Nat.le_refl _))⟩
  exact ⟨Nat.le_trans (cutV_length xs lo hi) hz, _, (r.drop (HT.sIx xs.length 0 lo)).take (HT.sIx xs.length xs.length hi - HT.sIx xs.length 0 lo), IsTup.new _ _⟩
noncomputable def rCatT (K : PySem.W.Frag) : R2 := fun x y H Q => ∃ a b xs ys, x = .ref a ∧ y = .ref b ∧ SqT K H a xs ∧ SqT K H b ys ∧ xs ≠ [] ∧ xs.length + ys.length ≤ sizeLine ∧
  (ys = [] → Q (.ref a) H) ∧ (ys ≠ [] → ∀ p, H p = none → Q (.ref p) (upd H p (.tup (xs ++ ys))))
theorem Vals.nil_iff {xs : List V} {us : List Value} (r : Vals xs us) : us = [] ↔ xs = [] := by
  cases r with
  | nil => simp
  | cons _ _ => simp
theorem op_catT : OpR X (binaryOp .Add) (rCatT X.K) := by
  intro pins s σ H x y v u Q I rx ry h
  obtain ⟨a, b, xs, ys, rfl, rfl, ha, hb, hx, hz, q1, q2⟩ := h
  cases rx
  cases ry
  obtain ⟨its, r1, p1, _⟩ := I.tuple ha
  obtain ⟨its2, r2, p2, _⟩ := I.tuple hb
  refine HT.cat_tup p1 p2 (fun z => hx (r1.nil_iff.mp z)) (fun z => ⟨.ref a, H, I, rfl, q1 (r2.nil_iff.mp z)⟩) (fun z => ?_) (by rw [← r1.length, ← r2.length]; exact hz)
  refine ⟨.ref s.heap.objs.size, _, I.laid (t' := s.toks) (o := .tup (xs ++ ys)) (fun b ob q => Heap.get?_push_of_some _ q) (Nat.le_refl _) ?_, rfl, q2 (fun w => z (r2.nil_iff.mpr w)) _ (I.hok.fresh (Nat.le_refl _))⟩
  exact ⟨by rw [List.length_append]; exact hz, _, r1.append r2, IsTup.new _ _⟩
end
end L2
namespace L2
open PySem PySem.Spec PyProof.Rows
noncomputable def ixN (n : Nat) (i : Int) : Option Nat := if 0 ≤ i then (if i < n then some i.toNat else none) else if -(n : Int) ≤ i then some (i + n).toNat else none
noncomputable def atI {α : Type} (xs : List α) (i : Int) : Option α := (ixN xs.length i).bind fun j => xs[j]?
theorem ixN_seq {n : Nat} {i : Int} {j : Nat} (h : ixN n i = some j) : seqIndex? i n = some j ∧ j < n ∧ -(n : Int) ≤ i ∧ i < n := by
  unfold ixN at h
  by_cases h0 : 0 ≤ i
  · rw [if_pos h0] at h
    by_cases h1 : i < n
    · rw [if_pos h1] at h
      have e : i.toNat = j := Option.some.inj h
      exact ⟨by rw [seqIndex_of h0 h1, e], by omega, by omega, h1⟩
    · rw [if_neg h1] at h; cases h
  · rw [if_neg h0] at h
    by_cases h1 : -(n : Int) ≤ i
    · rw [if_pos h1] at h
      have e : (i + n).toNat = j := Option.some.inj h
      exact ⟨by rw [seqIndex_neg (by omega) h1, e], by omega, h1, by omega⟩
    · rw [if_neg h1] at h; cases h
theorem atI_get {α : Type} {xs : List α} {i : Int} {v : α} (h : atI xs i = some v) : ∃ j, seqIndex? i xs.length = some j ∧ xs[j]? = some v ∧ j < xs.length ∧ -(xs.length : Int) ≤ i ∧ i < xs.length := by
  unfold atI at h
  cases e : ixN xs.length i with
  | none => rw [e] at h; cases h
  | some j =>
    rw [e] at h
    obtain ⟨h1, h2, h3, h4⟩ := ixN_seq e
    exact ⟨j, h1, h, h2, h3, h4⟩
theorem atI_nat {α : Type} {xs : List α} {j : Nat} {v : α} (h : xs[j]? = some v) : atI xs (j : Int) = some v := by
  have hj : j < xs.length := (List.getElem?_eq_some_iff.mp h).1
  have e : ixN xs.length (j : Int) = some j := by
    unfold ixN
    rw [if_pos (by omega), if_pos (by omega)]; simp
  unfold atI; rw [e]; exact h
theorem atI_last {α : Type} (xs : List α) (v : α) : atI (xs ++ [v]) (-1) = some v := by
  have hl : (xs ++ [v]).length = xs.length + 1 := by simp
  have e : ixN (xs ++ [v]).length (-1) = some xs.length := by
    unfold ixN
    rw [hl, if_neg (by decide), if_pos (by omega)]
    congr 1
    omega
  unfold atI
  rw [e]
  show (xs ++ [v])[xs.length]? = some v
  simp
noncomputable def PlainIx (b : Expr) : Prop := ∀ o i, subscripted b false o i = operate [o, i] (getItem o i)
noncomputable def IxR (X : Cx) (r : R2) : Prop :=
  ∀ (value slice : Expr) (pins : List (Addr × Obj)) (s : Shared) (σ : St) (H : Hp) (x y : V) (v u : Value) (Q : VK), Inv X pins σ H s → RelV x v → RelV y u → r x y H Q →
    subscripted slice false v u = operate [v, u] (getItem v u) → wpAny (model X.prog X.w) X.A (subscriptTail value slice v u) (EP X pins σ Q) X.xe s
noncomputable def MtR (X : Cx) (id : String) (r : V → List V → Hp → VK → Prop) : Prop :=
  ∀ (pins : List (Addr × Obj)) (s : Shared) (σ : St) (H : Hp) (x : V) (xs : List V) (v : Value) (us : List Value) (Q : VK), Inv X pins σ H s → RelV x v → Vals xs us → r x xs H Q →
    wpAny (model X.prog X.w) X.A (call (.builtin id) (v :: us)) (EP X pins σ Q) X.xe s
section
variable {X : Cx} {a b : Expr} {ta tb : TE} {pos : Pos}
theorem pe_ix {r : R2} (hr : IxR X r) (ha : PE X a ta) (hb : PE X b tb) (hs : PlainIx b) : PE X (.Subscript a b pos) (tOp r ta tb) := by
  intro pins s σ H Q I h
  exact Subscript_ (binT ha hb I h fun v u s2 x y H2 I2 rx ry q => hr a b pins s2 σ H2 x y v u Q I2 rx ry q (hs _ _))
noncomputable def rIxL (K : PySem.W.Frag) : R2 := fun x y H Q => ∃ p xs i v, x = .ref p ∧ y = .int i ∧ SqL K H p xs ∧ atI xs i = some v ∧ Q v H
noncomputable def rIxT (K : PySem.W.Frag) : R2 := fun x y H Q => ∃ p xs i v, x = .ref p ∧ y = .int i ∧ SqT K H p xs ∧ atI xs i = some v ∧ Q v H
noncomputable def rIxS : R2 := fun x y H Q => ∃ z i c, x = .str z ∧ y = .int i ∧ z.length ≤ sizeLine ∧ atI z.cps.toList i = some c ∧ Q (.str ⟨#[c]⟩) H
theorem ix_list : IxR X (rIxL X.K) := by
  intro value slice pins s σ H x y v u Q I rx ry h hs
  obtain ⟨p, xs, i, z, rfl, rfl, hq, he, q⟩ := h
  cases rx
  obtain ⟨t, rfl⟩ := ry
  obtain ⟨its, r, pl, hz⟩ := I.list hq
  obtain ⟨j, h1, h2, h3, h4, h5⟩ := atI_get he
  obtain ⟨w, ew, rw'⟩ := r.get h2
  have hl := r.length
  have hn := line63
  have fin : EP X pins σ Q w s := ⟨z, H, I, rw', q⟩
  by_cases h0 : 0 ≤ i
  · have hj : i.toNat = j := by
      rw [seqIndex_of h0 h5] at h1
      exact Option.some.inj h1
    exact item_listR pl.isList h0 (by omega) (by rw [hj]; simpa using ew) fin hs
  · have hj : (i + (its.toArray.size : Int)).toNat = j := by
      rw [seqIndex_neg (by omega) h4] at h1
      rw [List.size_toArray, ← hl]
      exact Option.some.inj h1
    exact subscriptTail_builtinR (x := w) pl.isList.typeIs slot_list_getitem.lookup
      (wpAny_getItem_list_neg (Q := fun r s' => r = w ∧ EP X pins σ Q r s') pl.isList (by omega) (by rw [List.size_toArray] <;> omega) (by omega) (by rw [hj]; simpa using ew) ⟨rfl, fin⟩) hs
theorem ix_tup : IxR X (rIxT X.K) := by
  intro value slice pins s σ H x y v u Q I rx ry h hs
  obtain ⟨p, xs, i, z, rfl, rfl, hq, he, q⟩ := h
  cases rx
  obtain ⟨t, rfl⟩ := ry
  obtain ⟨its, r, pl, hz⟩ := I.tuple hq
  obtain ⟨j, h1, h2, h3, h4, h5⟩ := atI_get he
  obtain ⟨w, ew, rw'⟩ := r.get h2
  have hl := r.length
  have hn := line63
  have fin : EP X pins σ Q w s := ⟨z, H, I, rw', q⟩
  exact subscriptTail_builtinR (x := w) pl.typeIs slot_tuple_getitem.lookup
    (getItem_tuple (j := j) (Q := fun r s' => r = w ∧ EP X pins σ Q r s') pl (by omega) (by omega) (by rw [List.size_toArray, ← hl]; exact h1) (by simpa using ew) ⟨rfl, fin⟩) hs
theorem ix_str : IxR X rIxS := by
  intro value slice pins s σ H x y v u Q I rx ry h hs
  obtain ⟨z, i, c, rfl, rfl, hz, he, q⟩ := h
  obtain ⟨t, rfl⟩ := rx
  obtain ⟨t', rfl⟩ := ry
  obtain ⟨j, h1, h2, h3, h4, h5⟩ := atI_get he
  have hl : z.cps.toList.length = z.length := by simp [Str.length]
  rw [hl] at h1 h4 h5
  have hn := line63
  exact tail_any (typeIs_str s z t) slot_str_getitem.lookup (getItem_str (c := c) (by
    have e1 : decide (i < -(2 ^ 63 : Int)) = false := decide_eq_false (by omega)
    have e2 : decide (i ≥ 2 ^ 63) = false := decide_eq_false (by omega)
    rw [e1, e2, Bool.or_false]) (by rw [h1]; simpa using h2) ⟨.str ⟨#[c]⟩, H, I.tok _, ⟨_, rfl⟩, q⟩) hs
theorem mapSeq_set (its : List Value) (n j : Nat) (u : Value) : Obj.mapSeq (·.setIfInBounds j u) { cls := .type "list", data := .seq its.toArray n } = { cls := .type "list", data := .seq (its.set j u).toArray n } := by
  simp [Obj.mapSeq]
theorem Inv.lst {pins : List (Addr × Obj)} {σ : St} {H : Hp} {s : Shared} {p : Addr} {xs : List V} (I : Inv X pins σ H s) (h : H p = some (.lst xs)) :
    ∃ (its : List Value) (n : Nat), Vals xs its ∧ s.heap.get? p = some { cls := .type "list", data := .seq its.toArray n } ∧ xs.length ≤ sizeLine := by
  obtain ⟨z, its, n, r, e⟩ := I.hok p _ h
  exact ⟨its, n, r, e, z⟩
theorem Inv.lstUpd {pins : List (Addr × Obj)} {σ : St} {H : Hp} {s : Shared} {p : Addr} {xs ys : List V} {its its' : List Value} {n n' : Nat} {f : Obj → Obj} (I : Inv X pins σ H s) (h : H p = some (.lst xs))
    (ho : s.heap.get? p = some { cls := .type "list", data := .seq its.toArray n }) (hf : f { cls := .type "list", data := .seq its.toArray n } = { cls := .type "list", data := .seq its'.toArray n' }) (r : Vals ys its') (hz : ys.length ≤ sizeLine) (t : Nat) :
    Inv X pins σ (upd H p (.lst ys)) { s with heap := s.heap.update p f, toks := t } := by
  have e : (s.heap.update p f).get? p = some { cls := .type "list", data := .seq its'.toArray n' } := by
    rw [Heap.get?_update_self f ho (by rw [hf] <;> rfl), hf]
  refine I.write (x := p) (e := p) (by rw [h]; trivial) (.inl rfl) (fun b u hb q => (Heap.get?_update_other _ _ (Ne.symm hb)).trans q) ⟨_, e⟩ ?_
  exact ⟨hz, its', n', r, e⟩
noncomputable def rSetL : V → V → V → Hp → (Hp → Prop) → Prop := fun o i v H Q => ∃ p xs k j, o = .ref p ∧ i = .int k ∧ H p = some (.lst xs) ∧ ixN xs.length k = some j ∧ Q (upd H p (.lst (xs.set j v)))
theorem set_list : PSet X rSetL := by
  intro pins s σ H o i v ov iv u Q I ro ri rv h
  obtain ⟨p, xs, k, j, rfl, rfl, hp, hj, q⟩ := h
  cases ro
  obtain ⟨t, rfl⟩ := ri
  obtain ⟨its, n, r, ho, hz⟩ := I.lst hp
  obtain ⟨h1, h2, h3, h4⟩ := ixN_seq hj
  have hl := r.length
  have hn := line63
  have I' : Inv X pins σ (upd H p (.lst (xs.set j v))) { s with heap := s.heap.update p (Obj.mapSeq (·.setIfInBounds j u)) } :=
    I.lstUpd hp ho (mapSeq_set its n j u) (r.set rv j) (by rw [List.length_set]; exact hz) s.toks
  by_cases h0 : 0 ≤ k
  · have hk : k.toNat = j := by
      rw [seqIndex_of h0 h4] at h1
      exact Option.some.inj h1
    exact PySem.W.ki_setAt ho h0 (by omega) (by rw [List.size_toArray, ← hl]; exact h4) (by rw [hk]; exact ⟨_, I', q⟩)
  · have hk : (k + (its.toArray.size : Int)).toNat = j := by
      rw [seqIndex_neg (by omega) h3] at h1
      rw [List.size_toArray, ← hl]
      exact Option.some.inj h1
    exact PySem.W.ki_setBack ho (by omega) (by rw [List.size_toArray, ← hl]; exact h3) (by omega) (by rw [hk]; exact ⟨_, I', q⟩)
theorem slice_bounds (lo hi : Option Int) (n : Nat) : (sliceBounds lo hi none n).1 = ((HT.sIx n 0 lo : Nat) : Int) ∧ (sliceBounds lo hi none n).2.1 = ((HT.sIx n n hi : Nat) : Int) ∧ (sliceBounds lo hi none n).2.2 = 1 := by
  refine ⟨?_, ?_, rfl⟩
  · cases lo with
    | none => simp [sliceBounds, HT.sIx]
    | some i =>
      simp only [sliceBounds, HT.sIx, Option.getD_none, show (1 : Int) > 0 by decide, if_true]
      by_cases h : i < 0
      · simp only [h, if_true] <;> omega
      · simp only [h, if_false] <;> omega
  · cases hi with
    | none => simp [sliceBounds, HT.sIx]
    | some i =>
      simp only [sliceBounds, HT.sIx, Option.getD_none, show (1 : Int) > 0 by decide, if_true]
      by_cases h : i < 0
      · simp only [h, if_true] <;> omega
      · simp only [h, if_false] <;> omega
theorem slicePick_cut (its : List Value) (lo hi : Option Int) : slicePick its.toArray lo hi none = ((its.drop (HT.sIx its.length 0 lo)).take (HT.sIx its.length its.length hi - HT.sIx its.length 0 lo)).toArray := by
  obtain ⟨h1, h2, h3⟩ := slice_bounds lo hi its.toArray.size
  unfold slicePick
  rw [h1, h2, h3]
  simp only [sliceRange_one, pick_run, List.size_toArray] <;> rfl
noncomputable def rSlL (K : PySem.W.Frag) : V → Option Int → Option Int → Hp → VK → Prop := fun x lo hi H Q => ∃ a xs, x = .ref a ∧ SqL K H a xs ∧ ∀ p, H p = none → Q (.ref p) (upd H p (.lst (cutV xs lo hi)))
theorem sl_list : SlR X (rSlL X.K) := by
  intro pins s σ H x v vl vu lo hi sl Q I rx hs pl pu h
  obtain ⟨a, xs, rfl, hx, q⟩ := h
  cases rx
  obtain ⟨its, r, ht, hz⟩ := I.list hx
  have hlen := r.length
  refine ⟨"list", _, slot_list_getitem.lookup, ht.isList.typeIs, ?_⟩
  refine wpAny_getItem_list_slice ht.isList hs pl pu .none (by simp) ?_ (by rw [List.size_toArray] <;> omega)
  rw [slicePick_cut, ← hlen]
  refine ⟨.ref s.heap.objs.size, _, I.laid (t' := s.toks) (o := .lst (cutV xs lo hi)) (fun b ob q => Heap.get?_push_of_some _ q) (Nat.le_refl _) ?_, rfl, q _ (I.hok.fresh (Nat.le_refl _))⟩
  exact ⟨Nat.le_trans (cutV_length xs lo hi) hz, _, 0, (r.drop (HT.sIx xs.length 0 lo)).take (HT.sIx xs.length xs.length hi - HT.sIx xs.length 0 lo), Heap.get?_push_size _ rfl⟩
noncomputable def flatV : V → Bool
  | .non => true
  | .bl _ => true
  | .int _ => true
  | .str _ => true
  | _ => false
noncomputable def eqV : V → V → Bool
  | .non, .non => true
  | .bl a, .bl b => a == b
  | .bl a, .int b => (if a then 1 else 0) == b
  | .int a, .bl b => a == (if b then 1 else 0)
  | .int a, .int b => a == b
  | .str a, .str b => a == b
  | _, _ => false
theorem eqAt_V {A : Around} {s : Shared} {y x : V} {u v : Value} (ry : RelV y u) (rx : RelV x v) (fy : flatV y = true) (fx : flatV x = true) : SeqAt.EqAt A s u v (eqV y x) := by
  cases y with
  | non =>
    cases ry
    cases x with
    | non => cases rx; exact SeqAt.EqAt.same _
    | bl b => cases rx; exact SeqAt.EqAt.none_bool b
    | int b => obtain ⟨t, rfl⟩ := rx; exact SeqAt.EqAt.none_int b t
    | str b => obtain ⟨t, rfl⟩ := rx; exact SeqAt.EqAt.none_str b t
    | _ => exact absurd (show false = true from fx) Bool.false_ne_true
  | bl a =>
    cases ry
    cases x with
    | non => cases rx; exact SeqAt.EqAt.bool_none a
    | bl b => cases rx; exact SeqAt.EqAt.bool_bool a b
    | int b => obtain ⟨t, rfl⟩ := rx; exact SeqAt.EqAt.bool_int a b t
    | str b => obtain ⟨t, rfl⟩ := rx; exact SeqAt.EqAt.bool_str a b t
    | _ => exact absurd (show false = true from fx) Bool.false_ne_true
  | int a =>
    obtain ⟨t', rfl⟩ := ry
    cases x with
    | non => cases rx; exact SeqAt.EqAt.int_none a t'
    | bl b => cases rx; exact SeqAt.EqAt.int_bool a t' b
    | int b => obtain ⟨t, rfl⟩ := rx; exact SeqAt.EqAt.int_int a t' b t
    | str b => obtain ⟨t, rfl⟩ := rx; exact SeqAt.EqAt.int_str a t' b t
    | _ => exact absurd (show false = true from fx) Bool.false_ne_true
  | str a =>
    obtain ⟨t', rfl⟩ := ry
    cases x with
    | non => cases rx; exact SeqAt.EqAt.str_none a t'
    | bl b => cases rx; exact SeqAt.EqAt.str_bool a t' b
    | int b => obtain ⟨t, rfl⟩ := rx; exact SeqAt.EqAt.str_int a t' b t
    | str b => obtain ⟨t, rfl⟩ := rx; exact SeqAt.EqAt.str_str a t' b t
    | _ => exact absurd (show false = true from fx) Bool.false_ne_true
  | _ => exact absurd (show false = true from fy) Bool.false_ne_true
noncomputable def eqU (x : V) (u : Value) : Bool := match u with
  | .none => eqV .non x
  | .bool b => eqV (.bl b) x
  | .int i _ => eqV (.int i) x
  | .str z _ => eqV (.str z) x
  | _ => false
theorem eqU_of {x y : V} {u : Value} (r : RelV y u) (f : flatV y = true) : eqU x u = eqV y x := by
  cases y with
  | non => cases r; rfl
  | bl b => cases r; rfl
  | int i => obtain ⟨t, rfl⟩ := r; rfl
  | str z => obtain ⟨t, rfl⟩ := r; rfl
  | _ => exact absurd (show false = true from f) Bool.false_ne_true
theorem any_eqU {x : V} : ∀ {xs : List V} {us : List Value}, Vals xs us → xs.all flatV = true → us.any (eqU x) = xs.any fun y => eqV y x
  | _, _, .nil, _ => rfl
  | y :: xs, u :: us, .cons r t, f => by
    rw [List.all_cons, Bool.and_eq_true] at f
    rw [List.any_cons, List.any_cons, eqU_of r f.1, any_eqU t f.2]
theorem mem_eqAt {A : Around} {s : Shared} {x : V} {v : Value} (rx : RelV x v) (fx : flatV x = true) : ∀ {xs : List V} {us : List Value}, Vals xs us → xs.all flatV = true → ∀ u ∈ us, SeqAt.EqAt A s u v (eqU x u)
  | _, _, .nil, _ => fun u hu => by cases hu
  | y :: xs, u :: us, .cons r t, f => fun u' hu => by
    rw [List.all_cons, Bool.and_eq_true] at f
    rcases List.mem_cons.mp hu with rfl | hu
    · rw [eqU_of r f.1]; exact eqAt_V r rx f.1 fx
    · exact mem_eqAt rx fx t f.2 u' hu
noncomputable def inV (x : V) (xs : List V) : Bool := xs.any fun y => eqV y x
noncomputable def rIn (K : PySem.W.Frag) (neg : Bool) : R2 := fun x y H Q => ∃ p xs, y = .ref p ∧ (SqL K H p xs ∨ SqT K H p xs) ∧ flatV x = true ∧ xs.all flatV = true ∧ Q (.bl (if neg then !inV x xs else inV x xs)) H
theorem op_in_seq : OpR X (compareOp .In) (rIn X.K false) := by
  intro pins s σ H x y v u Q I rx ry h
  obtain ⟨p, xs, rfl, hq, fx, fs, q⟩ := h
  cases ry
  rcases hq with hq | hq
  · obtain ⟨its, r, pl, hz⟩ := I.list hq
    refine SeqAt.in_listAt (eqU x) pl.isList (fun w hw => mem_eqAt rx fx r fs w (by simpa using hw)) ⟨.bl _, H, I, rfl, ?_⟩
    rw [show its.toArray.any (eqU x) = its.any (eqU x) by simp, any_eqU r fs]
    exact q
  · obtain ⟨its, r, pl, hz⟩ := I.tuple hq
    refine SeqAt.in_tupleAt (eqU x) pl (fun w hw => mem_eqAt rx fx r fs w (by simpa using hw)) ⟨.bl _, H, I, rfl, ?_⟩
    rw [show its.toArray.any (eqU x) = its.any (eqU x) by simp, any_eqU r fs]
    exact q
theorem op_notIn_seq : OpR X (compareOp .NotIn) (rIn X.K true) := by
  intro pins s σ H x y v u Q I rx ry h
  obtain ⟨p, xs, rfl, hq, fx, fs, q⟩ := h
  cases ry
  rcases hq with hq | hq
  · obtain ⟨its, r, pl, hz⟩ := I.list hq
    refine SeqAt.notIn_listAt (eqU x) pl.isList (fun w hw => mem_eqAt rx fx r fs w (by simpa using hw)) ⟨.bl _, H, I, rfl, ?_⟩
    rw [show its.toArray.any (eqU x) = its.any (eqU x) by simp, any_eqU r fs]
    exact q
  · obtain ⟨its, r, pl, hz⟩ := I.tuple hq
    refine SeqAt.notIn_tupleAt (eqU x) pl (fun w hw => mem_eqAt rx fx r fs w (by simpa using hw)) ⟨.bl _, H, I, rfl, ?_⟩
    rw [show its.toArray.any (eqU x) = its.any (eqU x) by simp, any_eqU r fs]
    exact q
theorem call_len_seq : CallR X (.builtin "len") (fun xs H Q => ∃ p ys, xs = [.ref p] ∧ (SqL X.K H p ys ∨ SqT X.K H p ys) ∧ Q (.int ys.length) H) := by
  intro pins s σ H xs us Q I r h
  obtain ⟨p, ys, rfl, hq, q⟩ := h
  obtain ⟨u, rfl, rx⟩ := vals1 r
  cases rx
  have hn := line63
  rcases hq with hq | hq
  · obtain ⟨its, r', pl, hz⟩ := I.list hq
    have hlen := r'.length
    exact Calls.call_len_list pl.isList (by simp only [List.size_toArray] <;> omega) ⟨.int ys.length, H, I.tok _, ⟨s.toks + 1, by rw [List.size_toArray, hlen]⟩, q⟩
  · obtain ⟨its, r', pl, hz⟩ := I.tuple hq
    have hlen := r'.length
    exact len_tuple pl (by simp only [List.size_toArray] <;> omega) ⟨.int ys.length, H, I.tok _, ⟨s.toks + 1, by rw [List.size_toArray, hlen]⟩, q⟩
theorem call_list_of : CallR X (.type "list") (fun xs H Q => ∃ p ys, xs = [.ref p] ∧ (SqL X.K H p ys ∨ SqT X.K H p ys) ∧ ∀ l, H l = none → Q (.ref l) (upd H l (.lst ys))) := by
  intro pins s σ H xs us Q I r h
  obtain ⟨p, ys, rfl, hq, q⟩ := h
  obtain ⟨u, rfl, rx⟩ := vals1 r
  cases rx
  have fin : ∀ (its : List Value), Vals ys its → ys.length ≤ sizeLine → ∀ (h' : Heap) (c' : Nat), (∀ b o', s.heap.get? b = some o' → h'.get? b = some o') →
      h'.get? s.heap.objs.size = some { cls := .type "list", dict := none, data := .seq its.toArray c', slots := #[] } → EP X pins σ Q (.ref s.heap.objs.size) { s with heap := h' } := fun its r' hz h' c' kp e =>
    ⟨.ref s.heap.objs.size, _, I.laid (t' := s.toks) kp (Nat.le_refl _) (show ObjOk X.prog X.w _ h' _ (.lst ys) from ⟨hz, its, c', r', e⟩), rfl, q _ (I.hok.fresh (Nat.le_refl _))⟩
  rcases hq with hq | hq
  · obtain ⟨its, r', pl, hz⟩ := I.list hq
    have hlen := r'.length
    obtain ⟨o, ho, hc, n, hd⟩ := pl.isList
    exact call_list_seq p (.inl rfl) ho hc hd (fun h' c' kp e => fin its r' hz h' c' kp e) (by simp only [List.size_toArray] <;> omega)
  · obtain ⟨its, r', pl, hz⟩ := I.tuple hq
    have hlen := r'.length
    obtain ⟨o, ho, hc, n, hd⟩ := pl
    exact call_list_seq p (.inr rfl) ho hc hd (fun h' c' kp e => fin its r' hz h' c' kp e) (by simp only [List.size_toArray] <;> omega)
theorem call_tuple_of : CallR X (.type "tuple") (fun xs H Q => ∃ p ys, xs = [.ref p] ∧ ((SqL X.K H p ys ∧ ∀ l, H l = none → Q (.ref l) (upd H l (.tup ys))) ∨ (SqT X.K H p ys ∧ Q (.ref p) H))) := by
  intro pins s σ H xs us Q I r h
  obtain ⟨p, ys, rfl, h⟩ := h
  obtain ⟨u, rfl, rx⟩ := vals1 r
  cases rx
  rcases h with ⟨hq, q⟩ | ⟨hq, q⟩
  · obtain ⟨its, r', pl, hz⟩ := I.list hq
    have hlen := r'.length
    refine call_tuple_list pl.isList (fun h' kp => ?_) (by simp only [List.size_toArray] <;> omega)
    have I1 : Inv X pins σ H { s with heap := h' } := I.kept (t' := s.toks) kp
    have I2 : Inv X pins σ (upd H h'.objs.size (.tup ys)) { s with heap := h'.push { cls := .type "tuple", data := .seq its.toArray } } :=
      I1.laid (t' := s.toks) (fun b o e => Heap.get?_push_of_some _ e) (Nat.le_refl _) (show ObjOk X.prog X.w _ _ _ (.tup ys) from ⟨hz, its, r', IsTup.new _ _⟩)
    exact ⟨.ref h'.objs.size, _, I2, rfl, q _ (I1.hok.fresh (Nat.le_refl _))⟩
  · obtain ⟨its, r', pl, hz⟩ := I.tuple hq
    exact call_tuple_same pl ⟨.ref p, H, I, rfl, q⟩
noncomputable def tyV (K : PySem.W.Frag) (T : String) (x : V) (H : Hp) : Prop := match x with
  | .str _ => T = "str"
  | .int _ => T = "int"
  | .ref p => (T = "list" ∧ ∃ xs, SqL K H p xs) ∨ (T = "tuple" ∧ ∃ o, K.lookup p = some o ∧ o.cls = .type "tuple" ∧ o.dict = none) ∨
      (T = "dict" ∧ ((∃ kvs, H p = some (.dK kvs)) ∨ ∃ kvs, H p = some (.dT kvs))) ∨ (T = "set" ∧ ∃ S n, H p = some (.set S n))
  | _ => False
theorem tyV_is {pins : List (Addr × Obj)} {σ : St} {H : Hp} {s : Shared} {T : String} {x : V} {v : Value} (I : Inv X pins σ H s) (r : RelV x v) (ty : tyV X.K T x H) :
    s.TypeIs v T ∧ ∀ a, v = .ref a → ∃ ob, s.heap.get? a = some ob ∧ ob.dict = none := by
  cases x with
  | str z =>
    obtain ⟨t, rfl⟩ := r
    cases (show T = "str" from ty)
    exact ⟨typeIs_str s z t, fun _ e => nomatch e⟩
  | int i =>
    obtain ⟨t, rfl⟩ := r
    cases (show T = "int" from ty)
    exact ⟨typeIs_int s i t, fun _ e => nomatch e⟩
  | ref p =>
    cases r
    rcases ty with ⟨rfl, xs, hq⟩ | ⟨rfl, o, hk, hc, hd⟩ | ⟨rfl, hk⟩ | ⟨rfl, S, n, hk⟩
    · obtain ⟨its, _, pl, _⟩ := I.list hq
      refine ⟨pl.isList.typeIs, fun a e => ?_⟩
      cases e
      obtain ⟨o, n, e, c, hd, _⟩ := pl
      exact ⟨o, e, hd⟩
    · refine ⟨⟨o, I.kIn p o hk, hc⟩, fun a e => ?_⟩
      cases e
      exact ⟨o, I.kIn _ o hk, hd⟩
    · have z : ∃ o, s.heap.get? p = some o ∧ o.ExactDict := by
        rcases hk with ⟨kvs, hk⟩ | ⟨kvs, hk⟩
        · obtain ⟨_, _, _, _, o, _, _, e, ex, _⟩ := I.hok p _ hk
          exact ⟨o, e, ex⟩
        · obtain ⟨_, _, _, _, o, _, _, e, ex, _⟩ := I.hok p _ hk
          exact ⟨o, e, ex⟩
      obtain ⟨o, e, ex⟩ := z
      refine ⟨⟨o, e, ex.1⟩, fun a e2 => ?_⟩
      cases e2
      exact ⟨o, e, ex.2.1⟩
    · obtain ⟨o, _, _, _, e, ex, _⟩ := I.hok p _ hk
      refine ⟨⟨o, e, ex.1⟩, fun a e2 => ?_⟩
      cases e2
      exact ⟨o, e, ex.2.1⟩
  | _ => exact False.elim ty
noncomputable def tBM0 (K : PySem.W.Frag) (T : String) (r : V → List V → Hp → VK → Prop) (to : TE) : TE := fun σ H Q => to σ H fun x H1 => tyV K T x H1 ∧ r x [] H1 Q
noncomputable def tBM (K : PySem.W.Frag) (T : String) (r : V → List V → Hp → VK → Prop) (to : TE) (t : TA) : TE := fun σ H Q => to σ H fun x H1 => tyV K T x H1 ∧ t σ H1 fun xs H2 => r x xs H2 Q
variable {o e : Expr} {es : List Expr} {to : TE} {t : TA} {name : Str} {apos cpos : Pos} {T id : String} {r : V → List V → Hp → VK → Prop}
theorem pe_bm0 (pa : PlainAttrs T) (slot : Slot T name id) (hty : typeOf (.builtin id) = pure (.type "method_descriptor")) (hm : MtR X id r) (ho : PE X o to)
    (hbase : attributeBase o name X.env (eval o X.env) = eval o X.env := by rfl) (hline : (apos.endLine == cpos.line) = true := by rfl) : PE X (.Call (.Attribute o name apos) [] [] cpos) (tBM0 X.K T r to) := by
  intro pins s σ H Q I h
  refine wpAny_Call_method0_late hbase hline (thn (ho pins s σ H _ I h) fun v s1 ⟨x, H1, I1, r1, ty, q1⟩ => ?_)
  obtain ⟨h1, h2⟩ := tyV_is I1 r1 ty
  exact ⟨T, id, pa, slot, hty, h1, h2, Calls.callWith_builtin rfl (PySem.evalArgs_none (hm pins s1 σ H1 x [] v [] Q I1 r1 .nil q1))⟩
theorem pe_bm (pa : PlainAttrs T) (slot : Slot T name id) (hty : typeOf (.builtin id) = pure (.type "method_descriptor")) (hm : MtR X id r) (ho : PE X o to) (ha : PA X (e :: es) t)
    (hbase : attributeBase o name X.env (eval o X.env) = eval o X.env := by rfl)
    (hfew : ((backTo cpos (starEach (e :: es) X.env)).all (fun x => !x.1) && (backToKw cpos (keywordEach [] X.env)).all (fun x => x.1.isSome)
      && decide ((e :: es).length + ([] : List Keyword).length + (if ([] : List Keyword).isEmpty then 0 else 1) < 30)) = true := by rfl)
    (hline : (apos.endLine == cpos.line) = true := by rfl) (hs : starEach (e :: es) X.env = (false, eval e X.env) :: starEach es X.env := by rfl) (hplain : (backTo cpos (starEach es X.env)).any (·.1) = false := by rfl) :
    PE X (.Call (.Attribute o name apos) (e :: es) [] cpos) (tBM X.K T r to t) := by
  intro pins s σ H Q I h
  refine wpAny_Call_method_late hbase hfew hline rfl (thn (ho pins s σ H _ I h) fun v s1 ⟨x, H1, I1, r1, ty, q1⟩ => ?_)
  obtain ⟨h1, h2⟩ := tyV_is I1 r1 ty
  refine ⟨T, id, pa, slot, hty, h1, h2, ?_⟩
  have hA := ha cpos pins s1 σ H1 _ I1 q1
  rw [hs] at hA ⊢
  refine Calls.callWith_builtin (by show (false || (backTo cpos (starEach es X.env)).any (·.1)) = false; rw [hplain] <;> rfl) (Calls.evalArgs_plain ?_)
  exact thn hA fun us s2 ⟨vs, H2, I2, r2, q2⟩ => hm pins s2 σ H2 x vs v us Q I2 r1 r2 q2
end
end L2
namespace L2
open PySem PySem.Spec PyProof.Rows
noncomputable def MtM (X : Cx) (id : String) (r : V → List V → Hp → VK → Prop) : Prop :=
  ∀ (pins : List (Addr × Obj)) (s : Shared) (σ : St) (H : Hp) (x : V) (xs : List V) (v : Value) (us : List Value) (Q : VK), Inv X pins σ H s → RelV x v → Vals xs us → r x xs H Q →
    wpAny (model X.prog X.w) X.A (call (.builtin id) (v :: us)) (EP X pins σ Q) X.xe s
theorem Vals.one : ∀ {x : V} {us : List Value}, Vals [x] us → ∃ u, us = [u] ∧ RelV x u
  | _, _, .cons r .nil => ⟨_, rfl, r⟩
theorem Vals.two : ∀ {x y : V} {us : List Value}, Vals [x, y] us → ∃ u v, us = [u, v] ∧ RelV x u ∧ RelV y v
  | _, _, _, .cons r (.cons q .nil) => ⟨_, _, rfl, r, q⟩
theorem Vals.zero : ∀ {us : List Value}, Vals [] us → us = []
  | _, .nil => rfl
theorem Vals.dropLast {xs : List V} {us : List Value} (h : Vals xs us) : Vals xs.dropLast us.dropLast := by
  induction h with
  | nil => exact .nil
  | cons r t ih =>
    cases t with
    | nil => exact .nil
    | cons q t' => exact .cons r ih
theorem erase_last {α : Type} (l : List α) : l.eraseIdx (l.length - 1) = l.dropLast := by
  induction l with
  | nil => rfl
  | cons a r ih =>
    cases r with
    | nil => rfl
    | cons b r =>
      have e : (a :: b :: r).length - 1 = ((b :: r).length - 1) + 1 := by
        have h1 : (a :: b :: r).length = r.length + 2 := rfl
        have h2 : (b :: r).length = r.length + 1 := rfl
        omega
      rw [e, List.eraseIdx_cons_succ, ih]
      all_goals rfl
section
variable {X : Cx} {pins : List (Addr × Obj)} {σ : St} {H : Hp} {s : Shared} {l b : Addr} {xs ys zs : List V}
theorem Inv.lset {its its' : List Value} {n : Nat} {f : Array Value → Array Value} {t' : Nat} (I : Inv X pins σ H s) (hH : H l = some (.lst xs))
    (e : s.heap.get? l = some { cls := .type "list", data := .seq its.toArray n }) (hf : f its.toArray = its'.toArray) (hv : Vals ys its') (hz : ys.length ≤ sizeLine) :
    Inv X pins σ (upd H l (.lst ys)) { s with heap := s.heap.update l (Obj.mapSeq f), toks := t' } := by
  have q := PySem.IsL.update e f
  rw [hf] at q
  refine I.write (x := l) (e := l) (by rw [hH]; exact trivial) (.inl rfl) (fun b' u hb hu => (Heap.get?_update_other s.heap (Obj.mapSeq f) (Ne.symm hb)).trans hu) ⟨_, q⟩ ?_
  exact ⟨hz, its', _, hv, q⟩
theorem Inv.lnew {its : List Value} {t' : Nat} (I : Inv X pins σ H s) (hv : Vals ys its) (hz : ys.length ≤ sizeLine) :
    Inv X pins σ (upd H s.heap.objs.size (.lst ys)) { s with heap := s.heap.push { cls := .type "list", data := .seq its.toArray }, toks := t' } :=
  I.laid (fun _ _ q => Heap.get?_push_of_some _ q) (Nat.le_refl _) ⟨hz, its, 0, hv, Heap.get?_push_size _ rfl⟩
theorem Inv.fresh (I : Inv X pins σ H s) : H s.heap.objs.size = none := I.hok.fresh (Nat.le_refl _)
theorem Inv.lstM (I : Inv X pins σ H s) (hH : H l = some (.lst xs)) : xs.length ≤ sizeLine ∧ ∃ (its : List Value) (n : Nat), Vals xs its ∧ xs.length = its.length ∧ s.heap.get? l = some { cls := .type "list", data := .seq its.toArray n } := by
  obtain ⟨z, its, n, r, e⟩ := I.hok l _ hH
  exact ⟨z, its, n, r, r.length, e⟩
theorem notLongL {n : Nat} (h : n ≤ sizeLine) : Builtin.List.listTooLong n = false := by
  unfold Builtin.List.listTooLong
  exact decide_eq_false (by omega)
end
section
variable {X : Cx}
noncomputable def rAppend : V → List V → Hp → VK → Prop := fun x vs H Q => ∃ l xs y, x = .ref l ∧ vs = [y] ∧ H l = some (.lst xs) ∧ xs.length < sizeLine ∧ Q .non (upd H l (.lst (xs ++ [y])))
theorem mt_append : MtM X "list.append" rAppend := by
  intro pins s σ H x vs v us Q I rx rv h
  obtain ⟨l, xs, y, rfl, rfl, hH, hz, q⟩ := h
  cases rx
  obtain ⟨u, rfl, ru⟩ := rv.one
  obtain ⟨z, its, n, r, hl, e⟩ := I.lstM hH
  refine call_meets F.slot_list_append ⟨_, e, rfl⟩ F.entry_list_append (F.args_list_append_2 _ _) (PySem.list_append l its.toArray n u (by rw [List.size_toArray]; omega)) ⟨e, ?_⟩
  refine ⟨.non, _, I.lset (its' := its ++ [u]) hH e (by simp) (r.append (.cons ru .nil)) ?_, rfl, q⟩
  rw [List.length_append, List.length_singleton]
  omega
noncomputable def rExtend : V → List V → Hp → VK → Prop := fun x vs H Q => ∃ l b xs zs, x = .ref l ∧ vs = [.ref b] ∧ H l = some (.lst xs) ∧ H b = some (.lst zs) ∧ xs.length + zs.length ≤ sizeLine ∧ Q .non (upd H l (.lst (xs ++ zs)))
theorem mt_extend : MtM X "list.extend" rExtend := by
  intro pins s σ H x vs v us Q I rx rv h
  obtain ⟨l, b, xs, zs, rfl, rfl, hH, hB, hz, q⟩ := h
  cases rx
  obtain ⟨u, rfl, ru⟩ := rv.one
  cases ru
  obtain ⟨z, its, n, r, hl, e⟩ := I.lstM hH
  obtain ⟨z2, its2, n2, r2, hl2, e2⟩ := I.lstM hB
  have hsz : its.toArray.size + its2.toArray.size ≤ sizeLine := by rw [List.size_toArray, List.size_toArray]; omega
  have hlong : ¬ (!its.toArray.isEmpty && Builtin.List.listTooLong (its.toArray.size + its2.toArray.size)) = true := by
    rw [notLongL hsz, Bool.and_false]
    exact Bool.false_ne_true
  refine call_meets F.slot_list_extend ⟨_, e, rfl⟩ F.entry_list_extend (F.args_list_extend_2 _ _)
    (AutoSeq1.list_extend_list_list_0 l its.toArray n b its2.toArray n2 hlong (by rw [List.size_toArray]; omega) (by omega)) ⟨e, e2, ?_⟩
  refine ⟨.non, _, I.lset (its' := its ++ its2) hH e (by simp) (r.append r2) ?_, rfl, q⟩
  rw [List.length_append]
  omega
noncomputable def rPop : V → List V → Hp → VK → Prop := fun x vs H Q => ∃ l xs y, x = .ref l ∧ vs = [] ∧ H l = some (.lst xs) ∧ xs[xs.length - 1]? = some y ∧ Q y (upd H l (.lst xs.dropLast))
theorem mt_pop : MtM X "list.pop" rPop := by
  intro pins s σ H x vs v us Q I rx rv h
  obtain ⟨l, xs, y, rfl, rfl, hH, hy, q⟩ := h
  cases rx
  have hus := rv.zero
  subst hus
  obtain ⟨z, its, n, r, hl, e⟩ := I.lstM hH
  obtain ⟨u, hu, ru⟩ := r.get hy
  have hy' : its.toArray[its.toArray.size - 1]? = some u := by
    show its.toArray[its.length - 1]? = some u
    rw [← Array.getElem?_toList, ← hl]
    exact hu
  refine call_meets F.slot_list_pop ⟨_, e, rfl⟩ F.entry_list_pop (F.args_list_pop_1 _) (MeetsSeq.list_pop_last l its.toArray n u hy' (by rw [List.size_toArray]; omega)) ⟨e, ?_⟩
  refine ⟨y, _, I.lset (its' := its.dropLast) hH e ?_ r.dropLast ?_, ru, q⟩
  · show its.toArray.eraseIdxIfInBounds (its.toArray.size - 1) = its.dropLast.toArray
    rw [List.size_toArray, List.eraseIdxIfInBounds_toArray, erase_last]
  · rw [List.length_dropLast]
    omega
noncomputable def rCat : R2 := fun x y H Q => ∃ l b xs zs, x = .ref l ∧ y = .ref b ∧ H l = some (.lst xs) ∧ H b = some (.lst zs) ∧ xs.length + zs.length ≤ sizeLine ∧ ∀ p, H p = none → Q (.ref p) (upd H p (.lst (xs ++ zs)))
theorem op_cat : OpR X (binaryOp .Add) rCat := by
  intro pins s σ H x y v u Q I rx ry h
  obtain ⟨l, b, xs, zs, rfl, rfl, hH, hB, hz, q⟩ := h
  cases rx
  cases ry
  obtain ⟨z, its, n, r, hl, e⟩ := I.lstM hH
  obtain ⟨z2, its2, n2, r2, hl2, e2⟩ := I.lstM hB
  refine PySem.P.add_list e e2 ?_ (by rw [List.size_toArray, List.size_toArray]; omega)
  have ea : its.toArray ++ its2.toArray = (its ++ its2).toArray := by simp
  rw [ea]
  exact ⟨.ref _, _, I.lnew (t' := s.toks) (r.append r2) (by rw [List.length_append]; omega), rfl, q _ I.fresh⟩
end
section
variable {prog : Program} {w : World} {A : Around} {E : Value → Shared → Prop} {s : Shared}
set_option maxRecDepth 100000 in
end
section
variable {X : Cx}
end
end L2
namespace L2
open PySem PySem.Spec PyProof.Rows
section
variable {κ : Type} [DecidableEq κ]
noncomputable def valV (kvs : List (κ × V)) (k : κ) : Option V := (kvs.find? fun kv => decide (kv.1 = k)).map (·.2)
noncomputable def putK (kvs : List (κ × V)) (k : κ) (v : V) : List (κ × V) :=
  if (kvs.any fun kv => decide (kv.1 = k)) = true then kvs.map (fun kv => if kv.1 = k then (kv.1, v) else kv) else kvs ++ [(k, v)]
theorem valV_nil {k : κ} : valV ([] : List (κ × V)) k = none := rfl
theorem valV_pos {p : κ × V} {r : List (κ × V)} {k : κ} (e : p.1 = k) : valV (p :: r) k = some p.2 := by simp [valV, List.find?_cons, e]
theorem valV_neg {p : κ × V} {r : List (κ × V)} {k : κ} (e : ¬ p.1 = k) : valV (p :: r) k = valV r k := by simp [valV, List.find?_cons, e]
theorem valV_any (k : κ) : ∀ kvs : List (κ × V), (kvs.any fun kv => decide (kv.1 = k)) = (valV kvs k).isSome
  | [] => rfl
  | p :: r => by
    rw [List.any_cons]
    by_cases e : p.1 = k
    · simp only [valV_pos e, decide_eq_true e, Bool.true_or, Option.isSome_some]
    · rw [valV_neg e, decide_eq_false e, Bool.false_or]; exact valV_any k r
theorem valV_map (k j : κ) (y : V) : ∀ kvs : List (κ × V), valV (kvs.map fun kv => if kv.1 = k then (kv.1, y) else kv) j = (valV kvs j).map fun x => if j = k then y else x
  | [] => rfl
  | p :: r => by
    have ih := valV_map k j y r
    rw [List.map_cons]
    by_cases h : p.1 = k
    · rw [if_pos h]
      by_cases e : p.1 = j
      · rw [valV_pos (p := (p.1, y)) e, valV_pos e, Option.map_some, if_pos (e.symm.trans h)]
      · rw [valV_neg (p := (p.1, y)) e, valV_neg e, ih]
    · rw [if_neg h]
      by_cases e : p.1 = j
      · rw [valV_pos (p := p) e, valV_pos e, Option.map_some, if_neg (fun z => h (e.trans z))]
      · rw [valV_neg (p := p) e, valV_neg e, ih]
theorem valV_snoc (k j : κ) (y : V) : ∀ kvs : List (κ × V), valV kvs k = none → valV (kvs ++ [(k, y)]) j = if j = k then some y else valV kvs j
  | [], _ => by
    by_cases e : k = j
    · rw [if_pos e.symm]; exact valV_pos (p := (k, y)) e
    · rw [if_neg (fun z => e z.symm)]; exact valV_neg (p := (k, y)) e
  | p :: r, hn => by
    rw [List.cons_append]
    have hk : ¬ p.1 = k := fun z => by rw [valV_pos z] at hn; cases hn
    rw [valV_neg hk] at hn
    have ih := valV_snoc k j y r hn
    by_cases e : p.1 = j
    · rw [valV_pos e, valV_pos e, if_neg (fun z => hk (e.trans z))]
    · rw [valV_neg e, valV_neg e, ih]
theorem valV_put (kvs : List (κ × V)) (k j : κ) (y : V) : valV (putK kvs k y) j = if j = k then some y else valV kvs j := by
  unfold putK
  by_cases a : (kvs.any fun kv => decide (kv.1 = k)) = true
  · rw [if_pos a, valV_map]
    rw [valV_any] at a
    by_cases e : j = k
    · obtain ⟨x, hx⟩ := Option.isSome_iff_exists.mp a
      rw [if_pos e, e, hx, Option.map_some, if_pos rfl]
    · rw [if_neg e]
      cases valV kvs j with
      | none => rfl
      | some x => rw [Option.map_some, if_neg e]
  · rw [if_neg a]
    refine valV_snoc k j y kvs ?_
    rw [valV_any] at a
    cases q : valV kvs k with
    | none => rfl
    | some x => rw [q] at a; exact (a rfl).elim
theorem length_putK (kvs : List (κ × V)) (k : κ) (v : V) : (putK kvs k v).length ≤ kvs.length + 1 := by
  unfold putK
  split
  · rw [List.length_map]; omega
  · rw [List.length_append, List.length_cons, List.length_nil]; omega
theorem RelO.isSome_eq {o : Option V} {u : Option Value} (r : RelO o u) : o.isSome = u.isSome := by
  cases o with
  | none => cases u with
    | none => rfl
    | some _ => exact (show False from r).elim
  | some _ => cases u with
    | none => exact (show False from r).elim
    | some _ => rfl
theorem RelO.getD {o : Option V} {u : Option Value} {d : V} {d' : Value} (r : RelO o u) (rd : RelV d d') : RelV (o.getD d) (u.getD d') := by
  cases o with
  | none => cases u with
    | none => exact rd
    | some _ => exact (show False from r).elim
  | some _ => cases u with
    | none => exact (show False from r).elim
    | some _ => exact r
theorem KV.val {kvs : List (κ × V)} {vs : List (κ × Value)} (r : KV kvs vs) (k : κ) : RelO (valV kvs k) (valueAt vs k) := by
  unfold KV at r
  induction r with
  | nil => exact True.intro
  | @cons p q ps qs h t ih =>
    obtain ⟨h1, h2⟩ := h
    by_cases e : p.1 = k
    · have e' : q.1 = k := h1.symm.trans e
      have b : valueAt (q :: qs) k = some q.2 := by simp [valueAt, List.find?_cons, e']
      rw [valV_pos e, b]; exact h2
    · have e' : ¬ q.1 = k := fun z => e (h1.trans z)
      have b : valueAt (q :: qs) k = valueAt qs k := by simp [valueAt, List.find?_cons, e']
      rw [valV_neg e, b]; exact ih
theorem KV.any {kvs : List (κ × V)} {vs : List (κ × Value)} (r : KV kvs vs) (k : κ) : (kvs.any fun kv => decide (kv.1 = k)) = vs.any fun kv => decide (kv.1 = k) := by
  unfold KV at r
  induction r with
  | nil => rfl
  | cons h t ih => rw [List.any_cons, List.any_cons, ih, h.1]
theorem KV.repl {kvs : List (κ × V)} {vs : List (κ × Value)} (r : KV kvs vs) (k : κ) {y : V} {u : Value} (ry : RelV y u) :
    KV (kvs.map fun kv => if kv.1 = k then (kv.1, y) else kv) (vs.map fun kv => if kv.1 = k then (kv.1, u) else kv) := by
  unfold KV at r ⊢
  induction r with
  | nil => exact .nil
  | @cons p q ps qs h t ih =>
    rw [List.map_cons, List.map_cons]
    refine .cons ?_ ih
    obtain ⟨h1, h2⟩ := h
    by_cases e : p.1 = k
    · rw [if_pos e, if_pos (h1.symm.trans e)]; exact ⟨h1, ry⟩
    · rw [if_neg e, if_neg (fun z => e (h1.trans z))]; exact ⟨h1, h2⟩
theorem KV.put {kvs : List (κ × V)} {vs : List (κ × Value)} (r : KV kvs vs) (k : κ) {y : V} {u : Value} (ry : RelV y u) : KV (putK kvs k y) (stored vs k u) := by
  unfold putK stored
  rw [r.any k]
  by_cases e : (vs.any fun kv => decide (kv.1 = k)) = true
  · rw [if_pos e, if_pos e]; exact r.repl k ry
  · rw [if_neg e, if_neg e]; exact Paired.snoc r ⟨rfl, ry⟩
theorem KV.length {kvs : List (κ × V)} {vs : List (κ × Value)} (r : KV kvs vs) : kvs.length = vs.length := Paired.length r
end
theorem kV_is {P : Program} {w : World} {k : Key} {u : Value} (r : RelV (kV k) u) : (mixKind P w).is k u = true := by
  cases k with
  | inl i => obtain ⟨t, e⟩ := (show ∃ t, u = Value.int i t from r); subst e; exact mixKind_int P w i t
  | inr x => obtain ⟨t, e⟩ := (show ∃ t, u = Value.str x t from r); subst e; exact mixKind_str P w x t
theorem items_are {P : Program} {w : World} : ∀ {ks : List Key} {us : List Value}, Vals (ks.map kV) us → ItemsAre (mixKind P w) ks us
  | [], _, r => by rw [List.map_nil] at r; cases r; exact .nil
  | k :: ks, _, r => by
    rw [List.map_cons] at r
    cases r with
    | cons h t => exact .cons (kV_is h) (items_are t)
noncomputable abbrev KT (H : Hp) : List (List Key × V) → List (List Key × Addr × Value) → Prop := Paired fun p q => p.1 = q.1 ∧ H q.2.1 = some (.tup (p.1.map kV)) ∧ RelV p.2 q.2.2
theorem KT.val {H : Hp} {kvs : List (List Key × V)} {xs : List (List Key × Addr × Value)} (r : KT H kvs xs) (k : List Key) : RelO (valV kvs k) ((atKey xs k).map (·.2)) := by
  induction r with
  | nil => exact True.intro
  | @cons p q ps qs h t ih =>
    obtain ⟨h1, _, h2⟩ := h
    by_cases e : p.1 = k
    · have e' : q.1 = k := h1.symm.trans e
      have b : atKey (q :: qs) k = some q.2 := by simp [atKey, List.find?_cons, e']
      rw [valV_pos e, b]; exact h2
    · have e' : ¬ q.1 = k := fun z => e (h1.trans z)
      have b : atKey (q :: qs) k = atKey qs k := by simp [atKey, List.find?_cons, e']
      rw [valV_neg e, b]; exact ih
theorem KT.repl {H : Hp} {kvs : List (List Key × V)} {xs : List (List Key × Addr × Value)} (r : KT H kvs xs) (k : List Key) {y : V} {u : Value} (ry : RelV y u) :
    KT H (kvs.map fun kv => if kv.1 = k then (kv.1, y) else kv) (xs.map (putAt k u)) := by
  induction r with
  | nil => exact .nil
  | @cons p q ps qs h t ih =>
    rw [List.map_cons, List.map_cons]
    refine .cons ?_ ih
    obtain ⟨h1, h2, h3⟩ := h
    unfold putAt
    by_cases e : p.1 = k
    · rw [if_pos e, if_pos (h1.symm.trans e)]; exact ⟨h1, h2, ry⟩
    · rw [if_neg e, if_neg (fun z => e (h1.trans z))]; exact ⟨h1, h2, h3⟩
theorem KT.put {H : Hp} {kvs : List (List Key × V)} {xs : List (List Key × Addr × Value)} (r : KT H kvs xs) (k : List Key) {b : Addr} {y : V} {u : Value} (hb : H b = some (.tup (k.map kV))) (ry : RelV y u) :
    KT H (putK kvs k y) (storedH xs k b u) := by
  have e : (kvs.any fun kv => decide (kv.1 = k)) = (atKey xs k).isSome := by
    rw [valV_any, (r.val k).isSome_eq, Option.isSome_map]
  unfold putK storedH
  rw [e]
  by_cases q : (atKey xs k).isSome = true
  · rw [if_pos q, if_pos q]; exact r.repl k ry
  · rw [if_neg q, if_neg q]; exact Paired.snoc r ⟨rfl, hb, ry⟩
theorem KT.keeps {H H' : Hp} {kvs : List (List Key × V)} {xs : List (List Key × Addr × Value)} (r : KT H kvs xs) (ht : ∀ b ys, H b = some (.tup ys) → H' b = some (.tup ys)) : KT H' kvs xs :=
  Paired.mapP r fun _ _ z => ⟨z.1, ht _ _ z.2.1, z.2.2⟩
noncomputable abbrev KP (H : Hp) : List ((List Key × Key) × V) → List ((List Key × Key) × Addr × Value) → Prop := Paired fun p q => p.1 = q.1 ∧ (∃ c, H q.2.1 = some (.tup [.ref c, kV p.1.2]) ∧ H c = some (.tup (p.1.1.map kV))) ∧ RelV p.2 q.2.2
theorem KP.val {H : Hp} {kvs : List ((List Key × Key) × V)} {xs : List ((List Key × Key) × Addr × Value)} (r : KP H kvs xs) (k : List Key × Key) : RelO (valV kvs k) ((atKey xs k).map (·.2)) := by
  induction r with
  | nil => exact True.intro
  | @cons p q ps qs h t ih =>
    obtain ⟨h1, _, h2⟩ := h
    by_cases e : p.1 = k
    · have e' : q.1 = k := h1.symm.trans e
      have b : atKey (q :: qs) k = some q.2 := by simp [atKey, List.find?_cons, e']
      rw [valV_pos e, b]; exact h2
    · have e' : ¬ q.1 = k := fun z => e (h1.trans z)
      have b : atKey (q :: qs) k = atKey qs k := by simp [atKey, List.find?_cons, e']
      rw [valV_neg e, b]; exact ih
theorem KP.repl {H : Hp} {kvs : List ((List Key × Key) × V)} {xs : List ((List Key × Key) × Addr × Value)} (r : KP H kvs xs) (k : List Key × Key) {y : V} {u : Value} (ry : RelV y u) :
    KP H (kvs.map fun kv => if kv.1 = k then (kv.1, y) else kv) (xs.map (putAt k u)) := by
  induction r with
  | nil => exact .nil
  | @cons p q ps qs h t ih =>
    rw [List.map_cons, List.map_cons]
    refine .cons ?_ ih
    obtain ⟨h1, h2, h3⟩ := h
    unfold putAt
    by_cases e : p.1 = k
    · rw [if_pos e, if_pos (h1.symm.trans e)]; exact ⟨h1, h2, ry⟩
    · rw [if_neg e, if_neg (fun z => e (h1.trans z))]; exact ⟨h1, h2, h3⟩
theorem KP.put {H : Hp} {kvs : List ((List Key × Key) × V)} {xs : List ((List Key × Key) × Addr × Value)} (r : KP H kvs xs) (k : List Key × Key) {b : Addr} {y : V} {u : Value} (hb : ∃ c, H b = some (.tup [.ref c, kV k.2]) ∧ H c = some (.tup (k.1.map kV))) (ry : RelV y u) :
    KP H (putK kvs k y) (storedH xs k b u) := by
  have e : (kvs.any fun kv => decide (kv.1 = k)) = (atKey xs k).isSome := by
    rw [valV_any, (r.val k).isSome_eq, Option.isSome_map]
  unfold putK storedH
  rw [e]
  by_cases q : (atKey xs k).isSome = true
  · rw [if_pos q, if_pos q]; exact r.repl k ry
  · rw [if_neg q, if_neg q]; exact Paired.snoc r ⟨rfl, hb, ry⟩
theorem KP.keeps {H H' : Hp} {kvs : List ((List Key × Key) × V)} {xs : List ((List Key × Key) × Addr × Value)} (r : KP H kvs xs) (ht : ∀ b ys, H b = some (.tup ys) → H' b = some (.tup ys)) : KP H' kvs xs :=
  Paired.mapP r fun _ _ z => ⟨z.1, let ⟨c, e1, e2⟩ := z.2.1; ⟨c, ht _ _ e1, ht _ _ e2⟩, z.2.2⟩
section
variable {P : Program} {w : World} {H : Hp} {h : Heap} {a : Addr}
theorem rd_of {u : HO} (ok : HOk P w H h) (e : Rd H a u) : ObjOk P w H h a u := e.ok ok
theorem dk_rd {kvs : List (Key × V)} (ok : HOk P w H h) (e : Rd H a (.dK kvs)) : kvs.length ≤ sizeLine ∧ (a == sysModules) = false ∧ ∃ vs, KV kvs vs ∧ h.DictOf (mixKind P w) a vs :=
  show ObjOk P w H h a (.dK kvs) from rd_of ok e
theorem dk_of {kvs : List (Key × V)} (ok : HOk P w H h) (e : H a = some (.dK kvs)) : kvs.length ≤ sizeLine ∧ (a == sysModules) = false ∧ ∃ vs, KV kvs vs ∧ h.DictOf (mixKind P w) a vs := dk_rd ok (.inl e)
theorem key_of {ks : List Key} (ok : HOk P w H h) (e : H a = some (.tup (ks.map kV))) : (tupleKind (mixKind P w)).is h ks a := by
  obtain ⟨_, its, r, o, h1, h2, n, h3⟩ := (show ObjOk P w H h a (.tup (ks.map kV)) from ok a _ e)
  exact ⟨o, its.toArray, n, h1, h2, h3, by simpa using items_are r⟩
theorem dt_rd {kvs : List (List Key × V)} (ok : HOk P w H h) (e : Rd H a (.dT kvs)) : kvs.length ≤ sizeLine ∧ (a == sysModules) = false ∧
    ∃ xs, KT H kvs xs ∧ h.DictOfH (tupleKind (mixKind P w)) a xs := by
  obtain ⟨z, y, xs, r, o, es, ep, h1, h2, h3, h4, h5⟩ := (show ObjOk P w H h a (.dT kvs) from rd_of ok e)
  refine ⟨z, y, xs, r, o, es, ep, h1, h2, h3, h4, fun x hx => ?_, h5⟩
  have all : ∀ {l : List (List Key × V)} {m : List (List Key × Addr × Value)}, KT H l m → ∀ x ∈ m, (tupleKind (mixKind P w)).is h x.1 x.2.1 := by
    intro l m q
    induction q with
    | nil => intro x hx; exact nomatch hx
    | @cons p q ps qs hq t ih =>
      intro x hx
      rcases List.mem_cons.mp hx with e | hx
      · subst e
        exact key_of ok (by rw [← hq.1]; exact hq.2.1)
      · exact ih x hx
  exact all r x hx
theorem dt_of {kvs : List (List Key × V)} (ok : HOk P w H h) (e : H a = some (.dT kvs)) : kvs.length ≤ sizeLine ∧ (a == sysModules) = false ∧
    ∃ xs, KT H kvs xs ∧ h.DictOfH (tupleKind (mixKind P w)) a xs := dt_rd ok (.inl e)
theorem keyP_of {k : List Key × Key} (ok : HOk P w H h) (e : ∃ c, H a = some (.tup [.ref c, kV k.2]) ∧ H c = some (.tup (k.1.map kV))) : (pairKind (mixKind P w) (mixKind P w)).is h k a := by
  obtain ⟨c, e1, e2⟩ := e
  obtain ⟨_, its, r, o, h1, h2, n, h3⟩ := (show ObjOk P w H h a (.tup [.ref c, kV k.2]) from ok a _ e1)
  obtain ⟨u, v, rfl, ru, rv⟩ := r.two
  cases (show u = Value.ref c from ru)
  exact ⟨o, _, n, c, v, h1, h2, h3, by simp, key_of ok e2, kV_is rv⟩
theorem dp_rd {kvs : List ((List Key × Key) × V)} (ok : HOk P w H h) (e : Rd H a (.dP kvs)) : kvs.length ≤ sizeLine ∧ (a == sysModules) = false ∧
    ∃ xs, KP H kvs xs ∧ h.DictOfH (pairKind (mixKind P w) (mixKind P w)) a xs := by
  obtain ⟨z, y, xs, r, o, es, ep, h1, h2, h3, h4, h5⟩ := (show ObjOk P w H h a (.dP kvs) from rd_of ok e)
  refine ⟨z, y, xs, r, o, es, ep, h1, h2, h3, h4, fun x hx => ?_, h5⟩
  have all : ∀ {l : List ((List Key × Key) × V)} {m : List ((List Key × Key) × Addr × Value)}, KP H l m → ∀ x ∈ m, (pairKind (mixKind P w) (mixKind P w)).is h x.1 x.2.1 := by
    intro l m q
    induction q with
    | nil => intro x hx; exact nomatch hx
    | @cons p q ps qs hq t ih =>
      intro x hx
      rcases List.mem_cons.mp hx with e | hx
      · subst e
        rw [← hq.1]; exact keyP_of ok hq.2.1
      · exact ih x hx
  exact all r x hx
theorem dp_of {kvs : List ((List Key × Key) × V)} (ok : HOk P w H h) (e : H a = some (.dP kvs)) : kvs.length ≤ sizeLine ∧ (a == sysModules) = false ∧
    ∃ xs, KP H kvs xs ∧ h.DictOfH (pairKind (mixKind P w) (mixKind P w)) a xs := dp_rd ok (.inl e)
end
noncomputable def DGet (H : Hp) (a : Addr) (y : V) (r : Option V) : Prop :=
  (∃ kvs k, Rd H a (.dK kvs) ∧ y = kV k ∧ r = valV kvs k) ∨ (∃ kvs k b, Rd H a (.dT kvs) ∧ y = .ref b ∧ H b = some (.tup (k.map kV)) ∧ r = valV kvs k) ∨
  ∃ kvs k b, Rd H a (.dP kvs) ∧ y = .ref b ∧ (∃ c, H b = some (.tup [.ref c, kV k.2]) ∧ H c = some (.tup (k.1.map kV))) ∧ r = valV kvs k
noncomputable def DPut (H : Hp) (a : Addr) (y v : V) (H' : Hp) : Prop :=
  (∃ kvs k, H a = some (.dK kvs) ∧ y = kV k ∧ kvs.length < sizeLine ∧ H' = upd H a (.dK (putK kvs k v))) ∨
  (∃ kvs k b, H a = some (.dT kvs) ∧ y = .ref b ∧ H b = some (.tup (k.map kV)) ∧ kvs.length < sizeLine ∧ H' = upd H a (.dT (putK kvs k v))) ∨
  ∃ kvs k b, H a = some (.dP kvs) ∧ y = .ref b ∧ (∃ c, H b = some (.tup [.ref c, kV k.2]) ∧ H c = some (.tup (k.1.map kV))) ∧ kvs.length < sizeLine ∧ H' = upd H a (.dP (putK kvs k v))
theorem DGet.k {H : Hp} {a : Addr} {kvs : List (Key × V)} {k : Key} (e : H a = some (.dK kvs)) : DGet H a (kV k) (valV kvs k) := .inl ⟨kvs, k, .inl e, rfl, rfl⟩
theorem DPut.k {H : Hp} {a : Addr} {kvs : List (Key × V)} {k : Key} {v : V} (e : H a = some (.dK kvs)) (hl : kvs.length < sizeLine) : DPut H a (kV k) v (upd H a (.dK (putK kvs k v))) := .inl ⟨kvs, k, e, rfl, hl, rfl⟩
theorem DPut.t {H : Hp} {a b : Addr} {kvs : List (List Key × V)} {k : List Key} {v : V} (e : H a = some (.dT kvs)) (eb : H b = some (.tup (k.map kV))) (hl : kvs.length < sizeLine) :
    DPut H a (.ref b) v (upd H a (.dT (putK kvs k v))) := .inr (.inl ⟨kvs, k, b, e, rfl, eb, hl, rfl⟩)
section
variable {X : Cx} {pins : List (Addr × Obj)} {σ : St} {H : Hp} {s : Shared} {a : Addr} {y v : V} {u r : Value} {o : Option V} {A : Around} {E : Value → Shared → Prop}
theorem Inv.big (I : Inv X pins σ H s) : sysModules < s.heap.objs.size := by
  have h : mainGlobals < s.heap.objs.size := (I.mod.glob.keeps I.bk).lt
  exact Nat.lt_trans (by decide) h
theorem d_getItem {Q : Value → Shared → Prop} (hu : A.units + 16 < cLine) (I : Inv X pins σ H s) (g : DGet H a y (some v)) (ry : RelV y u) (h : ∀ w' s', Inv X pins σ H s' → RelV v w' → Q w' s') :
    wpAny (model X.prog X.w) A (getItem (.ref a) u) Q E s := by
  rcases g with ⟨kvs, k, e, ey, l⟩ | ⟨kvs, k, b, e, ey, eb, l⟩ | ⟨kvs, k, b, e, ey, eb, l⟩
  · subst ey
    obtain ⟨z, hd, vs, rel, dd⟩ := dk_rd I.hok e
    obtain ⟨w', hw, rw'⟩ := RelO.some_of (v := v) (o := valueAt vs k) (by rw [l]; exact rel.val k)
    exact wpAny_getItem_of (kV_is ry) dd.mapOf hw (h w' _ (I.tok _) rw')
  · subst ey
    cases (show u = Value.ref b from ry)
    obtain ⟨z, hd, xs, rel, dd⟩ := dt_rd I.hok e
    obtain ⟨w', hw, rw'⟩ := RelO.some_of (v := v) (o := (atKey xs k).map (·.2)) (by rw [l]; exact rel.val k)
    obtain ⟨p, hp, hp2⟩ := Option.map_eq_some_iff.mp hw
    refine wpAny_getItem_heap (tupleKind_room_in1 (by omega)) (key_of I.hok eb) dd hp ?_
    rw [hp2]
    exact h w' _ (I.tok _) rw'
  · subst ey
    cases (show u = Value.ref b from ry)
    obtain ⟨z, hd, xs, rel, dd⟩ := dp_rd I.hok e
    obtain ⟨w', hw, rw'⟩ := RelO.some_of (v := v) (o := (atKey xs k).map (·.2)) (by rw [l]; exact rel.val k)
    obtain ⟨p, hp, hp2⟩ := Option.map_eq_some_iff.mp hw
    refine wpAny_getItem_heap (show _ + 8 < cLine by show A.units + 1 + 8 < cLine; omega) (keyP_of I.hok eb) dd hp ?_
    rw [hp2]
    exact h w' _ (I.tok _) rw'
theorem d_in {Q : Value → Shared → Prop} (hu : A.units + 16 < cLine) (I : Inv X pins σ H s) (g : DGet H a y o) (ry : RelV y u) (h : ∀ s', Inv X pins σ H s' → Q (.bool o.isSome) s') :
    wpAny (model X.prog X.w) A (compareOp .In u (.ref a)) Q E s := by
  rcases g with ⟨kvs, k, e, ey, l⟩ | ⟨kvs, k, b, e, ey, eb, l⟩ | ⟨kvs, k, b, e, ey, eb, l⟩
  · subst ey
    obtain ⟨z, hd, vs, rel, dd⟩ := dk_rd I.hok e
    refine wpAny_in_of (kV_is ry) hd dd.mapOf ?_
    rw [← (rel.val k).isSome_eq, ← l]
    exact h _ (I.tok _)
  · subst ey
    cases (show u = Value.ref b from ry)
    obtain ⟨z, hd, xs, rel, dd⟩ := dt_rd I.hok e
    refine wpAny_in_heap (tupleKind_room_in1 (by omega)) (key_of I.hok eb) hd dd ?_
    have q := (rel.val k).isSome_eq
    rw [Option.isSome_map] at q
    rw [← q, ← l]
    exact h _ (I.tok _)
  · subst ey
    cases (show u = Value.ref b from ry)
    obtain ⟨z, hd, xs, rel, dd⟩ := dp_rd I.hok e
    refine wpAny_in_heap (show _ + 8 < cLine by show A.units + 1 + 8 < cLine; omega) (keyP_of I.hok eb) hd dd ?_
    have q := (rel.val k).isSome_eq
    rw [Option.isSome_map] at q
    rw [← q, ← l]
    exact h _ (I.tok _)
theorem d_write {h' : Heap} {t' : Nat} {ob : HO} (I : Inv X pins σ H s) (mu : Mut (H a)) (hs : Heap.SameBut a s.heap h') (he : ∃ q, h'.get? a = some q) (new : ObjOk X.prog X.w (upd H a ob) h' a ob) :
    Inv X pins σ (upd H a ob) { s with heap := h', toks := t' } :=
  I.write (x := a) (e := a) mu (.inl rfl) (fun b q hb z => (hs.2 b hb).trans z) he new
theorem dk_new {P : Program} {w : World} {H' : Hp} {h' : Heap} {kvs : List (Key × V)} {vs : List (Key × Value)} (z : kvs.length ≤ sizeLine) (hd : (a == sysModules) = false) (rel : KV kvs vs) (dd : h'.DictOf (mixKind P w) a vs) :
    ObjOk P w H' h' a (.dK kvs) := ⟨z, hd, vs, rel, dd⟩
theorem d_setItem {H' : Hp} {Q : Unit → Shared → Prop} (hu : A.units + 16 < cLine) (I : Inv X pins σ H s) (g : DPut H a y v H') (ry : RelV y u) (rv : RelV v r) (h : ∀ s', Inv X pins σ H' s' → Q () s') :
    wpAny (model X.prog X.w) A (setItem (.ref a) u r) Q E s := by
  rcases g with ⟨kvs, k, e, ey, l, eH⟩ | ⟨kvs, k, b, e, ey, eb, l, eH⟩ | ⟨kvs, k, b, e, ey, eb, l, eH⟩
  · subst ey eH
    obtain ⟨z, hd, vs, rel, dd⟩ := dk_of I.hok e
    have hz : vs.length ≤ sizeLine := by rw [← rel.length]; exact z
    have hl : (putK kvs k v).length ≤ sizeLine := by have := length_putK kvs k v; omega
    refine wpAny_setItem_pairs (hsz := hz) (kV_is ry) dd fun h' dd' hs => h _ ?_
    have he : ∃ q, h'.get? a = some q := let ⟨q, _, _, hq, _⟩ := dd'; ⟨q, hq⟩
    exact d_write I (by rw [e]; exact True.intro) hs he (dk_new hl hd (rel.put k rv) dd')
  · subst ey eH
    cases (show u = Value.ref b from ry)
    obtain ⟨z, hd, xs, rel, dd⟩ := dt_of I.hok e
    have hz : xs.length ≤ sizeLine := by rw [← Paired.length rel]; exact z
    have hl : (putK kvs k v).length ≤ sizeLine := by have := length_putK kvs k v; omega
    refine wpAny_setItem_heap (hsz := hz) (tupleKind_room_in1 (by omega)) (key_of I.hok eb) dd fun h' dd' hs => h _ ?_
    obtain ⟨q, es, ep, hq, h2, h3, h4, _, h5⟩ := dd'
    refine d_write I (by rw [e]; exact True.intro) hs ⟨q, hq⟩ ⟨hl, hd, _, (rel.put k eb rv).keeps fun c ys ec => ?_, q, es, ep, hq, h2, h3, h4, h5⟩
    rw [upd_ne (ne_of ec e (fun z => nomatch z))]
    exact ec
  · subst ey eH
    cases (show u = Value.ref b from ry)
    obtain ⟨z, hd, xs, rel, dd⟩ := dp_of I.hok e
    have hz : xs.length ≤ sizeLine := by rw [← Paired.length rel]; exact z
    have hl : (putK kvs k v).length ≤ sizeLine := by have := length_putK kvs k v; omega
    refine wpAny_setItem_heap (hsz := hz) (show _ + 8 < cLine by show A.units + 1 + 8 < cLine; omega) (keyP_of I.hok eb) dd fun h' dd' hs => h _ ?_
    obtain ⟨q, es, ep, hq, h2, h3, h4, _, h5⟩ := dd'
    refine d_write I (by rw [e]; exact True.intro) hs ⟨q, hq⟩ ⟨hl, hd, _, (rel.put k eb rv).keeps fun c ys ec => ?_, q, es, ep, hq, h2, h3, h4, h5⟩
    rw [upd_ne (ne_of ec e (fun z => nomatch z))]
    exact ec
end
section
variable {X : Cx} {pins : List (Addr × Obj)} {σ : St} {H : Hp} {s : Shared} {a : Addr} {kvs : List (Key × V)} {k : Key} {u : Value} {A : Around} {E : Value → Shared → Prop}
end
noncomputable def NoSl (i : Expr) : Prop := ∀ ov iv, subscripted i false ov iv = operate [ov, iv] (getItem ov iv)
theorem subD_of {prog : Program} {w : World} {A : Around} {E : Value → Shared → Prop} {s : Shared} {env : Env} {value slice : Expr} {pos : Pos} {T id : String} {Q : Value → Shared → Prop}
    (hl : typeLookup (.type T) "__getitem__" = pure (some (.builtin id))) (hs : NoSl slice)
    (h : wpAny (model prog w) A (eval value env) (fun o s₁ => wpAny (model prog w) A (eval slice env) (fun i s₂ => s₂.TypeIs o T ∧ wpAny (model prog w) A (getItem o i) Q E s₂) E s₁) E s) :
    wpAny (model prog w) A (eval (.Subscript value slice pos) env) Q E s := by
  refine Subscript_ (wpAny_mono h (fun o s₁ h₁ => wpAny_mono h₁ (fun i s₂ h₂ => ?_) fun _ _ x => x) fun _ _ x => x)
  obtain ⟨hT, h₂⟩ := h₂
  unfold subscriptTail
  refine wpAny_bind ?_
  rw [getitemInPython_of_ne hT.not_modules]
  refine wpAny_bind (wpAny_specialOf hT hl ?_)
  have fin : wpAny (model prog w) A (subscripted slice false o i) (fun r s₃ => wpAny (model prog w) A (letTemporaryGo value o r >>= fun _ => pure r) Q E s₃) E s₂ := by
    rw [hs o i]
    exact wpAny_operating (wpAny_mono h₂ (fun r s₃ h₃ => wpAny_bind (wpAny_letTemporaryGo (wpAny_pure h₃))) fun _ _ x => x)
  first
    | exact wpAny_pure (wpAny_bind fin)
    | exact wpAny_bind (wpAny_pure (wpAny_bind fin))
    | exact wpAny_bind fin
theorem dict_typeIs {X : Cx} {pins : List (Addr × Obj)} {σ : St} {H : Hp} {s : Shared} {a : Addr} {y : V} {o : Option V} (I : Inv X pins σ H s) (g : DGet H a y o) : s.TypeIs (.ref a) "dict" := by
  rcases g with ⟨kvs, k, e, _, _⟩ | ⟨kvs, k, b, e, _, _, _⟩ | ⟨kvs, k, b, e, _, _, _⟩
  · obtain ⟨_, _, vs, _, dd⟩ := dk_rd I.hok e
    exact dd.typeIs
  · obtain ⟨_, _, xs, _, dd⟩ := dt_rd I.hok e
    exact dd.typeIs
  · obtain ⟨_, _, xs, _, dd⟩ := dp_rd I.hok e
    exact dd.typeIs
noncomputable def tDGet (td ty : TE) : TE := fun σ H Q => td σ H fun x H1 => ty σ H1 fun y H2 => ∃ a v, x = .ref a ∧ DGet H2 a y (some v) ∧ Q v H2
noncomputable def tDIn (ty td : TE) : TE := fun σ H Q => ty σ H fun y H1 => td σ H1 fun x H2 => ∃ a o, x = .ref a ∧ DGet H2 a y o ∧ Q (.bl o.isSome) H2
noncomputable def sDPut (td ty tv : TE) : TS := fun D σ H => tv σ H fun v H1 => td σ H1 fun x H2 => ty σ H2 fun y H3 => ∃ a H4, x = .ref a ∧ DPut H3 a y v H4 ∧ D.nx σ H4
section
variable {X : Cx} {o i e value : Expr} {pos pos' tpos : Pos} {td ty tv : TE}
theorem pe_dget (hu : X.A.units + 16 < cLine) (ho : PE X o td) (hi : PE X i ty) (hs : NoSl i) : PE X (.Subscript o i pos) (tDGet td ty) := by
  intro pins s σ H Q I h
  refine subD_of PySem.F.slot_dict_getitem.lookup hs (thn (ho pins s σ H _ I h) fun u s1 ⟨x, H1, I1, rx, q1⟩ => thn (hi pins s1 σ H1 _ I1 q1) fun iv s2 ⟨y, H2, I2, ry, a, v, ex, g, q2⟩ => ?_)
  subst ex
  obtain rfl : u = Value.ref a := rx
  exact ⟨dict_typeIs I2 g, d_getItem hu I2 g ry fun w' s3 I3 rw' => ⟨v, H2, I3, rw', q2⟩⟩
theorem pc_din (hu : X.A.units + 16 < cLine) (hi : PE X i ty) (ho : PE X o td) : PC X .In i o (tDIn ty td) := by
  intro pins s σ H Q I h
  refine thn (hi pins s σ H _ I h) fun iv s1 ⟨y, H1, I1, ry, q1⟩ => thn (ho pins s1 σ H1 _ I1 q1) fun u s2 ⟨x, H2, I2, rx, a, ov, ex, g, q2⟩ => ?_
  subst ex
  obtain rfl : u = Value.ref a := rx
  exact d_in hu I2 g ry fun s3 I3 => ⟨.bl ov.isSome, H2, I3, rfl, q2⟩
theorem ps_dput (hu : X.A.units + 16 < cLine) (ho : PE X o td) (hi : PE X i ty) (hv : PE X value tv) (hs : swapsWith value (some (.Subscript o i pos')) pos.line X.env = pure false) :
    PS X (.Assign [.Subscript o i pos'] value pos) (sDPut td ty tv) := by
  intro pins s σ H D I h
  refine wpAny_Assign_Subscript (thn (hv pins s σ H _ I h) fun r s1 ⟨v, H1, I1, rv, q1⟩ => thn (ho pins s1 σ H1 _ I1 q1) fun u s2 ⟨x, H2, I2, rx, q2⟩ => thn (hi pins s2 σ H2 _ I2 q2) fun iv s3 ⟨y, H3, I3, ry, a, H4, ex, g, q3⟩ => ?_) hs
  subst ex
  obtain rfl : u = Value.ref a := rx
  exact d_setItem hu I3 g ry rv fun s4 I4 => ⟨σ, H4, I4, q3⟩
end
theorem dk_empty {P : Program} {w : World} {H : Hp} (h : Heap) (hb : sysModules < h.objs.size) : ObjOk P w H (h.push { cls := .type "dict", data := .dict #[] }) h.objs.size (.dK []) :=
  ⟨Nat.zero_le _, beq_eq_false_iff_ne.mpr (Ne.symm (Nat.ne_of_lt hb)), [], .nil, Heap.DictOf.new h⟩
theorem dt_empty {P : Program} {w : World} {H : Hp} (h : Heap) (hb : sysModules < h.objs.size) : ObjOk P w H (h.push { cls := .type "dict", data := .dict #[] }) h.objs.size (.dT []) :=
  ⟨Nat.zero_le _, beq_eq_false_iff_ne.mpr (Ne.symm (Nat.ne_of_lt hb)), [], .nil, _, #[], 0, Heap.get?_push_size _ rfl, ⟨rfl, rfl, rfl⟩, rfl, rfl, List.nodup_nil⟩
noncomputable def tDNewK : TE := fun _ H Q => ∀ p, H p = none → Q (.ref p) (upd H p (.dK []))
noncomputable def tDNewT : TE := fun _ H Q => ∀ p, H p = none → Q (.ref p) (upd H p (.dT []))
section
variable {X : Cx} {pos : Pos}
theorem pe_dnewK : PE X (.Dict [] [] pos) tDNewK := fun pins s σ H Q I h =>
  wpAny_Dict_empty ⟨.ref s.heap.objs.size, _, I.laid (a := s.heap.objs.size) (o := .dK []) (t' := s.toks) (fun _ _ q => Heap.get?_push_of_some _ q) (Nat.le_refl _) (dk_empty s.heap I.big), rfl, h _ (I.hok.fresh (Nat.le_refl _))⟩
theorem pe_dnewT : PE X (.Dict [] [] pos) tDNewT := fun pins s σ H Q I h =>
  wpAny_Dict_empty ⟨.ref s.heap.objs.size, _, I.laid (a := s.heap.objs.size) (o := .dT []) (t' := s.toks) (fun _ _ q => Heap.get?_push_of_some _ q) (Nat.le_refl _) (dt_empty s.heap I.big), rfl, h _ (I.hok.fresh (Nat.le_refl _))⟩
end
structure M2 (X : Cx) (o : Expr) (m : Str) (apos : Pos) (e f : Expr) (cpos : Pos) : Prop where
  base : attributeBase o m X.env (eval o X.env) = eval o X.env
  few : ((backTo cpos (starEach [e, f] X.env)).all (fun x => !x.1) && (backToKw cpos (keywordEach [] X.env)).all (fun x => x.1.isSome)
    && decide (([e, f] : List Expr).length + ([] : List Keyword).length + (if ([] : List Keyword).isEmpty then 0 else 1) < 30)) = true
  line : (apos.endLine == cpos.line) = true
  trees : backTo cpos (starEach [e, f] X.env) = [(false, eval e X.env), (false, eval f X.env)]
noncomputable def IsD (H : Hp) (a : Addr) : Prop := (∃ kvs, Rd H a (.dK kvs)) ∨ ∃ kvs, Rd H a (.dT kvs)
theorem isD_at {X : Cx} {pins : List (Addr × Obj)} {σ : St} {H : Hp} {s : Shared} {a : Addr} (I : Inv X pins σ H s) (d : IsD H a) :
    s.TypeIs (.ref a) "dict" ∧ (∀ b, Value.ref a = .ref b → ∃ ob, s.heap.get? b = some ob ∧ ob.dict = none) ∧ (a == sysModules) = false := by
  rcases d with ⟨kvs, e⟩ | ⟨kvs, e⟩
  · obtain ⟨_, hd, vs, _, dd⟩ := dk_rd I.hok e
    refine ⟨dd.typeIs, fun b q => ?_, hd⟩
    cases q
    obtain ⟨ob, _, _, h1, h2, _⟩ := dd
    exact ⟨ob, h1, h2.2.1⟩
  · obtain ⟨_, hd, xs, _, dd⟩ := dt_rd I.hok e
    refine ⟨dd.typeIs, fun b q => ?_, hd⟩
    cases q
    obtain ⟨ob, _, _, h1, h2, _⟩ := dd
    exact ⟨ob, h1, h2.2.1⟩
section
variable {X : Cx} {pins : List (Addr × Obj)} {σ : St} {H : Hp} {s : Shared} {a : Addr} {y d : V} {u r : Value} {o : Option V} {A : Around} {E : Value → Shared → Prop}
theorem d_get2 {Q : Value → Shared → Prop} (hu : A.units + 16 < cLine) (I : Inv X pins σ H s) (g : DGet H a y o) (ry : RelV y u) (rd : RelV d r) (h : ∀ w' s', Inv X pins σ H s' → RelV (o.getD d) w' → Q w' s') :
    wpAny (model X.prog X.w) A (call (.builtin "dict.get") [.ref a, u, r]) Q E s := by
  rcases g with ⟨kvs, k, e, ey, l⟩ | ⟨kvs, k, b, e, ey, eb, l⟩ | ⟨kvs, k, b, e, ey, eb, l⟩
  · subst ey
    obtain ⟨z, hd, vs, rel, dd⟩ := dk_rd I.hok e
    refine call_meetsIn PySem.F.slot_dict_get dd.typeIs PySem.F.entry_dict_get (PySem.F.args_dict_get_3 _ _ _) (meets_dict_get_default (mixKind X.prog X.w) a (kV_is ry) hd r) ⟨_, dd.mapOf, h _ _ (I.tok _) ?_⟩
    rw [l]
    exact (rel.val k).getD rd
  · subst ey
    cases (show u = Value.ref b from ry)
    obtain ⟨z, hd, xs, rel, dd⟩ := dt_rd I.hok e
    refine call_meetsIn PySem.F.slot_dict_get dd.typeIs PySem.F.entry_dict_get (PySem.F.args_dict_get_3 _ _ _) (meetsH_dict_get_default (tupleKind (mixKind X.prog X.w)) a b hd r) ⟨tupleKind_room_in1 (by omega), k, xs, key_of I.hok eb, dd, h _ _ (I.tok _) ?_⟩
    rw [l]
    exact (rel.val k).getD rd
  · subst ey
    cases (show u = Value.ref b from ry)
    obtain ⟨z, hd, xs, rel, dd⟩ := dp_rd I.hok e
    refine call_meetsIn PySem.F.slot_dict_get dd.typeIs PySem.F.entry_dict_get (PySem.F.args_dict_get_3 _ _ _) (meetsH_dict_get_default (pairKind (mixKind X.prog X.w) (mixKind X.prog X.w)) a b hd r) ⟨(show _ + 8 < cLine by show A.units + 1 + 8 < cLine; omega), k, xs, keyP_of I.hok eb, dd, h _ _ (I.tok _) ?_⟩
    rw [l]
    exact (rel.val k).getD rd
end
noncomputable def tDGet2 (td ty tx : TE) : TE := fun σ H Q => td σ H fun x H1 => ∃ a, x = .ref a ∧ IsD H1 a ∧ ty σ H1 fun y H2 => tx σ H2 fun z H3 => ∃ o, DGet H3 a y o ∧ Q (o.getD z) H3
section
variable {X : Cx} {o e f : Expr} {apos cpos : Pos} {td ty tx : TE}
theorem pe_dget2 (hu : X.A.units + 16 < cLine) (ho : PE X o td) (he : PE X e ty) (hf : PE X f tx) (m : M2 X o "get" apos e f cpos) : PE X (.Call (.Attribute o "get" apos) [e, f] [] cpos) (tDGet2 td ty tx) := by
  intro pins s σ H Q I h
  refine wpAny_Call_method m.base m.few m.line PySem.F.plainAttrs_dict PySem.F.slot_dict_get PySem.F.type_dict_get (thn (ho pins s σ H _ I h) fun u s1 ⟨x, H1, I1, rx, a, ex, d, q1⟩ => ?_)
  subst ex
  obtain rfl : u = Value.ref a := rx
  obtain ⟨t1, t2, _⟩ := isD_at I1 d
  refine ⟨t1, t2, ?_⟩
  rw [m.trees]
  refine Calls.callWith_builtin rfl (Calls.evalArgs_plain (Calls.spliced_cons (thn (he pins s1 σ H1 _ I1 q1) fun iv s2 ⟨y, H2, I2, ry, q2⟩ =>
    Calls.spliced_cons (thn (hf pins s2 σ H2 _ I2 q2) fun fv s3 ⟨z, H3, I3, rz, ov, g, q3⟩ => Calls.spliced_nil ?_))))
  exact d_get2 hu I3 g ry rz fun w' s4 I4 rw' => ⟨_, H3, I4, rw', q3⟩
end
section
variable {X : Cx} {pins : List (Addr × Obj)} {σ : St} {H : Hp} {s : Shared} {a : Addr} {kvs : List (Key × V)} {A : Around} {E : Value → Shared → Prop}
end
section
variable {X : Cx} {pins : List (Addr × Obj)} {σ : St} {H : Hp} {s : Shared} {a : Addr} {y : V} {u : Value} {A : Around} {E : Value → Shared → Prop}
end
end L2
namespace Att
open PySem PySem.W PySem.Calls PyProof.Rows
theorem ints_of_wellAll {P : Params} {h : Heap} : ∀ (ns : List Int) (vs : List Value), WellAll P h vs (ns.map WData.int) → IntsAre vs ns := by
  intro ns
  induction ns with
  | nil =>
    intro vs w
    rw [List.map_nil] at w
    cases w
    exact .nil
  | cons n ns ih =>
    intro vs w
    rw [List.map_cons] at w
    cases w with
    | cons a b =>
      cases a
      exact .cons _ _ (ih _ b)
theorem script_of {l : OpenLaw} {n : Nat} (hn : l.most = some n) {P : Params} {h : Heap} {args : List WData} {vals : List Value}
    (hpre : l.row.toRowW.claim.pre args = true) (hwl : WellAll P h vals args) :
    ∃ a vs ns, vals = [Value.ref a] ∧ args = [WData.list (ns.map WData.int)] ∧ h.get? a = some { cls := .type "list", data := .seq vs.toArray } ∧ IntsAre vs ns ∧ ns.length ≤ n := by
  have hsh : WShape.hasAll [] args [.list .int] = true := (pre_splitW hpre).1
  have hc : l.pre.holds [] { args := args } = true := (pre_splitW hpre).2
  obtain ⟨d, r, rfl, h1, h2⟩ := hasAllW_cons hsh
  obtain rfl := hasAllW_nil h2
  obtain ⟨xs, rfl, h3⟩ := hasW_list h1
  obtain ⟨ns, rfl⟩ := items_int h3
  have hlen : ns.length ≤ n := by
    unfold OpenLaw.pre at hc
    have h4 : (WTm.not (.lt (.lit (.int (n : Int))) (.len (.arg 0)))).holds [] { args := [.list (ns.map .int)] } = true := by
      have h4 := (holds_andW hc).1
      rw [hn] at h4
      exact h4
    have h5 := condW_of h4 (w_not (w_lt w_lit (w_len_list (w_arg rfl))))
    rw [List.length_map] at h5
    refine Nat.le_of_not_lt fun q => ?_
    have q' : (n : Int) < ((ns.length : Nat) : Int) := by omega
    first
      | (rw [decide_eq_true q'] at h5; exact absurd h5 (by decide))
      | (simp at h5; omega)
  cases hwl with
  | cons w1 w2 =>
    cases w2
    cases w1 with
    | list ho hall => exact ⟨_, _, ns, rfl, rfl, ho, ints_of_wellAll ns _ hall, hlen⟩
theorem post_true (l : OpenLaw) (args : List WData) : l.row.toRowW.claim.post args (.bool true) args = true :=
  postW_of (r := l.row.toRowW) (X := (true == true))
    (show WShape.has [] (.bool true) .bool = true by first | rfl | decide | simp [WShape.has, WShape.arms, WShape.armsAll])
    (show (WTm.eq .res (.lit (.bool true))).value [] { args := args, res := some (.bool true), after := args } = some (.bool (true == true)) from w_eq_bool (w_res rfl) w_lit) rfl
theorem attach_call {l : OpenLaw} {n : Nat} {q : Program} {loose : List Str} {XP : (Str → Option Value) → Heap → Prop} {YP : World → Heap → Prop} {d : DefRec}
    (hn : l.most = some n) (hdf : d.params.defaults = [])
    (call : ∀ (w : World) (s₀ s₁ : Shared) (mg mb : Str → Option Value) (fa : Addr) (o : Obj) (pm cd doc : Value) (a : Addr) (vs : List Value) (ns : List Int),
      Ground q loose [] XP w s₀ mg mb s₁.heap → YP w s₁.heap →
      s₁.heap.get? fa = some o → o.data = .func (docDef d.name d.params d.body d.scope pm cd doc) → s₁.heap.CodeRec cd d.name → mg d.name = some (.ref fa) →
      s₁.heap.get? a = some { cls := .type "list", data := .seq vs.toArray } → IntsAre vs ns → ns.length ≤ n → s₁.gens = #[] →
      codeAny (model l.prog w) callerA (.call (.ref fa) ⟨[.ref a], []⟩) (fun r s' => r = .ok (.ret (.bool true)) ∧ OldK s₁.heap s'.heap ∧ s'.os = s₁.os ∧ AllBare s'.gens) s₁) :
    WalkO q loose XP YP l.row.toRowW d [] (fun f vs => PySem.call f vs) := by
  intro w s₀ s₁ mg mb G Y fa o pm cd doc dV kV ho hd hcd hD hmg hg args vals as hpre hlay hrd hwl hlo
  obtain rfl : dV = .none := Dflts.none hD hdf
  obtain rfl : kV = .none := Dflts.noKw hD
  obtain ⟨a, vs, ns, rfl, rfl, hobj, hints, hlen⟩ := script_of hn hpre hwl
  refine enter_call (codeAny_mono (call w s₀ s₁ mg mb fa o pm cd doc a vs ns G Y ho (fd_plain hd) hcd hmg hobj hints hlen hg) fun r s' hq => ?_)
  obtain ⟨rfl, h2, h3, h4⟩ := hq
  exact ⟨.inl ⟨.bool true, .bool true, [], rfl, fun _ => rfl, .bool true, post_true l _, fun _ => ⟨List.Pairwise.nil, fun _ hm => (nomatch hm)⟩⟩, h2, h3, h4⟩
section
variable {prog : Program} {w : World} {A : Around} {E : Value → Shared → Prop} {s : Shared} {K : Frag}
end
end Att
namespace L2
open PySem PySem.Spec PyProof.Rows
theorem vals_ints : ∀ {vs : List Value} {ns : List Int}, IntsAre vs ns → Vals (ns.map V.int) vs
  | _, _, .nil => .nil
  | _, _, .cons n t h => .cons ⟨t, rfl⟩ (vals_ints h)
noncomputable def Only (H : Hp) : Prop := ∀ b, H b = none ∨ ∃ o xs, H b = some (.frz o (.lst xs))
theorem law_call {P : Program} {w : World} {K : PySem.W.Frag} {mg mb : Str → Option Value} {CX : CXT} {k : Nat} {fa a : Addr} {fd : FuncData} {x : Str} {sp : Sp} {s₁ : Shared} {vs : List Value} {ns : List Int}
    (KX : K.In s₁.heap) (hns : s₁.heap.Ns mainGlobals mg) (hb : s₁.heap.Ns builtinsNs mb) (hbb : ∀ x : Str, x ≠ "__name__" → mb x = bootBuiltins x) (hlim : s₁.heap.NoLimit) (hg : s₁.gens = #[])
    (ha : s₁.heap.get? a = some { cls := .type "list", data := .seq vs.toArray }) (hi : IntsAre vs ns) (hl : ns.length ≤ sizeLine) (hr : Room k callerA)
    (F : ∀ base : Heap, K.In base → base.Ns mainGlobals mg → FnOk P w K mg base CX k fa fd [x] sp) (hbind : ∀ (s : Shared) (u : Value), BindsTo s fd ⟨[u], []⟩ [(x, u)])
    (hsp : ∀ H : Hp, Only H → SqL K H a (ns.map V.int) → sp [.ref a] H (fun v _ => v = .bl true) fun _ _ _ => False)
    (hCX : ∀ H e s', CX [] H s₁ (fun _ _ _ => False) e s' → False) :
    codeAny (model P w) callerA (.call (.ref fa) ⟨[.ref a], []⟩) (fun r s' => r = .ok (.ret (.bool true)) ∧ OldK s₁.heap s'.heap ∧ s'.os = s₁.os ∧ AllBare s'.gens) s₁ := by
  have rv := vals_ints hi
  have lenV := hi.length
  have core : ∀ H : Hp, Only H → SqL K H a (ns.map V.int) → HOk P w H s₁.heap → (∀ b, H b ≠ none → b = a) → (H a ≠ none → K.lookup a = none) →
      codeAny (model P w) callerA (.call (.ref fa) ⟨[.ref a], []⟩) (fun r s' => r = .ok (.ret (.bool true)) ∧ OldK s₁.heap s'.heap ∧ s'.os = s₁.os ∧ AllBare s'.gens) s₁ := by
    intro H hO hS hok hA hK
    have base_of : ∀ {b : Addr} {o : Obj}, s₁.heap.get? b = some o → H b = none → (hidT s₁.heap H).get? b = some o := fun e n => hidT_get e n
    have noA : ∀ {b : Addr} {o : Obj} {es : Array DictEntry} {ep : Nat}, s₁.heap.get? b = some o → o.data = .dict es ep → H b = none := fun {b o es ep} e d => by
      cases q : H b with
      | none => rfl
      | some u =>
        have e' : b = a := hA b (by rw [q]; simp)
        subst e'
        rw [ha] at e; cases e
        have d' : Data.seq vs.toArray _ = Data.dict es ep := d
        cases d'
    have nsK : ∀ {b : Addr} {m : Str → Option Value}, s₁.heap.Ns b m → (hidT s₁.heap H).Ns b m := fun {b m} ⟨o, es, ep, e, d, r⟩ => ⟨o, es, ep, base_of e (noA e d), d, r⟩
    have hKb : K.In (hidT s₁.heap H) := fun b o e => base_of (KX b o e) (by
      cases q : H b with
      | none => rfl
      | some u =>
        have e' : b = a := hA b (by rw [q]; simp)
        subst e'
        rw [hK (by rw [q]; simp)] at e; cases e)
    have hM : Mod K mg (hidT s₁.heap H) := ⟨hKb, nsK hns, ⟨mb, nsK hb, hbb⟩, let ⟨mc, h1, h2⟩ := hlim; ⟨mc, nsK h1, h2⟩⟩
    have e0 : Env0 P w K mg (hidT s₁.heap H) callerA [] s₁ H := ⟨rfl, hM, fun b o e => of_hidT e, Nat.le_of_eq (hidT_size _ _), trivial, fun b hb => absurd (show b ∈ ([] : List Addr) from hb) (by simp), hok, .of_eq hg⟩
    refine codeAny_mono ((F _ hKb (nsK hns)).run callerA [] s₁ H ⟨[.ref a], []⟩ [.ref a] [.ref a] _ _ hr e0 (hbind s₁ (.ref a)) (.cons rfl .nil) (hsp H hO hS)) fun r s' h => ?_
    cases r with
    | error e => exact (hCX H e s' h).elim
    | ok fl =>
      cases fl with
      | next => exact False.elim h
      | brk => exact False.elim h
      | cont => exact False.elim h
      | ret u =>
        obtain ⟨v, H', os, bare, un, hok', r', q⟩ := h
        have q' : v = .bl true := q
        subst q'
        obtain rfl : u = Value.bool true := r'
        refine ⟨rfl, OldK.of_keep fun b o e => ?_, os, bare⟩
        cases q : H b with
        | none => exact un.keep b o e q (by intro z; exact absurd (show b ∈ ([] : List Addr) from z) (by simp)) (by simp)
        | some u =>
          rcases hO b with z | ⟨ob, xs, z⟩
          · rw [q] at z; cases z
          · have z2 := un.frzs b ob _ z
            obtain ⟨e1, _⟩ := hok b _ z
            obtain ⟨e2, _⟩ := hok' b _ z2
            rw [e] at e1; cases e1
            exact e2
  cases hk : K.lookup a with
  | some o =>
    have e := KX a o hk
    rw [ha] at e
    cases e
    refine core (fun _ => none) (fun _ => .inl rfl) (.inr ⟨_, vs.toArray, _, hk, rfl, rfl, rfl, by rw [List.size_toArray, lenV]; exact hl, by simpa using rv⟩) (fun b u z => by have z' : (none : Option HO) = some u := z; cases z') (fun b z => absurd rfl z) fun z => absurd rfl z
  | none =>
    refine core (fun b => if b = a then some (.frz { cls := .type "list", data := .seq vs.toArray } (.lst (ns.map V.int))) else none) (fun b => ?_) (.inl (.inr ⟨{ cls := .type "list", data := .seq vs.toArray }, if_pos rfl⟩)) (fun b u z => ?_) (fun b z => ?_) fun _ => hk
    · by_cases hb : b = a
      · exact .inr ⟨_, _, if_pos hb⟩
      · exact .inl (if_neg hb)
    · by_cases hb : b = a
      · have z' := (if_pos hb).symm.trans z
        cases z'
        subst hb
        exact ⟨ha, by rw [List.length_map]; exact hl, vs, _, rv, ha⟩
      · have z' := (if_neg hb).symm.trans z
        cases z'
    · by_cases hb : b = a
      · exact hb
      · exact absurd (if_neg hb) z
end L2
namespace L2
open PySem PySem.Spec PyProof.Rows
theorem walk_of {l : PySem.W.OpenLaw} {n k : Nat} {q : Program} {loose : List Str} {XP : (Str → Option Value) → Heap → Prop} {YP : World → Heap → Prop} {d : DefRec} {K : Params → PySem.W.Frag} {CX : World → CXT} {sp : World → Sp} {x : Str}
    (hn : l.most = some n) (hn2 : n ≤ sizeLine) (hdf : d.params.defaults = []) (hr : Room k callerA)
    (hY : ∀ (w : World) (h : Heap), YP w h → (K w.params).In h)
    (F : ∀ (w : World) (mg : Str → Option Value) (fa : Addr) (h : Heap), (K w.params).In h → h.Ns mainGlobals mg → mg d.name = some (.ref fa) →
      ∃ fd : FuncData, (∀ (s : Shared) (u : Value), BindsTo s fd ⟨[u], []⟩ [(x, u)]) ∧
        ∀ base : Heap, (K w.params).In base → base.Ns mainGlobals mg → FnOk l.prog w (K w.params) mg base (CX w) k fa fd [x] (sp w))
    (hsp : ∀ (w : World) (H : Hp) (a : Addr) (ns : List Int), ns.length ≤ n → Only H → SqL (K w.params) H a (ns.map V.int) → sp w [.ref a] H (fun v _ => v = .bl true) fun _ _ _ => False)
    (hCX : ∀ (w : World) (H : Hp) (s : Shared) (e : Value) (s' : Shared), CX w [] H s (fun _ _ _ => False) e s' → False) :
    PySem.W.WalkO q loose XP YP l.row.toRowW d [] (fun f vs => PySem.call f vs) := by
  refine Att.attach_call hn hdf fun w s₀ s₁ mg mb fa o pm cd doc a vs ns G Y ho hd hcd hmg hobj hints hlen hg => ?_
  have KX := hY w _ Y
  obtain ⟨fd, hb, hF⟩ := F w mg fa _ KX G.T.g hmg
  exact law_call KX G.T.g G.T.b G.T.builtins G.T.nolimit hg hobj hints (Nat.le_trans hlen hn2) hr hF hb (fun H hO hS => hsp w H a ns hlen hO hS) fun H e s' => hCX w H s₁ e s'
end L2
namespace L2
open PySem PySem.Spec PyProof.Rows
noncomputable def defArgs (s : Stmt) : Arguments := match s with
  | .FunctionDef _ a _ _ _ _ _ _ _ _ => a
  | _ => { posonlyargs := [], args := [], vararg := none, kwonlyargs := [], kw_defaults := [], kwarg := none, defaults := [] }
noncomputable def defBody (s : Stmt) : List Stmt := match s with
  | .FunctionDef _ _ b _ _ _ _ _ _ _ => b
  | _ => []
noncomputable def defScope (s : Stmt) : Scope := match s with
  | .FunctionDef _ _ _ _ _ _ sc _ _ _ => sc
  | _ => { kind := .function, names := [], isGenerator := false, isCoroutine := false }
noncomputable abbrev CX0 : CXT := fun _ _ _ _ _ _ => False
noncomputable abbrev E0 : XK := fun _ _ _ => False
theorem pass0 {X : Cx} : Passes CX0 X E0 := fun _ _ _ _ _ _ _ h => h.elim
structure Fun (K : PySem.W.Frag) (x qual : Str) (st : Stmt) (f : Addr) (fd : FuncData) : Prop where
  ex : ∃ (oc : Value) (od : Option Addr) (kV doc pm : Value) (an : Option Addr) (cdv ct : Value) (osl : Array (Option Value)),
    fd = PySem.W.fnOf x qual (defArgs st) (defBody st) (defScope st) .none kV doc pm an cdv ct ∧ K.lookup f = some ⟨oc, od, .func fd, osl⟩ ∧ PySem.W.codeIn K cdv qual = true
  kp : PySem.W.keepIn K (.ref f) = true
section
variable {P : Program} {w : World} {K : PySem.W.Frag} {mg : Str → Option Value} {base : Heap}
theorem Fun.ok {x qual : Str} {st : Stmt} {f : Addr} {fd : FuncData} {N ps : List Str} {k : Nat} {sp : Sp} (F : Fun K x qual st f fd) (S : FnScope N ps (defScope st)) (len : ∀ vs H Q E, sp vs H Q E → vs.length = ps.length)
    (hbody : ∀ (cdv : Value) (A : Around) (outer : List Env) (s : Shared) (H : Hp) (vs : List V) (Q : VK) (E : XK), Room k (A.deeper (envOfC qual (defScope st) s.heap.objs.size f cdv)) → sp vs H Q E →
      ∃ t, PSs (cxOf CX0 P w K mg base N qual (defScope st) f cdv A outer s H E).nox (defBody st) t ∧ t { nx := fun _ H' => Q .non H', rt := Q } (start N vs) H) : FnOk P w K mg base CX0 (k + 1) f fd ps sp := by
  obtain ⟨oc, od, kV, doc, pm, an, cdv, ct, osl, rfl, lk, hcd⟩ := F.ex
  refine fn_of lk hcd S len fun A outer s H vs Q E hr hsp => ?_
  obtain ⟨t, h, q⟩ := hbody cdv A outer s H vs Q E hr hsp
  exact ⟨t, h.nox, q⟩
theorem Fun.binds {x qual : Str} {st : Stmt} {f : Addr} {fd : FuncData} {ps : List Str} (F : Fun K x qual st f fd)
    (h : ∀ (kV doc pm : Value) (an : Option Addr) (cdv ct : Value) (us : List Value), us.length = ps.length → bindArgs (PySem.W.fnOf x qual (defArgs st) (defBody st) (defScope st) .none kV doc pm an cdv ct) ⟨us, []⟩ = pure (ps.zip us)) : Binds K fd ps [] := by
  obtain ⟨oc, od, kV, doc, pm, an, cdv, ct, osl, rfl, lk, hcd⟩ := F.ex
  exact .all (h kV doc pm an cdv ct)
end
theorem hu_of {A : Around} {k : Nat} (hr : Room k A) : A.units + 16 < cLine := Nat.lt_of_le_of_lt (Nat.add_le_add_left (by decide : 16 ≤ 64) _) hr.units
theorem small1000 {n : Nat} (h : n ≤ 1000) : n < sizeLine := Nat.lt_of_le_of_lt h (by decide)
section
variable {X : Cx}
theorem pv (i : Nat) {x : Str} {pos : Pos} (hN : X.N[i]? = some x := by rfl) (hv : Vis X.env.scope x := by first | exact Or.inl rfl | exact Or.inr (Or.inl rfl) | exact Or.inr (Or.inr rfl)) (hd : (x == ("__debug__" : Str)) = false := by decide)
    (hcd : (x == ("__classdict__" : Str)) = false := by decide) : PE X (.Name x pos) (tVar i) := pe_var hN hv hd hcd
end
theorem iteF {A B : Prop} (h : B) : if false = true then A else B := by
  rw [if_neg Bool.false_ne_true]
  exact h
theorem iteT {A B : Prop} (h : A) : if true = true then A else B := by
  rw [if_pos rfl]
  exact h
theorem ite2 {c A B : Prop} [Decidable c] (h1 : c → A) (h2 : ¬ c → B) : if c then A else B := by
  by_cases h : c
  · rw [if_pos h]
    exact h1 h
  · rw [if_neg h]
    exact h2 h
noncomputable def Same (H H' : Hp) : Prop := ∀ b o, H b = some o → H' b = some o
theorem Same.refl (H : Hp) : Same H H := fun _ _ h => h
theorem Same.trans {H H1 H2 : Hp} (a : Same H H1) (b : Same H1 H2) : Same H H2 := fun c o h => b c o (a c o h)
theorem Same.free {H H' : Hp} (e : Same H H') {l : Addr} (h : H' l = Option.none) : H l = Option.none := by
  cases q : H l with
  | none => rfl
  | some o =>
    rw [e l o q] at h
    cases h
theorem Same.seq {K : PySem.W.Frag} {H H' : Hp} {a : Addr} {xs : List V} (e : Same H H') (h : SqL K H a xs) : SqL K H' a xs := by
  rcases h with (h | ⟨o, h⟩) | h
  · exact .inl (.inl (e _ _ h))
  · exact .inl (.inr ⟨o, e _ _ h⟩)
  · exact .inr h
end L2
namespace L2
open PySem PySem.Spec PyProof.Rows
section
variable {X : Cx}
end
end L2
namespace L2
open PySem PySem.Spec PyProof.Rows
section
variable {κ : Type} [DecidableEq κ]
end
end L2
namespace L2
open PySem PySem.Spec PyProof.Rows
section
variable {X : Cx}
theorem call_isi : CallR X (.builtin "isinstance") (fun xs H Q => ∃ x T t b, xs = [x, .ty T] ∧ TyOf X.K H x t ∧ PySem.W.kitOne X.K t (.type T) = some b ∧ Q (.bl b) H) := by
  intro pins s σ H xs us Q I r h
  obtain ⟨x, T, t, b, rfl, ty, e, q⟩ := h
  obtain ⟨u, w', rfl, ru, rw'⟩ := vals2 r
  cases (show w' = Value.type T from rw')
  exact isinst_ok I ru ty e fun tk => ⟨.bl b, H, I.tok tk, rfl, q⟩
end
section
variable {X : Cx} {tg : Expr}
end
end L2
namespace L2
open PySem PySem.Spec PyProof.Rows
section
variable {X : Cx} {e k : Expr} {te tk : TE} {pos p2 : Pos}
theorem vals_pick : ∀ (ix : List Nat) {xs : List V} {us : List Value}, Vals xs us → Vals (ix.filterMap (xs[·]?)) (ix.filterMap (us[·]?))
  | [], _, _, _ => .nil
  | i :: r, xs, us, h => by
    rw [List.filterMap_cons, List.filterMap_cons]
    cases ex : xs[i]? with
    | none =>
      rw [h.none_of ex]
      exact vals_pick r h
    | some x =>
      obtain ⟨u, eu, ru⟩ := h.get ex
      rw [eu]
      exact .cons ru (vals_pick r h)
noncomputable def stepIx (n : Nat) (c : Int) : List Nat := sliceRange (sliceBounds none none (some c) n).1 (sliceBounds none none (some c) n).2.1 (sliceBounds none none (some c) n).2.2
noncomputable def stepV (xs : List V) (c : Int) : List V := (stepIx xs.length c).filterMap (xs[·]?)
theorem range_pick {α : Type} (xs : List α) : (List.range xs.length).filterMap (xs[·]?) = xs := by
  induction xs with
  | nil => rfl
  | cons x r ih =>
    rw [List.length_cons, List.range_succ_eq_map, List.filterMap_cons, List.filterMap_map]
    show x :: List.filterMap ((fun j => (x :: r)[j]?) ∘ Nat.succ) (List.range r.length) = x :: r
    congr 1
theorem stepIx_one (n : Nat) : stepIx n 1 = List.range n := by
  unfold stepIx sliceBounds sliceRange
  simp only [Option.getD_some, show (1 : Int) > 0 by decide, if_true]
  by_cases h : n = 0
  · subst h
    rfl
  · rw [if_pos (by omega)]
    have e : (((n : Int) - 0 + 1 - 1) / 1).toNat = n := by rw [Int.ediv_one]; omega
    rw [e]
    conv => rhs; rw [← List.map_id (List.range n)]
    apply List.map_congr_left
    intro k hk
    show (0 + 1 * (k : Int)).toNat = k
    omega
theorem stepV_one (xs : List V) : stepV xs 1 = xs := by
  unfold stepV
  rw [stepIx_one]
  exact range_pick xs
theorem stepIx_neg (n : Nat) : stepIx n (-1) = (List.range n).map fun k => n - 1 - k := by
  unfold stepIx sliceBounds sliceRange
  simp only [Option.getD_some, show ¬ ((-1 : Int) > 0) by decide, if_false]
  by_cases h : n = 0
  · subst h
    rfl
  · rw [if_pos (by omega)]
    have e : (((n : Int) - 1 - -1 - -1 - 1) / (- -1)).toNat = n := by
      rw [show (- -1 : Int) = 1 by decide, Int.ediv_one]; omega
    rw [e]
    apply List.map_congr_left
    intro k hk
    have := List.mem_range.mp hk
    show ((n : Int) - 1 + -1 * (k : Int)).toNat = n - 1 - k
    omega
theorem rev_pick {α : Type} (xs : List α) : ((List.range xs.length).map fun k => xs.length - 1 - k).filterMap (xs[·]?) = xs.reverse := by
  apply List.ext_getElem?
  intro i
  have hall : ((List.range xs.length).map fun k => xs.length - 1 - k).filterMap (xs[·]?) = (List.range xs.length).filterMap fun k => xs[xs.length - 1 - k]? := by
    rw [List.filterMap_map]
    rfl
  rw [hall]
  have hsome : ∀ (l : List Nat), (∀ k ∈ l, k < xs.length) → ∀ j : Nat, (l.filterMap fun k => xs[xs.length - 1 - k]?)[j]? = l[j]?.bind fun k => xs[xs.length - 1 - k]? := by
    intro l
    induction l with
    | nil => intro _ j; rfl
    | cons a r ih =>
      intro hl j
      have ha := hl a List.mem_cons_self
      have hx : xs[xs.length - 1 - a]? = some xs[xs.length - 1 - a] := List.getElem?_eq_getElem (by omega)
      rw [List.filterMap_cons, hx]
      cases j with
      | zero => simp [hx]
      | succ j =>
        rw [List.getElem?_cons_succ, List.getElem?_cons_succ]
        exact ih (fun k hk => hl k (List.mem_cons_of_mem _ hk)) j
  rw [hsome _ (fun k hk => List.mem_range.mp hk) i]
  by_cases hi : i < xs.length
  · rw [List.getElem?_range hi, List.getElem?_reverse hi]
    rfl
  · rw [List.getElem?_eq_none (by simpa using hi), List.getElem?_eq_none (by simpa using hi)]
    rfl
theorem stepV_neg (xs : List V) : stepV xs (-1) = xs.reverse := by
  unfold stepV
  rw [stepIx_neg]
  exact rev_pick xs
noncomputable def tStep (K : PySem.W.Frag) (te tk : TE) : TE := fun σ H Q => te σ H fun x H1 => tk σ H1 fun y H2 => ∃ a xs c, x = .ref a ∧ y = .int c ∧ SqL K H2 a xs ∧ c ≠ 0 ∧ ∀ p, H2 p = none → Q (.ref p) (upd H2 p (.lst (stepV xs c)))
theorem pe_step (he : PE X e te) (hk : PE X k tk) : PE X (.Subscript e (.Slice none none (some k) p2) pos) (tStep X.K te tk) := by
  intro pins s σ H Q I h
  refine Subscript_ (thn (he pins s σ H _ I h) fun v s1 ⟨x, H1, I1, r1, q1⟩ => ?_)
  refine wpAny_Slice ?_
  rw [evalPart_none, evalPart_some]
  refine wpAny_pure (wpAny_pure ?_)
  refine thn (hk pins s1 σ H1 _ I1 q1) fun vk s3 ⟨y, H3, I3, ry, a, xs, c, ex, ey, hq, hc, q⟩ => ?_
  subst ex ey
  obtain ⟨t, rfl⟩ := ry
  cases r1
  have I4 : Inv X pins σ H3 { s3 with heap := s3.heap.push { cls := .type "slice", data := .fields #[.none, .none, .int c t] } } := I3.kept (t' := s3.toks) fun b ob q => Heap.get?_push_of_some _ q
  obtain ⟨its, r, ht, hz⟩ := I4.list hq
  have hlen := r.length
  have hpick : slicePick its.toArray none none (some c) = ((stepIx xs.length c).filterMap (its[·]?)).toArray := by
    unfold slicePick stepIx
    rw [List.size_toArray, hlen]
    simp
  have hle : (stepV xs c).length ≤ sizeLine := by
    have h1 := slicePick_size_le its.toArray none none (some c)
    rw [hpick, List.size_toArray, List.size_toArray] at h1
    have h2 := (vals_pick (stepIx xs.length c) r).length
    unfold stepV
    omega
  show wpAny (model X.prog X.w) X.A (subscriptTail e (.Slice none none (some k) p2) (.ref a) (.ref s3.heap.objs.size)) (EP X pins σ Q) X.xe { s3 with heap := s3.heap.push { cls := .type "slice", data := .fields #[.none, .none, .int c t] } }
  refine tail_any (ops := [.ref a, .ref s3.heap.objs.size]) ht.isList.typeIs slot_list_getitem.lookup (wpAny_getItem_list_slice ht.isList (Heap.IsSliceOf.new ..) .none .none (.int c t) (by simpa using hc) ?_ (by rw [List.size_toArray]; omega)) (by with_unfolding_all rfl)
  rw [hpick]
  refine ⟨.ref (s3.heap.push { cls := .type "slice", data := .fields #[.none, .none, .int c t] }).objs.size, _, I4.laid (t' := s3.toks) (o := .lst (stepV xs c)) (fun b ob q => Heap.get?_push_of_some _ q) (Nat.le_refl _) ?_, rfl, q _ I4.fresh⟩
  exact ⟨hle, _, 0, vals_pick _ r, Heap.get?_push_size _ rfl⟩
noncomputable def rSlS : V → Option Int → Option Int → Hp → VK → Prop := fun x lo hi H Q => ∃ z, x = .str z ∧ z.length ≤ sizeLine ∧ Q (.str (Txt.slice z lo hi)) H
theorem sl_str : SlR X rSlS := by
  intro pins s σ H x v vl vu lo hi sl Q I rx hs pl pu h
  obtain ⟨z, rfl, hz, q⟩ := h
  obtain ⟨t, rfl⟩ := rx
  refine ⟨"str", _, F.slot_str_getitem.lookup, typeIs_str _ _ _, ?_⟩
  have go : ∀ (l u : Option (Int × Tok)), vl = partValue l → vu = partValue u → lo = l.map (·.1) → hi = u.map (·.1) → wpAny (model X.prog X.w) X.A (getItem (.str z t) (.ref sl)) (EP X pins σ Q) X.xe s := by
    intro l u e1 e2 e3 e4
    subst e1 e2 e3 e4
    refine wpAny_getItem_str_slice (l := l) (u := u) (st := none) hs rfl ?_
    exact post_val_or_str ⟨Nat.le_trans (Txt.slice_le z _ _) hz, fun t' k => ⟨.str (Txt.slice z (l.map (·.1)) (u.map (·.1))), H, I.tok k, ⟨t', rfl⟩, q⟩⟩
  cases pl with
  | none =>
    cases pu with
    | none => exact go none none rfl rfl rfl rfl
    | int j tj => exact go none (some (j, tj)) rfl rfl rfl rfl
  | int i ti =>
    cases pu with
    | none => exact go (some (i, ti)) none rfl rfl rfl rfl
    | int j tj => exact go (some (i, ti)) (some (j, tj)) rfl rfl rfl rfl
open PySem.AutoSeq1 (wpAny_loadPart') in
theorem extend_tup (l : Addr) (items : Array Value) (n : Nat) (b : Addr) (items2 : Array Value) (n2 : Nat) (dd : Option Addr) (sl : Array (Option Value)) (hs0 : ¬(!items.isEmpty && Builtin.List.listTooLong (items.size + items2.size)) = true) (hs1 : items.size ≤ sizeLine) (hs2 : items.size + items2.size ≤ sizeLine + 1) :
    Meets (Builtin.«list.extend» ⟨[.ref l, .ref b], []⟩) (fun _ R s => s.heap.get? l = some { cls := .type "list", dict := none, data := .seq items n, slots := #[] } ∧ s.heap.get? b = some { cls := .type "tuple", dict := dd, data := .seq items2 n2, slots := sl } ∧ R (.ok (.ret Value.none)) { s with heap := s.heap.update l (Obj.mapSeq fun x => x ++ items2), toks := s.toks }) :=
  .of_wp fun prog w A R s h => by
    obtain ⟨hp, g, d, tk, os⟩ := s; obtain ⟨hl, hb, h⟩ := h; have f1 := AutoSeq1.idx_int; have f2 := AutoSeq1.sub_tuple_tuple; have f3 := AutoSeq1.sub_list_list; have f4 := AutoSeq1.sub_tuple_list; have f5 := AutoSeq1.sub_list_tuple;
    have hz' : (items ++ items2).size ≤ sizeLine + 1 := by rw [Array.size_append]; exact hs2
    wp_walk using (wpAny_updateSeq hl rfl (hz := hs1) (_hz' := hz')), wpAny_loadPart' hl, wpAny_loadPart' hb; exact ⟨_, rfl, h⟩
noncomputable def rExtT (K : PySem.W.Frag) : V → List V → Hp → VK → Prop := fun x vs H Q => ∃ l b xs zs, x = .ref l ∧ vs = [.ref b] ∧ H l = some (.lst xs) ∧ SqT K H b zs ∧ xs.length + zs.length ≤ sizeLine ∧ Q .non (upd H l (.lst (xs ++ zs)))
theorem mt_extT : MtM X "list.extend" (rExtT X.K) := by
  intro pins s σ H x vs v us Q I rx rv h
  obtain ⟨l, b, xs, zs, rfl, rfl, hH, hB, hz, q⟩ := h
  cases rx
  obtain ⟨u, rfl, ru⟩ := rv.one
  cases ru
  obtain ⟨z, its, n, r, hl, e⟩ := I.lstM hH
  obtain ⟨its2, r2, ht2, hz2⟩ := I.tuple hB
  obtain ⟨⟨c2, d2, dat2, sl2⟩, e2, hc2, n2, hd2⟩ := ht2
  dsimp only at hc2 hd2
  subst hc2 hd2
  have hl2 := r2.length
  have hsz : its.toArray.size + its2.toArray.size ≤ sizeLine := by rw [List.size_toArray, List.size_toArray]; omega
  have hlong : ¬ (!its.toArray.isEmpty && Builtin.List.listTooLong (its.toArray.size + its2.toArray.size)) = true := by
    rw [notLongL hsz, Bool.and_false]
    exact Bool.false_ne_true
  refine call_meets F.slot_list_extend ⟨_, e, rfl⟩ F.entry_list_extend (F.args_list_extend_2 _ _)
    (extend_tup l its.toArray n b its2.toArray n2 d2 sl2 hlong (by rw [List.size_toArray]; omega) (by omega)) ⟨e, e2, ?_⟩
  refine ⟨.non, _, I.lset (its' := its ++ its2) hH e (by simp) (r.append r2) ?_, rfl, q⟩
  rw [List.length_append]
  omega
theorem range_all (bs : List Bool) : ((List.range bs.length).all fun i => (bs[i]?).getD true) = bs.all id := by
  induction bs with
  | nil => rfl
  | cons b r ih =>
    rw [List.length_cons, List.range_succ_eq_map, List.all_cons, List.all_map]
    show (b && (List.range r.length).all (fun i => ((b :: r)[i + 1]?).getD true)) = (b && r.all id)
    rw [← ih]
    rfl
theorem call_all (hc : X.calm = true) : CallR X (.builtin "all") (fun xs H Q => ∃ (p : Addr) (bs : List Bool), xs = [.ref p] ∧ SqL X.K H p (bs.map V.bl) ∧ Q (.bl (bs.all id)) H) := by
  intro pins s σ H xs us Q I r h
  obtain ⟨p, bs, rfl, hq, q⟩ := h
  obtain ⟨u, rfl, ru⟩ := vals1 r
  cases ru
  obtain ⟨its, rv, pl, hz⟩ := I.list hq
  have hl := pl.isList
  have hlt : p < s.heap.objs.size := by obtain ⟨_, e, _⟩ := hl; exact Heap.lt_size e
  have hn : its.toArray.size = bs.length := by have := rv.length; rw [List.length_map] at this; rw [List.size_toArray]; omega
  refine call_all_walk (wpAny_pyIter_list hl ?_)
  refine ⟨s.heap.objs.size, [s.heap.objs.size, p], [s.heap.objs.size], its.toArray.size, _, _, fun i => (bs[i]?).getD true, rfl, Walks.list (A := X.A.in1) (I.ok.hd hc) _ p (Nat.ne_of_lt hlt) its.toArray,
    ⟨⟨_, Heap.get?_push_size _ rfl, rfl, rfl⟩, hl.push _⟩, fun i v s' Q' E' hP hQ => ?_, fun h' tk hk => ?_⟩
  · have hv : its[i]? = some v := by simpa using hP
    have hi : i < bs.length := by
      have := (List.getElem?_eq_some_iff.mp hv).1
      have := rv.length
      rw [List.length_map] at this
      omega
    have hb : (bs.map V.bl)[i]? = some (V.bl bs[i]) := by rw [List.getElem?_map, List.getElem?_eq_getElem hi] <;> rfl
    obtain ⟨u, eu, ru⟩ := rv.get hb
    rw [hv] at eu
    cases eu
    cases (show v = Value.bool bs[i] from ru)
    have hQ' := hQ
    simp only [List.getElem?_eq_getElem hi, Option.getD_some] at hQ'
    exact wpAny_truthy_bool hQ'
  · rw [hn, range_all]
    refine ⟨.bl (bs.all id), H, I.kept (t' := tk) fun b x e => ?_, rfl, q⟩
    exact hk b x (fun hm => by rw [List.mem_singleton.mp hm] at e; exact Nat.lt_irrefl _ (Heap.lt_size e)) (Heap.get?_push_of_some _ e)
noncomputable def DTab (P : Program) (w : World) (K : PySem.W.Frag) (a : Addr) (kvs : List (Key × V)) : Prop :=
  (a == sysModules) = false ∧ ∀ h : Heap, K.In h → ∃ vs, KV kvs vs ∧ h.DictOf (mixKind P w) a vs
noncomputable def rInD (P : Program) (w : World) (K : PySem.W.Frag) (neg : Bool) : R2 := fun x y H Q => ∃ k a kvs, x = kV k ∧ y = .ref a ∧ DTab P w K a kvs ∧ Q (.bl (if neg then !(valV kvs k).isSome else (valV kvs k).isSome)) H
theorem op_inD : OpR X (compareOp .In) (rInD X.prog X.w X.K false) := by
  intro pins s σ H x y v u Q I rx ry h
  obtain ⟨k, a, kvs, rfl, rfl, ⟨hd, T⟩, q⟩ := h
  cases (show u = Value.ref a from ry)
  obtain ⟨vs, rel, dd⟩ := T _ I.kIn
  refine wpAny_in_of (kV_is rx) hd dd.mapOf ?_
  rw [← (rel.val k).isSome_eq]
  exact ⟨.bl (valV kvs k).isSome, H, I.tok _, rfl, q⟩
end
end L2
namespace L2
open PySem PySem.Spec PyProof.Rows
theorem forIn_yields {α β : Type} {f : α → β → Sem (ForInStep β)} (g : β → α → β) : ∀ {l : List α} (c : β), (∀ x ∈ l, ∀ c, f x c = pure (.yield (g c x))) → forIn l c f = pure (l.foldl g c)
  | [], c, _ => rfl
  | x :: l, c, h => by
    have hx := h x List.mem_cons_self c
    rw [List.forIn_cons, hx, pure_bind]
    exact forIn_yields g (g c x) fun y hy => h y (List.mem_cons_of_mem _ hy)
noncomputable def closStep (cells : List (Str × Addr)) (c : List (Str × Addr)) (x : Str × NameKind) : List (Str × Addr) :=
  if x.2 = .free then (match cells.lookup x.1 with | some a => (x.1, a) :: c | none => c) else c
noncomputable def closOf (cells : List (Str × Addr)) (names : List (Str × NameKind)) : List (Str × Addr) := names.foldl (closStep cells) []
theorem closureFor_ok {scope : Scope} {env : Env} (h : ∀ x ∈ scope.names, x.2 = .free → ∃ c, env.cells.lookup x.1 = some c) : closureFor scope env = pure (closOf env.cells scope.names) := by
  simp only [closureFor]
  rw [forIn_yields (closStep env.cells) [] (fun x hx c => by
    obtain ⟨n, kind⟩ := x
    by_cases hk : kind = .free
    · subst hk
      obtain ⟨a, ha⟩ := h _ hx rfl
      simp only [closStep, if_true, beq_self_eq_true, cellOf, ha, pure_bind]
    · have hb : (kind == NameKind.free) = false := by simpa using hk
      simp only [closStep, hb, hk, Bool.false_eq_true, if_false])]
  rfl
theorem clos_sound {cells : List (Str × Addr)} : ∀ {names : List (Str × NameKind)} {acc : List (Str × Addr)}, (∀ p ∈ acc, cells.lookup p.1 = some p.2) → ∀ p ∈ names.foldl (closStep cells) acc, cells.lookup p.1 = some p.2
  | [], _, h => h
  | x :: r, acc, h => by
    refine clos_sound (names := r) (acc := closStep cells acc x) ?_
    intro p hp
    unfold closStep at hp
    split at hp
    · split at hp
      · rename_i a ha
        rcases List.mem_cons.mp hp with e | e
        · subst e
          exact ha
        · exact h p e
      · exact h p hp
    · exact h p hp
theorem clos_keeps {cells : List (Str × Addr)} : ∀ {names : List (Str × NameKind)} {acc : List (Str × Addr)} {p : Str × Addr}, p ∈ acc → p ∈ names.foldl (closStep cells) acc
  | [], _, _, h => h
  | x :: r, acc, p, h => by
    refine clos_keeps (names := r) (acc := closStep cells acc x) ?_
    unfold closStep
    split
    · split
      · exact List.mem_cons_of_mem _ h
      · exact h
    · exact h
theorem clos_has {cells : List (Str × Addr)} {n : Str} {c : Addr} (hc : cells.lookup n = some c) : ∀ {names : List (Str × NameKind)} {acc : List (Str × Addr)}, (n, NameKind.free) ∈ names → (n, c) ∈ names.foldl (closStep cells) acc
  | [], _, h => by simp at h
  | x :: r, acc, h => by
    rcases List.mem_cons.mp h with e | e
    · subst e
      refine clos_keeps (names := r) ?_
      simp [closStep, hc]
    · exact clos_has hc (names := r) e
theorem mem_of_lookup {α β : Type} [BEq α] [LawfulBEq α] {k : α} {v : β} : ∀ {l : List (α × β)}, l.lookup k = some v → (k, v) ∈ l
  | [], h => by simp at h
  | (a, b) :: r, h => by
    rw [List.lookup_cons] at h
    split at h
    · rename_i e
      have := eq_of_beq e
      subst this
      cases h
      exact List.mem_cons_self
    · exact List.mem_cons_of_mem _ (mem_of_lookup h)
theorem lookup_of_mem {α β : Type} [BEq α] [LawfulBEq α] {k : α} {v : β} : ∀ {l : List (α × β)}, (k, v) ∈ l → ∃ v', l.lookup k = some v'
  | [], h => by simp at h
  | (a, b) :: r, h => by
    rw [List.lookup_cons]
    split
    · exact ⟨b, rfl⟩
    · rename_i e
      rcases List.mem_cons.mp h with q | q
      · cases q
        simp at e
      · exact lookup_of_mem q
theorem closOf_sound {cells : List (Str × Addr)} {names : List (Str × NameKind)} {n : Str} {c : Addr} (h : (closOf cells names).lookup n = some c) : cells.lookup n = some c :=
  clos_sound (names := names) (acc := []) (by simp) (n, c) (mem_of_lookup h)
theorem closOf_has {cells : List (Str × Addr)} {names : List (Str × NameKind)} {n : Str} {c : Addr} (hc : cells.lookup n = some c) (h : (n, NameKind.free) ∈ names) : (closOf cells names).lookup n = some c := by
  obtain ⟨c', e⟩ := lookup_of_mem (clos_has hc (acc := []) h)
  have := closOf_sound e
  rw [hc] at this
  cases this
  exact e
noncomputable def relabelN (sc0 scope : Scope) : List (Str × NameKind) :=
  scope.names.map fun (n, k) => if (k == .free && sc0.kind == .function && sc0.names.lookup n == some .cell) then (n, .cell) else (n, k)
structure CompOk (sc0 : Scope) (N0 : List Str) (scope : Scope) (x : Str) (ys : List Str) (fr : List Nat) : Prop where
  kind : scope.kind = .function
  nocell : ∀ y ∈ scope.names, y.2 ≠ .cell
  loc : ∀ y ∈ scope.names, y.2 = .local → scope.names.lookup y.1 = some .local
  xl : (relabelN sc0 scope).lookup x = some .local
  free : ∀ y ∈ scope.names, y.2 = .free → sc0.names.lookup y.1 = some .cell
  nd : (x :: ys).Nodup
  len : ys.length = fr.length
  sl : ∀ q ∈ ys.zip fr, N0[q.2]? = some q.1 ∧ sc0.names.lookup q.1 = some .cell ∧ (relabelN sc0 scope).lookup q.1 = some .cell
noncomputable def cxComp (X : Cx) (x : Str) (ys : List Str) (scope : Scope) (C : Addr) (s : Shared) (H : Hp) (ex : List Addr) : Cx :=
  { X with N := x :: ys, s₀ := s, H₀ := H, env := compEnvC scope (closOf X.env.cells scope.names) C X.env, outer := X.stack, stack := X.stack, ex := ex, fn := fun _ => false, pn := [], xe := fun _ _ => False }
section
variable {prog : Program} {w : World} {A : Around} {R : Result → Shared → Prop} {s : Shared}
theorem compLoop_list {elt target iter : Expr} {scope : Scope} {pos : Pos} {it acc : Value} {env : Env} (I : Nat → Shared → Prop)
    (turn : ∀ n s, I n s → wpAny (model prog w) A (pyNext it) (fun r s₁ => match r with
      | none => R (.ok .next) s₁
      | some v => wpAny (model prog w) A (letOwnedTupleGo target it v) (fun _ s₁' => wpAny (model prog w) A (assign target env v) (fun _ s₂ => wpAny (model prog w) A (eval elt env) (fun x s₃ =>
          wpAny (model prog w) A (call (.builtin "list.append") [acc, x]) (fun _ s₄ => ∃ m, m < n ∧ I m s₄) (fun _ _ => False) s₃) (fun _ _ => False) s₂) (fun _ _ => False) s₁') (fun _ _ => False) s₁) (fun _ _ => False) s)
    (n : Nat) (h : I n s) : codeAny (model prog w) A (.compLoop (.ListComp elt [⟨target, iter, [], 0⟩] scope pos) 0 it acc env) R s := by
  refine codeAny_loop rfl I (fun n s hI => ?_) n h
  show wpAny _ _ ((compTurn (.ListComp elt [⟨target, iter, [], 0⟩] scope pos) 0 it acc env).onRaise (fun x => do noteFrame x env; theTreesLotGoes x)) _ _ s
  refine wpAny_noted ?_
  rw [compTurn_list1]
  refine wpAny_noRaise ?_
  refine wpAny_bind (wpAny_standAt (wpAny_bind (wpAny_mono (turn n s hI) (fun r s₁ h₁ => ?_) fun _ _ h' => h')))
  cases r with
  | none => exact wpAny_pure h₁
  | some v =>
    refine wpAny_bind (wpAny_mono h₁ (fun _ s₁' h₁' => ?_) fun _ _ h' => h')
    exact wpAny_bind (wpAny_mono h₁' (fun _ s₂ h₂ => wpAny_bind (wpAny_bind (wpAny_mono h₂ (fun x s₃ h₃ => wpAny_bind (wpAny_mono h₃
      (fun _ s₄ h₄ => wpAny_pure (wpAny_pure ⟨rfl, h₄⟩)) fun _ _ h' => h')) fun _ _ h' => h'))) fun _ _ h' => h')
end
noncomputable def caps (fr : List Nat) (σ : St) : St := fr.map fun j => (σ[j]?).join
noncomputable def tCompW (fr : List Nat) (te : TE) (σ : St) (J : It) (H1 : Hp) (Q : VK) : Prop :=
  ∀ p, H1 p = none → ∃ W : Nat → Nat → List V → Hp → Prop, (∃ m, W 0 m [] (upd H1 p (.lst []))) ∧ ∀ i m ys H, W i m ys H → H p = some (.lst ys) ∧
    ((J.stop i H ∧ Q (.ref p) H) ∨ (J.go i H ∧ ys.length < sizeLine ∧ ∀ x H', J.yld i H x H' → te (some x :: caps fr σ) H' fun v H2 =>
      H2 p = some (.lst ys) ∧ ∃ m', m' < m ∧ W (i + 1) m' (ys ++ [v]) (upd H2 p (.lst (ys ++ [v])))))
noncomputable def tComp (wi : TI) (fr : List Nat) (te : TE) : TE := fun σ H Q => wi σ H fun J H1 => tCompW fr te σ J H1 Q
section
variable {X : Cx} {x : Str} {px pos fpos : Pos} {iter elt : Expr} {scope sc0 : Scope} {N0 ys : List Str} {fr : List Nat} {wi : TI} {te : TE} {pins : List (Addr × Obj)} {σ : St} {H : Hp} {s : Shared}
theorem comp_core {use : Option (Value → Sem Unit)} {Qv : Value → Shared → Prop} {Q : VK} (hcalm : X.calm = true) (hi : PI X (.Name x px) iter wi) (hsc : X.env.scope = sc0) (hN : X.N = N0) (ok : CompOk sc0 N0 scope x ys fr)
    (hE : ∀ C s H ex, PE (cxComp X x ys scope C s H ex) elt te) (I : Inv X pins σ H s) (h : tComp wi fr te σ H Q) (hs : ∀ v, foldedSetIterable iter X.env v = pure v)
    (fin : ∀ (p C : Addr) (H' : Hp) (s' : Shared) (m : Str → Option Value), Inv X pins σ H' s' → s'.heap.Ns C m → H' C = none → C ≠ X.env.locals → X.s₀.heap.objs.size ≤ C → (∀ y c, X.env.cells.lookup y = some c → c ≠ C) → (∀ q ∈ X.pn ++ pins, q.1 ≠ C) → Q (.ref p) H' →
      compPost (model X.prog X.w) X.A X.xe use Qv (.ref p) C (.ok .next) s') :
    wpAny (model X.prog X.w) X.A (comprehension (.ListComp elt [⟨.Name x px, iter, [], 0⟩] scope pos) scope X.env fpos (newList []) false (eval iter X.env) use) Qv X.xe s := by
  subst hsc hN
  have hkof : ∀ y, X.env.kindOf y = X.env.scope.names.lookup y := fun y => rfl
  have hfree : ∀ y ∈ scope.names, y.2 = .free → ∃ c, X.env.cells.lookup y.1 = some c := fun y hy e => I.ok.has y.1 (.inl (ok.free y hy e))
  refine wpAny_comprehension_free (gs := []) rfl hs (closureFor_ok hfree) ok.kind ok.loc (thn (hi pins s σ H _ I h) fun v s1 h1 => thn h1 fun itv s2 h2 => ?_)
  obtain ⟨it, fp, tn, J, H2, e, I2, T, st2, f2, hp⟩ := h2
  subst e
  refine wpAny_newObj_type (wpAny_newFunctionEnv ok.nocell (by intro y hy; simp at hy) (fun h₁ hns₁ hsb₁ => ?_) ok.kind)
  dsimp only at hns₁ hsb₁ ⊢
  have I3 : Inv X pins σ (upd H2 s2.heap.objs.size (.lst [])) { s2 with heap := s2.heap.push { cls := .type "list", data := .seq ([] : List Value).toArray } } :=
    I2.lnew (its := []) (ys := []) (t' := s2.toks) .nil (Nat.zero_le _)
  have hf2 : ∀ b ∈ fp, b < s2.heap.objs.size := fun b hb => by
    obtain ⟨o, e, _⟩ := T.obj _ _ st2 b hb
    exact Heap.lt_size e
  have hps : s2.heap.objs.size < (s2.heap.push { cls := .type "list", data := .seq ([] : List Value).toArray }).objs.size := by rw [Heap.size_push]; exact Nat.lt_succ_self _
  have W0 := hp s2.heap.objs.size I2.fresh
  have st3 : tn 0 (s2.heap.push { cls := .type "list", data := .seq ([] : List Value).toArray }) := T.keep _ _ _ st2 fun b hb o e => Heap.get?_push_of_some _ e
  generalize hpp : s2.heap.objs.size = p at I3 W0 hf2 hps ⊢
  generalize hh3 : (s2.heap.push { cls := .type "list", data := .seq ([] : List Value).toArray }) = h3 at I3 hns₁ hsb₁ hps st3 ⊢
  generalize hH3 : upd H2 p (.lst []) = H3 at I3 W0
  have hold : ∀ b o, h3.get? b = some o → h₁.get? b = some o := fun b o e => hsb₁.extBut b o (Nat.ne_of_lt (Heap.lt_size e)) (Heap.get?_push_of_some _ e)
  have fH3 : ∀ b ∈ fp, H3 b = none := fun b hb => by
    rw [← hH3, upd_ne (Nat.ne_of_lt (hf2 b hb))]
    exact (f2 b hb).1
  have hclos : ∀ y c, (closOf X.env.cells scope.names).lookup y = some c → X.env.cells.lookup y = some c := fun y c e => closOf_sound e
  have hcell3 : ∀ y c, X.env.cells.lookup y = some c → c < h3.objs.size := fun y c e => by
    obtain ⟨v, o, ho, _⟩ := I3.cell y c e
    exact Heap.lt_size ho
  have hlt3 : X.env.locals < h3.objs.size := I3.lt
  have Yok : (cxComp X x ys scope h3.objs.size { s2 with heap := h3 } H3 fp).Ok := {
    mod := I.ok.mod
    kind := ok.kind
    glob := I.ok.glob
    blt := I.ok.blt
    above := Nat.le_refl _
    inj := fun y z c e1 e2 => I.ok.inj y z c (hclos _ _ e1) (hclos _ _ e2)
    has := fun y hk => by
      have hfr : (y, NameKind.free) ∈ scope.names := by
        have hm : ∃ k, (relabelN X.env.scope scope).lookup y = some k ∧ (k = .cell ∨ k = .free) := by
          rcases hk with hk | hk
          · exact ⟨_, hk, .inl rfl⟩
          · exact ⟨_, hk, .inr rfl⟩
        obtain ⟨k, hk, hkk⟩ := hm
        have hmem := mem_of_lookup hk
        unfold relabelN at hmem
        obtain ⟨⟨n, k0⟩, hn, en⟩ := List.mem_map.mp hmem
        dsimp only at en
        split at en
        · rename_i hc
          simp only [Bool.and_eq_true] at hc
          have hk0 : k0 = .free := by simpa using hc.1.1
          cases en
          rw [← hk0]
          exact hn
        · cases en
          rcases hkk with e | e
          · exact absurd e (ok.nocell _ hn)
          · rw [← e]
            exact hn
      obtain ⟨c, hc⟩ := hfree _ hfr rfl
      exact ⟨c, closOf_has hc hfr⟩
    cab := fun y c hf _ => by cases hf
    hd := I.ok.hd
    frames := I.ok.frames
    stk := .inl rfl
    exf := fun b hb => ⟨fun e => absurd (hf2 b hb) (by rw [e]; exact Nat.not_lt.mpr (Nat.le_of_lt hps)), fun y c e => (f2 b hb).2.2.2.2.1 y c (hclos _ _ e)⟩
    bs := fun b o e => ⟨(I3.bs b o e).1, (I3.bs b o e).2⟩
    bsz := Nat.le_trans I.ok.bsz I3.sz
    noex := fun b o e hb => by
      rcases (f2 b hb).2.2.2.1 with q | q
      · exact I.ok.noex b o e q
      · have h1 : b < X.base.objs.size := Heap.lt_size e
        exact absurd h1 (Nat.not_lt.mpr (Nat.le_trans I.ok.bsz q))
    exfs := fun b hb hm => by
      rcases List.mem_cons.mp (I3.stkSub b hm) with q | q
      · exact (f2 b hb).2.1 q
      · exact (f2 b hb).2.2.1 q
    funs := I3.stack
    frf := I3.stkFree }
  have IY : Inv (cxComp X x ys scope h3.objs.size { s2 with heap := h3 } H3 fp) [] (none :: caps fr σ) H3 { s2 with heap := h₁, toks := s2.toks + ([] : List (Str × Value)).length } := {
    ok := Yok
    os := rfl
    bare := I2.bare
    base := Un.kept hold
    loc := by
      refine ⟨_, hns₁, fun i y v hy hv hvis => ?_⟩
      cases i with
      | zero => cases hv
      | succ j =>
        have hy' : ys[j]? = some y := hy
        have hv' : (caps fr σ)[j]? = some (some v) := hv
        unfold caps at hv'
        rw [List.getElem?_map] at hv'
        obtain ⟨i0, hi0, hv0⟩ := Option.map_eq_some_iff.mp hv'
        have hz : (y, i0) ∈ ys.zip fr := by
          refine List.mem_iff_getElem?.mpr ⟨j, ?_⟩
          rw [List.getElem?_zip_eq_some]
          exact ⟨hy', hi0⟩
        obtain ⟨hn, hk, hk2⟩ := ok.sl _ hz
        have hσ : σ[i0]? = some (some v) := by
          cases e : σ[i0]? with
          | none => rw [e] at hv0; cases hv0
          | some o =>
            rw [e] at hv0
            rw [show o = some v from hv0]
        obtain ⟨m, hm, hl⟩ := I3.loc
        obtain ⟨u, ru, lk⟩ := hl i0 y v hn hσ (.inr (.inl hk))
        refine ⟨u, ru, .inr ⟨.inl hk2, ?_⟩⟩
        rcases lk with ⟨a, _⟩ | ⟨_, c, hc, hcell⟩
        · have a' : X.env.scope.names.lookup y = some .local := a
          have hk' : X.env.scope.names.lookup y = some .cell := hk
          rw [hk'] at a'
          cases a'
        · have hfr : (y, NameKind.free) ∈ scope.names := by
            have hmem := mem_of_lookup hk2
            unfold relabelN at hmem
            obtain ⟨⟨n, k0⟩, hn0, en⟩ := List.mem_map.mp hmem
            dsimp only at en
            split at en
            · rename_i hc0
              simp only [Bool.and_eq_true] at hc0
              have hk0 : k0 = .free := by simpa using hc0.1.1
              cases en
              rw [← hk0]
              exact hn0
            · cases en
              exact absurd rfl (ok.nocell _ hn0)
          exact ⟨c, closOf_has hc hfr, hcell.keeps hold⟩
    cell := fun y c e => by
      obtain ⟨v, hv⟩ := I3.cell y c (hclos _ _ e)
      exact ⟨v, hv.keeps hold⟩
    free := I3.fresh
    freeC := fun y c e => I3.freeC y c (hclos _ _ e)
    pin := fun q hq => by cases hq
    hok := I3.hok.kept hold
    len := by
      show (none :: caps fr σ).length = (x :: ys).length
      rw [List.length_cons, List.length_cons, ok.len]
      unfold caps
      rw [List.length_map] }
  have hxl : (cxComp X x ys scope h3.objs.size { s2 with heap := h3 } H3 fp).env.scope.names.lookup x = some .local := ok.xl
  have pgx : PG (cxComp X x ys scope h3.objs.size { s2 with heap := h3 } H3 fp) (.Name x px) (gName 0) := pg_name (i := 0) ok.nd rfl (.inl hxl) (.inr hxl)
  have pel := hE h3.objs.size { s2 with heap := h3 } H3 fp
  obtain ⟨W, ⟨m0, w0⟩, turn⟩ := W0
  have stat : ∀ {H' : Hp}, (∀ b ∈ fp, H' b = none) → ∀ b ∈ fp, FpOk (cxComp X x ys scope h3.objs.size { s2 with heap := h3 } H3 fp) [] H' b := fun hn b hb =>
    ⟨hn b hb, (Yok.exf b hb).1, Yok.exfs b hb, .inl hb, (Yok.exf b hb).2, fun q hq => by cases hq⟩
  have loop : codeAny (model X.prog X.w) X.A (.compLoop (.ListComp elt [⟨.Name x px, iter, [], 0⟩] scope pos) 0 (.ref it) (.ref p) (compEnvC scope (closOf X.env.cells scope.names) h3.objs.size X.env))
      (compPost (model X.prog X.w) X.A X.xe use Qv (.ref p) h3.objs.size) { s2 with heap := h₁, toks := s2.toks + ([] : List (Str × Value)).length } := by
    refine compLoop_list (fun n s' => ∃ i zs v0 H', Inv (cxComp X x ys scope h3.objs.size { s2 with heap := h3 } H3 fp) [] (v0 :: caps fr σ) H' s' ∧ tn i s'.heap ∧ (∀ b ∈ fp, H' b = none) ∧ W i n zs H') ?_ m0
      ⟨0, [], none, H3, IY, T.keep _ _ _ st3 fun b hb o e => hold b o e, fH3, w0⟩
    rintro n s5 ⟨i, zs, v0, H5, I5, st5, fr5, w5⟩
    obtain ⟨hacc, turn5⟩ := turn i n zs H5 w5
    rcases turn5 with ⟨stop, qn⟩ | ⟨go, hlen, step⟩
    · refine thn (T.done (cxComp X x ys scope h3.objs.size { s2 with heap := h3 } H3 fp) rfl rfl rfl hcalm i [] s5 _ H5 _ I5 (stat fr5) st5 stop) fun r s6 ⟨hr, I6⟩ => ?_
      subst hr
      obtain ⟨m6, n6, _⟩ := I6.loc
      refine fin p h3.objs.size H5 s6 m6 (I3.call' I6.os I6.base I6.hok I6.bare fun b hb => ⟨(f2 b hb).2.2.2.1, (f2 b hb).2.1, (f2 b hb).2.2.2.2.1, (f2 b hb).2.2.2.2.2⟩) n6 I6.free (Nat.ne_of_gt hlt3) I3.sz (fun y c e => Nat.ne_of_lt (hcell3 y c e)) (fun q hq => ?_) qn
      exact Nat.ne_of_lt (Heap.lt_size (I3.pin q hq).1)
    · refine thn (T.item (cxComp X x ys scope h3.objs.size { s2 with heap := h3 } H3 fp) rfl rfl rfl hcalm i [] s5 _ H5 _ I5 (stat fr5) st5 go) fun r s6 ⟨u, hr, h6⟩ => ?_
      subst hr
      refine thn h6 fun _ s7 ⟨xv, H7, I7, r7, y7, st7, fr7⟩ => ?_
      have I7' := I7.pinned (stat fr7) (T.obj _ _ st7)
      refine thn (pgx _ s7 _ H7 xv u (fun σ' H' => σ' = some xv :: caps fr σ ∧ H' = H7) I7' r7 ⟨rfl, rfl⟩) fun _ s8 ⟨σ8, H8, I8, e8, e8'⟩ => ?_
      subst e8 e8'
      refine thn (pel _ s8 _ H8 _ I8 (step xv H8 y7)) fun yv s9 ⟨v9, H9, I9, r9, hp9, m', hm', w9⟩ => ?_
      refine thn (mt_append _ s9 _ H9 (.ref p) [v9] (.ref p) [yv] (fun _ H' => H' = upd H9 p (.lst (zs ++ [v9]))) I9 rfl (.cons r9 .nil) ⟨p, zs, v9, rfl, rfl, hp9, hlen, rfl⟩) fun _ s10 ⟨_, H10, I10, _, e10⟩ => ?_
      subst e10
      refine ⟨m', hm', i + 1, zs ++ [v9], some xv, _, I10.unpinned, T.keep _ _ _ st7 fun b hb o e => (I10.pin (b, o) (List.mem_append_right _ (List.mem_append_right _ (mem_pinsAt hb e)))).1, fun b hb => ?_, w9⟩
      obtain ⟨o, e, d⟩ := T.obj _ _ st7 b hb
      exact (I10.pin (b, o) (List.mem_append_right _ (List.mem_append_right _ (mem_pinsAt hb e)))).2.1
  exact codeAny_compStart_list loop (T.self X.A 0 _ _ _ (T.keep _ _ _ st3 fun b hb o e => hold b o e) loop)
theorem pe_comp (hcalm : X.calm = true) (hi : PI X (.Name x px) iter wi) (hsc : X.env.scope = sc0) (hN : X.N = N0) (ok : CompOk sc0 N0 scope x ys fr)
    (hE : ∀ C s H ex, PE (cxComp X x ys scope C s H ex) elt te) (hs : ∀ v, foldedSetIterable iter X.env v = pure v := by intro _; rfl) :
    PE X (.ListComp elt [⟨.Name x px, iter, [], 0⟩] scope pos) (tComp wi fr te) := by
  intro pins s σ H Q I h
  rw [eval_ListComp]
  refine comp_core (use := none) (Qv := EP X pins σ Q) (Q := Q) hcalm hi hsc hN ok hE I h hs fun p C H' s' m I' hn h0 h1 h2 h3 h4 q => ?_
  refine ⟨m, hn, fun h' sb => ⟨.ref p, H', I'.turned (t' := s'.toks) (fun b o hb e => sb.extBut b o hb e) h0 (Ne.symm (Ne.symm h1)) (.inr h2) h3 h4, rfl, q⟩⟩
theorem ps_setC {i : Nat} {y : Str} {py spos : Pos} (hcalm : X.calm = true) (hnd : X.N.Nodup) (hiN : X.N[i]? = some y) (hy : Loc X.env.scope y) (hi : PI X (.Name x px) iter wi) (hsc : X.env.scope = sc0) (hN : X.N = N0) (ok : CompOk sc0 N0 scope x ys fr)
    (hE : ∀ C s H ex, PE (cxComp X x ys scope C s H ex) elt te) (hsw : swapsWith (.ListComp elt [⟨.Name x px, iter, [], 0⟩] scope pos) (some (.Name y py)) spos.line X.env = pure true := by rfl)
    (hs : ∀ v, foldedSetIterable iter X.env v = pure v := by intro _; rfl) (hf : X.fn y = true ∨ X.env.scope.names.lookup y = some .local := by first | exact .inl rfl | exact .inr rfl | assumption) :
    PS X (.Assign [.Name y py] (.ListComp elt [⟨.Name x px, iter, [], 0⟩] scope pos) spos) (tAsg (tComp wi fr te) (gName i)) := by
  intro pins s σ H D I h
  rw [exec_Assign_Name_used _ _ _ _ hsw]
  refine wpAny_bind (wpAny_standAt (wpAny_bind ?_))
  show wpAny _ X.A (do let _ ← comprehension (.ListComp elt [⟨.Name x px, iter, [], 0⟩] scope pos) scope X.env _ (newList []) false (eval iter X.env) (some (assign (.Name y py) X.env))) _ _ s
  refine wpAny_bind (thn (comp_core (use := some (assign (.Name y py) X.env)) (Qv := fun _ s' => SP X pins D .next s') (Q := fun v H' => D.nx (σ.set i (some v)) H') hcalm hi hsc hN ok hE I h hs fun p C H' s' m I' hn h0 h1 h2 h3 h4 q => ?_) fun _ s' hq => wpAny_pure (wpAny_pure hq))
  show wpAny _ X.A (assign (.Name y py) X.env (.ref p)) _ _ s'
  refine wpAny_assign_Name (store_ok2 (v := .ref p) I' hnd hiN hy rfl (fun s'' I'' ⟨a, sb, ha⟩ => ?_) hf)
  have hCa : C ≠ a := by
    rcases ha with e | e
    · rw [e]; exact h1
    · exact (h3 y a e).symm
  refine ⟨m, hn.sameBut sb hCa, fun h' sb' => ⟨_, H', I''.turned (t' := s''.toks) (fun b o hb e => sb'.extBut b o hb e) h0 h1 (.inr h2) h3 h4, q⟩⟩
theorem comp_walk {n : Nat} {J : It} {H1 : Hp} {Q : VK} {R : Nat → V → Prop} (hn : n ≤ 1000) (hgo : ∀ i H, i < n → J.go i H) (hstop : ∀ H, J.stop n H) (hy : ∀ i H v H', J.yld i H v H' → H' = H ∧ R i v)
    (Pv : Addr → Nat → List V → Hp → Prop) (h0 : ∀ p, H1 p = none → Pv p 0 [] (upd H1 p (.lst []))) (hl : ∀ p i zs H, Pv p i zs H → H p = some (.lst zs) ∧ zs.length = i)
    (hs : ∀ p i zs H v (k : VK), H1 p = none → i < n → R i v → Pv p i zs H → (∀ u H2, H2 p = some (.lst zs) → Pv p (i + 1) (zs ++ [u]) (upd H2 p (.lst (zs ++ [u]))) → k u H2) → te (some v :: caps fr σ) H k)
    (hd : ∀ p zs H, H1 p = none → Pv p n zs H → Q (.ref p) H) : tCompW fr te σ J H1 Q := by
  intro p hp
  refine ⟨fun i m zs H => i ≤ n ∧ m = n - i ∧ Pv p i zs H, ⟨n, Nat.zero_le _, by simp, h0 p hp⟩, ?_⟩
  rintro i m zs H ⟨hi, hm, q⟩
  obtain ⟨hp', hz⟩ := hl p i zs H q
  refine ⟨hp', ?_⟩
  by_cases e : i = n
  · subst e
    exact .inl ⟨hstop H, hd p zs H hp q⟩
  · have hlt : i < n := by omega
    refine .inr ⟨hgo i H hlt, small1000 (by omega), fun v H' hv => ?_⟩
    obtain ⟨rfl, r⟩ := hy i H v H' hv
    refine hs p i zs H' v _ hp hlt r q fun u H2 a b => ?_
    exact ⟨a, n - (i + 1), by omega, by omega, rfl, b⟩
theorem itr_go {lo : Int} {n : Nat} : ∀ i H, i < n → (Itr lo n).go i H := fun _ _ h => h
theorem itr_stop {lo : Int} {n : Nat} : ∀ H, (Itr lo n).stop n H := fun _ => Nat.le_refl n
theorem itr_yld {lo : Int} {n : Nat} : ∀ i H v H', (Itr lo n).yld i H v H' → H' = H ∧ v = .int (lo + i) := fun _ _ _ _ h => h
end
end L2
namespace L2
open PySem PySem.Spec PyProof.Rows
noncomputable def notStar : Expr → Bool
  | .Starred _ _ => false
  | _ => true
theorem starEach_cons {e : Expr} {es : List Expr} {env : Env} (h : notStar e = true) : starEach (e :: es) env = (false, eval e env) :: starEach es env := by
  cases e <;> first | rfl | cases h
theorem pac {X : Cx} {e : Expr} {es : List Expr} {te : TE} {t : TA} (ha : PE X e te) (hr : PA X es t) (h : notStar e = true := by rfl) : PA X (e :: es) (tCons te t) := pa_cons ha hr (starEach_cons h)
noncomputable def constV : Const → Option V
  | .str x => some (.str x)
  | .int i => some (.int i)
  | .bool b => some (.bl b)
  | .none => some .non
  | _ => none
noncomputable def constsV : List Expr → Option (List V)
  | [] => some []
  | .Constant c _ _ :: r => (match constV c, constsV r with | some v, some vs => some (v :: vs) | _, _ => none)
  | _ :: _ => none
theorem pe_const {X : Cx} {c : Const} {j : Nat} {pos : Pos} {v : V} (h : constV c = some v) : PE X (.Constant c j pos) (tC v) := by
  cases c with
  | str x => cases h; exact pe_str
  | int i => cases h; exact pe_int
  | bool b => cases h; exact pe_bl
  | none => cases h; exact pe_non
  | _ => cases h
theorem pa_consts {X : Cx} : ∀ {es : List Expr} {vs : List V}, constsV es = some vs → PA X es (fun _ H Q => Q vs H)
  | [], vs, h => by
    cases h
    exact pa_nil
  | e :: r, vs, h => by
    cases e with
    | Constant c j pos =>
      simp only [constsV] at h
      cases hc : constV c with
      | none => rw [hc] at h; cases h
      | some v =>
        cases hr : constsV r with
        | none => rw [hc, hr] at h; cases h
        | some ws =>
          rw [hc, hr] at h
          cases h
          exact pac (pe_const hc) (pa_consts hr)
    | _ => cases h
end L2
namespace L2
open PySem PySem.Spec PyProof.Rows
theorem ps_setL {X : Cx} {i : Nat} {x : Str} {es : List Expr} {vs : List V} {pos p pos' : Pos} (hN : X.N.Nodup) (hi : X.N[i]? = some x) (hx : Loc X.env.scope x) (hf : X.fn x = true ∨ X.env.scope.names.lookup x = some .local) (h : constsV es = some vs) :
    PS X (.Assign [.Name x pos'] (.List es p) pos) (tAsg (tLst (fun _ H Q => Q vs H)) (gName i)) :=
  ps_set hN hi hx (pe_lst (pa_consts h)) rfl hf
end L2
namespace L2
open PySem PySem.Spec PyProof.Rows
end L2
namespace HT
open PySem PyProof.Rows
section
variable {prog : Program} {w : World} {A : Around} {s : Shared} {E : Value → Shared → Prop}
theorem adjust_back (n : Nat) : Builtin.Slice.sliceAdjust none none (-1) (n : Int) = ((n : Int) - 1, -1) := by
  unfold Builtin.Slice.sliceAdjust
  simp
theorem places_back (n : Nat) : Builtin.Slice.slicePlaces ((n : Int) - 1) (-1) (-1) = n := by
  unfold Builtin.Slice.slicePlaces
  have h1 : ¬ ((-1 : Int) > 0) := by omega
  simp only [h1, if_false]
  rw [show (- -1 : Int) = 1 by decide, Int.ediv_one]
  split <;> omega
theorem applied_back {sl : Addr} {t : Tok} {n : Nat} {Q : Int × Int × Nat → Shared → Prop} (hs : s.heap.IsSliceOf sl .none .none (.int (-1) t)) (h : Q ((n : Int) - 1, -1, n) s) :
    wpAny (model prog w) A (Builtin.Slice.sliceApplied (.ref sl) (pure (n : Int))) Q E s := by
  obtain ⟨os, hos, hcs, hds⟩ := id hs
  unfold Builtin.Slice.sliceApplied Builtin.Slice.sliceFields
  refine wpAny_bind (wpAny_bind (wpAny_field hos hds (x := .none) rfl (wpAny_bind (wpAny_field hos hds (x := .none) rfl (wpAny_bind (wpAny_field hos hds (x := .int (-1) t) rfl (wpAny_pure ?_)))))))
  refine wpAny_bind (slicePart_ (.int (-1) t) ?_)
  show wpAny _ _ (if ((-1 : Int) == 0) = true then _ else _) _ _ s
  rw [if_neg (by decide)]
  refine wpAny_bind (slicePart_ .none (wpAny_bind (slicePart_ .none (wpAny_bind (wpAny_pure ?_)))))
  show wpAny _ _ (match Builtin.Slice.sliceAdjust none none (-1) (n : Int) with | (lo, hi) => pure (lo, (-1 : Int), Builtin.Slice.slicePlaces lo hi (-1))) _ _ s
  rw [adjust_back n]
  show wpAny _ _ (pure ((n : Int) - 1, (-1 : Int), Builtin.Slice.slicePlaces ((n : Int) - 1) (-1) (-1))) _ _ s
  rw [places_back]
  exact wpAny_pure h
theorem fm_congr {α β : Type} {f g : α → Option β} : ∀ {l : List α}, (∀ x ∈ l, f x = g x) → l.filterMap f = l.filterMap g
  | [], _ => rfl
  | x :: r, h => by rw [List.filterMap_cons, List.filterMap_cons, h x List.mem_cons_self, fm_congr fun y hy => h y (List.mem_cons_of_mem _ hy)]
theorem pick_back (xs : Array Value) : ((List.range xs.size).filterMap fun (m : Nat) => xs[((xs.size : Int) - 1 + (m : Int) * -1).toNat]?).toArray = xs.toList.reverse.toArray := by
  congr 1
  rw [← L2.rev_pick xs.toList, List.filterMap_map, Array.length_toList]
  refine fm_congr fun m hm => ?_
  have := List.mem_range.mp hm
  have e : ((xs.size : Int) - 1 + (m : Int) * -1).toNat = xs.size - 1 - m := by omega
  rw [e]
  simp
theorem getItem_tuple_back {a sl : Addr} {items : Array Value} {t : Tok} {Q : Value → Shared → Prop} (ht : IsTup s.heap a items) (hs : s.heap.IsSliceOf sl .none .none (.int (-1) t))
    (h : Q (.ref s.heap.objs.size) { s with heap := s.heap.push { cls := .type "tuple", data := .seq items.toList.reverse.toArray } })
    (hsz : items.size ≤ sizeLine) : wpAny (model prog w) A (getItem (.ref a) (.ref sl)) Q E s := by
  have hok : sizeOk (.seq items.toList.reverse.toArray) := by
    show items.toList.reverse.toArray.size ≤ sizeLine
    rw [List.size_toArray, List.length_reverse, Array.length_toList]
    exact hsz
  obtain ⟨os, hos, hcs, hds⟩ := id hs
  have hTs : s.TypeIs (.ref sl) "slice" := ⟨os, hos, hcs⟩
  unfold getItem
  try with_reducible refine wpAny_holding ?_
  first | refine wpAny_bind (wpAny_pure ?_) | skip
  refine wpAny_bind (wpAny_sequenceKey ht.typeIs (by decide) ?_)
  refine wpAny_bind (wpAny_callSpecial?_slot (name := Str.ofString "__getitem__") ht.typeIs PyProof.Rows.slot_tuple_getitem
    (wpAny_call_entry PyProof.Rows.slot_tuple_getitem ht.typeIs entry_tuple_getitem ?_ (args_tuple_getitem _ _)))
  show wpAny _ _ (Builtin.Tuple.tupleItemsOf (.ref a) >>= _) _ _ s
  refine wpAny_bind (tupleItemsOf_ ht ?_)
  refine wpAny_bind (wpAny_typeOf hTs ?_)
  rw [if_pos (by decide)]
  refine wpAny_bind (applied_back hs ?_)
  show wpAny _ _ (if (((items.size : Int) - 1) == 0 && (-1 : Int) == 1 && items.size == items.size) = true then _ else _) _ _ s
  rw [if_neg (by simp), pick_back]
  first
    | exact wpAny_bind (m := Builtin.Tuple.tupleExact _) (wpAny_newObj_type (wpAny_pure ⟨_, rfl, wpAny_pure h⟩) hok)
    | exact wpAny_bind (m := Builtin.Tuple.tupleExact _) (wpAny_newObj_type (wpAny_bind (wpAny_pure (wpAny_pure ⟨_, rfl, wpAny_pure h⟩))) hok)
    | exact wpAny_bind (wpAny_bind (m := Builtin.Tuple.tupleExact _) (wpAny_newObj_type (wpAny_pure (wpAny_pure ⟨_, rfl, wpAny_pure h⟩)) hok))
    | exact wpAny_bind (wpAny_bind (m := Builtin.Tuple.tupleExact _) (wpAny_newObj_type (wpAny_pure ⟨_, rfl, wpAny_pure h⟩) hok))
end
end HT
namespace L2
open PySem PySem.Spec PyProof.Rows
section
variable {X : Cx} {e k : Expr} {te tk : TE} {pos p2 : Pos}
noncomputable def tBackT (K : PySem.W.Frag) (te tk : TE) : TE := fun σ H Q => te σ H fun x H1 => tk σ H1 fun y H2 => ∃ a xs, x = .ref a ∧ y = .int (-1) ∧ SqT K H2 a xs ∧ ∀ p, H2 p = none → Q (.ref p) (upd H2 p (.tup xs.reverse))
theorem vals_rev {xs : List V} {us : List Value} (h : Vals xs us) : Vals xs.reverse us.reverse := by
  rw [← rev_pick xs, ← rev_pick us, h.length]
  exact vals_pick _ h
theorem pe_backT (he : PE X e te) (hk : PE X k tk) : PE X (.Subscript e (.Slice none none (some k) p2) pos) (tBackT X.K te tk) := by
  intro pins s σ H Q I h
  refine Subscript_ (thn (he pins s σ H _ I h) fun v s1 ⟨x, H1, I1, r1, q1⟩ => ?_)
  refine wpAny_Slice ?_
  rw [evalPart_none, evalPart_some]
  refine wpAny_pure (wpAny_pure ?_)
  refine thn (hk pins s1 σ H1 _ I1 q1) fun vk s3 ⟨y, H3, I3, ry, a, xs, ex, ey, hq, q⟩ => ?_
  subst ex ey
  obtain ⟨t, rfl⟩ := ry
  cases r1
  have I4 : Inv X pins σ H3 { s3 with heap := s3.heap.push { cls := .type "slice", data := .fields #[.none, .none, .int (-1) t] } } := I3.kept (t' := s3.toks) fun b ob q => Heap.get?_push_of_some _ q
  obtain ⟨its, r, ht, hz⟩ := I4.tuple hq
  show wpAny (model X.prog X.w) X.A (subscriptTail e (.Slice none none (some k) p2) (.ref a) (.ref s3.heap.objs.size)) (EP X pins σ Q) X.xe { s3 with heap := s3.heap.push { cls := .type "slice", data := .fields #[.none, .none, .int (-1) t] } }
  refine tail_any (ops := [.ref a, .ref s3.heap.objs.size]) ht.typeIs PyProof.Rows.slot_tuple_getitem.lookup (HT.getItem_tuple_back ht (Heap.IsSliceOf.new ..) ?_ (by rw [List.size_toArray, ← r.length]; exact hz)) (by with_unfolding_all rfl)
  refine ⟨.ref (s3.heap.push { cls := .type "slice", data := .fields #[.none, .none, .int (-1) t] }).objs.size, _, I4.laid (t' := s3.toks) (o := .tup xs.reverse) (fun b ob q => Heap.get?_push_of_some _ q) (Nat.le_refl _) ?_, rfl, q _ I4.fresh⟩
  exact ⟨by rw [List.length_reverse]; exact hz, _, vals_rev r, IsTup.new _ _⟩
end
end L2
namespace L2
open PySem PySem.Spec PyProof.Rows
section
variable {X : Cx}
noncomputable def sumI : List Int → Int
  | [] => 0
  | n :: r => n + sumI r
end
end L2
namespace HT
open PySem PyProof.Rows
section
variable {prog : Program} {w : World} {A : Around} {s : Shared} {E : Value → Shared → Prop} {d j : Addr} {ks : List Value} {i ep : Nat}
end
end HT
namespace L2
open PySem PySem.Spec PyProof.Rows
section
variable {X : Cx}
end
end L2
namespace L2
open PySem PySem.Spec PyProof.Rows
section
variable {X : Cx}
theorem op_ne_nil (hu : X.A.units < cLine) : OpR X (compareOp .NotEq) (fun x y H Q => ∃ a b xs, x = .ref a ∧ y = .ref b ∧ SqL X.K H a xs ∧ SqL X.K H b [] ∧ Q (.bl (!xs.isEmpty)) H) := by
  intro pins s σ H x y v u Q I rx ry h
  obtain ⟨a, b, xs, rfl, rfl, ha, hb, q⟩ := h
  cases rx
  cases ry
  obtain ⟨its, r, pl, _⟩ := I.list ha
  obtain ⟨its2, r2, pl2, _⟩ := I.list hb
  cases r2
  cases r with
  | nil => exact SeqAt.RcNeAt.lists (e := fun _ => true) pl.isList pl2.isList rfl hu (fun j h1 _ => absurd h1 (Nat.not_lt_zero _)) X.prog X.w X.xe _ ⟨.bl _, H, I, rfl, q⟩
  | cons r1 t => exact SeqAt.RcNeAt.lists_lengths pl.isList pl2.isList (by simp) hu X.prog X.w X.xe _ ⟨.bl _, H, I, rfl, q⟩
instance decKs (ks : List Key) (kss : List (List Key)) : Decidable (ks ∈ kss) := decidable_of_iff (kss.any (fun l => decide (l = ks)) = true) ⟨fun h => by
    obtain ⟨x, hx, e⟩ := List.any_eq_true.mp h
    rw [← of_decide_eq_true e]
    exact hx, fun h => List.any_eq_true.mpr ⟨ks, h, decide_eq_true rfl⟩⟩
theorem kit_two (K : PySem.W.Frag) (t : String) (ht : t ∈ ["NoneType", "bool", "int", "str", "list", "tuple", "dict"]) :
    PySem.W.kitAny K (.type t) [.type "tuple", .type "list"] = some (t == "tuple" || t == "list") := by
  simp only [List.mem_cons, List.not_mem_nil, or_false] at ht
  rcases ht with rfl | rfl | rfl | rfl | rfl | rfl | rfl <;> first | rfl | (with_unfolding_all rfl) | (with_unfolding_all decide)
inductive TL (H : Hp) : V → Bool → Prop where
  | str (z : Str) : TL H (.str z) false
  | int (i : Int) : TL H (.int i) false
  | tup {a : Addr} {xs : List V} : H a = some (.tup xs) → TL H (.ref a) true
  | lst {a : Addr} {xs : List V} : H a = some (.lst xs) → TL H (.ref a) true
theorem call_isTL : CallR X (.builtin "isinstance") (fun xs H Q => ∃ x p b, xs = [x, .ref p] ∧ H p = some (.tup [.ty "tuple", .ty "list"]) ∧ TL H x b ∧ Q (.bl b) H) := by
  intro pins s σ H xs us Q I r h
  obtain ⟨x, p, b, rfl, hp, ty, q⟩ := h
  obtain ⟨u, w', rfl, rx, rp⟩ := vals2 r
  cases (show w' = Value.ref p from rp)
  obtain ⟨_, its, rv, o, h1, h2, n, h3⟩ := (show ObjOk X.prog X.w H s.heap p (.tup [.ty "tuple", .ty "list"]) from I.hok p _ hp)
  obtain ⟨u1, u2, rfl, r1, r2⟩ := vals2 rv
  cases (show u1 = Value.type "tuple" from r1)
  cases (show u2 = Value.type "list" from r2)
  obtain ⟨c, d, dt, sl⟩ := o
  simp only at h2 h3
  subst h2 h3
  have k : ∀ tk, EP X pins σ Q (.bool b) { s with toks := tk } := fun tk => ⟨.bl b, H, I.tok tk, rfl, q⟩
  cases ty with
  | int i =>
    obtain ⟨t, e⟩ := (show ∃ t, u = Value.int i t from rx)
    cases e
    exact PySem.W.kia_tup PySem.W.kitx_int I.kIn True.intro h1 (kit_two _ "int" (by simp)) (fun z => nomatch z) k
  | str y =>
    obtain ⟨t, e⟩ := (show ∃ t, u = Value.str y t from rx)
    cases e
    exact PySem.W.kia_tup PySem.W.kitx_str I.kIn True.intro h1 (kit_two _ "str" (by simp)) (fun z => nomatch z) k
  | @lst a xs ea =>
    cases (show u = Value.ref a from rx)
    obtain ⟨_, _, _, _, h4⟩ := (show ObjOk X.prog X.w H s.heap a (.lst xs) from I.hok a _ ea)
    exact PySem.W.kia_tup PySem.W.kitx_list I.kIn ⟨_, h4, rfl⟩ h1 (kit_two _ "list" (by simp)) (fun z => nomatch z) k
  | @tup a xs ea =>
    cases (show u = Value.ref a from rx)
    obtain ⟨_, _, _, o2, h4, h5, _⟩ := (show ObjOk X.prog X.w H s.heap a (.tup xs) from I.hok a _ ea)
    exact PySem.W.kia_tup PySem.W.kitx_tuple I.kIn ⟨o2, h4, h5⟩ h1 (kit_two _ "tuple" (by simp)) (fun z => nomatch z) k
end
end L2
namespace HT
open PySem PyProof.Rows
section
variable {prog : Program} {w : World} {A : Around} {s : Shared} {E : Value → Shared → Prop} {j t : Addr} {i : Nat} {items : Array Value}
noncomputable def SSeq (c : Bool) (h : Heap) (l : Addr) (items : Array Value) : Prop := if c = true then h.IsTuple l items else h.IsList l items
end
section
variable {prog : Program} {w : World} {A : Around} {s : Shared} {E : Value → Shared → Prop} {z TI TO i1 i2 : Addr} {f1 f2 : List Addr} {n1 n2 k : Nat} {P1 P2 : Nat → Value → Prop} {S1 S2 : Nat → Heap → Prop} {a b : Value}
end
end HT
namespace HT
open PySem PyProof.Rows
section
variable {prog : Program} {w : World} {A : Around} {s : Shared} {E : Value → Shared → Prop}
end
end HT
namespace L2
open PySem PySem.Spec PyProof.Rows
noncomputable def seqO (c : Bool) (xs : List V) : HO := if c = true then .tup xs else .lst xs
theorem Inv.seqS {X : Cx} {pins : List (Addr × Obj)} {σ : St} {H : Hp} {s : Shared} {c : Bool} {a : Addr} {xs : List V} (I : Inv X pins σ H s) (h : H a = some (seqO c xs)) : ∃ its : List Value, Vals xs its ∧ HT.SSeq c s.heap a its.toArray ∧ xs.length ≤ sizeLine := by
  cases c with
  | true => obtain ⟨its, r, p, z⟩ := I.tuple (SqT.of (K := X.K) h); exact ⟨its, r, p, z⟩
  | false => obtain ⟨its, r, p, z⟩ := I.list (SqL.of (K := X.K) h); exact ⟨its, r, p.isList, z⟩
section
variable {X : Cx} {x x2 : Str} {px px2 tpos pos fpos : Pos} {kk : Nat} {iter elt : Expr} {scope sc0 : Scope} {N0 ys : List Str} {fr : List Nat} {wi : TI} {te : TE} {pins : List (Addr × Obj)} {σ : St} {H : Hp} {s : Shared}
end
end L2
namespace L2
open PySem PySem.Spec PyProof.Rows
section
variable {prog : Program} {w : World} {A : Around} {R : Result → Shared → Prop} {s : Shared}
theorem compLoop_listT {elt target iter cnd : Expr} {scope : Scope} {pos : Pos} {it acc : Value} {env : Env} (I : Nat → Shared → Prop)
    (turn : ∀ n s, I n s → wpAny (model prog w) A (pyNext it) (fun r s₁ => match r with
      | none => R (.ok .next) s₁
      | some v => wpAny (model prog w) A (letOwnedTupleGo target it v) (fun _ s₁' => wpAny (model prog w) A (assign target env v) (fun _ s₂ => wpAny (model prog w) A (isTrue cnd env (eval cnd env)) (fun ok s₃ =>
          if ok = true then wpAny (model prog w) A (eval elt env) (fun x s₄ =>
            wpAny (model prog w) A (call (.builtin "list.append") [acc, x]) (fun _ s₅ => ∃ m, m < n ∧ I m s₅) (fun _ _ => False) s₄) (fun _ _ => False) s₃
          else ∃ m, m < n ∧ I m s₃) (fun _ _ => False) s₂) (fun _ _ => False) s₁') (fun _ _ => False) s₁) (fun _ _ => False) s)
    (n : Nat) (h : I n s) : codeAny (model prog w) A (.compLoop (.ListComp elt [⟨target, iter, [cnd], 0⟩] scope pos) 0 it acc env) R s := by
  refine codeAny_loop rfl I (fun n s hI => ?_) n h
  show wpAny _ _ ((compTurn (.ListComp elt [⟨target, iter, [cnd], 0⟩] scope pos) 0 it acc env).onRaise (fun x => do noteFrame x env; theTreesLotGoes x)) _ _ s
  refine wpAny_noted ?_
  rw [compTurn_list]
  refine wpAny_noRaise ?_
  refine wpAny_bind (wpAny_standAt (wpAny_bind (wpAny_mono (turn n s hI) (fun r s₁ h₁ => ?_) fun _ _ h' => h')))
  cases r with
  | none => exact wpAny_pure h₁
  | some v =>
    refine wpAny_bind (wpAny_mono h₁ (fun _ s₁' h₁' => ?_) fun _ _ h' => h')
    refine wpAny_bind (wpAny_mono h₁' (fun _ s₂ h₂ => wpAny_bind (wpAny_mono (wpAny_tests_one h₂) (fun ok s₃ h₃ => ?_) fun _ _ h' => h')) fun _ _ h' => h')
    cases ok with
    | false => exact wpAny_pure ⟨rfl, h₃⟩
    | true =>
      exact wpAny_bind (wpAny_bind (wpAny_mono h₃ (fun x s₄ h₄ => wpAny_bind (wpAny_mono h₄ (fun _ s₅ h₅ => wpAny_pure (wpAny_pure ⟨rfl, h₅⟩)) fun _ _ h' => h')) fun _ _ h' => h'))
end
noncomputable def tCompWT (fr : List Nat) (tc : TT) (te : TE) (σ : St) (J : It) (H1 : Hp) (Q : VK) : Prop :=
  ∀ p, H1 p = none → ∃ W : Nat → Nat → List V → Hp → Prop, (∃ m, W 0 m [] (upd H1 p (.lst []))) ∧ ∀ i m ys H, W i m ys H → H p = some (.lst ys) ∧
    ((J.stop i H ∧ Q (.ref p) H) ∨ (J.go i H ∧ ys.length < sizeLine ∧ ∀ x H', J.yld i H x H' → tc (some x :: caps fr σ) H' fun b H2 => if b = true then te (some x :: caps fr σ) H2 fun v H3 =>
      H3 p = some (.lst ys) ∧ ∃ m', m' < m ∧ W (i + 1) m' (ys ++ [v]) (upd H3 p (.lst (ys ++ [v]))) else ∃ m', m' < m ∧ W (i + 1) m' ys H2))
noncomputable def tCompT (wi : TI) (fr : List Nat) (tc : TT) (te : TE) : TE := fun σ H Q => wi σ H fun J H1 => tCompWT fr tc te σ J H1 Q
section
variable {X : Cx} {x : Str} {px pos fpos : Pos} {iter elt cnd : Expr} {scope sc0 : Scope} {N0 ys : List Str} {fr : List Nat} {wi : TI} {tc : TT} {te : TE} {pins : List (Addr × Obj)} {σ : St} {H : Hp} {s : Shared}
theorem comp_coreT {use : Option (Value → Sem Unit)} {Qv : Value → Shared → Prop} {Q : VK} (hcalm : X.calm = true) (hi : PI X (.Name x px) iter wi) (hsc : X.env.scope = sc0) (hN : X.N = N0) (ok : CompOk sc0 N0 scope x ys fr)
    (hT : ∀ C s H ex, PT (cxComp X x ys scope C s H ex) cnd tc) (hE : ∀ C s H ex, PE (cxComp X x ys scope C s H ex) elt te) (I : Inv X pins σ H s) (h : tCompT wi fr tc te σ H Q) (hs : ∀ v, foldedSetIterable iter X.env v = pure v)
    (fin : ∀ (p C : Addr) (H' : Hp) (s' : Shared) (m : Str → Option Value), Inv X pins σ H' s' → s'.heap.Ns C m → H' C = none → C ≠ X.env.locals → X.s₀.heap.objs.size ≤ C → (∀ y c, X.env.cells.lookup y = some c → c ≠ C) → (∀ q ∈ X.pn ++ pins, q.1 ≠ C) → Q (.ref p) H' →
      compPost (model X.prog X.w) X.A X.xe use Qv (.ref p) C (.ok .next) s') :
    wpAny (model X.prog X.w) X.A (comprehension (.ListComp elt [⟨.Name x px, iter, [cnd], 0⟩] scope pos) scope X.env fpos (newList []) false (eval iter X.env) use) Qv X.xe s := by
  subst hsc hN
  have hkof : ∀ y, X.env.kindOf y = X.env.scope.names.lookup y := fun y => rfl
  have hfree : ∀ y ∈ scope.names, y.2 = .free → ∃ c, X.env.cells.lookup y.1 = some c := fun y hy e => I.ok.has y.1 (.inl (ok.free y hy e))
  refine wpAny_comprehension_free (gs := []) rfl hs (closureFor_ok hfree) ok.kind ok.loc (thn (hi pins s σ H _ I h) fun v s1 h1 => thn h1 fun itv s2 h2 => ?_)
  obtain ⟨it, fp, tn, J, H2, e, I2, T, st2, f2, hp⟩ := h2
  subst e
  refine wpAny_newObj_type (wpAny_newFunctionEnv ok.nocell (by intro y hy; simp at hy) (fun h₁ hns₁ hsb₁ => ?_) ok.kind)
  dsimp only at hns₁ hsb₁ ⊢
  have I3 : Inv X pins σ (upd H2 s2.heap.objs.size (.lst [])) { s2 with heap := s2.heap.push { cls := .type "list", data := .seq ([] : List Value).toArray } } :=
    I2.lnew (its := []) (ys := []) (t' := s2.toks) .nil (Nat.zero_le _)
  have hf2 : ∀ b ∈ fp, b < s2.heap.objs.size := fun b hb => by
    obtain ⟨o, e, _⟩ := T.obj _ _ st2 b hb
    exact Heap.lt_size e
  have hps : s2.heap.objs.size < (s2.heap.push { cls := .type "list", data := .seq ([] : List Value).toArray }).objs.size := by rw [Heap.size_push]; exact Nat.lt_succ_self _
  have W0 := hp s2.heap.objs.size I2.fresh
  have st3 : tn 0 (s2.heap.push { cls := .type "list", data := .seq ([] : List Value).toArray }) := T.keep _ _ _ st2 fun b hb o e => Heap.get?_push_of_some _ e
  generalize hpp : s2.heap.objs.size = p at I3 W0 hf2 hps ⊢
  generalize hh3 : (s2.heap.push { cls := .type "list", data := .seq ([] : List Value).toArray }) = h3 at I3 hns₁ hsb₁ hps st3 ⊢
  generalize hH3 : upd H2 p (.lst []) = H3 at I3 W0
  have hold : ∀ b o, h3.get? b = some o → h₁.get? b = some o := fun b o e => hsb₁.extBut b o (Nat.ne_of_lt (Heap.lt_size e)) (Heap.get?_push_of_some _ e)
  have fH3 : ∀ b ∈ fp, H3 b = none := fun b hb => by
    rw [← hH3, upd_ne (Nat.ne_of_lt (hf2 b hb))]
    exact (f2 b hb).1
  have hclos : ∀ y c, (closOf X.env.cells scope.names).lookup y = some c → X.env.cells.lookup y = some c := fun y c e => closOf_sound e
  have hcell3 : ∀ y c, X.env.cells.lookup y = some c → c < h3.objs.size := fun y c e => by
    obtain ⟨v, o, ho, _⟩ := I3.cell y c e
    exact Heap.lt_size ho
  have hlt3 : X.env.locals < h3.objs.size := I3.lt
  have Yok : (cxComp X x ys scope h3.objs.size { s2 with heap := h3 } H3 fp).Ok := {
    mod := I.ok.mod
    kind := ok.kind
    glob := I.ok.glob
    blt := I.ok.blt
    above := Nat.le_refl _
    inj := fun y z c e1 e2 => I.ok.inj y z c (hclos _ _ e1) (hclos _ _ e2)
    has := fun y hk => by
      have hfr : (y, NameKind.free) ∈ scope.names := by
        have hm : ∃ k, (relabelN X.env.scope scope).lookup y = some k ∧ (k = .cell ∨ k = .free) := by
          rcases hk with hk | hk
          · exact ⟨_, hk, .inl rfl⟩
          · exact ⟨_, hk, .inr rfl⟩
        obtain ⟨k, hk, hkk⟩ := hm
        have hmem := mem_of_lookup hk
        unfold relabelN at hmem
        obtain ⟨⟨n, k0⟩, hn, en⟩ := List.mem_map.mp hmem
        dsimp only at en
        split at en
        · rename_i hc
          simp only [Bool.and_eq_true] at hc
          have hk0 : k0 = .free := by simpa using hc.1.1
          cases en
          rw [← hk0]
          exact hn
        · cases en
          rcases hkk with e | e
          · exact absurd e (ok.nocell _ hn)
          · rw [← e]
            exact hn
      obtain ⟨c, hc⟩ := hfree _ hfr rfl
      exact ⟨c, closOf_has hc hfr⟩
    cab := fun y c hf _ => by cases hf
    hd := I.ok.hd
    frames := I.ok.frames
    stk := .inl rfl
    exf := fun b hb => ⟨fun e => absurd (hf2 b hb) (by rw [e]; exact Nat.not_lt.mpr (Nat.le_of_lt hps)), fun y c e => (f2 b hb).2.2.2.2.1 y c (hclos _ _ e)⟩
    bs := fun b o e => ⟨(I3.bs b o e).1, (I3.bs b o e).2⟩
    bsz := Nat.le_trans I.ok.bsz I3.sz
    noex := fun b o e hb => by
      rcases (f2 b hb).2.2.2.1 with q | q
      · exact I.ok.noex b o e q
      · have h1 : b < X.base.objs.size := Heap.lt_size e
        exact absurd h1 (Nat.not_lt.mpr (Nat.le_trans I.ok.bsz q))
    exfs := fun b hb hm => by
      rcases List.mem_cons.mp (I3.stkSub b hm) with q | q
      · exact (f2 b hb).2.1 q
      · exact (f2 b hb).2.2.1 q
    funs := I3.stack
    frf := I3.stkFree }
  have IY : Inv (cxComp X x ys scope h3.objs.size { s2 with heap := h3 } H3 fp) [] (none :: caps fr σ) H3 { s2 with heap := h₁, toks := s2.toks + ([] : List (Str × Value)).length } := {
    ok := Yok
    os := rfl
    bare := I2.bare
    base := Un.kept hold
    loc := by
      refine ⟨_, hns₁, fun i y v hy hv hvis => ?_⟩
      cases i with
      | zero => cases hv
      | succ j =>
        have hy' : ys[j]? = some y := hy
        have hv' : (caps fr σ)[j]? = some (some v) := hv
        unfold caps at hv'
        rw [List.getElem?_map] at hv'
        obtain ⟨i0, hi0, hv0⟩ := Option.map_eq_some_iff.mp hv'
        have hz : (y, i0) ∈ ys.zip fr := by
          refine List.mem_iff_getElem?.mpr ⟨j, ?_⟩
          rw [List.getElem?_zip_eq_some]
          exact ⟨hy', hi0⟩
        obtain ⟨hn, hk, hk2⟩ := ok.sl _ hz
        have hσ : σ[i0]? = some (some v) := by
          cases e : σ[i0]? with
          | none => rw [e] at hv0; cases hv0
          | some o =>
            rw [e] at hv0
            rw [show o = some v from hv0]
        obtain ⟨m, hm, hl⟩ := I3.loc
        obtain ⟨u, ru, lk⟩ := hl i0 y v hn hσ (.inr (.inl hk))
        refine ⟨u, ru, .inr ⟨.inl hk2, ?_⟩⟩
        rcases lk with ⟨a, _⟩ | ⟨_, c, hc, hcell⟩
        · have a' : X.env.scope.names.lookup y = some .local := a
          have hk' : X.env.scope.names.lookup y = some .cell := hk
          rw [hk'] at a'
          cases a'
        · have hfr : (y, NameKind.free) ∈ scope.names := by
            have hmem := mem_of_lookup hk2
            unfold relabelN at hmem
            obtain ⟨⟨n, k0⟩, hn0, en⟩ := List.mem_map.mp hmem
            dsimp only at en
            split at en
            · rename_i hc0
              simp only [Bool.and_eq_true] at hc0
              have hk0 : k0 = .free := by simpa using hc0.1.1
              cases en
              rw [← hk0]
              exact hn0
            · cases en
              exact absurd rfl (ok.nocell _ hn0)
          exact ⟨c, closOf_has hc hfr, hcell.keeps hold⟩
    cell := fun y c e => by
      obtain ⟨v, hv⟩ := I3.cell y c (hclos _ _ e)
      exact ⟨v, hv.keeps hold⟩
    free := I3.fresh
    freeC := fun y c e => I3.freeC y c (hclos _ _ e)
    pin := fun q hq => by cases hq
    hok := I3.hok.kept hold
    len := by
      show (none :: caps fr σ).length = (x :: ys).length
      rw [List.length_cons, List.length_cons, ok.len]
      unfold caps
      rw [List.length_map] }
  have hxl : (cxComp X x ys scope h3.objs.size { s2 with heap := h3 } H3 fp).env.scope.names.lookup x = some .local := ok.xl
  have pgx : PG (cxComp X x ys scope h3.objs.size { s2 with heap := h3 } H3 fp) (.Name x px) (gName 0) := pg_name (i := 0) ok.nd rfl (.inl hxl) (.inr hxl)
  have pel := hE h3.objs.size { s2 with heap := h3 } H3 fp
  have ptl := hT h3.objs.size { s2 with heap := h3 } H3 fp
  obtain ⟨W, ⟨m0, w0⟩, turn⟩ := W0
  have stat : ∀ {H' : Hp}, (∀ b ∈ fp, H' b = none) → ∀ b ∈ fp, FpOk (cxComp X x ys scope h3.objs.size { s2 with heap := h3 } H3 fp) [] H' b := fun hn b hb =>
    ⟨hn b hb, (Yok.exf b hb).1, Yok.exfs b hb, .inl hb, (Yok.exf b hb).2, fun q hq => by cases hq⟩
  have loop : codeAny (model X.prog X.w) X.A (.compLoop (.ListComp elt [⟨.Name x px, iter, [cnd], 0⟩] scope pos) 0 (.ref it) (.ref p) (compEnvC scope (closOf X.env.cells scope.names) h3.objs.size X.env))
      (compPost (model X.prog X.w) X.A X.xe use Qv (.ref p) h3.objs.size) { s2 with heap := h₁, toks := s2.toks + ([] : List (Str × Value)).length } := by
    refine compLoop_listT (fun n s' => ∃ i zs v0 H', Inv (cxComp X x ys scope h3.objs.size { s2 with heap := h3 } H3 fp) [] (v0 :: caps fr σ) H' s' ∧ tn i s'.heap ∧ (∀ b ∈ fp, H' b = none) ∧ W i n zs H') ?_ m0
      ⟨0, [], none, H3, IY, T.keep _ _ _ st3 fun b hb o e => hold b o e, fH3, w0⟩
    rintro n s5 ⟨i, zs, v0, H5, I5, st5, fr5, w5⟩
    obtain ⟨hacc, turn5⟩ := turn i n zs H5 w5
    rcases turn5 with ⟨stop, qn⟩ | ⟨go, hlen, step⟩
    · refine thn (T.done (cxComp X x ys scope h3.objs.size { s2 with heap := h3 } H3 fp) rfl rfl rfl hcalm i [] s5 _ H5 _ I5 (stat fr5) st5 stop) fun r s6 ⟨hr, I6⟩ => ?_
      subst hr
      obtain ⟨m6, n6, _⟩ := I6.loc
      refine fin p h3.objs.size H5 s6 m6 (I3.call' I6.os I6.base I6.hok I6.bare fun b hb => ⟨(f2 b hb).2.2.2.1, (f2 b hb).2.1, (f2 b hb).2.2.2.2.1, (f2 b hb).2.2.2.2.2⟩) n6 I6.free (Nat.ne_of_gt hlt3) I3.sz (fun y c e => Nat.ne_of_lt (hcell3 y c e)) (fun q hq => ?_) qn
      exact Nat.ne_of_lt (Heap.lt_size (I3.pin q hq).1)
    · refine thn (T.item (cxComp X x ys scope h3.objs.size { s2 with heap := h3 } H3 fp) rfl rfl rfl hcalm i [] s5 _ H5 _ I5 (stat fr5) st5 go) fun r s6 ⟨u, hr, h6⟩ => ?_
      subst hr
      refine thn h6 fun _ s7 ⟨xv, H7, I7, r7, y7, st7, fr7⟩ => ?_
      have I7' := I7.pinned (stat fr7) (T.obj _ _ st7)
      refine thn (pgx _ s7 _ H7 xv u (fun σ' H' => σ' = some xv :: caps fr σ ∧ H' = H7) I7' r7 ⟨rfl, rfl⟩) fun _ s8 ⟨σ8, H8, I8, e8, e8'⟩ => ?_
      subst e8 e8'
      refine thn (ptl _ s8 _ H8 _ I8 (step xv H8 y7)) fun bb s8' ⟨H8', I8', hb⟩ => ?_
      cases bb with
      | false =>
        obtain ⟨m', hm', w9⟩ := hb
        refine ⟨m', hm', i + 1, zs, some xv, _, I8'.unpinned, T.keep _ _ _ st7 fun b hb o e => (I8'.pin (b, o) (List.mem_append_right _ (List.mem_append_right _ (mem_pinsAt hb e)))).1, fun b hb => ?_, w9⟩
        obtain ⟨o, e, d⟩ := T.obj _ _ st7 b hb
        exact (I8'.pin (b, o) (List.mem_append_right _ (List.mem_append_right _ (mem_pinsAt hb e)))).2.1
      | true =>
      refine thn (pel _ s8' _ H8' _ I8' hb) fun yv s9 ⟨v9, H9, I9, r9, hp9, m', hm', w9⟩ => ?_
      refine thn (mt_append _ s9 _ H9 (.ref p) [v9] (.ref p) [yv] (fun _ H' => H' = upd H9 p (.lst (zs ++ [v9]))) I9 rfl (.cons r9 .nil) ⟨p, zs, v9, rfl, rfl, hp9, hlen, rfl⟩) fun _ s10 ⟨_, H10, I10, _, e10⟩ => ?_
      subst e10
      refine ⟨m', hm', i + 1, zs ++ [v9], some xv, _, I10.unpinned, T.keep _ _ _ st7 fun b hb o e => (I10.pin (b, o) (List.mem_append_right _ (List.mem_append_right _ (mem_pinsAt hb e)))).1, fun b hb => ?_, w9⟩
      obtain ⟨o, e, d⟩ := T.obj _ _ st7 b hb
      exact (I10.pin (b, o) (List.mem_append_right _ (List.mem_append_right _ (mem_pinsAt hb e)))).2.1
  exact codeAny_compStart_list loop (T.self X.A 0 _ _ _ (T.keep _ _ _ st3 fun b hb o e => hold b o e) loop)
theorem ps_setCT {i : Nat} {y : Str} {py spos : Pos} (hcalm : X.calm = true) (hnd : X.N.Nodup) (hiN : X.N[i]? = some y) (hy : Loc X.env.scope y) (hi : PI X (.Name x px) iter wi) (hsc : X.env.scope = sc0) (hN : X.N = N0) (ok : CompOk sc0 N0 scope x ys fr)
    (hT : ∀ C s H ex, PT (cxComp X x ys scope C s H ex) cnd tc) (hE : ∀ C s H ex, PE (cxComp X x ys scope C s H ex) elt te) (hsw : swapsWith (.ListComp elt [⟨.Name x px, iter, [cnd], 0⟩] scope pos) (some (.Name y py)) spos.line X.env = pure true := by rfl)
    (hs : ∀ v, foldedSetIterable iter X.env v = pure v := by intro _; rfl) (hf : X.fn y = true ∨ X.env.scope.names.lookup y = some .local := by first | exact .inl rfl | exact .inr rfl | assumption) :
    PS X (.Assign [.Name y py] (.ListComp elt [⟨.Name x px, iter, [cnd], 0⟩] scope pos) spos) (tAsg (tCompT wi fr tc te) (gName i)) := by
  intro pins s σ H D I h
  rw [exec_Assign_Name_used _ _ _ _ hsw]
  refine wpAny_bind (wpAny_standAt (wpAny_bind ?_))
  show wpAny _ X.A (do let _ ← comprehension (.ListComp elt [⟨.Name x px, iter, [cnd], 0⟩] scope pos) scope X.env _ (newList []) false (eval iter X.env) (some (assign (.Name y py) X.env))) _ _ s
  refine wpAny_bind (thn (comp_coreT (use := some (assign (.Name y py) X.env)) (Qv := fun _ s' => SP X pins D .next s') (Q := fun v H' => D.nx (σ.set i (some v)) H') hcalm hi hsc hN ok hT hE I h hs fun p C H' s' m I' hn h0 h1 h2 h3 h4 q => ?_) fun _ s' hq => wpAny_pure (wpAny_pure hq))
  show wpAny _ X.A (assign (.Name y py) X.env (.ref p)) _ _ s'
  refine wpAny_assign_Name (store_ok2 (v := .ref p) I' hnd hiN hy rfl (fun s'' I'' ⟨a, sb, ha⟩ => ?_) hf)
  have hCa : C ≠ a := by
    rcases ha with e | e
    · rw [e]; exact h1
    · exact (h3 y a e).symm
  refine ⟨m, hn.sameBut sb hCa, fun h' sb' => ⟨_, H', I''.turned (t' := s''.toks) (fun b o hb e => sb'.extBut b o hb e) h0 h1 (.inr h2) h3 h4, q⟩⟩
end
end L2
namespace HT
open PySem PyProof.Rows
end HT
namespace HT
open PySem PyProof.Rows
section
variable {prog : Program} {w : World} {A : Around} {s : Shared} {E : Value → Shared → Prop}
end
end HT
namespace L2
open PySem PySem.Spec PyProof.Rows
section
variable {X : Cx}
theorem op_catTA : OpR X (binaryOp .Add) (fun x y H Q => ∃ a b xs ys, x = .ref a ∧ y = .ref b ∧ SqT X.K H a xs ∧ SqT X.K H b ys ∧ xs.length + ys.length ≤ sizeLine ∧ (xs = [] → Q (.ref b) H) ∧ (xs ≠ [] → ys = [] → Q (.ref a) H) ∧
    (xs ≠ [] → ys ≠ [] → ∀ p, H p = none → Q (.ref p) (upd H p (.tup (xs ++ ys))))) := by
  intro pins s σ H x y v u Q I rx ry h
  obtain ⟨a, b, xs, ys, rfl, rfl, ha, hb, hz, q0, q1, q2⟩ := h
  by_cases hx : xs = []
  · subst hx
    cases rx
    cases ry
    obtain ⟨its, r1, p1, _⟩ := I.tuple ha
    obtain ⟨its2, r2, p2, _⟩ := I.tuple hb
    cases r1
    obtain ⟨⟨cls, dd, data, sl⟩, ho, hc, n, hd⟩ := id p1
    obtain ⟨⟨cls2, dd2, data2, sl2⟩, ho2, hc2, n2, hd2⟩ := id p2
    simp only at hc hd hc2 hd2
    subst hc hd hc2 hd2
    exact concat_meets ⟨_, ho, rfl⟩ ⟨_, ho2, rfl⟩ noFill_tuple_add seq_tuple_add PySem.F.slot_tuple_add PySem.F.entry_tuple_add (PySem.F.args_tuple_add_2 _ _)
      (tuple_addW0 a b #[] its2.toArray n n2 dd dd2 sl sl2 rfl) ⟨ho, ho2, ⟨.ref b, H, I, rfl, q0 rfl⟩⟩
  · exact op_catT pins s σ H _ _ v u Q I rx ry ⟨a, b, xs, ys, rfl, rfl, ha, hb, hx, hz, q1 hx, q2 hx⟩
end
end L2
namespace L2
open PySem PySem.Spec PyProof.Rows
section
variable {base G h h' : Heap}
end
section
variable {base h h' : Heap} {l : List Env} {x C : Addr} {hs : List Addr}
end
section
variable {M : Model} {A : Around} {E : Value → Shared → Prop} {s : Shared} {base : Heap} {env : Env} {outer : List Env} {L x C T : Addr} {Q : Unit → Shared → Prop}
end
section
variable {P : Program} {w : World} {K : PySem.W.Frag} {mg : Str → Option Value} {base : Heap} {N : List Str} {qual : Str} {scope : Scope} {f : Addr} {cd : Value} {A : Around} {outer : List Env} {s : Shared} {H : Hp} {E : XK} {C : Addr}
end
section
open PySem.W (excIn tailIn nsOkIn nsIn)
variable {X : Cx} {C : Addr} {x : Str} {np cpos pos : Pos} {e : Expr} {es : List Expr} {t : TA} {E : XK} {bmB : List Value} {newId initId : String}
end
end L2
namespace L2
open PySem PySem.Spec PyProof.Rows
open PySem.W (findIn specialIn takesIn mroIn clsIn Looks)
section
variable {prog : Program} {w : World} {A : Around} {E : Value → Shared → Prop} {K : PySem.W.Frag} {x C : Addr}
open PySem.Builtin PySem.Builtin.ObjectAttr PySem.Builtin.Getset_descriptor PySem.W
end
section
variable {X : Cx}
end
end L2
namespace L2
open PySem PySem.Spec PyProof.Rows
open PySem.W (findIn specialIn takesIn mroIn clsIn typeIn Looks)
section
variable {P : Program} {w : World} {C : Addr} {stack : List Env} {H H' : Hp} {h₀ h h' base : Heap} {x T : Addr}
end
section
variable {M : Model} {A : Around} {E : Value → Shared → Prop} {s : Shared} {base : Heap} {env : Env} {outer : List Env} {L x C T : Addr}
end
end L2
namespace L2
open PySem PySem.Spec PyProof.Rows
open PySem.W (findIn specialIn takesIn mroIn clsIn typeIn Looks)
section
variable {X : Cx} {pins : List (Addr × Obj)} {σ : St} {H : Hp} {s : Shared} {e : Value}
end
section
variable {X : Cx}
end
end L2
namespace HT
open PySem PyProof.Rows
open PySem.AutoSeq1 (wpAny_loadPart')
section
variable {prog : Program} {w : World} {A : Around} {s : Shared} {E : Value → Shared → Prop}
end
end HT
namespace L2
open PySem PySem.Spec PyProof.Rows
end L2
namespace L2
open PySem PySem.Spec PyProof.Rows
section
variable {X : Cx} {x x2 : Str} {px px2 tpos pos fpos : Pos} {kk : Nat} {iter elt : Expr} {scope sc0 : Scope} {N0 ys : List Str} {fr : List Nat} {wi : TI} {te : TE}
noncomputable def rCatTA (K : PySem.W.Frag) : R2 := fun x y H Q => ∃ a b xs ys, x = .ref a ∧ y = .ref b ∧ SqT K H a xs ∧ SqT K H b ys ∧ xs.length + ys.length ≤ sizeLine ∧ (xs = [] → Q (.ref b) H) ∧ (xs ≠ [] → ys = [] → Q (.ref a) H) ∧
  (xs ≠ [] → ys ≠ [] → ∀ p, H p = none → Q (.ref p) (upd H p (.tup (xs ++ ys))))
theorem op_catTB : OpR X (binaryOp .Add) (rCatTA X.K) := by
  intro pins s σ H x y v u Q I rx ry h
  obtain ⟨a, b, xs, ys, e1, e2, h1, h2, h3, q1, q2, q3⟩ := h
  exact op_catTA pins s σ H x y v u Q I rx ry ⟨a, b, xs, ys, e1, e2, h1, h2, h3, q1, q2, q3⟩
end
end L2
namespace L2
open PySem PySem.Spec PyProof.Rows
section
variable {X : Cx}
end
end L2
namespace L2
open PySem PySem.Spec PyProof.Rows
open PySem.W (findIn specialIn takesIn mroIn clsIn typeIn Looks)
section
variable {X : Cx}
end
end L2
namespace L2
open PySem PySem.Spec PyProof.Rows
section
variable {X : Cx}
end
end L2
namespace HT
open PySem PyProof.Rows
section
variable {prog : Program} {w : World} {A : Around} {s : Shared} {E : Value → Shared → Prop}
end
end HT
namespace L2
open PySem PySem.Spec PyProof.Rows
end L2
namespace L2
open PySem PySem.Spec PyProof.Rows
section
variable {X : Cx}
end
end L2
namespace L2
open PySem PySem.Spec PyProof.Rows
section
variable {X : Cx} {CX : CXT} {k : Nat} {f : Addr} {fd : FuncData} {ps : List Str} {sp : Sp} {dvs : List V} {ds : List Value} {E : XK} {x m : Str} {p pos apos cpos : Pos} {a b e o : Expr} {es rest : List Expr} {ta tb te to : TE} {t : TA} {tA tB' : TT}
end
section
variable {P : Program} {w : World} {K : PySem.W.Frag} {mg : Str → Option Value} {base : Heap}
end
end L2
namespace HT
open PySem PyProof.Rows
section
variable {prog : Program} {w : World} {A : Around} {s : Shared} {E : Value → Shared → Prop} {d j : Addr} {ks : List Value} {i ep : Nat}
noncomputable def VEs (h : Heap) (d : Addr) (ks : List Value) (ep : Nat) : Prop := ∃ o es, h.get? d = some o ∧ o.ExactDict ∧ o.data = .dict es ep ∧ es.toList.map (·.val) = ks
theorem VEs.type (m : VEs s.heap d ks ep) : s.TypeIs (.ref d) "dict" := by
  obtain ⟨o, _, ho, hc, _⟩ := m
  exact ⟨o, ho, hc.1⟩
theorem VEs.keeps {h h' : Heap} (m : VEs h d ks ep) (k : ∀ o, h.get? d = some o → h'.get? d = some o) : VEs h' d ks ep := by
  obtain ⟨o, es, ho, r⟩ := m
  exact ⟨o, es, k o ho, r⟩
theorem size_vals {es : Array DictEntry} (e : es.toList.map (·.val) = ks) : es.size = ks.length := by
  rw [← e, List.length_map, Array.length_toList]
theorem iter_ves {r : Addr} {Q : Value → Shared → Prop} (hv : s.heap.IsValuesView r d) (m : VEs s.heap d ks ep)
    (q : Q (.ref s.heap.objs.size) { s with heap := s.heap.push { cls := .type "dict_valueiterator", data := .fields #[.ref d, .int 0 0, .int ks.length 0, .int ep 0] } }) : wpAny (model prog w) A (pyIter (.ref r)) Q E s := by
  obtain ⟨ov, hov, hcv, hdv⟩ := (show ∃ o, s.heap.get? r = some o ∧ o.cls = .type "dict_values" ∧ o.data = .fields #[.ref d] from hv)
  obtain ⟨o, es, ho, hc, hdat, hk⟩ := m
  refine wpAny_pyIter_slot hv.typeIs PySem.F.slot_dict_values_iter (wpAny_call_entry PySem.F.slot_dict_values_iter hv.typeIs PySem.F.entry_dict_values_iter ?_ (PySem.F.args_dict_values_iter_1 _))
  unfold Builtin.«dict_values.__iter__» Builtin.Dict_items.dictOf Builtin.Dict_items.newIterator
  refine wpAny_bind (wpAny_pure (wpAny_bind (wpAny_bind (wpAny_field hov hdv (x := .ref d) rfl (wpAny_pure (wpAny_bind (wpAny_bind (wpAny_dictEntries ho hdat (wpAny_bind (wpAny_dictEpoch ho hdat ?_))))))))))
  have own : Builtin.Dict_items.ownsTuple "dict_valueiterator" = false := by decide
  simp only [own, Bool.false_eq_true, if_false]
  refine wpAny_newObj_type (wpAny_pure ⟨_, rfl, "dict_valueiterator", _, ⟨_, Heap.get?_push_size _ rfl, rfl⟩, PySem.F.slot_dict_valueiterator_next.lookup, ?_⟩)
  simpa [rawInt, size_vals hk] using q
theorem call_ves {Q : Value → Shared → Prop} (lo : (d == sysModules) = false) (m : VEs s.heap d ks ep)
    (q : Q (.ref s.heap.objs.size) { s with heap := s.heap.push { cls := .type "dict_values", data := .fields #[.ref d] } }) : wpAny (model prog w) A (call (.builtin "dict.values") [.ref d]) Q E s := by
  have ty := m.type
  refine wpAny_call_entry PySem.F.slot_dict_values ty PySem.F.entry_dict_values ?_ (PySem.F.args_dict_values_1 _)
  refine wpAny_bind ?_
  unfold Builtin.Dict.noArgs
  refine wpAny_bind (wpAny_notOrdered_dict ty ?_)
  refine (show wpAny _ _ (pure d) _ _ s from wpAny_pure (show wpAny _ _ (Builtin.Dict.showsAll d >>= _) _ _ s from ?_))
  unfold Builtin.Dict.showsAll
  rw [if_neg (by rw [lo]; exact Bool.false_ne_true)]
  exact wpAny_bind (wpAny_pure (wpAny_bind (wpAny_newObj_type (wpAny_pure ⟨_, rfl, q⟩))))
theorem next_ves {x : Value} {Q : Option Value → Shared → Prop} (st : s.heap.IsValIter j d i ks.length ep) (m : VEs s.heap d ks ep) (hx : ks[i]? = some x)
    (q : ∀ h', h'.IsValIter j d (i + 1) ks.length ep → Heap.SameBut j s.heap h' → Q (some x) { s with heap := h' }) : wpAny (model prog w) A (pyNext (.ref j)) Q E s := by
  have ty := st.typeIs
  obtain ⟨o, ho, hc, hd⟩ := id st
  obtain ⟨od, es, hod, hcd, hdd, hk⟩ := m
  have hz := size_vals hk
  have hlt : i < ks.length := (List.getElem?_eq_some_iff.mp hx).1
  have hes : i < es.size := by omega
  have hkey : es[i].val = x := by
    have e1 : (es.toList.map (·.val))[i]? = some x := by rw [hk]; exact hx
    rw [List.getElem?_map, Array.getElem?_toList, Array.getElem?_eq_getElem hes] at e1
    exact Option.some.inj e1
  unfold pyNext
  refine wpAny_bind (wpAny_attempt (wpAny_callSpecial?_slot (name := Str.ofString "__next__") ty PySem.F.slot_dict_valueiterator_next (wpAny_call_entry PySem.F.slot_dict_valueiterator_next ty PySem.F.entry_dict_valueiterator_next ?_ (PySem.F.args_dict_valueiterator_next_1 _))))
  refine wpAny_bind (wpAny_pure (wpAny_bind (wpAny_bind ?_)))
  first | refine wpAny_bind (wpAny_typeNameOfWhole_valiter ty (wpAny_pure (wpAny_bind (wpAny_fieldsOf ho hd ?_)))) | refine wpAny_bind (wpAny_typeNameOf_valiter ty (wpAny_pure (wpAny_bind (wpAny_fieldsOf ho hd ?_))))
  have own : Builtin.Dict_items.ownsTuple "dict_valueiterator" = false := by decide
  simp only [own, Bool.false_eq_true, if_false]
  refine (show wpAny _ _ (if (Value.ref d == Value.none) = true then _ else _) _ _ s from ?_)
  rw [if_neg fun b0 : (Value.ref d == Value.none) = true => Bool.false_ne_true b0]
  refine wpAny_bind (wpAny_pure (wpAny_bind (wpAny_dictEntries hod hdd ?_)))
  rw [if_neg (by rw [hz]; simp)]
  refine wpAny_bind (wpAny_pure (wpAny_bind (wpAny_dictEpoch hod hdd ?_)))
  rw [if_neg (by simp)]
  refine wpAny_pure ?_
  simp only [show ¬ ((i : Int) < 0) from by omega, if_false, Int.toNat_natCast, Array.getElem?_eq_getElem hes]
  refine wpAny_bind ?_
  first | refine wpAny_bind (wpAny_typeNameOfWhole_valiter ty (wpAny_pure (wpAny_bind (wpAny_isOneOf_valiter ty ?_)))) | refine wpAny_bind (wpAny_typeNameOf_valiter ty (wpAny_pure (wpAny_bind (wpAny_isOneOf_valiter ty ?_))))
  refine (show wpAny _ _ (setField (.ref j) 1 (rawInt ((i : Int) + 1)) >>= _) _ _ s from ?_)
  refine wpAny_bind (wpAny_setField ho hd (by simp) ?_)
  have st' : (s.heap.update j (Obj.mapFields (·.setIfInBounds 1 (rawInt ((i : Int) + 1))))).IsValIter j d (i + 1) ks.length ep := by
    refine ⟨_, Heap.get?_update_self _ ho (Obj.isFreed_of_fields (Obj.data_mapFields hd _)), (Obj.cls_mapFields ..).trans hc, ?_⟩
    rw [Obj.data_mapFields hd]; simp [rawInt]
  refine wpAny_bind (wpAny_holding (wpAny_bind (wpAny_isOneOf_valiter (s := { s with heap := s.heap.update j (Obj.mapFields (·.setIfInBounds 1 (rawInt ((i : Int) + 1)))) }) st'.typeIs (wpAny_bind (wpAny_isOneOf_valiter (s := { s with heap := s.heap.update j (Obj.mapFields (·.setIfInBounds 1 (rawInt ((i : Int) + 1)))) }) st'.typeIs ?_)))))
  refine (show wpAny _ _ (pure es[i].val) _ _ _ from ?_)
  rw [hkey]
  exact wpAny_pure (wpAny_pure ⟨_, rfl, wpAny_pure (q _ st' (Heap.SameBut.update ..))⟩)
theorem end_ves {Q : Option Value → Shared → Prop} (hh : A.handled = none) (st : s.heap.IsValIter j d i ks.length ep) (m : VEs s.heap d ks ep) (hx : ks.length ≤ i)
    (q : ∀ h', Heap.ExtBut j s.heap h' → Q none { s with heap := h' }) : wpAny (model prog w) A (pyNext (.ref j)) Q E s := by
  have ty := st.typeIs
  obtain ⟨o, ho, hc, hd⟩ := id st
  obtain ⟨od, es, hod, hcd, hdd, hk⟩ := m
  have hz := size_vals hk
  unfold pyNext
  refine wpAny_bind (wpAny_attempt (wpAny_callSpecial?_slot (name := Str.ofString "__next__") ty PySem.F.slot_dict_valueiterator_next (wpAny_call_entry PySem.F.slot_dict_valueiterator_next ty PySem.F.entry_dict_valueiterator_next ?_ (PySem.F.args_dict_valueiterator_next_1 _))))
  refine wpAny_bind (wpAny_pure (wpAny_bind (wpAny_bind ?_)))
  first | refine wpAny_bind (wpAny_typeNameOfWhole_valiter ty (wpAny_pure (wpAny_bind (wpAny_fieldsOf ho hd ?_)))) | refine wpAny_bind (wpAny_typeNameOf_valiter ty (wpAny_pure (wpAny_bind (wpAny_fieldsOf ho hd ?_))))
  have own : Builtin.Dict_items.ownsTuple "dict_valueiterator" = false := by decide
  simp only [own, Bool.false_eq_true, if_false]
  refine (show wpAny _ _ (if (Value.ref d == Value.none) = true then _ else _) _ _ s from ?_)
  rw [if_neg fun b0 : (Value.ref d == Value.none) = true => Bool.false_ne_true b0]
  refine wpAny_bind (wpAny_pure (wpAny_bind (wpAny_dictEntries hod hdd ?_)))
  rw [if_neg (by rw [hz]; simp)]
  refine wpAny_bind (wpAny_pure (wpAny_bind (wpAny_dictEpoch hod hdd ?_)))
  rw [if_neg (by simp)]
  refine wpAny_pure ?_
  have hge : es.size ≤ i := by omega
  simp only [show ¬ ((i : Int) < 0) from by omega, if_false, Int.toNat_natCast, Array.getElem?_eq_none hge]
  refine wpAny_bind ?_
  first | refine wpAny_bind (wpAny_typeNameOfWhole_valiter ty (wpAny_pure ?_)) | refine wpAny_bind (wpAny_typeNameOf_valiter ty (wpAny_pure ?_))
  refine (show wpAny _ _ (setField (.ref j) 0 .none >>= _) _ _ s from wpAny_bind (wpAny_setField ho hd (by simp) ?_))
  refine (show wpAny _ _ (newExc (.type "StopIteration") [] >>= _) _ _ _ from wpAny_bind ?_)
  simp only [newExc, newTuple]
  refine wpAny_bind (wpAny_newObj_type (wpAny_bind (m := firstArgMember _ _) (wpAny_of_eq (a := Value.none) (by first | rfl | (simp only [firstArgMember]; rfl)) (wpAny_newObj_type ?_ (by size_fits)))) (by size_fits))
  simp only [raiseNew]
  refine wpAny_bind (wpAny_handled ?_)
  rw [show A.in1.handled = none from hh]
  refine (wpAny_bind (wpAny_pure (wpAny_throw (?_))))
  refine wpAny_bind (wpAny_isInstance (T := "StopIteration") (b := true) ⟨_, Heap.get?_push_size _ rfl, rfl⟩ isSubtype_stop (wpAny_pure (q _ ?_)))
  exact ((Heap.SameBut.update ..).extBut.push _).push _
end
end HT
namespace L2
open PySem PySem.Spec PyProof.Rows
section
variable {X : Cx} {o l : Expr} {to tl : TE} {p pos apos cpos : Pos}
end
end L2
namespace HT
open PySem PyProof.Rows
section
variable {prog : Program} {w : World} {A : Around} {s : Shared} {E : Value → Shared → Prop}
theorem getItem_tuple_all {t sl : Addr} {items : Array Value} {vl vu : Value} {lo hi : Option Int} {Q : Value → Shared → Prop} (ht : IsTup s.heap t items) (hs : s.heap.IsSliceOf sl vl vu .none) (pl : IsPart vl lo) (pu : IsPart vu hi)
    (i1 : sIx items.size 0 lo = 0) (i2 : sIx items.size items.size hi = items.size) (h : Q (.ref t) s) : wpAny (model prog w) A (getItem (.ref t) (.ref sl)) Q E s := by
  obtain ⟨os, hos, hcs, hds⟩ := id hs
  have hTs : s.TypeIs (.ref sl) "slice" := ⟨os, hos, hcs⟩
  unfold getItem
  try with_reducible refine wpAny_holding ?_
  first | refine wpAny_bind (wpAny_pure ?_) | skip
  refine wpAny_bind (wpAny_sequenceKey ht.typeIs (by decide) (wpAny_bind (wpAny_callSpecial?_slot (name := Str.ofString "__getitem__") ht.typeIs PyProof.Rows.slot_tuple_getitem
    (wpAny_call_entry PyProof.Rows.slot_tuple_getitem ht.typeIs entry_tuple_getitem ?_ (args_tuple_getitem _ _)))))
  refine (show wpAny _ _ (Builtin.Tuple.tupleItemsOf (.ref t) >>= _) _ _ s from wpAny_bind (tupleItemsOf_ ht (wpAny_bind (wpAny_typeOf hTs ?_))))
  rw [if_pos (by decide)]
  refine wpAny_bind (sliceApplied_gen hs pl pu ?_)
  rw [i1, i2]
  refine (show wpAny _ _ (if (((0 : Nat) : Int) == 0 && (1 : Int) == 1 && (items.size - 0) == items.size) = true then _ else _) _ _ s from ?_)
  rw [if_pos (by simp)]
  refine wpAny_bind (m := Builtin.Tuple.tupleIsExact _) ?_
  unfold Builtin.Tuple.tupleIsExact
  refine wpAny_bind (wpAny_typeOf ht.typeIs (wpAny_pure ?_))
  rw [if_pos (by decide)]
  exact wpAny_bind (wpAny_rule (wpAny_pure ⟨_, rfl, wpAny_pure h⟩))
end
end HT
namespace L2
open PySem PySem.Spec PyProof.Rows
section
variable {X : Cx}
noncomputable def rSlA : V → Option Int → Option Int → Hp → VK → Prop := fun x lo hi H Q => ∃ a xs, x = .ref a ∧ H a = some (.tup xs) ∧ ∀ p H', (∀ b o, H b = some o → H' b = some o) → H' p = some (.tup (cutV xs lo hi)) → Q (.ref p) H'
theorem sl_tupA : SlR X rSlA := by
  intro pins s σ H x v vl vu lo hi sl Q I rx hs pl pu h
  obtain ⟨a, xs, ex, hx, q⟩ := h
  by_cases hw : HT.sIx xs.length 0 lo = 0 ∧ HT.sIx xs.length xs.length hi = xs.length
  · subst ex
    cases rx
    obtain ⟨its, r, ht, hz⟩ := I.tuple (SqT.of (K := X.K) hx)
    have hl := r.length
    refine ⟨"tuple", _, PyProof.Rows.slot_tuple_getitem.lookup, ht.typeIs, HT.getItem_tuple_all ht hs pl pu (by rw [List.size_toArray, ← hl]; exact hw.1) (by rw [List.size_toArray, ← hl]; exact hw.2) ⟨.ref a, H, I, rfl, q a H (fun _ _ h => h) ?_⟩⟩
    rw [hx]
    unfold cutV
    rw [hw.1, hw.2, List.drop_zero, Nat.sub_zero, List.take_length]
  · exact sl_tup pins s σ H x v vl vu lo hi sl Q I rx hs pl pu ⟨a, xs, ex, SqT.of hx, hw, fun p hp => q p _ (fun b o e => by rw [upd_ne (ne_of_none e hp)]; exact e) upd_same⟩
theorem sumInts_all : ∀ (ns : List Int) (a : Int), PySem.W.Num.sumInts a (ns.map PySem.W.WData.int) = some (.int (a + sumI ns))
  | [], a => by show some (PySem.W.WData.int a) = some (.int (a + 0)); rw [Int.add_zero]
  | n :: r, a => by
    have fold : ∀ (r : List Int) (b : Int), PySem.W.Num.foldFrom PySem.W.Num.add (.int b) (r.map PySem.W.WData.int) = some (.int (b + sumI r)) := by
      intro r
      induction r with
      | nil => intro b; show some (PySem.W.WData.int b) = some (.int (b + 0)); rw [Int.add_zero]
      | cons m r ih =>
        intro b
        show PySem.W.Num.foldFrom PySem.W.Num.add (.int (b + m)) (r.map PySem.W.WData.int) = some (.int (b + (m + sumI r)))
        rw [ih, Int.add_assoc]
    show (if (PySem.W.Num.fitsLong n && PySem.W.Num.fitsLong (a + n)) = true then PySem.W.Num.sumInts (a + n) (r.map PySem.W.WData.int) else PySem.W.Num.foldFrom PySem.W.Num.add (.int (a + n)) (r.map PySem.W.WData.int)) = some (.int (a + (n + sumI r)))
    split
    · rw [sumInts_all r, Int.add_assoc]
    · rw [fold, Int.add_assoc]
theorem call_sumB (hc : X.calm = true) : CallR X (.builtin "sum") (fun xs H Q => ∃ (p : Addr) (ns : List Int), xs = [.ref p] ∧ SqL X.K H p (ns.map V.int) ∧ Q (.int (sumI ns)) H) := by
  intro pins s σ H xs us Q I r h
  obtain ⟨p, ns, rfl, hq, q⟩ := h
  obtain ⟨u, rfl, ru⟩ := vals1 r
  cases ru
  obtain ⟨its, rv, pl, hz⟩ := I.list hq
  have hl := pl.isList
  have hlt : p < s.heap.objs.size := by obtain ⟨_, e, _⟩ := hl; exact Heap.lt_size e
  have hlen : its.length = ns.length := by have := rv.length; rw [List.length_map] at this; omega
  refine PySem.Flt.call_sum_walkF (xs := ns.map PySem.W.WData.int) (r := .int (sumI ns)) (by rw [sumInts_all, Int.zero_add]) (wpAny_pyIter_list hl ?_)
  have W := Walks.toS (Walks.list (prog := X.prog) (w := X.w) (A := X.A.in1) (I.ok.hd hc) s.heap.objs.size p (Nat.ne_of_lt hlt) its.toArray)
  rw [show its.toArray.size = (ns.map PySem.W.WData.int).length by rw [List.size_toArray, List.length_map]; exact hlen] at W
  refine ⟨s.heap.objs.size, [s.heap.objs.size, p], [s.heap.objs.size], _, _, _, rfl, W, ⟨⟨_, Heap.get?_push_size _ rfl, rfl, rfl⟩, hl.push _⟩, fun b hb => ?_, fun i v hP => ?_, fun s' v hv hm => ?_⟩
  · show b < (s.heap.push _).objs.size
    rw [Heap.size_push]
    rcases List.mem_cons.mp hb with e | e
    · rw [e]; exact Nat.lt_succ_self _
    · rw [List.mem_singleton.mp e]; exact Nat.lt_succ_of_lt hlt
  · have hv : its[i]? = some v := by simpa using hP
    have hi : i < ns.length := by
      have := (List.getElem?_eq_some_iff.mp hv).1
      omega
    have hx : (ns.map V.int)[i]? = some (V.int ns[i]) := by rw [List.getElem?_map, List.getElem?_eq_getElem hi] <;> rfl
    obtain ⟨u, eu, ru⟩ := rv.get hx
    rw [hv] at eu
    cases eu
    obtain ⟨t, rfl⟩ := ru
    exact ⟨.int ns[i], by rw [List.getElem?_map, List.getElem?_eq_getElem hi] <;> rfl, .int _ t⟩
  · cases hv
    obtain ⟨hh, g, d, tk, os⟩ := s'
    obtain rfl : g = s.gens := hm.gens
    obtain rfl : d = s.drawn := hm.drawn
    obtain rfl : os = s.os := hm.os
    refine ⟨.int _, H, I.kept (t' := tk) (h' := hh) fun b o e => hm.heap b o (fun z => ?_) (Heap.get?_push_of_some _ e), ⟨_, rfl⟩, q⟩
    rw [List.mem_singleton.mp z] at e
    exact absurd (Heap.lt_size e) (Nat.lt_irrefl _)
end
end L2
namespace L2
open PySem PySem.Spec PyProof.Rows
section
variable {X : Cx} {o e f : Expr} {td ty tx : TE} {apos cpos : Pos}
end
end L2
namespace L2
open PySem PySem.Spec PyProof.Rows
section
variable {X : Cx} {x x2 : Str} {px px2 tpos pos fpos : Pos} {kk : Nat} {iter elt cnd : Expr} {scope sc0 : Scope} {N0 ys : List Str} {fr : List Nat} {wi : TI} {tc : TT} {te : TE} {pins : List (Addr × Obj)} {σ : St} {H : Hp} {s : Shared}
end
end L2
namespace HT
open PySem PyProof.Rows
section
variable {prog : Program} {w : World} {A : Around} {s : Shared} {E : Value → Shared → Prop} {d it : Addr} {ks : List (Value × Value)} {i ep : Nat}
noncomputable def IEs (h : Heap) (d : Addr) (ks : List (Value × Value)) (ep : Nat) : Prop := ∃ o es, h.get? d = some o ∧ o.ExactDict ∧ o.data = .dict es ep ∧ es.toList.map (fun e => (e.key, e.val)) = ks
end
end HT
namespace L2
open PySem PySem.Spec PyProof.Rows
theorem Inv.freeze {X : Cx} {pins : List (Addr × Obj)} {σ : St} {H : Hp} {s : Shared} {d : Addr} {o : Obj} {kvs : List (List Key × V)} (I : Inv X pins σ H s) (hd : H d = some (.dT kvs)) (ho : s.heap.get? d = some o) : Inv X pins σ (upd H d (.frz o (.dT kvs))) s := by
  refine d_write (t' := s.toks) (h' := s.heap) I (by rw [hd]; exact True.intro) ⟨rfl, fun _ _ => rfl⟩ ⟨o, ho⟩ ⟨ho, ?_⟩
  obtain ⟨z, lo, xs, kt, r⟩ := (show ObjOk X.prog X.w H s.heap d (.dT kvs) from I.hok d _ hd)
  refine ⟨z, lo, xs, Paired.mapP kt fun p q h => ⟨h.1, ?_, h.2.2⟩, r⟩
  rw [upd_ne (fun z => by rw [z, hd] at h; cases h.2.1)]
  exact h.2.1
end L2
namespace L2
open PySem PySem.Spec PyProof.Rows
noncomputable def nO (o : Obj) : Nat := match o.data with
  | .dict es _ => es.size
  | _ => 0
noncomputable def epO (o : Obj) : Nat := match o.data with
  | .dict _ ep => ep
  | _ => 0
theorem frz_dict {X : Cx} {pins : List (Addr × Obj)} {σ : St} {H : Hp} {s : Shared} {d : Addr} {o : Obj} {kvs : List (List Key × V)} (I : Inv X pins σ H s) (hd : H d = some (.frz o (.dT kvs))) :
    ∃ xs : List (List Key × Addr × Value), KT H kvs xs ∧ (d == sysModules) = false ∧ nO o = xs.length ∧ HT.IEs s.heap d (xs.map fun q => (Value.ref q.2.1, q.2.2)) (epO o) ∧ HT.VEs s.heap d (xs.map fun q => q.2.2) (epO o) ∧ s.heap.get? d = some o := by
  obtain ⟨ho, z, lo, xs, kt, o', es, ep, h1, h2, h3, h4, h5⟩ := (show ObjOk X.prog X.w H s.heap d (.frz o (.dT kvs)) from I.hok d _ hd)
  rw [ho] at h1
  cases h1
  have e1 : nO o = es.size := by unfold nO; rw [h3]
  have e2 : epO o = ep := by unfold epO; rw [h3]
  refine ⟨xs, kt, lo, ?_, ⟨o, es, ho, h2, by rw [e2]; exact h3, ?_⟩, ⟨o, es, ho, h2, by rw [e2]; exact h3, ?_⟩, ho⟩
  · rw [e1, ← Array.length_toList, h4, List.length_map]
  · rw [h4, List.map_map]; rfl
  · rw [h4, List.map_map]; rfl
theorem kt_at {H : Hp} : ∀ {kvs : List (List Key × V)} {xs : List (List Key × Addr × Value)} {i : Nat} {kv : List Key × V}, KT H kvs xs → kvs[i]? = some kv → ∃ q : List Key × Addr × Value, xs[i]? = some q ∧ H q.2.1 = some (.tup (kv.1.map kV)) ∧ RelV kv.2 q.2.2
  | _, _, i, _, .nil, e => by cases i <;> cases e
  | _, _, 0, _, .cons h _, e => by cases e; exact ⟨_, rfl, h.2.1, h.2.2⟩
  | _, _, i + 1, _, .cons _ t, e => kt_at (i := i) t e
noncomputable def iFrz (J : Addr → Obj → It) (to : TE) : TI := fun σ H R => to σ H fun x H1 => ∃ d kvs, x = .ref d ∧ ((H1 d = some (.dT kvs) ∧ ∀ o, R (J d o) (upd H1 d (.frz o (.dT kvs)))) ∨ ∃ o, H1 d = some (.frz o (.dT kvs)) ∧ R (J d o) H1)
theorem frz_in {X : Cx} {pins : List (Addr × Obj)} {σ : St} {H : Hp} {s : Shared} {d : Addr} {kvs : List (List Key × V)} {J : Addr → Obj → It} {R : It → Hp → Prop} (I : Inv X pins σ H s)
    (h : (H d = some (.dT kvs) ∧ ∀ o, R (J d o) (upd H d (.frz o (.dT kvs)))) ∨ ∃ o, H d = some (.frz o (.dT kvs)) ∧ R (J d o) H) : ∃ o H', Inv X pins σ H' s ∧ H' d = some (.frz o (.dT kvs)) ∧ R (J d o) H' := by
  rcases h with ⟨hd, q⟩ | ⟨o, hd, q⟩
  · obtain ⟨_, _, xs, kt, o, es, ep, h1, _⟩ := (show ObjOk X.prog X.w H s.heap d (.dT kvs) from I.hok d _ hd)
    exact ⟨o, _, I.freeze hd h1, upd_same, q o⟩
  · exact ⟨o, H, I, hd, q⟩
noncomputable def Itj (d : Addr) (o : Obj) : It :=
  ⟨fun i H => ∃ kvs kv, H d = some (.frz o (.dT kvs)) ∧ kvs[i]? = some kv,
   fun i H x H' => H' = H ∧ ∀ kvs, H d = some (.frz o (.dT kvs)) → (kvs.map (·.2))[i]? = some x,
   fun i H => ∃ kvs, H d = some (.frz o (.dT kvs)) ∧ kvs.length = i⟩
theorem turn_vals {P : Program} {w : World} {K : PySem.W.Frag} {tg : Expr} (it d : Addr) (o : Obj) : Turn P w K tg (Itj d o) [it] it (fun i h => h.IsValIter it d i (nO o) (epO o)) where
  mem := by simp
  obj := fun i h st b hb => by
    have e : b = it := by simpa using hb
    subst e
    obtain ⟨o, e, c, d⟩ := st
    exact ⟨o, e, fun v z => by rw [d] at z; cases z⟩
  keep := fun i h h' st k => st.at fun o e => k it (by simp) o e
  item := by
    intro X hP hw hK hc i pins s σ H E I hf st hg
    subst hP hw hK
    obtain ⟨kvs, kv, hd, hx⟩ := hg
    obtain ⟨xs, kt, lo, hn, _, m, _⟩ := frz_dict I hd
    obtain ⟨q, hq, hc', rv⟩ := kt_at kt hx
    obtain ⟨f0, f1, f2, f3, f4, f5⟩ := hf it (by simp)
    rw [hn, ← List.length_map (f := fun q : List Key × Addr × Value => q.2.2)] at st
    refine HT.next_ves st m (by rw [List.getElem?_map, hq]; rfl) fun h' st' sb => ?_
    have I1 : Inv X pins σ H { s with heap := h' } := I.turned (t' := s.toks) (fun b o hb e => sb.extBut b o hb e) f0 f1 f3 f4 f5
    obtain ⟨o', e, c, d'⟩ := id st'
    rw [List.length_map, ← hn] at st'
    exact ⟨q.2.2, rfl, go_of (s := { s with heap := h' }) e c d' (by decide) ⟨_, H, I1, rv, ⟨rfl, fun ys hy => by rw [hd] at hy; cases hy; rw [List.getElem?_map, hx]; rfl⟩, st', fun b hb => (hf b hb).1⟩⟩
  done := by
    intro X hP hw hK hc i pins s σ H E I hf st hg
    subst hP hw hK
    obtain ⟨kvs, hd, hl⟩ := hg
    obtain ⟨xs, kt, lo, hn, _, m, _⟩ := frz_dict I hd
    have hle : xs.length = kvs.length := (Paired.length kt).symm
    obtain ⟨f0, f1, f2, f3, f4, f5⟩ := hf it (by simp)
    rw [hn, ← List.length_map (f := fun q : List Key × Addr × Value => q.2.2)] at st
    exact HT.end_ves (I.ok.hd hc) st m (by rw [List.length_map]; omega) fun h' eb => ⟨rfl, I.turned (t' := s.toks) (fun b o hb e => eb b o hb e) f0 f1 f3 f4 f5⟩
  self := fun _ _ _ _ _ st h => wpAny_pyIter_valiter st h
theorem pi_vals {X : Cx} {tg : Expr} {o : Expr} {to : TE} {apos cpos : Pos} (ho : PE X o to)
    (hbase : attributeBase o "values" X.env (eval o X.env) = eval o X.env := by rfl) (hline : (apos.endLine == cpos.line) = true := by rfl) :
    PI X tg (.Call (.Attribute o "values" apos) [] [] cpos) (iFrz Itj to) := by
  intro pins s σ H R I h
  refine wpAny_Call_method0_late hbase hline (thn (ho pins s σ H _ I h) fun v s1 ⟨x, H1, I1, r1, d, kvs, ex, q1⟩ => ?_)
  subst ex
  cases r1
  obtain ⟨ob, H2, I2, hd, q⟩ := frz_in I1 q1
  obtain ⟨xs, kt, lo, hn, _, m, hob⟩ := frz_dict I2 hd
  refine ⟨"dict", "dict.values", PySem.F.plainAttrs_dict, PySem.F.slot_dict_values, PySem.F.type_dict_values, m.type, (fun b e => ?_), Calls.callWith_builtin rfl (PySem.evalArgs_none (HT.call_ves lo m ?_))⟩
  · cases e
    obtain ⟨o', es', e1, e2, _⟩ := m
    exact ⟨o', e1, e2.2.1⟩
  have kp0 : ∀ b o, s1.heap.get? b = some o → (s1.heap.push { cls := .type "dict_values", data := .fields #[.ref d] }).get? b = some o := fun b o e => Heap.get?_push_of_some _ e
  refine HT.iter_ves ⟨_, Heap.get?_push_size _ rfl, rfl, rfl⟩ (m.keeps fun o e => kp0 _ o e) ?_
  have hsz : (s1.heap.push { cls := .type "dict_values", data := .fields #[.ref d] }).objs.size = s1.heap.objs.size + 1 := Heap.size_push ..
  refine ⟨_, [_], _, _, H2, rfl, I2.kept (t' := s1.toks) fun b o e => Heap.get?_push_of_some _ (kp0 b o e), turn_vals _ d ob, ?_, fun b hb => ?_, q⟩
  · rw [List.length_map, ← hn]
    exact ⟨_, Heap.get?_push_size _ rfl, rfl, rfl⟩
  · have e : b = (s1.heap.push { cls := .type "dict_values", data := .fields #[.ref d] }).objs.size := by simpa using hb
    have hb' : s1.heap.objs.size ≤ b := by rw [e, hsz]; omega
    exact I2.fpOk hb' (I2.hok.fresh hb')
section
variable {X : Cx}
end
end L2
namespace L2
open PySem PySem.Spec PyProof.Rows
end L2
namespace HT
open PySem PyProof.Rows
end HT
namespace L2
open PySem
section
variable {X : Cx}
end
end L2
namespace L2
open PySem PyProof.Rows
structure CompOk3 (sc0 : Scope) (N0 : List Str) (scope : Scope) (x x2 x3 : Str) (ys : List Str) (fr : List Nat) : Prop where
  kind : scope.kind = .function
  nocell : ∀ y ∈ scope.names, y.2 ≠ .cell
  loc : ∀ y ∈ scope.names, y.2 = .local → scope.names.lookup y.1 = some .local
  xl : (relabelN sc0 scope).lookup x = some .local
  xl2 : (relabelN sc0 scope).lookup x2 = some .local
  xl3 : (relabelN sc0 scope).lookup x3 = some .local
  free : ∀ y ∈ scope.names, y.2 = .free → sc0.names.lookup y.1 = some .cell
  nd : (x :: x2 :: x3 :: ys).Nodup
  len : ys.length = fr.length
  sl : ∀ q ∈ ys.zip fr, N0[q.2]? = some q.1 ∧ sc0.names.lookup q.1 = some .cell ∧ (relabelN sc0 scope).lookup q.1 = some .cell
noncomputable def cxComp3 (X : Cx) (x x2 x3 : Str) (ys : List Str) (scope : Scope) (C : Addr) (s : Shared) (H : Hp) (ex : List Addr) : Cx :=
  { X with N := x :: x2 :: x3 :: ys, s₀ := s, H₀ := H, env := compEnvC scope (closOf X.env.cells scope.names) C X.env, outer := X.stack, stack := X.stack, ex := ex, fn := fun _ => false, pn := [], xe := fun _ _ => False }
noncomputable def tCompW3 (fr : List Nat) (te : TE) (σ : St) (J : It) (H1 : Hp) (Q : VK) : Prop :=
  ∀ p, H1 p = none → ∃ W : Nat → Nat → List V → Hp → Prop, (∃ m, W 0 m [] (upd H1 p (.lst []))) ∧ ∀ i m ys H, W i m ys H → H p = some (.lst ys) ∧
    ((J.stop i H ∧ Q (.ref p) H) ∨ (J.go i H ∧ ys.length < sizeLine ∧ ∀ x H', J.yld i H x H' → ∃ T v1 v2 v3, x = .ref T ∧ H' T = some (.tup [v1, v2, v3]) ∧ te (some v1 :: some v2 :: some v3 :: caps fr σ) H' fun v H2 =>
      H2 p = some (.lst ys) ∧ ∃ m', m' < m ∧ W (i + 1) m' (ys ++ [v]) (upd H2 p (.lst (ys ++ [v])))))
noncomputable def tComp3 (wi : TI) (fr : List Nat) (te : TE) : TE := fun σ H Q => wi σ H fun J H1 => tCompW3 fr te σ J H1 Q
section
variable {X : Cx} {x x2 x3 : Str} {px px2 px3 tpos pos fpos : Pos} {kk : Nat} {iter elt : Expr} {scope sc0 : Scope} {N0 ys : List Str} {fr : List Nat} {wi : TI} {te : TE} {pins : List (Addr × Obj)} {σ : St} {H : Hp} {s : Shared}
theorem comp_core3 {use : Option (Value → Sem Unit)} {Qv : Value → Shared → Prop} {Q : VK} (hcalm : X.calm = true) (hi : PI X (.Tuple [.Name x px, .Name x2 px2, .Name x3 px3] kk tpos) iter wi) (hsc : X.env.scope = sc0) (hN : X.N = N0) (ok : CompOk3 sc0 N0 scope x x2 x3 ys fr)
    (hE : ∀ C s H ex, PE (cxComp3 X x x2 x3 ys scope C s H ex) elt te) (I : Inv X pins σ H s) (h : tComp3 wi fr te σ H Q) (hs : ∀ v, foldedSetIterable iter X.env v = pure v)
    (fin : ∀ (p C : Addr) (H' : Hp) (s' : Shared) (m : Str → Option Value), Inv X pins σ H' s' → s'.heap.Ns C m → H' C = none → C ≠ X.env.locals → X.s₀.heap.objs.size ≤ C → (∀ y c, X.env.cells.lookup y = some c → c ≠ C) → (∀ q ∈ X.pn ++ pins, q.1 ≠ C) → Q (.ref p) H' →
      compPost (model X.prog X.w) X.A X.xe use Qv (.ref p) C (.ok .next) s') :
    wpAny (model X.prog X.w) X.A (comprehension (.ListComp elt [⟨.Tuple [.Name x px, .Name x2 px2, .Name x3 px3] kk tpos, iter, [], 0⟩] scope pos) scope X.env fpos (newList []) false (eval iter X.env) use) Qv X.xe s := by
  subst hsc hN
  have hkof : ∀ y, X.env.kindOf y = X.env.scope.names.lookup y := fun y => rfl
  have hfree : ∀ y ∈ scope.names, y.2 = .free → ∃ c, X.env.cells.lookup y.1 = some c := fun y hy e => I.ok.has y.1 (.inl (ok.free y hy e))
  refine wpAny_comprehension_free (gs := []) rfl hs (closureFor_ok hfree) ok.kind ok.loc (thn (hi pins s σ H _ I h) fun v s1 h1 => thn h1 fun itv s2 h2 => ?_)
  obtain ⟨it, fp, tn, J, H2, e, I2, T, st2, f2, hp⟩ := h2
  subst e
  refine wpAny_newObj_type (wpAny_newFunctionEnv ok.nocell (by intro y hy; simp at hy) (fun h₁ hns₁ hsb₁ => ?_) ok.kind)
  dsimp only at hns₁ hsb₁ ⊢
  have I3 : Inv X pins σ (upd H2 s2.heap.objs.size (.lst [])) { s2 with heap := s2.heap.push { cls := .type "list", data := .seq ([] : List Value).toArray } } :=
    I2.lnew (its := []) (ys := []) (t' := s2.toks) .nil (Nat.zero_le _)
  have hf2 : ∀ b ∈ fp, b < s2.heap.objs.size := fun b hb => by
    obtain ⟨o, e, _⟩ := T.obj _ _ st2 b hb
    exact Heap.lt_size e
  have hps : s2.heap.objs.size < (s2.heap.push { cls := .type "list", data := .seq ([] : List Value).toArray }).objs.size := by rw [Heap.size_push]; exact Nat.lt_succ_self _
  have W0 := hp s2.heap.objs.size I2.fresh
  have st3 : tn 0 (s2.heap.push { cls := .type "list", data := .seq ([] : List Value).toArray }) := T.keep _ _ _ st2 fun b hb o e => Heap.get?_push_of_some _ e
  generalize hpp : s2.heap.objs.size = p at I3 W0 hf2 hps ⊢
  generalize hh3 : (s2.heap.push { cls := .type "list", data := .seq ([] : List Value).toArray }) = h3 at I3 hns₁ hsb₁ hps st3 ⊢
  generalize hH3 : upd H2 p (.lst []) = H3 at I3 W0
  have hold : ∀ b o, h3.get? b = some o → h₁.get? b = some o := fun b o e => hsb₁.extBut b o (Nat.ne_of_lt (Heap.lt_size e)) (Heap.get?_push_of_some _ e)
  have fH3 : ∀ b ∈ fp, H3 b = none := fun b hb => by
    rw [← hH3, upd_ne (Nat.ne_of_lt (hf2 b hb))]
    exact (f2 b hb).1
  have hclos : ∀ y c, (closOf X.env.cells scope.names).lookup y = some c → X.env.cells.lookup y = some c := fun y c e => closOf_sound e
  have hcell3 : ∀ y c, X.env.cells.lookup y = some c → c < h3.objs.size := fun y c e => by
    obtain ⟨v, o, ho, _⟩ := I3.cell y c e
    exact Heap.lt_size ho
  have hlt3 : X.env.locals < h3.objs.size := I3.lt
  have Yok : (cxComp3 X x x2 x3 ys scope h3.objs.size { s2 with heap := h3 } H3 fp).Ok := {
    mod := I.ok.mod
    kind := ok.kind
    glob := I.ok.glob
    blt := I.ok.blt
    above := Nat.le_refl _
    inj := fun y z c e1 e2 => I.ok.inj y z c (hclos _ _ e1) (hclos _ _ e2)
    has := fun y hk => by
      have hfr : (y, NameKind.free) ∈ scope.names := by
        have hm : ∃ k, (relabelN X.env.scope scope).lookup y = some k ∧ (k = .cell ∨ k = .free) := by
          rcases hk with hk | hk
          · exact ⟨_, hk, .inl rfl⟩
          · exact ⟨_, hk, .inr rfl⟩
        obtain ⟨k, hk, hkk⟩ := hm
        have hmem := mem_of_lookup hk
        unfold relabelN at hmem
        obtain ⟨⟨n, k0⟩, hn, en⟩ := List.mem_map.mp hmem
        dsimp only at en
        split at en
        · rename_i hc
          simp only [Bool.and_eq_true] at hc
          have hk0 : k0 = .free := by simpa using hc.1.1
          cases en
          rw [← hk0]
          exact hn
        · cases en
          rcases hkk with e | e
          · exact absurd e (ok.nocell _ hn)
          · rw [← e]
            exact hn
      obtain ⟨c, hc⟩ := hfree _ hfr rfl
      exact ⟨c, closOf_has hc hfr⟩
    cab := fun y c hf _ => by cases hf
    hd := I.ok.hd
    frames := I.ok.frames
    stk := .inl rfl
    exf := fun b hb => ⟨fun e => absurd (hf2 b hb) (by rw [e]; exact Nat.not_lt.mpr (Nat.le_of_lt hps)), fun y c e => (f2 b hb).2.2.2.2.1 y c (hclos _ _ e)⟩
    bs := fun b o e => ⟨(I3.bs b o e).1, (I3.bs b o e).2⟩
    bsz := Nat.le_trans I.ok.bsz I3.sz
    noex := fun b o e hb => by
      rcases (f2 b hb).2.2.2.1 with q | q
      · exact I.ok.noex b o e q
      · have h1 : b < X.base.objs.size := Heap.lt_size e
        exact absurd h1 (Nat.not_lt.mpr (Nat.le_trans I.ok.bsz q))
    exfs := fun b hb hm => by
      rcases List.mem_cons.mp (I3.stkSub b hm) with q | q
      · exact (f2 b hb).2.1 q
      · exact (f2 b hb).2.2.1 q
    funs := I3.stack
    frf := I3.stkFree }
  have IY : Inv (cxComp3 X x x2 x3 ys scope h3.objs.size { s2 with heap := h3 } H3 fp) [] (none :: none :: none :: caps fr σ) H3 { s2 with heap := h₁, toks := s2.toks + ([] : List (Str × Value)).length } := {
    ok := Yok
    os := rfl
    bare := I2.bare
    base := Un.kept hold
    loc := by
      refine ⟨_, hns₁, fun i y v hy hv hvis => ?_⟩
      match i, hy, hv with
      | 0, _, hv => cases hv
      | 1, _, hv => cases hv
      | 2, _, hv => cases hv
      | j + 3, hy, hv =>
        have hy' : ys[j]? = some y := hy
        have hv' : (caps fr σ)[j]? = some (some v) := hv
        unfold caps at hv'
        rw [List.getElem?_map] at hv'
        obtain ⟨i0, hi0, hv0⟩ := Option.map_eq_some_iff.mp hv'
        have hz : (y, i0) ∈ ys.zip fr := by
          refine List.mem_iff_getElem?.mpr ⟨j, ?_⟩
          rw [List.getElem?_zip_eq_some]
          exact ⟨hy', hi0⟩
        obtain ⟨hn, hk, hk2⟩ := ok.sl _ hz
        have hσ : σ[i0]? = some (some v) := by
          cases e : σ[i0]? with
          | none => rw [e] at hv0; cases hv0
          | some o =>
            rw [e] at hv0
            rw [show o = some v from hv0]
        obtain ⟨m, hm, hl⟩ := I3.loc
        obtain ⟨u, ru, lk⟩ := hl i0 y v hn hσ (.inr (.inl hk))
        refine ⟨u, ru, .inr ⟨.inl hk2, ?_⟩⟩
        rcases lk with ⟨a, _⟩ | ⟨_, c, hc, hcell⟩
        · have a' : X.env.scope.names.lookup y = some .local := a
          have hk' : X.env.scope.names.lookup y = some .cell := hk
          rw [hk'] at a'
          cases a'
        · have hfr : (y, NameKind.free) ∈ scope.names := by
            have hmem := mem_of_lookup hk2
            unfold relabelN at hmem
            obtain ⟨⟨n, k0⟩, hn0, en⟩ := List.mem_map.mp hmem
            dsimp only at en
            split at en
            · rename_i hc0
              simp only [Bool.and_eq_true] at hc0
              have hk0 : k0 = .free := by simpa using hc0.1.1
              cases en
              rw [← hk0]
              exact hn0
            · cases en
              exact absurd rfl (ok.nocell _ hn0)
          exact ⟨c, closOf_has hc hfr, hcell.keeps hold⟩
    cell := fun y c e => by
      obtain ⟨v, hv⟩ := I3.cell y c (hclos _ _ e)
      exact ⟨v, hv.keeps hold⟩
    free := I3.fresh
    freeC := fun y c e => I3.freeC y c (hclos _ _ e)
    pin := fun q hq => by cases hq
    hok := I3.hok.kept hold
    len := by
      show (none :: none :: none :: caps fr σ).length = (x :: x2 :: x3 :: ys).length
      rw [List.length_cons, List.length_cons, List.length_cons, List.length_cons, List.length_cons, List.length_cons, ok.len]
      unfold caps
      rw [List.length_map] }
  have hxl : (cxComp3 X x x2 x3 ys scope h3.objs.size { s2 with heap := h3 } H3 fp).env.scope.names.lookup x = some .local := ok.xl
  have hxl2 : (cxComp3 X x x2 x3 ys scope h3.objs.size { s2 with heap := h3 } H3 fp).env.scope.names.lookup x2 = some .local := ok.xl2
  have hxl3 : (cxComp3 X x x2 x3 ys scope h3.objs.size { s2 with heap := h3 } H3 fp).env.scope.names.lookup x3 = some .local := ok.xl3
  have pgx : PG (cxComp3 X x x2 x3 ys scope h3.objs.size { s2 with heap := h3 } H3 fp) (.Tuple [.Name x px, .Name x2 px2, .Name x3 px3] kk tpos) (gTup X.K 3 (gCons (gName 0) (gCons (gName 1) (gCons (gName 2) gNil)))) :=
    pg_tup hcalm (pgs_cons (pg_name (i := 0) ok.nd rfl (.inl hxl) (.inr hxl)) (pgs_cons (pg_name (i := 1) ok.nd rfl (.inl hxl2) (.inr hxl2)) (pgs_cons (pg_name (i := 2) ok.nd rfl (.inl hxl3) (.inr hxl3)) pgs_nil)))
  have pel := hE h3.objs.size { s2 with heap := h3 } H3 fp
  obtain ⟨W, ⟨m0, w0⟩, turn⟩ := W0
  have stat : ∀ {H' : Hp}, (∀ b ∈ fp, H' b = none) → ∀ b ∈ fp, FpOk (cxComp3 X x x2 x3 ys scope h3.objs.size { s2 with heap := h3 } H3 fp) [] H' b := fun hn b hb =>
    ⟨hn b hb, (Yok.exf b hb).1, Yok.exfs b hb, .inl hb, (Yok.exf b hb).2, fun q hq => by cases hq⟩
  have loop : codeAny (model X.prog X.w) X.A (.compLoop (.ListComp elt [⟨.Tuple [.Name x px, .Name x2 px2, .Name x3 px3] kk tpos, iter, [], 0⟩] scope pos) 0 (.ref it) (.ref p) (compEnvC scope (closOf X.env.cells scope.names) h3.objs.size X.env))
      (compPost (model X.prog X.w) X.A X.xe use Qv (.ref p) h3.objs.size) { s2 with heap := h₁, toks := s2.toks + ([] : List (Str × Value)).length } := by
    refine compLoop_list (fun n s' => ∃ i zs v0 w0 z0 H', Inv (cxComp3 X x x2 x3 ys scope h3.objs.size { s2 with heap := h3 } H3 fp) [] (v0 :: w0 :: z0 :: caps fr σ) H' s' ∧ tn i s'.heap ∧ (∀ b ∈ fp, H' b = none) ∧ W i n zs H') ?_ m0
      ⟨0, [], none, none, none, H3, IY, T.keep _ _ _ st3 fun b hb o e => hold b o e, fH3, w0⟩
    rintro n s5 ⟨i, zs, v0, wv0, zv0, H5, I5, st5, fr5, w5⟩
    obtain ⟨hacc, turn5⟩ := turn i n zs H5 w5
    rcases turn5 with ⟨stop, qn⟩ | ⟨go, hlen, step⟩
    · refine thn (T.done (cxComp3 X x x2 x3 ys scope h3.objs.size { s2 with heap := h3 } H3 fp) rfl rfl rfl hcalm i [] s5 _ H5 _ I5 (stat fr5) st5 stop) fun r s6 ⟨hr, I6⟩ => ?_
      subst hr
      obtain ⟨m6, n6, _⟩ := I6.loc
      refine fin p h3.objs.size H5 s6 m6 (I3.call' I6.os I6.base I6.hok I6.bare fun b hb => ⟨(f2 b hb).2.2.2.1, (f2 b hb).2.1, (f2 b hb).2.2.2.2.1, (f2 b hb).2.2.2.2.2⟩) n6 I6.free (Nat.ne_of_gt hlt3) I3.sz (fun y c e => Nat.ne_of_lt (hcell3 y c e)) (fun q hq => ?_) qn
      exact Nat.ne_of_lt (Heap.lt_size (I3.pin q hq).1)
    · refine thn (T.item (cxComp3 X x x2 x3 ys scope h3.objs.size { s2 with heap := h3 } H3 fp) rfl rfl rfl hcalm i [] s5 _ H5 _ I5 (stat fr5) st5 go) fun r s6 ⟨u, hr, h6⟩ => ?_
      subst hr
      refine thn h6 fun _ s7 ⟨xv, H7, I7, r7, y7, st7, fr7⟩ => ?_
      have I7' := I7.pinned (stat fr7) (T.obj _ _ st7)
      obtain ⟨T7, v1, v2, v3, eT, hT7, step7⟩ := step xv H7 y7
      refine thn (pgx _ s7 _ H7 xv u (fun σ' H' => σ' = some v1 :: some v2 :: some v3 :: caps fr σ ∧ H' = H7) I7' r7 ⟨T7, [v1, v2, v3], eT, SqT.of hT7, rfl, v1, [v2, v3], rfl, v2, [v3], rfl, v3, [], rfl, rfl, rfl, rfl⟩) fun _ s8 ⟨σ8, H8, I8, e8, e8'⟩ => ?_
      subst e8 e8'
      refine thn (pel _ s8 _ H8 _ I8 step7) fun yv s9 ⟨v9, H9, I9, r9, hp9, m', hm', w9⟩ => ?_
      refine thn (mt_append _ s9 _ H9 (.ref p) [v9] (.ref p) [yv] (fun _ H' => H' = upd H9 p (.lst (zs ++ [v9]))) I9 rfl (.cons r9 .nil) ⟨p, zs, v9, rfl, rfl, hp9, hlen, rfl⟩) fun _ s10 ⟨_, H10, I10, _, e10⟩ => ?_
      subst e10
      refine ⟨m', hm', i + 1, zs ++ [v9], some v1, some v2, some v3, _, I10.unpinned, T.keep _ _ _ st7 fun b hb o e => (I10.pin (b, o) (List.mem_append_right _ (List.mem_append_right _ (mem_pinsAt hb e)))).1, fun b hb => ?_, w9⟩
      obtain ⟨o, e, d⟩ := T.obj _ _ st7 b hb
      exact (I10.pin (b, o) (List.mem_append_right _ (List.mem_append_right _ (mem_pinsAt hb e)))).2.1
  exact codeAny_compStart_list loop (T.self X.A 0 _ _ _ (T.keep _ _ _ st3 fun b hb o e => hold b o e) loop)
theorem pe_comp3 (hcalm : X.calm = true) (hi : PI X (.Tuple [.Name x px, .Name x2 px2, .Name x3 px3] kk tpos) iter wi) (hsc : X.env.scope = sc0) (hN : X.N = N0) (ok : CompOk3 sc0 N0 scope x x2 x3 ys fr)
    (hE : ∀ C s H ex, PE (cxComp3 X x x2 x3 ys scope C s H ex) elt te) (hs : ∀ v, foldedSetIterable iter X.env v = pure v := by intro _; rfl) :
    PE X (.ListComp elt [⟨.Tuple [.Name x px, .Name x2 px2, .Name x3 px3] kk tpos, iter, [], 0⟩] scope pos) (tComp3 wi fr te) := by
  intro pins s σ H Q I h
  rw [eval_ListComp]
  refine comp_core3 (use := none) (Qv := EP X pins σ Q) (Q := Q) hcalm hi hsc hN ok hE I h hs fun p C H' s' m I' hn h0 h1 h2 h3 h4 q => ?_
  refine ⟨m, hn, fun h' sb => ⟨.ref p, H', I'.turned (t' := s'.toks) (fun b o hb e => sb.extBut b o hb e) h0 (Ne.symm (Ne.symm h1)) (.inr h2) h3 h4, rfl, q⟩⟩
end
end L2
namespace L2
open PySem PySem.Spec PyProof.Rows
end L2
namespace L2
open PySem PySem.Spec PyProof.Rows
end L2
namespace L2
open PySem PySem.Spec PyProof.Rows
section
variable {X : Cx}
end
end L2
namespace L2
open PySem PySem.Spec PyProof.Rows
structure EqR {α : Type} [DecidableEq α] (A : Around) (s : Shared) (R : α → Value → Prop) : Prop where
  eq : ∀ a b v u, R a v → R b u → SeqAt.EqAt A s v u (decide (a = b))
  inj : ∀ a b v, R a v → R b v → a = b
noncomputable def RStr (x : Str) (v : Value) : Prop := ∃ t, v = Value.str x t
noncomputable def RTup {α : Type} (s : Shared) (R : α → Value → Prop) (xs : List α) (v : Value) : Prop := ∃ a its, v = Value.ref a ∧ s.heap.IsTuple a its ∧ Paired R xs its.toList
noncomputable def RSum {α β : Type} (R : α → Value → Prop) (S : β → Value → Prop) : α ⊕ β → Value → Prop
  | .inl a, v => R a v
  | .inr b, v => S b v
theorem eqR_str {A : Around} {s : Shared} : EqR A s RStr := by
  refine ⟨?_, ?_⟩
  · rintro a b _ _ ⟨t, rfl⟩ ⟨u, rfl⟩
    have := SeqAt.EqAt.str_str (A := A) (s := s) a t b u
    rw [show (a == b) = decide (a = b) by by_cases h : a = b <;> simp [h]] at this
    exact this
  · rintro a b _ ⟨t, rfl⟩ ⟨u, e⟩
    cases e
    rfl
theorem paired_inj {α β : Type} {R : α → β → Prop} (h : ∀ a b v, R a v → R b v → a = b) : ∀ {xs ys : List α} {vs : List β}, Paired R xs vs → Paired R ys vs → xs = ys
  | _, _, _, .nil, .nil => rfl
  | _, _, _, .cons a t, .cons b u => by rw [h _ _ _ a b, paired_inj h t u]
theorem paired_get_l {α β : Type} {R : α → β → Prop} : ∀ {xs : List α} {vs : List β}, Paired R xs vs → ∀ j (h : j < vs.length), ∃ a, xs[j]? = some a ∧ R a vs[j]
  | _, _, .nil, j, h => absurd h (Nat.not_lt_zero _)
  | _, _, .cons a t, 0, h => ⟨_, rfl, a⟩
  | _, _, .cons a t, j + 1, h => paired_get_l t j (Nat.lt_of_succ_lt_succ h)
theorem all_get {α : Type} [DecidableEq α] {xs ys : List α} (h : xs.length = ys.length) : (List.range xs.length).all (fun j => decide (xs[j]? = ys[j]?)) = decide (xs = ys) := by
  by_cases e : xs = ys
  · rw [decide_eq_true e]
    exact List.all_eq_true.mpr fun j _ => decide_eq_true (by rw [e])
  · rw [decide_eq_false e]
    rw [Bool.eq_false_iff]
    intro hall
    refine e (List.ext_getElem? fun j => ?_)
    by_cases hj : j < xs.length
    · exact of_decide_eq_true (List.all_eq_true.mp hall j (List.mem_range.mpr hj))
    · rw [List.getElem?_eq_none (by omega), List.getElem?_eq_none (by omega)]
theorem eqR_tup {α : Type} [DecidableEq α] {A : Around} {s : Shared} {R : α → Value → Prop} (h : EqR A.in1 s R) (hu : A.units < cLine) : EqR A s (RTup s R) := by
  have inj : ∀ a b v, RTup s R a v → RTup s R b v → a = b := by
    rintro xs ys _ ⟨a, its, rfl, ⟨o, h1, h2, n, h3⟩, p⟩ ⟨b, its2, e, ⟨o', h1', h2', n', h3'⟩, p'⟩
    cases e
    rw [h1] at h1'
    cases h1'
    rw [h3] at h3'
    cases h3'
    exact paired_inj h.inj p p'
  refine ⟨?_, inj⟩
  rintro xs ys v u hx hy
  have hx' := hx
  have hy' := hy
  obtain ⟨a, its, rfl, ht, p⟩ := hx
  obtain ⟨b, its2, rfl, ht2, p2⟩ := hy
  by_cases hab : a = b
  · subst hab
    rw [decide_eq_true (inj _ _ _ hx' hy')]
    exact SeqAt.EqAt.same _
  have l1 : xs.length = its.size := Paired.length p
  have l2 : ys.length = its2.size := Paired.length p2
  have := SeqAt.RcAt.tuples (A := A) (e := fun j => decide (xs[j]? = ys[j]?)) ht ht2 hu (fun j h1 h2 => by
    obtain ⟨x, ex, rx⟩ := paired_get_l p j (by simpa using h1)
    obtain ⟨y, ey, ry⟩ := paired_get_l p2 j (by simpa using h2)
    have := h.eq x y _ _ rx ry
    rw [ex, ey, show decide (some x = some y) = decide (x = y) by by_cases e : x = y <;> simp [e]]
    simpa using this)
  rw [show ((List.range (min its.size its2.size)).all (fun j => decide (xs[j]? = ys[j]?)) && its.size == its2.size) = decide (xs = ys) by
    by_cases e : its.size = its2.size
    · rw [e, Nat.min_self, ← l2, ← all_get (by omega), l1, e, ← l2]
      simp
    · rw [show (its.size == its2.size) = false by simp [e], Bool.and_false, decide_eq_false (fun z => e (by rw [← l1, ← l2, z]))]] at this
  exact SeqAt.EqAt.of_refs hab this
theorem rc_list {α : Type} [DecidableEq α] {A : Around} {s : Shared} {R : α → Value → Prop} (h : EqR A.in1 s R) (hu : A.units < cLine) {a b : Addr} {its its2 : Array Value} {xs ys : List α} (ht : s.heap.IsList a its) (ht2 : s.heap.IsList b its2) (p : Paired R xs its.toList) (p2 : Paired R ys its2.toList) :
    SeqAt.RcAt A s (.ref a) (.ref b) (decide (xs = ys)) := by
  have l1 : xs.length = its.size := Paired.length p
  have l2 : ys.length = its2.size := Paired.length p2
  by_cases e : its.size = its2.size
  · have := SeqAt.RcAt.lists (A := A) (e := fun j => decide (xs[j]? = ys[j]?)) ht ht2 e hu (fun j h1 h2 => by
      obtain ⟨x, ex, rx⟩ := paired_get_l p j (by simpa using h1)
      obtain ⟨y, ey, ry⟩ := paired_get_l p2 j (by simpa using h2)
      have := h.eq x y _ _ rx ry
      rw [ex, ey, show decide (some x = some y) = decide (x = y) by by_cases e : x = y <;> simp [e]]
      simpa using this)
    rw [← l1, all_get (by omega)] at this
    exact this
  · rw [decide_eq_false (fun z => e (by rw [← l1, ← l2, z]))]
    exact SeqAt.RcAt.lists_lengths ht ht2 (by simpa using e) hu
theorem eq_list {α : Type} [DecidableEq α] {A : Around} {s : Shared} {R : α → Value → Prop} (h : EqR A.in1 s R) (hu : A.units < cLine) {a b : Addr} {its its2 : Array Value} {xs ys : List α} (ht : s.heap.IsList a its) (ht2 : s.heap.IsList b its2) (p : Paired R xs its.toList) (p2 : Paired R ys its2.toList) :
    SeqAt.EqAt A s (.ref a) (.ref b) (decide (xs = ys)) := by
  by_cases hab : a = b
  · subst hab
    obtain ⟨o, h1, h2, n, h3⟩ := ht
    obtain ⟨o', h1', h2', n', h3'⟩ := ht2
    rw [h1] at h1'
    cases h1'
    rw [h3] at h3'
    cases h3'
    rw [decide_eq_true (paired_inj h.inj p p2)]
    exact SeqAt.EqAt.same _
  · exact SeqAt.EqAt.of_refs hab (rc_list h hu ht ht2 p p2)
theorem eqR_strTup {α : Type} [DecidableEq α] {A : Around} {s : Shared} {R : α → Value → Prop} (h : EqR A s (RTup s R)) (hu : A.units < cLine) : EqR A s (RSum RStr (RTup s R)) := by
  refine ⟨?_, ?_⟩
  · rintro (a | a) (b | b) v u h1 h2
    · rw [show decide ((Sum.inl a : Str ⊕ List α) = .inl b) = decide (a = b) by by_cases e : a = b <;> simp [e]]
      exact eqR_str.eq a b v u h1 h2
    · obtain ⟨t, rfl⟩ := h1
      obtain ⟨c, its, rfl, ht, _⟩ := h2
      rw [decide_eq_false (by simp)]
      exact SeqAt.EqAt.str_tuple _ _ ht hu
    · obtain ⟨t, rfl⟩ := h2
      obtain ⟨c, its, rfl, ht, _⟩ := h1
      rw [decide_eq_false (by simp)]
      exact SeqAt.EqAt.tuple_str _ _ ht hu
    · rw [show decide ((Sum.inr a : Str ⊕ List α) = .inr b) = decide (a = b) by by_cases e : a = b <;> simp [e]]
      exact h.eq a b v u h1 h2
  · rintro (a | a) (b | b) v h1 h2
    · rw [(eqR_str (A := A) (s := s)).inj a b v h1 h2]
    · obtain ⟨t, rfl⟩ := h1
      obtain ⟨c, its, e, _⟩ := h2
      cases e
    · obtain ⟨t, rfl⟩ := h2
      obtain ⟨c, its, e, _⟩ := h1
      cases e
    · rw [h.inj a b v h1 h2]
noncomputable abbrev Tri := List (Str ⊕ List Str)
noncomputable abbrev RTri (s : Shared) : Tri → Value → Prop := RTup s (RSum RStr (RTup s RStr))
theorem eqR_tri {A : Around} {s : Shared} (hu : A.units + 2 < cLine) : EqR A s (RTri s) :=
  eqR_tup (eqR_strTup (eqR_tup eqR_str (by show A.units + 1 < cLine; omega)) (by show A.units + 1 < cLine; omega)) (by omega)
noncomputable def PrAt (H : Hp) : Str ⊕ List Str → V → Prop
  | .inl x, v => v = .str x
  | .inr ps, v => ∃ a, v = .ref a ∧ H a = some (.tup (ps.map V.str))
noncomputable def TriAt (H : Hp) (t : Tri) (v : V) : Prop := ∃ a xs, v = .ref a ∧ H a = some (.tup xs) ∧ Paired (PrAt H) t xs
noncomputable def MixAt (H : Hp) : Str ⊕ Tri → V → Prop
  | .inl x, v => v = .str x
  | .inr t, v => TriAt H t v
section
variable {X : Cx} {pins : List (Addr × Obj)} {σ : St} {H : Hp} {s : Shared}
theorem strR_of : ∀ {xs : List Str} {us : List Value}, Vals (xs.map V.str) us → Paired RStr xs us
  | [], _, h => by cases h; exact .nil
  | x :: r, _, h => by
    cases h with
    | cons a t => exact .cons a (strR_of t)
theorem pr_of (I : Inv X pins σ H s) {t : Str ⊕ List Str} {v : V} {u : Value} (h : PrAt H t v) (r : RelV v u) : RSum RStr (RTup s RStr) t u := by
  cases t with
  | inl x => cases (show v = .str x from h); exact r
  | inr ps =>
    obtain ⟨a, rfl, ha⟩ := h
    cases (show u = Value.ref a from r)
    obtain ⟨its, rv, p, _⟩ := I.seqS (c := true) ha
    exact ⟨a, its.toArray, rfl, p, by simpa using strR_of rv⟩
theorem paired_of {α : Type} {F : α → V → Prop} {R : α → Value → Prop} (h : ∀ a v u, F a v → RelV v u → R a u) : ∀ {xs : List α} {vs : List V} {us : List Value}, Paired F xs vs → Vals vs us → Paired R xs us
  | _, _, _, .nil, r => by cases r; exact .nil
  | _, _, _, .cons a t, r => by
    cases r with
    | cons b u => exact .cons (h _ _ _ a b) (paired_of h t u)
theorem tri_of (I : Inv X pins σ H s) {t : Tri} {v : V} {u : Value} (h : TriAt H t v) (r : RelV v u) : RTri s t u := by
  obtain ⟨a, xs, rfl, ha, hp⟩ := h
  cases (show u = Value.ref a from r)
  obtain ⟨its, rv, p, _⟩ := I.seqS (c := true) ha
  exact ⟨a, its.toArray, rfl, p, by simpa using paired_of (F := PrAt H) (R := RSum RStr (RTup s RStr)) (fun a v u h1 h2 => pr_of I h1 h2) hp rv⟩
theorem mix_of (I : Inv X pins σ H s) {t : Str ⊕ Tri} {v : V} {u : Value} (h : MixAt H t v) (r : RelV v u) : RSum RStr (RTri s) t u := by
  cases t with
  | inl x => cases (show v = .str x from h); exact r
  | inr t => exact tri_of I h r
end
noncomputable def rEqMix : R2 := fun x y H Q => ∃ a b xs ys ts us, x = .ref a ∧ y = .ref b ∧ H a = some (.lst xs) ∧ H b = some (.lst ys) ∧ Paired (MixAt H) ts xs ∧ Paired (MixAt H) us ys ∧ Q (.bl (decide (ts = us))) H
theorem op_eqMix {X : Cx} (hu : X.A.units + 16 < cLine) : OpR X (compareOp .Eq) rEqMix := by
  intro pins s σ H x y v u Q I rx ry h
  obtain ⟨a, b, xs, ys, ts, us, rfl, rfl, ha, hb, h1, h2, q⟩ := h
  cases rx
  cases ry
  obtain ⟨its, r, p, _⟩ := I.seqS (c := false) ha
  obtain ⟨its2, r2, p2, _⟩ := I.seqS (c := false) hb
  have e3 : EqR X.A.in1 s (RSum RStr (RTri s)) := eqR_strTup (eqR_tri (by show X.A.units + 1 + 2 < cLine; omega)) (by show X.A.units + 1 < cLine; omega)
  have := rc_list e3 (by omega) p p2 (by simpa using paired_of (F := MixAt H) (R := RSum RStr (RTri s)) (fun a v u h1 h2 => mix_of I h1 h2) h1 r) (by simpa using paired_of (F := MixAt H) (R := RSum RStr (RTri s)) (fun a v u h1 h2 => mix_of I h1 h2) h2 r2)
  exact this X.prog X.w X.xe _ ⟨.bl _, H, I, rfl, q⟩
noncomputable def BdAt (H : Hp) (p : Addr) (ns : List Str) (ts : List Tri) : Prop := ∃ l1 l2 zs, H p = some (.tup [.ref l1, .ref l2]) ∧ H l1 = some (.lst (ns.map V.str)) ∧ H l2 = some (.lst zs) ∧ Paired (TriAt H) ts zs
noncomputable def rEqBd : R2 := fun x y H Q => ∃ a b ns ms ts us, x = .ref a ∧ y = .ref b ∧ BdAt H a ns ts ∧ BdAt H b ms us ∧ Q (.bl (decide (ns = ms) && decide (ts = us))) H
theorem op_eqBd {X : Cx} (hu : X.A.units + 16 < cLine) : OpR X (compareOp .Eq) rEqBd := by
  intro pins s σ H x y v u Q I rx ry h
  obtain ⟨a, b, ns, ms, ts, us, rfl, rfl, ⟨l1, l2, zs, ha, h1, h2, h3⟩, ⟨m1, m2, ys, hb, g1, g2, g3⟩, q⟩ := h
  cases rx
  cases ry
  obtain ⟨its, r, p, _⟩ := I.seqS (c := true) ha
  obtain ⟨its2, r2, p2, _⟩ := I.seqS (c := true) hb
  obtain ⟨i1, q1, pl1, _⟩ := I.seqS (c := false) h1
  obtain ⟨i2, q2, pl2, _⟩ := I.seqS (c := false) h2
  obtain ⟨j1, k1, pm1, _⟩ := I.seqS (c := false) g1
  obtain ⟨j2, k2, pm2, _⟩ := I.seqS (c := false) g2
  obtain ⟨u1, u2, rfl, e1, e2⟩ := vals2 r
  obtain ⟨w1, w2, rfl, f1, f2⟩ := vals2 r2
  cases (show u1 = Value.ref l1 from e1)
  cases (show u2 = Value.ref l2 from e2)
  cases (show w1 = Value.ref m1 from f1)
  cases (show w2 = Value.ref m2 from f2)
  have E1 := eq_list (A := X.A.in1) (s := s) eqR_str (by show X.A.units + 1 < cLine; omega) pl1 pm1 (xs := ns) (ys := ms) (by simpa using strR_of q1) (by simpa using strR_of k1)
  have E2 := eq_list (A := X.A.in1) (s := s) (R := RTri s) (eqR_tri (by show X.A.units + 1 + 1 + 2 < cLine; omega)) (by show X.A.units + 1 < cLine; omega) pl2 pm2 (by simpa using paired_of (F := TriAt H) (R := RTri s) (fun a v u h1 h2 => tri_of I h1 h2) h3 q2) (by simpa using paired_of (F := TriAt H) (R := RTri s) (fun a v u h1 h2 => tri_of I h1 h2) g3 k2)
  have := SeqAt.RcAt.tuples (A := X.A) (e := fun j => if j = 0 then decide (ns = ms) else decide (ts = us)) p p2 (by omega) (fun j h1 h2 => by
    have hj : j = 0 ∨ j = 1 := by
      have : j < 2 := h1
      omega
    rcases hj with rfl | rfl
    · exact E1
    · exact E2)
  exact this X.prog X.w X.xe _ ⟨.bl _, H, I, (by show Value.bool ((decide (ns = ms) && (decide (ts = us) && true)) && true) = Value.bool (decide (ns = ms) && decide (ts = us)); rw [Bool.and_true, Bool.and_true]), q⟩
end L2
namespace L2
open PySem PySem.Spec PyProof.Rows
section
variable {X : Cx}
theorem call_maxL (hc : X.calm = true) : CallR X (.builtin "max") (fun xs H Q => ∃ (p : Addr) (ns : List Int), xs = [.ref p] ∧ SqL X.K H p (ns.map V.int) ∧ 0 < ns.length ∧ ∀ M, M ∈ ns → (∀ a ∈ ns, a ≤ M) → Q (.int M) H) := by
  intro pins s σ H xs us Q I r h
  obtain ⟨p, ns, rfl, hq, hne, q⟩ := h
  obtain ⟨u, rfl, ru⟩ := vals1 r
  cases ru
  obtain ⟨its, rv, pl, hz⟩ := I.list hq
  have hl := pl.isList
  have hlt : p < s.heap.objs.size := by obtain ⟨_, e, _⟩ := hl; exact Heap.lt_size e
  have hn : its.toArray.size = ns.length := by have := rv.length; rw [List.length_map] at this; rw [List.size_toArray]; omega
  refine call_max_walk (wpAny_pyIter_list hl ?_)
  have hval : ∀ (i : Nat) (v : Value), its.toArray[i]? = some v → ∃ t, v = Value.int (ns.getD i 0) t := fun i v hP => by
    have hv : its[i]? = some v := by simpa using hP
    have hi : i < ns.length := by
      have := (List.getElem?_eq_some_iff.mp hv).1
      have := rv.length
      rw [List.length_map] at this
      omega
    have hb : (ns.map V.int)[i]? = some (V.int ns[i]) := by rw [List.getElem?_map, List.getElem?_eq_getElem hi]; rfl
    obtain ⟨u, eu, ru⟩ := rv.get hb
    rw [hv] at eu
    cases eu
    obtain ⟨t, e⟩ := (show ∃ t, v = Value.int ns[i] t from ru)
    refine ⟨t, ?_⟩
    rw [e, List.getD_eq_getElem?_getD, List.getElem?_eq_getElem hi]
    rfl
  refine ⟨s.heap.objs.size, [s.heap.objs.size, p], [s.heap.objs.size], its.toArray.size, _, _, fun i j => decide (ns.getD i 0 > ns.getD j 0), rfl, Walks.list (A := X.A.in1) (I.ok.hd hc) _ p (Nat.ne_of_lt hlt) its.toArray,
    ⟨⟨_, Heap.get?_push_size _ rfl, rfl, rfl⟩, hl.push _⟩, fun b hb => ?_, by rw [hn]; exact hne, CmpOf.ints_gt (fun i => ns.getD i 0) hval, fun v h' tk hP hk => ?_⟩
  · simp only [List.mem_cons, List.not_mem_nil, or_false] at hb
    rw [size_push']
    rcases hb with rfl | rfl
    · exact Nat.lt_succ_self _
    · exact Nat.lt_succ_of_lt hlt
  · obtain ⟨a1, a2⟩ := argBest_gt (fun i => ns.getD i 0) (its.toArray.size - 1)
    obtain ⟨t, rfl⟩ := hval _ _ hP
    rw [hn] at a1 a2
    refine ⟨.int _, H, I.kept (t' := tk) fun b x e => ?_, ⟨t, rfl⟩, ?_⟩
    · exact hk b x (fun hm => by rw [List.mem_singleton.mp hm] at e; exact Nat.lt_irrefl _ (Heap.lt_size e)) (Heap.get?_push_of_some _ e)
    · rw [hn]
      refine q _ ?_ fun a ha => ?_
      · have hi : argBest (fun i j => decide (ns.getD i 0 > ns.getD j 0)) (ns.length - 1) < ns.length := by omega
        show ns.getD _ 0 ∈ ns
        rw [List.getD_eq_getElem?_getD, List.getElem?_eq_getElem hi]
        exact List.getElem_mem _
      · obtain ⟨j, hj⟩ := List.getElem?_of_mem ha
        have hjl := (List.getElem?_eq_some_iff.mp hj).1
        have := a2 j (by omega)
        rw [show ns.getD j 0 = a by rw [List.getD_eq_getElem?_getD, hj]; rfl] at this
        exact this
end
end L2
namespace L2
open PySem PySem.Spec PyProof.Rows
section
variable {X : Cx} {x x2 x3 : Str} {px px2 px3 tpos pos fpos : Pos} {kk : Nat} {iter elt : Expr} {scope sc0 : Scope} {N0 ys : List Str} {fr : List Nat} {wi : TI} {te : TE}
theorem ps_setC3 {i : Nat} {y : Str} {py spos : Pos} (hcalm : X.calm = true) (hnd : X.N.Nodup) (hiN : X.N[i]? = some y) (hy : Loc X.env.scope y) (hi : PI X (.Tuple [.Name x px, .Name x2 px2, .Name x3 px3] kk tpos) iter wi) (hsc : X.env.scope = sc0) (hN : X.N = N0) (ok : CompOk3 sc0 N0 scope x x2 x3 ys fr)
    (hE : ∀ C s H ex, PE (cxComp3 X x x2 x3 ys scope C s H ex) elt te) (hsw : swapsWith (.ListComp elt [⟨.Tuple [.Name x px, .Name x2 px2, .Name x3 px3] kk tpos, iter, [], 0⟩] scope pos) (some (.Name y py)) spos.line X.env = pure true := by rfl)
    (hs : ∀ v, foldedSetIterable iter X.env v = pure v := by intro _; rfl) (hf : X.fn y = true ∨ X.env.scope.names.lookup y = some .local := by first | exact .inl rfl | exact .inr rfl | assumption) :
    PS X (.Assign [.Name y py] (.ListComp elt [⟨.Tuple [.Name x px, .Name x2 px2, .Name x3 px3] kk tpos, iter, [], 0⟩] scope pos) spos) (tAsg (tComp3 wi fr te) (gName i)) := by
  intro pins s σ H D I h
  rw [exec_Assign_Name_used _ _ _ _ hsw]
  refine wpAny_bind (wpAny_standAt (wpAny_bind ?_))
  show wpAny _ X.A (do let _ ← comprehension (.ListComp elt [⟨.Tuple [.Name x px, .Name x2 px2, .Name x3 px3] kk tpos, iter, [], 0⟩] scope pos) scope X.env _ (newList []) false (eval iter X.env) (some (assign (.Name y py) X.env))) _ _ s
  refine wpAny_bind (thn (comp_core3 (use := some (assign (.Name y py) X.env)) (Qv := fun _ s' => SP X pins D .next s') (Q := fun v H' => D.nx (σ.set i (some v)) H') hcalm hi hsc hN ok hE I h hs fun p C H' s' m I' hn h0 h1 h2 h3 h4 q => ?_) fun _ s' hq => wpAny_pure (wpAny_pure hq))
  show wpAny _ X.A (assign (.Name y py) X.env (.ref p)) _ _ s'
  refine wpAny_assign_Name (store_ok2 (v := .ref p) I' hnd hiN hy rfl (fun s'' I'' ⟨a, sb, ha⟩ => ?_) hf)
  have hCa : C ≠ a := by
    rcases ha with e | e
    · rw [e]; exact h1
    · exact (h3 y a e).symm
  refine ⟨m, hn.sameBut sb hCa, fun h' sb' => ⟨_, H', I''.turned (t' := s''.toks) (fun b o hb e => sb'.extBut b o hb e) h0 h1 (.inr h2) h3 h4, q⟩⟩
end
end L2
namespace My
open PySem L2
noncomputable def lett (c : Nat) : Bool := decide (97 ≤ c ∧ c ≤ 122)
noncomputable def wordB (x : Str) : Bool := decide (1 ≤ x.length) && decide (x.length ≤ 8) && x.cps.toList.all lett
noncomputable def ops : List Str := ["plus", "less", "times", "least", "most"]
inductive Fm where
  | num (n : Int)
  | own (x : Str)
  | part (k : Int) (x : Str)
  | bin (op : Str) (a b : Fm)
  | whn (a b c : Fm)
noncomputable def Fm.size : Fm → Nat
  | .num _ => 1
  | .own _ => 1
  | .part _ _ => 1
  | .bin _ a b => a.size + b.size + 1
  | .whn a b c => a.size + b.size + c.size + 1
noncomputable def Fm.wf : Fm → Prop
  | .num n => -999999 ≤ n ∧ n ≤ 999999
  | .own x => wordB x = true
  | .part k x => (0 ≤ k ∧ k ≤ 2) ∧ wordB x = true
  | .bin op a b => op ∈ ops ∧ a.wf ∧ b.wf
  | .whn a b c => a.wf ∧ b.wf ∧ c.wf
theorem Fm.size_pos : ∀ f : Fm, 1 ≤ f.size
  | .num _ => Nat.le_refl 1
  | .own _ => Nat.le_refl 1
  | .part _ _ => Nat.le_refl 1
  | .bin _ a b => by show 1 ≤ a.size + b.size + 1; omega
  | .whn a b c => by show 1 ≤ a.size + b.size + c.size + 1; omega
noncomputable def Rep (H : Hp) : Fm → V → Prop
  | .num n, v => ∃ a, v = .ref a ∧ H a = some (.tup [.str "num", .int n])
  | .own x, v => ∃ a, v = .ref a ∧ H a = some (.tup [.str "own", .str x])
  | .part k x, v => ∃ a, v = .ref a ∧ H a = some (.tup [.str "part", .int k, .str x])
  | .bin op A B, v => ∃ a u w, v = .ref a ∧ H a = some (.tup [.str op, u, w]) ∧ Rep H A u ∧ Rep H B w
  | .whn A B C, v => ∃ a u w z, v = .ref a ∧ H a = some (.tup [.str "when", u, w, z]) ∧ Rep H A u ∧ Rep H B w ∧ Rep H C z
noncomputable def TK (H H' : Hp) : Prop := ∀ a xs, H a = some (.tup xs) → H' a = some (.tup xs)
theorem TK.trans {H H1 H2 : Hp} (a : TK H H1) (b : TK H1 H2) : TK H H2 := fun c o h => b c o (a c o h)
theorem TK.upd {H : Hp} {p : Addr} {o : HO} (h : ∀ xs, H p ≠ some (.tup xs)) : TK H (upd H p o) := fun a xs e => by
  by_cases q : a = p
  · subst q
    exact absurd e (h xs)
  · rw [upd_ne q]
    exact e
theorem TK.lst {H : Hp} {p : Addr} {o : HO} {ys : List V} (h : H p = some (.lst ys)) : TK H (L2.upd H p o) := TK.upd fun xs e => by rw [h] at e; cases e
theorem TK.new {H : Hp} {p : Addr} {o : HO} (h : H p = none) : TK H (L2.upd H p o) := TK.upd fun xs e => by rw [h] at e; cases e
theorem Rep.mono {H H' : Hp} (t : TK H H') : ∀ {f : Fm} {v : V}, Rep H f v → Rep H' f v
  | .num _, _, ⟨a, e, h⟩ => ⟨a, e, t _ _ h⟩
  | .own _, _, ⟨a, e, h⟩ => ⟨a, e, t _ _ h⟩
  | .part _ _, _, ⟨a, e, h⟩ => ⟨a, e, t _ _ h⟩
  | .bin _ _ _, _, ⟨a, u, w, e, h, r1, r2⟩ => ⟨a, u, w, e, t _ _ h, Rep.mono t r1, Rep.mono t r2⟩
  | .whn _ _ _, _, ⟨a, u, w, z, e, h, r1, r2, r3⟩ => ⟨a, u, w, z, e, t _ _ h, Rep.mono t r1, Rep.mono t r2, Rep.mono t r3⟩
noncomputable def isV (T : String) (H : Hp) (v : V) : Bool := match v with
  | .bl _ => T == "bool" || T == "int"
  | .int _ => T == "int"
  | .str _ => T == "str"
  | .ref a => (match H a with | some (.lst _) => T == "list" | some (.tup _) => T == "tuple" | some (.dK _) => T == "dict" | _ => false)
  | _ => false
noncomputable def Sh (H : Hp) : V → Prop
  | .non => True
  | .bl _ => True
  | .int _ => True
  | .str x => x.length ≤ 1000
  | .ref a => (∃ xs, H a = some (.lst xs)) ∨ (∃ xs, H a = some (.tup xs)) ∨ ∃ kvs, H a = some (.dK kvs)
  | _ => False
section
variable {X : Cx}
theorem kit_all (K : PySem.W.Frag) (t T : String) (ht : t ∈ ["NoneType", "bool", "int", "str", "list", "tuple", "dict"]) (hT : T ∈ ["bool", "int", "str", "list", "tuple", "dict"]) :
    PySem.W.kitOne K (.type t) (.type T) = some (t == T || (t == "bool" && T == "int")) := by
  simp only [List.mem_cons, List.not_mem_nil, or_false] at ht hT
  rcases ht with rfl | rfl | rfl | rfl | rfl | rfl | rfl <;> rcases hT with rfl | rfl | rfl | rfl | rfl | rfl <;> first | rfl | (with_unfolding_all rfl) | (with_unfolding_all decide)
theorem call_isV : CallR X (.builtin "isinstance") (fun xs H Q => ∃ x T, xs = [x, .ty T] ∧ Sh H x ∧ T ∈ ["bool", "int", "str", "list", "tuple", "dict"] ∧ Q (.bl (isV T H x)) H) := by
  intro pins s σ H xs us Q I r h
  obtain ⟨x, T, rfl, hs, hT, q⟩ := h
  have go : ∀ t, TyOf X.K H x (.type t) → t ∈ ["NoneType", "bool", "int", "str", "list", "tuple", "dict"] → isV T H x = (t == T || (t == "bool" && T == "int")) → wpAny (model X.prog X.w) X.A (call (.builtin "isinstance") us) (EP X pins σ Q) X.xe s := by
    intro t ty ht e
    refine call_isi pins s σ H _ us Q I r ⟨x, T, .type t, _, rfl, ty, kit_all X.K t T ht hT, ?_⟩
    rw [← e]
    exact q
  have hTT := hT
  simp only [List.mem_cons, List.not_mem_nil, or_false] at hTT
  cases x with
  | non => exact go _ .non (by simp) (by rcases hTT with rfl | rfl | rfl | rfl | rfl | rfl <;> rfl)
  | bl b => exact go _ (.bl b) (by simp) (by rcases hTT with rfl | rfl | rfl | rfl | rfl | rfl <;> rfl)
  | int i => exact go _ (.int i) (by simp) (by rcases hTT with rfl | rfl | rfl | rfl | rfl | rfl <;> rfl)
  | str z => exact go _ (.str z) (by simp) (by rcases hTT with rfl | rfl | rfl | rfl | rfl | rfl <;> rfl)
  | ref a =>
    rcases hs with ⟨ys, e⟩ | ⟨ys, e⟩ | ⟨ys, e⟩
    · exact go _ (.lst e) (by simp) (by simp only [isV, e]; rcases hTT with rfl | rfl | rfl | rfl | rfl | rfl <;> rfl)
    · exact go _ (.tup e) (by simp) (by simp only [isV, e]; rcases hTT with rfl | rfl | rfl | rfl | rfl | rfl <;> rfl)
    · exact go _ (.dK e) (by simp) (by simp only [isV, e]; rcases hTT with rfl | rfl | rfl | rfl | rfl | rfl <;> rfl)
  | byt _ => exact hs.elim
  | flt _ => exact hs.elim
  | ty _ => exact hs.elim
end
end My
namespace My
open PySem L2
noncomputable def top (i : Nat) : Stmt := PySem.Challenge.pw_boughworth_k60_plain_books_and_builds.main.body.getD i (.Pass ⟨0, 0, 0, 0⟩)
noncomputable abbrev sInner : Stmt := top 2
noncomputable abbrev sTuples : Stmt := top 3
noncomputable abbrev sWheelOf : Stmt := top 5
noncomputable abbrev sSortsOf : Stmt := top 6
noncomputable abbrev sFormsOf : Stmt := top 7
noncomputable abbrev sRulesOf : Stmt := top 8
noncomputable abbrev sByKey : Stmt := top 9
noncomputable abbrev sPlain : Stmt := top 12
noncomputable abbrev sPlainForm : Stmt := top 13
noncomputable abbrev sPlainF : Stmt := top 14
noncomputable abbrev sOneBuild : Stmt := top 15
noncomputable abbrev sBuildOf : Stmt := top 16
noncomputable abbrev sCell : Stmt := top 18
noncomputable abbrev sTape : Stmt := top 19
noncomputable abbrev sDigit : Stmt := top 20
noncomputable abbrev sNames : Stmt := top 21
noncomputable abbrev sNumber : Stmt := top 22
noncomputable abbrev sLeaf : Stmt := top 23
noncomputable abbrev sSame : Stmt := top 25
noncomputable abbrev sLSize : Stmt := top 26
noncomputable abbrev sLvFormula : Stmt := top 27
noncomputable abbrev sLvSorts : Stmt := top 28
noncomputable abbrev sLvBook : Stmt := top 29
noncomputable abbrev sLBuild : Stmt := top 30
noncomputable abbrev sPlainOf : Stmt := top 31
noncomputable abbrev sTurnedF : Stmt := top 32
noncomputable abbrev sOtherwise : Stmt := top 33
noncomputable abbrev sOneMore : Stmt := top 34
noncomputable abbrev sLLeast : Stmt := top 35
noncomputable abbrev sMayBe : Stmt := top 36
noncomputable abbrev sLBooks : Stmt := top 37
noncomputable abbrev sPlainDue : Stmt := top 38
noncomputable abbrev sBuildDue : Stmt := top 39
noncomputable abbrev sOthers : Stmt := top 40
noncomputable abbrev sLawP : Stmt := top 41
end My
namespace My
open PySem L2
structure Gb (mg : Str → Option Value) : Prop where
  isi : mg "isinstance" = none
  int : mg "int" = none
  bool : mg "bool" = none
  str : mg "str" = none
  tuple : mg "tuple" = none
  len : mg "len" = none
  all : mg "all" = none
  range : mg "range" = none
  max : mg "max" = none
  min : mg "min" = none
theorem qb {Q : VK} {b b' : Bool} {H : Hp} (q : Q (.bl b) H) (e : b = b') : Q (.bl b') H := e ▸ q
theorem same_new {H : Hp} {p : Addr} (h : H p = none) (o : HO) : Same H (upd H p o) := fun b u q => by rw [upd_ne (ne_of_none q h)]; exact q
section
variable {P : Program} {w : World} {K : PySem.W.Frag} {mg : Str → Option Value} {base : Heap} {f g f2 : Addr} {fd gd fd2 : FuncData}
end
end My
namespace My
open PySem L2
noncomputable def inner (k : Str) : Option Nat := if k ∈ ops then some 2 else if k = "when" then some 3 else none
noncomputable def innerOf : List V → List V
  | .str k :: r => if (inner k).isSome then r else []
  | _ => []
noncomputable def icKvs : List (Key × V) := [(.inr "plus", .int 2), (.inr "less", .int 2), (.inr "times", .int 2), (.inr "least", .int 2), (.inr "most", .int 2), (.inr "when", .int 3)]
theorem ic_val (k : Str) : valV icKvs (.inr k) = (inner k).map fun (n : Nat) => V.int n := by
  unfold inner ops icKvs
  by_cases h1 : k = "plus"
  · subst h1; decide +kernel
  by_cases h2 : k = "less"
  · subst h2; decide +kernel
  by_cases h3 : k = "times"
  · subst h3; decide +kernel
  by_cases h4 : k = "least"
  · subst h4; decide +kernel
  by_cases h5 : k = "most"
  · subst h5; decide +kernel
  by_cases h6 : k = "when"
  · subst h6; decide +kernel
  have ne : ∀ {y : Str}, ¬ k = y → ¬ (Sum.inr y : Key) = Sum.inr k := fun h e => h (Sum.inr.inj e).symm
  rw [valV_neg (ne h1), valV_neg (ne h2), valV_neg (ne h3), valV_neg (ne h4), valV_neg (ne h5), valV_neg (ne h6), valV_nil, if_neg, if_neg h6]
  · rfl
  · simp only [List.mem_cons, List.not_mem_nil, or_false, not_or]
    exact ⟨h1, h2, h3, h4, h5⟩
theorem atI0 {α : Type} {x : α} {r : List α} : atI (x :: r) 0 = some x := atI_nat (j := 0) rfl
theorem atI1 {α : Type} {x y : α} {r : List α} : atI (x :: y :: r) 1 = some y := atI_nat (j := 1) rfl
theorem atI2 {α : Type} {x y z : α} {r : List α} : atI (x :: y :: z :: r) 2 = some z := atI_nat (j := 2) rfl
noncomputable def spInner : Sp := fun vs H Q _ => ∃ a k r, vs = [.ref a] ∧ H a = some (.tup (.str k :: r)) ∧ r.length ≤ 1000 ∧ ∀ p H', Same H H' → H' p = some (.tup (innerOf (.str k :: r))) → Q (.ref p) H'
section
variable {P : Program} {w : World} {K : PySem.W.Frag} {mg : Str → Option Value} {base : Heap} {f g f2 aD : Addr} {fd gd fd2 : FuncData}
theorem scInner : FnScope ["formula"] ["formula"] (defScope sInner) := ⟨rfl, rfl, rfl, by decide +kernel, rfl, by decide +kernel, by decide +kernel⟩
theorem ok_inner (F : Fun K "inner_of" "inner_of" sInner f fd) (mD : mg "INNER_COUNTS" = some (.ref aD)) (D : DTab P w K aD icKvs) : FnOk P w K mg base CX0 1 f fd ["formula"] spInner := by
  refine F.ok scInner (fun vs H Q E h => ?_) (fun cdv A outer s H vs Q E hr h => ?_)
  · obtain ⟨a, k, r, rfl, _⟩ := h
    rfl
  obtain ⟨a, k, r, rfl, ha, hl, q⟩ := h
  refine ⟨_, pss_one (ps_ret (pe_ifExp (pt_cmpR op_inD (pe_ix ix_tup (pv 0) pe_int (fun _ _ => rfl)) (pe_glob (v := .ref aD) rfl mD rfl) (by with_unfolding_all rfl)) (pe_slice sl_tup (pv 0) (po_some pe_int) po_none) (pe_tup pa_nil))), ?_⟩
  refine ⟨_, rfl, a, _, 0, _, rfl, rfl, SqT.of ha, atI0, .inr k, aD, icKvs, rfl, rfl, D, _, rfl, ?_⟩
  have hv := ic_val k
  cases hk : inner k with
  | none =>
    rw [hk] at hv
    refine ite2 (fun c => ?_) (fun c => ?_)
    · rw [hv] at c
      exact absurd c (by decide)
    · refine ⟨(by show 0 ≤ sizeLine; decide), fun p hp => ?_⟩
      refine q p _ (same_new hp _) ?_
      rw [upd_same]
      show some (HO.tup []) = some (HO.tup (if (inner k).isSome = true then r else []))
      rw [hk]
      rfl
  | some n =>
    rw [hk] at hv
    refine ite2 (fun c => ?_) (fun c => ?_)
    · refine ⟨_, rfl, 1, rfl, a, _, rfl, SqT.of ha, ?_, fun p hp => ?_⟩
      · rintro ⟨h1, _⟩
        have : HT.sIx (V.str k :: r).length 0 (some 1) = min 1 (V.str k :: r).length := HT.sIx_nat _ _ 1
        rw [this, List.length_cons] at h1
        omega
      · refine q p _ (same_new hp _) ?_
        rw [upd_same]
        have e1 : HT.sIx (V.str k :: r).length 0 (some 1) = 1 := by
          have : HT.sIx (V.str k :: r).length 0 (some 1) = min 1 (V.str k :: r).length := HT.sIx_nat _ _ 1
          rw [this, List.length_cons]
          omega
        have e2 : cutV (V.str k :: r) (some 1) none = r := by
          unfold cutV
          rw [e1, HT.sIx_none, List.length_cons, List.drop_one, List.tail_cons, Nat.add_sub_cancel, List.take_length]
        show some (HO.tup (cutV (V.str k :: r) (some 1) none)) = some (HO.tup (if (inner k).isSome = true then r else []))
        rw [hk, e2]
        rfl
    · rw [hv] at c
      exact absurd rfl c
end
end My
namespace My
open PySem L2
theorem ops_short {k : Str} (h : k ∈ ops) : k.length ≤ 1000 := by
  unfold ops at h
  simp only [List.mem_cons, List.not_mem_nil, or_false] at h
  rcases h with rfl | rfl | rfl | rfl | rfl <;> decide +kernel
theorem word_short {x : Str} (h : wordB x = true) : x.length ≤ 1000 := by
  unfold wordB at h
  simp only [Bool.and_eq_true, decide_eq_true_eq] at h
  omega
theorem inner_ops {op : Str} (h : op ∈ ops) : inner op = some 2 := by unfold inner; rw [if_pos h]
theorem inner_when : inner "when" = some 3 := by decide +kernel
theorem inner_num : inner "num" = none := by decide +kernel
theorem inner_own : inner "own" = none := by decide +kernel
theorem inner_part : inner "part" = none := by decide +kernel
section
variable {P : Program} {w : World} {K : PySem.W.Frag} {mg : Str → Option Value} {base : Heap} {f g f2 : Addr} {fd gd fd2 : FuncData}
end
end My
namespace My
open PySem L2
inductive Ts (H : Hp) : List V → List V → Prop where
  | nil : Ts H [] []
  | cons {a : Addr} {k : Str} {r vs out : List V} : H a = some (.tup (.str k :: r)) → k.length ≤ 1000 → r.length ≤ 3 → Ts H (innerOf (.str k :: r) ++ vs) out → Ts H (.ref a :: vs) (.ref a :: out)
theorem Ts.len {H : Hp} {ws out : List V} (h : Ts H ws out) : ws.length ≤ out.length := by
  induction h with
  | nil => exact Nat.le_refl _
  | cons _ _ _ _ ih =>
    rw [List.length_append] at ih
    rw [List.length_cons, List.length_cons]
    omega
noncomputable def spTuples : Sp := fun vs H Q _ => ∃ v out, vs = [v] ∧ Ts H [v] out ∧ out.length ≤ 1000 ∧ ∀ p H', Same H H' → H' p = some (.lst out) → Q (.ref p) H'
section
variable {P : Program} {w : World} {K : PySem.W.Frag} {mg : Str → Option Value} {base : Heap} {f g f2 : Addr} {fd gd fd2 : FuncData}
theorem scTuples : FnScope ["formula", "found", "waiting", "one"] ["formula"] (defScope sTuples) := ⟨rfl, rfl, rfl, by decide +kernel, rfl, by decide +kernel, by decide +kernel⟩
theorem ok_tuples (F : Fun K "tuples_of" "tuples_of" sTuples f fd)
    (GI : FnOk P w K mg base CX0 1 f2 fd2 ["formula"] spInner) (bI : Binds K fd2 ["formula"] []) (kI : PySem.W.keepIn K (.ref f2) = true) (mI : mg "inner_of" = some (.ref f2)) :
    FnOk P w K mg base CX0 2 f fd ["formula"] spTuples := by
  refine F.ok scTuples (fun vs H Q E h => ?_) (fun cdv A outer s H vs Q E hr h => ?_)
  · obtain ⟨v, b, rfl, _⟩ := h
    rfl
  obtain ⟨v, out, rfl, hT, hout, q⟩ := h
  refine ⟨_, pss_cons (ps_set (i := 1) scTuples.nd rfl (Or.inl rfl) (pe_lst pa_nil))
    (pss_cons (ps_set (i := 2) scTuples.nd rfl (Or.inl rfl) (pe_lst (pa_cons (pv 0) pa_nil)))
    (pss_cons (ps_while PassesOwn.never (pt_truth (pv 2) (fun _ => rfl))
      (pss_cons (ps_set (i := 3) scTuples.nd rfl (Or.inl rfl) (pe_bm0 PySem.F.plainAttrs_list PySem.F.slot_list_pop PySem.F.type_list_pop mt_pop (pv 2)))
      (pss_cons (ps_expr (pe_bm PySem.F.plainAttrs_list PySem.F.slot_list_append PySem.F.type_list_append mt_append (pv 1) (pa_cons (pv 3) pa_nil)))
      (pss_one (ps_expr (pe_bm PySem.F.plainAttrs_list PySem.F.slot_list_extend PySem.F.type_list_extend mt_extT (pv 2) (pa_cons (pe_backT (pe_call GI hr rfl mI kI bI .nil pass0 (pa_cons (pv 3) pa_nil)) (pe_un un_neg pe_int)) pa_nil)))))))
    (pss_one (ps_ret (pv 1))))), ?_⟩
  refine ⟨(by show 0 ≤ sizeLine; decide), fun p1 h1 => ?_⟩
  refine ⟨_, rfl, (by show 1 ≤ sizeLine; decide), fun p2 h2 => ?_⟩
  dsimp only [tSeq, tAsg, gName, tC]
  have n21 : p1 ≠ p2 := fun e => by
    subst e
    rw [upd_same] at h2
    cases h2
  have h2' : H p2 = none := by rw [upd_ne (Ne.symm n21)] at h2; exact h2
  refine while_by (fun σ H' => ∃ (ws done rest : List V) (o : Option V), σ = [some v, some (.ref p1), some (.ref p2), o] ∧ H' p1 = some (.lst done) ∧ H' p2 = some (.lst ws.reverse) ∧ Same H H' ∧ Ts H ws rest ∧ done ++ rest = out)
    (fun _ H' => match H' p1 with | some (.lst d) => out.length - d.length | _ => 0) ⟨[v], [], out, none, rfl, by rw [upd_ne n21, upd_same], upd_same, (same_new h1 _).trans (same_new h2 _), hT, rfl⟩ ?_ ?_
  · rintro σ H' ⟨ws, done, rest, o, rfl, g1, g2, sm, hW, he⟩
    refine ⟨_, rfl, _, .inl ⟨ws.reverse, SqL.of g2, rfl⟩, ?_⟩
    have hle : done.length + rest.length = out.length := by rw [← he, List.length_append]
    cases hW with
    | nil =>
      refine iteF ?_
      refine ⟨_, rfl, ?_⟩
      rw [List.append_nil] at he
      subst he
      exact q _ _ sm g1
    | @cons a k r vs rest' ha hk hr3 ht =>
      have ne : (!((V.ref a :: vs).reverse).isEmpty) = true := by simp
      refine ite2 (fun _ => ?_) (fun c => absurd ne c)
      rw [List.reverse_cons] at g2
      refine ⟨_, rfl, .inl ⟨rfl, _, SqL.of g2⟩, p2, _, .ref a, rfl, rfl, g2, by simp, ?_⟩
      rw [List.dropLast_concat]
      have l1 : ∀ {c : Addr} {oo : HO}, H c = some oo → c ≠ p1 := fun h => ne_of_none h h1
      have l2 : ∀ {c : Addr} {oo : HO}, H c = some oo → c ≠ p2 := fun h => ne_of_none h h2'
      rw [List.length_cons] at hle
      refine ⟨_, rfl, .inl ⟨rfl, _, SqL.of (show upd H' p2 (.lst vs.reverse) p1 = some (.lst done) by rw [upd_ne n21]; exact g1)⟩, _, rfl, p1, done, .ref a, rfl, rfl, by rw [upd_ne n21]; exact g1, small1000 (by omega), ?_⟩
      have sm1 : Same H (upd (upd H' p2 (.lst vs.reverse)) p1 (.lst (done ++ [.ref a]))) := fun c oo h => by rw [upd_ne (l1 h), upd_ne (l2 h)]; exact sm c oo h
      have k2 : upd (upd H' p2 (.lst vs.reverse)) p1 (.lst (done ++ [.ref a])) p2 = some (.lst vs.reverse) := by rw [upd_ne (Ne.symm n21), upd_same]
      refine ⟨_, rfl, .inl ⟨rfl, _, SqL.of k2⟩, _, rfl, a, k, r, rfl, sm1 _ _ ha, by omega, fun p H3 sm4 hp => ?_⟩
      have k1' : H3 p1 = some (.lst (done ++ [.ref a])) := sm4 _ _ upd_same
      have k2' : H3 p2 = some (.lst vs.reverse) := sm4 _ _ k2
      have hil : (innerOf (.str k :: r)).length ≤ 3 := by
        show (if (inner k).isSome = true then r else []).length ≤ 3
        split
        · exact hr3
        · exact Nat.zero_le _
      refine ⟨_, rfl, p, _, rfl, rfl, SqT.of hp, fun p4 h4 => ?_⟩
      have n41 : p1 ≠ p4 := ne_of_none k1' h4
      have n42 : p2 ≠ p4 := ne_of_none k2' h4
      have hlv := ht.len
      rw [List.length_append] at hlv
      refine ⟨p2, p4, _, _, rfl, rfl, by rw [upd_ne n42]; exact k2', SqT.of upd_same, ?_, ?_⟩
      · rw [List.length_reverse, List.length_reverse]
        exact Nat.le_of_lt (small1000 (by omega))
      · refine ⟨⟨innerOf (.str k :: r) ++ vs, done ++ [.ref a], rest', _, rfl, by rw [upd_ne n21, upd_ne n41]; exact k1', by rw [upd_same, List.reverse_append], fun c oo h => ?_, ht, by rw [List.append_assoc]; exact he⟩, ?_⟩
        · have h3 := sm4 _ _ (sm1 c oo h)
          rw [upd_ne (l2 h), upd_ne (ne_of_none h3 h4)]
          exact h3
        · rw [upd_ne n21, upd_ne n41, k1', g1]
          show out.length - (done ++ [V.ref a]).length < out.length - done.length
          rw [List.length_append, List.length_singleton]
          omega
  · rintro σ H' Q1 Q2 hq ⟨y, e1, k, t, h⟩
    exact ⟨y, e1, k, t, hq _ _ h⟩
end
end My
namespace My
open PySem L2
noncomputable def Kp (tp : Addr) (H H' : Hp) : Prop := ∀ b o, H b = some o → b ≠ tp → H' b = some o
theorem Kp.refl {tp : Addr} {H : Hp} : Kp tp H H := fun _ _ h _ => h
theorem Kp.trans {tp : Addr} {H H1 H2 : Hp} (a : Kp tp H H1) (b : Kp tp H1 H2) : Kp tp H H2 := fun c o h n => b c o (a c o h n) n
theorem Kp.same {tp : Addr} {H H1 H2 : Hp} (a : Kp tp H H1) (b : Same H1 H2) : Kp tp H H2 := fun c o h n => b c o (a c o h n)
theorem Kp.tape {tp : Addr} {H : Hp} {o : HO} : Kp tp H (upd H tp o) := fun b u h n => by rw [upd_ne n]; exact h
theorem Kp.new {tp p : Addr} {H H1 : Hp} {o : HO} (a : Kp tp H H1) (h : H1 p = none) : Kp tp H (upd H1 p o) := a.same (same_new h _)
noncomputable def Tp (H : Hp) (tp : Addr) : Prop := ∃ t : Int, H tp = some (.lst [.int t])
theorem Kp.tk {tp : Addr} {H H' : Hp} (a : Kp tp H H') (t : Tp H tp) : TK H H' := fun b xs h => a b _ h fun e => by
  obtain ⟨t, ht⟩ := t
  subst e
  rw [ht] at h
  cases h
theorem Tp.new {H : Hp} {tp p : Addr} {o : HO} (t : Tp H tp) (h : H p = none) : Tp (upd H p o) tp := by
  obtain ⟨t, ht⟩ := t
  exact ⟨t, by rw [upd_ne (ne_of_none ht h)]; exact ht⟩
noncomputable def spCell (K : PySem.W.Frag) : Sp := fun vs H Q _ => ∃ (a : Addr) (ns : List Int) (k : Int), vs = [.ref a, .int k] ∧ SqL K H a (ns.map V.int) ∧ ns.length ≤ 63 ∧ 0 ≤ k ∧ ∀ c : Int, Q (.int c) H
noncomputable def spTape (K : PySem.W.Frag) : Sp := fun vs H Q _ => ∃ (a : Addr) (ns : List Int) (k : Int), vs = [.ref a, .int k] ∧ SqL K H a (ns.map V.int) ∧ ns.length ≤ 63 ∧ 0 ≤ k ∧ k < 1000 ∧ ∀ p t, H p = none → Q (.ref p) (upd H p (.lst [.int t]))
noncomputable def spDigit : Sp := fun vs H Q _ => ∃ (tp : Addr) (m : Int), vs = [.ref tp, .int m] ∧ Tp H tp ∧ 0 < m ∧ m < 1073741824 ∧ ∀ d t : Int, 0 ≤ d → d < m → Q (.int d) (upd H tp (.lst [.int t]))
noncomputable def spNumber : Sp := fun vs H Q _ => ∃ tp, vs = [.ref tp] ∧ Tp H tp ∧ ∀ (n : Int) H', -999999 ≤ n → n ≤ 999999 → Kp tp H H' → Tp H' tp → Q (.int n) H'
section
variable {P : Program} {w : World} {K : PySem.W.Frag} {mg : Str → Option Value} {base : Heap} {f g f2 f3 : Addr} {fd gd fd2 fd3 : FuncData}
theorem scCell : FnScope ["script", "k"] ["script", "k"] (defScope sCell) := ⟨rfl, rfl, rfl, by decide +kernel, rfl, by decide +kernel, by decide +kernel⟩
theorem ok_cell (F : Fun K "_law_cell_at" "_law_cell_at" sCell f fd) (G : Gb mg) : FnOk P w K mg base CX0 1 f fd ["script", "k"] (spCell K) := by
  refine F.ok scCell (fun vs H Q E h => ?_) (fun cdv A outer s H vs Q E hr h => ?_)
  · obtain ⟨a, ns, k, rfl, _⟩ := h
    rfl
  obtain ⟨a, ns, k, rfl, hS, hl, hk, q⟩ := h
  refine ⟨_, pss_cons (ps_if (pt_cmpR op_lt (pv 1) (pe_callB call_len_seq rfl G.len PySem.boot_len (pa_cons (pv 0) pa_nil)) (nomark _)) (pss_one (ps_ret (pe_ix ix_list (pv 0) (pv 1) (fun _ _ => rfl)))) pss_nil) (pss_one (ps_ret pe_int)), ?_⟩
  refine ⟨_, rfl, _, rfl, a, _, rfl, .inl hS, _, _, rfl, rfl, _, rfl, ?_⟩
  refine ite2 (fun c => ?_) (fun c => ?_)
  · have c' : k < (((ns.map V.int).length : Nat) : Int) := of_decide_eq_true c
    rw [List.length_map] at c'
    have hk' : k.toNat < ns.length := by omega
    have e : atI (ns.map V.int) k = some (V.int ns[k.toNat]) := by
      have ek : k = ((k.toNat : Nat) : Int) := by omega
      have q : atI (ns.map V.int) ((k.toNat : Nat) : Int) = some (V.int ns[k.toNat]) := atI_nat (by rw [List.getElem?_map, List.getElem?_eq_getElem hk'] <;> rfl)
      rw [← ek] at q
      exact q
    exact ⟨_, rfl, _, rfl, a, _, k, _, rfl, rfl, hS, e, q _⟩
  · exact q 0
theorem scTape : FnScope ["script", "k", "cell", "p", "one", "two", "three", "four"] ["script", "k"] (defScope sTape) := ⟨rfl, rfl, rfl, by decide +kernel, rfl, by decide +kernel, by decide +kernel⟩
theorem ok_tape (F : Fun K "_law_tape" "_law_tape" sTape f fd) (GC : FnOk P w K mg base CX0 1 g gd ["script", "k"] (spCell K)) (bC : Binds K gd ["script", "k"] []) (kC : PySem.W.keepIn K (.ref g) = true) (mC : mg "_law_cell_at" = some (.ref g)) :
    FnOk P w K mg base CX0 2 f fd ["script", "k"] (spTape K) := by
  refine F.ok scTape (fun vs H Q E h => ?_) (fun cdv A outer s H vs Q E hr h => ?_)
  · obtain ⟨a, ns, k, rfl, _⟩ := h
    rfl
  obtain ⟨a, ns, k, rfl, hS, hl, hk, hk2, q⟩ := h
  refine ⟨_, pss_cons (ps_set (i := 2) scTape.nd rfl (Or.inl rfl) (pe_call GC hr rfl mC kC bC .nil pass0 (pa_cons (pv 0) (pa_cons (pv 1) pa_nil))))
    (pss_cons (ps_if (pt_cmpR op_eq (pe_op op_mod (pv 2) pe_int) pe_int (nomark _)) (pss_one (ps_ret (pe_lst (pa_cons (pe_op op_fdiv (pv 2) pe_int) pa_nil)))) pss_nil)
    (pss_cons (ps_set (i := 3) scTape.nd rfl (Or.inl rfl) pe_int)
    (pss_cons (ps_set (i := 4) scTape.nd rfl (Or.inl rfl) (pe_op op_mod (pe_op op_add (pe_op op_add (pe_op op_mul (pe_op op_mod (pv 2) (pv 3)) pe_int) (pe_op op_mul pe_int (pv 1))) pe_int) (pv 3)))
    (pss_cons (ps_set (i := 5) scTape.nd rfl (Or.inl rfl) (pe_op op_mod (pe_op op_add (pe_op op_add (pe_op op_mul (pv 4) (pv 4)) (pe_op op_mul pe_int (pv 1))) (pv 4)) (pv 3)))
    (pss_cons (ps_set (i := 6) scTape.nd rfl (Or.inl rfl) (pe_op op_mod (pe_op op_add (pe_op op_mul (pv 5) (pv 5)) (pv 4)) (pv 3)))
    (pss_cons (ps_set (i := 7) scTape.nd rfl (Or.inl rfl) (pe_op op_mod (pe_op op_add (pe_op op_mul (pv 6) (pv 6)) (pv 5)) (pv 3)))
    (pss_one (ps_ret (pe_lst (pa_cons (pe_op op_add (pe_op op_mul (pe_op op_add (pe_op op_mul (pe_op op_add (pe_op op_mul (pv 4) (pv 3)) (pv 5)) (pv 3)) (pv 6)) (pv 3)) (pv 7)) pa_nil)))))))))), ?_⟩
  refine ⟨_, rfl, _, rfl, a, ns, k, rfl, hS, hl, hk, fun c => ?_⟩
  refine ⟨_, rfl, _, _, rfl, rfl, (by show (0 : Int) < 2; decide), rfl, _, rfl, ?_⟩
  refine ite2 (fun _ => ?_) (fun _ => ?_)
  · exact ⟨_, rfl, _, _, rfl, rfl, ⟨by decide, by decide⟩, (by show 1 ≤ sizeLine; decide), fun p hp => q p _ hp⟩
  have hp0 : (0 : Int) < 2305843009213693951 := by decide
  have mm : ∀ x : Int, -(2 ^ 64) < x % 2305843009213693951 ∧ x % 2305843009213693951 < 2 ^ 64 := fun x => by
    have h1 := Int.emod_nonneg x (show (2305843009213693951 : Int) ≠ 0 by decide)
    have h2 := Int.emod_lt_of_pos x hp0
    omega
  have hkk : -(2 ^ 64) < k ∧ k < 2 ^ 64 := by omega
  have hpp : (-(2 ^ 64) : Int) < 2305843009213693951 ∧ (2305843009213693951 : Int) < 2 ^ 64 := by decide
  refine ⟨_, rfl, _, rfl, _, _, rfl, rfl, hp0, _, _, rfl, rfl, .inl (mm _), _, rfl, _, _, rfl, rfl, .inr hkk, _, _, rfl, rfl, _, _, rfl, rfl, _, rfl, _, _, rfl, rfl, hp0, ?_⟩
  refine ⟨_, rfl, _, rfl, _, _, rfl, rfl, .inl (mm _), _, rfl, _, _, rfl, rfl, .inr hkk, _, _, rfl, rfl, _, rfl, _, _, rfl, rfl, _, rfl, _, _, rfl, rfl, hp0, ?_⟩
  refine ⟨_, rfl, _, rfl, _, _, rfl, rfl, .inl (mm _), _, rfl, _, _, rfl, rfl, _, rfl, _, _, rfl, rfl, hp0, ?_⟩
  refine ⟨_, rfl, _, rfl, _, _, rfl, rfl, .inl (mm _), _, rfl, _, _, rfl, rfl, _, rfl, _, _, rfl, rfl, hp0, ?_⟩
  refine ⟨_, rfl, _, rfl, _, _, rfl, rfl, .inr hpp, _, rfl, _, _, rfl, rfl, _, rfl, _, _, rfl, rfl, .inr hpp, _, rfl, _, _, rfl, rfl, _, rfl, _, _, rfl, rfl, .inr hpp, _, rfl, _, _, rfl, rfl, (by show 1 ≤ sizeLine; decide), fun p hp => q p _ hp⟩
theorem scDigit : FnScope ["tape", "many", "found"] ["tape", "many"] (defScope sDigit) := ⟨rfl, rfl, rfl, by decide +kernel, rfl, by decide +kernel, by decide +kernel⟩
theorem ok_digit (F : Fun K "_law_digit" "_law_digit" sDigit f fd) : FnOk P w K mg base CX0 1 f fd ["tape", "many"] spDigit := by
  refine F.ok scDigit (fun vs H Q E h => ?_) (fun cdv A outer s H vs Q E hr h => ?_)
  · obtain ⟨tp, m, rfl, _⟩ := h
    rfl
  obtain ⟨tp, m, rfl, ⟨t, ht⟩, hm, hm2, q⟩ := h
  refine ⟨_, pss_cons (ps_set (i := 2) scDigit.nd rfl (Or.inl rfl) (pe_op op_mod (pe_ix ix_list (pv 0) pe_int (fun _ _ => rfl)) (pv 1)))
    (pss_cons (ps_asg (pe_op op_fdiv (pe_ix ix_list (pv 0) pe_int (fun _ _ => rfl)) (pv 1)) (pg_sub (pv 0) pe_int set_list))
    (pss_one (ps_ret (pv 2)))), ?_⟩
  refine ⟨_, rfl, tp, _, 0, _, rfl, rfl, SqL.of ht, atI0, _, rfl, _, _, rfl, rfl, hm, ?_⟩
  refine ⟨_, rfl, tp, _, 0, _, rfl, rfl, SqL.of ht, atI0, _, rfl, _, _, rfl, rfl, ⟨hm, hm2⟩, ?_⟩
  refine ⟨_, rfl, tp, _, 0, 0, rfl, rfl, ht, rfl, ?_⟩
  exact ⟨_, rfl, q (t % m) (t / m) (Int.emod_nonneg _ (by omega)) (Int.emod_lt_of_pos _ hm)⟩
theorem scNumber : FnScope ["tape", "way"] ["tape"] (defScope sNumber) := ⟨rfl, rfl, rfl, by decide +kernel, rfl, by decide +kernel, by decide +kernel⟩
theorem ok_number (F : Fun K "_law_number" "_law_number" sNumber f fd) (GD : FnOk P w K mg base CX0 1 g gd ["tape", "many"] spDigit) (bD : Binds K gd ["tape", "many"] []) (kD : PySem.W.keepIn K (.ref g) = true) (mD : mg "_law_digit" = some (.ref g)) :
    FnOk P w K mg base CX0 2 f fd ["tape"] spNumber := by
  refine F.ok scNumber (fun vs H Q E h => ?_) (fun cdv A outer s H vs Q E hr h => ?_)
  · obtain ⟨tp, rfl, _⟩ := h
    rfl
  obtain ⟨tp, rfl, hT, q⟩ := h
  refine ⟨_, pss_cons (ps_set (i := 1) scNumber.nd rfl (Or.inl rfl) (pe_call GD hr rfl mD kD bD .nil pass0 (pa_cons (pv 0) (pa_cons pe_int pa_nil))))
    (pss_cons (ps_if (pt_cmpR op_lt (pv 1) pe_int (nomark _)) (pss_one (ps_ret (pv 1))) pss_nil)
    (pss_one (ps_ret (pe_ix ix_list (pe_lst (pa_cons (pe_un un_neg pe_int) (pa_cons (pe_op op_sub (pe_call GD hr rfl mD kD bD .nil pass0 (pa_cons (pv 0) (pa_cons pe_int pa_nil))) pe_int)
      (pa_cons (pe_op op_sub (pe_call GD hr rfl mD kD bD .nil pass0 (pa_cons (pv 0) (pa_cons pe_int pa_nil))) pe_int) pa_nil)))) (pe_op op_sub (pv 1) pe_int) (fun _ _ => rfl))))), ?_⟩
  refine ⟨_, rfl, tp, 6, rfl, hT, by decide, by decide, fun d t h0 h1 => ?_⟩
  refine ⟨_, rfl, _, _, rfl, rfl, _, rfl, ?_⟩
  refine ite2 (fun c => ?_) (fun c => ?_)
  · exact ⟨_, rfl, q d _ (by omega) (by omega) Kp.tape ⟨t, upd_same⟩⟩
  have c' : 3 ≤ d := by
    rcases Int.lt_or_le d 3 with z | z
    · exact absurd (decide_eq_true z) c
    · exact z
  refine ⟨_, rfl, _, rfl, tp, 1001, rfl, ⟨t, upd_same⟩, by decide, by decide, fun d2 t2 h20 h21 => ?_⟩
  refine ⟨_, _, rfl, rfl, _, rfl, tp, 1999999, rfl, ⟨t2, upd_same⟩, by decide, by decide, fun d3 t3 h30 h31 => ?_⟩
  refine ⟨_, _, rfl, rfl, (by show 3 ≤ sizeLine; decide), fun p hp => ?_⟩
  rw [upd_upd, upd_upd] at hp ⊢
  have hd : d = 3 ∨ d = 4 ∨ d = 5 := by omega
  have fin : ∀ n : Int, -999999 ≤ n → n ≤ 999999 → Q (.int n) (upd (upd H tp (.lst [.int t3])) p (.lst [.int (-1), .int (d2 - 500), .int (d3 - 999999)])) := fun n h1 h2 =>
    q n _ h1 h2 (Kp.tape.new hp) (Tp.new ⟨t3, upd_same⟩ hp)
  rcases hd with rfl | rfl | rfl
  · exact ⟨_, rfl, _, _, rfl, rfl, p, _, 0, _, rfl, rfl, SqL.of upd_same, atI0, fin _ (by omega) (by omega)⟩
  · exact ⟨_, rfl, _, _, rfl, rfl, p, _, 1, _, rfl, rfl, SqL.of upd_same, atI1, fin _ (by omega) (by omega)⟩
  · exact ⟨_, rfl, _, _, rfl, rfl, p, _, 2, _, rfl, rfl, SqL.of upd_same, atI2, fin _ (by omega) (by omega)⟩
end
end My
namespace My
open PySem L2
theorem atI_lt {α : Type} {xs : List α} {d : Int} (h0 : 0 ≤ d) (h1 : d < xs.length) : ∃ x, atI xs d = some x ∧ xs[d.toNat]? = some x := by
  have hk : d.toNat < xs.length := by omega
  have ek : d = ((d.toNat : Nat) : Int) := by omega
  have q : atI xs ((d.toNat : Nat) : Int) = some xs[d.toNat] := atI_nat (List.getElem?_eq_getElem hk)
  rw [← ek] at q
  exact ⟨_, q, List.getElem?_eq_getElem hk⟩
section
variable {P : Program} {w : World} {K : PySem.W.Frag} {mg : Str → Option Value} {base : Heap} {f g f2 f3 : Addr} {fd gd fd2 fd3 : FuncData}
end
end My
namespace My
open PySem L2
theorem cut_take (xs : List V) {j : Int} (h0 : 0 ≤ j) (h1 : j ≤ xs.length) : cutV xs none (some j) = xs.take j.toNat := by
  have ej : j = ((j.toNat : Nat) : Int) := by omega
  have e : HT.sIx xs.length xs.length (some j) = j.toNat := by
    rw [ej, HT.sIx_nat]
    omega
  unfold cutV
  rw [e, HT.sIx_none, List.drop_zero, Nat.sub_zero]
theorem cut_drop (xs : List V) {j : Int} (h0 : 0 ≤ j) (h1 : j ≤ xs.length) : cutV xs (some j) none = xs.drop j.toNat := by
  have ej : j = ((j.toNat : Nat) : Int) := by omega
  have e : HT.sIx xs.length 0 (some j) = j.toNat := by
    rw [ej, HT.sIx_nat]
    omega
  unfold cutV
  rw [e, HT.sIx_none]
  apply List.take_of_length_le
  rw [List.length_drop]
  omega
section
variable {P : Program} {w : World} {K : PySem.W.Frag} {mg : Str → Option Value} {base : Heap} {f g f2 f3 : Addr} {fd gd fd2 fd3 : FuncData}
end
end My
namespace My
open PySem L2
theorem slice_len (z : Str) {j : Int} (h0 : 0 ≤ j) (h1 : j ≤ z.length) : ((Txt.slice z none (some j)).length : Int) = j := by
  rcases PyProof.Rows.slice_ns_cases z j h0 with ⟨_, h⟩ | ⟨h, _⟩
  · exact h
  · omega
noncomputable def letters : Str := "abcdefghijklmnopqrstuvwxyz"
theorem letters_all : letters.cps.toList.all lett = true := by decide +kernel
theorem letters_len : letters.length = 26 := by decide +kernel
theorem letter_at {d : Int} (h0 : 0 ≤ d) (h1 : d < 26) : ∃ c, atI letters.cps.toList d = some c ∧ lett c = true := by
  have hl : letters.cps.toList.length = 26 := by decide +kernel
  obtain ⟨c, e, e2⟩ := atI_lt (xs := letters.cps.toList) h0 (by rw [hl]; omega)
  exact ⟨c, e, List.all_eq_true.mp letters_all c (List.mem_of_getElem? e2)⟩
theorem app_len (x y : Str) : (x ++ y).length = x.length + y.length := by
  show (x.cps ++ y.cps).size = _
  rw [Array.size_append]
  rfl
noncomputable def names13 : List Str := ["own", "up", "down", "min", "max", "of", "top", "form", "sort", "wheel", "book", "tree", "ok"]
theorem aneq : (Txt.slice "aneqoubi" none (some 7)).length = 7 ∧ (Txt.slice "aneqoubi" none (some 7)).cps.toList.all lett = true := by decide +kernel
theorem eyz_len : ("eyzmopq" : Str).length = 7 := by decide +kernel
section
variable {P : Program} {w : World} {K : PySem.W.Frag} {mg : Str → Option Value} {base : Heap} {f g f2 f3 : Addr} {fd gd fd2 fd3 : FuncData}
end
end My
namespace My
open PySem L2
theorem Tp.same {H H' : Hp} {tp : Addr} (t : Tp H tp) (s : Same H H') : Tp H' tp := by
  obtain ⟨t0, e⟩ := t
  exact ⟨t0, s _ _ e⟩
section
variable {P : Program} {w : World} {K : PySem.W.Frag} {mg : Str → Option Value} {base : Heap} {f g f2 f3 : Addr} {fd gd fd2 fd3 : FuncData}
end
end My
namespace My
open PySem L2
noncomputable def Fm.wfp (ρ : Fm → Prop) : Fm → Prop
  | .num n => -999999 ≤ n ∧ n ≤ 999999
  | .own x => wordB x = true ∧ ρ (.own x)
  | .part k x => ((0 ≤ k ∧ k ≤ 2) ∧ wordB x = true) ∧ ρ (.part k x)
  | .bin op a b => op ∈ ops ∧ a.wfp ρ ∧ b.wfp ρ
  | .whn a b c => a.wfp ρ ∧ b.wfp ρ ∧ c.wfp ρ
theorem Fm.wfp.wf {ρ : Fm → Prop} : ∀ {f : Fm}, f.wfp ρ → f.wf
  | .num _, h => h
  | .own _, h => h.1
  | .part _ _, h => h.1
  | .bin _ _ _, h => ⟨h.1, Fm.wfp.wf h.2.1, Fm.wfp.wf h.2.2⟩
  | .whn _ _ _, h => ⟨Fm.wfp.wf h.1, Fm.wfp.wf h.2.1, Fm.wfp.wf h.2.2⟩
end My
namespace My
open PySem L2
noncomputable def LvsP (ρ : Fm → Prop) (H : Hp) (rs : List V) : Prop := ∀ v ∈ rs, ∃ f, Rep H f v ∧ f.wfp ρ ∧ f.size = 1
noncomputable def spLeafP (ρ : Fm → Prop) : Sp := fun vs H Q _ => ∃ tp rl rs, vs = [.ref tp, .ref rl] ∧ Tp H tp ∧ rl ≠ tp ∧ H rl = some (.lst rs) ∧ rs.length ≤ 1000 ∧ LvsP ρ H rs ∧
  ∀ v f H', Rep H' f v → f.wfp ρ → f.size = 1 → Kp tp H H' → Tp H' tp → Q v H'
section
variable {P : Program} {w : World} {K : PySem.W.Frag} {mg : Str → Option Value} {base : Heap} {f g f2 f3 : Addr} {fd gd fd2 fd3 : FuncData}
theorem scLeafP : FnScope ["tape", "readings"] ["tape", "readings"] (defScope sLeaf) := ⟨rfl, rfl, rfl, by decide +kernel, rfl, by decide +kernel, by decide +kernel⟩
theorem ok_leafP {ρ : Fm → Prop} (F : Fun K "_law_leaf" "_law_leaf" sLeaf f fd) (G : Gb mg) (GD : FnOk P w K mg base CX0 1 g gd ["tape", "many"] spDigit) (bD : Binds K gd ["tape", "many"] []) (kD : PySem.W.keepIn K (.ref g) = true) (mD : mg "_law_digit" = some (.ref g))
    (GN : FnOk P w K mg base CX0 2 f2 fd2 ["tape"] spNumber) (bN : Binds K fd2 ["tape"] []) (kN : PySem.W.keepIn K (.ref f2) = true) (mN : mg "_law_number" = some (.ref f2)) :
    FnOk P w K mg base CX0 3 f fd ["tape", "readings"] (spLeafP ρ) := by
  refine F.ok scLeafP (fun vs H Q E h => ?_) (fun cdv A outer s H vs Q E hr h => ?_)
  · obtain ⟨tp, rl, rs, rfl, _⟩ := h
    rfl
  obtain ⟨tp, rl, rs, rfl, hT, hne, hrl, hlen, hL, q⟩ := h
  have hr1 := hr.mono (show 1 ≤ 2 by decide)
  refine ⟨_, pss_cons (ps_if (PW.pt (pw_and (pt_cmpR op_gt (pe_callB call_len_seq rfl G.len PySem.boot_len (pa_cons (pv 1) pa_nil)) pe_int (nomark _))
      (pw_and1 (pt_cmpR op_lt (pe_call GD hr1 rfl mD kD bD .nil pass0 (pa_cons (pv 0) (pa_cons pe_int pa_nil))) pe_int (nomark _)))))
      (pss_one (ps_ret (pe_ix ix_list (pv 1) (pe_call GD hr1 rfl mD kD bD .nil pass0 (pa_cons (pv 0) (pa_cons (pe_callB call_len_seq rfl G.len PySem.boot_len (pa_cons (pv 1) pa_nil)) pa_nil))) (fun _ _ => rfl)))) pss_nil)
    (pss_one (ps_ret (pe_tup (pa_cons pe_str (pa_cons (pe_call GN hr rfl mN kN bN .nil pass0 (pa_cons (pv 0) pa_nil)) pa_nil))))), ?_⟩
  have num : ∀ H1, Kp tp H H1 → Tp H1 tp → (∃ v, ([some (V.ref tp), some (.ref rl)] : St)[0]? = some (some v) ∧ spNumber [v] H1 (fun x H2 => [V.str "num", x].length ≤ sizeLine ∧ ∀ p, H2 p = none → Q (.ref p) (upd H2 p (.tup [V.str "num", x]))) E0) := fun H1 k1 t1 => by
    refine ⟨_, rfl, tp, rfl, t1, fun n H2 h1 h2 k2 t2 => ⟨(by show 2 ≤ sizeLine; decide), fun p hp => ?_⟩⟩
    exact q _ (.num n) _ ⟨p, rfl, upd_same⟩ ⟨h1, h2⟩ rfl ((k1.trans k2).new hp) (t2.new hp)
  refine ⟨_, rfl, rl, rs, rfl, .inl (SqL.of hrl), _, _, rfl, rfl, _, rfl, ?_⟩
  refine ite2 (fun c => ?_) (fun c => ?_)
  · have c' : 0 < rs.length := by have := of_decide_eq_true c; omega
    refine ⟨_, rfl, tp, 4, rfl, hT, by decide, by decide, fun d t h0 h1 => ?_⟩
    refine ⟨_, _, rfl, rfl, _, rfl, ?_⟩
    refine ite2 (fun c2 => ?_) (fun c2 => ?_)
    · have h2 : (upd H tp (.lst [.int t])) rl = some (.lst rs) := by rw [upd_ne hne]; exact hrl
      refine ⟨_, rfl, _, rfl, _, rfl, rl, rs, rfl, .inl (SqL.of h2), tp, _, rfl, ⟨t, upd_same⟩, by omega, by omega, fun d2 t2 h20 h21 => ?_⟩
      rw [upd_upd]
      have h3 : (upd H tp (.lst [.int t2])) rl = some (.lst rs) := by rw [upd_ne hne]; exact hrl
      obtain ⟨x, ex, ex2⟩ := atI_lt (xs := rs) h20 h21
      obtain ⟨fm, r, wf, sz⟩ := hL x (List.mem_of_getElem? ex2)
      have k2 : Kp tp H (upd H tp (.lst [.int t2])) := Kp.tape
      exact ⟨rl, rs, d2, x, rfl, rfl, SqL.of h3, ex, q x fm _ (r.mono (k2.tk hT)) wf sz k2 ⟨t2, upd_same⟩⟩
    · exact num _ Kp.tape ⟨t, upd_same⟩
  · exact num _ Kp.refl hT
end
end My
namespace My
open PySem L2
section
variable {P : Program} {w : World} {K : PySem.W.Frag} {mg : Str → Option Value} {base : Heap} {f g f2 f3 : Addr} {fd gd fd2 fd3 : FuncData}
end
end My
namespace My
open PySem L2
noncomputable def letC (d : Int) : Nat := (atI letters.cps.toList d).getD 0
noncomputable def stemOf (tu : Int) : Str := (⟨#[letC tu]⟩ : Str) ++ Txt.slice "aneqoubi" none (some 7)
noncomputable def nm0 (tu : Int) (i : Nat) : Str := if (0 + (i : Int)) < 8 then Txt.slice (stemOf tu) none (some (0 + (i : Int) + 1)) else (⟨#[letC ((tu + 1) % 26)]⟩ : Str) ++ Txt.slice (stemOf tu) none (some (0 + (i : Int) - 8))
noncomputable def nm1 (tu : Int) (i : Nat) : Str := ((names13)[((tu + (0 + (i : Int))) % 13).toNat]?).getD ""
noncomputable def nm2 (tu : Int) (i : Nat) : Str := (⟨#[letC ((tu + (0 + (i : Int))) % 26)]⟩ : Str) ++ Txt.slice "eyzmopq" none (some ((tu + 3 * (0 + (i : Int))) % 8))
noncomputable def nmOf (way : Nat) (tu : Int) (i : Nat) : Str := if way = 0 then nm0 tu i else if way = 1 then nm1 tu i else nm2 tu i
noncomputable def NamesAre (m : Nat) (ws : List Str) : Prop := ∃ (way tu : Nat) (back : Bool), way < 3 ∧ tu < 26 ∧ ws = (if back = true then ((List.range m).map (nmOf way tu)).reverse else (List.range m).map (nmOf way tu))
noncomputable def spNamesX : Sp := fun vs H Q _ => ∃ tp m, vs = [.ref tp, .int m] ∧ Tp H tp ∧ 0 ≤ m ∧ m ≤ 13 ∧
  ∀ l (ws : List Str) H', H' l = some (.lst (ws.map V.str)) → (ws.length : Int) = m → NamesAre m.toNat ws → l ≠ tp → Kp tp H H' → Tp H' tp → Q (.ref l) H'
theorem letC_at {d : Int} (h0 : 0 ≤ d) (h1 : d < 26) : atI letters.cps.toList d = some (letC d) := by
  obtain ⟨c, e, _⟩ := letter_at h0 h1
  unfold letC
  rw [e]
  rfl
theorem stem_len (tu : Int) : (stemOf tu).length = 8 := by unfold stemOf; rw [app_len, aneq.1]; rfl
section
variable {P : Program} {w : World} {K : PySem.W.Frag} {mg : Str → Option Value} {base : Heap} {f g f2 f3 : Addr} {fd gd fd2 fd3 : FuncData}
theorem scNamesX : FnScope ["tape", "many", "letters", "way", "turn", "back", "stem", "names", "words"] ["tape", "many"] (defScope sNames) := ⟨rfl, rfl, rfl, by decide +kernel, rfl, by decide +kernel, by decide +kernel⟩
theorem ok_namesX (F : Fun K "_law_names" "_law_names" sNames f fd) (G : Gb mg) (GD : FnOk P w K mg base CX0 1 g gd ["tape", "many"] spDigit) (bD : Binds K gd ["tape", "many"] []) (kD : PySem.W.keepIn K (.ref g) = true) (mD : mg "_law_digit" = some (.ref g)) :
    FnOk P w K mg base CX0 2 f fd ["tape", "many"] spNamesX := by
  refine F.ok scNamesX (fun vs H Q E h => ?_) (fun cdv A outer s H vs Q E hr h => ?_)
  · obtain ⟨tp, m, rfl, _⟩ := h
    rfl
  obtain ⟨tp, m, rfl, hT, hm0, hm1, q⟩ := h
  obtain ⟨t, ht, hread⟩ : ∃ t, PSs (cxOf CX0 P w K mg base ["tape", "many", "letters", "way", "turn", "back", "stem", "names", "words"] "_law_names" (defScope sNames) f cdv A outer s H E).nox ((defBody sNames).drop 5) t ∧
      ∀ (b : Int) (l : Addr) (way tu : Nat) (H2 : Hp) (o2 o3 o4 o6 o8 : Option V), (b = 1 ∨ b = -1) → way < 3 → tu < 26 → H2 l = some (.lst (((List.range m.toNat).map (nmOf way tu)).map V.str)) → Kp tp H H2 → Tp H2 tp →
        t { nx := fun _ H' => Q .non H', rt := Q } [some (.ref tp), some (.int m), o2, o3, o4, some (.int b), o6, some (.ref l), o8] H2 := by
    refine ⟨_, pss_one (ps_ret (pe_step (pv 7) (pv 5))), fun b l way tu H2 o2 o3 o4 o6 o8 hb hw1 hw2 hl k2 t2 => ?_⟩
    have hlen : (((List.range m.toNat).map (nmOf way tu)).length : Int) = m := by rw [List.length_map, List.length_range]; omega
    refine ⟨_, rfl, _, rfl, l, _, b, rfl, rfl, SqL.of hl, by omega, fun p hp => ?_⟩
    have hpt : p ≠ tp := fun e => by
      obtain ⟨t0, e0⟩ := t2
      subst e
      rw [e0] at hp
      cases hp
    rcases hb with rfl | rfl
    · rw [stepV_one]
      exact q p _ _ upd_same hlen ⟨way, tu, false, hw1, hw2, rfl⟩ hpt (k2.new hp) (t2.new hp)
    · rw [stepV_neg, ← List.map_reverse]
      exact q p _ _ upd_same (by rw [List.length_reverse]; exact hlen) ⟨way, tu, true, hw1, hw2, rfl⟩ hpt (k2.new hp) (t2.new hp)
  have cw : ∀ {te : TE} {fr : List Nat} {σ : St} {H2 : Hp} {Q2 : VK} (g : Nat → Str), (∀ (i : Nat) (H3 : Hp) (k : VK), (i : Int) < m → k (.str (g i)) H3 → te (some (.int (0 + i)) :: caps fr σ) H3 k) →
      (∀ p, H2 p = none → Q2 (.ref p) (upd H2 p (.lst (((List.range m.toNat).map g).map V.str)))) → tCompW fr te σ (Itr 0 m.toNat) H2 Q2 := by
    intro te fr σ H2 Q2 g hs hd
    refine comp_walk (n := m.toNat) (R := fun i v => v = .int (0 + i)) (by omega) itr_go itr_stop itr_yld
      (fun p i zs H' => H' = upd H2 p (.lst zs) ∧ zs = ((List.range i).map g).map V.str) (fun p hp => ⟨rfl, rfl⟩) ?_ ?_ ?_
    · rintro p i zs H' ⟨rfl, rfl⟩
      exact ⟨upd_same, by rw [List.length_map, List.length_map, List.length_range]⟩
    · rintro p i zs H' v k hp hi rfl ⟨rfl, rfl⟩ hk
      exact hs i _ k (by omega) (hk (.str (g i)) _ upd_same ⟨upd_upd, by rw [List.range_succ]; simp⟩)
    · rintro p zs H' hp ⟨rfl, rfl⟩
      exact hd p hp
  refine ⟨_, pss_cons (ps_set (i := 2) scNamesX.nd rfl (Or.inr rfl) pe_str)
    (pss_cons (ps_set (i := 3) scNamesX.nd rfl (Or.inl rfl) (pe_call GD hr rfl mD kD bD .nil pass0 (pa_cons (pv 0) (pa_cons pe_int pa_nil))))
    (pss_cons (ps_set (i := 4) scNamesX.nd rfl (Or.inr rfl) (pe_call GD hr rfl mD kD bD .nil pass0 (pa_cons (pv 0) (pa_cons pe_int pa_nil))))
    (pss_cons (ps_set (i := 5) scNamesX.nd rfl (Or.inl rfl) (pe_op op_sub pe_int (pe_op op_mul pe_int (pe_call GD hr rfl mD kD bD .nil pass0 (pa_cons (pv 0) (pa_cons pe_int pa_nil))))))
    (pss_cons (ps_if (pt_cmpR op_eq (pv 3) pe_int (nomark _))
      (pss_cons (ps_set (i := 6) scNamesX.nd rfl (Or.inr rfl) (pe_op op_add_str (pe_ix ix_str (pv 2) (pv 4) (fun _ _ => rfl)) (pe_slice sl_str pe_str po_none (po_some pe_int))))
      (pss_one (ps_setC (i := 7) (sc0 := defScope sNames) (N0 := ["tape", "many", "letters", "way", "turn", "back", "stem", "names", "words"]) (ys := ["letters", "stem", "turn"]) (fr := [2, 6, 4]) rfl scNamesX.nd rfl (Or.inl rfl) (pi_range1 rfl G.range (pa_cons (pv 1) pa_nil)) rfl rfl
        ⟨rfl, by decide +kernel, by decide +kernel, by decide +kernel, by decide +kernel, by decide +kernel, rfl, by decide +kernel⟩
        (fun C s H ex => pe_ifExp (pt_cmpR op_lt (pv 0) pe_int (nomark _)) (pe_slice sl_str (pv 2) po_none (po_some (pe_op op_add (pv 0) pe_int)))
          (pe_op op_add_str (pe_ix ix_str (pv 1) (pe_op op_mod (pe_op op_add (pv 3) pe_int) pe_int) (fun _ _ => rfl)) (pe_slice sl_str (pv 2) po_none (po_some (pe_op op_sub (pv 0) pe_int))))))))
      (pss_one (ps_if (pt_cmpR op_eq (pv 3) pe_int (nomark _))
        (@pss_cons _ _ _ _ _ (@ps_setL _ 8 _ _ (names13.map V.str) _ _ _ scNamesX.nd rfl (Or.inr rfl) (Or.inl rfl) rfl)
        (pss_one (ps_setC (i := 7) (sc0 := defScope sNames) (N0 := ["tape", "many", "letters", "way", "turn", "back", "stem", "names", "words"]) (ys := ["turn", "words"]) (fr := [4, 8]) rfl scNamesX.nd rfl (Or.inl rfl) (pi_range1 rfl G.range (pa_cons (pv 1) pa_nil)) rfl rfl
          ⟨rfl, by decide +kernel, by decide +kernel, by decide +kernel, by decide +kernel, by decide +kernel, rfl, by decide +kernel⟩
          (fun C s H ex => pe_ix (r := rIxL K) ix_list (pv 2) (pe_op op_mod (pe_op op_add (pv 1) (pv 0)) pe_int) (fun _ _ => rfl)))))
        (pss_one (ps_setC (i := 7) (sc0 := defScope sNames) (N0 := ["tape", "many", "letters", "way", "turn", "back", "stem", "names", "words"]) (ys := ["letters", "turn"]) (fr := [2, 4]) rfl scNamesX.nd rfl (Or.inl rfl) (pi_range1 rfl G.range (pa_cons (pv 1) pa_nil)) rfl rfl
          ⟨rfl, by decide +kernel, by decide +kernel, by decide +kernel, by decide +kernel, by decide +kernel, rfl, by decide +kernel⟩
          (fun C s H ex => pe_op op_add_str (pe_ix ix_str (pv 1) (pe_op op_mod (pe_op op_add (pv 2) (pv 0)) pe_int) (fun _ _ => rfl)) (pe_slice sl_str pe_str po_none (po_some (pe_op op_mod (pe_op op_add (pv 2) (pe_op op_mul pe_int (pv 0))) pe_int)))))))))
    ht)))), ?_⟩
  refine ⟨_, rfl, tp, 3, rfl, hT, by decide, by decide, fun wy t1 hw0 hw1 => ?_⟩
  refine ⟨_, rfl, tp, 26, rfl, ⟨t1, upd_same⟩, by decide, by decide, fun tu t2 htu0 htu1 => ?_⟩
  rw [upd_upd]
  refine ⟨_, rfl, tp, 2, rfl, ⟨t2, upd_same⟩, by decide, by decide, fun bk t3 hb0 hb1 => ?_⟩
  rw [upd_upd]
  refine ⟨2, _, rfl, rfl, .inl ⟨by decide, by decide⟩, 1, _, rfl, rfl, ?_⟩
  have hb : (1 - 2 * bk = 1 ∨ 1 - 2 * bk = -1) := by omega
  have k3 : Kp tp H (upd H tp (.lst [.int t3])) := Kp.tape
  have tt3 : Tp (upd H tp (.lst [.int t3])) tp := ⟨t3, upd_same⟩
  generalize upd H tp (.lst [.int t3]) = H3 at k3 tt3 ⊢
  have l26 : (letters.length : Int) = 26 := by rw [letters_len]; rfl
  have lsz : letters.length ≤ sizeLine := by rw [letters_len]; exact Nat.le_of_lt (small1000 (by decide))
  refine ⟨_, rfl, rfl, _, rfl, ?_⟩
  refine ite2 (fun c => ?_) (fun c => ?_)
  · -- stems
    have hwy : wy = 0 := V.int.inj (of_decide_eq_true c)
    have ec0 := letC_at htu0 htu1
    refine ⟨_, rfl, _, rfl, letters, tu, letC tu, rfl, rfl, lsz, ec0, 7, rfl, "aneqoubi", rfl, (by decide +kernel), _, _, rfl, rfl, ?_, ?_⟩
    · rw [aneq.1]
      show 1 + 7 ≤ sizeLine
      exact Nat.le_of_lt (small1000 (by decide))
    have zl := stem_len tu
    have zsz : (stemOf tu).length ≤ sizeLine := by rw [zl]; exact Nat.le_of_lt (small1000 (by decide))
    refine ⟨_, rfl, m, rfl, by omega, by omega, ?_⟩
    refine cw (nm0 tu) ?_ ?_
    · intro i H4 k hi hk
      refine ⟨_, rfl, _, _, rfl, rfl, _, rfl, ?_⟩
      refine ite2 (fun ci => ?_) (fun ci => ?_)
      · have ci' : (0 + (i : Int)) < 8 := of_decide_eq_true ci
        refine ⟨_, rfl, _, rfl, _, _, rfl, rfl, _, rfl, stemOf tu, rfl, zsz, ?_⟩
        unfold nm0 at hk
        rw [if_pos ci'] at hk
        exact hk
      · have ci' : ¬ (0 + (i : Int)) < 8 := fun y => ci (decide_eq_true y)
        have ec1 := letC_at (d := (tu + 1) % 26) (Int.emod_nonneg _ (by decide)) (Int.emod_lt_of_pos _ (by decide))
        have e := slice_len (stemOf tu) (j := 0 + (i : Int) - 8) (by omega) (by rw [zl]; omega)
        unfold nm0 at hk
        rw [if_neg ci'] at hk
        refine ⟨_, rfl, _, rfl, _, _, rfl, rfl, _, _, rfl, rfl, (by show (0 : Int) < 26; decide), letters, _, letC ((tu + 1) % 26), rfl, rfl, lsz, ec1, _, rfl, _, rfl, _, _, rfl, rfl, _, rfl, stemOf tu, rfl, zsz, _, _, rfl, rfl, ?_, hk⟩
        show 1 + (Txt.slice (stemOf tu) none (some (0 + (i : Int) - 8))).length ≤ sizeLine
        exact Nat.le_of_lt (small1000 (by omega))
    · intro p hp
      have etu : ((tu.toNat : Nat) : Int) = tu := by omega
      refine hread (1 - 2 * bk) p 0 tu.toNat _ _ _ _ _ _ hb (by decide) (by omega) ?_ (k3.new hp) (tt3.new hp)
      rw [etu]
      exact upd_same
  · refine ⟨_, rfl, rfl, _, rfl, ?_⟩
    refine ite2 (fun c2 => ?_) (fun c2 => ?_)
    · -- written words
      refine ⟨(by show 13 ≤ sizeLine; decide), fun pw hpw => ?_⟩
      refine ⟨_, rfl, m, rfl, by omega, by omega, ?_⟩
      have s4 : Same H3 (upd H3 pw (.lst (names13.map V.str))) := same_new hpw _
      have g4 : (upd H3 pw (.lst (names13.map V.str))) pw = some (.lst (names13.map V.str)) := upd_same
      have k4 : Kp tp H (upd H3 pw (.lst (names13.map V.str))) := k3.same s4
      have tt4 : Tp (upd H3 pw (.lst (names13.map V.str))) tp := tt3.new hpw
      generalize upd H3 pw (.lst (names13.map V.str)) = H4 at s4 g4 k4 tt4 ⊢
      refine comp_walk (n := m.toNat) (R := fun i v => v = .int (0 + i)) (by omega) itr_go itr_stop itr_yld
        (fun p i zs H' => H' = upd H4 p (.lst zs) ∧ H4 p = none ∧ zs = ((List.range i).map (nm1 tu)).map V.str) (fun p hp => ⟨rfl, hp, rfl⟩) ?_ ?_ ?_
      · rintro p i zs H' ⟨rfl, _, rfl⟩
        exact ⟨upd_same, by rw [List.length_map, List.length_map, List.length_range]⟩
      · rintro p i zs H' v k hp hi rfl ⟨rfl, hp4, rfl⟩ hk
        have h1 := Int.emod_nonneg (tu + (0 + (i : Int))) (show (13 : Int) ≠ 0 by decide)
        have h2 := Int.emod_lt_of_pos (tu + (0 + (i : Int))) (show (0 : Int) < 13 by decide)
        obtain ⟨xv, ex, ex2⟩ := atI_lt (xs := names13.map V.str) h1 (by rw [List.length_map]; exact h2)
        have exv : xv = .str (nm1 tu i) := by
          rw [List.getElem?_map] at ex2
          unfold nm1
          cases hx : names13[((tu + (0 + (i : Int))) % 13).toNat]? with
          | none => rw [hx] at ex2; cases ex2
          | some y => rw [hx] at ex2; exact (Option.some.inj ex2).symm
        subst exv
        have g5 : (upd H4 p (.lst (((List.range i).map (nm1 tu)).map V.str))) pw = some (.lst (names13.map V.str)) := by rw [upd_ne (ne_of_none g4 hp4)]; exact g4
        refine ⟨_, rfl, _, rfl, _, rfl, _, _, rfl, rfl, _, _, rfl, rfl, (by show (0 : Int) < 13; decide), pw, _, _, _, rfl, rfl, SqL.of g5, ex, ?_⟩
        exact hk _ _ upd_same ⟨upd_upd, hp4, by rw [List.range_succ]; simp⟩
      · rintro p zs H' hp ⟨rfl, hp4, rfl⟩
        have etu : ((tu.toNat : Nat) : Int) = tu := by omega
        refine hread (1 - 2 * bk) p 1 tu.toNat _ _ _ _ _ _ hb (by decide) (by omega) ?_ (k4.new hp4) (tt4.new hp4)
        rw [etu]
        exact upd_same
    · -- a letter and a tail
      refine ⟨_, rfl, m, rfl, by omega, by omega, ?_⟩
      refine cw (nm2 tu) ?_ ?_
      · intro i H4 k hi hk
        have ec1 := letC_at (d := (tu + (0 + (i : Int))) % 26) (Int.emod_nonneg _ (by decide)) (Int.emod_lt_of_pos _ (by decide))
        have h1 := Int.emod_nonneg (tu + 3 * (0 + (i : Int))) (show (8 : Int) ≠ 0 by decide)
        have h2 := Int.emod_lt_of_pos (tu + 3 * (0 + (i : Int))) (show (0 : Int) < 8 by decide)
        have e := slice_len "eyzmopq" (j := (tu + 3 * (0 + (i : Int))) % 8) h1 (by rw [eyz_len]; omega)
        refine ⟨_, rfl, _, rfl, _, rfl, _, _, rfl, rfl, _, _, rfl, rfl, (by show (0 : Int) < 26; decide), letters, _, letC ((tu + (0 + (i : Int))) % 26), rfl, rfl, lsz, ec1, _, rfl, _, rfl, 3, _, rfl, rfl, .inl ⟨by decide, by decide⟩, _, _, rfl, rfl, _, _, rfl, rfl, (by show (0 : Int) < 8; decide), _, rfl, "eyzmopq", rfl, (by rw [eyz_len]; exact Nat.le_of_lt (small1000 (by decide))), _, _, rfl, rfl, ?_, hk⟩
        · show 1 + (Txt.slice "eyzmopq" none (some ((tu + 3 * (0 + (i : Int))) % 8))).length ≤ sizeLine
          exact Nat.le_of_lt (small1000 (by omega))
      · intro p hp
        have etu : ((tu.toNat : Nat) : Int) = tu := by omega
        refine hread (1 - 2 * bk) p 2 tu.toNat _ _ _ _ _ _ hb (by decide) (by omega) ?_ (k3.new hp) (tt3.new hp)
        rw [etu]
        exact upd_same
end
end My
namespace My
open PySem L2
noncomputable def ndB : List Str → Bool
  | [] => true
  | x :: r => !(r.any fun y => x.cps.toList == y.cps.toList) && ndB r
theorem ndB_ok : ∀ {l : List Str}, ndB l = true → l.Nodup
  | [], _ => List.nodup_nil
  | x :: r, h => by
    unfold ndB at h
    rw [Bool.and_eq_true] at h
    refine List.nodup_cons.mpr ⟨fun m => ?_, ndB_ok h.2⟩
    have h1 := h.1
    rw [Bool.not_eq_true', List.any_eq_false] at h1
    exact h1 x m (by simp)
theorem names_all : ((List.range 3).all fun way => (List.range 26).all fun tu => ndB ((List.range 13).map (nmOf way tu)) && ((List.range 13).map (nmOf way tu)).all wordB) = true := by
  decide +kernel
theorem lone_all : ((List.range 3).all fun way => (List.range 26).all fun tu => ((List.range 13).map (nmOf way tu)).all fun x => !(x.cps.toList == ("lone" : Str).cps.toList) && !(x.cps.toList == ("lonely" : Str).cps.toList) && !(x.cps.toList == ("loneall" : Str).cps.toList)) = true := by
  decide +kernel
theorem NamesAre.lone {m : Nat} {ws : List Str} (h : NamesAre m ws) (hm : m ≤ 13) : ∀ x ∈ ws, x ≠ "lone" ∧ x ≠ "lonely" ∧ x ≠ "loneall" := by
  obtain ⟨way, tu, back, h1, h2, e⟩ := h
  have a := lone_all
  rw [List.all_eq_true] at a
  have a := a way (List.mem_range.mpr h1)
  rw [List.all_eq_true] at a
  have a := List.all_eq_true.mp (a tu (List.mem_range.mpr h2))
  have sub : ((List.range m).map (nmOf way tu)).Sublist ((List.range 13).map (nmOf way tu)) := List.Sublist.map _ (List.range_sublist.mpr hm)
  have wd : ∀ x ∈ (List.range m).map (nmOf way tu), x ≠ "lone" ∧ x ≠ "lonely" ∧ x ≠ "loneall" := fun x hx => by
    have b := a x (sub.subset hx)
    refine ⟨fun z => ?_, fun z => ?_, fun z => ?_⟩ <;> (rw [z] at b; revert b; decide +kernel)
  cases back with
  | false =>
    rw [if_neg (by decide)] at e
    subst e
    exact wd
  | true =>
    rw [if_pos rfl] at e
    subst e
    exact fun x hx => wd x (List.mem_reverse.mp hx)
theorem NamesAre.ok {m : Nat} {ws : List Str} (h : NamesAre m ws) (hm : m ≤ 13) : ws.length = m ∧ ws.Nodup ∧ ∀ x ∈ ws, wordB x = true := by
  obtain ⟨way, tu, back, h1, h2, e⟩ := h
  have a := names_all
  rw [List.all_eq_true] at a
  have a := a way (List.mem_range.mpr h1)
  rw [List.all_eq_true] at a
  have a := a tu (List.mem_range.mpr h2)
  rw [Bool.and_eq_true] at a
  have n13 := ndB_ok a.1
  have w13 := List.all_eq_true.mp a.2
  have sub : ((List.range m).map (nmOf way tu)).Sublist ((List.range 13).map (nmOf way tu)) := List.Sublist.map _ (List.range_sublist.mpr hm)
  have nd := n13.sublist sub
  have wd : ∀ x ∈ (List.range m).map (nmOf way tu), wordB x = true := fun x hx => w13 x (sub.subset hx)
  have ln : ((List.range m).map (nmOf way tu)).length = m := by rw [List.length_map, List.length_range]
  cases back with
  | false =>
    rw [if_neg (by decide)] at e
    subst e
    exact ⟨ln, nd, wd⟩
  | true =>
    rw [if_pos rfl] at e
    subst e
    exact ⟨by rw [List.length_reverse]; exact ln, (List.reverse_perm _).nodup_iff.mpr nd, fun x hx => wd x (List.mem_reverse.mp hx)⟩
structure Srt where
  name : Str
  downs : List Str
  ups : List Str
noncomputable def RepS (H : Hp) (s : Srt) (v : V) : Prop := ∃ a b c, v = .ref a ∧ H a = some (.tup [.str s.name, .ref b, .ref c]) ∧ H b = some (.tup (s.downs.map V.str)) ∧ H c = some (.tup (s.ups.map V.str))
theorem RepS.mono {H H' : Hp} (t : TK H H') {s : Srt} {v : V} : RepS H s v → RepS H' s v := fun ⟨a, b, c, e, h1, h2, h3⟩ => ⟨a, b, c, e, t _ _ h1, t _ _ h2, t _ _ h3⟩
noncomputable def Srt.ok (s : Srt) : Prop := (s.downs ++ s.ups).Nodup ∧ (∀ x ∈ s.downs ++ s.ups, wordB x = true) ∧ s.downs.length ≤ 3 ∧ s.ups.length ≤ 3 ∧ 1 ≤ s.downs.length + s.ups.length
noncomputable def RepSs (H : Hp) (ss : List Srt) (vs : List V) : Prop := Paired (RepS H) ss vs
theorem RepSs.mono {H H' : Hp} (t : TK H H') {ss : List Srt} {vs : List V} (h : RepSs H ss vs) : RepSs H' ss vs := Paired.mapP h fun _ _ r => r.mono t
theorem RepSs.len {H : Hp} {ss : List Srt} {vs : List V} (h : RepSs H ss vs) : ss.length = vs.length := Paired.length h
theorem paired_get {α β : Type} {F : α → β → Prop} : ∀ {l : List α} {r : List β} {i : Nat} {b : β}, Paired F l r → r[i]? = some b → ∃ a, l[i]? = some a ∧ F a b
  | _, _, i, b, .nil, e => by cases i <;> cases e
  | _, _, 0, b, .cons h _, e => ⟨_, rfl, by cases e; exact h⟩
  | _, _, i + 1, b, .cons _ t, e => paired_get (i := i) t e
noncomputable def SortsOk (ss : List Srt) : Prop := 1 ≤ ss.length ∧ ss.length ≤ 4 ∧ (ss.map Srt.name).Nodup ∧ (∀ s ∈ ss, wordB s.name = true ∧ s.name ≠ "lone") ∧ ∀ s ∈ ss, s.ok
theorem turned_ok {ws : List Str} (n : ws.Nodup) (w : ∀ x ∈ ws, wordB x = true) (hl : ws.length = 6) (k d u : Nat) (hd : d ≤ 3) (hu : u ≤ 3) (h1 : 1 ≤ d + u) (nm : Str) :
    (Srt.mk nm ((ws.drop k ++ ws.take k).take d) (((ws.drop k ++ ws.take k).drop d).take u)).ok := by
  have nt : (ws.drop k ++ ws.take k).Nodup := by
    have : (ws.drop k ++ ws.take k).Perm (ws.take k ++ ws.drop k) := List.perm_append_comm
    rw [List.take_append_drop] at this
    exact this.nodup_iff.mpr n
  have mt : ∀ x ∈ ws.drop k ++ ws.take k, wordB x = true := fun x hx => by
    rw [List.mem_append] at hx
    rcases hx with h | h
    · exact w x (List.mem_of_mem_drop h)
    · exact w x (List.mem_of_mem_take h)
  have lt : (ws.drop k ++ ws.take k).length = 6 := by rw [List.length_append, List.length_drop, List.length_take]; omega
  generalize ws.drop k ++ ws.take k = ts at nt mt lt
  have sub : (ts.take d ++ (ts.drop d).take u).Sublist ts := by
    have := List.take_append_drop d ts
    conv => rhs; rw [← this]
    exact List.Sublist.append (List.Sublist.refl _) (List.take_sublist _ _)
  refine ⟨nt.sublist sub, fun x hx => mt x (sub.subset hx), ?_, ?_, ?_⟩
  · show (ts.take d).length ≤ 3
    rw [List.length_take]; omega
  · show ((ts.drop d).take u).length ≤ 3
    rw [List.length_take]; omega
  · show 1 ≤ (ts.take d).length + ((ts.drop d).take u).length
    rw [List.length_take, List.length_take, List.length_drop]; omega
end My
namespace My
open PySem L2
theorem tp_ne {H : Hp} {tp p : Addr} (t : Tp H tp) (hp : H p = none) : p ≠ tp := fun e => by
  obtain ⟨t0, e0⟩ := t
  subst e
  rw [e0] at hp
  cases hp
section
variable {P : Program} {w : World} {K : PySem.W.Frag} {mg : Str → Option Value} {base : Heap} {f g f2 f3 : Addr} {fd gd fd2 fd3 : FuncData}
end
end My
namespace My
open PySem L2
noncomputable def TupAt (H : Hp) (ys : List V) (z : V) : Prop := ∃ a, z = .ref a ∧ H a = some (.tup ys)
noncomputable def Tups (H : Hp) (yss : List (List V)) (zs : List V) : Prop := Paired (TupAt H) yss zs
theorem Tups.mono {H H' : Hp} (t : TK H H') {yss : List (List V)} {zs : List V} (h : Tups H yss zs) : Tups H' yss zs := Paired.mapP h fun _ _ ⟨a, e, g⟩ => ⟨a, e, t _ _ g⟩
theorem Tups.len {H : Hp} {yss : List (List V)} {zs : List V} (h : Tups H yss zs) : yss.length = zs.length := Paired.length h
theorem Tups.append {H : Hp} : ∀ {a c : List (List V)} {b d : List V}, Tups H a b → Tups H c d → Tups H (a ++ c) (b ++ d)
  | _, _, _, _, .nil, h => h
  | _, _, _, _, .cons x t, h => .cons x (Tups.append t h)
theorem tk_of {H H' : Hp} (s : Same H H') : TK H H' := fun a xs h => s _ _ h
theorem comp_tups {K : PySem.W.Frag} {a : Addr} {xs : List V} {fr : List Nat} {te : TE} {σ : St} {H1 : Hp} {Q : VK} (hn : xs.length ≤ 1000) (ha : H1 a = some (.tup xs)) (g : V → List V)
    (hte : ∀ v H k, v ∈ xs → (∀ p, H p = none → k (.ref p) (upd H p (.tup (g v)))) → te (some v :: caps fr σ) H k)
    (hd : ∀ p zs H', H1 p = none → Same H1 H' → H' p = some (.lst zs) → Tups H' (xs.map g) zs → Q (.ref p) H') : tCompW fr te σ (Itt K a) H1 Q := by
  intro p hp
  refine ⟨fun i m zs H => i ≤ xs.length ∧ m = xs.length - i ∧ Same H1 H ∧ H p = some (.lst zs) ∧ zs.length = i ∧ Tups H ((xs.take i).map g) zs, ⟨_, Nat.zero_le _, rfl, same_new hp _, upd_same, rfl, .nil⟩, ?_⟩
  rintro i m zs H ⟨hi, hm, sm, gp, hz, hT⟩
  refine ⟨gp, ?_⟩
  by_cases e : i = xs.length
  · subst e
    rw [List.take_length] at hT
    exact .inl ⟨⟨xs, SqT.of (sm _ _ ha), Nat.le_refl _⟩, hd p zs H hp sm gp hT⟩
  · have hlt : i < xs.length := by omega
    refine .inr ⟨⟨xs, xs[i], SqT.of (sm _ _ ha), List.getElem?_eq_getElem hlt⟩, small1000 (by omega), fun v H' hv => ?_⟩
    obtain ⟨rfl, hv⟩ := hv
    have hv := hv xs (SqT.of (sm _ _ ha))
    refine hte v _ _ (List.mem_of_getElem? hv) fun q hq => ?_
    have s2 := same_new hq (.tup (g v))
    have gq : (upd H' q (.tup (g v))) q = some (.tup (g v)) := upd_same
    generalize upd H' q (.tup (g v)) = H2 at s2 gq ⊢
    have gp2 := s2 _ _ gp
    have tk : TK H2 (upd H2 p (.lst (zs ++ [.ref q]))) := TK.lst gp2
    refine ⟨gp2, xs.length - (i + 1), by omega, by omega, rfl, ?_, upd_same, by rw [List.length_append, hz]; rfl, ?_⟩
    · intro b o hb
      rw [upd_ne (ne_of_none hb hp)]
      exact s2 _ _ (sm _ _ hb)
    · rw [List.take_add_one, hv, List.map_append]
      exact Paired.snoc (hT.mono ((tk_of s2).trans tk)) ⟨q, rfl, tk _ _ gq⟩
theorem paired_take {α β : Type} {F : α → β → Prop} : ∀ {l : List α} {r : List β}, Paired F l r → ∀ n, Paired F (l.take n) (r.take n)
  | _, _, .nil, n => by rw [List.take_nil, List.take_nil]; exact .nil
  | _, _, .cons h t, 0 => .nil
  | _, _, .cons h t, n + 1 => .cons h (paired_take t n)
noncomputable def tgFrom (k : Int) : List Srt → List (Int × Str)
  | [] => []
  | q :: r => q.downs.map (fun x => (k, x)) ++ tgFrom (k + 1) r
noncomputable def tgts (o : Srt) (qs : List Srt) : List (Int × Str) := o.ups.map (fun x => (-1, x)) ++ tgFrom 0 qs
end My
namespace My
open PySem L2
noncomputable def SrtsAt (H : Hp) (a : Addr) (ss : List Srt) : Prop := ∃ xs, H a = some (.tup xs) ∧ RepSs H ss xs
theorem SrtsAt.mono {H H' : Hp} (t : TK H H') {a : Addr} {ss : List Srt} : SrtsAt H a ss → SrtsAt H' a ss := fun ⟨xs, h, r⟩ => ⟨xs, t _ _ h, r.mono t⟩
section
variable {P : Program} {w : World} {K : PySem.W.Frag} {mg : Str → Option Value} {base : Heap} {f g f2 f3 : Addr} {fd gd fd2 fd3 : FuncData}
end
end My
namespace My
open PySem L2
noncomputable def rdFrom (k : Int) : List Srt → List Fm
  | [] => []
  | q :: r => q.ups.map (fun x => Fm.part k x) ++ rdFrom (k + 1) r
noncomputable def fmV : Fm → List V
  | .own x => [.str "own", .str x]
  | .part k x => [.str "part", .int k, .str x]
  | _ => []
theorem rdFrom_len (k : Int) : ∀ (qs : List Srt), (∀ s ∈ qs, s.ok) → (rdFrom k qs).length ≤ 3 * qs.length := by
  intro qs
  induction qs generalizing k with
  | nil => intro _; exact Nat.le_refl _
  | cons q r ih =>
    intro h
    have h1 := ih (k + 1) fun s hs => h s (List.mem_cons_of_mem _ hs)
    have h2 := (h q List.mem_cons_self).2.2.2.1
    unfold rdFrom
    rw [List.length_append, List.length_map, List.length_cons]
    omega
theorem rdFrom_snoc (k : Int) : ∀ (qs : List Srt) (q : Srt), rdFrom k (qs ++ [q]) = rdFrom k qs ++ q.ups.map (fun x => Fm.part (k + qs.length) x) := by
  intro qs
  induction qs generalizing k with
  | nil => intro q; show q.ups.map (fun x => Fm.part k x) ++ [] = _; rw [List.append_nil]; show _ = q.ups.map (fun x => Fm.part (k + ((0 : Nat) : Int)) x); rw [show k + ((0 : Nat) : Int) = k by omega]
  | cons r rs ih =>
    intro q
    show r.ups.map _ ++ rdFrom (k + 1) (rs ++ [q]) = (r.ups.map _ ++ rdFrom (k + 1) rs) ++ _
    rw [ih, List.append_assoc]
    have : k + 1 + (rs.length : Int) = k + ((r :: rs).length : Int) := by rw [List.length_cons]; omega
    rw [this]
section
variable {P : Program} {w : World} {K : PySem.W.Frag} {mg : Str → Option Value} {base : Heap} {f g f2 f3 : Addr} {fd gd fd2 fd3 : FuncData}
end
end My
namespace My
open PySem L2
structure Rul where
  pl : Int
  word : Str
  fm : Fm
structure Frm where
  name : Str
  own : Srt
  parts : List Srt
  rules : List Rul
noncomputable def RepR (H : Hp) (r : Rul) (v : V) : Prop := ∃ a u, v = .ref a ∧ H a = some (.tup [.int r.pl, .str r.word, u]) ∧ Rep H r.fm u
theorem RepR.mono {H H' : Hp} (t : TK H H') {r : Rul} {v : V} : RepR H r v → RepR H' r v := fun ⟨a, u, e, h, p⟩ => ⟨a, u, e, t _ _ h, p.mono t⟩
noncomputable def RepRs (H : Hp) (rs : List Rul) (vs : List V) : Prop := Paired (RepR H) rs vs
theorem RepRs.mono {H H' : Hp} (t : TK H H') {rs : List Rul} {vs : List V} (h : RepRs H rs vs) : RepRs H' rs vs := Paired.mapP h fun _ _ r => r.mono t
theorem RepRs.len {H : Hp} {rs : List Rul} {vs : List V} (h : RepRs H rs vs) : rs.length = vs.length := Paired.length h
noncomputable def partsV (qs : List Srt) : List V := qs.map fun q => V.str (Srt.name q)
noncomputable def RepF (H : Hp) (fr : Frm) (v : V) : Prop := ∃ a pa ra rv, v = .ref a ∧ H a = some (.tup [.str fr.name, .str fr.own.name, .ref pa, .ref ra]) ∧ H pa = some (.tup (partsV fr.parts)) ∧ H ra = some (.tup rv) ∧ RepRs H fr.rules rv
theorem RepF.mono {H H' : Hp} (t : TK H H') {fr : Frm} {v : V} : RepF H fr v → RepF H' fr v := fun ⟨a, pa, ra, rv, e, h1, h2, h3, h4⟩ => ⟨a, pa, ra, rv, e, t _ _ h1, t _ _ h2, t _ _ h3, h4.mono t⟩
noncomputable def leafOk : Fm → Prop
  | .own x => wordB x = true
  | .part k x => (0 ≤ k ∧ k ≤ 2) ∧ wordB x = true
  | _ => False
theorem rdFrom_mem {k : Int} : ∀ {qs : List Srt} {f : Fm}, f ∈ rdFrom k qs → ∃ j x, f = .part j x ∧ k ≤ j ∧ j < k + qs.length ∧ ∃ q ∈ qs, x ∈ q.ups := by
  intro qs
  induction qs generalizing k with
  | nil => intro t h; cases h
  | cons q r ih =>
    intro t h
    unfold rdFrom at h
    rw [List.mem_append] at h
    rcases h with h | h
    · obtain ⟨x, hx, rfl⟩ := List.mem_map.mp h
      exact ⟨k, x, rfl, Int.le_refl _, by rw [List.length_cons]; omega, q, List.mem_cons_self, hx⟩
    · obtain ⟨j, x, e, h1, h2, q', h3, h4⟩ := ih h
      exact ⟨j, x, e, by omega, by rw [List.length_cons]; omega, q', List.mem_cons_of_mem _ h3, h4⟩
theorem paired_mem {α β : Type} {F : α → β → Prop} : ∀ {l : List α} {r : List β} {b : β}, Paired F l r → b ∈ r → ∃ a ∈ l, F a b := fun {l r b} h m => by
  obtain ⟨i, hi⟩ := List.getElem?_of_mem m
  obtain ⟨a, ha, f⟩ := paired_get h hi
  exact ⟨a, List.mem_of_getElem? ha, f⟩
theorem leaf_rep {H : Hp} {f : Fm} {v : V} (hl : leafOk f) (h : TupAt H (fmV f) v) : Rep H f v ∧ f.size = 1 := by
  obtain ⟨a, rfl, ha⟩ := h
  cases f with
  | own x => exact ⟨⟨a, rfl, ha⟩, rfl⟩
  | part k x => exact ⟨⟨a, rfl, ha⟩, rfl⟩
  | num n => exact hl.elim
  | bin op x y => exact hl.elim
  | whn x y z => exact hl.elim
theorem leaf_wfp {ρ : Fm → Prop} {f : Fm} (hl : leafOk f) (h : ρ f) : f.wfp ρ := by
  cases f with
  | own x => exact ⟨hl, h⟩
  | part k x => exact ⟨hl, h⟩
  | num n => exact hl.elim
  | bin op x y => exact hl.elim
  | whn x y z => exact hl.elim
section
variable {P : Program} {w : World} {K : PySem.W.Frag} {mg : Str → Option Value} {base : Heap} {f g f2 f3 : Addr} {fd gd fd2 fd3 : FuncData}
end
end My
namespace My
open PySem L2
structure Bk where
  wheel : Int
  sorts : List Srt
  forms : List Frm
noncomputable def RepFs (H : Hp) (fs : List Frm) (vs : List V) : Prop := Paired (RepF H) fs vs
theorem RepFs.mono {H H' : Hp} (t : TK H H') {fs : List Frm} {vs : List V} (h : RepFs H fs vs) : RepFs H' fs vs := Paired.mapP h fun _ _ r => r.mono t
theorem RepFs.len {H : Hp} {fs : List Frm} {vs : List V} (h : RepFs H fs vs) : fs.length = vs.length := Paired.length h
noncomputable def RepB (H : Hp) (b : Bk) (v : V) : Prop := ∃ a sa fa fv, v = .ref a ∧ H a = some (.tup [.int b.wheel, .ref sa, .ref fa]) ∧ SrtsAt H sa b.sorts ∧ H fa = some (.tup fv) ∧ RepFs H b.forms fv
theorem SqL.keep {K : PySem.W.Frag} {H H' : Hp} {a : Addr} {xs : List V} (h : SqL K H a xs) (k : ∀ o, H a = some o → H' a = some o) : SqL K H' a xs := by
  rcases h with (h | ⟨o, h⟩) | h
  · exact .inl (.inl (k _ h))
  · exact .inl (.inr ⟨o, k _ h⟩)
  · exact .inr h
noncomputable def rLen (K : PySem.W.Frag) : List V → Hp → VK → Prop := fun xs H Q => ∃ p ys, xs = [.ref p] ∧ (SqL K H p ys ∨ SqT K H p ys) ∧ Q (.int ys.length) H
noncomputable def forBody (s : Stmt) : List Stmt := match s with
  | .For _ _ b _ _ => b
  | _ => []
section
variable {P : Program} {w : World} {K : PySem.W.Frag} {mg : Str → Option Value} {base : Heap} {f g f2 f3 f4 f5 : Addr} {fd gd fd2 fd3 fd4 fd5 : FuncData}
end
end My
namespace My
open PySem L2
theorem many_at {d : Int} (h0 : 0 ≤ d) (h1 : d < 5) : ∃ m : Int, atI [V.int 2, .int 1, .int 3, .int 2, .int 0] d = some (.int m) ∧ 0 ≤ m ∧ m ≤ 3 := by
  have h5 : d = 0 ∨ d = 1 ∨ d = 2 ∨ d = 3 ∨ d = 4 := by omega
  rcases h5 with h | h | h | h | h <;> subst h <;> exact ⟨_, rfl, by decide, by decide⟩
section
variable {P : Program} {w : World} {K : PySem.W.Frag} {mg : Str → Option Value} {base : Heap} {f g f2 f3 f4 f5 : Addr} {fd gd fd2 fd3 fd4 fd5 : FuncData}
end
end My
namespace My
open PySem L2
end My
namespace My
open PySem L2
structure BkS (bk : Bk) : Prop where
  few : bk.forms.length ≤ 10
  nd : (bk.forms.map Frm.name).Nodup
  s4 : bk.sorts.length ≤ 4
  sd : (bk.sorts.map Srt.name).Nodup
  ws : ∀ s ∈ bk.sorts, s.downs.length ≤ 3 ∧ s.ups.length ≤ 3 ∧ (s.downs ++ s.ups).Nodup ∧ ∀ x ∈ s.downs ++ s.ups, x.length ≤ 1000
  fo : ∀ fr ∈ bk.forms, fr.own ∈ bk.sorts ∧ (∀ q ∈ fr.parts, q ∈ bk.sorts) ∧ fr.parts.length ≤ 3 ∧ fr.rules.map (fun r => (r.pl, r.word)) = tgts fr.own fr.parts ∧ ∀ r ∈ fr.rules, r.fm.wf ∧ r.fm.size ≤ 15
theorem tgFrom_le {k : Int} : ∀ {qs : List Srt}, (∀ q ∈ qs, q.downs.length ≤ 3) → (tgFrom k qs).length ≤ 3 * qs.length
  | [], _ => Nat.le_refl _
  | q :: r, h => by
    have h1 := tgFrom_le (k := k + 1) (qs := r) fun x hx => h x (List.mem_cons_of_mem _ hx)
    have h2 := h q List.mem_cons_self
    show (q.downs.map (fun x => (k, x)) ++ tgFrom (k + 1) r).length ≤ _
    rw [List.length_append, List.length_map, List.length_cons]
    omega
theorem BkS.rules12 {bk : Bk} (h : BkS bk) {fr : Frm} (m : fr ∈ bk.forms) : fr.rules.length ≤ 12 := by
  obtain ⟨h1, h2, h3, h4, _⟩ := h.fo fr m
  have e := congrArg List.length h4
  rw [List.length_map] at e
  have h5 := tgFrom_le (k := 0) (qs := fr.parts) fun q hq => (h.ws q (h2 q hq)).1
  have h6 := (h.ws _ h1).2.1
  have h7 : (tgts fr.own fr.parts).length = fr.own.ups.length + (tgFrom 0 fr.parts).length := by
    unfold tgts
    rw [List.length_append, List.length_map]
  omega
end My
namespace My
open PySem L2
theorem comp_prS {J : It} {α : Type} {as : List α} {A : α → V → Prop} {xs : List V} {fr : List Nat} {te : TE} {σ : St} {H1 : Hp} {Q : VK} (hn : xs.length ≤ 1000) (hP : Paired A as xs)
    (hgo : ∀ i H, Same H1 H → i < xs.length → J.go i H) (hst : ∀ H, Same H1 H → J.stop xs.length H) (hy : ∀ i H v H', Same H1 H → J.yld i H v H' → H' = H ∧ xs[i]? = some v)
    (R : Hp → α → V → Prop) (mono : ∀ {H H' : Hp} {a : α} {v : V}, TK H H' → R H a v → R H' a v)
    (hte : ∀ a v H (k : VK), a ∈ as → A a v → Same H1 H → (∀ u H', Same H H' → R H' a u → k u H') → te (some v :: caps fr σ) H k)
    (hd : ∀ p zs H', H1 p = none → Same H1 H' → H' p = some (.lst zs) → Paired (R H') as zs → Q (.ref p) H') : tCompW fr te σ J H1 Q := by
  intro p hp
  have hl : as.length = xs.length := Paired.length hP
  refine ⟨fun i m zs H => i ≤ xs.length ∧ m = xs.length - i ∧ Same H1 H ∧ H p = some (.lst zs) ∧ zs.length = i ∧ Paired (R H) (as.take i) zs, ⟨_, Nat.zero_le _, rfl, same_new hp _, upd_same, rfl, .nil⟩, ?_⟩
  rintro i m zs H ⟨hi, hm, sm, gp, hz, hT⟩
  refine ⟨gp, ?_⟩
  by_cases e : i = xs.length
  · subst e
    rw [← hl, List.take_length] at hT
    exact .inl ⟨hst H sm, hd p zs H hp sm gp hT⟩
  · have hlt : i < xs.length := by omega
    refine .inr ⟨hgo i H sm hlt, small1000 (by omega), fun v H' hv => ?_⟩
    obtain ⟨rfl, hv2⟩ := hy i H v H' sm hv
    obtain ⟨a, ha, hA⟩ := paired_get hP hv2
    refine hte a v _ _ (List.mem_of_getElem? ha) hA sm fun u H2 s2 r => ?_
    have gp2 := s2 _ _ gp
    have tk : TK H2 (upd H2 p (.lst (zs ++ [u]))) := TK.lst gp2
    refine ⟨gp2, xs.length - (i + 1), by omega, by omega, rfl, ?_, upd_same, by rw [List.length_append, hz]; rfl, ?_⟩
    · intro b o hb
      rw [upd_ne (ne_of_none hb hp)]
      exact s2 _ _ (sm _ _ hb)
    · rw [List.take_add_one, ha]
      exact Paired.snoc (Paired.mapP hT fun _ _ r => mono ((tk_of s2).trans tk) r) (mono tk r)
theorem compT_S {α : Type} {J : It} {as : List α} {xs : List V} {A : α → V → Prop} {fr : List Nat} {tc : TT} {te : TE} {σ : St} {H1 : Hp} {Q : VK} (hn : xs.length ≤ 1000) (hP : Paired A as xs)
    (hgo : ∀ i H, Same H1 H → i < xs.length → J.go i H) (hst : ∀ H, Same H1 H → J.stop xs.length H) (hy : ∀ i H v H', Same H1 H → J.yld i H v H' → H' = H ∧ xs[i]? = some v)
    (c : α → Bool) (R : Hp → α → V → Prop) (mono : ∀ {H H' : Hp} {a : α} {v : V}, TK H H' → R H a v → R H' a v)
    (htc : ∀ a v H (k : Bool → Hp → Prop), a ∈ as → A a v → Same H1 H → (∀ H', Same H H' → k (c a) H') → tc (some v :: caps fr σ) H k)
    (hte : ∀ a v H (k : VK), a ∈ as → A a v → c a = true → Same H1 H → (∀ u H', Same H H' → R H' a u → k u H') → te (some v :: caps fr σ) H k)
    (hd : ∀ p zs H', H1 p = none → Same H1 H' → H' p = some (.lst zs) → Paired (R H') (as.filter c) zs → Q (.ref p) H') : tCompWT fr tc te σ J H1 Q := by
  intro p hp
  refine ⟨fun i m zs H => i ≤ xs.length ∧ m = xs.length - i ∧ Same H1 H ∧ H p = some (.lst zs) ∧ zs.length ≤ i ∧ Paired (R H) ((as.take i).filter c) zs, ⟨_, Nat.zero_le _, rfl, same_new hp _, upd_same, Nat.le_refl _, .nil⟩, ?_⟩
  rintro i m zs H ⟨hi, hm, sm, gp, hz, hT⟩
  refine ⟨gp, ?_⟩
  by_cases e : i = xs.length
  · subst e
    rw [← Paired.length hP, List.take_length] at hT
    exact .inl ⟨hst H sm, hd p zs H hp sm gp hT⟩
  · have hlt : i < xs.length := by omega
    refine .inr ⟨hgo i H sm hlt, small1000 (by omega), fun v H' hv => ?_⟩
    obtain ⟨rfl, hv2⟩ := hy i H v H' sm hv
    obtain ⟨a, ha, hA⟩ := paired_get hP hv2
    have etk : (as.take (i + 1)).filter c = (as.take i).filter c ++ (if c a then [a] else []) := by
      rw [List.take_add_one, ha, List.filter_append]
      congr 1
      show List.filter c [a] = _
      by_cases hc : c a = true
      · rw [if_pos hc, List.filter_cons_of_pos hc]; rfl
      · rw [if_neg hc, List.filter_cons_of_neg hc]; rfl
    refine htc a v _ _ (List.mem_of_getElem? ha) hA sm fun H0 s0 => ?_
    have sm0 := sm.trans s0
    have gp0 := s0 _ _ gp
    by_cases hc : c a = true
    · rw [if_pos hc] at etk
      rw [if_pos hc]
      refine hte a v _ _ (List.mem_of_getElem? ha) hA hc sm0 fun u H2 s2 r => ?_
      have gp2 := s2 _ _ gp0
      have tk : TK H2 (upd H2 p (.lst (zs ++ [u]))) := TK.lst gp2
      refine ⟨gp2, xs.length - (i + 1), by omega, by omega, rfl, ?_, upd_same, by rw [List.length_append]; show zs.length + 1 ≤ i + 1; omega, ?_⟩
      · intro b o hb
        rw [upd_ne (ne_of_none hb hp)]
        exact s2 _ _ (sm0 _ _ hb)
      · rw [etk]
        exact Paired.snoc (Paired.mapP hT fun _ _ r => mono ((tk_of (s0.trans s2)).trans tk) r) (mono tk r)
    · rw [if_neg hc, List.append_nil] at etk
      rw [if_neg hc]
      exact ⟨xs.length - (i + 1), by omega, by omega, rfl, sm0, gp0, by omega, by rw [etk]; exact Paired.mapP hT fun _ _ r => mono (tk_of s0) r⟩
theorem itl_goS {K : PySem.W.Frag} {a : Addr} {xs : List V} {H1 : Hp} (ha : H1 a = some (.lst xs)) : ∀ i H, Same H1 H → i < xs.length → (Itl K a).go i H := fun i H s h => ⟨xs, xs[i], SqL.of (s _ _ ha), List.getElem?_eq_getElem h⟩
theorem itl_stS {K : PySem.W.Frag} {a : Addr} {xs : List V} {H1 : Hp} (ha : H1 a = some (.lst xs)) : ∀ H, Same H1 H → (Itl K a).stop xs.length H := fun H s => ⟨xs, SqL.of (s _ _ ha), Nat.le_refl _⟩
theorem itl_yS {K : PySem.W.Frag} {a : Addr} {xs : List V} {H1 : Hp} (ha : H1 a = some (.lst xs)) : ∀ i H v H', Same H1 H → (Itl K a).yld i H v H' → H' = H ∧ xs[i]? = some v := fun i H v H' s hv => ⟨hv.1, by obtain ⟨rfl, hv⟩ := hv; exact hv xs (SqL.of (s _ _ ha))⟩
theorem itt_goS {K : PySem.W.Frag} {a : Addr} {xs : List V} {H1 : Hp} (ha : H1 a = some (.tup xs)) : ∀ i H, Same H1 H → i < xs.length → (Itt K a).go i H := fun i H s h => ⟨xs, xs[i], SqT.of (s _ _ ha), List.getElem?_eq_getElem h⟩
theorem itt_stS {K : PySem.W.Frag} {a : Addr} {xs : List V} {H1 : Hp} (ha : H1 a = some (.tup xs)) : ∀ H, Same H1 H → (Itt K a).stop xs.length H := fun H s => ⟨xs, SqT.of (s _ _ ha), Nat.le_refl _⟩
theorem itt_yS {K : PySem.W.Frag} {a : Addr} {xs : List V} {H1 : Hp} (ha : H1 a = some (.tup xs)) : ∀ i H v H', Same H1 H → (Itt K a).yld i H v H' → H' = H ∧ xs[i]? = some v := fun i H v H' s hv => ⟨hv.1, by obtain ⟨rfl, hv⟩ := hv; exact hv xs (SqT.of (s _ _ ha))⟩
theorem paired_fn {α : Type} {g : α → V} : ∀ {l : List α} {zs : List V}, Paired (fun a v => v = g a) l zs → zs = l.map g
  | _, _, .nil => rfl
  | _, _, .cons h t => by rw [h, paired_fn t]; rfl
end My
namespace My
open PySem L2
noncomputable def toldB (fr : Frm) : Fm → Prop
  | .own x => x ∈ fr.own.downs ++ fr.own.ups
  | .part k x => ∃ (j : Nat) (q : Srt), k = (j : Int) ∧ fr.parts[j]? = some q ∧ x ∈ q.downs ++ q.ups
  | _ => True
noncomputable def Fm.prt : Fm → List Int
  | .num _ => []
  | .own _ => []
  | .part k _ => [k]
  | .bin _ a b => a.prt ++ b.prt
  | .whn a b c => a.prt ++ (b.prt ++ c.prt)
noncomputable def Fm.lvl : Fm → Prop
  | .num _ => True
  | .own _ => False
  | .part _ _ => True
  | .bin op a b => a.lvl ∧ b.lvl ∧ (op = "times" → ∀ k ∈ a.prt, k ∉ b.prt)
  | .whn _ _ _ => False
structure BkV (bk : Bk) : Prop where
  s : BkS bk
  wh : bk.wheel = 0 ∨ (2 ≤ bk.wheel ∧ bk.wheel ≤ 10 ^ 30)
  s1 : 1 ≤ bk.sorts.length
  f1 : 1 ≤ bk.forms.length
  sw : ∀ s ∈ bk.sorts, wordB s.name = true ∧ ∀ x ∈ s.downs ++ s.ups, wordB x = true
  fw : ∀ fr ∈ bk.forms, wordB fr.name = true
  rd : ∀ fr ∈ bk.forms, ∀ r ∈ fr.rules, r.fm.wfp (toldB fr)
end My
namespace My
open PySem L2
noncomputable def LvP (ρ : Fm → Prop) (H : Hp) (rs : List V) : Prop := ∀ v ∈ rs, ∃ k x, Rep H (.part k x) v ∧ (Fm.part k x).wfp ρ
theorem LvP.mono {ρ : Fm → Prop} {H H' : Hp} (t : TK H H') {rs : List V} (h : LvP ρ H rs) : LvP ρ H' rs := fun v hv => by
  obtain ⟨k, x, r, w⟩ := h v hv
  exact ⟨k, x, r.mono t, w⟩
theorem LvP.leafs {ρ : Fm → Prop} {H : Hp} {rs : List V} (h : LvP ρ H rs) : LvsP ρ H rs := fun v hv => by
  obtain ⟨k, x, r, w⟩ := h v hv
  exact ⟨_, r, w, rfl⟩
theorem wfp_prt {ρ : Fm → Prop} {S : Int → Prop} (hS : ∀ k x, ρ (.part k x) → S k) : ∀ {f : Fm}, f.wfp ρ → ∀ k ∈ f.prt, S k
  | .num _, _, k, h => by cases h
  | .own _, _, k, h => by cases h
  | .part j x, w, k, h => by rw [List.mem_singleton.mp h]; exact hS j x w.2
  | .bin _ a b, w, k, h => by
    rcases List.mem_append.mp h with h | h
    · exact wfp_prt hS w.2.1 k h
    · exact wfp_prt hS w.2.2 k h
  | .whn a b c, w, k, h => by
    rcases List.mem_append.mp h with h | h
    · exact wfp_prt hS w.1 k h
    · rcases List.mem_append.mp h with h | h
      · exact wfp_prt hS w.2.1 k h
      · exact wfp_prt hS w.2.2 k h
theorem wfp_imp {ρ τ : Fm → Prop} (hS : ∀ f, ρ f → τ f) : ∀ {f : Fm}, f.wfp ρ → f.wfp τ
  | .num _, h => h
  | .own _, h => ⟨h.1, hS _ h.2⟩
  | .part _ _, h => ⟨h.1, hS _ h.2⟩
  | .bin _ _ _, h => ⟨h.1, wfp_imp hS h.2.1, wfp_imp hS h.2.2⟩
  | .whn _ _ _, h => ⟨wfp_imp hS h.1, wfp_imp hS h.2.1, wfp_imp hS h.2.2⟩
theorem leaf_lvl {ρ : Fm → Prop} (hno : ∀ x, ¬ ρ (.own x)) {f : Fm} (w : f.wfp ρ) (h : f.size = 1) : f.lvl := by
  cases f with
  | num _ => trivial
  | own x => exact (hno x w.2).elim
  | part _ _ => trivial
  | bin _ a b => have := a.size_pos; have : a.size + b.size + 1 = 1 := h; omega
  | whn a b c => have := a.size_pos; have : a.size + b.size + c.size + 1 = 1 := h; omega
noncomputable def spLvF (n : Nat) (ρ : Fm → Prop) : Sp := fun vs H Q _ => ∃ (tp rl sg : Addr) (rs : List V) (room : Int) (ss : List Str), vs = [.ref tp, .ref rl, .int room, .ref sg] ∧ Tp H tp ∧ rl ≠ tp ∧ sg ≠ tp ∧ H rl = some (.lst rs) ∧ rs.length ≤ 1000 ∧ LvP ρ H rs ∧
  H sg = some (.lst (ss.map V.str)) ∧ 1 ≤ ss.length ∧ ss.length ≤ 1000 ∧ (∀ x ∈ ss, x ∈ ops) ∧ 1 ≤ room ∧ room ≤ (n : Int) ∧ room ≤ 1000 ∧ ∀ v f H', Rep H' f v → f.wfp ρ → f.lvl → (f.size : Int) ≤ 2 * room - 1 → Kp tp H H' → Tp H' tp → Q v H'
theorem kp_dig (tp : Addr) (H : Hp) (o : HO) : Kp tp H (upd H tp o) := fun b u h hb => by rw [upd_ne hb]; exact h
theorem kp_of {tp : Addr} {H H' : Hp} (s : Same H H') : Kp tp H H' := fun b u h _ => s _ _ h
theorem lv_ks {ρ : Fm → Prop} {H : Hp} : ∀ {rs : List V}, LvP ρ H rs → ∃ ks : List Int, Paired (fun (k : Int) v => ∃ x, Rep H (.part k x) v ∧ (Fm.part k x).wfp ρ) ks rs
  | [], _ => ⟨[], .nil⟩
  | v :: r, h => by
    obtain ⟨ks, hk⟩ := lv_ks (rs := r) fun u hu => h u (List.mem_cons_of_mem _ hu)
    obtain ⟨k, x, hR, hw⟩ := h v List.mem_cons_self
    exact ⟨k :: ks, .cons ⟨x, hR, hw⟩ hk⟩
theorem ks_lv {ρ : Fm → Prop} {S : Int → Prop} {H : Hp} : ∀ {ks : List Int} {zs : List V}, Paired (fun (k : Int) v => ∃ x, Rep H (.part k x) v ∧ (Fm.part k x).wfp ρ) ks zs → (∀ k ∈ ks, S k) → LvP (fun g => ρ g ∧ ∀ k x, g = .part k x → S k) H zs
  | _, _, .nil, _, v, hv => by cases hv
  | _, _, .cons ⟨x, hR, hw⟩ t, hS, v, hv => by
    rcases List.mem_cons.mp hv with e | e
    · subst e
      exact ⟨_, x, hR, hw.1, hw.2, fun k y z => by cases z; exact hS _ List.mem_cons_self⟩
    · exact ks_lv t (fun k hk => hS k (List.mem_cons_of_mem _ hk)) v e
theorem FnOk.exA {P : Program} {w : World} {K : PySem.W.Frag} {mg : Str → Option Value} {base : Heap} {CX : CXT} {k : Nat} {f : Addr} {fd : FuncData} {ps : List Str} {α : Type} {sp : α → Sp} (h : ∀ a, FnOk P w K mg base CX k f fd ps (sp a)) : FnOk P w K mg base CX k f fd ps (fun vs H Q E => ∃ a, sp a vs H Q E) :=
  ⟨fun vs H Q E ⟨a, z⟩ => (h a).len vs H Q E z, fun A o s H args us vs Q E r e b v ⟨a, z⟩ => (h a).run A o s H args us vs Q E r e b v z⟩
noncomputable def spLvA (n : Nat) : Sp := fun vs H Q E => ∃ ρ : Fm → Prop, (∀ x, ¬ ρ (.own x)) ∧ spLvF n ρ vs H Q E
noncomputable def spLeafA : Sp := fun vs H Q E => ∃ ρ : Fm → Prop, spLeafP ρ vs H Q E
section
variable {P : Program} {w : World} {K : PySem.W.Frag} {mg : Str → Option Value} {base : Heap} {f f2 f3 : Addr} {fd fd2 fd3 : FuncData}
noncomputable abbrev NLvF : List Str := ["tape", "readings", "room", "signs", "left", "sign", "one", "cut", "some", "others", "other"]
theorem scLvF : FnScope NLvF ["tape", "readings", "room", "signs"] (defScope sLvFormula) := ⟨rfl, rfl, rfl, by decide +kernel, rfl, by decide +kernel, by decide +kernel⟩
theorem ok_lvF1 {n : Nat} (F : Fun K "_law_level_formula" "_law_level_formula" sLvFormula f fd) (G : Gb mg)
    (GD : FnOk P w K mg base CX0 1 f2 fd2 ["tape", "many"] spDigit) (bD : Binds K fd2 ["tape", "many"] []) (kD : PySem.W.keepIn K (.ref f2) = true) (mD : mg "_law_digit" = some (.ref f2))
    (GL : FnOk P w K mg base CX0 3 f3 fd3 ["tape", "readings"] spLeafA) (bL : Binds K fd3 ["tape", "readings"] []) (kL : PySem.W.keepIn K (.ref f3) = true) (mL : mg "_law_leaf" = some (.ref f3))
    (GS : FnOk P w K mg base CX0 (n + 3) f fd ["tape", "readings", "room", "signs"] (spLvA n)) (bS : Binds K fd ["tape", "readings", "room", "signs"] []) (mS : mg "_law_level_formula" = some (.ref f)) :
    FnOk P w K mg base CX0 (n + 4) f fd ["tape", "readings", "room", "signs"] (spLvA (n + 1)) := by
  refine F.ok scLvF (fun vs H Q E h => ?_) (fun cdv A outer s H vs Q E hr h => ?_)
  · obtain ⟨ρ, _, tp, rl, sg, rs, room, ss, rfl, _⟩ := h
    rfl
  obtain ⟨ρ, hno, tp, rl, sg, rs, room, ss, rfl, ht, n1, n2, hrl, hrs, hlv, hsg, hs1, hs2, hso, h1, h2, h3, q⟩ := h
  have hr1 := hr.mono (show 1 ≤ n + 3 by omega)
  have hr3 := hr.mono (show 3 ≤ n + 3 by omega)
  refine ⟨_, pss_cons (ps_if (PW.pt (pw_or (pt_cmpR op_lt (pv 2) pe_int (nomark _)) (pw_or1 (pt_cmpR op_eq (pe_call GD hr1 rfl mD kD bD .nil pass0 (pa_cons (pv 0) (pa_cons pe_int pa_nil))) pe_int (nomark _)))))
      (pss_one (ps_ret (pe_call GL hr3 rfl mL kL bL .nil pass0 (pa_cons (pv 0) (pa_cons (pv 1) pa_nil))))) pss_nil)
    (pss_cons (ps_set (i := 4) scLvF.nd rfl (Or.inl rfl) (pe_op op_add pe_int (pe_call GD hr1 rfl mD kD bD .nil pass0 (pa_cons (pv 0) (pa_cons (pe_op op_sub (pv 2) pe_int) pa_nil)))))
    (pss_cons (ps_set (i := 5) scLvF.nd rfl (Or.inl rfl) (pe_ix ix_list (pv 3) (pe_call GD hr1 rfl mD kD bD .nil pass0 (pa_cons (pv 0) (pa_cons (pe_callB call_len_seq rfl G.len PySem.boot_len (pa_cons (pv 3) pa_nil)) pa_nil))) (fun _ _ => rfl)))
    (pss_cons (ps_if (pt_cmpR op_ne (pv 5) pe_str (nomark _))
      (pss_cons (ps_set (i := 6) scLvF.nd rfl (Or.inl rfl) (pe_call GS hr rfl mS F.kp bS .nil pass0 (pa_cons (pv 0) (pa_cons (pv 1) (pa_cons (pv 4) (pa_cons (pv 3) pa_nil))))))
      (pss_one (ps_ret (pe_tup (pa_cons (pv 5) (pa_cons (pv 6) (pa_cons (pe_call GS hr rfl mS F.kp bS .nil pass0 (pa_cons (pv 0) (pa_cons (pv 1) (pa_cons (pe_op op_sub (pv 2) (pv 4)) (pa_cons (pv 3) pa_nil))))) pa_nil))))))) pss_nil)
    (pss_cons (ps_set (i := 7) scLvF.nd rfl (Or.inr rfl) (pe_call GD hr1 rfl mD kD bD .nil pass0 (pa_cons (pv 0) (pa_cons pe_int pa_nil))))
    (pss_cons (ps_setCT (i := 8) (sc0 := defScope sLvFormula) (N0 := NLvF) (ys := ["cut"]) (fr := [7]) rfl scLvF.nd rfl (Or.inl rfl) (pi_list (pv 1)) rfl rfl
        ⟨rfl, by decide +kernel, by decide +kernel, by decide +kernel, by decide +kernel, by decide +kernel, rfl, by decide +kernel⟩
        (fun C s H ex => pt_cmpR op_eq (pe_ix (r := rIxT K) ix_tup (pv 0) pe_int (fun _ _ => rfl)) (pv 1) (nomark _)) (fun C s H ex => pv 0))
    (pss_cons (ps_setCT (i := 9) (sc0 := defScope sLvFormula) (N0 := NLvF) (ys := ["cut"]) (fr := [7]) rfl scLvF.nd rfl (Or.inl rfl) (pi_list (pv 1)) rfl rfl
        ⟨rfl, by decide +kernel, by decide +kernel, by decide +kernel, by decide +kernel, by decide +kernel, rfl, by decide +kernel⟩
        (fun C s H ex => pt_cmpR op_ne (pe_ix (r := rIxT K) ix_tup (pv 0) pe_int (fun _ _ => rfl)) (pv 1) (nomark _)) (fun C s H ex => pv 0))
    (pss_cons (ps_set (i := 6) scLvF.nd rfl (Or.inl rfl) (pe_call GS hr rfl mS F.kp bS .nil pass0 (pa_cons (pv 0) (pa_cons (pv 8) (pa_cons (pv 4) (pa_cons (pv 3) pa_nil))))))
    (pss_cons (ps_set (i := 10) scLvF.nd rfl (Or.inl rfl) (pe_call GS hr rfl mS F.kp bS .nil pass0 (pa_cons (pv 0) (pa_cons (pv 9) (pa_cons (pe_op op_sub (pv 2) (pv 4)) (pa_cons (pv 3) pa_nil))))))
    (pss_one (ps_ret (pe_ix ix_list (pe_lst (pa_cons (pe_tup (pa_cons pe_str (pa_cons (pv 6) (pa_cons (pv 10) pa_nil)))) (pa_cons (pe_tup (pa_cons pe_str (pa_cons (pv 10) (pa_cons (pv 6) pa_nil)))) pa_nil))) (pe_call GD hr1 rfl mD kD bD .nil pass0 (pa_cons (pv 0) (pa_cons pe_int pa_nil))) (fun _ _ => rfl)))))))))))), ?_⟩
  have hsl : (ss.map V.str).length = ss.length := List.length_map _
  refine ⟨_, rfl, room, 2, rfl, rfl, _, rfl, ?_⟩
  refine ite2 (fun c => iteT ?_) (fun c => ?_)
  · exact ⟨_, rfl, _, rfl, ρ, tp, rl, rs, rfl, ht, n1, hrl, hrs, hlv.leafs, fun v g H2 hR hw hz k2 t2 => q v g H2 hR hw (leaf_lvl hno hw hz) (by rw [hz]; omega) k2 t2⟩
  have hroom : 2 ≤ room := by
    have : ¬ room < 2 := fun z => c (decide_eq_true z)
    omega
  refine ⟨_, rfl, tp, 5, rfl, ht, by decide, by decide, fun d t d0 d1 => ?_⟩
  have k1 : Kp tp H (upd H tp (.lst [.int t])) := kp_dig _ _ _
  have t1 : Tp (upd H tp (.lst [.int t])) tp := ⟨t, upd_same⟩
  generalize upd H tp (.lst [.int t]) = H1 at k1 t1 ⊢
  refine ⟨rfl, _, rfl, ?_⟩
  refine ite2 (fun c1 => ?_) (fun c1 => ?_)
  · exact ⟨_, rfl, _, rfl, ρ, tp, rl, rs, rfl, t1, n1, k1 _ _ hrl n1, hrs, (hlv.mono (k1.tk ht)).leafs, fun v g H2 hR hw hz k2 t2 => q v g H2 hR hw (leaf_lvl hno hw hz) (by rw [hz]; omega) (k1.trans k2) t2⟩
  refine ⟨_, rfl, _, rfl, room, 1, rfl, rfl, tp, room - 1, rfl, t1, by omega, by omega, fun d2 u2 e0 e1 => ?_⟩
  have k2 := k1.trans (kp_dig tp H1 (.lst [.int u2]))
  have t2 : Tp (upd H1 tp (.lst [.int u2])) tp := ⟨u2, upd_same⟩
  generalize upd H1 tp (.lst [.int u2]) = H2 at k2 t2 ⊢
  refine ⟨1, d2, rfl, rfl, ?_⟩
  refine ⟨_, rfl, _, rfl, _, rfl, sg, _, rfl, .inl (SqL.of (k2 _ _ hsg n2)), tp, _, rfl, t2, by omega, by omega, fun d3 u3 g0 g1 => ?_⟩
  have k3 := k2.trans (kp_dig tp H2 (.lst [.int u3]))
  have t3 : Tp (upd H2 tp (.lst [.int u3])) tp := ⟨u3, upd_same⟩
  generalize upd H2 tp (.lst [.int u3]) = H3 at k3 t3 ⊢
  obtain ⟨sv, eat, eix⟩ := atI_lt g0 g1
  rw [List.getElem?_map] at eix
  obtain ⟨sn, hsn, rfl⟩ := Option.map_eq_some_iff.mp eix
  have hop := hso sn (List.mem_of_getElem? hsn)
  refine ⟨sg, _, _, _, rfl, rfl, SqL.of (k3 _ _ hsg n2), eat, ?_⟩
  refine ⟨_, rfl, rfl, _, rfl, ?_⟩
  have tp3 := k3.tk ht
  by_cases hne : sn = "times"
  · subst hne
    rw [show (!decide (V.str "times" = V.str "times")) = false by rw [decide_eq_true rfl]; rfl]
    refine iteF ?_
    refine ⟨_, rfl, tp, 3, rfl, t3, by decide, by decide, fun d4 u4 _ _ => ?_⟩
    have k4 := k3.trans (kp_dig tp H3 (.lst [.int u4]))
    have t4 : Tp (upd H3 tp (.lst [.int u4])) tp := ⟨u4, upd_same⟩
    generalize upd H3 tp (.lst [.int u4]) = H4 at k4 t4 ⊢
    have hrl4 := k4 _ _ hrl n1
    obtain ⟨ks, hks⟩ := lv_ks (hlv.mono (k4.tk ht))
    refine ⟨_, rfl, rl, rfl, ⟨_, SqL.of hrl4⟩, ?_⟩
    refine compT_S hrs hks (itl_goS hrl4) (itl_stS hrl4) (itl_yS hrl4) (fun k => decide (V.int k = V.int d4)) (fun H k v => ∃ x, Rep H (.part k x) v ∧ (Fm.part k x).wfp ρ) (fun t ⟨x, hR, hw⟩ => ⟨x, hR.mono t, hw⟩) ?_ ?_ ?_
    · rintro k v Ha kk _ ⟨x, ⟨b, rfl, hb⟩, _⟩ sa hk
      exact ⟨_, rfl, b, _, 1, .int k, rfl, rfl, SqT.of (sa _ _ hb), atI_nat (j := 1) rfl, _, rfl, rfl, _, rfl, hk Ha (Same.refl Ha)⟩
    · rintro k v Ha kk _ ⟨x, hR, hw⟩ _ sa hk
      exact ⟨_, rfl, hk _ Ha (Same.refl Ha) ⟨x, hR.mono (tk_of sa), hw⟩⟩
    intro p5 zs H5 hp5 s5 gz hz
    have k5 := k4.trans (kp_of (tp := tp) s5)
    have hrl5 := s5 _ _ hrl4
    refine ⟨_, rfl, rl, rfl, ⟨_, SqL.of hrl5⟩, ?_⟩
    refine compT_S hrs (Paired.mapP hks fun k v ⟨x, hR, hw⟩ => (⟨x, hR.mono (tk_of s5), hw⟩ : ∃ x, Rep H5 (.part k x) v ∧ (Fm.part k x).wfp ρ)) (itl_goS hrl5) (itl_stS hrl5) (itl_yS hrl5) (fun k => !decide (V.int k = V.int d4)) (fun H k v => ∃ x, Rep H (.part k x) v ∧ (Fm.part k x).wfp ρ) (fun t ⟨x, hR, hw⟩ => ⟨x, hR.mono t, hw⟩) ?_ ?_ ?_
    · rintro k v Ha kk _ ⟨x, ⟨b, rfl, hb⟩, _⟩ sa hk
      exact ⟨_, rfl, b, _, 1, .int k, rfl, rfl, SqT.of (sa _ _ hb), atI_nat (j := 1) rfl, _, rfl, rfl, _, rfl, hk Ha (Same.refl Ha)⟩
    · rintro k v Ha kk _ ⟨x, hR, hw⟩ _ sa hk
      exact ⟨_, rfl, hk _ Ha (Same.refl Ha) ⟨x, hR.mono (tk_of sa), hw⟩⟩
    intro p6 ys H6 hp6 s6 gy hy
    have k6 := k5.trans (kp_of (tp := tp) s6)
    have ntp : ∀ {H' : Hp} {b : Addr}, Tp H' tp → H' b = none → b ≠ tp := fun ⟨u, hu⟩ hb z => by rw [z, hu] at hb; cases hb
    have t5 : Tp H5 tp := by obtain ⟨u, hu⟩ := t4; exact ⟨u, s5 _ _ hu⟩
    have t6 : Tp H6 tp := by obtain ⟨u, hu⟩ := t5; exact ⟨u, s6 _ _ hu⟩
    have n5 := ntp t4 hp5
    have n6 := ntp t5 hp6
    have lk := Paired.length hks
    have lz := Paired.length hz
    have ly := Paired.length hy
    have lf1 := List.length_filter_le (fun k => decide (V.int k = V.int d4)) ks
    have lf2 := List.length_filter_le (fun k => !decide (V.int k = V.int d4)) ks
    have L1 : LvP (fun g => ρ g ∧ ∀ k x, g = .part k x → k = d4) H6 zs := (ks_lv (S := fun k => k = d4) hz fun k hk => V.int.inj (of_decide_eq_true (List.mem_filter.mp hk).2)).mono (tk_of s6)
    have L2 : LvP (fun g => ρ g ∧ ∀ k x, g = .part k x → k ≠ d4) H6 ys := ks_lv (S := fun k => k ≠ d4) hy fun k hk z => by
      have := (List.mem_filter.mp hk).2
      rw [z, decide_eq_true rfl] at this
      cases this
    refine ⟨_, rfl, _, rfl, _, rfl, _, rfl, _, fun x h => hno x h.1, tp, p5, sg, zs, 1 + d2, ss, rfl, t6, n5, n2, s6 _ _ gz, by omega, L1, k6 _ _ hsg n2, hs1, hs2, hso, by omega, by omega, by omega, fun v1 f1 H7 hR1 hw1 hl1 hz1 k7 t7 => ?_⟩
    have k07 := k6.trans k7
    refine ⟨_, rfl, _, rfl, _, rfl, _, rfl, room, 1 + d2, rfl, rfl, _, rfl, _, fun x h => hno x h.1, tp, p6, sg, ys, room - (1 + d2), ss, rfl, t7, n6, n2, k7 _ _ gy n6, by omega, L2.mono (k7.tk t6), k07 _ _ hsg n2, hs1, hs2, hso, by omega, by omega, by omega, fun v2 f2 H8 hR2 hw2 hl2 hz2 k8 t8 => ?_⟩
    have hR1' := hR1.mono (k8.tk t7)
    refine ⟨_, rfl, _, rfl, (by show 3 ≤ sizeLine; decide), fun pa hpa => ?_⟩
    have s9 := same_new hpa (.tup [.str "times", v1, v2])
    have g9 : (upd H8 pa (.tup [.str "times", v1, v2])) pa = some (.tup [.str "times", v1, v2]) := upd_same
    generalize upd H8 pa (.tup [.str "times", v1, v2]) = H9 at s9 g9 ⊢
    refine ⟨_, rfl, _, rfl, (by show 3 ≤ sizeLine; decide), fun pb hpb => ?_⟩
    have s10 := same_new hpb (.tup [.str "times", v2, v1])
    have g10 : (upd H9 pb (.tup [.str "times", v2, v1])) pb = some (.tup [.str "times", v2, v1]) := upd_same
    generalize upd H9 pb (.tup [.str "times", v2, v1]) = H10 at s10 g10 ⊢
    refine ⟨(by show 2 ≤ sizeLine; decide), fun pl hpl => ?_⟩
    have s11 := same_new hpl (.lst [.ref pa, .ref pb])
    have g11 : (upd H10 pl (.lst [.ref pa, .ref pb])) pl = some (.lst [.ref pa, .ref pb]) := upd_same
    generalize upd H10 pl (.lst [.ref pa, .ref pb]) = H11 at s11 g11 ⊢
    have S11 := s9.trans (s10.trans s11)
    have t11 : Tp H11 tp := by obtain ⟨u, hu⟩ := t8; exact ⟨u, S11 _ _ hu⟩
    have t10 : Tp H10 tp := by obtain ⟨u, hu⟩ := t8; exact ⟨u, s10 _ _ (s9 _ _ hu)⟩
    refine ⟨_, rfl, tp, 2, rfl, t11, by decide, by decide, fun d5 u5 h50 h51 => ?_⟩
    have k12 := kp_dig tp H11 (.lst [.int u5])
    have t12 : Tp (upd H11 tp (.lst [.int u5])) tp := ⟨u5, upd_same⟩
    generalize upd H11 tp (.lst [.int u5]) = H12 at k12 t12 ⊢
    have kall := k07.trans (k8.trans ((kp_of (tp := tp) S11).trans k12))
    have T12 : TK H8 H12 := fun b xs h => k12.tk t11 _ _ (S11 _ _ h)
    have gl := k12 _ _ g11 (ntp t10 hpl)
    have ga := k12.tk t11 _ _ (s11 _ _ (s10 _ _ g9))
    have gb := k12.tk t11 _ _ (s11 _ _ g10)
    have pr1 := wfp_prt (S := fun k => k = d4) (fun k x h => h.2 k x rfl) hw1
    have pr2 := wfp_prt (S := fun k => k ≠ d4) (fun k x h => h.2 k x rfl) hw2
    have W1 := wfp_imp (τ := ρ) (fun f h => h.1) hw1
    have W2 := wfp_imp (τ := ρ) (fun f h => h.1) hw2
    have hd5 : d5 = 0 ∨ d5 = 1 := by omega
    rcases hd5 with rfl | rfl
    · refine ⟨pl, _, 0, .ref pa, rfl, rfl, SqL.of gl, atI0, q _ (.bin "times" f1 f2) H12 ⟨pa, v1, v2, rfl, ga, hR1'.mono T12, hR2.mono T12⟩ ⟨hop, W1, W2⟩ ⟨hl1, hl2, fun _ k a b => pr2 k b (pr1 k a)⟩ ?_ kall t12⟩
      show ((f1.size + f2.size + 1 : Nat) : Int) ≤ _
      omega
    · refine ⟨pl, _, 1, .ref pb, rfl, rfl, SqL.of gl, atI_nat (j := 1) rfl, q _ (.bin "times" f2 f1) H12 ⟨pb, v2, v1, rfl, gb, hR2.mono T12, hR1'.mono T12⟩ ⟨hop, W2, W1⟩ ⟨hl2, hl1, fun _ k a b => pr2 k a (pr1 k b)⟩ ?_ kall t12⟩
      show ((f2.size + f1.size + 1 : Nat) : Int) ≤ _
      omega
  · rw [show (!decide (V.str sn = V.str "times")) = true by rw [decide_eq_false fun z => hne (V.str.inj z)]; rfl]
    refine iteT ?_
    refine ⟨_, rfl, _, rfl, _, rfl, _, rfl, ρ, hno, tp, rl, sg, rs, 1 + d2, ss, rfl, t3, n1, n2, k3 _ _ hrl n1, hrs, hlv.mono tp3, k3 _ _ hsg n2, hs1, hs2, hso, by omega, by omega, by omega, fun v1 f1 H4 hR1 hw1 hl1 hz1 k4 t4 => ?_⟩
    have k04 := k3.trans k4
    refine ⟨_, rfl, _, rfl, _, rfl, _, rfl, _, rfl, _, rfl, room, 1 + d2, rfl, rfl, _, rfl, ρ, hno, tp, rl, sg, rs, room - (1 + d2), ss, rfl, t4, n1, n2, k04 _ _ hrl n1, hrs, hlv.mono (k04.tk ht), k04 _ _ hsg n2, hs1, hs2, hso, by omega, by omega, by omega, fun v2 f2 H5 hR2 hw2 hl2 hz2 k5 t5 => ⟨(by show 3 ≤ sizeLine; decide), fun p hp => ?_⟩⟩
    have s6 := same_new hp (.tup [.str sn, v1, v2])
    have k56 : Kp tp H5 (upd H5 p (.tup [.str sn, v1, v2])) := kp_of s6
    refine q _ (.bin sn f1 f2) _ ⟨p, v1, v2, rfl, upd_same, hR1.mono ((k5.trans k56).tk t4), hR2.mono (tk_of s6)⟩ ⟨hop, hw1, hw2⟩ ⟨hl1, hl2, fun z => absurd z hne⟩ ?_ (k04.trans (k5.trans k56)) ?_
    · show ((f1.size + f2.size + 1 : Nat) : Int) ≤ _
      omega
    · obtain ⟨u, hu⟩ := t5
      exact ⟨u, s6 _ _ hu⟩
theorem ok_lvF0 : FnOk P w K mg base CX0 3 f fd ["tape", "readings", "room", "signs"] (spLvA 0) :=
  ⟨fun vs H Q E h => by
    obtain ⟨ρ, _, tp, rl, sg, rs, room, ss, rfl, _⟩ := h
    rfl, fun A o s H args us vs Q E r e b v h => by
    obtain ⟨ρ, hno, tp, rl, sg, rs, room, ss, _, _, _, _, _, _, _, _, _, _, _, h1, h2, _⟩ := h
    have h2 : room ≤ 0 := h2
    omega⟩
theorem ok_lvF (F : Fun K "_law_level_formula" "_law_level_formula" sLvFormula f fd) (G : Gb mg)
    (GD : FnOk P w K mg base CX0 1 f2 fd2 ["tape", "many"] spDigit) (bD : Binds K fd2 ["tape", "many"] []) (kD : PySem.W.keepIn K (.ref f2) = true) (mD : mg "_law_digit" = some (.ref f2))
    (GL : FnOk P w K mg base CX0 3 f3 fd3 ["tape", "readings"] spLeafA) (bL : Binds K fd3 ["tape", "readings"] []) (kL : PySem.W.keepIn K (.ref f3) = true) (mL : mg "_law_leaf" = some (.ref f3))
    (bS : Binds K fd ["tape", "readings", "room", "signs"] []) (mS : mg "_law_level_formula" = some (.ref f)) : ∀ n : Nat, FnOk P w K mg base CX0 (n + 3) f fd ["tape", "readings", "room", "signs"] (spLvA n)
  | 0 => ok_lvF0
  | n + 1 => ok_lvF1 F G GD bD kD mD GL bL kL mL (ok_lvF F G GD bD kD mD GL bL kL mL bS mS n) bS mS
end
end My
namespace My
open PySem L2
theorem mem_rdFrom {k : Int} : ∀ {qs : List Srt} {g : Fm}, g ∈ rdFrom k qs → ∃ (j : Nat) (q : Srt) (x : Str), g = .part (k + (j : Int)) x ∧ qs[j]? = some q ∧ x ∈ q.ups
  | [], _, h => by cases h
  | q :: r, g, h => by
    have h : g ∈ q.ups.map (fun x => Fm.part k x) ++ rdFrom (k + 1) r := h
    rcases List.mem_append.mp h with h | h
    · obtain ⟨x, hx, rfl⟩ := List.mem_map.mp h
      exact ⟨0, q, x, by rw [show k + ((0 : Nat) : Int) = k by omega], rfl, hx⟩
    · obtain ⟨j, q', x, e, h1, h2⟩ := mem_rdFrom (k := k + 1) h
      exact ⟨j + 1, q', x, by rw [e, show k + 1 + (j : Int) = k + ((j + 1 : Nat) : Int) by omega], h1, h2⟩
end My
namespace My
open PySem L2
noncomputable def spLvSorts : Sp := fun vs H Q _ => ∃ (tp : Addr) (u : Int), vs = [.ref tp, .int u] ∧ Tp H tp ∧ 1 ≤ u ∧ u ≤ 3 ∧ ∀ a ss xs H', H' a = some (.tup xs) → RepSs H' ss xs → SortsOk ss → ss.length ≤ 3 → (∀ s ∈ ss, Srt.downs s = [] ∧ 1 ≤ s.ups.length) → Kp tp H H' → Tp H' tp → Q (.ref a) H'
section
variable {P : Program} {w : World} {K : PySem.W.Frag} {mg : Str → Option Value} {base : Heap} {f g f2 : Addr} {fd gd fd2 : FuncData}
noncomputable abbrev NLs : List Str := ["tape", "ups", "many", "names", "words", "sorts", "k", "turned"]
theorem scLvSorts : FnScope NLs ["tape", "ups"] (defScope sLvSorts) := ⟨rfl, rfl, rfl, by decide +kernel, rfl, by decide +kernel, by decide +kernel⟩
theorem ok_lvSorts (F : Fun K "_law_level_sorts" "_law_level_sorts" sLvSorts f fd) (G : Gb mg) (GD : FnOk P w K mg base CX0 1 g gd ["tape", "many"] spDigit) (bD : Binds K gd ["tape", "many"] []) (kD : PySem.W.keepIn K (.ref g) = true) (mD : mg "_law_digit" = some (.ref g))
    (GN : FnOk P w K mg base CX0 2 f2 fd2 ["tape", "many"] spNamesX) (bN : Binds K fd2 ["tape", "many"] []) (kN : PySem.W.keepIn K (.ref f2) = true) (mN : mg "_law_names" = some (.ref f2)) :
    FnOk P w K mg base CX0 3 f fd ["tape", "ups"] spLvSorts := by
  refine F.ok scLvSorts (fun vs H Q E h => ?_) (fun cdv A outer s H vs Q E hr h => ?_)
  · obtain ⟨tp, c, rfl, _⟩ := h
    rfl
  obtain ⟨tp, u, rfl, hT, hu1, hu3, q⟩ := h
  have hr1 := hr.mono (show 1 ≤ 2 by decide)
  refine ⟨_, pss_cons (ps_set (i := 2) scLvSorts.nd rfl (Or.inl rfl) (pe_op op_add pe_int (pe_call GD hr1 rfl mD kD bD .nil pass0 (pa_cons (pv 0) (pa_cons pe_int pa_nil)))))
    (pss_cons (ps_set (i := 3) scLvSorts.nd rfl (Or.inl rfl) (pe_call GN hr rfl mN kN bN .nil pass0 (pa_cons (pv 0) (pa_cons (pv 2) pa_nil))))
    (pss_cons (ps_set (i := 4) scLvSorts.nd rfl (Or.inl rfl) (pe_call GN hr rfl mN kN bN .nil pass0 (pa_cons (pv 0) (pa_cons pe_int pa_nil))))
    (pss_cons (ps_set (i := 5) scLvSorts.nd rfl (Or.inl rfl) (pe_lst pa_nil))
    (pss_cons (ps_for PassesOwn.never rfl (pi_range1 rfl G.range (pa_cons (pv 2) pa_nil)) (pg_name (i := 6) scLvSorts.nd rfl (Or.inl rfl))
      (pss_cons (ps_set (i := 7) scLvSorts.nd rfl (Or.inl rfl) (pe_op op_cat (pe_slice sl_list (pv 4) (po_some (pv 6)) po_none) (pe_slice sl_list (pv 4) po_none (po_some (pv 6)))))
      (pss_one (ps_expr (pe_bm PySem.F.plainAttrs_list PySem.F.slot_list_append PySem.F.type_list_append mt_append (pv 5) (pa_cons (pe_tup (pa_cons (pe_ix ix_list (pv 3) (pv 6) (fun _ _ => rfl))
        (pa_cons (pe_tup pa_nil)
        (pa_cons (pe_callTy call_tuple_of rfl G.tuple (by decide +kernel) (pa_cons (pe_slice sl_list (pv 7) po_none (po_some (pe_op op_add pe_int (pe_call GD hr1 rfl mD kD bD .nil pass0 (pa_cons (pv 0) (pa_cons (pv 1) pa_nil)))))) pa_nil)) pa_nil)))) pa_nil))))))
    (pss_one (ps_ret (pe_callTy call_tuple_of rfl G.tuple (by decide +kernel) (pa_cons (pv 5) pa_nil)))))))), ?_⟩
  refine ⟨_, rfl, tp, 3, rfl, hT, by decide, by decide, fun dm t1 hdm0 hdm1 => ?_⟩
  have k1 : Kp tp H (upd H tp (.lst [.int t1])) := Kp.tape
  have tt1 : Tp (upd H tp (.lst [.int t1])) tp := ⟨t1, upd_same⟩
  generalize upd H tp (.lst [.int t1]) = H2 at k1 tt1 ⊢
  refine ⟨1, _, rfl, rfl, ?_⟩
  refine ⟨_, rfl, _, rfl, tp, _, rfl, tt1, by omega, by omega, fun nl ns H3 hnl hnlen hN hnne k2' tt2 => ?_⟩
  have k2 := k1.trans k2'
  refine ⟨_, rfl, tp, 6, rfl, tt2, by decide, by decide, fun wl ws H4 hwl hwlen hW hwne k3' tt3 => ?_⟩
  have k3 := k2.trans k3'
  have hnl4 := k3' _ _ hnl hnne
  refine ⟨(by show 0 ≤ sizeLine; decide), fun sl hsl => ?_⟩
  have hslt := tp_ne tt3 hsl
  have k4 : Kp tp H (upd H4 sl (.lst [])) := k3.new hsl
  have tt4 := tt3.new (o := .lst []) hsl
  have s4 := same_new hsl (.lst [])
  have nsl : nl ≠ sl := ne_of_none hnl4 hsl
  have wsl : wl ≠ sl := ne_of_none hwl hsl
  have hnl5 := s4 _ _ hnl4
  have hwl5 := s4 _ _ hwl
  have hsl5 : (upd H4 sl (.lst [])) sl = some (.lst []) := upd_same
  generalize upd H4 sl (.lst []) = H5 at k4 tt4 hnl5 hwl5 hsl5 ⊢
  obtain ⟨nLen, nNd, nWd⟩ := hN.ok (by omega)
  obtain ⟨wLen, wNd, wWd⟩ := hW.ok (by decide)
  have wLen6 : ws.length = 6 := wLen
  refine ⟨_, rfl, 1 + dm, rfl, by omega, by omega, ?_⟩
  refine for_range (fun i σ H' => ∃ o6 o7 zs ss, σ = [some (.ref tp), some (.int u), some (.int (1 + dm)), some (.ref nl), some (.ref wl), some (.ref sl), o6, o7] ∧ Kp tp H H' ∧ Tp H' tp ∧ H' nl = some (.lst (ns.map V.str)) ∧ H' wl = some (.lst (ws.map V.str)) ∧ H' sl = some (.lst zs) ∧ RepSs H' ss zs ∧ ss.length = i ∧ (∀ s ∈ ss, s.ok ∧ s.downs = [] ∧ 1 ≤ s.ups.length) ∧ ss.map Srt.name = ns.take i)
    ⟨none, none, [], [], rfl, k4, tt4, hnl5, hwl5, hsl5, .nil, rfl, fun s h => (by cases h), rfl⟩ ?_ ?_
  · rintro i σ H6 hi ⟨o6, o7, zs, ss, rfl, k6, tt6, hnl6, hwl6, hsl6, hR, hssl, hok, hnm⟩
    have hi3 : i < 3 := by omega
    refine ⟨_, rfl, _, rfl, 0 + (i : Int), rfl, wl, _, rfl, SqL.of hwl6, fun p1 hp1 => ?_⟩
    rw [cut_drop (ws.map V.str) (by omega) (by rw [List.length_map]; omega)]
    have hct : cutV (ws.map V.str) none (some (0 + (i : Int))) = (ws.map V.str).take (0 + (i : Int)).toNat := cut_take (ws.map V.str) (by omega) (by rw [List.length_map]; omega)
    have hn6 : (0 + (i : Int)).toNat ≤ 6 := by omega
    generalize hn : (0 + (i : Int)).toNat = n at hct hn6 ⊢
    have s1 := same_new hp1 (.lst ((ws.map V.str).drop n))
    have g1 : (upd H6 p1 (.lst ((ws.map V.str).drop n))) p1 = some (.lst ((ws.map V.str).drop n)) := upd_same
    generalize upd H6 p1 (.lst ((ws.map V.str).drop n)) = Ha at s1 g1 ⊢
    refine ⟨_, rfl, _, rfl, 0 + (i : Int), rfl, wl, _, rfl, SqL.of (s1 _ _ hwl6), fun p2 hp2 => ?_⟩
    rw [hct]
    have s2 := same_new hp2 (.lst ((ws.map V.str).take n))
    have g2 : (upd Ha p2 (.lst ((ws.map V.str).take n))) p2 = some (.lst ((ws.map V.str).take n)) := upd_same
    generalize upd Ha p2 (.lst ((ws.map V.str).take n)) = Hb at s2 g2 ⊢
    have lcat : ((ws.map V.str).drop n).length + ((ws.map V.str).take n).length ≤ 12 := by rw [List.length_drop, List.length_take, List.length_map]; omega
    refine ⟨p1, p2, _, _, rfl, rfl, s2 _ _ g1, g2, Nat.le_of_lt (small1000 (by omega)), fun p3 hp3 => ?_⟩
    have e3 : (ws.map V.str).drop n ++ (ws.map V.str).take n = (ws.drop n ++ ws.take n).map V.str := by rw [List.map_append, List.map_drop, List.map_take]
    rw [e3]
    have lts : (ws.drop n ++ ws.take n).length = 6 := by rw [List.length_append, List.length_drop, List.length_take]; omega
    have hsok := fun (v : Nat) (hv : v ≤ 3) (hv1 : 1 ≤ v) nm => turned_ok wNd wWd wLen6 n 0 v (by omega) hv (by omega) nm
    generalize ws.drop n ++ ws.take n = ts at lts hsok ⊢
    have s3 := same_new hp3 (.lst (ts.map V.str))
    have g3 : (upd Hb p3 (.lst (ts.map V.str))) p3 = some (.lst (ts.map V.str)) := upd_same
    generalize upd Hb p3 (.lst (ts.map V.str)) = Hc at s3 g3 ⊢
    have S9 : Same H6 Hc := s1.trans (s2.trans s3)
    have hslc := S9 _ _ hsl6
    have hnlc := S9 _ _ hnl6
    have hwlc := S9 _ _ hwl6
    have kc : Kp tp H6 Hc := kp_of S9
    have ttc : Tp Hc tp := tt6.same S9
    have n3 := tp_ne (tt6.same (s1.trans s2)) hp3
    refine ⟨_, rfl, .inl ⟨rfl, _, SqL.of hslc⟩, ?_⟩
    obtain ⟨nm, enm⟩ : ∃ nm, ns[i]? = some nm := ⟨ns[i]'(by omega), List.getElem?_eq_getElem (by omega)⟩
    have eat : atI (ns.map V.str) (0 + (i : Int)) = some (V.str nm) := by
      rw [Int.zero_add]
      exact atI_nat (by rw [List.getElem?_map, enm]; rfl)
    refine ⟨_, rfl, _, rfl, nl, _, _, _, rfl, rfl, SqL.of hnlc, eat, ?_⟩
    refine ⟨(by show 0 ≤ sizeLine; decide), fun p5 hp5 => ?_⟩
    have s5 := same_new hp5 (.tup [])
    have g5 : (upd Hc p5 (.tup [])) p5 = some (.tup []) := upd_same
    generalize upd Hc p5 (.tup []) = Hd at s5 g5 ⊢
    have ttd := ttc.same s5
    refine ⟨_, rfl, _, rfl, _, rfl, tp, u, rfl, ttd, by omega, by omega, fun du t5 hdu0 hdu1 => ?_⟩
    have kd : Kp tp Hd (upd Hd tp (.lst [.int t5])) := kp_dig _ _ _
    have tte : Tp (upd Hd tp (.lst [.int t5])) tp := ⟨t5, upd_same⟩
    generalize upd Hd tp (.lst [.int t5]) = He at kd tte ⊢
    have g5e := kd.tk ttd _ _ g5
    have g3e := kd _ _ (s5 _ _ g3) n3
    refine ⟨1, du, rfl, rfl, 1 + du, rfl, p3, _, rfl, SqL.of g3e, fun p6 hp6 => ?_⟩
    rw [cut_take (ts.map V.str) (by omega) (by rw [List.length_map]; omega), ← List.map_take]
    have hv1 : 1 ≤ (1 + du).toNat := by omega
    have hv3 : (1 + du).toNat ≤ 3 := by omega
    generalize (1 + du).toNat = v at hv1 hv3 ⊢
    have s6 := same_new hp6 (.lst ((ts.take v).map V.str))
    have g6 : (upd He p6 (.lst ((ts.take v).map V.str))) p6 = some (.lst ((ts.take v).map V.str)) := upd_same
    generalize upd He p6 (.lst ((ts.take v).map V.str)) = Hf at s6 g6 ⊢
    refine ⟨p6, _, rfl, .inl ⟨SqL.of g6, fun p7 hp7 => ?_⟩⟩
    have s7 := same_new hp7 (.tup ((ts.take v).map V.str))
    have g7 : (upd Hf p7 (.tup ((ts.take v).map V.str))) p7 = some (.tup ((ts.take v).map V.str)) := upd_same
    generalize upd Hf p7 (.tup ((ts.take v).map V.str)) = Hg at s7 g7 ⊢
    refine ⟨(by show 3 ≤ sizeLine; decide), fun p8 hp8 => ?_⟩
    have s8 := same_new hp8 (.tup [.str nm, .ref p5, .ref p7])
    have g8 : (upd Hg p8 (.tup [.str nm, .ref p5, .ref p7])) p8 = some (.tup [.str nm, .ref p5, .ref p7]) := upd_same
    generalize upd Hg p8 (.tup [.str nm, .ref p5, .ref p7]) = Hh at s8 g8 ⊢
    have Sh8 : Same He Hh := s6.trans (s7.trans s8)
    have kh : Kp tp H6 Hh := kc.trans ((kp_of (tp := tp) s5).trans (kd.trans (kp_of Sh8)))
    have hslh := kh _ _ hsl6 (Ne.symm (Ne.symm hslt))
    have hzl : zs.length = i := by rw [← hR.len]; exact hssl
    refine ⟨sl, zs, .ref p8, rfl, rfl, hslh, small1000 (by omega), ?_⟩
    have tk : TK Hh (upd Hh sl (.lst (zs ++ [.ref p8]))) := TK.lst hslh
    have eok : (⟨nm, [], ts.take v⟩ : Srt).ok := by
      have := hsok v hv3 hv1 nm
      rw [List.take_zero, List.drop_zero] at this
      exact this
    refine ⟨_, _, zs ++ [.ref p8], ss ++ [⟨nm, [], ts.take v⟩], rfl, ?_, ?_, ?_, ?_, upd_same, ?_, ?_, ?_, ?_⟩
    · intro b o hb hbn
      rw [upd_ne (ne_of_none (k3 _ _ hb hbn) hsl)]
      exact kh _ _ (k6 _ _ hb hbn) hbn
    · obtain ⟨t9, e9⟩ := tte.same Sh8
      exact ⟨t9, by rw [upd_ne (Ne.symm hslt)]; exact e9⟩
    · rw [upd_ne nsl]; exact kh _ _ hnl6 hnne
    · rw [upd_ne wsl]; exact kh _ _ hwl6 hwne
    · exact Paired.snoc (hR.mono ((kh.tk tt6).trans tk)) ⟨p8, p5, p7, rfl, tk _ _ g8, tk _ _ (Sh8 _ _ g5e), tk _ _ (s8 _ _ g7)⟩
    · rw [List.length_append, hssl]; rfl
    · intro s hs
      rw [List.mem_append, List.mem_singleton] at hs
      rcases hs with h | h
      · exact hok s h
      · subst h
        refine ⟨eok, rfl, ?_⟩
        show 1 ≤ (ts.take v).length
        rw [List.length_take]
        omega
    · rw [List.map_append, hnm, List.map_singleton, List.take_add_one, enm]
      rfl
  · rintro σ H6 ⟨o6, o7, zs, ss, rfl, k6, tt6, hnl6, hwl6, hsl6, hR, hssl, hok, hnm⟩
    refine ⟨_, rfl, sl, zs, rfl, .inl ⟨SqL.of hsl6, fun pt hpt => ?_⟩⟩
    refine q pt ss zs _ upd_same (hR.mono (TK.new hpt)) ⟨by omega, by omega, ?_, ?_, fun s hs => (hok s hs).1⟩ (by omega) (fun s hs => (hok s hs).2) (k6.new hpt) (tt6.new hpt)
    · rw [hnm]
      exact nNd.sublist (List.take_sublist _ _)
    · intro s hs
      have : s.name ∈ ss.map Srt.name := List.mem_map.mpr ⟨s, hs, rfl⟩
      rw [hnm] at this
      have hm := List.mem_of_mem_take this
      exact ⟨nWd _ hm, (hN.lone (by omega) _ hm).1⟩
end
end My
namespace My
open PySem L2
noncomputable def FrmLv (ss : List Srt) (fr : Frm) : Prop := fr.own ∈ ss ∧ (∀ q ∈ fr.parts, q ∈ ss) ∧ fr.parts.length ≤ 3 ∧ fr.rules.map (fun r => (r.pl, r.word)) = tgts fr.own fr.parts ∧ ∀ r ∈ fr.rules, r.fm.wfp (toldB fr) ∧ r.fm.lvl ∧ r.fm.size ≤ 15
theorem tgFrom_nil {k : Int} : ∀ {qs : List Srt}, (∀ q ∈ qs, q.downs = []) → tgFrom k qs = []
  | [], _ => rfl
  | q :: r, h => by
    show q.downs.map (fun x => (k, x)) ++ tgFrom (k + 1) r = []
    rw [h q List.mem_cons_self, tgFrom_nil fun x hx => h x (List.mem_cons_of_mem _ hx)]
    rfl
theorem rd_lv {H : Hp} {ss qs : List Srt} {zs : List V} (hok : ∀ s ∈ ss, s.ok) (hq : ∀ q ∈ qs, q ∈ ss) (hl : qs.length ≤ 3) (h : Tups H ((rdFrom 0 qs).map fmV) zs) : LvP (fun g => g ∈ rdFrom 0 qs) H zs := fun v hv => by
  obtain ⟨ys, hy, hz⟩ := paired_mem h hv
  obtain ⟨f, hf, rfl⟩ := List.mem_map.mp hy
  have hf' := hf
  obtain ⟨k, x, rfl, h1, h2, q, h3, h4⟩ := rdFrom_mem hf
  have lf : leafOk (.part k x) := ⟨⟨h1, by omega⟩, (hok q (hq q h3)).2.1 _ (List.mem_append_right _ h4)⟩
  exact ⟨k, x, (leaf_rep lf hz).1, leaf_wfp lf hf'⟩
theorem rd_told {fr : Frm} {g : Fm} (h : g ∈ rdFrom 0 fr.parts) : toldB fr g := by
  obtain ⟨j, q, x, rfl, h1, h2⟩ := mem_rdFrom h
  exact ⟨j, q, by omega, h1, List.mem_append_right _ h2⟩
theorem rd_own {qs : List Srt} (x : Str) : ¬ Fm.own x ∈ rdFrom 0 qs := fun h => by
  obtain ⟨j, q, y, e, _⟩ := mem_rdFrom h
  cases e
noncomputable def lvFor : List Stmt := forBody ((defBody sLvBook).getD 6 (.Pass ⟨0, 0, 0, 0⟩))
noncomputable def LLoop (H : Hp) (sc sg hd sa nl fl : Addr) (st u gr mo : Int) (ss : List Srt) (ws : List Str) (i : Nat) (σ : St) (H' : Hp) : Prop := ∃ o10 o11 o12 o13 o14 o15 o16 o17 o18 fv frs,
  σ = [some (.ref sc), some (.int st), some (.int u), some (.ref sg), some (.ref hd), some (.int gr), some (.int mo), some (.ref sa), some (.ref nl), some (.ref fl), o10, o11, o12, o13, o14, o15, o16, o17, o18] ∧
  Same H H' ∧ SrtsAt H' sa ss ∧ H' nl = some (.lst (ws.map V.str)) ∧ H' fl = some (.lst fv) ∧ RepFs H' frs fv ∧ frs.length = i ∧ frs.map Frm.name = ws.take i ∧ ∀ fr ∈ frs, FrmLv ss fr
section
variable {P : Program} {w : World} {K : PySem.W.Frag} {mg : Str → Option Value} {base : Heap} {f g f2 f3 f4 f5 : Addr} {fd gd fd2 fd3 fd4 fd5 : FuncData}
noncomputable abbrev NLvB : List Str := ["script", "start", "ups", "signs", "head", "grown", "more", "sorts", "names", "forms", "k", "tape", "own", "many", "j", "parts", "readings", "word", "rules"]
theorem scLvB : FnScope NLvB ["script", "start", "ups", "signs"] (defScope sLvBook) := ⟨rfl, rfl, rfl, by decide +kernel, rfl, by decide +kernel, by decide +kernel⟩
theorem lv_tail3 {cdv : Value} {A : Around} {outer : List Env} {s : Shared} {H H0 : Hp} {E : XK} (G : Gb mg)
    (GD : FnOk P w K mg base CX0 1 g gd ["tape", "many"] spDigit) (bD : Binds K gd ["tape", "many"] []) (kD : PySem.W.keepIn K (.ref g) = true) (mD : mg "_law_digit" = some (.ref g))
    (GL : FnOk P w K mg base CX0 11 f2 fd2 ["tape", "readings", "room", "signs"] (spLvA 8)) (bL : Binds K fd2 ["tape", "readings", "room", "signs"] []) (kL : PySem.W.keepIn K (.ref f2) = true) (mL : mg "_law_level_formula" = some (.ref f2))
    (hr : Room 11 (cxOf CX0 P w K mg base NLvB "_law_level_book" (defScope sLvBook) f cdv A outer s H0 E).nox.A) :
    ∃ t, PSs (cxOf CX0 P w K mg base NLvB "_law_level_book" (defScope sLvBook) f cdv A outer s H0 E).nox (lvFor.drop 8) t ∧
      ∀ (sc sg hd sa nl fl : Addr) (st u gr mo : Int) (ss : List Srt) (ws sgs : List Str), SortsOk ss → (∀ s ∈ ss, s.downs = []) → ws.length = 10 → H fl = none → nl ≠ fl → H sg = some (.lst (sgs.map V.str)) → 1 ≤ sgs.length → sgs.length ≤ 1000 → (∀ x ∈ sgs, x ∈ ops) →
      ∀ (D : Ends) (i : Nat) (σ : St) (H2 H5 : Hp) (tp oa pa rl : Addr) (o : Srt) (qs : List Srt) (ps rv : List V) (m : Int) (o14 o17 o18 : Option V), LLoop H sc sg hd sa nl fl st u gr mo ss ws i σ H2 → i < 10 → H2 tp = none → Same H2 H5 → Tp H5 tp → o ∈ ss → RepS H5 o (.ref oa) → (∀ q ∈ qs, q ∈ ss) → qs.length ≤ 3 → H5 pa = some (.lst ps) → RepSs H5 qs ps → H5 rl = some (.lst rv) → Tups H5 ((rdFrom 0 qs).map fmV) rv → pa ≠ tp → rl ≠ tp →
        (∀ σ' H', LLoop H sc sg hd sa nl fl st u gr mo ss ws (i + 1) σ' H' → D.nx σ' H') →
        t D [some (.ref sc), some (.int st), some (.int u), some (.ref sg), some (.ref hd), some (.int gr), some (.int mo), some (.ref sa), some (.ref nl), some (.ref fl), some (.int (0 + (i : Int))), some (.ref tp), some (.ref oa), some (.int m), o14, some (.ref pa), some (.ref rl), o17, o18] H5 := by
  have hr1 := hr.mono (show 1 ≤ 11 by decide)
  refine ⟨_, pss_cons (ps_set (i := 18) scLvB.nd rfl (Or.inl rfl) (pe_lst pa_nil))
    (pss_cons (ps_for PassesOwn.never rfl (pi_tup (pe_ix ix_tup (pv 12) pe_int (fun _ _ => rfl))) (pg_name (i := 17) scLvB.nd rfl (Or.inl rfl))
      (pss_one (ps_expr (pe_bm PySem.F.plainAttrs_list PySem.F.slot_list_append PySem.F.type_list_append mt_append (pv 18) (pa_cons
        (pe_tup (pa_cons (pe_un un_neg pe_int) (pa_cons (pv 17) (pa_cons (pe_call GL hr rfl mL kL bL .nil pass0 (pa_cons (pv 11) (pa_cons (pv 16) (pa_cons (pe_op op_add pe_int (pe_call GD hr1 rfl mD kD bD .nil pass0 (pa_cons (pv 11) (pa_cons pe_int pa_nil)))) (pa_cons (pv 3) pa_nil))))) pa_nil)))) pa_nil)))))
    (pss_one (ps_expr (pe_bm PySem.F.plainAttrs_list PySem.F.slot_list_append PySem.F.type_list_append mt_append (pv 9) (pa_cons
      (pe_tup (pa_cons (pe_ix ix_list (pv 8) (pv 10) (fun _ _ => rfl)) (pa_cons (pe_ix ix_tup (pv 12) pe_int (fun _ _ => rfl))
        (pa_cons (pe_callTy call_tuple_of rfl G.tuple (by decide +kernel) (pa_cons
          (pe_comp (sc0 := defScope sLvBook) (N0 := NLvB) (ys := []) (fr := []) rfl (pi_list (pv 15)) rfl rfl
            ⟨rfl, by decide +kernel, by decide +kernel, by decide +kernel, by decide +kernel, by decide +kernel, rfl, by decide +kernel⟩
            (fun C s H ex => pe_ix (r := rIxT K) ix_tup (pv 0) pe_int (fun _ _ => rfl))) pa_nil))
        (pa_cons (pe_callTy call_tuple_of rfl G.tuple (by decide +kernel) (pa_cons (pv 18) pa_nil)) pa_nil))))) pa_nil))))), ?_⟩
  rintro sc sg hd sa nl fl st u gr mo ss ws sgs hok hdn hws hfl0 hnf hsg hsg1 hsg2 hops D i σ H2 H5 tp oa pa rl o qs ps rv m o14 o17 o18 ⟨o10, o11, o12, o13, o14', o15, o16, o17', o18', fv, frs, rfl, sm, hsa, gnl, gfl, hF, hfl, hnm, hfok⟩ hi htp s5 tt5 ho ⟨_, ob, oc, e, hoa, hob, hoc⟩ hqs hql gpa hPs grl hTr npt nrt hD
  cases e
  have lup : o.ups.length ≤ 3 := (hok.2.2.2.2 o ho).2.2.2.1
  have lrv : rv.length ≤ 9 := by
    have h1 := rdFrom_len 0 qs fun s hs => hok.2.2.2.2 s (hqs s hs)
    have h2 := hTr.len
    rw [List.length_map] at h2
    omega
  have S25 : Same H H5 := sm.trans s5
  have nst : sg ≠ tp := ne_of_none (sm _ _ hsg) htp
  refine ⟨(by show 0 ≤ sizeLine; decide), fun ra hra => ?_⟩
  have nra := tp_ne tt5 hra
  have s6 := same_new hra (.lst [])
  have g6 : (upd H5 ra (.lst [])) ra = some (.lst []) := upd_same
  have tt6 := tt5.same s6
  generalize upd H5 ra (.lst []) = H6 at s6 g6 tt6 ⊢
  refine ⟨_, rfl, oa, _, 2, .ref oc, rfl, rfl, SqT.of (s6 _ _ hoa), atI_nat (j := 2) rfl, oc, rfl, ⟨_, SqT.of (s6 _ _ hoc)⟩, ?_⟩
  refine for_tup (xs := o.ups.map V.str) (fun n σ H' => n ≤ o.ups.length ∧ ∃ o17 rvs rules, σ = [some (.ref sc), some (.int st), some (.int u), some (.ref sg), some (.ref hd), some (.int gr), some (.int mo), some (.ref sa), some (.ref nl), some (.ref fl), some (.int (0 + (i : Int))), some (.ref tp), some (.ref oa), some (.int m), o14, some (.ref pa), some (.ref rl), o17, some (.ref ra)] ∧ Kp tp H5 H' ∧ Tp H' tp ∧ H' ra = some (.lst rvs) ∧ RepRs H' rules rvs ∧ rules.map (fun r => (r.pl, r.word)) = (o.ups.take n).map (fun x => ((-1 : Int), x)) ∧ ∀ r ∈ rules, r.fm.wfp (fun g => g ∈ rdFrom 0 qs) ∧ r.fm.lvl ∧ r.fm.size ≤ 15)
    ⟨Nat.zero_le _, o17, [], [], rfl, Kp.refl.same s6, tt6, g6, .nil, rfl, fun r h => (by cases h)⟩ (fun n σ H' _ h => by obtain ⟨_, _, _, _, _, k, _⟩ := h; exact SqT.of (k.tk tt5 _ _ hoc)) ?_ ?_
  · rintro n x σ H7 hx ⟨hn, o17, rvs, rules, rfl, k7, tt7, gra, hRr, hmap, hfm⟩
    have hlt : n < o.ups.length := by
      have := (List.getElem?_eq_some_iff.mp hx).1
      rw [List.length_map] at this
      exact this
    obtain ⟨wd, hwd, rfl⟩ : ∃ wd, o.ups[n]? = some wd ∧ V.str wd = x := by
      rw [List.getElem?_map] at hx
      cases he : o.ups[n]? with
      | none => rw [he] at hx; cases hx
      | some t => rw [he] at hx; exact ⟨t, rfl, Option.some.inj hx⟩
    have lrules : rules.length = n := by
      have := congrArg List.length hmap
      rw [List.length_map, List.length_map, List.length_take] at this
      omega
    have lrvs : rvs.length = n := by rw [← hRr.len]; exact lrules
    refine ⟨_, rfl, .inl ⟨rfl, _, SqL.of gra⟩, 1, rfl, _, rfl, _, rfl, _, rfl, _, rfl, tp, 8, rfl, tt7, by decide, by decide, fun d t hd0 hd1 => ⟨1, d, rfl, rfl, _, rfl, ?_⟩⟩
    have k8 : Kp tp H7 (upd H7 tp (.lst [.int t])) := Kp.tape
    have tt8 : Tp (upd H7 tp (.lst [.int t])) tp := ⟨t, upd_same⟩
    generalize upd H7 tp (.lst [.int t]) = H8 at k8 tt8 ⊢
    have k58 := k7.trans k8
    refine ⟨fun g => g ∈ rdFrom 0 qs, rd_own, tp, rl, sg, rv, 1 + d, sgs, rfl, tt8, nrt, nst, k58 _ _ grl nrt, by omega, rd_lv hok.2.2.2.2 hqs hql (hTr.mono (k58.tk tt5)), k58 _ _ (S25 _ _ hsg) nst, hsg1, hsg2, hops, by omega, by omega, by omega, fun v fm H9 rp wf lv sz k9 tt9 => ?_⟩
    have k79 : Kp tp H7 H9 := k8.trans k9
    have gra9 := k79 _ _ gra nra
    refine ⟨(by show 3 ≤ sizeLine; decide), fun p5 hp5 => ?_⟩
    have s10 := same_new hp5 (.tup [.int (-1), .str wd, v])
    have g10 : (upd H9 p5 (.tup [.int (-1), .str wd, v])) p5 = some (.tup [.int (-1), .str wd, v]) := upd_same
    have tt10 := tt9.same s10
    have gra10 := s10 _ _ gra9
    have e10 : upd H9 p5 (.tup [.int (-1), .str wd, v]) = upd H9 p5 (.tup [.int (-1), .str wd, v]) := rfl
    generalize upd H9 p5 (.tup [.int (-1), .str wd, v]) = H10 at s10 g10 tt10 gra10 e10 ⊢
    have k710 : Kp tp H7 H10 := k79.same s10
    refine ⟨ra, rvs, .ref p5, rfl, rfl, gra10, small1000 (by omega), ?_⟩
    have tk : TK H10 (upd H10 ra (.lst (rvs ++ [.ref p5]))) := TK.lst gra10
    have tk7 : TK H7 (upd H10 ra (.lst (rvs ++ [.ref p5]))) := (k710.tk tt7).trans tk
    refine ⟨hlt, _, rvs ++ [.ref p5], rules ++ [⟨-1, wd, fm⟩], rfl, ?_, ?_, upd_same, ?_, ?_, ?_⟩
    · intro b oo hb hbn
      rw [upd_ne (ne_of_none hb hra)]
      exact k710 _ _ (k7 _ _ hb hbn) hbn
    · obtain ⟨t9, e9⟩ := tt10
      exact ⟨t9, by rw [upd_ne (Ne.symm nra)]; exact e9⟩
    · exact Paired.snoc (hRr.mono tk7) ⟨p5, v, rfl, tk _ _ g10, rp.mono ((tk_of s10).trans tk)⟩
    · rw [List.map_append, hmap, List.take_add_one, hwd, List.map_append]
      rfl
    · intro r hrr
      rw [List.mem_append, List.mem_singleton] at hrr
      rcases hrr with h | h
      · exact hfm r h
      · subst h
        exact ⟨wf, lv, by show fm.size ≤ 15; omega⟩
  · rintro σ H7 ⟨_, o17, rvs, rules, rfl, k7, tt7, gra, hRr, hmap, hfm⟩
    rw [List.length_map, List.take_length] at hmap
    have tk7 := k7.tk tt5
    have S27 : Same H2 H7 := fun b oo h => k7 b oo (s5 b oo h) (ne_of_none h htp)
    have gfl7 := S27 _ _ gfl
    obtain ⟨nm, enm⟩ : ∃ nm, ws[i]? = some nm := ⟨ws[i]'(by omega), List.getElem?_eq_getElem (by omega)⟩
    have eat : atI (ws.map V.str) (0 + (i : Int)) = some (V.str nm) := by
      rw [Int.zero_add]
      exact atI_nat (by rw [List.getElem?_map, enm]; rfl)
    refine ⟨_, rfl, .inl ⟨rfl, _, SqL.of gfl7⟩, ?_⟩
    refine ⟨_, rfl, _, rfl, nl, _, _, _, rfl, rfl, SqL.of (S27 _ _ gnl), eat, _, rfl, oa, _, 0, _, rfl, rfl, SqT.of (tk7 _ _ hoa), atI0, _, rfl, pa, rfl, ⟨_, SqL.of (k7 _ _ gpa npt)⟩, ?_⟩
    have gpa7 := k7 _ _ gpa npt
    have lps : ps.length ≤ 3 := by have := hPs.len; omega
    have hPs7 : RepSs H7 qs ps := hPs.mono tk7
    refine comp_prS (as := qs) (A := RepS H7) (by omega) hPs7 (itl_goS gpa7) (itl_stS gpa7) (itl_yS gpa7) (fun _ q v => v = .str q.name) (fun _ h => h) (fun q v H' k _ hq s' hk => ?_) fun pl zs H8 hpl s8 gpl hz => ?_
    · obtain ⟨a, b, c, rfl, ha, _⟩ := hq
      exact ⟨_, rfl, a, _, 0, _, rfl, rfl, SqT.of (s' _ _ ha), atI0, hk _ _ (Same.refl _) rfl⟩
    have ez : zs = partsV qs := paired_fn (g := fun q : Srt => V.str q.name) hz
    subst ez
    refine ⟨pl, _, rfl, .inl ⟨SqL.of gpl, fun pt hpt => ?_⟩⟩
    have s9 := same_new hpt (.tup (partsV qs))
    have g9 : (upd H8 pt (.tup (partsV qs))) pt = some (.tup (partsV qs)) := upd_same
    generalize upd H8 pt (.tup (partsV qs)) = H9 at s9 g9 ⊢
    have gra9 := s9 _ _ (s8 _ _ gra)
    refine ⟨_, rfl, ra, _, rfl, .inl ⟨SqL.of gra9, fun rt hrt => ?_⟩⟩
    have s10 := same_new hrt (.tup rvs)
    have g10 : (upd H9 rt (.tup rvs)) rt = some (.tup rvs) := upd_same
    generalize upd H9 rt (.tup rvs) = H10 at s10 g10 ⊢
    refine ⟨(by show 4 ≤ sizeLine; decide), fun p11 hp11 => ?_⟩
    have s11 := same_new hp11 (.tup [.str nm, .str o.name, .ref pt, .ref rt])
    have g11 : (upd H10 p11 (.tup [.str nm, .str o.name, .ref pt, .ref rt])) p11 = some (.tup [.str nm, .str o.name, .ref pt, .ref rt]) := upd_same
    generalize upd H10 p11 (.tup [.str nm, .str o.name, .ref pt, .ref rt]) = H11 at s11 g11 ⊢
    have S711 : Same H7 H11 := s8.trans (s9.trans (s10.trans s11))
    have S211 : Same H2 H11 := S27.trans S711
    have gfl11 := S211 _ _ gfl
    have lfv := hF.len
    refine ⟨fl, fv, .ref p11, rfl, rfl, gfl11, small1000 (by omega), ?_⟩
    have tk : TK H11 (upd H11 fl (.lst (fv ++ [.ref p11]))) := TK.lst gfl11
    have tk2 : TK H2 (upd H11 fl (.lst (fv ++ [.ref p11]))) := (tk_of S211).trans tk
    refine hD _ _ ⟨_, _, _, _, _, _, _, _, _, fv ++ [.ref p11], frs ++ [⟨nm, o, qs, rules⟩], rfl, ?_, hsa.mono tk2, ?_, upd_same, ?_, ?_, ?_, ?_⟩
    · intro b oo h
      rw [upd_ne (ne_of_none h hfl0)]
      exact S211 _ _ (sm _ _ h)
    · rw [upd_ne hnf]
      exact S211 _ _ gnl
    · exact Paired.snoc (hF.mono tk2) ⟨p11, pt, rt, rvs, rfl, tk _ _ g11, tk _ _ (s11 _ _ (s10 _ _ g9)), tk _ _ (s11 _ _ g10), hRr.mono ((tk_of S711).trans tk)⟩
    · rw [List.length_append, hfl]; rfl
    · rw [List.map_append, hnm, List.take_add_one, enm]; rfl
    · intro fr hfr
      rw [List.mem_append, List.mem_singleton] at hfr
      rcases hfr with h | h
      · exact hfok fr h
      · subst h
        refine ⟨ho, hqs, hql, ?_, fun r hrr => ⟨wfp_imp (fun g hg => rd_told (fr := ⟨nm, o, qs, rules⟩) hg) (hfm r hrr).1, (hfm r hrr).2⟩⟩
        show rules.map (fun r => (r.pl, r.word)) = tgts o qs
        unfold tgts
        rw [hmap, tgFrom_nil fun q hq => hdn q (hqs q hq), List.append_nil]
end
end My
namespace My
open PySem L2
section
variable {P : Program} {w : World} {K : PySem.W.Frag} {mg : Str → Option Value} {base : Heap} {f g f2 f3 f4 f5 : Addr} {fd gd fd2 fd3 fd4 fd5 : FuncData}
theorem lv_tail2 {cdv : Value} {A : Around} {outer : List Env} {s : Shared} {H H0 : Hp} {E : XK} (G : Gb mg)
    (GD : FnOk P w K mg base CX0 1 g gd ["tape", "many"] spDigit) (bD : Binds K gd ["tape", "many"] []) (kD : PySem.W.keepIn K (.ref g) = true) (mD : mg "_law_digit" = some (.ref g))
    (GL : FnOk P w K mg base CX0 11 f2 fd2 ["tape", "readings", "room", "signs"] (spLvA 8)) (bL : Binds K fd2 ["tape", "readings", "room", "signs"] []) (kL : PySem.W.keepIn K (.ref f2) = true) (mL : mg "_law_level_formula" = some (.ref f2))
    (hr : Room 11 (cxOf CX0 P w K mg base NLvB "_law_level_book" (defScope sLvBook) f cdv A outer s H0 E).nox.A) :
    ∃ t, PSs (cxOf CX0 P w K mg base NLvB "_law_level_book" (defScope sLvBook) f cdv A outer s H0 E).nox (lvFor.drop 5) t ∧
      ∀ (sc sg hd sa nl fl : Addr) (st u gr mo : Int) (ss : List Srt) (ws sgs : List Str), SortsOk ss → (∀ s ∈ ss, s.downs = []) → ws.length = 10 → H fl = none → nl ≠ fl → H sg = some (.lst (sgs.map V.str)) → 1 ≤ sgs.length → sgs.length ≤ 1000 → (∀ x ∈ sgs, x ∈ ops) →
      ∀ (D : Ends) (i : Nat) (σ : St) (H2 H5 : Hp) (tp oa : Addr) (o : Srt) (m : Int) (o14 o15 o16 o17 o18 : Option V), LLoop H sc sg hd sa nl fl st u gr mo ss ws i σ H2 → i < 10 → H2 tp = none → Same H2 H5 → Tp H5 tp → o ∈ ss → RepS H5 o (.ref oa) → 0 ≤ m → m ≤ 3 →
        (∀ σ' H', LLoop H sc sg hd sa nl fl st u gr mo ss ws (i + 1) σ' H' → D.nx σ' H') →
        t D [some (.ref sc), some (.int st), some (.int u), some (.ref sg), some (.ref hd), some (.int gr), some (.int mo), some (.ref sa), some (.ref nl), some (.ref fl), some (.int (0 + (i : Int))), some (.ref tp), some (.ref oa), some (.int m), o14, o15, o16, o17, o18] H5 := by
  have hr1 := hr.mono (show 1 ≤ 11 by decide)
  obtain ⟨t3, ht3, hread3⟩ := lv_tail3 (cdv := cdv) (A := A) (outer := outer) (s := s) (H := H) (H0 := H0) (E := E) (f := f) G GD bD kD mD GL bL kL mL hr
  refine ⟨_, pss_cons (ps_setC (i := 15) (sc0 := defScope sLvBook) (N0 := NLvB) (ys := ["sorts", "tape"]) (fr := [7, 11]) rfl scLvB.nd rfl (Or.inl rfl) (pi_range1 rfl G.range (pa_cons (pv 13) pa_nil)) rfl rfl
        ⟨rfl, by decide +kernel, by decide +kernel, by decide +kernel, by decide +kernel, by decide +kernel, rfl, by decide +kernel⟩
        (fun C s H ex => pe_ix (r := rIxT K) ix_tup (pv 1) (pe_call GD hr1 rfl mD kD bD .nil pass0 (pa_cons (pv 2) (pa_cons (pe_callB (r := rLen K) call_len_seq rfl G.len PySem.boot_len (pa_cons (pv 1) pa_nil)) pa_nil))) (fun _ _ => rfl)))
    (pss_cons (ps_set (i := 16) scLvB.nd rfl (Or.inl rfl) (pe_lst pa_nil))
    (pss_cons (ps_for PassesOwn.never rfl (pi_range1 rfl G.range (pa_cons (pv 13) pa_nil)) (pg_name (i := 14) scLvB.nd rfl (Or.inr rfl))
      (pss_one (ps_expr (pe_bm PySem.F.plainAttrs_list PySem.F.slot_list_extend PySem.F.type_list_extend mt_extend (pv 16) (pa_cons
        (pe_comp (sc0 := defScope sLvBook) (N0 := NLvB) (ys := ["j"]) (fr := [14]) rfl
          (pi_tup (pe_ix ix_tup (pe_ix ix_list (pv 15) (pv 14) (fun _ _ => rfl)) pe_int (fun _ _ => rfl))) rfl rfl
          ⟨rfl, by decide +kernel, by decide +kernel, by decide +kernel, by decide +kernel, by decide +kernel, rfl, by decide +kernel⟩
          (fun C s H ex => pe_tup (pa_cons pe_str (pa_cons (pv 1) (pa_cons (pv 0) pa_nil))))) pa_nil))))) ht3)), ?_⟩
  intro sc sg hd sa nl fl st u gr mo ss ws sgs hok hdn hws hfl0 hnf hsg hsg1 hsg2 hops D i σ H2 H5 tp oa o m o14 o15 o16 o17 o18 hB hi htp s5 tt5 ho hoR hm0 hm3 hD
  obtain ⟨xs, gsa, hR⟩ : SrtsAt H5 sa ss := by
    obtain ⟨_, _, _, _, _, _, _, _, _, _, _, _, _, h, _⟩ := hB
    exact h.mono (tk_of s5)
  have lxs := hR.len
  refine ⟨_, rfl, m, rfl, by omega, by omega, ?_⟩
  refine comp_walk (n := m.toNat) (R := fun i v => v = .int (0 + i)) (by omega) itr_go itr_stop itr_yld
    (fun p n zs H' => Kp tp H5 H' ∧ Tp H' tp ∧ H' p = some (.lst zs) ∧ p ≠ tp ∧ zs.length = n ∧ ∃ qs, RepSs H5 qs zs ∧ ∀ q ∈ qs, q ∈ ss) ?_ ?_ ?_ ?_
  · intro p hp
    exact ⟨Kp.refl.new hp, tt5.new hp, upd_same, tp_ne tt5 hp, rfl, [], .nil, fun q h => by cases h⟩
  · rintro p n zs H' ⟨_, _, gp, _, hl, _⟩
    exact ⟨gp, hl⟩
  · rintro p n zs H' v k hp hn rfl ⟨k6, tt6, gp, hpn, hl, qs, hQ, hqs⟩ hk
    have tk6 := k6.tk tt5
    have h1 := hok.1
    refine ⟨_, rfl, _, rfl, _, rfl, sa, _, rfl, .inr (SqT.of (tk6 _ _ gsa)), tp, _, rfl, tt6, by omega, by have := hok.2.1; omega, fun d t hd0 hd1 => ?_⟩
    obtain ⟨x, ex, ex2⟩ := atI_lt hd0 hd1
    obtain ⟨q, hq, hqx⟩ := paired_get hR ex2
    have k7 : Kp tp H5 (upd H' tp (.lst [.int t])) := k6.trans Kp.tape
    have tk7 := k7.tk tt5
    refine ⟨sa, xs, d, x, rfl, rfl, SqT.of (tk7 _ _ gsa), ex, ?_⟩
    have gp7 : (upd H' tp (.lst [.int t])) p = some (.lst zs) := by rw [upd_ne hpn]; exact gp
    refine hk _ _ gp7 ⟨?_, ⟨t, ?_⟩, upd_same, hpn, by rw [List.length_append, hl]; rfl, qs ++ [q], Paired.snoc hQ hqx, ?_⟩
    · intro b' o' hb hbn
      rw [upd_ne (ne_of_none hb hp)]
      exact k7 _ _ hb hbn
    · rw [upd_ne (Ne.symm hpn), upd_same]
    · intro y hy
      rw [List.mem_append, List.mem_singleton] at hy
      rcases hy with h | rfl
      · exact hqs y h
      · exact List.mem_of_getElem? hq
  · rintro pa zs H6 hpa ⟨k6, tt6, gpa, npt, hl, qs, hQ5, hqs⟩
    have hQ := hQ5.mono (k6.tk tt5)
    have lq := hQ.len
    have hql : qs.length ≤ 3 := by omega
    refine ⟨(by show 0 ≤ sizeLine; decide), fun rl hrl => ?_⟩
    have nrt := tp_ne tt6 hrl
    have nrp : pa ≠ rl := ne_of_none gpa hrl
    have s7 := same_new hrl (.lst [])
    have g7 : (upd H6 rl (.lst [])) rl = some (.lst []) := upd_same
    have tt7 := tt6.same s7
    generalize upd H6 rl (.lst []) = H7 at s7 g7 tt7 ⊢
    refine ⟨_, rfl, m, rfl, by omega, by omega, ?_⟩
    refine for_range (fun n σ H' => ∃ o14 rv, σ = [some (.ref sc), some (.int st), some (.int u), some (.ref sg), some (.ref hd), some (.int gr), some (.int mo), some (.ref sa), some (.ref nl), some (.ref fl), some (.int (0 + (i : Int))), some (.ref tp), some (.ref oa), some (.int m), o14, some (.ref pa), some (.ref rl), o17, o18] ∧ Same H6 H' ∧ H' rl = some (.lst rv) ∧ Tups H' ((rdFrom 0 (qs.take n)).map fmV) rv)
      ⟨o14, [], rfl, s7, g7, .nil⟩ ?_ ?_
    · rintro n σ H8 hn ⟨o14, rv, rfl, S8, grl, hT⟩
      have hn' : n < qs.length := by omega
      obtain ⟨sq, hsq⟩ : ∃ sq, qs[n]? = some sq := ⟨qs[n], List.getElem?_eq_getElem hn'⟩
      obtain ⟨x, hx⟩ : ∃ x, zs[n]? = some x := ⟨zs[n]'(by omega), List.getElem?_eq_getElem (by omega)⟩
      obtain ⟨sq', hsq', a, b, c, rfl, ha, hb, hc⟩ := paired_get hQ hx
      have eqq : sq' = sq := Option.some.inj (hsq'.symm.trans hsq)
      subst eqq
      have eat : atI zs (0 + (n : Int)) = some (.ref a) := by
        rw [Int.zero_add]
        exact atI_nat hx
      have ld : sq'.ups.length ≤ 3 := (hok.2.2.2.2 sq' (hqs sq' (List.mem_of_getElem? hsq))).2.2.2.1
      refine ⟨_, rfl, .inl ⟨rfl, _, SqL.of grl⟩, ?_⟩
      refine ⟨_, rfl, _, rfl, pa, _, _, _, rfl, rfl, SqL.of (S8 _ _ gpa), eat, a, _, 2, .ref c, rfl, rfl, SqT.of (S8 _ _ ha), atI_nat (j := 2) rfl, c, rfl, ⟨_, SqT.of (S8 _ _ hc)⟩, ?_⟩
      refine comp_tups (by rw [List.length_map]; omega) (S8 _ _ hc) (fun v => [.str "part", .int (0 + (n : Int)), v]) (fun v H k _ hk => ⟨_, rfl, _, rfl, (by show 3 ≤ sizeLine; decide), fun p hp => hk p hp⟩) fun pl vs H9 hpl s9 gpl hTw => ?_
      have ew : (sq'.ups.map V.str).map (fun v => [V.str "part", V.int (0 + (n : Int)), v]) = (sq'.ups.map fun x => Fm.part (0 + (n : Int)) x).map fmV := by rw [List.map_map, List.map_map]; rfl
      rw [ew] at hTw
      have grl9 := s9 _ _ grl
      have lz := hT.len
      have lw := hTw.len
      have lt := rdFrom_len 0 (qs.take n) fun s hs => hok.2.2.2.2 s (hqs s (List.mem_of_mem_take hs))
      rw [List.length_map] at lz
      rw [List.length_map, List.length_map] at lw
      rw [List.length_take] at lt
      refine ⟨rl, pl, rv, vs, rfl, rfl, grl9, gpl, Nat.le_of_lt (small1000 (by omega)), ?_⟩
      have tk : TK H9 (upd H9 rl (.lst (rv ++ vs))) := TK.lst grl9
      have tk8 : TK H8 (upd H9 rl (.lst (rv ++ vs))) := (tk_of s9).trans tk
      refine ⟨_, rv ++ vs, rfl, ?_, upd_same, ?_⟩
      · intro y oo h
        rw [upd_ne (ne_of_none h hrl)]
        exact s9 _ _ (S8 _ _ h)
      · rw [List.take_add_one, hsq]
        show Tups _ ((rdFrom 0 (qs.take n ++ [sq'])).map fmV) _
        rw [rdFrom_snoc, List.map_append]
        have e9 : (0 : Int) + ((qs.take n).length : Int) = 0 + (n : Int) := by rw [List.length_take]; omega
        rw [e9]
        exact (hT.mono tk8).append (hTw.mono tk)
    · rintro σ H8 ⟨o14, rv, rfl, S8, grl, hT⟩
      rw [List.take_of_length_le (by omega)] at hT
      have k68 : Kp tp H5 H8 := k6.same S8
      refine hread3 sc sg hd sa nl fl st u gr mo ss ws sgs hok hdn hws hfl0 hnf hsg hsg1 hsg2 hops D i _ H2 H8 tp oa pa rl o qs zs rv m _ _ _ hB hi htp (fun b oo h => k68 b oo (s5 b oo h) (ne_of_none h htp)) (tt6.same S8) ho (hoR.mono (k68.tk tt5)) hqs hql (S8 _ _ gpa) (hQ.mono (tk_of S8)) grl hT npt nrt hD
end
end My
namespace My
open PySem L2
theorem more_at2 {d : Int} (h0 : 0 ≤ d) (h1 : d < 3) : ∃ m : Int, atI [V.int 2, .int 3, .int 5] d = some (.int m) ∧ 2 ≤ m ∧ m ≤ 5 := by
  have h5 : d = 0 ∨ d = 1 ∨ d = 2 := by omega
  rcases h5 with h | h | h <;> subst h <;> exact ⟨_, rfl, by decide, by decide⟩
theorem lv_book {ss : List Srt} {frs : List Frm} (hok : SortsOk ss) (few : frs.length ≤ 10) (f1 : 1 ≤ frs.length) (nd : (frs.map Frm.name).Nodup) (wd : ∀ fr ∈ frs, wordB fr.name = true) (fo : ∀ fr ∈ frs, FrmLv ss fr) : BkV ⟨0, ss, frs⟩ := by
  refine ⟨⟨few, nd, hok.2.1, hok.2.2.1, fun s hs => ?_, fun fr hf => ?_⟩, .inl rfl, hok.1, f1, fun s hs => ⟨(hok.2.2.2.1 s hs).1, (hok.2.2.2.2 s hs).2.1⟩, fun fr hf => wd fr hf, fun fr hf r hrr => ((fo fr hf).2.2.2.2 r hrr).1⟩
  · obtain ⟨a, b, c, d, _⟩ := hok.2.2.2.2 s hs
    exact ⟨c, d, a, fun x hx => word_short (b x hx)⟩
  · obtain ⟨a, b, c, d, e⟩ := fo fr hf
    exact ⟨a, b, c, d, fun r hrr => ⟨(e r hrr).1.wf, (e r hrr).2.2⟩⟩
noncomputable def spLvBook (K : PySem.W.Frag) : Sp := fun vs H Q _ => ∃ (sc sg : Addr) (ns : List Int) (st u : Int) (sgs : List Str), vs = [.ref sc, .int st, .int u, .ref sg] ∧ SqL K H sc (ns.map V.int) ∧ ns.length ≤ 63 ∧ 0 ≤ st ∧ st < 900 ∧ 1 ≤ u ∧ u ≤ 3 ∧ H sg = some (.lst (sgs.map V.str)) ∧ 1 ≤ sgs.length ∧ sgs.length ≤ 1000 ∧ (∀ x ∈ sgs, x ∈ ops) ∧
  ∀ v bk H', RepB H' bk v → BkV bk → bk.wheel = 0 → (∀ s ∈ bk.sorts, s.downs = []) → (∀ s ∈ bk.sorts, 1 ≤ s.ups.length) → Same H H' → Q v H'
section
variable {P : Program} {w : World} {K : PySem.W.Frag} {mg : Str → Option Value} {base : Heap} {f g f2 f3 f4 f5 : Addr} {fd gd fd2 fd3 fd4 fd5 : FuncData}
theorem lv_tail1 {cdv : Value} {A : Around} {outer : List Env} {s : Shared} {H H0 : Hp} {E : XK} (G : Gb mg)
    (GD : FnOk P w K mg base CX0 1 g gd ["tape", "many"] spDigit) (bD : Binds K gd ["tape", "many"] []) (kD : PySem.W.keepIn K (.ref g) = true) (mD : mg "_law_digit" = some (.ref g))
    (GL : FnOk P w K mg base CX0 11 f2 fd2 ["tape", "readings", "room", "signs"] (spLvA 8)) (bL : Binds K fd2 ["tape", "readings", "room", "signs"] []) (kL : PySem.W.keepIn K (.ref f2) = true) (mL : mg "_law_level_formula" = some (.ref f2))
    (hr : Room 11 (cxOf CX0 P w K mg base NLvB "_law_level_book" (defScope sLvBook) f cdv A outer s H0 E).nox.A) :
    ∃ t, PSs (cxOf CX0 P w K mg base NLvB "_law_level_book" (defScope sLvBook) f cdv A outer s H0 E).nox (lvFor.drop 3) t ∧
      ∀ (sc sg hd sa nl fl : Addr) (st u gr mo : Int) (ss : List Srt) (ws sgs : List Str), SortsOk ss → (∀ s ∈ ss, s.downs = []) → ws.length = 10 → H fl = none → nl ≠ fl → H sg = some (.lst (sgs.map V.str)) → 1 ≤ sgs.length → sgs.length ≤ 1000 → (∀ x ∈ sgs, x ∈ ops) →
      ∀ (D : Ends) (i : Nat) (σ : St) (H2 H5 : Hp) (tp oa : Addr) (o : Srt) (o13 o14 o15 o16 o17 o18 : Option V), LLoop H sc sg hd sa nl fl st u gr mo ss ws i σ H2 → i < 10 → H2 tp = none → Same H2 H5 → Tp H5 tp → o ∈ ss → RepS H5 o (.ref oa) →
        (∀ σ' H', LLoop H sc sg hd sa nl fl st u gr mo ss ws (i + 1) σ' H' → D.nx σ' H') →
        t D [some (.ref sc), some (.int st), some (.int u), some (.ref sg), some (.ref hd), some (.int gr), some (.int mo), some (.ref sa), some (.ref nl), some (.ref fl), some (.int (0 + (i : Int))), some (.ref tp), some (.ref oa), o13, o14, o15, o16, o17, o18] H5 := by
  have hr1 := hr.mono (show 1 ≤ 11 by decide)
  obtain ⟨t2, ht2, hread2⟩ := lv_tail2 (cdv := cdv) (A := A) (outer := outer) (s := s) (H := H) (H0 := H0) (E := E) (f := f) G GD bD kD mD GL bL kL mL hr
  refine ⟨_, pss_cons (ps_set (i := 13) scLvB.nd rfl (Or.inl rfl) (pe_ix ix_list (pe_lst (pa_cons pe_int (pa_cons pe_int (pa_cons pe_int (pa_cons pe_int (pa_cons pe_int pa_nil)))))) (pe_call GD hr1 rfl mD kD bD .nil pass0 (pa_cons (pv 11) (pa_cons pe_int pa_nil))) (fun _ _ => rfl)))
    (pss_cons (ps_if (PW.pt (pw_or (pt_cmpR op_eq (pv 10) pe_int (nomark _)) (pw_or1 (PW.pt (pw_and (pt_cmpR op_eq (pv 5) pe_int (nomark _)) (pw_and1 (pt_cmpR op_lt (pv 10) (pe_callB call_len_seq rfl G.len PySem.boot_len (pa_cons (pv 7) pa_nil)) (nomark _))))))))
      (pss_one (ps_set (i := 13) scLvB.nd rfl (Or.inl rfl) pe_int)) pss_nil) ht2), ?_⟩
  intro sc sg hd sa nl fl st u gr mo ss ws sgs hok hdn hws hfl0 hnf hsg hsg1 hsg2 hops D i σ H2 H5 tp oa o o13 o14 o15 o16 o17 o18 hB hi htp s5 tt5 ho hoR hD
  obtain ⟨xs, gsa, hR⟩ : SrtsAt H5 sa ss := by
    obtain ⟨_, _, _, _, _, _, _, _, _, _, _, _, _, h, _⟩ := hB
    exact h.mono (tk_of s5)
  refine ⟨(by show 5 ≤ sizeLine; decide), fun p hp => ?_⟩
  have npt := tp_ne tt5 hp
  refine ⟨_, rfl, tp, 5, rfl, tt5.new hp, by decide, by decide, fun d t hd0 hd1 => ?_⟩
  obtain ⟨m, em, hm0, hm3⟩ := many_at hd0 hd1
  refine ⟨p, _, d, .int m, rfl, rfl, SqL.of (by rw [upd_ne npt]; exact upd_same), em, ?_⟩
  have k6 : Kp tp H5 (upd (upd H5 p (.lst [.int 2, .int 1, .int 3, .int 2, .int 0])) tp (.lst [.int t])) := (Kp.refl.new hp).trans Kp.tape
  have tt6 : Tp (upd (upd H5 p (.lst [.int 2, .int 1, .int 3, .int 2, .int 0])) tp (.lst [.int t])) tp := ⟨t, upd_same⟩
  generalize upd (upd H5 p (.lst [.int 2, .int 1, .int 3, .int 2, .int 0])) tp (.lst [.int t]) = H6 at k6 tt6 ⊢
  have s6 : Same H2 H6 := fun b oo h => k6 b oo (s5 b oo h) (ne_of_none h htp)
  have gsa6 := k6.tk tt5 _ _ gsa
  have hoR6 := hoR.mono (k6.tk tt5)
  have go := fun (m : Int) (hm0 : 0 ≤ m) (hm3 : m ≤ 3) => hread2 sc sg hd sa nl fl st u gr mo ss ws sgs hok hdn hws hfl0 hnf hsg hsg1 hsg2 hops D i σ H2 H6 tp oa o m o14 o15 o16 o17 o18 hB hi htp s6 tt6 ho hoR6 hm0 hm3 hD
  refine ⟨_, rfl, rfl, _, rfl, ?_⟩
  refine ite2 (fun c => iteT ?_) (fun c => ?_)
  · exact go 0 (by decide) (by decide)
  refine ⟨_, rfl, rfl, _, rfl, ?_⟩
  refine ite2 (fun c2 => ?_) (fun c2 => iteF ?_)
  · refine ⟨_, rfl, _, rfl, sa, xs, rfl, .inr (SqT.of gsa6), _, _, rfl, rfl, _, rfl, ?_⟩
    refine ite2 (fun c3 => ?_) (fun c3 => ?_)
    · exact go 0 (by decide) (by decide)
    · exact go m hm0 hm3
  · exact go m hm0 hm3
theorem ok_lvBook (F : Fun K "_law_level_book" "_law_level_book" sLvBook f fd) (G : Gb mg)
    (GD : FnOk P w K mg base CX0 1 g gd ["tape", "many"] spDigit) (bD : Binds K gd ["tape", "many"] []) (kD : PySem.W.keepIn K (.ref g) = true) (mD : mg "_law_digit" = some (.ref g))
    (GL : FnOk P w K mg base CX0 11 f2 fd2 ["tape", "readings", "room", "signs"] (spLvA 8)) (bL : Binds K fd2 ["tape", "readings", "room", "signs"] []) (kL : PySem.W.keepIn K (.ref f2) = true) (mL : mg "_law_level_formula" = some (.ref f2))
    (GT : FnOk P w K mg base CX0 2 f3 fd3 ["script", "k"] (spTape K)) (bT : Binds K fd3 ["script", "k"] []) (kT : PySem.W.keepIn K (.ref f3) = true) (mT : mg "_law_tape" = some (.ref f3))
    (GS : FnOk P w K mg base CX0 3 f4 fd4 ["tape", "ups"] spLvSorts) (bS : Binds K fd4 ["tape", "ups"] []) (kS : PySem.W.keepIn K (.ref f4) = true) (mS : mg "_law_level_sorts" = some (.ref f4))
    (GN : FnOk P w K mg base CX0 2 f5 fd5 ["tape", "many"] spNamesX) (bN : Binds K fd5 ["tape", "many"] []) (kN : PySem.W.keepIn K (.ref f5) = true) (mN : mg "_law_names" = some (.ref f5)) :
    FnOk P w K mg base CX0 12 f fd ["script", "start", "ups", "signs"] (spLvBook K) := by
  refine F.ok scLvB (fun vs H Q E h => ?_) (fun cdv A outer s H vs Q E hr h => ?_)
  · obtain ⟨sc, sg, ns, st, u, sgs, rfl, _⟩ := h
    rfl
  obtain ⟨sc, sg, ns, st, u, sgs, rfl, hS, hns, hst0, hst1, hu1, hu3, hsg, hsg1, hsg2, hops, q⟩ := h
  have hr1 := hr.mono (show 1 ≤ 11 by decide)
  have hr2 := hr.mono (show 2 ≤ 11 by decide)
  have hr3 := hr.mono (show 3 ≤ 11 by decide)
  obtain ⟨t1, ht1, hread1⟩ := lv_tail1 (cdv := cdv) (A := A) (outer := outer) (s := s) (H := H) (H0 := H) (E := E) (f := f) G GD bD kD mD GL bL kL mL hr
  refine ⟨_, pss_cons (ps_set (i := 4) scLvB.nd rfl (Or.inl rfl) (pe_call GT hr2 rfl mT kT bT .nil pass0 (pac (pv 0) (pac (pv 1) pa_nil))))
    (pss_cons (ps_set (i := 5) scLvB.nd rfl (Or.inl rfl) (pe_call GD hr1 rfl mD kD bD .nil pass0 (pac (pv 4) (pac pe_int pa_nil))))
    (pss_cons (ps_set (i := 6) scLvB.nd rfl (Or.inl rfl) (pe_call GD hr1 rfl mD kD bD .nil pass0 (pac (pv 4) (pac (pe_ix ix_list (pe_lst (pac pe_int (pac pe_int (pac pe_int pa_nil)))) (pe_call GD hr1 rfl mD kD bD .nil pass0 (pac (pv 4) (pac pe_int pa_nil))) (fun _ _ => rfl)) pa_nil))))
    (pss_cons (ps_set (i := 7) scLvB.nd rfl (Or.inr rfl) (pe_call GS hr3 rfl mS kS bS .nil pass0 (pac (pv 4) (pac (pv 2) pa_nil))))
    (pss_cons (ps_set (i := 8) scLvB.nd rfl (Or.inl rfl) (pe_call GN hr2 rfl mN kN bN .nil pass0 (pac (pv 4) (pac pe_int pa_nil))))
    (pss_cons (ps_set (i := 9) scLvB.nd rfl (Or.inl rfl) (pe_lst pa_nil))
    (pss_cons (ps_for PassesOwn.never rfl (pi_range1 rfl G.range (pa_cons (pe_callB (call_min2 rfl) rfl G.min (by decide +kernel) (pa_cons pe_int (pa_cons (pe_op op_add (pe_callB call_len_seq rfl G.len PySem.boot_len (pa_cons (pv 7) pa_nil)) (pv 6)) pa_nil))) pa_nil)) (pg_name (i := 10) scLvB.nd rfl (Or.inl rfl))
      (pss_cons (ps_set (i := 11) scLvB.nd rfl (Or.inr rfl) (pe_call GT hr2 rfl mT kT bT .nil pass0 (pa_cons (pv 0) (pa_cons (pe_op op_add (pe_op op_add (pv 1) pe_int) (pv 10)) pa_nil))))
      (pss_cons (ps_set (i := 12) scLvB.nd rfl (Or.inl rfl) (pe_ix ix_tup (pv 7) (pe_op op_mod (pv 10) (pe_callB call_len_seq rfl G.len PySem.boot_len (pa_cons (pv 7) pa_nil))) (fun _ _ => rfl)))
      (pss_cons (ps_if (pt_cmpR op_ge (pv 10) (pe_callB call_len_seq rfl G.len PySem.boot_len (pa_cons (pv 7) pa_nil)) (nomark _))
        (pss_one (ps_set (i := 12) scLvB.nd rfl (Or.inl rfl) (pe_ix ix_tup (pv 7) (pe_call GD hr1 rfl mD kD bD .nil pass0 (pa_cons (pv 11) (pa_cons (pe_callB call_len_seq rfl G.len PySem.boot_len (pa_cons (pv 7) pa_nil)) pa_nil))) (fun _ _ => rfl)))) pss_nil) ht1))))
    (pss_one (ps_ret (pe_tup (pa_cons pe_int (pa_cons (pv 7) (pa_cons (pe_callTy call_tuple_of rfl G.tuple (by decide +kernel) (pa_cons (pv 9) pa_nil)) pa_nil)))))))))))), ?_⟩
  refine ⟨_, rfl, _, rfl, sc, ns, st, rfl, hS, hns, hst0, by omega, fun hd t0 hhd => ?_⟩
  have S1 := same_new hhd (.lst [.int t0])
  have tt1 : Tp (upd H hd (.lst [.int t0])) hd := ⟨t0, upd_same⟩
  generalize upd H hd (.lst [.int t0]) = H1 at S1 tt1 ⊢
  refine ⟨_, rfl, hd, 2, rfl, tt1, by decide, by decide, fun gr t3 _ _ => ?_⟩
  have k5 : Kp hd H1 (upd H1 hd (.lst [.int t3])) := Kp.tape
  have tt5 : Tp (upd H1 hd (.lst [.int t3])) hd := ⟨t3, upd_same⟩
  generalize upd H1 hd (.lst [.int t3]) = H5 at k5 tt5 ⊢
  refine ⟨_, rfl, (by show 3 ≤ sizeLine; decide), fun p hp => ?_⟩
  have np := tp_ne tt5 hp
  refine ⟨_, rfl, hd, 3, rfl, tt5.new hp, by decide, by decide, fun d t4 hd0 hd1 => ?_⟩
  obtain ⟨mm, emm, hmm3, hmm7⟩ := more_at2 hd0 hd1
  refine ⟨p, _, d, .int mm, rfl, rfl, SqL.of (by rw [upd_ne np]; exact upd_same), emm, ?_⟩
  have k6 : Kp hd H1 (upd (upd H5 p (.lst [.int 2, .int 3, .int 5])) hd (.lst [.int t4])) := (k5.new hp).trans Kp.tape
  have tt6 : Tp (upd (upd H5 p (.lst [.int 2, .int 3, .int 5])) hd (.lst [.int t4])) hd := ⟨t4, upd_same⟩
  generalize upd (upd H5 p (.lst [.int 2, .int 3, .int 5])) hd (.lst [.int t4]) = H6 at k6 tt6 ⊢
  refine ⟨hd, mm, rfl, tt6, by omega, by omega, fun mo t5 hmo0 hmo1 => ?_⟩
  have k7 : Kp hd H1 (upd H6 hd (.lst [.int t5])) := k6.trans Kp.tape
  have tt7 : Tp (upd H6 hd (.lst [.int t5])) hd := ⟨t5, upd_same⟩
  generalize upd H6 hd (.lst [.int t5]) = H7 at k7 tt7 ⊢
  refine ⟨_, rfl, _, rfl, hd, u, rfl, tt7, hu1, hu3, fun sa ss xs H8 gsa hR hok hs3 hss k8 tt8 => ?_⟩
  refine ⟨_, rfl, hd, 10, rfl, tt8, by decide, by decide, fun nl ws H9 gnl hnl hN hnh k9 tt9 => ?_⟩
  refine ⟨(by show 0 ≤ sizeLine; decide), fun fl hfl => ?_⟩
  have k19 : Kp hd H1 H9 := k7.trans (k8.trans k9)
  have S9 : Same H H9 := fun b oo h => k19 b oo (S1 b oo h) (ne_of_none h hhd)
  have s10 := same_new hfl (.lst [])
  have hfl0 := S9.free hfl
  have hnf : nl ≠ fl := ne_of_none gnl hfl
  have S5 := S9.trans s10
  have tk810 : TK H8 (upd H9 fl (.lst [])) := (k9.tk tt8).trans (tk_of s10)
  have gsa := tk810 _ _ gsa
  have hR := hR.mono tk810
  have gnl := s10 _ _ gnl
  have gfl : (upd H9 fl (.lst [])) fl = some (.lst []) := upd_same
  generalize upd H9 fl (.lst []) = H10 at S5 gsa hR gnl gfl ⊢
  have hdn : ∀ s ∈ ss, s.downs = [] := fun s hs => (hss s hs).1
  obtain ⟨nLen, nNd, nWd⟩ := hN.ok (by decide)
  have lxs := hR.len
  have l1 := hok.1
  have l4 := hok.2.1
  obtain ⟨n, en, hn1, hn2⟩ : ∃ n : Int, (if (xs.length : Int) + mo < 10 then (xs.length : Int) + mo else 10) = n ∧ (xs.length : Int) ≤ n ∧ n ≤ 10 := ⟨_, rfl, by split <;> omega, by split <;> omega⟩
  refine ⟨_, rfl, sa, xs, rfl, .inr (SqT.of gsa), _, rfl, _, _, rfl, rfl, _, _, rfl, ?_⟩
  rw [en]
  refine ⟨n, rfl, by omega, by omega, ?_⟩
  refine for_range (fun i σ H' => LLoop H sc sg hd sa nl fl st u gr mo ss ws i σ H')
    ⟨none, none, none, none, none, none, none, none, none, [], [], rfl, S5, ⟨xs, gsa, hR⟩, gnl, gfl, .nil, rfl, rfl, fun _ h => (by cases h)⟩ ?_ ?_
  · intro i σ H6 hi hB
    have hB' := hB
    obtain ⟨o10, o11, o12, o13, o14, o15, o16, o17, o18, fv, frs, rfl, S6, hsa6, gnl6, gfl6, hF6, _⟩ := hB'
    obtain ⟨xs6, gsa6, hR6⟩ := hsa6
    have lx6 := hR6.len
    refine ⟨_, rfl, _, rfl, _, _, rfl, rfl, _, rfl, _, _, rfl, rfl, sc, ns, _, rfl, SqL.keep hS (fun oo h => S6 _ _ h), hns, by omega, by omega, fun tp t0 htp => ?_⟩
    have s7 := same_new htp (.lst [.int t0])
    have tt7 : Tp (upd H6 tp (.lst [.int t0])) tp := ⟨t0, upd_same⟩
    generalize upd H6 tp (.lst [.int t0]) = H7 at s7 tt7 ⊢
    have gsa7 := s7 _ _ gsa6
    have hR7 := hR6.mono (tk_of s7)
    have hm0 : 0 ≤ (0 + (i : Int)) % (xs6.length : Int) := Int.emod_nonneg _ (by omega)
    have hm1 : (0 + (i : Int)) % (xs6.length : Int) < xs6.length := Int.emod_lt_of_pos _ (by omega)
    obtain ⟨x, ex, ex2⟩ := atI_lt hm0 hm1
    obtain ⟨o, ho, hoR⟩ := paired_get hR7 ex2
    have hoR' := hoR
    obtain ⟨oa, _, _, rfl, _⟩ := hoR'
    refine ⟨_, rfl, _, rfl, _, rfl, sa, xs6, rfl, .inr (SqT.of gsa7), _, _, rfl, rfl, (by show (0 : Int) < xs6.length; omega), sa, xs6, _, .ref oa, rfl, rfl, SqT.of gsa7, ex, ?_⟩
    refine ⟨_, rfl, _, rfl, sa, xs6, rfl, .inr (SqT.of gsa7), _, _, rfl, rfl, _, rfl, ?_⟩
    refine ite2 (fun c => ?_) (fun c => ?_)
    · refine ⟨_, rfl, _, rfl, _, rfl, sa, xs6, rfl, .inr (SqT.of gsa7), tp, _, rfl, tt7, by omega, by omega, fun d t1 hd0 hd1 => ?_⟩
      have k8 : Kp tp H7 (upd H7 tp (.lst [.int t1])) := Kp.tape
      have tt8 : Tp (upd H7 tp (.lst [.int t1])) tp := ⟨t1, upd_same⟩
      generalize upd H7 tp (.lst [.int t1]) = H8 at k8 tt8 ⊢
      have tk8 := k8.tk tt7
      obtain ⟨x2, ey, ey2⟩ := atI_lt hd0 hd1
      obtain ⟨o2, ho2, hoR2⟩ := paired_get hR7 ey2
      have hoR' := hoR2
      obtain ⟨oa2, _, _, rfl, _⟩ := hoR'
      refine ⟨sa, xs6, d, .ref oa2, rfl, rfl, SqT.of (tk8 _ _ gsa7), ey, ?_⟩
      exact hread1 sc sg hd sa nl fl st u gr mo ss ws sgs hok hdn nLen hfl0 hnf hsg hsg1 hsg2 hops _ i _ H6 H8 tp oa2 o2 _ _ _ _ _ _ hB (by omega) htp (fun y oo h => k8 y oo (s7 y oo h) (ne_of_none h htp)) tt8 (List.mem_of_getElem? ho2) (RepS.mono tk8 hoR2) (fun σ' H' h => h)
    · exact hread1 sc sg hd sa nl fl st u gr mo ss ws sgs hok hdn nLen hfl0 hnf hsg hsg1 hsg2 hops _ i _ H6 H7 tp oa o _ _ _ _ _ _ hB (by omega) htp s7 tt7 (List.mem_of_getElem? ho) hoR (fun σ' H' h => h)
  · rintro σ H6 ⟨o10, o11, o12, o13, o14, o15, o16, o17, o18, fv, frs, rfl, S6, hsa6, gnl6, gfl6, hF6, lfr, hnm, hfok⟩
    refine ⟨_, rfl, _, rfl, fl, fv, rfl, .inl ⟨SqL.of gfl6, fun fa hfa => ?_⟩⟩
    have s7 := same_new hfa (.tup fv)
    have g7 : (upd H6 fa (.tup fv)) fa = some (.tup fv) := upd_same
    generalize upd H6 fa (.tup fv) = H7 at s7 g7 ⊢
    refine ⟨(by show 3 ≤ sizeLine; decide), fun pb hpb => ?_⟩
    have s8 := same_new hpb (.tup [.int 0, .ref sa, .ref fa])
    have tk68 := tk_of (s7.trans s8)
    refine q (.ref pb) ⟨0, ss, frs⟩ _ ⟨pb, sa, fa, fv, rfl, upd_same, hsa6.mono tk68, s8 _ _ g7, hF6.mono tk68⟩ ?_ rfl hdn (fun s hs => (hss s hs).2) (S6.trans (s7.trans s8))
    refine lv_book hok (by omega) (by omega) ?_ (fun fr hfr => ?_) hfok
    · rw [hnm]
      exact nNd.sublist (List.take_sublist _ _)
    · have hm : fr.name ∈ ws := List.mem_of_mem_take (i := n.toNat) (by rw [← hnm]; exact List.mem_map_of_mem hfr)
      exact nWd _ hm
end
end My
namespace My
open PySem L2
structure FrP where
  name : Str
  own : Str
  parts : List Str
  rules : List Rul
structure BkP where
  wheel : Int
  sorts : List Srt
  forms : List FrP
noncomputable def RepFP (H : Hp) (fr : FrP) (v : V) : Prop := ∃ a pa ra rv, v = .ref a ∧ H a = some (.tup [.str fr.name, .str fr.own, .ref pa, .ref ra]) ∧ H pa = some (.tup (fr.parts.map V.str)) ∧ H ra = some (.tup rv) ∧ RepRs H fr.rules rv
theorem RepFP.mono {H H' : Hp} (t : TK H H') {fr : FrP} {v : V} : RepFP H fr v → RepFP H' fr v := fun ⟨a, pa, ra, rv, e, h1, h2, h3, h4⟩ => ⟨a, pa, ra, rv, e, t _ _ h1, t _ _ h2, t _ _ h3, h4.mono t⟩
noncomputable def RepFPs (H : Hp) (fs : List FrP) (vs : List V) : Prop := Paired (RepFP H) fs vs
theorem RepFPs.mono {H H' : Hp} (t : TK H H') {fs : List FrP} {vs : List V} (h : RepFPs H fs vs) : RepFPs H' fs vs := Paired.mapP h fun _ _ r => r.mono t
theorem RepFPs.len {H : Hp} {fs : List FrP} {vs : List V} (h : RepFPs H fs vs) : fs.length = vs.length := Paired.length h
noncomputable def RepBP (H : Hp) (b : BkP) (v : V) : Prop := ∃ a sa fa fv, v = .ref a ∧ H a = some (.tup [.int b.wheel, .ref sa, .ref fa]) ∧ SrtsAt H sa b.sorts ∧ H fa = some (.tup fv) ∧ RepFPs H b.forms fv
theorem RepBP.mono {H H' : Hp} (t : TK H H') {b : BkP} {v : V} : RepBP H b v → RepBP H' b v := fun ⟨a, sa, fa, fv, e, h1, h2, h3, h4⟩ => ⟨a, sa, fa, fv, e, t _ _ h1, h2.mono t, t _ _ h3, h4.mono t⟩
noncomputable def FrP.ok (fr : FrP) : Prop := fr.rules.length ≤ 12 ∧ (fr.rules.map fun r => (r.pl, r.word)).Nodup ∧ fr.parts.length ≤ 10 ∧ ∀ r ∈ fr.rules, r.fm.wf ∧ r.fm.size ≤ 40
structure BpOk (bk : BkP) : Prop where
  few : bk.forms.length ≤ 20
  s5 : bk.sorts.length ≤ 20
  ok : ∀ fr ∈ bk.forms, fr.ok
noncomputable def headS : Fm → Str
  | .num _ => "num"
  | .own _ => "own"
  | .part _ _ => "part"
  | .bin op _ _ => op
  | .whn _ _ _ => "when"
noncomputable def plainK : List Str := ["num", "part", "plus", "less", "times"]
noncomputable def nodeP (g : Fm) : Bool := decide (headS g ∈ plainK)
noncomputable def Fm.allB (nd : Fm → Bool) : Fm → Bool
  | .num n => nd (.num n)
  | .own x => nd (.own x)
  | .part k x => nd (.part k x)
  | .bin op a b => nd (.bin op a b) && (a.allB nd && b.allB nd)
  | .whn a b c => nd (.whn a b c) && (a.allB nd && (b.allB nd && c.allB nd))
noncomputable def Fm.plB (f : Fm) : Bool := f.allB nodeP
noncomputable def FrP.plB (fr : FrP) : Bool := fr.rules.all fun r => r.fm.plB
noncomputable def BkP.plB (bk : BkP) : Bool := decide (bk.wheel = 0) && bk.forms.all FrP.plB
theorem rep_head {H : Hp} {g : Fm} {u : V} (h : Rep H g u) : ∃ a r, u = .ref a ∧ H a = some (.tup (.str (headS g) :: r)) := by
  cases g with
  | num n => obtain ⟨a, e, h⟩ := h; exact ⟨a, _, e, h⟩
  | own x => obtain ⟨a, e, h⟩ := h; exact ⟨a, _, e, h⟩
  | part k x => obtain ⟨a, e, h⟩ := h; exact ⟨a, _, e, h⟩
  | bin op x y => obtain ⟨a, _, _, e, h, _⟩ := h; exact ⟨a, _, e, h⟩
  | whn x y z => obtain ⟨a, _, _, _, e, h, _⟩ := h; exact ⟨a, _, e, h⟩
theorem Ts.nodes {H : Hp} {nd : Fm → Bool} : ∀ {fm : Fm} {v : V} {vs out : List V} {gs : List Fm}, Rep H fm v → fm.wf → Ts H vs out → Paired (Rep H) gs out → ∃ out' gs', Ts H (v :: vs) out' ∧ out'.length = fm.size + out.length ∧ Paired (Rep H) gs' out' ∧ gs'.all nd = (fm.allB nd && gs.all nd)
  | .num n, _, vs, out, gs, R, w, t, h => by
    obtain ⟨a, rfl, ha⟩ := id R
    exact ⟨_, _, .cons ha (by decide +kernel) (by simp) (by rw [show innerOf [.str "num", .int n] = [] by simp only [innerOf, inner_num]; rfl]; exact t), by show out.length + 1 = 1 + out.length; omega, .cons R h, rfl⟩
  | .own x, _, vs, out, gs, R, w, t, h => by
    obtain ⟨a, rfl, ha⟩ := id R
    exact ⟨_, _, .cons ha (by decide +kernel) (by simp) (by rw [show innerOf [.str "own", .str x] = [] by simp only [innerOf, inner_own]; rfl]; exact t), by show out.length + 1 = 1 + out.length; omega, .cons R h, rfl⟩
  | .part k x, _, vs, out, gs, R, w, t, h => by
    obtain ⟨a, rfl, ha⟩ := id R
    exact ⟨_, _, .cons ha (by decide +kernel) (by simp) (by rw [show innerOf [.str "part", .int k, .str x] = [] by simp only [innerOf, inner_part]; rfl]; exact t), by show out.length + 1 = 1 + out.length; omega, .cons R h, rfl⟩
  | .bin op A B, _, vs, out, gs, R, w, t, h => by
    obtain ⟨a, u, v, rfl, ha, r1, r2⟩ := id R
    obtain ⟨o1, g1, t1, l1, h1, e1⟩ := Ts.nodes r2 w.2.2 t h
    obtain ⟨o2, g2, t2, l2, h2, e2⟩ := Ts.nodes r1 w.2.1 t1 h1
    refine ⟨_, _, .cons ha (ops_short w.1) (by simp) (by rw [show innerOf [.str op, u, v] = [u, v] by simp only [innerOf, inner_ops w.1]; rfl]; exact t2), by rw [List.length_cons, l2, l1]; show _ = A.size + B.size + 1 + out.length; omega, .cons R h2, ?_⟩
    rw [List.all_cons, e2, e1]
    show _ = ((nd (.bin op A B) && (A.allB nd && B.allB nd)) && gs.all nd)
    rw [Bool.and_assoc, Bool.and_assoc]
  | .whn A B C, _, vs, out, gs, R, w, t, h => by
    obtain ⟨a, u, v, x, rfl, ha, r1, r2, r3⟩ := id R
    obtain ⟨o0, g0, t0, l0, h0, e0⟩ := Ts.nodes r3 w.2.2 t h
    obtain ⟨o1, g1, t1, l1, h1, e1⟩ := Ts.nodes r2 w.2.1 t0 h0
    obtain ⟨o2, g2, t2, l2, h2, e2⟩ := Ts.nodes r1 w.1 t1 h1
    refine ⟨_, _, .cons ha (by decide +kernel) (by simp) (by rw [show innerOf [.str "when", u, v, x] = [u, v, x] by simp only [innerOf, inner_when]; rfl]; exact t2), by rw [List.length_cons, l2, l1, l0]; show _ = A.size + B.size + C.size + 1 + out.length; omega, .cons R h2, ?_⟩
    rw [List.all_cons, e2, e1, e0]
    show _ = ((nd (.whn A B C) && (A.allB nd && (B.allB nd && C.allB nd))) && gs.all nd)
    rw [Bool.and_assoc, Bool.and_assoc, Bool.and_assoc]
noncomputable def rkey (r : Rul) : List Key := [.inl r.pl, .inr r.word]
theorem inV_strsB (x : Str) : ∀ {xs : List Str}, inV (.str x) (xs.map V.str) = decide (x ∈ xs)
  | [] => (decide_eq_false (by simp)).symm
  | b :: r => by
    have e : inV (.str x) ((b :: r).map V.str) = (eqV (.str b) (.str x) || inV (.str x) (r.map V.str)) := rfl
    rw [e, inV_strsB x (xs := r)]
    by_cases h : b = x
    · rw [decide_eq_true (show x ∈ b :: r by rw [h]; exact List.mem_cons_self)]
      simp [eqV, h]
    · have : (x ∈ b :: r) ↔ x ∈ r := by rw [List.mem_cons]; exact ⟨fun z => z.elim (fun e => absurd e.symm h) id, .inr⟩
      rw [show decide (x ∈ b :: r) = decide (x ∈ r) from decide_eq_decide.mpr this]
      have : (b == x) = false := by
        cases hh : (b == x) with
        | false => rfl
        | true => exact absurd (eq_of_beq hh) h
      simp [eqV, this]
theorem flat_strsB : ∀ {xs : List Str}, (xs.map V.str).all flatV = true
  | [] => rfl
  | b :: r => by rw [List.map_cons, List.all_cons, flat_strsB (xs := r)]; rfl
theorem paired_snd {α : Type} {R : α → V → Prop} : ∀ {l : List α} {kvs : List (List Key × V)}, Paired (fun a (kv : List Key × V) => R a kv.2) l kvs → Paired R l (kvs.map (·.2))
  | _, _, .nil => .nil
  | _, _, .cons a t => .cons a (paired_snd t)
theorem itj_goS {d : Addr} {o : Obj} {kvs : List (List Key × V)} {H1 : Hp} (h : H1 d = some (.frz o (.dT kvs))) : ∀ i H, Same H1 H → i < (kvs.map (·.2)).length → (Itj d o).go i H := fun i H s hi => by
  rw [List.length_map] at hi
  exact ⟨kvs, kvs[i], s _ _ h, List.getElem?_eq_getElem hi⟩
theorem itj_stS {d : Addr} {o : Obj} {kvs : List (List Key × V)} {H1 : Hp} (h : H1 d = some (.frz o (.dT kvs))) : ∀ H, Same H1 H → (Itj d o).stop (kvs.map (·.2)).length H := fun H s => ⟨kvs, s _ _ h, by rw [List.length_map]⟩
theorem itj_yS {d : Addr} {o : Obj} {kvs : List (List Key × V)} {H1 : Hp} (h : H1 d = some (.frz o (.dT kvs))) : ∀ i H v H', Same H1 H → (Itj d o).yld i H v H' → H' = H ∧ (kvs.map (·.2))[i]? = some v := fun i H v H' s hv => ⟨hv.1, hv.2 kvs (s _ _ h)⟩
theorem rul_inj : ∀ {l : List Rul}, (l.map fun r => (r.pl, r.word)).Nodup → ∀ {a b : Rul}, a ∈ l → b ∈ l → rkey a = rkey b → a = b
  | [], _, _, _, ha, _, _ => by cases ha
  | r :: l, nd, a, b, ha, hb, e => by
    have e1 : (a.pl, a.word) = (b.pl, b.word) := by
      unfold rkey at e
      have h1 := (List.cons.inj e).1
      have h2 := (List.cons.inj (List.cons.inj e).2).1
      rw [Sum.inl.inj h1, Sum.inr.inj h2]
    have nd : ((r.pl, r.word) :: l.map fun r => (r.pl, r.word)).Nodup := nd
    obtain ⟨n1, n2⟩ := List.nodup_cons.mp nd
    rcases List.mem_cons.mp ha with ha | ha
    · rcases List.mem_cons.mp hb with hb | hb
      · rw [ha, hb]
      · exact absurd (List.mem_map.mpr ⟨b, hb, by rw [← e1, ha]⟩) n1
    · rcases List.mem_cons.mp hb with hb | hb
      · exact absurd (List.mem_map.mpr ⟨a, ha, by rw [e1, hb]⟩) n1
      · exact rul_inj n2 ha hb e
theorem putK_new {kvs : List (List Key × V)} {k : List Key} {v : V} (h : k ∉ kvs.map (·.1)) : putK kvs k v = kvs ++ [(k, v)] := by
  unfold putK
  rw [if_neg fun z => by
    obtain ⟨kv, h1, h2⟩ := List.any_eq_true.mp z
    exact h (List.mem_map.mpr ⟨kv, h1, of_decide_eq_true h2⟩)]
noncomputable def spWheelP : Sp := fun vs H Q _ => ∃ bv bk, vs = [bv] ∧ RepBP H bk bv ∧ Q (.int (BkP.wheel bk)) H
noncomputable def spSortsP : Sp := fun vs H Q _ => ∃ bv bk, vs = [bv] ∧ RepBP H bk bv ∧ ∀ a xs, H a = some (.tup xs) → RepSs H (BkP.sorts bk) xs → Q (.ref a) H
noncomputable def spFormsP : Sp := fun vs H Q _ => ∃ bv bk, vs = [bv] ∧ RepBP H bk bv ∧ ∀ a xs, H a = some (.tup xs) → RepFPs H (BkP.forms bk) xs → Q (.ref a) H
noncomputable def spRulesP : Sp := fun vs H Q _ => ∃ v fr, vs = [v] ∧ RepFP H fr v ∧ ∀ a rv, H a = some (.tup rv) → RepRs H (FrP.rules fr) rv → Q (.ref a) H
noncomputable def spByKeyP : Sp := fun vs H Q _ => ∃ v fr, vs = [v] ∧ RepFP H fr v ∧ FrP.ok fr ∧ ∀ d kvs H', H d = none → Same H H' → H' d = some (.dT kvs) → Paired (fun r (kv : List Key × V) => Rep H' (Rul.fm r) kv.2) fr.rules kvs → Q (.ref d) H'
noncomputable def spPlainF : Sp := fun vs H Q _ => ∃ v fm, vs = [v] ∧ Rep H fm v ∧ Fm.wf fm ∧ fm.size ≤ 40 ∧ ∀ H', Same H H' → Q (.bl fm.plB) H'
noncomputable def spPlainForm : Sp := fun vs H Q _ => ∃ v fr, vs = [v] ∧ RepFP H fr v ∧ FrP.ok fr ∧ ∀ H', Same H H' → Q (.bl fr.plB) H'
noncomputable def spPlain : Sp := fun vs H Q _ => ∃ bv bk, vs = [bv] ∧ RepBP H bk bv ∧ BpOk bk ∧ ∀ H', Same H H' → Q (.bl bk.plB) H'
section
variable {P : Program} {w : World} {K : PySem.W.Frag} {mg : Str → Option Value} {base : Heap} {f f2 f3 f4 aR : Addr} {fd fd2 fd3 fd4 : FuncData}
theorem scWheelP : FnScope ["book"] ["book"] (defScope sWheelOf) := ⟨rfl, rfl, rfl, by decide +kernel, rfl, by decide +kernel, by decide +kernel⟩
theorem ok_WheelP (F : Fun K "wheel_of" "wheel_of" sWheelOf f fd) : FnOk P w K mg base CX0 1 f fd ["book"] spWheelP := by
  refine F.ok scWheelP (fun vs H Q E h => ?_) (fun cdv A outer s H vs Q E hr h => ?_)
  · obtain ⟨v, b, rfl, _⟩ := h
    rfl
  obtain ⟨v, bk, rfl, hB, q⟩ := h
  refine ⟨_, pss_one (ps_ret (pe_ix ix_tup (pv 0) pe_int (fun _ _ => rfl))), ?_⟩
  obtain ⟨a, sa, fa, fv, rfl, h1, ⟨sx, h2, h3⟩, h4, h5⟩ := id hB
  exact ⟨_, rfl, a, _, 0, _, rfl, rfl, SqT.of h1, atI_nat (j := 0) rfl, q⟩
theorem scSortsP : FnScope ["book"] ["book"] (defScope sSortsOf) := ⟨rfl, rfl, rfl, by decide +kernel, rfl, by decide +kernel, by decide +kernel⟩
theorem ok_SortsP (F : Fun K "sorts_of" "sorts_of" sSortsOf f fd) : FnOk P w K mg base CX0 1 f fd ["book"] spSortsP := by
  refine F.ok scSortsP (fun vs H Q E h => ?_) (fun cdv A outer s H vs Q E hr h => ?_)
  · obtain ⟨v, b, rfl, _⟩ := h
    rfl
  obtain ⟨v, bk, rfl, hB, q⟩ := h
  refine ⟨_, pss_one (ps_ret (pe_ix ix_tup (pv 0) pe_int (fun _ _ => rfl))), ?_⟩
  obtain ⟨a, sa, fa, fv, rfl, h1, ⟨sx, h2, h3⟩, h4, h5⟩ := id hB
  exact ⟨_, rfl, a, _, 1, .ref sa, rfl, rfl, SqT.of h1, atI_nat (j := 1) rfl, q sa sx h2 h3⟩
theorem scFormsP : FnScope ["book"] ["book"] (defScope sFormsOf) := ⟨rfl, rfl, rfl, by decide +kernel, rfl, by decide +kernel, by decide +kernel⟩
theorem ok_FormsP (F : Fun K "forms_of" "forms_of" sFormsOf f fd) : FnOk P w K mg base CX0 1 f fd ["book"] spFormsP := by
  refine F.ok scFormsP (fun vs H Q E h => ?_) (fun cdv A outer s H vs Q E hr h => ?_)
  · obtain ⟨v, b, rfl, _⟩ := h
    rfl
  obtain ⟨v, bk, rfl, hB, q⟩ := h
  refine ⟨_, pss_one (ps_ret (pe_ix ix_tup (pv 0) pe_int (fun _ _ => rfl))), ?_⟩
  obtain ⟨a, sa, fa, fv, rfl, h1, ⟨sx, h2, h3⟩, h4, h5⟩ := id hB
  exact ⟨_, rfl, a, _, 2, .ref fa, rfl, rfl, SqT.of h1, atI_nat (j := 2) rfl, q fa fv h4 h5⟩
theorem scRulesP : FnScope ["form"] ["form"] (defScope sRulesOf) := ⟨rfl, rfl, rfl, by decide +kernel, rfl, by decide +kernel, by decide +kernel⟩
theorem ok_RulesP (F : Fun K "rules_of" "rules_of" sRulesOf f fd) : FnOk P w K mg base CX0 1 f fd ["form"] spRulesP := by
  refine F.ok scRulesP (fun vs H Q E h => ?_) (fun cdv A outer s H vs Q E hr h => ?_)
  · obtain ⟨v, b, rfl, _⟩ := h
    rfl
  obtain ⟨v, bk, rfl, hB, q⟩ := h
  refine ⟨_, pss_one (ps_ret (pe_ix ix_tup (pv 0) pe_int (fun _ _ => rfl))), ?_⟩
  obtain ⟨a, pa, ra, rv, rfl, h1, h2, h3, h4⟩ := id hB
  exact ⟨_, rfl, a, _, 3, .ref ra, rfl, rfl, SqT.of h1, atI_nat (j := 3) rfl, q ra rv h3 h4⟩
noncomputable abbrev NByKey : List Str := ["form", "found", "at", "word", "formula"]
theorem scByKeyP : FnScope NByKey ["form"] (defScope sByKey) := ⟨rfl, rfl, rfl, by decide +kernel, rfl, by decide +kernel, by decide +kernel⟩
theorem ok_byKeyP (F : Fun K "formulas_by_key" "formulas_by_key" sByKey f fd)
    (GR : FnOk P w K mg base CX0 1 f2 fd2 ["form"] spRulesP) (bR : Binds K fd2 ["form"] []) (kR : PySem.W.keepIn K (.ref f2) = true) (mR : mg "rules_of" = some (.ref f2)) : FnOk P w K mg base CX0 2 f fd ["form"] spByKeyP := by
  refine F.ok scByKeyP (fun vs H Q E h => ?_) (fun cdv A outer s H vs Q E hr h => ?_)
  · obtain ⟨v, fr, rfl, _⟩ := h
    rfl
  obtain ⟨v, fr, rfl, hF, ⟨h12, hnd, _, _⟩, q⟩ := h
  have hu := hu_of hr
  refine ⟨_, pss_cons (ps_set (i := 1) scByKeyP.nd rfl (Or.inl rfl) pe_dnewT)
    (pss_cons (ps_for PassesOwn.never rfl (pi_tup (pe_call GR hr rfl mR kR bR .nil pass0 (pa_cons (pv 0) pa_nil)))
        (pg_tup rfl (pgs_cons (pg_name (i := 2) scByKeyP.nd rfl (Or.inl rfl)) (pgs_cons (pg_name (i := 3) scByKeyP.nd rfl (Or.inl rfl)) (pgs_cons (pg_name (i := 4) scByKeyP.nd rfl (Or.inl rfl)) pgs_nil))))
      (pss_one (ps_dput hu (pv 1) (pe_tup (pa_cons (pv 2) (pa_cons (pv 3) pa_nil))) (pv 4) rfl)))
    (pss_one (ps_ret (pv 1)))), ?_⟩
  refine fun d hd => ?_
  have s0 := same_new hd (.dT [])
  have g0 : (upd H d (.dT [])) d = some (.dT []) := upd_same
  generalize upd H d (.dT []) = H0 at s0 g0 ⊢
  refine ⟨_, rfl, v, fr, rfl, hF.mono (tk_of s0), fun ra rv hra hR => ?_⟩
  refine ⟨ra, rfl, ⟨rv, SqT.of hra⟩, ?_⟩
  have lR := hR.len
  have hra' := hra
  refine for_tup (xs := rv) (fun i σ H' => i ≤ rv.length ∧ ∃ o2 o3 o4 kvs, σ = [some v, some (.ref d), o2, o3, o4] ∧ Same H H' ∧ H' ra = some (.tup rv) ∧ RepRs H' fr.rules rv ∧ H' d = some (.dT kvs) ∧ kvs.length = i ∧ kvs.map (·.1) = (fr.rules.take i).map rkey ∧ Paired (fun r (kv : List Key × V) => Rep H' (Rul.fm r) kv.2) (fr.rules.take i) kvs)
    ⟨Nat.zero_le _, none, none, none, [], rfl, s0, hra, hR, g0, rfl, rfl, .nil⟩ (fun i σ H' _ h => by obtain ⟨_, _, _, _, _, _, _, g, _⟩ := h; exact SqT.of g) ?_ ?_
  · rintro i x σ H1 hx ⟨_, o2, o3, o4, kvs, rfl, S1, gra, hR1, gd, hl, hk, hP⟩
    have hil : i < rv.length := (List.getElem?_eq_some_iff.mp hx).1
    obtain ⟨r, hr', a, u, rfl, ha, hu'⟩ := paired_get hR1 hx
    refine ⟨a, _, rfl, SqT.of ha, rfl, _, _, rfl, _, _, rfl, _, _, rfl, rfl, ?_⟩
    refine ⟨_, rfl, _, rfl, _, rfl, _, rfl, (by show 2 ≤ sizeLine; decide), fun t ht => ?_⟩
    have s2 := same_new ht (.tup [.int r.pl, .str r.word])
    have g2 : (upd H1 t (.tup [.int r.pl, .str r.word])) t = some (.tup ((rkey r).map kV)) := upd_same
    generalize upd H1 t (.tup [.int r.pl, .str r.word]) = H2 at s2 g2 ⊢
    refine ⟨d, _, rfl, DPut.t (s2 _ _ gd) g2 (small1000 (by omega)), ?_⟩
    have hn : rkey r ∉ kvs.map (·.1) := fun hm => by
      rw [hk] at hm
      obtain ⟨r', h1, h2⟩ := List.mem_map.mp hm
      have e := rul_inj hnd (List.mem_of_mem_take h1) (List.mem_of_getElem? hr') h2
      subst e
      obtain ⟨j, hj⟩ := List.getElem?_of_mem h1
      have hji : j < i := by
        have := (List.getElem?_eq_some_iff.mp hj).1
        rw [List.length_take] at this
        omega
      rw [List.getElem?_take, if_pos hji] at hj
      have q1 : (fr.rules.map fun r => (r.pl, r.word))[j]? = some (r'.pl, r'.word) := by rw [List.getElem?_map, hj]; rfl
      have q2 : (fr.rules.map fun r => (r.pl, r.word))[i]? = some (r'.pl, r'.word) := by rw [List.getElem?_map, hr']; rfl
      have hlt : j < (fr.rules.map fun r => (r.pl, r.word)).length := (List.getElem?_eq_some_iff.mp q1).1
      have := (List.getElem?_inj hlt hnd).mp (q1.trans q2.symm)
      omega
    rw [putK_new hn]
    have tk : TK H1 (upd H2 d (.dT (kvs ++ [(rkey r, u)]))) := fun b xs e => by
      rw [upd_ne (fun z => by rw [z, gd] at e; cases e)]
      exact s2 _ _ e
    refine ⟨hil, _, _, _, _, rfl, ?_, tk _ _ gra, hR1.mono tk, upd_same, ?_, ?_, ?_⟩
    · intro y o h
      rw [upd_ne (ne_of_none h hd)]
      exact s2 _ _ (S1 _ _ h)
    · rw [List.length_append, hl]; rfl
    · rw [List.map_append, hk, List.take_add_one, hr', List.map_append]; rfl
    · rw [List.take_add_one, hr']
      exact Paired.snoc (Paired.mapP hP fun _ _ h => h.mono tk) (hu'.mono tk)
  · rintro σ H1 ⟨_, o2, o3, o4, kvs, rfl, S1, gra, hR1, gd, hl, hk, hP⟩
    rw [← lR, List.take_length] at hP
    exact ⟨_, rfl, q d kvs H1 hd S1 gd hP⟩
theorem scPlainF : FnScope ["formula"] ["formula"] (defScope sPlainF) := ⟨rfl, rfl, rfl, by decide +kernel, rfl, by decide +kernel, by decide +kernel⟩
theorem ok_plainF (F : Fun K "is_plain_formula" "is_plain_formula" sPlainF f fd) (G : Gb mg) (mR : mg "PLAIN_KINDS" = some (.ref aR)) (hR : ∀ H, SqT K H aR (plainK.map V.str))
    (GT : FnOk P w K mg base CX0 2 f2 fd2 ["formula"] spTuples) (bT : Binds K fd2 ["formula"] []) (kT : PySem.W.keepIn K (.ref f2) = true) (mT : mg "tuples_of" = some (.ref f2)) :
    FnOk P w K mg base CX0 3 f fd ["formula"] spPlainF := by
  refine F.ok scPlainF (fun vs H Q E h => ?_) (fun cdv A outer s H vs Q E hr h => ?_)
  · obtain ⟨v, fm, rfl, _⟩ := h
    rfl
  obtain ⟨v, fm, rfl, hRp, hwf, h40, q⟩ := h
  refine ⟨_, pss_one (ps_ret (pe_callB (call_all rfl) rfl G.all (by decide +kernel) (pa_cons (pe_comp (sc0 := defScope sPlainF) (N0 := ["formula"]) (ys := []) (fr := []) rfl (pi_list (pe_call GT hr rfl mT kT bT .nil pass0 (pa_cons (pv 0) pa_nil))) rfl rfl
      ⟨rfl, by decide +kernel, by decide +kernel, by decide +kernel, by decide +kernel, by decide +kernel, rfl, by decide +kernel⟩ (fun C s H ex => pe_cmpR (r := rIn K false) op_in_seq (pe_ix (r := rIxT K) ix_tup (pv 0) pe_int (fun _ _ => rfl)) (pe_glob (v := .ref aR) rfl mR rfl) (by with_unfolding_all rfl))) pa_nil))), ?_⟩
  obtain ⟨out, gs, hTs, hol, hP, hall⟩ := Ts.nodes (nd := nodeP) hRp hwf Ts.nil .nil
  have hol : out.length = fm.size := hol
  have hall : gs.all nodeP = fm.plB := by rw [hall]; exact Bool.and_true _
  refine ⟨_, rfl, v, out, rfl, hTs, by omega, fun p H1 s1 g1 => ?_⟩
  refine ⟨p, rfl, ⟨_, SqL.of g1⟩, ?_⟩
  refine comp_prS (by omega) hP (itl_goS g1) (itl_stS g1) (itl_yS g1) (fun _ g v => v = .bl (nodeP g)) (fun _ h => h) ?_ ?_
  · rintro g u H2 k hg hRg s2 hk
    obtain ⟨a, r, rfl, ha⟩ := rep_head hRg
    refine ⟨_, rfl, a, _, 0, _, rfl, rfl, SqT.of (s2 _ _ (s1 _ _ ha)), atI0, aR, _, rfl, .inr (hR H2), rfl, flat_strsB, ?_⟩
    refine (show k (.bl (inV (.str (headS g)) (plainK.map V.str))) H2 from ?_)
    rw [inV_strsB]
    exact hk _ H2 (Same.refl _) rfl
  · intro p3 zs H3 hp3 s3 g3 hz
    have e := paired_fn (g := fun g => V.bl (nodeP g)) hz
    have e2 : zs = (gs.map nodeP).map V.bl := by rw [e, List.map_map]; rfl
    rw [e2] at g3
    refine ⟨p3, _, rfl, SqL.of g3, ?_⟩
    exact qb (q H3 (s1.trans s3)) (by rw [List.all_map, ← hall]; rfl)
theorem scPlainForm : FnScope ["form"] ["form"] (defScope sPlainForm) := ⟨rfl, rfl, rfl, by decide +kernel, rfl, by decide +kernel, by decide +kernel⟩
theorem ok_plainForm (F : Fun K "is_plain_form" "is_plain_form" sPlainForm f fd) (G : Gb mg)
    (GB : FnOk P w K mg base CX0 2 f2 fd2 ["form"] spByKeyP) (bB : Binds K fd2 ["form"] []) (kB : PySem.W.keepIn K (.ref f2) = true) (mB : mg "formulas_by_key" = some (.ref f2))
    (GL : FnOk P w K mg base CX0 3 f3 fd3 ["formula"] spPlainF) (bL : Binds K fd3 ["formula"] []) (kL : PySem.W.keepIn K (.ref f3) = true) (mL : mg "is_plain_formula" = some (.ref f3)) :
    FnOk P w K mg base CX0 4 f fd ["form"] spPlainForm := by
  refine F.ok scPlainForm (fun vs H Q E h => ?_) (fun cdv A outer s H vs Q E hr h => ?_)
  · obtain ⟨v, fr, rfl, _⟩ := h
    rfl
  obtain ⟨v, fr, rfl, hF, hok, q⟩ := h
  have hr2 := hr.mono (show 2 ≤ 3 by decide)
  refine ⟨_, pss_one (ps_ret (pe_callB (call_all rfl) rfl G.all (by decide +kernel) (pa_cons (pe_comp (sc0 := defScope sPlainForm) (N0 := ["form"]) (ys := []) (fr := []) rfl (pi_vals (pe_call GB hr2 rfl mB kB bB .nil pass0 (pa_cons (pv 0) pa_nil))) rfl rfl
      ⟨rfl, by decide +kernel, by decide +kernel, by decide +kernel, by decide +kernel, by decide +kernel, rfl, by decide +kernel⟩ (fun C s H ex => pe_call GL hr rfl mL kL bL .nil pass0 (pa_cons (pv 0) pa_nil))) pa_nil))), ?_⟩
  refine ⟨_, rfl, v, fr, rfl, hF, hok, fun d kvs H3 hd s3 g3 hP => ?_⟩
  have lP := Paired.length hP
  have h12 := hok.1
  refine ⟨d, kvs, rfl, .inl ⟨g3, fun o => ?_⟩⟩
  have gF : (upd H3 d (.frz o (.dT kvs))) d = some (.frz o (.dT kvs)) := upd_same
  have sF : Same H (upd H3 d (.frz o (.dT kvs))) := fun b u h => by rw [upd_ne (ne_of_none h hd)]; exact s3 _ _ h
  have tF : TK H3 (upd H3 d (.frz o (.dT kvs))) := fun b xs h => by rw [upd_ne (fun z => by rw [z, g3] at h; cases h)]; exact h
  generalize upd H3 d (.frz o (.dT kvs)) = HF at gF sF tF ⊢
  refine comp_prS (by rw [List.length_map]; omega) (paired_snd hP) (itj_goS gF) (itj_stS gF) (itj_yS gF) (fun _ r v => v = .bl r.fm.plB) (fun _ h => h) ?_ ?_
  · rintro r v' H4 k hr' hR s4 hk
    exact ⟨_, rfl, v', r.fm, rfl, (hR.mono tF).mono (tk_of s4), (hok.2.2.2 r hr').1, (hok.2.2.2 r hr').2, fun H5 s5 => hk _ H5 s5 rfl⟩
  · intro p4 zs H4 hp4 s4 g4 hz
    have e := paired_fn (g := fun r : Rul => V.bl r.fm.plB) hz
    have e2 : zs = (fr.rules.map fun r => r.fm.plB).map V.bl := by rw [e, List.map_map]; rfl
    rw [e2] at g4
    refine ⟨p4, _, rfl, SqL.of g4, ?_⟩
    exact qb (q H4 (sF.trans s4)) (by rw [List.all_map]; rfl)
theorem scPlain : FnScope ["book"] ["book"] (defScope sPlain) := ⟨rfl, rfl, rfl, by decide +kernel, rfl, by decide +kernel, by decide +kernel⟩
theorem ok_plain (F : Fun K "is_plain" "is_plain" sPlain f fd) (G : Gb mg)
    (GW : FnOk P w K mg base CX0 1 f2 fd2 ["book"] spWheelP) (bW : Binds K fd2 ["book"] []) (kW : PySem.W.keepIn K (.ref f2) = true) (mW : mg "wheel_of" = some (.ref f2))
    (GF : FnOk P w K mg base CX0 1 f3 fd3 ["book"] spFormsP) (bF : Binds K fd3 ["book"] []) (kF : PySem.W.keepIn K (.ref f3) = true) (mF : mg "forms_of" = some (.ref f3))
    (GL : FnOk P w K mg base CX0 4 f4 fd4 ["form"] spPlainForm) (bL : Binds K fd4 ["form"] []) (kL : PySem.W.keepIn K (.ref f4) = true) (mL : mg "is_plain_form" = some (.ref f4)) :
    FnOk P w K mg base CX0 5 f fd ["book"] spPlain := by
  refine F.ok scPlain (fun vs H Q E h => ?_) (fun cdv A outer s H vs Q E hr h => ?_)
  · obtain ⟨v, fr, rfl, _⟩ := h
    rfl
  obtain ⟨bv, bk, rfl, hB, hok, q⟩ := h
  have hr1 := hr.mono (show 1 ≤ 4 by decide)
  refine ⟨_, pss_one (ps_ret (pe_and (pe_cmpR op_eq (pe_call GW hr1 rfl mW kW bW .nil pass0 (pa_cons (pv 0) pa_nil)) pe_int (nomark _))
    (pe_one (pe_callB (call_all rfl) rfl G.all (by decide +kernel) (pa_cons (pe_comp (sc0 := defScope sPlain) (N0 := ["book"]) (ys := []) (fr := []) rfl (pi_tup (pe_call GF hr1 rfl mF kF bF .nil pass0 (pa_cons (pv 0) pa_nil))) rfl rfl
      ⟨rfl, by decide +kernel, by decide +kernel, by decide +kernel, by decide +kernel, by decide +kernel, rfl, by decide +kernel⟩ (fun C s H ex => pe_call GL hr rfl mL kL bL .nil pass0 (pa_cons (pv 0) pa_nil))) pa_nil))))), ?_⟩
  refine ⟨_, rfl, bv, bk, rfl, hB, rfl, _, rfl, ?_⟩
  have few := hok.few
  refine ite2 (fun c => ?_) (fun c => ?_)
  · have hw : bk.wheel = 0 := V.int.inj (of_decide_eq_true c)
    refine ⟨_, rfl, bv, bk, rfl, hB, fun fb fx hfb hF => ?_⟩
    have lF := hF.len
    refine ⟨fb, rfl, ⟨_, SqT.of hfb⟩, ?_⟩
    refine comp_prS (by omega) hF (itt_goS hfb) (itt_stS hfb) (itt_yS hfb) (fun _ fr v => v = .bl fr.plB) (fun _ h => h) ?_ ?_
    · rintro fr v H1 k hfr hRf s1 hk
      exact ⟨_, rfl, v, fr, rfl, hRf.mono (tk_of s1), hok.ok fr hfr, fun H5 s5 => hk _ H5 s5 rfl⟩
    · intro p4 zs H4 hp4 s4 g4 hz
      have e := paired_fn (g := fun fr : FrP => V.bl fr.plB) hz
      have e2 : zs = (bk.forms.map FrP.plB).map V.bl := by rw [e, List.map_map]; rfl
      rw [e2] at g4
      refine ⟨p4, _, rfl, SqL.of g4, ?_⟩
      exact qb (q H4 s4) (by rw [List.all_map]; show (decide (bk.wheel = 0) && _) = _; rw [decide_eq_true hw, Bool.true_and]; rfl)
  · have hw : ¬ bk.wheel = 0 := fun e => c (decide_eq_true (by rw [e]))
    exact qb (q H (Same.refl _)) (by show (decide (bk.wheel = 0) && _) = _; rw [decide_eq_false hw, Bool.false_and])
end
end My
namespace My
open PySem L2
noncomputable def triOf (fr : FrP) : Tri := [.inl fr.name, .inl fr.own, .inr fr.parts]
theorem PrAt.mono {H H' : Hp} (t : TK H H') {x : Str ⊕ List Str} {v : V} (h : PrAt H x v) : PrAt H' x v := by
  cases x with
  | inl x => exact h
  | inr ps => obtain ⟨a, e, ha⟩ := h; exact ⟨a, e, t _ _ ha⟩
theorem TriAt.mono {H H' : Hp} (t : TK H H') {x : Tri} {v : V} (h : TriAt H x v) : TriAt H' x v := by
  obtain ⟨a, xs, e, ha, hp⟩ := h
  exact ⟨a, xs, e, t _ _ ha, Paired.mapP hp fun _ _ r => PrAt.mono t r⟩
noncomputable def BkP.names (bk : BkP) : List Str := bk.sorts.map Srt.name
noncomputable def BkP.tris (bk : BkP) : List Tri := bk.forms.map triOf
noncomputable def bdB (a b : BkP) : Bool := decide (a.names = b.names) && decide (a.tris = b.tris)
theorem mix_eq (ns ms : List Str) (ts us : List Tri) : decide (ns.map (Sum.inl : Str → Str ⊕ Tri) ++ ts.map Sum.inr = ms.map Sum.inl ++ us.map Sum.inr) = (decide (ns = ms) && decide (ts = us)) := by
  have L : ∀ (ns : List Str) (ts : List Tri), (ns.map (Sum.inl : Str → Str ⊕ Tri) ++ ts.map Sum.inr).filterMap Sum.getLeft? = ns := fun ns ts => by
    rw [List.filterMap_append, List.filterMap_map, List.filterMap_map]
    have e1 : (Sum.getLeft? ∘ (Sum.inl : Str → Str ⊕ Tri)) = some := rfl
    have e2 : (Sum.getLeft? ∘ (Sum.inr : Tri → Str ⊕ Tri)) = fun _ => none := rfl
    rw [e1, e2, List.filterMap_some, List.filterMap_eq_nil_iff.mpr fun _ _ => rfl, List.append_nil]
  have R : ∀ (ns : List Str) (ts : List Tri), (ns.map (Sum.inl : Str → Str ⊕ Tri) ++ ts.map Sum.inr).filterMap Sum.getRight? = ts := fun ns ts => by
    rw [List.filterMap_append, List.filterMap_map, List.filterMap_map]
    have e1 : (Sum.getRight? ∘ (Sum.inl : Str → Str ⊕ Tri)) = fun _ => none := rfl
    have e2 : (Sum.getRight? ∘ (Sum.inr : Tri → Str ⊕ Tri)) = some := rfl
    rw [e1, e2, List.filterMap_some, List.filterMap_eq_nil_iff.mpr fun _ _ => rfl, List.nil_append]
  by_cases h1 : ns = ms
  · by_cases h2 : ts = us
    · rw [decide_eq_true h1, decide_eq_true h2, decide_eq_true (by rw [h1, h2])]
      rfl
    · rw [decide_eq_false h2, Bool.and_false]
      refine decide_eq_false fun e => h2 ?_
      rw [← R ns ts, e, R]
  · rw [decide_eq_false h1, Bool.false_and]
    refine decide_eq_false fun e => h1 ?_
    rw [← L ns ts, e, L]
theorem paired_last {α β : Type} {F : α → β → Prop} : ∀ {l : List α} {r : List β} {x : β}, Paired F l (r ++ [x]) → ∃ l' g, l = l' ++ [g] ∧ Paired F l' r ∧ F g x
  | _, [], _, .cons h .nil => ⟨[], _, rfl, .nil, h⟩
  | _, _ :: r, x, .cons h t => by
    obtain ⟨l', g, e, p, hg⟩ := paired_last (r := r) t
    exact ⟨_ :: l', g, by rw [e]; rfl, .cons h p, hg⟩
theorem Paired.app {α β : Type} {F : α → β → Prop} : ∀ {a c : List α} {b d : List β}, Paired F a b → Paired F c d → Paired F (a ++ c) (b ++ d)
  | _, _, _, _, .nil, h => h
  | _, _, _, _, .cons x t, h => .cons x (Paired.app t h)
noncomputable def fsz : List Fm → Nat
  | [] => 0
  | f :: r => f.size + fsz r
theorem fsz_append : ∀ (a b : List Fm), fsz (a ++ b) = fsz a + fsz b
  | [], b => by show fsz b = 0 + fsz b; omega
  | x :: r, b => by
    show x.size + fsz (r ++ b) = x.size + fsz r + fsz b
    rw [fsz_append r b]
    omega
theorem fsz_len : ∀ (a : List Fm), a.length ≤ fsz a
  | [] => Nat.le_refl _
  | x :: r => by
    have := fsz_len r
    have := x.size_pos
    show r.length + 1 ≤ x.size + fsz r
    omega
theorem cut1 (x : V) (r : List V) : cutV (x :: r) (some 1) none = r := by
  have e1 : HT.sIx (x :: r).length 0 (some 1) = 1 := by
    have : HT.sIx (x :: r).length 0 (some 1) = min 1 (x :: r).length := HT.sIx_nat _ _ 1
    rw [this, List.length_cons]
    omega
  unfold cutV
  rw [e1, HT.sIx_none, List.length_cons, List.drop_one, List.tail_cons, Nat.add_sub_cancel, List.take_length]
theorem not_whole (x : V) (r : List V) : ¬ (HT.sIx (x :: r).length 0 (some 1) = 0 ∧ HT.sIx (x :: r).length (x :: r).length none = (x :: r).length) := by
  rintro ⟨h1, _⟩
  have : HT.sIx (x :: r).length 0 (some 1) = min 1 (x :: r).length := HT.sIx_nat _ _ 1
  rw [this, List.length_cons] at h1
  omega
noncomputable def spBuildOf : Sp := fun vs H Q _ => ∃ bv bk, vs = [bv] ∧ RepBP H bk bv ∧ BpOk bk ∧ ∀ p H', Same H H' → BdAt H' p bk.names bk.tris → Q (.ref p) H'
noncomputable def spBd2 : Sp := fun vs H Q _ => ∃ av bv ak bk, vs = [av, bv] ∧ RepBP H ak av ∧ RepBP H bk bv ∧ BpOk ak ∧ BpOk bk ∧ ∀ H', Same H H' → Q (.bl (bdB ak bk)) H'
theorem paired_map_l {α β γ : Type} {F : β → γ → Prop} {g : α → β} : ∀ {l : List α} {r : List γ}, Paired (fun a c => F (g a) c) l r → Paired F (l.map g) r
  | _, _, .nil => .nil
  | _, _, .cons a t => .cons a (paired_map_l t)
theorem BdAt.mono {H H' : Hp} (s : Same H H') {p : Addr} {ns : List Str} {ts : List Tri} : BdAt H p ns ts → BdAt H' p ns ts := fun ⟨l1, l2, zs, h1, h2, h3, h4⟩ => ⟨l1, l2, zs, s _ _ h1, s _ _ h2, s _ _ h3, Paired.mapP h4 fun _ _ h => TriAt.mono (tk_of s) h⟩
theorem MixAt.mono {H H' : Hp} (t : TK H H') {x : Str ⊕ Tri} {v : V} (h : MixAt H x v) : MixAt H' x v := by
  cases x with
  | inl x => exact h
  | inr ps => exact TriAt.mono t h
section
variable {P : Program} {w : World} {K : PySem.W.Frag} {mg : Str → Option Value} {base : Heap} {f f2 f3 f4 aR : Addr} {fd fd2 fd3 fd4 : FuncData}
theorem scBuildOf : FnScope ["book"] ["book"] (defScope sBuildOf) := ⟨rfl, rfl, rfl, by decide +kernel, rfl, by decide +kernel, by decide +kernel⟩
theorem ok_buildOf (F : Fun K "build_of" "build_of" sBuildOf f fd)
    (GS : FnOk P w K mg base CX0 1 f2 fd2 ["book"] spSortsP) (bS : Binds K fd2 ["book"] []) (kS : PySem.W.keepIn K (.ref f2) = true) (mS : mg "sorts_of" = some (.ref f2))
    (GF : FnOk P w K mg base CX0 1 f3 fd3 ["book"] spFormsP) (bF : Binds K fd3 ["book"] []) (kF : PySem.W.keepIn K (.ref f3) = true) (mF : mg "forms_of" = some (.ref f3)) :
    FnOk P w K mg base CX0 2 f fd ["book"] spBuildOf := by
  refine F.ok scBuildOf (fun vs H Q E h => ?_) (fun cdv A outer s H vs Q E hr h => ?_)
  · obtain ⟨v, fr, rfl, _⟩ := h
    rfl
  obtain ⟨bv, bk, rfl, hB, hok, q⟩ := h
  refine ⟨_, pss_one (ps_ret (pe_tup (pa_cons (pe_comp (sc0 := defScope sBuildOf) (N0 := ["book"]) (ys := []) (fr := []) rfl (pi_tup (pe_call GS hr rfl mS kS bS .nil pass0 (pa_cons (pv 0) pa_nil))) rfl rfl
      ⟨rfl, by decide +kernel, by decide +kernel, by decide +kernel, by decide +kernel, by decide +kernel, rfl, by decide +kernel⟩ (fun C s H ex => pe_ix (r := rIxT K) ix_tup (pv 0) pe_int (fun _ _ => rfl)))
    (pa_cons (pe_comp (sc0 := defScope sBuildOf) (N0 := ["book"]) (ys := []) (fr := []) rfl (pi_tup (pe_call GF hr rfl mF kF bF .nil pass0 (pa_cons (pv 0) pa_nil))) rfl rfl
      ⟨rfl, by decide +kernel, by decide +kernel, by decide +kernel, by decide +kernel, by decide +kernel, rfl, by decide +kernel⟩ (fun C s H ex => pe_slice sl_tupA (pv 0) po_none (po_some pe_int))) pa_nil)))), ?_⟩
  have few := hok.few
  have s5 := hok.s5
  refine ⟨_, rfl, bv, bk, rfl, hB, fun sa sx hsa hS => ?_⟩
  have lS := hS.len
  refine ⟨sa, rfl, ⟨_, SqT.of hsa⟩, ?_⟩
  refine comp_prS (by omega) hS (itt_goS hsa) (itt_stS hsa) (itt_yS hsa) (fun _ sr v => v = .str sr.name) (fun _ h => h) ?_ ?_
  · rintro sr v H1 k _ ⟨a, b, c, rfl, ha, _⟩ s1 hk
    exact ⟨_, rfl, a, _, 0, _, rfl, rfl, SqT.of (s1 _ _ ha), atI0, hk _ H1 (Same.refl _) rfl⟩
  intro p1 zs H1 hp1 s1 g1 hz
  have e1 : zs = bk.names.map V.str := by
    rw [paired_fn (g := fun sr : Srt => V.str sr.name) hz]
    show _ = (bk.sorts.map Srt.name).map V.str
    rw [List.map_map]
    rfl
  rw [e1] at g1
  refine ⟨_, rfl, bv, bk, rfl, hB.mono (tk_of s1), fun fa fx hfa hF => ?_⟩
  have lF := hF.len
  refine ⟨fa, rfl, ⟨_, SqT.of hfa⟩, ?_⟩
  refine comp_prS (by omega) hF (itt_goS hfa) (itt_stS hfa) (itt_yS hfa) (fun H fr v => TriAt H (triOf fr) v) (fun t h => TriAt.mono t h) ?_ ?_
  · rintro fr v H2 k _ ⟨a, pa, ra, rv, rfl, ha, hpa, _⟩ s2 hk
    refine ⟨_, rfl, 3, rfl, a, _, rfl, s2 _ _ ha, fun p H3 s3 g3 => ?_⟩
    exact hk _ H3 s3 ⟨p, _, rfl, g3, .cons rfl (.cons rfl (.cons ⟨pa, rfl, s3 _ _ (s2 _ _ hpa)⟩ .nil))⟩
  intro p2 ys H2 hp2 s2 g2 hy
  refine ⟨(by show 2 ≤ sizeLine; decide), fun p3 hp3 => ?_⟩
  have s3 := same_new hp3 (.tup [.ref p1, .ref p2])
  exact q p3 _ (s1.trans (s2.trans s3)) ⟨p1, p2, ys, upd_same, s3 _ _ (s2 _ _ g1), s3 _ _ g2, paired_map_l (Paired.mapP hy fun _ _ h => TriAt.mono (tk_of s3) h)⟩
theorem scOneBuild : FnScope ["one", "other"] ["one", "other"] (defScope sOneBuild) := ⟨rfl, rfl, rfl, by decide +kernel, rfl, by decide +kernel, by decide +kernel⟩
theorem ok_oneBuild (F : Fun K "of_one_build" "of_one_build" sOneBuild f fd)
    (GB : FnOk P w K mg base CX0 2 f2 fd2 ["book"] spBuildOf) (bB : Binds K fd2 ["book"] []) (kB : PySem.W.keepIn K (.ref f2) = true) (mB : mg "build_of" = some (.ref f2)) :
    FnOk P w K mg base CX0 3 f fd ["one", "other"] spBd2 := by
  refine F.ok scOneBuild (fun vs H Q E h => ?_) (fun cdv A outer s H vs Q E hr h => ?_)
  · obtain ⟨v, u, _, _, rfl, _⟩ := h
    rfl
  obtain ⟨av, bv, ak, bk, rfl, hA, hB, oa, ob, q⟩ := h
  have hu := hu_of hr
  refine ⟨_, pss_one (ps_ret (pe_cmpR (op_eqBd hu) (pe_call GB hr rfl mB kB bB .nil pass0 (pa_cons (pv 0) pa_nil)) (pe_call GB hr rfl mB kB bB .nil pass0 (pa_cons (pv 1) pa_nil)) (nomark _))), ?_⟩
  refine ⟨_, rfl, av, ak, rfl, hA, oa, fun p H1 s1 h1 => ?_⟩
  refine ⟨_, rfl, bv, bk, rfl, hB.mono (tk_of s1), ob, fun p2 H2 s2 h2 => ?_⟩
  exact ⟨p, p2, _, _, _, _, rfl, rfl, BdAt.mono s2 h1, h2, q H2 (s1.trans s2)⟩
theorem scBuildDue : FnScope ["one", "other", "here"] ["one", "other"] (defScope sBuildDue) := ⟨rfl, rfl, rfl, by decide +kernel, rfl, by decide +kernel, by decide +kernel⟩
theorem ok_buildDue (F : Fun K "_law_build_due" "_law_build_due" sBuildDue f fd) : FnOk P w K mg base CX0 1 f fd ["one", "other"] spBd2 := by
  refine F.ok scBuildDue (fun vs H Q E h => ?_) (fun cdv A outer s H vs Q E hr h => ?_)
  · obtain ⟨v, u, _, _, rfl, _⟩ := h
    rfl
  obtain ⟨av, bv, ak, bk, rfl, hA, hB, oa, ob, q⟩ := h
  have hu := hu_of hr
  refine ⟨_, pss_cons (ps_set (i := 2) scBuildDue.nd rfl (Or.inl rfl) (pe_op op_cat
      (pe_comp (sc0 := defScope sBuildDue) (N0 := ["one", "other", "here"]) (ys := []) (fr := []) rfl (pi_tup (pe_ix ix_tup (pv 0) pe_int (fun _ _ => rfl))) rfl rfl ⟨rfl, by decide +kernel, by decide +kernel, by decide +kernel, by decide +kernel, by decide +kernel, rfl, by decide +kernel⟩ (fun C s H ex => pe_ix (r := rIxT K) ix_tup (pv 0) pe_int (fun _ _ => rfl)))
      (pe_comp (sc0 := defScope sBuildDue) (N0 := ["one", "other", "here"]) (ys := []) (fr := []) rfl (pi_tup (pe_ix ix_tup (pv 0) pe_int (fun _ _ => rfl))) rfl rfl ⟨rfl, by decide +kernel, by decide +kernel, by decide +kernel, by decide +kernel, by decide +kernel, rfl, by decide +kernel⟩ (fun C s H ex => pe_slice sl_tupA (pv 0) po_none (po_some pe_int)))))
    (pss_one (ps_ret (pe_cmpR (op_eqMix hu) (pv 2) (pe_op op_cat
      (pe_comp (sc0 := defScope sBuildDue) (N0 := ["one", "other", "here"]) (ys := []) (fr := []) rfl (pi_tup (pe_ix ix_tup (pv 1) pe_int (fun _ _ => rfl))) rfl rfl ⟨rfl, by decide +kernel, by decide +kernel, by decide +kernel, by decide +kernel, by decide +kernel, rfl, by decide +kernel⟩ (fun C s H ex => pe_ix (r := rIxT K) ix_tup (pv 0) pe_int (fun _ _ => rfl)))
      (pe_comp (sc0 := defScope sBuildDue) (N0 := ["one", "other", "here"]) (ys := []) (fr := []) rfl (pi_tup (pe_ix ix_tup (pv 1) pe_int (fun _ _ => rfl))) rfl rfl ⟨rfl, by decide +kernel, by decide +kernel, by decide +kernel, by decide +kernel, by decide +kernel, rfl, by decide +kernel⟩ (fun C s H ex => pe_slice sl_tupA (pv 0) po_none (po_some pe_int)))) (nomark _)))), ?_⟩
  obtain ⟨a1, sa1, fa1, fv1, rfl, hb1, ⟨sx1, hs1, hS1⟩, hf1, hF1⟩ := id (hA)
  have few1 := oa.few
  have s51 := oa.s5
  have lS1 : ak.sorts.length = sx1.length := hS1.len
  have lF1 := hF1.len
  refine ⟨_, rfl, a1, _, 1, .ref sa1, rfl, rfl, SqT.of hb1, atI_nat (j := 1) rfl, sa1, rfl, ⟨_, SqT.of hs1⟩, ?_⟩
  refine comp_prS (by omega) hS1 (itt_goS hs1) (itt_stS hs1) (itt_yS hs1) (fun _ sr v => v = .str sr.name) (fun _ h => h) ?_ ?_
  · rintro sr v H1 k _ ⟨a, b, c, rfl, ha, _⟩ s1 hk
    exact ⟨_, rfl, a, _, 0, _, rfl, rfl, SqT.of (s1 _ _ ha), atI0, hk _ H1 (Same.refl _) rfl⟩
  intro p11 zs1 H11 hp11 s11 g11 hz1
  refine ⟨_, rfl, a1, _, 2, .ref fa1, rfl, rfl, SqT.of (s11 _ _ hb1), atI_nat (j := 2) rfl, fa1, rfl, ⟨_, SqT.of (s11 _ _ hf1)⟩, ?_⟩
  have hF11 := hF1.mono (tk_of s11)
  refine comp_prS (by omega) hF11 (itt_goS (s11 _ _ hf1)) (itt_stS (s11 _ _ hf1)) (itt_yS (s11 _ _ hf1)) (fun H fr v => TriAt H (triOf fr) v) (fun t h => TriAt.mono t h) ?_ ?_
  · rintro fr v H2 k _ ⟨a, pa, ra, rv, rfl, ha, hpa, _⟩ s2 hk
    refine ⟨_, rfl, 3, rfl, a, _, rfl, s2 _ _ ha, fun p H3 s3 g3 => ?_⟩
    exact hk _ H3 s3 ⟨p, _, rfl, g3, .cons rfl (.cons rfl (.cons ⟨pa, rfl, s3 _ _ (s2 _ _ hpa)⟩ .nil))⟩
  intro p21 ys1 H21 hp21 s21 g21 hy1
  have lz1 : zs1.length ≤ 20 := by
    have := Paired.length hz1
    omega
  have ly1 : ys1.length ≤ 20 := by
    have := Paired.length hy1
    omega
  refine ⟨p11, p21, _, _, rfl, rfl, s21 _ _ g11, g21, Nat.le_of_lt (small1000 (by omega)), fun p31 hp31 => ?_⟩
  have s31 := same_new hp31 (.lst (zs1 ++ ys1))
  have g31 : (upd H21 p31 (.lst (zs1 ++ ys1))) p31 = some (.lst (zs1 ++ ys1)) := upd_same
  generalize upd H21 p31 (.lst (zs1 ++ ys1)) = H31 at s31 g31 ⊢
  have S1 : Same H H31 := s11.trans (s21.trans s31)
  have m1 : Paired (MixAt H31) (ak.names.map Sum.inl ++ ak.tris.map Sum.inr) (zs1 ++ ys1) :=
    Paired.app (paired_map_l (g := Sum.inl) (paired_map_l (g := Srt.name) (F := fun x v => MixAt H31 (.inl x) v) (Paired.mapP hz1 fun _ _ h => h))) (paired_map_l (g := Sum.inr) (paired_map_l (g := triOf) (F := fun t v => MixAt H31 (.inr t) v) (Paired.mapP hy1 fun _ _ h => TriAt.mono (tk_of s31) h)))
  refine ⟨_, rfl, ?_⟩
  obtain ⟨a2, sa2, fa2, fv2, rfl, hb2, ⟨sx2, hs2, hS2⟩, hf2, hF2⟩ := id (hB.mono (tk_of S1))
  have few2 := ob.few
  have s52 := ob.s5
  have lS2 : bk.sorts.length = sx2.length := hS2.len
  have lF2 := hF2.len
  refine ⟨_, rfl, a2, _, 1, .ref sa2, rfl, rfl, SqT.of hb2, atI_nat (j := 1) rfl, sa2, rfl, ⟨_, SqT.of hs2⟩, ?_⟩
  refine comp_prS (by omega) hS2 (itt_goS hs2) (itt_stS hs2) (itt_yS hs2) (fun _ sr v => v = .str sr.name) (fun _ h => h) ?_ ?_
  · rintro sr v H1 k _ ⟨a, b, c, rfl, ha, _⟩ s1 hk
    exact ⟨_, rfl, a, _, 0, _, rfl, rfl, SqT.of (s1 _ _ ha), atI0, hk _ H1 (Same.refl _) rfl⟩
  intro p12 zs2 H12 hp12 s12 g12 hz2
  refine ⟨_, rfl, a2, _, 2, .ref fa2, rfl, rfl, SqT.of (s12 _ _ hb2), atI_nat (j := 2) rfl, fa2, rfl, ⟨_, SqT.of (s12 _ _ hf2)⟩, ?_⟩
  have hF21 := hF2.mono (tk_of s12)
  refine comp_prS (by omega) hF21 (itt_goS (s12 _ _ hf2)) (itt_stS (s12 _ _ hf2)) (itt_yS (s12 _ _ hf2)) (fun H fr v => TriAt H (triOf fr) v) (fun t h => TriAt.mono t h) ?_ ?_
  · rintro fr v H2 k _ ⟨a, pa, ra, rv, rfl, ha, hpa, _⟩ s2 hk
    refine ⟨_, rfl, 3, rfl, a, _, rfl, s2 _ _ ha, fun p H3 s3 g3 => ?_⟩
    exact hk _ H3 s3 ⟨p, _, rfl, g3, .cons rfl (.cons rfl (.cons ⟨pa, rfl, s3 _ _ (s2 _ _ hpa)⟩ .nil))⟩
  intro p22 ys2 H22 hp22 s22 g22 hy2
  have lz2 : zs2.length ≤ 20 := by
    have := Paired.length hz2
    omega
  have ly2 : ys2.length ≤ 20 := by
    have := Paired.length hy2
    omega
  refine ⟨p12, p22, _, _, rfl, rfl, s22 _ _ g12, g22, Nat.le_of_lt (small1000 (by omega)), fun p32 hp32 => ?_⟩
  have s32 := same_new hp32 (.lst (zs2 ++ ys2))
  have g32 : (upd H22 p32 (.lst (zs2 ++ ys2))) p32 = some (.lst (zs2 ++ ys2)) := upd_same
  generalize upd H22 p32 (.lst (zs2 ++ ys2)) = H32 at s32 g32 ⊢
  have S2 : Same H31 H32 := s12.trans (s22.trans s32)
  have m2 : Paired (MixAt H32) (bk.names.map Sum.inl ++ bk.tris.map Sum.inr) (zs2 ++ ys2) :=
    Paired.app (paired_map_l (g := Sum.inl) (paired_map_l (g := Srt.name) (F := fun x v => MixAt H32 (.inl x) v) (Paired.mapP hz2 fun _ _ h => h))) (paired_map_l (g := Sum.inr) (paired_map_l (g := triOf) (F := fun t v => MixAt H32 (.inr t) v) (Paired.mapP hy2 fun _ _ h => TriAt.mono (tk_of s32) h)))
  refine ⟨p31, p32, _, _, _, _, rfl, rfl, S2 _ _ g31, g32, Paired.mapP m1 fun t v h => MixAt.mono (tk_of S2) h, m2, ?_⟩
  rw [mix_eq]
  exact q _ (S1.trans S2)
end
end My
namespace L2
open PySem PySem.Spec PyProof.Rows
noncomputable def rTLB : List V → Hp → VK → Prop := fun xs H Q => ∃ x p b, xs = [x, .ref p] ∧ H p = some (.tup [.ty "tuple", .ty "list"]) ∧ (TL H x b ∨ ((∃ c, x = .bl c) ∧ b = false)) ∧ Q (.bl b) H
theorem call_isTLB {X : Cx} : CallR X (.builtin "isinstance") rTLB := by
  intro pins s σ H xs us Q I r h
  obtain ⟨x, p, b, e, hp, ty, q⟩ := h
  rcases ty with ty | ⟨⟨c0, rfl⟩, rfl⟩
  · exact call_isTL pins s σ H xs us Q I r ⟨x, p, b, e, hp, ty, q⟩
  subst e
  obtain ⟨u, w', rfl, rx, rp⟩ := vals2 r
  cases (show w' = Value.ref p from rp)
  obtain ⟨_, its, rv, o, h1, h2, n, h3⟩ := (show ObjOk X.prog X.w H s.heap p (.tup [.ty "tuple", .ty "list"]) from I.hok p _ hp)
  obtain ⟨u1, u2, rfl, r1, r2⟩ := vals2 rv
  cases (show u1 = Value.type "tuple" from r1)
  cases (show u2 = Value.type "list" from r2)
  obtain ⟨c, d, dt, sl⟩ := o
  simp only at h2 h3
  subst h2 h3
  have k : ∀ tk, EP X pins σ Q (.bool false) { s with toks := tk } := fun tk => ⟨.bl false, H, I.tok tk, rfl, q⟩
  cases (show u = Value.bool c0 from rx)
  exact PySem.W.kia_tup PySem.W.kitx_bool I.kIn True.intro h1 (kit_two _ "bool" (by simp)) (fun z => nomatch z) k
end L2
namespace My
open PySem L2
noncomputable def spSameB : Sp := fun vs H Q _ => ∃ b : Bool, vs = [.bl b, .bl b] ∧ ∀ H', Same H H' → Q (.bl true) H'
noncomputable def PDw (H : Hp) (pw : Addr) (fm : Fm) (L : List (Option V)) (m : Nat) (σ : St) (H' : Hp) : Prop := ∃ (ws : List V) (fs : List Fm) (o6 : Option V),
  σ = L ++ [some (.ref pw), o6] ∧ H' pw = some (.lst ws) ∧ Same H H' ∧ Paired (fun g u => Rep H g u ∧ g.wf) fs ws ∧ fs.all Fm.plB = fm.plB ∧ fsz fs = m ∧ m ≤ 40
section
variable {P : Program} {w : World} {K : PySem.W.Frag} {mg : Str → Option Value} {base : Heap} {f f2 f3 f4 aR : Addr} {fd fd2 fd3 fd4 : FuncData}
theorem scSame : FnScope ["found", "due"] ["found", "due"] (defScope sSame) := ⟨rfl, rfl, rfl, by decide +kernel, rfl, by decide +kernel, by decide +kernel⟩
theorem ok_sameB (F : Fun K "_law_same" "_law_same" sSame f fd) (G : Gb mg) (hlist : mg "list" = none) : FnOk P w K mg base CX0 1 f fd ["found", "due"] spSameB := by
  refine F.ok scSame (fun vs H Q E h => ?_) (fun cdv A outer s H vs Q E hr h => ?_)
  · obtain ⟨v, rfl, _⟩ := h
    rfl
  obtain ⟨b, rfl, q⟩ := h
  refine ⟨_, pss_cons (ps_if (pt_val (pe_callB call_isTLB rfl G.isi (by decide +kernel) (pa_cons (pv 1) (pa_cons (pe_tup (pa_cons (pe_bltn (v := .ty "tuple") rfl G.tuple (by decide +kernel) rfl) (pa_cons (pe_bltn (v := .ty "list") rfl hlist (by decide +kernel) rfl) pa_nil))) pa_nil)))) pss_never pss_nil)
    (pss_cons (ps_if (pt_cmpR op_isN (pv 1) pe_non (nomark _)) pss_never pss_nil)
    (pss_cons (ps_if (pt_val (pe_callB call_isV rfl G.isi (by decide +kernel) (pa_cons (pv 1) (pa_cons (pe_bltn (v := .ty "bool") rfl G.bool (by decide +kernel) rfl) pa_nil))))
      (pss_one (ps_ret (pe_and (pe_callB call_isV rfl G.isi (by decide +kernel) (pa_cons (pv 0) (pa_cons (pe_bltn (v := .ty "bool") rfl G.bool (by decide +kernel) rfl) pa_nil))) (pe_one (pe_cmpR op_eq (pv 0) (pv 1) (nomark _)))))) pss_nil)
    pss_never)), ?_⟩
  refine ⟨_, rfl, (by show 2 ≤ sizeLine; decide), fun p0 h0 => ?_⟩
  have s0 := same_new h0 (.tup [.ty "tuple", .ty "list"])
  have g0 : (upd H p0 (.tup [.ty "tuple", .ty "list"])) p0 = some (.tup [.ty "tuple", .ty "list"]) := upd_same
  generalize upd H p0 (.tup [.ty "tuple", .ty "list"]) = H0 at s0 g0 ⊢
  refine ⟨_, p0, false, rfl, g0, .inr ⟨⟨b, rfl⟩, rfl⟩, _, rfl, ?_⟩
  refine iteF ⟨_, rfl, rfl, _, rfl, ?_⟩
  rw [show decide (V.bl b = V.non) = false from decide_eq_false fun e => nomatch e]
  refine iteF ⟨_, rfl, _, "bool", rfl, True.intro, by simp, _, rfl, ?_⟩
  rw [show isV "bool" H0 (V.bl b) = true from rfl]
  refine iteT ⟨_, rfl, _, "bool", rfl, True.intro, by simp, _, rfl, ?_⟩
  rw [show isV "bool" H0 (V.bl b) = true from rfl]
  refine iteT ⟨_, rfl, _, rfl, rfl, ?_⟩
  rw [decide_eq_true rfl]
  exact q H0 s0
noncomputable abbrev NPd : List Str := ["book", "form", "at", "word", "formula", "waiting", "one"]
theorem scPlainDue : FnScope NPd ["book"] (defScope sPlainDue) := ⟨rfl, rfl, rfl, by decide +kernel, rfl, by decide +kernel, by decide +kernel⟩
theorem ok_plainDue (F : Fun K "_law_plain_due" "_law_plain_due" sPlainDue f fd) : FnOk P w K mg base CX0 1 f fd ["book"] spPlain := by
  refine F.ok scPlainDue (fun vs H Q E h => ?_) (fun cdv A outer s H vs Q E hr h => ?_)
  · obtain ⟨v, fr, rfl, _⟩ := h
    rfl
  obtain ⟨bv, bk, rfl, hB, hok, q⟩ := h
  refine ⟨_, pss_cons (ps_if (pt_cmpR op_ne (pe_ix ix_tup (pv 0) pe_int (fun _ _ => rfl)) pe_int (nomark _)) (pss_one (ps_ret pe_bl)) pss_nil)
    (pss_cons (ps_for PassesOwn.never rfl (pi_tup (pe_ix ix_tup (pv 0) pe_int (fun _ _ => rfl))) (pg_name (i := 1) scPlainDue.nd rfl (Or.inl rfl))
      (pss_one (ps_for PassesOwn.never rfl (pi_tup (pe_ix ix_tup (pv 1) pe_int (fun _ _ => rfl))) (pg_tup rfl (pgs_cons (pg_name (i := 2) scPlainDue.nd rfl (Or.inl rfl)) (pgs_cons (pg_name (i := 3) scPlainDue.nd rfl (Or.inl rfl)) (pgs_cons (pg_name (i := 4) scPlainDue.nd rfl (Or.inl rfl)) pgs_nil))))
        (pss_cons (ps_set (i := 5) scPlainDue.nd rfl (Or.inl rfl) (pe_lst (pa_cons (pv 4) pa_nil)))
        (pss_one (ps_while PassesOwn.never (pt_cmpR (op_ne_nil hr.units0) (pv 5) (pe_lst pa_nil) (nomark _))
          (pss_cons (ps_set (i := 6) scPlainDue.nd rfl (Or.inl rfl) (pe_bm0 PySem.F.plainAttrs_list PySem.F.slot_list_pop PySem.F.type_list_pop mt_pop (pv 5)))
          (pss_cons (ps_if (pt_cmpR op_notIn_seq (pe_ix ix_tup (pv 6) pe_int (fun _ _ => rfl)) (pe_tup (pac pe_str (pac pe_str (pac pe_str (pac pe_str (pac pe_str pa_nil)))))) (by with_unfolding_all rfl)) (pss_one (ps_ret pe_bl)) pss_nil)
          (pss_one (ps_if (PW.pt (pw_and (pt_cmpR op_ne (pe_ix ix_tup (pv 6) pe_int (fun _ _ => rfl)) pe_str (nomark _)) (pw_and1 (pt_cmpR op_ne (pe_ix ix_tup (pv 6) pe_int (fun _ _ => rfl)) pe_str (nomark _)))))
            (pss_one (ps_expr (pe_bm PySem.F.plainAttrs_list PySem.F.slot_list_extend PySem.F.type_list_extend mt_extT (pv 5) (pa_cons (pe_slice sl_tup (pv 6) (po_some pe_int) po_none) pa_nil)))) pss_nil))))))))))
    (pss_one (ps_ret pe_bl))), ?_⟩
  obtain ⟨b, sa, fa, fv, rfl, hb, hSA, hfa, hF⟩ := id hB
  have lF := hF.len
  refine ⟨_, rfl, b, _, 0, .int bk.wheel, rfl, rfl, SqT.of hb, atI0, rfl, _, rfl, ?_⟩
  by_cases hw : bk.wheel = 0
  case neg =>
    rw [decide_eq_false fun e => hw (V.int.inj e)]
    refine iteT ?_
    exact qb (q H (Same.refl _)) (by show (decide (bk.wheel = 0) && _) = _; rw [decide_eq_false hw, Bool.false_and])
  rw [decide_eq_true (by rw [hw])]
  refine iteF ?_
  have epl : bk.plB = bk.forms.all FrP.plB := by
    show (decide (bk.wheel = 0) && _) = _
    rw [decide_eq_true hw, Bool.true_and]
  refine ⟨_, rfl, b, _, 2, .ref fa, rfl, rfl, SqT.of hb, atI_nat (j := 2) rfl, fa, rfl, ⟨fv, SqT.of hfa⟩, ?_⟩
  refine for_tup (xs := fv) (fun i σ H' => ∃ o1 o2 o3 o4 o5 o6, σ = [some (.ref b), o1, o2, o3, o4, o5, o6] ∧ Same H H' ∧ (bk.forms.take i).all FrP.plB = true) ⟨none, none, none, none, none, none, rfl, Same.refl _, rfl⟩ (fun i σ H' _ ⟨_, _, _, _, _, _, _, s', _⟩ => SqT.of (s' _ _ hfa)) ?_ ?_
  · rintro i x σ H2 hx ⟨o1, o2, o3, o4, o5, o6, rfl, S2, ht⟩
    obtain ⟨fr, hfr, a, pa, ra, rv, rfl, ha, hpa, hra, hRr⟩ := paired_get hF hx
    have hfm := List.mem_of_getElem? hfr
    obtain ⟨h12, _, _, hwz⟩ := hok.ok fr hfm
    have lR := hRr.len
    refine ⟨_, rfl, a, _, 3, .ref ra, rfl, rfl, SqT.of (S2 _ _ ha), atI_nat (j := 3) rfl, ra, rfl, ⟨rv, SqT.of (S2 _ _ hra)⟩, ?_⟩
    refine for_tup (xs := rv) (fun j σ H' => ∃ o2 o3 o4 o5 o6, σ = [some (.ref b), some (.ref a), o2, o3, o4, o5, o6] ∧ Same H H' ∧ (fr.rules.take j).all (fun r => r.fm.plB) = true) ⟨_, _, _, _, _, rfl, S2, rfl⟩ (fun j σ H' _ ⟨_, _, _, _, _, _, s', _⟩ => SqT.of (s' _ _ hra)) ?_ ?_
    · rintro j y σ H3 hy ⟨o2, o3, o4, o5, o6, rfl, S3, ht3⟩
      obtain ⟨r, hr', ar, u, rfl, har, hRu⟩ := paired_get hRr hy
      have hrm := List.mem_of_getElem? hr'
      have bad : ∀ H', Same H H' → r.fm.plB = false → Q (.bl false) H' := fun H' s' hb' => by
        have := q H' s'
        rw [epl, show bk.forms.all FrP.plB = false from List.all_eq_false.mpr ⟨fr, hfm, by
          rw [show fr.plB = false from List.all_eq_false.mpr ⟨r, hrm, by rw [hb']; exact Bool.false_ne_true⟩]
          exact Bool.false_ne_true⟩] at this
        exact this
      refine ⟨ar, _, rfl, SqT.of (S3 _ _ har), rfl, _, _, rfl, _, _, rfl, _, _, rfl, rfl, ?_⟩
      refine ⟨_, rfl, (by show 1 ≤ sizeLine; decide), fun pw hpw => ?_⟩
      have hpw0 : H pw = none := S3.free hpw
      refine ⟨PDw H pw r.fm [some (.ref b), some (.ref a), some (.int r.pl), some (.str r.word), some u], ⟨_, [u], [r.fm], o6, rfl, upd_same, S3.trans (same_new hpw _), .cons ⟨hRu, (hwz r hrm).1⟩ .nil, Bool.and_true _, rfl, (by show r.fm.size + 0 ≤ 40; have := (hwz r hrm).2; omega)⟩, ?_⟩
      rintro m σ H' ⟨ws, fs, o6, rfl, gw, sm, hP, hall, rfl, hm⟩
      refine ⟨_, rfl, (by show 0 ≤ sizeLine; decide), fun p3 h3 => ?_⟩
      have s3 := same_new h3 (.lst [])
      have g3 : (upd H' p3 (.lst [])) p3 = some (.lst []) := upd_same
      have gw3 := s3 _ _ gw
      have sm3 := sm.trans s3
      generalize upd H' p3 (.lst []) = H4 at s3 g3 gw3 sm3 ⊢
      refine ⟨pw, p3, ws, rfl, rfl, SqL.of gw3, SqL.of g3, _, rfl, ?_⟩
      rcases List.eq_nil_or_concat ws with hz | ⟨ws', x, hz⟩
      · subst hz
        refine iteF ?_
        cases hP
        have hpl : r.fm.plB = true := hall.symm
        refine ⟨_, _, _, _, _, rfl, sm3, ?_⟩
        rw [List.take_add_one, hr', List.all_append, ht3, Bool.true_and]
        show (r.fm.plB && true) = true
        rw [hpl]
        rfl
      · rw [List.concat_eq_append] at hz
        subst hz
        have ne : (!(ws' ++ [x]).isEmpty) = true := by cases ws' <;> rfl
        refine ite2 (fun _ => ?_) (fun c => absurd ne c)
        refine ⟨fun σ' H'' => ∃ m', m' < fsz fs ∧ PDw H pw r.fm [some (.ref b), some (.ref a), some (.int r.pl), some (.str r.word), some u] m' σ' H'', fun σ' H'' h => h, ?_⟩
        obtain ⟨fs', g, rfl, hP', hRg, hwg⟩ := paired_last hP
        rw [fsz_append] at hm ⊢
        rw [List.all_append] at hall
        have hsz : fsz [g] = g.size := by show g.size + 0 = g.size; omega
        rw [hsz] at hm ⊢
        have hall : (fs'.all Fm.plB && g.plB) = r.fm.plB := by rw [← hall]; show _ = (_ && (g.plB && true)); rw [Bool.and_true]
        refine ⟨_, rfl, .inl ⟨rfl, _, SqL.of gw3⟩, pw, _, x, rfl, rfl, gw3, by simp, ?_⟩
        rw [List.dropLast_concat]
        have gw4 : (upd H4 pw (.lst ws')) pw = some (.lst ws') := upd_same
        have sm4 : Same H (upd H4 pw (.lst ws')) := fun c oo h => by rw [upd_ne (ne_of_none h hpw0)]; exact sm3 c oo h
        generalize upd H4 pw (.lst ws') = H5 at gw4 sm4 ⊢
        have lws : ws'.length ≤ 40 := by
          have h1 := fsz_len fs'
          have h2 : fs'.length = ws'.length := Paired.length hP'
          have := g.size_pos
          omega
        obtain ⟨a0, r0, rfl, ha0⟩ := rep_head hRg
        refine ⟨_, rfl, a0, _, 0, .str (headS g), rfl, rfl, SqT.of (sm4 _ _ ha0), atI0, (by show 5 ≤ sizeLine; decide), fun p6 hp6 => ?_⟩
        have s6 := same_new hp6 (.tup [.str "num", .str "part", .str "plus", .str "less", .str "times"])
        have g6 : (upd H5 p6 (.tup [.str "num", .str "part", .str "plus", .str "less", .str "times"])) p6 = some (.tup (plainK.map V.str)) := upd_same
        generalize upd H5 p6 (.tup [.str "num", .str "part", .str "plus", .str "less", .str "times"]) = H6 at s6 g6 ⊢
        have sm6 := sm4.trans s6
        have gw6 := s6 _ _ gw4
        refine ⟨p6, _, rfl, .inr (SqT.of g6), rfl, flat_strsB, _, rfl, ?_⟩
        refine (show if (!inV (.str (headS g)) (plainK.map V.str)) = true then _ else _ from ?_)
        rw [inV_strsB]
        by_cases hk : headS g ∈ plainK
        case neg =>
          rw [decide_eq_false hk]
          refine iteT (bad H6 sm6 ?_)
          have hng : nodeP g = false := decide_eq_false hk
          have : g.plB = false := by
            cases g with
            | num n => exact hng
            | own y => exact hng
            | part k y => exact hng
            | bin op A B => show (nodeP (.bin op A B) && (A.plB && B.plB)) = false; rw [hng]; rfl
            | whn A B C => show (nodeP (.whn A B C) && (A.plB && (B.plB && C.plB))) = false; rw [hng]; rfl
          rw [← hall, this, Bool.and_false]
        rw [decide_eq_true hk]
        refine iteF ?_
        have hng : nodeP g = true := decide_eq_true hk
        cases g with
        | num n =>
          refine ⟨_, rfl, a0, _, 0, .str "num", rfl, rfl, SqT.of (sm6 _ _ ha0), atI0, rfl, false, (by rw [decide_eq_true rfl]; rfl), iteF (iteF ?_)⟩
          exact ⟨fsz fs', (by show fsz fs' < fsz fs' + 1; omega), ws', fs', _, rfl, gw6, sm6, hP', (by rw [← hall]; show _ = (_ && nodeP (.num n)); rw [hng, Bool.and_true]), rfl, by omega⟩
        | own y => exact absurd (show ("own" : Str) ∈ plainK from hk) (by decide +kernel)
        | part k y =>
          refine ⟨_, rfl, a0, _, 0, .str "part", rfl, rfl, SqT.of (sm6 _ _ ha0), atI0, rfl, true, (by rw [decide_eq_false (by decide +kernel)]; rfl), iteT ?_⟩
          refine ⟨_, rfl, a0, _, 0, .str "part", rfl, rfl, SqT.of (sm6 _ _ ha0), atI0, rfl, false, (by rw [decide_eq_true rfl]; rfl), iteF ?_⟩
          exact ⟨fsz fs', (by show fsz fs' < fsz fs' + 1; omega), ws', fs', _, rfl, gw6, sm6, hP', (by rw [← hall]; show _ = (_ && nodeP (.part k y)); rw [hng, Bool.and_true]), rfl, by omega⟩
        | whn A B C => exact absurd (show ("when" : Str) ∈ plainK from hk) (by decide +kernel)
        | bin op A B =>
          obtain ⟨a1, u1, u2, e, ha1, q1, q2⟩ := hRg
          cases e
          rw [ha0] at ha1
          cases ha1
          obtain ⟨ho, w1, w2⟩ : op ∈ ops ∧ A.wf ∧ B.wf := hwg
          have hm' : fsz fs' + (A.size + B.size + 1) ≤ 40 := hm
          have hnn : op ≠ "num" := fun z => by rw [z] at ho; exact absurd ho (by decide +kernel)
          have hnp : op ≠ "part" := fun z => by rw [z] at ho; exact absurd ho (by decide +kernel)
          refine ⟨_, rfl, a0, _, 0, .str op, rfl, rfl, SqT.of (sm6 _ _ ha0), atI0, rfl, true, (by rw [decide_eq_false fun z => hnn (V.str.inj z)]; rfl), iteT ?_⟩
          refine ⟨_, rfl, a0, _, 0, .str op, rfl, rfl, SqT.of (sm6 _ _ ha0), atI0, rfl, true, (by rw [decide_eq_false fun z => hnp (V.str.inj z)]; rfl), iteT ?_⟩
          refine ⟨_, rfl, .inl ⟨rfl, _, SqL.of gw6⟩, _, rfl, 1, rfl, a0, _, rfl, SqT.of (sm6 _ _ ha0), not_whole _ _, fun p7 h7 => ?_⟩
          rw [cut1]
          have s7 := same_new h7 (.tup [u1, u2])
          have g7 : (upd H6 p7 (.tup [u1, u2])) p7 = some (.tup [u1, u2]) := upd_same
          generalize upd H6 p7 (.tup [u1, u2]) = H7 at s7 g7 ⊢
          have gw7 := s7 _ _ gw6
          refine ⟨pw, p7, ws', [u1, u2], rfl, rfl, gw7, SqT.of g7, Nat.le_of_lt (small1000 (by show ws'.length + 2 ≤ 1000; omega)), ?_⟩
          have sm7 : Same H (upd H7 pw (.lst (ws' ++ [u1, u2]))) := fun c oo h => by rw [upd_ne (ne_of_none h hpw0)]; exact s7 _ _ (sm6 c oo h)
          refine ⟨fsz (fs' ++ [A, B]), ?_, ws' ++ [u1, u2], fs' ++ [A, B], _, rfl, upd_same, sm7, Paired.app hP' (.cons ⟨q1, w1⟩ (.cons ⟨q2, w2⟩ .nil)), ?_, rfl, ?_⟩
          · rw [fsz_append]
            show fsz fs' + (A.size + (B.size + 0)) < fsz fs' + (A.size + B.size + 1)
            omega
          · rw [List.all_append, ← hall]
            show (_ && (A.plB && (B.plB && true))) = (_ && (nodeP (.bin op A B) && (A.plB && B.plB)))
            rw [Bool.and_true, hng, Bool.true_and]
          · rw [fsz_append]
            show fsz fs' + (A.size + (B.size + 0)) ≤ 40
            omega
    · rintro σ H3 ⟨o2, o3, o4, o5, o6, rfl, S3, ht3⟩
      rw [← lR, List.take_length] at ht3
      refine ⟨_, _, _, _, _, _, rfl, S3, ?_⟩
      rw [List.take_add_one, hfr, List.all_append, ht, Bool.true_and]
      show (fr.plB && true) = true
      rw [show fr.plB = true from ht3]
      rfl
  · rintro σ H2 ⟨o1, o2, o3, o4, o5, o6, rfl, S2, ht⟩
    rw [← lF, List.take_length] at ht
    have := q H2 S2
    rw [epl, ht] at this
    exact this
end
end My
namespace My
open PySem L2
noncomputable def spLSize (n : Nat) : Sp := fun vs H Q _ => ∃ v fm, vs = [v] ∧ Rep H fm v ∧ Fm.wf fm ∧ fm.size ≤ n ∧ ∀ H', Same H H' → Q (.int (fm.size : Int)) H'
noncomputable def IntV (kvs : List (Key × V)) : Prop := ∀ k v, valV kvs k = some v → ∃ n : Int, v = .int n
theorem IntV.put {kvs : List (Key × V)} (h : IntV kvs) (k : Key) (n : Int) : IntV (putK kvs k (.int n)) := fun j v e => by
  rw [valV_put] at e
  by_cases c : j = k
  · rw [if_pos c] at e
    exact ⟨n, (Option.some.inj e).symm⟩
  · rw [if_neg c] at e
    exact h j v e
noncomputable def spLeastP : Sp := fun vs H Q _ => ∃ bv bk, vs = [bv] ∧ RepBP H bk bv ∧ BpOk bk ∧ ∀ td kvs H', H td = none → Same H H' → H' td = some (.dK kvs) → IntV kvs → Q (.ref td) H'
noncomputable def spMayBe : Sp := fun vs H Q _ => ∃ av bv ak bk sm, vs = [av, bv, .bl sm] ∧ RepBP H ak av ∧ RepBP H bk bv ∧ BpOk ak ∧ BpOk bk ∧ 1 ≤ ak.forms.length ∧ (∀ s ∈ ak.sorts, s.ups.length ≤ 3) ∧ (∀ s ∈ bk.sorts, s.ups.length ≤ 3) ∧ ∀ (c : Bool) H', Same H H' → Q (.bl c) H'
theorem ints_ex {α : Type} : ∀ {l : List α} {zs : List V}, Paired (fun (_ : α) (v : V) => ∃ n : Int, v = .int n) l zs → ∃ ns : List Int, zs = ns.map V.int
  | _, _, .nil => ⟨[], rfl⟩
  | _, _, .cons ⟨n, e⟩ t => by
    obtain ⟨ns, e2⟩ := ints_ex t
    exact ⟨n :: ns, by rw [e, e2]; rfl⟩
theorem paired_strsP : ∀ ws : List Str, Paired (fun (x : Str) (v : V) => v = .str x) ws (ws.map V.str)
  | [] => .nil
  | _ :: r => .cons rfl (paired_strsP r)
section
variable {P : Program} {w : World} {K : PySem.W.Frag} {mg : Str → Option Value} {base : Heap} {f f2 f3 f4 aR : Addr} {fd fd2 fd3 fd4 : FuncData}
theorem scLSize : FnScope ["formula"] ["formula"] (defScope sLSize) := ⟨rfl, rfl, rfl, by decide +kernel, rfl, by decide +kernel, by decide +kernel⟩
theorem ok_lSize1 {n : Nat} (F : Fun K "_law_size" "_law_size" sLSize f fd) (hsum : mg "sum" = none)
    (GS : FnOk P w K mg base CX0 (n + 1) f fd ["formula"] (spLSize n)) (bS : Binds K fd ["formula"] []) (mS : mg "_law_size" = some (.ref f)) :
    FnOk P w K mg base CX0 (n + 2) f fd ["formula"] (spLSize (n + 1)) := by
  refine F.ok scLSize (fun vs H Q E h => ?_) (fun cdv A outer s H vs Q E hr h => ?_)
  · obtain ⟨v, fm, rfl, _⟩ := h
    rfl
  obtain ⟨v, fm, rfl, hR, hwf, hsz, q⟩ := h
  refine ⟨_, pss_cons (ps_if (pt_cmpR op_in_seq (pe_ix ix_tup (pv 0) pe_int (fun _ _ => rfl)) (pe_tup (pac pe_str (pac pe_str (pac pe_str pa_nil)))) (by with_unfolding_all rfl)) (pss_one (ps_ret pe_int)) pss_nil)
    (pss_one (ps_ret (pe_op op_add pe_int (pe_callB (call_sumB rfl) rfl hsum (by decide +kernel) (pa_cons (pe_comp (sc0 := defScope sLSize) (N0 := ["formula"]) (ys := []) (fr := []) rfl (pi_tup (pe_slice sl_tup (pv 0) (po_some pe_int) po_none)) rfl rfl
        ⟨rfl, by decide +kernel, by decide +kernel, by decide +kernel, by decide +kernel, by decide +kernel, rfl, by decide +kernel⟩ (fun C s H ex => pe_call GS hr rfl mS F.kp bS .nil pass0 (pa_cons (pv 0) pa_nil))) pa_nil))))), ?_⟩
  obtain ⟨a, r, rfl, ha⟩ := rep_head hR
  refine ⟨_, rfl, a, _, 0, .str (headS fm), rfl, rfl, SqT.of ha, atI0, (by show 3 ≤ sizeLine; decide), fun p1 h1 => ?_⟩
  have s1 := same_new h1 (.tup [.str "num", .str "own", .str "part"])
  have g1 : (upd H p1 (.tup [.str "num", .str "own", .str "part"])) p1 = some (.tup (([("num" : Str), "own", "part"] : List Str).map V.str)) := upd_same
  generalize upd H p1 (.tup [.str "num", .str "own", .str "part"]) = HX at s1 g1 ⊢
  have sX : Same H HX := s1
  refine ⟨p1, _, rfl, .inr (SqT.of g1), rfl, flat_strsB, _, rfl, ?_⟩
  refine (show if inV (.str (headS fm)) ((["num", "own", "part"] : List Str).map V.str) = true then _ else _ from ?_)
  rw [inV_strsB]
  cases fm with
  | num m =>
    rw [show decide (headS (.num m) ∈ (["num", "own", "part"] : List Str)) = true from decide_eq_true (by show ("num" : Str) ∈ _; decide +kernel)]
    exact iteT (q HX sX)
  | own x =>
    rw [show decide (headS (.own x) ∈ (["num", "own", "part"] : List Str)) = true from decide_eq_true (by show ("own" : Str) ∈ _; decide +kernel)]
    exact iteT (q HX sX)
  | part k x =>
    rw [show decide (headS (.part k x) ∈ (["num", "own", "part"] : List Str)) = true from decide_eq_true (by show ("part" : Str) ∈ _; decide +kernel)]
    exact iteT (q HX sX)
  | bin op X Y =>
    obtain ⟨a1, u1, u2, e, ha1, r1, r2⟩ := hR
    cases e
    rw [ha] at ha1
    cases ha1
    obtain ⟨ho, w1, w2⟩ : op ∈ ops ∧ X.wf ∧ Y.wf := hwf
    have hz : X.size + Y.size + 1 ≤ n + 1 := hsz
    have hno : op ∉ (["num", "own", "part"] : List Str) := fun z => by
      simp only [List.mem_cons, List.not_mem_nil, or_false] at z
      rcases z with z | z | z <;> (rw [z] at ho; exact absurd ho (by decide +kernel))
    rw [show decide (headS (.bin op X Y) ∈ (["num", "own", "part"] : List Str)) = false from decide_eq_false hno]
    refine iteF ?_
    refine ⟨_, rfl, 1, rfl, a, _, rfl, SqT.of (sX _ _ ha), not_whole _ _, fun p5 h5 => ?_⟩
    rw [cut1]
    have s5 := same_new h5 (.tup [u1, u2])
    have g5 : (upd HX p5 (.tup [u1, u2])) p5 = some (.tup [u1, u2]) := upd_same
    generalize upd HX p5 (.tup [u1, u2]) = H5 at s5 g5 ⊢
    have S5 := sX.trans s5
    refine ⟨p5, rfl, ⟨_, SqT.of g5⟩, ?_⟩
    refine comp_prS (as := [X, Y]) (A := fun g v => Rep H g v ∧ g.wf ∧ g.size ≤ n) (by show 2 ≤ 1000; decide) (.cons ⟨r1, w1, by omega⟩ (.cons ⟨r2, w2, by omega⟩ .nil)) (itt_goS g5) (itt_stS g5) (itt_yS g5) (fun _ g v => v = .int (g.size : Int)) (fun _ h => h) ?_ ?_
    · rintro g v' H6 k hg ⟨hRg, hwg, hsg⟩ s6 hk
      exact ⟨_, rfl, v', g, rfl, hRg.mono (tk_of (S5.trans s6)), hwg, hsg, fun H7 s7 => hk _ H7 s7 rfl⟩
    · intro p7 zs H7 hp7 s7 g7 hz7
      have e7 := paired_fn (g := fun g : Fm => V.int (g.size : Int)) hz7
      have e8 : zs = ([X, Y].map fun g => (g.size : Int)).map V.int := by rw [e7, List.map_map]; rfl
      rw [e8] at g7
      refine ⟨p7, _, rfl, SqL.of g7, _, _, rfl, rfl, ?_⟩
      have := q H7 (S5.trans s7)
      rw [show (((Fm.bin op X Y).size : Nat) : Int) = 1 + sumI ([X, Y].map fun g => (g.size : Int)) by show ((X.size + Y.size + 1 : Nat) : Int) = 1 + ((X.size : Int) + ((Y.size : Int) + 0)); omega] at this
      exact this
  | whn X Y Z =>
    obtain ⟨a1, u1, u2, u3, e, ha1, r1, r2, r3⟩ := hR
    cases e
    rw [ha] at ha1
    cases ha1
    obtain ⟨w1, w2, w3⟩ : X.wf ∧ Y.wf ∧ Z.wf := hwf
    have hz : X.size + Y.size + Z.size + 1 ≤ n + 1 := hsz
    rw [show decide (headS (.whn X Y Z) ∈ (["num", "own", "part"] : List Str)) = false from decide_eq_false (by show ("when" : Str) ∉ _; decide +kernel)]
    refine iteF ?_
    refine ⟨_, rfl, 1, rfl, a, _, rfl, SqT.of (sX _ _ ha), not_whole _ _, fun p5 h5 => ?_⟩
    rw [cut1]
    have s5 := same_new h5 (.tup [u1, u2, u3])
    have g5 : (upd HX p5 (.tup [u1, u2, u3])) p5 = some (.tup [u1, u2, u3]) := upd_same
    generalize upd HX p5 (.tup [u1, u2, u3]) = H5 at s5 g5 ⊢
    have S5 := sX.trans s5
    refine ⟨p5, rfl, ⟨_, SqT.of g5⟩, ?_⟩
    refine comp_prS (as := [X, Y, Z]) (A := fun g v => Rep H g v ∧ g.wf ∧ g.size ≤ n) (by show 3 ≤ 1000; decide) (.cons ⟨r1, w1, by omega⟩ (.cons ⟨r2, w2, by omega⟩ (.cons ⟨r3, w3, by omega⟩ .nil))) (itt_goS g5) (itt_stS g5) (itt_yS g5) (fun _ g v => v = .int (g.size : Int)) (fun _ h => h) ?_ ?_
    · rintro g v' H6 k hg ⟨hRg, hwg, hsg⟩ s6 hk
      exact ⟨_, rfl, v', g, rfl, hRg.mono (tk_of (S5.trans s6)), hwg, hsg, fun H7 s7 => hk _ H7 s7 rfl⟩
    · intro p7 zs H7 hp7 s7 g7 hz7
      have e7 := paired_fn (g := fun g : Fm => V.int (g.size : Int)) hz7
      have e8 : zs = ([X, Y, Z].map fun g => (g.size : Int)).map V.int := by rw [e7, List.map_map]; rfl
      rw [e8] at g7
      refine ⟨p7, _, rfl, SqL.of g7, _, _, rfl, rfl, ?_⟩
      have := q H7 (S5.trans s7)
      rw [show (((Fm.whn X Y Z).size : Nat) : Int) = 1 + sumI ([X, Y, Z].map fun g => (g.size : Int)) by show ((X.size + Y.size + Z.size + 1 : Nat) : Int) = 1 + ((X.size : Int) + ((Y.size : Int) + ((Z.size : Int) + 0))); omega] at this
      exact this
theorem ok_lSize0 : FnOk P w K mg base CX0 1 f fd ["formula"] (spLSize 0) := by
  have no : ∀ vs H Q E, ¬ spLSize 0 vs H Q E := fun vs H Q E h => by
    obtain ⟨v, fm, _, _, _, h, _⟩ := h
    have := fm.size_pos
    omega
  exact ⟨fun vs H Q E h => absurd h (no vs H Q E), fun A outer s H args us vs Q E _ _ _ _ h => absurd h (no vs H Q E)⟩
theorem ok_lSize (F : Fun K "_law_size" "_law_size" sLSize f fd) (hsum : mg "sum" = none) (bS : Binds K fd ["formula"] []) (mS : mg "_law_size" = some (.ref f)) : ∀ n : Nat, FnOk P w K mg base CX0 (n + 1) f fd ["formula"] (spLSize n)
  | 0 => ok_lSize0
  | n + 1 => ok_lSize1 F hsum (ok_lSize F hsum bS mS n) bS mS
noncomputable abbrev NLeP : List Str := ["book", "found", "turn", "name", "sort", "parts", "rules", "size"]
theorem scLLeast : FnScope NLeP ["book"] (defScope sLLeast) := ⟨rfl, rfl, rfl, by decide +kernel, rfl, by decide +kernel, by decide +kernel⟩
theorem ok_leastP (F : Fun K "_law_least" "_law_least" sLLeast f fd) (G : Gb mg) (hsum : mg "sum" = none) : FnOk P w K mg base CX0 1 f fd ["book"] spLeastP := by
  refine F.ok scLLeast (fun vs H Q E h => ?_) (fun cdv A outer s H vs Q E hr h => ?_)
  · obtain ⟨bv, bk, rfl, _⟩ := h
    rfl
  obtain ⟨bv, bk, rfl, ⟨a, sa, fa, fv, rfl, ha, ⟨sx, hsa, hS⟩, hfa, hF⟩, hok, q⟩ := h
  have hu := hu_of hr
  refine ⟨_, pss_cons (ps_set (i := 1) scLLeast.nd rfl (Or.inr rfl) pe_dnewK)
    (pss_cons (ps_for PassesOwn.never rfl (pi_range1 rfl G.range (pa_cons (pe_callB call_len_seq rfl G.len PySem.boot_len (pa_cons (pe_ix ix_tup (pv 0) pe_int (fun _ _ => rfl)) pa_nil)) pa_nil)) (pg_name (i := 2) scLLeast.nd rfl (Or.inl rfl))
      (pss_one (ps_for PassesOwn.never rfl (pi_tup (pe_ix ix_tup (pv 0) pe_int (fun _ _ => rfl)))
        (pg_tup rfl (pgs_cons (pg_name (i := 3) scLLeast.nd rfl (Or.inl rfl)) (pgs_cons (pg_name (i := 4) scLLeast.nd rfl (Or.inl rfl)) (pgs_cons (pg_name (i := 5) scLLeast.nd rfl (Or.inl rfl)) (pgs_cons (pg_name (i := 6) scLLeast.nd rfl (Or.inl rfl)) pgs_nil)))))
        (pss_one (ps_if (pt_val (pe_callB (call_all rfl) rfl G.all (by decide +kernel) (pa_cons (pe_comp (sc0 := defScope sLLeast) (N0 := NLeP) (ys := ["found"]) (fr := [1]) rfl (pi_tup (pv 5)) rfl rfl
              ⟨rfl, by decide +kernel, by decide +kernel, by decide +kernel, by decide +kernel, by decide +kernel, rfl, by decide +kernel⟩ (fun C s H ex => pe_cmp (pc_din hu (pv 0) (pv 1)))) pa_nil)))
          (pss_cons (ps_set (i := 7) scLLeast.nd rfl (Or.inl rfl) (pe_op op_add pe_int (pe_callB (call_sumB rfl) rfl hsum (by decide +kernel) (pa_cons (pe_comp (sc0 := defScope sLLeast) (N0 := NLeP) (ys := ["found"]) (fr := [1]) rfl (pi_tup (pv 5)) rfl rfl
              ⟨rfl, by decide +kernel, by decide +kernel, by decide +kernel, by decide +kernel, by decide +kernel, rfl, by decide +kernel⟩ (fun C s H ex => pe_dget hu (pv 1) (pv 0) (fun _ _ => rfl))) pa_nil))))
          (pss_one (ps_dput hu (pv 1) (pv 4) (pe_callB (call_min2 rfl) rfl G.min (by decide +kernel) (pa_cons (pv 7) (pa_cons (pe_dget2 hu (pv 1) (pv 4) (pv 7) ⟨rfl, rfl, rfl, rfl⟩) pa_nil))) rfl)))
          pss_nil)))))
    (pss_one (ps_ret (pv 1)))), ?_⟩
  have lS : bk.sorts.length = sx.length := hS.len
  have lF := hF.len
  have h20 := hok.s5
  have h10 := hok.few
  refine fun td htd => ?_
  have s0 := same_new htd (.dK [])
  have g0 : (upd H td (.dK [])) td = some (.dK []) := upd_same
  generalize upd H td (.dK []) = H0 at s0 g0 ⊢
  refine ⟨_, rfl, a, _, 1, .ref sa, rfl, rfl, SqT.of (s0 _ _ ha), atI_nat (j := 1) rfl, sa, sx, rfl, .inr (SqT.of (s0 _ _ hsa)), _, rfl, by omega, by omega, ?_⟩
  refine for_range (fun i σ H' => ∃ o2 o3 o4 o5 o6 o7 kvs, σ = [some (.ref a), some (.ref td), o2, o3, o4, o5, o6, o7] ∧ Same H H' ∧ H' td = some (.dK kvs) ∧ IntV kvs ∧ kvs.length ≤ 20 * i)
    ⟨none, none, none, none, none, none, [], rfl, s0, g0, fun k v e => (by cases e), Nat.le_refl _⟩ ?_ ?_
  · rintro i σ H1 hi ⟨o2, o3, o4, o5, o6, o7, kvs, rfl, S1, gd1, hI1, hl1⟩
    refine ⟨_, rfl, a, _, 2, .ref fa, rfl, rfl, SqT.of (S1 _ _ ha), atI_nat (j := 2) rfl, fa, rfl, ⟨fv, SqT.of (S1 _ _ hfa)⟩, ?_⟩
    refine for_tup (xs := fv) (fun j σ H' => j ≤ fv.length ∧ ∃ o3 o4 o5 o6 o7 kvs, σ = [some (.ref a), some (.ref td), some (.int (0 + (i : Int))), o3, o4, o5, o6, o7] ∧ Same H H' ∧ H' td = some (.dK kvs) ∧ IntV kvs ∧ kvs.length ≤ 20 * i + j)
      ⟨Nat.zero_le _, o3, o4, o5, o6, o7, kvs, rfl, S1, gd1, hI1, hl1⟩ (fun j σ H' _ h => by obtain ⟨_, _, _, _, _, _, _, _, sm, _⟩ := h; exact SqT.of (sm _ _ hfa)) ?_ ?_
    · rintro j x σ H2 hx ⟨hj, o3, o4, o5, o6, o7, kvs, rfl, S2, gd2, hI2, hl2⟩
      have hjl : j < fv.length := (List.getElem?_eq_some_iff.mp hx).1
      obtain ⟨fr, hfr, b, pa, ra, rv, rfl, hb, hpa, hra, hR⟩ := paired_get hF hx
      obtain ⟨_, _, hp10, _⟩ := hok.ok fr (List.mem_of_getElem? hfr)
      refine ⟨b, _, rfl, SqT.of (S2 _ _ hb), rfl, _, _, rfl, _, _, rfl, _, _, rfl, _, _, rfl, rfl, ?_⟩
      refine ⟨_, rfl, pa, rfl, ⟨_, SqT.of (S2 _ _ hpa)⟩, ?_⟩
      have hpa2 := S2 _ _ hpa
      refine comp_prS (by rw [List.length_map]; omega) (paired_strsP fr.parts) (itt_goS hpa2) (itt_stS hpa2) (itt_yS hpa2) (fun _ x v => v = .bl (valV kvs (.inr x)).isSome) (fun _ h => h) ?_ ?_
      · rintro x v H' k hv rfl s' hk
        exact ⟨_, rfl, _, rfl, td, _, rfl, DGet.k (k := .inr x) (s' _ _ gd2), hk _ H' (Same.refl _) rfl⟩
      intro p3 zs H3 hp3' s3 gp3 hz3
      have e3 : zs = (fr.parts.map fun x => (valV kvs (.inr x)).isSome).map V.bl := by rw [paired_fn (g := fun x => V.bl (valV kvs (.inr x)).isSome) hz3, List.map_map]; rfl
      rw [e3] at gp3
      have S3 : Same H H3 := S2.trans s3
      have gd3 := s3 _ _ gd2
      refine ⟨p3, _, rfl, SqL.of gp3, _, rfl, ?_⟩
      refine ite2 (fun c => ?_) (fun c => ⟨hjl, _, _, _, _, _, kvs, rfl, S3, gd3, hI2, by omega⟩)
      have hin : ∀ x ∈ fr.parts, ∃ n : Int, valV kvs (.inr x) = some (.int n) := fun x hm => by
        have c := List.all_eq_true.mp c _ (List.mem_map.mpr ⟨x, hm, rfl⟩)
        have c : (valV kvs (.inr x)).isSome = true := c
        cases e : valV kvs (.inr x) with
        | none => rw [e] at c; cases c
        | some v =>
          obtain ⟨n, rfl⟩ := hI2 _ _ e
          exact ⟨n, rfl⟩
      refine ⟨_, rfl, pa, rfl, ⟨_, SqT.of (S3 _ _ hpa)⟩, ?_⟩
      have hpa3 := S3 _ _ hpa
      refine comp_prS (by rw [List.length_map]; omega) (paired_strsP fr.parts) (itt_goS hpa3) (itt_stS hpa3) (itt_yS hpa3) (fun _ x v => ∃ n : Int, v = .int n) (fun _ h => h) ?_ ?_
      · rintro x v H' k hv rfl s' hk
        obtain ⟨n, en⟩ := hin x hv
        exact ⟨_, rfl, _, rfl, td, .int n, rfl, (by rw [← en]; exact DGet.k (k := .inr x) (s' _ _ gd3)), hk _ H' (Same.refl _) ⟨n, rfl⟩⟩
      intro p4 ys H4 hp4 s4 gp4 hz4
      obtain ⟨ns, en⟩ : ∃ ns : List Int, ys = ns.map V.int := ints_ex hz4
      rw [en] at gp4
      have S4 : Same H H4 := S3.trans s4
      have gd4 := s4 _ _ gd3
      refine ⟨p4, ns, rfl, SqL.of gp4, 1, _, rfl, rfl, ?_⟩
      rw [show ((fun (i j : Int) => V.int (i + j)) 1 (sumI ns)) = V.int (1 + sumI ns) from rfl]
      generalize 1 + sumI ns = size
      have fin : ∀ n : Int, j + 1 ≤ fv.length ∧ ∃ o3 o4 o5 o6 o7 kvs', [some (V.ref a), some (.ref td), some (.int (0 + (i : Int))), some (.str fr.name), some (.str fr.own), some (.ref pa), some (.ref ra), some (.int size)] = [some (V.ref a), some (.ref td), some (.int (0 + (i : Int))), o3, o4, o5, o6, o7] ∧
          Same H (upd H4 td (.dK (putK kvs (.inr fr.own) (.int n)))) ∧ (upd H4 td (.dK (putK kvs (.inr fr.own) (.int n)))) td = some (.dK kvs') ∧ IntV kvs' ∧ kvs'.length ≤ 20 * i + (j + 1) := fun n => by
        refine ⟨hjl, _, _, _, _, _, _, rfl, ?_, upd_same, hI2.put _ n, ?_⟩
        · intro y oo h
          rw [upd_ne (ne_of_none h htd)]
          exact S4 _ _ h
        · have := length_putK kvs (.inr fr.own) (.int n)
          omega
      refine ⟨_, rfl, _, rfl, td, rfl, .inl ⟨kvs, .inl gd4⟩, _, rfl, _, rfl, _, DGet.k (k := .inr fr.own) gd4, ?_⟩
      cases hold : valV kvs (.inr fr.own) with
      | none =>
        refine ⟨_, _, rfl, ?_⟩
        exact ⟨_, rfl, _, rfl, td, _, rfl, DPut.k (k := .inr fr.own) gd4 (small1000 (by omega)), fin _⟩
      | some v =>
        obtain ⟨m, rfl⟩ := hI2 _ _ hold
        refine ⟨_, _, rfl, ?_⟩
        exact ⟨_, rfl, _, rfl, td, _, rfl, DPut.k (k := .inr fr.own) gd4 (small1000 (by omega)), fin _⟩
    · rintro σ H2 ⟨_, o3, o4, o5, o6, o7, kvs, rfl, S2, gd2, hI2, hl2⟩
      exact ⟨_, _, _, _, _, _, kvs, rfl, S2, gd2, hI2, by omega⟩
  · rintro σ H1 ⟨o2, o3, o4, o5, o6, o7, kvs, rfl, S1, gd1, hI1, hl1⟩
    exact ⟨_, rfl, q td kvs H1 htd S1 gd1 hI1⟩
end
end My
namespace My
open PySem L2
section
variable {P : Program} {w : World} {K : PySem.W.Frag} {mg : Str → Option Value} {base : Heap} {f f2 f3 f4 aR : Addr} {fd fd2 fd3 fd4 : FuncData}
noncomputable abbrev NMb : List Str := ["one", "other", "same", "least", "many", "sort", "size", "k"]
theorem scMayBe : FnScope NMb ["one", "other", "same"] (defScope sMayBe) := ⟨rfl, rfl, rfl, by decide +kernel, rfl, by decide +kernel, by decide +kernel⟩
theorem ok_mayBe (F : Fun K "_law_may_be_great" "_law_may_be_great" sMayBe f fd) (G : Gb mg)
    (GL : FnOk P w K mg base CX0 1 f2 fd2 ["book"] spLeastP) (bL : Binds K fd2 ["book"] []) (kL : PySem.W.keepIn K (.ref f2) = true) (mL : mg "_law_least" = some (.ref f2)) :
    FnOk P w K mg base CX0 2 f fd ["one", "other", "same"] spMayBe := by
  refine F.ok scMayBe (fun vs H Q E h => ?_) (fun cdv A outer s H vs Q E hr h => ?_)
  · obtain ⟨av, bv, ak, bk, sm, rfl, _⟩ := h
    rfl
  obtain ⟨av, bv, ak, bk, sm, rfl, hA, hB, oa, ob, hf1, hua, hub, q⟩ := h
  have hu := hu_of hr
  refine ⟨_, pss_cons (ps_set (i := 3) scMayBe.nd rfl (Or.inl rfl) (pe_call GL hr rfl mL kL bL .nil pass0 (pa_cons (pv 0) pa_nil)))
    (pss_cons (ps_set (i := 4) scMayBe.nd rfl (Or.inl rfl) pe_int)
    (pss_cons (ps_for PassesOwn.never rfl (pi_tup (pe_ix ix_tup (pv 0) pe_int (fun _ _ => rfl))) (pg_name (i := 5) scMayBe.nd rfl (Or.inl rfl))
      (pss_one (ps_if (pt_cmp (pc_din hu (pe_ix ix_tup (pv 5) pe_int (fun _ _ => rfl)) (pv 3))) (pss_one (ps_set (i := 4) scMayBe.nd rfl (Or.inl rfl) (pe_op op_add (pe_op op_add (pv 4) pe_int) (pe_callB call_len_seq rfl G.len PySem.boot_len (pa_cons (pe_ix ix_tup (pv 5) pe_int (fun _ _ => rfl)) pa_nil))))) pss_nil)))
    (pss_cons (ps_for PassesOwn.never rfl (pi_tup (pe_ix ix_tup (pv 1) pe_int (fun _ _ => rfl))) (pg_name (i := 5) scMayBe.nd rfl (Or.inl rfl))
      (pss_one (ps_if (PW.pt (pw_and (pt_cmp (pc_din hu (pe_ix ix_tup (pv 5) pe_int (fun _ _ => rfl)) (pv 3))) (pw_and1 (pt_not (pt_val (pv 2)))))) (pss_one (ps_set (i := 4) scMayBe.nd rfl (Or.inl rfl) (pe_op op_add (pv 4) (pe_callB call_len_seq rfl G.len PySem.boot_len (pa_cons (pe_ix ix_tup (pv 5) pe_int (fun _ _ => rfl)) pa_nil))))) pss_nil)))
    (pss_cons (ps_set (i := 6) scMayBe.nd rfl (Or.inl rfl) pe_int)
    (pss_cons (ps_for PassesOwn.never rfl (pi_range1 rfl G.range (pa_cons (pe_op op_sub (pv 4) pe_int) pa_nil)) (pg_name (i := 7) scMayBe.nd rfl (Or.inl rfl))
      (pss_one (ps_set (i := 6) scMayBe.nd rfl (Or.inl rfl) (pe_op op_add pe_int (pe_op op_mul (pv 6) (pe_callB (call_maxL rfl) rfl G.max (by decide +kernel) (pa_cons (pe_comp (sc0 := defScope sMayBe) (N0 := NMb) (ys := []) (fr := []) rfl (pi_tup (pe_ix ix_tup (pv 0) pe_int (fun _ _ => rfl))) rfl rfl
        ⟨rfl, by decide +kernel, by decide +kernel, by decide +kernel, by decide +kernel, by decide +kernel, rfl, by decide +kernel⟩ (fun C s H ex => pe_callB (r := rLen K) call_len_seq rfl G.len PySem.boot_len (pa_cons (pe_ix (r := rIxT K) ix_tup (pv 0) pe_int (fun _ _ => rfl)) pa_nil))) pa_nil)))))))
    (pss_one (ps_ret (pe_cmpR op_gt (pv 6) pe_int (nomark _))))))))), ?_⟩
  obtain ⟨a, sa, fa, fv, rfl, ha, ⟨sx, hsa, hS⟩, hfa, hF⟩ := id hA
  obtain ⟨b, sb, fb, gv, rfl, hb, ⟨sy, hsb, hT⟩, hfb, hG⟩ := id hB
  have lS : ak.sorts.length = sx.length := hS.len
  have lT : bk.sorts.length = sy.length := hT.len
  have lF := hF.len
  have ha20 := oa.s5
  have hb20 := ob.s5
  have hf20 := oa.few
  refine ⟨_, rfl, .ref a, ak, rfl, hA, oa, fun td kvs H1 htd s1 g1 hI => ?_⟩
  refine ⟨_, rfl, a, _, 1, .ref sa, rfl, rfl, SqT.of (s1 _ _ ha), atI_nat (j := 1) rfl, sa, rfl, ⟨sx, SqT.of (s1 _ _ hsa)⟩, ?_⟩
  refine for_tup (xs := sx) (fun i σ H' => i ≤ sx.length ∧ ∃ o5 m, σ = [some (.ref a), some (.ref b), some (.bl sm), some (.ref td), some (.int m), o5, none, none] ∧ Same H1 H' ∧ 0 ≤ m ∧ m ≤ 4 * (i : Int)) ⟨Nat.zero_le _, none, 0, rfl, Same.refl _, by decide, by decide⟩ (fun i σ H' _ h => by obtain ⟨_, _, _, _, s', _⟩ := h; exact SqT.of (s' _ _ (s1 _ _ hsa))) ?_ ?_
  · rintro i x σ H2 hx ⟨_, o5, m, rfl, s2, hm0, hm1⟩
    have hil : i < sx.length := (List.getElem?_eq_some_iff.mp hx).1
    obtain ⟨sr, hsr, e1, e2, e3, rfl, h1, h2, h3⟩ := paired_get hS hx
    have S2 := s1.trans s2
    refine ⟨_, rfl, e1, _, 0, .str sr.name, rfl, rfl, SqT.of (S2 _ _ h1), atI0, _, rfl, td, _, rfl, DGet.k (k := .inr sr.name) (s2 _ _ g1), _, rfl, ?_⟩
    have lu := hua sr (List.mem_of_getElem? hsr)
    refine ite2 (fun _ => ?_) (fun _ => ⟨hil, _, m, rfl, s2, hm0, by omega⟩)
    refine ⟨_, rfl, _, _, rfl, rfl, _, rfl, e1, _, 2, .ref e3, rfl, rfl, SqT.of (S2 _ _ h1), atI_nat (j := 2) rfl, e3, _, rfl, .inr (SqT.of (S2 _ _ h3)), _, _, rfl, rfl, ?_⟩
    refine ⟨hil, _, _, rfl, s2, ?_, ?_⟩
    · rw [List.length_map]; omega
    · rw [List.length_map]; omega
  · rintro σ H2 ⟨_, o5, m, rfl, s2, hm0, hm1⟩
    have S2 := s1.trans s2
    refine ⟨_, rfl, b, _, 1, .ref sb, rfl, rfl, SqT.of (S2 _ _ hb), atI_nat (j := 1) rfl, sb, rfl, ⟨sy, SqT.of (S2 _ _ hsb)⟩, ?_⟩
    refine for_tup (xs := sy) (fun i σ H' => i ≤ sy.length ∧ ∃ o5 m', σ = [some (.ref a), some (.ref b), some (.bl sm), some (.ref td), some (.int m'), o5, none, none] ∧ Same H1 H' ∧ 0 ≤ m' ∧ m' ≤ m + 3 * (i : Int)) ⟨Nat.zero_le _, o5, m, rfl, s2, hm0, by omega⟩ (fun i σ H' _ h => by obtain ⟨_, _, _, _, s', _⟩ := h; exact SqT.of (s' _ _ (s1 _ _ hsb))) ?_ ?_
    · rintro i x σ H3 hx ⟨_, o5, m', rfl, s3, hm0, hm1'⟩
      have hil : i < sy.length := (List.getElem?_eq_some_iff.mp hx).1
      obtain ⟨sr, hsr, e1, e2, e3, rfl, h1, h2, h3⟩ := paired_get hT hx
      have S3 := s1.trans s3
      refine ⟨_, rfl, e1, _, 0, .str sr.name, rfl, rfl, SqT.of (S3 _ _ h1), atI0, _, rfl, td, _, rfl, DGet.k (k := .inr sr.name) (s3 _ _ g1), _, rfl, ?_⟩
      have lu := hub sr (List.mem_of_getElem? hsr)
      have stay : i + 1 ≤ sy.length ∧ ∃ o5 m2, [some (V.ref a), some (.ref b), some (.bl sm), some (.ref td), some (.int m'), some (.ref e1), none, none] = [some (V.ref a), some (.ref b), some (.bl sm), some (.ref td), some (.int m2), o5, none, none] ∧ Same H1 H3 ∧ 0 ≤ m2 ∧ m2 ≤ m + 3 * ((i + 1 : Nat) : Int) := ⟨hil, _, m', rfl, s3, hm0, by omega⟩
      refine ite2 (fun _ => ?_) (fun _ => iteF stay)
      refine ⟨_, rfl, _, rfl, ?_⟩
      refine ite2 (fun _ => ?_) (fun _ => stay)
      refine ⟨_, rfl, _, rfl, e1, _, 2, .ref e3, rfl, rfl, SqT.of (S3 _ _ h1), atI_nat (j := 2) rfl, e3, _, rfl, .inr (SqT.of (S3 _ _ h3)), _, _, rfl, rfl, ?_⟩
      refine ⟨hil, _, _, rfl, s3, ?_, ?_⟩
      · rw [List.length_map]; omega
      · rw [List.length_map]; omega
    · rintro σ H3 ⟨_, o5, m', rfl, s3, hm0, hm1'⟩
      refine ⟨_, rfl, _, _, rfl, rfl, _, rfl, ?_, ?_, ?_⟩
      · omega
      · omega
      refine for_range (fun i σ H' => ∃ o7 z, σ = [some (.ref a), some (.ref b), some (.bl sm), some (.ref td), some (.int m'), o5, some (.int z), o7] ∧ Same H1 H') ⟨none, 1, rfl, s3⟩ ?_ ?_
      · rintro i σ H4 hi ⟨o7, z, rfl, s4⟩
        have S4 := s1.trans s4
        refine ⟨_, rfl, _, rfl, a, _, 2, .ref fa, rfl, rfl, SqT.of (S4 _ _ ha), atI_nat (j := 2) rfl, fa, rfl, ⟨fv, SqT.of (S4 _ _ hfa)⟩, ?_⟩
        have hfa4 := S4 _ _ hfa
        refine comp_prS (by omega) hF (itt_goS hfa4) (itt_stS hfa4) (itt_yS hfa4) (fun _ fr v => v = .int (FrP.parts fr).length) (fun _ h => h) ?_ ?_
        · rintro fr v H5 k hfr ⟨c, pa, ra, rv, rfl, hc, hpa, _⟩ s5 hk
          have S5 := S4.trans s5
          refine ⟨_, rfl, c, _, 2, .ref pa, rfl, rfl, SqT.of (S5 _ _ hc), atI_nat (j := 2) rfl, pa, _, rfl, .inr (SqT.of (S5 _ _ hpa)), ?_⟩
          rw [List.length_map]
          exact hk _ H5 (Same.refl _) rfl
        · intro p5 zs H5 hp5 s5 g5 hz5
          have e5 : zs = (ak.forms.map fun fr => ((FrP.parts fr).length : Int)).map V.int := by rw [paired_fn (g := fun fr : FrP => V.int (FrP.parts fr).length) hz5, List.map_map]; rfl
          rw [e5] at g5
          refine ⟨p5, _, rfl, SqL.of g5, by rw [List.length_map]; omega, fun M hM _ => ?_⟩
          obtain ⟨fr, hfr, rfl⟩ := List.mem_map.mp hM
          have hp10 := (oa.ok fr hfr).2.2.1
          refine ⟨_, _, rfl, rfl, .inr ⟨by omega, by omega⟩, _, _, rfl, rfl, ?_⟩
          exact ⟨_, _, rfl, s4.trans s5⟩
      · rintro σ H4 ⟨o7, z, rfl, s4⟩
        refine ⟨_, rfl, _, _, rfl, rfl, ?_⟩
        exact q _ H4 (s1.trans s4)
end
end My
namespace My
open PySem L2
noncomputable abbrev F3 := Str × Str × List Str
noncomputable def F3At (H : Hp) (f : F3) (z : V) : Prop := ∃ c pa, z = .ref c ∧ H c = some (.tup [.str f.1, .str f.2.1, .ref pa]) ∧ H pa = some (.tup (f.2.2.map V.str))
theorem F3At.mono {H H' : Hp} (t : TK H H') {f : F3} {z : V} : F3At H f z → F3At H' f z := fun ⟨c, pa, e, h1, h2⟩ => ⟨c, pa, e, t _ _ h1, t _ _ h2⟩
structure BdP where
  names : List Str
  forms : List F3
noncomputable def RepBd (H : Hp) (bd : BdP) (v : V) : Prop := ∃ a nl fl zs, v = .ref a ∧ H a = some (.tup [.ref nl, .ref fl]) ∧ H nl = some (.lst (bd.names.map V.str)) ∧ H fl = some (.lst zs) ∧ Paired (F3At H) bd.forms zs
theorem RepBd.same {H H' : Hp} (t : Same H H') {bd : BdP} {v : V} : RepBd H bd v → RepBd H' bd v := fun ⟨a, nl, fl, zs, e, h1, h2, h3, h4⟩ => ⟨a, nl, fl, zs, e, t _ _ h1, t _ _ h2, t _ _ h3, Paired.mapP h4 fun _ _ h => h.mono (tk_of t)⟩
structure BdOk (bd : BdP) : Prop where
  n1 : 1 ≤ bd.names.length
  n3 : bd.names.length ≤ 3
  f1 : 1 ≤ bd.forms.length
  f6 : bd.forms.length ≤ 6
  fo : ∀ f ∈ bd.forms, f.2.1 ∈ bd.names ∧ (∀ p ∈ f.2.2, p ∈ bd.names) ∧ f.2.2.length ≤ 3
noncomputable def spLBuild : Sp := fun vs H Q _ => ∃ (tp : Addr) (many most : Int), vs = [.ref tp, .int many, .int most] ∧ Tp H tp ∧ 1 ≤ many ∧ many ≤ 3 ∧ 1 ≤ most ∧ most ≤ 3 ∧ ∀ v bd H', RepBd H' bd v → BdOk bd → Kp tp H H' → Tp H' tp → Q v H'
section
variable {P : Program} {w : World} {K : PySem.W.Frag} {mg : Str → Option Value} {base : Heap} {f f2 f3 f4 aR : Addr} {fd fd2 fd3 fd4 : FuncData}
noncomputable abbrev NBd : List Str := ["tape", "many", "most", "names", "words", "forms", "k", "own", "size"]
theorem scLBuild : FnScope NBd ["tape", "many", "most"] (defScope sLBuild) := ⟨rfl, rfl, rfl, by decide +kernel, rfl, by decide +kernel, by decide +kernel⟩
noncomputable def bdFor : List Stmt := forBody ((defBody sLBuild).getD 3 (.Pass ⟨0, 0, 0, 0⟩))
noncomputable def BDI (H : Hp) (tp nl wl fl : Addr) (many most : Int) (ns ws : List Str) (i : Nat) (σ : St) (H' : Hp) : Prop := ∃ o6 o7 o8 zs fs, σ = [some (.ref tp), some (.int many), some (.int most), some (.ref nl), some (.ref wl), some (.ref fl), o6, o7, o8] ∧ Kp tp H H' ∧ Tp H' tp ∧ H' nl = some (.lst (ns.map V.str)) ∧ H' wl = some (.lst (ws.map V.str)) ∧ H' fl = some (.lst zs) ∧ Paired (F3At H') fs zs ∧ zs.length = i ∧ ∀ f ∈ fs, f.2.1 ∈ ns ∧ (∀ p ∈ f.2.2, p ∈ ns) ∧ f.2.2.length ≤ 3
theorem bd_t4 {cdv : Value} {A : Around} {outer : List Env} {s : Shared} {H H0 : Hp} {E : XK} (G : Gb mg)
    (GD : FnOk P w K mg base CX0 1 f2 fd2 ["tape", "many"] spDigit) (bD : Binds K fd2 ["tape", "many"] []) (kD : PySem.W.keepIn K (.ref f2) = true) (mD : mg "_law_digit" = some (.ref f2))
    (hr1 : Room 1 (cxOf CX0 P w K mg base NBd "_law_build" (defScope sLBuild) f cdv A outer s H0 E).nox.A) :
    ∃ t, PSs (cxOf CX0 P w K mg base NBd "_law_build" (defScope sLBuild) f cdv A outer s H0 E).nox (bdFor.drop 4) t ∧
      ∀ (D : Ends) (tp nl wl fl : Addr) (many most : Int) (ns ws : List Str) (i : Nat) (on : Str) (m : Int) (zs : List V) (fs : List F3) (H6 : Hp), 1 ≤ many → many ≤ 3 → ns.length = many.toNat → ws.length = 10 → i < 6 → on ∈ ns → 0 ≤ m → m ≤ 3 → nl ≠ tp → wl ≠ tp → fl ≠ tp → nl ≠ fl → wl ≠ fl → (∀ {c : Addr} {oo : HO}, H c = some oo → c ≠ tp → c ≠ fl) →
        Kp tp H H6 → Tp H6 tp → H6 nl = some (.lst (ns.map V.str)) → H6 wl = some (.lst (ws.map V.str)) → H6 fl = some (.lst zs) → Paired (F3At H6) fs zs → zs.length = i → (∀ f ∈ fs, f.2.1 ∈ ns ∧ (∀ p ∈ f.2.2, p ∈ ns) ∧ f.2.2.length ≤ 3) →
        (∀ σ' H', BDI H tp nl wl fl many most ns ws (i + 1) σ' H' → D.nx σ' H') →
        t D [some (.ref tp), some (.int many), some (.int most), some (.ref nl), some (.ref wl), some (.ref fl), some (.int (0 + (i : Int))), some (.str on), some (.int m)] H6 := by
  refine ⟨_, pss_one (ps_expr (pe_bm PySem.F.plainAttrs_list PySem.F.slot_list_append PySem.F.type_list_append mt_append (pv 5) (pa_cons (pe_tup (pa_cons (pe_ix ix_list (pv 4) (pv 6) (fun _ _ => rfl)) (pa_cons (pv 7)
        (pa_cons (pe_callTy call_tuple_of rfl G.tuple (by decide +kernel) (pa_cons (pe_comp (sc0 := defScope sLBuild) (N0 := NBd) (ys := ["many", "names", "tape"]) (fr := [1, 3, 0]) rfl (pi_range1 rfl G.range (pa_cons (pv 8) pa_nil)) rfl rfl
          ⟨rfl, by decide +kernel, by decide +kernel, by decide +kernel, by decide +kernel, by decide +kernel, rfl, by decide +kernel⟩ (fun C s H ex => pe_ix (r := rIxL K) ix_list (pv 2) (pe_call GD hr1 rfl mD kD bD .nil pass0 (pa_cons (pv 3) (pa_cons (pv 1) pa_nil))) (fun _ _ => rfl))) pa_nil)) pa_nil)))) pa_nil))), ?_⟩
  intro D tp nl wl fl many most ns ws i on m zs fs H6 hm1 hm3 nLen wLen hi6 hon h0 h3 hnne hwne hflt nnl nwl hfl0 k6 tt6 hnl hwl gfl hP hzl hfo hD
  obtain ⟨nm, enm⟩ : ∃ nm, ws[i]? = some nm := ⟨ws[i]'(by omega), List.getElem?_eq_getElem (by omega)⟩
  have eat : atI (ws.map V.str) (0 + (i : Int)) = some (V.str nm) := by
    rw [Int.zero_add]
    exact atI_nat (by rw [List.getElem?_map, enm]; rfl)
  refine ⟨_, rfl, .inl ⟨rfl, _, SqL.of gfl⟩, _, rfl, _, rfl, wl, _, _, _, rfl, rfl, SqL.of hwl, eat, _, rfl, _, rfl, m, rfl, by omega, by omega, ?_⟩
  refine comp_walk (n := m.toNat) (R := fun i v => v = .int (0 + i)) (by omega) itr_go itr_stop itr_yld
    (fun p n ys H' => Kp tp H6 H' ∧ Tp H' tp ∧ H' p = some (.lst ys) ∧ p ≠ tp ∧ ys.length = n ∧ ∃ ps : List Str, ys = ps.map V.str ∧ ∀ x ∈ ps, x ∈ ns) ?_ ?_ ?_ ?_
  · intro p hp
    exact ⟨Kp.refl.new hp, tt6.new hp, upd_same, tp_ne tt6 hp, rfl, [], rfl, fun q h => by cases h⟩
  · rintro p n ys H' ⟨_, _, gp, _, hl, _⟩
    exact ⟨gp, hl⟩
  · rintro p n ys H' v k hp hn rfl ⟨k7, tt7, gp, hpn, hl, ps, rfl, hps⟩ hk
    refine ⟨_, rfl, _, rfl, _, rfl, tp, many, rfl, tt7, by omega, by omega, fun d t hd0 hd1 => ?_⟩
    obtain ⟨x, ex, ex2⟩ := atI_lt (xs := ns.map V.str) hd0 (by rw [List.length_map, nLen]; omega)
    obtain ⟨x', hx', rfl⟩ := List.mem_map.mp (List.mem_of_getElem? ex2)
    have k8 : Kp tp H6 (upd H' tp (.lst [.int t])) := k7.trans Kp.tape
    refine ⟨nl, _, d, .str x', rfl, rfl, SqL.of (k8 _ _ hnl hnne), ex, ?_⟩
    have gp7 : (upd H' tp (.lst [.int t])) p = some (.lst (ps.map V.str)) := by rw [upd_ne hpn]; exact gp
    refine hk _ _ gp7 ⟨?_, ⟨t, ?_⟩, upd_same, hpn, by rw [List.length_append, hl]; rfl, ps ++ [x'], by rw [List.map_append]; rfl, ?_⟩
    · intro b' o' hb hbn
      rw [upd_ne (ne_of_none hb hp)]
      exact k8 _ _ hb hbn
    · rw [upd_ne (Ne.symm hpn), upd_same]
    · intro y hy
      rcases List.mem_append.mp hy with h | h
      · exact hps y h
      · rw [List.mem_singleton.mp h]; exact hx'
  · rintro p ys H7 hp ⟨k7, tt7, gp, hpn, hl, ps, rfl, hps⟩
    have lps : ps.length ≤ 3 := by rw [List.length_map] at hl; omega
    refine ⟨p, _, rfl, .inl ⟨SqL.of gp, fun pt hpt => ?_⟩⟩
    have s8 := same_new hpt (.tup (ps.map V.str))
    have g8 : (upd H7 pt (.tup (ps.map V.str))) pt = some (.tup (ps.map V.str)) := upd_same
    have tt8 := tt7.same s8
    generalize upd H7 pt (.tup (ps.map V.str)) = H8 at s8 g8 tt8 ⊢
    refine ⟨(by show 3 ≤ sizeLine; decide), fun p9 hp9 => ?_⟩
    have s9 := same_new hp9 (.tup [.str nm, .str on, .ref pt])
    have g9 : (upd H8 p9 (.tup [.str nm, .str on, .ref pt])) p9 = some (.tup [.str nm, .str on, .ref pt]) := upd_same
    have tt9 := tt8.same s9
    generalize upd H8 p9 (.tup [.str nm, .str on, .ref pt]) = H9 at s9 g9 tt9 ⊢
    have k69 : Kp tp H6 H9 := (k7.same s8).same s9
    have gfl9 := k69 _ _ gfl hflt
    refine ⟨fl, zs, .ref p9, rfl, rfl, gfl9, small1000 (by omega), ?_⟩
    have tk : TK H9 (upd H9 fl (.lst (zs ++ [.ref p9]))) := TK.lst gfl9
    have tk6 : TK H6 (upd H9 fl (.lst (zs ++ [.ref p9]))) := (k69.tk tt6).trans tk
    refine hD _ _ ⟨_, _, _, zs ++ [.ref p9], fs ++ [(nm, on, ps)], rfl, ?_, ?_, ?_, ?_, upd_same, ?_, ?_, ?_⟩
    · intro c oo h hn
      rw [upd_ne (hfl0 h hn)]
      exact k69 _ _ (k6 _ _ h hn) hn
    · obtain ⟨t9, e9⟩ := tt9
      exact ⟨t9, by rw [upd_ne (Ne.symm hflt)]; exact e9⟩
    · rw [upd_ne nnl]; exact k69 _ _ hnl hnne
    · rw [upd_ne nwl]; exact k69 _ _ hwl hwne
    · exact Paired.snoc (Paired.mapP hP fun _ _ h => h.mono tk6) ⟨p9, pt, rfl, tk _ _ g9, tk _ _ (s9 _ _ g8)⟩
    · rw [List.length_append, hzl]; rfl
    · intro f hf
      rcases List.mem_append.mp hf with h | h
      · exact hfo f h
      · rw [List.mem_singleton.mp h]
        exact ⟨hon, hps, lps⟩
theorem bd_t2 {cdv : Value} {A : Around} {outer : List Env} {s : Shared} {H H0 : Hp} {E : XK} (G : Gb mg)
    (GD : FnOk P w K mg base CX0 1 f2 fd2 ["tape", "many"] spDigit) (bD : Binds K fd2 ["tape", "many"] []) (kD : PySem.W.keepIn K (.ref f2) = true) (mD : mg "_law_digit" = some (.ref f2))
    (hr1 : Room 1 (cxOf CX0 P w K mg base NBd "_law_build" (defScope sLBuild) f cdv A outer s H0 E).nox.A) :
    ∃ t, PSs (cxOf CX0 P w K mg base NBd "_law_build" (defScope sLBuild) f cdv A outer s H0 E).nox (bdFor.drop 2) t ∧
      ∀ (D : Ends) (tp nl wl fl : Addr) (many most : Int) (ns ws : List Str) (i : Nat) (on : Str) (o8 : Option V) (zs : List V) (fs : List F3) (H6 : Hp), 1 ≤ many → many ≤ 3 → 1 ≤ most → most ≤ 3 → ns.length = many.toNat → ws.length = 10 → i < 6 → on ∈ ns → nl ≠ tp → wl ≠ tp → fl ≠ tp → nl ≠ fl → wl ≠ fl → (∀ {c : Addr} {oo : HO}, H c = some oo → c ≠ tp → c ≠ fl) →
        Kp tp H H6 → Tp H6 tp → H6 nl = some (.lst (ns.map V.str)) → H6 wl = some (.lst (ws.map V.str)) → H6 fl = some (.lst zs) → Paired (F3At H6) fs zs → zs.length = i → (∀ f ∈ fs, f.2.1 ∈ ns ∧ (∀ p ∈ f.2.2, p ∈ ns) ∧ f.2.2.length ≤ 3) →
        (∀ σ' H', BDI H tp nl wl fl many most ns ws (i + 1) σ' H' → D.nx σ' H') →
        t D [some (.ref tp), some (.int many), some (.int most), some (.ref nl), some (.ref wl), some (.ref fl), some (.int (0 + (i : Int))), some (.str on), o8] H6 := by
  obtain ⟨t, ht, hnext⟩ := bd_t4 (f := f) (cdv := cdv) (A := A) (outer := outer) (s := s) (H := H) (H0 := H0) (E := E) G GD bD kD mD hr1
  refine ⟨_, pss_cons (ps_set (i := 8) scLBuild.nd rfl (Or.inl rfl) (pe_call GD hr1 rfl mD kD bD .nil pass0 (pa_cons (pv 0) (pa_cons (pe_op op_add (pv 2) pe_int) pa_nil))))
      (pss_cons (ps_if (pt_cmpR op_eq (pv 6) pe_int (nomark _)) (pss_one (ps_set (i := 8) scLBuild.nd rfl (Or.inl rfl) pe_int)) pss_nil) ht), ?_⟩
  intro D tp nl wl fl many most ns ws i on o8 zs fs H6 hm1 hm3 ho1 ho3 nLen wLen hi6 hon hnne hwne hflt nnl nwl hfl0 k6 tt6 hnl hwl gfl hP hzl hfo hD
  refine ⟨_, rfl, _, rfl, _, _, rfl, rfl, tp, _, rfl, tt6, by omega, by omega, fun d t hd0 hd1 => ?_⟩
  have k7 : Kp tp H6 (upd H6 tp (.lst [.int t])) := Kp.tape
  have tt7 : Tp (upd H6 tp (.lst [.int t])) tp := ⟨t, upd_same⟩
  generalize upd H6 tp (.lst [.int t]) = H7 at k7 tt7 ⊢
  have go := fun (m : Int) (h0 : 0 ≤ m) (h3 : m ≤ 3) => hnext D tp nl wl fl many most ns ws i on m zs fs H7 hm1 hm3 nLen wLen hi6 hon h0 h3 hnne hwne hflt nnl nwl hfl0 (k6.trans k7) tt7 (k7 _ _ hnl hnne) (k7 _ _ hwl hwne) (k7 _ _ gfl hflt) (Paired.mapP hP fun _ _ h => h.mono (k7.tk tt6)) hzl hfo hD
  refine ⟨_, rfl, rfl, _, rfl, ?_⟩
  refine ite2 (fun _ => go 0 (by decide) (by decide)) (fun _ => go d hd0 (by omega))
theorem ok_lBuild (F : Fun K "_law_build" "_law_build" sLBuild f fd) (G : Gb mg)
    (GD : FnOk P w K mg base CX0 1 f2 fd2 ["tape", "many"] spDigit) (bD : Binds K fd2 ["tape", "many"] []) (kD : PySem.W.keepIn K (.ref f2) = true) (mD : mg "_law_digit" = some (.ref f2))
    (GN : FnOk P w K mg base CX0 2 f3 fd3 ["tape", "many"] spNamesX) (bN : Binds K fd3 ["tape", "many"] []) (kN : PySem.W.keepIn K (.ref f3) = true) (mN : mg "_law_names" = some (.ref f3)) :
    FnOk P w K mg base CX0 3 f fd ["tape", "many", "most"] spLBuild := by
  refine F.ok scLBuild (fun vs H Q E h => ?_) (fun cdv A outer s H vs Q E hr h => ?_)
  · obtain ⟨tp, many, most, rfl, _⟩ := h
    rfl
  obtain ⟨tp, many, most, rfl, hT, hm1, hm3, ho1, ho3, q⟩ := h
  have hr1 := hr.mono (show 1 ≤ 2 by decide)
  obtain ⟨t, ht, hnext⟩ := bd_t2 (f := f) (cdv := cdv) (A := A) (outer := outer) (s := s) (H := H) (H0 := H) (E := E) G GD bD kD mD hr1
  refine ⟨_, pss_cons (ps_set (i := 3) scLBuild.nd rfl (Or.inr rfl) (pe_call GN hr rfl mN kN bN .nil pass0 (pa_cons (pv 0) (pa_cons (pv 1) pa_nil))))
    (pss_cons (ps_set (i := 4) scLBuild.nd rfl (Or.inl rfl) (pe_call GN hr rfl mN kN bN .nil pass0 (pa_cons (pv 0) (pa_cons pe_int pa_nil))))
    (pss_cons (ps_set (i := 5) scLBuild.nd rfl (Or.inl rfl) (pe_lst pa_nil))
    (pss_cons (ps_for PassesOwn.never rfl (pi_range1 rfl G.range (pa_cons (pe_op op_add (pe_op op_add (pv 1) pe_int) (pe_call GD hr1 rfl mD kD bD .nil pass0 (pa_cons (pv 0) (pa_cons pe_int pa_nil)))) pa_nil)) (pg_name (i := 6) scLBuild.nd rfl (Or.inl rfl))
      (pss_cons (ps_set (i := 7) scLBuild.nd rfl (Or.inl rfl) (pe_ix ix_list (pv 3) (pe_op op_mod (pv 6) (pv 1)) (fun _ _ => rfl)))
      (pss_cons (ps_if (pt_cmpR op_ge (pv 6) (pv 1) (nomark _)) (pss_one (ps_set (i := 7) scLBuild.nd rfl (Or.inl rfl) (pe_ix ix_list (pv 3) (pe_call GD hr1 rfl mD kD bD .nil pass0 (pa_cons (pv 0) (pa_cons (pv 1) pa_nil))) (fun _ _ => rfl)))) pss_nil)
      ht)))
    (pss_one (ps_ret (pe_tup (pa_cons (pv 3) (pa_cons (pv 5) pa_nil)))))))), ?_⟩
  refine ⟨_, rfl, _, rfl, tp, many, rfl, hT, by omega, by omega, fun nl ns H1 hnl hnlen hN hnne k1 tt1 => ?_⟩
  refine ⟨_, rfl, tp, 10, rfl, tt1, by decide, by decide, fun wl ws H2 hwl hwlen hW hwne k2' tt2 => ?_⟩
  have k2 := k1.trans k2'
  have hnl2 := k2' _ _ hnl hnne
  obtain ⟨nLen, nNd, nWd⟩ := hN.ok (by omega)
  obtain ⟨wLen, wNd, wWd⟩ := hW.ok (by decide)
  have nLen : ns.length = many.toNat := nLen
  have wLen : ws.length = 10 := wLen
  refine ⟨(by show 0 ≤ sizeLine; decide), fun fl hfl => ?_⟩
  have hflt := tp_ne tt2 hfl
  have k3 : Kp tp H (upd H2 fl (.lst [])) := k2.new hfl
  have tt3 := tt2.new (o := .lst []) hfl
  have s3 := same_new hfl (.lst [])
  have nnl : nl ≠ fl := ne_of_none hnl2 hfl
  have nwl : wl ≠ fl := ne_of_none hwl hfl
  have hfl0 : ∀ {c : Addr} {oo : HO}, H c = some oo → c ≠ tp → c ≠ fl := fun h hn => ne_of_none (k2 _ _ h hn) hfl
  have hnl3 := s3 _ _ hnl2
  have hwl3 := s3 _ _ hwl
  have g3 : (upd H2 fl (.lst [])) fl = some (.lst []) := upd_same
  generalize upd H2 fl (.lst []) = H3 at k3 tt3 hnl3 hwl3 g3 ⊢
  refine ⟨_, rfl, _, _, rfl, rfl, _, rfl, tp, 3, rfl, tt3, by decide, by decide, fun d1 t1 hd0 hd1 => ?_⟩
  have k4 : Kp tp H (upd H3 tp (.lst [.int t1])) := k3.trans Kp.tape
  have tt4 : Tp (upd H3 tp (.lst [.int t1])) tp := ⟨t1, upd_same⟩
  have hnl4 : (upd H3 tp (.lst [.int t1])) nl = some (.lst (ns.map V.str)) := by rw [upd_ne hnne]; exact hnl3
  have hwl4 : (upd H3 tp (.lst [.int t1])) wl = some (.lst (ws.map V.str)) := by rw [upd_ne hwne]; exact hwl3
  have g4 : (upd H3 tp (.lst [.int t1])) fl = some (.lst []) := by rw [upd_ne hflt]; exact g3
  generalize upd H3 tp (.lst [.int t1]) = H4 at k4 tt4 hnl4 hwl4 g4 ⊢
  refine ⟨_, _, rfl, rfl, _, rfl, by omega, by omega, ?_⟩
  refine for_range (fun i σ H' => BDI H tp nl wl fl many most ns ws i σ H')
    ⟨none, none, none, [], [], rfl, k4, tt4, hnl4, hwl4, g4, .nil, rfl, fun f h => (by cases h)⟩ ?_ ?_
  · rintro i σ H5 hi ⟨o6, o7, o8, zs, fs, rfl, k5, tt5, hnl5, hwl5, g5, hP, hzl, hfo⟩
    have hi6 : i < 6 := by omega
    have hm0 : 0 ≤ (0 + (i : Int)) % many := Int.emod_nonneg _ (by omega)
    have hmm : (0 + (i : Int)) % many < many := Int.emod_lt_of_pos _ (by omega)
    obtain ⟨ov, eov, eov'⟩ := atI_lt (xs := ns.map V.str) hm0 (by rw [List.length_map, nLen]; omega)
    obtain ⟨on, hon, rfl⟩ : ∃ on, on ∈ ns ∧ V.str on = ov := by
      obtain ⟨on, h1, h2⟩ := List.mem_map.mp (List.mem_of_getElem? eov')
      exact ⟨on, h1, h2⟩
    refine ⟨_, rfl, _, rfl, _, rfl, _, _, rfl, rfl, (by show (0 : Int) < many; omega), nl, _, _, .str on, rfl, rfl, SqL.of hnl5, eov, ?_⟩
    refine ⟨_, rfl, _, rfl, _, _, rfl, rfl, _, rfl, ?_⟩
    refine ite2 (fun c => ?_) (fun c => ?_)
    · refine ⟨_, rfl, _, rfl, _, rfl, tp, many, rfl, tt5, by omega, by omega, fun d2 t2 h20 h21 => ?_⟩
      have k6 : Kp tp H5 (upd H5 tp (.lst [.int t2])) := Kp.tape
      have tt6 : Tp (upd H5 tp (.lst [.int t2])) tp := ⟨t2, upd_same⟩
      generalize upd H5 tp (.lst [.int t2]) = H6 at k6 tt6 ⊢
      obtain ⟨ov2, eov2, eov2'⟩ := atI_lt (xs := ns.map V.str) h20 (by rw [List.length_map, nLen]; omega)
      obtain ⟨on2, hon2, rfl⟩ := List.mem_map.mp (List.mem_of_getElem? eov2')
      refine ⟨nl, _, _, .str on2, rfl, rfl, SqL.of (k6 _ _ hnl5 hnne), eov2, ?_⟩
      exact hnext _ tp nl wl fl many most ns ws i on2 _ zs fs H6 hm1 hm3 ho1 ho3 nLen wLen hi6 hon2 hnne hwne hflt nnl nwl hfl0 (k5.trans k6) tt6 (k6 _ _ hnl5 hnne) (k6 _ _ hwl5 hwne) (k6 _ _ g5 hflt) (Paired.mapP hP fun _ _ h => h.mono (k6.tk tt5)) hzl hfo fun σ' H' h => h
    · exact hnext _ tp nl wl fl many most ns ws i on _ zs fs H5 hm1 hm3 ho1 ho3 nLen wLen hi6 hon hnne hwne hflt nnl nwl hfl0 k5 tt5 hnl5 hwl5 g5 hP hzl hfo fun σ' H' h => h
  · rintro σ H5 ⟨o6, o7, o8, zs, fs, rfl, k5, tt5, hnl5, hwl5, g5, hP, hzl, hfo⟩
    refine ⟨_, rfl, _, rfl, (by show 2 ≤ sizeLine; decide), fun p9 hp9 => ?_⟩
    have s9 := same_new hp9 (.tup [.ref nl, .ref fl])
    have lfs : fs.length = zs.length := Paired.length hP
    refine q (.ref p9) ⟨ns, fs⟩ _ ⟨p9, nl, fl, zs, rfl, upd_same, s9 _ _ hnl5, s9 _ _ g5, Paired.mapP hP fun _ _ h => h.mono (tk_of s9)⟩ ⟨?_, ?_, ?_, ?_, hfo⟩ (k5.same s9) (tt5.same s9)
    · show 1 ≤ ns.length
      omega
    · show ns.length ≤ 3
      omega
    · show 1 ≤ fs.length
      omega
    · show fs.length ≤ 6
      omega
end
end My
namespace My
open PySem L2
noncomputable def rdP (tb : Str → List Str) (parts : List Str) (g : Fm) : Prop := ∃ (j : Nat) (x p : Str), g = .part (j : Int) x ∧ parts[j]? = some p ∧ x ∈ tb p
noncomputable def UpsOk (most : Int) (ups : List Str) : Prop := 1 ≤ ups.length ∧ (ups.length : Int) ≤ most ∧ ups.Nodup ∧ ∀ x ∈ ups, wordB x = true
noncomputable def FrL (ns : List Str) (tb : Str → List Str) (fr : FrP) : Prop := fr.own ∈ ns ∧ (∀ p ∈ fr.parts, p ∈ ns) ∧ fr.parts.length ≤ 3 ∧ fr.rules.map (fun r => (r.pl, r.word)) = (tb fr.own).map (fun x => ((-1 : Int), x)) ∧ ∀ r ∈ fr.rules, r.fm.wfp (rdP tb fr.parts) ∧ r.fm.lvl ∧ r.fm.size ≤ 11
structure PlOk (ns : List Str) (tb : Str → List Str) (bk : BkP) : Prop where
  w : bk.wheel = 0
  so : bk.sorts = ns.map fun x => ⟨x, [], tb x⟩
  n1 : 1 ≤ ns.length
  n3 : ns.length ≤ 3
  up : ∀ x ∈ ns, UpsOk 2 (tb x)
  f1 : 1 ≤ bk.forms.length
  f6 : bk.forms.length ≤ 6
  fo : ∀ fr ∈ bk.forms, FrL ns tb fr
noncomputable def TabW (hd : Addr) (H : Hp) (kvs : List (Key × V)) (tb : Str → List Str) (xs : List Str) : Prop := ∀ x ∈ xs, ∃ a, a ≠ hd ∧ valV kvs (.inr x) = some (.ref a) ∧ H a = some (.lst ((tb x).map V.str)) ∧ UpsOk 2 (tb x)
theorem TabW.same {hd : Addr} {H H' : Hp} (s : Same H H') {kvs : List (Key × V)} {tb : Str → List Str} {xs : List Str} (h : TabW hd H kvs tb xs) : TabW hd H' kvs tb xs := fun x hx => by
  obtain ⟨a, n, e, h1, h2⟩ := h x hx
  exact ⟨a, n, e, s _ _ h1, h2⟩
noncomputable def rTupOf (K : PySem.W.Frag) : List V → Hp → VK → Prop := fun xs H Q => ∃ p ys, xs = [.ref p] ∧ ((SqL K H p ys ∧ ∀ l, H l = none → Q (.ref l) (upd H l (.tup ys))) ∨ (SqT K H p ys ∧ Q (.ref p) H))
noncomputable def spPlainOf (K : PySem.W.Frag) : Sp := fun vs H Q _ => ∃ (sc : Addr) (ns : List Int) (st : Int) (bv : V) (bd : BdP), vs = [.ref sc, .int st, bv, .int 2] ∧ SqL K H sc (ns.map V.int) ∧ ns.length ≤ 63 ∧ 0 ≤ st ∧ st < 900 ∧ RepBd H bd bv ∧ BdOk bd ∧ ∀ v bk tb H', RepBP H' bk v → PlOk bd.names tb bk → bk.forms.map (fun fr => (fr.name, fr.own, fr.parts)) = bd.forms → Same H H' → Q v H'
section
variable {P : Program} {w : World} {K : PySem.W.Frag} {mg : Str → Option Value} {base : Heap} {f f2 f3 f4 f5 aR : Addr} {fd fd2 fd3 fd4 fd5 : FuncData}
noncomputable abbrev NPo : List Str := ["script", "start", "build", "most", "names", "forms", "head", "words", "table", "k", "turned", "made", "tape", "name", "own", "parts", "readings", "j", "word", "rules", "room"]
theorem scPlainOf : FnScope NPo ["script", "start", "build", "most"] (defScope sPlainOf) := ⟨rfl, rfl, rfl, by decide +kernel, rfl, by decide +kernel, by decide +kernel⟩
theorem ok_plainOf (F : Fun K "_law_plain_of" "_law_plain_of" sPlainOf f fd) (G : Gb mg)
    (GD : FnOk P w K mg base CX0 1 f2 fd2 ["tape", "many"] spDigit) (bD : Binds K fd2 ["tape", "many"] []) (kD : PySem.W.keepIn K (.ref f2) = true) (mD : mg "_law_digit" = some (.ref f2))
    (GN : FnOk P w K mg base CX0 2 f3 fd3 ["tape", "many"] spNamesX) (bN : Binds K fd3 ["tape", "many"] []) (kN : PySem.W.keepIn K (.ref f3) = true) (mN : mg "_law_names" = some (.ref f3))
    (GT : FnOk P w K mg base CX0 2 f4 fd4 ["script", "k"] (spTape K)) (bT : Binds K fd4 ["script", "k"] []) (kT : PySem.W.keepIn K (.ref f4) = true) (mT : mg "_law_tape" = some (.ref f4))
    (GL : FnOk P w K mg base CX0 11 f5 fd5 ["tape", "readings", "room", "signs"] (spLvA 8)) (bL : Binds K fd5 ["tape", "readings", "room", "signs"] []) (kL : PySem.W.keepIn K (.ref f5) = true) (mL : mg "_law_level_formula" = some (.ref f5)) :
    FnOk P w K mg base CX0 12 f fd ["script", "start", "build", "most"] (spPlainOf K) := by
  refine F.ok scPlainOf (fun vs H Q E h => ?_) (fun cdv A outer s H vs Q E hr h => ?_)
  · obtain ⟨sc, ns, st, bv, bd, rfl, _⟩ := h
    rfl
  obtain ⟨sc, is, st, bv, bd, rfl, hS, hns, hst0, hst1, hBd, hbo, q⟩ := h
  have hu := hu_of hr
  have hr1 := hr.mono (show 1 ≤ 11 by decide)
  have hr2 := hr.mono (show 2 ≤ 11 by decide)
  refine ⟨_, pss_cons (ps_asg (pv 2) (pg_tup rfl (pgs_cons (pg_name (i := 4) scPlainOf.nd rfl (Or.inl rfl)) (pgs_cons (pg_name (i := 5) scPlainOf.nd rfl (Or.inl rfl)) pgs_nil))))
    (pss_cons (ps_set (i := 6) scPlainOf.nd rfl (Or.inl rfl) (pe_call GT hr2 rfl mT kT bT .nil pass0 (pa_cons (pv 0) (pa_cons (pv 1) pa_nil))))
    (pss_cons (ps_set (i := 7) scPlainOf.nd rfl (Or.inl rfl) (pe_call GN hr2 rfl mN kN bN .nil pass0 (pa_cons (pv 6) (pa_cons pe_int pa_nil))))
    (pss_cons (ps_set (i := 8) scPlainOf.nd rfl (Or.inr rfl) pe_dnewK)
    (pss_cons (ps_for PassesOwn.never rfl (pi_range1 rfl G.range (pa_cons (pe_callB call_len_seq rfl G.len PySem.boot_len (pa_cons (pv 4) pa_nil)) pa_nil)) (pg_name (i := 9) scPlainOf.nd rfl (Or.inl rfl))
      (pss_cons (ps_set (i := 10) scPlainOf.nd rfl (Or.inl rfl) (pe_op op_cat (pe_slice sl_list (pv 7) (po_some (pv 9)) po_none) (pe_slice sl_list (pv 7) po_none (po_some (pv 9)))))
      (pss_one (ps_dput hu (pv 8) (pe_ix ix_list (pv 4) (pv 9) (fun _ _ => rfl)) (pe_slice sl_list (pv 10) po_none (po_some (pe_op op_add pe_int (pe_call GD hr1 rfl mD kD bD .nil pass0 (pa_cons (pv 6) (pa_cons (pv 3) pa_nil)))))) rfl))))
    (pss_cons (ps_set (i := 11) scPlainOf.nd rfl (Or.inl rfl) (pe_lst pa_nil))
    (pss_cons (ps_for PassesOwn.never rfl (pi_range1 rfl G.range (pa_cons (pe_callB call_len_seq rfl G.len PySem.boot_len (pa_cons (pv 5) pa_nil)) pa_nil)) (pg_name (i := 9) scPlainOf.nd rfl (Or.inl rfl))
      (pss_cons (ps_set (i := 12) scPlainOf.nd rfl (Or.inl rfl) (pe_call GT hr2 rfl mT kT bT .nil pass0 (pa_cons (pv 0) (pa_cons (pe_op op_add (pe_op op_add (pv 1) pe_int) (pv 9)) pa_nil))))
      (pss_cons (ps_asg (pe_ix ix_list (pv 5) (pv 9) (fun _ _ => rfl)) (pg_tup rfl (pgs_cons (pg_name (i := 13) scPlainOf.nd rfl (Or.inl rfl)) (pgs_cons (pg_name (i := 14) scPlainOf.nd rfl (Or.inl rfl)) (pgs_cons (pg_name (i := 15) scPlainOf.nd rfl (Or.inl rfl)) pgs_nil)))))
      (pss_cons (ps_set (i := 16) scPlainOf.nd rfl (Or.inl rfl) (pe_lst pa_nil))
      (pss_cons (ps_for PassesOwn.never rfl (pi_range1 rfl G.range (pa_cons (pe_callB call_len_seq rfl G.len PySem.boot_len (pa_cons (pv 15) pa_nil)) pa_nil)) (pg_name (i := 17) scPlainOf.nd rfl (Or.inr rfl))
        (pss_one (ps_expr (pe_bm PySem.F.plainAttrs_list PySem.F.slot_list_extend PySem.F.type_list_extend mt_extend (pv 16) (pa_cons
          (pe_comp (sc0 := defScope sPlainOf) (N0 := NPo) (ys := ["j"]) (fr := [17]) rfl (pi_list (pe_dget hu (pv 8) (pe_ix ix_tup (pv 15) (pv 17) (fun _ _ => rfl)) (fun _ _ => rfl))) rfl rfl
            ⟨rfl, by decide +kernel, by decide +kernel, by decide +kernel, by decide +kernel, by decide +kernel, rfl, by decide +kernel⟩ (fun C s H ex => pe_tup (pa_cons pe_str (pa_cons (pv 1) (pa_cons (pv 0) pa_nil))))) pa_nil)))))
      (pss_cons (ps_set (i := 19) scPlainOf.nd rfl (Or.inl rfl) (pe_lst pa_nil))
      (pss_cons (ps_for PassesOwn.never rfl (pi_list (pe_dget hu (pv 8) (pv 14) (fun _ _ => rfl))) (pg_name (i := 18) scPlainOf.nd rfl (Or.inl rfl))
        (pss_cons (ps_set (i := 20) scPlainOf.nd rfl (Or.inl rfl) (pe_op op_add pe_int (pe_call GD hr1 rfl mD kD bD .nil pass0 (pa_cons (pv 12) (pa_cons pe_int pa_nil)))))
        (pss_one (ps_expr (pe_bm PySem.F.plainAttrs_list PySem.F.slot_list_append PySem.F.type_list_append mt_append (pv 19) (pa_cons
          (pe_tup (pa_cons (pe_un un_neg pe_int) (pa_cons (pv 18) (pa_cons (pe_call GL hr rfl mL kL bL .nil pass0 (pa_cons (pv 12) (pa_cons (pv 16) (pa_cons (pv 20) (pa_cons (pe_lst (pac pe_str (pac pe_str (pac pe_str pa_nil)))) pa_nil))))) pa_nil)))) pa_nil))))))
      (pss_one (ps_expr (pe_bm PySem.F.plainAttrs_list PySem.F.slot_list_append PySem.F.type_list_append mt_append (pv 11) (pa_cons
        (pe_tup (pa_cons (pv 13) (pa_cons (pv 14) (pa_cons (pv 15) (pa_cons (pe_callTy call_tuple_of rfl G.tuple (by decide +kernel) (pa_cons (pv 19) pa_nil)) pa_nil))))) pa_nil)))))))))))
    (pss_one (ps_ret (pe_tup (pa_cons pe_int (pa_cons (pe_callTy call_tuple_of rfl G.tuple (by decide +kernel) (pa_cons (pe_comp (sc0 := defScope sPlainOf) (N0 := NPo) (ys := ["table"]) (fr := [8]) rfl (pi_list (pv 4)) rfl rfl
        ⟨rfl, by decide +kernel, by decide +kernel, by decide +kernel, by decide +kernel, by decide +kernel, rfl, by decide +kernel⟩ (fun C s H ex => pe_tup (pa_cons (pv 0) (pa_cons (pe_tup pa_nil) (pa_cons (pe_callTy (r := rTupOf K) call_tuple_of rfl G.tuple (by decide +kernel) (pa_cons (pe_dget hu (pv 1) (pv 0) (fun _ _ => rfl)) pa_nil)) pa_nil))))) pa_nil))
      (pa_cons (pe_callTy call_tuple_of rfl G.tuple (by decide +kernel) (pa_cons (pv 11) pa_nil)) pa_nil)))))))))))), ?_⟩
  obtain ⟨ba, nl, fl, zs, rfl, hba, hnl, hfl, hP⟩ := id hBd
  have lP : bd.forms.length = zs.length := Paired.length hP
  have n1 := hbo.n1
  have n3 := hbo.n3
  have f1 := hbo.f1
  have f6 := hbo.f6
  have lnl : (bd.names.map V.str).length = bd.names.length := List.length_map _
  refine ⟨_, rfl, ba, _, rfl, SqT.of hba, rfl, _, _, rfl, _, _, rfl, rfl, ?_⟩
  refine ⟨_, rfl, _, rfl, sc, is, st, rfl, hS, hns, hst0, by omega, fun hd t0 hhd => ?_⟩
  have s1 := same_new hhd (.lst [.int t0])
  have tt1 : Tp (upd H hd (.lst [.int t0])) hd := ⟨t0, upd_same⟩
  generalize upd H hd (.lst [.int t0]) = H1 at s1 tt1 ⊢
  refine ⟨_, rfl, hd, 6, rfl, tt1, by decide, by decide, fun wl ws H2 hwl hwlen hW hwne k2 tt2 => ?_⟩
  obtain ⟨wLen, wNd, wWd⟩ := hW.ok (by decide)
  have wLen6 : ws.length = 6 := wLen
  have S2 : Same H H2 := fun c oo h => k2 c oo (s1 c oo h) (ne_of_none h hhd)
  refine fun td htd => ?_
  have ntd := tp_ne tt2 htd
  have s3 := same_new htd (.dK [])
  have g3 : (upd H2 td (.dK [])) td = some (.dK []) := upd_same
  have tt3 := tt2.same s3
  have hwl3 := s3 _ _ hwl
  have htd0 : H td = none := S2.free htd
  have nwt : wl ≠ td := ne_of_none hwl htd
  generalize upd H2 td (.dK []) = H3 at s3 g3 tt3 hwl3 ⊢
  have S3 := S2.trans s3
  refine ⟨_, rfl, nl, _, rfl, .inl (SqL.of (S3 _ _ hnl)), _, rfl, by omega, by omega, ?_⟩
  refine for_range (fun i σ H' => ∃ o9 o10 kvs tb, σ = [some (.ref sc), some (.int st), some (.ref ba), some (.int 2), some (.ref nl), some (.ref fl), some (.ref hd), some (.ref wl), some (.ref td), o9, o10, none, none, none, none, none, none, none, none, none, none] ∧ Same H H' ∧ Tp H' hd ∧ H' wl = some (.lst (ws.map V.str)) ∧ H' td = some (.dK kvs) ∧ kvs.length ≤ i ∧ TabW hd H' kvs tb (bd.names.take i))
    ⟨none, none, [], fun _ => [], rfl, S3, tt3, hwl3, g3, Nat.le_refl _, fun x h => (by cases h)⟩ ?_ ?_
  · rintro i σ H4 hi ⟨o9, o10, kvs, tb, rfl, S4, tt4, hwl4, g4, hl4, hT4⟩
    rw [lnl] at hi
    have hi3 : i < 3 := by omega
    obtain ⟨x, hx⟩ : ∃ x, bd.names[i]? = some x := ⟨bd.names[i]'(by omega), List.getElem?_eq_getElem (by omega)⟩
    have eat : atI (bd.names.map V.str) (0 + (i : Int)) = some (V.str x) := by
      rw [Int.zero_add]
      exact atI_nat (by rw [List.getElem?_map, hx]; rfl)
    refine ⟨_, rfl, _, rfl, 0 + (i : Int), rfl, wl, _, rfl, SqL.of hwl4, fun p1 hp1 => ?_⟩
    rw [cut_drop (ws.map V.str) (by omega) (by rw [List.length_map]; omega)]
    have hct : cutV (ws.map V.str) none (some (0 + (i : Int))) = (ws.map V.str).take (0 + (i : Int)).toNat := cut_take (ws.map V.str) (by omega) (by rw [List.length_map]; omega)
    have hn6 : (0 + (i : Int)).toNat ≤ 6 := by omega
    generalize hn : (0 + (i : Int)).toNat = n at hct hn6 ⊢
    have s5 := same_new hp1 (.lst ((ws.map V.str).drop n))
    have g5 : (upd H4 p1 (.lst ((ws.map V.str).drop n))) p1 = some (.lst ((ws.map V.str).drop n)) := upd_same
    generalize upd H4 p1 (.lst ((ws.map V.str).drop n)) = H5 at s5 g5 ⊢
    refine ⟨_, rfl, _, rfl, 0 + (i : Int), rfl, wl, _, rfl, SqL.of (s5 _ _ hwl4), fun p2 hp2 => ?_⟩
    rw [hct]
    have s6 := same_new hp2 (.lst ((ws.map V.str).take n))
    have g6 : (upd H5 p2 (.lst ((ws.map V.str).take n))) p2 = some (.lst ((ws.map V.str).take n)) := upd_same
    generalize upd H5 p2 (.lst ((ws.map V.str).take n)) = H6 at s6 g6 ⊢
    have lcat : ((ws.map V.str).drop n).length + ((ws.map V.str).take n).length ≤ 12 := by rw [List.length_drop, List.length_take, List.length_map]; omega
    refine ⟨p1, p2, _, _, rfl, rfl, s6 _ _ g5, g6, Nat.le_of_lt (small1000 (by omega)), fun p3 hp3 => ?_⟩
    have e3 : (ws.map V.str).drop n ++ (ws.map V.str).take n = (ws.drop n ++ ws.take n).map V.str := by rw [List.map_append, List.map_drop, List.map_take]
    rw [e3]
    have lts : (ws.drop n ++ ws.take n).length = 6 := by rw [List.length_append, List.length_drop, List.length_take]; omega
    have hsok := fun (v : Nat) (hv : v ≤ 3) (hv1 : 1 ≤ v) (nm : Str) => turned_ok wNd wWd wLen6 n 0 v (by omega) hv (by omega) nm
    generalize ws.drop n ++ ws.take n = ts at lts hsok ⊢
    have s7 := same_new hp3 (.lst (ts.map V.str))
    have g7 : (upd H6 p3 (.lst (ts.map V.str))) p3 = some (.lst (ts.map V.str)) := upd_same
    generalize upd H6 p3 (.lst (ts.map V.str)) = H7 at s7 g7 ⊢
    have S47 : Same H4 H7 := s5.trans (s6.trans s7)
    have tt7 : Tp H7 hd := tt4.same S47
    have np3 := tp_ne (tt4.same (s5.trans s6)) hp3
    refine ⟨_, rfl, _, rfl, _, rfl, hd, 2, rfl, tt7, by decide, by decide, fun du t5 hdu0 hdu1 => ?_⟩
    have k8 : Kp hd H7 (upd H7 hd (.lst [.int t5])) := Kp.tape
    have tt8 : Tp (upd H7 hd (.lst [.int t5])) hd := ⟨t5, upd_same⟩
    generalize upd H7 hd (.lst [.int t5]) = H8 at k8 tt8 ⊢
    refine ⟨1, du, rfl, rfl, 1 + du, rfl, p3, _, rfl, SqL.of (k8 _ _ g7 np3), fun p9 hp9 => ?_⟩
    rw [cut_take (ts.map V.str) (by omega) (by rw [List.length_map]; omega), ← List.map_take]
    have hv1 : 1 ≤ (1 + du).toNat := by omega
    have hv2 : (1 + du).toNat ≤ 2 := by omega
    generalize (1 + du).toNat = v at hv1 hv2 ⊢
    have np9 := tp_ne tt8 hp9
    have s9 := same_new hp9 (.lst ((ts.take v).map V.str))
    have g9 : (upd H8 p9 (.lst ((ts.take v).map V.str))) p9 = some (.lst ((ts.take v).map V.str)) := upd_same
    have tt9 := tt8.same s9
    generalize upd H8 p9 (.lst ((ts.take v).map V.str)) = H9 at s9 g9 tt9 ⊢
    have k49 : Kp hd H4 H9 := fun c oo h hn => s9 _ _ (k8 _ _ (S47 _ _ h) hn)
    have S9 : Same H H9 := fun c oo h => k49 c oo (S4 c oo h) (ne_of_none h hhd)
    have g9d := k49 _ _ g4 ntd.symm.symm
    refine ⟨_, rfl, _, rfl, _, rfl, nl, _, _, .str x, rfl, rfl, SqL.of (S9 _ _ hnl), eat, td, _, rfl, DPut.k (k := .inr x) g9d (small1000 (by omega)), ?_⟩
    have eok := hsok v (by omega) hv1 x
    rw [List.take_zero, List.drop_zero] at eok
    have lv : (ts.take v).length = v := by rw [List.length_take]; omega
    have uok : UpsOk 2 (ts.take v) := ⟨by omega, by omega, eok.1, eok.2.1⟩
    refine ⟨_, _, putK kvs (.inr x) (.ref p9), fun y => if y = x then ts.take v else tb y, rfl, ?_, ?_, ?_, upd_same, ?_, ?_⟩
    · intro c oo h
      rw [upd_ne (ne_of_none h htd0)]
      exact S9 _ _ h
    · obtain ⟨t9, e9⟩ := tt9
      exact ⟨t9, by rw [upd_ne ntd.symm]; exact e9⟩
    · rw [upd_ne nwt]
      exact k49 _ _ hwl4 hwne
    · have := length_putK kvs (.inr x) (.ref p9)
      omega
    · intro y hy
      have ptd : ∀ {a : Addr} {xs : List V}, H9 a = some (.lst xs) → a ≠ td := fun h z => by rw [z, g9d] at h; cases h
      by_cases c : y = x
      · refine ⟨p9, np9, by rw [valV_put, if_pos (by rw [c])], ?_, ?_⟩
        · rw [upd_ne (ptd g9)]
          show _ = some (HO.lst ((if y = x then ts.take v else tb y).map V.str))
          rw [if_pos c]
          exact g9
        · show UpsOk 2 (if y = x then ts.take v else tb y)
          rw [if_pos c]
          exact uok
      · rw [List.take_add_one, hx] at hy
        have hy : y ∈ bd.names.take i := by
          rcases List.mem_append.mp hy with h | h
          · exact h
          · exact absurd (by simpa using h) c
        obtain ⟨a', n', e', h1, h2⟩ := hT4 y hy
        have h1' := k49 _ _ h1 n'
        refine ⟨a', n', by rw [valV_put, if_neg (fun z => c (Sum.inr.inj z))]; exact e', ?_, ?_⟩
        · rw [upd_ne (ptd h1')]
          show _ = some (HO.lst ((if y = x then ts.take v else tb y).map V.str))
          rw [if_neg c]
          exact h1'
        · show UpsOk 2 (if y = x then ts.take v else tb y)
          rw [if_neg c]
          exact h2
  · rintro σ H4 ⟨o9, o10, kvs, tb, rfl, S4, tt4, hwl4, g4, hl4, hT4⟩
    rw [List.take_of_length_le (by rw [lnl]; omega)] at hT4
    refine ⟨(by show 0 ≤ sizeLine; decide), fun ml hml => ?_⟩
    have s5 := same_new hml (.lst [])
    have g5 : (upd H4 ml (.lst [])) ml = some (.lst []) := upd_same
    generalize upd H4 ml (.lst []) = H5 at s5 g5 ⊢
    refine ⟨_, rfl, fl, _, rfl, .inl (SqL.of (s5 _ _ (S4 _ _ hfl))), _, rfl, by omega, by omega, ?_⟩
    refine for_range (fun i σ H' => ∃ o9 o12 o13 o14 o15 o16 o17 o18 o19 o20 mv frs, σ = [some (.ref sc), some (.int st), some (.ref ba), some (.int 2), some (.ref nl), some (.ref fl), some (.ref hd), some (.ref wl), some (.ref td), o9, o10, some (.ref ml), o12, o13, o14, o15, o16, o17, o18, o19, o20] ∧ Same H4 H' ∧ H' ml = some (.lst mv) ∧ RepFPs H' frs mv ∧ frs.length = i ∧ frs.map (fun fr => (fr.name, fr.own, fr.parts)) = bd.forms.take i ∧ ∀ fr ∈ frs, FrL bd.names tb fr)
      ⟨_, none, none, none, none, none, none, none, none, none, [], [], rfl, s5, g5, .nil, rfl, rfl, fun fr h => (by cases h)⟩ ?_ ?_
    · rintro i σ H6 hi ⟨o9, o12, o13, o14, o15, o16, o17, o18, o19, o20, mv, frs, rfl, S6, gml, hFs, hfl6, hmp, hfo⟩
      have hi6 : i < 6 := by omega
      have SH6 := S4.trans S6
      refine ⟨_, rfl, _, rfl, _, _, rfl, rfl, _, rfl, _, _, rfl, rfl, sc, is, _, rfl, SH6.seq hS, hns, by omega, by omega, fun tp t1 htp => ?_⟩
      have s7 := same_new htp (.lst [.int t1])
      have tt7 : Tp (upd H6 tp (.lst [.int t1])) tp := ⟨t1, upd_same⟩
      generalize upd H6 tp (.lst [.int t1]) = H7 at s7 tt7 ⊢
      have SH7 := SH6.trans s7
      obtain ⟨z, hz⟩ : ∃ z, zs[i]? = some z := ⟨zs[i]'(by omega), List.getElem?_eq_getElem (by omega)⟩
      obtain ⟨f3', hf3, c, pa, rfl, hc, hpa⟩ := paired_get hP hz
      obtain ⟨nm, on, ps⟩ := f3'
      obtain ⟨hon, hps, lps⟩ := hbo.fo _ (List.mem_of_getElem? hf3)
      have eat : atI zs (0 + (i : Int)) = some (.ref c) := by
        rw [Int.zero_add]
        exact atI_nat hz
      refine ⟨_, rfl, _, rfl, fl, _, _, .ref c, rfl, rfl, SqL.of (SH7 _ _ hfl), eat, c, _, rfl, SqT.of (SH7 _ _ hc), rfl, _, _, rfl, _, _, rfl, _, _, rfl, rfl, ?_⟩
      refine ⟨(by show 0 ≤ sizeLine; decide), fun rl hrl => ?_⟩
      have nrt := tp_ne tt7 hrl
      have s8 := same_new hrl (.lst [])
      have g8 : (upd H7 rl (.lst [])) rl = some (.lst []) := upd_same
      have tt8 := tt7.same s8
      generalize upd H7 rl (.lst []) = H8 at s8 g8 tt8 ⊢
      have S68 := s7.trans s8
      have SH8 := SH6.trans S68
      have lpv : (ps.map V.str).length = ps.length := List.length_map _
      have T8 : ∀ H', Same H7 H' → TabW hd H' kvs tb bd.names := fun H' s' => hT4.same (S6.trans (s7.trans s'))
      have gtd : ∀ H', Same H7 H' → H' td = some (.dK kvs) := fun H' s' => s' _ _ (s7 _ _ (S6 _ _ g4))
      refine ⟨_, rfl, pa, _, rfl, .inr (SqT.of (SH8 _ _ hpa)), _, rfl, by rw [lpv]; show -(2 ^ 62 : Int) ≤ _; omega, by rw [lpv]; have : ps.length ≤ 3 := lps; omega, ?_⟩
      refine for_range (fun n σ H' => ∃ o17 rv, σ = [some (.ref sc), some (.int st), some (.ref ba), some (.int 2), some (.ref nl), some (.ref fl), some (.ref hd), some (.ref wl), some (.ref td), some (.int (0 + (i : Int))), o10, some (.ref ml), some (.ref tp), some (.str nm), some (.str on), some (.ref pa), some (.ref rl), o17, o18, o19, o20] ∧ Same H7 H' ∧ H' rl = some (.lst rv) ∧ rv.length ≤ 2 * n ∧ LvP (rdP tb ps) H' rv)
        ⟨_, [], rfl, s8, g8, Nat.le_refl _, fun v h => (by cases h)⟩ ?_ ?_
      · rintro n σ H9 hn ⟨o17, rv, rfl, S9, grl, lrv, hLv⟩
        rw [lpv] at hn
        have lps' : ps.length ≤ 3 := lps
        obtain ⟨p, hp⟩ : ∃ p, ps[n]? = some p := ⟨ps[n]'(by omega), List.getElem?_eq_getElem (by omega)⟩
        have eatp : atI (ps.map V.str) (0 + (n : Int)) = some (V.str p) := by
          rw [Int.zero_add]
          exact atI_nat (by rw [List.getElem?_map, hp]; rfl)
        obtain ⟨a', _, ea, ha', hup⟩ := T8 H9 S9 p (hps p (List.mem_of_getElem? hp))
        refine ⟨_, rfl, .inl ⟨rfl, _, SqL.of grl⟩, ?_⟩
        refine ⟨_, rfl, _, rfl, _, rfl, pa, _, _, .str p, rfl, rfl, SqT.of (S9 _ _ (SH7 _ _ hpa)), eatp, td, .ref a', rfl, (by rw [← ea]; exact DGet.k (k := .inr p) (gtd H9 S9)), a', rfl, ⟨_, SqL.of ha'⟩, ?_⟩
        have lup : (tb p).length ≤ 2 := by have := hup.2.1; omega
        refine comp_prS (as := tb p) (A := fun x v => v = .str x) (by rw [List.length_map]; omega) (paired_strsP (tb p)) (itl_goS ha') (itl_stS ha') (itl_yS ha') (fun H x v => TupAt H [.str "part", .int (0 + (n : Int)), .str x] v) (fun t ⟨a, e, h⟩ => ⟨a, e, t _ _ h⟩) ?_ ?_
        · rintro x v H10 k hx rfl s10 hk
          refine ⟨_, rfl, _, rfl, (by show 3 ≤ sizeLine; decide), fun p1 hp1 => ?_⟩
          exact hk _ _ (same_new hp1 _) ⟨p1, rfl, upd_same⟩
        · intro pl vs H10 hpl s10 gpl hTw
          have lw : (tb p).length = vs.length := Paired.length hTw
          have grl10 := s10 _ _ grl
          refine ⟨rl, pl, rv, vs, rfl, rfl, grl10, gpl, Nat.le_of_lt (small1000 (by omega)), ?_⟩
          have tk : TK H10 (upd H10 rl (.lst (rv ++ vs))) := TK.lst grl10
          refine ⟨_, rv ++ vs, rfl, ?_, upd_same, by rw [List.length_append]; omega, ?_⟩
          · intro y oo h
            rw [upd_ne (ne_of_none h hrl)]
            exact s10 _ _ (S9 _ _ h)
          · intro v hv
            rcases List.mem_append.mp hv with h | h
            · obtain ⟨k', x', r', w'⟩ := hLv v h
              exact ⟨k', x', r'.mono ((tk_of s10).trans tk), w'⟩
            · obtain ⟨x, hx, a1, rfl, ha1⟩ := paired_mem hTw h
              exact ⟨0 + (n : Int), x, ⟨a1, rfl, tk _ _ ha1⟩, ⟨⟨by omega, by omega⟩, hup.2.2.2 x hx⟩, n, x, p, by rw [Int.zero_add], hp, hx⟩
      · rintro σ H9 ⟨o17, rv, rfl, S9, grl, lrv, hLv⟩
        have lrv9 : rv.length ≤ 6 := by
          have h3 : ps.length ≤ 3 := lps
          have h4 : (((ps.map V.str).length : Int)).toNat = ps.length := by rw [lpv]; exact Int.toNat_natCast _
          have lrv' : rv.length ≤ 2 * (((ps.map V.str).length : Int)).toNat := lrv
          rw [h4] at lrv'
          omega
        have tt9 : Tp H9 tp := tt7.same S9
        refine ⟨(by show 0 ≤ sizeLine; decide), fun ra hra => ?_⟩
        have nra := tp_ne tt9 hra
        have s10 := same_new hra (.lst [])
        have g10 : (upd H9 ra (.lst [])) ra = some (.lst []) := upd_same
        have tt10 := tt9.same s10
        generalize upd H9 ra (.lst []) = H10 at s10 g10 tt10 ⊢
        have S710 := S9.trans s10
        obtain ⟨a', _, ea, ha', hup⟩ := T8 H10 S710 on hon
        have na' : a' ≠ tp := fun z => by
          obtain ⟨t, ht⟩ := tt10
          rw [z, ht] at ha'
          cases hh : tb on with
          | nil => rw [hh] at ha'; cases ha'
          | cons y ys => rw [hh] at ha'; cases ha'
        have lup : (tb on).length ≤ 2 := by have := hup.2.1; omega
        refine ⟨_, rfl, _, rfl, td, .ref a', rfl, (by rw [← ea]; exact DGet.k (k := .inr on) (gtd H10 S710)), a', rfl, ⟨_, SqL.of ha'⟩, ?_⟩
        refine for_list (xs := (tb on).map V.str) (fun n σ H' => n ≤ (tb on).length ∧ ∃ o18 o20 rvs rules, σ = [some (.ref sc), some (.int st), some (.ref ba), some (.int 2), some (.ref nl), some (.ref fl), some (.ref hd), some (.ref wl), some (.ref td), some (.int (0 + (i : Int))), o10, some (.ref ml), some (.ref tp), some (.str nm), some (.str on), some (.ref pa), some (.ref rl), o17, o18, some (.ref ra), o20] ∧ Kp tp H9 H' ∧ Tp H' tp ∧ H' a' = some (.lst ((tb on).map V.str)) ∧ H' ra = some (.lst rvs) ∧ RepRs H' rules rvs ∧ rules.map (fun r => (r.pl, r.word)) = ((tb on).take n).map (fun x => ((-1 : Int), x)) ∧ ∀ r ∈ rules, r.fm.wfp (rdP tb ps) ∧ r.fm.lvl ∧ r.fm.size ≤ 11)
          ⟨Nat.zero_le _, _, _, [], [], rfl, Kp.refl.same s10, tt10, ha', g10, .nil, rfl, fun r h => (by cases h)⟩ (fun n σ H' _ h => by obtain ⟨_, _, _, _, _, _, _, _, g, _⟩ := h; exact SqL.of g) ?_ ?_
        · rintro n x σ H11 hx ⟨hn, o18, o20, rvs, rules, rfl, k11, tt11, ha11, gra, hRr, hmap, hfm⟩
          have hlt : n < (tb on).length := by
            have := (List.getElem?_eq_some_iff.mp hx).1
            rw [List.length_map] at this
            exact this
          obtain ⟨wd, hwd, rfl⟩ : ∃ wd, (tb on)[n]? = some wd ∧ V.str wd = x := by
            rw [List.getElem?_map] at hx
            cases he : (tb on)[n]? with
            | none => rw [he] at hx; cases hx
            | some t => rw [he] at hx; exact ⟨t, rfl, Option.some.inj hx⟩
          have lrules : rules.length = n := by
            have := congrArg List.length hmap
            rw [List.length_map, List.length_map, List.length_take] at this
            omega
          have lrvs : rvs.length = n := by rw [← hRr.len]; exact lrules
          refine ⟨_, rfl, tp, 6, rfl, tt11, by decide, by decide, fun d t hd0 hd1 => ⟨1, d, rfl, rfl, ?_⟩⟩
          have k12 : Kp tp H11 (upd H11 tp (.lst [.int t])) := Kp.tape
          have tt12 : Tp (upd H11 tp (.lst [.int t])) tp := ⟨t, upd_same⟩
          generalize upd H11 tp (.lst [.int t]) = H12 at k12 tt12 ⊢
          have gra12 := k12 _ _ gra nra
          refine ⟨_, rfl, .inl ⟨rfl, _, SqL.of gra12⟩, 1, rfl, _, rfl, _, rfl, _, rfl, _, rfl, (by show 3 ≤ sizeLine; decide), fun sg hsg => ?_⟩
          have nst := tp_ne tt12 hsg
          have s13 := same_new hsg (.lst [.str "plus", .str "less", .str "times"])
          have g13 : (upd H12 sg (.lst [.str "plus", .str "less", .str "times"])) sg = some (.lst (([("plus" : Str), "less", "times"] : List Str).map V.str)) := upd_same
          have tt13 := tt12.same s13
          generalize upd H12 sg (.lst [.str "plus", .str "less", .str "times"]) = H13 at s13 g13 tt13 ⊢
          have k913 : Kp tp H9 H13 := (k11.trans k12).same s13
          have hLv13 : LvP (rdP tb ps) H13 rv := fun v hv => by
            obtain ⟨k', x', r', w'⟩ := hLv v hv
            exact ⟨k', x', r'.mono (k913.tk tt9), w'⟩
          refine ⟨rdP tb ps, (fun y ⟨_, _, _, e, _⟩ => by cases e), tp, rl, sg, rv, 1 + d, _, rfl, tt13, nrt, nst, k913 _ _ grl nrt, by omega, hLv13, g13, by decide, by decide, fun y hy => by revert y; decide +kernel, by omega, by omega, by omega, fun v fm H14 rp wf lv sz k14 tt14 => ?_⟩
          have k1114 : Kp tp H11 H14 := (k12.same s13).trans k14
          have gra14 := k1114 _ _ gra nra
          refine ⟨(by show 3 ≤ sizeLine; decide), fun p5 hp5 => ?_⟩
          have s15 := same_new hp5 (.tup [.int (-1), .str wd, v])
          have g15 : (upd H14 p5 (.tup [.int (-1), .str wd, v])) p5 = some (.tup [.int (-1), .str wd, v]) := upd_same
          have tt15 := tt14.same s15
          have gra15 := s15 _ _ gra14
          generalize upd H14 p5 (.tup [.int (-1), .str wd, v]) = H15 at s15 g15 tt15 gra15 ⊢
          have k1115 : Kp tp H11 H15 := k1114.same s15
          refine ⟨ra, rvs, .ref p5, rfl, rfl, gra15, small1000 (by omega), ?_⟩
          have tk : TK H15 (upd H15 ra (.lst (rvs ++ [.ref p5]))) := TK.lst gra15
          have tk11 : TK H11 (upd H15 ra (.lst (rvs ++ [.ref p5]))) := (k1115.tk tt11).trans tk
          have nar : a' ≠ ra := fun z => by rw [z] at ha'; rw [g10] at ha'; cases hh : tb on with
            | nil => rw [hh] at hlt; exact absurd hlt (Nat.not_lt_zero _)
            | cons y ys => rw [hh] at ha'; cases ha'
          refine ⟨hlt, _, _, rvs ++ [.ref p5], rules ++ [⟨-1, wd, fm⟩], rfl, ?_, ?_, ?_, upd_same, ?_, ?_, ?_⟩
          · intro b oo hb hbn
            rw [upd_ne (ne_of_none hb hra)]
            exact k1115 _ _ (k11 _ _ hb hbn) hbn
          · obtain ⟨t9, e9⟩ := tt15
            exact ⟨t9, by rw [upd_ne (Ne.symm nra)]; exact e9⟩
          · rw [upd_ne nar]
            exact k1115 _ _ ha11 na'
          · exact Paired.snoc (hRr.mono tk11) ⟨p5, v, rfl, tk _ _ g15, rp.mono ((tk_of s15).trans tk)⟩
          · rw [List.map_append, hmap, List.take_add_one, hwd, List.map_append]
            rfl
          · intro r hrr
            rw [List.mem_append, List.mem_singleton] at hrr
            rcases hrr with h | h
            · exact hfm r h
            · subst h
              exact ⟨wf, lv, by show fm.size ≤ 11; omega⟩
        · rintro σ H11 ⟨_, o18, o20, rvs, rules, rfl, k11, tt11, ha11, gra, hRr, hmap, hfm⟩
          rw [List.length_map, List.take_length] at hmap
          have S611 : Same H6 H11 := fun b oo h => k11 b oo (S9 b oo (s7 b oo h)) (ne_of_none h htp)
          have gml11 := S611 _ _ gml
          refine ⟨_, rfl, .inl ⟨rfl, _, SqL.of gml11⟩, _, rfl, _, rfl, _, rfl, _, rfl, ra, _, rfl, .inl ⟨SqL.of gra, fun rt hrt => ?_⟩⟩
          have s12 := same_new hrt (.tup rvs)
          have g12 : (upd H11 rt (.tup rvs)) rt = some (.tup rvs) := upd_same
          generalize upd H11 rt (.tup rvs) = H12 at s12 g12 ⊢
          refine ⟨(by show 4 ≤ sizeLine; decide), fun p13 hp13 => ?_⟩
          have s13 := same_new hp13 (.tup [.str nm, .str on, .ref pa, .ref rt])
          have g13 : (upd H12 p13 (.tup [.str nm, .str on, .ref pa, .ref rt])) p13 = some (.tup [.str nm, .str on, .ref pa, .ref rt]) := upd_same
          generalize upd H12 p13 (.tup [.str nm, .str on, .ref pa, .ref rt]) = H13 at s13 g13 ⊢
          have S613 : Same H6 H13 := S611.trans (s12.trans s13)
          have gml13 := S613 _ _ gml
          have lmv := hFs.len
          refine ⟨ml, mv, .ref p13, rfl, rfl, gml13, small1000 (by omega), ?_⟩
          have tk : TK H13 (upd H13 ml (.lst (mv ++ [.ref p13]))) := TK.lst gml13
          have tk6 : TK H6 (upd H13 ml (.lst (mv ++ [.ref p13]))) := (tk_of S613).trans tk
          refine ⟨_, _, _, _, _, _, _, _, _, _, mv ++ [.ref p13], frs ++ [⟨nm, on, ps, rules⟩], rfl, ?_, upd_same, ?_, ?_, ?_, ?_⟩
          · intro b oo h
            rw [upd_ne (ne_of_none h hml)]
            exact S613 _ _ (S6 _ _ h)
          · exact Paired.snoc (RepFPs.mono tk6 hFs) ⟨p13, pa, rt, rvs, rfl, tk _ _ g13, tk _ _ (S613 _ _ (SH6 _ _ hpa)), tk _ _ (s13 _ _ g12), hRr.mono ((tk_of (s12.trans s13)).trans tk)⟩
          · rw [List.length_append, hfl6]; rfl
          · rw [List.map_append, hmp, List.take_add_one, hf3]; rfl
          · intro fr hfr
            rw [List.mem_append, List.mem_singleton] at hfr
            rcases hfr with h | h
            · exact hfo fr h
            · subst h
              exact ⟨hon, hps, lps, hmap, hfm⟩
    · rintro σ H6 ⟨o9, o12, o13, o14, o15, o16, o17, o18, o19, o20, mv, frs, rfl, S6, gml, hFs, hfl6, hmp, hfo⟩
      have SH6 := S4.trans S6
      have hT6 : TabW hd H6 kvs tb bd.names := hT4.same S6
      have g6 := S6 _ _ g4
      have hnl6 := SH6 _ _ hnl
      refine ⟨_, rfl, nl, rfl, ⟨_, SqL.of hnl6⟩, ?_⟩
      refine comp_prS (as := bd.names) (A := fun x v => v = .str x) (by rw [lnl]; omega) (paired_strsP bd.names) (itl_goS hnl6) (itl_stS hnl6) (itl_yS hnl6) (fun H x v => RepS H ⟨x, [], tb x⟩ v) (fun t h => RepS.mono t h) ?_ ?_
      · rintro x v H7 k hx rfl s7 hk
        obtain ⟨a', _, ea, ha', hup⟩ := hT6 x hx
        refine ⟨_, rfl, (by show 0 ≤ sizeLine; decide), fun p1 hp1 => ?_⟩
        have s8 := same_new hp1 (.tup [])
        have g8 : (upd H7 p1 (.tup [])) p1 = some (.tup []) := upd_same
        generalize upd H7 p1 (.tup []) = H8 at s8 g8 ⊢
        refine ⟨_, rfl, _, rfl, td, .ref a', rfl, (by rw [← ea]; exact DGet.k (k := .inr x) (s8 _ _ (s7 _ _ g6))), a', _, rfl, .inl ⟨SqL.of (s8 _ _ (s7 _ _ ha')), fun p2 hp2 => ?_⟩⟩
        have s9 := same_new hp2 (.tup ((tb x).map V.str))
        have g9 : (upd H8 p2 (.tup ((tb x).map V.str))) p2 = some (.tup ((tb x).map V.str)) := upd_same
        generalize upd H8 p2 (.tup ((tb x).map V.str)) = H9 at s9 g9 ⊢
        refine ⟨(by show 3 ≤ sizeLine; decide), fun p3 hp3 => ?_⟩
        have s10 := same_new hp3 (.tup [.str x, .ref p1, .ref p2])
        exact hk _ _ (s8.trans (s9.trans s10)) ⟨p3, p1, p2, rfl, upd_same, s10 _ _ (s9 _ _ g8), s10 _ _ g9⟩
      · intro pl vs H7 hpl s7 gpl hSs
        refine ⟨pl, _, rfl, .inl ⟨SqL.of gpl, fun pt hpt => ?_⟩⟩
        have s8 := same_new hpt (.tup vs)
        have g8 : (upd H7 pt (.tup vs)) pt = some (.tup vs) := upd_same
        generalize upd H7 pt (.tup vs) = H8 at s8 g8 ⊢
        refine ⟨_, rfl, ml, mv, rfl, .inl ⟨SqL.of (s8 _ _ (s7 _ _ gml)), fun fa hfa => ?_⟩⟩
        have s9 := same_new hfa (.tup mv)
        have g9 : (upd H8 fa (.tup mv)) fa = some (.tup mv) := upd_same
        generalize upd H8 fa (.tup mv) = H9 at s9 g9 ⊢
        refine ⟨(by show 3 ≤ sizeLine; decide), fun pb hpb => ?_⟩
        have s10 := same_new hpb (.tup [.int 0, .ref pt, .ref fa])
        have S610 : Same H6 _ := s7.trans (s8.trans (s9.trans s10))
        have hsort : RepSs _ (bd.names.map fun x => ⟨x, [], tb x⟩) vs := paired_map_l (F := RepS _) (g := fun x : Str => (⟨x, [], tb x⟩ : Srt)) (Paired.mapP hSs fun _ _ h => RepS.mono (tk_of (s8.trans (s9.trans s10))) h)
        have hfm6 : bd.forms.take zs.length = bd.forms := List.take_of_length_le (by omega)
        refine q (.ref pb) ⟨0, bd.names.map fun x => ⟨x, [], tb x⟩, frs⟩ tb _ ⟨pb, pt, fa, mv, rfl, upd_same, ⟨vs, s10 _ _ (s9 _ _ g8), hsort⟩, s10 _ _ g9, RepFPs.mono (tk_of S610) hFs⟩ ⟨rfl, rfl, n1, n3, fun x hx => ?_, ?_, ?_, hfo⟩ ?_ (SH6.trans S610)
        · obtain ⟨_, _, _, _, h⟩ := hT4 x hx
          exact h
        · show 1 ≤ frs.length
          omega
        · show frs.length ≤ 6
          omega
        · rw [hmp]
          exact hfm6
end
end My
namespace My
open PySem L2
noncomputable def TbsAt (H : Hp) (tb : Str → List Str) (ps : List Str) (dv : List V) : Prop := ∀ (j : Nat) p, ps[j]? = some p → ∃ d kvs, dv[j]? = some (.ref d) ∧ H d = some (.dK kvs) ∧ ∀ x ∈ tb p, ∃ y, valV kvs (.inr x) = some (.str y) ∧ wordB y = true
noncomputable def spTurned (n : Nat) : Sp := fun vs H Q _ => ∃ (tp tl : Addr) (v : V) (fm : Fm) (tb : Str → List Str) (ps : List Str) (dv : List V), vs = [.ref tp, v, .ref tl] ∧ Tp H tp ∧ tl ≠ tp ∧ Rep H fm v ∧ fm.wfp (rdP tb ps) ∧ fm.lvl ∧ fm.size ≤ n ∧ ps.length ≤ 3 ∧ H tl = some (.lst dv) ∧ TbsAt H tb ps dv ∧
  ∀ u g H', Rep H' g u → g.wf → g.size ≤ fm.size → Kp tp H H' → Tp H' tp → Q u H'
theorem TbsAt.kp {tp : Addr} {H H' : Hp} (k : Kp tp H H') (t : Tp H tp) {tb : Str → List Str} {ps : List Str} {dv : List V} (h : TbsAt H tb ps dv) : TbsAt H' tb ps dv := fun j p hp => by
  obtain ⟨d, kvs, e, hd, hx⟩ := h j p hp
  refine ⟨d, kvs, e, k _ _ hd fun z => ?_, hx⟩
  obtain ⟨u, hu⟩ := t
  rw [z, hu] at hd
  cases hd
section
variable {P : Program} {w : World} {K : PySem.W.Frag} {mg : Str → Option Value} {base : Heap} {f f2 f3 f4 f5 aR : Addr} {fd fd2 fd3 fd4 fd5 : FuncData}
noncomputable abbrev NTf : List Str := ["tape", "formula", "tables", "one", "other"]
theorem scTurnedF : FnScope NTf ["tape", "formula", "tables"] (defScope sTurnedF) := ⟨rfl, rfl, rfl, by decide +kernel, rfl, by decide +kernel, by decide +kernel⟩
theorem ok_turned1 {n : Nat} (F : Fun K "_law_turned_formula" "_law_turned_formula" sTurnedF f fd)
    (GD : FnOk P w K mg base CX0 1 f2 fd2 ["tape", "many"] spDigit) (bD : Binds K fd2 ["tape", "many"] []) (kD : PySem.W.keepIn K (.ref f2) = true) (mD : mg "_law_digit" = some (.ref f2))
    (GS : FnOk P w K mg base CX0 (n + 1) f fd ["tape", "formula", "tables"] (spTurned n)) (bS : Binds K fd ["tape", "formula", "tables"] []) (mS : mg "_law_turned_formula" = some (.ref f)) :
    FnOk P w K mg base CX0 (n + 2) f fd ["tape", "formula", "tables"] (spTurned (n + 1)) := by
  refine F.ok scTurnedF (fun vs H Q E h => ?_) (fun cdv A outer s H vs Q E hr h => ?_)
  · obtain ⟨tp, tl, v, fm, tb, ps, dv, rfl, _⟩ := h
    rfl
  obtain ⟨tp, tl, v, fm, tb, ps, dv, rfl, hT, htl, hR, hw, hlv, hsz, hps, gtl, hTb, q⟩ := h
  have hu := hu_of hr
  have hr1 := hr.mono (show 1 ≤ n + 1 by omega)
  refine ⟨_, pss_cons (ps_if (pt_cmpR op_eq (pe_ix ix_tup (pv 1) pe_int (fun _ _ => rfl)) pe_str (nomark _)) (pss_one (ps_ret (pv 1))) pss_nil)
    (pss_cons (ps_if (pt_cmpR op_eq (pe_ix ix_tup (pv 1) pe_int (fun _ _ => rfl)) pe_str (nomark _)) (pss_one (ps_ret (pe_tup (pa_cons pe_str (pa_cons (pe_ix ix_tup (pv 1) pe_int (fun _ _ => rfl)) (pa_cons (pe_dget hu (pe_ix ix_list (pv 2) (pe_ix ix_tup (pv 1) pe_int (fun _ _ => rfl)) (fun _ _ => rfl)) (pe_ix ix_tup (pv 1) pe_int (fun _ _ => rfl)) (fun _ _ => rfl)) pa_nil)))))) pss_nil)
    (pss_cons (ps_set (i := 3) scTurnedF.nd rfl (Or.inl rfl) (pe_call GS hr rfl mS F.kp bS .nil pass0 (pa_cons (pv 0) (pa_cons (pe_ix ix_tup (pv 1) pe_int (fun _ _ => rfl)) (pa_cons (pv 2) pa_nil)))))
    (pss_cons (ps_set (i := 4) scTurnedF.nd rfl (Or.inl rfl) (pe_call GS hr rfl mS F.kp bS .nil pass0 (pa_cons (pv 0) (pa_cons (pe_ix ix_tup (pv 1) pe_int (fun _ _ => rfl)) (pa_cons (pv 2) pa_nil)))))
    (pss_cons (ps_if (PW.pt (pw_and (pt_cmpR op_ne (pe_ix ix_tup (pv 1) pe_int (fun _ _ => rfl)) pe_str (nomark _)) (pw_and1 (pt_cmpR op_eq (pe_call GD hr1 rfl mD kD bD .nil pass0 (pa_cons (pv 0) (pa_cons pe_int pa_nil))) pe_int (nomark _)))))
      (pss_one (ps_ret (pe_tup (pa_cons (pe_ix ix_tup (pv 1) pe_int (fun _ _ => rfl)) (pa_cons (pv 4) (pa_cons (pv 3) pa_nil)))))) pss_nil)
    (pss_one (ps_ret (pe_tup (pa_cons (pe_ix ix_tup (pv 1) pe_int (fun _ _ => rfl)) (pa_cons (pv 3) (pa_cons (pv 4) pa_nil)))))))))), ?_⟩
  cases fm with
  | num m =>
    have hR0 := hR
    obtain ⟨a, rfl, ha⟩ := hR
    refine ⟨_, rfl, a, _, 0, .str "num", rfl, rfl, SqT.of ha, atI0, rfl, true, (by rw [decide_eq_true rfl]), iteT ?_⟩
    exact ⟨_, rfl, q _ (.num m) H hR0 hw.wf (Nat.le_refl _) Kp.refl hT⟩
  | own x => exact hlv.elim
  | whn A B C => exact hlv.elim
  | part k x =>
    obtain ⟨a, rfl, ha⟩ := hR
    obtain ⟨⟨⟨k0, k2⟩, hx⟩, j, x', p, e, hp, hxp⟩ : ((0 ≤ k ∧ k ≤ 2) ∧ wordB x = true) ∧ rdP tb ps (.part k x) := hw
    cases e
    obtain ⟨d, kvs, ed, hd, hxs⟩ := hTb j p hp
    obtain ⟨y, ey, hy⟩ := hxs x hxp
    refine ⟨_, rfl, a, _, 0, .str "part", rfl, rfl, SqT.of ha, atI0, rfl, false, (by rw [decide_eq_false (by decide +kernel)]), iteF ?_⟩
    refine ⟨_, rfl, a, _, 0, .str "part", rfl, rfl, SqT.of ha, atI0, rfl, true, (by rw [decide_eq_true rfl]), iteT ?_⟩
    refine ⟨_, rfl, a, _, 1, .int (j : Int), rfl, rfl, SqT.of ha, atI_nat (j := 1) rfl, ?_⟩
    refine ⟨_, rfl, _, rfl, a, _, 1, .int (j : Int), rfl, rfl, SqT.of ha, atI_nat (j := 1) rfl, tl, _, _, .ref d, rfl, rfl, SqL.of gtl, atI_nat ed, _, rfl, a, _, 2, .str x, rfl, rfl, SqT.of ha, atI_nat (j := 2) rfl, d, .str y, rfl, (by rw [← ey]; exact DGet.k (k := .inr x) hd), ?_⟩
    refine ⟨(by show 3 ≤ sizeLine; decide), fun p9 hp9 => ?_⟩
    exact q (.ref p9) (.part (j : Int) y) _ ⟨p9, rfl, upd_same⟩ ⟨⟨k0, k2⟩, hy⟩ (Nat.le_refl _) (Kp.refl.new hp9) (hT.new hp9)
  | bin op A B =>
    obtain ⟨a, u1, u2, rfl, ha, r1, r2⟩ := hR
    obtain ⟨ho, w1, w2⟩ : op ∈ ops ∧ A.wfp _ ∧ B.wfp _ := hw
    obtain ⟨l1, l2, _⟩ : A.lvl ∧ B.lvl ∧ _ := hlv
    have hz : A.size + B.size + 1 ≤ n + 1 := hsz
    have hnn : op ≠ "num" := fun z => by rw [z] at ho; exact absurd ho (by decide +kernel)
    have hnp : op ≠ "part" := fun z => by rw [z] at ho; exact absurd ho (by decide +kernel)
    refine ⟨_, rfl, a, _, 0, .str op, rfl, rfl, SqT.of ha, atI0, rfl, false, (by rw [decide_eq_false fun z => hnn (V.str.inj z)]), iteF ?_⟩
    refine ⟨_, rfl, a, _, 0, .str op, rfl, rfl, SqT.of ha, atI0, rfl, false, (by rw [decide_eq_false fun z => hnp (V.str.inj z)]), iteF ?_⟩
    refine ⟨_, rfl, _, rfl, a, _, 1, u1, rfl, rfl, SqT.of ha, atI_nat (j := 1) rfl, _, rfl, tp, tl, u1, A, tb, ps, dv, rfl, hT, htl, r1, w1, l1, by omega, hps, gtl, hTb, fun v1 g1 H1 q1 wf1 z1 k1 tt1 => ?_⟩
    have tk1 := k1.tk hT
    refine ⟨_, rfl, _, rfl, a, _, 2, u2, rfl, rfl, SqT.of (tk1 _ _ ha), atI_nat (j := 2) rfl, _, rfl, tp, tl, u2, B, tb, ps, dv, rfl, tt1, htl, r2.mono tk1, w2, l2, by omega, hps, k1 _ _ gtl htl, hTb.kp k1 hT, fun v2 g2 H2 q2 wf2 z2 k2 tt2 => ?_⟩
    have k02 := k1.trans k2
    have tk02 := k02.tk hT
    have tk2 := k2.tk tt1
    have fin : ∀ H3, Kp tp H2 H3 → Tp H3 tp → ∀ p, H3 p = none → Q (.ref p) (upd H3 p (.tup [.str op, v1, v2])) := fun H3 k3 tt3 p hp => by
      have s4 := same_new hp (.tup [.str op, v1, v2])
      have t3 := (k3.tk tt2).trans (tk_of s4)
      exact q (.ref p) (.bin op g1 g2) _ ⟨p, v1, v2, rfl, upd_same, (q1.mono tk2).mono t3, q2.mono t3⟩ ⟨ho, wf1, wf2⟩ (by show g1.size + g2.size + 1 ≤ A.size + B.size + 1; omega) ((k02.trans k3).new hp) (tt3.new hp)
    refine ⟨_, rfl, a, _, 0, .str op, rfl, rfl, SqT.of (tk02 _ _ ha), atI0, rfl, _, rfl, ?_⟩
    refine ite2 (fun c => ?_) (fun c => iteF ?_)
    · refine ⟨_, rfl, tp, 2, rfl, tt2, by decide, by decide, fun d t hd0 hd1 => ?_⟩
      have k3 : Kp tp H2 (upd H2 tp (.lst [.int t])) := Kp.tape
      have tt3 : Tp (upd H2 tp (.lst [.int t])) tp := ⟨t, upd_same⟩
      generalize upd H2 tp (.lst [.int t]) = H3 at k3 tt3 ⊢
      have tk03 := (k02.trans k3).tk hT
      refine ⟨rfl, _, rfl, ?_⟩
      refine ite2 (fun _ => ?_) (fun _ => ?_)
      · refine ⟨_, rfl, a, _, 0, .str op, rfl, rfl, SqT.of (tk03 _ _ ha), atI0, _, rfl, _, rfl, (by show 3 ≤ sizeLine; decide), fun p hp => ?_⟩
        have s4 := same_new hp (.tup [.str op, v2, v1])
        have t3 := (k3.tk tt2).trans (tk_of s4)
        exact q (.ref p) (.bin op g2 g1) _ ⟨p, v2, v1, rfl, upd_same, q2.mono t3, (q1.mono tk2).mono t3⟩ ⟨ho, wf2, wf1⟩ (by show g2.size + g1.size + 1 ≤ A.size + B.size + 1; omega) ((k02.trans k3).new hp) (tt3.new hp)
      · refine ⟨_, rfl, a, _, 0, .str op, rfl, rfl, SqT.of (tk03 _ _ ha), atI0, _, rfl, _, rfl, (by show 3 ≤ sizeLine; decide), fun p hp => fin H3 k3 tt3 p hp⟩
    · refine ⟨_, rfl, a, _, 0, .str op, rfl, rfl, SqT.of (tk02 _ _ ha), atI0, _, rfl, _, rfl, (by show 3 ≤ sizeLine; decide), fun p hp => fin H2 Kp.refl tt2 p hp⟩
theorem ok_turned0 : FnOk P w K mg base CX0 1 f fd ["tape", "formula", "tables"] (spTurned 0) := by
  have no : ∀ vs H Q E, ¬ spTurned 0 vs H Q E := fun vs H Q E h => by
    obtain ⟨tp, tl, v, fm, tb, ps, dv, _, _, _, _, _, _, h, _⟩ := h
    have := fm.size_pos
    omega
  exact ⟨fun vs H Q E h => absurd h (no vs H Q E), fun A outer s H args us vs Q E _ _ _ _ h => absurd h (no vs H Q E)⟩
theorem ok_turned (F : Fun K "_law_turned_formula" "_law_turned_formula" sTurnedF f fd)
    (GD : FnOk P w K mg base CX0 1 f2 fd2 ["tape", "many"] spDigit) (bD : Binds K fd2 ["tape", "many"] []) (kD : PySem.W.keepIn K (.ref f2) = true) (mD : mg "_law_digit" = some (.ref f2))
    (bS : Binds K fd ["tape", "formula", "tables"] []) (mS : mg "_law_turned_formula" = some (.ref f)) : ∀ n : Nat, FnOk P w K mg base CX0 (n + 1) f fd ["tape", "formula", "tables"] (spTurned n)
  | 0 => ok_turned0
  | n + 1 => ok_turned1 F GD bD kD mD (ok_turned F GD bD kD mD bS mS n) bS mS
end
end My
namespace My
open PySem L2
noncomputable def te3 (te : TE) : TE := fun σ H k => match σ with
  | some x :: r => ∃ T v1 v2 v3, x = .ref T ∧ H T = some (.tup [v1, v2, v3]) ∧ te (some v1 :: some v2 :: some v3 :: r) H k
  | _ => False
theorem comp3 {fr : List Nat} {te : TE} {σ : St} {J : It} {H1 : Hp} {Q : VK} (h : tCompW fr (te3 te) σ J H1 Q) : tCompW3 fr te σ J H1 Q := h
theorem comp_prK {J : It} {α : Type} {as : List α} {A : α → V → Prop} {xs : List V} {fr : List Nat} {te : TE} {σ : St} {H1 : Hp} {Q : VK} {tp : Addr} (hn : xs.length ≤ 1000) (tt : Tp H1 tp) (hP : Paired A as xs)
    (hgo : ∀ i H, Kp tp H1 H → i < xs.length → J.go i H) (hst : ∀ H, Kp tp H1 H → J.stop xs.length H) (hy : ∀ i H v H', Kp tp H1 H → J.yld i H v H' → H' = H ∧ xs[i]? = some v)
    (R : Hp → α → V → Prop) (mono : ∀ {H H' : Hp} {a : α} {v : V}, TK H H' → R H a v → R H' a v)
    (hte : ∀ a v H (k : VK), a ∈ as → A a v → Kp tp H1 H → Tp H tp → (∀ u H', Kp tp H H' → Tp H' tp → R H' a u → k u H') → te (some v :: caps fr σ) H k)
    (hd : ∀ p zs H', H1 p = none → Kp tp H1 H' → Tp H' tp → H' p = some (.lst zs) → Paired (R H') as zs → Q (.ref p) H') : tCompW fr te σ J H1 Q := by
  intro p hp
  have hl : as.length = xs.length := Paired.length hP
  have npt := tp_ne tt hp
  refine ⟨fun i m zs H => i ≤ xs.length ∧ m = xs.length - i ∧ Kp tp H1 H ∧ Tp H tp ∧ H p = some (.lst zs) ∧ zs.length = i ∧ Paired (R H) (as.take i) zs, ⟨_, Nat.zero_le _, rfl, Kp.refl.new hp, tt.new hp, upd_same, rfl, .nil⟩, ?_⟩
  rintro i m zs H ⟨hi, hm, km, th, gp, hz, hT⟩
  refine ⟨gp, ?_⟩
  by_cases e : i = xs.length
  · subst e
    rw [← hl, List.take_length] at hT
    exact .inl ⟨hst H km, hd p zs H hp km th gp hT⟩
  · have hlt : i < xs.length := by omega
    refine .inr ⟨hgo i H km hlt, small1000 (by omega), fun v H' hv => ?_⟩
    obtain ⟨rfl, hv2⟩ := hy i H v H' km hv
    obtain ⟨a, ha, hA⟩ := paired_get hP hv2
    refine hte a v _ _ (List.mem_of_getElem? ha) hA km th fun u H2 k2 t2 r => ?_
    have gp2 := k2 _ _ gp npt
    have tk : TK H2 (upd H2 p (.lst (zs ++ [u]))) := TK.lst gp2
    refine ⟨gp2, xs.length - (i + 1), by omega, by omega, rfl, ?_, ?_, upd_same, by rw [List.length_append, hz]; rfl, ?_⟩
    · intro b o hb hn
      rw [upd_ne (ne_of_none hb hp)]
      exact k2 _ _ (km _ _ hb hn) hn
    · obtain ⟨t9, e9⟩ := t2
      exact ⟨t9, by rw [upd_ne (Ne.symm npt)]; exact e9⟩
    · rw [List.take_add_one, ha]
      exact Paired.snoc (Paired.mapP hT fun _ _ r => mono ((k2.tk th).trans tk) r) (mono tk r)
theorem ittK_go {K : PySem.W.Frag} {a tp : Addr} {xs : List V} {H1 : Hp} (tt : Tp H1 tp) (ha : H1 a = some (.tup xs)) : ∀ i H, Kp tp H1 H → i < xs.length → (Itt K a).go i H := fun i H k h => ⟨xs, xs[i], SqT.of (k.tk tt _ _ ha), List.getElem?_eq_getElem h⟩
theorem ittK_st {K : PySem.W.Frag} {a tp : Addr} {xs : List V} {H1 : Hp} (tt : Tp H1 tp) (ha : H1 a = some (.tup xs)) : ∀ H, Kp tp H1 H → (Itt K a).stop xs.length H := fun H k => ⟨xs, SqT.of (k.tk tt _ _ ha), Nat.le_refl _⟩
theorem ittK_y {K : PySem.W.Frag} {a tp : Addr} {xs : List V} {H1 : Hp} (tt : Tp H1 tp) (ha : H1 a = some (.tup xs)) : ∀ i H v H', Kp tp H1 H → (Itt K a).yld i H v H' → H' = H ∧ xs[i]? = some v := fun i H v H' k hv => ⟨hv.1, by obtain ⟨rfl, hv⟩ := hv; exact hv xs (SqT.of (k.tk tt _ _ ha))⟩
noncomputable def nwL : List Str := ["pa", "p", "pab"]
noncomputable def nwW (i : Nat) : Str := nwL.getD i "pa"
theorem nw_at {i : Nat} (h : i < 3) : atI [V.str "pa", .str "p", .str "pab"] (0 + (i : Int)) = some (.str (nwW i)) ∧ wordB (nwW i) = true := by
  have h3 : i = 0 ∨ i = 1 ∨ i = 2 := by omega
  rcases h3 with rfl | rfl | rfl
  · exact ⟨rfl, by decide +kernel⟩
  · exact ⟨rfl, by decide +kernel⟩
  · exact ⟨rfl, by decide +kernel⟩
noncomputable def NwOk (ups : List Str) (kv : List (Key × V)) : Prop := ∀ (i : Nat) y, ups[i]? = some y → valV kv (.inr y) = some (.str (nwW i))
noncomputable def NewsAt (H : Hp) (kvs : List (Key × V)) (tb : Str → List Str) (xs : List Str) : Prop := ∀ x ∈ xs, ∃ d kv, valV kvs (.inr x) = some (.ref d) ∧ H d = some (.dK kv) ∧ NwOk (tb x) kv
theorem NewsAt.kp {tp : Addr} {H H' : Hp} (k : Kp tp H H') (t : Tp H tp) {kvs : List (Key × V)} {tb : Str → List Str} {xs : List Str} (h : NewsAt H kvs tb xs) : NewsAt H' kvs tb xs := fun x hx => by
  obtain ⟨d, kv, e, hd, hn⟩ := h x hx
  refine ⟨d, kv, e, k _ _ hd fun z => ?_, hn⟩
  obtain ⟨u, hu⟩ := t
  rw [z, hu] at hd
  cases hd
theorem NwOk.put {ups : List Str} {kv : List (Key × V)} {m : Nat} {y : Str} (nd : ups.Nodup) (hy : ups[m]? = some y) (h : NwOk (ups.take m) kv) : NwOk (ups.take (m + 1)) (putK kv (.inr y) (.str (nwW m))) := fun i z hz => by
  rw [valV_put]
  have hz' : ups[i]? = some z := by
    rw [List.getElem?_take] at hz
    split at hz
    · exact hz
    · cases hz
  have hi : i < m + 1 := by
    have := (List.getElem?_eq_some_iff.mp hz).1
    rw [List.length_take] at this
    omega
  by_cases c : (Sum.inr z : Key) = .inr y
  · have e : z = y := Sum.inr.inj c
    subst e
    have := (List.getElem?_inj (List.getElem?_eq_some_iff.mp hz').1 nd).mp (hz'.trans hy.symm)
    subst this
    rw [if_pos rfl]
  · rw [if_neg c]
    have : i ≠ m := fun e => c (by subst e; rw [hz'] at hy; rw [Option.some.inj hy])
    exact h i z (by rw [List.getElem?_take, if_pos (by omega)]; exact hz')
noncomputable def FrK (fr : FrP) : Prop := 1 ≤ fr.rules.length ∧ fr.rules.length ≤ 3 ∧ (fr.rules.map fun r => (r.pl, r.word)).Nodup ∧ fr.parts.length ≤ 3 ∧ ∀ r ∈ fr.rules, r.fm.wf ∧ r.fm.size ≤ 15
structure LkOk (bk : BkP) : Prop where
  w : bk.wheel = 0
  s3 : bk.sorts.length ≤ 3
  up : ∀ s ∈ bk.sorts, s.ups.length ≤ 3
  f1 : 1 ≤ bk.forms.length
  f6 : bk.forms.length ≤ 6
  fo : ∀ fr ∈ bk.forms, FrK fr
theorem LkOk.bp {bk : BkP} (h : LkOk bk) : BpOk bk := ⟨by have := h.f6; omega, by have := h.s3; omega, fun fr hf => by
  obtain ⟨_, b, c, d, e⟩ := h.fo fr hf
  exact ⟨by omega, c, by omega, fun r hr => ⟨(e r hr).1, by have := (e r hr).2; omega⟩⟩⟩
theorem PlOk.lk {ns : List Str} {tb : Str → List Str} {bk : BkP} (h : PlOk ns tb bk) : LkOk bk := by
  refine ⟨h.w, ?_, fun s hs => ?_, h.f1, h.f6, fun fr hf => ?_⟩
  · rw [h.so, List.length_map]
    exact h.n3
  · rw [h.so] at hs
    obtain ⟨x, hx, rfl⟩ := List.mem_map.mp hs
    have := (h.up x hx).2.1
    show (tb x).length ≤ 3
    omega
  · obtain ⟨a, b, c, d, e⟩ := h.fo fr hf
    obtain ⟨u1, u2, u3, u4⟩ := h.up _ a
    have l := congrArg List.length d
    rw [List.length_map, List.length_map] at l
    refine ⟨by omega, by omega, ?_, c, fun r hr => ⟨(e r hr).1.wf, by have := (e r hr).2.2; omega⟩⟩
    rw [d]
    exact List.Pairwise.map _ (fun a b (hab : a ≠ b) e => hab (Prod.mk.inj e).2) u3
noncomputable def spOtherwise : Sp := fun vs H Q _ => ∃ (tp : Addr) (bv : V) (bk : BkP) (ns : List Str) (tb : Str → List Str), vs = [.ref tp, bv] ∧ Tp H tp ∧ RepBP H bk bv ∧ PlOk ns tb bk ∧ ∀ v bk' H', RepBP H' bk' v → LkOk bk' → Kp tp H H' → Tp H' tp → Q v H'
noncomputable def nwOf (kv : List (Key × V)) (x : Str) : Str := match valV kv (.inr x) with
  | some (.str z) => z
  | _ => "pa"
theorem nwOf_at {ups : List Str} {kv : List (Key × V)} (h : NwOk ups kv) {i : Nat} {y : Str} (e : ups[i]? = some y) : nwOf kv y = nwW i := by
  unfold nwOf
  rw [h i y e]
theorem nwOf_nd {ups : List Str} {kv : List (Key × V)} (h : NwOk ups kv) (l2 : ups.length ≤ 2) : (ups.map (nwOf kv)).Nodup := by
  match ups, h, l2 with
  | [], _, _ => exact List.nodup_nil
  | [a], _, _ => exact List.pairwise_singleton _ _
  | [a, b], h, _ =>
    have e1 := nwOf_at h (i := 0) (y := a) rfl
    have e2 := nwOf_at h (i := 1) (y := b) rfl
    show [nwOf kv a, nwOf kv b].Nodup
    rw [e1, e2]
    decide +kernel
theorem paired_rev {α β : Type} {F : α → β → Prop} : ∀ {a : List α} {b : List β}, Paired F a b → Paired F a.reverse b.reverse
  | _, _, .nil => .nil
  | _, _, .cons x t => by rw [List.reverse_cons, List.reverse_cons]; exact Paired.app (paired_rev t) (.cons x .nil)
theorem paired_getR {α β : Type} {F : α → β → Prop} : ∀ {l : List α} {r : List β}, Paired F l r → ∀ {i : Nat} {a : α}, l[i]? = some a → ∃ b, r[i]? = some b ∧ F a b
  | _, _, .nil, i, a, h => by cases i <;> cases h
  | _, _, .cons x t, 0, a, h => by cases h; exact ⟨_, rfl, x⟩
  | _, _, .cons x t, i + 1, a, h => paired_getR t h
theorem rules_of_made {H : Hp} {kv : List (Key × V)} : ∀ {rs : List Rul} {zs : List V}, Paired (fun (r : Rul) v => ∃ g, RepR H ⟨-1, nwOf kv r.word, g⟩ v ∧ g.wf ∧ g.size ≤ 11) rs zs → ∃ rs' : List Rul, RepRs H rs' zs ∧ rs'.map (fun r => (r.pl, r.word)) = rs.map (fun r => ((-1 : Int), nwOf kv r.word)) ∧ ∀ r ∈ rs', r.fm.wf ∧ r.fm.size ≤ 11
  | _, _, .nil => ⟨[], .nil, rfl, fun r h => by cases h⟩
  | _, _, .cons ⟨g, h, w1, w2⟩ t => by
    obtain ⟨rs', h1, h2, h3⟩ := rules_of_made t
    refine ⟨_ :: rs', .cons h h1, by rw [List.map_cons, List.map_cons, h2], fun r hr => ?_⟩
    rcases List.mem_cons.mp hr with e | e
    · subst e
      exact ⟨w1, w2⟩
    · exact h3 r e
section
variable {P : Program} {w : World} {K : PySem.W.Frag} {mg : Str → Option Value} {base : Heap} {f f2 f3 f4 f5 aR : Addr} {fd fd2 fd3 fd4 fd5 : FuncData}
noncomputable abbrev NOw : List Str := ["tape", "book", "news", "sorts", "name", "downs", "ups", "k", "forms", "own", "parts", "rules", "tables", "made"]
theorem scOtherwise : FnScope NOw ["tape", "book"] (defScope sOtherwise) := ⟨rfl, rfl, rfl, by decide +kernel, rfl, by decide +kernel, by decide +kernel⟩
theorem ow_forms {cdv : Value} {A : Around} {outer : List Env} {s : Shared} {H0 : Hp} {E : XK} (G : Gb mg)
    (GU : FnOk P w K mg base CX0 12 f2 fd2 ["tape", "formula", "tables"] (spTurned 11)) (bU : Binds K fd2 ["tape", "formula", "tables"] []) (kU : PySem.W.keepIn K (.ref f2) = true) (mU : mg "_law_turned_formula" = some (.ref f2))
    (hr : Room 12 (cxOf CX0 P w K mg base NOw "_law_told_otherwise" (defScope sOtherwise) f cdv A outer s H0 E).nox.A) :
    ∃ t, PSs (cxOf CX0 P w K mg base NOw "_law_told_otherwise" (defScope sOtherwise) f cdv A outer s H0 E).nox ((defBody sOtherwise).drop 3) t ∧
      ∀ (D : Ends) (tp nd sl : Addr) (bv : V) (bk : BkP) (ns : List Str) (tb : Str → List Str) (kvs : List (Key × V)) (ss : List Srt) (sv : List V) (o4 o5 o6 o7 : Option V) (H : Hp), Tp H tp → RepBP H bk bv → PlOk ns tb bk → H nd = some (.dK kvs) → NewsAt H kvs tb ns → H sl = some (.lst sv) → sl ≠ tp → RepSs H ss sv → ss.length ≤ 3 → (∀ s ∈ ss, s.ups.length ≤ 3) →
        (∀ v bk' H', RepBP H' bk' v → LkOk bk' → Kp tp H H' → Tp H' tp → D.rt v H') →
        t D [some (.ref tp), some bv, some (.ref nd), some (.ref sl), o4, o5, o6, o7, none, none, none, none, none, none] H := by
  have hu := hu_of hr
  refine ⟨_, pss_cons (ps_set (i := 8) scOtherwise.nd rfl (Or.inl rfl) (pe_lst pa_nil))
    (pss_cons (ps_for PassesOwn.never rfl (pi_tup (pe_ix ix_tup (pv 1) pe_int (fun _ _ => rfl))) (pg_tup rfl (pgs_cons (pg_name (i := 4) scOtherwise.nd rfl (Or.inr rfl)) (pgs_cons (pg_name (i := 9) scOtherwise.nd rfl (Or.inr rfl)) (pgs_cons (pg_name (i := 10) scOtherwise.nd rfl (Or.inl rfl)) (pgs_cons (pg_name (i := 11) scOtherwise.nd rfl (Or.inl rfl)) pgs_nil)))))
      (pss_cons (ps_set (i := 12) scOtherwise.nd rfl (Or.inr rfl) (pe_comp (sc0 := defScope sOtherwise) (N0 := NOw) (ys := ["news"]) (fr := [2]) rfl (pi_tup (pv 10)) rfl rfl
        ⟨rfl, by decide +kernel, by decide +kernel, by decide +kernel, by decide +kernel, by decide +kernel, rfl, by decide +kernel⟩ (fun C s H ex => pe_dget hu (pv 1) (pv 0) (fun _ _ => rfl))))
      (pss_cons (ps_setC3 (i := 13) (sc0 := defScope sOtherwise) (N0 := NOw) (ys := ["news", "own", "tables", "tape"]) (fr := [2, 9, 12, 0]) rfl scOtherwise.nd rfl (Or.inl rfl) (pi_tup (pv 11)) rfl rfl
        ⟨rfl, by decide +kernel, by decide +kernel, by decide +kernel, by decide +kernel, by decide +kernel, by decide +kernel, by decide +kernel, rfl, by decide +kernel⟩ (fun C s H ex => pe_tup (pa_cons (pe_un un_neg pe_int) (pa_cons (pe_dget hu (pe_dget hu (pv 3) (pv 4) (fun _ _ => rfl)) (pv 1) (fun _ _ => rfl)) (pa_cons (pe_call GU hr rfl mU kU bU .nil pass0 (pa_cons (pv 6) (pa_cons (pv 2) (pa_cons (pv 5) pa_nil)))) pa_nil)))))
      (pss_one (ps_expr (pe_bm PySem.F.plainAttrs_list PySem.F.slot_list_append PySem.F.type_list_append mt_append (pv 8) (pa_cons (pe_tup (pa_cons (pv 4) (pa_cons (pv 9) (pa_cons (pv 10) (pa_cons (pe_callTy call_tuple_of rfl G.tuple (by decide +kernel) (pa_cons (pe_step (pv 13) (pe_un un_neg pe_int)) pa_nil)) pa_nil))))) pa_nil)))))))
    (pss_one (ps_ret (pe_tup (pa_cons pe_int (pa_cons (pe_callTy call_tuple_of rfl G.tuple (by decide +kernel) (pa_cons (pv 3) pa_nil)) (pa_cons (pe_callTy call_tuple_of rfl G.tuple (by decide +kernel) (pa_cons (pv 8) pa_nil)) pa_nil))))))), ?_⟩
  intro D tp nd sl bv bk ns tb kvs ss sv o4 o5 o6 o7 H hT hB hpl gnd hNw gsl nsl hSs hs3 hsu q
  obtain ⟨b, sa, fa, fv, rfl, hb, hSA, hfa, hF⟩ := id hB
  have lF := hF.len
  have f6 := hpl.f6
  have f1 := hpl.f1
  refine ⟨(by show 0 ≤ sizeLine; decide), fun fl hfl => ?_⟩
  have nft := tp_ne hT hfl
  have s1 := same_new hfl (.lst [])
  have g1 : (upd H fl (.lst [])) fl = some (.lst []) := upd_same
  have tt1 := hT.same s1
  generalize upd H fl (.lst []) = H1 at s1 g1 tt1 ⊢
  refine ⟨_, rfl, b, _, 2, .ref fa, rfl, rfl, SqT.of (s1 _ _ hb), atI_nat (j := 2) rfl, fa, rfl, ⟨fv, SqT.of (s1 _ _ hfa)⟩, ?_⟩
  refine for_tup (xs := fv) (fun i σ H' => i ≤ fv.length ∧ ∃ o4 o9 o10 o11 o12 o13 mv frs, σ = [some (.ref tp), some (.ref b), some (.ref nd), some (.ref sl), o4, o5, o6, o7, some (.ref fl), o9, o10, o11, o12, o13] ∧ Kp tp H H' ∧ Tp H' tp ∧ H' fl = some (.lst mv) ∧ RepFPs H' frs mv ∧ frs.length = i ∧ ∀ fr ∈ frs, FrK fr)
    ⟨Nat.zero_le _, _, none, none, none, none, none, [], [], rfl, Kp.refl.same s1, tt1, g1, .nil, rfl, fun fr h => (by cases h)⟩ (fun i σ H' _ h => by obtain ⟨_, _, _, _, _, _, _, _, _, _, k, _⟩ := h; exact SqT.of (k.tk hT _ _ hfa)) ?_ ?_
  · rintro i x σ H2 hx ⟨_, o4, o9, o10, o11, o12, o13, mv, frs, rfl, k2, tt2, gfl, hFs, hfl2, hfo⟩
    have hil : i < fv.length := (List.getElem?_eq_some_iff.mp hx).1
    obtain ⟨fr, hfr, c, pa, ra, rv, rfl, hc, hpa, hra, hRr⟩ := paired_get hF hx
    obtain ⟨hon, hps, lps, hmap, hrul⟩ := hpl.fo fr (List.mem_of_getElem? hfr)
    obtain ⟨u1, u2, u3, u4⟩ := hpl.up _ hon
    have tk2 := k2.tk hT
    have lmap := congrArg List.length hmap
    rw [List.length_map, List.length_map] at lmap
    have lR := hRr.len
    refine ⟨c, _, rfl, SqT.of (tk2 _ _ hc), rfl, _, _, rfl, _, _, rfl, _, _, rfl, _, _, rfl, rfl, ?_⟩
    have hpa2 := tk2 _ _ hpa
    have gnd2 : H2 nd = some (.dK kvs) := k2 _ _ gnd fun z => by
      obtain ⟨t, ht⟩ := hT
      rw [z, ht] at gnd
      cases gnd
    refine ⟨_, rfl, pa, rfl, ⟨_, SqT.of hpa2⟩, ?_⟩
    refine comp_prS (by rw [List.length_map]; omega) (paired_strsP fr.parts) (itt_goS hpa2) (itt_stS hpa2) (itt_yS hpa2) (fun _ p v => valV kvs (.inr p) = some v) (fun _ h => h) ?_ ?_
    · rintro p v H3 k hp rfl s3 hk
      obtain ⟨d, kv, ed, hd, _⟩ := hNw p (hps p hp)
      exact ⟨_, rfl, _, rfl, nd, .ref d, rfl, (by rw [← ed]; exact DGet.k (k := .inr p) (s3 _ _ gnd2)), hk _ H3 (Same.refl _) ed⟩
    intro tl dv H3 htl s3 gtl hdv
    have ntl := tp_ne tt2 htl
    have tt3 := tt2.same s3
    have k3 := k2.same s3
    have tk3 := k3.tk hT
    have gnd3 := s3 _ _ gnd2
    have hNw3 := hNw.kp k3 hT
    have hTb3 : TbsAt H3 tb fr.parts dv := fun j p hp => by
      obtain ⟨v, ev, hv⟩ := paired_getR hdv hp
      obtain ⟨d, kv, ed, hd, hn⟩ := hNw3 p (hps p (List.mem_of_getElem? hp))
      rw [ed] at hv
      refine ⟨d, kv, by rw [ev, ← Option.some.inj hv], hd, fun x hx => ?_⟩
      obtain ⟨m, hm⟩ := List.getElem?_of_mem hx
      have l2 : (tb p).length ≤ 2 := by have := (hpl.up p (hps p (List.mem_of_getElem? hp))).2.1; omega
      have hm3 : m < 3 := by have := (List.getElem?_eq_some_iff.mp hm).1; omega
      exact ⟨nwW m, hn m x hm, (nw_at hm3).2⟩
    obtain ⟨d, kv, ed, hd3, hn⟩ := hNw3 fr.own hon
    have ndt : d ≠ tp := fun z => by
      obtain ⟨t, ht⟩ := tt3
      rw [z, ht] at hd3
      cases hd3
    have nndt : nd ≠ tp := fun z => by
      obtain ⟨t, ht⟩ := tt3
      rw [z, ht] at gnd3
      cases gnd3
    have hra3 := tk3 _ _ hra
    refine ⟨_, rfl, ra, rfl, ⟨_, SqT.of hra3⟩, ?_⟩
    refine comp3 (comp_prK (tp := tp) (by omega) tt3 (RepRs.mono tk3 hRr) (ittK_go tt3 hra3) (ittK_st tt3 hra3) (ittK_y tt3 hra3) (fun H r v => ∃ g, RepR H ⟨-1, nwOf kv r.word, g⟩ v ∧ g.wf ∧ g.size ≤ 11) (fun t ⟨g, h, w⟩ => ⟨g, h.mono t, w⟩) ?_ ?_)
    · rintro r v H4 k hr' ⟨ar, u, rfl, har, hRu⟩ k4 tt4 hk
      have tk4 := k4.tk tt3
      obtain ⟨z1, z2, z3⟩ := hrul r hr'
      have hwin : r.word ∈ tb fr.own := by
        have : (r.pl, r.word) ∈ (tb fr.own).map (fun x => ((-1 : Int), x)) := by rw [← hmap]; exact List.mem_map.mpr ⟨r, hr', rfl⟩
        obtain ⟨x, hx, e⟩ := List.mem_map.mp this
        rw [← (Prod.mk.inj e).2]
        exact hx
      obtain ⟨m, hm⟩ := List.getElem?_of_mem hwin
      have en := nwOf_at hn hm
      refine ⟨ar, _, _, _, rfl, tk4 _ _ har, 1, rfl, _, rfl, _, rfl, nd, .ref d, rfl, (by rw [← ed]; exact DGet.k (k := .inr fr.own) (k4 _ _ gnd3 nndt)), _, rfl, d, .str (nwW m), rfl, (by rw [← hn m _ hm]; exact DGet.k (k := .inr r.word) (k4 _ _ hd3 ndt)), ?_⟩
      refine ⟨_, rfl, _, rfl, _, rfl, tp, tl, u, r.fm, tb, fr.parts, dv, rfl, tt4, ntl, hRu.mono tk4, z1, z2, z3, lps, k4 _ _ gtl ntl, hTb3.kp k4 tt3, fun u' g H5 q1 q2 q3 k5 tt5 => ?_⟩
      refine ⟨(by show 3 ≤ sizeLine; decide), fun p6 hp6 => ?_⟩
      have s6 := same_new hp6 (.tup [.int (-1), .str (nwW m), u'])
      exact hk _ _ (k5.same s6) (tt5.same s6) ⟨g, ⟨p6, u', rfl, by rw [en]; exact upd_same, q1.mono (tk_of s6)⟩, q2, by omega⟩
    intro ml zs H4 hml k4 tt4 gml hzs
    have lz : fr.rules.length = zs.length := Paired.length hzs
    have nmt := tp_ne tt3 hml
    have gfl4 := k4 _ _ (s3 _ _ gfl) nft
    refine ⟨_, rfl, .inl ⟨rfl, _, SqL.of gfl4⟩, _, rfl, _, rfl, _, rfl, _, rfl, 1, rfl, ?_⟩
    refine ⟨ml, zs, _, rfl, rfl, SqL.of gml, by decide, fun p5 hp5 => ?_⟩
    rw [stepV_neg]
    have s5 := same_new hp5 (.lst zs.reverse)
    have g5 : (upd H4 p5 (.lst zs.reverse)) p5 = some (.lst zs.reverse) := upd_same
    generalize upd H4 p5 (.lst zs.reverse) = H5 at s5 g5 ⊢
    refine ⟨p5, _, rfl, .inl ⟨SqL.of g5, fun p6 hp6 => ?_⟩⟩
    have s6 := same_new hp6 (.tup zs.reverse)
    have g6 : (upd H5 p6 (.tup zs.reverse)) p6 = some (.tup zs.reverse) := upd_same
    generalize upd H5 p6 (.tup zs.reverse) = H6 at s6 g6 ⊢
    refine ⟨(by show 4 ≤ sizeLine; decide), fun p7 hp7 => ?_⟩
    have s7 := same_new hp7 (.tup [.str fr.name, .str fr.own, .ref pa, .ref p6])
    have g7 : (upd H6 p7 (.tup [.str fr.name, .str fr.own, .ref pa, .ref p6])) p7 = some (.tup [.str fr.name, .str fr.own, .ref pa, .ref p6]) := upd_same
    generalize upd H6 p7 (.tup [.str fr.name, .str fr.own, .ref pa, .ref p6]) = H7 at s7 g7 ⊢
    have S47 := s5.trans (s6.trans s7)
    have k27 : Kp tp H2 H7 := ((Kp.refl.same s3).trans k4).same S47
    have tt7 := tt4.same S47
    have gfl7 := S47 _ _ gfl4
    have lmv := hFs.len
    refine ⟨fl, mv, .ref p7, rfl, rfl, gfl7, small1000 (by omega), ?_⟩
    have tk : TK H7 (upd H7 fl (.lst (mv ++ [.ref p7]))) := TK.lst gfl7
    have tk27 : TK H2 (upd H7 fl (.lst (mv ++ [.ref p7]))) := (k27.tk tt2).trans tk
    obtain ⟨rs, hrs, hkey, hok⟩ : ∃ rs : List Rul, RepRs (upd H7 fl (.lst (mv ++ [.ref p7]))) rs zs ∧ rs.map (fun r => (r.pl, r.word)) = fr.rules.map (fun r => ((-1 : Int), nwOf kv r.word)) ∧ ∀ r ∈ rs, r.fm.wf ∧ r.fm.size ≤ 11 :=
      rules_of_made (Paired.mapP hzs fun _ _ ⟨g, h, w⟩ => ⟨g, h.mono ((tk_of S47).trans tk), w⟩)
    have lrs : rs.length = fr.rules.length := by
      have := congrArg List.length hkey
      rw [List.length_map, List.length_map] at this
      exact this
    refine ⟨hil, _, _, _, _, _, _, mv ++ [.ref p7], frs ++ [⟨fr.name, fr.own, fr.parts, rs.reverse⟩], rfl, ?_, ?_, upd_same, ?_, ?_, ?_⟩
    · intro y oo h hn'
      rw [upd_ne (ne_of_none h hfl)]
      exact k27 _ _ (k2 _ _ h hn') hn'
    · obtain ⟨t9, e9⟩ := tt7
      exact ⟨t9, by rw [upd_ne (Ne.symm nft)]; exact e9⟩
    · exact Paired.snoc (RepFPs.mono tk27 hFs) ⟨p7, pa, p6, zs.reverse, rfl, tk _ _ g7, tk27 _ _ hpa2, tk _ _ (s7 _ _ g6), paired_rev hrs⟩
    · rw [List.length_append, hfl2]; rfl
    · intro fr' hfr'
      rw [List.mem_append, List.mem_singleton] at hfr'
      rcases hfr' with h | h
      · exact hfo fr' h
      · subst h
        refine ⟨?_, ?_, ?_, lps, fun r hr' => ?_⟩
        · show 1 ≤ rs.reverse.length
          rw [List.length_reverse]
          omega
        · show rs.reverse.length ≤ 3
          rw [List.length_reverse]
          omega
        · show (rs.reverse.map fun r => (r.pl, r.word)).Nodup
          rw [List.map_reverse, hkey]
          have e2 : fr.rules.map (fun r => ((-1 : Int), nwOf kv r.word)) = ((tb fr.own).map (nwOf kv)).map (fun x => ((-1 : Int), x)) := by
            have e3 : fr.rules.map Rul.word = tb fr.own := by
              have := congrArg (List.map Prod.snd) hmap
              rw [List.map_map, List.map_map] at this
              have e4 : (Prod.snd ∘ fun x : Str => ((-1 : Int), x)) = id := rfl
              rw [e4, List.map_id] at this
              exact this
            rw [← e3, List.map_map, List.map_map]
            rfl
          rw [e2]
          have nd1 : (((tb fr.own).map (nwOf kv)).map (fun x => ((-1 : Int), x))).Nodup := List.Pairwise.map _ (fun a b (hab : a ≠ b) e => hab (Prod.mk.inj e).2) (nwOf_nd hn (by omega))
          exact List.pairwise_reverse.mpr (List.Pairwise.imp (fun h => Ne.symm h) nd1)
        · have := hok r (List.mem_reverse.mp hr')
          exact ⟨this.1, by omega⟩
  · rintro σ H2 ⟨_, o4, o9, o10, o11, o12, o13, mv, frs, rfl, k2, tt2, gfl, hFs, hfl2, hfo⟩
    have gsl2 := k2 _ _ gsl nsl
    have tk2 := k2.tk hT
    refine ⟨_, rfl, sl, sv, rfl, .inl ⟨SqL.of gsl2, fun p3 hp3 => ?_⟩⟩
    have s3 := same_new hp3 (.tup sv)
    have g3 : (upd H2 p3 (.tup sv)) p3 = some (.tup sv) := upd_same
    generalize upd H2 p3 (.tup sv) = H3 at s3 g3 ⊢
    refine ⟨_, rfl, fl, mv, rfl, .inl ⟨SqL.of (s3 _ _ gfl), fun p4 hp4 => ?_⟩⟩
    have s4 := same_new hp4 (.tup mv)
    have g4 : (upd H3 p4 (.tup mv)) p4 = some (.tup mv) := upd_same
    generalize upd H3 p4 (.tup mv) = H4 at s4 g4 ⊢
    refine ⟨(by show 3 ≤ sizeLine; decide), fun p5 hp5 => ?_⟩
    have s5 := same_new hp5 (.tup [.int 0, .ref p3, .ref p4])
    have S25 := s3.trans (s4.trans s5)
    refine q (.ref p5) ⟨0, ss, frs⟩ _ ⟨p5, p3, p4, mv, rfl, upd_same, ⟨sv, s5 _ _ (s4 _ _ g3), hSs.mono (tk2.trans (tk_of S25))⟩, s5 _ _ g4, RepFPs.mono (tk_of S25) hFs⟩ ⟨rfl, hs3, hsu, ?_, ?_, hfo⟩ (k2.same S25) (tt2.same S25)
    · show 1 ≤ frs.length
      omega
    · show frs.length ≤ 6
      omega
end
end My
namespace My
open PySem L2
theorem strs_ex {α : Type} : ∀ {l : List α} {zs : List V}, Paired (fun (_ : α) (v : V) => ∃ n : Str, v = .str n) l zs → ∃ ns : List Str, zs = ns.map V.str ∧ ns.length = l.length
  | _, _, .nil => ⟨[], rfl, rfl⟩
  | _, _, .cons ⟨n, e⟩ t => by
    obtain ⟨ns, e2, e3⟩ := strs_ex t
    exact ⟨n :: ns, by rw [e, e2]; rfl, by rw [List.length_cons, List.length_cons, e3]⟩
noncomputable def NewsN (nd : Addr) (H : Hp) (kvs : List (Key × V)) (tb : Str → List Str) (xs : List Str) : Prop := ∀ x ∈ xs, ∃ d kv, d ≠ nd ∧ valV kvs (.inr x) = some (.ref d) ∧ H d = some (.dK kv) ∧ NwOk (tb x) kv
section
variable {P : Program} {w : World} {K : PySem.W.Frag} {mg : Str → Option Value} {base : Heap} {f f2 f3 f4 f5 aR : Addr} {fd fd2 fd3 fd4 fd5 : FuncData}
theorem ok_otherwise (F : Fun K "_law_told_otherwise" "_law_told_otherwise" sOtherwise f fd) (G : Gb mg)
    (GU : FnOk P w K mg base CX0 12 f2 fd2 ["tape", "formula", "tables"] (spTurned 11)) (bU : Binds K fd2 ["tape", "formula", "tables"] []) (kU : PySem.W.keepIn K (.ref f2) = true) (mU : mg "_law_turned_formula" = some (.ref f2)) :
    FnOk P w K mg base CX0 13 f fd ["tape", "book"] spOtherwise := by
  refine F.ok scOtherwise (fun vs H Q E h => ?_) (fun cdv A outer s H vs Q E hr h => ?_)
  · obtain ⟨tp, bv, bk, ns, tb, rfl, _⟩ := h
    rfl
  obtain ⟨tp, bv, bk, ns, tb, rfl, hT, hB, hpl, q⟩ := h
  have hu := hu_of hr
  obtain ⟨t, ht, hnext⟩ := ow_forms (f := f) (cdv := cdv) (A := A) (outer := outer) (s := s) (H0 := H) (E := E) G GU bU kU mU hr
  refine ⟨_, pss_cons (ps_set (i := 2) scOtherwise.nd rfl (Or.inr rfl) pe_dnewK)
    (pss_cons (ps_set (i := 3) scOtherwise.nd rfl (Or.inl rfl) (pe_lst pa_nil))
    (pss_cons (ps_for PassesOwn.never rfl (pi_tup (pe_ix ix_tup (pv 1) pe_int (fun _ _ => rfl))) (pg_tup rfl (pgs_cons (pg_name (i := 4) scOtherwise.nd rfl (Or.inr rfl)) (pgs_cons (pg_name (i := 5) scOtherwise.nd rfl (Or.inl rfl)) (pgs_cons (pg_name (i := 6) scOtherwise.nd rfl (Or.inl rfl)) pgs_nil))))
      (pss_cons (ps_dput hu (pv 2) (pv 4) pe_dnewK rfl)
      (pss_cons (ps_for PassesOwn.never rfl (pi_range1 rfl G.range (pa_cons (pe_callB call_len_seq rfl G.len PySem.boot_len (pa_cons (pv 6) pa_nil)) pa_nil)) (pg_name (i := 7) scOtherwise.nd rfl (Or.inl rfl))
        (pss_one (ps_dput hu (pe_dget hu (pv 2) (pv 4) (fun _ _ => rfl)) (pe_ix ix_tup (pv 6) (pv 7) (fun _ _ => rfl)) (pe_ix ix_list (pe_lst (pac pe_str (pac pe_str (pac pe_str pa_nil)))) (pv 7) (fun _ _ => rfl)) rfl)))
      (pss_one (ps_expr (pe_bm PySem.F.plainAttrs_list PySem.F.slot_list_append PySem.F.type_list_append mt_append (pv 3) (pa_cons (pe_tup (pa_cons (pv 4) (pa_cons (pe_tup pa_nil) (pa_cons (pe_callTy call_tuple_of rfl G.tuple (by decide +kernel) (pa_cons
        (pe_comp (sc0 := defScope sOtherwise) (N0 := NOw) (ys := ["name", "news"]) (fr := [4, 2]) rfl (pi_tup (pe_backT (pv 6) (pe_un un_neg pe_int))) rfl rfl
          ⟨rfl, by decide +kernel, by decide +kernel, by decide +kernel, by decide +kernel, by decide +kernel, rfl, by decide +kernel⟩ (fun C s H ex => pe_dget hu (pe_dget hu (pv 2) (pv 1) (fun _ _ => rfl)) (pv 0) (fun _ _ => rfl))) pa_nil)) pa_nil)))) pa_nil))))))) ht)), ?_⟩
  obtain ⟨b, sa, fa, fv, rfl, hb, ⟨sx, hsa, hSs⟩, hfa, hF⟩ := id hB
  have lS : bk.sorts.length = sx.length := hSs.len
  have so := hpl.so
  have n3 := hpl.n3
  have lns : sx.length = ns.length := by rw [← lS, so, List.length_map]
  refine fun nd hnd => ?_
  have nnt := tp_ne hT hnd
  have s1 := same_new hnd (.dK [])
  have g1 : (upd H nd (.dK [])) nd = some (.dK []) := upd_same
  have tt1 := hT.same s1
  generalize upd H nd (.dK []) = H1 at s1 g1 tt1 ⊢
  refine ⟨(by show 0 ≤ sizeLine; decide), fun sl hsl => ?_⟩
  have nst := tp_ne tt1 hsl
  have nns : nd ≠ sl := ne_of_none g1 hsl
  have hsl0 : H sl = none := s1.free hsl
  have s2 := same_new hsl (.lst [])
  have g2 : (upd H1 sl (.lst [])) sl = some (.lst []) := upd_same
  have gd2 := s2 _ _ g1
  generalize upd H1 sl (.lst []) = H2 at s2 g2 gd2 ⊢
  have S2 := s1.trans s2
  refine ⟨_, rfl, b, _, 1, .ref sa, rfl, rfl, SqT.of (S2 _ _ hb), atI_nat (j := 1) rfl, sa, rfl, ⟨sx, SqT.of (S2 _ _ hsa)⟩, ?_⟩
  refine for_tup (xs := sx) (fun i σ H' => i ≤ sx.length ∧ ∃ o4 o5 o6 o7 kvs sv ss, σ = [some (.ref tp), some (.ref b), some (.ref nd), some (.ref sl), o4, o5, o6, o7, none, none, none, none, none, none] ∧ Same H H' ∧ H' nd = some (.dK kvs) ∧ kvs.length ≤ i ∧ NewsN nd H' kvs tb (ns.take i) ∧ H' sl = some (.lst sv) ∧ RepSs H' ss sv ∧ ss.length = i ∧ ∀ s ∈ ss, s.ups.length ≤ 3)
    ⟨Nat.zero_le _, none, none, none, none, [], [], [], rfl, S2, gd2, Nat.le_refl _, fun x h => (by cases h), g2, .nil, rfl, fun s h => (by cases h)⟩ (fun i σ H' _ h => by obtain ⟨_, _, _, _, _, _, _, _, _, s', _⟩ := h; exact SqT.of (s' _ _ hsa)) ?_ ?_
  · rintro i x σ H3 hx ⟨_, o4, o5, o6, o7, kvs, sv, ss, rfl, S3, gd3, hl3, hN3, gs3, hR3, hls, hsu⟩
    have hil : i < sx.length := (List.getElem?_eq_some_iff.mp hx).1
    obtain ⟨sr, hsr, c, c1, c2, rfl, hc, hc1, hc2⟩ := paired_get hSs hx
    obtain ⟨nm, hnm, rfl⟩ : ∃ nm, ns[i]? = some nm ∧ (⟨nm, [], tb nm⟩ : Srt) = sr := by
      rw [so, List.getElem?_map] at hsr
      cases he : ns[i]? with
      | none => rw [he] at hsr; cases hsr
      | some t => rw [he] at hsr; exact ⟨t, rfl, Option.some.inj hsr⟩
    have hnmm := List.mem_of_getElem? hnm
    obtain ⟨u1, u2, u3, u4⟩ := hpl.up nm hnmm
    have hc : H c = some (.tup [.str nm, .ref c1, .ref c2]) := hc
    have hc2 : H c2 = some (.tup ((tb nm).map V.str)) := hc2
    have lup : ((tb nm).map V.str).length = (tb nm).length := List.length_map _
    refine ⟨c, _, rfl, SqT.of (S3 _ _ hc), rfl, _, _, rfl, _, _, rfl, _, _, rfl, rfl, ?_⟩
    refine fun d hd => ?_
    have dnd : d ≠ nd := fun z => by rw [z, gd3] at hd; cases hd
    have dsl : d ≠ sl := fun z => by rw [z, gs3] at hd; cases hd
    have hd0 : H d = none := S3.free hd
    have s4 := same_new hd (.dK [])
    have g4 : (upd H3 d (.dK [])) d = some (.dK []) := upd_same
    generalize upd H3 d (.dK []) = H4 at s4 g4 ⊢
    refine ⟨_, rfl, _, rfl, nd, _, rfl, DPut.k (k := .inr nm) (s4 _ _ gd3) (small1000 (by omega)), ?_⟩
    have k5 : Kp nd H4 (upd H4 nd (.dK (putK kvs (.inr nm) (.ref d)))) := Kp.tape
    have g5n : (upd H4 nd (.dK (putK kvs (.inr nm) (.ref d)))) nd = some (.dK (putK kvs (.inr nm) (.ref d))) := upd_same
    have g5d : (upd H4 nd (.dK (putK kvs (.inr nm) (.ref d)))) d = some (.dK []) := by rw [upd_ne dnd]; exact g4
    have S5 : Same H (upd H4 nd (.dK (putK kvs (.inr nm) (.ref d)))) := fun y oo h => by rw [upd_ne (ne_of_none h hnd)]; exact s4 _ _ (S3 _ _ h)
    have g5s : (upd H4 nd (.dK (putK kvs (.inr nm) (.ref d)))) sl = some (.lst sv) := by rw [upd_ne (Ne.symm nns)]; exact s4 _ _ gs3
    have tk5 : TK H3 (upd H4 nd (.dK (putK kvs (.inr nm) (.ref d)))) := fun y xs h => by
      rw [upd_ne (fun z => by rw [z, gd3] at h; cases h)]
      exact s4 _ _ h
    have hN5 : ∀ y ∈ ns.take i, y ≠ nm → ∃ d' kv, d' ≠ d ∧ d' ≠ nd ∧ valV (putK kvs (.inr nm) (.ref d)) (.inr y) = some (.ref d') ∧ (upd H4 nd (.dK (putK kvs (.inr nm) (.ref d)))) d' = some (.dK kv) ∧ NwOk (tb y) kv := fun y hy hne => by
      obtain ⟨d', kv, cc, e, h1, h2⟩ := hN3 y hy
      refine ⟨d', kv, ne_of_none h1 hd, cc, by rw [valV_put, if_neg (fun z => hne (Sum.inr.inj z))]; exact e, ?_, h2⟩
      rw [upd_ne cc]
      exact s4 _ _ h1
    have evd : valV (putK kvs (.inr nm) (.ref d)) (.inr nm) = some (.ref d) := by rw [valV_put, if_pos rfl]
    have lpk := length_putK kvs (.inr nm) (.ref d)
    have hR5 := hR3.mono tk5
    generalize upd H4 nd (.dK (putK kvs (.inr nm) (.ref d))) = H5 at g5n g5d S5 g5s hN5 hR5 ⊢
    generalize putK kvs (.inr nm) (.ref d) = kvs' at g5n hN5 evd lpk ⊢
    refine ⟨_, rfl, c2, _, rfl, .inr (SqT.of (S5 _ _ hc2)), _, rfl, by rw [lup]; show -(2 ^ 62 : Int) ≤ _; omega, by rw [lup]; omega, ?_⟩
    refine for_range (fun m σ H' => ∃ o7 kv2, σ = [some (.ref tp), some (.ref b), some (.ref nd), some (.ref sl), some (.str nm), some (.ref c1), some (.ref c2), o7, none, none, none, none, none, none] ∧ Kp d H5 H' ∧ H' d = some (.dK kv2) ∧ kv2.length ≤ m ∧ NwOk ((tb nm).take m) kv2)
      ⟨_, [], rfl, Kp.refl, g5d, Nat.le_refl _, fun i y h => (by rw [List.take_zero] at h; cases h)⟩ ?_ ?_
    · rintro m σ H6 hm ⟨o7, kv2, rfl, k6, gd6, hl6, hw6⟩
      rw [lup] at hm
      have hm3 : m < 3 := by omega
      obtain ⟨y, hy⟩ : ∃ y, (tb nm)[m]? = some y := ⟨(tb nm)[m]'(by omega), List.getElem?_eq_getElem (by omega)⟩
      have eaty : atI ((tb nm).map V.str) (0 + (m : Int)) = some (V.str y) := by
        rw [Int.zero_add]
        exact atI_nat (by rw [List.getElem?_map, hy]; rfl)
      have hcd : c2 ≠ d := fun z => by
        have h := k6 _ _ (S5 _ _ hc2) (ne_of_none hc2 hd0)
        rw [z, gd6] at h
        cases h
      have gn6 := k6 _ _ g5n (Ne.symm dnd)
      have hc26 := k6 _ _ (S5 _ _ hc2) hcd
      refine ⟨(by show 3 ≤ sizeLine; decide), fun pl hpl => ?_⟩
      have s7 := same_new hpl (.lst [.str "pa", .str "p", .str "pab"])
      have g7 : (upd H6 pl (.lst [.str "pa", .str "p", .str "pab"])) pl = some (.lst [.str "pa", .str "p", .str "pab"]) := upd_same
      generalize upd H6 pl (.lst [.str "pa", .str "p", .str "pab"]) = H7 at s7 g7 ⊢
      refine ⟨_, rfl, pl, _, _, .str (nwW m), rfl, rfl, SqL.of g7, (nw_at hm3).1, ?_⟩
      refine ⟨_, rfl, _, rfl, nd, .ref d, rfl, (by rw [← evd]; exact DGet.k (k := .inr nm) (s7 _ _ gn6)), _, rfl, _, rfl, c2, _, _, .str y, rfl, rfl, SqT.of (s7 _ _ hc26), eaty, d, _, rfl, DPut.k (k := .inr y) (s7 _ _ gd6) (small1000 (by omega)), ?_⟩
      refine ⟨_, _, rfl, ?_, upd_same, ?_, NwOk.put u3 hy hw6⟩
      · intro z oo h hn
        rw [upd_ne hn]
        exact s7 _ _ (k6 _ _ h hn)
      · have := length_putK kv2 (.inr y) (.str (nwW m))
        omega
    · rintro σ H6 ⟨o7, kv2, rfl, k6, gd6, hl6, hw6⟩
      have hw : NwOk (tb nm) kv2 := by
        have e : (((tb nm).map V.str).length : Int).toNat = (tb nm).length := by rw [lup]; exact Int.toNat_natCast _
        have h := hw6
        rw [e, List.take_length] at h
        exact h
      have S6 : Same H H6 := fun z oo h => k6 z oo (S5 z oo h) (ne_of_none h hd0)
      have gs6 := k6 _ _ g5s (Ne.symm dsl)
      have gn6 := k6 _ _ g5n (Ne.symm dnd)
      have tk56 : TK H5 H6 := fun z xs h => k6 _ _ h fun e => by rw [e, g5d] at h; cases h
      refine ⟨_, rfl, .inl ⟨rfl, _, SqL.of gs6⟩, _, rfl, (by show 0 ≤ sizeLine; decide), fun p7 hp7 => ?_⟩
      have s7 := same_new hp7 (.tup [])
      have g7 : (upd H6 p7 (.tup [])) p7 = some (.tup []) := upd_same
      generalize upd H6 p7 (.tup []) = H7 at s7 g7 ⊢
      refine ⟨_, rfl, 1, rfl, c2, _, rfl, rfl, SqT.of (s7 _ _ (S6 _ _ hc2)), fun p8 hp8 => ?_⟩
      rw [← List.map_reverse]
      have s8 := same_new hp8 (.tup ((tb nm).reverse.map V.str))
      have g8 : (upd H7 p8 (.tup ((tb nm).reverse.map V.str))) p8 = some (.tup ((tb nm).reverse.map V.str)) := upd_same
      generalize upd H7 p8 (.tup ((tb nm).reverse.map V.str)) = H8 at s8 g8 ⊢
      have s68 := s7.trans s8
      refine ⟨p8, rfl, ⟨_, SqT.of g8⟩, ?_⟩
      refine comp_prS (as := (tb nm).reverse) (A := fun x v => v = .str x) (by rw [List.length_map, List.length_reverse]; omega) (paired_strsP _) (itt_goS g8) (itt_stS g8) (itt_yS g8) (fun _ _ v => ∃ z : Str, v = .str z) (fun _ h => h) ?_ ?_
      · rintro y v H9 k hy rfl s9 hk
        obtain ⟨m, hm⟩ := List.getElem?_of_mem (List.mem_reverse.mp hy)
        have S69 := s68.trans s9
        exact ⟨_, rfl, _, rfl, nd, .ref d, rfl, (by rw [← evd]; exact DGet.k (k := .inr nm) (S69 _ _ gn6)), _, rfl, d, .str (nwW m), rfl, (by rw [← hw m y hm]; exact DGet.k (k := .inr y) (S69 _ _ gd6)), hk _ H9 (Same.refl _) ⟨_, rfl⟩⟩
      · intro pl zs H9 hpl s9 gpl hzs
        obtain ⟨us, rfl, lus⟩ := strs_ex hzs
        rw [List.length_reverse] at lus
        refine ⟨pl, _, rfl, .inl ⟨SqL.of gpl, fun p10 hp10 => ?_⟩⟩
        have s10 := same_new hp10 (.tup (us.map V.str))
        have g10 : (upd H9 p10 (.tup (us.map V.str))) p10 = some (.tup (us.map V.str)) := upd_same
        generalize upd H9 p10 (.tup (us.map V.str)) = H10 at s10 g10 ⊢
        refine ⟨(by show 3 ≤ sizeLine; decide), fun p11 hp11 => ?_⟩
        have s11 := same_new hp11 (.tup [.str nm, .ref p7, .ref p10])
        have g11 : (upd H10 p11 (.tup [.str nm, .ref p7, .ref p10])) p11 = some (.tup [.str nm, .ref p7, .ref p10]) := upd_same
        generalize upd H10 p11 (.tup [.str nm, .ref p7, .ref p10]) = H11 at s11 g11 ⊢
        have S811 := s9.trans (s10.trans s11)
        have S611 := s68.trans S811
        have gs11 := S611 _ _ gs6
        have lsv := hR3.len
        refine ⟨sl, sv, .ref p11, rfl, rfl, gs11, small1000 (by omega), ?_⟩
        have tk : TK H11 (upd H11 sl (.lst (sv ++ [.ref p11]))) := TK.lst gs11
        refine ⟨hil, _, _, _, _, kvs', sv ++ [.ref p11], ss ++ [⟨nm, [], us⟩], rfl, ?_, ?_, by omega, ?_, upd_same, ?_, ?_, ?_⟩
        · intro z oo h
          rw [upd_ne (ne_of_none h hsl0)]
          exact S611 _ _ (S6 _ _ h)
        · rw [upd_ne nns]
          exact S611 _ _ gn6
        · intro y hy
          by_cases cy : y = nm
          · subst cy
            refine ⟨d, kv2, dnd, evd, ?_, hw⟩
            rw [upd_ne dsl]
            exact S611 _ _ gd6
          · rw [List.take_add_one, hnm] at hy
            have hy : y ∈ ns.take i := by
              rcases List.mem_append.mp hy with h | h
              · exact h
              · exact absurd (by simpa using h) cy
            obtain ⟨d', kv, n1, n2, e, h1, h2⟩ := hN5 y hy cy
            have h6 := S611 _ _ (k6 _ _ h1 n1)
            refine ⟨d', kv, n2, e, ?_, h2⟩
            rw [upd_ne (fun z => by rw [z, gs11] at h6; cases h6)]
            exact h6
        · exact Paired.snoc (hR5.mono ((tk56.trans (tk_of S611)).trans tk)) ⟨p11, p7, p10, rfl, tk _ _ g11, tk _ _ (S811 _ _ (s8 _ _ g7)), tk _ _ (s11 _ _ g10)⟩
        · rw [List.length_append, hls]; rfl
        · intro s' hs'
          rw [List.mem_append, List.mem_singleton] at hs'
          rcases hs' with h | h
          · exact hsu s' h
          · subst h
            show us.length ≤ 3
            omega
  · rintro σ H3 ⟨_, o4, o5, o6, o7, kvs, sv, ss, rfl, S3, gd3, hl3, hN3, gs3, hR3, hls, hsu⟩
    rw [List.take_of_length_le (by omega)] at hN3
    exact hnext _ tp nd sl (.ref b) bk ns tb kvs ss sv _ _ _ _ H3 (hT.same S3) (hB.mono (tk_of S3)) hpl gd3 (fun x hx => by obtain ⟨d, kv, _, h⟩ := hN3 x hx; exact ⟨d, kv, h⟩) gs3 nst hR3 (by omega) hsu fun v bk' H' h1 h2 h3 h4 => q v bk' H' h1 h2 (fun y oo h hn => h3 y oo (S3 y oo h) hn) h4
end
end My
namespace L2
open PySem PySem.Spec PyProof.Rows
noncomputable def rCatG : R2 := fun x y H Q => ∃ a b xs ys, x = .ref a ∧ y = .ref b ∧ H a = some (.tup xs) ∧ H b = some (.tup ys) ∧ xs.length + ys.length ≤ sizeLine ∧ ∀ p H', (∀ b o, H b = some o → H' b = some o) → H' p = some (.tup (xs ++ ys)) → Q (.ref p) H'
theorem op_catG {X : Cx} : OpR X (binaryOp .Add) rCatG := by
  intro pins s σ H x y v u Q I rx ry h
  obtain ⟨a, b, xs, ys, e1, e2, h1, h2, h3, q⟩ := h
  refine op_catTB pins s σ H x y v u Q I rx ry ⟨a, b, xs, ys, e1, e2, SqT.of h1, SqT.of h2, h3, fun e => q b H (fun _ _ h => h) ?_, fun _ e => q a H (fun _ _ h => h) ?_, fun _ _ p hp => q p _ (fun b o e => by rw [upd_ne (ne_of_none e hp)]; exact e) upd_same⟩
  · rw [e]; exact h2
  · rw [e, List.append_nil]; exact h1
end L2
namespace My
open PySem L2
theorem map_set_same {α β : Type} {f : α → β} {l : List α} {k : Nat} {a b : α} (h : l[k]? = some a) (e : f b = f a) : (l.set k b).map f = l.map f := by
  rw [List.map_set, e]
  refine List.ext_getElem? fun i => ?_
  rw [List.getElem?_set]
  by_cases c : k = i
  · subst c
    have hl : k < (l.map f).length := by rw [List.length_map]; exact (List.getElem?_eq_some_iff.mp h).1
    rw [if_pos rfl, if_pos hl, List.getElem?_map, h]
    rfl
  · rw [if_neg c]
theorem paired_set {α β : Type} {F : α → β → Prop} {a : α} {b : β} (hab : F a b) : ∀ {l : List α} {m : List β} (j : Nat), Paired F l m → Paired F (l.set j a) (m.set j b)
  | _, _, _, .nil => .nil
  | _, _, 0, .cons _ t => .cons hab t
  | _, _, j + 1, .cons h t => .cons h (paired_set hab j t)
theorem atI_set {α : Type} {xs : List α} {d : Int} (h0 : 0 ≤ d) (h1 : d < xs.length) : ixN xs.length d = some d.toNat := by
  unfold ixN
  rw [if_pos h0, if_pos h1]
noncomputable def spOneMore : Sp := fun vs H Q _ => ∃ (tp : Addr) (bv : V) (bk : BkP), vs = [.ref tp, bv] ∧ Tp H tp ∧ RepBP H bk bv ∧ LkOk bk ∧ ∀ v bk' H', RepBP H' bk' v → LkOk bk' → Kp tp H H' → Tp H' tp → Q v H'
theorem FrK.set {fr : FrP} (h : FrK fr) {j : Nat} {r : Rul} {g : Fm} (hj : fr.rules[j]? = some r) (hw : g.wf) (hs : g.size ≤ 15) : FrK ⟨fr.name, fr.own, fr.parts, fr.rules.set j ⟨r.pl, r.word, g⟩⟩ := by
  obtain ⟨a, b, c, d, e⟩ := h
  have ek : (fr.rules.set j ⟨r.pl, r.word, g⟩).map (fun r => (r.pl, r.word)) = fr.rules.map (fun r => (r.pl, r.word)) := map_set_same hj rfl
  refine ⟨?_, ?_, ?_, d, fun r' hr' => ?_⟩
  · show 1 ≤ (fr.rules.set j _).length
    rw [List.length_set]; exact a
  · show (fr.rules.set j _).length ≤ 3
    rw [List.length_set]; exact b
  · show ((fr.rules.set j ⟨r.pl, r.word, g⟩).map _).Nodup
    rw [ek]; exact c
  · rcases List.mem_or_eq_of_mem_set (show r' ∈ fr.rules.set j ⟨r.pl, r.word, g⟩ from hr') with h | h
    · exact e r' h
    · rw [h]; exact ⟨hw, hs⟩
section
variable {P : Program} {w : World} {K : PySem.W.Frag} {mg : Str → Option Value} {base : Heap} {f f2 f3 f4 f5 f6 f7 aR : Addr} {fd fd2 fd3 fd4 fd5 fd6 fd7 : FuncData}
noncomputable abbrev NOm : List Str := ["tape", "book", "forms", "k", "name", "own", "parts", "rules", "j", "at", "word", "formula", "made"]
theorem scOneMore : FnScope NOm ["tape", "book"] (defScope sOneMore) := ⟨rfl, rfl, rfl, by decide +kernel, rfl, by decide +kernel, by decide +kernel⟩
theorem om_tail {cdv : Value} {A : Around} {outer : List Env} {s : Shared} {H0 : Hp} {E : XK} (G : Gb mg) :
    ∃ t, PSs (cxOf CX0 P w K mg base NOm "_law_one_more" (defScope sOneMore) f cdv A outer s H0 E).nox ((defBody sOneMore).drop 7) t ∧
      ∀ (D : Ends) (tp b sa fl pa ra fa : Addr) (bk : BkP) (fr : FrP) (r : Rul) (g : Fm) (dk dj : Int) (gv rv : List V) (u mv : V) (H : Hp), Tp H tp → fl ≠ tp → H b = some (.tup [.int 0, .ref sa, .ref fa]) → SrtsAt H sa bk.sorts → H fl = some (.lst gv) → RepFPs H bk.forms gv → LkOk bk → 0 ≤ dk → dk < gv.length → bk.forms[dk.toNat]? = some fr → H pa = some (.tup (fr.parts.map V.str)) → H ra = some (.tup rv) → RepRs H fr.rules rv → 0 ≤ dj → dj < rv.length → fr.rules[dj.toNat]? = some r → Rep H g mv → g.wf → g.size ≤ 15 →
        (∀ v bk' H', RepBP H' bk' v → LkOk bk' → (∀ c oo, H c = some oo → c ≠ fl → H' c = some oo) → Tp H' tp → D.rt v H') →
        t D [some (.ref tp), some (.ref b), some (.ref fl), some (.int dk), some (.str fr.name), some (.str fr.own), some (.ref pa), some (.ref ra), some (.int dj), some (.int r.pl), some (.str r.word), some u, some mv] H := by
  refine ⟨_, pss_cons (ps_asg (pe_tup (pa_cons (pv 4) (pa_cons (pv 5) (pa_cons (pv 6) (pa_cons (pe_op op_catG (pe_op op_catG (pe_slice sl_tupA (pv 7) po_none (po_some (pv 8))) (pe_tup (pa_cons (pe_tup (pa_cons (pv 9) (pa_cons (pv 10) (pa_cons (pv 12) pa_nil)))) pa_nil))) (pe_slice sl_tupA (pv 7) (po_some (pe_op op_add (pv 8) pe_int)) po_none)) pa_nil))))) (pg_sub (pv 2) (pv 3) set_list))
    (pss_one (ps_ret (pe_tup (pa_cons (pe_ix ix_tup (pv 1) pe_int (fun _ _ => rfl)) (pa_cons (pe_ix ix_tup (pv 1) pe_int (fun _ _ => rfl)) (pa_cons (pe_callTy call_tuple_of rfl G.tuple (by decide +kernel) (pa_cons (pv 2) pa_nil)) pa_nil)))))), ?_⟩
  intro D tp b sa fl pa ra fa bk fr r g dk dj gv rv u mv H hT nft hb hSA gfl hF hok hk0 hk1 hfr hpa hra hRr hj0 hj1 hrj hRg hwg hsg q
  have lR := hRr.len
  have lF := hF.len
  have hK := hok.fo fr (List.mem_of_getElem? hfr)
  have h3 := hK.2.1
  have f6 := hok.f6
  refine ⟨_, rfl, _, rfl, _, rfl, _, rfl, _, rfl, dj, rfl, ra, rv, rfl, hra, fun p1 H1 s1 g1 => ?_⟩
  rw [cut_take rv hj0 (by omega)] at g1
  refine ⟨_, rfl, _, rfl, _, rfl, (by show 3 ≤ sizeLine; decide), fun p2 hp2 => ?_⟩
  have s2 := same_new hp2 (.tup [.int r.pl, .str r.word, mv])
  have g2 : (upd H1 p2 (.tup [.int r.pl, .str r.word, mv])) p2 = some (.tup [.int r.pl, .str r.word, mv]) := upd_same
  generalize upd H1 p2 (.tup [.int r.pl, .str r.word, mv]) = H2 at s2 g2 ⊢
  refine ⟨(by show 1 ≤ sizeLine; decide), fun p3 hp3 => ?_⟩
  have s3 := same_new hp3 (.tup [.ref p2])
  have g3 : (upd H2 p3 (.tup [.ref p2])) p3 = some (.tup [.ref p2]) := upd_same
  generalize upd H2 p3 (.tup [.ref p2]) = H3 at s3 g3 ⊢
  refine ⟨p1, p3, _, _, rfl, rfl, s3 _ _ (s2 _ _ g1), g3, Nat.le_of_lt (small1000 (by rw [List.length_take]; show _ + 1 ≤ 1000; omega)), fun p4 H4 s4 g4 => ?_⟩
  have S4 : Same H H4 := fun c oo h => s4 _ _ (s3 _ _ (s2 _ _ (s1 _ _ h)))
  refine ⟨_, rfl, _, rfl, _, _, rfl, rfl, dj + 1, rfl, ra, rv, rfl, S4 _ _ hra, fun p5 H5 s5 g5 => ?_⟩
  rw [cut_drop rv (by omega) (by omega)] at g5
  refine ⟨p4, p5, _, _, rfl, rfl, s5 _ _ g4, g5, Nat.le_of_lt (small1000 (by rw [List.length_append, List.length_take, List.length_drop]; show _ + 1 + _ ≤ 1000; omega)), fun p6 H6 s6 g6 => ?_⟩
  have S6 : Same H H6 := fun c oo h => s6 _ _ (s5 _ _ (S4 _ _ h))
  have eset : rv.take dj.toNat ++ [V.ref p2] ++ rv.drop (dj + 1).toNat = rv.set dj.toNat (.ref p2) := by
    rw [List.set_eq_take_append_cons_drop, if_pos (by omega), show (dj + 1).toNat = dj.toNat + 1 by omega, List.append_assoc]
    rfl
  rw [eset] at g6
  refine ⟨(by show 4 ≤ sizeLine; decide), fun p7 hp7 => ?_⟩
  have s7 := same_new hp7 (.tup [.str fr.name, .str fr.own, .ref pa, .ref p6])
  have g7 : (upd H6 p7 (.tup [.str fr.name, .str fr.own, .ref pa, .ref p6])) p7 = some (.tup [.str fr.name, .str fr.own, .ref pa, .ref p6]) := upd_same
  generalize upd H6 p7 (.tup [.str fr.name, .str fr.own, .ref pa, .ref p6]) = H7 at s7 g7 ⊢
  have S7 := S6.trans s7
  refine ⟨_, rfl, _, rfl, fl, gv, dk, dk.toNat, rfl, rfl, S7 _ _ gfl, atI_set hk0 hk1, ?_⟩
  have tk8 : TK H7 (upd H7 fl (.lst (gv.set dk.toNat (.ref p7)))) := TK.lst (S7 _ _ gfl)
  have g8 : (upd H7 fl (.lst (gv.set dk.toNat (.ref p7)))) fl = some (.lst (gv.set dk.toNat (.ref p7))) := upd_same
  have tk08 := (tk_of S7).trans tk8
  have g2' : H7 p2 = some (.tup [.int r.pl, .str r.word, mv]) := s7 _ _ (s6 _ _ (s5 _ _ (s4 _ _ (s3 _ _ g2))))
  have hR8 : RepRs (upd H7 fl (.lst (gv.set dk.toNat (.ref p7)))) (fr.rules.set dj.toNat ⟨r.pl, r.word, g⟩) (rv.set dj.toNat (.ref p2)) :=
    paired_set (F := RepR _) (a := ⟨r.pl, r.word, g⟩) (b := .ref p2) ⟨p2, mv, rfl, tk8 _ _ g2', hRg.mono tk08⟩ _ (RepRs.mono tk08 hRr)
  have hF8 : RepFPs (upd H7 fl (.lst (gv.set dk.toNat (.ref p7)))) (bk.forms.set dk.toNat ⟨fr.name, fr.own, fr.parts, fr.rules.set dj.toNat ⟨r.pl, r.word, g⟩⟩) (gv.set dk.toNat (.ref p7)) :=
    paired_set (F := RepFP _) (a := ⟨fr.name, fr.own, fr.parts, fr.rules.set dj.toNat ⟨r.pl, r.word, g⟩⟩) (b := .ref p7) ⟨p7, pa, p6, _, rfl, tk8 _ _ g7, tk08 _ _ hpa, tk8 _ _ (s7 _ _ g6), hR8⟩ _ (RepFPs.mono tk08 hF)
  have k8 : ∀ c oo, H c = some oo → c ≠ fl → (upd H7 fl (.lst (gv.set dk.toNat (.ref p7)))) c = some oo := fun c oo h hn => by rw [upd_ne hn]; exact S7 _ _ h
  have tt8 : Tp (upd H7 fl (.lst (gv.set dk.toNat (.ref p7)))) tp := by
    obtain ⟨t, ht⟩ := hT
    exact ⟨t, k8 _ _ ht (Ne.symm nft)⟩
  generalize upd H7 fl (.lst (gv.set dk.toNat (.ref p7))) = H8 at g8 tk08 hF8 k8 tt8 ⊢
  refine ⟨_, rfl, b, _, 0, .int 0, rfl, rfl, SqT.of (tk08 _ _ hb), atI0, _, rfl, b, _, 1, .ref sa, rfl, rfl, SqT.of (tk08 _ _ hb), atI_nat (j := 1) rfl, _, rfl, fl, _, rfl, .inl ⟨SqL.of g8, fun p9 hp9 => ?_⟩⟩
  have s9 := same_new hp9 (.tup (gv.set dk.toNat (.ref p7)))
  have g9 : (upd H8 p9 (.tup (gv.set dk.toNat (.ref p7)))) p9 = some (.tup (gv.set dk.toNat (.ref p7))) := upd_same
  generalize upd H8 p9 (.tup (gv.set dk.toNat (.ref p7))) = H9 at s9 g9 ⊢
  refine ⟨(by show 3 ≤ sizeLine; decide), fun p10 hp10 => ?_⟩
  have s10 := same_new hp10 (.tup [.int 0, .ref sa, .ref p9])
  have S810 := s9.trans s10
  refine q (.ref p10) ⟨0, bk.sorts, bk.forms.set dk.toNat ⟨fr.name, fr.own, fr.parts, fr.rules.set dj.toNat ⟨r.pl, r.word, g⟩⟩⟩ _ ⟨p10, sa, p9, _, rfl, upd_same, hSA.mono (tk08.trans (tk_of S810)), s10 _ _ g9, RepFPs.mono (tk_of S810) hF8⟩ ⟨rfl, hok.s3, hok.up, ?_, ?_, fun fr' hfr' => ?_⟩ (fun c oo h hn => S810 _ _ (k8 c oo h hn)) (tt8.same S810)
  · show 1 ≤ (bk.forms.set _ _).length
    rw [List.length_set]; exact hok.f1
  · show (bk.forms.set _ _).length ≤ 6
    rw [List.length_set]; exact hok.f6
  · rcases List.mem_or_eq_of_mem_set (show fr' ∈ bk.forms.set dk.toNat _ from hfr') with h | h
    · exact hok.fo fr' h
    · rw [h]; exact hK.set hrj hwg hsg
theorem ok_oneMore (F : Fun K "_law_one_more" "_law_one_more" sOneMore f fd) (G : Gb mg) (hlist : mg "list" = none)
    (GD : FnOk P w K mg base CX0 1 f2 fd2 ["tape", "many"] spDigit) (bD : Binds K fd2 ["tape", "many"] []) (kD : PySem.W.keepIn K (.ref f2) = true) (mD : mg "_law_digit" = some (.ref f2))
    (GZ : FnOk P w K mg base CX0 18 f3 fd3 ["formula"] (spLSize 17)) (bZ : Binds K fd3 ["formula"] []) (kZ : PySem.W.keepIn K (.ref f3) = true) (mZ : mg "_law_size" = some (.ref f3)) :
    FnOk P w K mg base CX0 19 f fd ["tape", "book"] spOneMore := by
  refine F.ok scOneMore (fun vs H Q E h => ?_) (fun cdv A outer s H vs Q E hr h => ?_)
  · obtain ⟨tp, bv, bk, rfl, _⟩ := h
    rfl
  obtain ⟨tp, bv, bk, rfl, hT, hB, hok, q⟩ := h
  have hr1 := hr.mono (show 1 ≤ 18 by decide)
  obtain ⟨t, ht, hnext⟩ := om_tail (f := f) (cdv := cdv) (A := A) (outer := outer) (s := s) (H0 := H) (E := E) G
  refine ⟨_, pss_cons (ps_set (i := 2) scOneMore.nd rfl (Or.inl rfl) (pe_callTy call_list_of rfl hlist (by decide +kernel) (pa_cons (pe_ix ix_tup (pv 1) pe_int (fun _ _ => rfl)) pa_nil)))
    (pss_cons (ps_set (i := 3) scOneMore.nd rfl (Or.inl rfl) (pe_call GD hr1 rfl mD kD bD .nil pass0 (pa_cons (pv 0) (pa_cons (pe_callB call_len_seq rfl G.len PySem.boot_len (pa_cons (pv 2) pa_nil)) pa_nil))))
    (pss_cons (ps_asg (pe_ix ix_list (pv 2) (pv 3) (fun _ _ => rfl)) (pg_tup rfl (pgs_cons (pg_name (i := 4) scOneMore.nd rfl (Or.inl rfl)) (pgs_cons (pg_name (i := 5) scOneMore.nd rfl (Or.inl rfl)) (pgs_cons (pg_name (i := 6) scOneMore.nd rfl (Or.inl rfl)) (pgs_cons (pg_name (i := 7) scOneMore.nd rfl (Or.inl rfl)) pgs_nil))))))
    (pss_cons (ps_set (i := 8) scOneMore.nd rfl (Or.inl rfl) (pe_call GD hr1 rfl mD kD bD .nil pass0 (pa_cons (pv 0) (pa_cons (pe_callB call_len_seq rfl G.len PySem.boot_len (pa_cons (pv 7) pa_nil)) pa_nil))))
    (pss_cons (ps_asg (pe_ix ix_tup (pv 7) (pv 8) (fun _ _ => rfl)) (pg_tup rfl (pgs_cons (pg_name (i := 9) scOneMore.nd rfl (Or.inl rfl)) (pgs_cons (pg_name (i := 10) scOneMore.nd rfl (Or.inl rfl)) (pgs_cons (pg_name (i := 11) scOneMore.nd rfl (Or.inl rfl)) pgs_nil)))))
    (pss_cons (ps_set (i := 12) scOneMore.nd rfl (Or.inl rfl) (pe_tup (pa_cons pe_str (pa_cons (pe_tup (pa_cons pe_str (pa_cons pe_int pa_nil))) (pa_cons (pv 11) pa_nil)))))
    (pss_cons (ps_if (pt_cmpR op_gt (pe_call GZ hr rfl mZ kZ bZ .nil pass0 (pa_cons (pv 12) pa_nil)) pe_int (nomark _)) (pss_one (ps_set (i := 12) scOneMore.nd rfl (Or.inl rfl) (pe_tup (pa_cons pe_str (pa_cons pe_int pa_nil))))) pss_nil) ht)))))), ?_⟩
  obtain ⟨b, sa, fa, gv, rfl, hb, hSA, hfa, hF⟩ := id hB
  have lF := hF.len
  have f1 := hok.f1
  have f6 := hok.f6
  have w0 := hok.w
  rw [w0] at hb
  refine ⟨_, rfl, b, _, 2, .ref fa, rfl, rfl, SqT.of hb, atI_nat (j := 2) rfl, fa, _, rfl, .inr (SqT.of hfa), fun fl hfl => ?_⟩
  have nft := tp_ne hT hfl
  have s1 := same_new hfl (.lst gv)
  have g1 : (upd H fl (.lst gv)) fl = some (.lst gv) := upd_same
  have tt1 := hT.same s1
  generalize upd H fl (.lst gv) = H1 at s1 g1 tt1 ⊢
  refine ⟨_, rfl, _, rfl, fl, gv, rfl, .inl (SqL.of g1), tp, _, rfl, tt1, by omega, by omega, fun dk t1 hk0 hk1 => ?_⟩
  have k2 : Kp tp H1 (upd H1 tp (.lst [.int t1])) := Kp.tape
  have tt2 : Tp (upd H1 tp (.lst [.int t1])) tp := ⟨t1, upd_same⟩
  generalize upd H1 tp (.lst [.int t1]) = H2 at k2 tt2 ⊢
  have k02 : Kp tp H H2 := (Kp.refl.same s1).trans k2
  have tk02 := k02.tk hT
  have g2 := k2 _ _ g1 nft
  obtain ⟨fx, efx, efx'⟩ := atI_lt (xs := gv) hk0 hk1
  obtain ⟨fr, hfr, c, pa, ra, rv, rfl, hc, hpa, hra, hRr⟩ := paired_get hF efx'
  have hK := hok.fo fr (List.mem_of_getElem? hfr)
  have lR := hRr.len
  obtain ⟨z1, z2, z3, z4, z5⟩ := hK
  refine ⟨_, rfl, _, rfl, fl, _, dk, .ref c, rfl, rfl, SqL.of g2, efx, c, _, rfl, SqT.of (tk02 _ _ hc), rfl, _, _, rfl, _, _, rfl, _, _, rfl, _, _, rfl, rfl, ?_⟩
  refine ⟨_, rfl, _, rfl, ra, _, rfl, .inr (SqT.of (tk02 _ _ hra)), tp, _, rfl, tt2, by omega, by omega, fun dj t2 hj0 hj1 => ?_⟩
  have k3 : Kp tp H2 (upd H2 tp (.lst [.int t2])) := Kp.tape
  have tt3 : Tp (upd H2 tp (.lst [.int t2])) tp := ⟨t2, upd_same⟩
  generalize upd H2 tp (.lst [.int t2]) = H3 at k3 tt3 ⊢
  have k03 := k02.trans k3
  have tk03 := k03.tk hT
  have g3 := k3 _ _ g2 nft
  obtain ⟨rx, erx, erx'⟩ := atI_lt (xs := rv) hj0 hj1
  obtain ⟨r, hrj, ar, u, rfl, har, hRu⟩ := paired_get hRr erx'
  obtain ⟨hwf, hsz⟩ := z5 r (List.mem_of_getElem? hrj)
  refine ⟨_, rfl, _, rfl, ra, _, dj, .ref ar, rfl, rfl, SqT.of (tk03 _ _ hra), erx, ar, _, rfl, SqT.of (tk03 _ _ har), rfl, _, _, rfl, _, _, rfl, _, _, rfl, rfl, ?_⟩
  refine ⟨(by show 2 ≤ sizeLine; decide), fun p4 hp4 => ?_⟩
  have s4 := same_new hp4 (.tup [.str "num", .int 1])
  have g4 : (upd H3 p4 (.tup [.str "num", .int 1])) p4 = some (.tup [.str "num", .int 1]) := upd_same
  generalize upd H3 p4 (.tup [.str "num", .int 1]) = H4 at s4 g4 ⊢
  refine ⟨_, rfl, (by show 3 ≤ sizeLine; decide), fun p5 hp5 => ?_⟩
  have s5 := same_new hp5 (.tup [.str "plus", .ref p4, u])
  have g5 : (upd H4 p5 (.tup [.str "plus", .ref p4, u])) p5 = some (.tup [.str "plus", .ref p4, u]) := upd_same
  generalize upd H4 p5 (.tup [.str "plus", .ref p4, u]) = H5 at s5 g5 ⊢
  have S35 := s4.trans s5
  have tk05 := tk03.trans (tk_of S35)
  have hRm : Rep H5 (.bin "plus" (.num 1) r.fm) (.ref p5) := ⟨p5, .ref p4, u, rfl, g5, ⟨p4, rfl, s5 _ _ g4⟩, hRu.mono tk05⟩
  have hwm : (Fm.bin "plus" (.num 1) r.fm).wf := ⟨by decide +kernel, ⟨by decide, by decide⟩, hwf⟩
  have hzm : (Fm.bin "plus" (.num 1) r.fm).size = r.fm.size + 2 := by show 1 + r.fm.size + 1 = _; omega
  refine ⟨_, rfl, .ref p5, .bin "plus" (.num 1) r.fm, rfl, hRm, hwm, by omega, fun H6 s6 => ⟨_, _, rfl, rfl, _, rfl, ?_⟩⟩
  have S36 := S35.trans s6
  have go : ∀ (mv : V) (g : Fm) (H7 : Hp), Same H3 H7 → Rep H7 g mv → g.wf → g.size ≤ 15 → t { nx := fun _ H' => Q .non H', rt := Q } [some (.ref tp), some (.ref b), some (.ref fl), some (.int dk), some (.str fr.name), some (.str fr.own), some (.ref pa), some (.ref ra), some (.int dj), some (.int r.pl), some (.str r.word), some u, some mv] H7 := fun mv g H7 s7 q1 q2 q3 => by
    have tk07 := tk03.trans (tk_of s7)
    refine hnext _ tp b sa fl pa ra fa bk fr r g dk dj gv rv u mv H7 (tt3.same s7) nft (tk07 _ _ hb) (hSA.mono tk07) (s7 _ _ g3) (RepFPs.mono tk07 hF) hok hk0 hk1 hfr (tk07 _ _ hpa) (tk07 _ _ hra) (hRr.mono tk07) hj0 hj1 hrj q1 q2 q3 fun v bk' H' h1 h2 h3 h4 => q v bk' H' h1 h2 (fun y oo h hn => h3 y oo (s7 _ _ (k03 _ _ h hn)) (ne_of_none h hfl)) h4
  refine ite2 (fun c => ?_) (fun c => ?_)
  · refine ⟨(by show 2 ≤ sizeLine; decide), fun p7 hp7 => ?_⟩
    have s7 := same_new hp7 (.tup [.str "num", .int 1])
    exact go (.ref p7) (.num 1) _ (S36.trans s7) ⟨p7, rfl, upd_same⟩ ⟨by decide, by decide⟩ (by decide)
  · have c : ¬ (((Fm.bin "plus" (.num 1) r.fm).size : Int) > 15) := fun z => c (decide_eq_true z)
    exact go (.ref p5) _ H6 S36 (hRm.mono (tk_of s6)) hwm (by omega)
end
end My
namespace My
open PySem L2
noncomputable def spLBooks (K : PySem.W.Frag) : Sp := fun vs H Q _ => ∃ (sc : Addr) (is : List Int) (st : Int), vs = [.ref sc, .int st] ∧ SqL K H sc (is.map V.int) ∧ is.length ≤ 63 ∧ 0 ≤ st ∧ st < 800 ∧ ∀ a u1 u2 c k1 k2 H', H' a = some (.tup [u1, u2, .bl c]) → RepBP H' k1 u1 → LkOk k1 → RepBP H' k2 u2 → LkOk k2 → Same H H' → Q (.ref a) H'
theorem most_at {d : Int} (h0 : 0 ≤ d) (h1 : d < 8) : ∃ m : Int, atI [V.int 2, .int 2, .int 1, .int 2, .int 1, .int 3, .int 2, .int 2] d = some (.int m) ∧ 1 ≤ m ∧ m ≤ 3 := by
  have h5 : d = 0 ∨ d = 1 ∨ d = 2 ∨ d = 3 ∨ d = 4 ∨ d = 5 ∨ d = 6 ∨ d = 7 := by omega
  rcases h5 with h | h | h | h | h | h | h | h <;> subst h <;> exact ⟨_, rfl, by decide, by decide⟩
theorem many_at3 {m : Int} (h0 : 1 ≤ m) (h1 : m ≤ 3) : ∃ n : Int, atI [V.int 3, .int 2, .int 1] (m - 1) = some (.int n) ∧ 1 ≤ n ∧ n ≤ 3 := by
  have h5 : m = 1 ∨ m = 2 ∨ m = 3 := by omega
  rcases h5 with h | h | h <;> subst h <;> exact ⟨_, rfl, by decide, by decide⟩
theorem BdOk.two {bd : BdP} (h : BdOk bd) : BdOk ⟨bd.names, bd.forms.take 2⟩ := by
  refine ⟨h.n1, h.n3, ?_, ?_, fun f hf => h.fo f (List.mem_of_mem_take hf)⟩
  · show 1 ≤ (bd.forms.take 2).length
    have := h.f1
    rw [List.length_take]; omega
  · show (bd.forms.take 2).length ≤ 6
    rw [List.length_take]; omega
theorem RepBd.tape {hd : Addr} {H H' : Hp} (k : Kp hd H H') (t : Tp H hd) {bd : BdP} {v : V} (ok : BdOk bd) : RepBd H bd v → RepBd H' bd v := fun ⟨a, nl, fl, zs, e, h1, h2, h3, h4⟩ => by
  have tk := k.tk t
  obtain ⟨x, hx⟩ := t
  refine ⟨a, nl, fl, zs, e, tk _ _ h1, k _ _ h2 fun z => ?_, k _ _ h3 fun z => ?_, Paired.mapP h4 fun _ _ h => h.mono tk⟩
  · rw [z, hx] at h2
    have n1 := ok.n1
    cases hn : bd.names with
    | nil => rw [hn] at n1; exact absurd n1 (by decide)
    | cons y ys => rw [hn] at h2; cases h2
  · rw [z, hx] at h3
    have n1 := ok.f1
    cases hn : bd.forms with
    | nil => rw [hn] at n1; exact absurd n1 (by decide)
    | cons y ys =>
      rw [hn] at h4
      cases h4 with
      | cons p q => obtain ⟨c, pa, rfl, _⟩ := p; cases h3
theorem LkOk.mb {ak bk : BkP} (h1 : LkOk ak) (h2 : LkOk bk) : BpOk ak ∧ BpOk bk ∧ 1 ≤ ak.forms.length ∧ (∀ s ∈ ak.sorts, s.ups.length ≤ 3) ∧ (∀ s ∈ bk.sorts, s.ups.length ≤ 3) := ⟨h1.bp, h2.bp, h1.f1, h1.up, h2.up⟩
theorem cut_takeN (xs : List V) (n : Nat) : cutV xs none (some (n : Int)) = xs.take n := by
  unfold cutV
  rw [HT.sIx_nat, HT.sIx_none, List.drop_zero, Nat.sub_zero]
  by_cases h : n ≤ xs.length
  · rw [Nat.min_eq_left h]
  · rw [Nat.min_eq_right (by omega), List.take_length, List.take_of_length_le (by omega)]
section
variable {P : Program} {w : World} {K : PySem.W.Frag} {mg : Str → Option Value} {base : Heap} {f f2 f3 f4 f5 f6 f7 f8 aR : Addr} {fd fd2 fd3 fd4 fd5 fd6 fd7 fd8 : FuncData}
noncomputable abbrev NLb : List Str := ["script", "start", "head", "most", "many", "build", "one", "way", "other"]
theorem scLBooks : FnScope NLb ["script", "start"] (defScope sLBooks) := ⟨rfl, rfl, rfl, by decide +kernel, rfl, by decide +kernel, by decide +kernel⟩
theorem lb_t10 {cdv : Value} {A : Around} {outer : List Env} {s : Shared} {H0 : Hp} {E : XK}
    (GM : FnOk P w K mg base CX0 2 f3 fd3 ["one", "other", "same"] spMayBe) (bM : Binds K fd3 ["one", "other", "same"] []) (kM : PySem.W.keepIn K (.ref f3) = true) (mM : mg "_law_may_be_great" = some (.ref f3))
    (hr : Room 19 (cxOf CX0 P w K mg base NLb "_law_books" (defScope sLBooks) f cdv A outer s H0 E).nox.A) :
    ∃ t, PSs (cxOf CX0 P w K mg base NLb "_law_books" (defScope sLBooks) f cdv A outer s H0 E).nox ((defBody sLBooks).drop 10) t ∧
      ∀ (D : Ends) (o0 o1 o2 o3 o4 o5 : Option V) (u1 u2 : V) (way : Int) (k1 k2 : BkP) (H H5 : Hp), Same H H5 → RepBP H5 k1 u1 → LkOk k1 → RepBP H5 k2 u2 → LkOk k2 →
        (∀ a u1 u2 c k1 k2 H', H' a = some (.tup [u1, u2, .bl c]) → RepBP H' k1 u1 → LkOk k1 → RepBP H' k2 u2 → LkOk k2 → Same H H' → D.rt (.ref a) H') →
        t D [o0, o1, o2, o3, o4, o5, some u1, some (.int way), some u2] H5 := by
  have hr2 := hr.mono (show 2 ≤ 19 by decide)
  refine ⟨_, pss_one (ps_ret (pe_tup (pa_cons (pv 6) (pa_cons (pv 8) (pa_cons (pe_not (pe_call GM hr2 rfl mM kM bM .nil pass0 (pa_cons (pv 6) (pa_cons (pv 8) (pa_cons (pe_cmpR op_in_seq (pv 7) (pe_tup (pac pe_int (pac pe_int pa_nil))) (by with_unfolding_all rfl)) pa_nil))))) pa_nil))))), ?_⟩
  intro D o0 o1 o2 o3 o4 o5 u1 u2 way k1 k2 H H5 S5 hB1 hk1 hB2 hk2 q
  refine ⟨_, rfl, _, rfl, _, rfl, _, rfl, _, rfl, (by show 2 ≤ sizeLine; decide), fun p hp => ?_⟩
  have s6 := same_new hp (.tup [.int 1, .int 2])
  have g6 : (upd H5 p (.tup [.int 1, .int 2])) p = some (.tup [.int 1, .int 2]) := upd_same
  generalize upd H5 p (.tup [.int 1, .int 2]) = H6 at s6 g6 ⊢
  obtain ⟨m1, m2, m3, m4, m5⟩ := hk1.mb hk2
  refine ⟨p, _, rfl, .inr (SqT.of g6), rfl, rfl, u1, u2, k1, k2, _, rfl, hB1.mono (tk_of s6), hB2.mono (tk_of s6), m1, m2, m3, m4, m5, fun c H7 s7 => ⟨c, rfl, (by show 3 ≤ sizeLine; decide), fun p8 hp8 => ?_⟩⟩
  have s8 := same_new hp8 (.tup [u1, u2, .bl (!c)])
  have S8 := (s6.trans s7).trans s8
  exact q p8 u1 u2 (!c) k1 k2 _ upd_same (hB1.mono (tk_of S8)) hk1 (hB2.mono (tk_of S8)) hk2 (S5.trans S8)
theorem lb_t9 {cdv : Value} {A : Around} {outer : List Env} {s : Shared} {H0 : Hp} {E : XK}
    (GO : FnOk P w K mg base CX0 19 f2 fd2 ["tape", "book"] spOneMore) (bO : Binds K fd2 ["tape", "book"] []) (kO : PySem.W.keepIn K (.ref f2) = true) (mO : mg "_law_one_more" = some (.ref f2))
    (GM : FnOk P w K mg base CX0 2 f3 fd3 ["one", "other", "same"] spMayBe) (bM : Binds K fd3 ["one", "other", "same"] []) (kM : PySem.W.keepIn K (.ref f3) = true) (mM : mg "_law_may_be_great" = some (.ref f3))
    (hr : Room 19 (cxOf CX0 P w K mg base NLb "_law_books" (defScope sLBooks) f cdv A outer s H0 E).nox.A) :
    ∃ t, PSs (cxOf CX0 P w K mg base NLb "_law_books" (defScope sLBooks) f cdv A outer s H0 E).nox ((defBody sLBooks).drop 9) t ∧
      ∀ (D : Ends) (hd : Addr) (o0 o1 o3 o4 o5 : Option V) (u1 u2 : V) (way : Int) (k1 k2 : BkP) (H H5 : Hp), H hd = none → Tp H5 hd → Same H H5 → RepBP H5 k1 u1 → LkOk k1 → RepBP H5 k2 u2 → LkOk k2 →
        (∀ a u1 u2 c k1 k2 H', H' a = some (.tup [u1, u2, .bl c]) → RepBP H' k1 u1 → LkOk k1 → RepBP H' k2 u2 → LkOk k2 → Same H H' → D.rt (.ref a) H') →
        t D [o0, o1, some (.ref hd), o3, o4, o5, some u1, some (.int way), some u2] H5 := by
  obtain ⟨t, ht, hnext⟩ := lb_t10 (f := f) (cdv := cdv) (A := A) (outer := outer) (s := s) (H0 := H0) (E := E) GM bM kM mM hr
  refine ⟨_, pss_cons (ps_if (pt_cmpR op_gt (pv 7) pe_int (nomark _)) (pss_one (ps_set (i := 8) scLBooks.nd rfl (Or.inl rfl) (pe_call GO hr rfl mO kO bO .nil pass0 (pa_cons (pv 2) (pa_cons (pv 8) pa_nil))))) pss_nil) ht, ?_⟩
  intro D hd o0 o1 o3 o4 o5 u1 u2 way k1 k2 H H5 hhd tt5 S5 hB1 hk1 hB2 hk2 q
  refine ⟨_, rfl, _, _, rfl, rfl, _, rfl, ?_⟩
  refine ite2 (fun c => ?_) (fun c => ?_)
  · refine ⟨_, rfl, _, rfl, hd, u2, k2, rfl, tt5, hB2, hk2, fun v k3 H6 hB3 hk3 k6 t6 => ?_⟩
    exact hnext _ _ _ _ _ _ _ u1 v way k1 k3 H H6 (fun c oo h => k6 _ _ (S5 _ _ h) (ne_of_none h hhd)) (hB1.mono (k6.tk tt5)) hk1 hB3 hk3 q
  · exact hnext _ _ _ _ _ _ _ u1 u2 way k1 k2 H H5 S5 hB1 hk1 hB2 hk2 q
theorem lb_t5 {cdv : Value} {A : Around} {outer : List Env} {s : Shared} {H0 : Hp} {E : XK}
    (GO : FnOk P w K mg base CX0 19 f2 fd2 ["tape", "book"] spOneMore) (bO : Binds K fd2 ["tape", "book"] []) (kO : PySem.W.keepIn K (.ref f2) = true) (mO : mg "_law_one_more" = some (.ref f2))
    (GM : FnOk P w K mg base CX0 2 f3 fd3 ["one", "other", "same"] spMayBe) (bM : Binds K fd3 ["one", "other", "same"] []) (kM : PySem.W.keepIn K (.ref f3) = true) (mM : mg "_law_may_be_great" = some (.ref f3))
    (GD : FnOk P w K mg base CX0 1 f4 fd4 ["tape", "many"] spDigit) (bD : Binds K fd4 ["tape", "many"] []) (kD : PySem.W.keepIn K (.ref f4) = true) (mD : mg "_law_digit" = some (.ref f4))
    (GP : FnOk P w K mg base CX0 12 f5 fd5 ["script", "start", "build", "most"] (spPlainOf K)) (bP : Binds K fd5 ["script", "start", "build", "most"] []) (kP : PySem.W.keepIn K (.ref f5) = true) (mP : mg "_law_plain_of" = some (.ref f5))
    (GW : FnOk P w K mg base CX0 13 f6 fd6 ["tape", "book"] spOtherwise) (bW : Binds K fd6 ["tape", "book"] []) (kW : PySem.W.keepIn K (.ref f6) = true) (mW : mg "_law_told_otherwise" = some (.ref f6))
    (hr : Room 19 (cxOf CX0 P w K mg base NLb "_law_books" (defScope sLBooks) f cdv A outer s H0 E).nox.A) :
    ∃ t, PSs (cxOf CX0 P w K mg base NLb "_law_books" (defScope sLBooks) f cdv A outer s H0 E).nox ((defBody sLBooks).drop 5) t ∧
      ∀ (D : Ends) (sc hd : Addr) (is : List Int) (st : Int) (o3 o4 : Option V) (bv : V) (bd : BdP) (H H5 : Hp), SqL K H sc (is.map V.int) → is.length ≤ 63 → 0 ≤ st → st < 800 → H hd = none → Tp H5 hd → Same H H5 → RepBd H5 bd bv → BdOk bd →
        (∀ a u1 u2 c k1 k2 H', H' a = some (.tup [u1, u2, .bl c]) → RepBP H' k1 u1 → LkOk k1 → RepBP H' k2 u2 → LkOk k2 → Same H H' → D.rt (.ref a) H') →
        t D [some (.ref sc), some (.int st), some (.ref hd), o3, o4, some bv, none, none, none] H5 := by
  have hr1 := hr.mono (show 1 ≤ 19 by decide)
  have hr12 := hr.mono (show 12 ≤ 19 by decide)
  have hr13 := hr.mono (show 13 ≤ 19 by decide)
  obtain ⟨t, ht, hnext⟩ := lb_t9 (f := f) (cdv := cdv) (A := A) (outer := outer) (s := s) (H0 := H0) (E := E) GO bO kO mO GM bM kM mM hr
  refine ⟨_, pss_cons (ps_set (i := 6) scLBooks.nd rfl (Or.inl rfl) (pe_call GP hr12 rfl mP kP bP .nil pass0 (pa_cons (pv 0) (pa_cons (pe_op op_add (pv 1) pe_int) (pa_cons (pv 5) (pa_cons pe_int pa_nil))))))
    (pss_cons (ps_set (i := 7) scLBooks.nd rfl (Or.inl rfl) (pe_call GD hr1 rfl mD kD bD .nil pass0 (pa_cons (pv 2) (pa_cons pe_int pa_nil))))
    (pss_cons (ps_set (i := 8) scLBooks.nd rfl (Or.inl rfl) (pe_call GP hr12 rfl mP kP bP .nil pass0 (pa_cons (pv 0) (pa_cons (pe_op op_add (pv 1) pe_int) (pa_cons (pv 5) (pa_cons pe_int pa_nil))))))
    (pss_cons (ps_if (pt_cmpR op_gt (pv 7) pe_int (nomark _)) (pss_one (ps_set (i := 8) scLBooks.nd rfl (Or.inl rfl) (pe_call GW hr13 rfl mW kW bW .nil pass0 (pa_cons (pv 2) (pa_cons (pv 6) pa_nil))))) pss_nil) ht))), ?_⟩
  intro D sc hd is st o3 o4 bv bd H H5 hS his hst0 hst1 hhd tt5 S5 hBd hbo q
  refine ⟨_, rfl, _, rfl, _, _, rfl, rfl, _, rfl, sc, is, st + 1, bv, bd, rfl, SqL.keep hS (fun oo h => S5 _ _ h), his, by omega, by omega, hBd, hbo, fun u1 k1 tb1 H6 hB1 hp1 _ s6 => ?_⟩
  have tt6 := tt5.same s6
  refine ⟨_, rfl, hd, _, rfl, tt6, by decide, by decide, fun way t1 hw0 hw1 => ?_⟩
  have k7 : Kp hd H6 (upd H6 hd (.lst [.int t1])) := Kp.tape
  have tt7 : Tp (upd H6 hd (.lst [.int t1])) hd := ⟨t1, upd_same⟩
  generalize upd H6 hd (.lst [.int t1]) = H7 at k7 tt7 ⊢
  have S7 : Same H H7 := fun c oo h => k7 _ _ (s6 _ _ (S5 _ _ h)) (ne_of_none h hhd)
  have tk67 := k7.tk tt6
  refine ⟨_, rfl, _, rfl, _, _, rfl, rfl, _, rfl, sc, is, st + 7, bv, bd, rfl, SqL.keep hS (fun oo h => S7 _ _ h), his, by omega, by omega, (hBd.same s6).tape k7 tt6 hbo, hbo, fun u2 k2 tb2 H8 hB2 hp2 _ s8 => ?_⟩
  have tt8 := tt7.same s8
  have S8 := S7.trans s8
  have hB18 := hB1.mono (tk67.trans (tk_of s8))
  refine ⟨_, rfl, _, _, rfl, rfl, _, rfl, ?_⟩
  refine ite2 (fun c => ?_) (fun c => ?_)
  · refine ⟨_, rfl, _, rfl, hd, u1, k1, bd.names, tb1, rfl, tt8, hB18, hp1, fun v k3 H9 hB3 hk3 k9 t9 => ?_⟩
    exact hnext _ hd _ _ _ _ _ u1 v way k1 k3 H H9 hhd t9 (fun c oo h => k9 _ _ (S8 _ _ h) (ne_of_none h hhd)) (hB18.mono (k9.tk tt8)) hp1.lk hB3 hk3 q
  · exact hnext _ hd _ _ _ _ _ u1 u2 way k1 k2 H H8 hhd tt8 S8 hB18 hp1.lk hB2 hp2.lk q
theorem ok_lBooks (F : Fun K "_law_books" "_law_books" sLBooks f fd)
    (GO : FnOk P w K mg base CX0 19 f2 fd2 ["tape", "book"] spOneMore) (bO : Binds K fd2 ["tape", "book"] []) (kO : PySem.W.keepIn K (.ref f2) = true) (mO : mg "_law_one_more" = some (.ref f2))
    (GM : FnOk P w K mg base CX0 2 f3 fd3 ["one", "other", "same"] spMayBe) (bM : Binds K fd3 ["one", "other", "same"] []) (kM : PySem.W.keepIn K (.ref f3) = true) (mM : mg "_law_may_be_great" = some (.ref f3))
    (GD : FnOk P w K mg base CX0 1 f4 fd4 ["tape", "many"] spDigit) (bD : Binds K fd4 ["tape", "many"] []) (kD : PySem.W.keepIn K (.ref f4) = true) (mD : mg "_law_digit" = some (.ref f4))
    (GP : FnOk P w K mg base CX0 12 f5 fd5 ["script", "start", "build", "most"] (spPlainOf K)) (bP : Binds K fd5 ["script", "start", "build", "most"] []) (kP : PySem.W.keepIn K (.ref f5) = true) (mP : mg "_law_plain_of" = some (.ref f5))
    (GW : FnOk P w K mg base CX0 13 f6 fd6 ["tape", "book"] spOtherwise) (bW : Binds K fd6 ["tape", "book"] []) (kW : PySem.W.keepIn K (.ref f6) = true) (mW : mg "_law_told_otherwise" = some (.ref f6))
    (GB : FnOk P w K mg base CX0 3 f7 fd7 ["tape", "many", "most"] spLBuild) (bB : Binds K fd7 ["tape", "many", "most"] []) (kB : PySem.W.keepIn K (.ref f7) = true) (mB : mg "_law_build" = some (.ref f7))
    (GT : FnOk P w K mg base CX0 2 f8 fd8 ["script", "k"] (spTape K)) (bT : Binds K fd8 ["script", "k"] []) (kT : PySem.W.keepIn K (.ref f8) = true) (mT : mg "_law_tape" = some (.ref f8)) :
    FnOk P w K mg base CX0 20 f fd ["script", "start"] (spLBooks K) := by
  refine F.ok scLBooks (fun vs H Q E h => ?_) (fun cdv A outer s H vs Q E hr h => ?_)
  · obtain ⟨sc, is, st, rfl, _⟩ := h
    rfl
  obtain ⟨sc, is, st, rfl, hS, his, hst0, hst1, q⟩ := h
  have hr1 := hr.mono (show 1 ≤ 19 by decide)
  have hr2 := hr.mono (show 2 ≤ 19 by decide)
  have hr3 := hr.mono (show 3 ≤ 19 by decide)
  obtain ⟨t, ht, hnext⟩ := lb_t5 (f := f) (cdv := cdv) (A := A) (outer := outer) (s := s) (H0 := H) (E := E) GO bO kO mO GM bM kM mM GD bD kD mD GP bP kP mP GW bW kW mW hr
  refine ⟨_, pss_cons (ps_set (i := 2) scLBooks.nd rfl (Or.inl rfl) (pe_call GT hr2 rfl mT kT bT .nil pass0 (pa_cons (pv 0) (pa_cons (pv 1) pa_nil))))
    (pss_cons (ps_set (i := 3) scLBooks.nd rfl (Or.inl rfl) (pe_ix ix_list (pe_lst (pac pe_int (pac pe_int (pac pe_int (pac pe_int (pac pe_int (pac pe_int (pac pe_int (pac pe_int pa_nil))))))))) (pe_call GD hr1 rfl mD kD bD .nil pass0 (pa_cons (pv 2) (pa_cons pe_int pa_nil))) (fun _ _ => rfl)))
    (pss_cons (ps_set (i := 4) scLBooks.nd rfl (Or.inl rfl) (pe_op op_add pe_int (pe_call GD hr1 rfl mD kD bD .nil pass0 (pa_cons (pv 2) (pa_cons (pe_ix ix_list (pe_lst (pac pe_int (pac pe_int (pac pe_int pa_nil)))) (pe_op op_sub (pv 3) pe_int) (fun _ _ => rfl)) pa_nil)))))
    (pss_cons (ps_set (i := 5) scLBooks.nd rfl (Or.inl rfl) (pe_call GB hr3 rfl mB kB bB .nil pass0 (pa_cons (pv 2) (pa_cons (pv 4) (pa_cons (pv 3) pa_nil)))))
    (pss_cons (ps_if (pt_cmpR op_eq (pv 3) pe_int (nomark _)) (pss_one (ps_set (i := 5) scLBooks.nd rfl (Or.inl rfl) (pe_tup (pa_cons (pe_ix ix_tup (pv 5) pe_int (fun _ _ => rfl)) (pa_cons (pe_slice sl_list (pe_ix ix_tup (pv 5) pe_int (fun _ _ => rfl)) po_none (po_some pe_int)) pa_nil))))) pss_nil) ht)))), ?_⟩
  refine ⟨_, rfl, _, rfl, sc, is, st, rfl, hS, his, hst0, by omega, fun hd t0 hhd => ?_⟩
  have s1 := same_new hhd (.lst [.int t0])
  have tt1 : Tp (upd H hd (.lst [.int t0])) hd := ⟨t0, upd_same⟩
  generalize upd H hd (.lst [.int t0]) = H1 at s1 tt1 ⊢
  refine ⟨(by show 8 ≤ sizeLine; decide), fun p2 hp2 => ?_⟩
  have np2 := tp_ne tt1 hp2
  have s2 := same_new hp2 (.lst [.int 2, .int 2, .int 1, .int 2, .int 1, .int 3, .int 2, .int 2])
  have g2 : (upd H1 p2 (.lst [.int 2, .int 2, .int 1, .int 2, .int 1, .int 3, .int 2, .int 2])) p2 = some (.lst [.int 2, .int 2, .int 1, .int 2, .int 1, .int 3, .int 2, .int 2]) := upd_same
  have tt2 := tt1.same s2
  generalize upd H1 p2 (.lst [.int 2, .int 2, .int 1, .int 2, .int 1, .int 3, .int 2, .int 2]) = H2 at s2 g2 tt2 ⊢
  refine ⟨_, rfl, hd, _, rfl, tt2, by decide, by decide, fun d1 t1 hd0 hd1 => ?_⟩
  have k3 : Kp hd H2 (upd H2 hd (.lst [.int t1])) := Kp.tape
  have tt3 : Tp (upd H2 hd (.lst [.int t1])) hd := ⟨t1, upd_same⟩
  generalize upd H2 hd (.lst [.int t1]) = H3 at k3 tt3 ⊢
  have g3 := k3 _ _ g2 np2
  have S3 : Same H H3 := fun c oo h => k3 _ _ (s2 _ _ (s1 _ _ h)) (ne_of_none h hhd)
  obtain ⟨most, em, hm1, hm3⟩ := most_at hd0 hd1
  refine ⟨p2, _, d1, .int most, rfl, rfl, SqL.of g3, em, ?_⟩
  refine ⟨_, rfl, (by show 3 ≤ sizeLine; decide), fun p4 hp4 => ?_⟩
  have s4 := same_new hp4 (.lst [.int 3, .int 2, .int 1])
  have g4 : (upd H3 p4 (.lst [.int 3, .int 2, .int 1])) p4 = some (.lst [.int 3, .int 2, .int 1]) := upd_same
  have tt4 := tt3.same s4
  generalize upd H3 p4 (.lst [.int 3, .int 2, .int 1]) = H4 at s4 g4 tt4 ⊢
  obtain ⟨mn, en, hn1, hn3⟩ := many_at3 hm1 hm3
  refine ⟨_, rfl, _, _, rfl, rfl, p4, _, most - 1, .int mn, rfl, rfl, SqL.of g4, en, hd, _, rfl, tt4, by omega, by omega, fun d2 t2 he0 he1 => ?_⟩
  have k5 : Kp hd H4 (upd H4 hd (.lst [.int t2])) := Kp.tape
  have tt5 : Tp (upd H4 hd (.lst [.int t2])) hd := ⟨t2, upd_same⟩
  generalize upd H4 hd (.lst [.int t2]) = H5 at k5 tt5 ⊢
  have S5 : Same H H5 := fun c oo h => k5 _ _ (s4 _ _ (S3 _ _ h)) (ne_of_none h hhd)
  refine ⟨_, _, rfl, rfl, ?_⟩
  refine ⟨_, rfl, _, rfl, _, rfl, hd, 1 + d2, most, rfl, tt5, by omega, by omega, hm1, hm3, fun bv bd H6 hBd hbo k6 tt6 => ?_⟩
  have S6 : Same H H6 := fun c oo h => k6 _ _ (S5 _ _ h) (ne_of_none h hhd)
  refine ⟨_, rfl, rfl, _, rfl, ?_⟩
  refine ite2 (fun c => ?_) (fun c => ?_)
  · obtain ⟨a, nl, fl, zs, rfl, h1, h2, h3, h4⟩ := id hBd
    refine ⟨_, rfl, a, _, 0, .ref nl, rfl, rfl, SqT.of h1, atI0, _, rfl, a, _, 1, .ref fl, rfl, rfl, SqT.of h1, atI_nat (j := 1) rfl, 2, rfl, fl, zs, rfl, SqL.of h3, fun p7 hp7 => ?_⟩
    rw [show cutV zs none (some 2) = zs.take 2 from cut_takeN zs 2]
    have s7 := same_new hp7 (.lst (zs.take 2))
    have g7 : (upd H6 p7 (.lst (zs.take 2))) p7 = some (.lst (zs.take 2)) := upd_same
    generalize upd H6 p7 (.lst (zs.take 2)) = H7 at s7 g7 ⊢
    refine ⟨(by show 2 ≤ sizeLine; decide), fun p8 hp8 => ?_⟩
    have s8 := same_new hp8 (.tup [.ref nl, .ref p7])
    have S8 := s7.trans s8
    exact hnext _ sc hd is st _ _ (.ref p8) ⟨bd.names, bd.forms.take 2⟩ H _ hS his hst0 hst1 hhd (tt6.same S8) (S6.trans S8) ⟨p8, nl, p7, zs.take 2, rfl, upd_same, S8 _ _ h2, s8 _ _ g7, Paired.mapP (paired_take h4 2) fun _ _ h => h.mono (tk_of S8)⟩ hbo.two q
  · exact hnext _ sc hd is st _ _ bv bd H H6 hS his hst0 hst1 hhd tt6 S6 hBd hbo q
end
end My
namespace L2
open PySem PySem.Spec PyProof.Rows
noncomputable def rNeNil (K : PySem.W.Frag) : R2 := fun x y H Q => ∃ a b xs, x = .ref a ∧ y = .ref b ∧ SqT K H a xs ∧ SqT K H b [] ∧ Q (.bl (!xs.isEmpty)) H
theorem op_ne_nilT {X : Cx} (hu : X.A.units < cLine) : OpR X (compareOp .NotEq) (rNeNil X.K) := by
  intro pins s σ H x y v u Q I rx ry h
  obtain ⟨a, b, xs, rfl, rfl, ha, hb, q⟩ := h
  cases rx
  cases ry
  obtain ⟨its, r, pl, _⟩ := I.tuple ha
  obtain ⟨its2, r2, pl2, _⟩ := I.tuple hb
  cases r2
  refine SeqAt.RcNeAt.tuples (e := fun _ => true) pl pl2 hu (fun j _ h2 => absurd h2 (Nat.not_lt_zero _)) X.prog X.w X.xe _ ⟨V.bl _, H, I, ?_, q⟩
  cases r with
  | nil => rfl
  | cons r1 t => simp [RelV]
end L2
namespace My
open PySem L2
noncomputable def Gv (te : TE) (σ : St) (H : Hp) (R : V → Hp → Prop) : Prop := ∀ (H1 : Hp) (Q : VK), Same H H1 → (∀ y H2, Same H1 H2 → (∀ H3, Same H2 H3 → R y H3) → Q y H2) → te σ H1 Q
noncomputable def GvA (t : TA) (σ : St) (H : Hp) (R : List V → Hp → Prop) : Prop := ∀ (H1 : Hp) (Q : List V → Hp → Prop), Same H H1 → (∀ ys H2, Same H1 H2 → (∀ H3, Same H2 H3 → R ys H3) → Q ys H2) → t σ H1 Q
noncomputable def GvO (t : TO) (σ : St) (k : Option Int) : Prop := ∀ (H : Hp) (Q : Option Int → Hp → Prop), Q k H → t σ H Q
noncomputable def IsT (S : List V → Hp → Prop) (y : V) (H : Hp) : Prop := ∃ p xs, y = .ref p ∧ H p = some (.tup xs) ∧ S xs H
noncomputable abbrev tNeg1 : TE := tUn (rU fun i => .int (-i)) (tC (.int 1))
section
variable {σ : St} {H : Hp} {te ta tb : TE} {t : TA} {R R' : V → Hp → Prop} {S S1 S2 : List V → Hp → Prop} {tl th : TO} {lo hi : Option Int} {K : PySem.W.Frag}
theorem Gv.mono (h : Gv te σ H R) (m : ∀ y H', Same H H' → R y H' → R' y H') : Gv te σ H R' := fun H1 Q s q => h H1 Q s fun y H2 s2 r => q y H2 s2 fun H3 s3 => m y H3 ((s.trans s2).trans s3) (r H3 s3)
theorem g_var {i : Nat} {v : V} (h : σ[i]? = some (some v)) : Gv (tVar i) σ H (fun y _ => y = v) := fun H1 Q _ q => ⟨v, h, q v H1 (Same.refl _) fun _ _ => rfl⟩
theorem g_c {v : V} : Gv (tC v) σ H (fun y _ => y = v) := fun H1 Q _ q => q v H1 (Same.refl _) fun _ _ => rfl
theorem g_varT {i : Nat} {a : Addr} {xs : List V} (h : σ[i]? = some (some (.ref a))) (ha : H a = some (.tup xs)) : Gv (tVar i) σ H (IsT fun ys _ => ys = xs) := fun H1 Q s q => ⟨_, h, q _ H1 (Same.refl _) fun H3 s3 => ⟨a, xs, rfl, s3 _ _ (s _ _ ha), rfl⟩⟩
theorem g_ix {i : Nat} {a : Addr} {xs : List V} {k : Int} {v : V} (h : σ[i]? = some (some (.ref a))) (ha : H a = some (.tup xs)) (e : atI xs k = some v) : Gv (tOp (rIxT K) (tVar i) (tC (.int k))) σ H (fun y _ => y = v) := fun H1 Q s q => ⟨_, h, a, xs, k, v, rfl, rfl, SqT.of (s _ _ ha), e, q v H1 (Same.refl _) fun _ _ => rfl⟩
theorem g_isT {a : Addr} {xs : List V} (h : Gv te σ H (fun y _ => y = .ref a)) (ha : H a = some (.tup xs)) : Gv te σ H (IsT fun ys _ => ys = xs) := h.mono fun y H' s e => ⟨a, xs, e, s _ _ ha, rfl⟩
theorem go_none : GvO tNoPart σ none := fun _ _ q => q
theorem go_int {k : Int} : GvO (tPart (tC (.int k))) σ (some k) := fun _ _ q => ⟨k, rfl, q⟩
theorem go_neg : GvO (tPart tNeg1) σ (some (-1)) := fun _ _ q => ⟨1, rfl, -1, rfl, q⟩
theorem ga_nil : GvA tNil σ H (fun xs _ => xs = []) := fun H1 Q _ q => q [] H1 (Same.refl _) fun _ _ => rfl
theorem ga_cons (h : Gv te σ H R) (ht : GvA t σ H S) : GvA (tCons te t) σ H (fun xs H' => ∃ x ys, xs = x :: ys ∧ R x H' ∧ S ys H') := fun H1 Q s q =>
  h H1 _ s fun y H2 s2 r => ht H2 _ (s.trans s2) fun ys H3 s3 r3 => q (y :: ys) H3 (s2.trans s3) fun H4 s4 => ⟨y, ys, rfl, r H4 (s3.trans s4), r3 H4 s4⟩
theorem g_tup (h : GvA t σ H S) (hz : ∀ xs H', S xs H' → xs.length ≤ 100) : Gv (tTup t) σ H (IsT S) := fun H1 Q s q =>
  h H1 _ s fun xs H2 s2 r => ⟨Nat.le_of_lt (small1000 (Nat.le_trans (hz xs H2 (r H2 (Same.refl _))) (by decide))), fun p hp => q _ _ (s2.trans (same_new hp _)) fun H3 s3 => ⟨p, xs, rfl, s3 _ _ upd_same, r H3 ((same_new hp _).trans s3)⟩⟩
theorem g_cut (h : Gv te σ H (IsT S)) (hl : GvO tl σ lo) (hh : GvO th σ hi) : Gv (tSl rSlA te tl th) σ H (IsT fun ys H' => ∃ xs, ys = cutV xs lo hi ∧ S xs H') := fun H1 Q s q =>
  h H1 _ s fun y H2 s2 r => hl H2 _ (hh H2 _ (by
    obtain ⟨p, xs, rfl, hp, _⟩ := r H2 (Same.refl _)
    refine ⟨p, xs, rfl, hp, fun p' H3 s3 h3 => q _ _ (s2.trans s3) fun H4 s4 => ⟨p', _, rfl, s4 _ _ h3, xs, rfl, ?_⟩⟩
    obtain ⟨p2, xs2, e2, hp2, r2⟩ := r H4 (Same.trans s3 s4)
    cases e2
    have h4 : H4 p = some (.tup xs) := s4 _ _ (s3 _ _ hp)
    rw [h4] at hp2
    cases hp2
    exact r2))
theorem g_cat (h1 : Gv ta σ H (IsT S1)) (h2 : Gv tb σ H (IsT S2)) (hz1 : ∀ xs H', S1 xs H' → xs.length ≤ 100) (hz2 : ∀ xs H', S2 xs H' → xs.length ≤ 100) : Gv (tOp rCatG ta tb) σ H (IsT fun zs H' => ∃ xs ys, zs = xs ++ ys ∧ S1 xs H' ∧ S2 ys H') := fun H1 Q s q =>
  h1 H1 _ s fun y H2 s2 r => h2 H2 _ (s.trans s2) fun z H3 s3 r3 => by
    obtain ⟨p, xs, rfl, hp, q1⟩ := r H3 s3
    obtain ⟨p2, ys, rfl, hp2, q2⟩ := r3 H3 (Same.refl _)
    refine ⟨p, p2, xs, ys, rfl, rfl, hp, hp2, Nat.le_of_lt (small1000 ?_), fun p' H4 s4 h4 => q _ _ ((s2.trans s3).trans s4) fun H5 s5 => ⟨p', _, rfl, s5 _ _ h4, xs, ys, rfl, ?_, ?_⟩⟩
    · have := hz1 _ _ q1
      have := hz2 _ _ q2
      omega
    · obtain ⟨a, b, e, ha, c⟩ := r H5 ((Same.trans s3 s4).trans s5)
      cases e
      have := s5 _ _ (s4 _ _ hp)
      rw [this] at ha
      cases ha
      exact c
    · obtain ⟨a, b, e, ha, c⟩ := r3 H5 (Same.trans s4 s5)
      cases e
      have := s5 _ _ (s4 _ _ hp2)
      rw [this] at ha
      cases ha
      exact c
theorem g_back (h : Gv te σ H (IsT S)) : Gv (tBackT K te tNeg1) σ H (IsT fun ys H' => ∃ xs, ys = xs.reverse ∧ S xs H') := fun H1 Q s q =>
  h H1 _ s fun y H2 s2 r => by
    obtain ⟨p, xs, rfl, hp, _⟩ := r H2 (Same.refl _)
    refine ⟨1, rfl, p, xs, rfl, rfl, SqT.of hp, fun p' hp' => q _ _ (s2.trans (same_new hp' _)) fun H4 s4 => ⟨p', _, rfl, s4 _ _ upd_same, xs, rfl, ?_⟩⟩
    obtain ⟨p2, xs2, e2, hp2, r2⟩ := r H4 ((same_new hp' _).trans s4)
    cases e2
    have h4 : H4 p = some (.tup xs) := s4 _ _ ((same_new hp' _) _ _ hp)
    rw [h4] at hp2
    cases hp2
    exact r2
end
noncomputable def GoodB (y : V) (H : Hp) : Prop := ∃ k, RepBP H k y ∧ BpOk k
theorem GoodB.mono {y : V} {H H' : Hp} (t : TK H H') : GoodB y H → GoodB y H' := fun ⟨k, h, o⟩ => ⟨k, h.mono t, o⟩
noncomputable def GoodFs (gv : List V) (H : Hp) : Prop := ∃ fs : List FrP, RepFPs H fs gv ∧ fs.length ≤ 20 ∧ ∀ fr ∈ fs, fr.ok
noncomputable def GoodF (y : V) (H : Hp) : Prop := ∃ fr : FrP, RepFP H fr y ∧ fr.ok
noncomputable def GoodRs (rv : List V) (H : Hp) : Prop := ∃ rs : List Rul, RepRs H rs rv ∧ rs.length ≤ 12 ∧ (rs.map fun r => (r.pl, r.word)).Nodup ∧ ∀ r ∈ rs, r.fm.wf ∧ r.fm.size ≤ 40
structure Ot where
  b : Addr
  sa : Addr
  fa : Addr
  pa : Addr
  ra : Addr
  so : List Srt
  fs : List FrP
  gs : List V
  fr : FrP
  c : Addr
  r0 : Rul
  rs : List Rul
  x0 : V
  xs : List V
structure OC (c : Ot) (H : Hp) : Prop where
  hb : H c.b = some (.tup [.int 0, .ref c.sa, .ref c.fa])
  hS : SrtsAt H c.sa c.so
  hf : H c.fa = some (.tup (c.gs ++ [.ref c.c]))
  hF : RepFPs H c.fs c.gs
  hc : H c.c = some (.tup [.str c.fr.name, .str c.fr.own, .ref c.pa, .ref c.ra])
  hp : H c.pa = some (.tup (c.fr.parts.map V.str))
  hr : H c.ra = some (.tup (c.x0 :: c.xs))
  hR : RepRs H (c.r0 :: c.rs) (c.x0 :: c.xs)
  er : c.fr.rules = c.r0 :: c.rs
  ok : LkOk ⟨0, c.so, c.fs ++ [c.fr]⟩
theorem OC.mono {c : Ot} {H H' : Hp} (t : TK H H') (h : OC c H) : OC c H' := ⟨t _ _ h.hb, h.hS.mono t, t _ _ h.hf, h.hF.mono t, t _ _ h.hc, t _ _ h.hp, t _ _ h.hr, h.hR.mono t, h.er, h.ok⟩
theorem OC.same {c : Ot} {H H' : Hp} (t : Same H H') (h : OC c H) : OC c H' := h.mono (tk_of t)
theorem OC.all {c : Ot} {H : Hp} (h : OC c H) : RepFPs H (c.fs ++ [c.fr]) (c.gs ++ [.ref c.c]) := Paired.snoc h.hF ⟨c.c, c.pa, c.ra, _, rfl, h.hc, h.hp, h.hr, by rw [h.er]; exact h.hR⟩
theorem OC.len {c : Ot} {H : Hp} (h : OC c H) : c.fs.length ≤ 5 ∧ c.gs.length = c.fs.length := ⟨by have := h.ok.f6; rw [List.length_append] at this; have : c.fs.length + 1 ≤ 6 := this; omega, h.hF.len.symm⟩
theorem OC.fok {c : Ot} {H : Hp} (h : OC c H) : ∀ fr ∈ c.fs ++ [c.fr], fr.ok := h.ok.bp.ok
theorem OC.kfr {c : Ot} {H : Hp} (h : OC c H) : FrK c.fr := h.ok.fo _ (List.mem_append.mpr (.inr List.mem_cons_self))
theorem cut_lastV (zs : List V) (u : V) : cutV (zs ++ [u]) none (some (-1)) = zs := by
  have e : HT.sIx (zs ++ [u]).length (zs ++ [u]).length (some (-1)) = zs.length := by
    show (if (-1 : Int) < 0 then ((-1 : Int) + ((zs ++ [u]).length : Int)).toNat else min (-1 : Int).toNat (zs ++ [u]).length) = zs.length
    rw [if_pos (by decide), List.length_append]
    show ((-1 : Int) + ((zs.length + 1 : Nat) : Int)).toNat = zs.length
    omega
  unfold cutV
  rw [e, HT.sIx_none, List.drop_zero, Nat.sub_zero, List.take_append_of_le_length (Nat.le_refl _), List.take_length]
theorem cut_tail (k : V) (xs : List V) : cutV (k :: xs) (some 1) none = xs := by
  have e1 : HT.sIx (k :: xs).length 0 (some 1) = 1 := by
    have : HT.sIx (k :: xs).length 0 (some 1) = min 1 (k :: xs).length := HT.sIx_nat _ _ 1
    rw [this, List.length_cons]
    omega
  unfold cutV
  rw [e1, HT.sIx_none, List.length_cons, List.drop_one, List.tail_cons, Nat.add_sub_cancel, List.take_length]
theorem paired_dropP {α β : Type} {F : α → β → Prop} : ∀ {l : List α} {r : List β}, Paired F l r → ∀ n, Paired F (l.drop n) (r.drop n)
  | _, _, h, 0 => h
  | _, _, .nil, n + 1 => .nil
  | _, _, .cons _ t, n + 1 => paired_dropP t n
theorem paired_cut {α : Type} {F : α → V → Prop} {l : List α} {r : List V} (h : Paired F l r) (lo hi : Option Int) : ∃ l' : List α, Paired F l' (cutV r lo hi) ∧ l'.length ≤ l.length ∧ ∀ a ∈ l', a ∈ l := by
  refine ⟨(l.drop (HT.sIx r.length 0 lo)).take (HT.sIx r.length r.length hi - HT.sIx r.length 0 lo), paired_take (paired_dropP h _) _, ?_, fun a ha => List.mem_of_mem_drop (List.mem_of_mem_take ha)⟩
  rw [List.length_take, List.length_drop]
  omega
theorem paired_lastP {α β : Type} {F : α → β → Prop} : ∀ {l : List α} {r : List β}, Paired F l r → 1 ≤ l.length → ∃ l' a r' b, l = l' ++ [a] ∧ r = r' ++ [b] ∧ Paired F l' r' ∧ F a b
  | _, _, .nil, h => absurd h (Nat.not_succ_le_zero 0)
  | _, _, .cons x .nil, _ => ⟨[], _, [], _, rfl, rfl, .nil, x⟩
  | _, _, .cons x (.cons y t), _ => by
    obtain ⟨l', a, r', b, e1, e2, h1, h2⟩ := paired_lastP (.cons y t) (Nat.succ_le_succ (Nat.zero_le _))
    exact ⟨_ :: l', a, _ :: r', b, by rw [e1]; rfl, by rw [e2]; rfl, .cons x h1, h2⟩
theorem cut_map (ps : List Str) (lo hi : Option Int) : ∃ ps' : List Str, cutV (ps.map V.str) lo hi = ps'.map V.str ∧ ps'.length ≤ ps.length := by
  refine ⟨(ps.drop (HT.sIx (ps.map V.str).length 0 lo)).take (HT.sIx (ps.map V.str).length (ps.map V.str).length hi - HT.sIx (ps.map V.str).length 0 lo), ?_, ?_⟩
  · unfold cutV
    rw [List.map_take, List.map_drop]
  · rw [List.length_take, List.length_drop]
    omega
section
variable {σ : St} {H : Hp} {te t1 t2 t3 t4 : TE} {c : Ot} {K : PySem.W.Frag}
theorem cut2 (x y z : V) : cutV [x, y, z] none (some 2) = [x, y] := rfl
theorem g_bk (hc : OC c H) (h0 : σ[0]? = some (some (.ref c.b))) (h : Gv te σ H (IsT GoodFs)) : Gv (tOp rCatG (tSl rSlA (tVar 0) tNoPart (tPart (tC (.int 2)))) (tTup (tCons te tNil))) σ H GoodB :=
  (g_cat (g_cut (g_varT h0 hc.hb) go_none go_int) (g_tup (ga_cons h ga_nil) (by rintro xs H' ⟨x, ys, rfl, _, rfl⟩; show 1 ≤ 100; decide)) (by rintro xs H' ⟨ys, rfl, rfl⟩; rw [cut2]; show 2 ≤ 100; decide) (by rintro xs H' ⟨x, ys, rfl, _, rfl⟩; show 1 ≤ 100; decide)).mono fun y H' s ⟨p, zs, e, hp, xs, ys, e2, ⟨us, e3, e4⟩, ⟨x, ws, e5, hx, e6⟩⟩ => by
    subst e e2 e3 e4 e5 e6
    obtain ⟨q, gv, rfl, hq, fs, hfs, hl, hok⟩ := hx
    exact ⟨⟨0, c.so, fs⟩, ⟨p, c.sa, q, gv, rfl, hp, (hc.same s).hS, hq, hfs⟩, ⟨hl, by have := hc.ok.s3; show c.so.length ≤ 20; have : c.so.length ≤ 3 := this; omega, hok⟩⟩
theorem g_frs (hc : OC c H) (h1 : σ[1]? = some (some (.ref c.fa))) (h : Gv te σ H GoodF) : Gv (tOp rCatG (tSl rSlA (tVar 1) tNoPart (tPart tNeg1)) (tTup (tCons te tNil))) σ H (IsT GoodFs) := by
  obtain ⟨l5, lg⟩ := hc.len
  refine (g_cat (g_cut (g_varT h1 hc.hf) go_none go_neg) (g_tup (ga_cons h ga_nil) (by rintro xs H' ⟨x, ys, rfl, _, rfl⟩; show 1 ≤ 100; decide)) (by rintro xs H' ⟨ys, rfl, rfl⟩; rw [cut_lastV]; omega) (by rintro xs H' ⟨x, ys, rfl, _, rfl⟩; show 1 ≤ 100; decide)).mono fun y H' s ⟨p, zs, e, hp, xs, ys, e2, ⟨us, e3, e4⟩, ⟨x, ws, e5, ⟨fr', hfr, hok⟩, e6⟩⟩ => ?_
  subst e e2 e3 e4 e5 e6
  rw [cut_lastV] at hp
  refine ⟨p, _, rfl, hp, c.fs ++ [fr'], Paired.snoc (hc.same s).hF hfr, by rw [List.length_append]; show _ + 1 ≤ 20; omega, fun f hf => ?_⟩
  rcases List.mem_append.mp hf with h | h
  · exact hc.fok f (List.mem_append.mpr (.inl h))
  · rw [List.mem_singleton.mp h]; exact hok
theorem g_form {nm own : Str} {ps : List Str} (h1 : Gv t1 σ H (fun y _ => y = .str nm)) (h2 : Gv t2 σ H (fun y _ => y = .str own)) (h3 : Gv t3 σ H (IsT fun xs _ => xs = ps.map V.str)) (hl : ps.length ≤ 10) (h4 : Gv t4 σ H (IsT GoodRs)) :
    Gv (tTup (tCons t1 (tCons t2 (tCons t3 (tCons t4 tNil))))) σ H GoodF :=
  (g_tup (ga_cons h1 (ga_cons h2 (ga_cons h3 (ga_cons h4 ga_nil)))) (by rintro xs H' ⟨_, _, rfl, _, _, _, rfl, _, _, _, rfl, _, _, _, rfl, _, rfl⟩; show 4 ≤ 100; decide)).mono fun y H' s ⟨p, xs, e, hp, _, _, e1, f1, _, _, e2, f2, _, _, e3, f3, _, _, e4, f4, e5⟩ => by
    subst e e1 e2 e3 e4 e5 f1 f2
    obtain ⟨q, zs, rfl, hq, rfl⟩ := f3
    obtain ⟨r, rv, rfl, hr, rs, hrs, l12, nd, hw⟩ := f4
    exact ⟨⟨nm, own, ps, rs⟩, ⟨p, q, r, rv, rfl, hp, hq, hr, hrs⟩, ⟨l12, nd, hl, hw⟩⟩
theorem g_rls (hc : OC c H) {mv : V} {g : Fm} (h5 : σ[5]? = some (some (.ref c.ra))) (h7 : σ[7]? = some (some (.int c.r0.pl))) (h8 : σ[8]? = some (some (.str c.r0.word))) (h10 : σ[10]? = some (some mv)) (hg : Rep H g mv) (hw : g.wf) (hz : g.size ≤ 40) :
    Gv (tOp rCatG (tTup (tCons (tTup (tCons (tVar 7) (tCons (tVar 8) (tCons (tVar 10) tNil)))) tNil)) (tSl rSlA (tVar 5) (tPart (tC (.int 1))) tNoPart)) σ H (IsT GoodRs) := by
  obtain ⟨k1, k2, k3, k4, k5⟩ := hc.kfr
  have lR := hc.hR.len
  have er := hc.er
  have l3 : (c.r0 :: c.rs).length ≤ 3 := by rw [← er]; exact k2
  refine (g_cat (g_tup (ga_cons (g_tup (ga_cons (g_var h7) (ga_cons (g_var h8) (ga_cons (g_var h10) ga_nil))) (by rintro xs H' ⟨_, _, rfl, _, _, _, rfl, _, _, _, rfl, _, rfl⟩; show 3 ≤ 100; decide)) ga_nil) (by rintro xs H' ⟨_, _, rfl, _, rfl⟩; show 1 ≤ 100; decide)) (g_cut (g_varT h5 hc.hr) go_int go_none) (by rintro xs H' ⟨_, _, rfl, _, rfl⟩; show 1 ≤ 100; decide) (by rintro xs H' ⟨ys, rfl, rfl⟩; rw [cut_tail]; rw [List.length_cons, List.length_cons] at lR; rw [List.length_cons] at l3; omega)).mono fun y H' s h => ?_
  obtain ⟨p, zs, rfl, hp, xs, ys, rfl, ⟨x, ws, rfl, ⟨q, vs, rfl, hq, _, _, rfl, rfl, _, _, rfl, rfl, mv', _, rfl, emv, rfl⟩, rfl⟩, ⟨us, rfl, rfl⟩⟩ := h
  rw [emv] at hq
  rw [cut_tail] at hp
  have hc' := hc.same s
  have hR' := hc'.hR
  rw [er] at k3 k5
  cases hR' with
  | cons a t =>
    refine ⟨p, _, rfl, hp, ⟨c.r0.pl, c.r0.word, g⟩ :: c.rs, .cons ⟨q, mv, rfl, hq, hg.mono (tk_of s)⟩ t, ?_, k3, fun r hr => ?_⟩
    · rw [List.length_cons] at l3 ⊢; omega
    · rcases List.mem_cons.mp hr with h | h
      · subst h; exact ⟨hw, hz⟩
      · have := k5 r (List.mem_cons_of_mem _ h); exact ⟨this.1, by omega⟩
theorem g_srt (hc : OC c H) (h1 : σ[1]? = some (some (.ref c.fa))) (h : Gv te σ H (IsT fun sv H' => ∃ so, RepSs H' so sv ∧ so.length ≤ 20)) : Gv (tTup (tCons (tC (.int 0)) (tCons te (tCons (tVar 1) tNil)))) σ H GoodB := by
  refine (g_tup (ga_cons g_c (ga_cons h (ga_cons (g_var h1) ga_nil))) (by rintro xs H' ⟨_, _, rfl, _, _, _, rfl, _, _, _, rfl, _, rfl⟩; show 3 ≤ 100; decide)).mono fun y H' s h => ?_
  obtain ⟨p, xs, rfl, hp, _, _, rfl, rfl, _, _, rfl, ⟨q, sv, rfl, hq, so, hso, hl⟩, _, _, rfl, rfl, rfl⟩ := h
  have hc' := hc.same s
  exact ⟨⟨0, so, c.fs ++ [c.fr]⟩, ⟨p, q, c.fa, _, rfl, hp, ⟨sv, hq, hso⟩, hc'.hf, hc'.all⟩, ⟨hc.ok.bp.few, hl, hc.fok⟩⟩
theorem g_num {k : Int} : Gv (tTup (tCons (tC (.str "num")) (tCons (tC (.int k)) tNil))) σ H (fun y H' => Rep H' (.num k) y) :=
  (g_tup (ga_cons g_c (ga_cons g_c ga_nil)) (by rintro xs H' ⟨_, _, rfl, _, _, _, rfl, _, rfl⟩; show 2 ≤ 100; decide)).mono fun y H' s h => by
    obtain ⟨p, xs, rfl, hp, _, _, rfl, rfl, _, _, rfl, rfl, rfl⟩ := h
    exact ⟨p, rfl, hp⟩
theorem g_fm {i : Nat} {u : V} {g : Fm} (h : σ[i]? = some (some u)) (hg : Rep H g u) : Gv (tVar i) σ H (fun y H' => Rep H' g y) := (g_var h).mono fun y H' s e => by
  subst e
  exact hg.mono (tk_of s)
theorem g_bin {op : Str} {a b : Fm} (h1 : Gv t1 σ H (fun y H' => Rep H' a y)) (h2 : Gv t2 σ H (fun y H' => Rep H' b y)) : Gv (tTup (tCons (tC (.str op)) (tCons t1 (tCons t2 tNil)))) σ H (fun y H' => Rep H' (.bin op a b) y) :=
  (g_tup (ga_cons g_c (ga_cons h1 (ga_cons h2 ga_nil))) (by rintro xs H' ⟨_, _, rfl, _, _, _, rfl, _, _, _, rfl, _, rfl⟩; show 3 ≤ 100; decide)).mono fun y H' s h => by
    obtain ⟨p, xs, rfl, hp, _, _, rfl, rfl, u, _, rfl, r1, v, _, rfl, r2, rfl⟩ := h
    exact ⟨p, u, v, rfl, hp, r1, r2⟩
theorem g_whn {a b d : Fm} (h1 : Gv t1 σ H (fun y H' => Rep H' a y)) (h2 : Gv t2 σ H (fun y H' => Rep H' b y)) (h3 : Gv t3 σ H (fun y H' => Rep H' d y)) : Gv (tTup (tCons (tC (.str "when")) (tCons t1 (tCons t2 (tCons t3 tNil))))) σ H (fun y H' => Rep H' (.whn a b d) y) :=
  (g_tup (ga_cons g_c (ga_cons h1 (ga_cons h2 (ga_cons h3 ga_nil)))) (by rintro xs H' ⟨_, _, rfl, _, _, _, rfl, _, _, _, rfl, _, _, _, rfl, _, rfl⟩; show 4 ≤ 100; decide)).mono fun y H' s h => by
    obtain ⟨p, xs, rfl, hp, _, _, rfl, rfl, u, _, rfl, r1, v, _, rfl, r2, w, _, rfl, r3, rfl⟩ := h
    exact ⟨p, u, v, w, rfl, hp, r1, r2, r3⟩
end
noncomputable def Bun (H0 : Hp) (l : Addr) (n : Nat) (c : Ot) (H : Hp) : Prop := Same H0 H ∧ H0 l = none ∧ OC c H ∧ ∃ xs, H l = some (.lst xs) ∧ xs.length ≤ n ∧ ∀ x ∈ xs, GoodB x H
theorem Bun.same {H0 : Hp} {l : Addr} {n : Nat} {c : Ot} {H H' : Hp} (s : Same H H') : Bun H0 l n c H → Bun H0 l n c H' := fun ⟨a, b, d, xs, e, f, g⟩ => ⟨a.trans s, b, d.same s, xs, s _ _ e, f, fun x hx => (g x hx).mono (tk_of s)⟩
theorem Bun.app {K : PySem.W.Frag} {te : TE} {σ : St} {D : Ends} {H0 : Hp} {l : Addr} {n : Nat} {c : Ot} {H : Hp} (hb : Bun H0 l n c H) (hn : n ≤ 50) (hσ : σ[6]? = some (some (.ref l))) (hg : Gv te σ H GoodB)
    (q : ∀ H', Bun H0 l (n + 1) c H' → TK H H' → (∀ a o, H a = some o → a ≠ l → H' a = some o) → D.nx σ H') : tDrop (tBM K "list" rAppend (tVar 6) (tCons te tNil)) D σ H := by
  obtain ⟨a, b, d, xs, e, f, g⟩ := hb
  refine ⟨_, hσ, .inl ⟨rfl, _, SqL.of e⟩, hg H _ (Same.refl _) fun y H2 s2 r => ⟨l, xs, y, rfl, rfl, s2 _ _ e, small1000 (by omega), ?_⟩⟩
  have tk : TK H2 (upd H2 l (.lst (xs ++ [y]))) := TK.lst (s2 _ _ e)
  have tk2 := (tk_of s2).trans tk
  refine q _ ⟨fun c' o h => ?_, b, d.mono tk2, _, upd_same, ?_, fun x hx => ?_⟩ tk2 fun c' o h hn => ?_
  · rw [upd_ne (ne_of_none h b)]; exact s2 _ _ (a _ _ h)
  · rw [List.length_append]; show _ + 1 ≤ _; omega
  · rcases List.mem_append.mp hx with h | h
    · exact (g x h).mono tk2
    · rw [List.mem_singleton.mp h]; exact (r H2 (Same.refl _)).mono tk
  · rw [upd_ne hn]; exact s2 _ _ h
end My
namespace My
open PySem L2
noncomputable def spOthers : Sp := fun vs H Q _ => ∃ bv bk, vs = [bv] ∧ RepBP H bk bv ∧ LkOk bk ∧ ∀ l xs H', H' l = some (.lst xs) → xs.length ≤ 20 → (∀ x ∈ xs, GoodB x H') → Same H H' → Q (.ref l) H'
section
variable {P : Program} {w : World} {K : PySem.W.Frag} {mg : Str → Option Value} {base : Heap} {f f2 f3 aR : Addr} {fd fd2 fd3 : FuncData}
noncomputable abbrev NOt : List Str := ["book", "forms", "name", "own", "parts", "rules", "found", "at", "word", "formula", "made", "plain"]
theorem scOthers : FnScope NOt ["book"] (defScope sOthers) := ⟨rfl, rfl, rfl, by decide +kernel, rfl, by decide +kernel, by decide +kernel⟩
theorem ot_t8 {cdv : Value} {A : Around} {outer : List Env} {s : Shared} {H00 : Hp} {E : XK} :
    ∃ t, PSs (cxOf CX0 P w K mg base NOt "_law_others" (defScope sOthers) f cdv A outer s H00 E).nox ((defBody sOthers).drop 8) t ∧
      ∀ (D : Ends) (H0 H : Hp) (l : Addr) (c : Ot) (n : Nat) (o7 o8 o9 o10 o11 : Option V), Bun H0 l n c H → n ≤ 20 →
        (∀ l' xs H', H' l' = some (.lst xs) → xs.length ≤ 20 → (∀ x ∈ xs, GoodB x H') → Same H0 H' → D.rt (.ref l') H') →
        t D [some (.ref c.b), some (.ref c.fa), some (.str c.fr.name), some (.str c.fr.own), some (.ref c.pa), some (.ref c.ra), some (.ref l), o7, o8, o9, o10, o11] H := by
  refine ⟨_, pss_one (ps_ret (pv 6)), ?_⟩
  intro D H0 H l c n o7 o8 o9 o10 o11 ⟨h1, h2, h3, xs, h4, h5, h6⟩ hn q
  exact ⟨_, rfl, q l xs H h4 (by omega) h6 h1⟩
theorem ot_t7 {cdv : Value} {A : Around} {outer : List Env} {s : Shared} {H00 : Hp} {E : XK} (G : Gb mg) (hu : (cxOf CX0 P w K mg base NOt "_law_others" (defScope sOthers) f cdv A outer s H00 E).nox.A.units < cLine) :
    ∃ t, PSs (cxOf CX0 P w K mg base NOt "_law_others" (defScope sOthers) f cdv A outer s H00 E).nox ((defBody sOthers).drop 7) t ∧
      ∀ (D : Ends) (H0 H : Hp) (l : Addr) (c : Ot) (n : Nat) (o7 o8 o9 o10 o11 : Option V), Bun H0 l n c H → n ≤ 19 →
        (∀ l' xs H', H' l' = some (.lst xs) → xs.length ≤ 20 → (∀ x ∈ xs, GoodB x H') → Same H0 H' → D.rt (.ref l') H') →
        t D [some (.ref c.b), some (.ref c.fa), some (.str c.fr.name), some (.str c.fr.own), some (.ref c.pa), some (.ref c.ra), some (.ref l), o7, o8, o9, o10, o11] H := by
  obtain ⟨t, ht, hnext⟩ := ot_t8 (P := P) (w := w) (K := K) (mg := mg) (base := base) (f := f) (cdv := cdv) (A := A) (outer := outer) (s := s) (H00 := H00) (E := E)
  refine ⟨_, pss_cons (ps_if (pt_cmpR (op_ne_nilT hu) (pv 4) (pe_tup pa_nil) (nomark _))
    (pss_cons (ps_set (i := 11) scOthers.nd rfl (Or.inl rfl) (pe_callTy call_tuple_of rfl G.tuple (by decide +kernel) (pa_cons
      (pe_comp3 (sc0 := defScope sOthers) (N0 := NOt) (ys := []) (fr := []) rfl (pi_tup (pv 5)) rfl rfl
        ⟨rfl, by decide +kernel, by decide +kernel, by decide +kernel, by decide +kernel, by decide +kernel, by decide +kernel, by decide +kernel, rfl, by decide +kernel⟩ (fun C s H ex => (pe_tup (pac (pv 0) (pac (pv 1) (pac (pe_tup (pac pe_str (pac pe_int pa_nil))) pa_nil)))))) pa_nil)))
    (pss_one (ps_expr (pe_bm PySem.F.plainAttrs_list PySem.F.slot_list_append PySem.F.type_list_append mt_append (pv 6) (pa_cons (pe_op op_catG (pe_slice sl_tupA (pv 0) po_none (po_some pe_int)) (pe_tup (pac (pe_op op_catG (pe_slice sl_tupA (pv 1) po_none (po_some (pe_un un_neg pe_int))) (pe_tup (pac (pe_tup (pac (pv 2) (pac (pv 3) (pac (pe_slice sl_tupA (pv 4) (po_some pe_int) po_none) (pac (pv 11) pa_nil))))) pa_nil))) pa_nil))) pa_nil))))) pss_nil) ht, ?_⟩
  intro D H0 H l c n o7 o8 o9 o10 o11 hB hn q
  refine ⟨_, rfl, (by show 0 ≤ sizeLine; decide), fun p hp => ?_⟩
  have s1 := same_new hp (.tup [])
  have g1 : (upd H p (.tup [])) p = some (.tup []) := upd_same
  have hB1 := hB.same s1
  generalize upd H p (.tup []) = H1 at s1 g1 hB1 ⊢
  have hc := hB1.2.2.1
  refine ⟨c.pa, p, _, rfl, rfl, SqT.of hc.hp, SqT.of g1, _, rfl, ?_⟩
  refine ite2 (fun _ => ?_) (fun _ => ?_)
  · refine ⟨_, rfl, c.ra, rfl, ⟨_, SqT.of hc.hr⟩, comp3 (comp_prS (as := c.r0 :: c.rs) (A := RepR H1) ?_ hc.hR (itt_goS hc.hr) (itt_stS hc.hr) (itt_yS hc.hr) (fun H r v => RepR H ⟨r.pl, r.word, .num 5⟩ v) (fun t h => RepR.mono t h) ?_ ?_)⟩
    · have := hc.hR.len
      have := hc.kfr.2.1
      rw [hc.er] at this
      omega
    · rintro r v H2 k _ ⟨a, u, rfl, ha, _⟩ s2 hk
      refine ⟨a, _, _, _, rfl, s2 _ _ ha, _, rfl, _, rfl, (by show 2 ≤ sizeLine; decide), fun p2 hp2 => ?_⟩
      have s3 := same_new hp2 (.tup [.str "num", .int 5])
      have g3 : (upd H2 p2 (.tup [.str "num", .int 5])) p2 = some (.tup [.str "num", .int 5]) := upd_same
      generalize upd H2 p2 (.tup [.str "num", .int 5]) = H3 at s3 g3 ⊢
      refine ⟨(by show 3 ≤ sizeLine; decide), fun p3 hp3 => ?_⟩
      have s4 := same_new hp3 (.tup [.int r.pl, .str r.word, .ref p2])
      exact hk _ _ (s3.trans s4) ⟨p3, .ref p2, rfl, upd_same, p2, rfl, s4 _ _ g3⟩
    · intro p2 zs H2 hp2 s2 g2 hz
      refine ⟨p2, _, rfl, .inl ⟨SqL.of g2, fun p3 hp3 => ?_⟩⟩
      have s3 := same_new hp3 (.tup zs)
      have g3 : (upd H2 p3 (.tup zs)) p3 = some (.tup zs) := upd_same
      have S3 := s2.trans s3
      have hB3 := hB1.same S3
      have hz3 : RepRs (upd H2 p3 (.tup zs)) ((c.r0 :: c.rs).map fun r => ⟨r.pl, r.word, .num 5⟩) zs := paired_map_l (Paired.mapP hz fun _ _ h => RepR.mono (tk_of s3) h)
      generalize upd H2 p3 (.tup zs) = H3 at s3 g3 S3 hB3 hz3 ⊢
      have hc3 := hB3.2.2.1
      obtain ⟨k1, k2, k3, k4, k5⟩ := hc3.kfr
      rw [hc3.er] at k2 k3
      obtain ⟨ps', ep, lp⟩ := cut_map c.fr.parts (some 1) none
      have gr : GoodRs zs H3 := ⟨_, hz3, by rw [List.length_map]; omega, by rw [List.map_map]; exact k3, fun r hr => by
        obtain ⟨r', _, rfl⟩ := List.mem_map.mp hr
        exact ⟨⟨by decide, by decide⟩, by show 1 ≤ 40; decide⟩⟩
      refine hB3.app (by omega) rfl (g_bk hc3 rfl (g_frs hc3 rfl (g_form (ps := ps') (g_var rfl) (g_var rfl) ((g_cut (g_varT rfl hc3.hp) go_int go_none).mono ?_) (by omega) ((g_varT rfl g3).mono ?_)))) fun H4 hB4 tk4 _ => ?_
      · rintro y H' _ ⟨p, xs, rfl, hp, us, rfl, rfl⟩
        exact ⟨p, _, rfl, hp, ep⟩
      · rintro y H' s' ⟨p, xs, rfl, hp, rfl⟩
        obtain ⟨rs, h1, h2⟩ := gr
        exact ⟨p, _, rfl, hp, rs, h1.mono (tk_of s'), h2⟩
      · exact hnext _ H0 H4 l c (n + 1) _ _ _ _ _ hB4 (by omega) q
  · exact hnext _ H0 H1 l c n _ _ _ _ _ hB1 (by omega) q
theorem ot_t6 {cdv : Value} {A : Around} {outer : List Env} {s : Shared} {H00 : Hp} {E : XK} (G : Gb mg) (hu : (cxOf CX0 P w K mg base NOt "_law_others" (defScope sOthers) f cdv A outer s H00 E).nox.A.units < cLine) :
    ∃ t, PSs (cxOf CX0 P w K mg base NOt "_law_others" (defScope sOthers) f cdv A outer s H00 E).nox ((defBody sOthers).drop 6) t ∧
      ∀ (D : Ends) (H0 H : Hp) (l : Addr) (c : Ot) (n : Nat) (o7 o8 o9 o10 o11 : Option V), Bun H0 l n c H → n ≤ 17 →
        (∀ l' xs H', H' l' = some (.lst xs) → xs.length ≤ 20 → (∀ x ∈ xs, GoodB x H') → Same H0 H' → D.rt (.ref l') H') →
        t D [some (.ref c.b), some (.ref c.fa), some (.str c.fr.name), some (.str c.fr.own), some (.ref c.pa), some (.ref c.ra), some (.ref l), o7, o8, o9, o10, o11] H := by
  obtain ⟨t, ht, hnext⟩ := ot_t7 (P := P) (w := w) (K := K) (mg := mg) (base := base) (f := f) (cdv := cdv) (A := A) (outer := outer) (s := s) (H00 := H00) (E := E) G hu
  refine ⟨_, pss_cons (ps_if (pt_cmpR op_lt (pe_callB call_len_seq rfl G.len PySem.boot_len (pa_cons (pe_ix ix_tup (pv 0) pe_int (fun _ _ => rfl)) pa_nil)) pe_int (nomark _))
    (pss_cons (ps_expr (pe_bm PySem.F.plainAttrs_list PySem.F.slot_list_append PySem.F.type_list_append mt_append (pv 6) (pa_cons (pe_tup (pac pe_int (pac (pe_op op_catG (pe_ix ix_tup (pv 0) pe_int (fun _ _ => rfl)) (pe_tup (pac (pe_tup (pac pe_str (pac (pe_tup pa_nil) (pac (pe_tup (pac pe_str pa_nil)) pa_nil)))) pa_nil))) (pac (pv 1) pa_nil)))) pa_nil)))
    (pss_one (ps_expr (pe_bm PySem.F.plainAttrs_list PySem.F.slot_list_append PySem.F.type_list_append mt_append (pv 6) (pa_cons (pe_tup (pac pe_int (pac (pe_backT (pe_ix ix_tup (pv 0) pe_int (fun _ _ => rfl)) (pe_un un_neg pe_int)) (pac (pv 1) pa_nil)))) pa_nil))))) pss_nil) ht, ?_⟩
  intro D H0 H l c n o7 o8 o9 o10 o11 hB hn q
  have hc := hB.2.2.1
  obtain ⟨sx, hsa, hSs⟩ := hc.hS
  have s3 : c.so.length ≤ 3 := hc.ok.s3
  have lS := hSs.len
  refine ⟨_, rfl, c.b, _, 1, .ref c.sa, rfl, rfl, SqT.of hc.hb, atI_nat (j := 1) rfl, c.sa, _, rfl, .inr (SqT.of hsa), _, _, rfl, rfl, _, rfl, ?_⟩
  refine ite2 (fun _ => ?_) (fun _ => ?_)
  · refine hB.app (by omega) rfl (g_srt hc rfl ((g_cat (g_isT (g_ix rfl hc.hb (atI_nat (j := 1) rfl)) hsa) (g_tup (ga_cons (g_tup (ga_cons g_c (ga_cons (g_tup ga_nil (by rintro xs H' rfl; show 0 ≤ 100; decide)) (ga_cons (g_tup (ga_cons g_c ga_nil) (by rintro xs H' ⟨_, _, rfl, _, rfl⟩; show 1 ≤ 100; decide)) ga_nil))) (by rintro xs H' ⟨_, _, rfl, _, _, _, rfl, _, _, _, rfl, _, rfl⟩; show 3 ≤ 100; decide)) ga_nil) (by rintro xs H' ⟨_, _, rfl, _, rfl⟩; show 1 ≤ 100; decide)) (by rintro xs H' rfl; omega) (by rintro xs H' ⟨_, _, rfl, _, rfl⟩; show 1 ≤ 100; decide)).mono ?_)) fun H4 hB4 tk4 _ => ?_
    · rintro y H' s' ⟨p, zs, rfl, hp, xs, ys, rfl, rfl, x, ws, rfl, ⟨p2, us, rfl, hp2, _, _, rfl, rfl, _, _, rfl, ⟨p3, _, rfl, hp3, rfl⟩, _, _, rfl, ⟨p4, _, rfl, hp4, _, _, rfl, rfl, rfl⟩, rfl⟩, rfl⟩
      exact ⟨p, _, rfl, hp, c.so ++ [⟨"another", [], ["a"]⟩], Paired.snoc (hSs.mono (tk_of s')) (show RepS H' ⟨"another", [], ["a"]⟩ (.ref p2) from ⟨p2, p3, p4, rfl, hp2, hp3, hp4⟩), by rw [List.length_append]; show _ + 1 ≤ 20; omega⟩
    · have hc4 := hB4.2.2.1
      refine hB4.app (by omega) rfl (g_srt hc4 rfl ((g_back (g_isT (g_ix rfl hc4.hb (atI_nat (j := 1) rfl)) (tk4 _ _ hsa))).mono ?_)) fun H5 hB5 tk5 _ => ?_
      · rintro y H' s' ⟨p, zs, rfl, hp, xs, rfl, rfl⟩
        exact ⟨p, _, rfl, hp, c.so.reverse, paired_rev (hSs.mono (tk4.trans (tk_of s'))), by rw [List.length_reverse]; omega⟩
      · exact hnext _ H0 H5 l c (n + 2) _ _ _ _ _ hB5 (by omega) q
  · exact hnext _ H0 H l c n _ _ _ _ _ hB (by omega) q
noncomputable def otFor : Stmt := (defBody sOthers).getD 5 (.Pass ⟨0, 0, 0, 0⟩)
noncomputable def otIter : Expr := match otFor with
  | .For _ e _ _ _ => e
  | _ => .Constant .none 0 ⟨0, 0, 0, 0⟩
noncomputable def otEs : List Expr := match otIter with
  | .List es _ => es
  | _ => []
noncomputable def otPos : Pos := match otIter with
  | .List _ p => p
  | _ => ⟨0, 0, 0, 0⟩
noncomputable def otM (i : Nat) : Expr := otEs.getD i (.Constant .none 0 ⟨0, 0, 0, 0⟩)
noncomputable def tupEs (e : Expr) : List Expr := match e with
  | .Tuple es _ _ => es
  | _ => []
noncomputable def otN : Expr := (tupEs (otM 1)).getD 2 (.Constant .none 0 ⟨0, 0, 0, 0⟩)
theorem ot_m1 {cdv : Value} {A : Around} {outer : List Env} {s : Shared} {H00 : Hp} {E : XK} : ∃ t, PE (cxOf CX0 P w K mg base NOt "_law_others" (defScope sOthers) f cdv A outer s H00 E).nox (otM 0) t ∧ ∀ (σ : St) (H : Hp) (u : V) (g : Fm), σ[9]? = some (some u) → Rep H g u → Gv t σ H (fun y H' => Rep H' (.whn (.num 0) (.num 4) g) y) :=
  ⟨_, (pe_tup (pac pe_str (pac (pe_tup (pac pe_str (pac pe_int pa_nil))) (pac (pe_tup (pac pe_str (pac pe_int pa_nil))) (pac (pv 9) pa_nil))))), fun σ H u g h hg => g_whn g_num g_num (g_fm h hg)⟩
theorem ot_m2i {cdv : Value} {A : Around} {outer : List Env} {s : Shared} {H00 : Hp} {E : XK} : ∃ t, PE (cxOf CX0 P w K mg base NOt "_law_others" (defScope sOthers) f cdv A outer s H00 E).nox otN t ∧ ∀ (σ : St) (H : Hp) (u : V) (g : Fm), σ[9]? = some (some u) → Rep H g u → Gv t σ H (fun y H' => Rep H' (.bin "least" g (.num 2)) y) :=
  ⟨_, (pe_tup (pac pe_str (pac (pv 9) (pac (pe_tup (pac pe_str (pac pe_int pa_nil))) pa_nil)))), fun σ H u g h hg => g_bin (g_fm h hg) g_num⟩
theorem ot_m2 {cdv : Value} {A : Around} {outer : List Env} {s : Shared} {H00 : Hp} {E : XK} : ∃ t, PE (cxOf CX0 P w K mg base NOt "_law_others" (defScope sOthers) f cdv A outer s H00 E).nox (otM 1) t ∧ ∀ (σ : St) (H : Hp) (u : V) (g : Fm), σ[9]? = some (some u) → Rep H g u → Gv t σ H (fun y H' => Rep H' (.bin "plus" (.num 1) (.bin "least" g (.num 2))) y) := by
  obtain ⟨t, ht, hk⟩ := ot_m2i (P := P) (w := w) (K := K) (mg := mg) (base := base) (f := f) (cdv := cdv) (A := A) (outer := outer) (s := s) (H00 := H00) (E := E)
  exact ⟨_, pe_tup (pac pe_str (pac (pe_tup (pac pe_str (pac pe_int pa_nil))) (pac ht pa_nil))), fun σ H u g h hg => g_bin g_num (hk σ H u g h hg)⟩
theorem ot_eq : otIter = .List [otM 0, otM 1] otPos := rfl
theorem ot_ml {cdv : Value} {A : Around} {outer : List Env} {s : Shared} {H00 : Hp} {E : XK} : ∃ t, PE (cxOf CX0 P w K mg base NOt "_law_others" (defScope sOthers) f cdv A outer s H00 E).nox otIter t ∧ ∀ (σ : St) (H : Hp) (u : V) (g : Fm) (Q : VK), σ[9]? = some (some u) → Rep H g u → (∀ lm m1 m2 H', H lm = none → Same H H' → H' lm = some (.lst [m1, m2]) → Rep H' (.whn (.num 0) (.num 4) g) m1 → Rep H' (.bin "plus" (.num 1) (.bin "least" g (.num 2))) m2 → Q (.ref lm) H') → t σ H Q := by
  obtain ⟨t1, h1, k1⟩ := ot_m1 (P := P) (w := w) (K := K) (mg := mg) (base := base) (f := f) (cdv := cdv) (A := A) (outer := outer) (s := s) (H00 := H00) (E := E)
  obtain ⟨t2, h2, k2⟩ := ot_m2 (P := P) (w := w) (K := K) (mg := mg) (base := base) (f := f) (cdv := cdv) (A := A) (outer := outer) (s := s) (H00 := H00) (E := E)
  rw [ot_eq]
  have n1 : notStar (otM 0) = true := rfl
  have n2 : notStar (otM 1) = true := rfl
  generalize otM 0 = e1 at h1 n1 ⊢
  generalize otM 1 = e2 at h2 n2 ⊢
  refine ⟨_, pe_lst (pac h1 (pac h2 pa_nil n2) n1), fun σ H u g Q h hg q => ?_⟩
  refine ga_cons (k1 σ H u g h hg) (ga_cons (k2 σ H u g h hg) ga_nil) H _ (Same.refl _) fun ys H5 s5 hy => ?_
  obtain ⟨m1, _, rfl, hm1, m2, _, rfl, hm2, rfl⟩ := hy H5 (Same.refl _)
  refine ⟨(by show 2 ≤ sizeLine; decide), fun lm hlm => ?_⟩
  have s6 := same_new hlm (.lst [m1, m2])
  exact q lm m1 m2 _ (s5.free hlm) (s5.trans s6) upd_same (hm1.mono (tk_of s6)) (hm2.mono (tk_of s6))
noncomputable def otTg : Expr := match otFor with
  | .For a _ _ _ _ => a
  | _ => .Constant .none 0 ⟨0, 0, 0, 0⟩
noncomputable def otPs : Pos := match otFor with
  | .For _ _ _ _ p => p
  | _ => ⟨0, 0, 0, 0⟩
theorem ot_feq : otFor = .For otTg otIter (forBody otFor) [] otPs := rfl
theorem ot_beq : (defBody sOthers).drop 5 = otFor :: (defBody sOthers).drop 6 := rfl
theorem ot_b {cdv : Value} {A : Around} {outer : List Env} {s : Shared} {H00 : Hp} {E : XK} : ∃ t, PSs (cxOf CX0 P w K mg base NOt "_law_others" (defScope sOthers) f cdv A outer s H00 E).nox (forBody otFor) t ∧
      ∀ (D : Ends) (H0 H : Hp) (l : Addr) (c : Ot) (n : Nat) (g : Fm) (u x : V) (o11 : Option V), Bun H0 l n c H → n ≤ 10 → Rep H g x → g.wf → g.size ≤ 40 →
        (∀ H', Bun H0 l (n + 1) c H' → TK H H' → (∀ a o, H a = some o → a ≠ l → H' a = some o) → D.nx [some (.ref c.b), some (.ref c.fa), some (.str c.fr.name), some (.str c.fr.own), some (.ref c.pa), some (.ref c.ra), some (.ref l), some (.int c.r0.pl), some (.str c.r0.word), some u, some x, o11] H') → t D [some (.ref c.b), some (.ref c.fa), some (.str c.fr.name), some (.str c.fr.own), some (.ref c.pa), some (.ref c.ra), some (.ref l), some (.int c.r0.pl), some (.str c.r0.word), some u, some x, o11] H := by
  refine ⟨_, pss_one (ps_expr (pe_bm PySem.F.plainAttrs_list PySem.F.slot_list_append PySem.F.type_list_append mt_append (pv 6) (pa_cons (pe_op op_catG (pe_slice sl_tupA (pv 0) po_none (po_some pe_int)) (pe_tup (pac (pe_op op_catG (pe_slice sl_tupA (pv 1) po_none (po_some (pe_un un_neg pe_int))) (pe_tup (pac (pe_tup (pac (pv 2) (pac (pv 3) (pac (pv 4) (pac (pe_op op_catG (pe_tup (pac (pe_tup (pac (pv 7) (pac (pv 8) (pac (pv 10) pa_nil)))) pa_nil)) (pe_slice sl_tupA (pv 5) (po_some pe_int) po_none)) pa_nil))))) pa_nil))) pa_nil))) pa_nil))), ?_⟩
  intro D H0 H7 l c n g u x o11 hB7 hn hgx hgw hgz q
  have hc7 := hB7.2.2.1
  have hp3 := hc7.kfr.2.2.2.1
  exact hB7.app (by omega) rfl (g_bk hc7 rfl (g_frs hc7 rfl (g_form (ps := c.fr.parts) (g_var rfl) (g_var rfl) (g_varT rfl hc7.hp) (by omega) (g_rls hc7 rfl rfl rfl rfl hgx hgw hgz)))) q
theorem ot_t5 {cdv : Value} {A : Around} {outer : List Env} {s : Shared} {H00 : Hp} {E : XK} (G : Gb mg) (hu : (cxOf CX0 P w K mg base NOt "_law_others" (defScope sOthers) f cdv A outer s H00 E).nox.A.units < cLine) :
    ∃ t, PSs (cxOf CX0 P w K mg base NOt "_law_others" (defScope sOthers) f cdv A outer s H00 E).nox ((defBody sOthers).drop 5) t ∧
      ∀ (D : Ends) (H0 H : Hp) (l : Addr) (c : Ot) (u : V), Bun H0 l 4 c H → Rep H c.r0.fm u → c.r0.fm.wf → c.r0.fm.size ≤ 15 →
        (∀ l' xs H', H' l' = some (.lst xs) → xs.length ≤ 20 → (∀ x ∈ xs, GoodB x H') → Same H0 H' → D.rt (.ref l') H') →
        t D [some (.ref c.b), some (.ref c.fa), some (.str c.fr.name), some (.str c.fr.own), some (.ref c.pa), some (.ref c.ra), some (.ref l), some (.int c.r0.pl), some (.str c.r0.word), some u, none, none] H := by
  obtain ⟨t, ht, hnext⟩ := ot_t6 (P := P) (w := w) (K := K) (mg := mg) (base := base) (f := f) (cdv := cdv) (A := A) (outer := outer) (s := s) (H00 := H00) (E := E) G hu
  obtain ⟨tm, hml, hmk⟩ := ot_ml (P := P) (w := w) (K := K) (mg := mg) (base := base) (f := f) (cdv := cdv) (A := A) (outer := outer) (s := s) (H00 := H00) (E := E)
  obtain ⟨tb, hb, hbk⟩ := ot_b (P := P) (w := w) (K := K) (mg := mg) (base := base) (f := f) (cdv := cdv) (A := A) (outer := outer) (s := s) (H00 := H00) (E := E)
  have hs : ∀ v, foldedSetIterable otIter (cxOf CX0 P w K mg base NOt "_law_others" (defScope sOthers) f cdv A outer s H00 E).nox.env v = pure v := fun _ => rfl
  have hg : PG (cxOf CX0 P w K mg base NOt "_law_others" (defScope sOthers) f cdv A outer s H00 E).nox otTg (gName 10) := pg_name (i := 10) scOthers.nd rfl (Or.inl rfl)
  rw [ot_beq, ot_feq]
  generalize (defBody sOthers).drop 6 = b6 at ht ⊢
  generalize forBody otFor = b at hb ⊢
  generalize otIter = ie at hml hs ⊢
  generalize otTg = tg at hg ⊢
  refine ⟨_, pss_cons (ps_for PassesOwn.never rfl (pi_list hml) hg hb hs) ht, ?_⟩
  intro D H0 H4 l c u hB4 hRu hwf hsz q
  refine hmk _ H4 u c.r0.fm _ rfl hRu fun lm m1 m2 H6 hlm s6 g6 hm16 hm26 => ?_
  have hB6 := hB4.same s6
  have nlm : lm ≠ l := fun z => by
    obtain ⟨_, _, _, xs, e, _⟩ := hB4
    rw [z, e] at hlm
    cases hlm
  refine ⟨lm, rfl, ⟨_, SqL.of g6⟩, ?_⟩
  refine for_list (xs := [m1, m2]) (fun i σ H' => ∃ o10, σ = [some (.ref c.b), some (.ref c.fa), some (.str c.fr.name), some (.str c.fr.own), some (.ref c.pa), some (.ref c.ra), some (.ref l), some (.int c.r0.pl), some (.str c.r0.word), some u, o10, none] ∧ Bun H0 l (4 + i) c H' ∧ H' lm = some (.lst [m1, m2]) ∧ Rep H' (.whn (.num 0) (.num 4) c.r0.fm) m1 ∧ Rep H' (.bin "plus" (.num 1) (.bin "least" c.r0.fm (.num 2))) m2)
    ⟨none, rfl, hB6, g6, hm16, hm26⟩ (fun i σ H' _ h => by obtain ⟨_, _, _, h, _⟩ := h; exact SqL.of h) ?_ ?_
  · rintro i x σ H7 hx ⟨o10, rfl, hB7, g7, r1, r2⟩
    have hi : i < 2 := (List.getElem?_eq_some_iff.mp hx).1
    have hg : ∃ g : Fm, Rep H7 g x ∧ g.wf ∧ g.size ≤ 40 := by
      rcases (show i = 0 ∨ i = 1 by omega) with e | e
      · subst e
        cases hx
        exact ⟨_, r1, ⟨⟨by decide, by decide⟩, ⟨by decide, by decide⟩, hwf⟩, by show 1 + 1 + c.r0.fm.size + 1 ≤ 40; omega⟩
      · subst e
        cases hx
        exact ⟨_, r2, ⟨by decide +kernel, ⟨by decide, by decide⟩, by decide +kernel, hwf, ⟨by decide, by decide⟩⟩, by show 1 + (c.r0.fm.size + 1 + 1) + 1 ≤ 40; omega⟩
    obtain ⟨g, hgx, hgw, hgz⟩ := hg
    refine hbk _ H0 H7 l c (4 + i) g u x _ hB7 (by omega) hgx hgw hgz fun H8 hB8 tk8 k8 => ?_
    exact ⟨_, rfl, hB8, k8 _ _ g7 nlm, r1.mono tk8, r2.mono tk8⟩
  · rintro σ H7 ⟨o10, rfl, hB7, _⟩
    exact hnext _ H0 H7 l c 6 _ _ _ _ _ hB7 (by omega) q
theorem ot_t3 {cdv : Value} {A : Around} {outer : List Env} {s : Shared} {H00 : Hp} {E : XK} (G : Gb mg) (hu : (cxOf CX0 P w K mg base NOt "_law_others" (defScope sOthers) f cdv A outer s H00 E).nox.A.units < cLine) :
    ∃ t, PSs (cxOf CX0 P w K mg base NOt "_law_others" (defScope sOthers) f cdv A outer s H00 E).nox ((defBody sOthers).drop 3) t ∧
      ∀ (D : Ends) (H0 H : Hp) (l : Addr) (c : Ot), Bun H0 l 3 c H →
        (∀ l' xs H', H' l' = some (.lst xs) → xs.length ≤ 20 → (∀ x ∈ xs, GoodB x H') → Same H0 H' → D.rt (.ref l') H') →
        t D [some (.ref c.b), some (.ref c.fa), some (.str c.fr.name), some (.str c.fr.own), some (.ref c.pa), some (.ref c.ra), some (.ref l), none, none, none, none, none] H := by
  obtain ⟨t, ht, hnext⟩ := ot_t5 (P := P) (w := w) (K := K) (mg := mg) (base := base) (f := f) (cdv := cdv) (A := A) (outer := outer) (s := s) (H00 := H00) (E := E) G hu
  refine ⟨_, pss_cons (ps_expr (pe_bm PySem.F.plainAttrs_list PySem.F.slot_list_append PySem.F.type_list_append mt_append (pv 6) (pa_cons (pe_op op_catG (pe_slice sl_tupA (pv 0) po_none (po_some pe_int)) (pe_tup (pac (pe_op op_catG (pe_slice sl_tupA (pv 1) po_none (po_some (pe_un un_neg pe_int))) (pe_tup (pac (pe_tup (pac pe_str (pac (pv 3) (pac (pv 4) (pac (pv 5) pa_nil))))) pa_nil))) pa_nil))) pa_nil)))
    (pss_cons (ps_asg (pe_ix ix_tup (pv 5) pe_int (fun _ _ => rfl)) (pg_tup rfl (pgs_cons (pg_name (i := 7) scOthers.nd rfl (Or.inl rfl)) (pgs_cons (pg_name (i := 8) scOthers.nd rfl (Or.inl rfl)) (pgs_cons (pg_name (i := 9) scOthers.nd rfl (Or.inl rfl)) pgs_nil))))) ht), ?_⟩
  intro D H0 H l c hB q
  have hc := hB.2.2.1
  have hk := hc.kfr
  obtain ⟨k1, k2, k3, k4, k5⟩ := id hk
  rw [hc.er] at k2 k3 k5
  have lR := hc.hR.len
  refine hB.app (by omega) rfl (g_bk hc rfl (g_frs hc rfl (g_form (ps := c.fr.parts) g_c (g_var rfl) (g_varT rfl hc.hp) (by omega) ((g_varT rfl hc.hr).mono ?_)))) fun H4 hB4 tk4 _ => ?_
  · rintro y H' s' ⟨p, xs, rfl, hp, rfl⟩
    exact ⟨p, _, rfl, hp, c.r0 :: c.rs, hc.hR.mono (tk_of s'), by omega, k3, fun r hr => ⟨(k5 r hr).1, by have := (k5 r hr).2; omega⟩⟩
  have hc4 := hB4.2.2.1
  obtain ⟨ar, u, ex0, har, hRu⟩ : RepR H4 c.r0 c.x0 := by
    have h := hc4.hR
    cases h with
    | cons a t => exact a
  obtain ⟨hwf, hsz⟩ := k5 c.r0 List.mem_cons_self
  refine ⟨_, rfl, c.ra, _, 0, c.x0, rfl, rfl, SqT.of hc4.hr, atI0, ar, _, ex0, SqT.of har, rfl, _, _, rfl, _, _, rfl, _, _, rfl, rfl, ?_⟩
  exact hnext _ H0 H4 l c u hB4 hRu hwf hsz q
noncomputable def otS2 : Stmt := (defBody sOthers).getD 2 (.Pass ⟨0, 0, 0, 0⟩)
noncomputable def otE2 : Expr := match otS2 with
  | .Assign _ e _ => e
  | _ => .Constant .none 0 ⟨0, 0, 0, 0⟩
noncomputable def otG2 : List Expr := match otS2 with
  | .Assign g _ _ => g
  | _ => []
noncomputable def otP2 : Pos := match otS2 with
  | .Assign _ _ p => p
  | _ => ⟨0, 0, 0, 0⟩
noncomputable def otQ2 : Pos := match otG2 with
  | [.Name _ p] => p
  | _ => ⟨0, 0, 0, 0⟩
noncomputable def lstEs (e : Expr) : List Expr := match e with
  | .List es _ => es
  | _ => []
noncomputable def lstP (e : Expr) : Pos := match e with
  | .List _ p => p
  | _ => ⟨0, 0, 0, 0⟩
noncomputable def otX (i : Nat) : Expr := (lstEs otE2).getD i (.Constant .none 0 ⟨0, 0, 0, 0⟩)
theorem ot_s2eq : otS2 = .Assign [.Name "found" otQ2] otE2 otP2 := rfl
theorem ot_e2eq : otE2 = .List [otX 0, otX 1, otX 2] (lstP otE2) := rfl
theorem ot_b2eq : (defBody sOthers).drop 2 = otS2 :: (defBody sOthers).drop 3 := rfl
theorem ot_x1 {cdv : Value} {A : Around} {outer : List Env} {s : Shared} {H00 : Hp} {E : XK} : ∃ t, PE (cxOf CX0 P w K mg base NOt "_law_others" (defScope sOthers) f cdv A outer s H00 E).nox (otX 0) t ∧ ∀ (σ : St) (H : Hp) (ct : Ot), OC ct H → σ[0]? = some (some (.ref ct.b)) → σ[1]? = some (some (.ref ct.fa)) → Gv t σ H GoodB := by
  refine ⟨_, pe_op op_catG (pe_tup (pac pe_int pa_nil)) (pe_slice sl_tupA (pv 0) (po_some pe_int) po_none), fun σ H ct oc h0 h1 => ?_⟩
  exact (g_cat (g_tup (ga_cons g_c ga_nil) (by rintro xs H' ⟨_, _, rfl, _, rfl⟩; show 1 ≤ 100; decide)) (g_cut (g_varT h0 oc.hb) go_int go_none) (by rintro xs H' ⟨_, _, rfl, _, rfl⟩; show 1 ≤ 100; decide) (by rintro xs H' ⟨_, rfl, rfl⟩; rw [cut_tail]; show 2 ≤ 100; decide)).mono fun y H' s' h => by
      obtain ⟨p, zs, rfl, hp, _, _, rfl, ⟨_, _, rfl, rfl, rfl⟩, _, rfl, rfl⟩ := h
      rw [cut_tail] at hp
      have oc' := oc.same s'
      exact ⟨⟨7, ct.so, ct.fs ++ [ct.fr]⟩, ⟨p, ct.sa, ct.fa, _, rfl, hp, oc'.hS, oc'.hf, oc'.all⟩, ⟨oc.ok.bp.few, oc.ok.bp.s5, oc.fok⟩⟩
theorem ot_x2 {cdv : Value} {A : Around} {outer : List Env} {s : Shared} {H00 : Hp} {E : XK} : ∃ t, PE (cxOf CX0 P w K mg base NOt "_law_others" (defScope sOthers) f cdv A outer s H00 E).nox (otX 1) t ∧ ∀ (σ : St) (H : Hp) (ct : Ot), OC ct H → σ[0]? = some (some (.ref ct.b)) → σ[1]? = some (some (.ref ct.fa)) → Gv t σ H GoodB := by
  refine ⟨_, (pe_op op_catG (pe_slice sl_tupA (pv 0) po_none (po_some pe_int)) (pe_tup (pac (pe_backT (pv 1) (pe_un un_neg pe_int)) pa_nil))), fun σ H ct oc h0 h1 => ?_⟩
  have fl : (ct.fs ++ [ct.fr]).length ≤ 6 := oc.ok.f6
  exact g_bk oc h0 ((g_back (g_varT h1 oc.hf)).mono (R' := IsT GoodFs) fun y H' s' h => by
      obtain ⟨p, zs, rfl, hp, _, rfl, rfl⟩ := h
      exact ⟨p, _, rfl, hp, _, paired_rev (oc.same s').all, by rw [List.length_reverse]; omega, fun fr hfr => oc.fok fr (List.mem_reverse.mp hfr)⟩)
theorem ot_x3 {cdv : Value} {A : Around} {outer : List Env} {s : Shared} {H00 : Hp} {E : XK} : ∃ t, PE (cxOf CX0 P w K mg base NOt "_law_others" (defScope sOthers) f cdv A outer s H00 E).nox (otX 2) t ∧ ∀ (σ : St) (H : Hp) (ct : Ot), OC ct H → σ[0]? = some (some (.ref ct.b)) → σ[1]? = some (some (.ref ct.fa)) → Gv t σ H GoodB := by
  refine ⟨_, (pe_op op_catG (pe_slice sl_tupA (pv 0) po_none (po_some pe_int)) (pe_tup (pac (pe_op op_catG (pe_slice sl_tupA (pv 1) (po_some pe_int) po_none) (pe_slice sl_tupA (pv 1) po_none (po_some pe_int))) pa_nil))), fun σ H ct oc h0 h1 => ?_⟩
  have fl : (ct.fs ++ [ct.fr]).length ≤ 6 := oc.ok.f6
  obtain ⟨l5, lg⟩ := oc.len
  exact g_bk oc h0 ((g_cat (g_cut (g_varT h1 oc.hf) (go_int (k := 1)) go_none) (g_cut (g_varT h1 oc.hf) go_none (go_int (k := 1))) (by rintro xs H' ⟨_, rfl, rfl⟩; refine Nat.le_trans (cutV_length _ _ _) ?_; rw [List.length_append]; show _ + 1 ≤ 100; omega) (by rintro xs H' ⟨_, rfl, rfl⟩; refine Nat.le_trans (cutV_length _ _ _) ?_; rw [List.length_append]; show _ + 1 ≤ 100; omega)).mono (R' := IsT GoodFs) fun y H' s' h => by
      obtain ⟨p, zs, rfl, hp, _, _, rfl, ⟨_, rfl, rfl⟩, _, rfl, rfl⟩ := h
      obtain ⟨f1, p1, n1, m1⟩ := paired_cut (oc.same s').all (some 1) none
      obtain ⟨f2, p2, n2, m2⟩ := paired_cut (oc.same s').all none (some 1)
      refine ⟨p, _, rfl, hp, f1 ++ f2, Paired.app p1 p2, by rw [List.length_append]; omega, fun fr hfr => ?_⟩
      rcases List.mem_append.mp hfr with h | h
      · exact oc.fok fr (m1 fr h)
      · exact oc.fok fr (m2 fr h))
theorem ot_t2 {cdv : Value} {A : Around} {outer : List Env} {s : Shared} {H00 : Hp} {E : XK} (G : Gb mg) (hu : (cxOf CX0 P w K mg base NOt "_law_others" (defScope sOthers) f cdv A outer s H00 E).nox.A.units < cLine) :
    ∃ t, PSs (cxOf CX0 P w K mg base NOt "_law_others" (defScope sOthers) f cdv A outer s H00 E).nox ((defBody sOthers).drop 2) t ∧
      ∀ (D : Ends) (H0 : Hp) (c : Ot), OC c H0 →
        (∀ l' xs H', H' l' = some (.lst xs) → xs.length ≤ 20 → (∀ x ∈ xs, GoodB x H') → Same H0 H' → D.rt (.ref l') H') →
        t D [some (.ref c.b), some (.ref c.fa), some (.str c.fr.name), some (.str c.fr.own), some (.ref c.pa), some (.ref c.ra), none, none, none, none, none, none] H0 := by
  obtain ⟨t, ht, hnext⟩ := ot_t3 (P := P) (w := w) (K := K) (mg := mg) (base := base) (f := f) (cdv := cdv) (A := A) (outer := outer) (s := s) (H00 := H00) (E := E) G hu
  obtain ⟨t1, h1, k1⟩ := ot_x1 (P := P) (w := w) (K := K) (mg := mg) (base := base) (f := f) (cdv := cdv) (A := A) (outer := outer) (s := s) (H00 := H00) (E := E)
  obtain ⟨t2, h2, k2⟩ := ot_x2 (P := P) (w := w) (K := K) (mg := mg) (base := base) (f := f) (cdv := cdv) (A := A) (outer := outer) (s := s) (H00 := H00) (E := E)
  obtain ⟨t3, h3, k3⟩ := ot_x3 (P := P) (w := w) (K := K) (mg := mg) (base := base) (f := f) (cdv := cdv) (A := A) (outer := outer) (s := s) (H00 := H00) (E := E)
  have hs : swapsWith otE2 (some (.Name "found" otQ2)) otP2.line (cxOf CX0 P w K mg base NOt "_law_others" (defScope sOthers) f cdv A outer s H00 E).nox.env = pure false := rfl
  have n1 : notStar (otX 0) = true := rfl
  have n2 : notStar (otX 1) = true := rfl
  have n3 : notStar (otX 2) = true := rfl
  rw [ot_b2eq, ot_s2eq]
  rw [ot_e2eq] at hs ⊢
  generalize otX 0 = e1 at h1 n1 hs ⊢
  generalize otX 1 = e2 at h2 n2 hs ⊢
  generalize otX 2 = e3 at h3 n3 hs ⊢
  generalize (defBody sOthers).drop 3 = b3 at ht ⊢
  refine ⟨_, pss_cons (ps_set (i := 6) scOthers.nd rfl (Or.inl rfl) (pe_lst (pac h1 (pac h2 (pac h3 pa_nil n3) n2) n1)) hs) ht, ?_⟩
  intro D H c oc q
  unfold tSeq tAsg tLst
  refine ga_cons (k1 [some (.ref c.b), some (.ref c.fa), some (.str c.fr.name), some (.str c.fr.own), some (.ref c.pa), some (.ref c.ra), none, none, none, none, none, none] H c oc rfl rfl) (ga_cons (k2 [some (.ref c.b), some (.ref c.fa), some (.str c.fr.name), some (.str c.fr.own), some (.ref c.pa), some (.ref c.ra), none, none, none, none, none, none] H c oc rfl rfl) (ga_cons (k3 [some (.ref c.b), some (.ref c.fa), some (.str c.fr.name), some (.str c.fr.own), some (.ref c.pa), some (.ref c.ra), none, none, none, none, none, none] H c oc rfl rfl) ga_nil)) H _ (Same.refl _) fun ys H5 s5 hy => ?_
  obtain ⟨y1, _, rfl, h1, y2, _, rfl, h2, y3, _, rfl, h3, rfl⟩ := hy H5 (Same.refl _)
  refine ⟨(by show 3 ≤ sizeLine; decide), fun l hl => ?_⟩
  have s6 := same_new hl (.lst [y1, y2, y3])
  have S6 := s5.trans s6
  refine hnext _ H _ l _ ⟨S6, s5.free hl, oc.same S6, _, upd_same, by show 3 ≤ 3; decide, fun x hx => ?_⟩ q
  rcases List.mem_cons.mp hx with h | hx
  · rw [h]; exact h1.mono (tk_of s6)
  rcases List.mem_cons.mp hx with h | hx
  · rw [h]; exact h2.mono (tk_of s6)
  rcases List.mem_cons.mp hx with h | hx
  · rw [h]; exact h3.mono (tk_of s6)
  · cases hx
theorem ok_others (F : Fun K "_law_others" "_law_others" sOthers f fd) (G : Gb mg) : FnOk P w K mg base CX0 1 f fd ["book"] spOthers := by
  refine F.ok scOthers (fun vs H Q E h => ?_) (fun cdv A outer s H vs Q E hr h => ?_)
  · obtain ⟨bv, bk, rfl, _⟩ := h
    rfl
  obtain ⟨bv, bk, rfl, hB, hok, q⟩ := h
  have hu := Nat.lt_of_le_of_lt (Nat.le_add_right _ 16) (hu_of hr)
  obtain ⟨t, ht, hnext⟩ := ot_t2 (P := P) (w := w) (K := K) (mg := mg) (base := base) (f := f) (cdv := cdv) (A := A) (outer := outer) (s := s) (H00 := H) (E := E) G hu
  refine ⟨_, pss_cons (ps_set (i := 1) scOthers.nd rfl (Or.inl rfl) (pe_ix ix_tup (pv 0) pe_int (fun _ _ => rfl)))
    (pss_cons (ps_asg (pe_ix ix_tup (pv 1) (pe_un un_neg pe_int) (fun _ _ => rfl)) (pg_tup rfl (pgs_cons (pg_name (i := 2) scOthers.nd rfl (Or.inl rfl)) (pgs_cons (pg_name (i := 3) scOthers.nd rfl (Or.inl rfl)) (pgs_cons (pg_name (i := 4) scOthers.nd rfl (Or.inl rfl)) (pgs_cons (pg_name (i := 5) scOthers.nd rfl (Or.inl rfl)) pgs_nil)))))) ht), ?_⟩
  obtain ⟨b, sa, fa, fv, rfl, hb, hSA, hfa, hF⟩ := id hB
  obtain ⟨wh, so, fos⟩ := bk
  cases (show wh = 0 from hok.w)
  obtain ⟨fs, fr, gs, x, e1, e2, hFs, ⟨c, pa, ra, rv, ex, hc, hpa, hra, hRr⟩⟩ := paired_lastP hF hok.f1
  cases (show fos = fs ++ [fr] from e1)
  subst e2 ex
  have hkf : FrK fr := hok.fo _ (List.mem_append.mpr (.inr List.mem_cons_self))
  obtain ⟨r0, rs, er⟩ : ∃ r0 rs, fr.rules = r0 :: rs := by
    have := hkf.1
    cases he : fr.rules with
    | nil => rw [he] at this; exact absurd this (Nat.not_succ_le_zero 0)
    | cons a b => exact ⟨a, b, rfl⟩
  obtain ⟨x0, xs, erv⟩ : ∃ x0 xs, rv = x0 :: xs := by
    have := hRr.len
    rw [er] at this
    cases rv with
    | nil => exact absurd this (Nat.succ_ne_zero _)
    | cons a b => exact ⟨a, b, rfl⟩
  rw [er] at hRr
  subst erv
  have oc : OC ⟨b, sa, fa, pa, ra, so, fs, gs, fr, c, r0, rs, x0, xs⟩ H := ⟨hb, hSA, hfa, hFs, hc, hpa, hra, hRr, er, hok⟩
  refine ⟨_, rfl, b, _, 2, .ref fa, rfl, rfl, SqT.of hb, atI_nat (j := 2) rfl, _, rfl, 1, rfl, fa, _, -1, .ref c, rfl, rfl, SqT.of hfa, atI_last _ _, c, _, rfl, SqT.of hc, rfl, _, _, rfl, _, _, rfl, _, _, rfl, _, _, rfl, rfl, ?_⟩
  exact hnext _ H ⟨b, sa, fa, pa, ra, so, fs, gs, fr, c, r0, rs, x0, xs⟩ oc q
end
end My
namespace My
open PySem L2
theorem tgFrom_nilP {k : Int} : ∀ {qs : List Srt}, (∀ q ∈ qs, q.downs = []) → tgFrom k qs = []
  | [], _ => rfl
  | q :: r, h => by
    show q.downs.map (fun x => (k, x)) ++ tgFrom (k + 1) r = []
    rw [h q List.mem_cons_self, tgFrom_nilP fun x hx => h x (List.mem_cons_of_mem _ hx)]
    rfl
noncomputable def Bk.pr (bk : Bk) : BkP := ⟨bk.wheel, bk.sorts, bk.forms.map fun fr => ⟨fr.name, fr.own.name, fr.parts.map Srt.name, fr.rules⟩⟩
theorem RepB.pr {H : Hp} {bk : Bk} {v : V} (h : RepB H bk v) : RepBP H bk.pr v := by
  obtain ⟨a, sa, fa, fv, e, h1, h2, h3, h4⟩ := h
  refine ⟨a, sa, fa, fv, e, h1, h2, h3, paired_map_l (Paired.mapP h4 fun fr v ⟨a, pa, ra, rv, e, h1, h2, h3, h4⟩ => ⟨a, pa, ra, rv, e, h1, ?_, h3, h4⟩)⟩
  rw [h2]
  show some (HO.tup (fr.parts.map fun q => V.str (Srt.name q))) = some (HO.tup ((fr.parts.map Srt.name).map V.str))
  rw [List.map_map]
  rfl
theorem BkV.pr {bk : Bk} (h : BkV bk) (hd : ∀ s ∈ bk.sorts, s.downs = []) : BpOk bk.pr := by
  have hs := h.s
  refine ⟨?_, ?_, fun fr hfr => ?_⟩
  · show (bk.forms.map _).length ≤ 20
    rw [List.length_map]
    have := hs.few
    omega
  · have := hs.s4
    show bk.sorts.length ≤ 20
    omega
  · obtain ⟨f, hf, rfl⟩ := List.mem_map.mp hfr
    obtain ⟨h1, h2, h3, h4, h5⟩ := hs.fo f hf
    refine ⟨hs.rules12 hf, ?_, ?_, fun r hr => ⟨(h5 r hr).1, by have := (h5 r hr).2; omega⟩⟩
    · show (f.rules.map fun r => (r.pl, r.word)).Nodup
      rw [h4]
      unfold tgts
      rw [tgFrom_nilP fun q hq => hd q (h2 q hq), List.append_nil]
      have nd := (hs.ws _ h1).2.2.1
      rw [hd _ h1, List.nil_append] at nd
      exact List.Pairwise.map _ (fun a b (hab : a ≠ b) e => hab (Prod.mk.inj e).2) nd
    · show (f.parts.map Srt.name).length ≤ 10
      rw [List.length_map]
      omega
noncomputable def spLaw (K : PySem.W.Frag) : Sp := fun vs H Q _ => ∃ (a : Addr) (ns : List Int), vs = [.ref a] ∧ SqL K H a (ns.map V.int) ∧ ns.length ≤ 63 ∧ ∀ H', Q (.bl true) H'
section
variable {P : Program} {w : World} {K : PySem.W.Frag} {mg : Str → Option Value} {base : Heap} {f f2 f3 f4 f5 f6 f7 f8 f9 : Addr} {fd fd2 fd3 fd4 fd5 fd6 fd7 fd8 fd9 : FuncData}
noncomputable abbrev NLaw : List Str := ["script", "one", "other", "few", "level", "some", "book", "second"]
theorem scLaw : FnScope NLaw ["script"] (defScope sLawP) := ⟨rfl, rfl, rfl, by decide +kernel, rfl, by decide +kernel, by decide +kernel⟩
theorem ok_law (F : Fun K "law" "law" sLawP f fd)
    (GB : FnOk P w K mg base CX0 20 f2 fd2 ["script", "start"] (spLBooks K)) (bB : Binds K fd2 ["script", "start"] []) (kB : PySem.W.keepIn K (.ref f2) = true) (mB : mg "_law_books" = some (.ref f2))
    (GL : FnOk P w K mg base CX0 12 f3 fd3 ["script", "start", "ups", "signs"] (spLvBook K)) (bL : Binds K fd3 ["script", "start", "ups", "signs"] []) (kL : PySem.W.keepIn K (.ref f3) = true) (mL : mg "_law_level_book" = some (.ref f3))
    (GO : FnOk P w K mg base CX0 1 f4 fd4 ["book"] (spOthers)) (bO : Binds K fd4 ["book"] []) (kO : PySem.W.keepIn K (.ref f4) = true) (mO : mg "_law_others" = some (.ref f4))
    (GS : FnOk P w K mg base CX0 1 f5 fd5 ["found", "due"] (spSameB)) (bS : Binds K fd5 ["found", "due"] []) (kS : PySem.W.keepIn K (.ref f5) = true) (mS : mg "_law_same" = some (.ref f5))
    (GP : FnOk P w K mg base CX0 5 f6 fd6 ["book"] (spPlain)) (bP : Binds K fd6 ["book"] []) (kP : PySem.W.keepIn K (.ref f6) = true) (mP : mg "is_plain" = some (.ref f6))
    (GQ : FnOk P w K mg base CX0 1 f7 fd7 ["book"] (spPlain)) (bQ : Binds K fd7 ["book"] []) (kQ : PySem.W.keepIn K (.ref f7) = true) (mQ : mg "_law_plain_due" = some (.ref f7))
    (GU : FnOk P w K mg base CX0 3 f8 fd8 ["one", "other"] (spBd2)) (bU : Binds K fd8 ["one", "other"] []) (kU : PySem.W.keepIn K (.ref f8) = true) (mU : mg "of_one_build" = some (.ref f8))
    (GW : FnOk P w K mg base CX0 1 f9 fd9 ["one", "other"] (spBd2)) (bW : Binds K fd9 ["one", "other"] []) (kW : PySem.W.keepIn K (.ref f9) = true) (mW : mg "_law_build_due" = some (.ref f9)) :
    FnOk P w K mg base CX0 21 f fd ["script"] (spLaw K) := by
  refine F.ok scLaw (fun vs H Q E h => ?_) (fun cdv A outer s H vs Q E hr h => ?_)
  · obtain ⟨a, ns, rfl, _⟩ := h
    rfl
  obtain ⟨a, ns, rfl, hS, hlen, q⟩ := h
  have hr1 := hr.mono (show 1 ≤ 20 by decide)
  have hr3 := hr.mono (show 3 ≤ 20 by decide)
  have hr5 := hr.mono (show 5 ≤ 20 by decide)
  have hr12 := hr.mono (show 12 ≤ 20 by decide)
  refine ⟨_, pss_cons (ps_asg (pe_call GB hr rfl mB kB bB .nil pass0 (pa_cons (pv 0) (pa_cons pe_int pa_nil))) (pg_tup rfl (pgs_cons (pg_name (i := 1) scLaw.nd rfl (Or.inl rfl)) (pgs_cons (pg_name (i := 2) scLaw.nd rfl (Or.inl rfl)) (pgs_cons (pg_name (i := 3) scLaw.nd rfl (Or.inl rfl)) pgs_nil)))))
    (pss_cons (ps_set (i := 4) scLaw.nd rfl (Or.inl rfl) (pe_call GL hr12 rfl mL kL bL .nil pass0 (pa_cons (pv 0) (pa_cons pe_int (pa_cons pe_int (pa_cons (pe_lst (pac pe_str (pac pe_str (pac pe_str (pac pe_str pa_nil))))) pa_nil))))))
    (pss_cons (ps_set (i := 5) scLaw.nd rfl (Or.inl rfl) (pe_op op_cat (pe_lst (pac (pv 1) (pac (pv 2) (pac (pv 4) pa_nil)))) (pe_call GO hr1 rfl mO kO bO .nil pass0 (pa_cons (pv 1) pa_nil))))
    (pss_cons (ps_for PassesOwn.never rfl (pi_list (pv 5)) (pg_name (i := 6) scLaw.nd rfl (Or.inl rfl))
      (pss_cons (ps_if (pt_not (pt_val (pe_call GS hr1 rfl mS kS bS .nil pass0 (pa_cons (pe_call GP hr5 rfl mP kP bP .nil pass0 (pa_cons (pv 6) pa_nil)) (pa_cons (pe_call GQ hr1 rfl mQ kQ bQ .nil pass0 (pa_cons (pv 6) pa_nil)) pa_nil))))) pss_never pss_nil)
      (pss_one (ps_for PassesOwn.never rfl (pi_list (pe_lst (pac (pv 1) (pac (pv 2) pa_nil)))) (pg_name (i := 7) scLaw.nd rfl (Or.inl rfl))
        (pss_cons (ps_if (pt_not (pt_val (pe_call GS hr1 rfl mS kS bS .nil pass0 (pa_cons (pe_call GU hr3 rfl mU kU bU .nil pass0 (pa_cons (pv 6) (pa_cons (pv 7) pa_nil))) (pa_cons (pe_call GW hr1 rfl mW kW bW .nil pass0 (pa_cons (pv 6) (pa_cons (pv 7) pa_nil))) pa_nil))))) pss_never pss_nil)
        (pss_one (ps_if (pt_not (pt_val (pe_call GS hr1 rfl mS kS bS .nil pass0 (pa_cons (pe_call GU hr3 rfl mU kU bU .nil pass0 (pa_cons (pv 7) (pa_cons (pv 6) pa_nil))) (pa_cons (pe_call GW hr1 rfl mW kW bW .nil pass0 (pa_cons (pv 7) (pa_cons (pv 6) pa_nil))) pa_nil))))) pss_never pss_nil)))))))
    (pss_one (ps_ret pe_bl))))), ?_⟩
  refine ⟨_, rfl, a, ns, 0, rfl, hS, hlen, by decide, by decide, fun p u1 u2 c k1 k2 H1 g1 hB1 hk1 hB2 hk2 s1 => ?_⟩
  refine ⟨p, _, rfl, SqT.of g1, rfl, _, _, rfl, _, _, rfl, _, _, rfl, rfl, ?_⟩
  refine ⟨_, rfl, (by show 4 ≤ sizeLine; decide), fun sg hsg => ?_⟩
  have s2 := same_new hsg (.lst [.str "plus", .str "times", .str "least", .str "most"])
  have g2 : (upd H1 sg (.lst [.str "plus", .str "times", .str "least", .str "most"])) sg = some (.lst (([("plus" : Str), "times", "least", "most"] : List Str).map V.str)) := upd_same
  generalize upd H1 sg (.lst [.str "plus", .str "times", .str "least", .str "most"]) = H2 at s2 g2 ⊢
  have S2 := s1.trans s2
  refine ⟨a, sg, ns, 14, 2, _, rfl, S2.seq hS, hlen, by decide, by decide, by decide, by decide, g2, by decide, by decide, fun x hx => by revert x; decide +kernel, fun lv bk H3 hB hok hw0 hdn hup s3 => ?_⟩
  have S13 := s2.trans s3
  refine ⟨_, rfl, _, rfl, _, rfl, (by show 3 ≤ sizeLine; decide), fun p4 hp4 => ?_⟩
  have s4 := same_new hp4 (.lst [u1, u2, lv])
  have g4 : (upd H3 p4 (.lst [u1, u2, lv])) p4 = some (.lst [u1, u2, lv]) := upd_same
  generalize upd H3 p4 (.lst [u1, u2, lv]) = H4 at s4 g4 ⊢
  have S14 := S13.trans s4
  refine ⟨_, rfl, u1, k1, rfl, hB1.mono (tk_of S14), hk1, fun l xs H5 g5 l5 hx5 s5 => ?_⟩
  have S15 := S14.trans s5
  refine ⟨p4, l, _, xs, rfl, rfl, s5 _ _ g4, g5, Nat.le_of_lt (small1000 (by show 3 + _ ≤ 1000; omega)), fun p6 hp6 => ?_⟩
  have s6 := same_new hp6 (.lst ([u1, u2, lv] ++ xs))
  have g6 : (upd H5 p6 (.lst ([u1, u2, lv] ++ xs))) p6 = some (.lst ([u1, u2, lv] ++ xs)) := upd_same
  generalize upd H5 p6 (.lst ([u1, u2, lv] ++ xs)) = H6 at s6 g6 ⊢
  have S16 := S15.trans s6
  have gd1 : GoodB u1 H6 := ⟨k1, hB1.mono (tk_of S16), hk1.bp⟩
  have gd2 : GoodB u2 H6 := ⟨k2, hB2.mono (tk_of S16), hk2.bp⟩
  have gd3 : GoodB lv H6 := ⟨bk.pr, hB.pr.mono (tk_of (s4.trans (s5.trans s6))), hok.pr hdn⟩
  have gda : ∀ x ∈ [u1, u2, lv] ++ xs, GoodB x H6 := fun x hx => by
    rcases List.mem_append.mp hx with h | h
    · rcases List.mem_cons.mp h with h | h
      · rw [h]; exact gd1
      rcases List.mem_cons.mp h with h | h
      · rw [h]; exact gd2
      · rw [List.mem_singleton.mp h]; exact gd3
    · exact (hx5 x h).mono (tk_of s6)
  generalize [u1, u2, lv] ++ xs = ys at g6 gda ⊢
  refine ⟨_, rfl, p6, rfl, ⟨_, SqL.of g6⟩, ?_⟩
  refine for_list (xs := ys) (fun i σ H' => ∃ o6 o7, σ = [some (.ref a), some u1, some u2, some (.bl c), some lv, some (.ref p6), o6, o7] ∧ Same H6 H') ⟨none, none, rfl, Same.refl _⟩ (fun i σ H' _ h => by obtain ⟨_, _, _, h⟩ := h; exact SqL.of (h _ _ g6)) ?_ ?_
  · rintro i x σ H7 hx ⟨o6, o7, rfl, s7⟩
    obtain ⟨k, hk, ho⟩ := (gda x (List.mem_of_getElem? hx)).mono (tk_of s7)
    refine ⟨_, rfl, x, k, rfl, hk, ho, fun H8 s8 => ⟨_, rfl, x, k, rfl, hk.mono (tk_of s8), ho, fun H9 s9 => ⟨_, rfl, fun H10 s10 => ⟨true, rfl, iteF ?_⟩⟩⟩⟩
    have S10 := s8.trans (s9.trans s10)
    refine ⟨_, rfl, _, rfl, (by show 2 ≤ sizeLine; decide), fun p11 hp11 => ?_⟩
    have s11 := same_new hp11 (.lst [u1, u2])
    have g11 : (upd H10 p11 (.lst [u1, u2])) p11 = some (.lst [u1, u2]) := upd_same
    generalize upd H10 p11 (.lst [u1, u2]) = H11 at s11 g11 ⊢
    have S11 := S10.trans s11
    refine ⟨p11, rfl, ⟨_, SqL.of g11⟩, ?_⟩
    refine for_list (xs := [u1, u2]) (fun j σ H' => ∃ o7, σ = [some (.ref a), some u1, some u2, some (.bl c), some lv, some (.ref p6), some x, o7] ∧ Same H11 H') ⟨_, rfl, Same.refl _⟩ (fun i σ H' _ h => by obtain ⟨_, _, h⟩ := h; exact SqL.of (h _ _ g11)) ?_ ?_
    · rintro j y σ H12 hy ⟨o7, rfl, s12⟩
      have S12 := S11.trans s12
      have hgy : GoodB y H12 := by
        have := List.mem_of_getElem? hy
        rcases List.mem_cons.mp this with h | h
        · rw [h]; exact gd1.mono (tk_of (s7.trans S12))
        · rw [List.mem_singleton.mp h]; exact gd2.mono (tk_of (s7.trans S12))
      obtain ⟨k', hk', ho'⟩ := hgy
      have hk2 := hk.mono (tk_of S12)
      refine ⟨_, rfl, _, rfl, x, y, k, k', rfl, hk2, hk', ho, ho', fun H13 s13 => ⟨_, rfl, _, rfl, x, y, k, k', rfl, hk2.mono (tk_of s13), hk'.mono (tk_of s13), ho, ho', fun H14 s14 => ⟨_, rfl, fun H15 s15 => ⟨true, rfl, iteF ?_⟩⟩⟩⟩
      have S15 := s13.trans (s14.trans s15)
      have hk5 := hk2.mono (tk_of S15)
      have hk5' := hk'.mono (tk_of S15)
      refine ⟨_, rfl, _, rfl, y, x, k', k, rfl, hk5', hk5, ho', ho, fun H16 s16 => ⟨_, rfl, _, rfl, y, x, k', k, rfl, hk5'.mono (tk_of s16), hk5.mono (tk_of s16), ho', ho, fun H17 s17 => ⟨_, rfl, fun H18 s18 => ⟨true, rfl, iteF ?_⟩⟩⟩⟩
      exact ⟨_, rfl, s12.trans (S15.trans (s16.trans (s17.trans s18)))⟩
    · rintro σ H12 ⟨o7, rfl, s12⟩
      exact ⟨_, _, rfl, s7.trans (S11.trans s12)⟩
  · rintro σ H7 ⟨o6, o7, rfl, s7⟩
    exact q _
end
end My
namespace My
open PySem L2
theorem dtab_mk {P : Program} {w : World} {K : PySem.W.Frag} {aD : Addr} {h1 h2 h3 h4 h5 h6 : Int} {t1 t2 t3 t4 t5 t6 u1 u2 u3 u4 u5 u6 : Tok} {ep : Nat}
    (lD : K.lookup aD = some ⟨.type "dict", none, .dict #[⟨h1, .str "plus" t1, .int 2 u1⟩, ⟨h2, .str "less" t2, .int 2 u2⟩, ⟨h3, .str "times" t3, .int 2 u3⟩, ⟨h4, .str "least" t4, .int 2 u4⟩, ⟨h5, .str "most" t5, .int 2 u5⟩, ⟨h6, .str "when" t6, .int 3 u6⟩] ep, #[]⟩)
    (e1 : h1 = hashStr w "plus") (e2 : h2 = hashStr w "less") (e3 : h3 = hashStr w "times") (e4 : h4 = hashStr w "least") (e5 : h5 = hashStr w "most") (e6 : h6 = hashStr w "when") (nD : (aD == sysModules) = false) : DTab P w K aD icKvs := by
  refine ⟨nD, fun h X => ⟨[(.inr "plus", .int 2 u1), (.inr "less", .int 2 u2), (.inr "times", .int 2 u3), (.inr "least", .int 2 u4), (.inr "most", .int 2 u5), (.inr "when", .int 3 u6)], ?_, ?_⟩⟩
  · exact .cons ⟨rfl, _, rfl⟩ (.cons ⟨rfl, _, rfl⟩ (.cons ⟨rfl, _, rfl⟩ (.cons ⟨rfl, _, rfl⟩ (.cons ⟨rfl, _, rfl⟩ (.cons ⟨rfl, _, rfl⟩ .nil)))))
  · refine ⟨_, _, _, X _ _ lD, ⟨rfl, rfl, rfl⟩, rfl, ?_, ?_, by dsimp only [List.map]; decide +kernel⟩
    · intro e he
      simp only [List.mem_toArray, List.mem_cons, List.not_mem_nil, or_false] at he
      rcases he with rfl | rfl | rfl | rfl | rfl | rfl
      · exact ⟨.inr "plus", keyIs_str "plus" t1, e1⟩
      · exact ⟨.inr "less", keyIs_str "less" t2, e2⟩
      · exact ⟨.inr "times", keyIs_str "times" t3, e3⟩
      · exact ⟨.inr "least", keyIs_str "least" t4, e4⟩
      · exact ⟨.inr "most", keyIs_str "most" t5, e5⟩
      · exact ⟨.inr "when", keyIs_str "when" t6, e6⟩
    · exact .cons (keyIs_str "plus" t1) rfl (.cons (keyIs_str "less" t2) rfl (.cons (keyIs_str "times" t3) rfl (.cons (keyIs_str "least" t4) rfl (.cons (keyIs_str "most" t5) rfl (.cons (keyIs_str "when" t6) rfl .nil)))))
theorem binds1 {α : Type} {l : List α} (h : l.length = 1) : ∃ a, l = [a] := by
  match l, h with
  | [a], _ => exact ⟨a, rfl⟩
theorem binds2 {α : Type} {l : List α} (h : l.length = 2) : ∃ a b, l = [a, b] := by
  match l, h with
  | [a, b], _ => exact ⟨a, b, rfl⟩
theorem binds3 {α : Type} {l : List α} (h : l.length = 3) : ∃ a b c, l = [a, b, c] := by
  match l, h with
  | [a, b, c], _ => exact ⟨a, b, c, rfl⟩
theorem binds4 {α : Type} {l : List α} (h : l.length = 4) : ∃ a b c d, l = [a, b, c, d] := by
  match l, h with
  | [a, b, c, d], _ => exact ⟨a, b, c, d, rfl⟩
theorem binds5 {α : Type} {l : List α} (h : l.length = 5) : ∃ a b c d e, l = [a, b, c, d, e] := by
  match l, h with
  | [a, b, c, d, e], _ => exact ⟨a, b, c, d, e, rfl⟩
theorem binds6 {α : Type} {l : List α} (h : l.length = 6) : ∃ a b c d e f, l = [a, b, c, d, e, f] := by
  match l, h with
  | [a, b, c, d, e, f], _ => exact ⟨a, b, c, d, e, f, rfl⟩
theorem plain_mk {K : PySem.W.Frag} {aR : Addr} {od : Option Addr} {sl : Array (Option Value)} {t1 t2 t3 t4 t5 : Tok} {m : Nat} (l : K.lookup aR = some ⟨.type "tuple", od, .seq #[.str "num" t1, .str "part" t2, .str "plus" t3, .str "less" t4, .str "times" t5] m, sl⟩) : ∀ H, SqT K H aR (plainK.map V.str) :=
  fun H => .inr ⟨_, _, _, l, rfl, rfl, (show 5 ≤ sizeLine by decide), .cons ⟨_, rfl⟩ (.cons ⟨_, rfl⟩ (.cons ⟨_, rfl⟩ (.cons ⟨_, rfl⟩ (.cons ⟨_, rfl⟩ .nil))))⟩
/-- what is told of a def -/
structure Df (K : PySem.W.Frag) (nm : Str) (st : Stmt) (f : Addr) (fd : FuncData) : Prop where
  a : PySem.W.nsIn K mainGlobals nm = some (some (.ref f))
  k : PySem.W.keepIn K (.ref f) = true
  F : Fun K nm nm st f fd
theorem Df.m {K : PySem.W.Frag} {nm : Str} {st : Stmt} {f : Addr} {fd : FuncData} {h : Heap} {mg : Str → Option Value} (d : Df K nm st f fd) (X : K.In h) (G : h.Ns mainGlobals mg) : mg nm = some (.ref f) := PySem.W.mg_of X G d.a
theorem Df.of {K : PySem.W.Frag} {nm : Str} {st : Stmt} {f : Addr} {oc : Value} {od an : Option Addr} {osl : Array (Option Value)} {kV doc pm cdv ct : Value} (a : PySem.W.nsIn K mainGlobals nm = some (some (.ref f))) (k : PySem.W.keepIn K (.ref f) = true)
    (l : K.lookup f = some ⟨oc, od, .func (PySem.W.fnOf nm nm (defArgs st) (defBody st) (defScope st) .none kV doc pm an cdv ct), osl⟩) (c : PySem.W.codeIn K cdv nm = true) : Df K nm st f (PySem.W.fnOf nm nm (defArgs st) (defBody st) (defScope st) .none kV doc pm an cdv ct) :=
  ⟨a, k, ⟨⟨oc, od, kV, doc, pm, an, cdv, ct, osl, rfl, l, c⟩, k⟩⟩
theorem all_mk {l : PySem.W.OpenLaw} {w : World} {K : PySem.W.Frag} {h : Heap} {mg : Str → Option Value} {fa aD aR f1 f2 f3 f4 f5 f6 f7 f8 f9 f10 f11 f12 f13 f14 f15 f16 f17 f18 f19 f20 f21 f22 f23 f24 f25 f26 f27 f28 f29 f30 f31 f32 f33 f34 f35 : Addr} {r1 r2 r3 r4 r5 r6 r7 r8 r9 r10 r11 r12 r13 r14 r15 r16 r17 r18 r19 r20 r21 r22 r23 r24 r25 r26 r27 r28 r29 r30 r31 r32 r33 r34 r35 : FuncData} (X : K.In h) (G : h.Ns mainGlobals mg) (hfa : mg "law" = some (.ref fa))
    {odR : Option Addr} {slR : Array (Option Value)} {w1 w2 w3 w4 w5 t1 t2 t3 t4 t5 t6 u1 u2 u3 u4 u5 u6  : Tok} {h1 h2 h3 h4 h5 h6 : Int} {ep mR : Nat}
    (d1 : Df K "inner_of" sInner f1 r1)
    (d2 : Df K "tuples_of" sTuples f2 r2)
    (d3 : Df K "wheel_of" sWheelOf f3 r3)
    (d4 : Df K "sorts_of" sSortsOf f4 r4)
    (d5 : Df K "forms_of" sFormsOf f5 r5)
    (d6 : Df K "rules_of" sRulesOf f6 r6)
    (d7 : Df K "formulas_by_key" sByKey f7 r7)
    (d8 : Df K "is_plain" sPlain f8 r8)
    (d9 : Df K "is_plain_form" sPlainForm f9 r9)
    (d10 : Df K "is_plain_formula" sPlainF f10 r10)
    (d11 : Df K "of_one_build" sOneBuild f11 r11)
    (d12 : Df K "build_of" sBuildOf f12 r12)
    (d13 : Df K "_law_cell_at" sCell f13 r13)
    (d14 : Df K "_law_tape" sTape f14 r14)
    (d15 : Df K "_law_digit" sDigit f15 r15)
    (d16 : Df K "_law_names" sNames f16 r16)
    (d17 : Df K "_law_number" sNumber f17 r17)
    (d18 : Df K "_law_leaf" sLeaf f18 r18)
    (d19 : Df K "_law_same" sSame f19 r19)
    (d20 : Df K "_law_size" sLSize f20 r20)
    (d21 : Df K "_law_level_formula" sLvFormula f21 r21)
    (d22 : Df K "_law_level_sorts" sLvSorts f22 r22)
    (d23 : Df K "_law_level_book" sLvBook f23 r23)
    (d24 : Df K "_law_build" sLBuild f24 r24)
    (d25 : Df K "_law_plain_of" sPlainOf f25 r25)
    (d26 : Df K "_law_turned_formula" sTurnedF f26 r26)
    (d27 : Df K "_law_told_otherwise" sOtherwise f27 r27)
    (d28 : Df K "_law_one_more" sOneMore f28 r28)
    (d29 : Df K "_law_least" sLLeast f29 r29)
    (d30 : Df K "_law_may_be_great" sMayBe f30 r30)
    (d31 : Df K "_law_books" sLBooks f31 r31)
    (d32 : Df K "_law_plain_due" sPlainDue f32 r32)
    (d33 : Df K "_law_build_due" sBuildDue f33 r33)
    (d34 : Df K "_law_others" sOthers f34 r34)
    (d35 : Df K "law" sLawP f35 r35)
    (z1 : PySem.W.nsIn K mainGlobals "isinstance" = some none)
    (z2 : PySem.W.nsIn K mainGlobals "int" = some none)
    (z3 : PySem.W.nsIn K mainGlobals "bool" = some none)
    (z4 : PySem.W.nsIn K mainGlobals "str" = some none)
    (z5 : PySem.W.nsIn K mainGlobals "tuple" = some none)
    (z6 : PySem.W.nsIn K mainGlobals "len" = some none)
    (z7 : PySem.W.nsIn K mainGlobals "all" = some none)
    (z8 : PySem.W.nsIn K mainGlobals "range" = some none)
    (z9 : PySem.W.nsIn K mainGlobals "max" = some none)
    (z10 : PySem.W.nsIn K mainGlobals "min" = some none)
    (z11 : PySem.W.nsIn K mainGlobals "list" = some none)
    (z12 : PySem.W.nsIn K mainGlobals "sum" = some none)
    (aI : PySem.W.nsIn K mainGlobals "INNER_COUNTS" = some (some (.ref aD)))
    (lD : K.lookup aD = some ⟨.type "dict", none, .dict #[⟨h1, .str "plus" t1, .int 2 u1⟩, ⟨h2, .str "less" t2, .int 2 u2⟩, ⟨h3, .str "times" t3, .int 2 u3⟩, ⟨h4, .str "least" t4, .int 2 u4⟩, ⟨h5, .str "most" t5, .int 2 u5⟩, ⟨h6, .str "when" t6, .int 3 u6⟩] ep, #[]⟩)
    (e1 : h1 = hashStr w "plus")    (e2 : h2 = hashStr w "less")    (e3 : h3 = hashStr w "times")    (e4 : h4 = hashStr w "least")    (e5 : h5 = hashStr w "most")    (e6 : h6 = hashStr w "when")
    (nD : (aD == sysModules) = false)
    (aQ : PySem.W.nsIn K mainGlobals "PLAIN_KINDS" = some (some (.ref aR))) (lR : K.lookup aR = some ⟨.type "tuple", odR, .seq #[.str "num" w1, .str "part" w2, .str "plus" w3, .str "less" w4, .str "times" w5] mR, slR⟩) :
    ∃ fd : FuncData, (∀ (s : Shared) (v : Value), BindsTo s fd ⟨[v], []⟩ [("script", v)]) ∧ ∀ base : Heap, K.In base → base.Ns mainGlobals mg → FnOk l.prog w K mg base CX0 21 fa fd ["script"] (spLaw K) := by
  have e := hfa.symm.trans (d35.m X G)
  cases e
  have b1 := d1.F.binds (ps := ["formula"]) fun _ _ _ _ _ _ us hl => by obtain ⟨x, rfl⟩ := binds1 hl; rfl
  have m1 := d1.m X G
  have b2 := d2.F.binds (ps := ["formula"]) fun _ _ _ _ _ _ us hl => by obtain ⟨x, rfl⟩ := binds1 hl; rfl
  have m2 := d2.m X G
  have b3 := d3.F.binds (ps := ["book"]) fun _ _ _ _ _ _ us hl => by obtain ⟨x, rfl⟩ := binds1 hl; rfl
  have m3 := d3.m X G
  have b4 := d4.F.binds (ps := ["book"]) fun _ _ _ _ _ _ us hl => by obtain ⟨x, rfl⟩ := binds1 hl; rfl
  have m4 := d4.m X G
  have b5 := d5.F.binds (ps := ["book"]) fun _ _ _ _ _ _ us hl => by obtain ⟨x, rfl⟩ := binds1 hl; rfl
  have m5 := d5.m X G
  have b6 := d6.F.binds (ps := ["form"]) fun _ _ _ _ _ _ us hl => by obtain ⟨x, rfl⟩ := binds1 hl; rfl
  have m6 := d6.m X G
  have b7 := d7.F.binds (ps := ["form"]) fun _ _ _ _ _ _ us hl => by obtain ⟨x, rfl⟩ := binds1 hl; rfl
  have m7 := d7.m X G
  have b8 := d8.F.binds (ps := ["book"]) fun _ _ _ _ _ _ us hl => by obtain ⟨x, rfl⟩ := binds1 hl; rfl
  have m8 := d8.m X G
  have b9 := d9.F.binds (ps := ["form"]) fun _ _ _ _ _ _ us hl => by obtain ⟨x, rfl⟩ := binds1 hl; rfl
  have m9 := d9.m X G
  have b10 := d10.F.binds (ps := ["formula"]) fun _ _ _ _ _ _ us hl => by obtain ⟨x, rfl⟩ := binds1 hl; rfl
  have m10 := d10.m X G
  have b11 := d11.F.binds (ps := ["one", "other"]) fun _ _ _ _ _ _ us hl => by obtain ⟨x, y, rfl⟩ := binds2 hl; rfl
  have m11 := d11.m X G
  have b12 := d12.F.binds (ps := ["book"]) fun _ _ _ _ _ _ us hl => by obtain ⟨x, rfl⟩ := binds1 hl; rfl
  have m12 := d12.m X G
  have b13 := d13.F.binds (ps := ["script", "k"]) fun _ _ _ _ _ _ us hl => by obtain ⟨x, y, rfl⟩ := binds2 hl; rfl
  have m13 := d13.m X G
  have b14 := d14.F.binds (ps := ["script", "k"]) fun _ _ _ _ _ _ us hl => by obtain ⟨x, y, rfl⟩ := binds2 hl; rfl
  have m14 := d14.m X G
  have b15 := d15.F.binds (ps := ["tape", "many"]) fun _ _ _ _ _ _ us hl => by obtain ⟨x, y, rfl⟩ := binds2 hl; rfl
  have m15 := d15.m X G
  have b16 := d16.F.binds (ps := ["tape", "many"]) fun _ _ _ _ _ _ us hl => by obtain ⟨x, y, rfl⟩ := binds2 hl; rfl
  have m16 := d16.m X G
  have b17 := d17.F.binds (ps := ["tape"]) fun _ _ _ _ _ _ us hl => by obtain ⟨x, rfl⟩ := binds1 hl; rfl
  have m17 := d17.m X G
  have b18 := d18.F.binds (ps := ["tape", "readings"]) fun _ _ _ _ _ _ us hl => by obtain ⟨x, y, rfl⟩ := binds2 hl; rfl
  have m18 := d18.m X G
  have b19 := d19.F.binds (ps := ["found", "due"]) fun _ _ _ _ _ _ us hl => by obtain ⟨x, y, rfl⟩ := binds2 hl; rfl
  have m19 := d19.m X G
  have b20 := d20.F.binds (ps := ["formula"]) fun _ _ _ _ _ _ us hl => by obtain ⟨x, rfl⟩ := binds1 hl; rfl
  have m20 := d20.m X G
  have b21 := d21.F.binds (ps := ["tape", "readings", "room", "signs"]) fun _ _ _ _ _ _ us hl => by obtain ⟨x, y, z, u, rfl⟩ := binds4 hl; rfl
  have m21 := d21.m X G
  have b22 := d22.F.binds (ps := ["tape", "ups"]) fun _ _ _ _ _ _ us hl => by obtain ⟨x, y, rfl⟩ := binds2 hl; rfl
  have m22 := d22.m X G
  have b23 := d23.F.binds (ps := ["script", "start", "ups", "signs"]) fun _ _ _ _ _ _ us hl => by obtain ⟨x, y, z, u, rfl⟩ := binds4 hl; rfl
  have m23 := d23.m X G
  have b24 := d24.F.binds (ps := ["tape", "many", "most"]) fun _ _ _ _ _ _ us hl => by obtain ⟨x, y, z, rfl⟩ := binds3 hl; rfl
  have m24 := d24.m X G
  have b25 := d25.F.binds (ps := ["script", "start", "build", "most"]) fun _ _ _ _ _ _ us hl => by obtain ⟨x, y, z, u, rfl⟩ := binds4 hl; rfl
  have m25 := d25.m X G
  have b26 := d26.F.binds (ps := ["tape", "formula", "tables"]) fun _ _ _ _ _ _ us hl => by obtain ⟨x, y, z, rfl⟩ := binds3 hl; rfl
  have m26 := d26.m X G
  have b27 := d27.F.binds (ps := ["tape", "book"]) fun _ _ _ _ _ _ us hl => by obtain ⟨x, y, rfl⟩ := binds2 hl; rfl
  have m27 := d27.m X G
  have b28 := d28.F.binds (ps := ["tape", "book"]) fun _ _ _ _ _ _ us hl => by obtain ⟨x, y, rfl⟩ := binds2 hl; rfl
  have m28 := d28.m X G
  have b29 := d29.F.binds (ps := ["book"]) fun _ _ _ _ _ _ us hl => by obtain ⟨x, rfl⟩ := binds1 hl; rfl
  have m29 := d29.m X G
  have b30 := d30.F.binds (ps := ["one", "other", "same"]) fun _ _ _ _ _ _ us hl => by obtain ⟨x, y, z, rfl⟩ := binds3 hl; rfl
  have m30 := d30.m X G
  have b31 := d31.F.binds (ps := ["script", "start"]) fun _ _ _ _ _ _ us hl => by obtain ⟨x, y, rfl⟩ := binds2 hl; rfl
  have m31 := d31.m X G
  have b32 := d32.F.binds (ps := ["book"]) fun _ _ _ _ _ _ us hl => by obtain ⟨x, rfl⟩ := binds1 hl; rfl
  have m32 := d32.m X G
  have b33 := d33.F.binds (ps := ["one", "other"]) fun _ _ _ _ _ _ us hl => by obtain ⟨x, y, rfl⟩ := binds2 hl; rfl
  have m33 := d33.m X G
  have b34 := d34.F.binds (ps := ["book"]) fun _ _ _ _ _ _ us hl => by obtain ⟨x, rfl⟩ := binds1 hl; rfl
  have m34 := d34.m X G
  have Gb0 : Gb mg := ⟨PySem.W.mg_none_of X G z1, PySem.W.mg_none_of X G z2, PySem.W.mg_none_of X G z3, PySem.W.mg_none_of X G z4, PySem.W.mg_none_of X G z5, PySem.W.mg_none_of X G z6, PySem.W.mg_none_of X G z7, PySem.W.mg_none_of X G z8, PySem.W.mg_none_of X G z9, PySem.W.mg_none_of X G z10⟩
  have D : DTab l.prog w K aD icKvs := dtab_mk lD e1 e2 e3 e4 e5 e6 nD
  have mI := PySem.W.mg_of X G aI
  have mQ := PySem.W.mg_of X G aQ
  have hR := plain_mk lR
  have v11 := PySem.W.mg_none_of X G z11
  have v12 := PySem.W.mg_none_of X G z12
  have F35 := d35.F
  obtain ⟨_, _, kV, dc, pm, an, cd, ct, _, rfl, _, _⟩ := d35.F.ex
  refine ⟨PySem.W.fnOf "law" "law" (defArgs sLawP) (defBody sLawP) (defScope sLawP) .none kV dc pm an cd ct, fun s v => .of_eq rfl, fun base _ _ => ?_⟩
  have g_inner := ok_inner (base := base) d1.F mI D
  have g_tuples := ok_tuples d2.F g_inner b1 d1.k m1
  have g_wheelP := ok_WheelP (P := l.prog) (w := w) (mg := mg) (base := base) d3.F
  have g_sortsP := ok_SortsP (P := l.prog) (w := w) (mg := mg) (base := base) d4.F
  have g_formsP := ok_FormsP (P := l.prog) (w := w) (mg := mg) (base := base) d5.F
  have g_rulesP := ok_RulesP (P := l.prog) (w := w) (mg := mg) (base := base) d6.F
  have g_byKeyP := ok_byKeyP d7.F g_rulesP b6 d6.k m6
  have g_plainF := ok_plainF d10.F Gb0 mQ hR g_tuples b2 d2.k m2
  have g_plainForm := ok_plainForm d9.F Gb0 g_byKeyP b7 d7.k m7 g_plainF b10 d10.k m10
  have g_plain := ok_plain d8.F Gb0 g_wheelP b3 d3.k m3 g_formsP b5 d5.k m5 g_plainForm b9 d9.k m9
  have g_buildOf := ok_buildOf d12.F g_sortsP b4 d4.k m4 g_formsP b5 d5.k m5
  have g_oneBuild := ok_oneBuild d11.F g_buildOf b12 d12.k m12
  have g_buildDue := ok_buildDue (P := l.prog) (w := w) (mg := mg) (base := base) d33.F
  have g_same := ok_sameB (P := l.prog) (w := w) (mg := mg) (base := base) d19.F Gb0 v11
  have g_plainDue := ok_plainDue (P := l.prog) (w := w) (mg := mg) (base := base) d32.F
  have g_lsize := ok_lSize (P := l.prog) (w := w) (mg := mg) (base := base) d20.F v12 b20 m20 17
  have g_least := ok_leastP (P := l.prog) (w := w) (mg := mg) (base := base) d29.F Gb0 v12
  have g_mayBe := ok_mayBe d30.F Gb0 g_least b29 d29.k m29
  have g_cell := ok_cell (P := l.prog) (w := w) (base := base) d13.F Gb0
  have g_tape := ok_tape d14.F g_cell b13 d13.k m13
  have g_digit := ok_digit (P := l.prog) (w := w) (mg := mg) (base := base) d15.F
  have g_names := ok_namesX d16.F Gb0 g_digit b15 d15.k m15
  have g_number := ok_number d17.F g_digit b15 d15.k m15
  have g_leaf := fun ρ => ok_leafP (ρ := ρ) d18.F Gb0 g_digit b15 d15.k m15 g_number b17 d17.k m17
  have g_leafA := FnOk.exA g_leaf
  have g_lvF := ok_lvF d21.F Gb0 g_digit b15 d15.k m15 g_leafA b18 d18.k m18 b21 m21 8
  have g_lvS := ok_lvSorts d22.F Gb0 g_digit b15 d15.k m15 g_names b16 d16.k m16
  have g_lvB := ok_lvBook d23.F Gb0 g_digit b15 d15.k m15 g_lvF b21 d21.k m21 g_tape b14 d14.k m14 g_lvS b22 d22.k m22 g_names b16 d16.k m16
  have g_build := ok_lBuild d24.F Gb0 g_digit b15 d15.k m15 g_names b16 d16.k m16
  have g_plainOf := ok_plainOf d25.F Gb0 g_digit b15 d15.k m15 g_names b16 d16.k m16 g_tape b14 d14.k m14 g_lvF b21 d21.k m21
  have g_turned := ok_turned d26.F g_digit b15 d15.k m15 b26 m26 11
  have g_otherwise := ok_otherwise d27.F Gb0 g_turned b26 d26.k m26
  have g_oneMore := ok_oneMore d28.F Gb0 v11 g_digit b15 d15.k m15 g_lsize b20 d20.k m20
  have g_books := ok_lBooks d31.F g_oneMore b28 d28.k m28 g_mayBe b30 d30.k m30 g_digit b15 d15.k m15 g_plainOf b25 d25.k m25 g_otherwise b27 d27.k m27 g_build b24 d24.k m24 g_tape b14 d14.k m14
  have g_others := ok_others (P := l.prog) (w := w) (mg := mg) (base := base) d34.F Gb0
  exact ok_law F35 g_books b31 d31.k m31 g_lvB b23 d23.k m23 g_others b34 d34.k m34 g_same b19 d19.k m19 g_plain b8 d8.k m8 g_plainDue b32 d32.k m32 g_oneBuild b11 d11.k m11 g_buildDue b33 d33.k m33
theorem walk {l : PySem.W.OpenLaw} {q : Program} {loose : List Str} {XP : (Str → Option Value) → Heap → Prop} {YP : World → Heap → Prop} {d : DefRec} {K : Params → PySem.W.Frag} (hn : l.most = some 63) (hdf : d.params.defaults = [])
    (hY : ∀ (w : World) (h : Heap), YP w h → (K w.params).In h)
    (F : ∀ (w : World) (mg : Str → Option Value) (fa : Addr) (h : Heap), (K w.params).In h → h.Ns mainGlobals mg → mg d.name = some (.ref fa) →
      ∃ fd : FuncData, (∀ (s : Shared) (u : Value), BindsTo s fd ⟨[u], []⟩ [("script", u)]) ∧ ∀ base : Heap, (K w.params).In base → base.Ns mainGlobals mg → FnOk l.prog w (K w.params) mg base CX0 21 fa fd ["script"] (spLaw (K w.params))) :
    PySem.W.WalkO q loose XP YP l.row.toRowW d [] (fun f vs => PySem.call f vs) :=
  L2.walk_of (n := 63) (k := 21) (x := "script") (CX := fun _ => CX0) (sp := fun w => spLaw (K w.params)) hn (by decide) hdf ⟨rfl, by decide, by decide⟩ hY F (fun _ _ a ns hl _ hS => ⟨a, ns, rfl, hS, hl, fun _ => rfl⟩) fun _ _ _ _ _ z => z
end My
open PySem PySem.W PyProof.Rows
set_option maxRecDepth 100000 in
set_option maxHeartbeats 0 in
theorem PySem.Challenge.cw_boughworth_k60_plain_books_and_builds_holds : PySem.Challenge.rw_boughworth_k60_plain_books_and_builds.Holds := by
  refine My.parts.c My.parts.a0 My.parts.a1 My.parts.e0 My.parts.e1 My.parts.b0 My.parts.b1 ?_
  delta My.parts
  dsimp only
  k_fill
  refine My.walk (l := PySem.Challenge.rw_boughworth_k60_plain_books_and_builds) rfl rfl (fun w h Y => PySem.W.kIn_of Y) ?F
  case F =>
    intro w mg fa h KX G hmg
    refine' My.all_mk KX G hmg ?d1 ?d2 ?d3 ?d4 ?d5 ?d6 ?d7 ?d8 ?d9 ?d10 ?d11 ?d12 ?d13 ?d14 ?d15 ?d16 ?d17 ?d18 ?d19 ?d20 ?d21 ?d22 ?d23 ?d24 ?d25 ?d26 ?d27 ?d28 ?d29 ?d30 ?d31 ?d32 ?d33 ?d34 ?d35 ?z1 ?z2 ?z3 ?z4 ?z5 ?z6 ?z7 ?z8 ?z9 ?z10 ?z11 ?z12 ?aI ?lD ?e1 ?e2 ?e3 ?e4 ?e5 ?e6 ?nD ?aQ ?lR
    (case d1 => exact My.Df.of (by k_is) (by k_is) (by k_is) (by k_is))
    (case d2 => exact My.Df.of (by k_is) (by k_is) (by k_is) (by k_is))
    (case d3 => exact My.Df.of (by k_is) (by k_is) (by k_is) (by k_is))
    (case d4 => exact My.Df.of (by k_is) (by k_is) (by k_is) (by k_is))
    (case d5 => exact My.Df.of (by k_is) (by k_is) (by k_is) (by k_is))
    (case d6 => exact My.Df.of (by k_is) (by k_is) (by k_is) (by k_is))
    (case d7 => exact My.Df.of (by k_is) (by k_is) (by k_is) (by k_is))
    (case d8 => exact My.Df.of (by k_is) (by k_is) (by k_is) (by k_is))
    (case d9 => exact My.Df.of (by k_is) (by k_is) (by k_is) (by k_is))
    (case d10 => exact My.Df.of (by k_is) (by k_is) (by k_is) (by k_is))
    (case d11 => exact My.Df.of (by k_is) (by k_is) (by k_is) (by k_is))
    (case d12 => exact My.Df.of (by k_is) (by k_is) (by k_is) (by k_is))
    (case d13 => exact My.Df.of (by k_is) (by k_is) (by k_is) (by k_is))
    (case d14 => exact My.Df.of (by k_is) (by k_is) (by k_is) (by k_is))
    (case d15 => exact My.Df.of (by k_is) (by k_is) (by k_is) (by k_is))
    (case d16 => exact My.Df.of (by k_is) (by k_is) (by k_is) (by k_is))
    (case d17 => exact My.Df.of (by k_is) (by k_is) (by k_is) (by k_is))
    (case d18 => exact My.Df.of (by k_is) (by k_is) (by k_is) (by k_is))
    (case d19 => exact My.Df.of (by k_is) (by k_is) (by k_is) (by k_is))
    (case d20 => exact My.Df.of (by k_is) (by k_is) (by k_is) (by k_is))
    (case d21 => exact My.Df.of (by k_is) (by k_is) (by k_is) (by k_is))
    (case d22 => exact My.Df.of (by k_is) (by k_is) (by k_is) (by k_is))
    (case d23 => exact My.Df.of (by k_is) (by k_is) (by k_is) (by k_is))
    (case d24 => exact My.Df.of (by k_is) (by k_is) (by k_is) (by k_is))
    (case d25 => exact My.Df.of (by k_is) (by k_is) (by k_is) (by k_is))
    (case d26 => exact My.Df.of (by k_is) (by k_is) (by k_is) (by k_is))
    (case d27 => exact My.Df.of (by k_is) (by k_is) (by k_is) (by k_is))
    (case d28 => exact My.Df.of (by k_is) (by k_is) (by k_is) (by k_is))
    (case d29 => exact My.Df.of (by k_is) (by k_is) (by k_is) (by k_is))
    (case d30 => exact My.Df.of (by k_is) (by k_is) (by k_is) (by k_is))
    (case d31 => exact My.Df.of (by k_is) (by k_is) (by k_is) (by k_is))
    (case d32 => exact My.Df.of (by k_is) (by k_is) (by k_is) (by k_is))
    (case d33 => exact My.Df.of (by k_is) (by k_is) (by k_is) (by k_is))
    (case d34 => exact My.Df.of (by k_is) (by k_is) (by k_is) (by k_is))
    (case d35 => exact My.Df.of (by k_is) (by k_is) (by k_is) (by k_is))
    (case z1 => k_is)
    (case z2 => k_is)
    (case z3 => k_is)
    (case z4 => k_is)
    (case z5 => k_is)
    (case z6 => k_is)
    (case z7 => k_is)
    (case z8 => k_is)
    (case z9 => k_is)
    (case z10 => k_is)
    (case z11 => k_is)
    (case z12 => k_is)
    (case aI => k_is)
    (case lD => k_is)
    (case e1 => first | rfl | k_is)
    (case e2 => first | rfl | k_is)
    (case e3 => first | rfl | k_is)
    (case e4 => first | rfl | k_is)
    (case e5 => first | rfl | k_is)
    (case e6 => first | rfl | k_is)
    (case nD => first | rfl | decide | k_is)
    (case aQ => k_is)
    (case lR => k_is)
