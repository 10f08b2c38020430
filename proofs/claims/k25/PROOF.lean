import PyProof.Rows.All
import Wide.All
import OpenK.AllK
import Wide.FinOn
import HandS.ForMost
import HandS.Wide
import HandS.More
import HandS.IsInst
import HandS.StrMore
import HandS.TupSets
import HandS.SetFor
import KE.SortData
import HandS.SetKeys
import HandS.SetBool
import HandS.DictComp
import HandS.Iter
import KE.GoesMore
import HandS.Words
import HandS.ExcOwn
import HandS.OwnEq
import KE.KExcSuper
import HandS.ForExc
import HandS.FStr
import HandS.ExcInit
import HandS.ExcField
import HandS.Steps
import HandS.Walk
import HandS.Codes
import HandS.BoundDict
import HandS.TupAny
import HandS.Zip
import HandS.NoneIn
import HandS.MethStar
import HandS.IterNext
import HandS.OwnIter
import HandS.MakeKwOnly
import HandS.Ends
import KE.KStateDown
import PySem.Challenge.RW_allbrokers_k25_whole_watchers
set_option Elab.async false
set_option linter.all false
set_option maxRecDepth 100000
section
/-! The law's own drawing of numbers. -/
namespace K1
open PySem L2
def top (i : Nat) : Stmt := PySem.Challenge.pw_allbrokers_k25_whole_watchers.main.body.getD i (.Pass ⟨0, 0, 0, 0⟩)
abbrev sDraw : Stmt := top 31

/-! ### the mathematics -/
def rowOf (ns : List Int) : List Int := if ns = [] then [7] else ns.take 60
def cellAt (ns : List Int) (p : Int) : Int := (rowOf ns).getD (p % ((rowOf ns).length : Int)).toNat 0
def turnAt (ns : List Int) (p : Int) : Int := p / ((rowOf ns).length : Int)
/-- the number drawn at a place -/
def draw (ns : List Int) (p m : Int) : Int :=
  if 10 ^ 18 ≤ cellAt ns p then (cellAt ns p % 97 ^ 40 / 97 ^ (turnAt ns p % 40).toNat) % 97 % m
  else ((((cellAt ns p + 31 * turnAt ns p) % 1000003 + 977 * p + 13) * 48271 + cellAt ns p / 1000003 % 999983) % 2147483647 * 65537 % 4294967291) % m
theorem draw_lt (ns : List Int) (p : Int) {m : Int} (h : 0 < m) : 0 ≤ draw ns p m ∧ draw ns p m < m := by
  unfold draw
  split
  · exact ⟨Int.emod_nonneg _ (by omega), Int.emod_lt_of_pos _ h⟩
  · exact ⟨Int.emod_nonneg _ (by omega), Int.emod_lt_of_pos _ h⟩
theorem row_pos (ns : List Int) : 0 < (rowOf ns).length := by
  unfold rowOf
  split
  · decide
  · rename_i h
    rw [List.length_take]
    have : 0 < ns.length := List.length_pos_iff.mpr h
    omega
theorem row_le (ns : List Int) : (rowOf ns).length ≤ 60 := by
  unfold rowOf
  split
  · decide
  · rw [List.length_take]; omega
theorem eqv_ints_nil (ns : List Int) : PyData.eqv (.list (ns.map .int)) (.list []) = decide (ns = []) := by
  cases ns <;> rfl
/-! ### the promise -/
def spDraw (K : PySem.W.Frag) : Sp := fun vs H Q _ => ∃ (a : Addr) (ns : List Int) (p m : Int), vs = [.ref a, .int p, .int m] ∧ SqL K H a (ns.map V.int) ∧ ns.length ≤ 63 ∧ 0 ≤ p ∧ p ≤ 100000 ∧ 0 < m ∧
  ∀ H', Same H H' → Q (.int (draw ns p m)) H'
theorem dp_ints {K : PySem.W.Frag} {H : Hp} : ∀ ns : List Int, DpAll K H (ns.map V.int) (ns.map .int)
  | [] => .nil
  | n :: ns => .cons (.int n) (dp_ints ns)
theorem canLay_ints : ∀ ns : List Int, PyData.canLayAll0 (ns.map .int) = true
  | [] => rfl
  | n :: ns => by
    show (PyData.canLay0 (.int n) && PyData.canLayAll0 (ns.map .int)) = true
    rw [canLay_ints ns]; rfl
theorem depth_ints : ∀ ns : List Int, PyData.depthAll (ns.map .int) = 0
  | [] => rfl
  | n :: ns => by rw [List.map_cons, PyData.depthAll, depth_ints ns]; rfl
theorem shaped_ints (ns : List Int) : SeqAt.shaped (.list (ns.map .int)) = true := by
  unfold SeqAt.shaped
  have e1 : PyData.canLay0 (.list (ns.map .int)) = true := canLay_ints ns
  have e2 : PyData.depth (.list (ns.map .int)) = 1 := by show PyData.depthAll _ + 1 = 1; rw [depth_ints]
  rw [e1, e2]; rfl
theorem same_new {H : Hp} {p : Addr} {o : HO} (h : H p = none) : Same H (upd H p o) := fun b u e => by rw [upd_ne (ne_of_none e h)]; exact e
theorem cut_ints (ns : List Int) : cutV (ns.map V.int) none (some 60) = (ns.take 60).map V.int := by
  unfold cutV
  show (List.take (min (60 : Int).toNat _ - 0) (List.drop 0 _)) = _
  rw [List.drop_zero, List.length_map, Nat.sub_zero, ← List.map_take]
  show List.map V.int (List.take (min 60 ns.length) ns) = _
  congr 1
  rcases Nat.le_total 60 ns.length with h | h
  · rw [Nat.min_eq_left h]
  · rw [Nat.min_eq_right h, List.take_length, List.take_of_length_le h]
/-- row = script[:60] if script != [] else [7] -/
theorem reads_row {K : PySem.W.Frag} {σ : L2.St} {H : Hp} {R : VK} {a : Addr} {ns : List Int} (hσ : σ[0]? = some (some (V.ref a))) (hS : SqL K H a (ns.map V.int))
    (h : ∀ l H', Same H H' → H' l = some (.lst ((rowOf ns).map V.int)) → R (.ref l) H') :
    tIf (tTest (tOp (rNeD K) (tVar 0) (tLst tNil))) (tSl (rSlL K) (tVar 0) tNoPart (tPart (tC (V.int 60)))) (tLst (tCons (tC (V.int 7)) tNil)) σ H R := by
  refine ⟨_, hσ, Nat.zero_le _, fun l hl => ?_⟩
  have s1 := same_new (o := .lst []) hl
  refine ⟨.list (ns.map .int), .list [], .lst (s1.seq hS) (dp_ints ns), .lst (SqL.of upd_same) .nil, shaped_ints ns, rfl, _, rfl, ?_⟩
  rw [eqv_ints_nil]
  rcases Decidable.em (ns = []) with e | e
  · rw [decide_eq_true e]
    refine iteF ⟨by show 1 ≤ sizeLine; decide, fun l2 hl2 => h l2 _ (s1.trans (same_new hl2)) ?_⟩
    rw [upd_same]; unfold rowOf; rw [if_pos e]; rfl
  · rw [decide_eq_false e]
    refine iteT ⟨_, hσ, _, rfl, a, _, rfl, s1.seq hS, fun l2 hl2 => h l2 _ (s1.trans (same_new hl2)) ?_⟩
    rw [upd_same, cut_ints]; unfold rowOf; rw [if_neg e]
theorem div_pow (x : Int) (j : Nat) : x / 97 ^ j / 97 = x / 97 ^ (j + 1) := by
  rw [Int.ediv_ediv_of_nonneg (Int.pow_nonneg (by decide)), Int.pow_succ]
structure TxtL (mg : Str → Option Value) : Prop where
  len : mg "len" = none
  int : mg "int" = none
  range : mg "range" = none
section
variable {P : Program} {w : World} {K : PySem.W.Frag} {mg : Str → Option Value} {base : Heap}
abbrev nDraw : List Str := ["script", "at", "many", "row", "cell", "turn", "step", "mixed"]
theorem scDraw : FnScope nDraw ["script", "at", "many"] (defScope sDraw) := ⟨rfl, rfl, rfl, by decide +kernel, rfl, by decide +kernel, by decide +kernel⟩
theorem ok_draw {f : Addr} {fd : FuncData} (F : Fun K "_law_draw" "_law_draw" sDraw f fd) (T : TxtL mg) : FnOk P w K mg base CX0 1 f fd ["script", "at", "many"] (spDraw K) := by
  refine F.ok scDraw (fun vs H Q E h => ?_) (fun cdv A outer s H vs Q E hr h => ?_)
  · obtain ⟨a, ns, p, m, rfl, _⟩ := h
    rfl
  · obtain ⟨a, ns, p, m, rfl, hS, hl, p0, p1, m0, k⟩ := h
    have hu := hr.units
    have nd := scDraw.nd
    refine ⟨_, (pss_cons (ps_set (i := 3) nd rfl (Or.inl rfl) (pe_ifExp (pt_cmpR (op_neD hu) (pv 0) (pe_lst pa_nil) (nomark _)) (pe_slice sl_list (pv 0) po_none (po_some pe_int)) (pe_lst (pa_cons pe_int pa_nil))))
      (pss_cons (ps_par (i := 4) (j := 5) (by rfl) nd rfl rfl (by decide) rfl rfl (pa_cons (pe_ix ix_list (pv 3) (pe_op op_mod (pv 1) (pe_callB call_len_seq (by rfl) T.len PySem.boot_len (pa_cons (pv 3) pa_nil))) (fun _ _ => rfl)) (pa_cons (pe_op op_fdiv (pv 1) (pe_callB call_len_seq (by rfl) T.len PySem.boot_len (pa_cons (pv 3) pa_nil))) pa_nil)) (by rfl))
      (pss_cons (ps_if (pt_cmpR op_ge (pv 4) (pe_op op_pow pe_int pe_int) (nomark _))
        (pss_cons (ps_set (i := 4) nd rfl (Or.inl rfl) (pe_op op_mod (pe_callTy call_int1 (by rfl) T.int PyProof.Rows.boot_int (pa_cons (pv 4) pa_nil)) (pe_op op_pow pe_int pe_int)))
        (pss_cons (ps_for PassesOwn.never rfl (pi_range1 (by rfl) T.range (pa_cons (pe_op op_mod (pv 5) pe_int) pa_nil)) (pg_name (i := 6) nd rfl (Or.inl rfl))
          (pss_one (ps_set (i := 4) nd rfl (Or.inl rfl) (pe_op op_fdiv (pv 4) pe_int))))
        (pss_one (ps_ret (pe_op op_mod (pe_op op_mod (pe_callTy call_int1 (by rfl) T.int PyProof.Rows.boot_int (pa_cons (pv 4) pa_nil)) pe_int) (pv 2))))))
        pss_nil)
      (pss_cons (ps_set (i := 7) nd rfl (Or.inl rfl) (pe_op op_add (pe_op op_mul (pe_op op_add (pe_op op_add (pe_op op_mod (pe_callTy call_int1 (by rfl) T.int PyProof.Rows.boot_int (pa_cons (pe_op op_add (pv 4) (pe_op op_mul pe_int (pv 5))) pa_nil)) pe_int) (pe_op op_mul pe_int (pv 1))) pe_int) pe_int) (pe_op op_mod (pe_callTy call_int1 (by rfl) T.int PyProof.Rows.boot_int (pa_cons (pe_op op_fdiv (pv 4) pe_int) pa_nil)) pe_int)))
      (pss_one (ps_ret (pe_op op_mod (pe_callTy call_int1 (by rfl) T.int PyProof.Rows.boot_int (pa_cons (pe_op op_mod (pe_op op_mul (pe_op op_mod (pv 7) pe_int) pe_int) pe_int) pa_nil)) (pv 2)))))))), ?_⟩
    refine reads_row rfl hS fun l H1 s1 hrow => ?_
    have rp := row_pos ns
    have rl := row_le ns
    have rp' : (0 : Int) < ((rowOf ns).length : Int) := by omega
    have m1 : 0 ≤ p % ((rowOf ns).length : Int) := Int.emod_nonneg _ (by omega)
    have m2 : p % ((rowOf ns).length : Int) < ((rowOf ns).length : Int) := Int.emod_lt_of_pos _ rp'
    have hcell : atI ((rowOf ns).map V.int) (p % ((rowOf ns).length : Int)) = some (V.int (cellAt ns p)) := by
      have e : p % ((rowOf ns).length : Int) = ((p % ((rowOf ns).length : Int)).toNat : Int) := by omega
      rw [e]
      refine atI_nat ?_
      have hlt : (p % ((rowOf ns).length : Int)).toNat < (rowOf ns).length := by omega
      rw [List.getElem?_map, List.getElem?_eq_getElem hlt]
      unfold cellAt
      rw [List.getD_eq_getElem?_getD, List.getElem?_eq_getElem hlt]; rfl
    have hlen : (((rowOf ns).map V.int).length : Int) = ((rowOf ns).length : Int) := by rw [List.length_map]
    have t0 : 0 ≤ turnAt ns p := Int.ediv_nonneg p0 (by omega)
    have t1 : turnAt ns p ≤ 100000 := Int.le_trans (Int.ediv_le_self _ p0) p1
    have hcell' : atI ((rowOf ns).map V.int) (p % (((rowOf ns).map V.int).length : Int)) = some (V.int (cellAt ns p)) := by rw [hlen]; exact hcell
    refine ⟨_, rfl, _, rfl, _, rfl, l, _, rfl, .inl (SqL.of hrow), _, _, rfl, rfl, (by rw [hlen]; exact rp'), l, _, _, _, rfl, rfl, SqL.of hrow, hcell', ?_⟩
    refine ⟨_, rfl, _, rfl, l, _, rfl, .inl (SqL.of hrow), _, _, rfl, rfl, ⟨by rw [hlen]; exact rp', by rw [hlen]; omega⟩, _, _, rfl, ?_⟩
    rw [hlen]
    show (tSeq _ _ : TS) _ [some (V.ref a), some (V.int p), some (V.int m), some (V.ref l), some (V.int (cellAt ns p)), some (V.int (turnAt ns p)), none, none] H1
    refine ⟨_, rfl, _, _, rfl, rfl, ⟨by decide, by decide, by decide⟩, _, _, rfl, rfl, _, rfl, ?_⟩
    have e18 : (10 : Int) ^ (18 : Int).toNat = 10 ^ 18 := rfl
    rw [e18]
    rcases Decidable.em ((10 : Int) ^ 18 ≤ cellAt ns p) with hc | hc
    · rw [decide_eq_true hc]
      refine iteT ?_
      refine ⟨_, rfl, .inl ⟨_, rfl, _, _, rfl, rfl, ⟨by decide, by decide, by decide⟩, _, _, rfl, rfl, (show (0 : Int) < 97 ^ (40 : Int).toNat by decide), ?_⟩⟩
      have e40 : (97 : Int) ^ (40 : Int).toNat = 97 ^ 40 := rfl
      rw [e40]
      refine ⟨_, rfl, _, _, rfl, rfl, (show (0 : Int) < 40 by decide), _, rfl, ?_, ?_, ?_⟩
      · have := Int.emod_nonneg (turnAt ns p) (b := 40) (by decide); omega
      · have := Int.emod_lt_of_pos (turnAt ns p) (b := 40) (by decide); omega
      · refine for_range (lo := 0) (n := (turnAt ns p % 40).toNat) (fun j σ H' => ∃ v : Option V, σ = [some (V.ref a), some (V.int p), some (V.int m), some (V.ref l), some (V.int (cellAt ns p % 97 ^ 40 / 97 ^ j)), some (V.int (turnAt ns p)), v, none] ∧ Same H H') ⟨none, by rw [Int.pow_zero, Int.ediv_one]; rfl, s1⟩ ?_ ?_
        · rintro j σ H' hj ⟨v, rfl, s2⟩
          refine ⟨_, rfl, _, _, rfl, rfl, ⟨by decide, by decide⟩, some (V.int (0 + j)), ?_, s2⟩
          rw [← div_pow]; rfl
        · rintro σ H' ⟨v, rfl, s2⟩
          refine ⟨_, rfl, .inl ⟨_, rfl, _, _, rfl, rfl, (show (0 : Int) < 97 by decide), _, rfl, _, _, rfl, rfl, m0, ?_⟩⟩
          have e := k H' s2
          unfold draw at e
          rw [if_pos hc] at e
          exact e
    · rw [decide_eq_false hc]
      refine iteF ?_
      have w1 := Int.emod_nonneg (cellAt ns p + 31 * turnAt ns p) (b := 1000003) (by decide)
      have w2 := Int.emod_lt_of_pos (cellAt ns p + 31 * turnAt ns p) (b := 1000003) (by decide)
      have w3 := Int.emod_nonneg (cellAt ns p / 1000003) (b := 999983) (by decide)
      have w4 := Int.emod_lt_of_pos (cellAt ns p / 1000003) (b := 999983) (by decide)
      refine ⟨_, rfl, _, rfl, _, _, rfl, rfl, .inl ⟨by decide, by decide⟩, _, _, rfl, rfl, .inl ⟨_, rfl, _, _, rfl, rfl, (show (0 : Int) < 1000003 by decide), ?_⟩⟩
      refine ⟨_, rfl, _, _, rfl, rfl, .inl ⟨by decide, by decide⟩, _, _, rfl, rfl, _, _, rfl, rfl, _, _, rfl, rfl, .inr ⟨by decide, by decide⟩, ?_⟩
      refine ⟨_, rfl, _, _, rfl, rfl, ⟨by decide, by decide⟩, .inl ⟨_, rfl, _, _, rfl, rfl, (show (0 : Int) < 999983 by decide), _, _, rfl, rfl, ?_⟩⟩
      refine ⟨_, rfl, _, _, rfl, rfl, (show (0 : Int) < 2147483647 by decide), _, _, rfl, rfl, .inr ⟨by decide, by decide⟩, _, _, rfl, rfl, (show (0 : Int) < 4294967291 by decide), .inl ⟨_, rfl, _, rfl, _, _, rfl, rfl, m0, ?_⟩⟩
      have e := k H1 s1
      unfold draw at e
      rw [if_neg hc] at e
      exact e
end
end K1
end
section
/-! The law's drawn machines. -/
namespace K1
open PySem L2
abbrev sMach : Stmt := top 32
/-- a step: from, kind, word, to -/
structure Stp where
  a : Int
  k : Str
  s : Str
  g : Int
  deriving DecidableEq
def stepV (s : Stp) : List V := [.int s.a, .str s.k, .str s.s, .int s.g]
/-- the values are tuples of these steps -/
def Row (H : Hp) : List V → List Stp → Prop := Paired fun v s => ∃ p, v = .ref p ∧ H p = some (.tup (stepV s))
theorem sqT_same {K : PySem.W.Frag} {H H' : Hp} {a : Addr} {xs : List V} (e : Same H H') (h : SqT K H a xs) : SqT K H' a xs := by
  rcases h with (h | ⟨o, h⟩) | h
  · exact .inl (.inl (e _ _ h))
  · exact .inl (.inr ⟨o, e _ _ h⟩)
  · exact .inr h
theorem Row.keep {H H' : Hp} {vs : List V} {xs : List Stp} (e : ∀ p ts, H p = some (.tup ts) → H' p = some (.tup ts)) (h : Row H vs xs) : Row H' vs xs := Paired.mapP h fun _ _ ⟨p, e1, e2⟩ => ⟨p, e1, e _ _ e2⟩
theorem Row.same {H H' : Hp} {vs : List V} {xs : List Stp} (e : Same H H') (h : Row H vs xs) : Row H' vs xs := h.keep fun _ _ z => e _ _ z
theorem paired_app {α β : Type} {F : α → β → Prop} : ∀ {as as' : List α} {bs bs' : List β}, Paired F as bs → Paired F as' bs' → Paired F (as ++ as') (bs ++ bs')
  | _, _, _, _, .nil, h => h
  | _, _, _, _, .cons h t, h' => .cons h (paired_app t h')
/-! ### the mathematics -/
def kindAt (ns : List Int) (ks : List Str) (p : Int) : Str := ks.getD (draw ns p ks.length).toNat Str.empty
/-- the step that is drawn at a turn -/
def drawStp (ns : List Int) (p : Int) (many : Int) (ks ws : List Str) (turn : Int) : Stp :=
  let spot := p + 5 * turn + 2
  { a := if turn + 1 < many ∧ draw ns spot 2 = 0 then turn else draw ns (spot + 3) many
    k := kindAt ns ks (spot + 1), s := kindAt ns ws (spot + 2), g := draw ns (spot + 4) many }
def manyOf (ns : List Int) (p most : Int) : Int := 2 + draw ns p (most - 1)
def turnsOf (ns : List Int) (p most : Int) : Int := manyOf ns p most + draw ns (p + 1) (manyOf ns p most + 3)
def stepsOf (ns : List Int) (p most : Int) (ks ws : List Str) : List Stp := (List.range (turnsOf ns p most).toNat).map fun (j : Nat) => drawStp ns p (manyOf ns p most) ks ws (j : Int)
theorem manyOf_in (ns : List Int) (p : Int) {most : Int} (h : 2 ≤ most) : 2 ≤ manyOf ns p most ∧ manyOf ns p most ≤ most := by
  have q := draw_lt ns p (m := most - 1) (by omega)
  unfold manyOf; omega
theorem turnsOf_in (ns : List Int) (p : Int) {most : Int} (h : 2 ≤ most) : 2 ≤ turnsOf ns p most ∧ turnsOf ns p most ≤ 2 * most + 2 := by
  have q := manyOf_in ns p h
  have q2 := draw_lt ns (p + 1) (m := manyOf ns p most + 3) (by omega)
  unfold turnsOf; omega
theorem item_texts {ks : List Str} {i : Int} (h0 : 0 ≤ i) (h : i < ks.length) : atI (ks.map V.str) i = some (V.str (ks.getD i.toNat Str.empty)) := by
  have e : i = (i.toNat : Int) := by omega
  have hlt : i.toNat < ks.length := by omega
  rw [e]
  refine atI_nat ?_
  rw [List.getElem?_map, List.getElem?_eq_getElem hlt, List.getD_eq_getElem?_getD]
  show _ = some (V.str (ks[((i.toNat : Nat) : Int).toNat]?.getD Str.empty))
  rw [Int.toNat_natCast, List.getElem?_eq_getElem hlt]; rfl
/-! ### the promise -/
def spMach (K : PySem.W.Frag) : Sp := fun vs H Q _ => ∃ (a kk ww : Addr) (ns : List Int) (p most : Int) (ks ws : List Str), vs = [.ref a, .int p, .int most, .ref kk, .ref ww] ∧ SqL K H a (ns.map V.int) ∧ ns.length ≤ 63 ∧ 0 ≤ p ∧ p ≤ 1000 ∧ 2 ≤ most ∧ most ≤ 100 ∧
  SqT K H kk (ks.map V.str) ∧ SqT K H ww (ws.map V.str) ∧ 0 < ks.length ∧ 0 < ws.length ∧
  ∀ H' t l xs, Same H H' → H' t = some (.tup [.int (manyOf ns p most), .ref l]) → H' l = some (.lst xs) → Row H' xs (stepsOf ns p most ks ws) → Q (.ref t) H'
/-- first = turn if .. else .. -/
theorem reads_first {K : PySem.W.Frag} {σ : L2.St} {H : Hp} {R : VK} {a : Addr} {ns : List Int} {p many spot : Int} {ks ws : List Str} {j : Nat} (hsp : p + 5 * (j : Int) + 2 = spot) (s0 : 0 ≤ spot) (s1 : spot ≤ 90000) (m0 : 2 ≤ many) (hS : SqL K H a (ns.map V.int)) (hl : ns.length ≤ 63)
    (h0 : σ[0]? = some (some (V.ref a))) (h5 : σ[5]? = some (some (V.int many))) (h7 : σ[7]? = some (some (V.int (j : Int)))) (h8 : σ[8]? = some (some (V.int spot)))
    (h : ∀ H', Same H H' → R (.int (drawStp ns p many ks ws (j : Int)).a) H') :
    tIf (tAnd (tTest (tOp (rI0 fun i j => V.bl (decide (i < j))) (tOp (rI0 fun i j => V.int (i + j)) (tVar 7) (tC (V.int 1))) (tVar 5)))
        (tTest (tOp rEq (tCall (spDraw K) [] E0 (tCons (tVar 0) (tCons (tVar 8) (tCons (tC (V.int 2)) tNil)))) (tC (V.int 0))))) (tVar 7)
      (tCall (spDraw K) [] E0 (tCons (tVar 0) (tCons (tOp (rI0 fun i j => V.int (i + j)) (tVar 8) (tC (V.int 3))) (tCons (tVar 5) tNil)))) σ H R := by
  have ea : (drawStp ns p many ks ws (j : Int)).a = if (j : Int) + 1 < many ∧ draw ns spot 2 = 0 then (j : Int) else draw ns (spot + 3) many := by rw [← hsp]; rfl
  rw [ea] at h
  have els : ∀ H1, Same H H1 → ¬ ((j : Int) + 1 < many ∧ draw ns spot 2 = 0) → tCall (spDraw K) [] E0 (tCons (tVar 0) (tCons (tOp (rI0 fun i j => V.int (i + j)) (tVar 8) (tC (V.int 3))) (tCons (tVar 5) tNil))) σ H1 R := fun H1 e1 hn => by
    refine ⟨_, h0, _, h8, _, _, rfl, rfl, _, h5, a, ns, spot + 3, many, rfl, e1.seq hS, hl, by omega, by omega, by omega, fun H2 e2 => ?_⟩
    have q := h H2 (e1.trans e2)
    rwa [if_neg hn] at q
  refine ⟨_, h7, _, _, rfl, rfl, _, h5, _, _, rfl, rfl, _, rfl, ?_⟩
  rcases Decidable.em ((j : Int) + 1 < many) with c | c
  · rw [decide_eq_true c]
    refine iteT ⟨_, h0, _, h8, a, ns, spot, 2, rfl, hS, hl, s0, by omega, by omega, fun H1 e1 => ⟨rfl, _, rfl, ?_⟩⟩
    rcases Decidable.em (draw ns spot 2 = 0) with d | d
    · rw [d]
      refine iteT ⟨_, h7, ?_⟩
      have q := h H1 e1
      rwa [if_pos ⟨c, d⟩] at q
    · have z : decide (V.int (draw ns spot 2) = V.int 0) = false := decide_eq_false fun z => d (V.int.inj z)
      rw [z]
      exact iteF (els H1 e1 fun y => d y.2)
  · rw [decide_eq_false c]
    exact iteF (iteF (els H (Same.refl H) fun y => c y.1))
structure TxtM (K : PySem.W.Frag) (mg : Str → Option Value) (fD : Addr) : Prop where
  len : mg "len" = none
  range : mg "range" = none
  g_law_draw : mg "_law_draw" = some (.ref fD)
  k_law_draw : PySem.W.keepIn K (.ref fD) = true
section
variable {P : Program} {w : World} {K : PySem.W.Frag} {mg : Str → Option Value} {base : Heap}
abbrev nMach : List Str := ["script", "at", "most", "kinds", "words", "many", "steps", "turn", "spot", "kind", "seen", "first"]
theorem scMach : FnScope nMach ["script", "at", "most", "kinds", "words"] (defScope sMach) := ⟨rfl, rfl, rfl, by decide +kernel, rfl, by decide +kernel, by decide +kernel⟩
theorem ok_mach {f fD : Addr} {fd fdD : FuncData} (F : Fun K "_law_machine" "_law_machine" sMach f fd) (T : TxtM K mg fD)
    (G_law_draw : FnOk P w K mg base CX0 1 fD fdD ["script", "at", "many"] (spDraw K)) (b_law_draw : Binds K fdD ["script", "at", "many"] []) : FnOk P w K mg base CX0 2 f fd ["script", "at", "most", "kinds", "words"] (spMach K) := by
  refine F.ok scMach (fun vs H Q E h => ?_) (fun cdv A outer s H vs Q E hr h => ?_)
  · obtain ⟨a, kk, ww, ns, p, most, ks, ws, rfl, _⟩ := h
    rfl
  · obtain ⟨a, kk, ww, ns, p, most, ks, ws, rfl, hS, hl, p0, p1, m0, m1, hk, hw, k0, w0, k⟩ := h
    have hu := hr.units
    have nd := scMach.nd
    have hr_law_draw : Room 1 _ := hr
    refine ⟨_, (pss_cons (ps_set (i := 5) nd rfl (Or.inl rfl) (pe_op op_add pe_int (pe_call G_law_draw hr_law_draw (by rfl) T.g_law_draw T.k_law_draw b_law_draw .nil pass0 (pa_cons (pv 0) (pa_cons (pv 1) (pa_cons (pe_op op_sub (pv 2) pe_int) pa_nil))))))
      (pss_cons (ps_set (i := 6) nd rfl (Or.inl rfl) (pe_lst pa_nil))
      (pss_cons (ps_for PassesOwn.never rfl (pi_range1 (by rfl) T.range (pa_cons (pe_op op_add (pv 5) (pe_call G_law_draw hr_law_draw (by rfl) T.g_law_draw T.k_law_draw b_law_draw .nil pass0 (pa_cons (pv 0) (pa_cons (pe_op op_add (pv 1) pe_int) (pa_cons (pe_op op_add (pv 5) pe_int) pa_nil))))) pa_nil)) (pg_name (i := 7) nd rfl (Or.inl rfl))
        (pss_cons (ps_set (i := 8) nd rfl (Or.inl rfl) (pe_op op_add (pe_op op_add (pv 1) (pe_op op_mul pe_int (pv 7))) pe_int))
        (pss_cons (ps_par (i := 9) (j := 10) (by rfl) nd rfl rfl (by decide) rfl rfl (pa_cons (pe_ix ix_tup (pv 3) (pe_call G_law_draw hr_law_draw (by rfl) T.g_law_draw T.k_law_draw b_law_draw .nil pass0 (pa_cons (pv 0) (pa_cons (pe_op op_add (pv 8) pe_int) (pa_cons (pe_callB call_len_seq (by rfl) T.len PySem.boot_len (pa_cons (pv 3) pa_nil)) pa_nil)))) (fun _ _ => rfl)) (pa_cons (pe_ix ix_tup (pv 4) (pe_call G_law_draw hr_law_draw (by rfl) T.g_law_draw T.k_law_draw b_law_draw .nil pass0 (pa_cons (pv 0) (pa_cons (pe_op op_add (pv 8) pe_int) (pa_cons (pe_callB call_len_seq (by rfl) T.len PySem.boot_len (pa_cons (pv 4) pa_nil)) pa_nil)))) (fun _ _ => rfl)) pa_nil)) (by rfl))
        (pss_cons (ps_set (i := 11) nd rfl (Or.inl rfl) (pe_ifExp (PW.pt (pw_and (pt_cmpR op_lt (pe_op op_add (pv 7) pe_int) (pv 5) (nomark _)) (pw_and1 (pt_cmpR op_eq (pe_call G_law_draw hr_law_draw (by rfl) T.g_law_draw T.k_law_draw b_law_draw .nil pass0 (pa_cons (pv 0) (pa_cons (pv 8) (pa_cons pe_int pa_nil)))) pe_int (nomark _))))) (pv 7) (pe_call G_law_draw hr_law_draw (by rfl) T.g_law_draw T.k_law_draw b_law_draw .nil pass0 (pa_cons (pv 0) (pa_cons (pe_op op_add (pv 8) pe_int) (pa_cons (pv 5) pa_nil))))))
        (pss_one (ps_expr (pe_bm PySem.F.plainAttrs_list PySem.F.slot_list_append PySem.F.type_list_append mt_append (pv 6) (pa_cons (pe_tup (pa_cons (pv 11) (pa_cons (pv 9) (pa_cons (pv 10) (pa_cons (pe_call G_law_draw hr_law_draw (by rfl) T.g_law_draw T.k_law_draw b_law_draw .nil pass0 (pa_cons (pv 0) (pa_cons (pe_op op_add (pv 8) pe_int) (pa_cons (pv 5) pa_nil)))) pa_nil))))) pa_nil))))))))
      (pss_one (ps_ret (pe_tup (pa_cons (pv 5) (pa_cons (pv 6) pa_nil)))))))), ?_⟩
    have M := manyOf_in ns p m0
    have TT := turnsOf_in ns p m0
    -- many = 2 + draw
    refine ⟨_, rfl, _, rfl, _, rfl, _, _, rfl, rfl, a, ns, p, most - 1, rfl, hS, hl, by omega, by omega, by omega, fun H1 s1 => ⟨_, _, rfl, rfl, ?_⟩⟩
    show (tSeq _ _ : TS) _ [some (V.ref a), some (V.int p), some (V.int most), some (V.ref kk), some (V.ref ww), some (V.int (manyOf ns p most)), none, none, none, none, none, none] H1
    -- steps = []
    refine ⟨Nat.zero_le _, fun l hl1 => ?_⟩
    have hl0 : H l = none := s1.free hl1
    have s2 : Same H (upd H1 l (.lst [])) := s1.trans (same_new hl1)
    refine ⟨_, rfl, _, rfl, _, rfl, _, _, rfl, rfl, _, rfl, _, _, rfl, rfl, a, ns, p + 1, manyOf ns p most + 3, rfl, s2.seq hS, hl, by omega, by omega, by omega, fun H3 s3 => ⟨_, _, rfl, rfl, ?_⟩⟩
    show ∃ j : Int, [V.int (turnsOf ns p most)] = [V.int j] ∧ _
    refine ⟨_, rfl, by omega, by omega, for_range (lo := 0) (n := (turnsOf ns p most).toNat) (fun j σ H' => ∃ (v7 v8 v9 v10 v11 : Option V) (xs : List V),
      σ = [some (V.ref a), some (V.int p), some (V.int most), some (V.ref kk), some (V.ref ww), some (V.int (manyOf ns p most)), some (V.ref l), v7, v8, v9, v10, v11] ∧ Same H H' ∧ H' l = some (.lst xs) ∧ xs.length = j ∧
      Row H' xs ((List.range j).map fun (i : Nat) => drawStp ns p (manyOf ns p most) ks ws (i : Int))) ⟨none, none, none, none, none, [], rfl, s2.trans s3, s3 _ _ upd_same, rfl, .nil⟩ ?_ ?_⟩
    · rintro j σ H' hj ⟨v7, v8, v9, v10, v11, xs, rfl, e1, e2, e3, e4⟩
      rw [Int.zero_add]
      refine ⟨_, rfl, _, rfl, _, _, rfl, rfl, .inl ⟨by decide, by decide⟩, _, _, rfl, rfl, _, _, rfl, rfl, ?_⟩
      show (tSeq _ _ : TS) _ [some (V.ref a), some (V.int p), some (V.int most), some (V.ref kk), some (V.ref ww), some (V.int (manyOf ns p most)), some (V.ref l), some (V.int (j : Int)), some (V.int (p + 5 * (j : Int) + 2)), v9, v10, v11] H'
      generalize hspot : p + 5 * (j : Int) + 2 = spot
      have q1 := draw_lt ns (spot + 1) (m := (ks.length : Int)) (by omega)
      have q2 := draw_lt ns (spot + 2) (m := (ws.length : Int)) (by omega)
      have lk : ((ks.map V.str).length : Int) = (ks.length : Int) := by rw [List.length_map]
      have lw : ((ws.map V.str).length : Int) = (ws.length : Int) := by rw [List.length_map]
      refine ⟨_, rfl, _, rfl, _, rfl, _, _, rfl, rfl, _, rfl, kk, _, rfl, .inr (sqT_same e1 hk), a, ns, spot + 1, (ks.length : Int), by rw [lk]; rfl, e1.seq hS, hl, by omega, by omega, by omega, fun H4 s4 => ?_⟩
      have e5 := e1.trans s4
      refine ⟨kk, _, _, _, rfl, rfl, sqT_same e5 hk, item_texts q1.1 q1.2, ?_⟩
      refine ⟨_, rfl, _, rfl, _, rfl, _, _, rfl, rfl, _, rfl, ww, _, rfl, .inr (sqT_same e5 hw), a, ns, spot + 2, (ws.length : Int), by rw [lw]; rfl, e5.seq hS, hl, by omega, by omega, by omega, fun H5 s5 => ?_⟩
      have e6 := e5.trans s5
      refine ⟨ww, _, _, _, rfl, rfl, sqT_same e6 hw, item_texts q2.1 q2.2, _, _, rfl, ?_⟩
      show (tSeq _ _ : TS) _ [some (V.ref a), some (V.int p), some (V.int most), some (V.ref kk), some (V.ref ww), some (V.int (manyOf ns p most)), some (V.ref l), some (V.int (j : Int)), some (V.int spot), some (V.str (kindAt ns ks (spot + 1))), some (V.str (kindAt ns ws (spot + 2))), v11] H5
      refine reads_first (p := p) (many := manyOf ns p most) (ks := ks) (ws := ws) (j := j) hspot (by omega) (by omega) (by omega) (e6.seq hS) hl rfl rfl rfl rfl fun H6 s6 => ?_
      generalize hx : (drawStp ns p (manyOf ns p most) ks ws (j : Int)).a = x
      have e7 := e6.trans s6
      have hl6 : H6 l = some (.lst xs) := s6 _ _ (s5 _ _ (s4 _ _ e2))
      refine ⟨_, rfl, .inl ⟨rfl, _, SqL.of hl6⟩, _, rfl, _, rfl, _, rfl, _, rfl, _, rfl, _, _, rfl, rfl, _, rfl, a, ns, spot + 4, manyOf ns p most, rfl, e7.seq hS, hl, by omega, by omega, by omega, fun H7 s7 => ?_⟩
      have e8 := e7.trans s7
      refine ⟨by show 4 ≤ sizeLine; decide, fun t ht => ?_⟩
      have hl7 : upd H7 t (.tup [V.int x, V.str (kindAt ns ks (spot + 1)), V.str (kindAt ns ws (spot + 2)), V.int (draw ns (spot + 4) (manyOf ns p most))]) l = some (.lst xs) := (same_new ht) _ _ (s7 _ _ hl6)
      refine ⟨l, xs, _, rfl, rfl, hl7, by rw [e3, sizeLine_eq]; omega, ?_⟩
      have ntl : t ≠ l := fun z => by rw [z] at ht; rw [s7 _ _ hl6] at ht; cases ht
      refine ⟨_, _, _, _, _, xs ++ [V.ref t], rfl, fun b o z => ?_, upd_same, by rw [List.length_append, e3]; rfl, ?_⟩
      · have nb : b ≠ l := fun y => by rw [y, hl0] at z; cases z
        rw [upd_ne nb]
        exact (same_new ht) _ _ (e8 _ _ z)
      · rw [List.range_succ, List.map_append]
        refine paired_app (Row.keep (fun q ts y2 => ?_) e4) (.cons ⟨t, rfl, ?_⟩ .nil)
        · have z1 := ((s4.trans s5).trans (s6.trans (s7.trans (same_new (o := .tup [V.int x, V.str (kindAt ns ks (spot + 1)), V.str (kindAt ns ws (spot + 2)), V.int (draw ns (spot + 4) (manyOf ns p most))]) ht)))) _ _ y2
          rw [upd_ne (ne_of z1 hl7 (by intro z; cases z))]; exact z1
        · rw [upd_ne ntl, upd_same, ← hx]
          show some (HO.tup [_, _, _, _]) = some (HO.tup (stepV (drawStp ns p (manyOf ns p most) ks ws (j : Int))))
          subst hspot; rfl
    · rintro σ H' ⟨v7, v8, v9, v10, v11, xs, rfl, e1, e2, e3, e4⟩
      refine ⟨_, rfl, _, rfl, by show 2 ≤ sizeLine; decide, fun t ht => ?_⟩
      exact k _ t l xs (e1.trans (same_new ht)) upd_same ((same_new ht) _ _ e2) (e4.same (same_new ht))
end
end K1
end
section
/-! checks: numbers, words, steps. -/
namespace K1
open PySem L2
/-- a value that is looked at: its kind -/
inductive Pl (K : PySem.W.Frag) (H : Hp) : V → String → Prop where
  | non : Pl K H .non "NoneType"
  | bl (b : Bool) : Pl K H (.bl b) "bool"
  | int (i : Int) : Pl K H (.int i) "int"
  | str {x : Str} (h : x.length ≤ sizeLine) : Pl K H (.str x) "str"
  | lst {a : Addr} {xs : List V} (h : H a = some (.lst xs)) : Pl K H (.ref a) "list"
  | tup {a : Addr} {xs : List V} (h : H a = some (.tup xs)) : Pl K H (.ref a) "tuple"
  | dK {a : Addr} {kvs : List (Key × V)} (h : H a = some (.dK kvs)) : Pl K H (.ref a) "dict"
theorem Pl.tyB {K : PySem.W.Frag} {H : Hp} {v : V} {T : String} (h : Pl K H v T) : TyB K H v T := by
  cases h with
  | non => exact .non
  | bl b => exact .bl b
  | int i => exact .int i
  | str h => exact .str _
  | lst h => exact .lst (SqL.of h)
  | tup h => exact .tup (SqT.of h)
  | dK h => exact .dK h
theorem Pl.tyX {K : PySem.W.Frag} {H : Hp} {v : V} {T : String} (h : Pl K H v T) : TyX K H v (.type T) := by
  cases h with
  | non => exact .base .non
  | bl b => exact .base (.bl b)
  | int i => exact .base (.int i)
  | str h => exact .base (.str _)
  | lst h => exact .base (.lst h)
  | tup h => exact .base (.tup h)
  | dK h => exact .base (.dK h)
theorem Pl.same {K : PySem.W.Frag} {H H' : Hp} {v : V} {T : String} (e : Same H H') (h : Pl K H v T) : Pl K H' v T := by
  cases h with
  | non => exact .non
  | bl b => exact .bl b
  | int i => exact .int i
  | str h => exact .str h
  | lst h => exact .lst (e _ _ h)
  | tup h => exact .tup (e _ _ h)
  | dK h => exact .dK (e _ _ h)
theorem Pl.kit {K : PySem.W.Frag} {H : Hp} {v : V} {T : String} (h : Pl K H v T) (c : String) (hc : c = "str" ∨ c = "tuple" ∨ c = "list") : PySem.W.kitOne K (.type T) (.type c) = some (decide (T = c)) := by
  refine kit_ty ?_
  cases h <;> rcases hc with rfl | rfl | rfl <;> decide +kernel
/-! ### the mathematics -/
def numB : V → Bool
  | .int i => decide (0 ≤ i)
  | _ => false
def wordS (x : Str) : Bool := decide (1 ≤ x.length) && decide (x.length ≤ 8) && Txt.isascii x && Txt.isalpha x && Txt.islower x
def wordB : V → Bool
  | .str x => wordS x
  | _ => false
def wordE : V → Bool
  | .str x => decide (x = Str.ofString "") || wordS x
  | _ => false
/-! ### promises -/
def spNum (K : PySem.W.Frag) : Sp := fun vs H Q _ => ∃ (v : V) (ty : String), vs = [v] ∧ Pl K H v ty ∧ Q (.bl (numB v)) H
def spWord (K : PySem.W.Frag) : Sp := fun vs H Q _ => ∃ (v : V) (ty : String), vs = [v] ∧ Pl K H v ty ∧ Q (.bl (wordB v)) H
def spWordE (K : PySem.W.Frag) : Sp := fun vs H Q _ => ∃ (v : V) (ty : String), vs = [v] ∧ Pl K H v ty ∧ (∀ a, v ≠ .ref a) ∧ Q (.bl (wordE v)) H
structure TxtB (mg : Str → Option Value) : Prop where
  type : mg "type" = none
  int : mg "int" = none
  str : mg "str" = none
  isinstance : mg "isinstance" = none
  len : mg "len" = none
  list : mg "list" = none
  tuple : mg "tuple" = none
structure TxtW (K : PySem.W.Frag) (mg : Str → Option Value) (fW : Addr) : Prop where
  g_is_word : mg "is_word" = some (.ref fW)
  k_is_word : PySem.W.keepIn K (.ref fW) = true
section
variable {P : Program} {w : World} {K : PySem.W.Frag} {mg : Str → Option Value} {base : Heap}
abbrev sNum : Stmt := top 8
theorem scNum : FnScope ["value"] ["value"] (defScope sNum) := ⟨rfl, rfl, rfl, by decide +kernel, rfl, by decide +kernel, by decide +kernel⟩
theorem ok_num {f : Addr} {fd : FuncData} (F : Fun K "is_number" "is_number" sNum f fd) (T : TxtB mg) : FnOk P w K mg base CX0 1 f fd ["value"] (spNum K) := by
  refine F.ok scNum (fun vs H Q E h => ?_) (fun cdv A outer s H vs Q E hr h => ?_)
  · obtain ⟨v, ty, rfl, _⟩ := h
    rfl
  · obtain ⟨v, ty, rfl, pl, k⟩ := h
    refine ⟨_, (pss_one (ps_ret (pe_and (pe_cmpR op_isTyB (pe_callTy call_type1 (by rfl) T.type (by decide +kernel) (pa_cons (pv 0) pa_nil)) (pe_bltn (v := .ty "int") (by rfl) T.int (by decide +kernel) rfl) (nomark _)) (pe_one (pe_cmpR op_ge (pv 0) pe_int (nomark _)))))), ?_⟩
    refine ⟨_, rfl, v, ty, rfl, pl.tyB, ty, "int", rfl, rfl, _, rfl, ?_⟩
    cases pl with
    | int i => exact iteT ⟨_, rfl, _, _, rfl, rfl, k⟩
    | non => exact iteF k
    | bl b => exact iteF k
    | str h => exact iteF k
    | lst h => exact iteF k
    | tup h => exact iteF k
    | dK h => exact iteF k
abbrev sWord : Stmt := top 9
theorem scWord : FnScope ["value"] ["value"] (defScope sWord) := ⟨rfl, rfl, rfl, by decide +kernel, rfl, by decide +kernel, by decide +kernel⟩
theorem ok_word {f : Addr} {fd : FuncData} (F : Fun K "is_word" "is_word" sWord f fd) (T : TxtB mg) : FnOk P w K mg base CX0 1 f fd ["value"] (spWord K) := by
  refine F.ok scWord (fun vs H Q E h => ?_) (fun cdv A outer s H vs Q E hr h => ?_)
  · obtain ⟨v, ty, rfl, _⟩ := h
    rfl
  · obtain ⟨v, ty, rfl, pl, k⟩ := h
    refine ⟨_, (pss_cons (ps_if (PW.pt (pw_or (pt_not (pt_val (pe_callB call_isi (by rfl) T.isinstance (by decide +kernel) (pa_cons (pv 0) (pa_cons (pe_bltn (v := .ty "str") (by rfl) T.str (by decide +kernel) rfl) pa_nil))))) (pw_or1 (pt_not (pt_chain op_le op_le pe_int (pe_callB call_len_str (by rfl) T.len PySem.boot_len (pa_cons (pv 0) pa_nil)) pe_int)))))
        (pss_one (ps_ret pe_bl))
        pss_nil)
      (pss_one (ps_ret (pe_and (pe_m0 PySem.F.slot_str_isascii PySem.F.type_str_isascii mt_isascii (pv 0)) (pe_and (pe_m0 PySem.F.slot_str_isalpha PySem.F.type_str_isalpha mt_isalpha (pv 0)) (pe_one (pe_m0 PySem.F.slot_str_islower PySem.F.type_str_islower mt_islower (pv 0)))))))), ?_⟩
    refine ⟨_, rfl, v, .ty "str", _, _, _, rfl, .ty "str", pl.tyX, pl.kit "str" (.inl rfl), _, rfl, ?_⟩
    have no : (∀ x, v ≠ .str x) → ty ≠ "str" ∧ wordB v = false := fun hn => by
      cases pl <;> first | exact ⟨by decide, rfl⟩ | exact absurd rfl (hn _)
    cases pl with
    | @str x hx =>
      refine iteF ?_
      refine ⟨_, rfl, x, rfl, hx, _, _, rfl, rfl, _, rfl, ?_⟩
      have wd : wordB (.str x) = (decide (1 ≤ x.length) && decide (x.length ≤ 8) && Txt.isascii x && Txt.isalpha x && Txt.islower x) := rfl
      rw [wd] at k
      have rest : decide (1 ≤ x.length) = true → decide (x.length ≤ 8) = true → (tRet (tAndV (tM0 (fun x xs H Q => ∃ a, x = V.str a ∧ xs = [] ∧ True ∧ Q (V.bl (Txt.isascii a)) H) (tVar 0)) (tAndV (tM0 (fun x xs H Q => ∃ a, x = V.str a ∧ xs = [] ∧ True ∧ Q (V.bl (Txt.isalpha a)) H) (tVar 0))
          (tM0 (fun x xs H Q => ∃ a, x = V.str a ∧ xs = [] ∧ True ∧ Q (V.bl (Txt.islower a)) H) (tVar 0)))) : TS) { nx := fun x H' => Q V.non H', rt := Q } (L2.start [Str.ofString "value"] [V.str x]) H := fun h1 h2 => by
        rw [h1, h2, Bool.true_and, Bool.true_and] at k
        refine ⟨_, rfl, ⟨x, rfl⟩, x, rfl, rfl, trivial, _, rfl, ?_⟩
        cases z1 : Txt.isascii x with
        | false => rw [z1] at k; exact iteF k
        | true =>
          rw [z1] at k
          refine iteT ⟨_, rfl, ⟨x, rfl⟩, x, rfl, rfl, trivial, _, rfl, ?_⟩
          cases z2 : Txt.isalpha x with
          | false => rw [z2] at k; exact iteF k
          | true =>
            rw [z2] at k
            exact iteT ⟨_, rfl, ⟨x, rfl⟩, x, rfl, rfl, trivial, k⟩
      have e1 : decide ((1 : Int) ≤ (x.length : Int)) = decide (1 ≤ x.length) := by
        rw [decide_eq_decide]; omega
      rw [e1]
      cases c1 : decide (1 ≤ x.length) with
      | false =>
        rw [c1] at k
        exact iteF ⟨_, rfl, iteT k⟩
      | true =>
        refine iteT ⟨_, _, rfl, rfl, _, rfl, ?_⟩
        have e2 : decide ((x.length : Int) ≤ 8) = decide (x.length ≤ 8) := by
          rw [decide_eq_decide]; omega
        rw [e2]
        cases c2 : decide (x.length ≤ 8) with
        | false =>
          rw [c1, c2] at k
          exact iteT k
        | true => exact iteF (rest c1 c2)
    | non => exact iteT (iteT k)
    | bl b => exact iteT (iteT k)
    | int i => exact iteT (iteT k)
    | lst h => exact iteT (iteT k)
    | tup h => exact iteT (iteT k)
    | dK h => exact iteT (iteT k)
abbrev sWordE : Stmt := top 10
theorem scWordE : FnScope ["value"] ["value"] (defScope sWordE) := ⟨rfl, rfl, rfl, by decide +kernel, rfl, by decide +kernel, by decide +kernel⟩
theorem ok_wordE {f fW : Addr} {fd fdW : FuncData} (F : Fun K "is_word_or_empty" "is_word_or_empty" sWordE f fd) (T : TxtW K mg fW) (G_is_word : FnOk P w K mg base CX0 1 fW fdW ["value"] (spWord K)) (b_is_word : Binds K fdW ["value"] []) : FnOk P w K mg base CX0 2 f fd ["value"] (spWordE K) := by
  refine F.ok scWordE (fun vs H Q E h => ?_) (fun cdv A outer s H vs Q E hr h => ?_)
  · obtain ⟨v, ty, rfl, _⟩ := h
    rfl
  · obtain ⟨v, ty, rfl, pl, nr, k⟩ := h
    have hu := hr.units
    have hr_is_word : Room 1 _ := hr
    refine ⟨_, (pss_one (ps_ret (pe_or (pe_cmpR op_eq (pv 0) pe_str (nomark _)) (pe_one (pe_call G_is_word hr_is_word (by rfl) T.g_is_word T.k_is_word b_is_word .nil pass0 (pa_cons (pv 0) pa_nil)))))), ?_⟩
    refine ⟨_, rfl, ?_⟩
    have sc : scal v (.str (Str.ofString "")) = true := by
      cases pl <;> first | rfl | exact absurd rfl (nr _)
    refine ⟨sc, _, rfl, ?_⟩
    have ev : wordE v = (decide (v = V.str (Str.ofString "")) || wordB v) := by
      cases pl with
      | @str x h =>
        show (decide (x = Str.ofString "") || wordS x) = (decide (V.str x = V.str (Str.ofString "")) || wordS x)
        congr 1
        rw [decide_eq_decide]
        exact ⟨fun e => by rw [e], fun e => V.str.inj e⟩
      | non => rfl
      | bl b => rfl
      | int i => rfl
      | lst h => exact absurd rfl (nr _)
      | tup h => exact absurd rfl (nr _)
      | dK h => exact absurd rfl (nr _)
    rw [ev] at k
    cases c : decide (v = V.str (Str.ofString "")) with
    | true => rw [c] at k; exact iteT k
    | false => rw [c] at k; exact iteF ⟨_, rfl, v, ty, rfl, pl, k⟩

/-! ### steps -/
def fourB (many : Int) (x k s g : V) : Bool := match x, g with
  | .int i, .int j => decide (0 ≤ i) && decide (0 ≤ j) && decide (i < many) && decide (j < many) && wordE k && wordE s
  | _, _ => false
/-- what is_step answers of a value -/
def stepB (H : Hp) (many : Int) (v : V) : Bool := match v with
  | .ref a => match H a with
    | some (.tup [x, k, s, g]) => fourB many x k s g
    | _ => false
  | _ => false
abbrev sIsStep : Stmt := top 18
/-- a value that is_step looks at: its places too, where it is a tuple of four -/
def Look (K : PySem.W.Frag) (H : Hp) (v : V) : Prop := ∃ ty, Pl K H v ty ∧ ∀ a xs, v = .ref a → H a = some (.tup xs) → ∀ x ∈ xs, ∃ t, Pl K H x t ∧ ∀ b, x ≠ .ref b
def spIsStep (K : PySem.W.Frag) : Sp := fun vs H Q _ => ∃ (many : Int) (v : V), vs = [.int many, v] ∧ Look K H v ∧ Q (.bl (stepB H many v)) H
structure TxtS (K : PySem.W.Frag) (mg : Str → Option Value) (fN fE : Addr) : Prop where
  g_is_number : mg "is_number" = some (.ref fN)
  k_is_number : PySem.W.keepIn K (.ref fN) = true
  g_is_word_or_empty : mg "is_word_or_empty" = some (.ref fE)
  k_is_word_or_empty : PySem.W.keepIn K (.ref fE) = true
  isinstance : mg "isinstance" = none
  tuple : mg "tuple" = none
  len : mg "len" = none
theorem scIsStep : FnScope ["many", "step", "state", "kind", "seen", "goal"] ["many", "step"] (defScope sIsStep) := ⟨rfl, rfl, rfl, by decide +kernel, rfl, by decide +kernel, by decide +kernel⟩
theorem ok_isStep {f fN fE : Addr} {fd fdN fdE : FuncData} (F : Fun K "is_step" "is_step" sIsStep f fd) (T : TxtS K mg fN fE)
    (G_is_number : FnOk P w K mg base CX0 1 fN fdN ["value"] (spNum K)) (b_is_number : Binds K fdN ["value"] []) (G_is_word_or_empty : FnOk P w K mg base CX0 2 fE fdE ["value"] (spWordE K)) (b_is_word_or_empty : Binds K fdE ["value"] []) :
    FnOk P w K mg base CX0 3 f fd ["many", "step"] (spIsStep K) := by
  refine F.ok scIsStep (fun vs H Q E h => ?_) (fun cdv A outer s H vs Q E hr h => ?_)
  · obtain ⟨many, v, rfl, _⟩ := h
    rfl
  · obtain ⟨many, v, rfl, ⟨ty, pl, al⟩, k⟩ := h
    have hu := hr.units
    have nd := scIsStep.nd
    have hr_is_number : Room 1 _ := hr.mono (by decide)
    have hr_is_word_or_empty : Room 2 _ := hr
    refine ⟨_, (pss_cons (ps_if (PW.pt (pw_or (pt_not (pt_val (pe_callB call_isi (by rfl) T.isinstance (by decide +kernel) (pa_cons (pv 1) (pa_cons (pe_bltn (v := .ty "tuple") (by rfl) T.tuple (by decide +kernel) rfl) pa_nil))))) (pw_or1 (pt_cmpR op_ne (pe_callB call_len_seq (by rfl) T.len PySem.boot_len (pa_cons (pv 1) pa_nil)) pe_int (nomark _)))))
        (pss_one (ps_ret pe_bl))
        pss_nil)
      (pss_cons (ps_asg (pv 1) (pg_tup rfl (pgs_cons (pg_name (i := 2) nd rfl (Or.inl rfl)) (pgs_cons (pg_name (i := 3) nd rfl (Or.inl rfl)) (pgs_cons (pg_name (i := 4) nd rfl (Or.inl rfl)) (pgs_cons (pg_name (i := 5) nd rfl (Or.inl rfl)) pgs_nil))))))
      (pss_cons (ps_if (PW.pt (pw_or (pt_not (pt_val (pe_call G_is_number hr_is_number (by rfl) T.g_is_number T.k_is_number b_is_number .nil pass0 (pa_cons (pv 2) pa_nil)))) (pw_or (pt_not (pt_val (pe_call G_is_number hr_is_number (by rfl) T.g_is_number T.k_is_number b_is_number .nil pass0 (pa_cons (pv 5) pa_nil)))) (pw_or (pt_cmpR op_ge (pv 2) (pv 0) (nomark _)) (pw_or1 (pt_cmpR op_ge (pv 5) (pv 0) (nomark _)))))))
        (pss_one (ps_ret pe_bl))
        pss_nil)
      (pss_one (ps_ret (pe_and (pe_call G_is_word_or_empty hr_is_word_or_empty (by rfl) T.g_is_word_or_empty T.k_is_word_or_empty b_is_word_or_empty .nil pass0 (pa_cons (pv 3) pa_nil)) (pe_one (pe_call G_is_word_or_empty hr_is_word_or_empty (by rfl) T.g_is_word_or_empty T.k_is_word_or_empty b_is_word_or_empty .nil pass0 (pa_cons (pv 4) pa_nil))))))))), ?_⟩
    refine ⟨_, rfl, v, .ty "tuple", _, _, _, rfl, .ty "tuple", pl.tyX, pl.kit "tuple" (.inr (.inl rfl)), _, rfl, ?_⟩
    cases pl with
    | non => exact iteT (iteT k)
    | bl b => exact iteT (iteT k)
    | int i => exact iteT (iteT k)
    | str h => exact iteT (iteT k)
    | @lst a xs h =>
      have e : stepB H many (.ref a) = false := by unfold stepB; simp only [h]
      rw [e] at k
      exact iteT (iteT k)
    | @dK a xs h =>
      have e : stepB H many (.ref a) = false := by unfold stepB; simp only [h]
      rw [e] at k
      exact iteT (iteT k)
    | @tup a xs h =>
      refine iteF ⟨_, rfl, a, _, rfl, .inr (SqT.of h), rfl, _, rfl, ?_⟩
      rcases Decidable.em (xs.length = 4) with hl | hl
      · have ed : (!decide (V.int (xs.length : Int) = V.int 4)) = false := by rw [hl]; rfl
        show if (!decide (V.int (xs.length : Int) = V.int 4)) = true then _ else _
        rw [ed]
        refine iteF ?_
        match xs, hl, h, al with
        | [x, kk, ss, g], _, h, al =>
          have alx := al a _ rfl h
          obtain ⟨tx, px, nx⟩ := alx x (by simp)
          obtain ⟨tk, pk, nk⟩ := alx kk (by simp)
          obtain ⟨ts, ps, ns⟩ := alx ss (by simp)
          obtain ⟨tg, pg, ng⟩ := alx g (by simp)
          have isInt : ∀ y : V, numB y = true → ∃ i, y = .int i ∧ 0 ≤ i := fun y hy => by
            cases y with
            | int i => exact ⟨i, rfl, of_decide_eq_true hy⟩
            | _ => exact absurd hy Bool.false_ne_true
          have sb : stepB H many (.ref a) = fourB many x kk ss g := by unfold stepB; simp only [h]
          refine ⟨_, rfl, a, _, rfl, SqT.of h, rfl, _, _, rfl, _, _, rfl, _, _, rfl, _, _, rfl, rfl, ?_⟩
          refine ⟨_, rfl, x, tx, rfl, px, _, rfl, ?_⟩
          cases cx : numB x with
          | false =>
            have e : stepB H many (.ref a) = false := by
              rw [sb]
              cases x with
              | int i =>
                have z : decide (0 ≤ i) = false := cx
                cases g <;> simp only [fourB, z, Bool.false_and]
              | _ => rfl
            rw [e] at k
            exact iteT (iteT k)
          | true =>
            obtain ⟨i, rfl, hi⟩ := isInt x cx
            refine iteF ⟨_, rfl, g, tg, rfl, pg, _, rfl, ?_⟩
            cases cg : numB g with
            | false =>
              have e : stepB H many (.ref a) = false := by
                rw [sb]
                cases g with
                | int j =>
                  have z : decide (0 ≤ j) = false := cg
                  simp only [fourB, z, Bool.false_and, Bool.and_false]
                | _ => rfl
              rw [e] at k
              exact iteT (iteT k)
            | true =>
              obtain ⟨j, rfl, hj⟩ := isInt g cg
              have sb' : stepB H many (.ref a) = (decide (0 ≤ i) && decide (0 ≤ j) && decide (i < many) && decide (j < many) && wordE kk && wordE ss) := sb
              rw [decide_eq_true hi, decide_eq_true hj, Bool.true_and, Bool.true_and] at sb'
              refine iteF ⟨_, rfl, _, rfl, _, _, rfl, rfl, _, rfl, ?_⟩
              rcases Decidable.em (many ≤ i) with c1 | c1
              · have e : stepB H many (.ref a) = false := by rw [sb', decide_eq_false (show ¬ i < many by omega)]; rfl
                rw [e] at k
                rw [decide_eq_true c1]
                exact iteT (iteT k)
              · rw [decide_eq_false c1]
                refine iteF ⟨_, rfl, _, rfl, _, _, rfl, rfl, _, rfl, ?_⟩
                rw [decide_eq_true (show i < many by omega), Bool.true_and] at sb'
                rcases Decidable.em (many ≤ j) with c2 | c2
                · have e : stepB H many (.ref a) = false := by rw [sb', decide_eq_false (show ¬ j < many by omega)]; rfl
                  rw [e] at k
                  rw [decide_eq_true c2]
                  exact iteT k
                · rw [decide_eq_false c2]
                  refine iteF ?_
                  rw [decide_eq_true (show j < many by omega), Bool.true_and] at sb'
                  refine ⟨_, rfl, kk, tk, rfl, pk, nk, _, rfl, ?_⟩
                  rw [sb'] at k
                  cases ck : wordE kk with
                  | false => rw [ck] at k; exact iteF k
                  | true =>
                    rw [ck, Bool.true_and] at k
                    exact iteT ⟨_, rfl, ss, ts, rfl, ps, ns, k⟩
      · have ed : (!decide (V.int (xs.length : Int) = V.int 4)) = true := by
          rw [decide_eq_false fun z => hl (by have := V.int.inj z; omega)]; rfl
        have e : stepB H many (.ref a) = false := by
          unfold stepB
          simp only [h]
          match xs, hl with
          | [], _ => rfl
          | [_], _ => rfl
          | [_, _], _ => rfl
          | [_, _, _], _ => rfl
          | [_, _, _, _], hl => exact absurd rfl hl
          | _ :: _ :: _ :: _ :: _ :: _, _ => rfl
        rw [e] at k
        show if (!decide (V.int (xs.length : Int) = V.int 4)) = true then _ else _
        rw [ed]
        exact iteT k
end
end K1
end
section
/-! Tables of sets, whatever stands in them: one more member, and laying anew. -/
namespace MX
open PySem PySem.Spec PyProof.Rows L2

/-- the hashes of a set's rows -/
abbrev hashes (es : Array (Int × Value)) : List Int := es.toList.map (·.1)

theorem len_hashes (es : Array (Int × Value)) : (hashes es).length = es.size := by simp [hashes]

theorem fits_ok {t : SetTable} {es : Array (Int × Value)} (T : TabOk t (hashes es)) (sp : es.size * 5 < t.mask * 3) : t.fits es.size = true := by
  have e := T.sz
  rw [len_hashes] at e
  simp only [SetTable.fits, SetTable.fill, T.dm, e, Bool.and_eq_true, beq_self_eq_true, decide_eq_true_eq, true_and]
  simp
  omega

/-- a row more -/
theorem tab_in {t : SetTable} {es : Array (Int × Value)} (T : TabOk t (hashes es)) (h : Int) (x : Value) {K : Nat} (free : way t.mask h K ∉ t.place.toList) (full : ∀ k, k < K → way t.mask h k ∈ t.place.toList) :
    ∃ p t', t.put (way t.mask h K) = (t', p) ∧ TabOk t' (hashes (SetTable.insertAt es p (h, x))) ∧ t'.mask = t.mask ∧ t'.led = t.led ∧
      (SetTable.insertAt es p (h, x)).size = es.size + 1 ∧ (SetTable.insertAt es p (h, x)).toList.Perm ((h, x) :: es.toList) ∧ t'.fill = es.size + 1 := by
  obtain ⟨e1, e2, T', e3, e4, _, _, _, e5⟩ := T.put free full
  refine ⟨(t.put (way t.mask h K)).2, (t.put (way t.mask h K)).1, rfl, ?_, e3, e4, ?_, ?_, ?_⟩
  · rw [e1]
    unfold hashes
    rw [SetTable.toList_insertAt, List.map_append, List.map_take, List.map_cons, List.map_drop]
    exact T'
  · have q := (SetTable.insertAt_perm es (t.put (way t.mask h K)).2 (h, x)).length_eq
    simpa using q
  · refine (SetTable.insertAt_perm es _ (h, x)).trans ?_
    rw [Array.toList_push]
    exact List.perm_append_singleton _ _
  · rw [e5, len_hashes]

/-- the masks that a set of fewer than 64 members can have when it is laid anew -/
theorem next_mask {m n : Nat} (hm : MaskOk m) (few : n < 64) (before : (n - 1) * 5 < m * 3) (full : n * 5 ≥ m * 3) : ∃ M, SetTable.sizeAbove (SetTable.grown n) - 1 = M ∧ MaskOk M ∧ n ≤ M ∧ n * 5 < M * 3 ∧ SetTable.sizeAbove (SetTable.grown n) ≤ 128 := by
  rcases hm with e | e | e
  · have : n = 5 := by omega
    subst this
    rw [size_20]
    exact ⟨31, rfl, .inr (.inl rfl), by decide, by decide, by decide⟩
  · have : n = 19 := by omega
    subst this
    rw [size_76]
    exact ⟨127, rfl, .inr (.inr rfl), by decide, by decide, by decide⟩
  · omega

theorem pick_map (es : Array (Int × Value)) : ∀ l : List Nat, (∀ i ∈ l, i < es.size) → ∃ rows, l.filterMap (es[·]?) = rows ∧ rows.length = l.length ∧ rows.map (·.1) = l.map fun i => (es.map (·.1)).getD i 0
  | [], _ => ⟨[], rfl, rfl, rfl⟩
  | i :: l, h => by
    obtain ⟨rows, e1, e2, e3⟩ := pick_map es l fun j hj => h j (List.mem_cons_of_mem _ hj)
    have hi : i < es.size := h i List.mem_cons_self
    have e0 : es[i]? = some es[i] := Array.getElem?_eq_getElem hi
    refine ⟨es[i] :: rows, by rw [List.filterMap_cons_some e0, e1], by simp [e2], ?_⟩
    rw [List.map_cons, List.map_cons, e3]
    congr 1
    rw [Array.getD_eq_getD_getElem?, Array.getElem?_map, e0] <;> rfl

/-- all laid anew, when the table is too full -/
theorem tab_anew {t : SetTable} {es : Array (Int × Value)} (T : TabOk t (hashes es)) (few : es.size < 64) (before : (es.size - 1) * 5 < t.mask * 3) (full : t.tooFull = true) :
    ∃ t' order es', t.relaid (es.map (·.1)) (SetTable.grown es.size) = some (t', order) ∧ order.filterMap (es[·]?) = es' ∧ es'.toList.Perm es.toList ∧ es'.size = es.size ∧
      coversAll order es.size = true ∧ TabOk t' (hashes es') ∧ t'.led = t.led ∧ es'.size * 5 < t'.mask * 3 ∧ SetTable.sizeAbove (SetTable.grown es.size) ≤ 128 := by
  have hfull : es.size * 5 ≥ t.mask * 3 := by
    have e := T.sz
    rw [len_hashes] at e
    simpa [SetTable.tooFull, SetTable.fill, T.dm, e] using full
  obtain ⟨M, hM, ok, hn, sp, small⟩ := next_mask T.mok few before hfull
  obtain ⟨t', order, e, pm, T', em, el, _, _⟩ := relaid_ok t (hs := es.map (·.1)) hM ok (by rw [Array.size_map]; exact hn)
  rw [Array.size_map] at pm
  have inside : ∀ i ∈ order.toList, i < es.size := fun i hi => List.mem_range.mp (pm.mem_iff.mp hi)
  obtain ⟨rows, r1, r2, r3⟩ := pick_map es order.toList inside
  have et : (order.filterMap (es[·]?)).toList = rows := by rw [Array.toList_filterMap, r1]
  have pe : (order.filterMap (es[·]?)).toList.Perm es.toList := by
    rw [Array.toList_filterMap]
    exact (pm.filterMap _).trans (by rw [filterMap_getElem?_range])
  have sz : (order.filterMap (es[·]?)).size = es.size := by
    rw [← Array.length_toList, pe.length_eq, Array.length_toList]
  refine ⟨t', order, _, e, rfl, pe, sz, ?_, ?_, el, ?_, small⟩
  · unfold coversAll
    exact List.isPerm_iff.mpr pm
  · unfold hashes
    rw [et, r3]
    exact T'
  · rw [sz, em]
    exact sp

/-- an empty slot is what a search meets that finds no such hash -/
theorem free_slot_ok {t : SetTable} {es : Array (Int × Value)} (T : TabOk t (hashes es)) (sp : es.size * 5 < t.mask * 3) (h : Int) :
    ∃ K, t.freeSlot h = some (way t.mask h K, false) ∧ way t.mask h K ∉ t.place.toList ∧ ∀ k, k < K → way t.mask h k ∈ t.place.toList := by
  obtain ⟨K, few, out, ins⟩ := T.first (by rw [len_hashes]; omega) h
  refine ⟨K, ?_, out, ins⟩
  have z := go_spec t T.ris T.dm (fun _ => h + 1) h (10 * SetTable.turns t.mask) K (runAt t.mask (SetTable.bits h % (t.mask + 1)) (SetTable.bits h)) rfl few ins out
  have e : t.probe (fun _ => h + 1) h (t.probeStart h) = some (.empty (way t.mask h K) none) := by
    rcases z with ⟨_, _, _, _, bad, _⟩ | ⟨_, e⟩
    · exact absurd (show h + 1 = h from bad) (by omega)
    · exact e
  unfold SetTable.freeSlot
  rw [e] <;> rfl

/-- what a scan lays -/
theorem lay_in {t : SetTable} {es : Array (Int × Value)} (T : TabOk t (hashes es)) (sp : es.size * 5 < t.mask * 3) (few : es.size + 1 < 64) (h : Int) (x : Value) :
    ∃ es' t', layNew t es h x = (es', t', false, false) ∧ TabOk t' (hashes es') ∧ t'.mask = t.mask ∧ t'.led = t.led ∧ es'.size = es.size + 1 ∧ es'.toList.Perm ((h, x) :: es.toList) := by
  obtain ⟨K, e, out, ins⟩ := free_slot_ok T sp h
  obtain ⟨p, t', e1, T', em, el, sz, pm, ef⟩ := tab_in T h x out ins
  have hfit : t'.fits (SetTable.insertAt es p (h, x)).size = true := by
    have q := T'.sz
    rw [len_hashes] at q
    have big : 7 ≤ t'.mask := by rcases T'.mok with z | z | z <;> omega
    simp only [SetTable.fits, ef, q, beq_self_eq_true, Bool.true_and, decide_eq_true_eq]
    omega
  refine ⟨_, t', ?_, T', em, el, sz, pm⟩
  unfold layNew
  rw [e]
  simp only [e1]
  rw [show t'.orStandIn (SetTable.insertAt es p (h, x)).size = t' from by unfold SetTable.orStandIn; rw [if_pos hfit], hfit] <;> rfl
end MX
end
section
/-! A set with fewer than 64 members: its table is sound; adding to it. -/
namespace MX
open PySem PySem.Spec PyProof.Rows L2

/-- at a stands a set of these rows -/
structure Held (w : World) (h : Heap) (a : Addr) (es : Array (Int × Value)) (ep : Nat) (t : SetTable) : Prop where
  obj : ∃ o, h.get? a = some o ∧ o.ExactSet ∧ o.data = .set es ep t
  tab : TabOk t (hashes es)
  order : w.params.followText "set-order" = true ∨ t.led = true
  space : es.size * 5 < t.mask * 3
  few : es.size < 64

theorem Held.fits {w : World} {h : Heap} {a : Addr} {es : Array (Int × Value)} {ep : Nat} {t : SetTable} (R : Held w h a es ep t) : t.fits es.size = true := fits_ok R.tab R.space
theorem Held.stays {w : World} {h h' : Heap} {a : Addr} {es : Array (Int × Value)} {ep : Nat} {t : SetTable} (R : Held w h a es ep t) (k : ∀ o, h.get? a = some o → h'.get? a = some o) : Held w h' a es ep t := by
  obtain ⟨o, ho, more⟩ := R.obj
  exact { R with obj := ⟨o, k o ho, more⟩ }
/-- plain or not says nothing of the slots -/
theorem dull {t : SetTable} {hs : List Int} (T : TabOk t hs) : TabOk { t with plain := false } hs := by
  cases t
  exact ⟨T.ris, T.dm, T.sz, T.mok, T.bd, T.reach⟩

section
variable {P : Program} {w : World} {A : Around} {E : Value → Shared → Prop} {s : Shared} {a : Addr} {es : Array (Int × Value)} {ep : Nat} {t : SetTable}

/-- other rows are stored -/
theorem put_rows {o : Obj} {es' : Array (Int × Value)} {t' : SetTable} {h : Heap} (ho : h.get? a = some o) (hx : o.ExactSet) (hd : o.data = .set es ep t) (T : TabOk t' (hashes es')) (ord : w.params.followText "set-order" = true ∨ t'.led = true)
    (sp : es'.size * 5 < t'.mask * 3) (few : es'.size < 64) : Held w (h.update a (Obj.putSet es' t')) a es' (ep + 1) t' := by
  refine ⟨⟨{ o with data := .set es' (ep + 1) t' }, ?_, hx, rfl⟩, T, ord, sp, few⟩
  have e := Heap.get?_update_self (Obj.putSet es' t') ho (by rw [putSet_of es' t' hd] <;> rfl)
  rw [putSet_of es' t' hd] at e
  exact e

theorem sizes {n : Nat} (few : n < 64) : n ≤ sizeLine := by rw [sizeLine_eq]; omega

/-- behind a store: laid anew by a scan's way, if the table is too full -/
theorem scan_end {Q : Option Bool → Shared → Prop} {o : Obj} {es1 : Array (Int × Value)} {t1 : SetTable} {n : Nat} (ho : s.heap.get? a = some o) (hx : o.ExactSet) (hd : o.data = .set es ep t)
    (T : TabOk t1 (hashes es1)) (ord : w.params.followText "set-order" = true ∨ t1.led = true) (sp : n * 5 < t1.mask * 3) (hn : es1.size = n + 1) (few : es1.size < 64) {g : Bool → Sem Unit} (hg : g false = pure ())
    (q : ∀ h' es2 ep2 t2, Heap.SameBut a s.heap h' → Held w h' a es2 ep2 t2 → es2.toList.Perm es1.toList → Q (some true) { s with heap := h' }) :
    wpAny (model P w) A (do
      storeSet a es1 t1
      if (!false && t1.tooFull) = true then do
        g (relayAll t1 es1 (SetTable.grown es1.size)).2.2
        storeSet a (relayAll t1 es1 (SetTable.grown es1.size)).1 (relayAll t1 es1 (SetTable.grown es1.size)).2.1
        pure (some true)
      else pure (some true)) Q E s := by
  refine wpAny_bind (wpAny_storeSet_of ho hd ?_ (sizes few))
  have same1 := Heap.SameBut.update s.heap a (Obj.putSet es1 t1)
  have o1 := Heap.get?_update_self (Obj.putSet es1 t1) ho (by rw [putSet_of es1 t1 hd] <;> rfl)
  rw [putSet_of es1 t1 hd] at o1
  rcases Bool.eq_false_or_eq_true t1.tooFull with full | notFull
  · obtain ⟨t2, order, es2, e1, e2, pm, sz, cov, T2, el, sp2, _⟩ := tab_anew T few (by rw [hn]; exact sp) full
    have fit2 : t2.fits es2.size = true := fits_ok T2 sp2
    have er : relayAll t1 es1 (SetTable.grown es1.size) = (es2, t2, false) := by
      unfold relayAll
      rw [e1]
      simp only [e2, cov, fit2, Bool.and_self, if_true]
    rw [full, er]
    refine wp_if_pos rfl ?_
    dsimp only
    rw [hg]
    refine wpAny_bind (wpAny_pure ?_)
    refine wpAny_bind (wpAny_storeSet_of o1 rfl ?_ (sizes (by rw [sz]; exact few)))
    refine wpAny_pure (q _ es2 _ t2 (same1.trans (Heap.SameBut.update _ a _)) (put_rows o1 hx rfl T2 (ord.imp id fun z => el.trans z) sp2 (by rw [sz]; exact few)) pm)
  · rw [notFull]
    refine wp_if_neg (by decide) (wpAny_pure (q _ es1 _ t1 same1 (put_rows ho hx hd T ord ?_ few) (List.Perm.refl _)))
    have e := T.sz
    rw [len_hashes] at e
    have big := notFull
    simp only [SetTable.tooFull, SetTable.fill, T.dm, e, decide_eq_false_iff_not] at big
    simp at big
    omega

/-- the same by the other way of laying anew -/
theorem relay_end {Q : Unit → Shared → Prop} {o : Obj} (ho : s.heap.get? a = some o) (hx : o.ExactSet) (hd : o.data = .set es ep t) (T : TabOk t (hashes es)) (ord : w.params.followText "set-order" = true ∨ t.led = true)
    {n : Nat} (sp : n * 5 < t.mask * 3) (hn : es.size = n + 1) (few : es.size < 64) (full : t.tooFull = true)
    (q : ∀ h' es2 ep2 t2, Heap.SameBut a s.heap h' → Held w h' a es2 ep2 t2 → es2.toList.Perm es.toList → Q () { s with heap := h' }) : wpAny (model P w) A (setRelay a (SetTable.grown es.size)) Q E s := by
  obtain ⟨t2, order, es2, e1, e2, pm, sz, _, T2, el, sp2, low⟩ := tab_anew T few (by rw [hn]; exact sp) full
  have fit : t.fits es.size = true := by
    have e := T.sz
    rw [len_hashes] at e
    have big : 7 ≤ t.mask := by rcases T.mok with z | z | z <;> omega
    simp only [SetTable.fits, SetTable.fill, T.dm, e, beq_self_eq_true, Bool.true_and, decide_eq_true_eq]
    simp
    omega
  rw [setRelay_eq]
  refine wpAny_bind (wpAny_setState_of ho hd fit ?_)
  dsimp only
  refine wp_if_neg (by rw [sizeLine_eq]; omega) ?_
  try refine wpAny_bind (wpAny_pure ?_)
  rw [e1]
  dsimp only
  rw [e2]
  have eq0 : ¬ (es2.size != es.size) = true := by rw [sz]; simp
  refine wpAny_bind (wp_if_neg eq0 ?_)
  try refine wpAny_bind (wpAny_pure ?_)
  refine wpAny_pure ?_
  refine wpAny_storeSet_of ho hd ?_ (sizes (by rw [sz]; exact few))
  exact q _ es2 _ t2 (Heap.SameBut.update _ a _) (put_rows ho hx hd T2 (ord.imp id fun z => el.trans z) sp2 (by rw [sz]; exact few)) pm
end
end MX
end
section
/-! Adding: by a scan (numbers, words), and by the table (tuples). -/
namespace MX
open PySem PySem.Spec PyProof.Rows L2

section
variable {P : Program} {w : World} {A : Around} {E : Value → Shared → Prop} {s : Shared} {a : Addr} {es : Array (Int × Value)} {ep : Nat} {t : SetTable}

/-- a number or a word is added -/
theorem add_leaf {K : Type} [DecidableEq K] {knd : KeyKind P w K} {k : K} {x : Value} {Q : Bool → Shared → Prop} (R : Held w s.heap a es ep t) (el : ElemsOf knd es.toList) (hk : knd.is k x = true) (hx : x.scannable = true) (room : es.size + 1 < 64)
    (old : ∀ e ∈ es.toList, knd.is k e.2 = true → Q false s)
    (new : (∀ e ∈ es.toList, knd.is k e.2 = false) → ∀ h' es' ep' t', Heap.SameBut a s.heap h' → Held w h' a es' ep' t' → es'.toList.Perm ((knd.hash k, x) :: es.toList) → Q true { s with heap := h' }) :
    wpAny (model P w) A (setAddHashed a x (knd.hash k)) Q E s := by
  obtain ⟨o, ho, ex, hd⟩ := R.obj
  have scan : byScan x es = true := byScan_of hx (Nat.lt_trans R.few (by decide)) el
  unfold setAddHashed
  refine wpAny_holding ?_
  rw [show (100000 : Nat) = 99999 + 1 from rfl, setAddHashedIn_succ]
  refine wpAny_bind (wpAny_setState_of ho hd R.fits ?_)
  dsimp only
  refine wp_if_pos scan ?_
  unfold setAddByScan
  refine wpAny_bind (wpAny_bind (wpAny_rule (wpAny_bind (wpAny_setScan_of hk ho hd R.fits el ?_))))
  cases hf : List.findIdx? (fun e => knd.is k e.2) es.toList with
  | some j =>
    obtain ⟨hj, yes, _⟩ := List.findIdx?_eq_some_iff_getElem.mp hf
    exact wpAny_pure (wpAny_pure (old _ (List.getElem_mem hj) yes))
  | none =>
    have absent : ∀ e ∈ es.toList, knd.is k e.2 = false := fun e he => by
      have z := List.findIdx?_eq_none_iff.mp hf e he
      simpa using z
    obtain ⟨es1, t1, e1, T1, em, eled, sz, pm⟩ := lay_in R.tab R.space room (knd.hash k) x
    dsimp only
    rw [e1]
    dsimp only
    refine wpAny_bind (wpAny_pure ?_)
    have ord1 : w.params.followText "set-order" = true ∨ t1.led = true := R.order.imp id fun z => eled.trans z
    have sp1 : es.size * 5 < t1.mask * 3 := by rw [em]; exact R.space
    have last : ∀ h' es2 ep2 t2, Heap.SameBut a s.heap h' → Held w h' a es2 ep2 t2 → es2.toList.Perm es1.toList → Q true { s with heap := h' } := fun h' es2 ep2 t2 sb H2 p2 => new absent h' es2 ep2 t2 sb H2 (p2.trans pm)
    by_cases pl : t1.plain = true
    · refine wp_if_pos pl ?_
      rw [hashByValue_scannable 8 hx]
      refine wpAny_bind (wpAny_pure ?_)
      refine scan_end ho ex hd (t1 := if plainKind x = true then t1 else { t1 with plain := false }) (n := es.size) ?_ ?_ ?_ sz (by rw [sz]; exact room) rfl fun h' es2 ep2 t2 sb H2 p2 => ?_
      · split
        · exact T1
        · exact dull T1
      · split
        · exact ord1
        · exact ord1
      · split
        · exact sp1
        · exact sp1
      · exact wpAny_pure (last h' es2 ep2 t2 sb H2 p2)
    · refine wp_if_neg pl ?_
      refine wpAny_bind (wpAny_pure ?_)
      refine scan_end ho ex hd (t1 := t1) (n := es.size) T1 ord1 sp1 sz (by rw [sz]; exact room) rfl fun h' es2 ep2 t2 sb H2 p2 => ?_
      exact wpAny_pure (last h' es2 ep2 t2 sb H2 p2)

/-- a place on the way of a hash -/
abbrev spot (m : Nat) (h : Int) (c : Nat) : SetTable.Probe := nth m (runAt m (SetTable.bits h % (m + 1)) (SetTable.bits h)) c
theorem spot_plain (m : Nat) (h : Int) : ∀ c, (spot m h c).dummy = none := by
  have step : ∀ p : SetTable.Probe, (adv m p).dummy = p.dummy := fun p => by unfold adv; split <;> rfl
  intro c
  induction c with
  | zero => rfl
  | succ c ih => show (nth m _ (c + 1)).dummy = none; rw [nth_succ, step]; exact ih

/-- the search of an adding: what is the same is found, or the first empty slot -/
theorem seek {h : Int} {x : Value} {same : Value → Bool} {Q : SetFound → Shared → Prop} (R : Held w s.heap a es ep t)
    (eqs : ∀ e ∈ es.toList, e.1 = h → ∀ (Q' : Bool → Shared → Prop), Q' (same e.2) s → wpAny (model P w) A (eqBool e.2 x) Q' E s)
    (refs : ∀ e ∈ es.toList, ∃ b, e.2 = Value.ref b)
    (seen : ∀ (ys : List Value) (Q' : Bool → Shared → Prop), (∀ y ∈ ys, ∃ e ∈ es.toList, e.2 = y) → Q' false s → wpAny (model P w) A (searchCouldBeSeen x ys) Q' E s)
    {K : Nat} (low : K < 10 * SetTable.turns t.mask) (out : way t.mask h K ∉ t.place.toList) (ins : ∀ k, k < K → way t.mask h k ∈ t.place.toList)
    (old : ∀ e ∈ es.toList, e.1 = h → same e.2 = true → Q (.there none) s) (new : (∀ e ∈ es.toList, e.1 = h → same e.2 = false) → Q (.free (way t.mask h K) false) s) :
    ∀ (f c : Nat) (stand : Option SetTable.Probe), stand.getD (t.probeStart h) = spot t.mask h c → c ≤ K → K - c < f →
      (∀ k, k < c → ∀ (i : Nat) e, t.place.toList[i]? = some (way t.mask h k) → es[i]? = some e → e.1 = h → same e.2 = false) →
      wpAny (model P w) A (setSearchFrom a x h true f stand) Q E s := by
  obtain ⟨o, ho, ex, hd⟩ := R.obj
  have odd : ¬ t.gaveWay = true := by
    unfold SetTable.gaveWay
    rw [mask_odd R.tab.mok]
    decide
  have rowAt : ∀ {i : Nat} {j : Nat}, t.place.toList[i]? = some j → ∃ e, es[i]? = some e ∧ e ∈ es.toList := fun {i j} hi => by
    have h1 : i < t.place.toList.length := (List.getElem?_eq_some_iff.mp hi).1
    have h2 := R.tab.sz
    rw [len_hashes] at h2
    have h3 : i < es.size := by rw [Array.length_toList, h2] at h1; exact h1
    exact ⟨es[i], Array.getElem?_eq_getElem h3, by simp⟩
  intro f
  induction f with
  | zero => intro c _ _ _ hf; exact absurd hf (Nat.not_lt_zero _)
  | succ f again =>
    intro c stand hst hc hf past
    have move : ∀ q, nth t.mask (spot t.mask h c) q = spot t.mask h (c + q) := fun q => (nth_add t.mask c _ q).symm
    have far : c + (K - c) = K := by omega
    rw [setSearchFrom_succ]
    refine wpAny_bind (wpAny_setState_of ho hd R.fits ?_)
    dsimp only
    refine wp_if_neg odd ?_
    try refine wpAny_bind (wpAny_pure ?_)
    have met := go_spec t R.tab.ris R.tab.dm (fun i => (es[i]?.map (·.1)).getD 0) h (10 * SetTable.turns t.mask) (K - c) (spot t.mask h c) (spot_plain _ _ c) (by omega)
      (fun q hq => by rw [move]; exact ins (c + q) (by omega)) (by rw [move, far]; exact out)
    rw [hst]
    have passed : ∀ q, q ≤ K - c → (∀ (k' i' : Nat), k' < q → t.place.toList[i']? = some (nth t.mask (spot t.mask h c) k').j → (es[i']?.map (·.1)).getD 0 ≠ h) →
        ∀ k, k < c + q → ∀ (i : Nat) e, t.place.toList[i]? = some (way t.mask h k) → es[i]? = some e → e.1 = h → same e.2 = false := fun q hq no k hk i e hi he eh => by
      rcases Nat.lt_or_ge k c with z | z
      · exact past k z i e hi he eh
      · refine absurd ?_ (no (k - c) i (by omega) (by rw [move, show c + (k - c) = k by omega]; exact hi))
        rw [he]
        exact eh
    rcases met with ⟨q, i, hq, hi, hh, no, e⟩ | ⟨no, e⟩
    · have e' : t.probe (fun i => (es[i]?.map (·.1)).getD 0) h (spot t.mask h c) = _ := e
      rw [e']
      dsimp only
      rw [move] at hi
      obtain ⟨r, hr, mem⟩ := rowAt hi
      have hrh : r.1 = h := by
        rw [hr] at hh
        exact hh
      obtain ⟨b, hb⟩ := refs r mem
      have go_on : wpAny (model P w) A (searchRest a x h true f es t (nth t.mask (spot t.mask h c) q).j i (nth t.mask (spot t.mask h c) (q + 1))) Q E s := by
        unfold searchRest
        rw [hr]
        dsimp only
        refine wpAny_bind (wpAny_holding (eqs r mem hrh _ ?_))
        refine wpAny_bind (wpAny_setState_of ho hd R.fits ?_)
        dsimp only
        cases hs : same r.2 with
        | true => exact wp_if_pos rfl (wpAny_pure (old r mem hrh hs))
        | false =>
          refine wp_if_neg (by decide) ?_
          try refine wpAny_bind (wpAny_pure ?_)
          rw [sameMem]
          dsimp only
          have live : t.slot (nth t.mask (spot t.mask h c) q).j = .live i := by rw [move]; exact slot_live R.tab.ris hi
          simp only [if_true, live, hr]
          rw [hb]
          refine wpAny_bind (wpAny_isSame_ref_self (wpAny_bind (wpAny_pure ?_)))
          simp only [if_true]
          refine wp_if_neg (by decide) ?_
          refine again (c + (q + 1)) _ (by rw [← move]; rfl) (by omega) (by omega) fun k hk i' e2 hi' he2 eh => ?_
          rcases Nat.lt_or_ge k (c + q) with z | z
          · exact passed q (by omega) no k z i' e2 hi' he2 eh
          · have ek : k = c + q := by omega
            rw [ek] at hi'
            have l2 := slot_live R.tab.ris hi'
            have l1 := slot_live R.tab.ris hi
            rw [l1] at l2
            injection l2 with l2
            rw [← l2, hr] at he2
            rw [← Option.some.inj he2]
            exact hs
      by_cases led : t.led = true
      · refine wp_if_neg (by simp [led]) ?_
        try refine wpAny_bind (wpAny_pure ?_)
        exact go_on
      · refine wp_if_pos (by simp [led]) ?_
        refine wpAny_bind (seen _ _ (fun y hy => ?_) ?_)
        · obtain ⟨e2, m2, rfl⟩ := List.mem_map.mp hy
          have m3 : e2 ∈ es ∧ e2.1 = h := by simpa using m2
          exact ⟨e2, by simpa using m3.1, rfl⟩
        · refine wp_if_neg (by decide) ?_
          try refine wpAny_bind (wpAny_pure ?_)
          exact go_on
    · have e' : t.probe (fun i => (es[i]?.map (·.1)).getD 0) h (spot t.mask h c) = _ := e
      rw [e']
      dsimp only
      refine wpAny_pure ?_
      rw [move, far]
      refine new fun r mem eh => ?_
      obtain ⟨i, hi, er⟩ := List.getElem_of_mem mem
      have hi2 : i < es.size := by simpa using hi
      have hr : es[i]? = some r := by rw [Array.getElem?_eq_getElem hi2, ← er] <;> simp
      have hp : i < t.place.toList.length := by
        have h2 := R.tab.sz
        rw [len_hashes] at h2
        rw [Array.length_toList, h2]
        exact hi2
      have hhs : (hashes es)[i]? = some h := by
        unfold hashes
        rw [List.getElem?_map, Array.getElem?_toList, hr, ← eh] <;> rfl
      obtain ⟨k, hk, ek⟩ := R.tab.before out hhs (List.getElem?_eq_getElem hp)
      exact passed (K - c) (Nat.le_refl _) no k (by rw [far]; exact hk) i r (by rw [List.getElem?_eq_getElem hp, ek]) hr eh
end
end MX
end
section
/-! Sets of tuples of numbers and words. -/
namespace MX
open PySem PySem.Spec PyProof.Rows L2

abbrev MT : Type := List Key
/-- the tuple at a has these items -/
abbrev TAt (P : Program) (w : World) (h : Heap) (k : MT) (a : Addr) : Prop := IsTupleKey (mixKind P w) h k a
abbrev mhash (P : Program) (w : World) (k : MT) : Int := tupleKeyHash (mixKind P w) k

/-- a number or a word -/
def Leaf (v : Value) : Prop := (∃ i t, v = .int i t) ∨ ∃ x t, v = .str x t
theorem Leaf.of_key {P : Program} {w : World} {k : Key} {v : Value} (h : (mixKind P w).is k v = true) : Leaf v := by
  rcases keyIs_shape h with ⟨i, t, _, e⟩ | ⟨x, t, _, e⟩
  · exact .inl ⟨i, t, e⟩
  · exact .inr ⟨x, t, e⟩
theorem leaves {P : Program} {w : World} {k : MT} {vs : List Value} (h : ItemsAre (mixKind P w) k vs) : ∀ v ∈ vs, Leaf v := by
  induction h with
  | nil => intro v hv; cases hv
  | cons h1 _ ih =>
    intro v hv
    rcases List.mem_cons.mp hv with rfl | hv
    · exact Leaf.of_key h1
    · exact ih v hv
theorem leaf_class {v : Value} (l : Leaf v) (n : Nat) : ofAClassStatement n v = pure false := by
  rcases l with ⟨i, t, rfl⟩ | ⟨x, t, rfl⟩ <;> cases n <;> rfl
theorem leaf_hash {v : Value} (l : Leaf v) (n : Nat) : ∃ b, hashByValue n v = pure b := by
  rcases l with ⟨i, t, rfl⟩ | ⟨x, t, rfl⟩
  · exact ⟨true, by cases n <;> rfl⟩
  · exact ⟨false, by cases n <;> rfl⟩
theorem tat_kept {P : Program} {w : World} {h h' : Heap} {k : MT} {a : Addr} (x : TAt P w h k a) (keep : ∀ b o, h.get? b = some o → h'.get? b = some o) : TAt P w h' k a := by
  obtain ⟨o, items, n, ho, more⟩ := x
  exact ⟨o, items, n, keep a o ho, more⟩

section
variable {P : Program} {w : World} {A : Around} {E : Value → Shared → Prop} {s : Shared}

/-- the items of a sequence are read off its object -/
theorem items_read {M : Model} {β : Type} {v : Value} {a : Addr} {items : Array Value} {k : Option (Array Value) → Sem β} {Q : β → Shared → Prop} (at_ : ∃ o n, s.heap.get? a = some o ∧ o.data = .seq items n) (go : wpAny M A (k (some items)) Q E s) (ev : v = .ref a := by rfl) : wpAny M A (seqItems? v >>= k) Q E s := by
  obtain ⟨o, n, ho, hd⟩ := at_
  subst ev
  exact wpAny_bind (wpAny_seqItems ho hd go)
/-- a loop over items, item by item -/
theorem each_item {M : Model} {β : Type} {items : Array Value} {z : β} {f : Value → β → Sem (ForInStep β)} {Q : β → Shared → Prop} (I : List Value → β → Shared → Prop) (i0 : I items.toList z s)
    (turn : ∀ v rest r s', I (v :: rest) r s' → wpAny M A (f v r) (fun y s'' => match y with | .yield r' => I rest r' s'' | .done r' => Q r' s'') E s') (last : ∀ r s', I [] r s' → Q r s') : wpAny M A (forIn items z f) Q E s := by
  simpa using wpAny_forIn_list f I Q turn last items.toList z i0

/-- whether it is hashed by value: either answer -/
theorem ask_hash {k : MT} {b : Addr} {Q : Bool → Shared → Prop} (x : TAt P w s.heap k b) (q : ∀ y, Q y s) : wpAny (model P w) A (hashByValue 8 (.ref b)) Q E s := by
  have ty := x.typeIs
  obtain ⟨o, items, n, ho, _, hd, hi⟩ := x
  have lv := leaves hi
  unfold hashByValue
  refine wpAny_bind (wpAny_specialOf ty F.slot_tuple_hash.lookup ?_)
  refine items_read (v := .ref b) ⟨o, n, ho, hd⟩ (wpAny_bind (each_item (fun rest _ s' => s' = s ∧ ∀ v ∈ rest, Leaf v) ⟨rfl, lv⟩ (fun v rest r s' ⟨es, all⟩ => ?_) fun r s' ⟨es, _⟩ => ?_))
  · obtain ⟨y, ey⟩ := leaf_hash (all v List.mem_cons_self) 7
    subst es
    rw [ey]
    refine wpAny_bind (wpAny_pure ?_)
    cases y with
    | true => exact wpAny_pure ⟨rfl, fun u hu => all u (List.mem_cons_of_mem _ hu)⟩
    | false => exact wpAny_pure (wpAny_pure (q _))
  · subst es
    obtain ⟨r1, r2⟩ := r
    cases r1 with
    | none => exact wpAny_pure (q _)
    | some z => exact wpAny_pure (q _)

/-- no class statement's object is under it -/
theorem ask_class {k : MT} {b : Addr} {Q : Bool → Shared → Prop} (x : TAt P w s.heap k b) (q : Q false s) : wpAny (model P w) A (ofAClassStatement 8 (.ref b)) Q E s := by
  have ty := x.typeIs
  obtain ⟨o, items, n, ho, _, hd, hi⟩ := x
  have lv := leaves hi
  unfold ofAClassStatement
  refine wpAny_bind (wpAny_typeOf ty ?_)
  have e : (("tuple" : String) == "tuple") = true := by decide
  simp only [e, if_true]
  refine wpAny_bind (wpAny_pure ?_)
  simp only [Bool.not_true, Bool.false_eq_true, if_false]
  refine items_read (v := .ref b) ⟨o, n, ho, hd⟩ (wpAny_bind (each_item (fun rest r s' => r.1 = none ∧ s' = s ∧ ∀ v ∈ rest, Leaf v) ⟨rfl, rfl, lv⟩ (fun v rest r s' ⟨er, es, all⟩ => ?_) fun r s' ⟨er, es, _⟩ => ?_))
  · rw [leaf_class (all v List.mem_cons_self)]
    exact wpAny_bind (wpAny_pure (wpAny_pure ⟨rfl, es, fun u hu => all u (List.mem_cons_of_mem _ hu)⟩))
  · obtain ⟨r1, r2⟩ := r
    dsimp only at er
    subst er es
    exact wpAny_pure q

/-- a search among such tuples is seen by nobody -/
theorem ask_seen {k : MT} {b : Addr} {Q : Bool → Shared → Prop} (x : TAt P w s.heap k b) {ys : List Value} (hy : ∀ y ∈ ys, ∃ k' c, y = .ref c ∧ TAt P w s.heap k' c) (q : Q false s) : wpAny (model P w) A (searchCouldBeSeen (.ref b) ys) Q E s := by
  unfold searchCouldBeSeen
  refine wpAny_bind ?_
  refine wpAny_forIn_list _ (fun rest r s' => r.1 = none ∧ s' = s ∧ ∀ y ∈ rest, ∃ k' c, y = .ref c ∧ TAt P w s.heap k' c) _ (fun v rest r s' ⟨er, es, all⟩ => ?_) (fun r s' ⟨er, es, _⟩ => ?_) _ _ ⟨rfl, rfl, hy⟩
  · obtain ⟨k', c, rfl, xc⟩ := all v List.mem_cons_self
    have left : ∀ y ∈ rest, ∃ k' c, y = Value.ref c ∧ TAt P w s.heap k' c := fun u hu => all u (List.mem_cons_of_mem _ hu)
    subst es
    dsimp only
    rcases Bool.eq_false_or_eq_true (b == c || (carriedByValue (.ref b) && carriedByValue (.ref c))) with y | n
    · exact wp_if_pos y (wpAny_pure ⟨rfl, rfl, left⟩)
    · refine wp_if_neg (by rw [n]; decide) (wpAny_bind (wpAny_eqIsQuiet_tuple x ?_))
      refine wp_if_neg (by decide) (wpAny_bind (wpAny_eqIsQuiet_tuple xc ?_))
      refine wp_if_neg (by decide) (wpAny_bind (ask_class x ?_))
      refine wp_if_neg (by decide) (wpAny_bind (ask_class xc ?_))
      exact wp_if_neg (by decide) (wpAny_pure ⟨rfl, rfl, left⟩)
  · obtain ⟨r1, r2⟩ := r
    dsimp only at er
    subst er es
    exact wpAny_pure q
end
end MX
end
section
/-! A tuple is added to a set of tuples. -/
namespace MX
open PySem PySem.Spec PyProof.Rows L2

abbrev rowT (P : Program) (w : World) (p : Addr × MT) : Int × Value := (mhash P w p.2, .ref p.1)
/-- the set at a has these tuples: where each stands, and what it is -/
structure SetM (P : Program) (w : World) (h : Heap) (a : Addr) (L : List (Addr × MT)) : Prop where
  held : ∃ es ep t, Held w h a es ep t ∧ es.toList.Perm (L.map (rowT P w))
  once : (L.map (·.2)).Nodup
  here : ∀ p ∈ L, TAt P w h p.2 p.1
open Classical in
/-- with one more, if it is new -/
noncomputable def oneMore (L : List (Addr × MT)) (x : Addr) (k : MT) : List (Addr × MT) := if k ∈ L.map (fun p : Addr × MT => p.2) then L else (x, k) :: L

theorem SetM.kept {P : Program} {w : World} {h h' : Heap} {a : Addr} {L : List (Addr × MT)} (R : SetM P w h a L) (k : ∀ b o, h.get? b = some o → h'.get? b = some o) : SetM P w h' a L := by
  obtain ⟨es, ep, t, H, pm⟩ := R.held
  exact ⟨⟨es, ep, t, H.stays (k a), pm⟩, R.once, fun p hp => tat_kept (R.here p hp) k⟩
theorem size_of {P : Program} {w : World} {es : Array (Int × Value)} {L : List (Addr × MT)} (pm : es.toList.Perm (L.map (rowT P w))) : es.size = L.length := by
  have e := pm.length_eq
  rw [List.length_map, Array.length_toList] at e
  exact e

section
variable {P : Program} {w : World} {A : Around} {E : Value → Shared → Prop} {s : Shared}

/-- tuples stay where a set is stored to -/
theorem tat_but {h h' : Heap} {a b : Addr} {k : MT} {o : Obj} {es : Array (Int × Value)} {ep : Nat} {t : SetTable} (x : TAt P w h k b) (ho : h.get? a = some o) (hd : o.data = .set es ep t) (sb : Heap.SameBut a h h') : TAt P w h' k b := by
  obtain ⟨u, items, n, hu, hc, hi, more⟩ := x
  have ne : b ≠ a := fun e => by
    subst e
    rw [ho] at hu
    cases hu
    rw [hd] at hi
    cases hi
  exact ⟨u, items, n, (sb.2 b ne).trans hu, hc, hi, more⟩

theorem add_tup {a x : Addr} {L : List (Addr × MT)} {k : MT} {Q : Bool → Shared → Prop} (R : SetM P w s.heap a L) (hx : TAt P w s.heap k x) (hu : A.units < cLine) (room : L.length + 1 < 64)
    (q : ∀ b h', Heap.SameBut a s.heap h' → SetM P w h' a (oneMore L x k) → Q b { s with heap := h' }) : wpAny (model P w) A (setAddHashed a (.ref x) (mhash P w k)) Q E s := by
  obtain ⟨es, ep, t, H, pm⟩ := R.held
  obtain ⟨o, ho, ex, hd⟩ := H.obj
  have sz := size_of pm
  have rows : ∀ e ∈ es.toList, ∃ p ∈ L, e = rowT P w p := fun e he => by
    obtain ⟨p, hp, z⟩ := List.mem_map.mp (pm.mem_iff.mp he)
    exact ⟨p, hp, z.symm⟩
  have one : ∀ p ∈ L, ∀ p' ∈ L, p.1 = p'.1 → p.2 = p'.2 := fun p hp p' hp' e => by
    have z := R.here p' hp'
    rw [← e] at z
    exact (tupleKind (mixKind P w)).inj (R.here p hp) z
  obtain ⟨K, low, out, ins⟩ := H.tab.first (by rw [len_hashes]; have := H.space; omega) (mhash P w k)
  have small : 10 * SetTable.turns t.mask ≤ 1420 := by
    unfold SetTable.turns
    rcases H.tab.mok with e | e | e <;> omega
  have none_in : (∀ e ∈ es.toList, e.1 = mhash P w k → (decide (∃ p ∈ L, e.2 = Value.ref p.1 ∧ p.2 = k)) = false) → k ∉ L.map (·.2) := fun no hm => by
    obtain ⟨p, hp, e⟩ := List.mem_map.mp hm
    have z := no (rowT P w p) (pm.mem_iff.mpr (List.mem_map_of_mem hp)) (by show mhash P w p.2 = _; rw [e])
    exact of_decide_eq_false z ⟨p, hp, rfl, e⟩
  unfold setAddHashed
  refine wpAny_holding ?_
  rw [show (100000 : Nat) = 99999 + 1 from rfl, setAddHashedIn_succ]
  refine wpAny_bind (wpAny_setState_of ho hd H.fits ?_)
  dsimp only
  refine wp_if_neg (by simp [byScan, Value.scannable]) ?_
  try refine wpAny_bind (wpAny_pure ?_)
  refine wpAny_bind ?_
  unfold setSearch
  refine seek (same := fun v => decide (∃ p ∈ L, v = Value.ref p.1 ∧ p.2 = k)) H (fun e he eh Q' q' => ?_) (fun e he => ?_) (fun ys Q' hy q' => ?_) low out ins (fun e he eh yes => ?_) (fun no => ?_) 100000 0 none rfl (Nat.zero_le _) (by omega) (fun c hc => absurd hc (Nat.not_lt_zero c))
  · obtain ⟨p, hp, rfl⟩ := rows e he
    refine wpAny_eqBool_tuple hu (R.here p hp) hx ?_
    have z : decide (∃ p' ∈ L, (rowT P w p).2 = Value.ref p'.1 ∧ p'.2 = k) = decide (p.2 = k) := by
      apply decide_eq_decide.mpr
      constructor
      · rintro ⟨p', hp', e1, e2⟩
        have e3 : p.1 = p'.1 := by injection e1
        rw [one p hp p' hp' e3]
        exact e2
      · exact fun e => ⟨p, hp, rfl, e⟩
    rw [z] at q'
    exact q'
  · obtain ⟨p, hp, rfl⟩ := rows e he
    exact ⟨p.1, rfl⟩
  · refine ask_seen hx (fun y my => ?_) q'
    obtain ⟨e, he, rfl⟩ := hy y my
    obtain ⟨p, hp, rfl⟩ := rows e he
    exact ⟨p.2, p.1, rfl, R.here p hp⟩
  · obtain ⟨p, hp, e1, e2⟩ := of_decide_eq_true yes
    refine wpAny_pure (q false s.heap (Heap.SameBut.refl a s.heap) ?_)
    unfold oneMore
    rw [if_pos (List.mem_map.mpr ⟨p, hp, e2⟩)]
    exact R
  · have new := none_in no
    obtain ⟨pl, t', e1, T', em, eled, sz', pm', ef⟩ := tab_in H.tab (mhash P w k) (.ref x) out ins
    have ord : w.params.followText "set-order" = true ∨ t'.led = true := H.order.imp id fun z => eled.trans z
    have sp : es.size * 5 < t'.mask * 3 := by rw [em]; exact H.space
    have few' : (SetTable.insertAt es pl (mhash P w k, .ref x)).size < 64 := by rw [sz', sz]; exact room
    have done : ∀ h' es2 ep2 t2, Heap.SameBut a s.heap h' → Held w h' a es2 ep2 t2 → es2.toList.Perm (SetTable.insertAt es pl (mhash P w k, .ref x)).toList → Q true { s with heap := h' } := fun h' es2 ep2 t2 sb H2 p2 => by
      refine q true h' sb ?_
      unfold oneMore
      rw [if_neg new]
      refine ⟨⟨es2, ep2, t2, H2, ?_⟩, ?_, fun p hp => ?_⟩
      · rw [List.map_cons]
        exact (p2.trans pm').trans (pm.cons _)
      · rw [List.map_cons]
        exact List.nodup_cons.mpr ⟨new, R.once⟩
      · rcases List.mem_cons.mp hp with rfl | hp
        · exact tat_but hx ho hd sb
        · exact tat_but (R.here p hp) ho hd sb
    dsimp only
    refine wpAny_bind (wpAny_setState_of ho hd H.fits ?_)
    dsimp only
    rw [e1]
    dsimp only
    have rest : ∀ t2 : SetTable, TabOk t2 (hashes (SetTable.insertAt es pl (mhash P w k, .ref x))) → (w.params.followText "set-order" = true ∨ t2.led = true) → es.size * 5 < t2.mask * 3 →
        wpAny (model P w) A (do
          storeSet a (SetTable.insertAt es pl (mhash P w k, .ref x)) t2
          if (!false && t2.tooFull) = true then do
            setRelay a (SetTable.grown (es.size + 1))
            pure true
          else pure true) Q E s := fun t2 T2 ord2 sp2 => by
      refine wpAny_bind (wpAny_storeSet_of ho hd ?_ (sizes few'))
      have sb1 := Heap.SameBut.update s.heap a (Obj.putSet (SetTable.insertAt es pl (mhash P w k, .ref x)) t2)
      have o1 := Heap.get?_update_self (Obj.putSet (SetTable.insertAt es pl (mhash P w k, .ref x)) t2) ho (by rw [putSet_of _ t2 hd] <;> rfl)
      rw [putSet_of _ t2 hd] at o1
      rcases Bool.eq_false_or_eq_true t2.tooFull with full | nf
      · rw [full]
        refine wp_if_pos rfl (wpAny_bind ?_)
        rw [← sz']
        refine relay_end (n := es.size) o1 ex rfl T2 ord2 sp2 sz' few' full fun h' es2 ep2 t3 sb H2 p2 => ?_
        exact wpAny_pure (done h' es2 ep2 t3 (sb1.trans sb) H2 p2)
      · rw [nf]
        refine wp_if_neg (by decide) (wpAny_pure (done _ _ _ t2 sb1 (put_rows ho ex hd T2 ord2 ?_ few') (List.Perm.refl _)))
        have e := T2.sz
        rw [len_hashes] at e
        have big := nf
        simp only [SetTable.tooFull, SetTable.fill, T2.dm, e, decide_eq_false_iff_not] at big
        simp at big
        omega
    by_cases plain : t'.plain = true
    · refine wp_if_pos plain (wpAny_bind (ask_hash hx fun y => ?_))
      cases y with
      | true => exact rest t' T' ord sp
      | false => exact rest { t' with plain := false } (dull T') ord sp
    · exact wp_if_neg plain (wpAny_bind (wpAny_pure (rest t' T' ord sp)))
end
end MX
end
section
/-! set(xs): the members come one by one. -/
namespace MX
open PySem PySem.Spec PyProof.Rows L2

/-- a set that was just made -/
abbrev newbie (w : World) : Obj := { cls := .type "set", dict := none, data := .set #[] 0 (.fresh 0 0 (!w.params.followText "set-order")) }
theorem held_new {w : World} {h : Heap} {a : Addr} (ho : h.get? a = some (newbie w)) : Held w h a #[] 0 (.fresh 0 0 (!w.params.followText "set-order")) := by
  refine ⟨⟨_, ho, ⟨rfl, rfl, rfl⟩, rfl⟩, ⟨List.Pairwise.nil, rfl, rfl, .inl rfl, fun x hx => ?_, fun i k j hi _ => ?_⟩, ?_, ?_, ?_⟩
  · simp [SetTable.fresh] at hx
  · simp [hashes] at hi
  · cases e : w.params.followText "set-order" with
    | true => exact .inl rfl
    | false => exact .inr rfl
  · show 0 * 5 < 7 * 3
    decide
  · show 0 < 64
    decide

section
variable {P : Program} {w : World} {A : Around} {E : Value → Shared → Prop} {s : Shared}

/-- the loop that fills a set; J tells what is known when so many have come -/
theorem fill {I S : Addr} {fp wr : List Addr} {G : Array GenState → Array GenState → Prop} {n : Nat} {Pv : Nat → Value → Prop} {St : Nat → Shared → Prop} {R : Result → Shared → Prop}
    (W : WalksS P w A.in1 I fp wr G n Pv St) (out : S ∉ fp) (J : Nat → Heap → Prop)
    (calm : ∀ i h h', J i h → (∀ b o, b ∉ wr → h.get? b = some o → h'.get? b = some o) → J i h')
    (put : ∀ i v (s1 : Shared) (E' : Value → Shared → Prop) (Q' : Bool → Shared → Prop), i < n → Pv i v → J i s1.heap →
      (∀ b h' tk, s1.toks ≤ tk → Heap.SameBut S s1.heap h' → J (i + 1) h' → Q' b { s1 with heap := h', toks := tk }) → wpAny (model P w) A.in1 (setAdd S v) Q' E' s1) :
    ∀ (k i : Nat) (s : Shared), k + i = n → St i s → J i s.heap → (∀ s', Moved (S :: wr) G s s' → J n s'.heap → R (.ok (.ret .none)) s') →
      codeAny (model P w) A (.builtin "set.update.loop" ⟨[.ref S, .ref I], []⟩) R s := by
  have wider : ∀ b ∈ wr, b ∈ S :: wr := fun b hb => List.mem_cons_of_mem S hb
  intro k
  induction k with
  | zero =>
    intro i s e st j fin
    obtain rfl : i = n := by omega
    refine codeAny_builtin F.entry_set_update_loop ?_
    rw [Around.under_plainId F.plain_set_update_loop]
    unfold Builtin.«set.update.loop»
    exact wpAny_bind (W.done s _ _ st fun s' m => wpAny_pure (fin s' (m.mono wider) (calm i _ _ j m.heap)))
  | succ k next =>
    intro i s e st j fin
    have lt : i < n := by omega
    refine codeAny_builtin F.entry_set_update_loop ?_
    rw [Around.under_plainId F.plain_set_update_loop]
    unfold Builtin.«set.update.loop»
    refine wpAny_bind (W.item i s _ _ lt st fun v s1 pv st1 m => ?_)
    refine wpAny_bind (wpAny_holding (put i v s1 _ _ lt pv (calm i _ _ j m.heap) fun b h' tk le sb j1 => ?_))
    have st2 : St (i + 1) { s1 with heap := h', toks := tk } := W.frame (i + 1) s1 h' tk st1 le fun c hc o ho => (sb.2 c fun z => out (z ▸ hc)).trans ho
    refine wpAny_pure ⟨plainId_quiet F.plain_set_update_loop _, next (i + 1) _ (by omega) st2 j1 fun s' m' jn => fin s' ?_ jn⟩
    refine Moved.trans W.gtrans ((m.mono wider).then_heap le fun c o hc ho => ?_) m'
    exact (sb.2 c fun z => hc (z ▸ List.mem_cons_self)).trans ho

/-- a call of set with one argument: the new set's own filling -/
theorem set_call {x : Value} {Q : Value → Shared → Prop}
    (body : ∀ A' : Around, (A.handled = none → A'.handled = none) → A'.units ≤ A.units + 3 → wpAny (model P w) A' (Builtin.«set.__init__» ⟨[.ref s.heap.objs.size, x], []⟩)
      (fun r s2 => r = .done (.ret .none) ∧ Q (.ref s.heap.objs.size) s2) E { s with heap := s.heap.push (newbie w) }) :
    wpAny (model P w) A (call (.type "set") [x]) Q E s := by
  have T := F.called_set
  obtain ⟨top, below, e0⟩ := T.mro
  have e1 := T.made
  have e2 := T.sub
  have e3 := T.notType
  have e4 := T.canCreate
  have e5 := F.typeCall_set_1 x
  refine wpAny_call (codeAny_of_tree ?_)
  show wpAny _ _ (callAny (Value.type "set") ⟨[x], []⟩) _ _ _
  refine wpAny_pure (And.intro (Code.quiet_builtin _ (by decide +kernel)) (codeAny_builtin F.entry_type_call ?_))
  rw [Around.under_plain (weight_type_call_type "set" [x] []) rfl]
  repeat (any_goals (first | assumption | wp_step))
  refine codeAny_mono (code_set_led1 x (E := E) (Q₁ := fun v s1 => v = .ref s.heap.objs.size ∧ s1 = { s with heap := s.heap.push (newbie w) }) ⟨rfl, rfl⟩) fun r s1 hr => ?_
  match r, hr with
  | .error _, hr => exact hr
  | .ok (.ret v), hr =>
    obtain ⟨rfl, rfl⟩ := hr
    have here : Shared.TypeIs { s with heap := s.heap.push (newbie w) } (.ref s.heap.objs.size) "set" := ⟨newbie w, Heap.get?_push_size _ rfl, rfl⟩
    have e6 := T.init.lookup
    have e7 := T.init.bind (.ref s.heap.objs.size)
    repeat (any_goals (first | assumption | wp_step))
    refine codeAny_mono (codeAny_call_builtin (R := wants (fun v s2 => v = .none ∧ Q (.ref s.heap.objs.size) s2) E) T.init.plain F.entry_set_init (check_set_init_1 here ?_)) fun r2 s2 hr2 => ?_
    · refine wpAny_mono (body _ (fun h => by simp [h]) ?_) (fun fin s3 ⟨ef, q⟩ => ?_) fun _ _ z => z
      · simp only [Around.in1_units]
        omega
      · subst ef
        exact ⟨rfl, q⟩
    · match r2, hr2 with
      | .error _, hr2 => exact hr2
      | .ok (.ret _), hr2 =>
        obtain ⟨rfl, q⟩ := hr2
        repeat (any_goals (first | assumption | wp_step))

set_option maxHeartbeats 2000000 in
/-- set(xs) of a list or tuple -/
theorem set_seq {l : Addr} {items : Array Value} {Q : Value → Shared → Prop} (hl : s.heap.IsList l items ∨ s.heap.IsTuple l items) (hh : A.handled = none) (J : Nat → Heap → Prop)
    (start : ∀ h', (∀ b o, s.heap.get? b = some o → h'.get? b = some o) → h'.get? s.heap.objs.size = some (newbie w) → J 0 h')
    (calm : ∀ i h h', J i h → (∀ b o, b ≤ s.heap.objs.size → h.get? b = some o → h'.get? b = some o) → J i h')
    (put : ∀ (A' : Around) i v (s1 : Shared) (E' : Value → Shared → Prop) (Q' : Bool → Shared → Prop), A'.units ≤ A.units + 4 → items[i]? = some v → J i s1.heap → (∀ b o, s.heap.get? b = some o → s1.heap.get? b = some o) →
      (∀ b h' tk, s1.toks ≤ tk → Heap.SameBut s.heap.objs.size s1.heap h' → J (i + 1) h' → Q' b { s1 with heap := h', toks := tk }) → wpAny (model P w) A' (setAdd s.heap.objs.size v) Q' E' s1)
    (q : ∀ h' tk, J items.size h' → (∀ b o, s.heap.get? b = some o → h'.get? b = some o) → Q (.ref s.heap.objs.size) { s with heap := h', toks := tk }) :
    wpAny (model P w) A (call (.type "set") [.ref l]) Q E s := by
  refine set_call fun A' hA units => ?_
  have quiet : A'.handled = none := hA hh
  have quiet1 : A'.in1.handled = none := quiet
  have older : ∀ b o, s.heap.get? b = some o → (s.heap.push (newbie w)).get? b = some o := fun b o e => Heap.get?_push_of_some _ e
  have made : (s.heap.push (newbie w)).get? s.heap.objs.size = some (newbie w) := Heap.get?_push_size _ rfl
  have big : (s.heap.push (newbie w)).objs.size = s.heap.objs.size + 1 := Heap.size_push ..
  have none_above : s.heap.get? s.heap.objs.size = none := by
    cases e : s.heap.get? s.heap.objs.size with
    | none => rfl
    | some o => exact absurd (Heap.lt_size e) (Nat.lt_irrefl _)
  have loop : ∀ {I : Addr} {fp : List Addr} {Pv : Nat → Value → Prop} {St : Nat → Heap → Prop} (s2 : Shared), I = s.heap.objs.size + 1 → Walks P w A'.in1 I fp [I] items.size Pv St → s.heap.objs.size ∉ fp → (∀ i v, Pv i v → items[i]? = some v) →
      (∀ b o, s.heap.get? b = some o → s2.heap.get? b = some o) → s2.heap.get? s.heap.objs.size = some (newbie w) → s2.gens = s.gens → s2.drawn = s.drawn → s2.os = s.os → St 0 s2.heap →
      codeAny (model P w) A' (.builtin "set.update.loop" ⟨[.ref s.heap.objs.size, .ref I], []⟩) (fun r s3 => r = .ok (.ret .none) ∧ Q (.ref s.heap.objs.size) s3) s2 := by
    intro I fp Pv St s2 eI W hfp hPv old2 made2 g2 d2 o2 st
    refine fill W.toS hfp (fun i h => J i h ∧ ∀ b o, s.heap.get? b = some o → h.get? b = some o) (fun i h h' ⟨j, old⟩ k => ⟨calm i h h' j fun b o le e => k b o ?_ e, fun b o e => k b o ?_ (old b o e)⟩) ?_ items.size 0 s2 (by omega) st ⟨start _ old2 made2, old2⟩ ?_
    · rw [List.mem_singleton, eI]
      exact Nat.ne_of_lt (Nat.lt_succ_of_le le)
    · rw [List.mem_singleton, eI]
      exact Nat.ne_of_lt (Nat.lt_succ_of_lt (Heap.lt_size e))
    · intro i v s1 E' Q' lt pv ⟨j, old⟩ k
      refine put A'.in1 i v s1 E' Q' (by simp only [Around.in1_units]; omega) (hPv i v pv) j old fun b h' tk le sb j1 => k b h' tk le sb ⟨j1, fun c o e => ?_⟩
      exact (sb.2 c fun z => by rw [z, none_above] at e; cases e).trans (old c o e)
    · intro s' m ⟨j, old⟩
      refine ⟨rfl, ?_⟩
      obtain ⟨h', g', d', tk', os'⟩ := s'
      obtain rfl : g' = s.gens := (Eq.trans m.gens g2)
      obtain rfl : d' = s.drawn := m.drawn.trans d2
      obtain rfl : os' = s.os := m.os.trans o2
      exact q h' tk' j old
  have other : s.heap.objs.size ∉ [(s.heap.push (newbie w)).objs.size, l] ∧ l ≠ (s.heap.push (newbie w)).objs.size := by
    have lt : l < s.heap.objs.size := by
      rcases hl with ⟨o, ho, _⟩ | ⟨o, ho, _⟩ <;> exact Heap.lt_size ho
    rw [big]
    refine ⟨fun z => ?_, fun z => ?_⟩
    · rcases List.mem_cons.mp z with z | z
      · exact absurd z (Nat.ne_of_lt (Nat.lt_succ_self _))
      · exact absurd (List.mem_singleton.mp z) (Nat.ne_of_gt lt)
    · exact absurd z (Nat.ne_of_lt (Nat.lt_succ_of_lt lt))
  rcases hl with hl | hl
  · obtain ⟨⟨c, dict, data, slots⟩, ho, hc, n, hd⟩ := hl
    simp only at hc hd
    subst hc hd
    have ho1 : (s.heap.push (newbie w)).get? l = some { cls := .type "list", dict := dict, data := .seq items n, slots := slots } := older l _ ho
    have hl1 : (s.heap.push (newbie w)).IsList l items := ⟨_, ho1, rfl, n, rfl⟩
    have f1 := F.sub_list_set
    have f2 := F.sub_list_frozenset
    have f3 : (Value.type "list" == Value.type "dict") = false := by decide
    unfold Builtin.«set.__init__» noKeywords Builtin.Frozenset.updateFrom
    generalize hit : pyIter = iter
    wp_walk
    subst hit
    refine wpAny_pyIter_list hl1 (wpAny_bind (wpAny_runValue ?_))
    refine codeAny_mono (loop _ big (Walks.list quiet1 _ l other.2 items) other.1 (fun i v e => e) (fun b o e => Heap.get?_push_of_some _ (older b o e)) (Heap.get?_push_of_some _ made) rfl rfl rfl ⟨⟨_, Heap.get?_push_size _ rfl, rfl, rfl⟩, hl1.push _⟩) fun r s3 ⟨er, q3⟩ => ?_
    subst er
    exact wpAny_pure (wpAny_pure ⟨rfl, q3⟩)
  · obtain ⟨⟨c, dict, data, slots⟩, ho, hc, n, hd⟩ := hl
    simp only at hc hd
    subst hc hd
    have ho1 : (s.heap.push (newbie w)).get? l = some { cls := .type "tuple", dict := dict, data := .seq items n, slots := slots } := older l _ ho
    have hl1 : (s.heap.push (newbie w)).IsTuple l items := ⟨_, ho1, rfl, n, rfl⟩
    have f1 := F.sub_tuple_set
    have f2 := F.sub_tuple_frozenset
    have f3 : (Value.type "tuple" == Value.type "dict") = false := by decide
    unfold Builtin.«set.__init__» noKeywords Builtin.Frozenset.updateFrom
    generalize hit : pyIter = iter
    wp_walk
    subst hit
    refine wpAny_pyIter_tuple hl1 (wpAny_bind (wpAny_runValue ?_))
    refine codeAny_mono (loop _ big (Walks.tuple quiet1 _ l other.2 items) other.1 (fun i v e => e) (fun b o e => Heap.get?_push_of_some _ (older b o e)) (Heap.get?_push_of_some _ made) rfl rfl rfl ⟨⟨_, Heap.get?_push_size _ rfl, rfl, rfl⟩, hl1.push _⟩) fun r s3 ⟨er, q3⟩ => ?_
    subst er
    exact wpAny_pure (wpAny_pure ⟨rfl, q3⟩)
end
end MX
end
section
/-! The orders of keys and of tuples of keys; lists that rise. -/
namespace MX
open PySem PySem.Spec PyProof.Rows L2 PySem.W

def ofKey : Key → PyData
  | .inl i => .int i
  | .inr x => .str x
def ofTup (k : MT) : PyData := .tuple (k.map ofKey)
def tks (k : MT) : List (Int ⊕ List Nat) := keyToks (ofTup k)
/-- the order of numbers, and of words -/
def kl (a b : Key) : Bool := dataLt (ofKey a) (ofKey b)
/-- the order of tuples -/
def klt (a b : MT) : Bool := lexLt itemOrd (tks a) (tks b)
abbrev Up (l : List Key) : Prop := l.Pairwise fun a b => kl a b = true
abbrev Rise (l : List MT) : Prop := l.Pairwise fun a b => klt a b = true

theorem depth_ofKey : ∀ l : MT, PyData.depthAll (l.map ofKey) = 0
  | [] => rfl
  | k :: l => by
    rw [List.map_cons, PyData.depthAll, depth_ofKey l]
    cases k <;> rfl
theorem kl_irrefl (a : Key) : kl a a = false := lex_irrefl (O := itemOrd) _
theorem klt_irrefl (a : MT) : klt a a = false := lex_irrefl (O := itemOrd) _
theorem kl_int (a b : Int) : kl (.inl a) (.inl b) = decide (a < b) := dataLt_int a b

/-- two lists that rise by an order and have the same members are one -/
theorem same_rising {α : Type} {lt : α → α → Bool} (irr : ∀ a, lt a a = false) (tr : ∀ a b c, lt a b = true → lt b c = true → lt a c = true) :
    ∀ {l m : List α}, l.Pairwise (fun a b => lt a b = true) → m.Pairwise (fun a b => lt a b = true) → (∀ x, x ∈ l ↔ x ∈ m) → l = m
  | [], [], _, _, _ => rfl
  | [], y :: m, _, _, h => absurd ((h y).mpr List.mem_cons_self) (by simp)
  | x :: l, [], _, _, h => absurd ((h x).mp List.mem_cons_self) (by simp)
  | x :: l, y :: m, p, q, h => by
    obtain ⟨p1, p2⟩ := List.pairwise_cons.mp p
    obtain ⟨q1, q2⟩ := List.pairwise_cons.mp q
    have never : ∀ {a b}, lt a b = true → lt b a = true → False := fun {a b} u v => by
      have z := tr a b a u v
      rw [irr] at z
      cases z
    have e : x = y := by
      rcases List.mem_cons.mp ((h x).mp List.mem_cons_self) with e | hx
      · exact e
      · rcases List.mem_cons.mp ((h y).mpr List.mem_cons_self) with e | hy
        · exact e.symm
        · exact absurd (p1 y hy) fun u => never u (q1 x hx)
    subst e
    have out1 : x ∉ l := fun z => by
      have u := p1 x z
      rw [irr] at u
      cases u
    have out2 : x ∉ m := fun z => by
      have u := q1 x z
      rw [irr] at u
      cases u
    rw [same_rising irr tr p2 q2 fun z => ?_]
    constructor
    · intro hz
      rcases List.mem_cons.mp ((h z).mp (List.mem_cons_of_mem _ hz)) with e | k
      · exact absurd (e ▸ hz) out1
      · exact k
    · intro hz
      rcases List.mem_cons.mp ((h z).mpr (List.mem_cons_of_mem _ hz)) with e | k
      · exact absurd (e ▸ hz) out2
      · exact k
theorem up_one {l m : List Key} (hl : Up l) (hm : Up m) (h : ∀ k, k ∈ l ↔ k ∈ m) : l = m := same_rising kl_irrefl (fun a b c u v => lex_trans (O := itemOrd) _ _ _ u v) hl hm h
theorem rise_one {l m : List MT} (hl : Rise l) (hm : Rise m) (h : ∀ k, k ∈ l ↔ k ∈ m) : l = m := same_rising klt_irrefl (fun a b c u v => lex_trans (O := itemOrd) _ _ _ u v) hl hm h

/-- what is not less either way, and can be compared, is the same -/
theorem key_same {a b : Key} (al : alike (ofKey a) (ofKey b) = true) (h1 : kl a b = false) (h2 : kl b a = false) : a = b := by
  cases a with
  | inl i =>
    cases b with
    | inl j =>
      rw [kl_int] at h1 h2
      have := of_decide_eq_false h1
      have := of_decide_eq_false h2
      rw [show i = j by omega]
    | inr y => exact absurd al (by simp [ofKey, alike])
  | inr x =>
    cases b with
    | inl j => exact absurd al (by simp [ofKey, alike])
    | inr y =>
      have e1 : decide (x.cps.toList < y.cps.toList) = false := (dataLt_str x y).symm.trans h1
      have e2 : decide (y.cps.toList < x.cps.toList) = false := (dataLt_str y x).symm.trans h2
      have e3 := List.le_antisymm (List.not_lt.mp (of_decide_eq_false e2)) (List.not_lt.mp (of_decide_eq_false e1))
      obtain ⟨xs⟩ := x
      obtain ⟨ys⟩ := y
      rw [show xs = ys from Array.toList_inj.mp e3]
theorem alike_eqv {a b : Key} (al : alike (ofKey a) (ofKey b) = true) : PyData.eqv (ofKey a) (ofKey b) = decide (a = b) := by
  cases a with
  | inl i =>
    cases b with
    | inl j => rw [key_ll]; rfl
    | inr y => exact absurd al (by simp [ofKey, alike])
  | inr x =>
    cases b with
    | inl j => exact absurd al (by simp [ofKey, alike])
    | inr y =>
      rw [key_rr]
      show (x == y) = decide (x = y)
      rcases Classical.em (x = y) with c | c
      · subst c; simp
      · rw [decide_eq_false c]; exact beq_eq_false_iff_ne.mpr c
theorem rows_same : ∀ {a b : MT}, a.length = b.length → alikeAll (a.map ofKey) (b.map ofKey) = true → lexLt itemOrd (keyToksAll (a.map ofKey)) (keyToksAll (b.map ofKey)) = false →
    lexLt itemOrd (keyToksAll (b.map ofKey)) (keyToksAll (a.map ofKey)) = false → a = b
  | [], [], _, _, _, _ => rfl
  | [], _ :: _, e, _, _, _ => by cases e
  | _ :: _, [], e, _, _, _ => by cases e
  | x :: a, y :: b, e, al, h1, h2 => by
    rw [List.map_cons, List.map_cons, alikeAll, Bool.and_eq_true] at al
    obtain ⟨al1, al2⟩ := al
    have al1' : alike (ofKey y) (ofKey x) = true := by cases x <;> cases y <;> simp_all [ofKey, alike]
    rw [List.map_cons, List.map_cons, dataLt_cons al1] at h1
    rw [List.map_cons, List.map_cons, dataLt_cons al1'] at h2
    rw [alike_eqv al1] at h1
    rw [alike_eqv al1'] at h2
    rcases Classical.em (x = y) with c | c
    · subst c
      rw [if_pos (decide_eq_true rfl)] at h1 h2
      rw [rows_same (by simpa using e) al2 h1 h2]
    · rw [if_neg (by simp [c])] at h1
      rw [if_neg (by simp [Ne.symm c])] at h2
      exact absurd (key_same al1 h1 h2) c
end MX
end
section
/-! sorted of a set. -/
namespace MX
open PySem PySem.Spec PyProof.Rows L2 PySem.W

theorem each_perm {β : Type} {R : Value → β → Prop} {us vs : List Value} (p : us.Perm vs) : ∀ {bs : List β}, EachIs R vs bs → ∃ bs', EachIs R us bs' ∧ bs'.Perm bs := by
  induction p with
  | nil => intro bs e; exact ⟨bs, e, List.Perm.refl _⟩
  | cons x _ ih =>
    intro bs e
    cases e with
    | cons r t =>
      obtain ⟨cs, e1, p1⟩ := ih t
      exact ⟨_, .cons r e1, p1.cons _⟩
  | swap x y l =>
    intro bs e
    cases e with
    | cons r1 t =>
      cases t with
      | cons r2 t => exact ⟨_, .cons r2 (.cons r1 t), List.Perm.swap ..⟩
  | trans _ _ ih1 ih2 =>
    intro bs e
    obtain ⟨cs, e1, p1⟩ := ih2 e
    obtain ⟨ds, e2, p2⟩ := ih1 e1
    exact ⟨ds, e2, p2.trans p1⟩

section
variable {P : Program} {w : World} {A : Around} {E : Value → Shared → Prop} {s : Shared} {a : Addr} {es : Array (Int × Value)} {ep : Nat} {t : SetTable}

theorem sort_held {β : Type} {enc : β → PyData} {R : Value → β → Prop} {bs : List β} {Q : Value → Shared → Prop} (at_ : SetAt s.heap a es ep t) (fits : t.fits es.size = true) (low : es.size < scanBound) (ris : Ris t.place.toList) (ord : w.params.followText "set-order" = true ∨ t.led = true) (hh : A.handled = none) (each : EachIs R (es.toList.map (·.2)) bs)
    (reads : ∀ v b (h' : Heap), (∀ c o, s.heap.get? c = some o → h'.get? c = some o) → R v b → Reads h' v (enc b) []) (al : ∀ b ∈ bs, ∀ b' ∈ bs, alike (enc b) (enc b') = true) (hk : ∀ ds : List β, ds.Perm bs → Sortable (ds.map enc))
    (hu : ∀ b ∈ bs, A.units + 3 + (enc b).depth < cLine)
    (q : ∀ s' p (out : Array Value) (c : Nat) (ds : List β), (∀ b o, s.heap.get? b = some o → s'.heap.get? b = some o) → s'.gens = s.gens → s'.os = s.os → s.heap.objs.size ≤ p → s'.heap.get? p = some (seqObj "list" out c) →
      EachIs R out.toList ds → ds.Perm bs → ds.Pairwise (fun b b' => dataLt (enc b') (enc b) = false) → Q (.ref p) s') :
    wpAny (model P w) A (call (.builtin "sorted") [.ref a]) Q E s := by
  refine Calls.call_function_entry kind_sorted plain_sorted entry_sorted (args_sorted1 (.ref a)) ?_
  unfold Builtin.«sorted»
  refine wpAny_bind (m := checkCount "sorted" 1 1 1) (wpAny_pure ?_)
  refine wpAny_bind (collect_set (A := A.in1) hh at_ fits low ris ord fun s1 vs old1 big1 g1 o1 pm => ?_)
  obtain ⟨cs, ecs, pcs⟩ := each_perm pm each
  have few : vs.length ≤ sizeLine := by
    rw [pm.length_eq, List.length_map, Array.length_toList]
    exact fits_of_scanBound low
  have fewc : cs.length ≤ sizeLine := by rw [← ecs.length]; exact few
  refine wpAny_bind (wpAny_newList ?_ few)
  have made : (s1.heap.push (seqObj "list" vs.toArray 0)).get? s1.heap.objs.size = some (seqObj "list" vs.toArray 0) := Heap.get?_push_size _ rfl
  have old2 : ∀ c u, s.heap.get? c = some u → (s1.heap.push (seqObj "list" vs.toArray 0)).get? c = some u := fun c u e => Heap.get?_push_of_some _ (old1 c u e)
  have readable : EachIs (fun v b => ∃ as, Reads (s1.heap.push (seqObj "list" vs.toArray 0)) v (enc b) as ∧ s1.heap.objs.size ∉ as) vs cs := ecs.mono fun v b r => ⟨[], reads v b _ old2 r, by simp⟩
  refine wpAny_bind (wpAny_holding ?_)
  refine list_sort_data (s := { s1 with heap := s1.heap.push (seqObj "list" vs.toArray 0) }) (A := A.in1) made ecs readable ?_ (hk cs pcs) fewc (fun b hb => ?_) fun out len eout => ?_
  · intro d hd d' hd'
    obtain ⟨b, hb, rfl⟩ := List.mem_map.mp hd
    obtain ⟨b', hb', rfl⟩ := List.mem_map.mp hd'
    exact al b (pcs.mem_iff.mp hb) b' (pcs.mem_iff.mp hb')
  · have := hu b (pcs.mem_iff.mp hb)
    simp only [Around.in1_units]
    omega
  · obtain ⟨c, hc⟩ := sortedHeap_at (vs := vs) (out := List.toArray out) made
    refine wpAny_pure ⟨_, rfl, q _ s1.heap.objs.size (List.toArray out) c (cs.mergeSort (dataLe false enc)) (fun b u e => ?_) g1 o1 big1 hc eout ((List.mergeSort_perm _ _).trans pcs) ?_⟩
    · have e1 := old1 b u e
      have lt := Heap.lt_size e1
      show (sortedHeap (s1.heap.push (seqObj "list" vs.toArray 0)) s1.heap.objs.size vs (List.toArray out)).get? b = some u
      rw [sortedHeap_old (Nat.ne_of_lt lt) (by rw [size_push']; exact Nat.lt_succ_of_lt lt)]
      exact Heap.get?_push_of_some _ e1
    · have z := sort_pairwise (le := dataLe false enc) (sortLe_total (listOrd itemOrd) false fun b => keyToks (enc b)) cs
      refine z.imp fun {b b'} e => ?_
      have e' : (!dataLt (enc b') (enc b)) = true := e
      simpa using e'
end
end MX
end
section
/-! set(..) and sorted(..) read: tuples of numbers and words. -/
namespace MX
open PySem PySem.Spec PyProof.Rows L2 PySem.W

/-- the set at a, but for what stands elsewhere -/
structure SetM0 (P : Program) (w : World) (h : Heap) (a : Addr) (L : List (Addr × MT)) : Prop where
  held : ∃ es ep t, Held w h a es ep t ∧ es.toList.Perm (L.map (rowT P w))
  once : (L.map (·.2)).Nodup
def SetMO (P : Program) (w : World) (a : Addr) (L : List (Addr × MT)) : HO := .ext fun h => SetM0 P w h a L
theorem ok_setMO {P : Program} {w : World} {H : Hp} {h : Heap} {a : Addr} {L : List (Addr × MT)} (R : SetM0 P w h a L) : ObjOk P w H h a (SetMO P w a L) := by
  obtain ⟨⟨es, ep, t, K, pm⟩, nd⟩ := R
  refine ⟨⟨⟨es, ep, t, K, pm⟩, nd⟩, ?_, fun h1 h2 p k => ?_⟩
  · obtain ⟨o, ho, _⟩ := K.obj
    exact ⟨o, ho⟩
  · obtain ⟨⟨es, ep, t, K, pm⟩, nd⟩ := p
    exact ⟨⟨es, ep, t, K.stays k, pm⟩, nd⟩

/-- a tuple's items as the model has them -/
theorem items_are {P : Program} {w : World} : ∀ {k : MT} {us : List Value}, Vals (k.map kV) us → ItemsAre (mixKind P w) k us
  | [], _, .nil => .nil
  | _ :: _, _, .cons r t => .cons (kV_is r) (items_are t)
theorem refs_are : ∀ {ks : List (Addr × MT)} {us : List Value}, Vals (ks.map fun p => V.ref p.1) us → us = ks.map fun p => Value.ref p.1
  | [], _, .nil => rfl
  | p :: ks, _, .cons r t => by
    cases r
    rw [refs_are t] <;> rfl
theorem vals_refs : ∀ {ks : List (Addr × MT)} {us : List Value}, EachIs (fun v (p : Addr × MT) => v = .ref p.1) us ks → Vals (ks.map fun p => V.ref p.1) us
  | [], _, .nil => .nil
  | p :: ks, _, .cons e t => by
    subst e
    exact .cons rfl (vals_refs t)
theorem each_refs : ∀ ks : List (Addr × MT), EachIs (fun v (p : Addr × MT) => v = .ref p.1) (ks.map fun p => Value.ref p.1) ks
  | [] => .nil
  | _ :: ks => .cons rfl (each_refs ks)
theorem reads_items {P : Program} {w : World} {h : Heap} {k : MT} {us : List Value} (x : ItemsAre (mixKind P w) k us) : ReadsAll h us (k.map ofKey) [] := by
  induction x with
  | nil => exact .nil
  | @cons k0 v ks vs h1 _ ih =>
    rcases keyIs_shape h1 with ⟨i, t, rfl, rfl⟩ | ⟨y, t, rfl, rfl⟩
    · exact .cons (as := []) (.int i t) ih
    · exact .cons (as := []) (.str y t) ih
theorem reads_tup {P : Program} {w : World} {h : Heap} {k : MT} {b : Addr} (x : TAt P w h k b) : Reads h (.ref b) (ofTup k) [] := by
  obtain ⟨o, items, n, ho, hc, hd, hi⟩ := x
  exact .tuple ho hc hd (reads_items hi)

/-- which items are numbers -/
def shape (k : MT) : List Bool := k.map fun x => match x with | .inl _ => true | .inr _ => false
theorem alike_shape : ∀ {a b : MT}, shape a = shape b → alikeAll (a.map ofKey) (b.map ofKey) = true
  | [], [], _ => by simp [alikeAll]
  | [], _ :: _, e => by cases e
  | _ :: _, [], e => by cases e
  | x :: a, y :: b, e => by
    unfold shape at e
    rw [List.map_cons, List.map_cons] at e
    obtain ⟨e1, e2⟩ := List.cons.inj e
    rw [List.map_cons, List.map_cons, alikeAll, alike_shape (a := a) (b := b) e2]
    cases x with
    | inl i =>
      cases y with
      | inl j => rfl
      | inr t => cases e1
    | inr t =>
      cases y with
      | inl j => cases e1
      | inr u => rfl
theorem len_shape {a b : MT} (e : shape a = shape b) : a.length = b.length := by
  have z := congrArg List.length e
  unfold shape at z
  rw [List.length_map, List.length_map] at z
  exact z
theorem rise_of {L : List (Addr × MT)} {sh : List Bool} (all : ∀ p ∈ L, shape p.2 = sh) (nd : (L.map (·.2)).Nodup) (pw : L.Pairwise fun p q => dataLt (ofTup q.2) (ofTup p.2) = false) : Rise (L.map (·.2)) := by
  refine List.pairwise_map.mpr ?_
  have nd' : L.Pairwise fun p q => p.2 ≠ q.2 := List.pairwise_map.mp nd
  refine (List.Pairwise.and nd' pw).imp_of_mem fun {p q} hp hq ⟨ne, le⟩ => ?_
  cases e : klt p.2 q.2 with
  | true => rfl
  | false =>
    have s : shape p.2 = shape q.2 := (all p hp).trans (all q hq).symm
    have u : lexLt itemOrd (keyToksAll (p.2.map ofKey)) (keyToksAll (q.2.map ofKey)) = false := (dataLt_tuple _ _).symm.trans e
    have v : lexLt itemOrd (keyToksAll (q.2.map ofKey)) (keyToksAll (p.2.map ofKey)) = false := (dataLt_tuple _ _).symm.trans le
    exact absurd (rows_same (len_shape s) (alike_shape s) u v) ne

def rSetM (K : PySem.W.Frag) (P : Program) (w : World) : List V → Hp → VK → Prop := fun xs H Q => ∃ (a : Addr) (ks : List (Addr × MT)), xs = [V.ref a] ∧
  (SqL K H a (ks.map fun p => V.ref p.1) ∨ SqT K H a (ks.map fun p => V.ref p.1)) ∧ (∀ p ∈ ks, SqT K H p.1 (p.2.map kV)) ∧ ks.length < 64 ∧
  ∀ (S : Addr) (L : List (Addr × MT)), H S = none → (∀ p ∈ L, p ∈ ks) → (∀ p ∈ ks, p.2 ∈ L.map (·.2)) → Q (.ref S) (upd H S (SetMO P w S L))
def rSortedM (K : PySem.W.Frag) (P : Program) (w : World) : List V → Hp → VK → Prop := fun xs H Q => ∃ (a : Addr) (L : List (Addr × MT)) (sh : List Bool), xs = [V.ref a] ∧ H a = some (SetMO P w a L) ∧
  (∀ p ∈ L, SqT K H p.1 (p.2.map kV)) ∧ sh ≠ [] ∧ (∀ p ∈ L, shape p.2 = sh) ∧
  ∀ (M : List (Addr × MT)) (q : Addr), M.Perm L → Rise (M.map (·.2)) → H q = none → Q (.ref q) (upd H q (.lst (M.map fun p => V.ref p.1)))

section
variable {X : Cx} {pins : List (Addr × Obj)} {σ : L2.St} {H : Hp} {s : Shared}
theorem tat_of (I : Inv X pins σ H s) {b : Addr} {k : MT} (h : SqT X.K H b (k.map kV)) : TAt X.prog X.w s.heap k b := by
  obtain ⟨its, r, ⟨o, ho, hc, n, hd⟩, _⟩ := I.tuple h
  exact ⟨o, its.toArray, n, ho, hc, hd, by simpa using items_are r⟩

/-- what has come of the first i tuples -/
structure Come (ks : List (Addr × MT)) (i : Nat) (L : List (Addr × MT)) : Prop where
  inn : ∀ p ∈ L, p ∈ ks
  all : ∀ p ∈ ks.take i, p.2 ∈ L.map (·.2)
  low : L.length ≤ i
theorem Come.next {ks L : List (Addr × MT)} {i : Nat} {p : Addr × MT} (c : Come ks i L) (e : ks[i]? = some p) : Come ks (i + 1) (oneMore L p.1 p.2) := by
  have tk : ks.take (i + 1) = ks.take i ++ [p] := by rw [List.take_add_one, e] <;> rfl
  unfold oneMore
  split
  · rename_i old
    refine ⟨c.inn, fun q hq => ?_, Nat.le_succ_of_le c.low⟩
    rw [tk] at hq
    rcases List.mem_append.mp hq with h | h
    · exact c.all q h
    · rw [List.mem_singleton.mp h]; exact old
  · refine ⟨fun q hq => ?_, fun q hq => ?_, Nat.succ_le_succ c.low⟩
    · rcases List.mem_cons.mp hq with rfl | h
      · exact List.mem_of_getElem? e
      · exact c.inn q h
    · rw [tk] at hq
      rw [List.map_cons]
      rcases List.mem_append.mp hq with h | h
      · exact List.mem_cons_of_mem _ (c.all q h)
      · rw [List.mem_singleton.mp h]; exact List.mem_cons_self

theorem cr_setM (hc : X.calm = true) (hu : X.A.units + 64 < cLine) : CallR X (.type "set") (rSetM X.K X.prog X.w) := by
  intro pins s σ H xs us Q I r h
  obtain ⟨a, ks, rfl, ha, hk, few, q⟩ := h
  rw [Vals.ref1 r]
  have seq : ∃ items : Array Value, (s.heap.IsList a items ∨ s.heap.IsTuple a items) ∧ items.toList = ks.map fun p => Value.ref p.1 := by
    rcases ha with ha | ha
    · obtain ⟨its, rv, pl, _⟩ := I.list ha
      exact ⟨its.toArray, .inl pl.isList, by simpa using refs_are rv⟩
    · obtain ⟨its, rv, ht, _⟩ := I.tuple ha
      exact ⟨its.toArray, .inr ht, by simpa using refs_are rv⟩
  obtain ⟨items, at_, its⟩ := seq
  have size : items.size = ks.length := by
    have e := congrArg List.length its
    rw [List.length_map, Array.length_toList] at e
    exact e
  have tup : ∀ p ∈ ks, TAt X.prog X.w s.heap p.2 p.1 := fun p hp => tat_of I (hk p hp)
  have free : H s.heap.objs.size = none := I.hok.fresh (Nat.le_refl _)
  refine set_seq at_ (I.ok.hd hc) (fun i h' => (∀ b o, s.heap.get? b = some o → h'.get? b = some o) ∧ ∃ L, SetM X.prog X.w h' s.heap.objs.size L ∧ Come ks i L) ?_ ?_ ?_ ?_
  · intro h' old made
    exact ⟨old, [], ⟨⟨_, _, _, held_new made, List.Perm.nil⟩, List.nodup_nil, fun p hp => absurd hp (by simp)⟩, ⟨fun p hp => absurd hp (by simp), fun p hp => absurd hp (by simp), Nat.le_refl 0⟩⟩
  · rintro i h1 h2 ⟨old, L, R, c⟩ k
    have old2 : ∀ b o, s.heap.get? b = some o → h2.get? b = some o := fun b o e => k b o (Nat.le_of_lt (Heap.lt_size e)) (old b o e)
    obtain ⟨es, ep, t, Hd, pm⟩ := R.held
    exact ⟨old2, L, ⟨⟨es, ep, t, Hd.stays fun o e => k _ o (Nat.le_refl _) e, pm⟩, R.once, fun p hp => tat_kept (tup p (c.inn p hp)) old2⟩, c⟩
  · rintro A' i v s1 E' Q' le ev ⟨old, L, R, c⟩ _ k
    have e1 : (ks.map fun p => Value.ref p.1)[i]? = some v := by rw [← its, Array.getElem?_toList]; exact ev
    rw [List.getElem?_map] at e1
    obtain ⟨p, hp, rfl⟩ := Option.map_eq_some_iff.mp e1
    have lt : i < ks.length := (List.getElem?_eq_some_iff.mp hp).1
    have hx : TAt X.prog X.w s1.heap p.2 p.1 := tat_kept (tup p (List.mem_of_getElem? hp)) old
    have room : A'.units < cLine := by omega
    unfold setAdd
    refine wpAny_holding (wpAny_bind (wpAny_pyHash_tuple room hx ?_))
    refine add_tup (s := { s1 with toks := s1.toks + (p.2.length + 1) }) R hx room (by have := c.low; omega) fun b h' sb R' => ?_
    refine k b h' _ (Nat.le_add_right _ _) sb ⟨fun c o e => ?_, _, R', c.next hp⟩
    have ne : c ≠ s.heap.objs.size := Nat.ne_of_lt (Heap.lt_size e)
    exact (sb.2 c ne).trans (old c o e)
  · rintro h' tk ⟨_, L, R, c⟩ old
    refine ⟨.ref _, upd H s.heap.objs.size (SetMO X.prog X.w s.heap.objs.size L), I.laid (t' := tk) old (Nat.le_refl _) (ok_setMO ⟨R.held, R.once⟩), rfl, q _ L free c.inn fun p hp => c.all p ?_⟩
    rw [size, List.take_length]
    exact hp

theorem cr_sortedM (hc : X.calm = true) (hu : X.A.units + 64 < cLine) : CallR X (.builtin "sorted") (rSortedM X.K X.prog X.w) := by
  intro pins s σ H xs us Q I r h
  obtain ⟨a, L, sh, rfl, ha, hk, hsh, all, q⟩ := h
  obtain ⟨⟨es, ep, t, Hd, pm⟩, nd⟩ : SetM0 X.prog X.w s.heap a L := (I.hok a _ ha).1
  rw [Vals.ref1 r]
  have at_ : SetAt s.heap a es ep t := by
    obtain ⟨o, ho, ex, hd⟩ := Hd.obj
    exact ⟨o, ho, ex.1, hd⟩
  have tup : ∀ p ∈ L, TAt X.prog X.w s.heap p.2 p.1 := fun p hp => tat_of I (hk p hp)
  have vals : (es.toList.map (·.2)).Perm (L.map fun p => Value.ref p.1) := by
    have z := pm.map (·.2)
    rw [List.map_map] at z
    exact z
  obtain ⟨L', each, pL⟩ := each_perm vals (each_refs L)
  have each2 : EachIs (fun v (p : Addr × MT) => v = .ref p.1 ∧ p ∈ L) (es.toList.map (·.2)) L' := (each_mem each).mono fun v p ⟨e, m⟩ => ⟨e, pL.mem_iff.mp m⟩
  refine sort_held (enc := fun p : Addr × MT => ofTup p.2) (R := fun v (p : Addr × MT) => v = .ref p.1 ∧ p ∈ L) (bs := L') at_ Hd.fits (Nat.lt_trans Hd.few (by decide)) Hd.tab.ris Hd.order (I.ok.hd hc) each2 ?_ ?_ ?_ ?_ ?_
  · rintro v p h' old ⟨rfl, hp⟩
    exact reads_tup (tat_kept (tup p hp) old)
  · intro p hp p' hp'
    have e : shape p.2 = shape p'.2 := (all p (pL.mem_iff.mp hp)).trans (all p' (pL.mem_iff.mp hp')).symm
    show alikeAll _ _ = true
    exact alike_shape e
  · intro ds pd
    refine .inl fun d hd => ?_
    obtain ⟨p, hp, rfl⟩ := List.mem_map.mp hd
    have e := all p (pL.mem_iff.mp (pd.mem_iff.mp hp))
    cases hkk : p.2 with
    | nil => rw [hkk] at e; exact absurd e.symm hsh
    | cons x k => exact ⟨ofKey x, k.map ofKey, rfl⟩
  · intro p hp
    have e : (ofTup p.2).depth = 1 := by
      unfold ofTup
      rw [PyData.depth, depth_ofKey]
    rw [e]
    omega
  · intro s' p out c M old g o big made eM pM pw
    have free : H p = none := I.hok.fresh big
    have pML : M.Perm L := pM.trans pL
    have lenM : (M.map fun p => V.ref p.1).length ≤ sizeLine := by
      rw [List.length_map, pML.length_eq, ← size_of pm]
      exact sizes Hd.few
    have vM : Vals (M.map fun p => V.ref p.1) out.toList := vals_refs (eM.mono fun v p e => e.1)
    have J : Inv X pins σ (upd H p (.lst (M.map fun p => V.ref p.1))) s' := I.call' (ch := []) o (Un.laid old big free) (I.hok.laid old big ⟨lenM, out.toList, c, vM, by simpa [seqObj] using made⟩) (by rw [g]; exact I.bare) (fun _ z => nomatch z)
    exact ⟨.ref p, _, J, rfl, q M p pML (rise_of (fun p hp => all p (pML.mem_iff.mp hp)) ((pML.map (·.2)).nodup_iff.mpr nd) pw) free⟩
end
end MX
end
section
/-! Sets of numbers and words, up to the bound of scans. -/
namespace MX
open PySem PySem.Spec PyProof.Rows L2 PySem.W

/-- a set that is gone through by scans, and walked in some order -/
structure Scan (w : World) (h : Heap) (a : Addr) (es : Array (Int × Value)) (ep : Nat) (t : SetTable) : Prop where
  obj : ∃ o, h.get? a = some o ∧ o.ExactSet ∧ o.data = .set es ep t
  fits : t.fits es.size = true
  ris : Ris t.place.toList
  order : w.params.followText "set-order" = true ∨ t.led = true
  low : es.size < scanBound
theorem Scan.stays {w : World} {h h' : Heap} {a : Addr} {es : Array (Int × Value)} {ep : Nat} {t : SetTable} (R : Scan w h a es ep t) (k : ∀ o, h.get? a = some o → h'.get? a = some o) : Scan w h' a es ep t := by
  obtain ⟨o, ho, more⟩ := R.obj
  exact { R with obj := ⟨o, k o ho, more⟩ }
/-- a number's or word's key -/
def keyAt : Value → Key
  | .int i _ => .inl i
  | .str x _ => .inr x
  | _ => .inl 0
theorem keyAt_of {k : Key} {v : Value} (h : keyIs k v = true) : keyAt v = k := by
  rcases keyIs_shape h with ⟨i, t, rfl, rfl⟩ | ⟨x, t, rfl, rfl⟩ <;> rfl
theorem scan_leaf {k : Key} {v : Value} (h : keyIs k v = true) : v.scannable = true := by
  rcases keyIs_shape h with ⟨i, t, rfl, rfl⟩ | ⟨x, t, rfl, rfl⟩ <;> rfl
abbrev keysIn (es : Array (Int × Value)) : List Key := es.toList.map fun e => keyAt e.2

/-- at a stands a set of so many keys -/
structure SetQ (P : Program) (w : World) (h : Heap) (a : Addr) (S : Key → Bool) (n : Nat) : Prop where
  scan : ∃ es ep t, Scan w h a es ep t ∧ ElemsOf (mixKind P w) es.toList ∧ (keysIn es).Nodup ∧ (∀ k, S k = true ↔ k ∈ keysIn es) ∧ es.size = n
theorem SetQ.stays {P : Program} {w : World} {h h' : Heap} {a : Addr} {S : Key → Bool} {n : Nat} (R : SetQ P w h a S n) (k : ∀ o, h.get? a = some o → h'.get? a = some o) : SetQ P w h' a S n := by
  obtain ⟨es, ep, t, R, more⟩ := R.scan
  exact ⟨es, ep, t, R.stays k, more⟩
theorem SetQ.some_obj {P : Program} {w : World} {h : Heap} {a : Addr} {S : Key → Bool} {n : Nat} (R : SetQ P w h a S n) : ∃ o, h.get? a = some o := by
  obtain ⟨es, ep, t, R, _⟩ := R.scan
  obtain ⟨o, ho, _⟩ := R.obj
  exact ⟨o, ho⟩
theorem here_key {P : Program} {w : World} {es : Array (Int × Value)} (el : ElemsOf (mixKind P w) es.toList) (k : Key) : k ∈ keysIn es ↔ ∃ e ∈ es.toList, (mixKind P w).is k e.2 = true := by
  rw [List.mem_map]
  constructor
  · rintro ⟨e, he, rfl⟩
    obtain ⟨⟨k', hk', _⟩, _⟩ := el e he
    exact ⟨e, he, by rw [keyAt_of hk']; exact hk'⟩
  · rintro ⟨e, he, hk⟩
    exact ⟨e, he, keyAt_of hk⟩
/-- membership is the library's -/
theorem SetQ.setOf {P : Program} {w : World} {h : Heap} {a : Addr} {S : Key → Bool} {n : Nat} (R : SetQ P w h a S n) : h.SetOf (mixKind P w) a S n := by
  obtain ⟨es, ep, t, R, el, _, mem, sz⟩ := R.scan
  obtain ⟨o, ho, ex, hd⟩ := R.obj
  exact ⟨o, es, ep, t, ho, ex, hd, el, fun k => (mem k).trans (here_key el k), R.low, R.fits, sz⟩
theorem setQ_new {P : Program} {w : World} {h : Heap} {a : Addr} (ho : h.get? a = some (newbie w)) : SetQ P w h a (fun _ => false) 0 := by
  have H := held_new ho
  exact ⟨#[], 0, _, ⟨H.obj, H.fits, H.tab.ris, H.order, by decide⟩, fun e he => by simp at he, List.nodup_nil, fun k => by simp [keysIn], rfl⟩
theorem SetQ.same {P : Program} {w : World} {h : Heap} {a : Addr} {S S' : Key → Bool} {n n' : Nat} (R : SetQ P w h a S n) (e : ∀ k, S' k = S k) (en : n' = n) : SetQ P w h a S' n' := by
  obtain ⟨es, ep, t, K, el, nd, mem, sz⟩ := R.scan
  exact ⟨es, ep, t, K, el, nd, fun k => by rw [e k]; exact mem k, sz.trans en.symm⟩

section
variable {P : Program} {w : World} {A : Around} {E : Value → Shared → Prop} {s : Shared} {a : Addr}

/-- one more is added -/
theorem add_key {S : Key → Bool} {n : Nat} {k : Key} {x : Value} {Q : Bool → Shared → Prop} (R : SetQ P w s.heap a S n) (hk : keyIs k x = true) (room : n + 1 < scanBound)
    (q : ∀ b h', Heap.SameBut a s.heap h' → SetQ P w h' a (fun j => S j || decide (j = k)) (if S k = true then n else n + 1) → Q b { s with heap := h' }) :
    wpAny (model P w) A (setAddHashed a x ((mixKind P w).hash k)) Q E s := by
  obtain ⟨es, ep, t, K, el, nd, mem, sz⟩ := R.scan
  obtain ⟨o, ho, ex, hd⟩ := K.obj
  have hx := scan_leaf hk
  have hk' : (mixKind P w).is k x = true := hk
  unfold setAddHashed
  refine wpAny_holding ?_
  rw [show (100000 : Nat) = 99999 + 1 from rfl, setAddHashedIn_succ]
  refine wpAny_bind (wpAny_setState_of ho hd K.fits ?_)
  dsimp only
  refine wp_if_pos (byScan_of hx K.low el) ?_
  unfold setAddByScan
  refine wpAny_bind (wpAny_bind (wpAny_rule (wpAny_bind (wpAny_setScan_of hk' ho hd K.fits el ?_))))
  cases hf : List.findIdx? (fun e => (mixKind P w).is k e.2) es.toList with
  | some j =>
    obtain ⟨hj, yes, _⟩ := List.findIdx?_eq_some_iff_getElem.mp hf
    have inS : S k = true := (mem k).mpr ((here_key el k).mpr ⟨_, List.getElem_mem hj, yes⟩)
    refine wpAny_pure (wpAny_pure (q false s.heap (Heap.SameBut.refl a s.heap) (R.same (fun i => ?_) (if_pos inS))))
    rcases Classical.em (i = k) with e | e
    · rw [e, inS]; rfl
    · rw [decide_eq_false e, Bool.or_false]
  | none =>
    have out : S k = false := by
      cases c : S k with
      | false => rfl
      | true =>
        obtain ⟨e, he, yes⟩ := (here_key el k).mp ((mem k).mp c)
        have z := List.findIdx?_eq_none_iff.mp hf e he
        rw [yes] at z
        cases z
    have notin : k ∉ keysIn es := fun z => by rw [(mem k).mpr z] at out; cases out
    have pm := layNew_perm t es ((mixKind P w).hash k) x
    have fit := layNew_fits t es ((mixKind P w).hash k) x
    have ris := layNew_ris t es ((mixKind P w).hash k) x K.ris
    have led := layNew_led t es ((mixKind P w).hash k) x
    generalize layNew t es ((mixKind P w).hash k) x = new at pm fit ris led
    obtain ⟨es1, t1, dummy, gave⟩ := new
    dsimp only at pm fit ris led ⊢
    rw [Array.toList_push] at pm
    have ord : w.params.followText "set-order" = true ∨ t1.led = true := K.order.imp id fun z => led.trans z
    have sz1 : es1.size = n + 1 := by
      have z := pm.length_eq
      rw [List.length_append, Array.length_toList, Array.length_toList, sz] at z
      exact z
    have done : ∀ {h' : Heap} {es2 : Array (Int × Value)} {ep2 : Nat} {t2 : SetTable}, Heap.SameBut a s.heap h' → (∃ o, h'.get? a = some o ∧ o.ExactSet ∧ o.data = .set es2 ep2 t2) → t2.fits es2.size = true → Ris t2.place.toList →
        (w.params.followText "set-order" = true ∨ t2.led = true) → es2.toList.Perm es1.toList → Q true { s with heap := h' } := fun {h' es2 ep2 t2} sb at2 fit2 ris2 ord2 p2 => by
      have p3 : es2.toList.Perm (es.toList ++ [((mixKind P w).hash k, x)]) := p2.trans pm
      have sz2 : es2.size = n + 1 := by
        have z := p2.length_eq
        rw [Array.length_toList, Array.length_toList, sz1] at z
        exact z
      have keys : (keysIn es2).Perm (keysIn es ++ [k]) := by
        have z := p3.map fun e => keyAt e.2
        rw [List.map_append, List.map_cons, List.map_nil] at z
        rw [show keyAt x = k from keyAt_of hk] at z
        exact z
      refine q true h' sb ⟨es2, ep2, t2, ⟨at2, fit2, ris2, ord2, by rw [sz2]; exact room⟩, ElemsOf.perm (el.push hk' hx) p3, keys.nodup_iff.mpr ?_, fun j => ?_, by rw [if_neg (by rw [out]; decide)]; exact sz2⟩
      · exact List.nodup_append.mpr ⟨nd, by simp, fun i hi j hj e => notin (by rw [← List.mem_singleton.mp hj, ← e]; exact hi)⟩
      · rw [keys.mem_iff, List.mem_append, List.mem_singleton, Bool.or_eq_true, decide_eq_true_iff, mem j]
    have stay1 : ∀ t2 : SetTable, Heap.SameBut a s.heap (s.heap.update a (Obj.putSet es1 t2)) := fun t2 => Heap.SameBut.update s.heap a _
    have obj1 : ∀ t2 : SetTable, (s.heap.update a (Obj.putSet es1 t2)).get? a = some { o with data := .set es1 (ep + 1) t2 } := fun t2 => by
      have z := Heap.get?_update_self (Obj.putSet es1 t2) ho (by rw [putSet_of es1 t2 hd] <;> rfl)
      rw [putSet_of es1 t2 hd] at z
      exact z
    have sizes1 : es1.size ≤ sizeLine := fits_of_scanBound (by rw [sz1]; exact room)
    -- the rest behind the new table
    have rest : ∀ (t2 : SetTable) (g : Bool → Sem Unit), (∀ b (s1 : Shared) (Q' : Unit → Shared → Prop), Q' () s1 → wpAny (model P w) A (g b) Q' E s1) → t2.fits es1.size = true → Ris t2.place.toList → (w.params.followText "set-order" = true ∨ t2.led = true) →
        wpAny (model P w) A (do
          storeSet a es1 t2
          if (!dummy && t2.tooFull) = true then do
            g (relayAll t2 es1 (SetTable.grown es1.size)).2.2
            storeSet a (relayAll t2 es1 (SetTable.grown es1.size)).1 (relayAll t2 es1 (SetTable.grown es1.size)).2.1
            pure (some true)
          else pure (some true)) (fun r s2 => r = some true ∧ Q true s2) E s := fun t2 g hg fit2 ris2 ord2 => by
      refine wpAny_bind (wpAny_storeSet_of ho hd ?_ sizes1)
      split
      · have pm2 := relayAll_perm t2 es1 (SetTable.grown es1.size)
        have fit3 := relayAll_fits t2 es1 (SetTable.grown es1.size)
        have ris3 := relayAll_ris t2 es1 (SetTable.grown es1.size)
        have led3 := relayAll_led t2 es1 (SetTable.grown es1.size)
        generalize relayAll t2 es1 (SetTable.grown es1.size) = new2 at pm2 fit3 ris3 led3
        obtain ⟨es2, t3, gave2⟩ := new2
        dsimp only at pm2 fit3 ris3 led3 ⊢
        have sz2 : es2.size = es1.size := by
          have z := pm2.length_eq
          rw [Array.length_toList, Array.length_toList] at z
          exact z
        refine wpAny_bind (hg _ _ _ ?_)
        refine wpAny_bind (wpAny_storeSet_of (obj1 t2) rfl ?_ (by rw [sz2]; exact sizes1))
        refine wpAny_pure ⟨rfl, done ((stay1 t2).trans (Heap.SameBut.update _ a _)) ⟨{ o with data := .set es2 (ep + 1 + 1) t3 }, ?_, ex, rfl⟩ fit3 ris3 (ord2.imp id fun z => led3.trans z) pm2⟩
        have z := Heap.get?_update_self (Obj.putSet es2 t3) (obj1 t2) (by rw [putSet_of es2 t3 rfl] <;> rfl)
        rw [putSet_of es2 t3 rfl] at z
        exact z
      · exact wpAny_pure ⟨rfl, done (stay1 t2) ⟨_, obj1 t2, ex, rfl⟩ fit2 ris2 ord2 (List.Perm.refl _)⟩
    have ends : ∀ {m : Sem (Option Bool)}, wpAny (model P w) A m (fun r s2 => r = some true ∧ Q true s2) E s → wpAny (model P w) A m (fun r s2 => wpAny (model P w) A (match r with | some added => pure added | none => setAddHashedIn a x ((mixKind P w).hash k) 99999) Q E s2) E s := fun {m} h => wpAny_mono h (fun r s2 ⟨e, z⟩ => by rw [e]; exact wpAny_pure z) fun _ _ z => z
    have ways : ∀ (b : Bool) (s1 : Shared) (Q' : Unit → Shared → Prop), Q' () s1 → wpAny (model P w) A (match b with | true => rule "set.scan.the-table-gave-way" | false => pure ()) Q' E s1 := fun b s1 Q' z => by
      cases b with
      | true => exact wpAny_rule z
      | false => exact wpAny_pure z
    refine wpAny_bind (ways _ _ _ ?_)
    by_cases pl : t1.plain = true
    · refine wp_if_pos pl ?_
      rw [hashByValue_scannable 8 hx]
      refine wpAny_bind (wpAny_pure ?_)
      have three : ∀ y : Bool, (if y = true then t1 else { t1 with plain := false }).fits es1.size = true ∧ Ris (if y = true then t1 else { t1 with plain := false }).place.toList ∧ (w.params.followText "set-order" = true ∨ (if y = true then t1 else { t1 with plain := false }).led = true) := fun y => by
        cases y with
        | true => exact ⟨fit, ris, ord⟩
        | false => exact ⟨SetTable.fits_plain_off fit, ris, ord⟩
      obtain ⟨u1, u2, u3⟩ := three (plainKind x)
      exact ends (rest _ _ ways u1 u2 u3)
    · refine wp_if_neg pl (wpAny_bind (wpAny_pure ?_))
      exact ends (rest t1 _ ways fit ris ord)
end
end MX
end
section
/-! set(..), sorted(..), in and add read: numbers and words. -/
namespace MX
open PySem PySem.Spec PyProof.Rows L2 PySem.W

def SetQO (P : Program) (w : World) (a : Addr) (S : Key → Bool) (n : Nat) : HO := .ext fun h => SetQ P w h a S n
theorem ok_setQO {P : Program} {w : World} {H : Hp} {h : Heap} {a : Addr} {S : Key → Bool} {n : Nat} (R : SetQ P w h a S n) : ObjOk P w H h a (SetQO P w a S n) := ⟨R, R.some_obj, fun _ _ p k => SetQ.stays p k⟩
/-- whether a key is a number -/
def isNum : Key → Bool
  | .inl _ => true
  | .inr _ => false
def rSetQ (K : PySem.W.Frag) (P : Program) (w : World) : List V → Hp → VK → Prop := fun xs H Q => ∃ (a : Addr) (ks : List Key), xs = [V.ref a] ∧ (SqL K H a (ks.map kV) ∨ SqT K H a (ks.map kV)) ∧ ks.length < 4096 ∧
  ∀ (p : Addr) (S : Key → Bool) (n : Nat), H p = none → (∀ k, S k = true ↔ k ∈ ks) → n ≤ ks.length → Q (.ref p) (upd H p (SetQO P w p S n))
def rSortedQ (P : Program) (w : World) : List V → Hp → VK → Prop := fun xs H Q => ∃ (a : Addr) (S : Key → Bool) (n : Nat) (b : Bool), xs = [V.ref a] ∧ H a = some (SetQO P w a S n) ∧ (∀ k, S k = true → isNum k = b) ∧
  ∀ (M : List Key) (q : Addr), Up M → (∀ k, k ∈ M ↔ S k = true) → M.length = n → H q = none → Q (.ref q) (upd H q (.lst (M.map kV)))
def rInQ (P : Program) (w : World) (neg : Bool) : V → V → Hp → VK → Prop := fun x y H Q => ∃ (k : Key) (a : Addr) (S : Key → Bool) (n : Nat), x = kV k ∧ y = V.ref a ∧ H a = some (SetQO P w a S n) ∧ Q (.bl (if neg = true then !S k else S k)) H
def rAddQ (P : Program) (w : World) : V → List V → Hp → VK → Prop := fun x xs H Q => ∃ (a : Addr) (k : Key) (S : Key → Bool) (n : Nat), x = V.ref a ∧ xs = [kV k] ∧ H a = some (SetQO P w a S n) ∧ n + 1 < scanBound ∧
  Q .non (upd H a (SetQO P w a (fun j => S j || decide (j = k)) (if S k = true then n else n + 1)))

theorem each_keys {P : Program} {w : World} : ∀ {l : List (Int × Value)}, ElemsOf (mixKind P w) l → EachIs (fun v k => keyIs k v = true) (l.map (·.2)) (l.map fun e => keyAt e.2)
  | [], _ => .nil
  | e :: l, h => by
    obtain ⟨⟨k, hk, _⟩, _⟩ := h e List.mem_cons_self
    have z : keyIs (keyAt e.2) e.2 = true := by
      have y : keyIs k e.2 = true := hk
      rw [keyAt_of y]
      exact y
    exact .cons z (each_keys fun x hx => h x (List.mem_cons_of_mem _ hx))
theorem is_key {k : Key} {v : Value} (r : RelV (kV k) v) : keyIs k v = true := by
  cases k with
  | inl i => obtain ⟨t, rfl⟩ := r; exact keyIs_int i t
  | inr x => obtain ⟨t, rfl⟩ := r; exact keyIs_str x t
theorem vals_keys : ∀ {ks : List Key} {us : List Value}, EachIs (fun v k => keyIs k v = true) us ks → Vals (ks.map kV) us
  | [], _, .nil => .nil
  | k :: ks, _, .cons e t => by
    refine .cons ?_ (vals_keys t)
    rcases keyIs_shape e with ⟨i, t, rfl, rfl⟩ | ⟨x, t, rfl, rfl⟩
    · exact ⟨t, rfl⟩
    · exact ⟨t, rfl⟩
theorem each_at {ks : List Key} {us : List Value} (v : Vals (ks.map kV) us) : EachIs (fun v k => keyIs k v = true) us ks := by
  induction ks generalizing us with
  | nil => cases v; exact .nil
  | cons k ks ih =>
    cases v with
    | cons r t => exact .cons (is_key r) (ih t)
theorem each_get {R : Value → Key → Prop} : ∀ {us : List Value} {ks : List Key}, EachIs R us ks → ∀ {i : Nat} {v : Value}, us[i]? = some v → ∃ k, ks[i]? = some k ∧ R v k
  | _, _, .nil, _, _, e => by simp at e
  | _, _, .cons r t, 0, _, e => by cases e; exact ⟨_, rfl, r⟩
  | _, _, .cons r t, i + 1, _, e => each_get t e
theorem alike_num {a b : Key} (e : isNum a = isNum b) : alike (ofKey a) (ofKey b) = true := by
  cases a with
  | inl i =>
    cases b with
    | inl j => rfl
    | inr y => cases e
  | inr x =>
    cases b with
    | inl j => cases e
    | inr y => rfl
theorem up_of {l : List Key} {b : Bool} (all : ∀ k ∈ l, isNum k = b) (nd : l.Nodup) (pw : l.Pairwise fun k k' => dataLt (ofKey k') (ofKey k) = false) : Up l := by
  refine (List.Pairwise.and nd pw).imp_of_mem fun {k k'} hk hk' ⟨ne, le⟩ => ?_
  cases e : kl k k' with
  | true => rfl
  | false => exact absurd (key_same (alike_num ((all k hk).trans (all k' hk').symm)) e le) ne

section
variable {X : Cx} {pins : List (Addr × Obj)} {σ : L2.St} {H : Hp} {s : Shared}
theorem get_setQ (I : Inv X pins σ H s) {a : Addr} {S : Key → Bool} {n : Nat} (e : H a = some (SetQO X.prog X.w a S n)) : SetQ X.prog X.w s.heap a S n := (I.hok a _ e).1
theorem cr_setQ (hc : X.calm = true) (hu : X.A.units + 64 < cLine) : CallR X (.type "set") (rSetQ X.K X.prog X.w) := by
  intro pins s σ H xs us Q I r h
  obtain ⟨a, ks, rfl, ha, few, q⟩ := h
  rw [Vals.ref1 r]
  have seq : ∃ items : Array Value, (s.heap.IsList a items ∨ s.heap.IsTuple a items) ∧ EachIs (fun v k => keyIs k v = true) items.toList ks := by
    rcases ha with ha | ha
    · obtain ⟨its, rv, pl, _⟩ := I.list ha
      exact ⟨its.toArray, .inl pl.isList, by simpa using each_at rv⟩
    · obtain ⟨its, rv, ht, _⟩ := I.tuple ha
      exact ⟨its.toArray, .inr ht, by simpa using each_at rv⟩
  obtain ⟨items, at_, each⟩ := seq
  have size : items.size = ks.length := by rw [← Array.length_toList, each.length]
  have free : H s.heap.objs.size = none := I.hok.fresh (Nat.le_refl _)
  refine set_seq at_ (I.ok.hd hc) (fun i h' => ∃ S n, SetQ X.prog X.w h' s.heap.objs.size S n ∧ (∀ k, S k = true ↔ k ∈ ks.take i) ∧ n ≤ i) ?_ ?_ ?_ ?_
  · intro h' old made
    exact ⟨_, 0, setQ_new made, fun k => by simp, Nat.le_refl 0⟩
  · rintro i h1 h2 ⟨S, n, R, mem, le⟩ k
    exact ⟨S, n, R.stays fun o e => k _ o (Nat.le_refl _) e, mem, le⟩
  · rintro A' i v s1 E' Q' low ev ⟨S, n, R, mem, le⟩ _ k
    obtain ⟨key, hkey, is⟩ := each_get each (i := i) (v := v) (by rw [Array.getElem?_toList]; exact ev)
    have lt : i < ks.length := (List.getElem?_eq_some_iff.mp hkey).1
    unfold setAdd
    refine wpAny_holding (wpAny_bind ((mixKind X.prog X.w).pyHash is ?_))
    refine add_key (s := { s1 with toks := s1.toks + 1 }) R is (show n + 1 < 4096 by omega) fun b h' sb R' => k b h' _ (Nat.le_succ _) sb ⟨_, _, R', fun j => ?_, ?_⟩
    · rw [List.take_add_one, hkey, Bool.or_eq_true, mem j, decide_eq_true_iff]
      simp [List.mem_append]
    · split <;> omega
  · rintro h' tk ⟨S, n, R, mem, le⟩ old
    rw [size] at mem le
    rw [List.take_length] at mem
    exact ⟨.ref _, upd H s.heap.objs.size (SetQO X.prog X.w s.heap.objs.size S n), I.laid (t' := tk) old (Nat.le_refl _) (ok_setQO R), rfl, q _ S n free mem le⟩

theorem cr_sortedQ (hc : X.calm = true) (hu : X.A.units + 64 < cLine) : CallR X (.builtin "sorted") (rSortedQ X.prog X.w) := by
  intro pins s σ H xs us Q I r h
  obtain ⟨a, S, n, b, rfl, ha, all, q⟩ := h
  have R := get_setQ I ha
  obtain ⟨es, ep, t, K, el, nd, mem, sz⟩ := R.scan
  rw [Vals.ref1 r]
  have at_ : SetAt s.heap a es ep t := by
    obtain ⟨o, ho, ex, hd⟩ := K.obj
    exact ⟨o, ho, ex.1, hd⟩
  have num : ∀ k ∈ keysIn es, isNum k = b := fun k hk => all k ((mem k).mpr hk)
  refine sort_held (enc := ofKey) (R := fun v k => keyIs k v = true) (bs := keysIn es) at_ K.fits K.low K.ris K.order (I.ok.hd hc) (each_keys el) ?_ ?_ ?_ ?_ ?_
  · intro v k h' old e
    rcases keyIs_shape e with ⟨i, t, rfl, rfl⟩ | ⟨x, t, rfl, rfl⟩
    · exact .int i t
    · exact .str x t
  · exact fun k hk k' hk' => alike_num ((num k hk).trans (num k' hk').symm)
  · exact fun ds _ => Sortable.others fun k => by cases k <;> exact ⟨by simp [ofKey], by simp [ofKey]⟩
  · intro k hk
    have e : (ofKey k).depth = 0 := by cases k <;> rfl
    rw [e]
    omega
  · intro s' p out c M old g o big made eM pM pw
    have free : H p = none := I.hok.fresh big
    have lenM : M.length = n := by
      rw [pM.length_eq, List.length_map, Array.length_toList]
      exact sz
    have low : (M.map kV).length ≤ sizeLine := by
      rw [List.length_map, lenM, ← sz]
      exact fits_of_scanBound K.low
    have J : Inv X pins σ (upd H p (.lst (M.map kV))) s' := I.call' (ch := []) o (Un.laid old big free) (I.hok.laid old big ⟨low, out.toList, c, vals_keys eM, by simpa [seqObj] using made⟩) (by rw [g]; exact I.bare) (fun _ z => nomatch z)
    exact ⟨.ref p, _, J, rfl, q M p (up_of (fun k hk => num k (pM.mem_iff.mp hk)) (pM.nodup_iff.mpr nd) pw) (fun k => by rw [pM.mem_iff, mem k]) lenM free⟩

theorem op_inQ : OpR X (compareOp .In) (rInQ X.prog X.w false) := by
  intro pins s σ H x y v u Q I rx ry h
  obtain ⟨k, a, S, n, rfl, rfl, ha, q⟩ := h
  have is := is_key rx
  cases ry
  exact wpAny_inSet_of (knd := mixKind X.prog X.w) is (scan_leaf is) (get_setQ I ha).setOf (show EP X pins σ Q _ _ from ⟨.bl (S k), H, I.tok _, rfl, q⟩)
theorem op_notInQ : OpR X (compareOp .NotIn) (rInQ X.prog X.w true) := by
  intro pins s σ H x y v u Q I rx ry h
  obtain ⟨k, a, S, n, rfl, rfl, ha, q⟩ := h
  have is := is_key rx
  cases ry
  exact wpAny_notInSet_of (knd := mixKind X.prog X.w) is (scan_leaf is) (get_setQ I ha).setOf (show EP X pins σ Q _ _ from ⟨.bl (!S k), H, I.tok _, rfl, q⟩)

/-- found.add(k), the call itself -/
theorem call_add {A : Around} {E : Value → Shared → Prop} {a : Addr} {S : Key → Bool} {n : Nat} {k : Key} {x : Value} {Q : Value → Shared → Prop} {P : Program} {w : World} (R : SetQ P w s.heap a S n) (is : keyIs k x = true) (room : n + 1 < scanBound)
    (q : ∀ h', Heap.SameBut a s.heap h' → SetQ P w h' a (fun j => S j || decide (j = k)) (if S k = true then n else n + 1) → Q .none { s with heap := h', toks := s.toks + 1 }) :
    wpAny (model P w) A (call (.builtin "set.add") [.ref a, x]) Q E s := by
  have ty : s.TypeIs (.ref a) "set" := R.setOf.typeIs
  refine wpAny_call_entry F.slot_set_add ty F.entry_set_add ?_ (F.args_set_add_2 (.ref a) x)
  unfold Builtin.«set.add» Builtin.Frozenset.oneOther Builtin.Frozenset.addrOf
  refine wpAny_bind (wpAny_bind (wpAny_pure ?_))
  try dsimp only
  refine wpAny_bind (wpAny_pure (wpAny_pure ?_))
  unfold setAdd
  refine wpAny_bind (wpAny_holding (wpAny_bind ((mixKind P w).pyHash is ?_)))
  refine add_key (s := { s with toks := s.toks + 1 }) R is room fun b h' sb R' => ?_
  exact wpAny_pure ⟨_, rfl, q h' sb R'⟩
theorem wrote (I : Inv X pins σ H s) {a : Addr} {S S' : Key → Bool} {n n' t' : Nat} {h' : Heap} (e : H a = some (SetQO X.prog X.w a S n)) (sb : Heap.SameBut a s.heap h') (R' : SetQ X.prog X.w h' a S' n') :
    Inv X pins σ (upd H a (SetQO X.prog X.w a S' n')) { s with heap := h', toks := t' } :=
  I.write (e := a) (t' := t') (by rw [e]; exact True.intro) (.inl rfl) (fun b u ne hu => (sb.2 b ne).trans hu) R'.some_obj (ok_setQO R')
def tAddQ (P : Program) (w : World) (to : TE) (t : TA) : TE := fun σ H Q => to σ H fun x H1 => (∃ a S n, x = V.ref a ∧ H1 a = some (SetQO P w a S n)) ∧ t σ H1 fun xs H2 => rAddQ P w x xs H2 Q
theorem pe_addQ {o e : Expr} {es : List Expr} {to : TE} {t : TA} {apos cpos : Pos} (ho : PE X o to) (ha : PA X (e :: es) t)
    (plain : attributeBase o "add" X.env (eval o X.env) = eval o X.env := by rfl)
    (few : ((backTo cpos (starEach (e :: es) X.env)).all (fun x => !x.1) && (backToKw cpos (keywordEach [] X.env)).all (fun x => x.1.isSome) && decide ((e :: es).length + ([] : List Keyword).length + (if ([] : List Keyword).isEmpty then 0 else 1) < 30)) = true := by rfl) (row : (apos.endLine == cpos.line) = true := by rfl) (first : starEach (e :: es) X.env = (false, eval e X.env) :: starEach es X.env := by rfl) (nost : (backTo cpos (starEach es X.env)).any (·.1) = false := by rfl) :
    PE X (.Call (.Attribute o "add" apos) (e :: es) [] cpos) (tAddQ X.prog X.w to t) := by
  constructor
  intro pins s σ H Q I h
  refine wpAny_Call_method_late plain few row rfl ?_
  refine thn (ho.run pins s σ H _ I h) fun v s1 ⟨x, H1, I1, r1, known, q1⟩ => ?_
  obtain ⟨a, S, n, rfl, at_⟩ := known
  obtain rfl : v = Value.ref a := r1
  have lib := (get_setQ I1 at_).setOf
  refine ⟨"set", "set.add", F.plainAttrs_set, F.slot_set_add, F.type_set_add, lib.typeIs, lib.noDict, ?_⟩
  have args := ha.run cpos pins s1 σ H1 _ I1 q1
  rw [first] at args ⊢
  refine Calls.callWith_builtin ?_ (Calls.evalArgs_plain (thn args fun us s2 ⟨vs, H2, I2, r2, q2⟩ => ?_))
  · show (false || List.any (backTo cpos (starEach es X.env)) (·.1)) = false
    rw [nost, Bool.or_false]
  obtain ⟨b, k, S2, n2, eb, rfl, hb, room, q3⟩ := q2
  cases eb
  cases r2 with
  | cons ru rest =>
    cases rest
    refine call_add (get_setQ I2 hb) (is_key ru) room fun h' sb R' => ?_
    exact ⟨.non, upd H2 a (SetQO X.prog X.w a (fun j => S2 j || decide (j = k)) (if S2 k = true then n2 else n2 + 1)), wrote I2 hb sb R', rfl, q3⟩
end
end MX
end
section
/-! Comprehensions that gather something new, whatever it is. -/
namespace MX
open PySem PySem.Spec PyProof.Rows L2 PySem.W

/-- new D: what stands at D at first; body: what a turn does when its tests are true -/
def tGather (new : Addr → HO) (body : Addr → L2.St → Hp → (Hp → Prop) → Prop) (wi : TI) (g : TG) (tt : TT) (vs : List Nat) : TE := fun σ H Q => wi σ H fun J H1 => ∀ D, H1 D = none →
  ∃ W : Nat → Nat → Hp → Prop, (∃ m, W 0 m (upd H1 D (new D))) ∧ ∀ i m H2, W i m H2 → (J.stop i H2 ∧ Q (.ref D) H2) ∨
    (J.go i H2 ∧ ∃ Nx : Hp → Prop, (∀ H', Nx H' → ∃ m', m' < m ∧ W (i + 1) m' H') ∧ ∀ x H', J.yld i H2 x H' → g x (wipe σ vs) H' fun σ2 H3 => wipe σ2 vs = wipe σ vs ∧ tt σ2 H3 fun b H4 => if b = true then body D σ2 H4 Nx else Nx H4)

section
variable {X : Cx}
abbrev nobody : Value → Shared → Prop := fun _ _ => False
/-- one turn of the block's loop: Iv what holds between turns, B the block's context -/
def OneTurn (X B : Cx) (tg : Expr) (ifs : List Expr) (it : Addr) (body : L2.St → Hp → (Hp → Prop) → Prop) (Iv : Nat → Shared → Prop) (stop : Shared → Prop) (n : Nat) (s : Shared) : Prop :=
  wpAny (model X.prog X.w) X.A (pyNext (.ref it)) (fun r s1 => match r with
    | none => stop s1
    | some v => wpAny (model X.prog X.w) X.A (letOwnedTupleGo tg (.ref it) v) (fun _ s2 => wpAny (model X.prog X.w) X.A (assign tg B.env v) (fun _ s3 =>
        wpAny (model X.prog X.w) X.A (forIn ifs true fun c r => if r = true then do let ok ← isTrue c B.env (eval c B.env); pure (ForInStep.yield ok) else pure (ForInStep.yield r)) (fun b s4 =>
          ∃ pl σ H Nx, L2.Inv B pl σ H s4 ∧ (if b = true then body σ H Nx else Nx H) ∧ ∀ s' H', L2.Inv B pl σ H' s' → Nx H' → ∃ m, m < n ∧ Iv m s') nobody s3) nobody s2) nobody s1) nobody s

theorem gather {e tg iter : Expr} {ifs : List Expr} {scope : Scope} {own : List (PySem.Str × Nat)} {pos' : Pos} {mk : Sem Value} {o0 : Obj} {new : Addr → HO} {body : Addr → L2.St → Hp → (Hp → Prop) → Prop} {wi : TI} {g : TG} {tt : TT} {use : Option (Value → Sem Unit)}
    {Qf : Value → Shared → Prop} {pins : List (Addr × Obj)} {s : Shared} {σ : L2.St} {H : Hp} {Q : VK} (hc : X.calm = true) (hN : X.N.Nodup) (I : L2.Inv X pins σ H s) (hi : PI X tg iter wi) (ok : BlkOk X.N X.env.scope scope own) (clauses : clausesOf e = [⟨tg, iter, ifs, 0⟩])
    (hmk : ∀ (s : Shared) (Q : Value → Shared → Prop), Q (.ref s.heap.objs.size) { s with heap := s.heap.push o0 } → wpAny (model X.prog X.w) X.A mk Q X.xe s)
    (hnew : ∀ (s : Shared) (H : Hp), L2.Inv X pins σ H s → ObjOk X.prog X.w (upd H s.heap.objs.size (new s.heap.objs.size)) (s.heap.push o0) s.heap.objs.size (new s.heap.objs.size))
    (hg : ∀ (s : Shared) (H : Hp) (C : Addr) (cl : List (PySem.Str × Addr)) (fp : List Addr), PG (X.blk s H scope (compEnvC scope cl C X.env) fp) tg g) (ht : ∀ (s : Shared) (H : Hp) (C : Addr) (cl : List (PySem.Str × Addr)) (fp : List Addr), PTs (X.blk s H scope (compEnvC scope cl C X.env) fp) ifs tt)
    (loops : ∀ (s3 : Shared) (H3 : Hp) (C : Addr) (cl : List (PySem.Str × Addr)) (fp : List Addr) (it D : Addr) (Iv : Nat → Shared → Prop) (R : Result → Shared → Prop),
      (∀ n s5, Iv n s5 → OneTurn X (X.blk s3 H3 scope (compEnvC scope cl C X.env) fp) tg ifs it (body D) Iv (fun s1 => R (.ok .next) s1) n s5) → ∀ n s4, Iv n s4 → codeAny (model X.prog X.w) X.A (.compLoop e 0 (.ref it) (.ref D) (compEnvC scope cl C X.env)) R s4)
    (starts : ∀ (it acc : Value) (ce : Env) (R : Result → Shared → Prop) (s4 : Shared), codeAny (model X.prog X.w) X.A (.compLoop e 0 it acc ce) R s4 →
      wpAny (model X.prog X.w) X.A (pyIter it) (fun it' s' => codeAny (model X.prog X.w) X.A (.compLoop e 0 it' acc ce) R s') (notedBy (model X.prog X.w) X.A ce fun x s' => R (.error x) s') s4 → codeAny (model X.prog X.w) X.A (.compStart e 0 it acc ce) R s4)
    (hs : ∀ x, foldedSetIterable iter X.env x = pure x) (h : tGather new body wi g tt (own.map (·.2)) σ H Q)
    (out : ∀ D C s' m H', L2.Inv X pins σ H' s' → Q (.ref D) H' → s'.heap.Ns C m → FpOk X pins H' C → compPost (model X.prog X.w) X.A X.xe use Qf (.ref D) C (.ok .next) s') :
    wpAny (model X.prog X.w) X.A (comprehension e scope X.env pos' mk false (eval iter X.env) use) Qf X.xe s := by
  have closed : ∀ y ∈ scope.names, y.2 = .free → ∃ c, X.env.cells.lookup y.1 = some c := fun y hy ey =>
    (ok.free y hy ey).elim (fun k => I.ok.has _ (.inl k)) fun k => I.ok.has _ (.inr k)
  refine wpAny_comprehension_free (use := use) clauses hs (closure_ok closed) ok.kind (fun y hy ey => by rw [ok.uniq y hy, ey]) ?_
  refine thn (hi.run pins s σ H _ I h) fun _ _ hx => thn hx fun itv s2 h2 => ?_
  obtain ⟨it, fp, tn, J, H2, rfl, I2, T, st2, f2, q⟩ := h2
  refine hmk s2 _ (newEnv_comp ?_)
  have fresh : H2 s2.heap.objs.size = none := I2.hok.fresh (Nat.le_refl _)
  obtain ⟨W, ⟨m0, w0⟩, turn⟩ := q s2.heap.objs.size fresh
  have I3 : L2.Inv X pins σ (upd H2 s2.heap.objs.size (new s2.heap.objs.size)) { s2 with heap := s2.heap.push o0 } := I2.laid (t' := s2.toks) (fun b o eo => Heap.get?_push_of_some _ eo) (Nat.le_refl _) (hnew s2 H2 I2)
  have up : ∀ b o, s2.heap.get? b = some o → (s2.heap.push o0).get? b = some o := fun b o eo => Heap.get?_push_of_some _ eo
  have f3 : ∀ b ∈ fp, FpOk X pins (upd H2 s2.heap.objs.size (new s2.heap.objs.size)) b ∧ b < (s2.heap.push o0).objs.size := fun b hb => by
    obtain ⟨o, eo, _⟩ := T.obj _ _ st2 b hb
    have lt := Heap.lt_size eo
    refine ⟨⟨?_, (f2 b hb).2⟩, by rw [Heap.size_push]; exact Nat.lt_succ_of_lt lt⟩
    rw [upd_ne (Nat.ne_of_lt lt)]
    exact (f2 b hb).1
  have st3 : tn 0 (s2.heap.push o0) := T.keep _ _ _ st2 fun b _ o eo => up b o eo
  have I4 := block_start I3 ok hN f3
  obtain ⟨cl, ecl⟩ : ∃ cl, cl = cellsFrom ((s2.heap.push o0).objs.size + 1) scope.names (cloFrom X.env.cells scope.names []) := ⟨_, rfl⟩
  have st4 : tn 0 (pushCells ((s2.heap.push o0).push { cls := .type "dict", data := .dict #[] }) scope.names) := T.keep _ _ _ st3 fun b _ o eo => pushCells_keeps _ _ _ _ (Heap.get?_push_of_some _ eo)
  obtain ⟨s4, es4⟩ : ∃ s4 : Shared, s4 = { s2 with heap := pushCells ((s2.heap.push o0).push { cls := .type "dict", data := .dict #[] }) scope.names } := ⟨_, rfl⟩
  have I4 : L2.Inv (X.blk { s2 with heap := s2.heap.push o0 } (upd H2 s2.heap.objs.size (new s2.heap.objs.size)) scope (compEnvC scope cl (s2.heap.push o0).objs.size X.env) fp) [] (wipe σ (own.map (·.2))) (upd H2 s2.heap.objs.size (new s2.heap.objs.size)) s4 := by
    rw [es4, ecl]
    exact I4
  have st4' : tn 0 s4.heap := by rw [es4]; exact st4
  have none0 : ∀ b ∈ fp, upd H2 s2.heap.objs.size (new s2.heap.objs.size) b = none := fun b hb => (f3 b hb).1.1
  have loop := loops { s2 with heap := s2.heap.push o0 } (upd H2 s2.heap.objs.size (new s2.heap.objs.size)) (s2.heap.push o0).objs.size cl fp it s2.heap.objs.size
    (fun n s' => ∃ i H', L2.Inv (X.blk { s2 with heap := s2.heap.push o0 } (upd H2 s2.heap.objs.size (new s2.heap.objs.size)) scope (compEnvC scope cl (s2.heap.push o0).objs.size X.env) fp) [] (wipe σ (own.map (·.2))) H' s' ∧ tn i s'.heap ∧ (∀ b ∈ fp, H' b = none) ∧ W i n H')
    (compPost (model X.prog X.w) X.A X.xe use Qf (.ref s2.heap.objs.size) (s2.heap.push o0).objs.size) ?_ m0 s4 ⟨0, _, I4, st4', none0, w0⟩
  · have all : codeAny (model X.prog X.w) X.A (.compStart e 0 (.ref it) (.ref s2.heap.objs.size) (compEnvC scope cl (s2.heap.push o0).objs.size X.env)) (compPost (model X.prog X.w) X.A X.xe use Qf (.ref s2.heap.objs.size) (s2.heap.push o0).objs.size) s4 :=
      starts _ _ _ _ _ loop (T.self X.A 0 _ _ _ st4' loop)
    rw [es4, ecl] at all
    exact all
  · rintro n s5 ⟨i, H5, I5, st5, n5, w5⟩
    have fine : ∀ {H' : Hp} {s' : Shared}, L2.Inv (X.blk { s2 with heap := s2.heap.push o0 } (upd H2 s2.heap.objs.size (new s2.heap.objs.size)) scope (compEnvC scope cl (s2.heap.push o0).objs.size X.env) fp) [] (wipe σ (own.map (·.2))) H' s' → (∀ b ∈ fp, H' b = none) →
        ∀ b ∈ fp, FpOk (X.blk { s2 with heap := s2.heap.push o0 } (upd H2 s2.heap.objs.size (new s2.heap.objs.size)) scope (compEnvC scope cl (s2.heap.push o0).objs.size X.env) fp) [] H' b := fun {H' s'} I' hn b hb =>
      ⟨hn b hb, (I'.ok.exf b hb).1, I'.ok.exfs b hb, .inl hb, fun x c ec => (I'.ok.exf b hb).2 x c ec, fun p hp => nomatch hp⟩
    unfold OneTurn
    rcases turn i n H5 w5 with ⟨stop, qs⟩ | ⟨go, Nx, less, step⟩
    · refine thnF (T.done (X.blk _ _ scope _ fp) rfl rfl rfl hc i [] s5 _ H5 nobody I5 (fine I5 n5) st5 stop) fun r s6 ⟨er, I6⟩ => ?_
      subst er
      have I7 : L2.Inv X pins σ H5 s6 := I3.call' (ch := fp) I6.os I6.base I6.hok I6.bare fun b hb => by
        obtain ⟨_, k1, k2, k3, k4, k5⟩ := (f3 b hb).1
        exact ⟨k3, k1, k4, k5⟩
      obtain ⟨mm, ns, _⟩ := I6.loc
      exact out _ _ s6 mm H5 I7 qs ns (I3.fpOk (Nat.le_refl _) I6.free)
    · refine thnF (T.item (X.blk _ _ scope _ fp) rfl rfl rfl hc i [] s5 _ H5 nobody I5 (fine I5 n5) st5 go) fun r s6 ⟨u, er, h6⟩ => ?_
      subst er
      refine thnF h6 fun _ s7 ⟨x, H7, I7, rel, yl, st7, n7⟩ => ?_
      have I8 := I7.pinned (fine I7 n7) (T.obj _ _ st7)
      refine thnF ((hg _ _ _ cl fp).run _ s7 _ H7 x u _ I8 rel (step x H7 yl)) fun _ s8 ⟨σ8, H8, I9, kw, q8⟩ => ?_
      refine thnF ((ht _ _ _ cl fp).run _ s8 σ8 H8 _ I9 q8) fun b s9 ⟨H9, I10, q9⟩ => ?_
      refine ⟨_, σ8, H9, Nx, I10, q9, fun s' H' I' nx => ?_⟩
      obtain ⟨m', lt, w'⟩ := less H' nx
      have held : ∀ c ∈ fp, ∀ o, s7.heap.get? c = some o → s'.heap.get? c = some o ∧ H' c = none := fun c hcc o eo => by
        obtain ⟨k1, k2, _⟩ := I'.pin (c, o) (List.mem_append_right _ (List.mem_append_right _ (mem_pinsAt hcc eo)))
        exact ⟨k1, k2⟩
      refine ⟨m', lt, i + 1, H', (I'.unpinned (pins := [])).weak (by rw [← kw, wipe_length]) (fun j v ev => ?_), T.keep _ _ _ st7 fun c hcc o eo => (held c hcc o eo).1, fun c hcc => ?_, w'⟩
      · rw [← kw] at ev
        exact (wipe_some ev).1
      · obtain ⟨o, eo, _⟩ := T.obj _ _ st7 c hcc
        exact (held c hcc o eo).2

/-- behind the block, as a value -/
theorem block_gone {pins : List (Addr × Obj)} {σ : L2.St} {H : Hp} {s : Shared} {Q : VK} {D C : Addr} {m : PySem.Str → Option Value} (I : L2.Inv X pins σ H s) (q : Q (.ref D) H) (ns : s.heap.Ns C m) (f : FpOk X pins H C) :
    compPost (model X.prog X.w) X.A X.xe none (EP X pins σ Q) (.ref D) C (.ok .next) s := by
  refine ⟨m, ns, fun h2 sb => ⟨.ref D, H, ?_, rfl, q⟩⟩
  obtain ⟨none_, loc, frame, young, cells, pinned⟩ := f
  exact I.turned (t' := s.toks) (fun b o hb e => (sb.2 b hb).trans e) none_ loc young cells pinned
end
end MX
end
section
/-! {e for x in xs if t} with numbers or words; {x: v for x in xs} whose keys are tuples. -/
namespace MX
open PySem PySem.Spec PyProof.Rows L2 PySem.W

def tSetQ (P : Program) (w : World) (wi : TI) (g : TG) (tt : TT) (te : TE) (vs : List Nat) : TE :=
  tGather (fun D => SetQO P w D (fun _ => false) 0) (fun D σ H Nx => te σ H fun y H4 => ∃ (k : Key) (S : Key → Bool) (n : Nat), y = kV k ∧ H4 D = some (SetQO P w D S n) ∧ n + 1 < scanBound ∧
    Nx (upd H4 D (SetQO P w D (fun j => S j || decide (j = k)) (if S k = true then n else n + 1)))) wi g tt vs
def tDcT (wi : TI) (g : TG) (tt : TT) (tk tv : TE) (vs : List Nat) : TE :=
  tGather (fun _ => .dT []) (fun D σ H Nx => tk σ H fun y H4 => tv σ H4 fun z H5 => ∃ (kvs : List (List Key × V)) (k : List Key) (b : Addr), y = .ref b ∧ H5 b = some (.tup (k.map kV)) ∧ H5 D = some (.dT kvs) ∧ kvs.length < sizeLine ∧
    Nx (upd H5 D (.dT (putK kvs k z)))) wi g tt vs

section
variable {X : Cx}
/-- d[(..)] = v by a comprehension -/
theorem put_dt {pins : List (Addr × Obj)} {σ : L2.St} {H : Hp} {s : Shared} {E : Value → Shared → Prop} {D b : Addr} {kvs : List (List Key × V)} {k : List Key} {v : V} {r : Value} {Q : Unit → Shared → Prop} (hu : X.A.units < cLine) (I : L2.Inv X pins σ H s)
    (hD : H D = some (.dT kvs)) (hb : H b = some (.tup (k.map kV))) (room : kvs.length < sizeLine) (rv : RelV v r) (q : ∀ s', L2.Inv X pins σ (upd H D (.dT (putK kvs k v))) s' → Q () s') : wpAny (model X.prog X.w) X.A (dictSet D (.ref b) r) Q E s := by
  obtain ⟨low, notSys, xs, rel, dict⟩ := dt_of I.hok hD
  have lowx : xs.length ≤ sizeLine := by rw [← Paired.length rel]; exact low
  have big : (putK kvs k v).length ≤ sizeLine := by
    have := length_putK kvs k v
    omega
  refine wpAny_dictSet_heap (knd := tupleKind (mixKind X.prog X.w)) (hsz := lowx) hu (key_of I.hok hb) dict fun h' dict' sb => q _ ?_
  obtain ⟨o, es, ep, ho, ex, hd, he, _, nd⟩ := dict'
  refine d_write I (by rw [hD]; exact True.intro) sb ⟨o, ho⟩ ⟨big, notSys, _, (rel.put k hb rv).keeps fun c ys hc => ?_, o, es, ep, ho, ex, hd, he, nd⟩
  have ne : c ≠ D := fun e => by rw [e, hD] at hc; cases hc
  rw [upd_ne ne]
  exact hc

theorem pe_setQ {elt tg iter : Expr} {ifs : List Expr} {scope : Scope} {own : List (PySem.Str × Nat)} {pos : Pos} {wi : TI} {g : TG} {tt : TT} {te : TE} (hc : X.calm = true) (hN : X.N.Nodup) (hi : PI X tg iter wi) (ok : BlkOk X.N X.env.scope scope own)
    (hg : ∀ (s : Shared) (H : Hp) (C : Addr) (cl : List (PySem.Str × Addr)) (fp : List Addr), PG (X.blk s H scope (compEnvC scope cl C X.env) fp) tg g) (ht : ∀ (s : Shared) (H : Hp) (C : Addr) (cl : List (PySem.Str × Addr)) (fp : List Addr), PTs (X.blk s H scope (compEnvC scope cl C X.env) fp) ifs tt)
    (he : ∀ (s : Shared) (H : Hp) (C : Addr) (cl : List (PySem.Str × Addr)) (fp : List Addr), PE (X.blk s H scope (compEnvC scope cl C X.env) fp) elt te) (hs : ∀ x, foldedSetIterable iter X.env x = pure x := by intro _; rfl) :
    PE X (.SetComp elt [⟨tg, iter, ifs, 0⟩] scope pos) (tSetQ X.prog X.w wi g tt te (own.map (·.2))) := by
  constructor
  intro pins s σ H Q I h
  rw [PpSet.eval_SetComp]
  refine gather (o0 := newbie X.w) hc hN I hi ok rfl (fun s Q q => PpSet.newSet_ok q) (fun s H I' => ok_setQO (setQ_new (Heap.get?_push_size _ rfl))) hg ht ?_ (fun it acc ce R s4 a b => PpSet.codeAny_compStart_set a b) hs h ?_
  · intro s3 H3 C cl fp it D Iv R turns n s4 i4
    refine PpSet.compLoopS_any Iv (fun n s5 i5 => thnF (turns n s5 i5) fun r s6 h6 => ?_) n i4
    cases r with
    | none => exact h6
    | some v =>
      refine thnF h6 fun _ s7 h7 => thnF h7 fun _ s8 h8 => thnF h8 fun b s9 ⟨pl, σ9, H9, Nx, I9, q9, next⟩ => ?_
      cases b with
      | false => exact next s9 H9 I9 q9
      | true =>
        refine thnF ((he s3 H3 C cl fp).run pl s9 σ9 H9 _ I9 q9) fun z s10 ⟨y, H10, I10, r10, k, S, m, ey, at10, room, nx⟩ => ?_
        subst ey
        exact call_add (get_setQ I10 at10) (is_key r10) room fun h' sb R' => next _ _ (wrote I10 at10 sb R') nx
  · exact fun D C s' m H' I' q ns f => block_gone I' q ns f

theorem pe_dcT {kx vx tg iter : Expr} {ifs : List Expr} {scope : Scope} {own : List (PySem.Str × Nat)} {pos : Pos} {wi : TI} {g : TG} {tt : TT} {tk tv : TE} (hc : X.calm = true) (hu : X.A.units < cLine) (hN : X.N.Nodup) (hi : PI X tg iter wi) (ok : BlkOk X.N X.env.scope scope own)
    (hg : ∀ (s : Shared) (H : Hp) (C : Addr) (cl : List (PySem.Str × Addr)) (fp : List Addr), PG (X.blk s H scope (compEnvC scope cl C X.env) fp) tg g) (ht : ∀ (s : Shared) (H : Hp) (C : Addr) (cl : List (PySem.Str × Addr)) (fp : List Addr), PTs (X.blk s H scope (compEnvC scope cl C X.env) fp) ifs tt)
    (hk : ∀ (s : Shared) (H : Hp) (C : Addr) (cl : List (PySem.Str × Addr)) (fp : List Addr), PE (X.blk s H scope (compEnvC scope cl C X.env) fp) kx tk)
    (he : ∀ (s : Shared) (H : Hp) (C : Addr) (cl : List (PySem.Str × Addr)) (fp : List Addr), PE (X.blk s H scope (compEnvC scope cl C X.env) fp) vx tv) (hs : ∀ x, foldedSetIterable iter X.env x = pure x := by intro _; rfl) :
    PE X (.DictComp kx vx [⟨tg, iter, ifs, 0⟩] scope pos) (tDcT wi g tt tk tv (own.map (·.2))) := by
  constructor
  intro pins s σ H Q I h
  rw [arm_eval_DictComp]
  refine gather (o0 := { cls := .type "dict", data := .dict #[] }) hc hN I hi ok rfl (fun s Q q => wpAny_newObj_type q) (fun s H I' => dt_empty s.heap I'.big) hg ht ?_ (fun it acc ce R s4 a b => codeAny_compStart_dict a b) hs h ?_
  · intro s3 H3 C cl fp it D Iv R turns n s4 i4
    refine compLoop_anyD Iv (fun n s5 i5 => thnF (turns n s5 i5) fun r s6 h6 => ?_) n i4
    cases r with
    | none => exact h6
    | some v =>
      refine thnF h6 fun _ s7 h7 => thnF h7 fun _ s8 h8 => thnF h8 fun b s9 ⟨pl, σ9, H9, Nx, I9, q9, next⟩ => ?_
      cases b with
      | false => exact next s9 H9 I9 q9
      | true =>
        refine thnF ((hk s3 H3 C cl fp).run pl s9 σ9 H9 _ I9 q9) fun z s10 ⟨y, H10, I10, r10, q10⟩ => ?_
        refine thnF ((he s3 H3 C cl fp).run pl s10 σ9 H10 _ I10 q10) fun z2 s11 ⟨y2, H11, I11, r11, kvs, k, b, ey, atb, atD, room, nx⟩ => ?_
        subst ey
        obtain rfl : z = Value.ref b := r10
        exact put_dt (X := X.blk s3 H3 scope (compEnvC scope cl C X.env) fp) hu I11 atD atb room r11 fun s12 I12 => next s12 _ I12 nx
  · exact fun D C s' m H' I' q ns f => block_gone I' q ns f
end

/-- the turns over a tuple -/
abbrev TurnsOver (K : PySem.W.Frag) (a : Addr) (g : TG) (tt : TT) (vs : List Nat) (σ : L2.St) (body : L2.St → Hp → (Hp → Prop) → Prop) (H0 : Hp) (Qd : Hp → Prop) : Prop :=
  ∃ W : Nat → Nat → Hp → Prop, (∃ m, W 0 m H0) ∧ ∀ i m H, W i m H → ((Itt K a).stop i H ∧ Qd H) ∨
    ((Itt K a).go i H ∧ ∃ Nx : Hp → Prop, (∀ H', Nx H' → ∃ m', m' < m ∧ W (i + 1) m' H') ∧ ∀ x H', (Itt K a).yld i H x H' → g x (wipe σ vs) H' fun σ2 H3 => wipe σ2 vs = wipe σ vs ∧ tt σ2 H3 fun b H4 => if b = true then body σ2 H4 Nx else Nx H4)
/-- that stays -/
theorem gather_tup {K : PySem.W.Frag} {a : Addr} {xs : List V} {body : L2.St → Hp → (Hp → Prop) → Prop} {g : TG} {tt : TT} {vs : List Nat} {σ : L2.St} {H0 : Hp} {Qd : Hp → Prop} (Pv : Nat → Hp → Prop) (h0 : Pv 0 H0) (hl : ∀ i H, i ≤ xs.length → Pv i H → SqT K H a xs)
    (hs : ∀ i x H, xs[i]? = some x → Pv i H → g x (wipe σ vs) H fun σ2 H3 => wipe σ2 vs = wipe σ vs ∧ tt σ2 H3 fun b H4 => if b = true then body σ2 H4 (Pv (i + 1)) else Pv (i + 1) H4) (hd : ∀ H, Pv xs.length H → Qd H) : TurnsOver K a g tt vs σ body H0 Qd := by
  refine ⟨fun i m H => i + m = xs.length ∧ Pv i H, ⟨xs.length, Nat.zero_add _, h0⟩, fun i m H ⟨e, p⟩ => ?_⟩
  have here := hl i H (by omega) p
  cases m with
  | zero =>
    obtain rfl : i = xs.length := by omega
    exact .inl ⟨⟨xs, here, Nat.le_refl _⟩, hd H p⟩
  | succ m =>
    have lt : i < xs.length := by omega
    refine .inr ⟨⟨xs, xs[i], here, List.getElem?_eq_getElem lt⟩, Pv (i + 1), fun H' p' => ⟨m, Nat.lt_succ_self m, by omega, p'⟩, fun x H' y => ?_⟩
    rw [y.1]
    exact hs i x H (y.2 xs here) p
theorem setq_tup {P : Program} {w : World} {K : PySem.W.Frag} {a : Addr} {xs : List V} {g : TG} {tt : TT} {te : TE} {vs : List Nat} {σ : L2.St} {H1 : Hp} {D : Addr} {Qd : Hp → Prop} (Pv : Nat → Hp → Prop) (h0 : Pv 0 (upd H1 D (SetQO P w D (fun _ => false) 0))) (hl : ∀ i H, i ≤ xs.length → Pv i H → SqT K H a xs)
    (hs : ∀ i x H, xs[i]? = some x → Pv i H → g x (wipe σ vs) H fun σ2 H3 => wipe σ2 vs = wipe σ vs ∧ tt σ2 H3 fun b H4 => if b = true then te σ2 H4 fun y H5 => ∃ (k : Key) (S : Key → Bool) (n : Nat), y = kV k ∧ H5 D = some (SetQO P w D S n) ∧ n + 1 < scanBound ∧
      Pv (i + 1) (upd H5 D (SetQO P w D (fun j => S j || decide (j = k)) (if S k = true then n else n + 1))) else Pv (i + 1) H4) (hd : ∀ H, Pv xs.length H → Qd H) :
    TurnsOver K a g tt vs σ (fun σ H Nx => te σ H fun y H4 => ∃ (k : Key) (S : Key → Bool) (n : Nat), y = kV k ∧ H4 D = some (SetQO P w D S n) ∧ n + 1 < scanBound ∧
      Nx (upd H4 D (SetQO P w D (fun j => S j || decide (j = k)) (if S k = true then n else n + 1)))) (upd H1 D (SetQO P w D (fun _ => false) 0)) Qd := gather_tup Pv h0 hl hs hd
theorem dct_tup {K : PySem.W.Frag} {a : Addr} {xs : List V} {g : TG} {tt : TT} {tk tv : TE} {vs : List Nat} {σ : L2.St} {H1 : Hp} {D : Addr} {Qd : Hp → Prop} (Pv : Nat → Hp → Prop) (h0 : Pv 0 (upd H1 D (.dT []))) (hl : ∀ i H, i ≤ xs.length → Pv i H → SqT K H a xs)
    (hs : ∀ i x H, xs[i]? = some x → Pv i H → g x (wipe σ vs) H fun σ2 H3 => wipe σ2 vs = wipe σ vs ∧ tt σ2 H3 fun b H4 => if b = true then tk σ2 H4 fun y H5 => tv σ2 H5 fun z H6 => ∃ (kvs : List (List Key × V)) (k : List Key) (b : Addr), y = .ref b ∧ H6 b = some (.tup (k.map kV)) ∧ H6 D = some (.dT kvs) ∧ kvs.length < sizeLine ∧
      Pv (i + 1) (upd H6 D (.dT (putK kvs k z))) else Pv (i + 1) H4) (hd : ∀ H, Pv xs.length H → Qd H) :
    TurnsOver K a g tt vs σ (fun σ H Nx => tk σ H fun y H4 => tv σ H4 fun z H5 => ∃ (kvs : List (List Key × V)) (k : List Key) (b : Addr), y = .ref b ∧ H5 b = some (.tup (k.map kV)) ∧ H5 D = some (.dT kvs) ∧ kvs.length < sizeLine ∧
      Nx (upd H5 D (.dT (putK kvs k z)))) (upd H1 D (.dT [])) Qd := gather_tup Pv h0 hl hs hd
end MX
end
section
/-! enumerate(xs), xs a list or a tuple. -/
namespace MX
open PySem PySem.Spec PyProof.Rows L2 PySem.W

/-- the tuple at a as it stands at each turn, each item in a new pair -/
def IteT (K : PySem.W.Frag) (a : Addr) : It where
  go i H := ∃ (xs : List V) (x : V), SqT K H a xs ∧ xs[i]? = some x
  yld i H v H' := ∃ T x, v = .ref T ∧ H T = none ∧ H' = upd H T (.tup [.int (i : Nat), x]) ∧ ∀ xs, SqT K H a xs → xs[i]? = some x
  stop i H := ∃ xs : List V, SqT K H a xs ∧ xs.length ≤ i
def iEnumS (K : PySem.W.Frag) (ta : TA) : TI := fun σ H R => ta σ H fun vs H1 => ∃ a xs, vs = [.ref a] ∧ ((SqL K H1 a xs ∧ R (Ite K a) H1) ∨ (SqT K H1 a xs ∧ R (IteT K a) H1))

set_option maxHeartbeats 1000000 in
/-- a new enumerate over what can begin -/
theorem enum_made {v : Value} {o : Obj} {Hh : Heap → Prop} (B : Begins v o Hh) : Meets (Builtin.«enumerate.__new__» ⟨[.type "enumerate", v], []⟩) (fun _ R s => Hh s.heap ∧
    R (.ok (.ret (.ref (s.heap.push o).objs.size))) { s with heap := (s.heap.push o).push { cls := .type "enumerate", data := .fields #[.none, .bool false, .ref s.heap.objs.size, rawInt 0, .none, .none] } }) := by
  refine Meets.of_wp fun P w A R s ⟨ready, fin⟩ => ?_
  obtain ⟨heap, gens, drawn, toks, os⟩ := s
  have sub := sub_enumerate
  have begin_ : ∀ {A' : Around} {E : Value → Shared → Prop} {Q : Value → Shared → Prop}, Q (.ref heap.objs.size) ⟨heap.push o, gens, drawn, toks, os⟩ → wpAny (model P w) A' (pyIter v) Q E ⟨heap, gens, drawn, toks, os⟩ :=
    fun z => B.iter P w _ _ ⟨heap, gens, drawn, toks, os⟩ _ ready z
  wp_walk using begin_
  refine wpAny_stack_any fun frames => wpAny_pure ?_
  split
  · rename_i c _ _ _ _ _
    rcases Bool.eq_false_or_eq_true (c == Value.type "enumerate") with y | y
    all_goals
      rw [y]
      wp_walk using begin_
      exact ⟨_, rfl, fin⟩
  · wp_walk using begin_
    exact ⟨_, rfl, fin⟩
section
variable {P : Program} {w : World} {A : Around} {E : Value → Shared → Prop} {s : Shared}
theorem enum_call {v : Value} {o : Obj} {Hh : Heap → Prop} {Q : Value → Shared → Prop} (B : Begins v o Hh) (ready : Hh s.heap)
    (q : ∀ h', IsEnum h' (s.heap.objs.size + 1) s.heap.objs.size 0 .none → h'.get? s.heap.objs.size = some o → (∀ b u, s.heap.get? b = some u → h'.get? b = some u) → Q (.ref (s.heap.objs.size + 1)) { s with heap := h' }) :
    wpAny (model P w) A (call (.type "enumerate") [v]) Q E s := by
  have size1 : (s.heap.push o).objs.size = s.heap.objs.size + 1 := Heap.size_push ..
  have en : IsEnum ((s.heap.push o).push { cls := .type "enumerate", data := .fields #[.none, .bool false, .ref s.heap.objs.size, rawInt 0, .none, .none] }) (s.heap.objs.size + 1) s.heap.objs.size 0 .none := by
    have z := Heap.get?_push_size (s.heap.push o) (o := { cls := .type "enumerate", data := .fields #[.none, .bool false, .ref s.heap.objs.size, rawInt 0, .none, .none] }) rfl
    rw [size1] at z
    exact z
  refine callType_new F.called_enumerate (by decide) (F.typeCall_enumerate_1 v) (F.newCall_enumerate_1 v) (fun obj => F.args_object_init_2 obj v) F.entry_enumerate_new (enum_made B) ⟨ready, ?_⟩
  show _ ∧ _
  rw [size1]
  exact ⟨⟨_, en, rfl⟩, q _ en (Heap.get?_push_of_some _ (Heap.get?_push_size _ B.free)) fun b u e => Heap.get?_push_of_some _ (Heap.get?_push_of_some _ e)⟩
end

/-- its turns, over a tuple -/
theorem turn_enumT {P : Program} {w : World} {K : PySem.W.Frag} {elts : List Expr} {kk : Nat} {tpos : Pos} (a e it : Addr) :
    Turn P w K (.Tuple elts kk tpos) (IteT K a) [e, it] e (fun i h => (∃ old, IsEnum h e it ((i : Nat) : Int) old) ∧ h.IsTupleIter it a i ∧ e ≠ it ∧ a ≠ e ∧ a ≠ it) where
  mem := List.mem_cons_self
  obj := by
    rintro i h ⟨⟨old, en⟩, ⟨o, ho, _, hd⟩, _⟩ b hb
    rcases List.mem_cons.mp hb with rfl | hb
    · exact ⟨_, en, fun v z => nomatch z⟩
    · rw [List.mem_singleton.mp hb]
      exact ⟨o, ho, fun v z => by rw [hd] at z; cases z⟩
  keep := by
    rintro i h h' ⟨⟨old, en⟩, ti, more⟩ k
    exact ⟨⟨old, k e List.mem_cons_self _ en⟩, ti.at fun o z => k it (List.mem_cons_of_mem _ List.mem_cons_self) o z, more⟩
  item := by
    rintro X rfl rfl rfl hc i pins s σ H E I ok ⟨⟨old, en⟩, ti, ne, ne1, ne2⟩ ⟨xs, x, seq, at_⟩
    obtain ⟨its, rv, tup, _⟩ := I.tuple seq
    obtain ⟨u, hu, ru⟩ := rv.get at_
    have lt1 : e < s.heap.objs.size := Heap.lt_size en
    have lt2 : it < s.heap.objs.size := by
      obtain ⟨o, ho, _⟩ := ti
      exact Heap.lt_size ho
    have few : i < its.toArray.size := by
      rw [List.size_toArray]
      exact (List.getElem?_eq_some_iff.mp hu).1
    have out : e ∉ [it, a] := by
      rw [List.mem_cons, List.mem_singleton]
      rintro (z | z)
      · exact ne z
      · exact ne1 z.symm
    refine wpAny_pyNext_enum_itemD (Draws.tuple (A := X.A.in1) (I.ok.hd hc) it a ne2 its.toArray) en ⟨ti, tup⟩ few ne out fun v h1 tk pv out1 ⟨ti1, _⟩ made size1 old1 => ?_
    have ev : v = u := by
      have z : its.toArray[i]? = some v := pv
      rw [List.getElem?_toArray, hu] at z
      exact (Option.some.inj z).symm
    subst ev
    refine ⟨_, rfl, wpAny_letOwnedTupleGo_enum (s := { s with heap := h1, toks := tk + 1 }) out1 fun h2 en2 sb => ?_⟩
    have ne3 : s.heap.objs.size ≠ e := Nat.ne_of_gt lt1
    have made2 : h2.get? s.heap.objs.size = some { cls := .type "tuple", data := .seq #[.int i tk, v] } := (sb.2 _ ne3).trans made
    have new : ObjOk X.prog X.w (upd H s.heap.objs.size (.tup [.int (i : Nat), x])) h2 s.heap.objs.size (.tup [.int (i : Nat), x]) := by
      refine ⟨?_, [.int i tk, v], .cons ⟨tk, rfl⟩ (.cons ru .nil), ⟨_, made2, rfl, 0, rfl⟩⟩
      show 2 ≤ sizeLine
      rw [sizeLine_eq]
      omega
    have I1 : L2.Inv X pins σ (upd H s.heap.objs.size (.tup [.int (i : Nat), x])) { s with heap := h2, toks := tk + 1 } := by
      refine I.turnedNew (ch := [e, it]) (fun b o nb hb => ?_) ok (Nat.le_refl _) new
      have b1 : b ≠ e := fun z => nb (by rw [z]; exact List.mem_cons_self)
      have b2 : b ≠ it := fun z => nb (by rw [z]; exact List.mem_cons_of_mem _ List.mem_cons_self)
      exact (sb.2 b b1).trans (old1 b o b1 b2 hb)
    refine ⟨.ref s.heap.objs.size, _, I1, rfl, ⟨_, x, rfl, I.hok.fresh (Nat.le_refl _), rfl, fun ys hy => ?_⟩, ⟨⟨v, ?_⟩, ti1.at fun o z => (sb.2 it (Ne.symm ne)).trans z, ne, ne1, ne2⟩, fun b hb => ?_⟩
    · rw [I.tuple_inj hy seq]
      exact at_
    · rw [show ((i + 1 : Nat) : Int) = (i : Int) + 1 by omega]
      exact en2
    · have lb : b < s.heap.objs.size := by
        rcases List.mem_cons.mp hb with z | z
        · rw [z]; exact lt1
        · rw [List.mem_singleton.mp z]; exact lt2
      rw [upd_ne (Nat.ne_of_lt lb)]
      exact (ok b hb).1
  done := by
    rintro X rfl rfl rfl hc i pins s σ H E I ok ⟨⟨old, en⟩, ti, ne, ne1, ne2⟩ ⟨xs, seq, le⟩
    obtain ⟨its, rv, tup, _⟩ := I.tuple seq
    have len := rv.length
    obtain ⟨f0, f1, f2, f3, f4, f5⟩ := ok it (List.mem_cons_of_mem _ List.mem_cons_self)
    have past : its.toArray[i]? = none := by
      rw [List.getElem?_toArray]
      exact List.getElem?_eq_none (by omega)
    have over : Draws X.prog X.w X.A.in1 it [it, a] i (fun _ _ => False) (fun j h => j = i ∧ h.IsTupleIter it a j ∧ h.IsTuple a its.toArray) := by
      refine ⟨fun j h ⟨_, ⟨o, ho, _⟩, _⟩ => ⟨o, ho⟩, fun j h h' ⟨ej, t1, t2⟩ k => ⟨ej, t1.at fun o z => k it (by simp) o z, t2.at fun o z => k a (by simp) o z⟩, fun j s Q E lt ⟨ej, _⟩ _ => absurd lt (by omega), fun s Q E ⟨_, t1, t2⟩ z => ?_⟩
      exact wpAny_nextOf_tuple_end (I.ok.hd hc) t1 t2 past z
    exact wpAny_pyNext_enum_endD over en ⟨rfl, ti, tup⟩ fun h' eb => ⟨rfl, I.turned (t' := s.toks) (fun b o nb z => eb b o nb z) f0 f1 f3 f4 f5⟩
  self := fun A i s Q E st z => by
    obtain ⟨⟨_, en⟩, _⟩ := st
    exact wpAny_pyIter_enum en z

/-- for i, x in enumerate(xs) -/
theorem pi_enumS {X : Cx} {e : Expr} {ta : TA} {p pos tpos : Pos} {elts : List Expr} {kk : Nat} (hg : Gl X "enumerate") (hm : X.mg "enumerate" = none) (ha : PA X [e] ta) (hs : starEach [e] X.env = [(false, eval e X.env)] := by rfl) :
    PI X (.Tuple elts kk tpos) (.Call (.Name "enumerate" p) [e] [] pos) (iEnumS X.K ta) := by
  constructor
  intro pins s σ H R I h
  refine Call_ (ld_blt I hg hm boot_enumerate (PyProof.Rows.callWith_type1 ?_ hs rfl))
  refine thn (ha.run pos pins s σ H _ I h) fun us s1 ⟨vs, H1, I1, r1, a, xs, ev, which⟩ => ?_
  subst ev
  rw [Vals.ref1 r1]
  have two : ∀ b ∈ [s1.heap.objs.size + 1, s1.heap.objs.size], FpOk X pins H1 b := fun b hb => by
    have big : s1.heap.objs.size ≤ b := by
      rcases List.mem_cons.mp hb with z | z
      · rw [z]; exact Nat.le_succ _
      · rw [List.mem_singleton.mp z]; exact Nat.le_refl _
    exact I1.fpOk big (I1.hok.fresh big)
  rcases which with ⟨seq, q⟩ | ⟨seq, q⟩
  · obtain ⟨its, rv, pl, _⟩ := I1.list seq
    refine enum_call (begins_list a its.toArray) pl.isList fun h' en made old => wpAny_pyIter_enum en ?_
    exact ⟨_, _, _, _, H1, rfl, I1.kept (t' := s1.toks) old, turn_enum a (s1.heap.objs.size + 1) s1.heap.objs.size, ⟨⟨_, en⟩, ⟨_, made, rfl, rfl⟩, Nat.succ_ne_self _⟩, two, q⟩
  · obtain ⟨its, rv, tup, _⟩ := I1.tuple seq
    have lt : a < s1.heap.objs.size := by
      obtain ⟨o, ho, _⟩ := tup
      exact Heap.lt_size ho
    refine enum_call (begins_tuple a its.toArray) tup fun h' en made old => wpAny_pyIter_enum en ?_
    exact ⟨_, _, _, _, H1, rfl, I1.kept (t' := s1.toks) old, turn_enumT a (s1.heap.objs.size + 1) s1.heap.objs.size, ⟨⟨_, en⟩, ⟨_, made, rfl, rfl⟩, Nat.succ_ne_self _, Nat.ne_of_lt (Nat.lt_succ_of_lt lt), Nat.ne_of_lt lt⟩, two, q⟩
end MX
end
section
/-! len(o), o != p of own instances; making one and a method of one where a try stands around. -/
namespace L2
open PySem PySem.Spec PyProof.Rows PySem.W

section
variable {X : Cx} {CX : CXT} {k : Nat} {f C : Addr} {fd : FuncData} {ps : List PySem.Str} {sp : Sp} {E : XK} {pins : List (Addr × Obj)} {σ : L2.St} {H : Hp} {s : Shared} {Q : VK} {us : List Value} {vs : List V} {A : Around}

/-- an own function called from within a built-in one -/
theorem run_sub (sb : Sub X k A) (F : FnOk X.prog X.w X.K X.mg X.base CX k f fd ps sp) (hb : Binds X.K fd ps []) (hx : PassesAt CX X σ E) (I : Inv X pins σ H s) (r : Vals vs us) (h : sp vs H Q E) :
    wpAny (model X.prog X.w) A (call (.ref f) us) (EP X pins σ Q) X.xe s := by
  have env : Env0 X.prog X.w X.K X.mg X.base A X.stack s H := { I.env0 with frames := sb.fr.trans I.env0.frames }
  have bound := hb s us I.kIn (by rw [List.append_nil, ← r.length]; exact F.len vs H Q E h)
  rw [List.append_nil] at bound
  refine wpAny_call (codeAny_mono (F.run A X.stack s H ⟨us, []⟩ us vs Q E sb.room env bound r h) fun res s' z => ?_)
  match res, z with
  | .error e, z => exact hx pins H s e s' I z
  | .ok (.ret u), z => exact I.after z
theorem sub_one (hr : Room (k + 1) X.A) : Sub X k X.A.in1 := ⟨hr.in1, rfl⟩

/-- the instance's class, as the model looks it up -/
theorem inst_at (I : Inv X pins σ H s) {a dx : Addr} {fs : List (PySem.Str × V)} (e : H a = some (.ins C dx fs)) : ∃ o od, InstAt s.heap a o C od := by
  obtain ⟨m, look, _⟩ := ins_get I.hok e
  obtain ⟨od, at_, _⟩ := look.look
  exact ⟨_, od, at_⟩

/-! ### len -/
def rLenOwn (C : Addr) (sp : Sp) : List V → Hp → VK → Prop := fun xs H Q => ∃ (p dx : Addr) (fs : List (PySem.Str × V)), xs = [V.ref p] ∧ H p = some (.ins C dx fs) ∧
  sp [V.ref p] H (fun v H' => ∃ n : Int, v = .int n ∧ 0 ≤ n ∧ n < 2 ^ 63 ∧ Q (.int n) H') E0
theorem call_lenOwn (find : findIn X.K (.ref C) "__len__" = some (some (.ref f))) (isF : isFn X.K (.ref f) = true) (F : FnOk X.prog X.w X.K X.mg X.base CX k f fd ps sp) (hb : Binds X.K fd ps []) (hr : Room (k + 1) X.A) (hx : Passes CX X E0) :
    CallR X (.builtin "len") (rLenOwn C sp) := by
  intro pins s σ H xs us Q I r h
  obtain ⟨p, dx, fs, rfl, hp, run⟩ := h
  obtain ⟨o, od, at_⟩ := inst_at I hp
  rw [Vals.ref1 r]
  refine Calls.call_function_entry kind_len plain_len entry_len (args_len1 (.ref p)) ?_
  unfold Builtin.«len»
  refine wpAny_bind (m := oneArg "len" ⟨[Value.ref p], []⟩) (wpAny_pure ?_)
  refine wpAny_bind (m := callSpecial? (Value.ref p) "__len__") (special_fn I.kIn at_ find (beq_iff_eq.mp isF) ?_)
  refine wpAny_mono (run_sub (sub_one hr) F hb (fun pins H s e s' => hx pins σ H s e s') I (.cons (show L2.RelV (V.ref p) (Value.ref p) from rfl) .nil) run) (fun v s1 ⟨y, H1, I1, rel, n, ey, low, high, q⟩ => ?_) fun _ _ z => z
  subst ey
  obtain ⟨t, rfl⟩ := rel
  refine wpAny_bind (wpAny_holding (wpAny_pure (wpAny_bind (wpAny_letGo ?_))))
  refine wp_if_neg (by omega) ?_
  try refine wpAny_bind (wpAny_pure ?_)
  refine wp_if_neg (by omega) ?_
  try refine wpAny_bind (wpAny_pure ?_)
  unfold retInt
  exact wpAny_bind (wpAny_mkInt (wpAny_pure ⟨_, rfl, ⟨.int n, H1, I1.tok _, ⟨_, rfl⟩, q⟩⟩))

/-! ### != -/
/-- a class with an own == and the built-in != -/
structure NeTxt (K : PySem.W.Frag) (C f : Addr) : Prop where
  eq : findIn K (.ref C) "__eq__" = some (some (.ref f))
  fn : isFn K (.ref f) = true
  ne : findIn K (.ref C) "__ne__" = some (some (.builtin "object.__ne__"))
  ob : mroIn K C (.type "object") = some true
def rNeOwn (C : Addr) (sp : Sp) : R2 := fun x y H Q => ∃ (p dp : Addr) (fp : List (PySem.Str × V)) (q dq : Addr) (fq : List (PySem.Str × V)), x = .ref p ∧ y = .ref q ∧ H p = some (.ins C dp fp) ∧ H q = some (.ins C dq fq) ∧
  sp [.ref p, .ref q] H (fun v H' => ∃ b : Bool, v = .bl b ∧ Q (.bl (!b)) H') E0
theorem bound_ne {M : Model} {B : Value → Shared → Prop} {K : PySem.W.Frag} {x : Addr} {o : Obj} {od : Option Obj} {args : List Value} {R : Option Value → Shared → Prop} (T : NeTxt K C f) (inK : K.In s.heap) (at_ : InstAt s.heap x o C od)
    (run : wpAny M A (call (.builtin "object.__ne__") (.ref x :: args)) (fun v => R (some v)) B s) : wpAny M A (callSpecialIfBound? (.ref x) "__ne__" args) R B s := by
  have go : wpAny M A (call (.builtin "object.__ne__") ([Value.ref x] ++ args) >>= fun v => pure (some v)) R B s := wpAny_bind (wpAny_mono run (fun _ _ z => wpAny_pure z) fun _ _ z => z)
  unfold callSpecialIfBound? bindSpecialIfBound?
  refine wpAny_holding (wpAny_bind (wpAny_bind ?_))
  refine wpAny_bind (at_.type.here ((looks_findIn inK T.ne).here ?_))
  refine wpAny_bind (wpAny_askSetting (wpAny_ite ?_))
  split
  · exact wpAny_bind (wpAny_of_eq (PySem.F.cmp_object.ne.bind (.ref x)) (wpAny_pure go))
  · exact wpAny_tryCatch (wpAny_bind (wpAny_of_eq (PySem.F.cmp_object.ne.bind (.ref x)) (wpAny_pure go)))
theorem op_neOwn (T : NeTxt X.K C f) (F : FnOk X.prog X.w X.K X.mg X.base CX k f fd ps sp) (hb : Binds X.K fd ps []) (hr : Room (k + 1) X.A) (hx : Passes CX X E0) : OpR X (compareOp .NotEq) (rNeOwn C sp) := by
  intro pins s σ H x y v u R I rx ry h
  obtain ⟨p, dp, fp, q, dq, fq, rfl, rfl, hp, hq, run⟩ := h
  obtain rfl : v = Value.ref p := rx
  obtain rfl : u = Value.ref q := ry
  obtain ⟨o, od, at_⟩ := inst_at I hp
  obtain ⟨o2, od2, at2⟩ := inst_at I hq
  have low1 : X.A.in1.units < cLine := hr.in1.units0
  have inner : wpAny (model X.prog X.w) X.A.in1 (Builtin.«object.__ne__» ⟨[.ref p, .ref q], []⟩) (fun fin s' => ∃ b H', fin = .done (.ret (.bool (!b))) ∧ Inv X pins σ H' s' ∧ R (.bl (!b)) H') X.xe s := by
    unfold Builtin.«object.__ne__»
    refine wpAny_bind (m := slotArgs "__ne__" 1 _) (wpAny_pure ?_)
    refine wpAny_bind (m := cRoomFor _ _) (wpAny_cRoomFor low1 ?_)
    refine wpAny_bind (m := callSpecialIfBound? (.ref p) "__eq__" [.ref q]) (ifBound_K I.kIn at_ T.eq T.fn ?_)
    refine wpAny_mono (run_sub (sub_one hr) F hb (fun pins H s e s' => hx pins σ H s e s') I (.cons (show L2.RelV (V.ref p) (Value.ref p) from rfl) (.cons (show L2.RelV (V.ref q) (Value.ref q) from rfl) .nil)) run) (fun v s1 ⟨y, H1, I1, rel, b, ey, z⟩ => ?_) fun _ _ z => z
    subst ey
    obtain rfl : v = Value.bool b := rel
    exact wpAny_bind (wpAny_truthy_bool (wpAny_pure ⟨b, H1, rfl, I1, z⟩))
  have call_ : wpAny (model X.prog X.w) X.A (call (.builtin "object.__ne__") [.ref p, .ref q]) (fun v s' => ∃ b H', v = .bool (!b) ∧ Inv X pins σ H' s' ∧ R (.bl (!b)) H') X.xe s := by
    refine wpAny_call (codeAny_call_builtin PySem.F.cmp_object.ne.plain PySem.F.cmpEntry_ne (check_slot PySem.F.cmpKind_ne PySem.F.cmpSplit_ne (at_.type.andThen (looks_mroIn I.kIn T.ob)) (PySem.F.cmpArgs_ne _ _) ?_))
    refine wpAny_mono inner (fun fin s' ⟨b, H', e, I', z⟩ => ?_) fun _ _ z => z
    subst e
    exact ⟨b, H', rfl, I', z⟩
  unfold compareOp richCompare
  simp only [oneThing_ref]
  refine wpAny_holding (wpAny_bind (wpAny_cRoomFor hr.units0 ?_))
  rw [cmpInfo_NotEq]
  dsimp only
  refine wpAny_bind (at_.type.here (wpAny_bind (at2.type.here ?_)))
  have same_ : ¬ (Value.ref C != Value.ref C) = true := by simp
  refine wp_if_neg same_ (wpAny_bind (wpAny_pure ?_))
  refine wp_if_neg (by decide) ?_
  try refine wpAny_bind (wpAny_pure ?_)
  refine wpAny_bind (m := tryCompare (.ref p) _ (.ref q)) ?_
  unfold tryCompare
  refine wpAny_bind (bound_ne T I.kIn at_ (wpAny_mono call_ (fun v s' ⟨b, H', e, I', z⟩ => ?_) fun _ _ z => z))
  subst e
  exact wpAny_pure (wpAny_pure ⟨.bl (!b), H', I', rfl, z⟩)

/-! ### where a try stands around -/
variable {Es : L2.St → XK} {x m : PySem.Str} {p pos apos : Pos} {e o : Expr} {es : List Expr} {ta : TE} {t : TA}
def tMakeS (C : Addr) (sp : Sp) (Es : L2.St → XK) (t : TA) : TE := fun σ H Q => tMake C sp [] (Es σ) t σ H Q
theorem made_run (M : Mk X.K C f) (F : FnOk X.prog X.w X.K X.mg X.base CX k f fd ps sp) (hr : Room (k + 1) X.A) (hb : Binds X.K fd ps []) (hx : PassesAt CX X σ E) (I : Inv X pins σ H s) (r : Vals vs us)
    (h : ∀ x dx, H x = none → H dx = none → dx ≠ x → sp (.ref x :: (vs ++ [])) (upd (upd H dx (.own x)) x (.ins C dx [])) (fun v H2 => v = .non ∧ Q (.ref x) H2) E) : wpAny (model X.prog X.w) X.A (call (.ref C) us) (EP X pins σ Q) X.xe s := by
  have I2 := Inv.made (C := C) I
  have run := h (s.heap.objs.size + 1) s.heap.objs.size (I.hok.fresh (Nat.le_succ _)) (I.hok.fresh (Nat.le_refl _)) (Nat.ne_of_lt (Nat.lt_succ_self _))
  rw [List.append_nil] at run
  have rel : Vals (V.ref (s.heap.objs.size + 1) :: vs) (Value.ref (s.heap.objs.size + 1) :: us) := .cons (show L2.RelV (V.ref (s.heap.objs.size + 1)) (Value.ref (s.heap.objs.size + 1)) from rfl) r
  have bound := hb _ (Value.ref (s.heap.objs.size + 1) :: us) I2.kIn (by rw [List.append_nil, ← rel.length]; exact F.len _ _ _ _ run)
  rw [List.append_nil] at bound
  have ran := F.run _ X.stack _ _ ⟨Value.ref (s.heap.objs.size + 1) :: us, []⟩ _ _ _ E (hr.make C us []) (I2.env0.make C us []) bound rel run
  refine wpAny_call (make_map (f := f) I.kIn M.makes M.init (beq_iff_eq.mp M.fn) (codeAny_mono ran fun res s' z => ?_))
  match res, z with
  | .error err, z => exact hx pins _ _ err s' I2 z
  | .ok (.ret u), z =>
    obtain ⟨v, H', I3, rv, rfl, q⟩ := I2.after z
    exact ⟨rv, ⟨V.ref (s.heap.objs.size + 1), H', I3, rfl, q⟩⟩
theorem pe_makeS (M : Mk X.K C f) (F : FnOk X.prog X.w X.K X.mg X.base CX k f fd ps sp) (hr : Room (k + 1) X.A) (hg : Gl X x) (hm : X.mg x = some (.ref C)) (hb : Binds X.K fd ps []) (hx : ∀ σ, PassesAt CX X σ (Es σ)) (ha : PA X (e :: es) t)
    (nodebug : (x == ("__debug__" : PySem.Str)) = false := by decide) (first : starEach (e :: es) X.env = (false, eval e X.env) :: starEach es X.env := by rfl) (nost : (backTo pos (starEach es X.env)).any (·.1) = false := by rfl) :
    PE X (.Call (.Name x p) (e :: es) [] pos) (tMakeS C sp Es t) := by
  constructor
  intro pins s σ H Q I h
  refine wpAny_Call_Name_kw (ld_glob I hg hm ?_ nodebug)
  refine callWith_K (h₀ := X.base) I.ok.mod.kin M.kp ?_ first nost
  exact thn (ha.run pos pins s σ H _ I h) fun us s1 ⟨vs, H1, I1, r, q⟩ => ⟨I1.kIn, made_run M F hr hb (hx σ) I1 r q⟩
def tMethT (C : Addr) (m : PySem.Str) (sp : Sp) (Es : L2.St → XK) (ta : TE) (t : TA) : TE := fun σ H Q => tMeth C m sp [] (Es σ) ta t σ H Q
theorem pe_methT {pl : Sem Bool} (he : PE X o ta) (c : Cls X.K C) (hm : Meth X.K C m f) (F : FnOk X.prog X.w X.K X.mg X.base CX k f fd ps sp) (hr : Room k X.A) (hb : Binds X.K fd ps []) (hx : ∀ σ, PassesAt CX X σ (Es σ)) (ha : PA X (e :: es) t)
    (first : starEach (e :: es) X.env = (false, eval e X.env) :: starEach es X.env := by rfl) (nost : (backTo pos (starEach es X.env)).any (·.1) = false := by rfl)
    (text : eval (.Call (.Attribute o m apos) (e :: es) [] pos) X.env = (do
      let ov ← eval o X.env
      standAt apos.atName
      let (f, first) ← holding [ov] (getMethod ov m pl)
      callWith pos f first (backTo pos (starEach (e :: es) X.env)) (backToKw pos (keywordEach [] X.env))) := by rfl) :
    PE X (.Call (.Attribute o m apos) (e :: es) [] pos) (tMethT C m sp Es ta t) := by
  constructor
  intro pins s σ H Q I h
  refine methodCall_KW (pl := pl) ?_ text
  refine thn (he.run pins s σ H _ I h) fun u s1 ⟨y, H1, I1, rel, a, dx, fs, ey, at_, none_, q⟩ => ?_
  subst ey
  obtain rfl : u = Value.ref a := rel
  refine getmeth_ok I1 at_ c hm none_ ?_
  refine callWith_K (first := [Value.ref a]) (h₀ := X.base) I.ok.mod.kin hm.kp ?_ first nost
  refine thn (ha.run pos pins s1 σ H1 _ I1 q) fun us s2 ⟨vs, H2, I2, r, q2⟩ => ⟨I2.kIn, ?_⟩
  replace q2 : sp (V.ref a :: (vs ++ [])) H2 Q (Es σ) := q2
  rw [List.append_nil] at q2
  exact run_fnS (us := Value.ref a :: us) (vs := V.ref a :: vs) F hr hb (hx σ) I2 (.cons (show L2.RelV (V.ref a) (Value.ref a) from rfl) r) q2
end
end L2
end
section
/-! An own error whose __init__ calls its base's by super() with an f-string and keeps its place. -/
namespace PySem
namespace PlX
open PySem.W PySem.Calls PyProof.Rows PySem.HandSPX
/-! ### the text of __init__ -/
def args (p1 p2 : Pos) : Arguments := { posonlyargs := [], args := [{ arg := "self", annotation := none, pos := p1 }, { arg := "place", annotation := none, pos := p2 }], vararg := none, kwonlyargs := [], kw_defaults := [], kwarg := none, defaults := [] }
structure Ps where
  a : Pos
  b : Pos
  c : Pos
  d : Pos
  e : Pos
  f : Pos
  g : Pos
  h : Pos
  i : Pos
  j : Pos
  k : Pos
  l : Pos
  m : Pos
def say (msg : Str) (p : Ps) : Expr := .JoinedStr [.Constant (.str msg) 0 p.a, .FormattedValue (.Name "place" p.b) (-1) none p.c] p.d
def call (msg : Str) (p : Ps) : Expr := .Call (.Attribute (.Call (.Name "super" p.e) [] [] p.f) "__init__" p.g) [say msg p] [] p.h
def body (msg : Str) (p : Ps) : List Stmt := [.Expr (call msg p) p.i, .Assign [.Attribute (.Name "self" p.j) "place" p.k] (.Name "place" p.l) p.m]
/-- how the call is read -/
def Reads (msg : Str) (p : Ps) : Prop := ∀ env : Env, ∃ pl : Sem Bool, eval (call msg p) env = (do
  let ov ← attributeBase (.Call (.Name "super" p.e) [] [] p.f) "__init__" env (eval (.Call (.Name "super" p.e) [] [] p.f) env)
  standAt p.g.atName
  let (f, first) ← holding [ov] (getMethod ov "__init__" pl)
  callWith p.h f first (backTo p.h (starEach [say msg p] env)) [])
def scope : Scope := { kind := .function, names := [(PySem.Str.ofString "self", .local), (PySem.Str.ofString "place", .local), (PySem.Str.ofString "__class__", .free), (PySem.Str.ofString "super", .globalImplicit)], isGenerator := false, isCoroutine := false, more := [] }
theorem kSuper : List.lookup ("super" : Str) scope.names = some NameKind.globalImplicit := by decide +kernel
theorem kClass : List.lookup ("__class__" : Str) scope.names = some NameKind.free := by decide +kernel
theorem kSelf : List.lookup ("self" : Str) scope.names = some NameKind.local := by decide +kernel
theorem kPlace : List.lookup ("place" : Str) scope.names = some NameKind.local := by decide +kernel
/-- what the written part says of the class named nmC, at C, and of its __init__, at fI -/
structure Txt (P : Program) (K : Frag) (mg : Str → Option Value) (nmC : Str) (C fI : Addr) : Prop where
  gC : mg nmC = some (.ref C)
  cls : ∃ nm q N bs bm sn sub ab col dd k0 k1 k2 k3 k5, K.lookup C = some (excClassObj nm q C N bs bm true sn sub ab col dd k0 k1 k2 k3 k5 "ValueError.__new__") ∧ refsVE bm = true
  sa : findIn K (.ref C) "__setattr__" = some (some (.builtin "object.__setattr__"))
  ga : findIn K (.ref C) "__getattribute__" = some (some (.builtin "BaseException.__getattribute__"))
  gg : findIn K (.ref C) "__getattr__" = some none
  noN : findIn K (.ref C) "place" = some none
  iC : findIn K (.ref C) "__init__" = some (some (.ref fI))
  tC : typeIn K (.ref fI) = some (.type "function")
  kC : keepIn K (.ref C) = true
  exC : subIn K (.ref C) (.type "BaseException") = some true
  veC : subIn K (.ref C) (.type "ValueError") = some true
  tyC : typeIn K (.ref C) = some (.type "type")
  hdC : hasDictIn K C = true
  te : exmOne K (.ref C) (.ref C) = some true
  sup : ks_superIn K C C "__init__" = some (some (.builtin "ValueError.__init__"))
  opq : nsIn K cStatics "thirdparty.any" = some none
  exI : excInitIn K C veTail "ValueError.__new__" = true
  self : mroIn K C (.ref C) = some true
  sups : mg "super" = none
  top : (P.main.scope.names.lookup ("super" : Str)).isSome = false
  fn : ∃ (oc : Value) (od : Option Addr) (doc pm : Value) (an : Option Addr) (cda cc : Addr) (ct : Value) (osl : Array (Option Value)) (p1 p2 : Pos) (qual msg : Str) (ps : Ps) (ccl : Value) (cdd : Option Addr) (vs : Array Value) (ccs : Array (Option Value)) (file : Str) (tf : Tok) (cl : Value) (cld : Option Addr) (csl : Array (Option Value)),
    K.lookup fI = some ⟨oc, od, .func (ksFn "__init__" qual (args p1 p2) (body msg ps) scope .none .none doc pm an (.ref cda) ct cc), osl⟩ ∧ codeIn K (.ref cda) qual = true ∧ msg.length ≤ 100 ∧ Reads msg ps ∧
    K.lookup cda = some ⟨ccl, cdd, .fields vs, ccs⟩ ∧ vs[2]? = some (.str file tf) ∧ ((P.main.file : Str) == file) = true ∧ K.lookup cc = some ⟨cl, cld, .cell (some (.ref C)), csl⟩
/-- what stands as a place -/
def PlaceV (v : Value) : Prop := v = .none ∨ ∃ i t, v = .int i t ∧ i.natAbs.log2 < 1920
structure Made (h h' : Heap) (e C d : Addr) (v : Value) : Prop where
  keep : ∀ b o, h.get? b = some o → h'.get? b = some o
  new : h.objs.size ≤ e
  obj : ∃ oe vs, h'.get? e = some oe ∧ oe.cls = .ref C ∧ oe.dict = some d ∧ oe.data = .fields vs ∧ vs[1]? = some .none
  dbig : h.objs.size ≤ d
  dne : d ≠ e
  ns : h'.Ns1 d (fun y => if y = "place" then some v else none)
/-- what __init__ leaves of a fresh exception at x -/
structure Left (h h' : Heap) (x C dx t1 : Addr) (v : Value) : Prop where
  keep : ∀ b o, b ≠ x → h.get? b = some o → h'.get? b = some o
  obj : h'.get? x = some { cls := .ref C, dict := some dx, data := .fields #[.ref t1, .none, .none, .none, .bool false, .none] }
  dbig : h.objs.size ≤ dx
  dne : dx ≠ x
  ns : h'.Ns1 dx (fun y => if y = "place" then some v else none)
theorem ldN {M : Model} {A : Around} {E : Value → Shared → Prop} {s : Shared} {env : Env} {m : Str → Option Value} {x : Str} {pos : Pos} {v : Value} {Q : Value → Shared → Prop} (hn : s.heap.Ns env.locals m) (hv : m x = some v) (h : Q v s)
    (hk : env.scope.kind = .function := by rfl) (hl : env.kindOf x = some .local := by rfl) (hd : (x == ("__debug__" : Str)) = false := by decide) :
    wpAny M A (eval (.Name x pos) env) Q E s := wpAny_Name (wpAny_loadName_local hk hl hn hv h) hd
section
variable {prog : Program} {w : World} {A : Around} {E : Value → Shared → Prop} {R : Result → Shared → Prop} {s : Shared} {K : Frag} {mg : Str → Option Value} {C fI : Addr} {nmC : Str}
theorem say_runs {env : Env} {L : Addr} {m : Str → Option Value} {msg : Str} {p : Ps} {v : Value} {Q : Value → Shared → Prop} (hL : env.locals = L) (hn : s.heap.Ns L m) (hv : m "place" = some v) (pv : PlaceV v) (hz : msg.length ≤ 100)
    (hk : env.scope.kind = .function) (hl : env.kindOf "place" = some .local)
    (h : ∀ x t, Q x { s with toks := t }) : wpAny (model prog w) A (eval (say msg p) env) Q E s := by
  subst hL
  unfold say
  refine wpAny_JoinedStr ?_
  have e0 : evalEach [Expr.Constant (.str msg) 0 p.a, Expr.FormattedValue (.Name "place" p.b) (-1) none p.c] env = [eval (Expr.Constant (.str msg) 0 p.a) env, eval (Expr.FormattedValue (.Name "place" p.b) (-1) none p.c) env] := by first | rfl | simp [evalEach]
  rw [e0]
  have le0 : (Str.empty ++ msg).length ≤ 100 := by
    rw [Str.length_append]
    show 0 + msg.length ≤ 100
    omega
  refine wpAny_Constant_str ⟨msg, _, rfl, Nat.le_trans le0 (by rw [sizeLine_eq]; omega), ?_⟩
  refine wpAny_FormattedValue_plain (ldN hn hv ?_ hk hl (by decide))
  have fin : ∀ (y : Str) (t t' : Nat), y.length ≤ 2000 → ∃ y' t2, (Value.str y t) = .str y' t2 ∧ ((Str.empty ++ msg) ++ y').length ≤ sizeLine ∧
      Joins (model prog w) A E [] ((Str.empty ++ msg) ++ y') (fun out s₁ => out.length ≤ sizeLine ∧ Q (.str out s₁.toks) { s₁ with toks := s₁.toks + 1 }) { s with toks := t' } := fun y t t' hy => by
    have lz : ((Str.empty ++ msg) ++ y).length ≤ sizeLine := by
      rw [Str.length_append, sizeLine_eq]
      omega
    exact ⟨y, t, rfl, lz, lz, h _ _⟩
  rcases pv with rfl | ⟨i, t, rfl, hi⟩
  · exact wpAny_formatField_none (fin "None" _ _ (by decide))
  · exact wpAny_formatField_int hi (fin _ _ _ (Nat.le_trans (int_text_len_1921 hi) (by omega)))
theorem init_runs (T : Txt prog K mg nmC C fI) {x t0 : Addr} {v : Value} (pv : PlaceV v) (M : L2.Mod K mg s.heap) (hx : s.heap.get? x = some (excO C t0)) (hnx : K.lookup x = none) (hroom : A.depth < recursionLimit)
    (hq : ∀ h' tk dx t1, Left s.heap h' x C dx t1 v → R (.ok (.ret .none)) { s with heap := h', toks := tk }) :
    codeAny (model prog w) A (.call (.ref fI) ⟨[.ref x, v], []⟩) R s := by
  obtain ⟨oc, od, doc, pm, an, cda, cc, ct, osl, p1, p2, qual, msg, ps, ccl, cdd, vs, ccs, file, tf, cl, cld, csl, ho, hcd, hmsg, hrd, hcda, hvs, hfile, hcc⟩ := T.fn
  have X := M.kin
  refine ks_codeAny_call_defAt (fd := ksFn "__init__" qual (args p1 p2) (body msg ps) scope .none .none doc pm an (.ref cda) ct cc) (body := body msg ps) (binds := [("self", .ref x), ("place", v)]) hroom (X _ _ ho) rfl M.nolimit (codeRec_of X hcd) rfl
    (BindsTo.of_eq (by first | rfl | with_unfolding_all rfl)) (show ∀ y ∈ scope.names, y.2 ≠ .cell by decide +kernel)
    (fun y hy => by
      rcases List.mem_cons.mp hy with rfl | hy
      · exact kSelf
      · rcases List.mem_cons.mp hy with rfl | hy
        · exact kPlace
        · cases hy) (fun h₁ hns₁ k₁ => ?_) rfl rfl rfl
  obtain ⟨hp, g, d, tk, os⟩ := s
  have hxL : hp.objs.size ≠ x := Nat.ne_of_gt (Heap.lt_size hx)
  have lS : List.lookup ("self" : Str) ([("self", .ref x), ("place", v)] : List (Str × Value)).reverse = some (.ref x) := by first | rfl | with_unfolding_all rfl | kernel_rfl
  have lP : List.lookup ("place" : Str) ([("self", .ref x), ("place", v)] : List (Str × Value)).reverse = some v := by first | rfl | with_unfolding_all rfl | kernel_rfl
  have X₁ : K.In h₁ := X.keeps k₁
  have hx₁ := k₁ _ _ hx
  have G₁ := M.glob.keeps k₁
  obtain ⟨mb, B0, hB⟩ := M.blt
  have B₁ := B0.keeps k₁
  obtain ⟨nm, q, N, bs, bm, sn, sub, ab, col, dd, k0, k1, k2, k3, k5, hC, hbm⟩ := T.cls
  have hcl : clsIn K C = some { name := nm, bases := bs, mro := .ref C :: bm, ns := N, qualname := q, hasDict := true, slotNames := sn, subclasses := sub, abstract := ab, collection := col, hasDel := false } := by unfold clsIn; rw [hC] <;> rfl
  show PySem.wpAt _ _ _ (execs (_ :: _) _) _ _ _
  obtain ⟨pl, hpl⟩ := hrd (ksEnv qual scope hp.objs.size fI (.ref cda) cc)
  refine ks_wpAt_execs_cons (ks_wpAt_Expr_any (ks_wpAt_MethodCall (pl := pl) ?_ hpl))
  refine ks_wpAt_super_base (env := ksEnv qual scope hp.objs.size fI (.ref cda) cc) kSuper kClass (by decide) rfl (X₁ _ _ ho) rfl rfl rfl (X₁ _ _ hcda) rfl hvs hfile T.top ?_
  have hC₁ := X₁ _ _ hC
  refine ks_loadName_global rfl kSuper (loadGlobal_builtin (env := ksEnv qual scope hp.objs.size fI (.ref cda) cc) G₁ T.sups B₁ ((hB _ (by decide +kernel)).trans PyProof.Rows.Boot.«super») ⟨rfl, ?_⟩)
  refine wpAny_loadName_free (c := cc) rfl kClass rfl ⟨_, X₁ _ _ hcc, rfl⟩ ?_
  refine wpAny_loadName_local rfl kSelf hns₁ lS ?_
  refine ks_wpAny_isType_cls hC₁ rfl ⟨rfl, ?_⟩
  refine ks_wpAny_call_super hC₁ rfl hx₁ rfl (fun c e => by cases e) (looks_mroIn X₁ T.self) (fun h₂ e₂ k₂ => ?_)
  have X0 : K.In (hideAll hp [x]) := fun a o e => hideAll_get [x] (X a o e) fun z => by
    rw [List.mem_singleton.mp z] at e
    rw [show K.lookup x = some o from e] at hnx
    cases hnx
  have F1 : Fr (hideAll hp [x]) hp.objs.size h₁ _ := ⟨hns₁, fun b o e => k₁ b o (of_hideAll _ e), Nat.le_of_eq (hideAll_size _ _)⟩
  have N1 : News (hideAll hp [x]) hp.objs.size h₁ [(x, excO C t0)] := fun p hm => by
    rw [List.mem_singleton.mp hm]
    exact ⟨hx₁, Ne.symm hxL, hideAll_none _ (List.mem_singleton.mpr rfl)⟩
  obtain ⟨F2, N2, lt2⟩ := ks_newsPush (s := ⟨h₁, g, d, tk + 2, os⟩) F1 N1 rfl e₂ k₂
  refine kxs_method kxs_ValueError F2 X0 N2 (List.mem_cons_self ..) (odx := none) ⟨k₂ _ _ hx₁, rfl, rfl, trivial⟩ T.opq T.sup T.veC (by decide +kernel) (fun u h₃ F3 N3 lt3 => ?_)
  refine kxs_callWith1 N3 (List.mem_cons_self ..) ?_
  refine args_cons (say_runs (L := hp.objs.size) rfl F3.ns lP pv hmsg rfl kPlace fun y t => args_nil ?_)
  refine ⟨kxs_at N3 (List.mem_cons_self ..), ?_⟩
  have ltx : x < h₁.objs.size := lt2 (x, excO C t0) (List.mem_singleton.mpr rfl)
  have ltu : x < u := lt3 (x, excO C t0) (.tail _ (List.mem_singleton.mpr rfl))
  have U : UpdF x (excObj C t0 none .none) [(u, kxs_mw "ValueError.__init__" x), (h₁.objs.size, ks_superObj C x C), (x, excO C t0)] (fun o => [(u, kxs_mw "ValueError.__init__" x), (h₁.objs.size, ks_superObj C x C), (x, o)]) :=
    .tail (Nat.ne_of_gt ltu) (.tail (Nat.ne_of_gt ltx) (.head fun p hp => nomatch hp))
  refine kxs_call F3 X0 N3 F.excBase_ValueError T.exI (List.mem_cons_self ..) U (show 1 ≤ sizeLine by rw [sizeLine_eq]; omega) (fun t1 h₄ F4 N4 lt4 => ?_)
  have hx₄ : h₄.get? x = some (excObj C t1 none .none) := (N4 (x, excObj C t1 none .none) (.tail _ (.tail _ (.tail _ (List.mem_singleton.mpr rfl))))).1
  have X₄ : K.In h₄ := X0.keeps F4.keep
  show PySem.wpAt _ _ _ (execs (_ :: _) _) _ _ _
  refine ks_wpAt_execs_cons (ks_wpAt_Assign_Attr (wpAt_of_wpAny ?_))
  have n4 : h₄.Ns (ksEnv qual scope hp.objs.size fI (.ref cda) cc).locals (fun y => List.lookup y ([("self", .ref x), ("place", v)] : List (Str × Value)).reverse) := F4.ns
  show wpAny _ _ (eval (.Name "place" ps.l) (ksEnv qual scope hp.objs.size fI (.ref cda) cc)) _ _ ⟨h₄, g, d, _, os⟩
  refine ldN n4 lP ?_ rfl kPlace (by decide)
  show wpAny _ _ (eval (.Name "self" ps.j) (ksEnv qual scope hp.objs.size fI (.ref cda) cc)) _ _ ⟨h₄, g, d, _, os⟩
  refine ldN n4 lS ?_ rfl kSelf (by decide)
  refine set_plain X₄ (ox := excObj C t1 none .none) (od := none) ⟨hx₄, rfl, rfl, trivial⟩ T.sa ?_
  refine exc_osa X₄ hx₄ hcl (show refsVE (.ref C :: bm) = true from hbm) rfl T.noN (fun h₅ tk₅ dx k₅ dn dne hx₅ hn₅ => ?_)
  show PySem.wpAt _ _ _ (execs [] _) _ _ _
  refine wpAt_of_wpAny (wpAny_execs_nil (hq h₅ tk₅ dx t1 ⟨fun b o hb e => ?_, hx₅, ?_, dne, hn₅⟩))
  · exact k₅ b o hb (F4.keep b o (hideAll_get [x] e fun z => hb (List.mem_singleton.mp z)))
  · exact Nat.le_of_lt (Nat.lt_of_lt_of_le F4.ns.lt dn)
theorem made_runs (T : Txt prog K mg nmC C fI) {v : Value} (pv : PlaceV v) (M : L2.Mod K mg s.heap) (hroom : A.depth + 1 < recursionLimit)
    (hq : ∀ h' tk e d, Made s.heap h' e C d v → R (.ok (.ret (.ref e))) { s with heap := h', toks := tk }) :
    codeAny (model prog w) A (.call (.ref C) ⟨[v], []⟩) R s := by
  obtain ⟨nm, q, N, bs, bm, sn, sub, ab, col, dd, k0, k1, k2, k3, k5, hC, hbm⟩ := T.cls
  obtain ⟨hp, g, dr, tk, os⟩ := s
  have X := M.kin
  have k : ∀ b o, hp.get? b = some o → ((hp.push (kdv_tup [v])).push (excO C hp.objs.size)).get? b = some o := fun b o e => Heap.get?_push_of_some _ (Heap.get?_push_of_some _ e)
  have hget : ((hp.push (kdv_tup [v])).push (excO C hp.objs.size)).get? (hp.objs.size + 1) = some (excO C hp.objs.size) := by heap_get
  have hnx : K.lookup (hp.objs.size + 1) = none := by
    cases e : K.lookup (hp.objs.size + 1) with
    | none => rfl
    | some o => exact absurd (Nat.lt_of_succ_lt (Heap.lt_size (X _ _ e))) (Nat.lt_irrefl _)
  have M2 : L2.Mod K mg ((hp.push (kdv_tup [v])).push (excO C hp.objs.size)) := ⟨X.keeps k, M.glob.keeps k, M.blt.imp fun mb z => ⟨z.1.keeps k, z.2⟩, M.nolimit.keeps k⟩
  refine call_own F.excBase_ValueError (fun Y => refsVE_contains Y bm hbm) (X _ _ hC) (looks_findIn X T.iC) (fun self => bind_fn X self T.tC) (show 1 ≤ sizeLine by rw [sizeLine_eq]; omega) ?_
  refine init_runs (s := ⟨(hp.push (kdv_tup [v])).push (excO C hp.objs.size), g, dr, tk, os⟩) T pv M2 hget hnx hroom fun h' tk' dx t1 L => ?_
  refine ⟨rfl, hq h' tk' (hp.objs.size + 1) dx ⟨fun b o e => L.keep b o (Nat.ne_of_lt (Nat.lt_succ_of_lt (Heap.lt_size e))) (k b o e), Nat.le_succ _, ⟨_, _, L.obj, rfl, rfl, rfl, rfl⟩, Nat.le_trans ?_ L.dbig, L.dne, L.ns⟩⟩
  show hp.objs.size ≤ ((hp.push (kdv_tup [v])).push (excO C hp.objs.size)).objs.size
  rw [Heap.size_push, Heap.size_push]
  omega
end
end PlX
end PySem
end
section
/-! The hand layer's words for errors that keep a place. -/
namespace L2
open PySem PySem.Spec PyProof.Rows
/-- the field that the error keeps, and no other -/
theorem place_fields {v : V} {u : Value} (r : RelV v u) (f : Str) : RelO ([(("place" : Str), v)].lookup f) (if f = "place" then some u else none) := by
  rcases Classical.em (f = "place") with rfl | h
  · rw [if_pos rfl]
    have z : [(("place" : Str), v)].lookup ("place" : Str) = some v := by simp [List.lookup]
    rw [z]; exact r
  · rw [if_neg h]
    have z0 : (f == ("place" : Str)) = false := by simpa using h
    have z : [(("place" : Str), v)].lookup f = none := by simp [List.lookup, z0]
    rw [z]; exact trivial
/-- what may be a place -/
def PlaceW (v : V) : Prop := v = .non ∨ ∃ i : Int, v = .int i ∧ i.natAbs.log2 < 1920
theorem placeW_val {v : V} {u : Value} (h : PlaceW v) (r : RelV v u) : PySem.PlX.PlaceV u := by
  rcases h with rfl | ⟨i, rfl, hi⟩
  · obtain rfl : u = .none := r
    exact .inl rfl
  · obtain ⟨t, rfl⟩ := r
    exact .inr ⟨i, t, rfl, hi⟩
section
variable {X : Cx} {C fI : Addr} {nmC : Str}
/-- C(e) -/
def tMkPl (C : Addr) (ta : TA) : St → Hp → XK → Prop := fun σ H Q => ta σ H fun vs H1 => ∃ v, vs = [v] ∧ PlaceW v ∧ ∀ d, H1 d = none → Q (.ref C) (some d) (upd H1 d (.xd [(("place" : Str), v)]))
theorem pmk_pl {a : Expr} {ta : TA} {p pos : Pos} {k : Nat} (T : PySem.PlX.Txt X.prog X.K X.mg nmC C fI) (hr : Room (k + 1) X.A) (ha : PA X [a] ta) (hg : Gl X nmC) (hdb : (nmC == ("__debug__" : Str)) = false := by decide)
    (he : starEach (a :: []) X.env = (false, eval a X.env) :: starEach [] X.env := by rfl) (hpl : (backTo pos (starEach [] X.env)).any (·.1) = false := by rfl) :
    PMk X (.Call (.Name nmC p) [a] [] pos) (tMkPl C ta) := fun pins s σ H Q I h => by
  refine wpAny_Call_Name_kw (ld_glob I hg T.gC ?_ hdb)
  refine PySem.W.callWith_K (h₀ := X.base) I.ok.mod.kin T.kC (thn (ha.run pos pins s σ H _ I h) fun us s1 hh => ?_) he hpl
  obtain ⟨vs, H1, I1, r1, v, ev, hv, q1⟩ := hh
  subst ev
  refine ⟨I1.kIn, ?_⟩
  cases r1 with
  | @cons _ u0 _ us' rv rn =>
    cases rn
    have M : Mod X.K X.mg s1.heap := ⟨I1.kIn, I1.ok.mod.glob.keeps I1.bk, I1.ok.mod.blt.imp fun mb z => ⟨z.1.keeps I1.bk, z.2⟩, I1.nolimit⟩
    show wpAny _ _ (call (.ref C) [u0]) _ _ _
    obtain ⟨hp, g, dr, tk, os⟩ := s1
    refine wpAny_call (PySem.PlX.made_runs T (placeW_val hv rv) M (by have := hr.dp; omega) fun h' tk' e d Z => ?_)
    show MkP X pins σ Q (.ref e) ⟨h', g, dr, tk', os⟩
    obtain ⟨oe, fv, hoe, hc, hd, hdat, hnil⟩ := Z.obj
    obtain ⟨G, same, gone⟩ := restrict h' fun b => decide (b ≠ e)
    have gs : ∀ b, b ≠ e → G.get? b = h'.get? b := fun b hb => same b (decide_eq_true hb)
    have ge : G.get? e = none := gone e (decide_eq_false fun z => z rfl)
    have keep : ∀ b o, hp.get? b = some o → G.get? b = some o := fun b o q => by
      rw [gs b (Nat.ne_of_lt (Nat.lt_of_lt_of_le (Heap.lt_size q) Z.new))]
      exact Z.keep b o q
    have dict : ObjOk X.prog X.w (upd H1 d (.xd [(("place" : Str), v)])) G d (.xd [(("place" : Str), v)]) :=
      ⟨_, Z.ns.at (fun o q => (gs d Z.dne).trans q), fun f => place_fields rv f⟩
    have J : Inv X pins σ (upd H1 d (.xd [(("place" : Str), v)])) ⟨G, g, dr, tk', os⟩ := I1.laid (t' := tk') keep Z.dbig dict
    have ne : (upd H1 d (.xd [(("place" : Str), v)])) e = none := by
      rw [upd_ne (Ne.symm Z.dne)]; exact I1.hok.fresh Z.new
    refine ⟨e, oe, fv, ⟨G, g, dr, tk', os⟩, _, .ref C, some d, rfl, J, fun b o q => ?_, ge, hoe, ⟨hc, hd⟩, hdat, hnil, ne, rfl, I1.bare, raises_own T.exC T.tyC, q1 d (I1.hok.fresh Z.dbig)⟩
    have nb : b ≠ e := fun z => by
      rw [z] at q
      rw [show G.get? e = some o from q] at ge
      cases ge
    exact (gs b nb).symm.trans q
end
theorem xfc_of {P : Program} {K : PySem.W.Frag} {mg : Str → Option Value} {nmC : Str} {C fI : Addr} (T : PySem.PlX.Txt P K mg nmC C fI) : XfC K C := ⟨T.ga, T.gg, T.exC, T.hdC⟩
end L2
end
section
/-! The same rules with the written part named: for a comprehension's block. -/
namespace L2
open PySem PySem.Spec PyProof.Rows
section
variable {X : Cx} {K : PySem.W.Frag}
theorem ix_tupK (hK : X.K = K) : IxR X (rIxT K) := hK ▸ ix_tup
theorem ix_listK (hK : X.K = K) : IxR X (rIxL K) := hK ▸ ix_list
theorem pt_tru {a : Expr} {ta : TE} (hK : X.K = K) (ha : PE X a ta) (he : ∀ whole, isTrue a X.env whole = (do let v ← whole; standAt a.pos; holding [v] (truthy v))) : PT X a (tTru K ta) := by
  subst hK
  exact pt_truth ha he
theorem pi_listK {tg l : Expr} {tl : TE} (hK : X.K = K) (hl : PE X l tl) : PI X tg l (iList K tl) := by
  subst hK
  exact pi_list hl
theorem pi_tupK {tg l : Expr} {tl : TE} (hK : X.K = K) (hl : PE X l tl) : PI X tg l (iTup K tl) := by
  subst hK
  exact pi_tup hl
theorem pg_tupK {es : List Expr} {k : Nat} {t : TGs} {n : Nat} {pos : Pos} (hK : X.K = K) (hc : X.calm = true) (h : PGs X es t) (hn : (assignEach es X.env).length = n := by rfl) (hst : (assignEach es X.env).findIdx? (·.1) = none := by rfl) : PG X (.Tuple es k pos) (gTup K n t) := by
  subst hK
  exact pg_tup hc h hn hst
theorem op_inQK {P : Program} {w : World} (hP : X.prog = P) (hw : X.w = w) : OpR X (compareOp .In) (MX.rInQ P w false) := by
  subst hP hw
  exact MX.op_inQ
theorem op_notInQK {P : Program} {w : World} (hP : X.prog = P) (hw : X.w = w) : OpR X (compareOp .NotIn) (MX.rInQ P w true) := by
  subst hP hw
  exact MX.op_notInQ
theorem op_in_seqK (hK : X.K = K) : OpR X (compareOp .In) (rIn K false) := by
  subst hK
  exact op_in_seq
theorem op_notIn_seqK (hK : X.K = K) : OpR X (compareOp .NotIn) (rIn K true) := by
  subst hK
  exact op_notIn_seq
end
end L2
end
section
/-! The machine is made. -/
namespace K1
open PySem L2
open MX (Rise Up)
abbrev sMInit : Stmt := inClass (top 17) 0
def stpK (s : Stp) : List Key := [.inl s.a, .inr s.k, .inr s.s, .inl s.g]
theorem stpK_V (s : Stp) : (stpK s).map kV = stepV s := rfl
theorem stpK_inj {s t : Stp} (h : stpK s = stpK t) : s = t := by
  obtain ⟨a, k, w, g⟩ := s
  obtain ⟨a', k', w', g'⟩ := t
  simp only [stpK, List.cons.injEq, Sum.inl.injEq, Sum.inr.injEq, and_true] at h
  obtain ⟨rfl, rfl, rfl, rfl⟩ := h
  rfl
/-- a step of a machine of so many states -/
def OkS (many : Int) (s : Stp) : Prop := 0 ≤ s.a ∧ s.a < many ∧ 0 ≤ s.g ∧ s.g < many ∧ wordE (.str s.k) = true ∧ wordE (.str s.s) = true
theorem stepB_ok {H : Hp} {many : Int} {p : Addr} {s : Stp} (h : H p = some (.tup (stepV s))) (o : OkS many s) : stepB H many (.ref p) = true := by
  obtain ⟨h1, h2, h3, h4, h5, h6⟩ := o
  unfold stepB
  simp only [h, stepV, fourB, decide_eq_true h1, decide_eq_true h2, decide_eq_true h3, decide_eq_true h4, h5, h6, Bool.and_self]
theorem Pl.at {K : PySem.W.Frag} {H : Hp} {a : Addr} {T : String} (h : Pl K H (.ref a) T) : ∃ o, H a = some o := by
  cases h with
  | lst h => exact ⟨_, h⟩
  | tup h => exact ⟨_, h⟩
  | dK h => exact ⟨_, h⟩
theorem Look.stepB_same {K : PySem.W.Frag} {H H' : Hp} {v : V} {many : Int} (e : Same H H') (l : Look K H v) : stepB H' many v = stepB H many v := by
  obtain ⟨ty, pl, _⟩ := l
  cases v with
  | ref a =>
    obtain ⟨o, ho⟩ := pl.at
    unfold stepB
    simp only [ho, e _ _ ho]
  | _ => rfl
theorem Look.same {K : PySem.W.Frag} {H H' : Hp} {v : V} (e : Same H H') (l : Look K H v) : Look K H' v := by
  obtain ⟨ty, pl, al⟩ := l
  refine ⟨ty, pl.same e, fun a xs hv hx x hm => ?_⟩
  subst hv
  obtain ⟨o, ho⟩ := pl.at
  have z := e _ _ ho
  rw [hx] at z
  rw [← Option.some.inj z] at ho
  obtain ⟨t, pt, nr⟩ := al a xs rfl ho x hm
  exact ⟨t, pt.same e, nr⟩
theorem wordE_len {x : Str} (h : wordE (.str x) = true) : x.length ≤ sizeLine := by
  have z : (decide (x = Str.ofString "") || wordS x) = true := h
  rcases Bool.or_eq_true_iff.mp z with z | z
  · rw [of_decide_eq_true z, sizeLine_eq]; decide
  · unfold wordS at z
    simp only [Bool.and_eq_true, decide_eq_true_eq] at z
    rw [sizeLine_eq]; omega
theorem look_step {K : PySem.W.Frag} {H : Hp} {many : Int} {p : Addr} {s : Stp} (h : H p = some (.tup (stepV s))) (o : OkS many s) : Look K H (.ref p) := by
  refine ⟨_, .tup h, fun a xs e hx x hm => ?_⟩
  cases e
  rw [h] at hx
  cases hx
  rcases List.mem_cons.mp hm with rfl | hm
  · exact ⟨_, .int _, fun _ z => nomatch z⟩
  rcases List.mem_cons.mp hm with rfl | hm
  · exact ⟨_, .str (wordE_len o.2.2.2.2.1), fun _ z => nomatch z⟩
  rcases List.mem_cons.mp hm with rfl | hm
  · exact ⟨_, .str (wordE_len o.2.2.2.2.2), fun _ z => nomatch z⟩
  rcases List.mem_cons.mp hm with rfl | hm
  · exact ⟨_, .int _, fun _ z => nomatch z⟩
  · cases hm
theorem Row.each {H : Hp} {xs : List V} {sts : List Stp} (h : Row H xs sts) : ∀ x ∈ xs, ∃ s ∈ sts, ∃ p, x = .ref p ∧ H p = some (.tup (stepV s)) := by
  unfold Row at h
  induction h with
  | nil => intro x hx; cases hx
  | @cons y s ys ss h t ih =>
    intro x hx
    rcases List.mem_cons.mp hx with rfl | hx
    · exact ⟨s, List.mem_cons_self .., h⟩
    · obtain ⟨s', a, b⟩ := ih x hx
      exact ⟨s', List.mem_cons_of_mem _ a, b⟩
/-! ### what a machine looks like -/
def mFlds (many : Int) (sA kA wA bA dA : Addr) : List (Str × V) :=
  putF "_known" (.ref dA) (putF "by_state" (.ref bA) (putF "words" (.ref wA) (putF "kinds" (.ref kA) (putF "steps" (.ref sA) (putF "many" (.int many) [])))))
/-- the texts of a kind's or word's list: ascending, those that are not empty of the steps -/
def Texts (f : Stp → Str) (sts : List Stp) (ks : List Str) : Prop := Up (ks.map .inr) ∧ ∀ k, k ∈ ks ↔ k ≠ Str.ofString "" ∧ ∃ s ∈ sts, f s = k
structure MBody (H : Hp) (sA kA wA bA dA : Addr) (many : Int) (sts : List Stp) : Prop where
  stp : ∃ vs, H sA = some (.tup vs) ∧ Row H vs sts
  kin : ∃ ks : List Str, H kA = some (.lst (ks.map V.str)) ∧ Texts Stp.k sts ks
  wor : ∃ ks : List Str, H wA = some (.lst (ks.map V.str)) ∧ Texts Stp.s sts ks
  byS : ∃ rows : List Addr, H bA = some (.lst (rows.map V.ref)) ∧ (rows.length : Int) = many ∧ ∀ (j : Nat) r, rows[j]? = some r → ∃ ws, H r = some (.lst ws) ∧ Row H ws (sts.filter fun s => decide (s.a = j))
  kno : ∃ kvs : List (List Key × V), H dA = some (.dT kvs) ∧ ∀ k, (valV kvs k).isSome = true ↔ k ∈ sts.map stpK
def MachAt (C : Addr) (H : Hp) (p : Addr) (many : Int) (sts : List Stp) : Prop := ∃ dx sA kA wA bA dA, H p = some (.ins C dx (mFlds many sA kA wA bA dA)) ∧ MBody H sA kA wA bA dA many sts
theorem MBody.same {H H' : Hp} {sA kA wA bA dA : Addr} {many : Int} {sts : List Stp} (e : Same H H') (m : MBody H sA kA wA bA dA many sts) : MBody H' sA kA wA bA dA many sts := by
  obtain ⟨⟨vs, h1, h2⟩, ⟨ks, h3, h4⟩, ⟨ws, h5, h6⟩, ⟨rows, h7, h8, h9⟩, ⟨kvs, h10, h11⟩⟩ := m
  exact ⟨⟨vs, e _ _ h1, h2.same e⟩, ⟨ks, e _ _ h3, h4⟩, ⟨ws, e _ _ h5, h6⟩, ⟨rows, e _ _ h7, h8, fun j r hr => let ⟨ws, a, b⟩ := h9 j r hr; ⟨ws, e _ _ a, b.same e⟩⟩, ⟨kvs, e _ _ h10, h11⟩⟩
theorem MachAt.same {C : Addr} {H H' : Hp} {p : Addr} {many : Int} {sts : List Stp} (e : Same H H') (m : MachAt C H p many sts) : MachAt C H' p many sts := by
  obtain ⟨dx, sA, kA, wA, bA, dA, h, b⟩ := m
  exact ⟨dx, sA, kA, wA, bA, dA, e _ _ h, b.same e⟩
/-! ### the promise -/
def headOk (mv : V) (ts : String) : Bool := (match mv with | .int i => decide (1 ≤ i) && decide (i ≤ 3000) | _ => false) && (decide (ts = "list") || decide (ts = "tuple"))
def badAt (CB : Addr) (H : Hp) (E : XK) (v : V) : Prop := ∀ (d : Addr) (H' : Hp), Same H H' → H' d = none → E (.ref CB) (some d) (upd H' d (.xd [(("place" : Str), v)]))
def spMInit (K : PySem.W.Frag) (C CB : Addr) : Sp := fun vs H Q E => ∃ (p dx : Addr) (mv sv : V), vs = [.ref p, mv, sv] ∧ H p = some (.ins C dx []) ∧
  ((∃ tm ts, Pl K H mv tm ∧ Pl K H sv ts ∧ headOk mv ts = false ∧ badAt CB H E .non) ∨
   ∃ (many : Int) (a : Addr) (xs : List V), mv = .int many ∧ 1 ≤ many ∧ many ≤ 3000 ∧ sv = .ref a ∧ (H a = some (.lst xs) ∨ H a = some (.tup xs)) ∧ xs.length < 64 ∧
     ((∃ i : Nat, i < xs.length ∧ (∀ x ∈ xs, Look K H x) ∧ (∀ j x, j < i → xs[j]? = some x → stepB H many x = true) ∧ (∀ x, xs[i]? = some x → stepB H many x = false) ∧ badAt CB H E (.int i)) ∨
      ∃ sts, Row H xs sts ∧ (∀ s ∈ sts, OkS many s) ∧ ∀ H' sts', Rise (sts'.map stpK) → (∀ s, s ∈ sts' ↔ s ∈ sts) → MachAt C H' p many sts' → (∀ b o, H b = some o → b ≠ p → H' b = some o) → Q .non H'))
theorem headOk_int (i : Int) (ts : String) : headOk (.int i) ts = ((decide (1 ≤ i) && decide (i ≤ 3000)) && (decide (ts = "list") || decide (ts = "tuple"))) := rfl
theorem Pl.kit2 {K : PySem.W.Frag} {H : Hp} {v : V} {T : String} (h : Pl K H v T) : PySem.W.kitAny K (.type T) [.type "list", .type "tuple"] = some (decide (T = "list") || decide (T = "tuple")) := by
  refine kitAny_cons (b := decide (T = "list")) (h.kit "list" (.inr (.inr rfl))) (fun e => ?_) (fun e => by rw [e]; rfl)
  rw [e, Bool.false_or]
  refine kitAny_cons (b := decide (T = "tuple")) (h.kit "tuple" (.inr (.inl rfl))) (fun e2 => ?_) (fun e2 => e2)
  rw [e2]; rfl
theorem head_reads {K : PySem.W.Frag} {σ : L2.St} {H : Hp} {mv sv : V} {tm ts : String} {R : Bool → Hp → Prop} (h1 : σ[1]? = some (some mv)) (h2 : σ[2]? = some (some sv)) (plm : Pl K H mv tm) (pls : Pl K H sv ts) (k : ∀ H', Same H H' → R (!headOk mv ts) H') :
    (tOr (tNot (tB (tCall (spNum K) [] E0 (tCons (tVar 1) tNil)))) (tOr (tNot (tTest (tChain (rI0 fun i j => V.bl (decide (i ≤ j))) (rI0 fun i j => V.bl (decide (i ≤ j))) (tC (V.int 1)) (tVar 1) (tC (V.int 3000)))))
      (tNot (tB (tCB (rIsiT K) (tCons (tVar 2) (tCons (tTup (tCons (tC (V.ty "list")) (tCons (tC (V.ty "tuple")) tNil))) tNil))))))) σ H R := by
  refine ⟨_, h1, mv, tm, rfl, plm, _, rfl, ?_⟩
  have bad : headOk mv ts = false → R true H := fun e => by
    have z := k H (Same.refl H)
    rwa [e] at z
  cases cn : numB mv with
  | false =>
    refine iteT (bad ?_)
    cases mv with
    | int i =>
      have z : decide (0 ≤ i) = false := cn
      have z2 : ¬ (1 : Int) ≤ i := by have := of_decide_eq_false z; omega
      rw [headOk_int, decide_eq_false z2]; rfl
    | _ => rfl
  | true =>
    obtain ⟨i, rfl⟩ : ∃ i, mv = .int i := by
      cases mv with
      | int i => exact ⟨i, rfl⟩
      | _ => exact absurd cn Bool.false_ne_true
    refine iteF ⟨_, h1, _, _, rfl, rfl, _, rfl, ?_⟩
    rcases Decidable.em ((1 : Int) ≤ i) with c | c
    · rw [decide_eq_true c]
      refine iteT ⟨_, _, rfl, rfl, _, rfl, ?_⟩
      rcases Decidable.em (i ≤ 3000) with d | d
      · rw [decide_eq_true d]
        refine iteF ⟨_, h2, by show 2 ≤ sizeLine; decide, fun t ht => ⟨sv, t, _, _, _, _, rfl, upd_same, .cons (.ty _) (.cons (.ty _) .nil), (pls.same (same_new ht)).tyX, pls.kit2, _, rfl, ?_⟩⟩
        have z := k _ (same_new (o := .tup [V.ty "list", V.ty "tuple"]) ht)
        rw [headOk_int, decide_eq_true c, decide_eq_true d, Bool.true_and, Bool.true_and] at z
        exact z
      · rw [decide_eq_false d]
        refine iteT (bad ?_)
        rw [headOk_int, decide_eq_false d, Bool.and_false]; rfl
    · rw [decide_eq_false c]
      refine iteF ⟨_, rfl, iteT (bad ?_)⟩
      rw [headOk_int, decide_eq_false c]; rfl
theorem walk_enumT {K : PySem.W.Frag} {a : Addr} {xs : List V} : Walk (MX.IteT K a) xs.length (fun H => SqT K H a xs) (YPair (fun i => some (.int (i : Nat))) (fun i => xs[i]?)) := by
  refine ⟨fun i _ hi q => ⟨xs, xs[i], q, by simp [hi]⟩, fun _ q => ⟨xs, q, Nat.le_refl _⟩, fun i H v H' _ q ⟨T, x, h1, h2, h3, h4⟩ => ⟨T, .int (i : Nat), x, h1, h2, h3, rfl, h4 xs q⟩⟩
def loopR (J : It) (g : TG) (tb : TS) (D : Ends) (σ : L2.St) (H : Hp) : Prop := ∃ W : Nat → Nat → L2.St → Hp → Prop, (∃ m, W 0 m σ H) ∧ ∀ i m σ H, W i m σ H →
  (J.stop i H ∧ D.nx σ H) ∨ (J.go i H ∧ ∃ N : L2.St → Hp → Prop, (∀ σ' H', N σ' H' → ∃ m', m' < m ∧ W (i + 1) m' σ' H') ∧ ∀ x H', J.yld i H x H' → g x σ H' fun σ2 H2 => tb { D with nx := N, ct := N, bk := D.nx } σ2 H2)
def checkBody (K : PySem.W.Frag) (CB : Addr) (E : XK) : TS := tIfS (tNot (tB (tCall (spIsStep K) [] E0 (tCons (tVar 1) (tCons (tVar 4) tNil))))) (fun _ σ H => tMkPl CB (tCons (tVar 3) tNil) σ H fun cls d H' => E cls d H') tNext
theorem log_small {n : Nat} (h : n < 64) : ((n : Int)).natAbs.log2 < 1920 := by
  rw [Int.natAbs_natCast]
  exact Nat.lt_of_le_of_lt (Nat.log2_le_self n) (by omega)
theorem check_loop {K : PySem.W.Frag} {CB p : Addr} {sv : V} {E : XK} {D : Ends} {J : It} {G : Hp → Prop} {xs : List V} {H H0 : Hp} {many : Int} {n : Nat} (w : Walk J xs.length G (YPair (fun i => some (.int (i : Nat))) (fun i => xs[i]?))) (hG : ∀ H', Same H H' → G H') (e0 : Same H H0)
    (all : ∀ x ∈ xs, Look K H x) (gd : ∀ j x, j < n → xs[j]? = some x → stepB H many x = true) (hn : n ≤ xs.length) (few : xs.length < 64)
    (bad : n < xs.length → (∀ x, xs[n]? = some x → stepB H many x = false) ∧ badAt CB H E (.int n))
    (fin : n = xs.length → ∀ H' v3 v4, Same H H' → D.nx [some (.ref p), some (.int many), some sv, v3, v4, none] H') :
    loopR J (gTup K 2 (gCons (gName 3) (gCons (gName 4) gNil))) (checkBody K CB E) D [some (.ref p), some (.int many), some sv, none, none, none] H0 := by
  refine for_it w (fun i σ H' => ∃ v3 v4, σ = [some (.ref p), some (.int many), some sv, v3, v4, none] ∧ Same H H' ∧ i ≤ n) ⟨none, none, rfl, e0, Nat.zero_le _⟩ (fun i σ H' _ ⟨_, _, _, e, _⟩ => hG H' e) ?_ ?_
  · rintro i x σ H1 H1' hi ⟨v3, v4, rfl, e1, le⟩ ⟨T, y, z, rfl, hT, rfl, hy, hz⟩
    cases hy
    have e2 : Same H (upd H1 T (.tup [.int (i : Nat), z])) := e1.trans (same_new hT)
    have lk := all z (List.mem_of_getElem? hz)
    refine ⟨T, _, rfl, SqT.of upd_same, rfl, _, _, rfl, _, _, rfl, rfl, _, rfl, _, rfl, many, z, rfl, lk.same e2, _, rfl, ?_⟩
    rw [lk.stepB_same e2]
    rcases Nat.lt_or_ge i n with c | c
    · rw [gd i z c hz]
      exact iteF ⟨_, _, rfl, e2, c⟩
    · obtain rfl : i = n := Nat.le_antisymm le c
      obtain ⟨b1, b2⟩ := bad hi
      rw [b1 z hz]
      exact iteT ⟨_, rfl, _, rfl, .inr ⟨_, rfl, log_small (Nat.lt_trans hi few)⟩, fun d hd => b2 d _ e2 hd⟩
  · rintro σ H' ⟨v3, v4, rfl, e1, le⟩
    exact fin (by omega) H' v3 v4 e1

/-! ### the attributes' values -/
theorem Row.pairs {H : Hp} {xs : List V} {sts : List Stp} (h : Row H xs sts) : ∃ ks : List (Addr × List Key), xs = ks.map (fun p => V.ref p.1) ∧ ks.map (·.2) = sts.map stpK ∧ ∀ p ∈ ks, H p.1 = some (.tup (p.2.map kV)) := by
  unfold Row at h
  induction h with
  | nil => exact ⟨[], rfl, rfl, fun p hp => nomatch hp⟩
  | @cons y s ys ss h t ih =>
    obtain ⟨p, rfl, hp⟩ := h
    obtain ⟨ks, rfl, e, hk⟩ := ih
    refine ⟨(p, stpK s) :: ks, rfl, by rw [List.map_cons, List.map_cons, e], fun q hq => ?_⟩
    rcases List.mem_cons.mp hq with rfl | hq
    · exact hp
    · exact hk q hq
theorem Row.of_pairs {H : Hp} : ∀ {ks : List (Addr × List Key)} {sts : List Stp}, ks.map (·.2) = sts.map stpK → (∀ p ∈ ks, H p.1 = some (.tup (p.2.map kV))) → Row H (ks.map fun p => V.ref p.1) sts
  | [], [], _, _ => .nil
  | [], _ :: _, e, _ => by cases e
  | _ :: _, [], e, _ => by cases e
  | p :: ks, s :: sts, e, hk => by
    rw [List.map_cons, List.map_cons] at e
    obtain ⟨e1, e2⟩ := List.cons.inj e
    refine .cons ⟨p.1, rfl, ?_⟩ (Row.of_pairs e2 fun q hq => hk q (List.mem_cons_of_mem _ hq))
    rw [hk p (List.mem_cons_self ..), e1, stpK_V]
theorem keys_steps {sts : List Stp} : ∀ {l : List (List Key)}, (∀ k ∈ l, k ∈ sts.map stpK) → ∃ sts' : List Stp, l = sts'.map stpK
  | [], _ => ⟨[], rfl⟩
  | k :: l, h => by
    obtain ⟨s, _, e⟩ := List.mem_map.mp (h k (List.mem_cons_self ..))
    obtain ⟨ss, e2⟩ := keys_steps fun q hq => h q (List.mem_cons_of_mem _ hq)
    exact ⟨s :: ss, by rw [List.map_cons, e, ← e2]⟩
theorem short_of : ∀ {l m : List Stp}, l.Nodup → (∀ s ∈ l, s ∈ m) → l.length ≤ m.length
  | [], m, _, _ => Nat.zero_le _
  | s :: l, m, n, h => by
    obtain ⟨n1, n2⟩ := List.nodup_cons.mp n
    have hm := h s (List.mem_cons_self ..)
    have ih := short_of (l := l) (m := m.erase s) n2 fun t ht => (List.mem_erase_of_ne (fun e => n1 (by rw [← e]; exact ht))).mpr (h t (List.mem_cons_of_mem _ ht))
    rw [List.length_erase_of_mem hm] at ih
    have := List.length_pos_of_mem hm
    rw [List.length_cons]; omega
theorem rise_nodup {l : List Stp} (h : Rise (l.map stpK)) : l.Nodup := by
  have z : (l.map stpK).Nodup := h.imp fun {a b} hab e => by
    rw [e, MX.klt_irrefl] at hab
    cases hab
  exact List.Pairwise.of_map stpK (fun a b hn e => hn (congrArg stpK e)) z
/-- tuple(sorted(set(steps))) -/
theorem steps_value {K : PySem.W.Frag} {P : Program} {w : World} {σ : L2.St} {H : Hp} {R : VK} {a : Addr} {xs : List V} {sts : List Stp} (h2 : σ[2]? = some (some (.ref a))) (hs : H a = some (.lst xs) ∨ H a = some (.tup xs)) (few : xs.length < 64) (row : Row H xs sts)
    (k : ∀ (H' : Hp) (t : Addr) (vs : List V) (sts' : List Stp), Same H H' → H t = none → H' t = some (.tup vs) → Row H' vs sts' → Rise (sts'.map stpK) → (∀ s, s ∈ sts' ↔ s ∈ sts) → sts'.length < 64 → R (.ref t) H') :
    tCB (fun xs H1 Q => ∃ (p : Addr) (ys : List V), xs = [V.ref p] ∧ ((SqL K H1 p ys ∧ ∀ l : Addr, H1 l = none → Q (V.ref l) (upd H1 l (.tup ys))) ∨ SqT K H1 p ys ∧ Q (V.ref p) H1))
      (tCons (tCB (MX.rSortedM K P w) (tCons (tCB (MX.rSetM K P w) (tCons (tVar 2) tNil)) tNil)) tNil) σ H R := by
  obtain ⟨ks, rfl, ek, hk⟩ := row.pairs
  refine ⟨_, h2, a, ks, rfl, hs.elim (fun h => .inl (SqL.of h)) (fun h => .inr (SqT.of h)), fun p hp => SqT.of (hk p hp), by simpa using few, fun S L hS inn all => ?_⟩
  have e1 : Same H (upd H S (MX.SetMO P w S L)) := same_new hS
  refine ⟨S, L, [true, false, false, true], rfl, upd_same, fun p hp => SqT.of (e1 _ _ (hk p (inn p hp))), by decide, fun p hp => ?_, fun M q pm rise hq => ?_⟩
  · have z : p.2 ∈ sts.map stpK := by rw [← ek]; exact List.mem_map_of_mem (inn p hp)
    obtain ⟨s, _, e⟩ := List.mem_map.mp z
    rw [← e]; rfl
  have e2 := e1.trans (same_new (o := .lst (M.map fun q => V.ref q.1)) hq)
  refine ⟨q, _, rfl, .inl ⟨SqL.of upd_same, fun t ht => ?_⟩⟩
  have e3 := e2.trans (same_new (o := .tup (M.map fun q => V.ref q.1)) ht)
  have inM : ∀ p ∈ M, p ∈ ks := fun p hp => inn p (pm.subset hp)
  obtain ⟨sts', es⟩ := keys_steps (sts := sts) (l := M.map (·.2)) fun z hz => by
    obtain ⟨p, hp, rfl⟩ := List.mem_map.mp hz
    rw [← ek]; exact List.mem_map_of_mem (inM p hp)
  refine k _ t _ sts' e3 (e2.free ht) upd_same (Row.of_pairs es fun p hp => e3 _ _ (hk p (inM p hp))) (by rw [← es]; exact rise) (fun s => ?_) ?_
  · have m1 : s ∈ sts' ↔ stpK s ∈ M.map (·.2) := by
      rw [es]
      exact ⟨fun h => List.mem_map_of_mem h, fun h => by obtain ⟨z, hz, e⟩ := List.mem_map.mp h; rw [← stpK_inj e]; exact hz⟩
    have m2 : s ∈ sts ↔ stpK s ∈ ks.map (·.2) := by
      rw [ek]
      exact ⟨fun h => List.mem_map_of_mem h, fun h => by obtain ⟨z, hz, e⟩ := List.mem_map.mp h; rw [← stpK_inj e]; exact hz⟩
    rw [m1, m2]
    constructor
    · intro h
      obtain ⟨p, hp, e⟩ := List.mem_map.mp h
      rw [← e]; exact List.mem_map_of_mem (inM p hp)
    · intro h
      obtain ⟨p, hp, e⟩ := List.mem_map.mp h
      obtain ⟨p', hp', e'⟩ := List.mem_map.mp (all p hp)
      rw [← e, ← e']; exact List.mem_map_of_mem (pm.symm.subset hp')
  · refine Nat.lt_of_le_of_lt (Nat.le_trans (short_of (m := sts) (rise_nodup (by rw [← es]; exact rise)) fun s hs => ?_) (Nat.le_of_eq ?_)) few
    · have z : stpK s ∈ M.map (·.2) := by rw [es]; exact List.mem_map_of_mem hs
      obtain ⟨p, hp, e⟩ := List.mem_map.mp z
      have z2 : stpK s ∈ sts.map stpK := by rw [← ek, ← e]; exact List.mem_map_of_mem (inM p hp)
      obtain ⟨y, hy, e'⟩ := List.mem_map.mp z2
      rw [← stpK_inj e']; exact hy
    · have z := congrArg List.length ek
      rw [List.length_map, List.length_map] at z
      rw [List.length_map, z]
theorem str_zero (x : Str) : ((x.length : Int) != 0) = !decide (x = Str.ofString "") := by
  rcases Classical.em (x = Str.ofString "") with h | h
  · rw [decide_eq_true h, h]; rfl
  · rw [decide_eq_false h]
    have : x.length ≠ 0 := fun z => h (by
      obtain ⟨c⟩ := x
      have z2 : c = #[] := Array.eq_empty_of_size_eq_zero z
      subst z2
      rfl)
    simp; omega
theorem take_succ_mem {α : Type} {l : List α} {i : Nat} {x : α} (h : l[i]? = some x) (y : α) : y ∈ l.take (i + 1) ↔ y ∈ l.take i ∨ y = x := by
  rw [List.take_add_one, h, List.mem_append]
  simp
theorem Row.get {H : Hp} {vs : List V} {sts : List Stp} (h : Row H vs sts) : ∀ {i : Nat} {x : V}, vs[i]? = some x → ∃ s, sts[i]? = some s ∧ ∃ p, x = .ref p ∧ H p = some (.tup (stepV s)) := by
  unfold Row at h
  induction h with
  | nil => intro i x hx; simp at hx
  | @cons y s ys ss h t ih =>
    intro i x hx
    cases i with
    | zero => cases hx; exact ⟨s, rfl, h⟩
    | succ i => exact ih hx
theorem Row.length {H : Hp} {vs : List V} {sts : List Stp} (h : Row H vs sts) : vs.length = sts.length := PySem.Paired.length (show PySem.Paired _ _ _ from h)
/-- sorted({step[j] for step in self.steps if step[j]}) -/
theorem texts_value {K : PySem.W.Frag} {P : Program} {w : World} {H : Hp} {R : VK} {C p dx sA : Addr} {fs : List (Str × V)} {vs : List V} {sts : List Stp} {f : Stp → Str} {j : Int} {v1 v2 v3 v4 : Option V} (hf : ∀ s, atI (stepV s) j = some (.str (f s)))
    (hp : H p = some (.ins C dx fs)) (cl : Cls K C) (na : NoAttr K C "steps") (lk : fs.lookup ("steps" : Str) = some (.ref sA)) (hs : H sA = some (.tup vs)) (row : Row H vs sts) (few : sts.length < 64) (lens : ∀ s ∈ sts, (f s).length ≤ sizeLine)
    (k : ∀ (H' : Hp) (q : Addr) (ks : List Str), Same H H' → H q = none → H' q = some (.lst (ks.map V.str)) → Texts f sts ks → R (.ref q) H') :
    tCB (MX.rSortedQ P w) (tCons (MX.tSetQ P w (iTup K (tFld K (tVar 0) "steps")) (gName 4) (tTru K (tOp (rIxT K) (tVar 4) (tC (V.int j)))) (tOp (rIxT K) (tVar 4) (tC (V.int j))) (List.map (fun x => x.2) [(Str.ofString "step", 4)])) tNil)
      [some (.ref p), v1, v2, v3, v4, none] H R := by
  refine ⟨_, rfl, p, C, dx, _, _, rfl, hp, cl, na, lk, sA, rfl, ⟨_, SqT.of hs⟩, fun D hD => MX.setq_tup (K := K) (a := sA) (xs := vs) (fun i H' => ∃ S n, H' D = some (MX.SetQO P w D S n) ∧ n ≤ i ∧ (∀ k : Key, S k = true ↔ ∃ s ∈ sts.take i, f s ≠ Str.ofString "" ∧ k = .inr (f s)) ∧ Same H H')
    ⟨_, _, upd_same, Nat.le_refl _, fun k => ⟨fun z => absurd z Bool.false_ne_true, fun ⟨s, z, _⟩ => absurd z (by simp)⟩, same_new hD⟩ (fun i H' _ ⟨_, _, _, _, _, e⟩ => SqT.of (e _ _ hs)) ?_ ?_⟩
  · rintro i x H1 hx ⟨S, n, hS, le, mem, e1⟩
    obtain ⟨s, hsi, q, rfl, hq⟩ := row.get hx
    have hq1 := e1 _ _ hq
    have hsm := List.mem_of_getElem? hsi
    have lt : i < sts.length := (List.getElem?_eq_some_iff.mp hsi).1
    refine ⟨rfl, _, rfl, q, _, j, _, rfl, rfl, SqT.of hq1, hf s, _, ⟨lens s hsm, rfl⟩, ?_⟩
    rw [str_zero]
    rcases Classical.em (f s = Str.ofString "") with c | c
    · rw [decide_eq_true c]
      refine iteF ⟨S, n, hS, by omega, fun k => ?_, e1⟩
      rw [mem k]
      constructor
      · rintro ⟨t, ht, z⟩
        exact ⟨t, (take_succ_mem hsi t).mpr (.inl ht), z⟩
      · rintro ⟨t, ht, z1, z2⟩
        rcases (take_succ_mem hsi t).mp ht with ht | rfl
        · exact ⟨t, ht, z1, z2⟩
        · exact absurd c z1
    · rw [decide_eq_false c]
      refine iteT ⟨_, rfl, q, _, j, _, rfl, rfl, SqT.of hq1, hf s, .inr (f s), S, n, rfl, hS, Nat.lt_of_lt_of_le (show n + 1 < 4096 by omega) (Nat.le_refl _), _, _, upd_same, ?_, fun k => ?_, fun b o z => ?_⟩
      · split <;> omega
      · rw [Bool.or_eq_true, mem k]
        constructor
        · rintro (⟨t, ht, z⟩ | z)
          · exact ⟨t, (take_succ_mem hsi t).mpr (.inl ht), z⟩
          · exact ⟨s, (take_succ_mem hsi s).mpr (.inr rfl), c, of_decide_eq_true z⟩
        · rintro ⟨t, ht, z1, z2⟩
          rcases (take_succ_mem hsi t).mp ht with ht | rfl
          · exact .inl ⟨t, ht, z1, z2⟩
          · exact .inr (decide_eq_true z2)
      · rw [upd_ne (ne_of_none z hD)]
        exact e1 _ _ z
  · rintro H1 ⟨S, n, hS, le, mem, e1⟩
    have el : vs.length = sts.length := row.length
    rw [el, List.take_length] at mem
    refine ⟨D, S, n, false, rfl, hS, fun k hk => ?_, fun M q up hM hMl hq => ?_⟩
    · obtain ⟨s, _, _, e⟩ := (mem k).mp hk
      rw [e]; rfl
    · have tx : ∃ ks : List Str, M = ks.map .inr := by
        clear up
        have each : ∀ k ∈ M, ∃ t, k = .inr t := fun k hk => by
          obtain ⟨s, _, _, e⟩ := (mem k).mp ((hM k).mp hk)
          exact ⟨_, e⟩
        clear hM hMl
        induction M with
        | nil => exact ⟨[], rfl⟩
        | cons a M ih =>
          obtain ⟨t, rfl⟩ := each a (List.mem_cons_self ..)
          obtain ⟨ks, rfl⟩ := ih fun k hk => each k (List.mem_cons_of_mem _ hk)
          exact ⟨t :: ks, rfl⟩
      obtain ⟨ks, rfl⟩ := tx
      refine k _ q ks (e1.trans (same_new hq)) (e1.free hq) (by rw [upd_same, List.map_map]; rfl) ⟨up, fun t => ?_⟩
      have z := (hM (.inr t)).trans (mem (.inr t))
      have z0 : (Sum.inr t : Key) ∈ ks.map Sum.inr ↔ t ∈ ks := by
        constructor
        · intro h
          obtain ⟨y, hy, e⟩ := List.mem_map.mp h
          cases e; exact hy
        · exact fun h => List.mem_map_of_mem h
      rw [← z0, z]
      constructor
      · rintro ⟨s, hs, c, e⟩
        cases e
        exact ⟨c, s, hs, rfl⟩
      · rintro ⟨c, s, hs, rfl⟩
        exact ⟨s, hs, c, rfl⟩
end K1
end
section
/-! The rows by state, the known steps. -/
namespace K1
open PySem L2
open MX (Rise Up)
theorem at_0 (s : Stp) : atI (stepV s) 0 = some (.int s.a) := rfl
theorem at_1 (s : Stp) : atI (stepV s) 1 = some (.str s.k) := rfl
theorem at_2 (s : Stp) : atI (stepV s) 2 = some (.str s.s) := rfl
theorem at_3 (s : Stp) : atI (stepV s) 3 = some (.int s.g) := rfl
/-- [[] for _ in range(many)] -/
theorem rows_value {H : Hp} {R : VK} {p : Addr} {many : Int} {v2 v3 v4 : Option V} (m1 : 1 ≤ many) (m2 : many ≤ 3000)
    (k : ∀ (H' : Hp) (D : Addr) (rows : List Addr), Same H H' → H D = none → H' D = some (.lst (rows.map V.ref)) → (rows.length : Int) = many → rows.Nodup → (∀ r ∈ rows, H' r = some (.lst []) ∧ H r = none ∧ r ≠ D) → R (.ref D) H') :
    tLc (iRng1 (tCons (tVar 1) tNil)) (gName 5) tYes (tLst tNil) (List.map (fun x => x.2) [(Str.ofString "_", 5)]) [some (.ref p), some (.int many), v2, v3, v4, none] H R := by
  refine ⟨_, rfl, many, rfl, by omega, by omega, fun D hD => lc_range (lo := 0) (n := many.toNat) (fun i H' => ∃ rows : List Addr, H' D = some (.lst (rows.map V.ref)) ∧ rows.length = i ∧ rows.Nodup ∧ (∀ r ∈ rows, H' r = some (.lst []) ∧ H r = none ∧ r ≠ D) ∧ Same H H')
    ⟨[], upd_same, rfl, List.nodup_nil, fun r h => absurd h (by simp), same_new hD⟩ ?_ ?_⟩
  · rintro i H1 hi ⟨rows, h1, h2, h3, h4, e1⟩
    refine ⟨rfl, Nat.zero_le _, fun l hl => ⟨rows.map V.ref, ?_, ?_, rows ++ [l], ?_, by rw [List.length_append, h2]; rfl, ?_, fun r hr => ?_, fun b o z => ?_⟩⟩
    · rw [upd_ne (ne_of_none h1 hl)]; exact h1
    · rw [List.length_map, h2, sizeLine_eq]; omega
    · rw [upd_same, List.map_append]; rfl
    · refine List.nodup_append.mpr ⟨h3, by simp, fun r hr s hs e => ?_⟩
      rw [List.mem_singleton.mp hs] at e
      rw [e] at hr
      rw [(h4 l hr).1] at hl
      cases hl
    · rcases List.mem_append.mp hr with hr | hr
      · obtain ⟨a, b, c⟩ := h4 r hr
        refine ⟨?_, b, c⟩
        rw [upd_ne c, upd_ne (ne_of_none a hl)]; exact a
      · rw [List.mem_singleton.mp hr]
        have nlD : l ≠ D := fun z => by rw [z, h1] at hl; cases hl
        exact ⟨by rw [upd_ne nlD, upd_same], e1.free hl, nlD⟩
    · rw [upd_ne (ne_of_none z hD), upd_ne (ne_of_none (e1 _ _ z) hl)]
      exact e1 _ _ z
  · rintro H1 ⟨rows, h1, h2, h3, h4, e1⟩
    exact k H1 D rows e1 hD h1 (by rw [h2]; omega) h3 h4
/-- {step: True for step in self.steps} -/
theorem known_value {K : PySem.W.Frag} {H : Hp} {R : VK} {C p dx sA : Addr} {fs : List (Str × V)} {vs : List V} {sts : List Stp} {v1 v2 v3 v4 : Option V}
    (hp : H p = some (.ins C dx fs)) (cl : Cls K C) (na : NoAttr K C "steps") (lk : fs.lookup ("steps" : Str) = some (.ref sA)) (hs : H sA = some (.tup vs)) (row : Row H vs sts) (few : sts.length < 64)
    (k : ∀ (H' : Hp) (D : Addr) (kvs : List (List Key × V)), Same H H' → H D = none → H' D = some (.dT kvs) → (∀ k, (valV kvs k).isSome = true ↔ k ∈ sts.map stpK) → R (.ref D) H') :
    MX.tDcT (iTup K (tFld K (tVar 0) "steps")) (gName 4) tYes (tVar 4) (tC (V.bl true)) (List.map (fun x => x.2) [(Str.ofString "step", 4)]) [some (.ref p), v1, v2, v3, v4, none] H R := by
  refine ⟨_, rfl, p, C, dx, _, _, rfl, hp, cl, na, lk, sA, rfl, ⟨_, SqT.of hs⟩, fun D hD => MX.dct_tup (K := K) (a := sA) (xs := vs) (fun i H' => ∃ kvs : List (List Key × V), H' D = some (.dT kvs) ∧ kvs.length ≤ i ∧ (∀ k, (valV kvs k).isSome = true ↔ k ∈ (sts.take i).map stpK) ∧ Same H H')
    ⟨[], upd_same, Nat.le_refl _, fun k => ⟨fun z => absurd z Bool.false_ne_true, fun z => absurd z (by simp)⟩, same_new hD⟩ (fun i H' _ ⟨_, _, _, _, e⟩ => SqT.of (e _ _ hs)) ?_ ?_⟩
  · rintro i x H1 hx ⟨kvs, h1, h2, h3, e1⟩
    obtain ⟨s, hsi, q, rfl, hq⟩ := row.get hx
    have lt : i < sts.length := (List.getElem?_eq_some_iff.mp hsi).1
    refine ⟨rfl, _, rfl, kvs, stpK s, q, rfl, e1 _ _ hq, h1, by rw [sizeLine_eq]; omega, _, upd_same, ?_, fun k => ?_, fun b o z => ?_⟩
    · have := length_putK kvs (stpK s) (V.bl true); omega
    · rw [valV_put]
      rw [List.mem_map]
      rcases Classical.em (k = stpK s) with c | c
      · rw [if_pos c]
        exact ⟨fun _ => ⟨s, (take_succ_mem hsi s).mpr (.inr rfl), c.symm⟩, fun _ => rfl⟩
      · rw [if_neg c, h3 k, List.mem_map]
        constructor
        · rintro ⟨t, ht, e⟩
          exact ⟨t, (take_succ_mem hsi t).mpr (.inl ht), e⟩
        · rintro ⟨t, ht, e⟩
          rcases (take_succ_mem hsi t).mp ht with ht | rfl
          · exact ⟨t, ht, e⟩
          · exact absurd e.symm c
    · rw [upd_ne (ne_of_none z hD)]
      exact e1 _ _ z
  · rintro H1 ⟨kvs, h1, h2, h3, e1⟩
    rw [row.length, List.take_length] at h3
    exact k H1 D kvs e1 hD h1 h3
theorem ref_at {rows : List Addr} {i : Int} (h0 : 0 ≤ i) (h : i < rows.length) : ∃ r, rows[i.toNat]? = some r ∧ atI (rows.map V.ref) i = some (.ref r) := by
  have e : i = (i.toNat : Int) := by omega
  have hlt : i.toNat < rows.length := by omega
  refine ⟨rows[i.toNat], List.getElem?_eq_getElem hlt, ?_⟩
  have z : atI (rows.map V.ref) ((i.toNat : Nat) : Int) = some (.ref rows[i.toNat]) := atI_nat (by rw [List.getElem?_map, List.getElem?_eq_getElem hlt]; rfl)
  rwa [← e] at z
theorem filter_take {sts : List Stp} {i : Nat} {s : Stp} (h : sts[i]? = some s) (f : Stp → Bool) : (sts.take (i + 1)).filter f = (sts.take i).filter f ++ (if f s = true then [s] else []) := by
  rw [List.take_add_one, h, List.filter_append]
  congr 1
  cases e : f s with
  | true => simp [e]
  | false => simp [e]
/-- for step in self.steps: self.by_state[step[0]].append(step) -/
theorem fill_rows {K : PySem.W.Frag} {H : Hp} {D : Ends} {C p dx sA bA : Addr} {fs : List (Str × V)} {vs : List V} {sts : List Stp} {rows : List Addr} {many : Int} {v1 v2 v3 v4 : Option V}
    (hp : H p = some (.ins C dx fs)) (cl : Cls K C) (na : NoAttr K C "steps") (nb : NoAttr K C "by_state") (lk : fs.lookup ("steps" : Str) = some (.ref sA)) (lb : fs.lookup ("by_state" : Str) = some (.ref bA))
    (hs : H sA = some (.tup vs)) (row : Row H vs sts) (oks : ∀ s ∈ sts, OkS many s) (few : sts.length < 64) (hb : H bA = some (.lst (rows.map V.ref))) (len : (rows.length : Int) = many) (nd : rows.Nodup) (new : ∀ r ∈ rows, H r = some (.lst []) ∧ r ≠ bA)
    (k : ∀ (H' : Hp) (v : Option V), (∀ b o, H b = some o → b ∉ rows → H' b = some o) → (∀ (j : Nat) r, rows[j]? = some r → ∃ ws, H' r = some (.lst ws) ∧ Row H' ws (sts.filter fun s => decide (s.a = j))) → (∀ b, H b = none → H' b = none) → D.nx [some (.ref p), v1, v2, v3, v, none] H') :
    tFor (iTup K (tFld K (tVar 0) "steps")) (gName 4) (tDrop (tBM K "list" rAppend (tOp (rIxL K) (tFld K (tVar 0) "by_state") (tOp (rIxT K) (tVar 4) (tC (V.int 0)))) (tCons (tVar 4) tNil))) D [some (.ref p), v1, v2, v3, v4, none] H := by
  have npr : p ∉ rows := fun z => by have q := (new p z).1; rw [hp] at q; cases q
  have nsr : sA ∉ rows := fun z => by have q := (new sA z).1; rw [hs] at q; cases q
  have nbr : bA ∉ rows := fun z => (new bA z).2 rfl
  refine ⟨_, rfl, p, C, dx, _, _, rfl, hp, cl, na, lk, sA, rfl, ⟨_, SqT.of hs⟩, for_tup (K := K) (a := sA) (xs := vs) (fun i σ H' => ∃ v, σ = [some (.ref p), v1, v2, v3, v, none] ∧ (∀ b o, H b = some o → b ∉ rows → H' b = some o) ∧
    (∀ (j : Nat) r, rows[j]? = some r → ∃ ws, H' r = some (.lst ws) ∧ ws.length ≤ i ∧ Row H' ws ((sts.take i).filter fun s => decide (s.a = j))) ∧ ∀ b, H b = none → H' b = none)
    ⟨_, rfl, fun b o z _ => z, fun j r hr => ⟨[], (new r (List.mem_of_getElem? hr)).1, Nat.le_refl _, .nil⟩, fun b z => z⟩ (fun i σ H' _ ⟨_, _, e, _⟩ => SqT.of (e _ _ hs nsr)) ?_ ?_⟩
  · rintro i x σ H1 hx ⟨v, rfl, e1, rw1, fr⟩
    obtain ⟨s, hsi, q, rfl, hq⟩ := row.get hx
    have lt : i < sts.length := (List.getElem?_eq_some_iff.mp hsi).1
    have ok := oks s (List.mem_of_getElem? hsi)
    have nqr : q ∉ rows := fun z => by have y := (new q z).1; rw [hq] at y; cases y
    have ha : s.a = (s.a.toNat : Int) := by have := ok.1; omega
    have hlt : s.a.toNat < rows.length := by have := ok.2.1; have := ok.1; omega
    obtain ⟨r0, hr0, hit⟩ := ref_at (rows := rows) ok.1 (by have := ok.2.1; omega)
    have hm0 := List.mem_of_getElem? hr0
    obtain ⟨ws, hw, wl, wr⟩ := rw1 s.a.toNat r0 hr0
    refine ⟨_, rfl, p, C, dx, _, _, rfl, e1 _ _ hp npr, cl, nb, lb, _, rfl, q, _, _, _, rfl, rfl, SqT.of (e1 _ _ hq nqr), at_0 s, bA, _, _, _, rfl, rfl, SqL.of (e1 _ _ hb nbr), hit,
      .inl ⟨rfl, _, SqL.of hw⟩, _, rfl, r0, ws, _, rfl, rfl, hw, by rw [sizeLine_eq]; omega, _, rfl, fun b o z nb => ?_, fun j r hr => ?_, fun b z => ?_⟩
    · rw [upd_ne (fun y => nb (by rw [y]; exact hm0))]
      exact e1 _ _ z nb
    · have tk : ∀ a ts, H1 a = some (.tup ts) → upd H1 r0 (.lst (ws ++ [.ref q])) a = some (.tup ts) := fun a ts z => by
        rw [upd_ne (ne_of z hw (by intro y; cases y))]; exact z
      rcases Classical.em (j = s.a.toNat) with c | c
      · subst c
        rw [hr0] at hr
        cases hr
        refine ⟨_, upd_same, by rw [List.length_append]; show ws.length + 1 ≤ i + 1; omega, ?_⟩
        rw [filter_take hsi, if_pos (decide_eq_true ha)]
        exact paired_app (wr.keep tk) (.cons ⟨q, rfl, tk _ _ (e1 _ _ hq nqr)⟩ .nil)
      · obtain ⟨ws2, h2, l2, r2⟩ := rw1 j r hr
        have ner : r ≠ r0 := fun z => c (by
          obtain ⟨hj, ej⟩ := List.getElem?_eq_some_iff.mp hr
          obtain ⟨h0, e0⟩ := List.getElem?_eq_some_iff.mp hr0
          have same := ej.trans (z.trans e0.symm)
          rcases Nat.lt_trichotomy j s.a.toNat with y | y | y
          · exact absurd same (List.pairwise_iff_getElem.mp nd _ _ hj h0 y)
          · exact y
          · exact absurd same.symm (List.pairwise_iff_getElem.mp nd _ _ h0 hj y))
        refine ⟨ws2, by rw [upd_ne ner]; exact h2, Nat.le_succ_of_le l2, ?_⟩
        have na : ¬ s.a = (j : Int) := fun z => c (by omega)
        rw [filter_take hsi, if_neg (by rw [decide_eq_false na]; exact Bool.false_ne_true), List.append_nil]
        exact r2.keep tk
    · have hr := new _ (hm0)
      rw [upd_ne (fun y => by rw [y] at z; rw [z] at hr; cases hr.1)]
      exact fr b z
  · rintro σ H1 ⟨v, rfl, e1, rw1, fr⟩
    refine k H1 v e1 (fun j r hr => ?_) fr
    obtain ⟨ws, a, b, c⟩ := rw1 j r hr
    rw [row.length, List.take_length] at c
    exact ⟨ws, a, c⟩
end K1
end
section
/-! The machine is made. -/
namespace K1
open PySem L2
open MX (Rise Up)
structure TxtI (P : Program) (K : PySem.W.Frag) (mg : Str → Option Value) (C CB fB fN fS : Addr) (tM : Nat) : Prop where
  cl : Cls K C
  n_many : NoAttr K C "many"
  n_steps : NoAttr K C "steps"
  n_kinds : NoAttr K C "kinds"
  n_words : NoAttr K C "words"
  n_by_state : NoAttr K C "by_state"
  n_known : NoAttr K C "_known"
  e_BadMachine : PySem.PlX.Txt P K mg "BadMachine" CB fB
  g_is_number : mg "is_number" = some (.ref fN)
  k_is_number : PySem.W.keepIn K (.ref fN) = true
  g_is_step : mg "is_step" = some (.ref fS)
  k_is_step : PySem.W.keepIn K (.ref fS) = true
  g_MOST_STATES : mg "MOST_STATES" = some (.int 3000 tM)
  isinstance : mg "isinstance" = none
  list : mg "list" = none
  tuple : mg "tuple" = none
  enumerate : mg "enumerate" = none
  sorted : mg "sorted" = none
  set : mg "set" = none
  range : mg "range" = none
/-- all else stands -/
def Off (p : Addr) (H H' : Hp) : Prop := ∀ b o, H b = some o → b ≠ p → H' b = some o
theorem Off.same {p : Addr} {H H' : Hp} (e : Same H H') : Off p H H' := fun b o z _ => e b o z
theorem Off.trans {p : Addr} {H H1 H2 : Hp} (a : Off p H H1) (b : Off p H1 H2) : Off p H H2 := fun c o z n => b c o (a c o z n) n
theorem Off.upd {p : Addr} {H : Hp} {o : HO} : Off p H (upd H p o) := fun b u z n => by rw [upd_ne n]; exact z
theorem Off.row {p C dx : Addr} {fs : List (Str × V)} {H H' : Hp} {xs : List V} {sts : List Stp} (e : Off p H H') (hp : H p = some (.ins C dx fs)) (r : Row H xs sts) : Row H' xs sts := r.keep fun q ts z => e q _ z (ne_of z hp (by intro y; cases y))
section
variable {K : PySem.W.Frag} {ta tv : TE} {f : Str} {t u : TS} {D : Ends} {σ : L2.St} {H : Hp}
theorem into_fld (h : tv σ H fun y H1 => ta σ H1 fun x H2 => ∃ a C dx fs, x = .ref a ∧ H2 a = some (.ins C dx fs) ∧ Cls K C ∧ NoAttr K C f ∧ fs.length < 1000 ∧ u D σ (upd H2 a (.ins C dx (putF f y fs)))) : tSeq (sFld K ta tv f) u D σ H := h
theorem last_fld (h : tv σ H fun y H1 => ta σ H1 fun x H2 => ∃ a C dx fs, x = .ref a ∧ H2 a = some (.ins C dx fs) ∧ Cls K C ∧ NoAttr K C f ∧ fs.length < 1000 ∧ D.nx σ (upd H2 a (.ins C dx (putF f y fs)))) : sFld K ta tv f D σ H := h
theorem into (h : t { D with nx := u D } σ H) : tSeq t u D σ H := h
end
section
variable {P : Program} {w : World} {K : PySem.W.Frag} {mg : Str → Option Value} {base : Heap}
abbrev nMI : List Str := ["self", "many", "steps", "place", "step", "_"]
theorem scMI : FnScope nMI ["self", "many", "steps"] (defScope sMInit) := ⟨rfl, rfl, rfl, by decide +kernel, rfl, by decide +kernel, by decide +kernel⟩
theorem ok_mInit {f C CB fB fN fS : Addr} {tM : Nat} {fd fdN fdS : FuncData} (F : Fun K "__init__" "Machine.__init__" sMInit f fd) (T : TxtI P K mg C CB fB fN fS tM)
    (G_is_number : FnOk P w K mg base CX0 1 fN fdN ["value"] (spNum K)) (b_is_number : Binds K fdN ["value"] []) (G_is_step : FnOk P w K mg base CX0 3 fS fdS ["many", "step"] (spIsStep K)) (b_is_step : Binds K fdS ["many", "step"] []) :
    FnOk P w K mg base (L2.CX P w) 4 f fd ["self", "many", "steps"] (spMInit K C CB) := by
  refine F.okX scMI (fun vs H Q E h => ?_) (fun cdv A outer s H vs Q E hr h => ?_)
  · obtain ⟨p, dx, mv, sv, rfl, _⟩ := h
    rfl
  · obtain ⟨p, dx, mv, sv, rfl, hp, h⟩ := h
    have hu := hr.units
    have nd := scMI.nd
    have hr_is_number : Room 1 _ := hr.mono (by decide)
    have hr_BadMachine : Room 1 _ := hr.mono (by decide)
    have hr_is_step : Room 3 _ := hr
    refine ⟨_, (pss_cons (ps_if (PW.pt (pw_or (pt_not (pt_val (pe_call G_is_number hr_is_number (by rfl) T.g_is_number T.k_is_number b_is_number .nil pass0 (pa_cons (pv 1) pa_nil)))) (pw_or (pt_not (pt_chain op_le op_le pe_int (pv 1) (pe_glob (v := .int 3000) (by rfl) T.g_MOST_STATES ⟨_, rfl⟩))) (pw_or1 (pt_not (pt_val (pe_callB call_isiT (by rfl) T.isinstance (by decide +kernel) (pa_cons (pv 2) (pa_cons (pe_tup (pa_cons (pe_bltn (v := .ty "list") (by rfl) T.list (by decide +kernel) rfl) (pa_cons (pe_bltn (v := .ty "tuple") (by rfl) T.tuple (by decide +kernel) rfl) pa_nil))) pa_nil)))))))))
        (pss_one (ps_raise rfl (takes_of rfl rfl rfl rfl) (pmk_pl T.e_BadMachine hr_BadMachine (pa_cons pe_non pa_nil) (by rfl))))
        pss_nil)
      (pss_cons (ps_for (by first | exact PassesOwn.never | exact passes_of rfl) rfl (MX.pi_enumS (by rfl) T.enumerate (pa_cons (pv 2) pa_nil)) (pg_tup rfl (pgs_cons (pg_name (i := 3) nd rfl (Or.inl rfl)) (pgs_cons (pg_name (i := 4) nd rfl (Or.inl rfl)) pgs_nil)))
        (pss_one (ps_if (pt_not (pt_val (pe_call G_is_step hr_is_step (by rfl) T.g_is_step T.k_is_step b_is_step .nil pass0 (pa_cons (pv 1) (pa_cons (pv 4) pa_nil)))))
          (pss_one (ps_raise rfl (takes_of rfl rfl rfl rfl) (pmk_pl T.e_BadMachine hr_BadMachine (pa_cons (pv 3) pa_nil) (by rfl))))
          pss_nil)))
      (PSs.nox (pss_cons (ps_fld (pv 0) (pv 1) rfl)
      (pss_cons (ps_fld (pv 0) (pe_callTy call_tuple_of (by rfl) T.tuple (by decide +kernel) (pa_cons (pe_callB (MX.cr_sortedM rfl hu) (by rfl) T.sorted (by decide +kernel) (pa_cons (pe_callTy (MX.cr_setM rfl hu) (by rfl) T.set (by decide +kernel) (pa_cons (pv 2) pa_nil)) pa_nil)) pa_nil)) rfl)
      (pss_cons (ps_fld (pv 0) (pe_callB (MX.cr_sortedQ rfl hu) (by rfl) T.sorted (by decide +kernel) (pa_cons (MX.pe_setQ (own := [("step", 4)]) (by rfl) nd (pi_tup (pe_fld (pv 0) rfl)) (blkOk_by (N := nMI) (sc := defScope sMInit) (by decide +kernel)) (fun _ _ _ _ _ => (pg_name (i := 4) nd rfl (Or.inl rfl))) (fun _ _ _ _ _ => pts_one (pt_tru (K := K) rfl (pe_ix (ix_tupK (K := K) rfl) (pv 4) pe_int (fun _ _ => rfl)) (by intro _; rfl))) (fun _ _ _ _ _ => (pe_ix (ix_tupK (K := K) rfl) (pv 4) pe_int (fun _ _ => rfl)))) pa_nil)) rfl)
      (pss_cons (ps_fld (pv 0) (pe_callB (MX.cr_sortedQ rfl hu) (by rfl) T.sorted (by decide +kernel) (pa_cons (MX.pe_setQ (own := [("step", 4)]) (by rfl) nd (pi_tup (pe_fld (pv 0) rfl)) (blkOk_by (N := nMI) (sc := defScope sMInit) (by decide +kernel)) (fun _ _ _ _ _ => (pg_name (i := 4) nd rfl (Or.inl rfl))) (fun _ _ _ _ _ => pts_one (pt_tru (K := K) rfl (pe_ix (ix_tupK (K := K) rfl) (pv 4) pe_int (fun _ _ => rfl)) (by intro _; rfl))) (fun _ _ _ _ _ => (pe_ix (ix_tupK (K := K) rfl) (pv 4) pe_int (fun _ _ => rfl)))) pa_nil)) rfl)
      (pss_cons (ps_fld (pv 0) (pe_lc (own := [("_", 5)]) (by rfl) nd (pi_range1 (by rfl) T.range (pa_cons (pv 1) pa_nil)) (blkOk_by (N := nMI) (sc := defScope sMInit) (by decide +kernel)) (fun _ _ _ _ _ => (pg_name (i := 5) nd rfl (Or.inl rfl))) (fun _ _ _ _ _ => pts_nil) (fun _ _ _ _ _ => (pe_lst pa_nil))) rfl)
      (pss_cons (ps_for (by first | exact PassesOwn.never | exact passes_of rfl) rfl (pi_tup (pe_fld (pv 0) rfl)) (pg_name (i := 4) nd rfl (Or.inl rfl))
        (pss_one (ps_expr (pe_bm PySem.F.plainAttrs_list PySem.F.slot_list_append PySem.F.type_list_append mt_append (pe_ix ix_list (pe_fld (pv 0) rfl) (pe_ix ix_tup (pv 4) pe_int (fun _ _ => rfl)) (fun _ _ => rfl)) (pa_cons (pv 4) pa_nil)))))
      (pss_one (ps_fld (pv 0) (MX.pe_dcT (own := [("step", 4)]) (by rfl) (Nat.lt_of_le_of_lt (Nat.le_add_right _ 64) hu) nd (pi_tup (pe_fld (pv 0) rfl)) (blkOk_by (N := nMI) (sc := defScope sMInit) (by decide +kernel)) (fun _ _ _ _ _ => (pg_name (i := 4) nd rfl (Or.inl rfl))) (fun _ _ _ _ _ => pts_nil) (fun _ _ _ _ _ => (pv 4)) (fun _ _ _ _ _ => pe_bl)) rfl))))))))))), ?_⟩
    rcases h with ⟨tm, ts, plm, pls, bad, kb⟩ | ⟨many, a, xs, rfl, m1, m2, rfl, hs, few, h⟩
    · refine head_reads rfl rfl plm pls fun H' e => ?_
      rw [bad]
      exact iteT ⟨_, rfl, .inl rfl, fun d hd => kb d H' e hd⟩
    · have pls : ∃ ts, Pl K H (.ref a) ts ∧ (ts = "list" ∨ ts = "tuple") := hs.elim (fun h => ⟨_, .lst h, .inl rfl⟩) fun h => ⟨_, .tup h, .inr rfl⟩
      obtain ⟨ts, pls, hts⟩ := pls
      refine head_reads rfl rfl (.int many) pls fun H0 e0 => ?_
      have ok : headOk (.int many) ts = true := by
        rw [headOk_int, decide_eq_true m1, decide_eq_true m2]
        rcases hts with rfl | rfl <;> rfl
      rw [ok]
      refine iteF ?_
      have enter : ∀ n, n ≤ xs.length → (∀ x ∈ xs, Look K H x) → (∀ j x, j < n → xs[j]? = some x → stepB H many x = true) → (n < xs.length → (∀ x, xs[n]? = some x → stepB H many x = false) ∧ badAt CB H E (.int n)) → ∀ D : Ends,
          (n = xs.length → ∀ H' v3 v4, Same H H' → D.nx [some (.ref p), some (.int many), some (.ref a), v3, v4, none] H') →
          tFor (MX.iEnumS K (tCons (tVar 2) tNil)) (gTup K 2 (gCons (gName 3) (gCons (gName 4) gNil))) (checkBody K CB E) D [some (.ref p), some (.int many), some (.ref a), none, none, none] H0 := fun n hn all gd bad D fin => by
        rcases hs with hs | hs
        · exact ⟨_, rfl, a, xs, rfl, .inl ⟨SqL.of (e0 _ _ hs), check_loop walk_enum (fun H' e => SqL.of (e _ _ hs)) e0 all gd hn few bad fin⟩⟩
        · exact ⟨_, rfl, a, xs, rfl, .inr ⟨SqT.of (e0 _ _ hs), check_loop walk_enumT (fun H' e => SqT.of (e _ _ hs)) e0 all gd hn few bad fin⟩⟩
      rcases h with ⟨i, hi, all, gd, bad, kb⟩ | ⟨sts, row, oks, k⟩
      · exact enter i (Nat.le_of_lt hi) all gd (fun _ => ⟨bad, kb⟩) _ fun e => absurd e (Nat.ne_of_lt hi)
      · refine enter xs.length (Nat.le_refl _) (fun x hx => ?_) (fun j x hj hx => ?_) (fun h => absurd h (Nat.lt_irrefl _)) _ fun _ H1 v3 v4 e1 => ?_
        · obtain ⟨s, hs, q, rfl, hq⟩ := row.each x hx
          exact look_step hq (oks s hs)
        · obtain ⟨s, hs, q, rfl, hq⟩ := row.each x (List.mem_of_getElem? hx)
          exact stepB_ok hq (oks s hs)
        · have hp1 := e1 _ _ hp
          have row1 := row.same e1
          refine ⟨_, rfl, _, rfl, p, C, dx, _, rfl, hp1, T.cl, T.n_many, by decide, ?_⟩
          generalize hF1 : putF "many" (V.int many) [] = F1
          have l1 : F1.length ≤ 1 := by rw [← hF1]; exact length_putF _ _ _
          generalize hH2 : upd H1 p (.ins C dx F1) = H2
          have hp2 : H2 p = some (.ins C dx F1) := by rw [← hH2, upd_same]
          have o12 : Off p H1 H2 := by rw [← hH2]; exact .upd
          have ha2 : H2 a = some (.lst xs) ∨ H2 a = some (.tup xs) := hs.imp (fun h => o12 _ _ (e1 _ _ h) (ne_of h hp (by intro y; cases y))) fun h => o12 _ _ (e1 _ _ h) (ne_of h hp (by intro y; cases y))
          refine into_fld (steps_value (σ := [some (.ref p), some (.int many), some (.ref a), v3, v4, none]) rfl ha2 few (o12.row hp1 row1) fun H3 sA vs sts' e3 nA hA rA rise mem few' => ?_)
          have oks' : ∀ s ∈ sts', OkS many s := fun s h => oks s ((mem s).mp h)
          have hp3 := e3 _ _ hp2
          have npA : sA ≠ p := ne_of hA hp3 (by intro y; cases y)
          refine ⟨_, rfl, p, C, dx, _, rfl, hp3, T.cl, T.n_steps, by omega, ?_⟩
          generalize hF2 : putF "steps" (V.ref sA) F1 = F2
          have l2 : F2.length ≤ 2 := by rw [← hF2]; exact Nat.le_trans (length_putF _ _ _) (by omega)
          have k2 : F2.lookup ("steps" : Str) = some (.ref sA) := by rw [← hF2, lookup_putF, if_pos rfl]
          generalize hH4 : upd H3 p (.ins C dx F2) = H4
          have hp4 : H4 p = some (.ins C dx F2) := by rw [← hH4, upd_same]
          have o34 : Off p H3 H4 := by rw [← hH4]; exact .upd
          have hA4 := o34 _ _ hA npA
          have rA4 := o34.row hp3 rA
          -- kinds
          refine into_fld (texts_value (f := Stp.k) at_1 hp4 T.cl T.n_steps k2 hA4 rA4 few' (fun s h => wordE_len (oks' s h).2.2.2.2.1) fun H5 kA ks e5 nK hK tK => ?_)
          have hp5 := e5 _ _ hp4
          have npK : kA ≠ p := ne_of hK hp5 (by intro y; cases y)
          refine ⟨_, rfl, p, C, dx, _, rfl, hp5, T.cl, T.n_kinds, by omega, ?_⟩
          generalize hF3 : putF "kinds" (V.ref kA) F2 = F3
          have l3 : F3.length ≤ 3 := by rw [← hF3]; exact Nat.le_trans (length_putF _ _ _) (by omega)
          have k3 : F3.lookup ("steps" : Str) = some (.ref sA) := by rw [← hF3, lookup_putF, if_neg (by decide +kernel)]; exact k2
          generalize hH6 : upd H5 p (.ins C dx F3) = H6
          have hp6 : H6 p = some (.ins C dx F3) := by rw [← hH6, upd_same]
          have o56 : Off p H5 H6 := by rw [← hH6]; exact .upd
          have hA6 := o56 _ _ (e5 _ _ hA4) npA
          have rA6 := o56.row hp5 (rA4.same e5)
          -- words
          refine into_fld (texts_value (f := Stp.s) at_2 hp6 T.cl T.n_steps k3 hA6 rA6 few' (fun s h => wordE_len (oks' s h).2.2.2.2.2) fun H7 wA ws e7 nW hW tW => ?_)
          have hp7 := e7 _ _ hp6
          have npW : wA ≠ p := ne_of hW hp7 (by intro y; cases y)
          refine ⟨_, rfl, p, C, dx, _, rfl, hp7, T.cl, T.n_words, by omega, ?_⟩
          generalize hF4 : putF "words" (V.ref wA) F3 = F4
          have l4 : F4.length ≤ 4 := by rw [← hF4]; exact Nat.le_trans (length_putF _ _ _) (by omega)
          have k4 : F4.lookup ("steps" : Str) = some (.ref sA) := by rw [← hF4, lookup_putF, if_neg (by decide +kernel)]; exact k3
          generalize hH8 : upd H7 p (.ins C dx F4) = H8
          have hp8 : H8 p = some (.ins C dx F4) := by rw [← hH8, upd_same]
          have o78 : Off p H7 H8 := by rw [← hH8]; exact .upd
          have hA8 := o78 _ _ (e7 _ _ hA6) npA
          have rA8 := o78.row hp7 (rA6.same e7)
          -- by_state
          refine into_fld (rows_value m1 m2 fun H9 bA rows e9 nB hB len ndr newr => ?_)
          have hp9 := e9 _ _ hp8
          have npB : bA ≠ p := ne_of hB hp9 (by intro y; cases y)
          refine ⟨_, rfl, p, C, dx, _, rfl, hp9, T.cl, T.n_by_state, by omega, ?_⟩
          generalize hF5 : putF "by_state" (V.ref bA) F4 = F5
          have l5 : F5.length ≤ 5 := by rw [← hF5]; exact Nat.le_trans (length_putF _ _ _) (by omega)
          have k5 : F5.lookup ("steps" : Str) = some (.ref sA) := by rw [← hF5, lookup_putF, if_neg (by decide +kernel)]; exact k4
          have b5 : F5.lookup ("by_state" : Str) = some (.ref bA) := by rw [← hF5, lookup_putF, if_pos rfl]
          generalize hH10 : upd H9 p (.ins C dx F5) = H10
          have hp10 : H10 p = some (.ins C dx F5) := by rw [← hH10, upd_same]
          have o910 : Off p H9 H10 := by rw [← hH10]; exact .upd
          have hA10 := o910 _ _ (e9 _ _ hA8) npA
          have rA10 := o910.row hp9 (rA8.same e9)
          have hB10 := o910 _ _ hB npB
          have npR : ∀ r ∈ rows, r ≠ p := fun r hr => ne_of (newr r hr).1 hp9 (by intro y; cases y)
          refine into (fill_rows hp10 T.cl T.n_steps T.n_by_state k5 b5 hA10 rA10 oks' few' hB10 len ndr (fun r hr => ⟨o910 _ _ (newr r hr).1 (npR r hr), (newr r hr).2.2⟩) fun H11 v4' o11 rw11 fr11 => ?_)
          have nr : ∀ {b o}, H8 b = some o → b ∉ rows := fun {b o} z hr => by have y := (newr b hr).2.1; rw [z] at y; cases y
          have hp11 := o11 _ _ hp10 (nr hp8)
          have hA11 := o11 _ _ hA10 (nr hA8)
          have rA11 : Row H11 vs sts' := rA8.keep fun q ts z => o11 _ _ (o910 _ _ (e9 _ _ z) (ne_of z hp8 (by intro y; cases y))) (nr z)
          have hB11 := o11 _ _ hB10 (fun hr => (newr bA hr).2.2 rfl)
          -- _known
          refine last_fld (known_value hp11 T.cl T.n_steps k5 hA11 rA11 few' fun H12 dA kvs e12 nD hD kn => ?_)
          have hp12 := e12 _ _ hp11
          have npD : dA ≠ p := ne_of hD hp12 (by intro y; cases y)
          refine ⟨_, rfl, p, C, dx, _, rfl, hp12, T.cl, T.n_known, by omega, ?_⟩
          have o8 : Off p H8 (upd H12 p (.ins C dx (putF "_known" (.ref dA) F5))) := fun b o z n => by
            rw [upd_ne n]
            exact e12 _ _ (o11 _ _ (o910 _ _ (e9 _ _ z) n) (nr z))
          have o1213 : Off p H12 (upd H12 p (.ins C dx (putF "_known" (.ref dA) F5))) := .upd
          refine k _ sts' rise mem ⟨dx, sA, kA, wA, bA, dA, ?_, ⟨vs, o8 _ _ hA8 npA, o8.row hp8 rA8⟩, ⟨ks, o8 _ _ (o78 _ _ (e7 _ _ (o56 _ _ hK npK)) npK) npK, tK⟩, ⟨ws, o8 _ _ (o78 _ _ hW npW) npW, tW⟩,
            ⟨rows, o1213 _ _ (e12 _ _ hB11) npB, len, fun j r hr => ?_⟩, kvs, o1213 _ _ hD npD, kn⟩ fun b o z n => ?_
          · rw [upd_same, ← hF5, ← hF4, ← hF3, ← hF2, ← hF1]; rfl
          · obtain ⟨wz, a1, a2⟩ := rw11 j r hr
            exact ⟨wz, o1213 _ _ (e12 _ _ a1) (npR r (List.mem_of_getElem? hr)), o1213.row hp12 (a2.same e12)⟩
          · exact o8 _ _ (o78 _ _ (e7 _ _ (o56 _ _ (e5 _ _ (o34 _ _ (e3 _ _ (o12 _ _ (e1 _ _ z) n)) n)) n)) n) n
end
end K1
end
section
/-! Rows of steps as data. -/
namespace K1
open PySem L2
def dStp (s : Stp) : PyData := MX.ofTup (stpK s)
theorem word_ok {x : Str} (h : wordE (.str x) = true) : PyData.strOk x = true := by
  have z : (decide (x = Str.ofString "") || wordS x) = true := h
  rcases Bool.or_eq_true_iff.mp z with z | z
  · rw [of_decide_eq_true z]; decide +kernel
  · unfold wordS at z
    simp only [Bool.and_eq_true] at z
    have a : x.cps.all (· < 128) = true := z.1.1.2
    unfold PyData.strOk
    rw [Array.all_eq_true] at a ⊢
    intro i hi
    have q := of_decide_eq_true (a i hi)
    exact decide_eq_true (Nat.lt_trans q (by decide))
theorem canLay_stp {s : Stp} (hk : wordE (.str s.k) = true) (hs : wordE (.str s.s) = true) : PyData.canLay0 (dStp s) = true := by
  have a := word_ok hk
  have b := word_ok hs
  simp [dStp, MX.ofTup, stpK, MX.ofKey, PyData.canLay0, PyData.canLayAll0, a, b]
theorem canLay_row : ∀ {sts : List Stp}, (∀ s ∈ sts, wordE (.str s.k) = true ∧ wordE (.str s.s) = true) → PyData.canLayAll0 (sts.map dStp) = true
  | [], _ => rfl
  | s :: sts, h => by
    rw [List.map_cons, PyData.canLayAll0, canLay_stp (h s (List.mem_cons_self ..)).1 (h s (List.mem_cons_self ..)).2, Bool.true_and]
    exact canLay_row fun t ht => h t (List.mem_cons_of_mem _ ht)
theorem depth_row : ∀ sts : List Stp, PyData.depthAll (sts.map dStp) ≤ 1
  | [] => Nat.zero_le _
  | s :: sts => by
    rw [List.map_cons, PyData.depthAll]
    have h1 := depth_row sts
    have h2 : PyData.depth (dStp s) = 1 := by
      unfold dStp MX.ofTup
      rw [PyData.depth, MX.depth_ofKey]
    omega
theorem shaped_list {sts : List Stp} (h : ∀ s ∈ sts, wordE (.str s.k) = true ∧ wordE (.str s.s) = true) : SeqAt.shaped (.list (sts.map dStp)) = true := by
  unfold SeqAt.shaped
  rw [PyData.canLay0, canLay_row h, PyData.depth, Bool.true_and]
  exact decide_eq_true (by have := depth_row sts; omega)
theorem shaped_tup {sts : List Stp} (h : ∀ s ∈ sts, wordE (.str s.k) = true ∧ wordE (.str s.s) = true) : SeqAt.shaped (.tuple (sts.map dStp)) = true := by
  unfold SeqAt.shaped
  rw [PyData.canLay0, canLay_row h, PyData.depth, Bool.true_and]
  exact decide_eq_true (by have := depth_row sts; omega)
theorem dp_row {K : PySem.W.Frag} {H : Hp} {vs : List V} {sts : List Stp} (h : Row H vs sts) : DpAll K H vs (sts.map dStp) := by
  unfold Row at h
  induction h with
  | nil => exact .nil
  | @cons v s vs sts h t ih =>
    obtain ⟨p, rfl, hp⟩ := h
    exact .cons (.tup (SqT.of hp) (.cons (.int _) (.cons (.str _) (.cons (.str _) (.cons (.int _) .nil))))) ih
theorem eqv_list {sts : List Stp} (h : ∀ s ∈ sts, wordE (.str s.k) = true ∧ wordE (.str s.s) = true) : PyData.eqv (.list (sts.map dStp)) (.list (sts.map dStp)) = true := SeqAt.eqv_refl _ (by rw [PyData.canLay0, canLay_row h])
theorem eqv_tup {sts : List Stp} (h : ∀ s ∈ sts, wordE (.str s.k) = true ∧ wordE (.str s.s) = true) : PyData.eqv (.tuple (sts.map dStp)) (.tuple (sts.map dStp)) = true := SeqAt.eqv_refl _ (by rw [PyData.canLay0, canLay_row h])
end K1
end
section
/-! The machine's methods. -/
namespace K1
open PySem L2
open MX (Rise Up)
section
variable {many : Int} {sA kA wA bA dA : Addr}
theorem lk_many : (mFlds many sA kA wA bA dA).lookup ("many" : Str) = some (.int many) := by
  unfold mFlds
  rw [lookup_putF, if_neg (by decide +kernel), lookup_putF, if_neg (by decide +kernel), lookup_putF, if_neg (by decide +kernel), lookup_putF, if_neg (by decide +kernel), lookup_putF, if_neg (by decide +kernel), lookup_putF, if_pos rfl]
theorem lk_steps : (mFlds many sA kA wA bA dA).lookup ("steps" : Str) = some (.ref sA) := by
  unfold mFlds
  rw [lookup_putF, if_neg (by decide +kernel), lookup_putF, if_neg (by decide +kernel), lookup_putF, if_neg (by decide +kernel), lookup_putF, if_neg (by decide +kernel), lookup_putF, if_pos rfl]
theorem lk_kinds : (mFlds many sA kA wA bA dA).lookup ("kinds" : Str) = some (.ref kA) := by
  unfold mFlds
  rw [lookup_putF, if_neg (by decide +kernel), lookup_putF, if_neg (by decide +kernel), lookup_putF, if_neg (by decide +kernel), lookup_putF, if_pos rfl]
theorem lk_words : (mFlds many sA kA wA bA dA).lookup ("words" : Str) = some (.ref wA) := by
  unfold mFlds
  rw [lookup_putF, if_neg (by decide +kernel), lookup_putF, if_neg (by decide +kernel), lookup_putF, if_pos rfl]
theorem lk_by : (mFlds many sA kA wA bA dA).lookup ("by_state" : Str) = some (.ref bA) := by
  unfold mFlds
  rw [lookup_putF, if_neg (by decide +kernel), lookup_putF, if_pos rfl]
theorem lk_known : (mFlds many sA kA wA bA dA).lookup ("_known" : Str) = some (.ref dA) := by
  unfold mFlds
  rw [lookup_putF, if_pos rfl]
theorem lk_no {m : Str} (h : ¬ m = "_known" ∧ ¬ m = "by_state" ∧ ¬ m = "words" ∧ ¬ m = "kinds" ∧ ¬ m = "steps" ∧ ¬ m = "many") : (mFlds many sA kA wA bA dA).lookup m = none := by
  obtain ⟨h1, h2, h3, h4, h5, h6⟩ := h
  unfold mFlds
  rw [lookup_putF, if_neg h1, lookup_putF, if_neg h2, lookup_putF, if_neg h3, lookup_putF, if_neg h4, lookup_putF, if_neg h5, lookup_putF, if_neg h6]; rfl
end
structure TxtC (K : PySem.W.Frag) (mg : Str → Option Value) (C : Addr) : Prop where
  cl : Cls K C
  n_many : NoAttr K C "many"
  n_steps : NoAttr K C "steps"
  n_kinds : NoAttr K C "kinds"
  n_words : NoAttr K C "words"
  n_by_state : NoAttr K C "by_state"
  n_known : NoAttr K C "_known"
  len : mg "len" = none
  list : mg "list" = none
def spMLen (C : Addr) : Sp := fun vs H Q _ => ∃ (p : Addr) (many : Int) (sts : List Stp), vs = [.ref p] ∧ MachAt C H p many sts ∧ Q (.int many) H
section
variable {P : Program} {w : World} {K : PySem.W.Frag} {mg : Str → Option Value} {base : Heap}
abbrev sMLen : Stmt := inClass (top 17) 2
theorem scMLen : FnScope ["self"] ["self"] (defScope sMLen) := ⟨rfl, rfl, rfl, by decide +kernel, rfl, by decide +kernel, by decide +kernel⟩
theorem ok_mLen {f C : Addr} {fd : FuncData} (F : Fun K "__len__" "Machine.__len__" sMLen f fd) (T : TxtC K mg C) : FnOk P w K mg base CX0 1 f fd ["self"] (spMLen C) := by
  refine F.ok scMLen (fun vs H Q E h => ?_) (fun cdv A outer s H vs Q E hr h => ?_)
  · obtain ⟨p, many, sts, rfl, _⟩ := h
    rfl
  · obtain ⟨p, many, sts, rfl, ⟨dx, sA, kA, wA, bA, dA, hp, B⟩, k⟩ := h
    obtain ⟨rows, h7, h8, h9⟩ := B.byS
    refine ⟨_, (pss_one (ps_ret (pe_callB call_len_seq (by rfl) T.len PySem.boot_len (pa_cons (pe_fld (pv 0) rfl) pa_nil)))), ?_⟩
    refine ⟨_, rfl, p, C, dx, _, _, rfl, hp, T.cl, T.n_by_state, lk_by, bA, _, rfl, .inl (SqL.of h7), ?_⟩
    rw [List.length_map, h8]
    exact k
/-! ### == -/
structure TxtE (K : PySem.W.Frag) (mg : Str → Option Value) (C : Addr) : Prop where
  cl : Cls K C
  n_many : NoAttr K C "many"
  n_steps : NoAttr K C "steps"
  isinstance : mg "isinstance" = none
  g_Machine : mg "Machine" = some (.ref C)
  own : C8.InsC K C
  ki : PySem.W.kitOne K (.ref C) (.ref C) = some true
def spMEq (C : Addr) : Sp := fun vs H Q _ => ∃ (p q : Addr) (many : Int) (sts : List Stp), vs = [.ref p, .ref q] ∧ MachAt C H p many sts ∧ MachAt C H q many sts ∧ (∀ s ∈ sts, OkS many s) ∧ Q (.bl true) H
abbrev sMEq : Stmt := inClass (top 17) 1
theorem scMEq : FnScope ["self", "other"] ["self", "other"] (defScope sMEq) := ⟨rfl, rfl, rfl, by decide +kernel, rfl, by decide +kernel, by decide +kernel⟩
theorem ok_mEq {f C : Addr} {fd : FuncData} (F : Fun K "__eq__" "Machine.__eq__" sMEq f fd) (T : TxtE K mg C) : FnOk P w K mg base CX0 1 f fd ["self", "other"] (spMEq C) := by
  refine F.ok scMEq (fun vs H Q E h => ?_) (fun cdv A outer s H vs Q E hr h => ?_)
  · obtain ⟨p, q, many, sts, rfl, _⟩ := h
    rfl
  · obtain ⟨p, q, many, sts, rfl, ⟨dx, sA, kA, wA, bA, dA, hp, B⟩, ⟨dx', sA', kA', wA', bA', dA', hp', B'⟩, oks, k⟩ := h
    have hu := hr.units
    obtain ⟨vs, hA, rA⟩ := B.stp
    obtain ⟨vs', hA', rA'⟩ := B'.stp
    refine ⟨_, (pss_one (ps_ret (pe_and (pe_callB call_isi (by rfl) T.isinstance (by decide +kernel) (pa_cons (pv 1) (pa_cons (pe_glob (v := .ref C) (by rfl) T.g_Machine rfl) pa_nil))) (pe_and (pe_cmpR op_eq (pe_fld (pv 0) rfl) (pe_fld (pv 1) rfl) (nomark _)) (pe_one (pe_cmpR (op_eqD hu) (pe_fld (pv 0) rfl) (pe_fld (pv 1) rfl) (nomark _))))))), ?_⟩
    have ws : ∀ s ∈ sts, wordE (.str s.k) = true ∧ wordE (.str s.s) = true := fun s h => ⟨(oks s h).2.2.2.2.1, (oks s h).2.2.2.2.2⟩
    refine ⟨_, rfl, .ref q, .ref C, _, _, true, rfl, .own C, .base (.ins hp' T.cl T.own.ha T.own.hn T.own.htk T.own.hm), T.ki, _, rfl, ?_⟩
    refine iteT ⟨_, rfl, p, C, dx, _, _, rfl, hp, T.cl, T.n_many, lk_many, _, rfl, q, C, dx', _, _, rfl, hp', T.cl, T.n_many, lk_many, rfl, _, rfl, ?_⟩
    rw [decide_eq_true rfl]
    refine iteT ⟨_, rfl, p, C, dx, _, _, rfl, hp, T.cl, T.n_steps, lk_steps, _, rfl, q, C, dx', _, _, rfl, hp', T.cl, T.n_steps, lk_steps, _, _, .tup (SqT.of hA) (dp_row rA), .tup (SqT.of hA') (dp_row rA'), shaped_tup ws, shaped_tup ws, ?_⟩
    rw [eqv_tup ws]
    exact k
/-! ### states -/
def stateB (many : Int) : V → Bool
  | .int i => decide (0 ≤ i) && decide (i < many)
  | _ => false
theorem stateB_num {many : Int} {v : V} (h : numB v = false) : stateB many v = false := by
  cases v with
  | int i =>
    have z : decide (0 ≤ i) = false := h
    show (decide (0 ≤ i) && decide (i < many)) = false
    rw [z]; rfl
  | _ => rfl
def Size (many : Int) : Prop := 0 ≤ many ∧ many ≤ 100000
def spState (K : PySem.W.Frag) (C : Addr) : Sp := fun vs H Q _ => ∃ (p : Addr) (many : Int) (sts : List Stp) (v : V) (ty : String), vs = [.ref p, v] ∧ MachAt C H p many sts ∧ Size many ∧ Pl K H v ty ∧ Q (.bl (stateB many v)) H
structure TxtT (K : PySem.W.Frag) (mg : Str → Option Value) (C fN fL : Addr) : Prop where
  g_is_number : mg "is_number" = some (.ref fN)
  k_is_number : PySem.W.keepIn K (.ref fN) = true
  len : mg "len" = none
  h_len_Machine : PySem.W.findIn K (.ref C) "__len__" = some (some (.ref fL))
  f_len_Machine : PySem.W.isFn K (.ref fL) = true
abbrev sState : Stmt := top 12
theorem scState : FnScope ["machine", "state"] ["machine", "state"] (defScope sState) := ⟨rfl, rfl, rfl, by decide +kernel, rfl, by decide +kernel, by decide +kernel⟩
theorem ok_state {f C fN fL : Addr} {fd fdN fdL : FuncData} (F : Fun K "is_state" "is_state" sState f fd) (T : TxtT K mg C fN fL)
    (G_is_number : FnOk P w K mg base CX0 1 fN fdN ["value"] (spNum K)) (b_is_number : Binds K fdN ["value"] []) (G_len_Machine : FnOk P w K mg base CX0 1 fL fdL ["self"] (spMLen C)) (b_len_Machine : Binds K fdL ["self"] []) :
    FnOk P w K mg base CX0 3 f fd ["machine", "state"] (spState K C) := by
  refine F.ok scState (fun vs H Q E h => ?_) (fun cdv A outer s H vs Q E hr h => ?_)
  · obtain ⟨p, many, sts, v, ty, rfl, _⟩ := h
    rfl
  · obtain ⟨p, many, sts, v, ty, rfl, M, sz, pl, k⟩ := h
    have hr_is_number : Room 1 _ := hr.mono (by decide)
    have hr_len_Machine : Room 2 _ := hr
    refine ⟨_, (pss_one (ps_ret (pe_and (pe_call G_is_number hr_is_number (by rfl) T.g_is_number T.k_is_number b_is_number .nil pass0 (pa_cons (pv 1) pa_nil)) (pe_one (pe_cmpR op_lt (pv 1) (pe_callB (call_lenOwn T.h_len_Machine T.f_len_Machine G_len_Machine b_len_Machine hr_len_Machine pass0) (by rfl) T.len PySem.boot_len (pa_cons (pv 0) pa_nil)) (nomark _)))))), ?_⟩
    refine ⟨_, rfl, v, ty, rfl, pl, _, rfl, ?_⟩
    cases c : numB v with
    | false =>
      rw [stateB_num c] at k
      exact iteF k
    | true =>
      obtain ⟨i, rfl⟩ : ∃ i, v = .int i := by
        cases v with
        | int i => exact ⟨i, rfl⟩
        | _ => exact absurd c Bool.false_ne_true
      have M0 := M
      obtain ⟨dx, sA, kA, wA, bA, dA, hp, B⟩ := M0
      have e : stateB many (.int i) = decide (i < many) := by
        have z : decide (0 ≤ i) = true := c
        show (decide (0 ≤ i) && decide (i < many)) = _
        rw [z, Bool.true_and]
      rw [e] at k
      exact iteT ⟨_, rfl, _, rfl, p, dx, _, rfl, hp, p, many, sts, rfl, M, many, rfl, sz.1, by have := sz.2; omega, _, _, rfl, rfl, k⟩
def spCheck (K : PySem.W.Frag) (C CS : Addr) : Sp := fun vs H Q E => ∃ (p : Addr) (many : Int) (sts : List Stp) (v : V) (ty : String), vs = [.ref p, v] ∧ MachAt C H p many sts ∧ Size many ∧ Pl K H v ty ∧
  (stateB many v = false → E (.ref CS) none H) ∧ (stateB many v = true → Q .non H)
structure TxtK (K : PySem.W.Frag) (mg : Str → Option Value) (CS fS : Addr) : Prop where
  g_is_state : mg "is_state" = some (.ref fS)
  k_is_state : PySem.W.keepIn K (.ref fS) = true
  x_BadStates : PySem.W.excIn K CS [.type "ValueError", .type "Exception", .type "BaseException", .type "object"] "ValueError.__new__" = true
  c_BadStates : mg "BadStates" = some (.ref CS)
  k_BadStates : PySem.W.keepIn K (.ref CS) = true
  b_BadStates : PySem.W.subIn K (.ref CS) (.type "BaseException") = some true
  t_BadStates : PySem.W.typeIn K (.ref CS) = some (.type "type")
abbrev sCheck : Stmt := top 13
theorem scCheck : FnScope ["machine", "state"] ["machine", "state"] (defScope sCheck) := ⟨rfl, rfl, rfl, by decide +kernel, rfl, by decide +kernel, by decide +kernel⟩
theorem ok_check {f C CS fS : Addr} {fd fdS : FuncData} (F : Fun K "check_state" "check_state" sCheck f fd) (T : TxtK K mg CS fS)
    (G_is_state : FnOk P w K mg base CX0 3 fS fdS ["machine", "state"] (spState K C)) (b_is_state : Binds K fdS ["machine", "state"] []) : FnOk P w K mg base (L2.CX P w) 4 f fd ["machine", "state"] (spCheck K C CS) := by
  refine F.okX scCheck (fun vs H Q E h => ?_) (fun cdv A outer s H vs Q E hr h => ?_)
  · obtain ⟨p, many, sts, v, ty, rfl, _⟩ := h
    rfl
  · obtain ⟨p, many, sts, v, ty, rfl, M, sz, pl, kb, kg⟩ := h
    have hr_is_state : Room 3 _ := hr
    refine ⟨_, (pss_one (ps_if (pt_not (pt_val (pe_call G_is_state hr_is_state (by rfl) T.g_is_state T.k_is_state b_is_state .nil pass0 (pa_cons (pv 0) (pa_cons (pv 1) pa_nil)))))
        (pss_one (ps_raise rfl (takes_of rfl rfl rfl rfl) (pmk_own PySem.F.excBase_ValueError T.x_BadStates T.c_BadStates T.k_BadStates (raises_own T.b_BadStates T.t_BadStates) (by rfl))))
        pss_nil)), ?_⟩
    refine ⟨_, rfl, _, rfl, p, many, sts, v, ty, rfl, M, sz, pl, _, rfl, ?_⟩
    cases c : stateB many v with
    | false => exact iteT (kb c)
    | true => exact iteF (kg c)
def spBehind (K : PySem.W.Frag) (C CS : Addr) : Sp := fun vs H Q E => ∃ (p : Addr) (many : Int) (sts : List Stp) (v : V) (ty : String), vs = [.ref p, v] ∧ MachAt C H p many sts ∧ Size many ∧ Pl K H v ty ∧
  (stateB many v = false → E (.ref CS) none H) ∧ (stateB many v = true → ∀ (i : Int) (H' : Hp) (l : Addr) (ws : List V), v = .int i → Same H H' → H l = none → H' l = some (.lst ws) → Row H' ws (sts.filter fun s => decide (s.a = i)) → Q (.ref l) H')
structure TxtB2 (K : PySem.W.Frag) (mg : Str → Option Value) (C fC : Addr) : Prop where
  g_check_state : mg "check_state" = some (.ref fC)
  k_check_state : PySem.W.keepIn K (.ref fC) = true
  cl : Cls K C
  n_by_state : NoAttr K C "by_state"
  list : mg "list" = none
abbrev sBehind : Stmt := inClass (top 17) 4
theorem scBehind : FnScope ["self", "state"] ["self", "state"] (defScope sBehind) := ⟨rfl, rfl, rfl, by decide +kernel, rfl, by decide +kernel, by decide +kernel⟩
theorem ok_behind {f C CS fC : Addr} {fd fdC : FuncData} (F : Fun K "behind" "Machine.behind" sBehind f fd) (T : TxtB2 K mg C fC)
    (G_check_state : FnOk P w K mg base (L2.CX P w) 4 fC fdC ["machine", "state"] (spCheck K C CS)) (b_check_state : Binds K fdC ["machine", "state"] []) : FnOk P w K mg base (L2.CX P w) 5 f fd ["self", "state"] (spBehind K C CS) := by
  refine F.okX scBehind (fun vs H Q E h => ?_) (fun cdv A outer s H vs Q E hr h => ?_)
  · obtain ⟨p, many, sts, v, ty, rfl, _⟩ := h
    rfl
  · obtain ⟨p, many, sts, v, ty, rfl, M, sz, pl, kb, kg⟩ := h
    have hr_check_state : Room 4 _ := hr
    refine ⟨_, (pss_cons (ps_expr (pe_callS G_check_state hr_check_state (by rfl) T.g_check_state T.k_check_state b_check_state (E := fun _ => E) (fun σ => passAt (takes_of rfl rfl rfl rfl) σ) (pa_cons (pv 0) (pa_cons (pv 1) pa_nil))))
      (pss_one (ps_ret (pe_callTy call_list_of (by rfl) T.list (by decide +kernel) (pa_cons (pe_ix ix_list (pe_fld (pv 0) rfl) (pv 1) (fun _ _ => rfl)) pa_nil))))), ?_⟩
    refine ⟨_, rfl, _, rfl, p, many, sts, v, ty, rfl, M, sz, pl, kb, fun c => ?_⟩
    obtain ⟨i, rfl⟩ : ∃ i, v = .int i := by
      cases v with
      | int i => exact ⟨i, rfl⟩
      | _ => exact absurd c Bool.false_ne_true
    obtain ⟨dx, sA, kA, wA, bA, dA, hp, B⟩ := M
    obtain ⟨rows, h7, h8, h9⟩ := B.byS
    have c2 : (decide (0 ≤ i) && decide (i < many)) = true := c
    obtain ⟨i0, i1⟩ := Bool.and_eq_true_iff.mp c2
    have i0 := of_decide_eq_true i0
    have i1 := of_decide_eq_true i1
    obtain ⟨r, hr1, hr2⟩ := ref_at (rows := rows) i0 (by omega)
    obtain ⟨ws, hw, rw1⟩ := h9 _ _ hr1
    have ei : ((i.toNat : Nat) : Int) = i := by omega
    rw [ei] at rw1
    refine ⟨_, rfl, p, C, dx, _, _, rfl, hp, T.cl, T.n_by_state, lk_by, _, rfl, bA, _, _, _, rfl, rfl, SqL.of h7, hr2, r, _, rfl, .inl (SqL.of hw), fun l hl => ?_⟩
    exact kg c i _ l ws rfl (same_new hl) hl upd_same (rw1.same (same_new hl))
end
end K1
end
section
/-! d.setdefault(k, x) as a call. -/
namespace L2
open PySem PySem.Spec PyProof.Rows PySem.W
variable {X : Cx}
theorem mt_setd : MtR X "dict.setdefault" rSetd := by
  intro pins s σ H x xs v us Q I rx rv h
  obtain ⟨a, kvs, k, x0, rfl, rfl, ea, hl, w1, w2⟩ := h
  obtain rfl : v = Value.ref a := rx
  match us, rv with
  | [u1, u2], .cons ry (.cons rd .nil) =>
    obtain ⟨z, hd, vs0, rel, dd⟩ := dk_of I.hok ea
    have few : vs0.length ≤ sizeLine := rel.length ▸ z
    refine call_meetsIn PySem.F.slot_dict_setdefault dd.typeIs PySem.F.entry_dict_setdefault (PySem.F.args_dict_setdefault_3 _ _ _) (kt_meets_setdefault (mixKind X.prog X.w) _ (kV_is ry) hd _) ⟨vs0, dd, few, fun u hu => ?_, fun hn h' dd' sb => ?_⟩
    · have rr := rel.val k
      cases hv : valV kvs k with
      | none => rw [hu, hv] at rr; exact rr.elim
      | some y =>
        rw [hu, hv] at rr
        exact (⟨y, H, I.tok _, rr, w1 y hv⟩ : EP X pins σ Q u _)
    · have rr := rel.val k
      cases hv : valV kvs k with
      | some y => rw [hn, hv] at rr; exact rr.elim
      | none =>
        have room : (putK kvs k x0).length ≤ sizeLine := by have := length_putK kvs k x0; omega
        have ⟨q, _, _, hq, _⟩ := dd'
        have J := d_write (t' := s.toks + 1) I (by rw [ea]; exact True.intro) sb ⟨q, hq⟩ (dk_new room hd (rel.put k rd) dd')
        exact (⟨x0, _, J, rd, w2 hv⟩ : EP X pins σ Q _ _)
end L2
end
section
/-! Outlooks. -/
namespace K1
open PySem L2
open MX (Rise Up)
section
variable {P : Program} {w : World} {K : PySem.W.Frag} {mg : Str → Option Value} {base : Heap}
/-- [.. for _ in range(many)], each a new object like o0 -/
theorem news_value {o0 : HO} {te : TE} (hte : ∀ σ H Q, (∀ p, H p = none → Q (.ref p) (upd H p o0)) → te σ H Q) {σ : L2.St} {i : Nat} {H : Hp} {R : VK} {many : Int} (h1 : σ[1]? = some (some (.int many))) (hw : ∀ v, wipe ((wipe σ [i]).set i (some v)) [i] = wipe σ [i]) (m1 : 0 ≤ many) (m2 : many ≤ 3000)
    (k : ∀ (H' : Hp) (D : Addr) (rows : List Addr), Same H H' → H D = none → H' D = some (.lst (rows.map V.ref)) → (rows.length : Int) = many → (∀ r ∈ rows, H' r = some o0 ∧ H r = none ∧ r ≠ D) → rows.Nodup → R (.ref D) H') :
    tLc (iRng1 (tCons (tVar 1) tNil)) (gName i) tYes te [i] σ H R := by
  refine ⟨_, h1, many, rfl, by omega, by omega, fun D hD => lc_range (lo := 0) (n := many.toNat) (fun i H' => ∃ rows : List Addr, H' D = some (.lst (rows.map V.ref)) ∧ rows.length = i ∧ (∀ r ∈ rows, H' r = some o0 ∧ H r = none ∧ r ≠ D) ∧ Same H H' ∧ rows.Nodup)
    ⟨[], upd_same, rfl, fun r h => absurd h (by simp), same_new hD, List.nodup_nil⟩ ?_ ?_⟩
  · rintro j H1 hj ⟨rows, h1, h2, h4, e1, h5⟩
    refine ⟨hw _, hte _ _ _ fun l hl => ⟨rows.map V.ref, ?_, ?_, rows ++ [l], ?_, by rw [List.length_append, h2]; rfl, fun r hr => ?_, fun b o z => ?_, List.nodup_append.mpr ⟨h5, by simp, fun a ha b hb e => by rw [← List.mem_singleton.mp hb, ← e, (h4 a ha).1] at hl; cases hl⟩⟩⟩
    · rw [upd_ne (ne_of_none h1 hl)]; exact h1
    · rw [List.length_map, h2, sizeLine_eq]; omega
    · rw [upd_same, List.map_append]; rfl
    · rcases List.mem_append.mp hr with hr | hr
      · obtain ⟨a, b, c⟩ := h4 r hr
        refine ⟨?_, b, c⟩
        rw [upd_ne c, upd_ne (ne_of_none a hl)]; exact a
      · rw [List.mem_singleton.mp hr]
        have nlD : l ≠ D := fun z => by rw [z, h1] at hl; cases hl
        exact ⟨by rw [upd_ne nlD, upd_same], e1.free hl, nlD⟩
    · rw [upd_ne (ne_of_none z hD), upd_ne (ne_of_none (e1 _ _ z) hl)]
      exact e1 _ _ z
  · rintro H1 ⟨rows, h1, h2, h4, e1, h5⟩
    exact k H1 D rows e1 hD h1 (by rw [h2]; omega) h4 h5
/-- three of a step: from, word, to -/
def triV (s : Stp) : List V := [.int s.a, .str s.s, .int s.g]
def Tri (H : Hp) : List V → List Stp → Prop := PySem.Paired fun v s => ∃ q, v = .ref q ∧ H q = some (.tup (triV s))
theorem Tri.keep {H H' : Hp} {vs : List V} {xs : List Stp} (e : ∀ p ts, H p = some (.tup ts) → H' p = some (.tup ts)) (h : Tri H vs xs) : Tri H' vs xs := Paired.mapP h fun _ _ ⟨p, e1, e2⟩ => ⟨p, e1, e _ _ e2⟩
/-- a list of states at r -/
def LI (many : Int) (n : Nat) (H : Hp) (r : Addr) : Prop := ∃ gs : List Int, H r = some (.lst (gs.map V.int)) ∧ (∀ g ∈ gs, 0 ≤ g ∧ g < many) ∧ gs.length ≤ n
def Has (H : Hp) (r : Addr) (g : Int) : Prop := ∃ gs : List Int, H r = some (.lst (gs.map V.int)) ∧ g ∈ gs
theorem ints_inj : ∀ {gs hs : List Int}, gs.map V.int = hs.map V.int → gs = hs
  | [], [], _ => rfl
  | [], _ :: _, e => by cases e
  | _ :: _, [], e => by cases e
  | g :: gs, h :: hs, e => by
    rw [List.map_cons, List.map_cons] at e
    obtain ⟨e1, e2⟩ := List.cons.inj e
    rw [V.int.inj e1, ints_inj e2]
theorem LI.mono {many : Int} {n m : Nat} {H : Hp} {r : Addr} (h : LI many n H r) (l : n ≤ m) : LI many m H r := let ⟨gs, a, b, c⟩ := h; ⟨gs, a, b, Nat.le_trans c l⟩
def DI (many : Int) (p q : Nat) (H0 H : Hp) (d : Addr) : Prop := ∃ kvs : List (Key × V), H d = some (.dK kvs) ∧ kvs.length ≤ q ∧ ∀ (k : Key) v, valV kvs k = some v → ∃ r, v = .ref r ∧ LI many p H r ∧ H0 r = none
def Wd (H : Hp) (d : Addr) (s : Str) (g : Int) : Prop := ∃ (kvs : List (Key × V)) (r : Addr), H d = some (.dK kvs) ∧ valV kvs (Sum.inr s : Key) = some (.ref r) ∧ Has H r g
/-- while the steps are laid out -/
structure OI (many : Int) (p q : Nat) (H0 H : Hp) (rows ds : List Addr) (ts : List Stp) : Prop where
  off : ∀ b o, H0 b = some o → b ∉ rows → b ∉ ds → H b = some o
  rw_ : ∀ r ∈ rows, LI many p H r
  dw : ∀ d ∈ ds, DI many p q H0 H d
  done : ∀ t ∈ ts, (t.s = Str.ofString "" → ∃ r, rows[t.a.toNat]? = some r ∧ Has H r t.g) ∧ (t.s ≠ Str.ofString "" → ∃ d, ds[t.a.toNat]? = some d ∧ Wd H d t.s t.g)
section
variable {many : Int} {p q : Nat} {H0 H : Hp} {rows ds : List Addr} {ts : List Stp}
theorem OI.mono {p' q' : Nat} (O : OI many p q H0 H rows ds ts) (lp : p ≤ p') (lq : q ≤ q') : OI many p' q' H0 H rows ds ts :=
  ⟨O.off, fun r hr => (O.rw_ r hr).mono lp, fun d hd => let ⟨kvs, a, b, c⟩ := O.dw d hd; ⟨kvs, a, Nat.le_trans b lq, fun k v h => let ⟨r, e, l, n⟩ := c k v h; ⟨r, e, l.mono lp, n⟩⟩, O.done⟩
theorem has_upd {r r' : Addr} {gs : List Int} {g g' : Int} (hr : H r = some (.lst (gs.map V.int))) (h : Has H r' g') : Has (upd H r (.lst (gs.map V.int ++ [V.int g]))) r' g' := by
  obtain ⟨hs, h1, h2⟩ := h
  rcases Decidable.em (r' = r) with e | e
  · subst e
    rw [hr] at h1
    have z2 : gs = hs := ints_inj (HO.lst.inj (Option.some.inj h1))
    subst z2
    exact ⟨gs ++ [g], by rw [upd_same, List.map_append]; rfl, List.mem_append_left _ h2⟩
  · exact ⟨hs, by rw [upd_ne e]; exact h1, h2⟩
theorem li_upd {r r' : Addr} {gs : List Int} {g : Int} (hr : H r = some (.lst (gs.map V.int))) (inr : 0 ≤ g ∧ g < many) (h : LI many p H r') : LI many (p + 1) (upd H r (.lst (gs.map V.int ++ [V.int g]))) r' := by
  obtain ⟨hs, h1, h2, h3⟩ := h
  rcases Decidable.em (r' = r) with e | e
  · subst e
    rw [hr] at h1
    have z2 : gs = hs := ints_inj (HO.lst.inj (Option.some.inj h1))
    subst z2
    refine ⟨gs ++ [g], by rw [upd_same, List.map_append]; rfl, fun x hx => ?_, by rw [List.length_append]; exact Nat.succ_le_succ h3⟩
    rcases List.mem_append.mp hx with hx | hx
    · exact h2 x hx
    · rw [List.mem_singleton.mp hx]; exact inr
  · exact ⟨hs, by rw [upd_ne e]; exact h1, h2, Nat.le_succ_of_le h3⟩
theorem OI.app {r : Addr} {gs : List Int} {g : Int} (O : OI many p q H0 H rows ds ts) (hr : H r = some (.lst (gs.map V.int))) (inr : 0 ≤ g ∧ g < many) (own : r ∈ rows ∨ H0 r = none) : OI many (p + 1) q H0 (upd H r (.lst (gs.map V.int ++ [V.int g]))) rows ds ts where
  off := fun b o z n1 n2 => by
    have ne : b ≠ r := fun e => by
      rcases own with h | h
      · exact n1 (by rw [e]; exact h)
      · rw [e, h] at z; cases z
    rw [upd_ne ne]; exact O.off b o z n1 n2
  rw_ := fun r' h => li_upd hr inr (O.rw_ r' h)
  dw := fun d hd => by
    obtain ⟨kvs, a, b, c⟩ := O.dw d hd
    exact ⟨kvs, by rw [upd_ne (ne_of a hr (by intro y; cases y))]; exact a, b, fun k v h => let ⟨r', e, l, n⟩ := c k v h; ⟨r', e, li_upd hr inr l, n⟩⟩
  done := fun t ht => by
    refine ⟨fun e => ?_, fun e => ?_⟩
    · obtain ⟨r', a, b⟩ := (O.done t ht).1 e
      exact ⟨r', a, has_upd hr b⟩
    · obtain ⟨d, a, kvs, r', b, c, h⟩ := (O.done t ht).2 e
      exact ⟨d, a, kvs, r', by rw [upd_ne (ne_of b hr (by intro y; cases y))]; exact b, c, has_upd hr h⟩
theorem OI.lay {l : Addr} (O : OI many p q H0 H rows ds ts) (nl : H l = none) : OI many p q H0 (upd H l (.lst [])) rows ds ts := by
  have e : Same H (upd H l (.lst [])) := same_new nl
  refine ⟨fun b o z n1 n2 => e _ _ (O.off b o z n1 n2), fun r h => let ⟨gs, a, b, c⟩ := O.rw_ r h; ⟨gs, e _ _ a, b, c⟩, fun d h => let ⟨kvs, a, b, c⟩ := O.dw d h; ⟨kvs, e _ _ a, b, fun k v h => let ⟨r', e', ⟨gs, l1, l2, l3⟩, n⟩ := c k v h; ⟨r', e', ⟨gs, e _ _ l1, l2, l3⟩, n⟩⟩, fun t ht => ⟨fun c => ?_, fun c => ?_⟩⟩
  · obtain ⟨r', a, gs, b, c⟩ := (O.done t ht).1 c
    exact ⟨r', a, gs, e _ _ b, c⟩
  · obtain ⟨d, a, kvs, r', b, c, gs, h1, h2⟩ := (O.done t ht).2 c
    exact ⟨d, a, kvs, r', e _ _ b, c, gs, e _ _ h1, h2⟩
theorem OI.put {d l : Addr} {kvs : List (Key × V)} {k : Key} (O : OI many p q H0 H rows ds ts) (hd : H d = some (.dK kvs)) (md : d ∈ ds) (hl : H l = some (.lst [])) (nl : H0 l = none) (no : valV kvs k = none) : OI many p (q + 1) H0 (upd H d (.dK (putK kvs k (.ref l)))) rows ds ts := by
  have tk : ∀ b xs, H b = some (.lst xs) → upd H d (.dK (putK kvs k (.ref l))) b = some (.lst xs) := fun b xs z => by
    rw [upd_ne (ne_of z hd (by intro y; cases y))]; exact z
  have li : ∀ {r}, LI many p H r → LI many p (upd H d (.dK (putK kvs k (.ref l)))) r := fun {r} ⟨gs, a, b, c⟩ => ⟨gs, tk _ _ a, b, c⟩
  refine ⟨fun b o z n1 n2 => by rw [upd_ne (fun e => n2 (by rw [e]; exact md))]; exact O.off b o z n1 n2, fun r h => li (O.rw_ r h), fun d' h' => ?_, fun t ht => ⟨fun c => ?_, fun c => ?_⟩⟩
  · rcases Decidable.em (d' = d) with e | e
    · subst e
      obtain ⟨kvs', a, b, c⟩ := O.dw d' h'
      rw [hd] at a
      obtain rfl := HO.dK.inj (Option.some.inj a)
      refine ⟨_, upd_same, Nat.le_trans (length_putK ..) (Nat.succ_le_succ b), fun k' v hv => ?_⟩
      rw [valV_put] at hv
      rcases Classical.em (k' = k) with e | e
      · rw [if_pos e] at hv
        cases hv
        exact ⟨l, rfl, ⟨[], tk _ _ hl, fun g h => absurd h (by simp), Nat.zero_le _⟩, nl⟩
      · rw [if_neg e] at hv
        obtain ⟨r, e1, e2, e3⟩ := c k' v hv
        exact ⟨r, e1, li e2, e3⟩
    · obtain ⟨kvs', a, b, c⟩ := O.dw d' h'
      exact ⟨kvs', by rw [upd_ne e]; exact a, Nat.le_succ_of_le b, fun k' v hv => let ⟨r, e1, e2, e3⟩ := c k' v hv; ⟨r, e1, li e2, e3⟩⟩
  · obtain ⟨r', a, gs, b, c⟩ := (O.done t ht).1 c
    exact ⟨r', a, gs, tk _ _ b, c⟩
  · obtain ⟨d', a, kvs', r', b, c, gs, h1, h2⟩ := (O.done t ht).2 c
    rcases Decidable.em (d' = d) with e | e
    · subst e
      rw [hd] at b
      obtain rfl := HO.dK.inj (Option.some.inj b)
      refine ⟨d', a, _, r', upd_same, ?_, gs, tk _ _ h1, h2⟩
      rw [valV_put, if_neg (fun z => by rw [z, no] at c; cases c)]
      exact c
    · exact ⟨d', a, kvs', r', by rw [upd_ne e]; exact b, c, gs, tk _ _ h1, h2⟩
end
/-- a state's list for a word -/
def Ent (H : Hp) (ds : List Addr) (i : Nat) (x : Str) (r : Addr) : Prop := ∃ (d : Addr) (kvs : List (Key × V)), ds[i]? = some d ∧ H d = some (.dK kvs) ∧ valV kvs (Sum.inr x : Key) = some (.ref r)
theorem Ent.iff_upd {H : Hp} {ds : List Addr} {i : Nat} {x : Str} {r l : Addr} {xs : List V} (no : ∀ kvs, H l ≠ some (.dK kvs)) : Ent (upd H l (.lst xs)) ds i x r ↔ Ent H ds i x r := by
  constructor
  · rintro ⟨d, kvs, a, b, c⟩
    have ne : d ≠ l := fun e => by rw [e, upd_same] at b; cases b
    rw [upd_ne ne] at b
    exact ⟨d, kvs, a, b, c⟩
  · rintro ⟨d, kvs, a, b, c⟩
    have ne : d ≠ l := fun e => no kvs (by rw [← e]; exact b)
    exact ⟨d, kvs, a, by rw [upd_ne ne]; exact b, c⟩
/-- nothing else is there, and no two lists are one -/
structure OY (H : Hp) (rows ds : List Addr) (ts : List Stp) : Prop where
  rn : rows.Nodup
  dn : ds.Nodup
  rl : ∀ r ∈ rows, ∃ xs, H r = some (.lst xs)
  dl : ∀ d ∈ ds, ∃ kvs, H d = some (.dK kvs)
  el : ∀ i x r, Ent H ds i x r → r ∉ rows ∧ ∃ xs, H r = some (.lst xs)
  ww : ∀ i x i' x' r, Ent H ds i x r → Ent H ds i' x' r → i = i' ∧ x = x'
  un : ∀ (i : Nat) r (gs : List Int) g, rows[i]? = some r → H r = some (.lst (gs.map V.int)) → g ∈ gs → ∃ t ∈ ts, t.a.toNat = i ∧ t.s = Str.ofString "" ∧ t.g = g
  wd : ∀ (i : Nat) x r (gs : List Int) g, Ent H ds i x r → H r = some (.lst (gs.map V.int)) → g ∈ gs → ∃ t ∈ ts, t.a.toNat = i ∧ t.s = x ∧ t.g = g
theorem nodup_at {xs : List Addr} (nd : xs.Nodup) {i j : Nat} {a : Addr} (hi : xs[i]? = some a) (hj : xs[j]? = some a) : i = j := by
  obtain ⟨li, ei⟩ := List.getElem?_eq_some_iff.mp hi
  obtain ⟨lj, ej⟩ := List.getElem?_eq_some_iff.mp hj
  rcases Nat.lt_trichotomy i j with c | c | c
  · exact absurd (ei.trans ej.symm) (List.pairwise_iff_getElem.mp nd i j li lj c)
  · exact c
  · exact absurd (ej.trans ei.symm) (List.pairwise_iff_getElem.mp nd j i lj li c)
section
variable {H : Hp} {rows ds : List Addr} {ts : List Stp}
theorem OY.same {H' : Hp} (O : OY H rows ds ts) (e : Same H H') : OY H' rows ds ts := by
  have back : ∀ {i x r}, Ent H' ds i x r → Ent H ds i x r := fun {i x r} ⟨d, kvs, a, b, c⟩ => by
    obtain ⟨kvs', hd⟩ := O.dl d (List.mem_of_getElem? a)
    have z := e _ _ hd
    rw [b] at z
    cases z
    exact ⟨d, kvs, a, hd, c⟩
  have lst : ∀ {r : Addr} {ys : List V}, (∃ xs, H r = some (.lst xs)) → H' r = some (.lst ys) → H r = some (.lst ys) := fun {r ys} ⟨xs, h⟩ h' => by
    have z := e _ _ h
    rw [h'] at z
    cases z
    exact h
  refine ⟨O.rn, O.dn, fun r hr => let ⟨xs, h⟩ := O.rl r hr; ⟨xs, e _ _ h⟩, fun d hd => let ⟨kvs, h⟩ := O.dl d hd; ⟨kvs, e _ _ h⟩, fun i x r h => let ⟨a, xs, b⟩ := O.el i x r (back h); ⟨a, xs, e _ _ b⟩, fun i x i' x' r h h' => O.ww i x i' x' r (back h) (back h'), fun i r gs g a b c => ?_, fun i x r gs g a b c => ?_⟩
  · exact O.un i r gs g a (lst (O.rl r (List.mem_of_getElem? a)) b) c
  · exact O.wd i x r gs g (back a) (lst (O.el i x r (back a)).2 b) c
theorem OY.lay {l : Addr} (O : OY H rows ds ts) (nl : H l = none) : OY (upd H l (.lst [])) rows ds ts := O.same (same_new nl)
theorem OY.app {r : Addr} {gs : List Int} {t : Stp} (O : OY H rows ds ts) (hr : H r = some (.lst (gs.map V.int))) (side : (rows[t.a.toNat]? = some r ∧ t.s = Str.ofString "") ∨ Ent H ds t.a.toNat t.s r) :
    OY (upd H r (.lst (gs.map V.int ++ [V.int t.g]))) rows ds (ts ++ [t]) := by
  have no : ∀ kvs, H r ≠ some (.dK kvs) := fun kvs z => by rw [hr] at z; cases z
  have iff : ∀ {i x r'}, Ent (upd H r (.lst (gs.map V.int ++ [V.int t.g]))) ds i x r' ↔ Ent H ds i x r' := fun {i x r'} => Ent.iff_upd no
  have isl : ∀ {r'}, (∃ xs, H r' = some (.lst xs)) → ∃ xs, upd H r (.lst (gs.map V.int ++ [V.int t.g])) r' = some (.lst xs) := fun {r'} ⟨xs, h⟩ => by
    rcases Decidable.em (r' = r) with e | e
    · exact ⟨_, by rw [e, upd_same]⟩
    · exact ⟨xs, by rw [upd_ne e]; exact h⟩
  have more : ∀ {p : Stp → Prop}, (∃ y ∈ ts, p y) → ∃ y ∈ ts ++ [t], p y := fun {p} ⟨y, m, h⟩ => ⟨y, List.mem_append_left _ m, h⟩
  have split : ∀ {hs : List Int} {g : Int}, upd H r (.lst (gs.map V.int ++ [V.int t.g])) r = some (.lst (hs.map V.int)) → g ∈ hs → g ∈ gs ∨ g = t.g := fun {hs g} e m => by
    rw [upd_same] at e
    have z : gs ++ [t.g] = hs := ints_inj (by rw [List.map_append]; exact HO.lst.inj (Option.some.inj e))
    rw [← z] at m
    exact (List.mem_append.mp m).imp id fun m => List.mem_singleton.mp m
  refine ⟨O.rn, O.dn, fun r' h => isl (O.rl r' h), fun d hd => ?_, fun i x r' h => let z := O.el i x r' (iff.mp h); ⟨z.1, isl z.2⟩, fun i x i' x' r' h h' => O.ww i x i' x' r' (iff.mp h) (iff.mp h'), fun i r' hs g a b c => ?_, fun i x r' hs g a b c => ?_⟩
  · obtain ⟨kvs, h⟩ := O.dl d hd
    exact ⟨kvs, by rw [upd_ne (fun e => no kvs (by rw [← e]; exact h))]; exact h⟩
  · rcases Decidable.em (r' = r) with e | e
    · subst e
      rcases split b c with c | c
      · exact more (O.un i r' gs g a hr c)
      · rcases side with ⟨s1, s2⟩ | s
        · exact ⟨t, List.mem_append_right _ (List.mem_singleton.mpr rfl), nodup_at O.rn s1 a, s2, c.symm⟩
        · exact absurd (List.mem_of_getElem? a) (O.el _ _ _ s).1
    · rw [upd_ne e] at b
      exact more (O.un i r' hs g a b c)
  · replace a := iff.mp a
    rcases Decidable.em (r' = r) with e | e
    · subst e
      rcases split b c with c | c
      · exact more (O.wd i x r' gs g a hr c)
      · rcases side with ⟨s1, s2⟩ | s
        · exact absurd (List.mem_of_getElem? s1) (O.el _ _ _ a).1
        · obtain ⟨e1, e2⟩ := O.ww _ _ _ _ _ s a
          exact ⟨t, List.mem_append_right _ (List.mem_singleton.mpr rfl), e1, e2, c.symm⟩
    · rw [upd_ne e] at b
      exact more (O.wd i x r' hs g a b c)
theorem OY.fresh {d l : Addr} {kvs : List (Key × V)} {i : Nat} {x : Str} (O : OY H rows ds ts) (nl : H l = none) (hi : ds[i]? = some d) (hd : H d = some (.dK kvs)) (no : valV kvs (Sum.inr x : Key) = none) :
    OY (upd (upd H l (.lst [])) d (.dK (putK kvs (Sum.inr x) (.ref l)))) rows ds ts ∧ Ent (upd (upd H l (.lst [])) d (.dK (putK kvs (Sum.inr x) (.ref l)))) ds i x l := by
  have O1 := O.lay nl
  have e1 : Same H (upd H l (.lst [])) := same_new nl
  have hd1 := e1 _ _ hd
  have old : ∀ {i' x' r'}, Ent (upd (upd H l (.lst [])) d (.dK (putK kvs (Sum.inr x) (.ref l)))) ds i' x' r' → Ent H ds i' x' r' ∨ (i' = i ∧ x' = x ∧ r' = l) := fun {i' x' r'} ⟨d', kvs', a, b, c⟩ => by
    rcases Decidable.em (d' = d) with e | e
    · subst e
      rw [upd_same] at b
      cases b
      rw [valV_put] at c
      rcases Classical.em ((Sum.inr x' : Key) = Sum.inr x) with f | f
      · rw [if_pos f] at c
        cases c
        exact .inr ⟨nodup_at O.dn a hi, Sum.inr.inj f, rfl⟩
      · rw [if_neg f] at c
        exact .inl ⟨d', kvs, a, hd, c⟩
    · rw [upd_ne e] at b
      exact .inl ((Ent.iff_upd (fun kv z => by rw [nl] at z; cases z)).mp ⟨d', kvs', a, b, c⟩)
  have tk : ∀ {b xs}, upd H l (.lst []) b = some (.lst xs) → upd (upd H l (.lst [])) d (.dK (putK kvs (Sum.inr x) (.ref l))) b = some (.lst xs) := fun {b xs} z => by
    rw [upd_ne (ne_of z hd1 (by intro y; cases y))]; exact z
  have tb : ∀ {b xs}, upd (upd H l (.lst [])) d (.dK (putK kvs (Sum.inr x) (.ref l))) b = some (.lst xs) → upd H l (.lst []) b = some (.lst xs) := fun {b xs} z => by
    rcases Decidable.em (b = d) with e | e
    · rw [e, upd_same] at z; cases z
    · rw [upd_ne e] at z; exact z
  have nlr : l ∉ rows := fun h => by obtain ⟨xs, z⟩ := O.rl l h; rw [nl] at z; cases z
  have nle : ∀ {i' x'}, ¬ Ent H ds i' x' l := fun {i' x'} h => by obtain ⟨xs, z⟩ := (O.el _ _ _ h).2; rw [nl] at z; cases z
  refine ⟨⟨O.rn, O.dn, fun r h => let ⟨xs, z⟩ := O1.rl r h; ⟨xs, tk z⟩, fun d' h => ?_, fun i' x' r' h => ?_, fun i1 x1 i2 x2 r' h1 h2 => ?_, fun i' r' gs g a b c => O1.un i' r' gs g a (tb b) c, fun i' x' r' gs g a b c => ?_⟩, d, _, hi, upd_same, by rw [valV_put, if_pos rfl]⟩
  · rcases Decidable.em (d' = d) with e | e
    · exact ⟨_, by rw [e, upd_same]⟩
    · obtain ⟨kv, z⟩ := O1.dl d' h
      exact ⟨kv, by rw [upd_ne e]; exact z⟩
  · rcases old h with h | ⟨_, _, rfl⟩
    · obtain ⟨a, xs, b⟩ := O.el _ _ _ h
      exact ⟨a, xs, tk (e1 _ _ b)⟩
    · exact ⟨nlr, [], tk upd_same⟩
  · rcases old h1 with h1 | ⟨a1, b1, c1⟩
    · rcases old h2 with h2 | ⟨a2, b2, c2⟩
      · exact O.ww _ _ _ _ _ h1 h2
      · exact absurd (by rw [← c2]; exact h1) nle
    · rcases old h2 with h2 | ⟨a2, b2, c2⟩
      · exact absurd (by rw [← c1]; exact h2) nle
      · exact ⟨a1.trans a2.symm, b1.trans b2.symm⟩
  · rcases old a with a | ⟨_, _, rfl⟩
    · exact O1.wd i' x' r' gs g ((Ent.iff_upd (fun kv z => by rw [nl] at z; cases z)).mpr a) (tb b) c
    · have z := tb b
      rw [upd_same] at z
      have y : ([] : List Int) = gs := ints_inj (HO.lst.inj (Option.some.inj z))
      rw [← y] at c
      cases c
end
def oFlds (uA wA : Addr) : List (Str × V) := putF "by_word" (.ref wA) (putF "unseen" (.ref uA) [])
/-- an outlook at p, of these steps -/
def OutAt (CO : Addr) (H : Hp) (p : Addr) (many : Int) (ts : List Stp) : Prop := ∃ (dx uA wA : Addr) (rows ds : List Addr), H p = some (.ins CO dx (oFlds uA wA)) ∧ H uA = some (.lst (rows.map V.ref)) ∧ H wA = some (.lst (ds.map V.ref)) ∧
  (rows.length : Int) = many ∧ (ds.length : Int) = many ∧ (∀ r ∈ rows, LI many 64 H r) ∧
  (∀ d ∈ ds, ∃ kvs : List (Key × V), H d = some (.dK kvs) ∧ ∀ (k : Key) v, valV kvs k = some v → ∃ r, v = .ref r ∧ LI many 64 H r) ∧
  (∀ t ∈ ts, (t.s = Str.ofString "" → ∃ r, rows[t.a.toNat]? = some r ∧ Has H r t.g) ∧ ((t.s ≠ Str.ofString "" → ∃ d, ds[t.a.toNat]? = some d ∧ Wd H d t.s t.g))) ∧ OY H rows ds ts
theorem OutAt.same {CO : Addr} {H H' : Hp} {p : Addr} {many : Int} {ts : List Stp} (e : Same H H') (h : OutAt CO H p many ts) : OutAt CO H' p many ts := by
  obtain ⟨dx, uA, wA, rows, ds, h1, h2, h3, h4, h5, h6, h7, h8, h9⟩ := h
  refine ⟨dx, uA, wA, rows, ds, e _ _ h1, e _ _ h2, e _ _ h3, h4, h5, fun r hr => ?_, fun d hd => ?_, fun t ht => ⟨fun c => ?_, fun c => ?_⟩, h9.same e⟩
  · obtain ⟨gs, a, b⟩ := h6 r hr
    exact ⟨gs, e _ _ a, b⟩
  · obtain ⟨kvs, a, b⟩ := h7 d hd
    exact ⟨kvs, e _ _ a, fun k v hv => let ⟨r, e1, gs, l⟩ := b k v hv; ⟨r, e1, gs, e _ _ l.1, l.2⟩⟩
  · obtain ⟨r, a, gs, b⟩ := (h8 t ht).1 c
    exact ⟨r, a, gs, e _ _ b.1, b.2⟩
  · obtain ⟨d, a, kvs, r, b, b2, gs, b3⟩ := (h8 t ht).2 c
    exact ⟨d, a, kvs, r, e _ _ b, b2, gs, e _ _ b3.1, b3.2⟩
def spOInit (CO : Addr) : Sp := fun vs H Q _ => ∃ (p dx a : Addr) (many : Int) (xs : List V) (ts : List Stp), vs = [.ref p, .int many, .ref a] ∧ H p = some (.ins CO dx []) ∧ H a = some (.lst xs) ∧ Tri H xs ts ∧ (∀ t ∈ ts, OkS many t) ∧ 0 ≤ many ∧ many ≤ 3000 ∧ xs.length < 64 ∧
  ∀ H', OutAt CO H' p many ts → Off p H H' → Q .non H'
structure TxtO (K : PySem.W.Frag) (mg : Str → Option Value) (CO : Addr) : Prop where
  cl : Cls K CO
  n_unseen : NoAttr K CO "unseen"
  n_by_word : NoAttr K CO "by_word"
  range : mg "range" = none
abbrev sOInit : Stmt := inClass (top 20) 0
abbrev nOI : List Str := ["self", "many", "steps", "state", "seen", "goal", "_"]
theorem scOI : FnScope nOI ["self", "many", "steps"] (defScope sOInit) := ⟨rfl, rfl, rfl, by decide +kernel, rfl, by decide +kernel, by decide +kernel⟩
set_option maxHeartbeats 1000000 in
theorem ok_oInit {f CO : Addr} {fd : FuncData} (F : Fun K "__init__" "Outlook.__init__" sOInit f fd) (T : TxtO K mg CO) : FnOk P w K mg base CX0 1 f fd ["self", "many", "steps"] (spOInit CO) := by
  refine F.ok scOI (fun vs H Q E h => ?_) (fun cdv A outer s H vs Q E hr h => ?_)
  · obtain ⟨p, dx, a, many, xs, ts, rfl, _⟩ := h
    rfl
  · obtain ⟨p, dx, a, many, xs, ts, rfl, hp, ha, tri, oks, m1, m2, few, k⟩ := h
    have nd := scOI.nd
    refine ⟨_, (pss_cons (ps_fld (pv 0) (pe_lc (own := [("_", 6)]) (by rfl) nd (pi_range1 (by rfl) T.range (pa_cons (pv 1) pa_nil)) (blkOk_by (N := nOI) (sc := defScope sOInit) (by decide +kernel)) (fun _ _ _ _ _ => (pg_name (i := 6) nd rfl (Or.inl rfl))) (fun _ _ _ _ _ => pts_nil) (fun _ _ _ _ _ => (pe_lst pa_nil))) rfl)
      (pss_cons (ps_fld (pv 0) (pe_lc (own := [("_", 6)]) (by rfl) nd (pi_range1 (by rfl) T.range (pa_cons (pv 1) pa_nil)) (blkOk_by (N := nOI) (sc := defScope sOInit) (by decide +kernel)) (fun _ _ _ _ _ => (pg_name (i := 6) nd rfl (Or.inl rfl))) (fun _ _ _ _ _ => pts_nil) (fun _ _ _ _ _ => pe_dnewK)) rfl)
      (pss_one (ps_for PassesOwn.never rfl (pi_list (pv 2)) (pg_tup rfl (pgs_cons (pg_name (i := 3) nd rfl (Or.inl rfl)) (pgs_cons (pg_name (i := 4) nd rfl (Or.inl rfl)) (pgs_cons (pg_name (i := 5) nd rfl (Or.inl rfl)) pgs_nil))))
        (pss_one (ps_if (pt_truth (pv 4) (by intro _; rfl))
          (pss_one (ps_expr (pe_bm PySem.F.plainAttrs_list PySem.F.slot_list_append PySem.F.type_list_append mt_append (pe_bm PySem.F.plainAttrs_dict PySem.F.slot_dict_setdefault PySem.F.type_dict_setdefault mt_setd (pe_ix ix_list (pe_fld (pv 0) rfl) (pv 3) (fun _ _ => rfl)) (pa_cons (pv 4) (pa_cons (pe_lst pa_nil) pa_nil))) (pa_cons (pv 5) pa_nil))))
          (pss_one (ps_expr (pe_bm PySem.F.plainAttrs_list PySem.F.slot_list_append PySem.F.type_list_append mt_append (pe_ix ix_list (pe_fld (pv 0) rfl) (pv 3) (fun _ _ => rfl)) (pa_cons (pv 5) pa_nil)))))))))), ?_⟩
    have lxs : xs.length = ts.length := PySem.Paired.length tri
    refine into_fld (news_value (o0 := .lst []) (fun σ H Q h => ⟨Nat.zero_le _, h⟩) rfl (fun v => rfl) m1 m2 fun H1 uA rows e1 nU hU lenU newU ndU => ?_)
    have hp1 := e1 _ _ hp
    have npU : uA ≠ p := ne_of hU hp1 (by intro y; cases y)
    refine ⟨_, rfl, p, CO, dx, _, rfl, hp1, T.cl, T.n_unseen, by decide, ?_⟩
    generalize hH2 : upd H1 p (.ins CO dx (putF "unseen" (V.ref uA) [])) = H2
    have hp2 : H2 p = some (.ins CO dx (putF "unseen" (V.ref uA) [])) := by rw [← hH2, upd_same]
    have o12 : Off p H1 H2 := by rw [← hH2]; exact .upd
    refine into_fld (news_value (o0 := .dK []) (fun σ H Q h => h) rfl (fun v => rfl) m1 m2 fun H3 wA ds e3 nW hW lenW newW ndW => ?_)
    have hp3 := e3 _ _ hp2
    have npW : wA ≠ p := ne_of hW hp3 (by intro y; cases y)
    refine ⟨_, rfl, p, CO, dx, _, rfl, hp3, T.cl, T.n_by_word, by have := length_putF "unseen" (V.ref uA) []; show _ < 1000; simp only [List.length_nil] at this; omega, ?_⟩
    generalize hH4 : upd H3 p (.ins CO dx (putF "by_word" (V.ref wA) (putF "unseen" (V.ref uA) []))) = H4
    have hp4 : H4 p = some (.ins CO dx (oFlds uA wA)) := by rw [← hH4, upd_same]; rfl
    have o34 : Off p H3 H4 := by rw [← hH4]; exact .upd
    have npr : ∀ r ∈ rows, r ≠ p := fun r hr => ne_of (newU r hr).1 hp1 (by intro y; cases y)
    have npd : ∀ d ∈ ds, d ≠ p := fun d hd => ne_of (newW d hd).1 hp3 (by intro y; cases y)
    have hr4 : ∀ r ∈ rows, H4 r = some (.lst []) := fun r hr => o34 _ _ (e3 _ _ (o12 _ _ (newU r hr).1 (npr r hr))) (npr r hr)
    have hd4 : ∀ d ∈ ds, H4 d = some (.dK []) := fun d hd => o34 _ _ (newW d hd).1 (npd d hd)
    have off04 : Off p H H4 := fun b o z n => o34 _ _ (e3 _ _ (o12 _ _ (e1 _ _ z) n)) n
    have hU4 := o34 _ _ (e3 _ _ (o12 _ _ hU npU)) npU
    have hW4 := o34 _ _ hW npW
    have ha4 := off04 _ _ ha (ne_of ha hp (by intro y; cases y))
    have tri4 : Tri H4 xs ts := tri.keep fun q us z => off04 _ _ z (ne_of z hp (by intro y; cases y))
    have nrow : ∀ {b o}, H b = some o → b ∉ rows := fun {b o} z hr => by have y := (newU b hr).2.1; rw [z] at y; cases y
    have nds : ∀ {b o}, H2 b = some o → b ∉ ds := fun {b o} z hr => by have y := (newW b hr).2.1; rw [z] at y; cases y
    have nds1 : ∀ {b o}, H b = some o → b ≠ p → b ∉ ds := fun {b o} z n => nds (o12 _ _ (e1 _ _ z) n)
    have npR : p ∉ rows := fun h => npr p h rfl
    have npD : p ∉ ds := fun h => npd p h rfl
    have nUr : uA ∉ rows := fun h => (newU uA h).2.2 rfl
    have nUd : uA ∉ ds := nds (o12 _ _ hU npU)
    have nWd : wA ∉ ds := fun h => (newW wA h).2.2 rfl
    have nWr : wA ∉ rows := fun h => by have z := hr4 wA h; rw [hW4] at z; cases ds with
      | nil =>
        have z1 : (rows.length : Int) = 0 := by rw [lenU, ← lenW]; rfl
        have z2 : rows = [] := List.length_eq_zero_iff.mp (by omega)
        rw [z2] at h; cases h
      | cons d ds => cases z
    have O4 : OI many 0 0 H4 H4 rows ds [] := ⟨fun b o z _ _ => z, fun r hr => ⟨[], hr4 r hr, fun g h => absurd h (by simp), Nat.zero_le _⟩, fun d hd => ⟨[], hd4 d hd, Nat.zero_le _, fun k v h => by cases h⟩, fun t ht => absurd ht (by simp)⟩
    have none4 : ∀ {i x r}, ¬ Ent H4 ds i x r := fun {i x r} ⟨d, kvs, a, b, c⟩ => by
      rw [hd4 d (List.mem_of_getElem? a)] at b
      cases b
      cases c
    have Y4 : OY H4 rows ds [] := ⟨ndU, ndW, fun r h => ⟨_, hr4 r h⟩, fun d h => ⟨_, hd4 d h⟩, fun i x r h => absurd h none4, fun i x i' x' r h => absurd h none4, fun i r gs g a b c => by
      rw [hr4 r (List.mem_of_getElem? a)] at b
      have z : ([] : List Int) = gs := ints_inj (HO.lst.inj (Option.some.inj b))
      rw [← z] at c
      exact absurd c (by simp), fun i x r gs g h => absurd h none4⟩
    refine ⟨_, rfl, a, rfl, ⟨_, SqL.of ha4⟩, for_list (K := K) (a := a) (xs := xs) (fun i σ H' => ∃ v3 v4 v5, σ = [some (.ref p), some (.int many), some (.ref a), v3, v4, v5, none] ∧ OI many i i H4 H' rows ds (ts.take i) ∧ OY H' rows ds (ts.take i))
      ⟨none, none, none, rfl, O4, Y4⟩ (fun i σ H' _ ⟨_, _, _, _, O, _⟩ => SqL.of (O.off _ _ ha4 (nrow ha) (nds1 ha (ne_of ha hp (by intro y; cases y))))) ?_ ?_⟩
    · rintro i x σ H5 hx ⟨v3, v4, v5, rfl, O, Y⟩
      obtain ⟨t, ht, q, rfl, hq⟩ := paired_get tri hx
      have lt : i < xs.length := (List.getElem?_eq_some_iff.mp hx).1
      have tm := List.mem_of_getElem? ht
      have ok := oks t tm
      have nqp : q ≠ p := ne_of hq hp (by intro y; cases y)
      have hq5 := O.off _ _ (off04 _ _ hq nqp) (nrow hq) (nds1 hq nqp)
      have hp5 := O.off _ _ hp4 npR npD
      have hU5 := O.off _ _ hU4 nUr nUd
      have hW5 := O.off _ _ hW4 nWr nWd
      have tk : ∀ {p' q' : Nat} {H' : Hp}, OI many p' q' H4 H' rows ds (ts.take i) → p' ≤ i + 1 → q' ≤ i + 1 → ((t.s = Str.ofString "" → ∃ r, rows[t.a.toNat]? = some r ∧ Has H' r t.g) ∧ (t.s ≠ Str.ofString "" → ∃ d, ds[t.a.toNat]? = some d ∧ Wd H' d t.s t.g)) → OY H' rows ds (ts.take i ++ [t]) →
          OI many (i + 1) (i + 1) H4 H' rows ds (ts.take (i + 1)) ∧ OY H' rows ds (ts.take (i + 1)) := fun {p' q' H'} O' l1 l2 new Y' => by
        have O2 := O'.mono l1 l2
        refine ⟨⟨O2.off, O2.rw_, O2.dw, fun y hy => ?_⟩, by rw [List.take_add_one, ht]; exact Y'⟩
        rcases (take_succ_mem ht y).mp hy with hy | rfl
        · exact O2.done y hy
        · exact new
      refine ⟨q, _, rfl, SqT.of hq5, rfl, _, _, rfl, _, _, rfl, _, _, rfl, rfl, ?_⟩
      refine ⟨_, rfl, _, ⟨wordE_len ok.2.2.2.2.2, rfl⟩, ?_⟩
      rw [str_zero]
      rcases Classical.em (t.s = Str.ofString "") with c | c
      · rw [decide_eq_true c]
        obtain ⟨r, hr1, hr2⟩ := ref_at (rows := rows) ok.1 (by have := ok.2.1; omega)
        obtain ⟨gs, g1, g2, g3⟩ := O.rw_ r (List.mem_of_getElem? hr1)
        refine iteF ⟨_, rfl, p, CO, dx, _, _, rfl, hp5, T.cl, T.n_unseen, ?_, _, rfl, uA, _, _, _, rfl, rfl, SqL.of hU5, hr2, .inl ⟨rfl, _, SqL.of g1⟩, _, rfl, r, _, _, rfl, rfl, g1, by rw [List.length_map, sizeLine_eq]; omega, _, _, _, rfl, ?_⟩
        · unfold oFlds; rw [lookup_putF, if_neg (by decide +kernel), lookup_putF, if_pos rfl]
        · refine tk (O.app g1 ⟨ok.2.2.1, ok.2.2.2.1⟩ (.inl (List.mem_of_getElem? hr1))) (Nat.le_refl _) (Nat.le_succ _) ⟨fun _ => ⟨r, hr1, gs ++ [t.g], by rw [upd_same, List.map_append]; rfl, List.mem_append_right _ (List.mem_singleton.mpr rfl)⟩, fun z => absurd c z⟩ (Y.app g1 (.inl ⟨hr1, c⟩))
      · rw [decide_eq_false c]
        obtain ⟨d, hd1, hd2⟩ := ref_at (rows := ds) ok.1 (by have := ok.2.1; omega)
        have md := List.mem_of_getElem? hd1
        obtain ⟨kvs, kd, kl, ka⟩ := O.dw d md
        refine iteT ⟨_, rfl, p, CO, dx, _, _, rfl, hp5, T.cl, T.n_by_word, ?_, _, rfl, wA, _, _, _, rfl, rfl, SqL.of hW5, hd2, .inr (.inr (.inl ⟨rfl, .inl ⟨kvs, kd⟩⟩)), _, rfl, Nat.zero_le _, fun l nl => ?_⟩
        · unfold oFlds; rw [lookup_putF, if_pos rfl]
        have el : Same H5 (upd H5 l (.lst [])) := same_new nl
        have kd6 := el _ _ kd
        have O6 := O.lay nl
        refine ⟨d, kvs, (Sum.inr t.s : Key), .ref l, rfl, rfl, kd6, by rw [sizeLine_eq]; omega, fun u hu => ?_, fun hn => ?_⟩
        · obtain ⟨r, rfl, ⟨gs, g1, g2, g3⟩, g4⟩ := ka _ _ hu
          have g16 := el _ _ g1
          refine ⟨.inl ⟨rfl, _, SqL.of g16⟩, _, rfl, r, _, _, rfl, rfl, g16, by rw [List.length_map, sizeLine_eq]; omega, _, _, _, rfl, ?_⟩
          refine tk (O6.app g16 ⟨ok.2.2.1, ok.2.2.2.1⟩ (.inr g4)) (Nat.le_refl _) (Nat.le_succ _) ⟨fun z => absurd z c, fun _ => ⟨d, hd1, kvs, r, by rw [upd_ne (ne_of kd6 g16 (by intro y; cases y))]; exact kd6, hu, gs ++ [t.g], by rw [upd_same, List.map_append]; rfl, List.mem_append_right _ (List.mem_singleton.mpr rfl)⟩⟩ ((Y.lay nl).app g16 (.inr ⟨d, kvs, hd1, kd6, hu⟩))
        · have nl4 : H4 l = none := by
            cases z : H4 l with
            | none => rfl
            | some o =>
              rcases Classical.em (l ∈ rows) with y | y
              · obtain ⟨gs, g1, _⟩ := O.rw_ l y
                rw [nl] at g1; cases g1
              · rcases Classical.em (l ∈ ds) with y2 | y2
                · obtain ⟨kk, g1, _⟩ := O.dw l y2
                  rw [nl] at g1; cases g1
                · have g1 := O.off _ _ z y y2
                  rw [nl] at g1; cases g1
          have O7 := O6.put kd6 md upd_same nl4 hn
          have Y7 := Y.fresh nl hd1 kd hn
          generalize hH7 : upd (upd H5 l (.lst [])) d (.dK (putK kvs (Sum.inr t.s) (.ref l))) = H7 at O7 Y7
          have nld : l ≠ d := fun z => by rw [z, kd] at nl; cases nl
          have hl7 : H7 l = some (.lst (([] : List Int).map V.int)) := by rw [← hH7, upd_ne nld, upd_same]; rfl
          have hd7 : H7 d = some (.dK (putK kvs (Sum.inr t.s) (.ref l))) := by rw [← hH7, upd_same]
          refine ⟨.inl ⟨rfl, _, SqL.of hl7⟩, _, rfl, l, _, _, rfl, rfl, hl7, by rw [List.length_map, sizeLine_eq]; decide, _, _, _, rfl, ?_⟩
          refine tk (O7.app hl7 ⟨ok.2.2.1, ok.2.2.2.1⟩ (.inr nl4)) (Nat.le_refl _) (Nat.le_refl _) ⟨fun z => absurd z c, fun _ => ⟨d, hd1, _, l, by rw [upd_ne (Ne.symm nld)]; exact hd7, by rw [valV_put, if_pos rfl], [t.g], by rw [upd_same]; rfl, List.mem_singleton.mpr rfl⟩⟩ (Y7.1.app hl7 (.inr Y7.2))
    · rintro σ H5 ⟨v3, v4, v5, rfl, O, Y⟩
      rw [lxs, List.take_length] at O Y
      refine k H5 ⟨dx, uA, wA, rows, ds, O.off _ _ hp4 npR npD, O.off _ _ hU4 nUr nUd, O.off _ _ hW4 nWr nWd, lenU, lenW, fun r hr => (O.rw_ r hr).mono (by omega), fun d hd => ?_, O.done, Y⟩ fun b o z n => O.off _ _ (off04 _ _ z n) (nrow z) (nds1 z n)
      obtain ⟨kvs, c1, c2, c3⟩ := O.dw d hd
      exact ⟨kvs, c1, fun k v h => let ⟨r, e, l, _⟩ := c3 k v h; ⟨r, e, l.mono (by omega)⟩⟩
end
end K1
end
section
/-! Small lemmas of lists. -/
namespace K1
open PySem L2
theorem short_any {α : Type} [DecidableEq α] : ∀ {l m : List α}, l.Nodup → (∀ s ∈ l, s ∈ m) → l.length ≤ m.length
  | [], m, _, _ => Nat.zero_le _
  | s :: l, m, n, h => by
    obtain ⟨n1, n2⟩ := List.nodup_cons.mp n
    have hm := h s (List.mem_cons_self ..)
    have ih := short_any (l := l) (m := m.erase s) n2 fun t ht => (List.mem_erase_of_ne (fun e => n1 (by rw [← e]; exact ht))).mpr (h t (List.mem_cons_of_mem _ ht))
    rw [List.length_erase_of_mem hm] at ih
    have := List.length_pos_of_mem hm
    rw [List.length_cons]; omega
theorem few_ints {fs : List Int} {many : Int} (nd : fs.Nodup) (h : ∀ x ∈ fs, 0 ≤ x ∧ x < many) : fs.length ≤ many.toNat := by
  have z := short_any (m := (List.range many.toNat).map fun (i : Nat) => (i : Int)) nd fun x hx => by
    obtain ⟨a, b⟩ := h x hx
    exact List.mem_map.mpr ⟨x.toNat, List.mem_range.mpr (by omega), by omega⟩
  simpa using z
theorem int_at {fs : List Int} {n : Nat} (h : n < fs.length) : ∃ x, fs[n]? = some x ∧ atI (fs.map V.int) (n : Int) = some (.int x) :=
  ⟨fs[n], List.getElem?_eq_getElem h, atI_nat (by rw [List.getElem?_map, List.getElem?_eq_getElem h]; rfl)⟩
theorem inV_str (x : Str) (ks : List Str) : inV (.str x) (ks.map V.str) = decide (x ∈ ks) := by
  rw [Bool.eq_iff_iff, decide_eq_true_iff]
  unfold inV
  rw [List.any_map, List.any_eq_true]
  constructor
  · rintro ⟨k, hk, e⟩
    have z : (k == x) = true := e
    rw [← beq_iff_eq.mp z]; exact hk
  · intro h
    exact ⟨x, h, (beq_self_eq_true x : (x == x) = true)⟩
theorem flat_strs : ∀ ks : List Str, (ks.map V.str).all flatV = true
  | [] => rfl
  | _ :: ks => by rw [List.map_cons, List.all_cons, flat_strs ks]; rfl
end K1
end
section
/-! States spread. -/
namespace K1
open PySem L2
open MX (Rise Up)
section
variable {P : Program} {w : World} {K : PySem.W.Frag} {mg : Str → Option Value} {base : Heap}
def Closed (ts : List Stp) (ms : List Int) : Prop := ∀ t ∈ ts, t.s = Str.ofString "" → t.a ∈ ms → t.g ∈ ms
def InR (many : Int) (ns : List Int) : Prop := ∀ x ∈ ns, 0 ≤ x ∧ x < many
theorem lefts : ∀ {M : List Key}, (∀ k ∈ M, k.isLeft = true) → ∃ ns : List Int, M = ns.map Sum.inl
  | [], _ => ⟨[], rfl⟩
  | k :: M, h => by
    obtain ⟨ns, e⟩ := lefts fun q hq => h q (List.mem_cons_of_mem _ hq)
    cases k with
    | inl i => exact ⟨i :: ns, by rw [e]; rfl⟩
    | inr x => exact absurd (h _ (List.mem_cons_self ..)) Bool.false_ne_true
theorem mem_inl {x : Int} {ns : List Int} : (Sum.inl x : Key) ∈ ns.map Sum.inl ↔ x ∈ ns := by
  constructor
  · intro h
    obtain ⟨y, hy, e⟩ := List.mem_map.mp h
    cases e; exact hy
  · exact fun h => List.mem_map_of_mem h
theorem ints_keys (ns : List Int) : (ns.map (Sum.inl : Int → Key)).map kV = ns.map V.int := by rw [List.map_map]; rfl
structure SSt (P : Program) (w : World) (many : Int) (H H' : Hp) (l d : Addr) (b : Nat) (fs : List Int) : Prop where
  same : Same H H'
  lst : H' l = some (.lst (fs.map V.int))
  set : ∃ S n, H' d = some (MX.SetQO P w d S n) ∧ n ≤ b + fs.length ∧ ∀ x : Int, S (Sum.inl x) = true ↔ x ∈ fs
  nd : fs.Nodup
  ins : InR many fs
theorem SSt.add {many : Int} {H H' : Hp} {l d : Addr} {b n : Nat} {fs : List Int} {x : Int} {S : Key → Bool} (R : SSt P w many H H' l d b fs) (nl : H l = none) (ndl : l ≠ d) (nd' : H d = none) (hk : H' d = some (MX.SetQO P w d S n)) (hl : n ≤ b + fs.length) (hm : ∀ x : Int, S (Sum.inl x) = true ↔ x ∈ fs)
    (new : x ∉ fs) (hx : 0 ≤ x ∧ x < many) : SSt P w many H (upd (upd H' d (MX.SetQO P w d (fun j => S j || decide (j = Sum.inl x)) (if S (Sum.inl x) = true then n else n + 1))) l (.lst (fs.map V.int ++ [V.int x]))) l d b (fs ++ [x]) where
  same := fun b o z => by
    rw [upd_ne (ne_of_none z nl), upd_ne (ne_of_none z nd')]
    exact R.same b o z
  lst := by rw [upd_same, List.map_append]; rfl
  set := by
    refine ⟨_, _, by rw [upd_ne (Ne.symm ndl), upd_same], ?_, fun y => ?_⟩
    · rw [List.length_append]
      split
      · show _ ≤ _ + (_ + 1); omega
      · show _ ≤ _ + (_ + 1); omega
    · rw [Bool.or_eq_true, hm y, decide_eq_true_iff, List.mem_append, List.mem_singleton]
      exact or_congr Iff.rfl ⟨fun z => Sum.inl.inj z, fun z => by rw [z]⟩
  nd := List.nodup_append.mpr ⟨R.nd, by simp, fun a ha b hb e => new (by rw [← List.mem_singleton.mp hb, ← e]; exact ha)⟩
  ins := fun y hy => by
    rcases List.mem_append.mp hy with hy | hy
    · exact R.ins y hy
    · rw [List.mem_singleton.mp hy]; exact hx
/-- by unseen steps -/
inductive Un (ts : List Stp) : Int → Int → Prop
  | refl {a : Int} : Un ts a a
  | step {a : Int} {t : Stp} (h : Un ts a t.a) (m : t ∈ ts) (e : t.s = Str.ofString "") : Un ts a t.g
def Clo (ts : List Stp) (ns : List Int) (x : Int) : Prop := ∃ y ∈ ns, Un ts y x
/-- some states and those behind unseen steps, ascending -/
noncomputable def spr (ts : List Stp) (many : Int) (ns : List Int) : List Int := ((List.range many.toNat).map Int.ofNat).filter fun x => @decide (Clo ts ns x) (Classical.propDecidable _)
theorem mem_range {many x : Int} : x ∈ (List.range many.toNat).map Int.ofNat ↔ 0 ≤ x ∧ x < many := by
  rw [List.mem_map]
  constructor
  · rintro ⟨n, hn, rfl⟩
    have := List.mem_range.mp hn
    exact ⟨Int.natCast_nonneg n, by show (n : Int) < many; omega⟩
  · rintro ⟨h1, h2⟩
    exact ⟨x.toNat, List.mem_range.mpr (by omega), by show ((x.toNat : Nat) : Int) = x; omega⟩
theorem mem_spr {ts : List Stp} {many : Int} {ns : List Int} {x : Int} : x ∈ spr ts many ns ↔ (0 ≤ x ∧ x < many) ∧ Clo ts ns x := by
  unfold spr
  rw [List.mem_filter, mem_range]
  exact and_congr Iff.rfl (@decide_eq_true_iff _ (Classical.propDecidable _))
theorem spr_asc {ts : List Stp} {many : Int} {ns : List Int} : (spr ts many ns).Pairwise (· < ·) := by
  refine List.Pairwise.filter _ (List.pairwise_map.mpr (List.pairwise_lt_range.imp fun {a b} h => ?_))
  show (a : Int) < (b : Int)
  omega
theorem spr_inr {ts : List Stp} {many : Int} {ns : List Int} : InR many (spr ts many ns) := fun x hx => (mem_spr.mp hx).1
theorem spr_nodup {ts : List Stp} {many : Int} {ns : List Int} : (spr ts many ns).Nodup := spr_asc.imp fun {a b} h e => by rw [e] at h; exact Int.lt_irrefl _ h
theorem asc_eq : ∀ {xs ys : List Int}, xs.Pairwise (· < ·) → ys.Pairwise (· < ·) → (∀ x, x ∈ xs ↔ x ∈ ys) → xs = ys
  | [], [], _, _, _ => rfl
  | [], y :: ys, _, _, h => absurd ((h y).mpr List.mem_cons_self) (by simp)
  | x :: xs, [], _, _, h => absurd ((h x).mp List.mem_cons_self) (by simp)
  | x :: xs, y :: ys, hx, hy, h => by
    obtain ⟨hx1, hx2⟩ := List.pairwise_cons.mp hx
    obtain ⟨hy1, hy2⟩ := List.pairwise_cons.mp hy
    have e : x = y := by
      rcases List.mem_cons.mp ((h x).mp List.mem_cons_self) with e | m1
      · exact e
      · rcases List.mem_cons.mp ((h y).mpr List.mem_cons_self) with e | m2
        · exact e.symm
        · exact absurd (Int.lt_trans (hy1 x m1) (hx1 y m2)) (Int.lt_irrefl _)
    subst e
    rw [asc_eq hx2 hy2 fun z => ?_]
    constructor
    · intro m
      rcases List.mem_cons.mp ((h z).mp (List.mem_cons_of_mem _ m)) with e | m'
      · have := hx1 z m; rw [e] at this; exact absurd this (Int.lt_irrefl _)
      · exact m'
    · intro m
      rcases List.mem_cons.mp ((h z).mpr (List.mem_cons_of_mem _ m)) with e | m'
      · have := hy1 z m; rw [e] at this; exact absurd this (Int.lt_irrefl _)
      · exact m'
theorem spr_mem {ts : List Stp} {many : Int} {ns ms : List Int} (h : ∀ x, x ∈ ns ↔ x ∈ ms) : spr ts many ns = spr ts many ms := asc_eq spr_asc spr_asc fun x => by
  rw [mem_spr, mem_spr]
  exact and_congr Iff.rfl ⟨fun ⟨y, m, u⟩ => ⟨y, (h y).mp m, u⟩, fun ⟨y, m, u⟩ => ⟨y, (h y).mpr m, u⟩⟩
theorem Closed.un {ts : List Stp} {ms : List Int} (cl : Closed ts ms) {a b : Int} (u : Un ts a b) (h : a ∈ ms) : b ∈ ms := by
  induction u with
  | refl => exact h
  | step _ m e ih => exact cl _ m e ih
theorem spr_is {ts : List Stp} {many : Int} {ns ms : List Int} (asc : ms.Pairwise (· ≤ ·)) (nd : ms.Nodup) (inr : InR many ms) (sub : ∀ x ∈ ns, x ∈ ms) (cl : Closed ts ms) (only : ∀ x ∈ ms, Clo ts ns x) : ms = spr ts many ns := by
  have lt : ms.Pairwise (· < ·) := (List.Pairwise.and asc nd).imp fun {a b} h => by
    have h1 := h.1
    have h2 : a ≠ b := h.2
    show a < b
    omega
  refine asc_eq lt spr_asc fun x => ?_
  rw [mem_spr]
  exact ⟨fun m => ⟨inr x m, only x m⟩, fun ⟨_, y, m, u⟩ => cl.un u (sub y m)⟩
def spSpread (CO : Addr) : Sp := fun vs H Q _ => ∃ (p a : Addr) (many : Int) (ts : List Stp) (ns : List Int), vs = [.ref p, .ref a] ∧ OutAt CO H p many ts ∧ (∀ t ∈ ts, OkS many t) ∧ many < 60 ∧ (H a = some (.lst (ns.map V.int)) ∨ H a = some (.tup (ns.map V.int))) ∧ ns.length ≤ 3900 ∧ InR many ns ∧
  ∀ H' t, Same H H' → H' t = some (.tup ((spr ts many ns).map V.int)) → Q (.ref t) H'
structure TxtSp (K : PySem.W.Frag) (mg : Str → Option Value) (CO : Addr) : Prop where
  cl : Cls K CO
  n_unseen : NoAttr K CO "unseen"
  len : mg "len" = none
  sorted : mg "sorted" = none
  set : mg "set" = none
  tuple : mg "tuple" = none
theorem lk_unseen {uA wA : Addr} : (oFlds uA wA).lookup ("unseen" : Str) = some (.ref uA) := by
  unfold oFlds; rw [lookup_putF, if_neg (by decide +kernel), lookup_putF, if_pos rfl]
theorem lk_word {uA wA : Addr} : (oFlds uA wA).lookup ("by_word" : Str) = some (.ref wA) := by
  unfold oFlds; rw [lookup_putF, if_pos rfl]
abbrev sSpread : Stmt := inClass (top 20) 1
theorem scSpread : FnScope ["self", "states", "queue", "at", "known", "state", "goal"] ["self", "states"] (defScope sSpread) := ⟨rfl, rfl, rfl, by decide +kernel, rfl, by decide +kernel, by decide +kernel⟩
set_option maxHeartbeats 1000000 in
theorem ok_spread {f CO : Addr} {fd : FuncData} (F : Fun K "spread" "Outlook.spread" sSpread f fd) (T : TxtSp K mg CO) : FnOk P w K mg base CX0 2 f fd ["self", "states"] (spSpread CO) := by
  refine F.ok scSpread (fun vs H Q E h => ?_) (fun cdv A outer s H vs Q E hr h => ?_)
  · obtain ⟨p, a, many, ts, ns, rfl, _⟩ := h
    rfl
  · obtain ⟨p, a, many, ts, ns, rfl, O, oks, m2, ha, few, inr, k⟩ := h
    have nd := scSpread.nd
    have hu := hr.units
    refine ⟨_, (pss_cons (ps_par (i := 2) (j := 3) (by rfl) nd rfl rfl (by decide) rfl rfl (pa_cons (pe_callB (MX.cr_sortedQ rfl hu) (by rfl) T.sorted (by decide +kernel) (pa_cons (pe_callTy (MX.cr_setQ rfl hu) (by rfl) T.set (by decide +kernel) (pa_cons (pv 1) pa_nil)) pa_nil)) (pa_cons pe_int pa_nil)) (by rfl))
      (pss_cons (ps_set (i := 4) nd rfl (Or.inl rfl) (pe_callTy (MX.cr_setQ rfl hu) (by rfl) T.set (by decide +kernel) (pa_cons (pv 1) pa_nil)))
      (pss_cons (ps_while PassesOwn.never (pt_cmpR op_lt (pv 3) (pe_callB call_len_seq (by rfl) T.len PySem.boot_len (pa_cons (pv 2) pa_nil)) (nomark _))
        (pss_cons (ps_set (i := 5) nd rfl (Or.inl rfl) (pe_ix ix_list (pv 2) (pv 3) (fun _ _ => rfl)))
        (pss_cons (ps_for PassesOwn.never rfl (pi_list (pe_ix ix_list (pe_fld (pv 0) rfl) (pv 5) (fun _ _ => rfl))) (pg_name (i := 6) nd rfl (Or.inl rfl))
          (pss_one (ps_if (pt_cmpR MX.op_notInQ (pv 6) (pv 4) rfl)
            (pss_cons (ps_expr (MX.pe_addQ (pv 4) (pa_cons (pv 6) pa_nil)))
            (pss_one (ps_expr (pe_bm PySem.F.plainAttrs_list PySem.F.slot_list_append PySem.F.type_list_append mt_append (pv 2) (pa_cons (pv 6) pa_nil)))))
            pss_nil)))
        (pss_one (ps_aug (i := 3) nd rfl (Or.inl rfl) pe_int ip_add)))))
      (pss_one (ps_ret (pe_callTy call_tuple_of (by rfl) T.tuple (by decide +kernel) (pa_cons (pe_callB cr_sorted (by rfl) T.sorted (by decide +kernel) (pa_cons (pv 2) pa_nil)) pa_nil))))))), ?_⟩
    have O0 := O
    obtain ⟨dx, uA, wA, rows, ds, hp, hU, hW, lenU, lenW, liU, diW, done, Y⟩ := O0
    have seq : ∀ {H'}, Same H H' → SqL K H' a ((ns.map (Sum.inl : Int → Key)).map kV) ∨ SqT K H' a ((ns.map (Sum.inl : Int → Key)).map kV) := fun {H'} e => by
      rw [ints_keys]
      exact ha.imp (fun h => SqL.of (e _ _ h)) fun h => SqT.of (e _ _ h)
    have l4 : (ns.map (Sum.inl : Int → Key)).length < 4096 := by rw [List.length_map]; omega
    refine ⟨_, rfl, a, ns.map Sum.inl, rfl, seq (Same.refl H), l4, fun s1 S1 n1 new1 mem1 le1 => ⟨s1, S1, n1, true, rfl, upd_same, fun k hk => ?_, fun M l up hM lenM nl => ⟨_, _, rfl, ?_⟩⟩⟩
    · obtain ⟨x, _, e⟩ := List.mem_map.mp ((mem1 k).mp hk)
      rw [← e]; rfl
    obtain ⟨fs0, rfl⟩ := lefts fun k hk => by
      obtain ⟨x, _, e⟩ := List.mem_map.mp ((mem1 k).mp ((hM k).mp hk))
      rw [← e]; rfl
    have e1 : Same H (upd H s1 (MX.SetQO P w s1 S1 n1)) := same_new new1
    have e2 := e1.trans (same_new (o := .lst ((fs0.map (Sum.inl : Int → Key)).map kV)) nl)
    have mem0 : ∀ x, x ∈ fs0 ↔ x ∈ ns := fun x => by rw [← mem_inl, hM, mem1, mem_inl]
    refine ⟨_, rfl, a, ns.map Sum.inl, rfl, seq e2, l4, fun d S n nd0 memS leS => ?_⟩
    have nlH : H l = none := e1.free nl
    have ndH : H d = none := e2.free nd0
    have nld : l ≠ d := fun z => by rw [← z, upd_same] at nd0; cases nd0
    have R1 : SSt P w many H (upd (upd (upd H s1 (MX.SetQO P w s1 S1 n1)) l (.lst ((fs0.map (Sum.inl : Int → Key)).map kV))) d (MX.SetQO P w d S n)) l d ns.length fs0 := by
      refine ⟨e2.trans (same_new nd0), ?_, ⟨S, n, upd_same, ?_, fun x => ?_⟩, ?_, fun x hx => inr x ((mem0 x).mp hx)⟩
      · rw [upd_ne nld, upd_same, ints_keys]
      · rw [List.length_map] at leS; omega
      · rw [memS, mem_inl]; exact (mem0 x).symm
      · have ndk : (fs0.map (Sum.inl : Int → Key)).Nodup := up.imp fun {a b} h e => by rw [e, MX.kl_irrefl] at h; cases h
        exact List.Pairwise.of_map Sum.inl (fun a b h e => h (by rw [e])) ndk
    have ns0 : ∀ x ∈ ns, x ∈ fs0 := fun x hx => (mem0 x).mpr hx
    refine into (while_by (fun σ H' => ∃ (fs : List Int) (n : Nat) (v5 v6 : Option V), σ = [some (.ref p), some (.ref a), some (.ref l), some (.int (n : Int)), some (.ref d), v5, v6] ∧ SSt P w many H H' l d ns.length fs ∧ n ≤ fs.length ∧ (∀ x ∈ ns, x ∈ fs) ∧ (∀ t ∈ ts, t.s = Str.ofString "" → t.a ∈ fs.take n → t.g ∈ fs) ∧ ∀ x ∈ fs, Clo ts ns x)
      (fun (σ : L2.St) _ => match σ[3]? with | some (some (V.int i)) => many.toNat - i.toNat | _ => 0) ⟨fs0, 0, none, none, rfl, R1, Nat.zero_le _, ns0, fun s _ _ h => absurd h (by simp), fun x hx => ⟨x, (mem0 x).mp hx, .refl⟩⟩ ?_ ?_)
    · rintro σ H2 ⟨fs, n, v5, v6, rfl, R, hn, nsf, cl, only⟩
      have lenfs := few_ints R.nd R.ins
      refine ⟨_, rfl, _, rfl, l, _, rfl, .inl (SqL.of R.lst), _, _, rfl, rfl, _, rfl, ?_⟩
      rw [List.length_map]
      rcases Nat.lt_or_ge n fs.length with c | c
      · rw [decide_eq_true (show (n : Int) < (fs.length : Int) by omega)]
        refine iteT ?_
        obtain ⟨st, hst, hat⟩ := int_at c
        have stm := List.mem_of_getElem? hst
        have hst2 := R.ins st stm
        refine ⟨_, rfl, _, rfl, l, _, _, _, rfl, rfl, SqL.of R.lst, hat, ?_⟩
        obtain ⟨r, hr1, hr2⟩ := ref_at (rows := rows) hst2.1 (by have := hst2.2; omega)
        obtain ⟨gs, hg, ging, gl⟩ := liU r (List.mem_of_getElem? hr1)
        refine into ⟨_, rfl, p, CO, dx, _, _, rfl, R.same _ _ hp, T.cl, T.n_unseen, lk_unseen, _, rfl, uA, _, _, _, rfl, rfl, SqL.of (R.same _ _ hU), hr2, r, rfl, ⟨_, SqL.of (R.same _ _ hg)⟩,
          for_list (K := K) (a := r) (xs := gs.map V.int) (fun j σ H' => ∃ (hs : List Int) (v6 : Option V), σ = [some (.ref p), some (.ref a), some (.ref l), some (.int (n : Int)), some (.ref d), some (.int st), v6] ∧ SSt P w many H H' l d ns.length (fs ++ hs) ∧ (∀ g ∈ gs.take j, g ∈ fs ++ hs) ∧ ∀ x ∈ fs ++ hs, Clo ts ns x)
            ⟨[], _, rfl, by rw [List.append_nil]; exact R, fun s h => absurd h (by simp), by rw [List.append_nil]; exact only⟩ (fun j σ H' _ ⟨_, _, _, R', _⟩ => SqL.of (R'.same _ _ hg)) ?_ ?_⟩
        · rintro j x σ H3 hx ⟨hs, v6, rfl, R3, cl3, only3⟩
          obtain ⟨g, hgj, rfl⟩ : ∃ g, gs[j]? = some g ∧ x = V.int g := by
            rw [List.getElem?_map] at hx
            cases e : gs[j]? with
            | none => rw [e] at hx; cases hx
            | some g => rw [e] at hx; exact ⟨g, rfl, (Option.some.inj hx).symm⟩
          obtain ⟨S3, n3, hk, kl, km⟩ := R3.set
          have len3 := few_ints R3.nd R3.ins
          have tk : ∀ gs', (∀ y ∈ fs ++ hs, y ∈ fs ++ gs') → g ∈ fs ++ gs' → ∀ t ∈ gs.take (j + 1), t ∈ fs ++ gs' := fun gs' sub h t ht => by
            rw [List.take_add_one, hgj] at ht
            rcases List.mem_append.mp ht with ht | ht
            · exact sub _ (cl3 t ht)
            · rw [List.mem_singleton.mp (show t ∈ [g] from ht)]; exact h
          refine ⟨_, rfl, _, rfl, (Sum.inl g : Key), d, S3, n3, rfl, rfl, hk, _, rfl, ?_⟩
          rw [if_pos rfl]
          rcases Decidable.em (g ∈ fs ++ hs) with c2 | c2
          · rw [(km g).mpr c2]
            exact iteF ⟨hs, _, rfl, R3, tk hs (fun y h => h) c2, only3⟩
          · have e : S3 (Sum.inl g) = false := by
              cases z : S3 (Sum.inl g) with
              | false => rfl
              | true => exact absurd ((km g).mp z) c2
            have big : n3 + 1 < 4096 := by
              have : many.toNat < 60 := by omega
              omega
            rw [e]
            refine iteT ⟨_, rfl, ⟨d, S3, n3, rfl, hk⟩, _, rfl, d, (Sum.inl g : Key), S3, n3, rfl, rfl, hk, big, ?_⟩
            have hl4 : (upd H3 d (MX.SetQO P w d (fun j => S3 j || decide (j = Sum.inl g)) (if S3 (Sum.inl g) = true then n3 else n3 + 1))) l = some (.lst ((fs ++ hs).map V.int)) := by rw [upd_ne nld]; exact R3.lst
            refine ⟨_, rfl, .inl ⟨rfl, _, SqL.of hl4⟩, _, rfl, l, _, _, rfl, rfl, hl4, by rw [List.length_map, sizeLine_eq]; omega, hs ++ [g], _, rfl, ?_, tk _ (fun y h => by rw [← List.append_assoc]; exact List.mem_append_left _ h) (by rw [← List.append_assoc]; exact List.mem_append_right _ (List.mem_singleton.mpr rfl)), fun x hx => ?_⟩
            · rw [← List.append_assoc]
              exact R3.add nlH nld ndH hk kl km c2 (ging g (List.mem_of_getElem? hgj))
            · rw [← List.append_assoc] at hx
              rcases List.mem_append.mp hx with hx | hx
              · exact only3 x hx
              · rw [List.mem_singleton.mp hx]
                obtain ⟨t, tm, ta, te, tg⟩ := Y.un st.toNat r gs g hr1 hg (List.mem_of_getElem? hgj)
                have ea : t.a = st := by have := (oks t tm).1; have := hst2.1; omega
                obtain ⟨y, ym, yu⟩ := only st stm
                exact ⟨y, ym, by rw [← tg]; exact Un.step (by rw [ea]; exact yu) tm te⟩
        · rintro σ H3 ⟨hs, v6, rfl, R3, cl3, only3⟩
          rw [List.length_map, List.take_length] at cl3
          refine ⟨_, rfl, _, _, rfl, rfl, ⟨fs ++ hs, n + 1, _, _, rfl, R3, by rw [List.length_append]; omega, fun x hx => List.mem_append_left _ (nsf x hx), fun t ht e ha => ?_, only3⟩, ?_⟩
          · rw [List.take_append_of_le_length c, List.take_add_one, hst] at ha
            rcases List.mem_append.mp ha with ha | ha
            · exact List.mem_append_left _ (cl t ht e ha)
            · have ea : t.a = st := List.mem_singleton.mp (show t.a ∈ [st] from ha)
              obtain ⟨r', a1, gs', a2, a3⟩ := (done t ht).1 e
              rw [ea, hr1] at a1
              cases a1
              rw [hg] at a2
              rw [← ints_inj (HO.lst.inj (Option.some.inj a2))] at a3
              exact cl3 _ a3
          · show many.toNat - ((n : Int) + 1).toNat < many.toNat - ((n : Nat) : Int).toNat
            omega
      · rw [decide_eq_false (show ¬ (n : Int) < (fs.length : Int) by omega)]
        have en : n = fs.length := Nat.le_antisymm hn c
        rw [en, List.take_length] at cl
        refine iteF ⟨_, rfl, l, fs, rfl, SqL.of R.lst, by omega, fun ms q pm asc nq => ⟨q, _, rfl, .inl ⟨SqL.of upd_same, fun t nt => ?_⟩⟩⟩
        have is := spr_is (ts := ts) (many := many) (ns := ns) asc (pm.nodup_iff.mpr R.nd) (fun x hx => R.ins x (pm.mem_iff.mp hx)) (fun x hx => pm.mem_iff.mpr (nsf x hx)) (fun t ht e ha => pm.mem_iff.mpr (cl t ht e (pm.mem_iff.mp ha))) fun x hx => only x (pm.mem_iff.mp hx)
        exact k _ t (R.same.trans ((same_new nq).trans (same_new nt))) (by rw [← is]; exact upd_same)
    · intro σ H2 Q1 Q2 hQ h
      obtain ⟨v, e1, v2, e2, p1, ys, e3, e4, i, j, e5, e6, b, e7, q⟩ := h
      exact ⟨v, e1, v2, e2, p1, ys, e3, e4, i, j, e5, e6, b, e7, hQ _ _ q⟩
end
end K1
end
section
namespace L2
open PySem PySem.Spec PyProof.Rows
section
variable {X : Cx} {K : PySem.W.Frag}
theorem pe_fldK {e : Expr} {ta : TE} {f : Str} {pos : Pos} (hK : X.K = K) (he : PE X e ta) (hb : attributeBase e f X.env (eval e X.env) = eval e X.env) : PE X (.Attribute e f pos) (tFld K ta f) := by
  subst hK
  exact pe_fld he hb
end
end L2
end
section
/-! Behind a word; traces. -/
namespace K1
open PySem L2
open MX (Rise Up)
section
variable {P : Program} {w : World} {K : PySem.W.Frag} {mg : Str → Option Value} {base : Heap}
/-- where steps lead that show a word -/
def goals (ts : List Stp) (ns : List Int) (wd : Str) : List Int := (ts.filter fun t => decide (t.s = wd) && decide (t.a ∈ ns)).map Stp.g
theorem mem_goals {ts : List Stp} {ns : List Int} {wd : Str} {x : Int} : x ∈ goals ts ns wd ↔ ∃ t ∈ ts, t.s = wd ∧ t.a ∈ ns ∧ t.g = x := by
  unfold goals
  rw [List.mem_map]
  constructor
  · rintro ⟨t, ht, rfl⟩
    obtain ⟨h1, h2⟩ := List.mem_filter.mp ht
    obtain ⟨h3, h4⟩ := Bool.and_eq_true_iff.mp h2
    exact ⟨t, h1, of_decide_eq_true h3, of_decide_eq_true h4, rfl⟩
  · rintro ⟨t, h1, h2, h3, rfl⟩
    exact ⟨t, List.mem_filter.mpr ⟨h1, Bool.and_eq_true_iff.mpr ⟨decide_eq_true h2, decide_eq_true h3⟩⟩, rfl⟩
/-- the states behind a word -/
noncomputable def aft (ts : List Stp) (many : Int) (ns : List Int) (wd : Str) : List Int := spr ts many (goals ts ns wd)
def spAfter (CO : Addr) : Sp := fun vs H Q _ => ∃ (p a : Addr) (many : Int) (ts : List Stp) (ns : List Int) (wd : Str), vs = [.ref p, .ref a, .str wd] ∧ OutAt CO H p many ts ∧ (∀ t ∈ ts, OkS many t) ∧ many < 60 ∧ H a = some (.tup (ns.map V.int)) ∧ ns.Nodup ∧ InR many ns ∧ wd ≠ Str.ofString "" ∧
  ∀ H' t, Same H H' → H' t = some (.tup ((aft ts many ns wd).map V.int)) → Q (.ref t) H'
structure TxtAf (K : PySem.W.Frag) (mg : Str → Option Value) (CO fS : Addr) : Prop where
  cl_Outlook : Cls K CO
  n_by_word : NoAttr K CO "by_word"
  m_spread : Meth K CO "spread" fS
theorem oFlds_no {uA wA : Addr} {m : Str} (h : ¬ m = "by_word" ∧ ¬ m = "unseen") : (oFlds uA wA).lookup m = none := by
  unfold oFlds
  rw [lookup_putF, if_neg h.1, lookup_putF, if_neg h.2]; rfl
/-- turns that are counted down: what stands ahead of turn i, up to turn n -/
theorem turns {J : It} {n : Nat} {G : V → Hp → (Hp → Prop) → Prop} {H0 : Hp} {Qd : Hp → Prop} (Pv : Nat → Hp → Prop) (first : Pv 0 H0)
    (more : ∀ i H, i < n → Pv i H → J.go i H ∧ ∀ x H', J.yld i H x H' → G x H' (Pv (i + 1))) (last : ∀ H, Pv n H → J.stop n H ∧ Qd H) :
    ∃ W : Nat → Nat → Hp → Prop, (∃ m, W 0 m H0) ∧ ∀ i m H, W i m H → (J.stop i H ∧ Qd H) ∨ (J.go i H ∧ ∃ Nx : Hp → Prop, (∀ H', Nx H' → ∃ m', m' < m ∧ W (i + 1) m' H') ∧ ∀ x H', J.yld i H x H' → G x H' Nx) :=
  ⟨fun i m H => i + m = n ∧ Pv i H, ⟨n, Nat.zero_add n, first⟩, fun i m H ⟨e, p⟩ => match m, e with
    | 0, e => by
      have z : i = n := e
      rw [z] at p ⊢
      exact Or.inl (last H p)
    | m + 1, e => by
      have t := more i H (by omega) p
      exact Or.inr ⟨t.1, Pv (i + 1), fun H' p' => ⟨m, Nat.lt_succ_self m, by omega, p'⟩, t.2⟩⟩
theorem walk_tup {K : PySem.W.Frag} {a : Addr} {xs : List V} {G : V → Hp → (Hp → Prop) → Prop} {H0 : Hp} {Qd : Hp → Prop} (Pv : Nat → Hp → Prop) (first : Pv 0 H0) (at_ : ∀ i H, i ≤ xs.length → Pv i H → SqT K H a xs)
    (turn : ∀ i x H, xs[i]? = some x → Pv i H → G x H (Pv (i + 1))) (last : ∀ H, Pv xs.length H → Qd H) :
    ∃ W : Nat → Nat → Hp → Prop, (∃ m, W 0 m H0) ∧ ∀ i m H, W i m H → ((Itt K a).stop i H ∧ Qd H) ∨ ((Itt K a).go i H ∧ ∃ Nx : Hp → Prop, (∀ H', Nx H' → ∃ m', m' < m ∧ W (i + 1) m' H') ∧ ∀ x H', (Itt K a).yld i H x H' → G x H' Nx) :=
  turns (J := Itt K a) (n := xs.length) Pv first (fun i H lt p => ⟨⟨xs, _, at_ i H (Nat.le_of_lt lt) p, List.getElem?_eq_getElem lt⟩, fun x H' y => by rw [y.1]; exact turn i x H (y.2 xs (at_ i H (Nat.le_of_lt lt) p)) p⟩)
    fun H p => ⟨⟨xs, at_ _ H (Nat.le_refl _) p, Nat.le_refl _⟩, last H p⟩
theorem walk_list {K : PySem.W.Frag} {a : Addr} {xs : List V} {G : V → Hp → (Hp → Prop) → Prop} {H0 : Hp} {Qd : Hp → Prop} (Pv : Nat → Hp → Prop) (first : Pv 0 H0) (at_ : ∀ i H, i ≤ xs.length → Pv i H → SqL K H a xs)
    (turn : ∀ i x H, xs[i]? = some x → Pv i H → G x H (Pv (i + 1))) (last : ∀ H, Pv xs.length H → Qd H) :
    ∃ W : Nat → Nat → Hp → Prop, (∃ m, W 0 m H0) ∧ ∀ i m H, W i m H → ((Itl K a).stop i H ∧ Qd H) ∨ ((Itl K a).go i H ∧ ∃ Nx : Hp → Prop, (∀ H', Nx H' → ∃ m', m' < m ∧ W (i + 1) m' H') ∧ ∀ x H', (Itl K a).yld i H x H' → G x H' Nx) :=
  turns (J := Itl K a) (n := xs.length) Pv first (fun i H lt p => ⟨⟨xs, _, at_ i H (Nat.le_of_lt lt) p, List.getElem?_eq_getElem lt⟩, fun x H' y => by rw [y.1]; exact turn i x H (y.2 xs (at_ i H (Nat.le_of_lt lt) p)) p⟩)
    fun H p => ⟨⟨xs, at_ _ H (Nat.le_refl _) p, Nat.le_refl _⟩, last H p⟩
structure AfS (many : Int) (ts : List Stp) (ns : List Int) (wd : Str) (H H' : Hp) (D : Addr) (i : Nat) (ms : List Int) : Prop where
  lst : H' D = some (.lst (ms.map V.int))
  few : ms.length ≤ 64 * i
  ins : InR many ms
  same : Same H H'
  all : ∀ t ∈ ts, t.s = wd → t.a ∈ ns.take i → t.g ∈ ms
  only : ∀ x ∈ ms, ∃ t ∈ ts, t.s = wd ∧ t.a ∈ ns.take i ∧ t.g = x
/-- a state's list for a word -/
theorem word_list {H H' : Hp} {many : Int} {ts : List Stp} {d l : Addr} {kvs : List (Key × V)} {ds : List Addr} {st : Int} {wd : Str} (hds : ds[st.toNat]? = some d) (hd : H d = some (.dK kvs)) (ok : ∀ (k : Key) v, valV kvs k = some v → ∃ r, v = .ref r ∧ LI many 64 H r)
    (done : ∀ t ∈ ts, t.s ≠ Str.ofString "" → ∃ d, ds[t.a.toNat]? = some d ∧ Wd H d t.s t.g) (wne : wd ≠ Str.ofString "") (e : Same H H') (nl : H' l = none) {rows : List Addr} (Y : OY H rows ds ts) (pos : ∀ t ∈ ts, 0 ≤ t.a) (st0 : 0 ≤ st) :
    ∃ r gs, (valV kvs (Sum.inr wd : Key)).getD (.ref l) = .ref r ∧ upd H' l (.lst []) r = some (.lst (gs.map V.int)) ∧ InR many gs ∧ gs.length ≤ 64 ∧ (∀ t ∈ ts, t.s = wd → t.a = st → t.g ∈ gs) ∧ (r = l ∨ ∃ o, H r = some o) ∧ ∀ g ∈ gs, ∃ t ∈ ts, t.s = wd ∧ t.a = st ∧ t.g = g := by
  cases hv : valV kvs (Sum.inr wd : Key) with
  | none =>
    refine ⟨l, [], rfl, upd_same, fun x h => absurd h (by simp), Nat.zero_le _, fun t ht ew ea => ?_, .inl rfl, fun g h => absurd h (by simp)⟩
    obtain ⟨d', h1, kvs', r', h2, h3, _⟩ := done t ht (by rw [ew]; exact wne)
    rw [ea, hds] at h1
    cases h1
    rw [hd] at h2
    cases h2
    rw [ew, hv] at h3
    cases h3
  | some v =>
    obtain ⟨r, rfl, gs, hg, ing, gl⟩ := ok _ _ hv
    have e2 : Same H (upd H' l (.lst [])) := e.trans (same_new nl)
    refine ⟨r, gs, rfl, e2 _ _ hg, ing, gl, fun t ht ew ea => ?_, .inr ⟨_, hg⟩, fun g h => by
      obtain ⟨t, tm, ta, te, tg⟩ := Y.wd st.toNat wd r gs g ⟨d, kvs, hds, hd, hv⟩ hg h
      exact ⟨t, tm, te, by have := pos t tm; omega, tg⟩⟩
    obtain ⟨d', h1, kvs', r', h2, h3, gs', h4, h5⟩ := done t ht (by rw [ew]; exact wne)
    rw [ea, hds] at h1
    cases h1
    rw [hd] at h2
    cases h2
    rw [ew, hv] at h3
    cases h3
    rw [hg] at h4
    rw [ints_inj (HO.lst.inj (Option.some.inj h4))]
    exact h5
abbrev sAfter : Stmt := inClass (top 20) 3
abbrev nAf : List Str := ["self", "states", "word", "state", "goal"]
theorem scAfter : FnScope nAf ["self", "states", "word"] (defScope sAfter) := ⟨rfl, rfl, rfl, by decide +kernel, rfl, by decide +kernel, by decide +kernel⟩
set_option maxHeartbeats 1000000 in
theorem ok_after {f CO fS : Addr} {fd fdS : FuncData} (F : Fun K "after" "Outlook.after" sAfter f fd) (T : TxtAf K mg CO fS) (G_spread : FnOk P w K mg base CX0 2 fS fdS ["self", "states"] (spSpread CO)) (b_spread : Binds K fdS ["self", "states"] []) :
    FnOk P w K mg base CX0 3 f fd ["self", "states", "word"] (spAfter CO) := by
  refine F.ok scAfter (fun vs H Q E h => ?_) (fun cdv A outer s H vs Q E hr h => ?_)
  · obtain ⟨p, a, many, ts, ns, wd, rfl, _⟩ := h
    rfl
  · obtain ⟨p, a, many, ts, ns, wd, rfl, O, oks, m2, ha, ndn, inr, wne, k⟩ := h
    have nd := scAfter.nd
    have hu1 := hu_of hr
    have hr_spread : Room 2 _ := hr
    refine ⟨_, (pss_one (ps_ret (pe_meth (pv 0) T.cl_Outlook T.m_spread G_spread hr_spread b_spread .nil pass0 (pa_cons (pe_lc2 (own := [("state", 3), ("goal", 4)]) (vs1 := [4]) (by rfl) nd (pi_tup (pv 1)) (blkOk_by (N := nAf) (sc := defScope sAfter) (by decide +kernel)) (by decide) (fun _ _ _ _ _ => (pg_name (i := 3) nd rfl (Or.inl rfl))) (fun _ _ _ _ _ => pts_nil) (fun _ _ _ _ _ => pi_listK (K := K) rfl (pe_dget2 hu1 (pe_ix (ix_listK (K := K) rfl) (pe_fldK (K := K) rfl (pv 0) rfl) (pv 3) (fun _ _ => rfl)) (pv 2) (pe_lst pa_nil) ⟨by rfl, by rfl, by rfl, by rfl⟩)) (fun _ _ _ _ _ => (pg_name (i := 4) nd rfl (Or.inl rfl))) (fun _ _ _ _ _ => pts_nil) (fun _ _ _ _ _ => (pv 4))) pa_nil)))), ?_⟩
    have O0 := O
    obtain ⟨dx, uA, wA, rows, ds, hp, hU, hW, lenU, lenW, liU, diW, done, Y⟩ := O0
    have fewn := few_ints ndn inr
    refine ⟨_, rfl, p, dx, _, rfl, hp, oFlds_no (by decide +kernel), _, rfl, a, rfl, ⟨_, .inl (.inl ha)⟩, fun D hD => ?_⟩
    refine walk_tup (K := K) (a := a) (xs := ns.map V.int) (fun i H' => ∃ ms, AfS many ts ns wd H H' D i ms) ⟨[], upd_same, Nat.zero_le _, fun x h => absurd h (by simp), same_new hD, fun t _ _ h => absurd h (by simp), fun x h => absurd h (by simp)⟩ (fun i H' _ ⟨ms, A1⟩ => .inl (.inl (A1.same _ _ ha))) ?_ ?_
    · rintro i x H1 hx ⟨ms, A1⟩
      obtain ⟨st, hst, rfl⟩ : ∃ g, ns[i]? = some g ∧ x = V.int g := by
        rw [List.getElem?_map] at hx
        cases e : ns[i]? with
        | none => rw [e] at hx; cases hx
        | some g => rw [e] at hx; exact ⟨g, rfl, (Option.some.inj hx).symm⟩
      have ii : i < ns.length := (List.getElem?_eq_some_iff.mp hst).1
      have hst2 := inr st (List.mem_of_getElem? hst)
      obtain ⟨d, hr1, hr2⟩ := ref_at (rows := ds) hst2.1 (by have := hst2.2; omega)
      obtain ⟨kvs, hd, okd⟩ := diW d (List.mem_of_getElem? hr1)
      refine ⟨rfl, ?_⟩
      refine ⟨_, rfl, p, CO, dx, _, _, rfl, A1.same _ _ hp, T.cl_Outlook, T.n_by_word, lk_word, _, rfl, wA, _, _, _, rfl, rfl, SqL.of (A1.same _ _ hW), hr2, d, rfl, .inl ⟨kvs, .inl (A1.same _ _ hd)⟩, _, rfl, Nat.zero_le _, fun l nl => ?_⟩
      obtain ⟨r, gs, er, hr3, ings, lgs, cov, own, back⟩ := word_list hr1 hd okd (fun t ht => (done t ht).2) wne A1.same nl Y (fun t tm => (oks t tm).1) hst2.1
      have nlD : l ≠ D := fun z => by rw [z, A1.lst] at nl; cases nl
      have nrD : r ≠ D := fun z => by
        rcases own with h | ⟨o, h⟩
        · exact nlD (by rw [← h, z])
        · rw [z, hD] at h; cases h
      refine ⟨_, DGet.k (k := (Sum.inr wd : Key)) (e := by rw [upd_ne (ne_of_none (A1.same _ _ hd) nl)]; exact A1.same _ _ hd), r, er, ⟨_, SqL.of hr3⟩, ?_⟩
      refine walk_list (K := K) (a := r) (xs := gs.map V.int) (fun j H' => H' D = some (.lst ((ms ++ gs.take j).map V.int)) ∧ H' r = some (.lst (gs.map V.int)) ∧ Same H H') ⟨?_, hr3, A1.same.trans (same_new nl)⟩ (fun j H' _ ⟨_, h, _⟩ => SqL.of h) ?_ ?_
      · rw [List.take_zero, List.append_nil, upd_ne (Ne.symm nlD)]; exact A1.lst
      · rintro j x H2 hx ⟨h1, h2, h3⟩
        obtain ⟨g, hg, rfl⟩ : ∃ g, gs[j]? = some g ∧ x = V.int g := by
          rw [List.getElem?_map] at hx
          cases e : gs[j]? with
          | none => rw [e] at hx; cases hx
          | some g => rw [e] at hx; exact ⟨g, rfl, (Option.some.inj hx).symm⟩
        refine ⟨rfl, _, rfl, _, h1, ?_, ?_, ?_, ?_⟩
        · have : many.toNat < 60 := by omega
          have l1 := A1.few
          have l2 : (gs.take j).length ≤ gs.length := List.length_take_le' ..
          rw [List.length_map, List.length_append, sizeLine_eq]; omega
        · rw [upd_same, List.take_add_one, hg, ← List.append_assoc, List.map_append (l₁ := ms ++ gs.take j)]; rfl
        · rw [upd_ne nrD]; exact h2
        · exact fun b o z => by rw [upd_ne (ne_of_none z hD)]; exact h3 _ _ z
      · rintro H2 ⟨h1, h2, h3⟩
        rw [List.length_map, List.take_length] at h1
        refine ⟨ms ++ gs, h1, ?_, fun x hx => ?_, h3, fun t ht ew ha => ?_, fun x hx => ?_⟩
        · rw [List.length_append]; have := A1.few; omega
        · rcases List.mem_append.mp hx with hx | hx
          · exact A1.ins x hx
          · exact ings x hx
        · rw [List.take_add_one, hst] at ha
          rcases List.mem_append.mp ha with ha | ha
          · exact List.mem_append_left _ (A1.all t ht ew ha)
          · exact List.mem_append_right _ (cov t ht ew (List.mem_singleton.mp (show t.a ∈ [st] from ha)))
        · rw [List.take_add_one, hst]
          rcases List.mem_append.mp hx with hx | hx
          · obtain ⟨t, tm, te, ta, tg⟩ := A1.only x hx
            exact ⟨t, tm, te, List.mem_append_left _ ta, tg⟩
          · obtain ⟨t, tm, te, ta, tg⟩ := back x hx
            exact ⟨t, tm, te, List.mem_append_right _ (show t.a ∈ [st] from List.mem_singleton.mpr ta), tg⟩
    · rintro H1 ⟨ms, A1⟩
      have l1 := A1.few
      rw [List.length_map] at l1
      have cov := A1.all
      rw [List.length_map, List.take_length] at cov
      have only := A1.only
      rw [List.length_map, List.take_length] at only
      refine ⟨p, D, many, ts, ms, rfl, O.same A1.same, oks, m2, .inl A1.lst, by omega, A1.ins, fun H2 t e2 ht => ?_⟩
      refine k H2 t (A1.same.trans e2) ?_
      rw [ht, spr_mem (many := many) (ts := ts) (ns := ms) (ms := goals ts ns wd) fun x => ⟨fun m => mem_goals.mpr (only x m), fun m => ?_⟩]
      · rfl
      · obtain ⟨t', tm, te, ta, tg⟩ := mem_goals.mp m
        rw [← tg]
        exact cov t' tm te ta
end
end K1
end
section
/-! Outlooks of machines. -/
namespace K1
open PySem L2
open MX (Rise Up)
section
variable {P : Program} {w : World} {K : PySem.W.Frag} {mg : Str → Option Value} {base : Heap}
def isOpen (ks : List Str) (s : Stp) : Bool := decide (s.k = Str.ofString "") || decide (s.k ∈ ks)
def spOpen (C : Addr) : Sp := fun vs H Q _ => ∃ (p t : Addr) (many : Int) (sts : List Stp) (ks : List Str), vs = [.ref p, .ref t] ∧ MachAt C H p many sts ∧ (∀ s ∈ sts, OkS many s) ∧ sts.length < 64 ∧ H t = some (.tup (ks.map V.str)) ∧
  ∀ H' D ys, Same H H' → H D = none → H' D = some (.lst ys) → Row H' ys (sts.filter (isOpen ks)) → Q (.ref D) H'
structure TxtOp (K : PySem.W.Frag) (mg : Str → Option Value) (C : Addr) : Prop where
  cl : Cls K C
  n_steps : NoAttr K C "steps"
abbrev sOpen : Stmt := top 21
abbrev nOp : List Str := ["machine", "free", "step"]
theorem scOpen : FnScope nOp ["machine", "free"] (defScope sOpen) := ⟨rfl, rfl, rfl, by decide +kernel, rfl, by decide +kernel, by decide +kernel⟩
theorem ok_open {f C : Addr} {fd : FuncData} (F : Fun K "open_steps" "open_steps" sOpen f fd) (T : TxtOp K mg C) : FnOk P w K mg base CX0 1 f fd ["machine", "free"] (spOpen C) := by
  refine F.ok scOpen (fun vs H Q E h => ?_) (fun cdv A outer s H vs Q E hr h => ?_)
  · obtain ⟨p, t, many, sts, ks, rfl, _⟩ := h
    rfl
  · obtain ⟨p, t, many, sts, ks, rfl, M, oks, few, ht, k⟩ := h
    have nd := scOpen.nd
    refine ⟨_, (pss_one (ps_ret (pe_lc (own := [("step", 2)]) (by rfl) nd (pi_tup (pe_fld (pv 0) rfl)) (blkOk_by (N := nOp) (sc := defScope sOpen) (by decide +kernel)) (fun _ _ _ _ _ => (pg_name (i := 2) nd rfl (Or.inl rfl))) (fun _ _ _ _ _ => pts_one (PW.pt (pw_or (pt_not (pt_tru (K := K) rfl (pe_ix (ix_tupK (K := K) rfl) (pv 2) pe_int (fun _ _ => rfl)) (by intro _; rfl))) (pw_or1 (pt_cmpR (op_in_seqK (K := K) rfl) (pe_ix (ix_tupK (K := K) rfl) (pv 2) pe_int (fun _ _ => rfl)) (pv 1) rfl))))) (fun _ _ _ _ _ => (pv 2))))), ?_⟩
    have M0 := M
    obtain ⟨dx, sA, kA, wA, bA, dA, hp, B⟩ := M0
    obtain ⟨vs, hA, rA⟩ := B.stp
    have lv : vs.length = sts.length := rA.length
    refine ⟨_, rfl, p, C, dx, _, _, rfl, hp, T.cl, T.n_steps, lk_steps, sA, rfl, ⟨_, SqT.of hA⟩, fun D hD => lc_tup (K := K) (a := sA) (xs := vs)
      (fun i H' => ∃ ys, H' D = some (.lst ys) ∧ ys.length ≤ i ∧ Row H' ys ((sts.take i).filter (isOpen ks)) ∧ Same H H') ⟨[], upd_same, Nat.le_refl _, .nil, same_new hD⟩ (fun i H' _ ⟨_, _, _, _, e⟩ => SqT.of (e _ _ hA)) ?_ ?_⟩
    · rintro i x H1 hx ⟨ys, h1, h2, h3, e1⟩
      obtain ⟨s, hs, q, rfl, hq⟩ := rA.get hx
      have lt : i < vs.length := (List.getElem?_eq_some_iff.mp hx).1
      have hq1 := e1 _ _ hq
      have ft := filter_take hs (isOpen ks)
      have len := wordE_len (oks s (List.mem_of_getElem? hs)).2.2.2.2.1
      have put : isOpen ks s = true → ∃ acc, H1 D = some (.lst acc) ∧ acc.length < sizeLine ∧ ∃ ys, upd H1 D (.lst (acc ++ [V.ref q])) D = some (.lst ys) ∧ ys.length ≤ i + 1 ∧
          Row (upd H1 D (.lst (acc ++ [V.ref q]))) ys ((sts.take (i + 1)).filter (isOpen ks)) ∧ Same H (upd H1 D (.lst (acc ++ [V.ref q]))) := fun c => by
        have tk : ∀ b ts, H1 b = some (.tup ts) → upd H1 D (.lst (ys ++ [V.ref q])) b = some (.tup ts) := fun b ts z => by
          rw [upd_ne (ne_of z h1 (by intro y; cases y))]; exact z
        refine ⟨ys, h1, by rw [sizeLine_eq]; omega, ys ++ [.ref q], upd_same, by rw [List.length_append]; show _ + 1 ≤ _; omega, ?_, fun b o z => by rw [upd_ne (ne_of_none z hD)]; exact e1 _ _ z⟩
        rw [ft, if_pos c]
        exact paired_app (h3.keep tk) (.cons ⟨q, rfl, tk _ _ hq1⟩ .nil)
      refine ⟨rfl, _, rfl, q, _, _, _, rfl, rfl, SqT.of hq1, at_1 s, _, ⟨len, rfl⟩, ?_⟩
      rw [str_zero]
      rcases Classical.em (s.k = Str.ofString "") with c | c
      · rw [decide_eq_true c]
        exact iteT (iteT ⟨_, rfl, put (by unfold isOpen; rw [decide_eq_true c]; rfl)⟩)
      · rw [decide_eq_false c]
        refine iteF ⟨_, rfl, q, _, _, _, rfl, rfl, SqT.of hq1, at_1 s, _, rfl, t, _, rfl, .inr (SqT.of (e1 _ _ ht)), rfl, flat_strs ks, _, rfl, ?_⟩
        rw [inV_str]
        rcases Classical.em (s.k ∈ ks) with d | d
        · rw [decide_eq_true d]
          exact iteT ⟨_, rfl, put (by unfold isOpen; rw [decide_eq_false c, decide_eq_true d]; rfl)⟩
        · rw [decide_eq_false d]
          refine iteF ⟨ys, h1, by omega, ?_, e1⟩
          rw [ft, if_neg (by unfold isOpen; rw [decide_eq_false c, decide_eq_false d]; exact Bool.false_ne_true), List.append_nil]
          exact h3
    · rintro H1 ⟨ys, h1, h2, h3, e1⟩
      rw [lv, List.take_length] at h3
      exact k H1 D ys e1 hD h1 h3
def spOut (C CO : Addr) : Sp := fun vs H Q _ => ∃ (p t : Addr) (many : Int) (sts : List Stp) (ks : List Str), vs = [.ref p, .ref t] ∧ MachAt C H p many sts ∧ (∀ s ∈ sts, OkS many s) ∧ 1 ≤ many ∧ many < 60 ∧ sts.length < 64 ∧ H t = some (.tup (ks.map V.str)) ∧
  ∀ H' r, Same H H' → OutAt CO H' r many (sts.filter (isOpen ks)) → Q (.ref r) H'
structure TxtOf (K : PySem.W.Frag) (mg : Str → Option Value) (C CO fL fO : Addr) : Prop where
  len : mg "len" = none
  h_len_Machine : PySem.W.findIn K (.ref C) "__len__" = some (some (.ref fL))
  f_len_Machine : PySem.W.isFn K (.ref fL) = true
  g_open_steps : mg "open_steps" = some (.ref fO)
  k_open_steps : PySem.W.keepIn K (.ref fO) = true
  c_Outlook : mg "Outlook" = some (.ref CO)
abbrev sOut : Stmt := top 22
abbrev nOut : List Str := ["machine", "free", "state", "_", "seen", "goal"]
theorem scOut : FnScope nOut ["machine", "free"] (defScope sOut) := ⟨rfl, rfl, rfl, by decide +kernel, rfl, by decide +kernel, by decide +kernel⟩
set_option maxHeartbeats 1000000 in
theorem ok_out {f C CO fI fL fO : Addr} {fd fdI fdL fdO : FuncData} (F : Fun K "outlook_of" "outlook_of" sOut f fd) (T : TxtOf K mg C CO fL fO) (M_Outlook : Mk K CO fI) (G_Outlook : FnOk P w K mg base CX0 1 fI fdI ["self", "many", "steps"] (spOInit CO)) (b_Outlook : Binds K fdI ["self", "many", "steps"] [])
    (G_len_Machine : FnOk P w K mg base CX0 1 fL fdL ["self"] (spMLen C)) (b_len_Machine : Binds K fdL ["self"] []) (G_open_steps : FnOk P w K mg base CX0 1 fO fdO ["machine", "free"] (spOpen C)) (b_open_steps : Binds K fdO ["machine", "free"] []) :
    FnOk P w K mg base CX0 3 f fd ["machine", "free"] (spOut C CO) := by
  refine F.ok scOut (fun vs H Q E h => ?_) (fun cdv A outer s H vs Q E hr h => ?_)
  · obtain ⟨p, t, many, sts, ks, rfl, _⟩ := h
    rfl
  · obtain ⟨p, t, many, sts, ks, rfl, M, oks, m1, m2, few, ht, k⟩ := h
    have nd := scOut.nd
    have hr_len_Machine : Room 2 _ := hr
    have hr_open_steps : Room 1 _ := hr.mono (by decide)
    have hr_Outlook : Room 2 _ := hr
    refine ⟨_, (pss_one (ps_ret (pe_make M_Outlook G_Outlook hr_Outlook (by rfl) T.c_Outlook b_Outlook .nil pass0 (pa_cons (pe_callB (call_lenOwn T.h_len_Machine T.f_len_Machine G_len_Machine b_len_Machine hr_len_Machine pass0) (by rfl) T.len PySem.boot_len (pa_cons (pv 0) pa_nil)) (pa_cons (pe_lc (own := [("state", 2), ("_", 3), ("seen", 4), ("goal", 5)]) (by rfl) nd (pi_list (pe_call G_open_steps hr_open_steps (by rfl) T.g_open_steps T.k_open_steps b_open_steps .nil pass0 (pa_cons (pv 0) (pa_cons (pv 1) pa_nil)))) (blkOk_by (N := nOut) (sc := defScope sOut) (by decide +kernel)) (fun _ _ _ _ _ => (pg_tupK (K := K) (n := 4) rfl rfl (pgs_cons (pg_name (i := 2) nd rfl (Or.inl rfl)) (pgs_cons (pg_name (i := 3) nd rfl (Or.inl rfl)) (pgs_cons (pg_name (i := 4) nd rfl (Or.inl rfl)) (pgs_cons (pg_name (i := 5) nd rfl (Or.inl rfl)) pgs_nil)))))) (fun _ _ _ _ _ => pts_nil) (fun _ _ _ _ _ => (pe_tup (pa_cons (pv 2) (pa_cons (pv 4) (pa_cons (pv 5) pa_nil)))))) pa_nil))))), ?_⟩
    have M0 := M
    obtain ⟨dx, sA, kA, wA, bA, dA, hp, B⟩ := M0
    refine ⟨_, rfl, p, dx, _, rfl, hp, p, many, sts, rfl, M, many, rfl, by omega, by omega, _, rfl, _, rfl, p, t, many, sts, ks, rfl, M, oks, few, ht, fun H1 l vs e1 _ hl row => ?_⟩
    have lvs : vs.length = (sts.filter (isOpen ks)).length := row.length
    have lf : (sts.filter (isOpen ks)).length ≤ sts.length := List.length_filter_le ..
    have okf : ∀ s ∈ sts.filter (isOpen ks), OkS many s := fun s hs => oks s (List.mem_filter.mp hs).1
    generalize sts.filter (isOpen ks) = rs at row k lvs lf okf
    refine ⟨l, rfl, ⟨_, SqL.of hl⟩, fun D hD => lc_list (K := K) (a := l) (xs := vs) (fun i H' => ∃ ys, H' D = some (.lst ys) ∧ ys.length = i ∧ Tri H' ys (rs.take i) ∧ Same H1 H') ⟨[], upd_same, rfl, .nil, same_new hD⟩ (fun i H' _ ⟨_, _, _, _, e⟩ => SqL.of (e _ _ hl)) ?_ ?_⟩
    · rintro i x H2 hx ⟨ys, h1, h2, h3, e2⟩
      obtain ⟨s, hs, q, rfl, hq⟩ := row.get hx
      have lt : i < vs.length := (List.getElem?_eq_some_iff.mp hx).1
      refine ⟨q, _, rfl, SqT.of (e2 _ _ hq), rfl, ?_⟩
      refine ⟨_, _, rfl, _, _, rfl, _, _, rfl, _, _, rfl, rfl, ?_⟩
      refine ⟨rfl, ?_⟩
      refine ⟨_, rfl, _, rfl, _, rfl, by show 3 ≤ sizeLine; decide, fun t ht => ⟨ys, ?_, by rw [sizeLine_eq]; omega, ys ++ [.ref t], upd_same, by rw [List.length_append, h2]; rfl, ?_, fun b o z => ?_⟩⟩
      · rw [upd_ne (ne_of_none h1 ht)]; exact h1
      · have ntD : t ≠ D := fun z => by rw [z, h1] at ht; cases ht
        have tk : ∀ b ts, H2 b = some (.tup ts) → (upd (upd H2 t (.tup [.int s.a, .str s.s, .int s.g])) D (.lst (ys ++ [.ref t]))) b = some (.tup ts) := fun b ts z => by
          rw [upd_ne (ne_of z h1 (by intro y; cases y)), upd_ne (ne_of_none z ht)]; exact z
        rw [List.take_add_one, hs]
        exact paired_app (h3.keep tk) (.cons ⟨t, rfl, by rw [upd_ne ntD, upd_same]; rfl⟩ .nil)
      · rw [upd_ne (ne_of_none z hD), upd_ne (ne_of_none (e2 _ _ z) ht)]
        exact e2 _ _ z
    · rintro H2 ⟨ys, h1, h2, h3, e2⟩
      rw [lvs, List.take_length] at h3
      intro x dx' nx ndx nex
      have e3 : Same H2 (upd (upd H2 dx' (.own x)) x (.ins CO dx' [])) := fun b o z => by
        rw [upd_ne (ne_of_none z nx), upd_ne (ne_of_none z ndx)]; exact z
      refine ⟨x, dx', D, many, ys, rs, rfl, upd_same, e3 _ _ h1, h3.keep fun p ts z => e3 _ _ z, okf, by omega, by omega, by omega, fun H4 O off => ⟨rfl, ?_⟩⟩
      exact k H4 x (fun b o z => off _ _ (e3 _ _ (e2 _ _ (e1 _ _ z))) fun e => by rw [e] at z; have := e2 _ _ (e1 _ _ z); rw [nx] at this; cases this) O
end
end K1
end
section
/-! Kinds that ascend. -/
namespace K1
open PySem L2
open MX (Rise Up)
theorem kl_str (a b : Str) : MX.kl (.inr a) (.inr b) = decide (a.cps.toList < b.cps.toList) := by
  show PyProof.Rows.lexLt PyProof.Rows.itemOrd [Sum.inr a.cps.toList] [Sum.inr b.cps.toList] = _
  rw [PySem.W.lex_one]; rfl
section
variable {P : Program} {w : World} {K : PySem.W.Frag} {mg : Str → Option Value} {base : Heap}
/-- a block's turns over zip of two tuples, the second not the longer -/
theorem walk_zipT {K : PySem.W.Frag} {a b : Addr} {xs ys : List V} {G : V → Hp → (Hp → Prop) → Prop} {H0 : Hp} {Qd : Hp → Prop} (hl : ys.length ≤ xs.length) (Pv : Nat → Hp → Prop) (h0 : Pv 0 H0) (hq : ∀ i H, Pv i H → SqT K H a xs ∧ SqT K H b ys)
    (hs : ∀ i x y T H, xs[i]? = some x → ys[i]? = some y → Pv i H → H T = none → G (.ref T) (upd H T (.tup [x, y])) (Pv (i + 1))) (hd : ∀ H, Pv ys.length H → Qd H) :
    ∃ W : Nat → Nat → Hp → Prop, (∃ m, W 0 m H0) ∧ ∀ i m H, W i m H →
      ((RZ.ItzT K a b).stop i H ∧ Qd H) ∨ ((RZ.ItzT K a b).go i H ∧ ∃ Nx : Hp → Prop, (∀ H', Nx H' → ∃ m', m' < m ∧ W (i + 1) m' H') ∧ ∀ x H', (RZ.ItzT K a b).yld i H x H' → G x H' Nx) := by
  refine turns (J := RZ.ItzT K a b) (n := ys.length) Pv h0 (fun i H lt p => ?_) fun H p => ⟨⟨xs, ys, (hq _ H p).1, (hq _ H p).2, Or.inr (Nat.le_refl _)⟩, hd H p⟩
  have lx : i < xs.length := Nat.lt_of_lt_of_le lt hl
  refine ⟨⟨xs, ys, _, _, (hq i H p).1, (hq i H p).2, List.getElem?_eq_getElem lx, List.getElem?_eq_getElem lt⟩, fun v H' y => ?_⟩
  obtain ⟨t, u, u2, e1, new, e2, at1, at2⟩ := y
  rw [e1, e2]
  exact hs i u u2 t H (at1 xs (hq i H p).1) (at2 ys (hq i H p).2) p new
def Asc (ks : List Str) : Prop := Up (ks.map Sum.inr)
theorem Asc.at {ks : List Str} (h : Asc ks) {i : Nat} {x y : Str} (h1 : ks[i]? = some x) (h2 : ks[i + 1]? = some y) : decide (x.cps.toList < y.cps.toList) = true := by
  rw [← kl_str]
  have z : Up (ks.map Sum.inr) := h
  obtain ⟨l1, e1⟩ := List.getElem?_eq_some_iff.mp h1
  obtain ⟨l2, e2⟩ := List.getElem?_eq_some_iff.mp h2
  have q := List.pairwise_iff_getElem.mp z i (i + 1) (by rw [List.length_map]; exact l1) (by rw [List.length_map]; exact l2) (Nat.lt_succ_self i)
  rw [List.getElem_map, List.getElem_map, e1, e2] at q
  exact q
def spAsc : Sp := fun vs H Q _ => ∃ (t : Addr) (ks : List Str), vs = [.ref t] ∧ H t = some (.tup (ks.map V.str)) ∧ ks.length < 64 ∧ Asc ks ∧ ∀ H', Same H H' → Q (.bl true) H'
structure TxtAsc (mg : Str → Option Value) : Prop where
  all : mg "all" = none
  zip : mg "zip" = none
abbrev sAsc : Stmt := top 11
abbrev nAsc : List Str := ["rows", "low", "high"]
theorem scAsc : FnScope nAsc ["rows"] (defScope sAsc) := ⟨rfl, rfl, rfl, by decide +kernel, rfl, by decide +kernel, by decide +kernel⟩
theorem asc_loop {K : PySem.W.Frag} {t b : Addr} {ks : List Str} {ys : List V} {H1 : Hp} {v0 : V} {R : VK} (few : ks.length < 64) (asc : Asc ks) (ht : H1 t = some (.tup (ks.map V.str))) (hb : H1 b = some (.tup ys)) (hl : ys.length ≤ ks.length)
    (hy : ∀ i y, ys[i]? = some y → ∃ z, y = .str z ∧ ks[i + 1]? = some z) (k : ∀ H' D (bs : List Bool), Same H1 H' → H' D = some (.lst (bs.map V.bl)) → bs.all id = true → R (.ref D) H') :
    tLc (fun _ H R => R (RZ.ItzT K t b) H) (gTup K 2 (gCons (gName 1) (gCons (gName 2) gNil))) tYes (tOp (fun x y H Q => ∃ i j, x = V.str i ∧ y = V.str j ∧ Q (V.bl (decide (i.cps.toList < j.cps.toList))) H) (tVar 1) (tVar 2)) [1, 2] [some v0, none, none] H1 R := by
  intro D hD
  refine walk_zipT (K := K) (a := t) (b := b) (xs := ks.map V.str) (ys := ys) (by rw [List.length_map]; exact hl) (fun i H' => H' D = some (.lst ((List.replicate i true).map V.bl)) ∧ Same H1 H') ⟨upd_same, same_new hD⟩ (fun i H' ⟨_, e⟩ => ⟨.inl (.inl (e _ _ ht)), .inl (.inl (e _ _ hb))⟩) ?_ ?_
  · rintro i x y T H2 hx hyi ⟨h1, e⟩ hT
    obtain ⟨z, rfl, hz⟩ := hy i y hyi
    obtain ⟨q, hq, rfl⟩ : ∃ q, ks[i]? = some q ∧ x = V.str q := by
      rw [List.getElem?_map] at hx
      cases e : ks[i]? with
      | none => rw [e] at hx; cases hx
      | some g => rw [e] at hx; exact ⟨g, rfl, (Option.some.inj hx).symm⟩
    have lt : i < ys.length := (List.getElem?_eq_some_iff.mp hyi).1
    refine ⟨T, _, rfl, SqT.of upd_same, rfl, ?_⟩
    refine ⟨_, _, rfl, _, _, rfl, rfl, ?_⟩
    refine ⟨rfl, _, rfl, _, rfl, q, z, rfl, rfl, ?_⟩
    have eT : Same H2 (upd H2 T (.tup [V.str q, V.str z])) := same_new hT
    refine ⟨_, eT _ _ h1, by rw [List.length_map, List.length_replicate, sizeLine_eq]; omega, ?_, fun b o w => ?_⟩
    · rw [upd_same, asc.at hq hz, List.replicate_succ', List.map_append]; rfl
    · rw [upd_ne (ne_of_none w hD)]; exact eT _ _ (e _ _ w)
  · rintro H2 ⟨h1, e⟩
    exact k H2 D _ e h1 (List.all_eq_true.mpr fun x hx => by rw [(List.mem_replicate.mp hx).2]; rfl)
set_option maxHeartbeats 1000000 in
theorem ok_asc {f : Addr} {fd : FuncData} (F : Fun K "is_ascending" "is_ascending" sAsc f fd) (T : TxtAsc mg) : FnOk P w K mg base CX0 1 f fd ["rows"] spAsc := by
  refine F.ok scAsc (fun vs H Q E h => ?_) (fun cdv A outer s H vs Q E hr h => ?_)
  · obtain ⟨t, ks, rfl, _⟩ := h
    rfl
  · obtain ⟨t, ks, rfl, ht, few, asc, k⟩ := h
    have nd := scAsc.nd
    refine ⟨_, (pss_one (ps_ret (pe_callB (cr_all rfl) (by rfl) T.all (by decide +kernel) (pa_cons (pe_lc (own := [("low", 1), ("high", 2)]) (by rfl) nd (RZ.pi_zipA (by rfl) T.zip (pa_cons (pv 0) (pa_cons (pe_slice sl_tupA (pv 0) (po_some pe_int) po_none) pa_nil))) (blkOk_by (N := nAsc) (sc := defScope sAsc) (by decide +kernel)) (fun _ _ _ _ _ => (pg_tupK (K := K) (n := 2) rfl rfl (pgs_cons (pg_name (i := 1) nd rfl (Or.inl rfl)) (pgs_cons (pg_name (i := 2) nd rfl (Or.inl rfl)) pgs_nil)))) (fun _ _ _ _ _ => pts_nil) (fun _ _ _ _ _ => (pe_cmpR op_lt_str (pv 1) (pv 2) (nomark _)))) pa_nil)))), ?_⟩
    refine ⟨_, rfl, _, rfl, _, rfl, t, _, rfl, .inl (.inl ht), fun c => ?_, fun c b nb => ?_⟩
    · have e0 : ks = [] := by
        have z : min 1 (ks.map V.str).length = 0 := c.1
        rw [List.length_map] at z
        exact List.length_eq_zero_iff.mp (by omega)
      subst e0
      refine ⟨t, t, [], [], rfl, .inr ⟨.inl (.inl ht), .inl (.inl ht), ?_⟩⟩
      exact asc_loop (K := K) (v0 := V.ref t) (R := fun x H1 => rAll K [x] H1 Q) (ks := []) (ys := []) few asc ht ht (Nat.le_refl _) (fun i y h => by cases h) fun H' D bs e hD hb => ⟨D, bs, rfl, SqL.of hD, by rw [hb]; exact k H' e⟩
    · have e1 : Same H (upd H b (.tup (cutV (ks.map V.str) (some 1) none))) := same_new nb
      refine ⟨t, b, _, _, rfl, .inr ⟨.inl (.inl (e1 _ _ ht)), .inl (.inl upd_same), ?_⟩⟩
      refine asc_loop (K := K) (v0 := V.ref t) (R := fun x H1 => rAll K [x] H1 Q) few asc (e1 _ _ ht) upd_same (by rw [← List.length_map (f := V.str)]; exact cutV_length ..) (fun i y h => ?_) fun H' D bs e hD hb => ⟨D, bs, rfl, SqL.of hD, by rw [hb]; exact k H' (e1.trans e)⟩
      have ec : cutV (ks.map V.str) (some 1) none = ((ks.map V.str).drop (min 1 (ks.map V.str).length)).take ((ks.map V.str).length - min 1 (ks.map V.str).length) := rfl
      rw [ec, List.getElem?_take] at h
      split at h
      · rename_i lt
        rw [List.getElem?_drop, Nat.min_eq_left (by omega), Nat.add_comm, List.getElem?_map] at h
        cases z : ks[i + 1]? with
        | none => rw [z] at h; cases h
        | some q => rw [z] at h; exact ⟨q, (Option.some.inj h).symm, rfl⟩
      · cases h
end
end K1
end
section
/-! Kinds are checked; traces. -/
namespace K1
open PySem L2
open MX (Rise Up)
section
variable {P : Program} {w : World} {K : PySem.W.Frag} {mg : Str → Option Value} {base : Heap}
def spFree : Sp := fun vs H Q _ => ∃ (t : Addr) (ks : List Str), vs = [.ref t] ∧ H t = some (.tup (ks.map V.str)) ∧ ks.length < 64 ∧ Asc ks ∧ (∀ x ∈ ks, wordS x = true) ∧ ∀ H', Same H H' → Q .non H'
structure TxtFr (K : PySem.W.Frag) (mg : Str → Option Value) (CS fW fA : Addr) : Prop where
  isinstance : mg "isinstance" = none
  all : mg "all" = none
  tuple : mg "tuple" = none
  g_is_word : mg "is_word" = some (.ref fW)
  k_is_word : PySem.W.keepIn K (.ref fW) = true
  g_is_ascending : mg "is_ascending" = some (.ref fA)
  k_is_ascending : PySem.W.keepIn K (.ref fA) = true
  x_BadKinds : PySem.W.excIn K CS [.type "ValueError", .type "Exception", .type "BaseException", .type "object"] "ValueError.__new__" = true
  c_BadKinds : mg "BadKinds" = some (.ref CS)
  k_BadKinds : PySem.W.keepIn K (.ref CS) = true
  b_BadKinds : PySem.W.subIn K (.ref CS) (.type "BaseException") = some true
  t_BadKinds : PySem.W.typeIn K (.ref CS) = some (.type "type")
abbrev sFree : Stmt := top 14
abbrev nFree : List Str := ["kinds", "kind"]
theorem scFree : FnScope nFree ["kinds"] (defScope sFree) := ⟨rfl, rfl, rfl, by decide +kernel, rfl, by decide +kernel, by decide +kernel⟩
set_option maxHeartbeats 1000000 in
theorem ok_free {f CS fW fA : Addr} {fd fdW fdA : FuncData} (F : Fun K "check_free" "check_free" sFree f fd) (T : TxtFr K mg CS fW fA) (G_is_word : FnOk P w K mg base CX0 1 fW fdW ["value"] (spWord K)) (b_is_word : Binds K fdW ["value"] [])
    (G_is_ascending : FnOk P w K mg base CX0 1 fA fdA ["rows"] spAsc) (b_is_ascending : Binds K fdA ["rows"] []) : FnOk P w K mg base (L2.CX P w) 2 f fd ["kinds"] spFree := by
  refine F.okX scFree (fun vs H Q E h => ?_) (fun cdv A outer s H vs Q E hr h => ?_)
  · obtain ⟨t, ks, rfl, _⟩ := h
    rfl
  · obtain ⟨t, ks, rfl, ht, few, asc, ok, k⟩ := h
    have nd := scFree.nd
    have hr_is_word : Room 1 _ := hr
    have hr_is_ascending : Room 1 _ := hr
    refine ⟨_, (pss_cons (ps_if (PW.pt (pw_or (pt_not (pt_val (pe_callB call_isi (by rfl) T.isinstance (by decide +kernel) (pa_cons (pv 0) (pa_cons (pe_bltn (v := .ty "tuple") (by rfl) T.tuple (by decide +kernel) rfl) pa_nil))))) (pw_or1 (pt_not (pt_val (pe_callB (cr_all rfl) (by rfl) T.all (by decide +kernel) (pa_cons (pe_lc (own := [("kind", 1)]) (by rfl) nd (pi_tup (pv 0)) (blkOk_by (N := nFree) (sc := defScope sFree) (by decide +kernel)) (fun _ _ _ _ _ => (pg_name (i := 1) nd rfl (Or.inl rfl))) (fun _ _ _ _ _ => pts_nil) (fun _ _ _ _ _ => (pe_call G_is_word hr_is_word (by rfl) T.g_is_word T.k_is_word b_is_word .nil pass0 (pa_cons (pv 1) pa_nil)))) pa_nil)))))))
        (pss_one (ps_raise rfl (takes_of rfl rfl rfl rfl) (pmk_own PySem.F.excBase_ValueError T.x_BadKinds T.c_BadKinds T.k_BadKinds (raises_own T.b_BadKinds T.t_BadKinds) (by rfl))))
        pss_nil)
      (pss_one (ps_if (pt_not (pt_val (pe_call G_is_ascending hr_is_ascending (by rfl) T.g_is_ascending T.k_is_ascending b_is_ascending .nil pass0 (pa_cons (pv 0) pa_nil))))
        (pss_one (ps_raise rfl (takes_of rfl rfl rfl rfl) (pmk_own PySem.F.excBase_ValueError T.x_BadKinds T.c_BadKinds T.k_BadKinds (raises_own T.b_BadKinds T.t_BadKinds) (by rfl))))
        pss_nil))), ?_⟩
    have pl : Pl K H (.ref t) "tuple" := .tup ht
    have step2 : ∀ H', Same H H' → (tIfS (tNot (tB (tCall spAsc [] E0 (tCons (tVar 0) tNil)))) (fun x σ H => (fun cls d H' => E cls d H') (Value.ref CS) none H) tNext) { nx := fun x H' => Q V.non H', rt := Q } [some (V.ref t), none] H' := fun H' e =>
      ⟨_, rfl, t, ks, rfl, e _ _ ht, few, asc, fun H2 e2 => ⟨_, rfl, iteF (k H2 (e.trans e2))⟩⟩
    refine ⟨_, rfl, .ref t, .ty "tuple", _, _, _, rfl, .ty "tuple", pl.tyX, pl.kit "tuple" (.inr (.inl rfl)), _, rfl, ?_⟩
    refine iteF ⟨_, rfl, t, rfl, ⟨_, SqT.of ht⟩, fun D hD => lc_tup (K := K) (a := t) (xs := ks.map V.str) (fun i H' => H' D = some (.lst ((List.replicate i true).map V.bl)) ∧ Same H H') ⟨upd_same, same_new hD⟩ (fun i H' _ ⟨_, e⟩ => SqT.of (e _ _ ht)) ?_ ?_⟩
    · rintro i x H1 hx ⟨h1, e⟩
      obtain ⟨q, hq, rfl⟩ : ∃ q, ks[i]? = some q ∧ x = V.str q := by
        rw [List.getElem?_map] at hx
        cases e : ks[i]? with
        | none => rw [e] at hx; cases hx
        | some g => rw [e] at hx; exact ⟨g, rfl, (Option.some.inj hx).symm⟩
      have lt : i < ks.length := (List.getElem?_eq_some_iff.mp hq).1
      have wq := ok q (List.mem_of_getElem? hq)
      have lq : q.length ≤ sizeLine := wordE_len (by show (_ || wordS q) = true; rw [wq, Bool.or_true])
      refine ⟨rfl, _, rfl, .str q, "str", rfl, .str lq, _, h1, by rw [List.length_map, List.length_replicate, sizeLine_eq]; omega, ?_, fun b o z => ?_⟩
      · rw [upd_same, show wordB (.str q) = true from wq, List.replicate_succ', List.map_append]; rfl
      · rw [upd_ne (ne_of_none z hD)]; exact e _ _ z
    · rintro H1 ⟨h1, e⟩
      refine ⟨D, _, rfl, SqL.of h1, _, rfl, ?_⟩
      rw [show (List.replicate (ks.map V.str).length true).all id = true from List.all_eq_true.mpr fun x hx => by rw [(List.mem_replicate.mp hx).2]; rfl]
      exact iteF (step2 H1 e)
end
end K1
end
section
/-! Traces. -/
namespace K1
open PySem L2
open MX (Rise Up)
section
variable {P : Program} {w : World} {K : PySem.W.Frag} {mg : Str → Option Value} {base : Heap}
/-- the states behind words -/
noncomputable def seen (ts : List Stp) (many : Int) (ws : List Str) : List Int := ws.foldl (aft ts many) (spr ts many [0])
theorem seen_snoc {ts : List Stp} {many : Int} (ws : List Str) (x : Str) : seen ts many (ws ++ [x]) = aft ts many (seen ts many ws) x := by
  unfold seen
  rw [List.foldl_append]; rfl
theorem aft_asc {ts : List Stp} {many : Int} {ns : List Int} {x : Str} : (aft ts many ns x).Pairwise (· < ·) := spr_asc
theorem seen_asc {ts : List Stp} {many : Int} (ws : List Str) : (seen ts many ws).Pairwise (· < ·) := by
  rcases List.eq_nil_or_concat ws with e | ⟨us, x, e⟩
  · rw [e]; exact spr_asc
  · rw [e, List.concat_eq_append, seen_snoc]; exact aft_asc
theorem seen_inr {ts : List Stp} {many : Int} (ws : List Str) : InR many (seen ts many ws) := by
  rcases List.eq_nil_or_concat ws with e | ⟨us, x, e⟩
  · rw [e]; exact spr_inr
  · rw [e, List.concat_eq_append, seen_snoc]; exact spr_inr
theorem asc_nodup {ns : List Int} (h : ns.Pairwise (· < ·)) : ns.Nodup := h.imp fun {a b} h e => by rw [e] at h; exact Int.lt_irrefl _ h
theorem seen_take {ts : List Stp} {many : Int} {ws : List Str} {i : Nat} {x : Str} (h : ws[i]? = some x) : seen ts many (ws.take (i + 1)) = aft ts many (seen ts many (ws.take i)) x := by
  rw [List.take_add_one, h]; exact seen_snoc _ _
theorem str_at {ws : List Str} {i : Nat} {x : V} (h : (ws.map V.str)[i]? = some x) : ∃ q, ws[i]? = some q ∧ x = V.str q := by
  rw [List.getElem?_map] at h
  cases e : ws[i]? with
  | none => rw [e] at h; cases h
  | some g => rw [e] at h; exact ⟨g, rfl, (Option.some.inj h).symm⟩
def spIsT (C : Addr) : Sp := fun vs H Q _ => ∃ (p tr fr : Addr) (many : Int) (sts : List Stp) (ws ks : List Str), vs = [.ref p, .ref tr, .ref fr] ∧ MachAt C H p many sts ∧ (∀ s ∈ sts, OkS many s) ∧ 1 ≤ many ∧ many < 60 ∧ sts.length < 64 ∧ H tr = some (.lst (ws.map V.str)) ∧ H fr = some (.tup (ks.map V.str)) ∧ ks.length < 64 ∧ Asc ks ∧ (∀ x ∈ ks, wordS x = true) ∧
  (∀ x ∈ ws, x ≠ Str.ofString "") ∧ ∀ H', Same H H' → Q (.bl (decide (0 < (seen (sts.filter (isOpen ks)) many ws).length))) H'
structure TxtIT (K : PySem.W.Frag) (mg : Str → Option Value) (CO fF fO fS fA : Addr) : Prop where
  len : mg "len" = none
  g_check_free : mg "check_free" = some (.ref fF)
  k_check_free : PySem.W.keepIn K (.ref fF) = true
  g_outlook_of : mg "outlook_of" = some (.ref fO)
  k_outlook_of : PySem.W.keepIn K (.ref fO) = true
  cl_Outlook : Cls K CO
  m_spread : Meth K CO "spread" fS
  m_after : Meth K CO "after" fA
abbrev sIsT : Stmt := top 23
abbrev nIsT : List Str := ["machine", "trace", "free", "outlook", "states", "word"]
theorem scIsT : FnScope nIsT ["machine", "trace", "free"] (defScope sIsT) := ⟨rfl, rfl, rfl, by decide +kernel, rfl, by decide +kernel, by decide +kernel⟩
set_option maxHeartbeats 1000000 in
theorem ok_isT {f C CO fF fO fS fA : Addr} {fd fdF fdO fdS fdA : FuncData} (F : Fun K "is_trace" "is_trace" sIsT f fd) (T : TxtIT K mg CO fF fO fS fA) (G_check_free : FnOk P w K mg base (L2.CX P w) 2 fF fdF ["kinds"] spFree) (b_check_free : Binds K fdF ["kinds"] [])
    (G_outlook_of : FnOk P w K mg base CX0 3 fO fdO ["machine", "free"] (spOut C CO)) (b_outlook_of : Binds K fdO ["machine", "free"] []) (G_spread : FnOk P w K mg base CX0 2 fS fdS ["self", "states"] (spSpread CO)) (b_spread : Binds K fdS ["self", "states"] [])
    (G_after : FnOk P w K mg base CX0 3 fA fdA ["self", "states", "word"] (spAfter CO)) (b_after : Binds K fdA ["self", "states", "word"] []) : FnOk P w K mg base (L2.CX P w) 4 f fd ["machine", "trace", "free"] (spIsT C) := by
  refine F.okX scIsT (fun vs H Q E h => ?_) (fun cdv A outer s H vs Q E hr h => ?_)
  · obtain ⟨p, tr, fr, many, sts, ws, ks, rfl, _⟩ := h
    rfl
  · obtain ⟨p, tr, fr, many, sts, ws, ks, rfl, M, oks, m1, m2, few, htr, hfr, lks, asc, okk, wne, k⟩ := h
    have nd := scIsT.nd
    have hr_check_free : Room 2 _ := hr.mono (by decide)
    have hr_spread : Room 2 _ := hr.mono (by decide)
    have hr_outlook_of : Room 3 _ := hr
    have hr_after : Room 3 _ := hr
    refine ⟨_, (pss_cons (ps_expr (pe_callS G_check_free hr_check_free (by rfl) T.g_check_free T.k_check_free b_check_free (E := fun _ => E) (fun σ => passAt (takes_of rfl rfl rfl rfl) σ) (pa_cons (pv 2) pa_nil)))
      (PSs.nox (pss_cons (ps_set (i := 3) nd rfl (Or.inl rfl) (pe_call G_outlook_of hr_outlook_of (by rfl) T.g_outlook_of T.k_outlook_of b_outlook_of .nil pass0 (pa_cons (pv 0) (pa_cons (pv 2) pa_nil))))
      (pss_cons (ps_set (i := 4) nd rfl (Or.inl rfl) (pe_meth (pv 3) T.cl_Outlook T.m_spread G_spread hr_spread b_spread .nil pass0 (pa_cons (pe_lst (pa_cons pe_int pa_nil)) pa_nil)))
      (pss_cons (ps_for PassesOwn.never rfl (pi_list (pv 1)) (pg_name (i := 5) nd rfl (Or.inl rfl))
        (pss_one (ps_set (i := 4) nd rfl (Or.inl rfl) (pe_meth (pv 3) T.cl_Outlook T.m_after G_after hr_after b_after .nil pass0 (pa_cons (pv 4) (pa_cons (pv 5) pa_nil))))))
      (pss_one (ps_ret (pe_cmpR op_gt (pe_callB call_len_seq (by rfl) T.len PySem.boot_len (pa_cons (pv 4) pa_nil)) pe_int (nomark _))))))))), ?_⟩
    refine into ⟨_, rfl, fr, ks, rfl, hfr, lks, asc, okk, fun H1 e1 => ?_⟩
    refine into ⟨_, rfl, _, rfl, p, fr, many, sts, ks, rfl, M.same e1, oks, m1, m2, few, e1 _ _ hfr, fun H2 o e2 O => ?_⟩
    have okf : ∀ s ∈ sts.filter (isOpen ks), OkS many s := fun s hs => oks s (List.mem_filter.mp hs).1
    generalize sts.filter (isOpen ks) = ts at k O okf
    have O0 := O
    obtain ⟨dx, uA, wA, rows, ds, hp, _⟩ := O0
    have e12 := e1.trans e2
    refine into ⟨_, rfl, o, dx, _, rfl, hp, oFlds_no (by decide +kernel), by show 1 ≤ sizeLine; decide, fun l nl => ?_⟩
    have el : Same H2 (upd H2 l (.lst [V.int 0])) := same_new nl
    refine ⟨o, l, many, ts, [0], rfl, O.same el, okf, m2, .inl upd_same, by decide, fun x hx => by rw [List.mem_singleton.mp hx]; exact ⟨Int.le_refl 0, by omega⟩, fun H3 t e3 ht => ?_⟩
    have e13 := e12.trans (el.trans e3)
    refine into ⟨_, rfl, tr, rfl, ⟨_, SqL.of (e13 _ _ htr)⟩, for_list (K := K) (a := tr) (xs := ws.map V.str)
      (fun i σ H' => ∃ (t : Addr) (v5 : Option V), σ = [some (.ref p), some (.ref tr), some (.ref fr), some (.ref o), some (.ref t), v5] ∧ Same H3 H' ∧ H' t = some (.tup ((seen ts many (ws.take i)).map V.int)))
      ⟨t, none, rfl, Same.refl _, ht⟩ (fun i σ H' _ ⟨_, _, _, e, _⟩ => SqL.of (e _ _ (e13 _ _ htr))) ?_ ?_⟩
    · rintro i x σ H4 hx ⟨t4, v5, rfl, e4, ht4⟩
      obtain ⟨q, hq, rfl⟩ := str_at hx
      have eo := el.trans (e3.trans e4)
      refine ⟨_, rfl, o, dx, _, rfl, eo _ _ hp, oFlds_no (by decide +kernel), _, rfl, _, rfl, o, t4, many, ts, _, q, rfl, O.same eo, okf, m2, ht4, asc_nodup (seen_asc _), seen_inr _, wne q (List.mem_of_getElem? hq), fun H5 t5 e5 ht5 => ?_⟩
      exact ⟨t5, _, rfl, e4.trans e5, by rw [seen_take hq]; exact ht5⟩
    · rintro σ H4 ⟨t4, v5, rfl, e4, ht4⟩
      rw [List.length_map, List.take_length] at ht4
      refine ⟨_, rfl, t4, _, rfl, .inr (SqT.of ht4), _, _, rfl, rfl, ?_⟩
      rw [List.length_map]
      have e : decide ((0 : Int) < ((seen ts many ws).length : Int)) = decide (0 < (seen ts many ws).length) := by
        rcases Nat.lt_or_ge 0 (seen ts many ws).length with c | c
        · rw [decide_eq_true c, decide_eq_true (show (0 : Int) < ((seen ts many ws).length : Int) by omega)]
        · rw [decide_eq_false (show ¬ 0 < (seen ts many ws).length by omega), decide_eq_false (show ¬ (0 : Int) < ((seen ts many ws).length : Int) by omega)]
      show Q (V.bl (decide ((0 : Int) < ((seen ts many ws).length : Int)))) H4
      rw [e]
      exact k H4 (e13.trans e4)
end
end K1
end
section
/-! Dicts whose keys are numbers, words or None. -/
namespace MX
open PySem PySem.Spec PyProof.Rows L2 PySem.W

abbrev NK : Type := Option Key
/-- a key as a value -/
def nV : NK → V
  | none => .non
  | some k => kV k
theorem is_nV {P : Program} {w : World} {k : NK} {u : Value} (r : RelV (nV k) u) : (noneKind P w).is k u = true := by
  cases k with
  | none => cases r; rfl
  | some k => exact is_key r
theorem rel_nV {P : Program} {w : World} {k : NK} {u : Value} (h : (noneKind P w).is k u = true) : RelV (nV k) u := by
  cases k with
  | none => cases nk_none (show nkIs none u = true from h); rfl
  | some k => exact relV_key (show keyIs k u = true from h)

/-- at a stands a dict with these keys, in this order -/
structure DictN (P : Program) (w : World) (h : Heap) (a : Addr) (kvs : List (NK × V)) : Prop where
  low : kvs.length ≤ sizeLine
  user : (a == sysModules) = false
  ex : ∃ vs, KV kvs vs ∧ h.DictOf (noneKind P w) a vs
def DictNO (P : Program) (w : World) (a : Addr) (kvs : List (NK × V)) : HO := .ext fun h => DictN P w h a kvs
section
variable {P : Program} {w : World} {h : Heap} {a : Addr} {kvs : List (NK × V)}
theorem DictN.stays {h' : Heap} (R : DictN P w h a kvs) (k : ∀ o, h.get? a = some o → h'.get? a = some o) : DictN P w h' a kvs := by
  obtain ⟨vs, r, o, es, ep, ho, more⟩ := R.ex
  exact ⟨R.low, R.user, vs, r, o, es, ep, k o ho, more⟩
theorem DictN.obj (R : DictN P w h a kvs) : ∃ o, h.get? a = some o ∧ o.dict = none := by
  obtain ⟨vs, r, o, es, ep, ho, ex, _⟩ := R.ex
  exact ⟨o, ho, ex.2.1⟩
theorem DictN.ty {s : Shared} (R : DictN P w s.heap a kvs) : s.TypeIs (.ref a) "dict" := by
  obtain ⟨vs, r, d⟩ := R.ex
  exact d.typeIs
theorem ok_dictN {H : Hp} (R : DictN P w h a kvs) : ObjOk P w H h a (DictNO P w a kvs) := ⟨R, let ⟨o, ho, _⟩ := R.obj; ⟨o, ho⟩, fun _ _ p k => DictN.stays p k⟩
theorem new_dictN {H : Hp} (h : Heap) (big : sysModules < h.objs.size) : ObjOk P w H (h.push { cls := .type "dict", data := .dict #[] }) h.objs.size (DictNO P w h.objs.size []) := by
  refine ok_dictN ⟨Nat.zero_le _, beq_eq_false_iff_ne.mpr (Nat.ne_of_gt big), [], .nil, ?_⟩
  exact ⟨_, #[], 0, Heap.get?_push_size _ rfl, ⟨rfl, rfl, rfl⟩, rfl, fun e he => by simp at he, .nil, List.nodup_nil⟩
end

section
variable {X : Cx} {pins : List (Addr × Obj)} {σ : L2.St} {H : Hp} {s : Shared} {a : Addr} {kvs : List (NK × V)}
theorem dn_of (I : L2.Inv X pins σ H s) (e : Rd H a (DictNO X.prog X.w a kvs)) : DictN X.prog X.w s.heap a kvs := (rd_of I.hok e).1
/-- d[k] = v, the dict as it is -/
theorem dn_put {k : NK} {v : V} {u r : Value} {E : Value → Shared → Prop} {A : Around} {Q : Unit → Shared → Prop} (I : L2.Inv X pins σ H s) (e : H a = some (DictNO X.prog X.w a kvs)) (room : kvs.length < sizeLine) (ru : RelV (nV k) u) (rv : RelV v r)
    (q : ∀ s', L2.Inv X pins σ (upd H a (DictNO X.prog X.w a (putK kvs k v))) s' → Q () s') : wpAny (model X.prog X.w) A (dictSet a u r) Q E s := by
  have R := dn_of I (.inl e)
  obtain ⟨vs, rel, d⟩ := R.ex
  have few := length_putK kvs k v
  refine wpAny_dictSet_pairs (hsz := by rw [← rel.length]; exact R.low) (is_nV ru) d fun h' d' sb => q _ ?_
  have R' : DictN X.prog X.w h' a (putK kvs k v) := ⟨by omega, R.user, _, rel.put k rv, d'⟩
  have ⟨o, ho, _⟩ := R'.obj
  exact d_write I (by rw [e]; exact True.intro) sb ⟨o, ho⟩ (ok_dictN R')
end
end MX
end
section
/-! Such dicts read: stores, items, get, ==, for (k, v) in d.items(), comprehensions. -/
namespace MX
open PySem PySem.Spec PyProof.Rows L2 PySem.W

def tGetN (P : Program) (w : World) (td ty : TE) : TE := fun σ H Q => td σ H fun x H1 => ty σ H1 fun y H2 => ∃ (a : Addr) (kvs : List (NK × V)) (k : NK) (v : V), x = .ref a ∧ y = nV k ∧ Rd H2 a (DictNO P w a kvs) ∧ valV kvs k = some v ∧ Q v H2
def tGet1N (P : Program) (w : World) (td ty : TE) : TE := fun σ H Q => td σ H fun x H1 => ∃ (a : Addr) (kvs : List (NK × V)), x = .ref a ∧ Rd H1 a (DictNO P w a kvs) ∧ ty σ H1 fun y H2 => ∃ k : NK, y = nV k ∧ Rd H2 a (DictNO P w a kvs) ∧ Q ((valV kvs k).getD .non) H2
def sPutN (P : Program) (w : World) (td ty tv : TE) : TS := fun D σ H => tv σ H fun v H1 => td σ H1 fun x H2 => ty σ H2 fun y H3 => ∃ (a : Addr) (kvs : List (NK × V)) (k : NK), x = .ref a ∧ y = nV k ∧ H3 a = some (DictNO P w a kvs) ∧ kvs.length < sizeLine ∧ D.nx σ (upd H3 a (DictNO P w a (putK kvs k v)))
def rEqN (P : Program) (w : World) (neg : Bool) : R2 := fun x y H Q => ∃ (a b : Addr) (ks ls : List (NK × V)), x = .ref a ∧ y = .ref b ∧ H a = some (DictNO P w a ks) ∧ H b = some (DictNO P w b ls) ∧ ks.length = ls.length ∧ (∀ p ∈ ks, valV ls p.1 = some p.2 ∧ flatB p.2 = true) ∧ Q (.bl (!neg)) H
/-- the pairs of a locked dict -/
def ItN (P : Program) (w : World) (d : Addr) (o : Obj) (kvs : List (NK × V)) : It where
  go i H := H d = some (.frz o (DictNO P w d kvs)) ∧ i < kvs.length
  yld i H x H' := ∃ (T : Addr) (k : NK) (v : V), kvs[i]? = some (k, v) ∧ x = .ref T ∧ H T = none ∧ H' = upd H T (.tup [nV k, v])
  stop i H := H d = some (.frz o (DictNO P w d kvs)) ∧ kvs.length ≤ i
def iItN (P : Program) (w : World) (td : TE) : TI := fun σ H R => td σ H fun x H1 => ∃ (d : Addr) (o : Obj) (kvs : List (NK × V)), x = .ref d ∧ H1 d = some (.frz o (DictNO P w d kvs)) ∧ R (ItN P w d o kvs) H1

section
variable {X : Cx} {pins : List (Addr × Obj)} {σ : L2.St} {H : Hp} {s : Shared} {a : Addr} {kvs : List (NK × V)}
theorem get_n {k : NK} {v : V} {u : Value} {E : Value → Shared → Prop} {A : Around} {Q : Value → Shared → Prop} (I : L2.Inv X pins σ H s) (e : Rd H a (DictNO X.prog X.w a kvs)) (ru : RelV (nV k) u) (at_ : valV kvs k = some v)
    (q : ∀ r s', L2.Inv X pins σ H s' → RelV v r → Q r s') : wpAny (model X.prog X.w) A (getItem (.ref a) u) Q E s := by
  obtain ⟨vs, rel, d⟩ := (dn_of I e).ex
  have z := rel.val k
  rw [at_] at z
  obtain ⟨r, er, rv⟩ := RelO.some_of z
  exact wpAny_getItem_of (is_nV ru) d.mapOf er (q r _ (I.tok _) rv)
theorem store_n {k : NK} {v : V} {u r : Value} {E : Value → Shared → Prop} {A : Around} {Q : Unit → Shared → Prop} (I : L2.Inv X pins σ H s) (e : H a = some (DictNO X.prog X.w a kvs)) (room : kvs.length < sizeLine) (ru : RelV (nV k) u) (rv : RelV v r)
    (q : ∀ s', L2.Inv X pins σ (upd H a (DictNO X.prog X.w a (putK kvs k v))) s' → Q () s') : wpAny (model X.prog X.w) A (setItem (.ref a) u r) Q E s := by
  have R := dn_of I (.inl e)
  obtain ⟨vs, rel, d⟩ := R.ex
  have few := length_putK kvs k v
  refine wpAny_setItem_pairs (hsz := by rw [← rel.length]; exact R.low) (is_nV ru) d fun h' d' sb => q _ ?_
  have R' : DictN X.prog X.w h' a (putK kvs k v) := ⟨by omega, R.user, _, rel.put k rv, d'⟩
  have ⟨o, ho, _⟩ := R'.obj
  exact d_write I (by rw [e]; exact True.intro) sb ⟨o, ho⟩ (ok_dictN R')
theorem is_dict (I : L2.Inv X pins σ H s) (e : Rd H a (DictNO X.prog X.w a kvs)) : s.TypeIs (.ref a) "dict" ∧ ∀ b, Value.ref a = .ref b → ∃ o, s.heap.get? b = some o ∧ o.dict = none :=
  ⟨(dn_of I e).ty, fun b eb => by cases eb; exact (dn_of I e).obj⟩
end
section
variable {X : Cx} {d i e v : Expr} {td ty tv : TE} {pos pos' apos cpos : Pos}
theorem pe_getN (hd : PE X d td) (hi : PE X i ty) (one : NoSl i) : PE X (.Subscript d i pos) (tGetN X.prog X.w td ty) := by
  constructor
  intro pins s σ H Q I h
  refine subD_of F.slot_dict_getitem.lookup one (thn (hd.run pins s σ H _ I h) fun r1 s1 ⟨x, H1, I1, rx, h1⟩ => thn (hi.run pins s1 σ H1 _ I1 h1) fun r2 s2 ⟨y, H2, I2, ry, a, kvs, k, v, ex, ey, at_, val, q⟩ => ?_)
  subst ex ey
  cases rx
  exact ⟨(is_dict I2 at_).1, get_n I2 at_ ry val fun r s3 I3 rv => ⟨v, H2, I3, rv, q⟩⟩
theorem ps_putN (hd : PE X d td) (hi : PE X i ty) (hv : PE X v tv) (sw : swapsWith v (some (.Subscript d i pos')) pos.line X.env = pure false) : PS X (.Assign [.Subscript d i pos'] v pos) (sPutN X.prog X.w td ty tv) := by
  constructor
  intro pins s σ H D I h
  refine wpAny_Assign_Subscript (thn (hv.run pins s σ H _ I h) fun r0 s0 ⟨z, H0, I0, rz, h0⟩ => thn (hd.run pins s0 σ H0 _ I0 h0) fun r1 s1 ⟨x, H1, I1, rx, h1⟩ => thn (hi.run pins s1 σ H1 _ I1 h1) fun r2 s2 ⟨y, H2, I2, ry, a, kvs, k, ex, ey, at_, room, q⟩ => ?_) sw
  subst ex ey
  cases rx
  exact store_n I2 at_ room ry rz fun s3 I3 => ⟨σ, _, I3, q⟩
theorem pe_get1N (hd : PE X d td) (he : PE X e ty) (m : M1 X d "get" apos e cpos) : PE X (.Call (.Attribute d "get" apos) [e] [] cpos) (tGet1N X.prog X.w td ty) := by
  constructor
  intro pins s σ H Q I h
  refine wpAny_Call_method m.base m.few m.line F.plainAttrs_dict F.slot_dict_get F.type_dict_get (thn (hd.run pins s σ H _ I h) fun r1 s1 ⟨x, H1, I1, rx, a, kvs, ex, at1, h1⟩ => ?_)
  subst ex
  cases rx
  refine ⟨(is_dict I1 at1).1, (is_dict I1 at1).2, ?_⟩
  rw [m.trees]
  refine Calls.callWith_builtin rfl (Calls.evalArgs_plain (Calls.spliced_cons (thn (he.run pins s1 σ H1 _ I1 h1) fun r2 s2 ⟨y, H2, I2, ry, k, ey, at2, q⟩ => Calls.spliced_nil ?_)))
  subst ey
  have R := dn_of I2 at2
  obtain ⟨vs, rel, dd⟩ := R.ex
  exact call_meetsIn F.slot_dict_get R.ty F.entry_dict_get (F.args_dict_get_2 _ _) (meets_dict_get (noneKind X.prog X.w) a (is_nV ry) R.user) ⟨_, dd.mapOf, ⟨_, H2, I2.tok _, (rel.val k).getD (show RelV .non .none from rfl), q⟩⟩
theorem op_eqN (hu : X.A.units < cLine) : OpR X (compareOp .Eq) (rEqN X.prog X.w false) := by
  intro pins s σ H x y r1 r2 Q I rx ry ⟨a, b, ks, ls, ex, ey, ea, eb, len, all, q⟩
  subst ex ey
  cases rx
  cases ry
  have A := dn_of I (.inl ea)
  have B := dn_of I (.inl eb)
  obtain ⟨va, ka, da⟩ := A.ex
  obtain ⟨vb, kb, db⟩ := B.ex
  exact keq_eq (r := true) A.user B.user da db hu (fun _ => hits_all kb ka all) (fin_bl I q (by rw [← ka.length, ← kb.length, len]; simp))
theorem op_neN (hu : X.A.units < cLine) : OpR X (compareOp .NotEq) (rEqN X.prog X.w true) := by
  intro pins s σ H x y r1 r2 Q I rx ry ⟨a, b, ks, ls, ex, ey, ea, eb, len, all, q⟩
  subst ex ey
  cases rx
  cases ry
  have A := dn_of I (.inl ea)
  have B := dn_of I (.inl eb)
  obtain ⟨va, ka, da⟩ := A.ex
  obtain ⟨vb, kb, db⟩ := B.ex
  exact keq_ne (r := true) A.user B.user da db hu (fun _ => hits_all kb ka all) (fin_bl I q (by rw [← ka.length, ← kb.length, len]; simp))
end

/-! ### for (k, v) in d.items() -/
section
variable {X : Cx} {pins : List (Addr × Obj)} {σ : L2.St} {H : Hp} {s : Shared} {d : Addr} {o : Obj} {kvs : List (NK × V)}
/-- what a locked dict's object is -/
theorem locked (I : L2.Inv X pins σ H s) (e : H d = some (.frz o (DictNO X.prog X.w d kvs))) : ∃ es ep vs, o.data = .dict es ep ∧ KV kvs vs ∧ s.heap.DictAt (noneKind X.prog X.w) d vs ep ∧ (d == sysModules) = false := by
  obtain ⟨ho, R, _⟩ := I.hok d _ e
  obtain ⟨vs, rel, o', es, ep, ho', ex, hd, more⟩ := DictN.ex R
  obtain rfl : o = o' := Option.some.inj (ho.symm.trans ho')
  exact ⟨es, ep, vs, hd, rel, ⟨o, es, ho, ex, hd, more⟩, DictN.user R⟩
theorem kv_at {vs : List (NK × Value)} (rel : KV kvs vs) {i : Nat} (lt : i < kvs.length) : ∃ k v u, kvs[i]? = some (k, v) ∧ vs[i]? = some (k, u) ∧ RelV v u := by
  obtain ⟨u, eu, ru⟩ := kv_get rel (i := i) (k := (kvs[i]).1) (v := (kvs[i]).2) (by rw [List.getElem?_eq_getElem lt])
  exact ⟨_, _, u, by rw [List.getElem?_eq_getElem lt], eu, ru⟩
end
theorem turn_itN {P : Program} {w : World} {K : PySem.W.Frag} {elts : List Expr} {kk : Nat} {tpos : Pos} {d : Addr} {o : Obj} {kvs : List (NK × V)} {es : Array DictEntry} {ep : Nat} (it : Addr) (data : o.data = .dict es ep) :
    Turn P w K (.Tuple elts kk tpos) (ItN P w d o kvs) [it] it (fun i h => ∃ ok ov, IsItemIter h it d i kvs.length ep ok ov) := by
  have only : ∀ {b : Addr}, b ∈ [it] → b = it := fun h => by simpa using h
  refine { mem := List.mem_cons_self, obj := ?obj, keep := ?keep, item := ?item, done := ?done, self := ?self }
  case obj =>
    rintro i h ⟨ok, ov, z⟩ b hb
    rw [only hb]
    exact ⟨_, z, fun v c => by cases c⟩
  case keep => exact fun i h h' ⟨ok, ov, z⟩ k => ⟨ok, ov, k it List.mem_cons_self _ z⟩
  case self => exact fun A i s Q E ⟨_, _, z⟩ q => kcp_self z q
  case item =>
    rintro X rfl rfl rfl calm i pins s σ H E I free ⟨ok, ov, z⟩ ⟨at_, lt⟩
    obtain ⟨es', ep', vs, data', rel, D, user⟩ := locked I at_
    obtain ⟨rfl, rfl⟩ : es' = es ∧ ep' = ep := by rw [data] at data'; cases data'; exact ⟨rfl, rfl⟩
    obtain ⟨k, v, u, ek, eu, ru⟩ := kv_at rel lt
    rw [rel.length] at z
    have young : it < s.heap.objs.size := Heap.lt_size z
    refine wpAny_pyNext_items_item z D eu fun key h1 is out tup size old => ⟨_, rfl, wpAny_letOwnedTupleGo_items (s := { s with heap := h1 }) out fun h2 z2 sb => ?_⟩
    have tup2 := (sb.2 s.heap.objs.size (Nat.ne_of_gt young)).trans tup
    have fresh := I.hok.fresh (Nat.le_refl s.heap.objs.size)
    refine ⟨.ref s.heap.objs.size, upd H s.heap.objs.size (.tup [nV k, v]), ?_, rfl, ⟨_, k, v, ek, rfl, fresh, rfl⟩, ⟨key, u, by rw [rel.length]; exact z2⟩, fun b hb => ?_⟩
    · refine I.turnedNew (t' := s.toks) (ch := [it]) (fun b ob out' e => ?_) free (Nat.le_refl _) ⟨(by decide : 2 ≤ sizeLine), [key, u], .cons (rel_nV is) (.cons ru .nil), _, tup2, rfl, _, rfl⟩
      have ne : b ≠ it := fun e' => out' (by rw [e']; exact List.mem_cons_self)
      exact (sb.2 b ne).trans (old b ob ne e)
    · rw [only hb, upd_ne (Nat.ne_of_lt young)]
      exact (free it List.mem_cons_self).1
  case done =>
    rintro X rfl rfl rfl calm i pins s σ H E I free ⟨ok, ov, z⟩ ⟨at_, le⟩
    obtain ⟨es', ep', vs, data', rel, D, user⟩ := locked I at_
    obtain ⟨rfl, rfl⟩ : es' = es ∧ ep' = ep := by rw [data] at data'; cases data'; exact ⟨rfl, rfl⟩
    rw [rel.length] at z le
    obtain ⟨none_, loc, frame, young, cells, pinned⟩ := free it List.mem_cons_self
    exact wpAny_pyNext_items_end (I.ok.hd calm) z D (List.getElem?_eq_none le) fun h1 eb => ⟨rfl, I.turned (t' := s.toks) (fun b ob ne e => eb b ob ne e) none_ loc young cells pinned⟩
theorem pi_itN {X : Cx} {e : Expr} {td : TE} {apos cpos tpos : Pos} {elts : List Expr} {kk : Nat} (he : PE X e td) (plain : attributeBase e "items" X.env (eval e X.env) = eval e X.env := by rfl) (row : (apos.endLine == cpos.line) = true := by rfl) :
    PI X (.Tuple elts kk tpos) (.Call (.Attribute e "items" apos) [] [] cpos) (iItN X.prog X.w td) := by
  constructor
  intro pins s σ H R I h
  refine wpAny_Call_method (T := "dict") (id := "dict.items") plain rfl row F.plainAttrs_dict F.slot_dict_items F.type_dict_items (thn (he.run pins s σ H _ I h) fun r1 s1 ⟨x, H1, I1, rx, d, o, kvs, ex, at_, q⟩ => ?_)
  subst ex
  cases rx
  obtain ⟨es, ep, vs, data, rel, D, user⟩ := locked I1 at_
  have ty := is_dict I1 (.inr ⟨o, at_⟩)
  refine ⟨ty.1, ty.2, method_meetsIn F.slot_dict_items F.entry_dict_items rfl (PySem.evalArgs_none ⟨rfl, ty.1, F.args_dict_items_1 _, _, meets_dict_items (noneKind X.prog X.w) d user, ⟨vs, D.dictOf⟩, ?_⟩)⟩
  have I2 : L2.Inv X pins σ H1 { s1 with heap := s1.heap.push { cls := .type "dict_items", data := .fields #[.ref d] } } := I1.kept (t' := s1.toks) fun b ob z => Heap.get?_push_of_some _ z
  refine wpAny_pyIter_items (knd := noneKind X.prog X.w) ⟨_, Heap.get?_push_size _ rfl, rfl, rfl⟩ (D.push _) (pi_one (tk := s1.toks) I2 _ (turn_itN _ data) ⟨.none, .none, ?_⟩ q)
  rw [rel.length]
  exact Heap.get?_push_size _ rfl

/-! ### {k: v for .. in ..} -/
def tDcN (P : Program) (w : World) (wi : TI) (g : TG) (tt : TT) (tk tv : TE) (vs : List Nat) : TE :=
  tGather (fun D => DictNO P w D []) (fun D σ H Nx => tk σ H fun y H4 => tv σ H4 fun z H5 => ∃ (kvs : List (NK × V)) (k : NK), y = nV k ∧ H5 D = some (DictNO P w D kvs) ∧ kvs.length < sizeLine ∧ Nx (upd H5 D (DictNO P w D (putK kvs k z)))) wi g tt vs
section
variable {X : Cx}
theorem pe_dcN {kx vx tg iter : Expr} {ifs : List Expr} {scope : Scope} {own : List (PySem.Str × Nat)} {pos : Pos} {wi : TI} {g : TG} {tt : TT} {tk tv : TE} (hc : X.calm = true) (hN : X.N.Nodup) (hi : PI X tg iter wi) (ok : BlkOk X.N X.env.scope scope own)
    (hg : ∀ (s : Shared) (H : Hp) (C : Addr) (cl : List (PySem.Str × Addr)) (fp : List Addr), PG (X.blk s H scope (compEnvC scope cl C X.env) fp) tg g) (ht : ∀ (s : Shared) (H : Hp) (C : Addr) (cl : List (PySem.Str × Addr)) (fp : List Addr), PTs (X.blk s H scope (compEnvC scope cl C X.env) fp) ifs tt)
    (hk : ∀ (s : Shared) (H : Hp) (C : Addr) (cl : List (PySem.Str × Addr)) (fp : List Addr), PE (X.blk s H scope (compEnvC scope cl C X.env) fp) kx tk)
    (he : ∀ (s : Shared) (H : Hp) (C : Addr) (cl : List (PySem.Str × Addr)) (fp : List Addr), PE (X.blk s H scope (compEnvC scope cl C X.env) fp) vx tv) (hs : ∀ x, foldedSetIterable iter X.env x = pure x := by intro _; rfl) :
    PE X (.DictComp kx vx [⟨tg, iter, ifs, 0⟩] scope pos) (tDcN X.prog X.w wi g tt tk tv (own.map (·.2))) := by
  constructor
  intro pins s σ H Q I h
  rw [arm_eval_DictComp]
  refine gather (o0 := { cls := .type "dict", data := .dict #[] }) hc hN I hi ok rfl (fun s Q q => wpAny_newObj_type q) (fun s H I' => new_dictN s.heap I'.big) hg ht ?_ (fun it acc ce R s4 a b => codeAny_compStart_dict a b) hs h ?_
  · intro s3 H3 C cl fp it D Iv R turns n s4 i4
    refine compLoop_anyD Iv (fun n s5 i5 => thnF (turns n s5 i5) fun r s6 h6 => ?_) n i4
    cases r with
    | none => exact h6
    | some v =>
      refine thnF h6 fun _ s7 h7 => thnF h7 fun _ s8 h8 => thnF h8 fun b s9 ⟨pl, σ9, H9, Nx, I9, q9, next⟩ => ?_
      cases b with
      | false => exact next s9 H9 I9 q9
      | true =>
        refine thnF ((hk s3 H3 C cl fp).run pl s9 σ9 H9 _ I9 q9) fun z s10 ⟨y, H10, I10, r10, q10⟩ => ?_
        refine thnF ((he s3 H3 C cl fp).run pl s10 σ9 H10 _ I10 q10) fun z2 s11 ⟨y2, H11, I11, r11, kvs, k, ey, atD, room, nx⟩ => ?_
        subst ey
        exact dn_put (X := X.blk s3 H3 scope (compEnvC scope cl C X.env) fp) I11 atD room r10 r11 fun s12 I12 => next s12 _ I12 nx
  · exact fun D C s' m H' I' q ns f => block_gone I' q ns f
end
end MX
end
section
/-! Watchers: what is asked, what is told, steps with marks. -/
namespace K1
open PySem L2
section
variable {P : Program} {w : World} {K : PySem.W.Frag} {mg : Str → Option Value} {base : Heap}
/-- none, or one of some words -/
def aboutB (ks : List Str) : V → Bool
  | .non => true
  | .str x => decide (x ∈ ks)
  | _ => false
def spAbout (K : PySem.W.Frag) (CS : Addr) : Sp := fun vs H Q E => ∃ (v : V) (t : Addr) (ks : List Str), vs = [v, .ref t] ∧ (v = .non ∨ (∃ x : Str, v = .str x) ∨ ∃ i : Int, v = .int i) ∧ H t = some (.tup (ks.map V.str)) ∧
  (aboutB ks v = false → E (.ref CS) none H) ∧ (aboutB ks v = true → Q .non H)
structure TxtAb (K : PySem.W.Frag) (mg : Str → Option Value) (CS : Addr) : Prop where
  x_BadKinds : PySem.W.excIn K CS [.type "ValueError", .type "Exception", .type "BaseException", .type "object"] "ValueError.__new__" = true
  c_BadKinds : mg "BadKinds" = some (.ref CS)
  k_BadKinds : PySem.W.keepIn K (.ref CS) = true
  b_BadKinds : PySem.W.subIn K (.ref CS) (.type "BaseException") = some true
  t_BadKinds : PySem.W.typeIn K (.ref CS) = some (.type "type")
abbrev sAb : Stmt := top 25
theorem scAb : FnScope ["about", "free"] ["about", "free"] (defScope sAb) := ⟨rfl, rfl, rfl, by decide +kernel, rfl, by decide +kernel, by decide +kernel⟩
theorem inV_int (i : Int) : ∀ ks : List Str, inV (.int i) (ks.map V.str) = false
  | [] => rfl
  | k :: ks => inV_int i ks
theorem ok_about {f CS : Addr} {fd : FuncData} (F : Fun K "check_about" "check_about" sAb f fd) (T : TxtAb K mg CS) : FnOk P w K mg base (L2.CX P w) 1 f fd ["about", "free"] (spAbout K CS) := by
  refine F.okX scAb (fun vs H Q E h => ?_) (fun cdv A outer s H vs Q E hr h => ?_)
  · obtain ⟨v, t, ks, rfl, _⟩ := h
    rfl
  · obtain ⟨v, t, ks, rfl, kind, ht, kb, kg⟩ := h
    refine ⟨_, (pss_one (ps_if (PW.pt (pw_and (pt_cmpR op_notN (pv 0) pe_non (nomark _)) (pw_and1 (pt_cmpR op_notIn_seq (pv 0) (pv 1) rfl))))
        (pss_one (ps_raise rfl (takes_of rfl rfl rfl rfl) (pmk_own PySem.F.excBase_ValueError T.x_BadKinds T.c_BadKinds T.k_BadKinds (raises_own T.b_BadKinds T.t_BadKinds) (by rfl))))
        pss_nil)), ?_⟩
    rcases kind with rfl | ⟨x, rfl⟩ | ⟨i, rfl⟩
    · exact ⟨_, rfl, rfl, _, rfl, iteF (iteF (kg rfl))⟩
    · refine ⟨_, rfl, rfl, _, rfl, iteT ⟨_, rfl, _, rfl, t, _, rfl, .inr (SqT.of ht), rfl, flat_strs ks, _, rfl, ?_⟩⟩
      rw [inV_str]
      cases c : decide (x ∈ ks) with
      | true => exact iteF (kg c)
      | false => exact iteT (kb c)
    · refine ⟨_, rfl, rfl, _, rfl, iteT ⟨_, rfl, _, rfl, t, _, rfl, .inr (SqT.of ht), rfl, flat_strs ks, _, rfl, ?_⟩⟩
      rw [inV_int]
      exact iteT (kb rfl)
/-- what is told of a kind -/
def told (ns : List Int) (many : Int) : Str :=
  if many ≤ ns.headD 0 then Str.ofString "certain" else if ns.getLastD 0 < many then Str.ofString "out" else Str.ofString "possible"
def spVer : Sp := fun vs H Q _ => ∃ (t : Addr) (ns : List Int) (many : Int), vs = [.ref t, .int many] ∧ H t = some (.tup (ns.map V.int)) ∧ 0 < ns.length ∧ Q (.str (told ns many)) H
abbrev sVer : Stmt := top 29
theorem scVer : FnScope ["states", "many"] ["states", "many"] (defScope sVer) := ⟨rfl, rfl, rfl, by decide +kernel, rfl, by decide +kernel, by decide +kernel⟩
theorem ok_ver {f : Addr} {fd : FuncData} (F : Fun K "verdict" "verdict" sVer f fd) : FnOk P w K mg base CX0 1 f fd ["states", "many"] spVer := by
  refine F.ok scVer (fun vs H Q E h => ?_) (fun cdv A outer s H vs Q E hr h => ?_)
  · obtain ⟨t, ns, many, rfl, _⟩ := h
    rfl
  · obtain ⟨t, ns, many, rfl, ht, pos, k⟩ := h
    refine ⟨_, (pss_cons (ps_if (pt_cmpR op_ge (pe_ix ix_tup (pv 0) pe_int (fun _ _ => rfl)) (pv 1) (nomark _))
        (pss_one (ps_ret pe_str))
        pss_nil)
      (pss_one (ps_ret (pe_ifExp (pt_cmpR op_lt (pe_ix ix_tup (pv 0) (pe_un un_neg pe_int) (fun _ _ => rfl)) (pv 1) (nomark _)) pe_str pe_str)))), ?_⟩
    have first : atI (ns.map V.int) 0 = some (.int (ns.headD 0)) := by
      cases ns with
      | nil => exact absurd pos (by simp)
      | cons n ns => exact atI_nat (j := 0) (xs := (n :: ns).map V.int) rfl
    have last : atI (ns.map V.int) (-1) = some (.int (ns.getLastD 0)) := by
      rcases List.eq_nil_or_concat ns with e | ⟨us, x, e⟩
      · rw [e] at pos; exact absurd pos (by simp)
      · rw [e, List.concat_eq_append, List.map_append, List.getLastD_concat]
        exact atI_last _ _
    refine into ⟨_, rfl, t, _, _, _, rfl, rfl, SqT.of ht, first, _, rfl, _, _, rfl, rfl, _, rfl, ?_⟩
    unfold told at k
    rcases Classical.em (many ≤ ns.headD 0) with c | c
    · rw [decide_eq_true c]
      rw [if_pos c] at k
      exact iteT k
    · rw [decide_eq_false c]
      rw [if_neg c] at k
      refine iteF ⟨_, rfl, _, rfl, t, _, _, _, rfl, rfl, SqT.of ht, last, _, rfl, _, _, rfl, rfl, _, rfl, ?_⟩
      rcases Classical.em (ns.getLastD 0 < many) with d | d
      · rw [decide_eq_true d]
        rw [if_pos d] at k
        exact iteT k
      · rw [decide_eq_false d]
        rw [if_neg d] at k
        exact iteF k
/-- steps that remember a kind of falls -/
def marks (many : Int) (k : Str) (s : Stp) : List Stp := [⟨s.a, Str.ofString "", s.s, if s.k = k then s.g + many else s.g⟩, ⟨s.a + many, Str.ofString "", s.s, s.g + many⟩]
def marked (many : Int) (k : Str) (ss : List Stp) : List Stp := ss.flatMap (marks many k)
def spMark (C : Addr) : Sp := fun vs H Q _ => ∃ (p t : Addr) (many : Int) (sts : List Stp) (k : Str) (ks : List Str), vs = [.ref p, .str k, .ref t] ∧ MachAt C H p many sts ∧ (∀ s ∈ sts, OkS many s) ∧ 1 ≤ many ∧ many < 60 ∧ sts.length < 32 ∧ H t = some (.tup (ks.map V.str)) ∧
  ∀ H' D ys, Same H H' → H' D = some (.lst ys) → Tri H' ys (marked many k (sts.filter (isOpen ks))) → Q (.ref D) H'
structure TxtMk (K : PySem.W.Frag) (mg : Str → Option Value) (C fL fO : Addr) : Prop where
  len : mg "len" = none
  h_len_Machine : PySem.W.findIn K (.ref C) "__len__" = some (some (.ref fL))
  f_len_Machine : PySem.W.isFn K (.ref fL) = true
  g_open_steps : mg "open_steps" = some (.ref fO)
  k_open_steps : PySem.W.keepIn K (.ref fO) = true
abbrev sMk : Stmt := top 28
abbrev nMk : List Str := ["machine", "kind", "free", "many", "steps", "state", "fall", "seen", "goal"]
theorem scMk : FnScope nMk ["machine", "kind", "free"] (defScope sMk) := ⟨rfl, rfl, rfl, by decide +kernel, rfl, by decide +kernel, by decide +kernel⟩
set_option maxHeartbeats 1000000 in
theorem ok_marked {f C fL fO : Addr} {fd fdL fdO : FuncData} (F : Fun K "marked_steps" "marked_steps" sMk f fd) (T : TxtMk K mg C fL fO)
    (G_len_Machine : FnOk P w K mg base CX0 1 fL fdL ["self"] (spMLen C)) (b_len_Machine : Binds K fdL ["self"] []) (G_open_steps : FnOk P w K mg base CX0 1 fO fdO ["machine", "free"] (spOpen C)) (b_open_steps : Binds K fdO ["machine", "free"] []) :
    FnOk P w K mg base CX0 3 f fd ["machine", "kind", "free"] (spMark C) := by
  refine F.ok scMk (fun vs H Q E h => ?_) (fun cdv A outer s H vs Q E hr h => ?_)
  · obtain ⟨p, t, many, sts, k, ks, rfl, _⟩ := h
    rfl
  · obtain ⟨p, t, many, sts, k, ks, rfl, M, oks, m1, m2, few, ht, kk⟩ := h
    have nd := scMk.nd
    have hr_len_Machine : Room 2 _ := hr
    have hr_open_steps : Room 1 _ := hr.mono (by decide)
    refine ⟨_, (pss_cons (ps_par (i := 3) (j := 4) (by rfl) nd rfl rfl (by decide) rfl rfl (pa_cons (pe_callB (call_lenOwn T.h_len_Machine T.f_len_Machine G_len_Machine b_len_Machine hr_len_Machine pass0) (by rfl) T.len PySem.boot_len (pa_cons (pv 0) pa_nil)) (pa_cons (pe_lst pa_nil) pa_nil)) (by rfl))
      (pss_cons (ps_for PassesOwn.never rfl (pi_list (pe_call G_open_steps hr_open_steps (by rfl) T.g_open_steps T.k_open_steps b_open_steps .nil pass0 (pa_cons (pv 0) (pa_cons (pv 2) pa_nil)))) (pg_tup rfl (pgs_cons (pg_name (i := 5) nd rfl (Or.inl rfl)) (pgs_cons (pg_name (i := 6) nd rfl (Or.inl rfl)) (pgs_cons (pg_name (i := 7) nd rfl (Or.inl rfl)) (pgs_cons (pg_name (i := 8) nd rfl (Or.inl rfl)) pgs_nil)))))
        (pss_cons (ps_expr (pe_bm PySem.F.plainAttrs_list PySem.F.slot_list_append PySem.F.type_list_append mt_append (pv 4) (pa_cons (pe_tup (pa_cons (pv 5) (pa_cons (pv 7) (pa_cons (pe_ifExp (pt_cmpR op_eq (pv 6) (pv 1) (nomark _)) (pe_op op_add (pv 8) (pv 3)) (pv 8)) pa_nil)))) pa_nil)))
        (pss_one (ps_expr (pe_bm PySem.F.plainAttrs_list PySem.F.slot_list_append PySem.F.type_list_append mt_append (pv 4) (pa_cons (pe_tup (pa_cons (pe_op op_add (pv 5) (pv 3)) (pa_cons (pv 7) (pa_cons (pe_op op_add (pv 8) (pv 3)) pa_nil)))) pa_nil))))))
      (pss_one (ps_ret (pv 4))))), ?_⟩
    have M0 := M
    obtain ⟨dx, sA, kA, wA, bA, dA, hp, B⟩ := M0
    refine into ⟨_, rfl, p, dx, _, rfl, hp, p, many, sts, rfl, M, many, rfl, by omega, by omega, Nat.zero_le _, fun l nl => ⟨_, _, rfl, ?_⟩⟩
    have e0 : Same H (upd H l (.lst [])) := same_new nl
    refine into ⟨_, rfl, _, rfl, p, t, many, sts, ks, rfl, M.same e0, oks, by omega, e0 _ _ ht, fun H1 D ys e1 nD hD row => ?_⟩
    have hl1 := e1 _ _ (upd_same (H := H) (a := l) (o := .lst []))
    have lf : (sts.filter (isOpen ks)).length ≤ sts.length := List.length_filter_le ..
    have lys : ys.length = (sts.filter (isOpen ks)).length := row.length
    generalize sts.filter (isOpen ks) = ss at row kk lf lys
    have nDl : D ≠ l := fun z => by rw [z, upd_same] at nD; cases nD
    refine ⟨D, rfl, ⟨_, SqL.of hD⟩, for_list (K := K) (a := D) (xs := ys) (fun i σ H' => ∃ (acc : List V) (v5 v6 v7 v8 : Option V), σ = [some (.ref p), some (.str k), some (.ref t), some (.int many), some (.ref l), v5, v6, v7, v8] ∧ H' l = some (.lst acc) ∧ acc.length = 2 * i ∧ Tri H' acc (marked many k (ss.take i)) ∧ Off l H1 H')
      ⟨[], none, none, none, none, rfl, hl1, rfl, .nil, fun b o z _ => z⟩ (fun i σ H' _ ⟨_, _, _, _, _, _, _, _, _, off⟩ => SqL.of (off _ _ hD nDl)) ?_ ?_⟩
    · rintro i x σ H2 hx ⟨acc, v5, v6, v7, v8, rfl, hl2, la, tri, off⟩
      obtain ⟨s, hs, q, rfl, hq⟩ := row.get hx
      have lt : i < ys.length := (List.getElem?_eq_some_iff.mp hx).1
      have nql : q ≠ l := ne_of hq hl1 (by intro y; cases y)
      refine ⟨q, _, rfl, SqT.of (off _ _ hq nql), rfl, _, _, rfl, _, _, rfl, _, _, rfl, _, _, rfl, rfl, ?_⟩
      have sm := List.mem_of_getElem? hs
      have eqk : decide (V.str s.k = V.str k) = decide (s.k = k) := by
        rcases Classical.em (s.k = k) with c | c
        · rw [c, decide_eq_true rfl, decide_eq_true rfl]
        · rw [decide_eq_false c, decide_eq_false fun z => c (V.str.inj z)]
      -- the two new steps, whatever the first one's goal
      have both : ∀ g1 : Int, g1 = (if s.k = k then s.g + many else s.g) → ∀ T1, H2 T1 = none → ∀ T2, upd (upd H2 T1 (.tup [.int s.a, .str s.s, .int g1])) l (.lst (acc ++ [.ref T1])) T2 = none →
          Tri (upd (upd (upd (upd H2 T1 (.tup [.int s.a, .str s.s, .int g1])) l (.lst (acc ++ [.ref T1]))) T2 (.tup [.int (s.a + many), .str s.s, .int (s.g + many)])) l (.lst (acc ++ [.ref T1] ++ [.ref T2]))) (acc ++ [.ref T1] ++ [.ref T2]) (marked many k (ss.take (i + 1))) ∧
          Off l H1 (upd (upd (upd (upd H2 T1 (.tup [.int s.a, .str s.s, .int g1])) l (.lst (acc ++ [.ref T1]))) T2 (.tup [.int (s.a + many), .str s.s, .int (s.g + many)])) l (.lst (acc ++ [.ref T1] ++ [.ref T2]))) := fun g1 eg T1 n1 T2 n2 => by
        have nT1 : T1 ≠ l := fun z => by rw [z, hl2] at n1; cases n1
        have nT2 : T2 ≠ l := fun z => by rw [z, upd_same] at n2; cases n2
        have n12 : T2 ≠ T1 := fun z => by rw [z, upd_ne nT1, upd_same] at n2; cases n2
        have n2' : H2 T2 = none := by rw [upd_ne nT2, upd_ne n12] at n2; exact n2
        have keep : Off l H2 (upd (upd (upd (upd H2 T1 (.tup [.int s.a, .str s.s, .int g1])) l (.lst (acc ++ [.ref T1]))) T2 (.tup [.int (s.a + many), .str s.s, .int (s.g + many)])) l (.lst (acc ++ [.ref T1] ++ [.ref T2]))) := fun b o z n => by
          rw [upd_ne n, upd_ne (ne_of_none z n2'), upd_ne n, upd_ne (ne_of_none z n1)]; exact z
        refine ⟨?_, off.trans keep⟩
        have em : marked many k (ss.take (i + 1)) = marked many k (ss.take i) ++ marks many k s := by
          rw [List.take_add_one, hs]
          unfold marked
          rw [List.flatMap_append]
          simp
        rw [em, List.append_assoc (as := acc)]
        rw [List.append_assoc (as := acc)] at keep
        refine paired_app (tri.keep fun b ts z => keep _ _ z (ne_of z hl2 (by intro y; cases y))) (.cons ⟨T1, rfl, ?_⟩ (.cons ⟨T2, rfl, ?_⟩ .nil))
        · rw [upd_ne nT1, upd_ne (Ne.symm n12), upd_ne nT1, upd_same, eg]; rfl
        · rw [upd_ne nT2, upd_same]; rfl
      refine into ⟨_, rfl, .inl ⟨rfl, _, SqL.of hl2⟩, _, rfl, _, rfl, _, rfl, _, rfl, rfl, _, rfl, ?_⟩
      rcases Classical.em (s.k = k) with c | c
      · rw [eqk, decide_eq_true c]
        refine iteT ⟨_, rfl, _, rfl, _, _, rfl, rfl, by show 3 ≤ sizeLine; decide, fun T1 n1 => ?_⟩
        have hT : upd H2 T1 (.tup [.int s.a, .str s.s, .int (s.g + many)]) l = some (.lst acc) := by
          rw [upd_ne (fun z => by rw [← z, hl2] at n1; cases n1)]; exact hl2
        refine ⟨l, acc, _, rfl, rfl, hT, by rw [sizeLine_eq]; omega, ?_⟩
        refine ⟨_, rfl, .inl ⟨rfl, _, SqL.of upd_same⟩, _, rfl, _, rfl, _, _, rfl, rfl, _, rfl, _, rfl, _, rfl, _, _, rfl, rfl, by show 3 ≤ sizeLine; decide, fun T2 n2 => ?_⟩
        refine ⟨l, acc ++ [.ref T1], _, rfl, rfl, by rw [upd_ne (fun z => by rw [← z, upd_same] at n2; cases n2), upd_same], by rw [List.length_append, sizeLine_eq]; show acc.length + 1 < _; omega, ?_⟩
        have b := both (s.g + many) (by rw [if_pos c]) T1 n1 T2 n2
        exact ⟨_, _, _, _, _, rfl, upd_same, by rw [List.length_append, List.length_append, la]; show 2 * i + 1 + 1 = 2 * (i + 1); omega, b.1, b.2⟩
      · rw [eqk, decide_eq_false c]
        refine iteF ⟨_, rfl, by show 3 ≤ sizeLine; decide, fun T1 n1 => ?_⟩
        have hT : upd H2 T1 (.tup [.int s.a, .str s.s, .int (s.g)]) l = some (.lst acc) := by
          rw [upd_ne (fun z => by rw [← z, hl2] at n1; cases n1)]; exact hl2
        refine ⟨l, acc, _, rfl, rfl, hT, by rw [sizeLine_eq]; omega, ?_⟩
        refine ⟨_, rfl, .inl ⟨rfl, _, SqL.of upd_same⟩, _, rfl, _, rfl, _, _, rfl, rfl, _, rfl, _, rfl, _, rfl, _, _, rfl, rfl, by show 3 ≤ sizeLine; decide, fun T2 n2 => ?_⟩
        refine ⟨l, acc ++ [.ref T1], _, rfl, rfl, by rw [upd_ne (fun z => by rw [← z, upd_same] at n2; cases n2), upd_same], by rw [List.length_append, sizeLine_eq]; show acc.length + 1 < _; omega, ?_⟩
        have b := both (s.g) (by rw [if_neg c]) T1 n1 T2 n2
        exact ⟨_, _, _, _, _, rfl, upd_same, by rw [List.length_append, List.length_append, la]; show 2 * i + 1 + 1 = 2 * (i + 1); omega, b.1, b.2⟩
    · rintro σ H2 ⟨acc, v5, v6, v7, v8, rfl, hl2, la, tri, off⟩
      rw [lys, List.take_length] at tri
      exact ⟨_, rfl, kk H2 l acc (fun b o z => off _ _ (e1 _ _ (e0 _ _ z)) (ne_of_none z nl)) hl2 tri⟩
end
end K1
end
section
/-! Fields as targets, items within blocks, methods called with a list spread out. -/
namespace MX
open PySem PySem.Spec PyProof.Rows L2 PySem.W

/-- o.f as a target -/
def gAtr (K : PySem.W.Frag) (to : TE) (f : PySem.Str) : TG := fun v σ H Q => to σ H fun x H1 => ∃ (a C dx : Addr) (fs : List (PySem.Str × V)), x = .ref a ∧ H1 a = some (.ins C dx fs) ∧ Cls K C ∧ NoAttr K C f ∧ fs.length < 1000 ∧ Q σ (upd H1 a (.ins C dx (putF f v fs)))
section
variable {X : Cx}
theorem pg_atr {o : Expr} {f : PySem.Str} {pos : Pos} {to : TE} (ho : PE X o to) : PG X (.Attribute o f pos) (gAtr X.K to f) := by
  constructor
  intro pins s σ H v u Q I rv h
  show wpAny _ _ (do
    let ov ← holding [u] (eval o X.env)
    standAt pos.atName
    holding [u, ov] (setAttr ov f u)
    release [u, ov] []) _ _ s
  refine wpAny_bind (wpAny_holding (thn (ho.run pins s σ H _ I h) fun r s1 ⟨x, H1, I1, rx, a, C, dx, fs, ex, ea, c, n, l, q⟩ => wpAny_bind (wpAny_standAt (wpAny_bind (wpAny_holding ?_)))))
  subst ex
  cases rx
  exact setattr_ok I1 ea c n l rv fun s2 I2 => wpAny_release ⟨σ, _, I2, q⟩
theorem pe_getNK {P : Program} {w : World} {d i : Expr} {td ty : TE} {pos : Pos} (hP : X.prog = P) (hw : X.w = w) (hd : PE X d td) (hi : PE X i ty) (one : NoSl i) : PE X (.Subscript d i pos) (tGetN P w td ty) := by
  subst hP hw
  exact pe_getN hd hi one
/-- o.m(*e) -/
def tMethS (K : PySem.W.Frag) (C : Addr) (m : PySem.Str) (g : Addr) (sp : Sp) (E : XK) (to te : TE) : TE := fun σ H Q => to σ H fun x H1 => ∃ (a dx : Addr) (fs : List (PySem.Str × V)), x = .ref a ∧ H1 a = some (.ins C dx fs) ∧ fs.lookup m = none ∧
  ∀ b, H1 b = none → te σ (upd H1 b (.met g a)) fun y H2 => ∃ (t : Addr) (vs : List V), y = .ref t ∧ (SqT K H2 t vs ∨ SqL K H2 t vs) ∧ H2 b = some (.met g a) ∧ sp (.ref a :: vs) H2 Q E
theorem call_spread {M : Model} {A : Around} {E : Value → Shared → Prop} {s : Shared} {env : Env} {o e : Expr} {m : PySem.Str} {p apos pos : Pos} {Q : Value → Shared → Prop} (plain : attributeBase o m env (eval o env) = eval o env) (star : starEach [.Starred e p] env = [(true, eval e env)])
    (go : wpAny M A (eval o env) (fun ov s1 => wpAny M A (getAttr ov m true) (fun f s2 => wpAny M A (callWith pos f [] (backTo pos [(true, eval e env)]) []) Q E s2) E s1) E s) : wpAny M A (eval (.Call (.Attribute o m apos) [.Starred e p] [] pos) env) Q E s := by
  rw [arm_eval_Call, plain, star, show backToKw pos (keywordEach [] env) = [] from rfl]
  refine wpAny_bind (wpAny_mono go (fun ov s1 h1 => wpAny_bind (wpAny_standAt ?_)) fun _ _ x => x)
  unfold methodCall
  rw [show methodCallForm ([Expr.Starred e p].length + ([] : List Keyword).length) (backTo pos [(true, eval e env)]) [] = false from rfl, show methodCallPos false o env apos pos = pure pos from rfl,
    show calleeOf false o env ov m = (getAttr ov m true >>= fun v => pure (v, [])) from rfl]
  exact wpAny_bind (wpAny_holding (wpAny_bind (wpAny_mono h1 (fun f s2 h2 => wpAny_pure (wpAny_bind (wpAny_pure h2))) fun _ _ x => x)))
theorem pe_methS {CX : CXT} {k : Nat} {C g : Addr} {m : PySem.Str} {sp : Sp} {E : XK} {o e : Expr} {to te : TE} {p apos pos : Pos} (ho : PE X o to) (c : Cls X.K C) (b : BMeth X.K C m g) (F : FnR X.prog X.w X.K X.mg X.base CX k g sp) (hr : Room k X.A) (hx : Passes CX X E) (he : PE X e te)
    (plain : attributeBase o m X.env (eval o X.env) = eval o X.env := by rfl) (star : starEach [.Starred e p] X.env = [(true, eval e X.env)] := by rfl) : PE X (.Call (.Attribute o m apos) [.Starred e p] [] pos) (tMethS X.K C m g sp E to te) := by
  constructor
  intro pins s σ H Q I h
  refine call_spread plain star (thn (ho.run pins s σ H _ I h) fun r1 s1 ⟨x, H1, I1, rx, a, dx, fs, ex, ea, no, h1⟩ => ?_)
  subst ex
  cases rx
  refine getbound_ok I1 ea c b no fun q1 s2 free I2 => ?_
  refine ks_call (P := MethP X.K q1 g (.ref a)) rfl (keeps_M b.fi) (ks_lone (thn (he.run pins s2 σ _ _ I2 (h1 q1 free)) fun r2 s3 ⟨y, H2, I3, ry, t, vs, ey, at_, met, run⟩ => ?_))
  subst ey
  cases ry
  refine StX.star_any I3 at_ fun us s4 I4 rv => ?_
  have here := met_P I4 met
  exact ⟨here, wpAny_call (method_call here.1 (run_fnR (us := Value.ref a :: us) (vs := V.ref a :: vs) F hr hx I4 (.cons rfl rv) run))⟩
/-- behind the block, kept under a name -/
theorem block_named {pins : List (Addr × Obj)} {σ : L2.St} {H : Hp} {s : Shared} {E : Ends} {D C : Addr} {m : PySem.Str → Option Value} {i : Nat} {y : PySem.Str} {py : Pos} (hN : X.N.Nodup) (hy : X.N[i]? = some y) (loc : X.env.scope.names.lookup y = some .local) (I : L2.Inv X pins σ H s) (q : E.nx (σ.set i (some (.ref D))) H)
    (ns : s.heap.Ns C m) (f : FpOk X pins H C) : compPost (model X.prog X.w) X.A X.xe (some (assign (.Name y py) X.env)) (fun _ s' => L2.SP X pins E .next s') (.ref D) C (.ok .next) s := by
  obtain ⟨none_, here, frame, young, cells, pinned⟩ := f
  refine wpAny_assign_Name (store_ok2 (v := V.ref D) I hN hy (.inl loc) rfl (fun s2 I2 ⟨a, sb, which⟩ => ⟨m, ns.sameBut sb (fun e => ?_), fun h3 sb3 => ⟨_, H, I2.turned (t' := s2.toks) (fun b o ne z => (sb3.2 b ne).trans z) none_ here young cells pinned, q⟩⟩) (.inr loc))
  rcases which with z | z
  · exact here (e.trans z)
  · exact cells y a z e.symm
theorem ps_setDcN {i : Nat} {y : PySem.Str} {py : Pos} {kx vx tg iter : Expr} {ifs : List Expr} {scope : Scope} {own : List (PySem.Str × Nat)} {pos spos : Pos} {wi : TI} {g : TG} {tt : TT} {tk tv : TE} (hc : X.calm = true) (hN : X.N.Nodup) (hy : X.N[i]? = some y) (loc : X.env.scope.names.lookup y = some .local)
    (sw : swapsWith (.DictComp kx vx [⟨tg, iter, ifs, 0⟩] scope pos) (some (.Name y py)) spos.line X.env = pure true) (hi : PI X tg iter wi) (ok : BlkOk X.N X.env.scope scope own)
    (hg : ∀ (s : Shared) (H : Hp) (C : Addr) (cl : List (PySem.Str × Addr)) (fp : List Addr), PG (X.blk s H scope (compEnvC scope cl C X.env) fp) tg g) (ht : ∀ (s : Shared) (H : Hp) (C : Addr) (cl : List (PySem.Str × Addr)) (fp : List Addr), PTs (X.blk s H scope (compEnvC scope cl C X.env) fp) ifs tt)
    (hk : ∀ (s : Shared) (H : Hp) (C : Addr) (cl : List (PySem.Str × Addr)) (fp : List Addr), PE (X.blk s H scope (compEnvC scope cl C X.env) fp) kx tk)
    (he : ∀ (s : Shared) (H : Hp) (C : Addr) (cl : List (PySem.Str × Addr)) (fp : List Addr), PE (X.blk s H scope (compEnvC scope cl C X.env) fp) vx tv) (hs : ∀ x, foldedSetIterable iter X.env x = pure x := by intro _; rfl) :
    PS X (.Assign [.Name y py] (.DictComp kx vx [⟨tg, iter, ifs, 0⟩] scope pos) spos) (tAsg (tDcN X.prog X.w wi g tt tk tv (own.map (·.2))) (gName i)) := by
  constructor
  intro pins s σ H E I h
  rw [exec_Assign_Name_used _ _ _ _ sw]
  refine wpAny_bind (wpAny_standAt (wpAny_bind ?_))
  have h : tDcN X.prog X.w wi g tt tk tv (own.map (·.2)) σ H (fun x H1 => gName i x σ H1 E.nx) := h
  refine wpAny_bind (thn (gather (use := some (assign (.Name y py) X.env)) (Qf := fun _ s' => L2.SP X pins E .next s') (o0 := { cls := .type "dict", data := .dict #[] }) hc hN I hi ok rfl (fun s Q q => wpAny_newObj_type q) (fun s H I' => new_dictN s.heap I'.big) hg ht ?_
    (fun it acc ce R s4 a b => codeAny_compStart_dict a b) hs h fun D C s' m H' I' q ns f => block_named hN hy loc I' q ns f) fun _ s' q => wpAny_pure (wpAny_pure q))
  intro s3 H3 C cl fp it D Iv R turns n s4 i4
  refine compLoop_anyD Iv (fun n s5 i5 => thnF (turns n s5 i5) fun r s6 h6 => ?_) n i4
  cases r with
  | none => exact h6
  | some v =>
    refine thnF h6 fun _ s7 h7 => thnF h7 fun _ s8 h8 => thnF h8 fun b s9 ⟨pl, σ9, H9, Nx, I9, q9, next⟩ => ?_
    cases b with
    | false => exact next s9 H9 I9 q9
    | true =>
      refine thnF ((hk s3 H3 C cl fp).run pl s9 σ9 H9 _ I9 q9) fun z s10 ⟨y, H10, I10, r10, q10⟩ => ?_
      refine thnF ((he s3 H3 C cl fp).run pl s10 σ9 H10 _ I10 q10) fun z2 s11 ⟨y2, H11, I11, r11, kvs, k, ey, atD, room, nx⟩ => ?_
      subst ey
      exact dn_put (X := X.blk s3 H3 scope (compEnvC scope cl C X.env) fp) I11 atD room r10 r11 fun s12 I12 => next s12 _ I12 nx
theorem sw_dict {kx vx : Expr} {gs : List Comprehension} {scope : Scope} {pos py : Pos} {y : PySem.Str} {l : Nat} {env : Env} (fn : env.scope.kind = .function) (loc : env.scope.names.lookup y = some .local) (row : (py.line == pos.line) = true)
    (own : (scope.names.any fun (n, k) => n == y && (k == .local || k == .cell)) = false) : swapsWith (.DictComp kx vx gs scope pos) (some (.Name y py)) l env = pure true := by
  have kind : env.kindOf y = some .local := loc
  have block : env.blockKind = .function := by
    unfold Env.blockKind
    rw [fn]; rfl
  unfold swapsWith
  simp only [block, kind, own, Expr.pos, row]
  rfl
/-- what is let out behind a new tuple is let out ahead of it -/
theorem cxNew {P : Program} {w : World} : CXNew (L2.CX P w) := by
  intro outer s H h2 p rest E e s' keep big free ⟨a, B, H', cls, d, e1, fly, hok, ub, na, os, ab, wish⟩
  have at_ : ∀ {b o}, s.heap.get? b = some o → H b = none → upd H p (.tup rest) b = none := fun {b o} hb hH => by
    have lt := Heap.lt_size hb
    have ne : b ≠ p := fun e => by rw [e] at lt; exact Nat.lt_irrefl _ (Nat.lt_of_lt_of_le lt big)
    rw [upd_ne ne]
    exact hH
  have there : ∀ {b : Addr} {o : HO}, H b = some o → upd H p (.tup rest) b = some o := fun {b o} z => by rw [upd_ne (ne_of_none z free)]; exact z
  exact ⟨a, B, H', cls, d, e1, fly, hok, ⟨fun b o hb hH nf => ub.keep b o (keep b o hb) (at_ hb hH) nf, fun b o hb m => ub.slot b o (keep b o hb) m, fun b o hb hH => ub.free b o (keep b o hb) (at_ hb hH), fun b o hb nf => ub.there b o (keep b o hb) nf,
    fun b xs z => ub.tups b xs (there z), fun b o xs z => ub.frzs b o xs (there z), fun b ps z => ub.tbls b ps (there z)⟩, na, os, ab, wish⟩
/-- a promise told by positions, run where errors are taken -/
theorem run_pos {CX : CXT} {k : Nat} {f : Addr} {sp : Sp} {Es : L2.St → XK} {Q : VK} {us : List Value} {vs : List V} {pins : List (Addr × Obj)} {σ : L2.St} {H : Hp} {s : Shared} (F : FnR X.prog X.w X.K X.mg X.base CX k f sp) (hr : Room k X.A) (hx : ∀ σ, PassesAt CX X σ (Es σ)) (I : L2.Inv X pins σ H s) (r : Vals vs us) (h : sp vs H Q (Es σ)) :
    codeAny (model X.prog X.w) X.A (.call (.ref f) ⟨us, []⟩) (fun r s' => match r with | .ok (.ret v) => EP X pins σ Q v s' | .ok _ => False | .error e => X.xe e s') s := by
  refine codeAny_mono (F X.A X.stack s H us vs Q _ hr I.env0 r h) fun out s' ho => ?_
  match out, ho with
  | .error e, ho => exact hx σ pins H s e s' I ho
  | .ok (.ret u), ho => exact I.after ho
  | .ok .next, ho => exact False.elim ho
  | .ok .brk, ho => exact False.elim ho
  | .ok .cont, ho => exact False.elim ho
def tMethP (C : Addr) (m : PySem.Str) (sp : Sp) (Es : L2.St → XK) (ta : TE) (t : TA) : TE := fun σ H Q => tMethR C m sp (Es σ) ta t σ H Q
theorem pe_methP {CX : CXT} {k : Nat} {C f : Addr} {m : PySem.Str} {sp : Sp} {Es : L2.St → XK} {o e : Expr} {es : List Expr} {ta : TE} {t : TA} {apos pos : Pos} {pl : Sem Bool} (ho : PE X o ta) (c : Cls X.K C) (hm : Meth X.K C m f) (F : FnR X.prog X.w X.K X.mg X.base CX k f sp) (hr : Room k X.A) (hx : ∀ σ, PassesAt CX X σ (Es σ)) (ha : PA X (e :: es) t)
    (first : starEach (e :: es) X.env = (false, eval e X.env) :: starEach es X.env := by rfl) (nost : (backTo pos (starEach es X.env)).any (·.1) = false := by rfl)
    (text : eval (.Call (.Attribute o m apos) (e :: es) [] pos) X.env = (do
      let ov ← eval o X.env
      standAt apos.atName
      let (f, first) ← holding [ov] (getMethod ov m pl)
      callWith pos f first (backTo pos (starEach (e :: es) X.env)) (backToKw pos (keywordEach [] X.env))) := by rfl) :
    PE X (.Call (.Attribute o m apos) (e :: es) [] pos) (tMethP C m sp Es ta t) := by
  constructor
  intro pins s σ H Q I h
  refine methodCall_KW (pl := pl) (thn (ho.run pins s σ H _ I h) fun r1 s1 ⟨y, H1, I1, rel, a, dx, fs, ey, at_, none_, q⟩ => ?_) text
  subst ey
  cases rel
  refine getmeth_ok I1 at_ c hm none_ (callWith_K (first := [Value.ref a]) (h₀ := X.base) I.ok.mod.kin hm.kp (thn (ha.run pos pins s1 σ H1 _ I1 q) fun us s2 ⟨vs, H2, I2, r, q2⟩ => ⟨I2.kIn, ?_⟩) first nost)
  exact wpAny_call (run_pos (us := Value.ref a :: us) (vs := V.ref a :: vs) F hr hx I2 (.cons (show L2.RelV (V.ref a) (Value.ref a) from rfl) r) q2)
def tMethSP (K : PySem.W.Frag) (C : Addr) (m : PySem.Str) (g : Addr) (sp : Sp) (Es : L2.St → XK) (to te : TE) : TE := fun σ H Q => tMethS K C m g sp (Es σ) to te σ H Q
theorem pe_methSP {CX : CXT} {k : Nat} {C g : Addr} {m : PySem.Str} {sp : Sp} {Es : L2.St → XK} {o e : Expr} {to te : TE} {p apos pos : Pos} (ho : PE X o to) (c : Cls X.K C) (b : BMeth X.K C m g) (F : FnR X.prog X.w X.K X.mg X.base CX k g sp) (hr : Room k X.A) (hx : ∀ σ, PassesAt CX X σ (Es σ)) (he : PE X e te)
    (plain : attributeBase o m X.env (eval o X.env) = eval o X.env := by rfl) (star : starEach [.Starred e p] X.env = [(true, eval e X.env)] := by rfl) : PE X (.Call (.Attribute o m apos) [.Starred e p] [] pos) (tMethSP X.K C m g sp Es to te) := by
  constructor
  intro pins s σ H Q I h
  refine call_spread plain star (thn (ho.run pins s σ H _ I h) fun r1 s1 ⟨x, H1, I1, rx, a, dx, fs, ex, ea, no, h1⟩ => ?_)
  subst ex
  cases rx
  refine getbound_ok I1 ea c b no fun q1 s2 free I2 => ?_
  refine ks_call (P := MethP X.K q1 g (.ref a)) rfl (keeps_M b.fi) (ks_lone (thn (he.run pins s2 σ _ _ I2 (h1 q1 free)) fun r2 s3 ⟨y, H2, I3, ry, t, vs, ey, at_, met, run⟩ => ?_))
  subst ey
  cases ry
  refine StX.star_any I3 at_ fun us s4 I4 rv => ?_
  have here := met_P I4 met
  exact ⟨here, wpAny_call (method_call here.1 (run_pos (us := Value.ref a :: us) (vs := V.ref a :: vs) F hr hx I4 (.cons rfl rv) run))⟩
end
end MX
end
section
/-! What stays while a watcher's fields, and its dicts, change. -/
namespace K1
open PySem L2
/-- neither a watcher nor one of its dicts -/
def Fine (CW : Addr) : HO → Prop
  | .ins C _ _ => C ≠ CW
  | .ext _ => False
  | .frz _ _ => False
  | _ => True
def Fi (CW : Addr) (H H' : Hp) : Prop := ∀ b o, H b = some o → Fine CW o → H' b = some o
section
variable {CW : Addr} {H H' : Hp}
theorem Fi.of (e : Same H H') : Fi CW H H' := fun b o h _ => e b o h
theorem Fi.trans {H2 : Hp} (a : Fi CW H H') (b : Fi CW H' H2) : Fi CW H H2 := fun c o h f => b c o (a c o h f) f
theorem Fi.off {p : Addr} {o : HO} (hp : H p = some o) (no : ¬ Fine CW o) (e : Off p H H') : Fi CW H H' := fun b o' h f => e b o' h fun eb => no (by rw [eb, hp] at h; cases h; exact f)
theorem Fi.row {vs : List V} {sts : List Stp} (e : Fi CW H H') (r : Row H vs sts) : Row H' vs sts := r.keep fun p ts h => e p _ h trivial
theorem Fi.tri {vs : List V} {sts : List Stp} (e : Fi CW H H') (r : Tri H vs sts) : Tri H' vs sts := r.keep fun p ts h => e p _ h trivial
theorem MachAt.fi {C : Addr} {p : Addr} {many : Int} {sts : List Stp} (ne : C ≠ CW) (e : Fi CW H H') (m : MachAt C H p many sts) : MachAt C H' p many sts := by
  obtain ⟨dx, sA, kA, wA, bA, dA, h, ⟨vs, h1, h2⟩, ⟨ks, h3, h4⟩, ⟨ws, h5, h6⟩, ⟨rows, h7, h8, h9⟩, ⟨kvs, h10, h11⟩⟩ := m
  exact ⟨dx, sA, kA, wA, bA, dA, e _ _ h ne, ⟨vs, e _ _ h1 trivial, e.row h2⟩, ⟨ks, e _ _ h3 trivial, h4⟩, ⟨ws, e _ _ h5 trivial, h6⟩, ⟨rows, e _ _ h7 trivial, h8, fun j r hr => let ⟨ws, a, b⟩ := h9 j r hr; ⟨ws, e _ _ a trivial, e.row b⟩⟩, ⟨kvs, e _ _ h10 trivial, h11⟩⟩
theorem OY.fi {rows ds : List Addr} {ts : List Stp} (O : OY H rows ds ts) (e : Fi CW H H') : OY H' rows ds ts := by
  have back : ∀ {i x r}, Ent H' ds i x r → Ent H ds i x r := fun {i x r} ⟨d, kvs, a, b, c⟩ => by
    obtain ⟨kvs', hd⟩ := O.dl d (List.mem_of_getElem? a)
    have z := e _ _ hd trivial
    rw [b] at z
    cases z
    exact ⟨d, kvs, a, hd, c⟩
  have lst : ∀ {r : Addr} {ys : List V}, (∃ xs, H r = some (.lst xs)) → H' r = some (.lst ys) → H r = some (.lst ys) := fun {r ys} ⟨xs, h⟩ h' => by
    have z := e _ _ h trivial
    rw [h'] at z
    cases z
    exact h
  refine ⟨O.rn, O.dn, fun r hr => let ⟨xs, h⟩ := O.rl r hr; ⟨xs, e _ _ h trivial⟩, fun d hd => let ⟨kvs, h⟩ := O.dl d hd; ⟨kvs, e _ _ h trivial⟩, fun i x r h => let ⟨a, xs, b⟩ := O.el i x r (back h); ⟨a, xs, e _ _ b trivial⟩, fun i x i' x' r h h' => O.ww i x i' x' r (back h) (back h'), fun i r gs g a b c => ?_, fun i x r gs g a b c => ?_⟩
  · exact O.un i r gs g a (lst (O.rl r (List.mem_of_getElem? a)) b) c
  · exact O.wd i x r gs g (back a) (lst (O.el i x r (back a)).2 b) c
theorem OutAt.fi {CO : Addr} {p : Addr} {many : Int} {ts : List Stp} (ne : CO ≠ CW) (e : Fi CW H H') (h : OutAt CO H p many ts) : OutAt CO H' p many ts := by
  obtain ⟨dx, uA, wA, rows, ds, h1, h2, h3, h4, h5, h6, h7, h8, h9⟩ := h
  refine ⟨dx, uA, wA, rows, ds, e _ _ h1 ne, e _ _ h2 trivial, e _ _ h3 trivial, h4, h5, fun r hr => ?_, fun d hd => ?_, fun t ht => ⟨fun c => ?_, fun c => ?_⟩, h9.fi e⟩
  · obtain ⟨gs, a, b⟩ := h6 r hr
    exact ⟨gs, e _ _ a trivial, b⟩
  · obtain ⟨kvs, a, b⟩ := h7 d hd
    exact ⟨kvs, e _ _ a trivial, fun k v hv => let ⟨r, e1, gs, l⟩ := b k v hv; ⟨r, e1, gs, e _ _ l.1 trivial, l.2⟩⟩
  · obtain ⟨r, a, gs, b⟩ := (h8 t ht).1 c
    exact ⟨r, a, gs, e _ _ b.1 trivial, b.2⟩
  · obtain ⟨d, a, kvs, r, b, b2, gs, b3⟩ := (h8 t ht).2 c
    exact ⟨d, a, kvs, r, e _ _ b trivial, b2, gs, e _ _ b3.1 trivial, b3.2⟩
end
theorem ok_marks {many : Int} {k : Str} {ss : List Stp} (oks : ∀ s ∈ ss, OkS many s) (m1 : 1 ≤ many) : ∀ t ∈ marked many k ss, OkS (2 * many) t := by
  intro t ht
  obtain ⟨s, hs, h⟩ := List.mem_flatMap.mp ht
  have ok := oks s hs
  have a1 := ok.1
  have a2 := ok.2.1
  have g1 := ok.2.2.1
  have g2 := ok.2.2.2.1
  have w0 : wordE (.str (Str.ofString "")) = true := rfl
  rcases List.mem_cons.mp h with e | h
  · rw [e]
    refine ⟨a1, by show s.a < _; omega, ?_, ?_, w0, ok.2.2.2.2.2⟩
    · show 0 ≤ (if s.k = k then s.g + many else s.g)
      split <;> omega
    · show (if s.k = k then s.g + many else s.g) < _
      split <;> omega
  · rw [List.mem_singleton.mp h]
    exact ⟨by show 0 ≤ s.a + many; omega, by show s.a + many < _; omega, by show 0 ≤ s.g + many; omega, by show s.g + many < _; omega, w0, ok.2.2.2.2.2⟩
theorem len_marked {many : Int} {k : Str} : ∀ ss : List Stp, (marked many k ss).length = 2 * ss.length
  | [] => rfl
  | s :: ss => by
    have ih := len_marked (many := many) (k := k) ss
    show (marks many k s ++ marked many k ss).length = _
    rw [List.length_append, ih, List.length_cons]
    show 2 + _ = _
    omega
/-- the turns over the pairs of a locked dict -/
theorem gather_itN {P : Program} {w : World} {d : Addr} {od : Obj} {kvs : List (MX.NK × V)} {body : L2.St → Hp → (Hp → Prop) → Prop} {g : TG} {tt : TT} {vs : List Nat} {σ : L2.St} {H0 : Hp} {Qd : Hp → Prop} (Pv : Nat → Hp → Prop) (h0 : Pv 0 H0) (hl : ∀ i H, i ≤ kvs.length → Pv i H → H d = some (.frz od (MX.DictNO P w d kvs)))
    (hs : ∀ i k v H T, kvs[i]? = some (k, v) → Pv i H → H T = none → g (.ref T) (wipe σ vs) (upd H T (.tup [MX.nV k, v])) fun σ2 H3 => wipe σ2 vs = wipe σ vs ∧ tt σ2 H3 fun b H4 => if b = true then body σ2 H4 (Pv (i + 1)) else Pv (i + 1) H4) (hd : ∀ H, Pv kvs.length H → Qd H) :
    ∃ W : Nat → Nat → Hp → Prop, (∃ m, W 0 m H0) ∧ ∀ i m H, W i m H → ((MX.ItN P w d od kvs).stop i H ∧ Qd H) ∨
      ((MX.ItN P w d od kvs).go i H ∧ ∃ Nx : Hp → Prop, (∀ H', Nx H' → ∃ m', m' < m ∧ W (i + 1) m' H') ∧ ∀ x H', (MX.ItN P w d od kvs).yld i H x H' → g x (wipe σ vs) H' fun σ2 H3 => wipe σ2 vs = wipe σ vs ∧ tt σ2 H3 fun b H4 => if b = true then body σ2 H4 Nx else Nx H4) :=
  turns (J := MX.ItN P w d od kvs) (n := kvs.length) (G := fun x H' Nx => g x (wipe σ vs) H' fun σ2 H3 => wipe σ2 vs = wipe σ vs ∧ tt σ2 H3 fun b H4 => if b = true then body σ2 H4 Nx else Nx H4) Pv h0
    (fun i H lt p => ⟨⟨hl i H (Nat.le_of_lt lt) p, lt⟩, fun x H' ⟨T, k, v, e, ex, free, eH⟩ => by rw [ex, eH]; exact hs i k v H T e p free⟩) fun H p => ⟨⟨hl _ H (Nat.le_refl _) p, Nat.le_refl _⟩, hd H p⟩
end K1
end
section
/-! Watchers: they are made. -/
namespace K1
open PySem L2
section
variable {P : Program} {w : World} {K : PySem.W.Frag} {mg : Str → Option Value} {base : Heap}
abbrev sWI : Stmt := inClass (top 27) 0
abbrev nWI : List Str := ["self", "machine", "free", "about", "kind", "outlook"]
structure TxtWI (K : PySem.W.Frag) (mg : Str → Option Value) (C CO CW fF fA fL fO fM fS : Addr) : Prop where
  cl : Cls K CW
  n_about : NoAttr K CW "about"
  n_many : NoAttr K CW "_many"
  n_free : NoAttr K CW "_free"
  n_words : NoAttr K CW "_words"
  n_outlooks : NoAttr K CW "_outlooks"
  n_now : NoAttr K CW "_now"
  len : mg "len" = none
  h_len_Machine : PySem.W.findIn K (.ref C) "__len__" = some (some (.ref fL))
  f_len_Machine : PySem.W.isFn K (.ref fL) = true
  g_check_free : mg "check_free" = some (.ref fF)
  k_check_free : PySem.W.keepIn K (.ref fF) = true
  g_check_about : mg "check_about" = some (.ref fA)
  k_check_about : PySem.W.keepIn K (.ref fA) = true
  g_outlook_of : mg "outlook_of" = some (.ref fO)
  k_outlook_of : PySem.W.keepIn K (.ref fO) = true
  g_marked_steps : mg "marked_steps" = some (.ref fM)
  k_marked_steps : PySem.W.keepIn K (.ref fM) = true
  c_Outlook : mg "Outlook" = some (.ref CO)
  cl_Outlook : Cls K CO
  m_spread : Meth K CO "spread" fS
theorem scWI : FnScope nWI ["self", "machine", "free", "about"] (defScope sWI) := ⟨rfl, rfl, rfl, by decide +kernel, rfl, by decide +kernel, by decide +kernel⟩
/-- the fields of a watcher -/
def w6 (v : V) (many : Int) (fr wl oD nD : Addr) : List (Str × V) := putF "_now" (.ref nD) (putF "_outlooks" (.ref oD) (putF "_words" (.ref wl) (putF "_free" (.ref fr) (putF "_many" (.int many) (putF "about" v [])))))
/-- its keys: the free kinds, and None for all runs -/
def keysW (ks : List Str) : List MX.NK := ks.map (fun x => (some (Sum.inr x) : MX.NK)) ++ [none]
def stepsW (many : Int) (ss : List Stp) : MX.NK → List Stp
  | none => ss
  | some (.inr k) => marked many k ss
  | some (.inl _) => []
def manyW (many : Int) : MX.NK → Int
  | none => many
  | some _ => 2 * many
/-- what stands for each key, in their order -/
def Each (ks : List Str) (as : List Addr) (p : MX.NK → Addr → Prop) : Prop := PySem.Paired p (keysW ks) as
def dW (ks : List Str) (as : List Addr) : List (MX.NK × V) := (keysW ks).zip (as.map V.ref)
structure WatB (P : Program) (w : World) (CO : Addr) (H : Hp) (many : Int) (sts : List Stp) (ks : List Str) (ws : List Str) (fr wl oD nD : Addr) : Prop where
  free : H fr = some (.tup (ks.map V.str))
  words : H wl = some (.lst (ws.map V.str))
  outs : ∃ os, H oD = some (MX.DictNO P w oD (dW ks os)) ∧ Each ks os fun k o => OutAt CO H o (manyW many k) (stepsW many (sts.filter (isOpen ks)) k)
  nows : ∃ ts, H nD = some (MX.DictNO P w nD (dW ks ts)) ∧ Each ks ts fun k t => H t = some (.tup ((seen (stepsW many (sts.filter (isOpen ks)) k) (manyW many k) ws).map V.int))
/-- a watcher at p -/
def WatAt (P : Program) (w : World) (CW CO : Addr) (H : Hp) (p : Addr) (many : Int) (sts : List Stp) (ks : List Str) (v : V) (ws : List Str) : Prop := ∃ dx fr wl oD nD, H p = some (.ins CW dx (w6 v many fr wl oD nD)) ∧ WatB P w CO H many sts ks ws fr wl oD nD
theorem Each.same {ks : List Str} {as : List Addr} {p q : MX.NK → Addr → Prop} (h : Each ks as p) (e : ∀ k a, p k a → q k a) : Each ks as q := Paired.mapP h e
theorem Each.length {ks : List Str} {as : List Addr} {p : MX.NK → Addr → Prop} (h : Each ks as p) : as.length = (keysW ks).length := (PySem.Paired.length h).symm
theorem zip_snoc {α β : Type} : ∀ {xs : List α} {ys : List β} (x : α) (y : β), xs.length = ys.length → (xs ++ [x]).zip (ys ++ [y]) = xs.zip ys ++ [(x, y)]
  | [], [], _, _, _ => rfl
  | a :: xs, b :: ys, x, y, h => by
    show (a, b) :: (xs ++ [x]).zip (ys ++ [y]) = (a, b) :: (xs.zip ys ++ [(x, y)])
    rw [zip_snoc x y (Nat.succ.inj h)]
theorem valV_zip {xs : List MX.NK} {ys : List V} {k : MX.NK} (nd : xs.Nodup) : ∀ {i : Nat}, xs[i]? = some k → valV (xs.zip ys) k = ys[i]? := by
  induction xs generalizing ys with
  | nil => intro i h; simp at h
  | cons x xs ih =>
    intro i h
    obtain ⟨n1, n2⟩ := List.nodup_cons.mp nd
    cases ys with
    | nil => simp [valV]
    | cons y ys =>
      cases i with
      | zero =>
        cases h
        exact valV_pos rfl
      | succ i =>
        have ne : ¬ x = k := fun e => n1 (by rw [e]; exact List.mem_of_getElem? h)
        show valV ((x, y) :: xs.zip ys) k = ys[i]?
        rw [valV_neg (show ¬ (x, y).1 = k from ne)]
        exact ih n2 h
theorem valV_out {xs : List MX.NK} {ys : List V} {k : MX.NK} (no : k ∉ xs) : valV (xs.zip ys) k = none := by
  induction xs generalizing ys with
  | nil => rfl
  | cons x xs ih =>
    cases ys with
    | nil => rfl
    | cons y ys =>
      have ne : ¬ x = k := fun e => no (by rw [e]; exact List.mem_cons_self)
      show valV ((x, y) :: xs.zip ys) k = none
      rw [valV_neg (show ¬ (x, y).1 = k from ne)]
      exact ih fun h => no (List.mem_cons_of_mem _ h)
theorem keysW_nodup {ks : List Str} (nd : ks.Nodup) : (keysW ks).Nodup := by
  unfold keysW
  refine List.nodup_append.mpr ⟨?_, by simp, fun a ha b hb e => ?_⟩
  · exact List.Pairwise.map _ (fun a b h e => h (Sum.inr.inj (Option.some.inj e))) nd
  · obtain ⟨x, _, ex⟩ := List.mem_map.mp ha
    rw [List.mem_singleton.mp hb, ← ex] at e
    cases e
/-- one more key -/
theorem put_next {ks : List Str} (nd : (keysW ks).Nodup) {i : Nat} {k : MX.NK} (hk : (keysW ks)[i]? = some k) {as : List Addr} (la : as.length = i) (a : Addr) : putK (((keysW ks).take i).zip (as.map V.ref)) k (.ref a) = ((keysW ks).take (i + 1)).zip ((as ++ [a]).map V.ref) := by
  have no : k ∉ (keysW ks).take i := fun h => by
    obtain ⟨j, hj, ej⟩ := List.getElem_of_mem h
    rw [List.length_take] at hj
    rw [List.getElem_take] at ej
    have lt : i < (keysW ks).length := (List.getElem?_eq_some_iff.mp hk).1
    have e2 := (List.getElem?_eq_some_iff.mp hk).2
    exact (List.pairwise_iff_getElem.mp nd j i (by omega) lt (by omega)) (ej.trans e2.symm)
  rw [putK_new _ (valV_out no), List.take_add_one, hk, List.map_append]
  refine (zip_snoc (x := k) (y := V.ref a) ?_).symm
  have lt : i < (keysW ks).length := (List.getElem?_eq_some_iff.mp hk).1
  rw [List.length_take, List.length_map, la]
  omega
/-- the kind that is asked for at first -/
def aboutOf (ks : List Str) : V → V
  | .non => match ks with
    | [] => .non
    | x :: _ => .str x
  | v => v
theorem keysW_at {ks : List Str} {i : Nat} {q : Str} (h : ks[i]? = some q) : (keysW ks)[i]? = some (some (Sum.inr q)) := by
  unfold keysW
  have lt := (List.getElem?_eq_some_iff.mp h).1
  rw [List.getElem?_append_left (by rw [List.length_map]; exact lt), List.getElem?_map, h]; rfl
theorem keysW_last {ks : List Str} : (keysW ks)[ks.length]? = some none := by
  unfold keysW
  rw [List.getElem?_append_right (by rw [List.length_map]; exact Nat.le_refl _), List.length_map, Nat.sub_self]; rfl
theorem keysW_len {ks : List Str} : (keysW ks).length = ks.length + 1 := by
  unfold keysW
  rw [List.length_append, List.length_map]; rfl
theorem asc_nd {ks : List Str} (h : Asc ks) : ks.Nodup := by
  have nd : (ks.map (Sum.inr : Str → Key)).Nodup := List.Pairwise.imp (fun {a b} h e => by rw [e, MX.kl_irrefl] at h; cases h) h
  exact List.Pairwise.of_map Sum.inr (fun a b h e => h (by rw [e])) nd
theorem paired_snoc {α β : Type} {p : α → β → Prop} {xs : List α} {i : Nat} {x : α} {ys : List β} {y : β} (hx : xs[i]? = some x) (h : PySem.Paired p (xs.take i) ys) (q : p x y) : PySem.Paired p (xs.take (i + 1)) (ys ++ [y]) := by
  rw [List.take_add_one, hx]
  exact paired_app h (.cons q .nil)
def spWInit (P : Program) (w : World) (K : PySem.W.Frag) (C CO CW CS : Addr) : Sp := fun vs H Q E => ∃ (p dx m t : Addr) (many : Int) (sts : List Stp) (ks : List Str) (v : V), vs = [.ref p, .ref m, .ref t, v] ∧ H p = some (.ins CW dx []) ∧ MachAt C H m many sts ∧ (∀ s ∈ sts, OkS many s) ∧ 1 ≤ many ∧ many < 30 ∧ sts.length < 32 ∧
  H t = some (.tup (ks.map V.str)) ∧ ks.length < 64 ∧ Asc ks ∧ (∀ x ∈ ks, wordS x = true) ∧ (v = .non ∨ ∃ x : Str, v = .str x) ∧
  (aboutB ks v = false → ∀ H', Same H H' → E (.ref CS) none H') ∧ (aboutB ks v = true → ∀ H', Off p H H' → WatAt P w CW CO H' p many sts ks (aboutOf ks v) [] → Q .non H')
set_option maxHeartbeats 1000000 in
theorem ok_wInit {f C CO CW CS fF fA fL fO fM fS fI : Addr} {fd fdF fdA fdL fdO fdM fdS fdI : FuncData} (nC : C ≠ CW) (nO : CO ≠ CW) (F : Fun K "__init__" "Watcher.__init__" sWI f fd) (TW : TxtWI K mg C CO CW fF fA fL fO fM fS) (G_check_free : FnOk P w K mg base (L2.CX P w) 2 fF fdF ["kinds"] spFree) (b_check_free : Binds K fdF ["kinds"] [])
    (G_check_about : FnOk P w K mg base (L2.CX P w) 1 fA fdA ["about", "free"] (spAbout K CS)) (b_check_about : Binds K fdA ["about", "free"] []) (G_len_Machine : FnOk P w K mg base CX0 1 fL fdL ["self"] (spMLen C)) (b_len_Machine : Binds K fdL ["self"] [])
    (G_outlook_of : FnOk P w K mg base CX0 3 fO fdO ["machine", "free"] (spOut C CO)) (b_outlook_of : Binds K fdO ["machine", "free"] []) (G_marked_steps : FnOk P w K mg base CX0 3 fM fdM ["machine", "kind", "free"] (spMark C)) (b_marked_steps : Binds K fdM ["machine", "kind", "free"] [])
    (G_spread : FnOk P w K mg base CX0 2 fS fdS ["self", "states"] (spSpread CO)) (b_spread : Binds K fdS ["self", "states"] []) (M_Outlook : Mk K CO fI) (G_Outlook : FnOk P w K mg base CX0 1 fI fdI ["self", "many", "steps"] (spOInit CO)) (b_Outlook : Binds K fdI ["self", "many", "steps"] []) :
    FnOk P w K mg base (L2.CX P w) 4 f fd ["self", "machine", "free", "about"] (spWInit P w K C CO CW CS) := by
  refine F.okX scWI (fun vs H Q E h => ?_) (fun cdv A outer s H vs Q E hr h => ?_)
  · obtain ⟨p, dx, m, t, many, sts, ks, v, rfl, _⟩ := h
    rfl
  · obtain ⟨p, dx, m, t, many, sts, ks, v, rfl, hp, M, oks, m1, m2, few, ht, lks, asc, okk, kind, kb, kg⟩ := h
    have nd := scWI.nd
    have hr_check_free : Room 2 _ := hr.mono (by decide)
    have hr_check_about : Room 1 _ := hr.mono (by decide)
    have hr_len_Machine : Room 2 _ := hr.mono (by decide)
    have hr_spread : Room 2 _ := hr.mono (by decide)
    have hr_outlook_of : Room 3 _ := hr
    have hr_marked_steps : Room 3 _ := hr
    have hr_Outlook : Room 2 _ := hr.mono (by decide)
    have T := TW
    refine ⟨_, (pss_cons (ps_expr (pe_callS G_check_free hr_check_free (by rfl) T.g_check_free T.k_check_free b_check_free (E := fun _ => E) (fun σ => passAt (takes_of rfl rfl rfl rfl) σ) (pa_cons (pv 2) pa_nil)))
      (pss_cons (ps_expr (pe_callS G_check_about hr_check_about (by rfl) T.g_check_about T.k_check_about b_check_about (E := fun _ => E) (fun σ => passAt (takes_of rfl rfl rfl rfl) σ) (pa_cons (pv 3) (pa_cons (pv 2) pa_nil))))
      (pss_cons (ps_fld (pv 0) (pe_ifExp (PW.pt (pw_and (pt_cmpR op_isN (pv 3) pe_non (nomark _)) (pw_and1 (pt_truth (pv 2) (by intro _; rfl))))) (pe_ix ix_tup (pv 2) pe_int (fun _ _ => rfl)) (pv 3)) rfl)
      (pss_cons (ps_asg (pe_tup (pa_cons (pe_callB (call_lenOwn T.h_len_Machine T.f_len_Machine G_len_Machine b_len_Machine hr_len_Machine pass0) (by rfl) T.len PySem.boot_len (pa_cons (pv 1) pa_nil)) (pa_cons (pv 2) (pa_cons (pe_lst pa_nil) pa_nil)))) (pg_tup rfl (pgs_cons (MX.pg_atr (pv 0)) (pgs_cons (MX.pg_atr (pv 0)) (pgs_cons (MX.pg_atr (pv 0)) pgs_nil)))))
      (pss_cons (ps_fld (pv 0) (MX.pe_dcN (own := [("kind", 4)]) (by rfl) nd (pi_tup (pv 2)) (blkOk_by (N := nWI) (sc := defScope sWI) (by decide +kernel)) (fun _ _ _ _ _ => (pg_name (i := 4) nd rfl (Or.inl rfl))) (fun _ _ _ _ _ => pts_nil) (fun _ _ _ _ _ => (pv 4)) (fun _ _ _ _ _ => (pe_make M_Outlook G_Outlook hr_Outlook (by rfl) T.c_Outlook b_Outlook .nil pass0 (pa_cons (pe_op op_mul pe_int (pe_callB (call_lenOwn T.h_len_Machine T.f_len_Machine G_len_Machine b_len_Machine hr_len_Machine pass0) (by rfl) T.len PySem.boot_len (pa_cons (pv 1) pa_nil))) (pa_cons (pe_call G_marked_steps hr_marked_steps (by rfl) T.g_marked_steps T.k_marked_steps b_marked_steps .nil pass0 (pa_cons (pv 1) (pa_cons (pv 4) (pa_cons (pv 2) pa_nil)))) pa_nil))))) rfl)
      (pss_cons (MX.ps_putN (pe_fld (pv 0) rfl) pe_non (pe_call G_outlook_of hr_outlook_of (by rfl) T.g_outlook_of T.k_outlook_of b_outlook_of .nil pass0 (pa_cons (pv 1) (pa_cons (pv 2) pa_nil))) rfl)
      (pss_one (ps_lock (ps_fld (pv 0) (MX.pe_dcN (own := [("kind", 4), ("outlook", 5)]) (by rfl) nd (MX.pi_itN (pe_fld (pv 0) rfl)) (blkOk_by (N := nWI) (sc := defScope sWI) (by decide +kernel)) (fun _ _ _ _ _ => (pg_tupK (K := K) (n := 2) rfl rfl (pgs_cons (pg_name (i := 4) nd rfl (Or.inl rfl)) (pgs_cons (pg_name (i := 5) nd rfl (Or.inl rfl)) pgs_nil)))) (fun _ _ _ _ _ => pts_nil) (fun _ _ _ _ _ => (pv 4)) (fun _ _ _ _ _ => (pe_meth (pv 5) T.cl_Outlook T.m_spread G_spread hr_spread b_spread .nil pass0 (pa_cons (pe_lst (pa_cons pe_int pa_nil)) pa_nil)))) rfl))))))))), ?_⟩
    clear T
    refine into ⟨_, rfl, t, ks, rfl, ht, lks, asc, okk, fun H1 e1 => ?_⟩
    refine into ⟨_, rfl, _, rfl, v, t, ks, rfl, kind.imp id Or.inl, e1 _ _ ht, fun c => kb c H1 e1, fun c => ?_⟩
    have ht1 := e1 _ _ ht
    have hp1 := e1 _ _ hp
    -- the kind that is asked for
    have val : ∀ R : VK, R (aboutOf ks v) H1 → tIf (tAnd (tTest (tOp (fun x y H Q => y = V.non ∧ Q (V.bl (decide (x = V.non))) H) (tVar 3) (tC V.non))) fun σ H Q => tVar 2 σ H fun x H' => ∃ k, TruV K x H' k ∧ Q k H') (tOp (rIxT K) (tVar 2) (tC (V.int 0))) (tVar 3) [some (.ref p), some (.ref m), some (.ref t), some v, none, none] H1 R := fun R r => by
      rcases kind with rfl | ⟨x, rfl⟩
      · refine ⟨_, rfl, rfl, _, rfl, ?_⟩
        cases ks with
        | nil => exact iteT ⟨_, rfl, false, .inr (.inl ⟨_, SqT.of ht1, rfl⟩), iteF ⟨_, rfl, r⟩⟩
        | cons x ks => exact iteT ⟨_, rfl, true, .inr (.inl ⟨_, SqT.of ht1, rfl⟩), iteT ⟨_, rfl, t, _, _, _, rfl, rfl, SqT.of ht1, atI_nat (j := 0) (xs := (x :: ks).map V.str) rfl, r⟩⟩
      · exact ⟨_, rfl, rfl, _, rfl, iteF (iteF ⟨_, rfl, r⟩)⟩
    refine into_fld (val _ ?_)
    generalize aboutOf ks v = ab at kg
    refine ⟨_, rfl, p, CW, dx, _, rfl, hp1, TW.cl, TW.n_about, by decide, ?_⟩
    generalize eH2 : upd H1 p (.ins CW dx (putF "about" ab [])) = H2
    have hp2 : H2 p = some (.ins CW dx (putF "about" ab [])) := by rw [← eH2, upd_same]
    have o12 : Off p H1 H2 := by rw [← eH2]; exact .upd
    have no1 : ¬ Fine CW (.ins CW dx []) := fun z => z rfl
    have f2 : Fi CW H H2 := (Fi.of e1).trans (Fi.off hp1 no1 o12)
    have M2 := M.fi nC f2
    obtain ⟨dm, _, _, _, _, _, hm2, _⟩ := id M2
    refine into ⟨_, rfl, m, dm, _, rfl, hm2, m, many, sts, rfl, M2, many, rfl, by omega, by omega, _, rfl, Nat.zero_le _, fun wl nl => ⟨by show 3 ≤ sizeLine; decide, fun T nT => ?_⟩⟩
    have nlp : wl ≠ p := fun z => by rw [z, hp2] at nl; cases nl
    have nTw : T ≠ wl := fun z => by rw [z, upd_same] at nT; cases nT
    have nT2 : H2 T = none := by rw [upd_ne nTw] at nT; exact nT
    have nTp : T ≠ p := fun z => by rw [z, hp2] at nT2; cases nT2
    refine ⟨T, _, rfl, SqT.of upd_same, rfl, ?_⟩
    refine ⟨_, _, rfl, _, rfl, p, CW, dx, putF "about" ab [], rfl, by rw [upd_ne (Ne.symm nTp), upd_ne (Ne.symm nlp)]; exact hp2, TW.cl, TW.n_many, (show (1 : Nat) < 1000 by decide), ?_⟩
    refine ⟨_, _, rfl, _, rfl, p, CW, dx, _, rfl, upd_same, TW.cl, TW.n_free, (show (2 : Nat) < 1000 by decide), ?_⟩
    refine ⟨_, _, rfl, _, rfl, p, CW, dx, _, rfl, upd_same, TW.cl, TW.n_words, (show (3 : Nat) < 1000 by decide), ?_⟩
    refine ⟨rfl, ?_⟩
    generalize eH3 : upd (upd (upd (upd (upd H2 wl (.lst [])) T (.tup [V.int many, V.ref t, V.ref wl])) p (.ins CW dx (putF "_many" (.int many) (putF "about" ab [])))) p (.ins CW dx (putF "_free" (.ref t) (putF "_many" (.int many) (putF "about" ab []))))) p (.ins CW dx (putF "_words" (.ref wl) (putF "_free" (.ref t) (putF "_many" (.int many) (putF "about" ab []))))) = H3
    have hp3 : H3 p = some (.ins CW dx (putF "_words" (.ref wl) (putF "_free" (.ref t) (putF "_many" (.int many) (putF "about" ab []))))) := by rw [← eH3, upd_same]
    have hw3 : H3 wl = some (.lst []) := by rw [← eH3, upd_ne nlp, upd_ne nlp, upd_ne nlp, upd_ne (Ne.symm nTw), upd_same]
    have o23 : Off p H2 H3 := fun b o z n => by rw [← eH3, upd_ne n, upd_ne n, upd_ne n, upd_ne (ne_of_none z nT2), upd_ne (ne_of_none z nl)]; exact z
    have noW : ∀ {fs : List (Str × V)}, ¬ Fine CW (.ins CW dx fs) := fun z => z rfl
    have f3 : Fi CW H H3 := f2.trans (Fi.off hp2 noW o23)
    have off3 : Off p H H3 := fun b o z n => o23 _ _ (o12 _ _ (e1 _ _ z) n) n
    have M3 := M.fi nC f3
    have ht3 := f3 _ _ ht trivial
    clear eH3
    have ndk := keysW_nodup (asc_nd asc)
    generalize hF3 : putF "_words" (V.ref wl) (putF "_free" (V.ref t) (putF "_many" (.int many) (putF "about" ab []))) = F3 at hp3
    have lF3 : F3.length < 900 := by rw [← hF3]; exact (show (4 : Nat) < 900 by decide)
    dsimp only
    refine into_fld ⟨_, rfl, t, rfl, ⟨_, SqT.of ht3⟩, fun D hD => MX.gather_tup (K := K) (a := t) (xs := ks.map V.str) (fun i H' => ∃ os : List Addr, os.length = i ∧ H' D = some (MX.DictNO P w D (((keysW ks).take i).zip (os.map V.ref))) ∧
      PySem.Paired (fun k o => OutAt CO H' o (manyW many k) (stepsW many (sts.filter (isOpen ks)) k)) ((keysW ks).take i) os ∧ Same H3 H') ⟨[], rfl, upd_same, .nil, same_new hD⟩ (fun i H' _ ⟨_, _, _, _, e⟩ => SqT.of (e _ _ ht3)) ?_ ?_⟩
    · rintro i x H5 hx ⟨os, lo, hD5, outs, e5⟩
      obtain ⟨q, hq, rfl⟩ := str_at hx
      have M5 := M3.same e5
      obtain ⟨dm5, _, _, _, _, _, hm5, _⟩ := id M5
      have li : i < ks.length := (List.getElem?_eq_some_iff.mp hq).1
      refine ⟨rfl, ?_⟩
      refine ⟨_, rfl, _, rfl, m, dm5, _, rfl, hm5, m, many, sts, rfl, M5, many, rfl, by omega, by omega, 2, many, rfl, rfl, .inl ⟨by decide, by decide⟩, ?_⟩
      refine ⟨_, rfl, _, rfl, _, rfl, m, t, many, sts, q, ks, rfl, M5, oks, m1, by omega, few, e5 _ _ ht3, fun H6 l ys e6 hl tri => ?_⟩
      intro x dx' nx ndx nex
      have e7 : Same H6 (upd (upd H6 dx' (.own x)) x (.ins CO dx' [])) := fun b o z => by
        rw [upd_ne (ne_of_none z nx), upd_ne (ne_of_none z ndx)]; exact z
      have lt := len_marked (many := many) (k := q) (sts.filter (isOpen ks))
      have lf : (sts.filter (isOpen ks)).length ≤ sts.length := List.length_filter_le ..
      have lys : ys.length = _ := PySem.Paired.length tri
      have okf : ∀ s ∈ sts.filter (isOpen ks), OkS many s := fun s hs => oks s (List.mem_filter.mp hs).1
      refine ⟨x, dx', l, 2 * many, ys, _, rfl, upd_same, e7 _ _ hl, tri.keep fun p ts z => e7 _ _ z, ok_marks okf m1, by omega, by omega, by omega, fun H7 out off => ⟨rfl, ?_⟩⟩
      have e57 : Same H5 H7 := fun b o z => off _ _ (e7 _ _ (e6 _ _ z)) (ne_of_none (e6 _ _ z) nx)
      have hD7 := e57 _ _ hD5
      have f8 : Fi CW H7 (upd H7 D (MX.DictNO P w D (putK (((keysW ks).take i).zip (os.map V.ref)) (some (Sum.inr q)) (.ref x)))) := Fi.off hD7 (fun z => z) Off.upd
      refine ⟨_, some (Sum.inr q), rfl, hD7, ?_, os ++ [x], by rw [List.length_append, lo]; rfl, ?_, ?_, ?_⟩
      · rw [List.length_zip, List.length_map, lo, sizeLine_eq]; omega
      · rw [upd_same, put_next ndk (keysW_at hq) lo x]; rfl
      · refine paired_snoc (keysW_at hq) (Paired.mapP outs fun k o h => (h.same e57).fi nO f8) (out.fi nO f8)
      · exact fun b o z => by rw [upd_ne (ne_of_none z hD)]; exact e57 _ _ (e5 _ _ z)
    · rintro H5 ⟨os, lo, hD5, outs, e5⟩
      rw [List.length_map] at lo hD5 outs
      have hp5 := e5 _ _ hp3
      have npD : D ≠ p := fun z => by rw [z, hp3] at hD; cases hD
      refine ⟨_, rfl, p, CW, dx, F3, rfl, hp5, TW.cl, TW.n_outlooks, by omega, ?_⟩
      generalize eH6 : upd H5 p (.ins CW dx (putF "_outlooks" (.ref D) F3)) = H6
      have hp6 : H6 p = some (.ins CW dx (putF "_outlooks" (.ref D) F3)) := by rw [← eH6, upd_same]
      have o56 : Off p H5 H6 := by rw [← eH6]; exact .upd
      have f56 : Fi CW H5 H6 := Fi.off hp5 noW o56
      have off6 : Off p H H6 := fun b o z n => o56 _ _ (e5 _ _ (off3 _ _ z n)) n
      have f6 : Fi CW H H6 := (f3.trans (Fi.of e5)).trans f56
      have hD6 := o56 _ _ hD5 npD
      have outs6 := Paired.mapP outs fun k o h => OutAt.fi nO f56 h
      have lF4 : (putF "_outlooks" (.ref D) F3).length < 901 := by have := length_putF "_outlooks" (V.ref D) F3; omega
      clear eH6 outs hD5
      refine into ⟨_, rfl, _, rfl, m, t, many, sts, ks, rfl, M.fi nC f6, oks, m1, by omega, by omega, f6 _ _ ht trivial, fun H7 r e7 out => ?_⟩
      have hD7 := e7 _ _ hD6
      have hp7 := e7 _ _ hp6
      refine ⟨_, rfl, p, CW, dx, _, .ref D, rfl, hp7, TW.cl, TW.n_outlooks, by rw [lookup_putF, if_pos rfl], ?_⟩
      refine ⟨D, _, none, rfl, rfl, hD7, by rw [List.length_zip, List.length_map, lo, sizeLine_eq]; omega, ?_⟩
      rw [put_next ndk keysW_last lo r]
      have allk : (keysW ks).take (ks.length + 1) = keysW ks := by rw [← keysW_len]; exact List.take_length
      show tLock _ _ _ (upd H7 D (MX.DictNO P w D (((keysW ks).take (ks.length + 1)).zip ((os ++ [r]).map V.ref))))
      generalize eH8 : upd H7 D (MX.DictNO P w D (((keysW ks).take (ks.length + 1)).zip ((os ++ [r]).map V.ref))) = H8
      have o78 : Off D H7 H8 := by rw [← eH8]; exact .upd
      have f78 : Fi CW H7 H8 := Fi.off hD7 (fun z => z) o78
      have hD8 : H8 D = some (MX.DictNO P w D (dW ks (os ++ [r]))) := by rw [← eH8, upd_same, allk]; rfl
      have hp8 := o78 _ _ hp7 (Ne.symm npD)
      have outs8 : Each ks (os ++ [r]) fun k o => OutAt CO H8 o (manyW many k) (stepsW many (sts.filter (isOpen ks)) k) := by
        have z := paired_snoc keysW_last (Paired.mapP outs6 fun k o h => (OutAt.same e7 h).fi nO f78) (out.fi nO f78 : OutAt CO H8 r (manyW many none) (stepsW many (sts.filter (isOpen ks)) none))
        rw [allk] at z
        exact z
      have los : (os ++ [r]).length = ks.length + 1 := by rw [List.length_append, lo]; rfl
      have off8 : Off p H H8 := fun b o z n => o78 _ _ (e7 _ _ (off6 _ _ z n)) (ne_of_none (off3 _ _ z n) hD)
      clear eH8
      generalize os ++ [r] = rs at hD8 outs8 los
      have okm : ∀ k, k ∈ keysW ks → ∀ t ∈ stepsW many (sts.filter (isOpen ks)) k, OkS (manyW many k) t := fun k hk => by
        have okf : ∀ s ∈ sts.filter (isOpen ks), OkS many s := fun s hs => oks s (List.mem_filter.mp hs).1
        match k with
        | none => exact okf
        | some (.inr x) => exact ok_marks okf m1
        | some (.inl i) => exact fun t h => absurd h (by simp [stepsW])
      have sm : ∀ k, 1 ≤ manyW many k ∧ manyW many k < 60 := fun k => by
        match k with
        | none => exact ⟨m1, by show many < 60; omega⟩
        | some k => exact ⟨by show 1 ≤ 2 * many; omega, by show 2 * many < 60; omega⟩
      refine ⟨D, _, hD8, trivial, fun od => ?_⟩
      have f9 : Fi CW H8 (upd H8 D (.frz od (MX.DictNO P w D (dW ks rs)))) := Fi.off hD8 (fun z => z) Off.upd
      have hD9 : (upd H8 D (.frz od (MX.DictNO P w D (dW ks rs)))) D = some (.frz od (MX.DictNO P w D (dW ks rs))) := upd_same
      have hp9 : (upd H8 D (.frz od (MX.DictNO P w D (dW ks rs)))) p = _ := Off.upd _ _ hp8 (Ne.symm npD)
      have outs9 := Paired.mapP outs8 fun k o h => OutAt.fi nO f9 h
      have o89 : Off D H8 (upd H8 D (.frz od (MX.DictNO P w D (dW ks rs)))) := Off.upd
      generalize upd H8 D (.frz od (MX.DictNO P w D (dW ks rs))) = H9 at f9 hD9 hp9 outs9 o89
      refine last_fld ⟨_, rfl, p, CW, dx, _, .ref D, rfl, hp9, TW.cl, TW.n_outlooks, by rw [lookup_putF, if_pos rfl], D, od, dW ks rs, rfl, hD9, fun D2 hD2 => gather_itN (fun i H' => ∃ ts : List Addr, ts.length = i ∧ H' D2 = some (MX.DictNO P w D2 (((keysW ks).take i).zip (ts.map V.ref))) ∧
        PySem.Paired (fun k a => H' a = some (.tup ((seen (stepsW many (sts.filter (isOpen ks)) k) (manyW many k) []).map V.int))) ((keysW ks).take i) ts ∧ Same H9 H') ⟨[], rfl, upd_same, .nil, same_new hD2⟩ (fun i H' _ ⟨_, _, _, _, e⟩ => e _ _ hD9) ?_ ?_⟩
      · rintro i k v H10 T1 ekv ⟨ts, lt, hT, nows, e10⟩ free1
        have lz : i < (dW ks rs).length := (List.getElem?_eq_some_iff.mp ekv).1
        obtain ⟨o, hk, ho, rfl⟩ : ∃ o, (keysW ks)[i]? = some k ∧ rs[i]? = some o ∧ v = V.ref o := by
          unfold dW at ekv
          rw [List.getElem?_zip_eq_some, List.getElem?_map] at ekv
          obtain ⟨a, b⟩ := ekv
          cases c : rs[i]? with
          | none => rw [c] at b; cases b
          | some o => rw [c] at b; exact ⟨o, a, rfl, (Option.some.inj b).symm⟩
        have km := List.mem_of_getElem? hk
        have outo : OutAt CO H9 o (manyW many k) (stepsW many (sts.filter (isOpen ks)) k) := by
          obtain ⟨o', ho', h⟩ := paired_get outs9 hk
          rw [ho] at ho'
          cases ho'
          exact h
        have e11 : Same H9 (upd H10 T1 (.tup [MX.nV k, .ref o])) := e10.trans (same_new free1)
        have outo1 := outo.same e11
        obtain ⟨dxo, _, _, _, _, hO, _⟩ := id outo1
        refine ⟨T1, _, rfl, SqT.of upd_same, rfl, _, _, rfl, _, _, rfl, rfl, rfl, ?_⟩
        refine ⟨_, rfl, _, rfl, o, dxo, _, rfl, hO, oFlds_no (by decide +kernel), by show 1 ≤ sizeLine; decide, fun l nl => ?_⟩
        have e12 : Same (upd H10 T1 (.tup [MX.nV k, .ref o])) (upd (upd H10 T1 (.tup [MX.nV k, .ref o])) l (.lst [V.int 0])) := same_new nl
        have sk := sm k
        refine ⟨o, l, manyW many k, _, [0], rfl, outo1.same e12, okm k km, sk.2, .inl upd_same, by decide, fun x hx => by rw [List.mem_singleton.mp hx]; exact ⟨Int.le_refl 0, by omega⟩, fun H13 a e13 ha => ?_⟩
        have e1013 : Same H10 H13 := (same_new free1).trans (e12.trans e13)
        have hT13 := e1013 _ _ hT
        have f14 : Fi CW H13 (upd H13 D2 (MX.DictNO P w D2 (putK (((keysW ks).take i).zip (ts.map V.ref)) k (.ref a)))) := Fi.off hT13 (fun z => z) Off.upd
        refine ⟨_, k, rfl, hT13, ?_, ts ++ [a], by rw [List.length_append, lt]; rfl, ?_, ?_, ?_⟩
        · rw [List.length_zip, List.length_map, lt, sizeLine_eq]
          have := keysW_len (ks := ks)
          have : i < (keysW ks).length := (List.getElem?_eq_some_iff.mp hk).1
          omega
        · rw [upd_same, put_next ndk hk lt a]; rfl
        · exact paired_snoc hk (Paired.mapP nows fun k' a' h => f14 _ _ (e1013 _ _ h) trivial) (f14 _ _ ha trivial)
        · exact fun b o z => by rw [upd_ne (ne_of_none z hD2)]; exact e1013 _ _ (e10 _ _ z)
      · rintro H10 ⟨ts, lt, hT, nows, e10⟩
        have ld : (dW ks rs).length = ks.length + 1 := by
          unfold dW
          rw [List.length_zip, List.length_map, keysW_len, los, Nat.min_self]
        rw [ld, allk] at hT nows
        have hp10 := e10 _ _ hp9
        have hD10 := e10 _ _ hD9
        refine ⟨_, rfl, p, CW, dx, _, rfl, hp10, TW.cl, TW.n_now, by have := length_putF "_outlooks" (V.ref D) F3; omega, ?_⟩
        have n2p : D2 ≠ p := fun z => by rw [z, hp9] at hD2; cases hD2
        have n2D : D2 ≠ D := fun z => by rw [z, hD9] at hD2; cases hD2
        refine ⟨by rw [upd_ne npD]; exact hD10, ?_⟩
        have oF : Off p H10 (upd H10 p (.ins CW dx (putF "_now" (.ref D2) (putF "_outlooks" (.ref D) F3)))) := Off.upd
        have hpF : (upd H10 p (.ins CW dx (putF "_now" (.ref D2) (putF "_outlooks" (.ref D) F3)))) p = _ := upd_same
        generalize upd H10 p (.ins CW dx (putF "_now" (.ref D2) (putF "_outlooks" (.ref D) F3))) = H11 at oF hpF
        have f11 : Fi CW H10 H11 := Fi.off hp10 noW oF
        have hD11 := oF _ _ hD10 npD
        have fF : Fi CW H11 (upd H11 D (MX.DictNO P w D (dW ks rs))) := Fi.off hD11 (fun z => z) Off.upd
        have fi8 : Fi CW H8 (upd H11 D (MX.DictNO P w D (dW ks rs))) := ((f9.trans (Fi.of e10)).trans f11).trans fF
        have fi6 : Fi CW H6 (upd H11 D (MX.DictNO P w D (dW ks rs))) := ((Fi.of e7).trans f78).trans fi8
        have fi3 : Fi CW H3 (upd H11 D (MX.DictNO P w D (dW ks rs))) := ((Fi.of e5).trans f56).trans fi6
        refine kg c _ (fun b o z n => ?_) ⟨dx, t, wl, D, D2, ?_, ⟨fi3 _ _ ht3 trivial, fi3 _ _ hw3 trivial, ⟨rs, upd_same, Paired.mapP outs8 fun k o h => h.fi nO fi8⟩, ts, ?_, Paired.mapP nows fun k a h => fF _ _ (f11 _ _ h trivial) trivial⟩⟩
        · have nbD := ne_of_none (off3 _ _ z n) hD
          rw [upd_ne nbD]
          exact oF _ _ (e10 _ _ (o89 _ _ (off8 _ _ z n) nbD)) n
        · rw [upd_ne (Ne.symm npD), hpF, ← hF3]; rfl
        · rw [upd_ne n2D]; exact oF _ _ hT n2p
end
end K1
end
section
/-! Watchers: asked, told. -/
namespace K1
open PySem L2
section
variable {P : Program} {w : World} {K : PySem.W.Frag} {mg : Str → Option Value} {base : Heap}
abbrev sAsk : Stmt := inClass (top 27) 4
structure TxtAsk (K : PySem.W.Frag) (mg : Str → Option Value) (CW fA : Addr) : Prop where
  cl : Cls K CW
  n_about : NoAttr K CW "about"
  n_free : NoAttr K CW "_free"
  g_check_about : mg "check_about" = some (.ref fA)
  k_check_about : PySem.W.keepIn K (.ref fA) = true
theorem scAsk : FnScope ["self", "about"] ["self", "about"] (defScope sAsk) := ⟨rfl, rfl, rfl, by decide +kernel, rfl, by decide +kernel, by decide +kernel⟩
theorem lk6 {v : V} {many : Int} {fr wl oD nD : Addr} : (w6 v many fr wl oD nD).lookup ("about" : Str) = some v ∧ (w6 v many fr wl oD nD).lookup ("_many" : Str) = some (.int many) ∧ (w6 v many fr wl oD nD).lookup ("_free" : Str) = some (.ref fr) ∧ (w6 v many fr wl oD nD).lookup ("_words" : Str) = some (.ref wl) ∧ (w6 v many fr wl oD nD).lookup ("_outlooks" : Str) = some (.ref oD) ∧ (w6 v many fr wl oD nD).lookup ("_now" : Str) = some (.ref nD) := by
  refine ⟨?_, ?_, ?_, ?_, ?_, ?_⟩ <;> rfl
def spAsk (P : Program) (w : World) (K : PySem.W.Frag) (CO CW CS : Addr) : Sp := fun vs H Q E => ∃ (p : Addr) (many : Int) (sts : List Stp) (ks ws : List Str) (v v' : V), vs = [.ref p, v'] ∧ WatAt P w CW CO H p many sts ks v ws ∧ (v' = .non ∨ (∃ x : Str, v' = .str x) ∨ ∃ i : Int, v' = .int i) ∧
  (aboutB ks v' = false → E (.ref CS) none H) ∧ (aboutB ks v' = true → ∀ H', Off p H H' → WatAt P w CW CO H' p many sts ks v' ws → Q .non H')
theorem WatB.fi {CO CW : Addr} {H H' : Hp} {many : Int} {sts : List Stp} {ks ws : List Str} {fr wl oD nD : Addr} (nO : CO ≠ CW) (f : Fi CW H H') (ho : H' oD = H oD) (hn : H' nD = H nD) (B : WatB P w CO H many sts ks ws fr wl oD nD) : WatB P w CO H' many sts ks ws fr wl oD nD := by
  obtain ⟨os, h1, h2⟩ := B.outs
  obtain ⟨ts, h3, h4⟩ := B.nows
  exact ⟨f _ _ B.free trivial, f _ _ B.words trivial, ⟨os, ho.trans h1, Paired.mapP h2 fun k o h => h.fi nO f⟩, ts, hn.trans h3, Paired.mapP h4 fun k a h => f _ _ h trivial⟩
theorem WatAt.same {CO CW : Addr} {H H' : Hp} {p : Addr} {many : Int} {sts : List Stp} {ks ws : List Str} {v : V} (e : Same H H') (m : WatAt P w CW CO H p many sts ks v ws) : WatAt P w CW CO H' p many sts ks v ws := by
  obtain ⟨dx, fr, wl, oD, nD, h, B⟩ := m
  obtain ⟨os, h1, h2⟩ := B.outs
  obtain ⟨ts, h3, h4⟩ := B.nows
  exact ⟨dx, fr, wl, oD, nD, e _ _ h, e _ _ B.free, e _ _ B.words, ⟨os, e _ _ h1, Paired.mapP h2 fun k o h => h.same e⟩, ts, e _ _ h3, Paired.mapP h4 fun k a h => e _ _ h⟩
theorem ok_ask {f CO CW CS fA : Addr} {fd fdA : FuncData} (nO : CO ≠ CW) (F : Fun K "ask" "Watcher.ask" sAsk f fd) (T : TxtAsk K mg CW fA) (G_check_about : FnOk P w K mg base (L2.CX P w) 1 fA fdA ["about", "free"] (spAbout K CS)) (b_check_about : Binds K fdA ["about", "free"] []) :
    FnOk P w K mg base (L2.CX P w) 2 f fd ["self", "about"] (spAsk P w K CO CW CS) := by
  refine F.okX scAsk (fun vs H Q E h => ?_) (fun cdv A outer s H vs Q E hr h => ?_)
  · obtain ⟨p, many, sts, ks, ws, v, v', rfl, _⟩ := h
    rfl
  · obtain ⟨p, many, sts, ks, ws, v, v', rfl, W, kind, kb, kg⟩ := h
    have hr_check_about : Room 1 _ := hr
    refine ⟨_, (pss_cons (ps_expr (pe_callS G_check_about hr_check_about (by rfl) T.g_check_about T.k_check_about b_check_about (E := fun _ => E) (fun σ => passAt (takes_of rfl rfl rfl rfl) σ) (pa_cons (pv 1) (pa_cons (pe_fld (pv 0) rfl) pa_nil))))
      (pss_one (ps_fld (pv 0) (pv 1) rfl))), ?_⟩
    obtain ⟨dx, fr, wl, oD, nD, hp, B⟩ := W
    refine into ⟨_, rfl, _, rfl, p, CW, dx, _, _, rfl, hp, T.cl, T.n_free, lk6.2.2.1, v', fr, ks, rfl, kind, B.free, kb, fun c => ?_⟩
    dsimp only
    refine last_fld ⟨_, rfl, _, rfl, p, CW, dx, _, rfl, hp, T.cl, T.n_about, (show (6 : Nat) < 1000 by decide), ?_⟩
    have o : Off p H (upd H p (.ins CW dx (putF "about" v' (w6 v many fr wl oD nD)))) := Off.upd
    obtain ⟨os, h1, _⟩ := B.outs
    obtain ⟨ts, h3, _⟩ := B.nows
    refine kg c _ o ⟨dx, fr, wl, oD, nD, ?_, B.fi nO (Fi.off hp (fun z => z rfl) o) (upd_ne (ne_of h1 hp (by intro y; cases y))) (upd_ne (ne_of h3 hp (by intro y; cases y)))⟩
    rw [upd_same]; rfl
abbrev sWLen : Stmt := inClass (top 27) 1
structure TxtWL (K : PySem.W.Frag) (mg : Str → Option Value) (CW : Addr) : Prop where
  cl : Cls K CW
  n_words : NoAttr K CW "_words"
  len : mg "len" = none
theorem scWLen : FnScope ["self"] ["self"] (defScope sWLen) := ⟨rfl, rfl, rfl, by decide +kernel, rfl, by decide +kernel, by decide +kernel⟩
def spWLen (P : Program) (w : World) (CO CW : Addr) : Sp := fun vs H Q _ => ∃ (p : Addr) (many : Int) (sts : List Stp) (ks ws : List Str) (v : V), vs = [.ref p] ∧ WatAt P w CW CO H p many sts ks v ws ∧ Q (.int ws.length) H
theorem ok_wLen {f CO CW : Addr} {fd : FuncData} (F : Fun K "__len__" "Watcher.__len__" sWLen f fd) (T : TxtWL K mg CW) : FnOk P w K mg base CX0 1 f fd ["self"] (spWLen P w CO CW) := by
  refine F.ok scWLen (fun vs H Q E h => ?_) (fun cdv A outer s H vs Q E hr h => ?_)
  · obtain ⟨p, many, sts, ks, ws, v, rfl, _⟩ := h
    rfl
  · obtain ⟨p, many, sts, ks, ws, v, rfl, W, k⟩ := h
    refine ⟨_, (pss_one (ps_ret (pe_callB call_len_seq (by rfl) T.len PySem.boot_len (pa_cons (pe_fld (pv 0) rfl) pa_nil)))), ?_⟩
    obtain ⟨dx, fr, wl, oD, nD, hp, B⟩ := W
    refine ⟨_, rfl, p, CW, dx, _, _, rfl, hp, T.cl, T.n_words, lk6.2.2.2.1, wl, _, rfl, .inl (SqL.of B.words), ?_⟩
    rw [List.length_map]
    exact k
/-- what stands in a watcher's dict for a key -/
theorem dW_at {ks : List Str} {as : List Addr} {p : MX.NK → Addr → Prop} (nd : ks.Nodup) (e : Each ks as p) {i : Nat} {k : MX.NK} (hk : (keysW ks)[i]? = some k) : ∃ a, valV (dW ks as) k = some (.ref a) ∧ p k a ∧ as[i]? = some a := by
  obtain ⟨a, ha, h⟩ := paired_get e hk
  refine ⟨a, ?_, h, ha⟩
  unfold dW
  rw [valV_zip (keysW_nodup nd) hk, List.getElem?_map, ha]; rfl
/-- what is told of all free kinds -/
noncomputable def tellOf (many : Int) (ss : List Stp) (ws : List Str) (k : Str) : Str := told (seen (marked many k ss) (2 * many) ws) many
noncomputable def tellsW (many : Int) (ss : List Stp) (ks ws : List Str) : List (MX.NK × V) := ks.map fun k => ((some (Sum.inr k) : MX.NK), V.str (tellOf many ss ws k))
theorem tells_no {many : Int} {ss : List Stp} {ws : List Str} {q : Str} : ∀ {ks : List Str}, q ∉ ks → valV (tellsW many ss ks ws) (some (Sum.inr q)) = none
  | [], _ => rfl
  | k :: ks, h => by
    show valV (((some (Sum.inr k) : MX.NK), V.str (tellOf many ss ws k)) :: tellsW many ss ks ws) (some (Sum.inr q)) = none
    rw [valV_neg (fun e => h (by rw [Sum.inr.inj (Option.some.inj e)]; exact List.mem_cons_self))]
    exact tells_no fun m => h (List.mem_cons_of_mem _ m)
theorem tells_put {many : Int} {ss : List Stp} {ks ws : List Str} (nd : ks.Nodup) {i : Nat} {q : Str} (h : ks[i]? = some q) : putK (tellsW many ss (ks.take i) ws) (some (Sum.inr q)) (.str (tellOf many ss ws q)) = tellsW many ss (ks.take (i + 1)) ws := by
  have no : q ∉ ks.take i := fun m => by
    obtain ⟨j, hj, ej⟩ := List.getElem_of_mem m
    rw [List.length_take] at hj
    rw [List.getElem_take] at ej
    obtain ⟨lt, e2⟩ := List.getElem?_eq_some_iff.mp h
    exact (List.pairwise_iff_getElem.mp nd j i (by omega) lt (by omega)) (ej.trans e2.symm)
  rw [putK_new _ (tells_no no), List.take_add_one, h]
  unfold tellsW
  rw [List.map_append]; rfl
abbrev sKn : Stmt := inClass (top 27) 6
abbrev nKn : List Str := ["self", "kind"]
structure TxtKn (K : PySem.W.Frag) (mg : Str → Option Value) (CW fV : Addr) : Prop where
  cl : Cls K CW
  n_many : NoAttr K CW "_many"
  n_free : NoAttr K CW "_free"
  n_now : NoAttr K CW "_now"
  g_verdict : mg "verdict" = some (.ref fV)
  k_verdict : PySem.W.keepIn K (.ref fV) = true
theorem scKn : FnScope nKn ["self"] (defScope sKn) := ⟨rfl, rfl, rfl, by decide +kernel, rfl, by decide +kernel, by decide +kernel⟩
def spKn (P : Program) (w : World) (CO CW : Addr) : Sp := fun vs H Q _ => ∃ (p : Addr) (many : Int) (sts : List Stp) (ks ws : List Str) (v : V), vs = [.ref p] ∧ WatAt P w CW CO H p many sts ks v ws ∧ ks.length < 64 ∧ ks.Nodup ∧ (∀ k ∈ ks, 0 < (seen (marked many k (sts.filter (isOpen ks))) (2 * many) ws).length) ∧
  ∀ H' D, Same H H' → H D = none → H' D = some (MX.DictNO P w D (tellsW many (sts.filter (isOpen ks)) ks ws)) → Q (.ref D) H'
set_option maxHeartbeats 1000000 in
theorem ok_known {f CO CW fV : Addr} {fd fdV : FuncData} (F : Fun K "known" "Watcher.known" sKn f fd) (T : TxtKn K mg CW fV) (G_verdict : FnOk P w K mg base CX0 1 fV fdV ["states", "many"] spVer) (b_verdict : Binds K fdV ["states", "many"] []) :
    FnOk P w K mg base CX0 2 f fd ["self"] (spKn P w CO CW) := by
  refine F.ok scKn (fun vs H Q E h => ?_) (fun cdv A outer s H vs Q E hr h => ?_)
  · obtain ⟨p, many, sts, ks, ws, v, rfl, _⟩ := h
    rfl
  · obtain ⟨p, many, sts, ks, ws, v, rfl, W, few, ndk, some_, k⟩ := h
    have nd := scKn.nd
    have hr_verdict : Room 1 _ := hr
    refine ⟨_, (pss_one (ps_ret (MX.pe_dcN (own := [("kind", 1)]) (by rfl) nd (pi_tup (pe_fld (pv 0) rfl)) (blkOk_by (N := nKn) (sc := defScope sKn) (by decide +kernel)) (fun _ _ _ _ _ => (pg_name (i := 1) nd rfl (Or.inl rfl))) (fun _ _ _ _ _ => pts_nil) (fun _ _ _ _ _ => (pv 1)) (fun _ _ _ _ _ => (pe_call G_verdict hr_verdict (by rfl) T.g_verdict T.k_verdict b_verdict .nil pass0 (pa_cons (MX.pe_getNK (P := P) (w := w) rfl rfl (pe_fldK (K := K) rfl (pv 0) rfl) (pv 1) (fun _ _ => rfl)) (pa_cons (pe_fldK (K := K) rfl (pv 0) rfl) pa_nil))))))), ?_⟩
    obtain ⟨dx, fr, wl, oD, nD, hp, B⟩ := W
    obtain ⟨ts, hnD, nows⟩ := B.nows
    have hfr := B.free
    refine ⟨_, rfl, p, CW, dx, _, _, rfl, hp, T.cl, T.n_free, lk6.2.2.1, fr, rfl, ⟨_, SqT.of hfr⟩, fun D hD => MX.gather_tup (K := K) (a := fr) (xs := ks.map V.str) (fun i H' => H' D = some (MX.DictNO P w D (tellsW many (sts.filter (isOpen ks)) (ks.take i) ws)) ∧ Same H H')
      ⟨upd_same, same_new hD⟩ (fun i H' _ ⟨_, e⟩ => SqT.of (e _ _ hfr)) ?_ ?_⟩
    · rintro i x H1 hx ⟨h1, e⟩
      obtain ⟨q, hq, rfl⟩ := str_at hx
      have qm := List.mem_of_getElem? hq
      obtain ⟨a, va, ha, _⟩ := dW_at ndk nows (keysW_at hq)
      refine ⟨rfl, ?_⟩
      refine ⟨_, rfl, _, rfl, p, CW, dx, _, _, rfl, e _ _ hp, T.cl, T.n_now, lk6.2.2.2.2.2, _, rfl, nD, _, some (Sum.inr q), _, rfl, rfl, .inl (e _ _ hnD), va, ?_⟩
      refine ⟨_, rfl, p, CW, dx, _, _, rfl, e _ _ hp, T.cl, T.n_many, lk6.2.1, a, _, many, rfl, e _ _ ha, some_ q qm, ?_⟩
      refine ⟨_, some (Sum.inr q), rfl, h1, ?_, ?_, ?_⟩
      · unfold tellsW
        rw [List.length_map, List.length_take, sizeLine_eq]; omega
      · rw [upd_same, ← tells_put ndk hq]; rfl
      · exact fun b o z => by rw [upd_ne (ne_of_none z hD)]; exact e _ _ z
    · rintro H1 ⟨h1, e⟩
      rw [List.length_map, List.take_length] at h1
      exact k H1 D e hD h1
end
end K1
end
section
/-! list(o) of an instance whose __iter__ gives an iterator of a list, and which has a length. -/
namespace MX
open PySem PySem.Spec PyProof.Rows L2 PySem.W
section
variable {X : Cx} {pins : List (Addr × Obj)} {σ : L2.St} {H : Hp} {s : Shared} {A : Around} {it l q : Addr} {zs : List V}
theorem it_type {i : Nat} (I : L2.Inv X pins σ H s) (hi : H it = some (ItO l it i)) : s.TypeIs (.ref it) "list_iterator" := ⟨_, itO_get I hi, rfl⟩
theorem it_item {i : Nat} {z : V} {E : Value → Shared → Prop} {Q : Option Value → Shared → Prop} (I : L2.Inv X pins σ H s) (hi : H it = some (ItO l it i)) (hl : H l = some (.lst zs)) (hz : zs[i]? = some z)
    (go : ∀ u s', RelV z u → L2.Inv X pins σ (upd H it (ItO l it (i + 1))) s' → Q (some u) s') : wpAny (model X.prog X.w) A (pyNext (.ref it)) Q E s := by
  obtain ⟨its, rv, pl, _⟩ := I.list (SqL.of hl)
  obtain ⟨u, hu, ru⟩ := rv.get hz
  unfold pyNext
  refine wpAny_bind (wpAny_attempt (wpAny_callSpecial?_slot (name := PySem.Str.ofString "__next__") (it_type I hi) slot_listiter_next (wpAny_call_entry slot_listiter_next (it_type I hi) entry_listiter_next ?_ (args_listiter_next _))))
  refine wpAny_mono (GNX.next_item (Q := fun v s' => v = u ∧ ∃ h', s' = { s with heap := h' } ∧ h'.get? it = some (GNX.itObj l (i + 1)) ∧ Heap.SameBut it s.heap h') (itO_get I hi) pl.isList (by rw [List.getElem?_toArray]; exact hu) fun h' e' sb => ⟨rfl, h', rfl, e', sb⟩) (fun fin s' ⟨v, ef, ev, h', es, e', sb⟩ => ?_) fun _ _ z => z
  subst ev es
  exact ⟨v, ef, wpAny_pure (go v _ ru (I.write (x := it) (e := it) (t' := s.toks) (by rw [hi]; exact True.intro) (.inl rfl) (fun b o nb z => (sb.2 b nb).trans z) ⟨_, e'⟩ (itO_ok e')))⟩
theorem it_end {i : Nat} {E : Value → Shared → Prop} {Q : Option Value → Shared → Prop} (calm : A.handled = none) (I : L2.Inv X pins σ H s) (hi : H it = some (ItO l it i)) (hl : H l = some (.lst zs)) (hz : zs[i]? = none)
    (go : ∀ s', L2.Inv X pins σ (upd H it (ItE it i)) s' → Q none s') : wpAny (model X.prog X.w) A (pyNext (.ref it)) Q E s := by
  obtain ⟨its, rv, pl, _⟩ := I.list (SqL.of hl)
  unfold pyNext
  refine wpAny_bind (wpAny_attempt (wpAny_callSpecial?_slot (name := PySem.Str.ofString "__next__") (it_type I hi) slot_listiter_next (wpAny_call_entry slot_listiter_next (it_type I hi) entry_listiter_next ?_ (args_listiter_next _))))
  refine wpAny_mono (GNX.next_end (Q := fun _ _ => False) (E := fun e s' => ∃ h1 h' a vs, e = .ref a ∧ s' = { s with heap := h' } ∧ h1.get? it = some (GNX.itEnd i) ∧ Heap.SameBut it s.heap h1 ∧ (∀ b o, h1.get? b = some o → h'.get? b = some o) ∧ h'.get? a = some { cls := .type "StopIteration", data := .fields vs })
    calm (itO_get I hi) pl.isList (by rw [List.getElem?_toArray]; exact rv.none_of hz) fun h1 h' a vs e1 sb k _ ha _ => ⟨h1, h', a, vs, rfl, rfl, e1, sb, k, ha⟩) (fun fin s' ⟨v, _, no⟩ => no.elim) fun e s' ⟨h1, h', a, vs, ee, es, e1, sb, k, ha⟩ => ?_
  subst ee es
  refine wpAny_bind (wpAny_isInstance (T := "StopIteration") (b := true) ⟨_, ha, rfl⟩ isSubtype_stop (wpAny_pure (go _ ?_)))
  have J : L2.Inv X pins σ (upd H it (ItE it i)) { s with heap := h1 } := I.write (x := it) (e := it) (t' := s.toks) (by rw [hi]; exact True.intro) (.inl rfl) (fun b o nb z => (sb.2 b nb).trans z) ⟨_, e1⟩ (itE_ok e1)
  exact J.kept (t' := s.toks) fun b o z => k b o z
/-- the list at q is filled -/
theorem fill_it {R : Result → Shared → Prop} (calm : A.in1.handled = none) (ne : q ≠ it) (nl : q ≠ l) (nil : it ≠ l) (small : zs.length < sizeLine) : ∀ (n i : Nat) (H : Hp) (s : Shared), zs.length - i = n → i ≤ zs.length → L2.Inv X pins σ H s → H it = some (ItO l it i) → H l = some (.lst zs) → H q = some (.lst (zs.take i)) →
    (∀ s' H', L2.Inv X pins σ H' s' → H' q = some (.lst zs) → (∀ b, b ≠ q → b ≠ it → H' b = H b) → R (.ok (.ret .none)) s') → codeAny (model X.prog X.w) A (.builtin "list.extend.loop" ⟨[.ref q, .ref it, .none], []⟩) R s := by
  intro n
  induction n with
  | zero =>
    intro i H s en le I hi hl hq done
    obtain rfl : i = zs.length := by omega
    refine codeAny_builtin F.entry_extend_loop ?_
    rw [Around.under_plainId F.plain_extend_loop _]
    refine wpAny_bind (it_end calm I hi hl (List.getElem?_eq_none (Nat.le_refl _)) fun s' J => wpAny_pure (done s' _ J ?_ fun b b1 b2 => upd_ne b2))
    rw [upd_ne ne, hq, List.take_length]
  | succ n ih =>
    intro i H s en le I hi hl hq done
    have lt : i < zs.length := by omega
    refine codeAny_builtin F.entry_extend_loop ?_
    rw [Around.under_plainId F.plain_extend_loop _]
    refine wpAny_bind (it_item I hi hl (List.getElem?_eq_getElem lt) fun u s' ru J => ?_)
    have hq' : upd H it (ItO l it (i + 1)) q = some (.lst (zs.take i)) := by rw [upd_ne ne]; exact hq
    obtain ⟨z, its, k, rv, hlen, e⟩ := J.lstM hq'
    have few : (zs.take i).length ≤ zs.length := List.length_take_le' ..
    refine wpAny_bind (wpAny_updateSeq e rfl (wpAny_pure ⟨plainId_quiet F.plain_extend_loop _, ?_⟩) (by rw [List.size_toArray]; omega) (by rw [Array.size_push, List.size_toArray]; omega))
    have more : zs.take (i + 1) = zs.take i ++ [zs[i]] := by rw [List.take_add_one, List.getElem?_eq_getElem lt]; rfl
    refine ih (i + 1) _ _ (by omega) lt (J.lset (its' := its ++ [u]) (ys := zs.take (i + 1)) (t' := s'.toks) hq' e (by simp) (by rw [more]; exact rv.append (.cons ru .nil)) (by rw [List.length_take]; omega)) ?_ ?_ upd_same fun s2 H2 J2 h2 rest => done s2 H2 J2 h2 fun b b1 b2 => ?_
    · rw [upd_ne (Ne.symm ne), upd_same]
    · rw [upd_ne (Ne.symm nl), upd_ne (Ne.symm nil)]; exact hl
    · rw [rest b b1 b2, upd_ne b1, upd_ne b2]
end
/-- o.__iter__ and o.__len__ are the class's own -/
structure ItL (K : PySem.W.Frag) (C fi fl : Addr) : Prop where
  it : findIn K (.ref C) "__iter__" = some (some (.ref fi))
  itF : isFn K (.ref fi) = true
  len : findIn K (.ref C) "__len__" = some (some (.ref fl))
  lenF : isFn K (.ref fl) = true
def rListIt (C : Addr) (spI spL : Sp) : List V → Hp → VK → Prop := fun xs H Q => ∃ (a dx : Addr) (fs : List (PySem.Str × V)), xs = [V.ref a] ∧ H a = some (.ins C dx fs) ∧ ∀ q, H q = none →
  spI [.ref a] (upd H q (.lst [])) (fun v H1 => ∃ (it l : Addr) (zs : List V), v = .ref it ∧ H1 it = some (ItO l it 0) ∧ H1 l = some (.lst zs) ∧ H1 q = some (.lst []) ∧ H1 a = some (.ins C dx fs) ∧ l ≠ q ∧ zs.length < sizeLine ∧
    spL [.ref a] H1 (fun v2 H2 => ∃ m : Int, v2 = .int m ∧ 0 ≤ m ∧ m ≤ 1000000 ∧ H2 = H1 ∧ ∀ H3, H3 q = some (.lst zs) → (∀ b, b ≠ q → b ≠ it → H3 b = H1 b) → Q (.ref q) H3) E0) E0
section
variable {X : Cx} {pins : List (Addr × Obj)} {σ : L2.St} {H : Hp} {s : Shared} {A : Around} {C fi fl : Addr} {n : Nat} {fdI fdL : FuncData} {psI psL : List PySem.Str} {spI spL : Sp}
/-- an own function that lets nothing out, called from within a built-in one -/
theorem run_never {k : Nat} {f : Addr} {fd : FuncData} {ps : List PySem.Str} {sp : Sp} {us : List Value} {vs : List V} {Q : VK} {E : Value → Shared → Prop} (sb : L2.Sub X k A) (F : FnOk X.prog X.w X.K X.mg X.base CX0 k f fd ps sp) (hb : Binds X.K fd ps []) (I : L2.Inv X pins σ H s) (r : Vals vs us) (h : sp vs H Q E0) :
    wpAny (model X.prog X.w) A (call (.ref f) us) (EP X pins σ Q) E s := by
  have env : Env0 X.prog X.w X.K X.mg X.base A X.stack s H := { I.env0 with frames := sb.fr.trans I.env0.frames }
  have bound := hb s us I.kIn (by rw [List.append_nil, ← r.length]; exact F.len vs H Q E0 h)
  rw [List.append_nil] at bound
  refine wpAny_call (codeAny_mono (F.run A X.stack s H ⟨us, []⟩ us vs Q E0 sb.room env bound r h) fun res s' z => ?_)
  match res, z with
  | .error e, z => exact False.elim z
  | .ok (.ret u), z => exact I.after z
/-- the model asks for the length first -/
theorem len_asked {a dx : Addr} {fs : List (PySem.Str × V)} {Q : Hp → Prop} {R : Bool → Shared → Prop} {E : Value → Shared → Prop} (c : ItL X.K C fi fl) (FL : FnOk X.prog X.w X.K X.mg X.base CX0 n fl fdL psL spL) (bL : Binds X.K fdL psL []) (sb : L2.Sub X n A.in1) (I : L2.Inv X pins σ H s) (ha : H a = some (.ins C dx fs))
    (run : spL [.ref a] H (fun v H2 => ∃ m : Int, v = .int m ∧ 0 ≤ m ∧ m ≤ 1000000 ∧ Q H2) E0) (go : ∀ b H2 s2, L2.Inv X pins σ H2 s2 → Q H2 → R b s2) : wpAny (model X.prog X.w) A (Builtin.List.listLengthHint (.ref a)) R E s := by
  obtain ⟨o, od, at_⟩ := inst_at I ha
  unfold Builtin.List.listLengthHint
  refine wpAny_bind (wpAny_bind (at_.type.here ((looks_findIn I.kIn c.len).here ?_)))
  refine PySem.W.KFB.if_not rfl ?_
  refine wp_if_pos rfl ?_
  refine wpAny_bind (wpAny_rule (wpAny_bind (wpAny_attempt ?_)))
  refine Calls.call_function_entry kind_len plain_len entry_len (args_len1 (.ref a)) ?_
  unfold Builtin.«len»
  refine wpAny_bind (m := oneArg "len" ⟨[Value.ref a], []⟩) (wpAny_pure ?_)
  refine wpAny_bind (m := callSpecial? (Value.ref a) "__len__") (special_fn I.kIn at_ c.len (beq_iff_eq.mp c.lenF) ?_)
  refine wpAny_mono (run_never sb FL bL I (.cons (show L2.RelV (V.ref a) (Value.ref a) from rfl) .nil) run) (fun v s1 ⟨y, H1, I1, rel, m, ey, low, high, q⟩ => ?_) fun _ _ z => z
  subst ey
  obtain ⟨t, rfl⟩ := rel
  refine wpAny_bind (wpAny_holding (wpAny_pure (wpAny_bind (wpAny_letGo ?_))))
  refine wp_if_neg (by omega) ?_
  try refine wpAny_bind (wpAny_pure ?_)
  refine wp_if_neg (by omega) ?_
  try refine wpAny_bind (wpAny_pure ?_)
  unfold retInt
  refine wpAny_bind (wpAny_mkInt (wpAny_pure ⟨_, rfl, ?_⟩))
  refine wpAny_bind (wpAny_pure ?_)
  refine wp_if_neg (by unfold Builtin.List.listTooLong; rw [sizeLine_eq]; simp; omega) ?_
  exact wpAny_pure (go _ H1 _ (I1.tok _) q)
theorem call_listIt (calm : X.calm = true) (c : ItL X.K C fi fl) (FI : FnOk X.prog X.w X.K X.mg X.base CX0 n fi fdI psI spI) (bI : Binds X.K fdI psI []) (FL : FnOk X.prog X.w X.K X.mg X.base CX0 n fl fdL psL spL) (bL : Binds X.K fdL psL []) (hr : Room (n + 3) X.A) :
    CallR X (.type "list") (rListIt C spI spL) := by
  intro pins s σ H xs us Q I r h
  obtain ⟨a, dx, fs, rfl, ha, run⟩ := h
  rw [Vals.ref1 r]
  have sub2 : L2.Sub X (n + 1) X.A.in1.in1 := L2.Sub.in1 (L2.Sub.in1 (⟨hr, rfl⟩ : L2.Sub X (n + 3) X.A))
  have sub3 : L2.Sub X n X.A.in1.in1.in1 := L2.Sub.in1 sub2
  refine callType_codes (Q₁ := fun o s1 => o = .ref s.heap.objs.size ∧ s1 = { s with heap := s.heap.push { cls := .type "list", data := .seq #[] } }) F.called_list (F.typeCall_list_1 _) F.entry_list_init (code_list_new _ ⟨rfl, rfl⟩) fun o s1 ⟨eo, es⟩ => ?_
  subst eo es
  have free := I.hok.fresh (Nat.le_refl s.heap.objs.size)
  have at0 : (s.heap.push { cls := .type "list", data := .seq #[] }).get? s.heap.objs.size = some { cls := .type "list", data := .seq #[] } := Heap.get?_push_size _ rfl
  refine ⟨⟨_, at0, rfl⟩, F.args_list_init_2 _ _, ?_⟩
  have I1 : L2.Inv X pins σ (upd H s.heap.objs.size (.lst [])) { s with heap := s.heap.push { cls := .type "list", data := .seq #[] } } := I.lnew (its := []) (t' := s.toks) .nil (Nat.zero_le _)
  have run := run _ free
  generalize s.heap.objs.size = q at at0 I1 run free ⊢
  show wpAny _ _ (do
    let was ← Builtin.List.listItems (.ref q)
    Builtin.List.listUpdate (.ref q) (fun _ => #[])
    letGo was.toList.reverse
    Builtin.List.listExtendWith (.ref q) (.ref a) .none) _ _ _
  unfold Builtin.List.listItems
  refine wpAny_bind (wpAny_bind (wpAny_seqItems at0 rfl (wpAny_pure ?_)))
  refine wpAny_bind (wpAny_updateSeq at0 rfl ?_)
  have I2 := I1.lset (f := fun _ => #[]) (its := []) (its' := []) (ys := []) (t' := s.toks) upd_same at0 rfl .nil (Nat.zero_le _)
  rw [upd_upd] at I2
  refine wpAny_bind (wpAny_letGo ?_)
  have qa : q ≠ a := fun z => by rw [← z, free] at ha; exact nomatch ha
  have ha2 : upd H q (.lst []) a = some (.ins C dx fs) := (upd_ne (Ne.symm qa)).trans ha
  have bl : Builtin.List.listSameRef (.ref q) (.ref a) = false := beq_eq_false_iff_ne.mpr qa
  obtain ⟨o, od, at_⟩ := inst_at I2 ha2
  obtain ⟨hm, fr⟩ := I2.fr
  unfold Builtin.List.listExtendWith
  refine wpAny_bind (at_.type.here ?_)
  rw [bl]
  refine wp_if_neg (by rw [show (Value.ref C == Value.type "list") = false from rfl, show (Value.ref C == Value.type "tuple") = false from rfl]; decide) ?_
  refine wpAny_bind (PySem.W.owit_iter fr I2.ok.mod.kin at_ c.it c.itF (wpAny_mono (run_never (sub2.mono (by omega)) FI bI I2 (.cons (show L2.RelV (V.ref a) (Value.ref a) from rfl) .nil) run) (fun v s1 ⟨y, H1, I3, rel, it, l, zs, ey, hit, hl, hq1, ha1, lq, few, runL⟩ => ?_) fun _ _ z => False.elim z))
  subst ey
  cases rel
  have hh : X.A.handled = none := I.ok.hd calm
  refine wpAny_specialOf (it_type I3 hit) slot_listiter_next.lookup ?_
  refine wpAny_bind (wpAny_holding (len_asked c FL bL sub3 I3 ha1 (Q := fun H2 => H2 = H1 ∧ ∀ H3, H3 q = some (.lst zs) → (∀ b, b ≠ q → b ≠ it → H3 b = H1 b) → Q (.ref q) H3) ?_ fun more H2 s2 I4 ⟨e4, fin⟩ => ?_))
  · exact runL
  subst e4
  have qit : q ≠ it := fun z => by rw [z, hit] at hq1; exact nomatch hq1
  have itl : it ≠ l := fun z => by rw [z, hl] at hit; exact nomatch hit
  have out : ∀ s3, L2.Inv X pins σ H2 s3 → codeAny (model X.prog X.w) X.A.in1 (.builtin "list.extend.loop" ⟨[.ref q, .ref it, .none], []⟩) (wants (fun r s₂ => r = .none ∧ EP X pins σ Q (.ref q) s₂) X.xe) s3 := fun s3 J =>
    fill_it (show X.A.in1.in1.handled = none from hh) qit (Ne.symm lq) itl few zs.length 0 H2 s3 (by omega) (Nat.zero_le _) J hit hl hq1 fun s' H' J' hq' rest => ⟨rfl, .ref q, H', J', rfl, fin H' hq' rest⟩
  refine wpAny_ite_split (fun _ => ?_) fun _ => wpAny_pure ⟨plainId_quiet F.plain_extend_loop _, out _ I4⟩
  refine wpAny_bind (wpAny_rule (wpAny_bind ?_))
  unfold Builtin.List.listTouch
  obtain ⟨z0, its0, k0, rv0, e0, at1⟩ := I4.lstM hq1
  cases rv0
  refine wpAny_bind (wpAny_updateSeq at1 rfl ?_)
  have I5 := I4.lset (f := fun xs => xs.push Value.none) (its' := [Value.none]) (ys := [V.non]) (t' := s2.toks) hq1 at1 (by simp) (.cons rfl .nil) (by rw [sizeLine_eq]; decide)
  obtain ⟨z1, its1, k1, rv1, e1, at2⟩ := I5.lstM upd_same
  obtain ⟨w1, rfl, _⟩ := rv1.one
  have one : (upd H2 q (.lst [V.non])) q = some (.lst [V.non]) := upd_same
  have I6 := I5.lset (f := fun xs => xs.pop) (its' := []) (ys := []) (t' := s2.toks) one at2 (by rfl) .nil (Nat.zero_le _)
  have same : upd (upd H2 q (.lst [V.non])) q (.lst []) = H2 := by
    rw [upd_upd]
    exact funext fun b => if hb : b = q then by rw [hb, upd_same, hq1] else upd_ne hb
  rw [same] at I6
  exact wpAny_updateSeq at2 rfl (wpAny_pure ⟨plainId_quiet F.plain_extend_loop _, out _ I6⟩) (by rw [sizeLine_eq]; simp) (by rw [sizeLine_eq]; simp)
end
end MX
end
section
/-! Watchers: walked. -/
namespace K1
open PySem L2
section
variable {P : Program} {w : World} {K : PySem.W.Frag} {mg : Str → Option Value} {base : Heap}
abbrev sWIt : Stmt := inClass (top 27) 2
structure TxtWIt (K : PySem.W.Frag) (mg : Str → Option Value) (CW : Addr) : Prop where
  cl : Cls K CW
  n_words : NoAttr K CW "_words"
  iter : mg "iter" = none
theorem scWIt : FnScope ["self"] ["self"] (defScope sWIt) := ⟨rfl, rfl, rfl, by decide +kernel, rfl, by decide +kernel, by decide +kernel⟩
def spWIt (CW : Addr) : Sp := fun vs H Q _ => ∃ (p dx wl : Addr) (fs : List (Str × V)) (zs : List V), vs = [.ref p] ∧ H p = some (.ins CW dx fs) ∧ fs.lookup ("_words" : Str) = some (.ref wl) ∧ H wl = some (.lst zs) ∧ ∀ it, H it = none → Q (.ref it) (upd H it (ItO wl it 0))
theorem ok_wIter {f CW : Addr} {fd : FuncData} (F : Fun K "__iter__" "Watcher.__iter__" sWIt f fd) (T : TxtWIt K mg CW) : FnOk P w K mg base CX0 1 f fd ["self"] (spWIt CW) := by
  refine F.ok scWIt (fun vs H Q E h => ?_) (fun cdv A outer s H vs Q E hr h => ?_)
  · obtain ⟨p, dx, wl, fs, zs, rfl, _⟩ := h
    rfl
  · obtain ⟨p, dx, wl, fs, zs, rfl, hp, lk, hw, k⟩ := h
    refine ⟨_, (pss_one (ps_ret (pe_callB call_iterL (by rfl) T.iter (by decide +kernel) (pa_cons (pe_fld (pv 0) rfl) pa_nil)))), ?_⟩
    exact ⟨_, rfl, p, CW, dx, fs, _, rfl, hp, T.cl, T.n_words, lk, wl, zs, rfl, SqL.of hw, k⟩
/-- list(watcher) -/
theorem list_wat {CO CW : Addr} {H : Hp} {p : Addr} {many : Int} {sts : List Stp} {ks ws : List Str} {v : V} {Q : VK} (W : WatAt P w CW CO H p many sts ks v ws) (few : ws.length ≤ 1000000)
    (k : ∀ q H', Off q H H' → H q = none → H' q = some (.lst (ws.map V.str)) → Q (.ref q) H') : MX.rListIt CW (spWIt CW) (spWLen P w CO CW) [.ref p] H Q := by
  obtain ⟨dx, fr, wl, oD, nD, hp, B⟩ := id W
  have hw := B.words
  refine ⟨p, dx, _, rfl, hp, fun q nq => ?_⟩
  have pq : p ≠ q := ne_of_none hp nq
  have lq : wl ≠ q := ne_of_none hw nq
  refine ⟨p, dx, wl, _, ws.map V.str, rfl, (upd_ne pq).trans hp, lk6.2.2.2.1, (upd_ne lq).trans hw, fun it nit => ?_⟩
  have iq : it ≠ q := fun z => by rw [z, upd_same] at nit; cases nit
  have nit2 : H it = none := by rw [upd_ne iq] at nit; exact nit
  have pi : p ≠ it := ne_of_none hp nit2
  have li : wl ≠ it := ne_of_none hw nit2
  have e1 : Same H (upd (upd H q (.lst [])) it (ItO wl it 0)) := fun b o z => by rw [upd_ne (ne_of_none z nit2), upd_ne (ne_of_none z nq)]; exact z
  refine ⟨it, wl, _, rfl, upd_same, e1 _ _ hw, by rw [upd_ne (Ne.symm iq), upd_same], e1 _ _ hp, lq, ?_, ?_⟩
  · rw [List.length_map, sizeLine_eq]; omega
  · refine ⟨p, many, sts, ks, ws, v, rfl, W.same e1, _, rfl, by omega, by omega, rfl, fun H3 hq rest => k q H3 (fun b o z n => ?_) nq hq⟩
    rw [rest b n (ne_of_none z nit2)]
    exact e1 _ _ z
end
end K1
end
section
/-! Marked steps go where the steps go. -/
namespace K1
open PySem L2
theorem in_marked {many : Int} {k : Str} {ss : List Stp} {t : Stp} (h : t ∈ ss) : (⟨t.a, Str.ofString "", t.s, if t.k = k then t.g + many else t.g⟩ : Stp) ∈ marked many k ss ∧ (⟨t.a + many, Str.ofString "", t.s, t.g + many⟩ : Stp) ∈ marked many k ss :=
  ⟨List.mem_flatMap.mpr ⟨t, h, List.mem_cons_self⟩, List.mem_flatMap.mpr ⟨t, h, List.mem_cons_of_mem _ List.mem_cons_self⟩⟩
/-- over a state: it, or it behind a fall -/
def Over (many x y : Int) : Prop := y = x ∨ y = x + many
theorem step_over {many : Int} {k : Str} {ss : List Stp} {t : Stp} {y : Int} (h : t ∈ ss) (o : Over many t.a y) : ∃ t' ∈ marked many k ss, t'.a = y ∧ t'.s = t.s ∧ Over many t.g t'.g := by
  rcases o with rfl | rfl
  · refine ⟨_, (in_marked (k := k) h).1, rfl, rfl, ?_⟩
    show Over many t.g (if t.k = k then t.g + many else t.g)
    split
    · exact .inr rfl
    · exact .inl rfl
  · exact ⟨_, (in_marked (k := k) h).2, rfl, rfl, .inr rfl⟩
theorem Un.over {many : Int} {k : Str} {ss : List Stp} {a b y : Int} (u : Un ss a b) (o : Over many a y) : ∃ z, Un (marked many k ss) y z ∧ Over many b z := by
  induction u with
  | refl => exact ⟨y, .refl, o⟩
  | step _ m e ih =>
    obtain ⟨z, uz, oz⟩ := ih
    obtain ⟨t', m', ea, es, og⟩ := step_over (k := k) m oz
    subst ea
    exact ⟨_, Un.step uz m' (es.trans e), og⟩
theorem spr_over {many : Int} {k : Str} {ss : List Stp} {ns ns' : List Int} (all : ∀ x ∈ ns, ∃ y ∈ ns', Over many x y) {x : Int} (h : x ∈ spr ss many ns) : ∃ y ∈ spr (marked many k ss) (2 * many) ns', Over many x y := by
  obtain ⟨⟨x0, x1⟩, a, ha, u⟩ := mem_spr.mp h
  obtain ⟨b, hb, o⟩ := all a ha
  obtain ⟨z, uz, oz⟩ := u.over (k := k) o
  refine ⟨z, mem_spr.mpr ⟨?_, b, hb, uz⟩, oz⟩
  rcases oz with e | e <;> omega
theorem seen_over {many : Int} {k : Str} {ss : List Stp} (ws : List Str) : ∀ x ∈ seen ss many ws, ∃ y ∈ seen (marked many k ss) (2 * many) ws, Over many x y := by
  have go : ∀ n (ws : List Str), ws.length = n → ∀ x ∈ seen ss many ws, ∃ y ∈ seen (marked many k ss) (2 * many) ws, Over many x y := by
    intro n
    induction n with
    | zero =>
      intro ws e x h
      rw [List.length_eq_zero_iff.mp e] at h ⊢
      exact spr_over (fun x hx => ⟨x, hx, .inl rfl⟩) h
    | succ n ih =>
      intro ws e x h
      rcases List.eq_nil_or_concat ws with z | ⟨us, w, z⟩
      · rw [z] at e; cases e
      · rw [z, List.concat_eq_append] at e h ⊢
        have l : us.length = n := by rw [List.length_append] at e; exact Nat.succ.inj e
        rw [seen_snoc] at h ⊢
        refine spr_over (fun g hg => ?_) h
        obtain ⟨t, tm, te, ta, tg⟩ := mem_goals.mp hg
        obtain ⟨y, hy, o⟩ := ih us l t.a ta
        obtain ⟨t', m', ea, es, og⟩ := step_over (k := k) tm o
        exact ⟨t'.g, mem_goals.mpr ⟨t', m', es.trans te, by rw [ea]; exact hy, rfl⟩, by rw [← tg]; exact og⟩
  exact go _ ws rfl
theorem seen_marked_pos {many : Int} {k : Str} {ss : List Stp} {ws : List Str} (h : 0 < (seen ss many ws).length) : 0 < (seen (marked many k ss) (2 * many) ws).length := by
  obtain ⟨x, hx⟩ := List.exists_mem_of_length_pos h
  obtain ⟨y, hy, _⟩ := seen_over (k := k) ws x hx
  exact List.length_pos_of_mem hy
theorem seen_none {many : Int} {ss : List Stp} {us : List Str} (h : (seen ss many us).length = 0) : ∀ vs : List Str, (seen ss many (us ++ vs)).length = 0 := by
  have go : ∀ n (vs : List Str), vs.length = n → (seen ss many (us ++ vs)).length = 0 := by
    intro n
    induction n with
    | zero => intro vs e; rw [List.length_eq_zero_iff.mp e, List.append_nil]; exact h
    | succ n ih =>
      intro vs e
      rcases List.eq_nil_or_concat vs with z | ⟨xs, w, z⟩
      · rw [z] at e; cases e
      · rw [z, List.concat_eq_append] at e ⊢
        have l : xs.length = n := by rw [List.length_append] at e; exact Nat.succ.inj e
        rw [← List.append_assoc, seen_snoc]
        have z0 : seen ss many (us ++ xs) = [] := List.length_eq_zero_iff.mp (ih xs l)
        rcases Nat.eq_zero_or_pos (aft ss many (seen ss many (us ++ xs)) w).length with c | c
        · exact c
        · obtain ⟨x, hx⟩ := List.exists_mem_of_length_pos c
          obtain ⟨_, a, ha, _⟩ := mem_spr.mp hx
          obtain ⟨t, _, _, ta, _⟩ := mem_goals.mp ha
          rw [z0] at ta
          exact absurd ta (by simp)
  exact fun vs => go _ vs rfl
end K1
end
section
/-! Watchers: they see. -/
namespace K1
open PySem L2
section
variable {P : Program} {w : World} {K : PySem.W.Frag} {mg : Str → Option Value} {base : Heap}
abbrev sSee : Stmt := inClass (top 27) 5
abbrev nSee : List Str := ["self", "words", "now", "told", "word", "kind", "states"]
structure TxtSee (K : PySem.W.Frag) (mg : Str → Option Value) (CO CW CN fA fV : Addr) : Prop where
  cl : Cls K CW
  n_about : NoAttr K CW "about"
  n_many : NoAttr K CW "_many"
  n_words : NoAttr K CW "_words"
  n_outlooks : NoAttr K CW "_outlooks"
  n_now : NoAttr K CW "_now"
  list : mg "list" = none
  g_verdict : mg "verdict" = some (.ref fV)
  k_verdict : PySem.W.keepIn K (.ref fV) = true
  cl_Outlook : Cls K CO
  m_after : Meth K CO "after" fA
  x_NotSeen : PySem.W.excIn K CN [.type "ValueError", .type "Exception", .type "BaseException", .type "object"] "ValueError.__new__" = true
  c_NotSeen : mg "NotSeen" = some (.ref CN)
  k_NotSeen : PySem.W.keepIn K (.ref CN) = true
  b_NotSeen : PySem.W.subIn K (.ref CN) (.type "BaseException") = some true
  t_NotSeen : PySem.W.typeIn K (.ref CN) = some (.type "type")
theorem scSee : FnScope nSee ["self", "words"] (defScope sSee) := ⟨rfl, rfl, rfl, by decide +kernel, rfl, by decide +kernel, by decide +kernel⟩
/-- the answer behind words for the kind that is asked for -/
noncomputable def answer (many : Int) (ss : List Stp) (v : V) (ws : List Str) : V := match v with
  | .str k => .str (tellOf many ss ws k)
  | _ => .non
noncomputable def answers (many : Int) (ss : List Stp) (v : V) (ws more : List Str) : List V := (List.range more.length).map fun i => answer many ss v (ws ++ more.take (i + 1))
def spSee (P : Program) (w : World) (CO CW CN : Addr) : Sp := fun vs H Q E => ∃ (p t : Addr) (many : Int) (sts : List Stp) (ks ws more : List Str) (v : V), vs = [.ref p, .ref t] ∧ WatAt P w CW CO H p many sts ks v ws ∧ H t = some (.tup (more.map V.str)) ∧ more.length ≤ 8 ∧ ws.length ≤ 100 ∧ (∀ x ∈ more, x ≠ Str.ofString "") ∧ (∀ s ∈ sts, OkS many s) ∧ 1 ≤ many ∧ many < 30 ∧ sts.length < 32 ∧ ks.length < 64 ∧ ks.Nodup ∧ aboutB ks v = true ∧ (v = .non ∨ ∃ x : Str, v = .str x) ∧ 0 < (seen (sts.filter (isOpen ks)) many ws).length ∧
  ((seen (sts.filter (isOpen ks)) many (ws ++ more)).length = 0 → ∀ H', Same H H' → E (.ref CN) none H') ∧
  (0 < (seen (sts.filter (isOpen ks)) many (ws ++ more)).length → ∀ H' l, Off p H H' → H l = none → WatAt P w CW CO H' p many sts ks v (ws ++ more) → H' l = some (.lst (answers many (sts.filter (isOpen ks)) v ws more)) → Q (.ref l) H')
theorem rd_lock {H : Hp} {n b : Addr} {u u' : HO} {od : Obj} (hn : H n = some u) (hb : H b = some u') : Rd (upd H n (.frz od u)) b u' := by
  rcases Decidable.em (b = n) with e | e
  · subst e
    rw [hn] at hb
    exact .inr ⟨od, by rw [upd_same, Option.some.inj hb]⟩
  · exact .inl (by rw [upd_ne e]; exact hb)
set_option maxHeartbeats 1000000 in
theorem ok_see {f CO CW CN fA fV : Addr} {fd fdA fdV : FuncData} (nO : CO ≠ CW) (F : Fun K "see" "Watcher.see" sSee f fd) (T : TxtSee K mg CO CW CN fA fV) (G_verdict : FnOk P w K mg base CX0 1 fV fdV ["states", "many"] spVer) (b_verdict : Binds K fdV ["states", "many"] [])
    (G_after : FnOk P w K mg base CX0 3 fA fdA ["self", "states", "word"] (spAfter CO)) (b_after : Binds K fdA ["self", "states", "word"] []) :
    FnR P w K mg base (L2.CX P w) 4 f (fun vs H Q E => ∃ v rest, vs = v :: rest ∧ rest.length ≤ 8 ∧ ∀ p, H p = none → spSee P w CO CW CN [v, .ref p] (upd H p (.tup rest)) Q E) := by
  obtain ⟨oc, od, kV, doc, pm, an, cdv, ct, osl, rfl, lk, hcd⟩ := F.ex
  refine fn_ofV lk hcd scSee (by rw [sizeLine_eq]; decide) (fun u rest h => match rest, h with
    | [], _ => rfl
    | [_], _ => rfl
    | [_, _], _ => rfl
    | [_, _, _], _ => rfl
    | [_, _, _, _], _ => rfl
    | [_, _, _, _, _], _ => rfl
    | [_, _, _, _, _, _], _ => rfl
    | [_, _, _, _, _, _, _], _ => rfl
    | [_, _, _, _, _, _, _, _], _ => rfl
    | _ :: _ :: _ :: _ :: _ :: _ :: _ :: _ :: _ :: r, h => absurd h (by simp only [List.length_cons]; omega)) MX.cxNew (fun A outer s H vs Q E hr h => ?_)
  obtain ⟨p, t, many, sts, ks, ws, more, v, rfl, W, ht, lm, lw, mne, oks, m1, m2, few, lks, ndk, inks, kind, pos0, kb, kg⟩ := h
  have nd := scSee.nd
  have hr_verdict : Room 1 _ := hr.mono (by decide)
  have hr_after : Room 3 _ := hr
  refine ⟨_, (pss_cons (ps_par (i := 2) (j := 3) (by rfl) nd rfl rfl (by decide) rfl rfl (pa_cons (pe_fld (pv 0) rfl) (pa_cons (pe_lst pa_nil) pa_nil)) (by rfl))
      (pss_cons (ps_for (by first | exact PassesOwn.never | exact passes_of rfl) rfl (pi_tup (pv 1)) (pg_name (i := 4) nd rfl (Or.inr rfl))
        (pss_cons (ps_lock (MX.ps_setDcN (i := 2) (own := [("kind", 5), ("states", 6)]) (by rfl) nd rfl rfl (MX.sw_dict rfl rfl rfl (by decide +kernel)) (MX.pi_itN (pv 2)) (blkOk_by (N := nSee) (sc := defScope sSee) (by decide +kernel)) (fun _ _ _ _ _ => (pg_tupK (K := K) (n := 2) rfl rfl (pgs_cons (pg_name (i := 5) nd rfl (Or.inl rfl)) (pgs_cons (pg_name (i := 6) nd rfl (Or.inl rfl)) pgs_nil)))) (fun _ _ _ _ _ => pts_nil) (fun _ _ _ _ _ => (pv 5)) (fun _ _ _ _ _ => (pe_meth (MX.pe_getNK (P := P) (w := w) rfl rfl (pe_fldK (K := K) rfl (pv 0) rfl) (pv 5) (fun _ _ => rfl)) T.cl_Outlook T.m_after G_after hr_after b_after .nil pass0 (pa_cons (pv 6) (pa_cons (pv 4) pa_nil))))))
        (pss_cons (ps_if (pt_not (pt_truth (MX.pe_getN (pv 2) pe_non (fun _ _ => rfl)) (by intro _; rfl)))
          (pss_one (ps_raise rfl (takes_of rfl rfl rfl rfl) (pmk_own PySem.F.excBase_ValueError T.x_NotSeen T.c_NotSeen T.k_NotSeen (raises_own T.b_NotSeen T.t_NotSeen) (by rfl))))
          pss_nil)
        (pss_one (ps_expr (pe_bm PySem.F.plainAttrs_list PySem.F.slot_list_append PySem.F.type_list_append mt_append (pv 3) (pa_cons (pe_ifExp (pt_cmpR op_isN (pe_fld (pv 0) rfl) pe_non (nomark _)) pe_non (pe_call G_verdict hr_verdict (by rfl) T.g_verdict T.k_verdict b_verdict .nil pass0 (pa_cons (MX.pe_getN (pv 2) (pe_fld (pv 0) rfl) (fun _ _ => rfl)) (pa_cons (pe_fld (pv 0) rfl) pa_nil)))) pa_nil)))))))
      (pss_cons (ps_asg (pe_tup (pa_cons (pv 2) (pa_cons (pe_op op_cat (pe_fld (pv 0) rfl) (pe_callTy call_list_of (by rfl) T.list (by decide +kernel) (pa_cons (pv 1) pa_nil))) pa_nil))) (pg_tup rfl (pgs_cons (MX.pg_atr (pv 0)) (pgs_cons (MX.pg_atr (pv 0)) pgs_nil))))
      (pss_one (ps_ret (pv 3)))))), ?_⟩
  obtain ⟨dx, fr, wl, oD, nD, hp, B⟩ := W
  obtain ⟨os, hO, outs⟩ := B.outs
  obtain ⟨ts0, hN0, nows0⟩ := B.nows
  have hfr := B.free
  have hwl := B.words
  have okf : ∀ s ∈ sts.filter (isOpen ks), OkS many s := fun s hs => oks s (List.mem_filter.mp hs).1
  have lf : (sts.filter (isOpen ks)).length ≤ sts.length := List.length_filter_le ..
  obtain ⟨ss, ess⟩ : ∃ x, x = sts.filter (isOpen ks) := ⟨_, rfl⟩
  rw [← ess] at okf lf pos0 kb kg outs nows0
  have okm : ∀ k, k ∈ keysW ks → ∀ t ∈ stepsW many ss k, OkS (manyW many k) t := fun k hk => by
    match k with
    | none => exact okf
    | some (.inr x) => exact ok_marks okf m1
    | some (.inl i) => exact fun t h => absurd h (by simp [stepsW])
  have sm : ∀ k, 1 ≤ manyW many k ∧ manyW many k < 60 := fun k => by
    match k with
    | none => exact ⟨m1, by show many < 60; omega⟩
    | some k => exact ⟨by show 1 ≤ 2 * many; omega, by show 2 * many < 60; omega⟩
  refine into ⟨_, rfl, p, CW, dx, _, _, rfl, hp, T.cl, T.n_now, lk6.2.2.2.2.2, Nat.zero_le _, fun tl nl => ⟨_, _, rfl, ?_⟩⟩
  have e0 : Same H (upd H tl (.lst [])) := same_new nl
  refine into ⟨_, rfl, t, rfl, ⟨_, SqT.of (e0 _ _ ht)⟩, for_tup (K := K) (a := t) (xs := more.map V.str)
    (fun i σ H' => ∃ (n : Addr) (ts : List Addr) (v4 v5 v6 : Option V), σ = [some (.ref p), some (.ref t), some (.ref n), some (.ref tl), v4, v5, v6] ∧ H' n = some (MX.DictNO P w n (dW ks ts)) ∧ Each ks ts (fun k a => H' a = some (.tup ((seen (stepsW many ss k) (manyW many k) (ws ++ more.take i)).map V.int))) ∧
      H' tl = some (.lst ((List.range i).map fun j => answer many ss v (ws ++ more.take (j + 1)))) ∧ Same H H' ∧ 0 < (seen ss many (ws ++ more.take i)).length)
    ⟨nD, ts0, none, none, none, rfl, e0 _ _ hN0, Paired.mapP nows0 fun k a h => by rw [List.take_zero, List.append_nil]; exact e0 _ _ h, upd_same, e0, by rw [List.take_zero, List.append_nil]; exact pos0⟩ (fun i σ H' _ ⟨_, _, _, _, _, _, _, _, _, e, _⟩ => SqT.of (e _ _ ht)) ?_ ?_⟩
  · rintro i x σ H1 hx ⟨n, ts, v4, v5, v6, rfl, hn, nows, htl, e1, pos⟩
    obtain ⟨q, hq, rfl⟩ := str_at hx
    have li : i < more.length := (List.getElem?_eq_some_iff.mp hq).1
    have qne := mne q (List.mem_of_getElem? hq)
    have snoc : ∀ {ss' : List Stp} {m' : Int}, seen ss' m' (ws ++ more.take (i + 1)) = aft ss' m' (seen ss' m' (ws ++ more.take i)) q := fun {ss' m'} => by
      rw [List.take_add_one, hq, ← List.append_assoc]
      exact seen_snoc _ _
    have ntn : tl ≠ n := ne_of htl hn (by intro y; cases y)
    refine into ⟨n, _, hn, trivial, fun od => ?_⟩
    have f2 : Fi CW H1 (upd H1 n (.frz od (MX.DictNO P w n (dW ks ts)))) := Fi.off hn (fun z => z) Off.upd
    have o12 : Off n H1 (upd H1 n (.frz od (MX.DictNO P w n (dW ks ts)))) := Off.upd
    have hn2 : (upd H1 n (.frz od (MX.DictNO P w n (dW ks ts)))) n = some (.frz od (MX.DictNO P w n (dW ks ts))) := upd_same
    have rdO : Rd (upd H1 n (.frz od (MX.DictNO P w n (dW ks ts)))) oD (MX.DictNO P w oD (dW ks os)) := rd_lock hn (e1 _ _ hO)
    have npn : p ≠ n := ne_of (e1 _ _ hp) hn (by intro y; cases y)
    have hp2 := o12 _ _ (e1 _ _ hp) npn
    have nows2 := Paired.mapP nows fun k a h => f2 _ _ h trivial
    have outs2 : Each ks os fun k o => OutAt CO (upd H1 n (.frz od (MX.DictNO P w n (dW ks ts)))) o (manyW many k) (stepsW many ss k) := Paired.mapP outs fun k o h => (h.same e1).fi nO f2
    generalize eH2 : upd H1 n (.frz od (MX.DictNO P w n (dW ks ts))) = H2 at f2 o12 hn2 rdO hp2 nows2 outs2
    refine ⟨_, rfl, n, od, dW ks ts, rfl, hn2, fun D hD => gather_itN (fun j H' => ∃ as : List Addr, as.length = j ∧ H' D = some (MX.DictNO P w D (((keysW ks).take j).zip (as.map V.ref))) ∧
      PySem.Paired (fun k a => H' a = some (.tup ((seen (stepsW many ss k) (manyW many k) (ws ++ more.take (i + 1))).map V.int))) ((keysW ks).take j) as ∧ Same H2 H') ⟨[], rfl, upd_same, .nil, same_new hD⟩ (fun j H' _ ⟨_, _, _, _, e⟩ => e _ _ hn2) ?_ ?_⟩
    · rintro j k vv H3 T1 ekv ⟨as, la, hD3, new3, e3⟩ free1
      obtain ⟨a, hk, ha, rfl⟩ : ∃ a, (keysW ks)[j]? = some k ∧ ts[j]? = some a ∧ vv = V.ref a := by
        unfold dW at ekv
        rw [List.getElem?_zip_eq_some, List.getElem?_map] at ekv
        obtain ⟨h1, h2⟩ := ekv
        cases c : ts[j]? with
        | none => rw [c] at h2; cases h2
        | some o => rw [c] at h2; exact ⟨o, h1, rfl, (Option.some.inj h2).symm⟩
      have km := List.mem_of_getElem? hk
      have sk := sm k
      obtain ⟨o, vo, outo, _⟩ := dW_at ndk outs2 hk
      have hna : H2 a = some (.tup ((seen (stepsW many ss k) (manyW many k) (ws ++ more.take i)).map V.int)) := by
        obtain ⟨a', ha', h⟩ := paired_get nows2 hk
        rw [ha] at ha'
        cases ha'
        exact h
      have e4 : Same H2 (upd H3 T1 (.tup [MX.nV k, .ref a])) := e3.trans (same_new free1)
      obtain ⟨dxo, _, _, _, _, hOo, _⟩ := id (OutAt.same e4 outo)
      have rd4 : Rd (upd H3 T1 (.tup [MX.nV k, .ref a])) oD (MX.DictNO P w oD (dW ks os)) := rdO.imp (fun h => e4 _ _ h) fun ⟨o', h⟩ => ⟨o', e4 _ _ h⟩
      refine ⟨T1, _, rfl, SqT.of upd_same, rfl, _, _, rfl, _, _, rfl, rfl, rfl, ?_⟩
      refine ⟨_, rfl, _, rfl, p, CW, dx, _, _, rfl, e4 _ _ hp2, T.cl, T.n_outlooks, lk6.2.2.2.2.1, _, rfl, oD, dW ks os, k, .ref o, rfl, rfl, rd4, vo, o, dxo, _, rfl, hOo, oFlds_no (by decide +kernel), ?_⟩
      refine ⟨_, rfl, _, rfl, o, a, manyW many k, _, _, q, rfl, OutAt.same e4 outo, okm k km, sk.2, e4 _ _ hna, asc_nodup (seen_asc _), seen_inr _, qne, fun H5 b e5 hb => ?_⟩
      have e35 : Same H3 H5 := (same_new free1).trans e5
      have hD5 := e35 _ _ hD3
      have f6 : Fi CW H5 (upd H5 D (MX.DictNO P w D (putK (((keysW ks).take j).zip (as.map V.ref)) k (.ref b)))) := Fi.off hD5 (fun z => z) Off.upd
      refine ⟨_, k, rfl, hD5, ?_, as ++ [b], by rw [List.length_append, la]; rfl, ?_, ?_, ?_⟩
      · rw [List.length_zip, List.length_map, la, sizeLine_eq]
        have := keysW_len (ks := ks)
        have : j < (keysW ks).length := (List.getElem?_eq_some_iff.mp hk).1
        omega
      · rw [upd_same, put_next (keysW_nodup ndk) hk la b]; rfl
      · exact paired_snoc hk (Paired.mapP new3 fun k' a' h => f6 _ _ (e35 _ _ h) trivial) (f6 _ _ (by rw [snoc]; exact hb) trivial)
      · exact fun b' o' z => by rw [upd_ne (ne_of_none z hD)]; exact e35 _ _ (e3 _ _ z)
    · rintro H3 ⟨as, la, hD3, new3, e3⟩
      have lk0 : ts.length = ks.length + 1 := by rw [Each.length nows, keysW_len]
      have ld : (dW ks ts).length = ks.length + 1 := by
        unfold dW
        rw [List.length_zip, List.length_map, keysW_len, lk0, Nat.min_self]
      have allk : (keysW ks).take (ks.length + 1) = keysW ks := by rw [← keysW_len]; exact List.take_length
      rw [ld, allk] at hD3 new3
      have hn3 := e3 _ _ hn2
      have nDn : D ≠ n := fun z => by rw [z, hn2] at hD; cases hD
      have nDtl : D ≠ tl := fun z => by
        have y := o12 _ _ htl ntn
        rw [← z, hD] at y; cases y
      refine ⟨hn3, ?_⟩
      have f4 : Fi CW H3 (upd H3 n (MX.DictNO P w n (dW ks ts))) := Fi.off hn3 (fun z => z) Off.upd
      have hD4 : (upd H3 n (MX.DictNO P w n (dW ks ts))) D = some (MX.DictNO P w D (dW ks as)) := by rw [upd_ne nDn]; exact hD3
      have new4 : Each ks as fun k a => (upd H3 n (MX.DictNO P w n (dW ks ts))) a = some (.tup ((seen (stepsW many ss k) (manyW many k) (ws ++ more.take (i + 1))).map V.int)) := Paired.mapP new3 fun k a h => f4 _ _ h trivial
      have htl4 : (upd H3 n (MX.DictNO P w n (dW ks ts))) tl = some (.lst ((List.range i).map fun j => answer many ss v (ws ++ more.take (j + 1)))) := by rw [upd_ne ntn]; exact e3 _ _ (o12 _ _ htl ntn)
      have e14 : Same H1 (upd H3 n (MX.DictNO P w n (dW ks ts))) := fun b o z => by
        rcases Decidable.em (b = n) with c | c
        · rw [c, hn] at z
          rw [c, upd_same]; exact z
        · rw [upd_ne c]; exact e3 _ _ (o12 _ _ z c)
      generalize upd H3 n (MX.DictNO P w n (dW ks ts)) = H4 at hD4 new4 htl4 e14
      have e4 := e1.trans e14
      obtain ⟨a, va, ha, _⟩ := dW_at ndk new4 keysW_last
      refine into ⟨_, rfl, D, dW ks as, none, .ref a, rfl, rfl, .inl hD4, va, _, .inr (.inl ⟨_, SqT.of ha, rfl⟩), ?_⟩
      show (if (!(!(List.map V.int (seen ss many (ws ++ more.take (i + 1)))).isEmpty)) = true then _ else _)
      have hp4 := e4 _ _ hp
      rcases Nat.eq_zero_or_pos (seen ss many (ws ++ more.take (i + 1))).length with c | c
      · rw [List.length_eq_zero_iff.mp c]
        refine iteT (kb ?_ _ e4)
        have z := seen_none c (more.drop (i + 1))
        rw [List.append_assoc, List.take_append_drop] at z
        exact z
      · have ne : (List.map V.int (seen ss many (ws ++ more.take (i + 1)))).isEmpty = false := by
          cases z : seen ss many (ws ++ more.take (i + 1)) with
          | nil => rw [z] at c; exact absurd c (by simp)
          | cons x xs => rfl
        rw [ne]
        have lans : ((List.range i).map fun j => answer many ss v (ws ++ more.take (j + 1))).length < sizeLine := by rw [List.length_map, List.length_range, sizeLine_eq]; omega
        -- behind the answer
        have fin : ∀ a : V, a = answer many ss v (ws ++ more.take (i + 1)) → ∃ (n : Addr) (ts : List Addr) (u4 u5 u6 : Option V), [some (V.ref p), some (V.ref t), some (V.ref D), some (V.ref tl), some (V.str q), v5, v6] = [some (V.ref p), some (V.ref t), some (V.ref n), some (V.ref tl), u4, u5, u6] ∧ (upd H4 tl (.lst (((List.range i).map fun j => answer many ss v (ws ++ more.take (j + 1))) ++ [a]))) n = some (MX.DictNO P w n (dW ks ts)) ∧
            Each ks ts (fun k b => (upd H4 tl (.lst (((List.range i).map fun j => answer many ss v (ws ++ more.take (j + 1))) ++ [a]))) b = some (.tup ((seen (stepsW many ss k) (manyW many k) (ws ++ more.take (i + 1))).map V.int))) ∧
            (upd H4 tl (.lst (((List.range i).map fun j => answer many ss v (ws ++ more.take (j + 1))) ++ [a]))) tl = some (.lst ((List.range (i + 1)).map fun j => answer many ss v (ws ++ more.take (j + 1)))) ∧ Same H (upd H4 tl (.lst (((List.range i).map fun j => answer many ss v (ws ++ more.take (j + 1))) ++ [a]))) ∧ 0 < (seen ss many (ws ++ more.take (i + 1))).length := fun a ea => by
          refine ⟨D, as, _, _, _, rfl, by rw [upd_ne nDtl]; exact hD4, Paired.mapP new4 fun k b h => by rw [upd_ne (ne_of h htl4 (by intro y; cases y))]; exact h, ?_, fun b o z => by rw [upd_ne (ne_of_none z nl)]; exact e4 _ _ z, c⟩
          rw [upd_same, List.range_succ, List.map_append, ea]; rfl
        refine iteF ⟨_, rfl, .inl ⟨rfl, _, SqL.of htl4⟩, _, rfl, p, CW, dx, _, _, rfl, hp4, T.cl, T.n_about, lk6.1, rfl, _, rfl, ?_⟩
        rcases kind with rfl | ⟨kx, rfl⟩
        · exact iteT ⟨tl, _, _, rfl, rfl, htl4, lans, fin _ rfl⟩
        · have kin : kx ∈ ks := of_decide_eq_true inks
          obtain ⟨ix, hix⟩ := List.getElem?_of_mem kin
          obtain ⟨a', va', ha', _⟩ := dW_at ndk new4 (keysW_at hix)
          exact iteF ⟨_, rfl, _, rfl, p, CW, dx, _, _, rfl, hp4, T.cl, T.n_about, lk6.1, D, dW ks as, some (Sum.inr kx), .ref a', rfl, rfl, .inl hD4, va', _, rfl, p, CW, dx, _, _, rfl, hp4, T.cl, T.n_many, lk6.2.1, a', _, many, rfl, ha', seen_marked_pos c, tl, _, _, rfl, rfl, htl4, lans, fin _ rfl⟩
  · rintro σ H1 ⟨n, ts, v4, v5, v6, rfl, hn, nows, htl, e1, pos⟩
    rw [List.length_map, List.take_length] at nows pos
    rw [List.length_map] at htl
    have hp1 := e1 _ _ hp
    have ht1 := e1 _ _ ht
    have hw1 := e1 _ _ hwl
    dsimp only
    refine into ⟨_, rfl, _, rfl, p, CW, dx, _, _, rfl, hp1, T.cl, T.n_words, lk6.2.2.2.1, _, rfl, t, _, rfl, .inr (SqT.of ht1), fun l1 nl1 => ?_⟩
    have w1l : wl ≠ l1 := fun z => by rw [z, nl1] at hw1; cases hw1
    refine ⟨wl, l1, ws.map V.str, more.map V.str, rfl, rfl, by rw [upd_ne w1l]; exact hw1, upd_same, by rw [List.length_map, List.length_map, sizeLine_eq]; omega, fun l2 nl2 => ⟨by show 2 ≤ sizeLine; decide, fun T3 nT3 => ?_⟩⟩
    have l21 : l2 ≠ l1 := fun z => by rw [z, upd_same] at nl2; cases nl2
    have nl2' : H1 l2 = none := by rw [upd_ne l21] at nl2; exact nl2
    have t32 : T3 ≠ l2 := fun z => by rw [z, upd_same] at nT3; cases nT3
    have t31 : T3 ≠ l1 := fun z => by rw [z, upd_ne (Ne.symm l21), upd_same] at nT3; cases nT3
    have nT3' : H1 T3 = none := by rw [upd_ne t32, upd_ne t31] at nT3; exact nT3
    have e15 : Same H1 (upd (upd (upd H1 l1 (.lst (more.map V.str))) l2 (.lst (ws.map V.str ++ more.map V.str))) T3 (.tup [V.ref n, V.ref l2])) := fun b o z => by
      rw [upd_ne (ne_of_none z nT3'), upd_ne (ne_of_none z nl2'), upd_ne (ne_of_none z nl1)]; exact z
    have hl2 : (upd (upd (upd H1 l1 (.lst (more.map V.str))) l2 (.lst (ws.map V.str ++ more.map V.str))) T3 (.tup [V.ref n, V.ref l2])) l2 = some (.lst ((ws ++ more).map V.str)) := by
      rw [upd_ne (Ne.symm t32), upd_same, List.map_append]
    refine ⟨T3, _, rfl, SqT.of upd_same, rfl, ?_⟩
    generalize upd (upd (upd H1 l1 (.lst (more.map V.str))) l2 (.lst (ws.map V.str ++ more.map V.str))) T3 (.tup [V.ref n, V.ref l2]) = H5 at e15 hl2
    have hp5 := e15 _ _ hp1
    refine ⟨_, _, rfl, _, rfl, p, CW, dx, _, rfl, hp5, T.cl, T.n_now, (show (6 : Nat) < 1000 by decide), ?_⟩
    refine ⟨_, _, rfl, _, rfl, p, CW, dx, _, rfl, upd_same, T.cl, T.n_words, (show (6 : Nat) < 1000 by decide), rfl, ?_⟩
    refine ⟨_, rfl, ?_⟩
    have o56 : Off p H5 (upd (upd H5 p (.ins CW dx (putF "_now" (.ref n) (w6 v many fr wl oD nD)))) p (.ins CW dx (putF "_words" (.ref l2) (putF "_now" (.ref n) (w6 v many fr wl oD nD))))) := fun b o z ne => by rw [upd_ne ne, upd_ne ne]; exact z
    have hp6 : (upd (upd H5 p (.ins CW dx (putF "_now" (.ref n) (w6 v many fr wl oD nD)))) p (.ins CW dx (putF "_words" (.ref l2) (putF "_now" (.ref n) (w6 v many fr wl oD nD))))) p = some (.ins CW dx (w6 v many fr l2 oD n)) := by rw [upd_same]; rfl
    dsimp only
    refine kg pos _ tl (fun b o z ne => o56 _ _ (e15 _ _ (e1 _ _ z)) ne) nl ?_ ?_
    · generalize upd (upd H5 p (.ins CW dx (putF "_now" (.ref n) (w6 v many fr wl oD nD)))) p (.ins CW dx (putF "_words" (.ref l2) (putF "_now" (.ref n) (w6 v many fr wl oD nD)))) = H6 at o56 hp6
      have f6 : Fi CW H5 H6 := Fi.off hp5 (fun z => z rfl) o56
      have f1 : Fi CW H H6 := ((Fi.of e1).trans (Fi.of e15)).trans f6
      have dp : ∀ {d : Addr} {φ}, H5 d = some (HO.ext φ) → H6 d = some (HO.ext φ) := fun {d φ} z => o56 _ _ z (ne_of z hp5 (by intro y; cases y))
      refine ⟨dx, fr, l2, oD, n, hp6, f1 _ _ hfr trivial, f6 _ _ hl2 trivial, ⟨os, dp (e15 _ _ (e1 _ _ hO)), ?_⟩, ts, dp (e15 _ _ hn), ?_⟩
      · rw [← ess]
        exact Paired.mapP outs fun k o h => h.fi nO f1
      · rw [← ess]
        exact Paired.mapP nows fun k a h => f6 _ _ (e15 _ _ h) trivial
    · rw [o56 _ _ (e15 _ _ htl) (ne_of (e15 _ _ htl) hp5 (by intro y; cases y))]; rfl
end
end K1
end
section
/-! Watchers called, and made for one trace. -/
namespace K1
open PySem L2
section
variable {P : Program} {w : World} {K : PySem.W.Frag} {mg : Str → Option Value} {base : Heap}
abbrev SeeR (P : Program) (w : World) (CO CW CN : Addr) : List V → Hp → VK → XK → Prop := fun vs H Q E => ∃ v rest, vs = v :: rest ∧ rest.length ≤ 8 ∧ ∀ p, H p = none → spSee P w CO CW CN [v, .ref p] (upd H p (.tup rest)) Q E
theorem w6_no {v : V} {many : Int} {fr wl oD nD : Addr} : (w6 v many fr wl oD nD).lookup ("see" : Str) = none ∧ (w6 v many fr wl oD nD).lookup ("known" : Str) = none ∧ (w6 v many fr wl oD nD).lookup ("ask" : Str) = none := by
  refine ⟨?_, ?_, ?_⟩ <;> rfl
abbrev sCl : Stmt := inClass (top 27) 3
structure TxtCl (K : PySem.W.Frag) (CW fS : Addr) : Prop where
  cl_Watcher : Cls K CW
  m_see : Meth K CW "see" fS
theorem scCl : FnScope ["self", "word"] ["self", "word"] (defScope sCl) := ⟨rfl, rfl, rfl, by decide +kernel, rfl, by decide +kernel, by decide +kernel⟩
def spCl (P : Program) (w : World) (CO CW CN : Addr) : Sp := fun vs H Q E => ∃ (p : Addr) (many : Int) (sts : List Stp) (ks ws : List Str) (q : Str) (v : V), vs = [.ref p, .str q] ∧ WatAt P w CW CO H p many sts ks v ws ∧ ws.length ≤ 100 ∧ q ≠ Str.ofString "" ∧ (∀ s ∈ sts, OkS many s) ∧ 1 ≤ many ∧ many < 30 ∧ sts.length < 32 ∧ ks.length < 64 ∧ ks.Nodup ∧ aboutB ks v = true ∧ (v = .non ∨ ∃ x : Str, v = .str x) ∧ 0 < (seen (sts.filter (isOpen ks)) many ws).length ∧
  ((seen (sts.filter (isOpen ks)) many (ws ++ [q])).length = 0 → ∀ H', Same H H' → E (.ref CN) none H') ∧
  (0 < (seen (sts.filter (isOpen ks)) many (ws ++ [q])).length → ∀ H', Off p H H' → WatAt P w CW CO H' p many sts ks v (ws ++ [q]) → Q (answer many (sts.filter (isOpen ks)) v (ws ++ [q])) H')
theorem ok_call {f CO CW CN fS : Addr} {fd : FuncData} (F : Fun K "__call__" "Watcher.__call__" sCl f fd) (T : TxtCl K CW fS) (G_see : FnR P w K mg base (L2.CX P w) 4 fS (SeeR P w CO CW CN)) : FnOk P w K mg base (L2.CX P w) 5 f fd ["self", "word"] (spCl P w CO CW CN) := by
  refine F.okX scCl (fun vs H Q E h => ?_) (fun cdv A outer s H vs Q E hr h => ?_)
  · obtain ⟨p, many, sts, ks, ws, q, v, rfl, _⟩ := h
    rfl
  · obtain ⟨p, many, sts, ks, ws, q, v, rfl, W, lw, qne, oks, m1, m2, few, lks, ndk, inks, kind, pos0, kb, kg⟩ := h
    have hr_see : Room 4 _ := hr
    refine ⟨_, (pss_one (ps_ret (pe_ix ix_list (MX.pe_methP (Es := fun _ => E) (pv 0) T.cl_Watcher T.m_see G_see hr_see (fun σ => passAt (takes_of rfl rfl rfl rfl) σ) (pa_cons (pv 1) pa_nil)) pe_int (fun _ _ => rfl)))), ?_⟩
    obtain ⟨dx, fr, wl, oD, nD, hp, B⟩ := id W
    refine ⟨_, rfl, p, dx, _, rfl, hp, w6_no.1, _, rfl, _, _, rfl, (show 1 ≤ 8 by decide), fun t nt => ?_⟩
    have e : Same H (upd H t (.tup [V.str q])) := same_new nt
    refine ⟨p, t, many, sts, ks, ws, [q], v, rfl, W.same e, upd_same, (show 1 ≤ 8 by decide), lw, fun x hx => by rw [List.mem_singleton.mp hx]; exact qne, oks, m1, m2, few, lks, ndk, inks, kind, pos0, fun c H' e' => kb c H' (e.trans e'), fun c H' l off nl W' hl => ?_⟩
    refine ⟨l, _, _, _, rfl, rfl, SqL.of hl, atI_nat (j := 0) rfl, ?_⟩
    exact kg c H' (fun b o z ne => off _ _ (e _ _ z) ne) W'
abbrev sWt : Stmt := top 26
abbrev nWt : List Str := ["machine", "trace", "free", "watcher"]
structure TxtWt (K : PySem.W.Frag) (mg : Str → Option Value) (CW fS fK : Addr) : Prop where
  cl_Watcher : Cls K CW
  c_Watcher : mg "Watcher" = some (.ref CW)
  b_see : BMeth K CW "see" fS
  m_known : Meth K CW "known" fK
theorem scWt : FnScope nWt ["machine", "trace", "free"] (defScope sWt) := ⟨rfl, rfl, rfl, by decide +kernel, rfl, by decide +kernel, by decide +kernel⟩
theorem about_ok {ks : List Str} : aboutB ks (aboutOf ks .non) = true ∧ (aboutOf ks .non = .non ∨ ∃ x : Str, aboutOf ks .non = .str x) := by
  cases ks with
  | nil => exact ⟨rfl, .inl rfl⟩
  | cons x xs => exact ⟨decide_eq_true List.mem_cons_self, .inr ⟨x, rfl⟩⟩
theorem seen_first {ss : List Stp} {many : Int} (m1 : 1 ≤ many) : 0 < (seen ss many []).length :=
  List.length_pos_of_mem (mem_spr.mpr ⟨⟨Int.le_refl 0, by omega⟩, 0, List.mem_singleton.mpr rfl, .refl⟩ : (0 : Int) ∈ spr ss many [0])
def spWt (P : Program) (w : World) (C : Addr) : Sp := fun vs H Q _ => ∃ (m tr fr : Addr) (many : Int) (sts : List Stp) (ks ws : List Str), vs = [.ref m, .ref tr, .ref fr] ∧ MachAt C H m many sts ∧ (∀ s ∈ sts, OkS many s) ∧ 1 ≤ many ∧ many < 30 ∧ sts.length < 32 ∧ H tr = some (.lst (ws.map V.str)) ∧ ws.length ≤ 8 ∧ (∀ x ∈ ws, x ≠ Str.ofString "") ∧
  H fr = some (.tup (ks.map V.str)) ∧ ks.length < 64 ∧ Asc ks ∧ (∀ x ∈ ks, wordS x = true) ∧ 0 < (seen (sts.filter (isOpen ks)) many ws).length ∧
  ∀ H' D, Same H H' → H D = none → H' D = some (MX.DictNO P w D (tellsW many (sts.filter (isOpen ks)) ks ws)) → Q (.ref D) H'
theorem ok_watch {f C CO CW CS CN fI fS fK : Addr} {fd fdI fdK : FuncData} {ds : List Value} (F : Fun K "watch" "watch" sWt f fd) (T : TxtWt K mg CW fS fK) (M_Watcher : Mk K CW fI) (G_Watcher : FnOk P w K mg base (L2.CX P w) 4 fI fdI ["self", "machine", "free", "about"] (spWInit P w K C CO CW CS))
    (b_Watcher : Binds K fdI ["self", "machine", "free", "about"] ds) (v_Watcher : Vals [V.non] ds) (G_see : FnR P w K mg base (L2.CX P w) 4 fS (SeeR P w CO CW CN)) (G_known : FnOk P w K mg base CX0 2 fK fdK ["self"] (spKn P w CO CW)) (b_known : Binds K fdK ["self"] []) :
    FnOk P w K mg base CX0 6 f fd ["machine", "trace", "free"] (spWt P w C) := by
  refine F.ok scWt (fun vs H Q E h => ?_) (fun cdv A outer s H vs Q E hr h => ?_)
  · obtain ⟨m, tr, fr, many, sts, ks, ws, rfl, _⟩ := h
    rfl
  · obtain ⟨m, tr, fr, many, sts, ks, ws, rfl, M, oks, m1, m2, few, htr, lw, wne, hfr, lks, asc, okk, pos, k⟩ := h
    have nd := scWt.nd
    have hr_Watcher : Room 5 _ := hr
    have hr_see : Room 4 _ := hr.mono (by decide)
    have hr_known : Room 2 _ := hr.mono (by decide)
    refine ⟨_, (pss_cons (ps_set (i := 3) nd rfl (Or.inl rfl) (pe_make M_Watcher G_Watcher hr_Watcher (by rfl) T.c_Watcher b_Watcher v_Watcher passL (pa_cons (pv 0) (pa_cons (pv 2) pa_nil))))
      (pss_cons (ps_expr (MX.pe_methS (pv 3) T.cl_Watcher T.b_see G_see hr_see passL (pv 1)))
      (pss_one (ps_ret (pe_meth0 (pv 3) T.cl_Watcher T.m_known G_known hr_known b_known .nil pass0))))), ?_⟩
    refine into ⟨_, rfl, _, rfl, fun x dx nx ndx nex => ?_⟩
    have e1 : Same H (upd (upd H dx (.own x)) x (.ins CW dx [])) := fun b o z => by
      rw [upd_ne (ne_of_none z nx), upd_ne (ne_of_none z ndx)]; exact z
    refine ⟨x, dx, m, fr, many, sts, ks, .non, rfl, upd_same, M.same e1, oks, m1, m2, few, e1 _ _ hfr, lks, asc, okk, .inl rfl, (fun c => by cases c), fun _ H1 off W => ⟨rfl, ?_⟩⟩
    have e2 : Same H H1 := fun b o z => off _ _ (e1 _ _ z) (ne_of_none z nx)
    obtain ⟨_, _, _, _, _, hx1, _⟩ := id W
    dsimp only
    refine into ⟨_, rfl, x, _, _, rfl, hx1, w6_no.1, fun b nb => ?_⟩
    have e3 : Same H1 (upd H1 b (.met fS x)) := same_new nb
    refine ⟨_, rfl, tr, ws.map V.str, rfl, .inr (SqL.of (e3 _ _ (e2 _ _ htr))), upd_same, _, _, rfl, by rw [List.length_map]; exact lw, fun t nt => ?_⟩
    have e4 : Same H1 (upd (upd H1 b (.met fS x)) t (.tup (ws.map V.str))) := e3.trans (same_new nt)
    refine ⟨x, t, many, sts, ks, [], ws, aboutOf ks .non, rfl, W.same e4, upd_same, lw, (show 0 ≤ 100 by decide), wne, oks, m1, m2, few, lks, asc_nd asc, about_ok.1, about_ok.2, seen_first m1, fun c => absurd pos (by rw [List.nil_append] at c; omega), fun _ H5 l off5 nl W5 _ => ?_⟩
    rw [List.nil_append] at W5
    obtain ⟨_, _, _, _, _, hx5, _⟩ := id W5
    have e5 : Same H H5 := fun b' o z => off5 _ _ (e4 _ _ (e2 _ _ z)) (ne_of_none z nx)
    refine ⟨_, rfl, x, _, _, rfl, hx5, w6_no.2.1, x, many, sts, ks, ws, _, rfl, W5, lks, asc_nd asc, fun k' _ => seen_marked_pos pos, fun H6 D e6 nD hD => ?_⟩
    exact k H6 D (e5.trans e6) (e5.free nD) hD
end
end K1
end
section
/-! Within a try: an instance called, an instance made with keywords. -/
namespace MX
open PySem PySem.Spec PyProof.Rows L2 PySem.W StX
section
variable {X : Cx} {CX : CXT} {k n : Nat} {f g C : Addr} {fd : FuncData} {ps ks : List PySem.Str} {sp : Sp} {Es : L2.St → XK} {x : PySem.Str} {p pos : Pos} {fe e : Expr} {es : List Expr} {kws : List Keyword} {tf : TE} {t tk : TA} {gp : List Value → List Value → List Value} {gV : List V → List V → List V}
def tCallOT (C : Addr) (sp : Sp) (Es : L2.St → XK) (tf : TE) (t : TA) : TE := fun σ H Q => tf σ H fun y H1 => ∃ a, y = V.ref a ∧ t σ H1 fun vs H2 => (∃ dx fs, H2 a = some (.ins C dx fs)) ∧ sp (V.ref a :: vs) H2 Q (Es σ)
theorem pe_callOT (hf : PE X fe tf) (c : CallO X.K C g) (F : FnR X.prog X.w X.K X.mg X.base CX k g sp) (hr : Room k X.A) (hx : ∀ σ, PassesAt CX X σ (Es σ)) (ha : PA X (e :: es) t)
    (text : eval (.Call fe (e :: es) [] pos) X.env = (do callWith pos (← eval fe X.env) [] (backTo pos (starEach (e :: es) X.env)) (backToKw pos (keywordEach [] X.env))) := by rfl)
    (first : starEach (e :: es) X.env = (false, eval e X.env) :: starEach es X.env := by rfl) (nost : (backTo pos (starEach es X.env)).any (·.1) = false := by rfl) : PE X (.Call fe (e :: es) [] pos) (tCallOT C sp Es tf t) := by
  constructor
  intro pins s σ H Q I h
  refine Call_ (thn (hf.run pins s σ H _ I h) fun r1 s1 ⟨y, H1, I1, rel, a, ey, q⟩ => ?_) text
  subst ey
  cases rel
  refine callO_with (thn (ha.run pos pins s1 σ H1 _ I1 q) fun us s2 ⟨vs, H2, I2, r, ins, q2⟩ => ?_) first nost
  obtain ⟨o, od, at_, plain⟩ := insC_at I2 (.inr ins)
  exact ⟨⟨C, o, od, at_, plain⟩, wpAny_call (PySem.W.kco_code I2.kIn at_ plain c.at_ c.fn c.fi (run_pos (us := Value.ref a :: us) (vs := V.ref a :: vs) F hr hx I2 (.cons (show L2.RelV (V.ref a) (Value.ref a) from rfl) r) q2))⟩
theorem op_neDK {K : PySem.W.Frag} (hK : X.K = K) (hu : X.A.units + 64 < cLine) : OpR X (compareOp .NotEq) (rNeD K) := by
  subst hK
  exact op_neD hu
theorem sl_listK {K : PySem.W.Frag} (hK : X.K = K) : SlR X (rSlL K) := by
  subst hK
  exact sl_list
theorem pe_get1NK {P : Program} {w : World} {d e : Expr} {td ty : TE} {apos cpos : Pos} (hP : X.prog = P) (hw : X.w = w) (hd : PE X d td) (he : PE X e ty) (m : M1 X d "get" apos e cpos) : PE X (.Call (.Attribute d "get" apos) [e] [] cpos) (tGet1N P w td ty) := by
  subst hP hw
  exact pe_get1N hd he m
theorem call_lenK {K : PySem.W.Frag} (hK : X.K = K) : CallR X (.builtin "len") (fun xs H Q => ∃ p ys, xs = [V.ref p] ∧ (SqL K H p ys ∨ SqT K H p ys) ∧ Q (V.int ys.length) H) := by
  subst hK
  exact call_len_seq
def tMakeKT (C : Addr) (n m : Nat) (sp : Sp) (gV : List V → List V → List V) (Es : L2.St → XK) (t tk : TA) : TE := fun σ H Q => tMakeK C n m sp gV (Es σ) t tk σ H Q
theorem made_kw {E : XK} {pins : List (Addr × Obj)} {σ : L2.St} {H : Hp} {s : Shared} {Q : VK} {us ws : List Value} {vs zs : List V} (M : Mk X.K C f) (F : FnOk X.prog X.w X.K X.mg X.base CX k f fd ps sp) (hr : Room (k + 1) X.A) (hb : KBn X.K fd ps (n + 1) ks gp gV) (hx : PassesAt CX X σ E)
    (I : L2.Inv X pins σ H s) (r : Vals vs us) (rz : Vals zs ws) (l1 : vs.length = n) (l2 : zs.length = ks.length)
    (h : ∀ x dx, H x = none → H dx = none → dx ≠ x → sp (gV (.ref x :: vs) zs) (upd (upd H dx (.own x)) x (.ins C dx [])) (fun v H2 => v = .non ∧ Q (.ref x) H2) E) : wpAny (model X.prog X.w) X.A (call (.ref C) us (ks.zip ws)) (EP X pins σ Q) X.xe s := by
  have J := Inv.made (C := C) I
  have run := h (s.heap.objs.size + 1) s.heap.objs.size (I.hok.fresh (Nat.le_succ _)) (I.hok.fresh (Nat.le_refl _)) (Nat.ne_of_lt (Nat.lt_succ_self _))
  have rel : Vals (V.ref (s.heap.objs.size + 1) :: vs) (Value.ref (s.heap.objs.size + 1) :: us) := .cons (show L2.RelV (V.ref (s.heap.objs.size + 1)) (Value.ref (s.heap.objs.size + 1)) from rfl) r
  have many : (Value.ref (s.heap.objs.size + 1) :: us).length = n + 1 := congrArg Nat.succ (r.length.symm.trans l1)
  have bound := hb.to _ (Value.ref (s.heap.objs.size + 1) :: us) ws J.kIn many (rz.length.symm.trans l2)
  have ran := F.run _ X.stack _ _ ⟨Value.ref (s.heap.objs.size + 1) :: us, ks.zip ws⟩ _ _ _ E (hr.make C us (ks.zip ws)) (J.env0.make C us (ks.zip ws)) bound (hb.rel rel rz) run
  refine wpAny_call (make_map (f := f) I.kIn M.makes M.init (beq_iff_eq.mp M.fn) (codeAny_mono ran fun out s' z => ?_))
  match out, z with
  | .error err, z => exact hx pins _ _ err s' J z
  | .ok (.ret u), z =>
    obtain ⟨v, H', I3, rv, rfl, q⟩ := J.after z
    exact ⟨rv, ⟨V.ref (s.heap.objs.size + 1), H', I3, rfl, q⟩⟩
theorem pe_makeKT (M : Mk X.K C f) (F : FnOk X.prog X.w X.K X.mg X.base CX k f fd ps sp) (hr : Room (k + 1) X.A) (hg : Gl X x) (hm : X.mg x = some (.ref C)) (hb : KBn X.K fd ps (n + 1) ks gp gV) (hx : ∀ σ, PassesAt CX X σ (Es σ)) (ha : PA X (e :: es) t) (hkw : PK X kws tk)
    (all : (backToKw pos (keywordEach kws X.env)).all (·.1.isSome) = true := by rfl) (names : (backToKw pos (keywordEach kws X.env)).filterMap (·.1) = ks := by rfl) (nodebug : (x == ("__debug__" : PySem.Str)) = false := by decide)
    (first : starEach (e :: es) X.env = (false, eval e X.env) :: starEach es X.env := by rfl) (nost : ((backTo pos (starEach (e :: es) X.env)).any (·.1) || (backToKw pos (keywordEach kws X.env)).any (·.1.isNone)) = false := by rfl) :
    PE X (.Call (.Name x p) (e :: es) kws pos) (tMakeKT C n ks.length sp gV Es t tk) := by
  constructor
  intro pins s σ H Q I h
  refine wpAny_Call_Name_kw (ld_glob I hg hm ?_ nodebug)
  refine PySem.W.callWith_KW (h₀ := X.base) I.ok.mod.kin M.kp all (thn (ha.run pos pins s σ H _ I h) fun us s1 ⟨vs, H1, I1, r, q⟩ => ?_) nost first
  refine thn (hkw.run pos pins s1 σ H1 _ I1 q) fun ws s2 ⟨zs, H2, I2, rz, l1, l2, q2⟩ => ⟨I2.kIn, ?_⟩
  rw [names]
  exact made_kw M F hr hb (hx σ) I2 r rz l1 l2 q2
end
end MX
end
section
/-! The law: its end. -/
namespace K1
open PySem L2
section
variable {P : Program} {w : World} {K : PySem.W.Frag} {mg : Str → Option Value} {base : Heap}
abbrev sLaw : Stmt := top 34
abbrev nLaw : List Str := ["script", "many", "steps", "machine", "free", "watcher", "words", "turn", "more", "is_fine", "told", "due", "bad", "before", "spot", "size"]
theorem scLaw : FnScope nLaw ["script"] (defScope sLaw) := ⟨rfl, rfl, rfl, by decide +kernel, rfl, by decide +kernel, by decide +kernel⟩
theorem asc_xy : Asc [Str.ofString "x", Str.ofString "y"] := by
  unfold Asc MX.Up
  decide +kernel
/-- a machine and its watcher stand -/
def Both (P : Program) (w : World) (C CW CO : Addr) (H : Hp) (p x : Addr) (many : Int) (sts : List Stp) (ks : List Str) (v : V) (ws : List Str) : Prop := MachAt C H p many sts ∧ (∀ s ∈ sts, OkS many s) ∧ 2 ≤ many ∧ many < 10 ∧ sts.length < 32 ∧ WatAt P w CW CO H x many sts ks v ws ∧ ks.length < 3 ∧ (∀ k ∈ ks, k = Str.ofString "x" ∨ k = Str.ofString "y") ∧ aboutB ks v = true ∧ (v = .non ∨ ∃ z : Str, v = .str z)
def LawG (P : Program) (w : World) (C CW CO : Addr) (σ : L2.St) (H : Hp) : Prop := ∃ (p x : Addr) (many : Int) (sts : List Stp) (ks ws : List Str) (v : V) (s0 s1 s2 s4 s6 s7 s8 s9 s10 s11 s12 s13 s14 s15 : Option V),
  σ = [s0, s1, s2, some (.ref p), s4, some (.ref x), s6, s7, s8, s9, s10, s11, s12, s13, s14, s15] ∧ Both P w C CW CO H p x many sts ks v ws
structure TxtLG (K : PySem.W.Frag) (mg : Str → Option Value) (CW fA : Addr) : Prop where
  cl_Watcher : Cls K CW
  n_about : NoAttr K CW "about"
  c_Watcher : mg "Watcher" = some (.ref CW)
  m_ask : Meth K CW "ask" fA
set_option maxHeartbeats 1000000 in
theorem law_G {f C CO CW CS fI fA : Addr} {fdI fdA : FuncData} {gp : List Value → List Value → List Value} {cdv : Value} {A : Around} {outer : List Env} {s : Shared} {H0 : Hp} {E : XK} (nO : CO ≠ CW) (nC : C ≠ CW) (T : TxtLG K mg CW fA)
    (M_Watcher : Mk K CW fI) (G_Watcher : FnOk P w K mg base (L2.CX P w) 4 fI fdI ["self", "machine", "free", "about"] (spWInit P w K C CO CW CS)) (kb_Watcher : KBn K fdI ["self", "machine", "free", "about"] 3 ["about"] gp (fun vs zs => vs ++ zs))
    (G_ask : FnOk P w K mg base (L2.CX P w) 2 fA fdA ["self", "about"] (spAsk P w K CO CW CS)) (b_ask : Binds K fdA ["self", "about"] [])
    (hr : Room 8 (cxOf CX0 P w K mg base nLaw "law" (defScope sLaw) f cdv A outer s H0 E).nox.A) :
    ∃ t, PSs (cxOf CX0 P w K mg base nLaw "law" (defScope sLaw) f cdv A outer s H0 E).nox ((defBody sLaw).drop 7) t ∧ ∀ σ H D, LawG P w C CW CO σ H → (∀ H', D.rt (.bl true) H') → t D σ H := by
  have nd := scLaw.nd
  have hu := hr.units
  have hr_Watcher : Room 5 _ := hr.mono (by decide)
  have hr_ask : Room 2 _ := hr.mono (by decide)
  refine ⟨_, (pss_cons (ps_expr (pe_meth (pv 5) T.cl_Watcher T.m_ask G_ask hr_ask b_ask .nil passL (pa_cons pe_non pa_nil)))
      (pss_cons (ps_ret (pe_and (pe_cmpR op_isN (pe_fld (pv 5) rfl) pe_non (nomark _)) (pe_one (pe_cmpR op_eq (pe_fld (pe_makeK M_Watcher G_Watcher hr_Watcher (by rfl) T.c_Watcher kb_Watcher passL (pa_cons (pv 3) (pa_cons (pe_tup (pa_cons pe_str (pa_cons pe_str pa_nil))) pa_nil)) (pk_cons pe_str pk_nil)) rfl) pe_str (nomark _)))))
      pss_nil)), ?_⟩
  rintro σ H D ⟨p, x, many, sts, ks, ws, v, s0, s1, s2, s4, s6, s7, s8, s9, s10, s11, s12, s13, s14, s15, rfl, M, oks, m1, m2, few, W, lks, inks, ab, kind⟩ k
  obtain ⟨dx, fr, wl, oD, nD, hx, B⟩ := id W
  refine into ⟨_, rfl, x, dx, _, rfl, hx, w6_no.2.2, x, many, sts, ks, ws, v, .non, rfl, W, .inl rfl, (fun c => by cases c), fun _ H1 o1 W1 => ?_⟩
  obtain ⟨dx1, fr1, wl1, oD1, nD1, hx1, B1⟩ := id W1
  have M1 := M.fi nC (Fi.off hx (fun z => z rfl) o1)
  dsimp only
  refine into ⟨_, rfl, x, CW, dx1, _, _, rfl, hx1, T.cl_Watcher, T.n_about, lk6.1, rfl, true, rfl, iteT ⟨_, rfl, by show 2 ≤ sizeLine; decide, fun t nt => ⟨rfl, rfl, fun y dy ny ndy ney => ?_⟩⟩⟩
  have e1 : Same H1 (upd H1 t (.tup [V.str (Str.ofString "x"), V.str (Str.ofString "y")])) := same_new nt
  have e2 : Same (upd H1 t (.tup [V.str (Str.ofString "x"), V.str (Str.ofString "y")])) (upd (upd (upd H1 t (.tup [V.str (Str.ofString "x"), V.str (Str.ofString "y")])) dy (.own y)) y (.ins CW dy [])) := fun b o z => by
    rw [upd_ne (ne_of_none z ny), upd_ne (ne_of_none z ndy)]; exact z
  refine ⟨y, dy, p, t, many, sts, [Str.ofString "x", Str.ofString "y"], .str (Str.ofString "y"), rfl, upd_same, (M1.same e1).same e2, oks, by omega, by omega, few, e2 _ _ upd_same, by decide, asc_xy, by decide +kernel, .inr ⟨_, rfl⟩, (fun c => absurd c (by decide +kernel)), fun _ H2 o2 W2 => ⟨rfl, ?_⟩⟩
  obtain ⟨dx2, fr2, wl2, oD2, nD2, hx2, B2⟩ := id W2
  exact ⟨y, CW, dx2, _, _, rfl, hx2, T.cl_Watcher, T.n_about, lk6.1, rfl, k _⟩
end
end K1
end
section
/-! The law: bad kinds are asked for. -/
namespace K1
open PySem L2
theorem for_in {wi : TI} {g : TG} {tb : TS} {D : Ends} {σ : L2.St} {H : Hp} (h : ∀ tb' : TS, tb' = tb → tFor wi g tb' D σ H) : tFor wi g tb D σ H := h tb rfl
theorem gN {i : Nat} {v : V} {σ : L2.St} {H : Hp} {Q : L2.St → Hp → Prop} (h : Q (σ.set i (some v)) H) : gName i v σ H Q := h
section
variable {P : Program} {w : World} {K : PySem.W.Frag} {mg : Str → Option Value} {base : Heap}
theorem asc_x : Asc [Str.ofString "x"] := by
  unfold Asc MX.Up
  decide +kernel
structure TxtLF (K : PySem.W.Frag) (mg : Str → Option Value) (CW CS fA : Addr) : Prop where
  cl_Watcher : Cls K CW
  n_about : NoAttr K CW "about"
  c_Watcher : mg "Watcher" = some (.ref CW)
  m_ask : Meth K CW "ask" fA
  c_BadKinds : mg "BadKinds" = some (.ref CS)
  te_BadKinds : PySem.W.exmOne K (.ref CS) (.ref CS) = some true
theorem Both.fi {C CO CW : Addr} {H H' : Hp} {p x : Addr} {many : Int} {sts : List Stp} {ks ws : List Str} {v : V} (nC : C ≠ CW) (B : Both P w C CW CO H p x many sts ks v ws) (e : Same H H') : Both P w C CW CO H' p x many sts ks v ws := by
  obtain ⟨M, oks, m1, m2, few, W, rest⟩ := B
  exact ⟨M.same e, oks, m1, m2, few, W.same e, rest⟩
theorem scal_kind {v : V} (h : v = .non ∨ ∃ z : Str, v = .str z) : scal v v = true := by
  rcases h with rfl | ⟨z, rfl⟩ <;> rfl
set_option maxHeartbeats 1000000 in
theorem law_F {f C CO CW CS fI fA : Addr} {fdI fdA : FuncData} {gp : List Value → List Value → List Value} {cdv : Value} {A : Around} {outer : List Env} {s : Shared} {H0 : Hp} {E : XK} (nO : CO ≠ CW) (nC : C ≠ CW) (T : TxtLF K mg CW CS fA)
    (M_Watcher : Mk K CW fI) (G_Watcher : FnOk P w K mg base (L2.CX P w) 4 fI fdI ["self", "machine", "free", "about"] (spWInit P w K C CO CW CS)) (kb_Watcher : KBn K fdI ["self", "machine", "free", "about"] 3 ["about"] gp (fun vs zs => vs ++ zs))
    (G_ask : FnOk P w K mg base (L2.CX P w) 2 fA fdA ["self", "about"] (spAsk P w K CO CW CS)) (b_ask : Binds K fdA ["self", "about"] [])
    (hr : Room 8 (cxOf CX0 P w K mg base nLaw "law" (defScope sLaw) f cdv A outer s H0 E).nox.A)
    (rest : ∃ t, PSs (cxOf CX0 P w K mg base nLaw "law" (defScope sLaw) f cdv A outer s H0 E).nox ((defBody sLaw).drop 7) t ∧ ∀ σ H D, LawG P w C CW CO σ H → (∀ H', D.rt (.bl true) H') → t D σ H) :
    ∃ t, PSs (cxOf CX0 P w K mg base nLaw "law" (defScope sLaw) f cdv A outer s H0 E).nox ((defBody sLaw).drop 5) t ∧ ∀ σ H D, LawG P w C CW CO σ H → (∀ H', D.rt (.bl true) H') → t D σ H := by
  have nd := scLaw.nd
  have hu := hr.units
  have hr_Watcher : Room 5 _ := hr.mono (by decide)
  have hr_ask : Room 2 _ := hr.mono (by decide)
  obtain ⟨tR, hR, restR⟩ := rest
  refine ⟨_, (pss_cons (ps_for PassesOwn.never rfl (pi_tup (pe_tup (pa_cons pe_str (pa_cons pe_str (pa_cons pe_int pa_nil))))) (pg_name (i := 12) nd rfl (Or.inl rfl))
        (pss_cons (ps_set (i := 13) nd rfl (Or.inl rfl) (pe_fld (pv 5) rfl))
        (pss_one (ps_try_only (Wout := fun _ _ _ _ => False) rfl rfl ⟨rfl, by decide, Or.inl T.c_BadKinds⟩ takes0 (fun W pn xe tk _ => (pss_cons (ps_expr (pe_methT (pv 5) T.cl_Watcher T.m_ask G_ask hr_ask b_ask (fun σ => passAt tk σ) (by exact (pa_cons (pv 12) pa_nil))))
          (pss_one (ps_ret pe_bl)))) (fun a oe cls d pn hz hf => (pss_one (ps_if (pt_cmpR op_ne (pe_fldK (K := K) rfl (pv 5) rfl) (pv 13) (nomark _))
            (pss_one (ps_ret pe_bl))
            pss_nil)))))))
      (pss_cons (ps_try_only (Wout := fun _ _ _ _ => False) rfl rfl ⟨rfl, by decide, Or.inl T.c_BadKinds⟩ takes0 (fun W pn xe tk _ => (pss_cons (ps_expr (MX.pe_makeKT M_Watcher G_Watcher hr_Watcher (by rfl) T.c_Watcher kb_Watcher (fun σ => passAt tk σ) (by exact (pa_cons (pv 3) (pa_cons (pe_tup (pa_cons pe_str pa_nil)) pa_nil))) (by exact (pk_cons pe_str pk_nil))))
        (pss_one (ps_ret pe_bl)))) (fun a oe cls d pn hz hf => (pss_one (ps_pass))))
      hR)), ?_⟩
  rintro σ H D ⟨p, x, many, sts, ks, ws, v, s0, s1, s2, s4, s6, s7, s8, s9, s10, s11, s12, s13, s14, s15, rfl, B⟩ k
  refine into ?_
  refine for_in (fun tb htb => ?_)
  refine ⟨by show 3 ≤ sizeLine; decide, fun tt nt => ⟨tt, rfl, ⟨_, SqT.of upd_same⟩, ?_⟩⟩
  have e1 : Same H (upd H tt (.tup [V.str (Str.ofString "q"), V.str (Str.ofString "X"), V.int 3])) := same_new nt
  refine for_tup (K := K) (a := tt) (xs := [V.str (Str.ofString "q"), V.str (Str.ofString "X"), V.int 3]) (fun j σ H' => (∃ r12 r13, σ = [s0, s1, s2, some (.ref p), s4, some (.ref x), s6, s7, s8, s9, s10, s11, r12, r13, s14, s15]) ∧ Both P w C CW CO H' p x many sts ks v ws ∧ H' tt = some (.tup [V.str (Str.ofString "q"), V.str (Str.ofString "X"), V.int 3]))
    ⟨⟨_, _, rfl⟩, B.fi nC e1, upd_same⟩ (fun j σ H' _ ⟨_, _, h⟩ => SqT.of h) ?_ ?_
  · rintro j u σ H2 hu2 ⟨⟨r12, r13, rfl⟩, B2, h2⟩
    subst htb
    have bad : aboutB ks u = false ∧ (u = .non ∨ (∃ z : Str, u = .str z) ∨ ∃ i : Int, u = .int i) := by
      have out : ∀ z : Str, z ≠ Str.ofString "x" → z ≠ Str.ofString "y" → aboutB ks (.str z) = false := fun z n1 n2 => decide_eq_false fun m => (B.2.2.2.2.2.2.2.1 z m).elim n1 n2
      have m := List.mem_of_getElem? hu2
      simp only [List.mem_cons, List.not_mem_nil, or_false] at m
      rcases m with rfl | rfl | rfl
      · exact ⟨out _ (by decide +kernel) (by decide +kernel), .inr (.inl ⟨_, rfl⟩)⟩
      · exact ⟨out _ (by decide +kernel) (by decide +kernel), .inr (.inl ⟨_, rfl⟩)⟩
      · exact ⟨rfl, .inr (.inr ⟨_, rfl⟩)⟩
    obtain ⟨no, kindu⟩ := bad
    have B20 := B2
    obtain ⟨M2, oks, m1, m2, few, W2, lks, inks, ab, kind⟩ := B20
    obtain ⟨dx, fr, wl, oD, nD, hx, BB⟩ := id W2
    refine gN (into ⟨_, rfl, x, CW, dx, _, _, rfl, hx, T.cl_Watcher, T.n_about, lk6.1, gN ?_⟩)
    refine ⟨_, rfl, x, dx, _, rfl, hx, w6_no.2.2, _, rfl, x, many, sts, ks, ws, v, u, rfl, W2, kindu, fun _ => ⟨true, T.te_BadKinds, fun _ a na => ?_, fun h => by cases h⟩, fun c => by rw [no] at c; cases c⟩
    refine ⟨_, rfl, x, CW, dx, _, _, rfl, hx, T.cl_Watcher, T.n_about, lk6.1, _, rfl, scal_kind kind, false, by rw [decide_eq_true rfl]; rfl, iteF ⟨⟨_, _, rfl⟩, B2, h2⟩⟩
  · rintro σ H2 ⟨⟨r12, r13, rfl⟩, B2, h2⟩
    dsimp only
    have B20 := B2
    obtain ⟨M2, oks, m1, m2, few, W2, lks, inks, ab, kind⟩ := B20
    refine into ⟨_, rfl, by show 1 ≤ sizeLine; decide, fun t nt2 => ⟨rfl, rfl, fun y dy ny ndy ney => ?_⟩⟩
    have e3 : Same H2 (upd H2 t (.tup [V.str (Str.ofString "x")])) := same_new nt2
    have e4 : Same (upd H2 t (.tup [V.str (Str.ofString "x")])) (upd (upd (upd H2 t (.tup [V.str (Str.ofString "x")])) dy (.own y)) y (.ins CW dy [])) := fun b o z => by
      rw [upd_ne (ne_of_none z ny), upd_ne (ne_of_none z ndy)]; exact z
    refine ⟨y, dy, p, t, many, sts, [Str.ofString "x"], .str (Str.ofString "y"), rfl, upd_same, (M2.same e3).same e4, oks, by omega, by omega, few, e4 _ _ upd_same, by decide, asc_x, by decide +kernel, .inr ⟨_, rfl⟩, fun _ H3 e5 => ⟨true, T.te_BadKinds, fun _ a na => ?_, fun h => by cases h⟩, fun c => absurd c (by decide +kernel)⟩
    exact restR _ _ D ⟨p, x, many, sts, ks, ws, v, s0, s1, s2, s4, s6, s7, s8, s9, s10, s11, r12, r13, s14, s15, rfl, B2.fi nC (e3.trans (e4.trans e5))⟩ k
end
end K1
end
section
/-! The law: its beginning. -/
namespace K1
open PySem L2
open MX (Rise Up)
theorem kindAt_mem (ns : List Int) {ks : List Str} (p : Int) (h : 0 < ks.length) : kindAt ns ks p ∈ ks := by
  have q := draw_lt ns p (m := (ks.length : Int)) (by omega)
  have lt : (draw ns p ks.length).toNat < ks.length := by omega
  unfold kindAt
  rw [List.getD_eq_getElem?_getD, List.getElem?_eq_getElem lt]
  exact List.getElem_mem lt
theorem stepsOf_ok (ns : List Int) (p most : Int) (ks ws : List Str) (m0 : 2 ≤ most) (k0 : 0 < ks.length) (w0 : 0 < ws.length) (hk : ∀ x ∈ ks, wordE (.str x) = true) (hw : ∀ x ∈ ws, wordE (.str x) = true) :
    ∀ s ∈ stepsOf ns p most ks ws, OkS (manyOf ns p most) s ∧ s.k ∈ ks := by
  intro s hs
  obtain ⟨j, hj, rfl⟩ := List.mem_map.mp hs
  have M := manyOf_in ns p m0
  have g := draw_lt ns (p + 5 * (j : Int) + 2 + 4) (m := manyOf ns p most) (by omega)
  have a := draw_lt ns (p + 5 * (j : Int) + 2 + 3) (m := manyOf ns p most) (by omega)
  have km := kindAt_mem ns (p + 5 * (j : Int) + 2 + 1) k0
  have wm := kindAt_mem ns (p + 5 * (j : Int) + 2 + 2) w0
  have ea : (drawStp ns p (manyOf ns p most) ks ws (j : Int)).a = if (j : Int) + 1 < manyOf ns p most ∧ draw ns (p + 5 * (j : Int) + 2) 2 = 0 then (j : Int) else draw ns (p + 5 * (j : Int) + 2 + 3) (manyOf ns p most) := rfl
  have ha : 0 ≤ (drawStp ns p (manyOf ns p most) ks ws (j : Int)).a ∧ (drawStp ns p (manyOf ns p most) ks ws (j : Int)).a < manyOf ns p most := by
    rw [ea]
    split
    · omega
    · exact a
  exact ⟨⟨ha.1, ha.2, g.1, g.2, hk _ km, hw _ wm⟩, km⟩
/-- the free kinds that are drawn -/
def freeOf (ns : List Int) : List Str := ([[Str.ofString "x"], [Str.ofString "x", Str.ofString "y"], []] : List (List Str)).getD (draw ns 300 3).toNat []
theorem asc_nil : Asc [] := by
  unfold Asc MX.Up
  decide +kernel
theorem freeOf_ok (ns : List Int) : freeOf ns = [Str.ofString "x"] ∨ freeOf ns = [Str.ofString "x", Str.ofString "y"] ∨ freeOf ns = [] := by
  have d := draw_lt ns 300 (m := 3) (by omega)
  unfold freeOf
  rcases (by omega : draw ns 300 3 = 0 ∨ draw ns 300 3 = 1 ∨ draw ns 300 3 = 2) with e | e | e <;> rw [e]
  · exact .inl rfl
  · exact .inr (.inl rfl)
  · exact .inr (.inr rfl)
theorem freeOf_asc (ns : List Int) : Asc (freeOf ns) ∧ (freeOf ns).length < 3 ∧ (∀ k ∈ freeOf ns, k = Str.ofString "x" ∨ k = Str.ofString "y") ∧ ∀ k ∈ freeOf ns, wordS k = true := by
  rcases freeOf_ok ns with e | e | e <;> rw [e]
  · exact ⟨asc_x, by decide, by decide +kernel, by decide +kernel⟩
  · exact ⟨asc_xy, by decide, by decide +kernel, by decide +kernel⟩
  · exact ⟨asc_nil, by decide, by decide +kernel, by decide +kernel⟩
theorem sqL_off {K : PySem.W.Frag} {H H' : Hp} {a p C dx : Addr} {fs : List (Str × V)} {xs : List V} (hp : H p = some (.ins C dx fs)) (o : Off p H H') (h : SqL K H a xs) : SqL K H' a xs := by
  have go : ∀ o', H a = some o' → (∀ C dx fs, o' ≠ .ins C dx fs) → H' a = some o' := fun o' z n => o _ _ z fun e => n C dx fs (by rw [e, hp] at z; cases z; rfl)
  rcases h with (h | ⟨o', h⟩) | h
  · exact .inl (.inl (go _ h fun _ _ _ z => by cases z))
  · exact .inl (.inr ⟨o', go _ h fun _ _ _ z => by cases z⟩)
  · exact .inr h
section
variable {P : Program} {w : World} {K : PySem.W.Frag} {mg : Str → Option Value} {base : Heap}
theorem make_goodH {C CB x dx l : Addr} {H1 : Hp} {many : Int} {xs : List V} {sts : List Stp} {R : Hp → Prop} {E : XK} (nx : H1 x = none) (ndx : H1 dx = none) (hl : H1 l = some (.lst xs) ∨ H1 l = some (.tup xs)) (row : Row H1 xs sts) (oks : ∀ s ∈ sts, OkS many s)
    (m1 : 1 ≤ many) (m2 : many ≤ 3000) (few : xs.length < 64) (k : ∀ H' sts', Same H1 H' → Rise (sts'.map stpK) → (∀ s, s ∈ sts' ↔ s ∈ sts) → MachAt C H' x many sts' → R H') :
    spMInit K C CB [.ref x, .int many, .ref l] (upd (upd H1 dx (.own x)) x (.ins C dx [])) (fun v H2 => v = .non ∧ R H2) E := by
  have e : Same H1 (upd (upd H1 dx (.own x)) x (.ins C dx [])) := fun b o z => by
    rw [upd_ne (ne_of_none z nx), upd_ne (ne_of_none z ndx)]; exact z
  exact ⟨x, dx, _, _, rfl, upd_same, .inr ⟨many, l, xs, rfl, m1, m2, rfl, hl.imp (e _ _) (e _ _), few, .inr ⟨sts, row.same e, oks, fun H' sts' rise mem M off => ⟨rfl, k H' sts' (fun b o z => off b o (e _ _ z) (ne_of_none z nx)) rise mem M⟩⟩⟩⟩
/-- free != () -/
theorem free_ne {σ : L2.St} {H : Hp} {Q : VK} {fr : Addr} {ks : List Str} (h4 : σ[4]? = some (some (.ref fr))) (hf : H fr = some (.tup (ks.map V.str))) (fo : ks = [Str.ofString "x"] ∨ ks = [Str.ofString "x", Str.ofString "y"] ∨ ks = [])
    (k : ∀ H', Same H H' → Q (.bl (!ks.isEmpty)) H') : tOp (rNeD K) (tVar 4) (tTup tNil) σ H Q := by
  refine ⟨_, h4, Nat.zero_le _, fun t nt => ?_⟩
  have e : Same H (upd H t (.tup [])) := same_new nt
  have go : ∀ ds : List PyData, DpAll K (upd H t (.tup [])) (ks.map V.str) ds → SeqAt.shaped (.tuple ds) = true → (!PyData.eqv (.tuple ds) (.tuple [])) = (!ks.isEmpty) → rNeD K (.ref fr) (.ref t) (upd H t (.tup [])) Q := fun ds d sh z => by
    refine ⟨.tuple ds, .tuple [], .tup (SqT.of (e _ _ hf)) d, .tup (SqT.of upd_same) .nil, sh, by decide +kernel, ?_⟩
    rw [z]
    exact k _ e
  rcases fo with rfl | rfl | rfl
  · exact go [.str (Str.ofString "x")] (.cons (.str _) .nil) (by decide +kernel) (by decide +kernel)
  · exact go [.str (Str.ofString "x"), .str (Str.ofString "y")] (.cons (.str _) (.cons (.str _) .nil)) (by decide +kernel) (by decide +kernel)
  · exact go [] .nil (by decide +kernel) (by decide +kernel)
/-- free[0] if free != () else None -/
theorem first_free {σ : L2.St} {H : Hp} {R : VK} {fr : Addr} {ks : List Str} (h4 : σ[4]? = some (some (.ref fr))) (hf : H fr = some (.tup (ks.map V.str))) (fo : ks = [Str.ofString "x"] ∨ ks = [Str.ofString "x", Str.ofString "y"] ∨ ks = [])
    (k : ∀ H', Same H H' → R (aboutOf ks .non) H') : tIf (tTest (tOp (rNeD K) (tVar 4) (tTup tNil))) (tOp (rIxT K) (tVar 4) (tC (V.int 0))) (tC .non) σ H R := by
  refine free_ne h4 hf fo fun H' e => ⟨_, rfl, ?_⟩
  have hf' := e _ _ hf
  rcases fo with rfl | rfl | rfl
  · exact iteT ⟨_, h4, fr, _, _, _, rfl, rfl, SqT.of hf', atI_nat (j := 0) rfl, k _ e⟩
  · exact iteT ⟨_, h4, fr, _, _, _, rfl, rfl, SqT.of hf', atI_nat (j := 0) rfl, k _ e⟩
  · exact iteF (k _ e)
def LawA (K : PySem.W.Frag) (ns : List Int) (σ : L2.St) (H : Hp) : Prop := ∃ a : Addr, σ = [some (.ref a), none, none, none, none, none, none, none, none, none, none, none, none, none, none, none] ∧ SqL K H a (ns.map V.int) ∧ ns.length ≤ 63
/-- ahead of a turn -/
def LawE (P : Program) (w : World) (K : PySem.W.Frag) (C CW CO : Addr) (ns : List Int) (j : Nat) (σ : L2.St) (H : Hp) : Prop := ∃ (a p fr x wl : Addr) (many : Int) (sts : List Stp) (v : V) (ws : List Str) (s1 s2 s7 s8 s9 s10 s11 s12 s13 s14 s15 : Option V),
  σ = [some (.ref a), s1, s2, some (.ref p), some (.ref fr), some (.ref x), some (.ref wl), s7, s8, s9, s10, s11, s12, s13, s14, s15] ∧ SqL K H a (ns.map V.int) ∧ ns.length ≤ 63 ∧ Both P w C CW CO H p x many sts (freeOf ns) v ws ∧ H fr = some (.tup ((freeOf ns).map V.str)) ∧
  H wl = some (.lst (ws.map V.str)) ∧ ws.length ≤ 2 * j ∧ (∀ z ∈ ws, z = Str.ofString "a" ∨ z = Str.ofString "b") ∧ 0 < (seen (sts.filter (isOpen (freeOf ns))) many ws).length
structure TxtLA (K : PySem.W.Frag) (mg : Str → Option Value) (C CW fL fW fD fM : Addr) : Prop where
  len : mg "len" = none
  list : mg "list" = none
  h_len_Watcher : PySem.W.findIn K (.ref CW) "__len__" = some (some (.ref fL))
  f_len_Watcher : PySem.W.isFn K (.ref fL) = true
  cl_Watcher : Cls K CW
  n_about : NoAttr K CW "about"
  c_Machine : mg "Machine" = some (.ref C)
  c_Watcher : mg "Watcher" = some (.ref CW)
  g_law_machine : mg "_law_machine" = some (.ref fM)
  k_law_machine : PySem.W.keepIn K (.ref fM) = true
  g_law_draw : mg "_law_draw" = some (.ref fD)
  k_law_draw : PySem.W.keepIn K (.ref fD) = true
set_option maxHeartbeats 1000000 in
theorem law_A {f C CB CO CW CS fI fJ fL fW fD fM : Addr} {fdI fdJ fdL fdW fdD fdM : FuncData} {ds : List Value} {cdv : Value} {A : Around} {outer : List Env} {s : Shared} {H0 : Hp} {E : XK} {ns : List Int} (nO : CO ≠ CW) (nC : C ≠ CW) (T : TxtLA K mg C CW fL fW fD fM)
    (M_Machine : Mk K C fI) (G_Machine : FnOk P w K mg base (L2.CX P w) 4 fI fdI ["self", "many", "steps"] (spMInit K C CB)) (b_Machine : Binds K fdI ["self", "many", "steps"] [])
    (M_Watcher : Mk K CW fJ) (G_Watcher : FnOk P w K mg base (L2.CX P w) 4 fJ fdJ ["self", "machine", "free", "about"] (spWInit P w K C CO CW CS)) (b_Watcher : Binds K fdJ ["self", "machine", "free", "about"] ds) (v_Watcher : Vals [V.non] ds)
    (I_Watcher : MX.ItL K CW fW fL) (G_iter_Watcher : FnOk P w K mg base CX0 1 fW fdW ["self"] (spWIt CW)) (b_iter_Watcher : Binds K fdW ["self"] []) (G_len_Watcher : FnOk P w K mg base CX0 1 fL fdL ["self"] (spWLen P w CO CW)) (b_len_Watcher : Binds K fdL ["self"] [])
    (G_law_machine : FnOk P w K mg base CX0 2 fM fdM ["script", "at", "most", "kinds", "words"] (spMach K)) (b_law_machine : Binds K fdM ["script", "at", "most", "kinds", "words"] []) (G_law_draw : FnOk P w K mg base CX0 1 fD fdD ["script", "at", "many"] (spDraw K)) (b_law_draw : Binds K fdD ["script", "at", "many"] [])
    (hr : Room 8 (cxOf CX0 P w K mg base nLaw "law" (defScope sLaw) f cdv A outer s H0 E).nox.A)
    (rest : ∃ t, PSs (cxOf CX0 P w K mg base nLaw "law" (defScope sLaw) f cdv A outer s H0 E).nox ((defBody sLaw).drop 4) t ∧ ∀ σ H D, LawE P w K C CW CO ns 0 σ H → (∀ H', D.rt (.bl true) H') → t D σ H) :
    ∃ t, PSs (cxOf CX0 P w K mg base nLaw "law" (defScope sLaw) f cdv A outer s H0 E).nox (defBody sLaw) t ∧ ∀ σ H D, LawA K ns σ H → (∀ H', D.rt (.bl true) H') → t D σ H := by
  have nd := scLaw.nd
  have hu := hr.units
  have hr_Machine : Room 5 _ := hr.mono (by decide)
  have hr_Watcher : Room 5 _ := hr.mono (by decide)
  have hr_len_Watcher : Room 2 _ := hr.mono (by decide)
  have hr_list_Watcher : Room 4 _ := hr.mono (by decide)
  have hr_law_machine : Room 2 _ := hr.mono (by decide)
  have hr_law_draw : Room 1 _ := hr.mono (by decide)
  obtain ⟨tR, hR, restR⟩ := rest
  refine ⟨_, (pss_cons (ps_asg (pe_call G_law_machine hr_law_machine (by rfl) T.g_law_machine T.k_law_machine b_law_machine .nil pass0 (pa_cons (pv 0) (pa_cons pe_int (pa_cons pe_int (pa_cons (pe_tup (pa_cons pe_str (pa_cons pe_str (pa_cons pe_str (pa_cons pe_str (pa_cons pe_str pa_nil)))))) (pa_cons (pe_tup (pa_cons pe_str (pa_cons pe_str (pa_cons pe_str pa_nil)))) pa_nil)))))) (pg_tup rfl (pgs_cons (pg_name (i := 1) nd rfl (Or.inl rfl)) (pgs_cons (pg_name (i := 2) nd rfl (Or.inl rfl)) pgs_nil))))
      (pss_cons (ps_asg (pe_tup (pa_cons (pe_make M_Machine G_Machine hr_Machine (by rfl) T.c_Machine b_Machine .nil passL (pa_cons (pv 1) (pa_cons (pv 2) pa_nil))) (pa_cons (pe_ix ix_tup (pe_tup (pa_cons (pe_tup (pa_cons pe_str pa_nil)) (pa_cons (pe_tup (pa_cons pe_str (pa_cons pe_str pa_nil))) (pa_cons (pe_tup pa_nil) pa_nil)))) (pe_call G_law_draw hr_law_draw (by rfl) T.g_law_draw T.k_law_draw b_law_draw .nil pass0 (pa_cons (pv 0) (pa_cons pe_int (pa_cons pe_int pa_nil)))) (fun _ _ => rfl)) pa_nil))) (pg_tup rfl (pgs_cons (pg_name (i := 3) nd rfl (Or.inr rfl)) (pgs_cons (pg_name (i := 4) nd rfl (Or.inr rfl)) pgs_nil))))
      (pss_cons (ps_asg (pe_tup (pa_cons (pe_make M_Watcher G_Watcher hr_Watcher (by rfl) T.c_Watcher b_Watcher v_Watcher passL (pa_cons (pv 3) (pa_cons (pv 4) pa_nil))) (pa_cons (pe_lst pa_nil) pa_nil))) (pg_tup rfl (pgs_cons (pg_name (i := 5) nd rfl (Or.inr rfl)) (pgs_cons (pg_name (i := 6) nd rfl (Or.inr rfl)) pgs_nil))))
      (pss_cons (ps_if (PW.pt (pw_or (pt_cmpR op_ne (pe_fld (pv 5) rfl) (pe_ifExp (pt_cmpR (op_neD hu) (pv 4) (pe_tup pa_nil) (nomark _)) (pe_ix ix_tup (pv 4) pe_int (fun _ _ => rfl)) pe_non) (nomark _)) (pw_or (pt_cmpR op_ne (pe_callB (call_lenOwn T.h_len_Watcher T.f_len_Watcher G_len_Watcher b_len_Watcher hr_len_Watcher pass0) (by rfl) T.len PySem.boot_len (pa_cons (pv 5) pa_nil)) pe_int (nomark _)) (pw_or1 (pt_cmpR (op_neD hu) (pe_callTy (MX.call_listIt rfl I_Watcher G_iter_Watcher b_iter_Watcher G_len_Watcher b_len_Watcher hr_list_Watcher) (by rfl) T.list (by decide +kernel) (pa_cons (pv 5) pa_nil)) (pe_lst pa_nil) (nomark _))))))
        (pss_one (ps_ret pe_bl))
        pss_nil)
      hR)))), ?_⟩
  rintro σ H D ⟨a, rfl, hS, hl⟩ k
  have mo := manyOf_in ns 0 (most := 4) (by decide)
  have tn := turnsOf_in ns 0 (most := 4) (by decide)
  refine into ⟨_, rfl, by show 5 ≤ sizeLine; decide, fun t1 n1 => ⟨by show 3 ≤ sizeLine; decide, fun t2 n2 => ?_⟩⟩
  have g1 : Same H _ := same_new (o := .tup [V.str (Str.ofString ""), V.str (Str.ofString ""), V.str (Str.ofString ""), V.str (Str.ofString "x"), V.str (Str.ofString "y")]) n1
  have g2 := same_new (o := .tup [V.str (Str.ofString ""), V.str (Str.ofString "a"), V.str (Str.ofString "b")]) n2
  refine ⟨a, t1, t2, ns, 0, 4, [Str.ofString "", Str.ofString "", Str.ofString "", Str.ofString "x", Str.ofString "y"], [Str.ofString "", Str.ofString "a", Str.ofString "b"], rfl, (g1.trans g2).seq hS, hl, by decide, by decide, by decide, by decide, SqT.of (g2 _ _ upd_same), SqT.of upd_same, by decide, by decide, fun H1 tw l xs e1 htw hx row => ?_⟩
  have e01 := (g1.trans g2).trans e1
  have ok := stepsOf_ok ns 0 4 [Str.ofString "", Str.ofString "", Str.ofString "", Str.ofString "x", Str.ofString "y"] [Str.ofString "", Str.ofString "a", Str.ofString "b"] (by decide) (by decide) (by decide) (by decide +kernel) (by decide +kernel)
  have ln : (stepsOf ns 0 4 [Str.ofString "", Str.ofString "", Str.ofString "", Str.ofString "x", Str.ofString "y"] [Str.ofString "", Str.ofString "a", Str.ofString "b"]).length ≤ 10 := by
    unfold stepsOf
    rw [List.length_map, List.length_range]; omega
  have lx := row.length
  generalize manyOf ns 0 4 = many at htw ok mo
  generalize stepsOf ns 0 4 [Str.ofString "", Str.ofString "", Str.ofString "", Str.ofString "x", Str.ofString "y"] [Str.ofString "", Str.ofString "a", Str.ofString "b"] = ss at row ok ln lx
  refine ⟨tw, _, rfl, SqT.of htw, rfl, _, _, rfl, _, _, rfl, rfl, ?_⟩
  dsimp only
  refine into ⟨_, rfl, _, rfl, ?_⟩
  intro p dp np ndp nep
  refine make_goodH (many := many) (sts := ss) np ndp (.inl hx) row (fun s hs => (ok s hs).1) (by omega) (by omega) (by omega) fun H2 us e2 rise mem M => ?_
  have oku : ∀ s ∈ us, OkS many s := fun s hs => (ok s ((mem s).mp hs)).1
  have lu : us.length ≤ ss.length := short_any (rise_nodup rise) fun s hs => (mem s).mp hs
  refine ⟨by show 1 ≤ sizeLine; decide, fun q1 z1 => ⟨by show 2 ≤ sizeLine; decide, fun q2 z2 => ⟨by show 0 ≤ sizeLine; decide, fun q3 z3 => ⟨by show 3 ≤ sizeLine; decide, fun q z => ?_⟩⟩⟩⟩
  have f1 : Same H2 _ := same_new (o := .tup [V.str (Str.ofString "x")]) z1
  have f2 := same_new (o := .tup [V.str (Str.ofString "x"), V.str (Str.ofString "y")]) z2
  have f3 := same_new (o := .tup []) z3
  have f4 := same_new (o := .tup [.ref q1, .ref q2, .ref q3]) z
  have e02 := e01.trans e2
  refine ⟨_, rfl, a, ns, 300, 3, rfl, (e02.trans (f1.trans (f2.trans (f3.trans f4)))).seq hS, hl, by decide, by decide, by decide, fun H3 e3 => ?_⟩
  have dr := draw_lt ns 300 (m := 3) (by omega)
  have pick : ∃ r : Addr, atI [V.ref q1, V.ref q2, V.ref q3] (draw ns 300 3) = some (.ref r) ∧ H3 r = some (.tup ((freeOf ns).map V.str)) := by
    unfold freeOf
    rcases (by omega : draw ns 300 3 = 0 ∨ draw ns 300 3 = 1 ∨ draw ns 300 3 = 2) with e | e | e <;> rw [e]
    · exact ⟨q1, atI_nat (j := 0) rfl, e3 _ _ (f4 _ _ (f3 _ _ (f2 _ _ upd_same)))⟩
    · exact ⟨q2, atI_nat (j := 1) rfl, e3 _ _ (f4 _ _ (f3 _ _ upd_same))⟩
    · exact ⟨q3, atI_nat (j := 2) rfl, e3 _ _ (f4 _ _ upd_same)⟩
  obtain ⟨fr, at_, hfr⟩ := pick
  refine ⟨q, _, _, _, rfl, rfl, SqT.of (e3 _ _ upd_same), at_, ?_⟩
  have e03 := e02.trans (f1.trans (f2.trans (f3.trans (f4.trans e3))))
  have M3 := M.same (f1.trans (f2.trans (f3.trans (f4.trans e3))))
  obtain ⟨asc, lks, inks, wks⟩ := freeOf_asc ns
  have fo := freeOf_ok ns
  generalize efo : freeOf ns = ks at hfr asc lks inks wks fo
  refine ⟨by show 2 ≤ sizeLine; decide, fun T1 nT1 => ⟨T1, _, rfl, SqT.of upd_same, rfl, _, _, rfl, _, _, rfl, rfl, ?_⟩⟩
  dsimp only
  have h1 : Same H3 _ := same_new (o := .tup [V.ref p, V.ref fr]) nT1
  refine into ⟨_, rfl, _, rfl, fun y dy ny ndy ney => ?_⟩
  have h2 : Same (upd H3 T1 (.tup [V.ref p, V.ref fr])) (upd (upd (upd H3 T1 (.tup [V.ref p, V.ref fr])) dy (.own y)) y (.ins CW dy [])) := fun b o z => by
    rw [upd_ne (ne_of_none z ny), upd_ne (ne_of_none z ndy)]; exact z
  refine ⟨y, dy, p, fr, many, us, ks, .non, rfl, upd_same, (M3.same h1).same h2, oku, by omega, by omega, by omega, h2 _ _ (h1 _ _ hfr), by omega, asc, wks, .inl rfl, (fun c => by cases c), fun _ H4 o4 W4 => ⟨rfl, ?_⟩⟩
  obtain ⟨dx4, fr4, wl4, oD4, nD4, hx4, B4⟩ := id W4
  have e34 : Same H3 H4 := fun b o z => o4 _ _ (h2 _ _ (h1 _ _ z)) (ne_of_none (h1 _ _ z) ny)
  refine ⟨Nat.zero_le _, fun wl nw => ⟨by show 2 ≤ sizeLine; decide, fun T2 nT2 => ⟨T2, _, rfl, SqT.of upd_same, rfl, _, _, rfl, _, _, rfl, rfl, ?_⟩⟩⟩
  dsimp only
  have h3 : Same H4 _ := same_new (o := .lst []) nw
  have h4 := same_new (o := .tup [V.ref y, V.ref wl]) nT2
  have hw5 := h4 _ _ (upd_same (H := H4) (a := wl) (o := .lst []))
  have h34 := h3.trans h4
  have W5 := W4.same h34
  have e05 := e03.trans (e34.trans h34)
  have e35 := e34.trans h34
  generalize upd (upd H4 wl (.lst [])) T2 (.tup [V.ref y, V.ref wl]) = H5 at hw5 W5 e05 e35 h34
  have hfr5 := e35 _ _ hfr
  have M5 := M3.same e35
  clear h1 h2 h3 h4
  obtain ⟨dx5, fr5, wl5, oD5, nD5, hx5, B5⟩ := id W5
  have kind : aboutOf ks .non = .non ∨ ∃ z : Str, aboutOf ks .non = .str z := about_ok.2
  refine into ⟨_, rfl, y, CW, dx5, _, _, rfl, hx5, T.cl_Watcher, T.n_about, lk6.1, first_free rfl hfr5 fo fun H6 e6 => ⟨scal_kind kind, false, congrArg V.bl (by rw [decide_eq_true rfl]; rfl), iteF ?_⟩⟩
  have W6 := W5.same e6
  refine ⟨_, rfl, y, dx5, _, rfl, e6 _ _ hx5, y, many, us, ks, [], _, rfl, W6, _, rfl, by decide, by decide, rfl, false, rfl, iteF ?_⟩
  refine ⟨_, rfl, ?_⟩
  dsimp only [tNil]
  refine list_wat W6 (Nat.zero_le _) fun q H7 o7 nq hq7 => ?_
  have e7 : Same H6 H7 := fun b o z => o7 _ _ z (ne_of_none z nq)
  refine ⟨Nat.zero_le _, fun q8 nq8 => ?_⟩
  have e8 : Same H7 (upd H7 q8 (.lst [])) := same_new nq8
  have z0 : (!PyData.eqv (.list []) (.list [])) = false := by decide +kernel
  refine ⟨.list [], .list [], .lst (SqL.of (e8 _ _ hq7)) .nil, .lst (SqL.of upd_same) .nil, by decide +kernel, by decide +kernel, false, congrArg V.bl z0, iteF ?_⟩
  unfold tNext
  dsimp only
  have e58 := e6.trans (e7.trans e8)
  refine restR _ _ D ⟨a, p, fr, y, wl, many, us, aboutOf ks .non, [], _, _, _, _, _, _, _, _, _, _, _, rfl, (e05.trans e58).seq hS, hl, ?_, ?_, e58 _ _ hw5, Nat.zero_le _, (fun z h => nomatch h), seen_first (by omega)⟩ k
  · rw [efo]
    exact ⟨M5.same e58, oku, by omega, by omega, by omega, W5.same e58, lks, inks, about_ok.1, about_ok.2⟩
  · rw [efo]
    exact e58 _ _ hfr5
end
end K1
end
section
/-! The law: the words of a turn. -/
namespace K1
open PySem L2
def moreAt (ns : List Int) (p : Int) : Str := if draw ns p 2 = 0 then Str.ofString "a" else Str.ofString "b"
def moreOf (ns : List Int) (j : Int) : List Str := (List.range (1 + draw ns (309 + 5 * j) 2).toNat).map fun (i : Nat) => moreAt ns (310 + 5 * j + (i : Int))
theorem moreAt_ab (ns : List Int) (p : Int) : moreAt ns p = Str.ofString "a" ∨ moreAt ns p = Str.ofString "b" := by
  unfold moreAt
  split
  · exact .inl rfl
  · exact .inr rfl
theorem moreOf_len (ns : List Int) (j : Int) : (moreOf ns j).length = 1 ∨ (moreOf ns j).length = 2 := by
  have d := draw_lt ns (309 + 5 * j) (m := 2) (by omega)
  unfold moreOf
  rw [List.length_map, List.length_range]
  omega
theorem moreOf_ab (ns : List Int) (j : Int) : ∀ z ∈ moreOf ns j, z = Str.ofString "a" ∨ z = Str.ofString "b" := fun z h => by
  obtain ⟨i, _, rfl⟩ := List.mem_map.mp h
  exact moreAt_ab ns _
section
variable {P : Program} {w : World} {K : PySem.W.Frag} {mg : Str → Option Value} {base : Heap}
theorem more_value {σ : L2.St} {H : Hp} {R : VK} {a : Addr} {ns : List Int} {j : Nat} (h0 : σ[0]? = some (some (.ref a))) (h7 : σ[7]? = some (some (.int (j : Int)))) (len : σ.length = 16) (j4 : j < 4) (hS : SqL K H a (ns.map V.int)) (hl : ns.length ≤ 63)
    (k : ∀ H' l, Same H H' → H' l = some (.lst ((moreOf ns j).map V.str)) → R (.ref l) H') :
    tLc (iRng1 (tCons (tOp (rI0 fun i j => V.int (i + j)) (tC (V.int 1)) (tCall (spDraw K) [] E0 (tCons (tVar 0) (tCons (tOp (rI0 fun i j => V.int (i + j)) (tC (V.int 309)) (tOp (rI CMul fun i j => V.int (i * j)) (tC (V.int 5)) (tVar 7))) (tCons (tC (V.int 2)) tNil))))) tNil))
      (gName 14) tYes (tOp (rIxT K) (tTup (tCons (tC (V.str (Str.ofString "a"))) (tCons (tC (V.str (Str.ofString "b"))) tNil)))
        (tCall (spDraw K) [] E0 (tCons (tVar 0) (tCons (tOp (rI0 fun i j => V.int (i + j)) (tOp (rI0 fun i j => V.int (i + j)) (tC (V.int 310)) (tOp (rI CMul fun i j => V.int (i * j)) (tC (V.int 5)) (tVar 7))) (tVar 14)) (tCons (tC (V.int 2)) tNil))))) [14] σ H R := by
  have d := draw_lt ns (309 + 5 * (j : Int)) (m := 2) (by omega)
  refine ⟨_, h0, _, h7, _, _, rfl, rfl, .inl ⟨by decide, by decide⟩, _, _, rfl, rfl, a, ns, _, _, rfl, hS, hl, by omega, by omega, by omega, fun H1 e1 => ⟨_, _, rfl, rfl, _, rfl, by omega, by omega, fun D hD => ?_⟩⟩
  refine lc_range (lo := 0) (n := (1 + draw ns (309 + 5 * (j : Int)) 2).toNat) (fun i H' => H' D = some (.lst (((List.range i).map fun (i : Nat) => moreAt ns (310 + 5 * (j : Int) + (i : Int))).map V.str)) ∧ Same H H') ⟨upd_same, e1.trans (same_new hD)⟩ ?_ ?_
  · rintro i H2 lt ⟨h2, e2⟩
    rw [Int.zero_add]
    refine ⟨?_, ?_⟩
    · show ((σ.set 14 none).set 14 (some (V.int (i : Int)))).set 14 none = σ.set 14 none
      rw [List.set_set, List.set_set]
    · refine ⟨by show 2 ≤ sizeLine; decide, fun t nt => ?_⟩
      have e3 := e2.trans (same_new (o := .tup [V.str (Str.ofString "a"), V.str (Str.ofString "b")]) nt)
      have g0 : ((wipe σ [14]).set 14 (some (V.int (i : Int))))[0]? = some (some (.ref a)) := by
        show ((σ.set 14 none).set 14 (some (V.int (i : Int))))[0]? = _
        rw [List.getElem?_set_ne (by decide), List.getElem?_set_ne (by decide)]; exact h0
      have g7 : ((wipe σ [14]).set 14 (some (V.int (i : Int))))[7]? = some (some (.int (j : Int))) := by
        show ((σ.set 14 none).set 14 (some (V.int (i : Int))))[7]? = _
        rw [List.getElem?_set_ne (by decide), List.getElem?_set_ne (by decide)]; exact h7
      have g14 : ((wipe σ [14]).set 14 (some (V.int (i : Int))))[14]? = some (some (.int (i : Int))) := by
        show ((σ.set 14 none).set 14 (some (V.int (i : Int))))[14]? = _
        rw [List.getElem?_set_self (by rw [List.length_set, len]; decide)]
      have d2 := draw_lt ns (310 + 5 * (j : Int) + (i : Int)) (m := 2) (by omega)
      have i2 : i < 2 := by omega
      refine ⟨_, g0, _, g7, _, _, rfl, rfl, .inl ⟨by decide, by decide⟩, _, _, rfl, rfl, _, g14, _, _, rfl, rfl, a, ns, 310 + 5 * (j : Int) + (i : Int), 2, rfl, e3.seq hS, hl, by omega, by omega, by omega, fun H4 e4 => ?_⟩
      have pick : atI [V.str (Str.ofString "a"), V.str (Str.ofString "b")] (draw ns (310 + 5 * (j : Int) + (i : Int)) 2) = some (.str (moreAt ns (310 + 5 * (j : Int) + (i : Int)))) := by
        unfold moreAt
        rcases (by omega : draw ns (310 + 5 * (j : Int) + (i : Int)) 2 = 0 ∨ draw ns (310 + 5 * (j : Int) + (i : Int)) 2 = 1) with e | e <;> rw [e]
        · exact atI_nat (j := 0) rfl
        · exact atI_nat (j := 1) rfl
      have h4 := e4 _ _ ((same_new (o := .tup [V.str (Str.ofString "a"), V.str (Str.ofString "b")]) nt) _ _ h2)
      refine ⟨t, _, _, _, rfl, rfl, SqT.of (e4 _ _ upd_same), pick, _, h4, ?_, ?_, fun b o z => ?_⟩
      · rw [List.length_map, List.length_map, List.length_range, sizeLine_eq]; omega
      · rw [upd_same, List.range_succ, List.map_append, List.map_append]; rfl
      · rw [upd_ne (ne_of_none z (e1.free hD))]; exact (e3.trans e4) _ _ z
  · rintro H2 ⟨h2, e2⟩
    exact k H2 D e2 h2
end
end K1
end
section
/-! The law: another kind is asked for. -/
namespace K1
open PySem L2
section
variable {P : Program} {w : World} {K : PySem.W.Frag} {mg : Str → Option Value} {base : Heap}
theorem offS {p : Addr} {H H' : Hp} (e : Same H H') : Off p H H' := fun b o z _ => e b o z
theorem ask_value {σ : L2.St} {H : Hp} {D : Ends} {C CO CW CS a p fr x : Addr} {many : Int} {sts : List Stp} {ks ws : List Str} {v : V} {ns : List Int} {j : Nat} (nC : C ≠ CW) (h0 : σ[0]? = some (some (.ref a))) (h4 : σ[4]? = some (some (.ref fr))) (h5 : σ[5]? = some (some (.ref x))) (h7 : σ[7]? = some (some (.int (j : Int))))
    (j4 : j < 4) (hS : SqL K H a (ns.map V.int)) (hl : ns.length ≤ 63) (hf : H fr = some (.tup (ks.map V.str))) (fo : ks = [Str.ofString "x"] ∨ ks = [Str.ofString "x", Str.ofString "y"] ∨ ks = []) (B : Both P w C CW CO H p x many sts ks v ws)
    (k : ∀ H' v', Off x H H' → Both P w C CW CO H' p x many sts ks v' ws → D.nx σ H') :
    tIfS (tAnd (tTest (tOp (rNeD K) (tVar 4) (tTup tNil))) (tTest (tOp rEq (tCall (spDraw K) [] E0 (tCons (tVar 0) (tCons (tOp (rI0 fun i j => V.int (i + j)) (tC (V.int 400)) (tVar 7)) (tCons (tC (V.int 2)) tNil)))) (tC (V.int 0)))))
      (tDrop (tMeth CW "ask" (spAsk P w K CO CW CS) [] E0 (tVar 5) (tCons (tOp (rIxT K) (tVar 4) (tUn (rU fun i => V.int (-i)) (tC (V.int 1)))) tNil))) tNext D σ H := by
  refine free_ne h4 hf fo fun H1 e1 => ⟨_, rfl, ?_⟩
  have B1 := B.fi nC e1
  have hf1 := e1 _ _ hf
  have last : ks ≠ [] → ∃ z, z ∈ ks ∧ atI (ks.map V.str) (-1) = some (.str z) := fun ne => by
    rcases fo with rfl | rfl | rfl
    · exact ⟨_, List.mem_cons_self, rfl⟩
    · exact ⟨Str.ofString "y", by simp, rfl⟩
    · exact absurd rfl ne
  cases hk : (!ks.isEmpty) with
  | false => exact iteF (iteF (k _ v (offS e1) B1))
  | true =>
    have ne : ks ≠ [] := fun z => by rw [z] at hk; cases hk
    obtain ⟨z, mz, az⟩ := last ne
    refine iteT ⟨_, h0, _, h7, _, _, rfl, rfl, a, ns, 400 + (j : Int), 2, rfl, e1.seq hS, hl, by omega, by omega, by omega, fun H2 e2 => ⟨rfl, _, rfl, ?_⟩⟩
    have B2 := B1.fi nC e2
    cases hd : decide (V.int (draw ns (400 + (j : Int)) 2) = V.int 0) with
    | false => exact iteF (k _ v (offS (e1.trans e2)) B2)
    | true =>
      obtain ⟨M2, oks, m1, m2, few, W2, rest⟩ := B2
      obtain ⟨dx, fr2, wl2, oD2, nD2, hx, BB⟩ := id W2
      refine iteT ⟨_, h5, x, dx, _, rfl, hx, w6_no.2.2, _, h4, _, rfl, fr, _, _, _, rfl, rfl, SqT.of (e2 _ _ hf1), az, ?_⟩
      refine ⟨x, many, sts, ks, ws, v, .str z, rfl, W2, .inr (.inl ⟨_, rfl⟩), fun c => ?_, fun _ H3 o3 W3 => ?_⟩
      · rw [show aboutB ks (.str z) = true from decide_eq_true mz] at c; cases c
      · exact k H3 (.str z) (fun b o q n => o3 _ _ ((e1.trans e2) _ _ q) n) ⟨M2.fi nC (Fi.off hx (fun z => z rfl) o3), oks, m1, m2, few, W3, rest.1, rest.2.1, decide_eq_true mz, .inr ⟨_, rfl⟩⟩
end
end K1
end
section
/-! The law: what a watcher tells in a turn. -/
namespace K1
open PySem L2
theorem two {α : Type} {l : List α} (h : l.length = 2) : ∃ a b, l = [a, b] := by
  match l, h with
  | [a, b], _ => exact ⟨a, b, rfl⟩
theorem one {α : Type} {l : List α} (h : l.length = 1) : ∃ a, l = [a] := by
  match l, h with
  | [a], _ => exact ⟨a, rfl⟩
section
variable {P : Program} {w : World} {K : PySem.W.Frag} {mg : Str → Option Value} {base : Heap}
theorem told_value {σ : L2.St} {H : Hp} {R : VK} {Es : L2.St → XK} {C CO CW CN p x l : Addr} {many : Int} {sts : List Stp} {ks ws more : List Str} {v : V} (h5 : σ[5]? = some (some (.ref x))) (h8 : σ[8]? = some (some (.ref l))) (hm : H l = some (.lst (more.map V.str))) (ml : more.length = 1 ∨ more.length = 2)
    (mab : ∀ z ∈ more, z = Str.ofString "a" ∨ z = Str.ofString "b") (lw : ws.length ≤ 8) (asc : Asc ks) (B : Both P w C CW CO H p x many sts ks v ws) (pos : 0 < (seen (sts.filter (isOpen ks)) many ws).length)
    (kb : (seen (sts.filter (isOpen ks)) many (ws ++ more)).length = 0 → ∀ H', Same H H' → Es σ (.ref CN) none H')
    (kg : 0 < (seen (sts.filter (isOpen ks)) many (ws ++ more)).length → ∀ H' q, Off x H H' → WatAt P w CW CO H' x many sts ks v (ws ++ more) → H' q = some (.lst (answers many (sts.filter (isOpen ks)) v ws more)) → R (.ref q) H') :
    tIf (tTest (tOp rEq (tCB (fun xs H Q => ∃ p ys, xs = [V.ref p] ∧ (SqL K H p ys ∨ SqT K H p ys) ∧ Q (V.int ys.length) H) (tCons (tVar 8) tNil)) (tC (V.int 1))))
      (tLst (tCons (MX.tCallOT CW (spCl P w CO CW CN) Es (tVar 5) (tCons (tOp (rIxL K) (tVar 8) (tC (V.int 0))) tNil)) tNil))
      (MX.tMethP CW "see" (SeeR P w CO CW CN) Es (tVar 5) (tCons (tOp (rIxL K) (tVar 8) (tC (V.int 0))) (tCons (tOp (rIxL K) (tVar 8) (tC (V.int 1))) tNil))) σ H R := by
  obtain ⟨M, oks, m1, m2, few, W, lks, inks, ab, kind⟩ := B
  obtain ⟨dx, fr, wl, oD, nD, hx, BB⟩ := id W
  have ne : ∀ z ∈ more, z ≠ Str.ofString "" := fun z hz => by rcases mab z hz with rfl | rfl <;> decide +kernel
  refine ⟨_, h8, l, _, rfl, .inl (SqL.of hm), rfl, ?_⟩
  rcases ml with ml | ml
  · obtain ⟨z, rfl⟩ := one ml
    refine ⟨true, rfl, iteT ?_⟩
    refine ⟨_, h5, x, rfl, _, h8, l, _, _, _, rfl, rfl, SqL.of hm, atI_nat (j := 0) rfl, ⟨dx, _, hx⟩, ?_⟩
    refine ⟨x, many, sts, ks, ws, z, v, rfl, W, by omega, ne z List.mem_cons_self, oks, by omega, by omega, few, by omega, asc_nd asc, ab, kind, pos, fun c H' e => kb c H' e, fun c H' o W' => ⟨by show 1 ≤ sizeLine; decide, fun q nq => ?_⟩⟩
    have e : Same H' (upd H' q (.lst [answer many (sts.filter (isOpen ks)) v (ws ++ [z])])) := same_new nq
    exact kg c _ q (fun b u y n => e _ _ (o _ _ y n)) (W'.same e) upd_same
  · obtain ⟨z1, z2, rfl⟩ := two ml
    refine ⟨false, rfl, iteF ?_⟩
    refine ⟨_, h5, x, dx, _, rfl, hx, w6_no.1, _, h8, l, _, _, _, rfl, rfl, SqL.of hm, atI_nat (j := 0) rfl, _, h8, l, _, _, _, rfl, rfl, SqL.of hm, atI_nat (j := 1) rfl, ?_⟩
    refine ⟨_, _, rfl, (show 2 ≤ 8 by decide), fun t nt => ?_⟩
    have e : Same H (upd H t (.tup ([z1, z2].map V.str))) := same_new nt
    exact ⟨x, t, many, sts, ks, ws, [z1, z2], v, rfl, W.same e, upd_same, (show 2 ≤ 8 by decide), by omega, ne, oks, by omega, by omega, few, by omega, asc_nd asc, ab, kind, pos, fun c H' e' => kb c H' (e.trans e'), fun c H' q o _ W' hq => kg c H' q (fun b u y n => o _ _ (e _ _ y) n) W' hq⟩
end
end K1
end
section
/-! The law: what is due in a turn. -/
namespace K1
open PySem L2
theorem cut_take (xs : List V) {n : Nat} (h : n ≤ xs.length) : cutV xs none (some (n : Int)) = xs.take n := by
  unfold cutV
  rw [HT.sIx_nat, HT.sIx_none, Nat.min_eq_left h, List.drop_zero, Nat.sub_zero]
theorem valV_tells {many : Int} {ss : List Stp} {ws : List Str} {z : Str} : ∀ {ks : List Str}, z ∈ ks → valV (tellsW many ss ks ws) (some (Sum.inr z)) = some (.str (tellOf many ss ws z))
  | [], h => absurd h (by simp)
  | k :: ks, h => by
    show valV (((some (Sum.inr k) : MX.NK), V.str (tellOf many ss ws k)) :: tellsW many ss ks ws) (some (Sum.inr z)) = _
    by_cases e : k = z
    · subst e
      exact valV_pos rfl
    · rw [valV_neg (fun q => e (Sum.inr.inj (Option.some.inj q)))]
      exact valV_tells ((List.mem_cons.mp h).resolve_left fun q => e q.symm)
theorem valV_tells_non {many : Int} {ss : List Stp} {ws : List Str} : ∀ {ks : List Str}, valV (tellsW many ss ks ws) none = none
  | [] => rfl
  | k :: ks => by
    show valV (((some (Sum.inr k) : MX.NK), V.str (tellOf many ss ws k)) :: tellsW many ss ks ws) none = none
    rw [valV_neg (fun q => by cases q)]
    exact valV_tells_non
theorem key_of {many : Int} {ss : List Stp} {ks ws : List Str} {v : V} (ab : aboutB ks v = true) (kind : v = .non ∨ ∃ z : Str, v = .str z) : ∃ k : MX.NK, v = MX.nV k ∧ (valV (tellsW many ss ks ws) k).getD .non = answer many ss v ws := by
  rcases kind with rfl | ⟨z, rfl⟩
  · exact ⟨none, rfl, by rw [valV_tells_non]; rfl⟩
  · exact ⟨some (Sum.inr z), rfl, by rw [valV_tells (of_decide_eq_true ab)]; rfl⟩
section
variable {P : Program} {w : World} {K : PySem.W.Frag} {mg : Str → Option Value} {base : Heap}
theorem due_value {σ : L2.St} {H : Hp} {R : VK} {C CO CW p x l fr wl : Addr} {many : Int} {sts : List Stp} {ks ws more : List Str} {v : V} (cl : Cls K CW) (na : NoAttr K CW "about") (len : σ.length = 16) (h3 : σ[3]? = some (some (.ref p))) (h4 : σ[4]? = some (some (.ref fr))) (h5 : σ[5]? = some (some (.ref x)))
    (h6 : σ[6]? = some (some (.ref wl))) (h8 : σ[8]? = some (some (.ref l))) (hm : H l = some (.lst (more.map V.str))) (hw : H wl = some (.lst (ws.map V.str))) (hf : H fr = some (.tup (ks.map V.str))) (ml : more.length = 1 ∨ more.length = 2)
    (mab : ∀ z ∈ more, z = Str.ofString "a" ∨ z = Str.ofString "b") (wab : ∀ z ∈ ws, z = Str.ofString "a" ∨ z = Str.ofString "b") (lw : ws.length ≤ 6) (asc : Asc ks) (wks : ∀ k ∈ ks, wordS k = true) (M : MachAt C H p many sts) (oks : ∀ s ∈ sts, OkS many s) (m1 : 2 ≤ many) (m2 : many < 10) (few : sts.length < 32) (lks : ks.length < 3)
    {dx frB wlB oD nD : Addr} (hx : H x = some (.ins CW dx (w6 v many frB wlB oD nD))) (ab : aboutB ks v = true) (kind : v = .non ∨ ∃ z : Str, v = .str z) (pos : 0 < (seen (sts.filter (isOpen ks)) many (ws ++ more)).length)
    (k : ∀ H' q, Same H H' → H' q = some (.lst (answers many (sts.filter (isOpen ks)) v ws more)) → R (.ref q) H') :
    tLc (iRng1 (tCons (tCB (fun xs H Q => ∃ p ys, xs = [V.ref p] ∧ (SqL K H p ys ∨ SqT K H p ys) ∧ Q (V.int ys.length) H) (tCons (tVar 8) tNil)) tNil)) (gName 15) tYes
      (MX.tGet1N P w (tCall (spWt P w C) [] E0 (tCons (tVar 3) (tCons (tOp rCat (tVar 6) (tSl (rSlL K) (tVar 8) tNoPart (tPart (tOp (rI0 fun i j => V.int (i + j)) (tVar 15) (tC (V.int 1)))))) (tCons (tVar 4) tNil)))) (tFld K (tVar 5) "about")) [15] σ H R := by
  have lm : ((more.map V.str).length : Int).toNat = more.length := by rw [List.length_map]; omega
  refine ⟨_, h8, l, _, rfl, .inl (SqL.of hm), _, rfl, by rw [List.length_map]; omega, by rw [List.length_map]; omega, fun D hD => ?_⟩
  refine lc_range (lo := 0) (n := ((more.map V.str).length : Int).toNat) (fun i H' => H' D = some (.lst ((List.range i).map fun i => answer many (sts.filter (isOpen ks)) v (ws ++ more.take (i + 1)))) ∧ Same H H') ⟨upd_same, same_new hD⟩ ?_ ?_
  · rintro i H2 lt ⟨h2, e2⟩
    rw [lm] at lt
    rw [Int.zero_add]
    refine ⟨?_, ?_⟩
    · show ((σ.set 15 none).set 15 (some (V.int (i : Int)))).set 15 none = σ.set 15 none
      rw [List.set_set, List.set_set]
    · have g : ∀ {n : Nat} {u : Option (Option V)}, n ≠ 15 → σ[n]? = u → ((wipe σ [15]).set 15 (some (V.int (i : Int))))[n]? = u := fun {n u} ne h => by
        show ((σ.set 15 none).set 15 (some (V.int (i : Int))))[n]? = _
        rw [List.getElem?_set_ne (Ne.symm ne), List.getElem?_set_ne (Ne.symm ne)]; exact h
      have g15 : ((wipe σ [15]).set 15 (some (V.int (i : Int))))[15]? = some (some (.int (i : Int))) := by
        show ((σ.set 15 none).set 15 (some (V.int (i : Int))))[15]? = _
        rw [List.getElem?_set_self (by rw [List.length_set, len]; decide)]
      refine ⟨_, g (by decide) h3, _, g (by decide) h6, _, g (by decide) h8, _, g15, _, _, rfl, rfl, _, rfl, l, _, rfl, SqL.of (e2 _ _ hm), fun c nc => ?_⟩
      have ec : cutV (more.map V.str) none (some ((i : Int) + 1)) = (more.take (i + 1)).map V.str := by
        rw [show ((i : Int) + 1) = ((i + 1 : Nat) : Int) from rfl, cut_take _ (by rw [List.length_map]; omega), List.map_take]
      rw [ec]
      have e3 : Same H2 (upd H2 c (.lst ((more.take (i + 1)).map V.str))) := same_new nc
      have lt2 : (more.take (i + 1)).length ≤ 2 := by rw [List.length_take]; omega
      refine ⟨wl, c, _, _, rfl, rfl, e3 _ _ (e2 _ _ hw), upd_same, by rw [List.length_map, List.length_map, sizeLine_eq]; omega, fun c2 nc2 => ?_⟩
      have e4 := e3.trans (same_new (o := .lst (ws.map V.str ++ (more.take (i + 1)).map V.str)) nc2)
      have e24 := e2.trans e4
      refine ⟨_, g (by decide) h4, ?_⟩
      have pre : 0 < (seen (sts.filter (isOpen ks)) many (ws ++ more.take (i + 1))).length := by
        rcases Nat.eq_zero_or_pos (seen (sts.filter (isOpen ks)) many (ws ++ more.take (i + 1))).length with z | z
        · have q := seen_none z (more.drop (i + 1))
          rw [List.append_assoc, List.take_append_drop] at q
          omega
        · exact z
      refine ⟨p, c2, fr, many, sts, ks, ws ++ more.take (i + 1), rfl, M.same e24, oks, by omega, by omega, few, by rw [upd_same, List.map_append], by rw [List.length_append]; omega, ?_, e24 _ _ hf, by omega, asc, wks, pre, fun H5 D5 e5 nD5 hD5 => ?_⟩
      · intro z hz
        rcases List.mem_append.mp hz with h | h
        · rcases wab z h with rfl | rfl <;> decide +kernel
        · rcases mab z (List.mem_of_mem_take h) with rfl | rfl <;> decide +kernel
      obtain ⟨key, ek, va⟩ := key_of (many := many) (ss := sts.filter (isOpen ks)) (ws := ws ++ more.take (i + 1)) ab kind
      have e25 := e24.trans e5
      refine ⟨D5, _, rfl, .inl hD5, _, g (by decide) h5, x, CW, dx, _, _, rfl, e25 _ _ hx, cl, na, lk6.1, key, ek, .inl hD5, ?_⟩
      rw [va]
      refine ⟨_, (e4.trans e5) _ _ h2, ?_, ?_, fun b o z => ?_⟩
      · rw [List.length_map, List.length_range, sizeLine_eq]; omega
      · rw [upd_same, List.range_succ, List.map_append]; rfl
      · rw [upd_ne (ne_of_none z hD)]; exact e25 _ _ z
  · rintro H2 ⟨h2, e2⟩
    rw [lm] at h2
    exact k H2 D e2 h2
end
end K1
end
section
/-! The law: the end of a turn. -/
namespace K1
open PySem L2
theorem dp_strs {K : PySem.W.Frag} {H : Hp} : ∀ ks : List Str, DpAll K H (ks.map V.str) (ks.map .str)
  | [] => .nil
  | k :: ks => .cons (.str k) (dp_strs ks)
theorem canLay_strs : ∀ {ks : List Str}, (∀ k ∈ ks, wordE (.str k) = true) → PyData.canLayAll0 (ks.map .str) = true
  | [], _ => rfl
  | k :: ks, h => by
    rw [List.map_cons, PyData.canLayAll0, canLay_strs fun t ht => h t (List.mem_cons_of_mem _ ht), Bool.and_true]
    exact word_ok (h k (List.mem_cons_self ..))
theorem depth_strs : ∀ ks : List Str, PyData.depthAll (ks.map .str) = 0
  | [] => rfl
  | n :: ns => by rw [List.map_cons, PyData.depthAll, depth_strs ns]; rfl
theorem shaped_strs {ks : List Str} (h : ∀ k ∈ ks, wordE (.str k) = true) : SeqAt.shaped (.list (ks.map .str)) = true := by
  unfold SeqAt.shaped
  rw [PyData.canLay0, canLay_strs h, PyData.depth, depth_strs]; rfl
theorem eqv_strs {ks : List Str} (h : ∀ k ∈ ks, wordE (.str k) = true) : PyData.eqv (.list (ks.map .str)) (.list (ks.map .str)) = true := SeqAt.eqv_refl _ (by rw [PyData.canLay0, canLay_strs h])
theorem ab_word {z : Str} (h : z = Str.ofString "a" ∨ z = Str.ofString "b") : wordE (.str z) = true := by
  rcases h with rfl | rfl <;> decide +kernel
/-- None, or a word -/
def dV : V → PyData
  | .str s => .str s
  | _ => .none
def WdN (y : V) : Prop := y = .non ∨ ∃ s : Str, y = .str s ∧ wordE (.str s) = true
theorem dp_wd {K : PySem.W.Frag} {H : Hp} : ∀ {ys : List V}, (∀ y ∈ ys, WdN y) → DpAll K H ys (ys.map dV)
  | [], _ => .nil
  | y :: ys, h => by
    have t := dp_wd (K := K) (H := H) (ys := ys) fun z hz => h z (List.mem_cons_of_mem _ hz)
    rcases h y List.mem_cons_self with rfl | ⟨s, rfl, _⟩
    · exact .cons .non t
    · exact .cons (.str s) t
theorem canLay_wd : ∀ {ys : List V}, (∀ y ∈ ys, WdN y) → PyData.canLayAll0 (ys.map dV) = true
  | [], _ => rfl
  | y :: ys, h => by
    rw [List.map_cons, PyData.canLayAll0, canLay_wd fun t ht => h t (List.mem_cons_of_mem _ ht), Bool.and_true]
    rcases h y List.mem_cons_self with rfl | ⟨s, rfl, hs⟩
    · rfl
    · exact word_ok hs
theorem depth_wd : ∀ {ys : List V}, (∀ y ∈ ys, WdN y) → PyData.depthAll (ys.map dV) = 0
  | [], _ => rfl
  | y :: ys, h => by
    rw [List.map_cons, PyData.depthAll, depth_wd fun t ht => h t (List.mem_cons_of_mem _ ht)]
    rcases h y List.mem_cons_self with rfl | ⟨s, rfl, hs⟩ <;> rfl
theorem shaped_wd {ys : List V} (h : ∀ y ∈ ys, WdN y) : SeqAt.shaped (.list (ys.map dV)) = true := by
  unfold SeqAt.shaped
  rw [PyData.canLay0, canLay_wd h, PyData.depth, depth_wd h]; rfl
theorem eqv_wd {ys : List V} (h : ∀ y ∈ ys, WdN y) : PyData.eqv (.list (ys.map dV)) (.list (ys.map dV)) = true := SeqAt.eqv_refl _ (by rw [PyData.canLay0, canLay_wd h])
theorem told_word (l : List Int) (many : Int) : wordE (.str (told l many)) = true := by
  unfold told
  split
  · decide +kernel
  · split <;> decide +kernel
theorem answers_wd {many : Int} {ss : List Stp} {v : V} {ws more : List Str} (kind : v = .non ∨ ∃ z : Str, v = .str z) : ∀ y ∈ answers many ss v ws more, WdN y := fun y hy => by
  obtain ⟨i, _, rfl⟩ := List.mem_map.mp hy
  rcases kind with rfl | ⟨z, rfl⟩
  · exact .inl rfl
  · exact .inr ⟨_, rfl, told_word _ _⟩
section
variable {P : Program} {w : World} {K : PySem.W.Frag} {mg : Str → Option Value} {base : Heap}
theorem same_value {σ : L2.St} {H : Hp} {D : Ends} {C CO CW p x fr wl : Addr} {many : Int} {sts : List Stp} {ks ws : List Str} {v : V} (h3 : σ[3]? = some (some (.ref p))) (h4 : σ[4]? = some (some (.ref fr))) (h5 : σ[5]? = some (some (.ref x)))
    (h6 : σ[6]? = some (some (.ref wl))) (hw : H wl = some (.lst (ws.map V.str))) (hf : H fr = some (.tup (ks.map V.str)))
    (wab : ∀ z ∈ ws, z = Str.ofString "a" ∨ z = Str.ofString "b") (lw : ws.length ≤ 8) (asc : Asc ks) (wks : ∀ k ∈ ks, wordS k = true) (B : Both P w C CW CO H p x many sts ks v ws) (pos : 0 < (seen (sts.filter (isOpen ks)) many ws).length)
    (k : ∀ H', Same H H' → D.nx σ H') :
    tIfS (tOr (tTest (tOp (rNeD K) (tCB (MX.rListIt CW (spWIt CW) (spWLen P w CO CW)) (tCons (tVar 5) tNil)) (tVar 6)))
      (tOr (tTest (tOp rNe (tCB (rLenOwn CW (spWLen P w CO CW)) (tCons (tVar 5) tNil)) (tCB (fun xs H Q => ∃ p ys, xs = [V.ref p] ∧ (SqL K H p ys ∨ SqT K H p ys) ∧ Q (V.int ys.length) H) (tCons (tVar 6) tNil))))
        (tTest (tOp (MX.rEqN P w true) (tMeth CW "known" (spKn P w CO CW) [] E0 (tVar 5) tNil) (tCall (spWt P w C) [] E0 (tCons (tVar 3) (tCons (tVar 6) (tCons (tVar 4) tNil))))))))
      (tRet (tC (V.bl false))) tNext D σ H := by
  obtain ⟨M, oks, m1, m2, few, W, lks, inks, ab, kind⟩ := B
  obtain ⟨dx, frB, wlB, oD, nD, hx, BB⟩ := id W
  have wd : ∀ z ∈ ws, wordE (.str z) = true := fun z h => ab_word (wab z h)
  refine ⟨_, h5, ?_⟩
  dsimp only [tNil]
  refine list_wat W (by omega) fun q H1 o1 nq hq => ?_
  have e1 : Same H H1 := fun b o z => o1 _ _ z (ne_of_none z nq)
  have z0 : (!PyData.eqv (.list (ws.map .str)) (.list (ws.map .str))) = false := by rw [eqv_strs wd]; rfl
  refine ⟨_, h6, .list (ws.map .str), .list (ws.map .str), .lst (SqL.of hq) (dp_strs ws), .lst (SqL.of (e1 _ _ hw)) (dp_strs ws), shaped_strs wd, shaped_strs wd, false, congrArg V.bl z0, iteF ?_⟩
  have z1 : (!decide (V.int (ws.length : Int) = V.int ((ws.map V.str).length : Int))) = false := by rw [List.length_map, decide_eq_true rfl]; rfl
  refine ⟨_, h5, x, dx, _, rfl, e1 _ _ hx, x, many, sts, ks, ws, v, rfl, W.same e1, _, rfl, by omega, by omega, ?_⟩
  refine ⟨_, h6, wl, _, rfl, .inl (SqL.of (e1 _ _ hw)), rfl, false, congrArg V.bl z1, iteF ?_⟩
  refine ⟨_, h5, x, dx, _, rfl, e1 _ _ hx, w6_no.2.1, x, many, sts, ks, ws, v, rfl, W.same e1, by omega, asc_nd asc, fun k' _ => seen_marked_pos pos, fun H2 D2 e2 nD2 hD2 => ?_⟩
  have e12 := e1.trans e2
  refine ⟨_, h3, _, h6, _, h4, p, wl, fr, many, sts, ks, ws, rfl, M.same e12, oks, by omega, by omega, few, e12 _ _ hw, lw, ?_, e12 _ _ hf, by omega, asc, wks, pos, fun H3 D3 e3 nD3 hD3 => ?_⟩
  · intro z hz
    rcases wab z hz with rfl | rfl <;> decide +kernel
  refine ⟨D2, D3, _, _, rfl, rfl, e3 _ _ hD2, hD3, rfl, ?_, false, rfl, iteF (k _ (e12.trans e3))⟩
  intro pr hpr
  obtain ⟨k', hk', rfl⟩ := List.mem_map.mp hpr
  exact ⟨valV_tells hk', rfl⟩
end
end K1
end
section
/-! The law: four turns. -/
namespace K1
open PySem L2
theorem nxt {D : Ends} {σ : L2.St} {H : Hp} (h : D.nx σ H) : tNext D σ H := h
section
variable {P : Program} {w : World} {K : PySem.W.Frag} {mg : Str → Option Value} {base : Heap}
structure TxtLE (K : PySem.W.Frag) (mg : Str → Option Value) (CW CN fD fA fI fT fS fL fK : Addr) : Prop where
  len : mg "len" = none
  list : mg "list" = none
  range : mg "range" = none
  h_len_Watcher : PySem.W.findIn K (.ref CW) "__len__" = some (some (.ref fL))
  f_len_Watcher : PySem.W.isFn K (.ref fL) = true
  cl_Watcher : Cls K CW
  n_about : NoAttr K CW "about"
  m_ask : Meth K CW "ask" fA
  m_see : Meth K CW "see" fS
  m_known : Meth K CW "known" fK
  g_law_draw : mg "_law_draw" = some (.ref fD)
  k_law_draw : PySem.W.keepIn K (.ref fD) = true
  g_is_trace : mg "is_trace" = some (.ref fI)
  k_is_trace : PySem.W.keepIn K (.ref fI) = true
  g_watch : mg "watch" = some (.ref fT)
  k_watch : PySem.W.keepIn K (.ref fT) = true
  c_NotSeen : mg "NotSeen" = some (.ref CN)
  te_NotSeen : PySem.W.exmOne K (.ref CN) (.ref CN) = some true
set_option maxHeartbeats 1000000 in
theorem law_E {f C CO CW CS CN fD fA fI fT fS fL fK fW fC : Addr} {fdD fdA fdI fdT fdL fdK fdW : FuncData} {cdv : Value} {A : Around} {outer : List Env} {s : Shared} {H0 : Hp} {E : XK} {ns : List Int} (nO : CO ≠ CW) (nC : C ≠ CW) (T : TxtLE K mg CW CN fD fA fI fT fS fL fK)
    (I_Watcher : MX.ItL K CW fW fL) (G_iter_Watcher : FnOk P w K mg base CX0 1 fW fdW ["self"] (spWIt CW)) (b_iter_Watcher : Binds K fdW ["self"] []) (G_len_Watcher : FnOk P w K mg base CX0 1 fL fdL ["self"] (spWLen P w CO CW)) (b_len_Watcher : Binds K fdL ["self"] [])
    (G_law_draw : FnOk P w K mg base CX0 1 fD fdD ["script", "at", "many"] (spDraw K)) (b_law_draw : Binds K fdD ["script", "at", "many"] []) (G_ask : FnOk P w K mg base (L2.CX P w) 2 fA fdA ["self", "about"] (spAsk P w K CO CW CS)) (b_ask : Binds K fdA ["self", "about"] [])
    (G_is_trace : FnOk P w K mg base (L2.CX P w) 4 fI fdI ["machine", "trace", "free"] (spIsT C)) (b_is_trace : Binds K fdI ["machine", "trace", "free"] []) (G_watch : FnOk P w K mg base CX0 6 fT fdT ["machine", "trace", "free"] (spWt P w C)) (b_watch : Binds K fdT ["machine", "trace", "free"] [])
    (G_see : FnR P w K mg base (L2.CX P w) 4 fS (SeeR P w CO CW CN)) (C_Watcher : StX.CallO K CW fC) (G_call_Watcher : FnR P w K mg base (L2.CX P w) 5 fC (spCl P w CO CW CN)) (G_known : FnOk P w K mg base CX0 2 fK fdK ["self"] (spKn P w CO CW)) (b_known : Binds K fdK ["self"] [])
    (hr : Room 8 (cxOf CX0 P w K mg base nLaw "law" (defScope sLaw) f cdv A outer s H0 E).nox.A)
    (rest : ∃ t, PSs (cxOf CX0 P w K mg base nLaw "law" (defScope sLaw) f cdv A outer s H0 E).nox ((defBody sLaw).drop 5) t ∧ ∀ σ H D, LawG P w C CW CO σ H → (∀ H', D.rt (.bl true) H') → t D σ H) :
    ∃ t, PSs (cxOf CX0 P w K mg base nLaw "law" (defScope sLaw) f cdv A outer s H0 E).nox ((defBody sLaw).drop 4) t ∧ ∀ σ H D, LawE P w K C CW CO ns 0 σ H → (∀ H', D.rt (.bl true) H') → t D σ H := by
  have nd := scLaw.nd
  have hu := hr.units
  have hu1 : (cxOf CX0 P w K mg base nLaw "law" (defScope sLaw) f cdv A outer s H0 E).nox.A.units < cLine := Nat.lt_of_le_of_lt (Nat.le_add_right _ 64) hu
  have hr_len_Watcher : Room 2 _ := hr.mono (by decide)
  have hr_list_Watcher : Room 4 _ := hr.mono (by decide)
  have hr_law_draw : Room 1 _ := hr.mono (by decide)
  have hr_ask : Room 2 _ := hr.mono (by decide)
  have hr_is_trace : Room 4 _ := hr.mono (by decide)
  have hr_watch : Room 6 _ := hr.mono (by decide)
  have hr_see : Room 4 _ := hr.mono (by decide)
  have hr_call_Watcher : Room 5 _ := hr.mono (by decide)
  have hr_known : Room 2 _ := hr.mono (by decide)
  obtain ⟨tR, hR, restR⟩ := rest
  refine ⟨_, (pss_cons (ps_for PassesOwn.never rfl (pi_range1 (by rfl) T.range (pa_cons pe_int pa_nil)) (pg_name (i := 7) nd rfl (Or.inr rfl))
        (pss_cons (ps_set (i := 8) nd rfl (Or.inr rfl) (pe_lc (own := [("spot", 14)]) (by rfl) nd (pi_range1 (by rfl) T.range (pa_cons (pe_op op_add pe_int (pe_call G_law_draw hr_law_draw (by rfl) T.g_law_draw T.k_law_draw b_law_draw .nil pass0 (pa_cons (pv 0) (pa_cons (pe_op op_add pe_int (pe_op op_mul pe_int (pv 7))) (pa_cons pe_int pa_nil))))) pa_nil)) (blkOk_by (N := nLaw) (sc := defScope sLaw) (by decide +kernel)) (fun _ _ _ _ _ => (pg_name (i := 14) nd rfl (Or.inl rfl))) (fun _ _ _ _ _ => pts_nil) (fun _ _ _ _ _ => (pe_ix (ix_tupK (K := K) rfl) (pe_tup (pa_cons pe_str (pa_cons pe_str pa_nil))) (pe_call G_law_draw hr_law_draw (by rfl) T.g_law_draw T.k_law_draw b_law_draw .nil pass0 (pa_cons (pv 0) (pa_cons (pe_op op_add (pe_op op_add pe_int (pe_op op_mul pe_int (pv 7))) (pv 14)) (pa_cons pe_int pa_nil)))) (fun _ _ => rfl)))))
        (pss_cons (ps_if (PW.pt (pw_and (pt_cmpR (op_neD hu) (pv 4) (pe_tup pa_nil) (nomark _)) (pw_and1 (pt_cmpR op_eq (pe_call G_law_draw hr_law_draw (by rfl) T.g_law_draw T.k_law_draw b_law_draw .nil pass0 (pa_cons (pv 0) (pa_cons (pe_op op_add pe_int (pv 7)) (pa_cons pe_int pa_nil)))) pe_int (nomark _)))))
          (pss_one (ps_expr (pe_meth (pv 5) T.cl_Watcher T.m_ask G_ask hr_ask b_ask .nil passL (pa_cons (pe_ix ix_tup (pv 4) (pe_un un_neg pe_int) (fun _ _ => rfl)) pa_nil))))
          pss_nil)
        (pss_cons (ps_set (i := 9) nd rfl (Or.inl rfl) (pe_call G_is_trace hr_is_trace (by rfl) T.g_is_trace T.k_is_trace b_is_trace .nil passL (pa_cons (pv 3) (pa_cons (pe_op op_cat (pv 6) (pv 8)) (pa_cons (pv 4) pa_nil)))))
        (pss_cons (ps_try_only (Wout := fun _ _ _ _ => False) rfl rfl ⟨rfl, by decide, Or.inl T.c_NotSeen⟩ takes0 (fun W pn xe tk _ => (pss_cons (ps_set (i := 10) nd rfl (Or.inl rfl) (pe_ifExp (pt_cmpR op_eq (pe_callB (MX.call_lenK (K := K) rfl) (by rfl) T.len PySem.boot_len (pa_cons (pv 8) pa_nil)) pe_int (nomark _)) (pe_lst (pa_cons (MX.pe_callOT (pv 5) C_Watcher G_call_Watcher hr_call_Watcher (fun σ => passAt tk σ) (by exact (pa_cons (pe_ix (ix_listK (K := K) rfl) (pv 8) pe_int (fun _ _ => rfl)) pa_nil))) pa_nil)) (MX.pe_methP (pv 5) T.cl_Watcher T.m_see G_see hr_see (fun σ => passAt tk σ) (pa_cons (pe_ix (ix_listK (K := K) rfl) (pv 8) pe_int (fun _ _ => rfl)) (pa_cons (pe_ix (ix_listK (K := K) rfl) (pv 8) pe_int (fun _ _ => rfl)) pa_nil)))))
          (pss_cons (ps_if (pt_not (pt_val (pv 9)))
            (pss_one (ps_ret pe_bl))
            pss_nil)
          (pss_cons (ps_setLc (i := 11) (own := [("size", 15)]) (by rfl) nd rfl rfl (sw_true rfl rfl rfl (by decide +kernel)) (pi_range1 (by rfl) T.range (pa_cons (pe_callB (MX.call_lenK (K := K) rfl) (by rfl) T.len PySem.boot_len (pa_cons (pv 8) pa_nil)) pa_nil)) (blkOk_by (N := nLaw) (sc := defScope sLaw) (by decide +kernel)) (fun _ _ _ _ _ => (pg_name (i := 15) nd rfl (Or.inl rfl))) (fun _ _ _ _ _ => pts_nil) (fun _ _ _ _ _ => (MX.pe_get1NK (P := P) (w := w) rfl rfl (pe_call G_watch hr_watch (by rfl) T.g_watch T.k_watch b_watch .nil pass0 (pa_cons (pv 3) (pa_cons (pe_op op_cat (pv 6) (pe_slice (MX.sl_listK (K := K) rfl) (pv 8) po_none (po_some (pe_op op_add (pv 15) pe_int)))) (pa_cons (pv 4) pa_nil)))) (pe_fldK (K := K) rfl (pv 5) rfl) ⟨by rfl, by rfl, by rfl, by rfl⟩)))
          (pss_cons (ps_if (pt_cmpR (MX.op_neDK (K := K) rfl hu) (pv 10) (pv 11) (nomark _))
            (pss_one (ps_ret pe_bl))
            pss_nil)
          (pss_one (ps_set (i := 6) nd rfl (Or.inr rfl) (pe_op op_cat (pv 6) (pv 8))))))))) (fun a oe cls d pn hz hf => (pss_one (ps_if (pt_val (pv 9))
            (pss_one (ps_ret pe_bl))
            pss_nil))))
        (pss_one (ps_if (PW.pt (pw_or (pt_cmpR (op_neD hu) (pe_callTy (MX.call_listIt rfl I_Watcher G_iter_Watcher b_iter_Watcher G_len_Watcher b_len_Watcher hr_list_Watcher) (by rfl) T.list (by decide +kernel) (pa_cons (pv 5) pa_nil)) (pv 6) (nomark _)) (pw_or (pt_cmpR op_ne (pe_callB (call_lenOwn T.h_len_Watcher T.f_len_Watcher G_len_Watcher b_len_Watcher hr_len_Watcher pass0) (by rfl) T.len PySem.boot_len (pa_cons (pv 5) pa_nil)) (pe_callB call_len_seq (by rfl) T.len PySem.boot_len (pa_cons (pv 6) pa_nil)) (nomark _)) (pw_or1 (pt_cmpR (MX.op_neN hu1) (pe_meth0 (pv 5) T.cl_Watcher T.m_known G_known hr_known b_known .nil pass0) (pe_call G_watch hr_watch (by rfl) T.g_watch T.k_watch b_watch .nil pass0 (pa_cons (pv 3) (pa_cons (pv 6) (pa_cons (pv 4) pa_nil)))) (nomark _))))))
          (pss_one (ps_ret pe_bl))
          pss_nil)))))))
      hR), ?_⟩
  rintro σ H D h k
  refine into ?_
  refine for_in (fun tb htb => ?_)
  refine ⟨_, rfl, by decide, by decide, for_range (lo := 0) (n := 4) (fun j σ H' => LawE P w K C CW CO ns j σ H') h ?_ ?_⟩
  · rintro j σ H1 jlt ⟨a, p, fr, x, wl, many, sts, v, ws, s1, s2, s7, s8, s9, s10, s11, s12, s13, s14, s15, rfl, hS, hl, B, hfr, hw, lw, wab, pos⟩
    subst htb
    rw [show ((0 : Int) + (j : Int)) = (j : Int) from Int.zero_add _]
    obtain ⟨asc, lks, inks, wks⟩ := freeOf_asc ns
    have fo := freeOf_ok ns
    generalize efo : freeOf ns = ks at B hfr asc lks inks wks fo pos
    refine gN (into (more_value (a := a) (ns := ns) (j := j) rfl rfl rfl jlt hS hl fun H2 l e2 hm => gN ?_))
    have ml := moreOf_len ns j
    have mab := moreOf_ab ns j
    generalize emo : moreOf ns j = more at hm ml mab
    refine into (ask_value (C := C) (CO := CO) (a := a) (p := p) (fr := fr) (x := x) (many := many) (sts := sts) (ks := ks) (ws := ws) (v := v) (ns := ns) (j := j) nC rfl rfl rfl rfl jlt (e2.seq hS) hl (e2 _ _ hfr) fo (B.fi nC e2) fun H3 v3 o3 B3 => ?_)
    have B2 := B.fi nC e2
    obtain ⟨dxB, frB, wlB, oDB, nDB, hxB, _⟩ := id B2.2.2.2.2.2.1
    have f3 : Fi CW H2 H3 := Fi.off hxB (fun z => z rfl) o3
    have hS3 := sqL_off hxB o3 (e2.seq hS)
    have hfr3 := f3 _ _ (e2 _ _ hfr) trivial
    have hw3 := f3 _ _ (e2 _ _ hw) trivial
    have hm3 := f3 _ _ hm trivial
    clear hxB
    obtain ⟨M3, oks, m1, m2, few, W3, lks3, inks3, ab3, kind3⟩ := id B3
    dsimp only
    refine into ⟨_, rfl, _, rfl, _, rfl, wl, l, _, _, rfl, rfl, hw3, hm3, ?_, fun c nc => ?_⟩
    · rw [List.length_map, List.length_map, sizeLine_eq]; omega
    have g3 : Same H3 (upd H3 c (.lst (ws.map V.str ++ more.map V.str))) := same_new nc
    have hc3 : upd H3 c (.lst (ws.map V.str ++ more.map V.str)) c = some (.lst ((ws ++ more).map V.str)) := by rw [upd_same, List.map_append]
    refine ⟨_, rfl, p, c, fr, many, sts, ws ++ more, ks, rfl, M3.same g3, oks, by omega, by omega, by omega, hc3, g3 _ _ hfr3, by omega, asc, wks, ?_, fun H4 e4 => gN ?_⟩
    · intro z hz
      rcases List.mem_append.mp hz with h | h
      · rcases wab z h with rfl | rfl <;> decide +kernel
      · rcases mab z h with rfl | rfl <;> decide +kernel
    have W4 := W3.same (g3.trans e4)
    have M4 := M3.same (g3.trans e4)
    have B4 : Both P w C CW CO H4 p x many sts ks v3 ws := ⟨M4, oks, m1, m2, few, W4, lks3, inks3, ab3, kind3⟩
    have hm4 := e4 _ _ (g3 _ _ hm3)
    have hw4 := e4 _ _ (g3 _ _ hw3)
    have hfr4 := e4 _ _ (g3 _ _ hfr3)
    have hS4 := (g3.trans e4).seq hS3
    clear hc3 g3 e4
    dsimp only
    refine into (into (told_value (C := C) (CO := CO) (CW := CW) (CN := CN) (p := p) (x := x) (l := l) (many := many) (sts := sts) (ks := ks) (ws := ws) (more := more) (v := v3) rfl rfl hm4 ml mab (by omega) asc B4 pos (fun c H5 e5 => ?_) fun c H5 q o5 W5 hq => gN ?_))
    · refine ⟨true, T.te_NotSeen, fun _ a0 na => ?_, fun h => by cases h⟩
      refine ⟨_, rfl, false, congrArg V.bl (decide_eq_false (by omega)), iteF ?_⟩
      refine nxt ?_
      dsimp only
      refine same_value (C := C) (CO := CO) (CW := CW) (p := p) (x := x) (fr := fr) (wl := wl) (many := many) (sts := sts) (ks := ks) (ws := ws) (v := v3) rfl rfl rfl rfl (e5 _ _ hw4) (e5 _ _ hfr4) wab (by omega) asc wks (B4.fi nC e5) pos fun H6 e6 => ?_
      refine ⟨a, p, fr, x, wl, many, sts, v3, ws, s1, s2, some (.int (j : Int)), some (.ref l), _, s10, s11, s12, s13, s14, s15, rfl, (e5.trans e6).seq hS4, hl, ?_, ?_, (e5.trans e6) _ _ hw4, by omega, wab, ?_⟩
      · rw [efo]; exact B4.fi nC (e5.trans e6)
      · rw [efo]; exact (e5.trans e6) _ _ hfr4
      · rw [efo]; exact pos
    · obtain ⟨dx4, fr4, wl4, oD4, nD4, hx4, _⟩ := id W4
      obtain ⟨dx5, fr5, wl5, oD5, nD5, hx5, _⟩ := id W5
      have f5 : Fi CW H4 H5 := Fi.off hx4 (fun z => z rfl) o5
      have M5 := M4.fi nC f5
      have hm5 := f5 _ _ hm4 trivial
      have hw5 := f5 _ _ hw4 trivial
      have hfr5 := f5 _ _ hfr4 trivial
      have hS5 := sqL_off hx4 o5 hS4
      have wd := answers_wd (many := many) (ss := sts.filter (isOpen ks)) (ws := ws) (more := more) kind3
      refine into ⟨_, rfl, true, congrArg V.bl (decide_eq_true c), iteF ?_⟩
      refine nxt ?_
      dsimp only
      refine into (due_value (C := C) (CO := CO) (CW := CW) (p := p) (x := x) (l := l) (fr := fr) (wl := wl) (many := many) (sts := sts) (ks := ks) (ws := ws) (more := more) (v := v3) T.cl_Watcher T.n_about rfl rfl rfl rfl rfl rfl hm5 hw5 hfr5 ml mab wab (by omega) asc wks M5 oks m1 m2 few lks3 hx5 ab3 kind3 c fun H6 q6 e6 hq6 => gN ?_)
      have z0 : (!PyData.eqv (.list ((answers many (sts.filter (isOpen ks)) v3 ws more).map dV)) (.list ((answers many (sts.filter (isOpen ks)) v3 ws more).map dV))) = false := by rw [eqv_wd wd]; rfl
      dsimp only
      refine into ⟨_, rfl, _, rfl, .list _, .list _, .lst (SqL.of (e6 _ _ hq)) (dp_wd wd), .lst (SqL.of hq6) (dp_wd wd), shaped_wd wd, shaped_wd wd, false, congrArg V.bl z0, iteF ?_⟩
      refine nxt ?_
      dsimp only
      refine ⟨_, rfl, _, rfl, wl, l, _, _, rfl, rfl, e6 _ _ hw5, e6 _ _ hm5, ?_, fun d nd7 => gN ?_⟩
      · rw [List.length_map, List.length_map, sizeLine_eq]; omega
      have g7 : Same H6 (upd H6 d (.lst (ws.map V.str ++ more.map V.str))) := same_new nd7
      have hd7 : upd H6 d (.lst (ws.map V.str ++ more.map V.str)) d = some (.lst ((ws ++ more).map V.str)) := by rw [upd_same, List.map_append]
      have e57 := e6.trans g7
      have B7 : Both P w C CW CO (upd H6 d (.lst (ws.map V.str ++ more.map V.str))) p x many sts ks v3 (ws ++ more) := ⟨M5.same e57, oks, m1, m2, few, W5.same e57, lks3, inks3, ab3, kind3⟩
      have wab7 : ∀ z ∈ ws ++ more, z = Str.ofString "a" ∨ z = Str.ofString "b" := fun z hz => (List.mem_append.mp hz).elim (wab z) (mab z)
      have lw7 : (ws ++ more).length ≤ 2 * (j + 1) := by rw [List.length_append]; omega
      dsimp only
      refine same_value (C := C) (CO := CO) (CW := CW) (p := p) (x := x) (fr := fr) (wl := d) (many := many) (sts := sts) (ks := ks) (ws := ws ++ more) (v := v3) rfl rfl rfl rfl hd7 (e57 _ _ hfr5) wab7 (by omega) asc wks B7 c fun H8 e8 => ?_
      refine ⟨a, p, fr, x, d, many, sts, v3, ws ++ more, s1, s2, some (.int (j : Int)), some (.ref l), _, some (.ref q), some (.ref q6), s12, s13, s14, s15, rfl, (e57.trans e8).seq hS5, hl, ?_, ?_, e8 _ _ hd7, lw7, wab7, ?_⟩
      · rw [efo]; exact B7.fi nC e8
      · rw [efo]; exact (e57.trans e8) _ _ hfr5
      · rw [efo]; exact c
  · rintro σ H1 ⟨a, p, fr, x, wl, many, sts, v, ws, s1, s2, s7, s8, s9, s10, s11, s12, s13, s14, s15, rfl, hS, hl, B, hfr, hw, lw, wab, pos⟩
    exact restR _ _ D ⟨p, x, many, sts, freeOf ns, ws, v, some (.ref a), s1, s2, some (.ref fr), some (.ref wl), s7, s8, s9, s10, s11, s12, s13, s14, s15, rfl, B⟩ k
end
end K1
end
section
/-! The law as a whole. -/
namespace K1
open PySem L2
section
variable {P : Program} {w : World} {K : PySem.W.Frag} {mg : Str → Option Value} {base : Heap}
def spLaw (K : PySem.W.Frag) : Sp := fun vs H Q _ => ∃ (a : Addr) (ns : List Int), vs = [.ref a] ∧ SqL K H a (ns.map V.int) ∧ ns.length ≤ 63 ∧ ∀ H', Q (.bl true) H'
structure TxtAll (K : PySem.W.Frag) (mg : Str → Option Value) (C CW CS CN fL fW fD fM fA fI fT fS fK : Addr) : Prop where
  pA : TxtLA K mg C CW fL fW fD fM
  pE : TxtLE K mg CW CN fD fA fI fT fS fL fK
  pF : TxtLF K mg CW CS fA
  pG : TxtLG K mg CW fA
theorem ok_law {f C CB CO CW CS CN fX fJ fL fW fD fM fA fI fT fS fK fC : Addr} {fd fdX fdJ fdL fdW fdD fdM fdA fdI fdT fdK : FuncData} {ds : List Value} {gp : List Value → List Value → List Value} (nO : CO ≠ CW) (nC : C ≠ CW)
    (F : Fun K "law" "law" sLaw f fd) (T : TxtAll K mg C CW CS CN fL fW fD fM fA fI fT fS fK)
    (mM : Mk K C fX) (gM : FnOk P w K mg base (L2.CX P w) 4 fX fdX ["self", "many", "steps"] (spMInit K C CB)) (bM : Binds K fdX ["self", "many", "steps"] [])
    (mW : Mk K CW fJ) (gW : FnOk P w K mg base (L2.CX P w) 4 fJ fdJ ["self", "machine", "free", "about"] (spWInit P w K C CO CW CS)) (bW : Binds K fdJ ["self", "machine", "free", "about"] ds) (vW : Vals [V.non] ds) (kW : KBn K fdJ ["self", "machine", "free", "about"] 3 ["about"] gp (fun vs zs => vs ++ zs))
    (iW : MX.ItL K CW fW fL) (gIt : FnOk P w K mg base CX0 1 fW fdW ["self"] (spWIt CW)) (bIt : Binds K fdW ["self"] []) (gLen : FnOk P w K mg base CX0 1 fL fdL ["self"] (spWLen P w CO CW)) (bLen : Binds K fdL ["self"] [])
    (gMach : FnOk P w K mg base CX0 2 fM fdM ["script", "at", "most", "kinds", "words"] (spMach K)) (bMach : Binds K fdM ["script", "at", "most", "kinds", "words"] []) (gDraw : FnOk P w K mg base CX0 1 fD fdD ["script", "at", "many"] (spDraw K)) (bDraw : Binds K fdD ["script", "at", "many"] [])
    (gAsk : FnOk P w K mg base (L2.CX P w) 2 fA fdA ["self", "about"] (spAsk P w K CO CW CS)) (bAsk : Binds K fdA ["self", "about"] []) (gIs : FnOk P w K mg base (L2.CX P w) 4 fI fdI ["machine", "trace", "free"] (spIsT C)) (bIs : Binds K fdI ["machine", "trace", "free"] [])
    (gWt : FnOk P w K mg base CX0 6 fT fdT ["machine", "trace", "free"] (spWt P w C)) (bWt : Binds K fdT ["machine", "trace", "free"] []) (gSee : FnR P w K mg base (L2.CX P w) 4 fS (SeeR P w CO CW CN)) (cW : StX.CallO K CW fC) (gCall : FnR P w K mg base (L2.CX P w) 5 fC (spCl P w CO CW CN))
    (gKn : FnOk P w K mg base CX0 2 fK fdK ["self"] (spKn P w CO CW)) (bKn : Binds K fdK ["self"] []) : FnOk P w K mg base CX0 9 f fd ["script"] (spLaw K) := by
  refine F.ok scLaw (fun vs H Q E h => ?_) (fun cdv A outer s H vs Q E hr h => ?_)
  · obtain ⟨a, ns, rfl, _⟩ := h
    rfl
  · obtain ⟨a, ns, rfl, hS, hl, k⟩ := h
    have h8 : Room 8 (cxOf CX0 P w K mg base nLaw "law" (defScope sLaw) f cdv A outer s H E).nox.A := hr
    obtain ⟨t, h1, h2⟩ := law_A (ns := ns) nO nC T.pA mM gM bM mW gW bW vW iW gIt bIt gLen bLen gMach bMach gDraw bDraw h8
      (law_E (ns := ns) nO nC T.pE iW gIt bIt gLen bLen gDraw bDraw gAsk bAsk gIs bIs gWt bWt gSee cW gCall gKn bKn h8 (law_F nO nC T.pF mW gW kW gAsk bAsk h8 (law_G nO nC T.pG mW gW kW gAsk bAsk h8)))
    exact ⟨t, h1, h2 _ _ _ ⟨a, rfl, hS, hl⟩ k⟩
end
end K1
end
section
/-! From the promise to the goal that the bare head leaves. -/
namespace K1
open PySem L2
theorem from_law {l : PySem.W.OpenLaw} {q : Program} {loose : List Str} {XP : (Str → Option Value) → Heap → Prop} {YP : World → Heap → Prop} {d : DefRec} {K : Params → PySem.W.Frag} (hn : l.most = some 63) (hdf : d.params.defaults = [])
    (hY : ∀ (w : World) (h : Heap), YP w h → (K w.params).In h)
    (facts : ∀ (w : World) (mg : Str → Option Value) (fa : Addr) (h : Heap), (K w.params).In h → h.Ns mainGlobals mg → mg d.name = some (.ref fa) →
      ∃ fd : FuncData, Fun (K w.params) "law" "law" sLaw fa fd ∧ (∀ (s : Shared) (u : Value), BindsTo s fd ⟨[u], []⟩ [("script", u)]) ∧ ∀ base : Heap, (K w.params).In base → base.Ns mainGlobals mg → FnOk l.prog w (K w.params) mg base CX0 9 fa fd ["script"] (spLaw (K w.params))) : PySem.W.WalkO q loose XP YP l.row.toRowW d [] (fun f vs => PySem.call f vs) := L2.walk_of (n := 63) (k := 9) (x := "script") (CX := fun _ => CX0) (sp := fun w => spLaw (K w.params)) hn (by decide) hdf ⟨rfl, by decide, by decide⟩ hY (fun w mg fa h i g e => let ⟨fd, _, b, c⟩ := facts w mg fa h i g e; ⟨fd, b, c⟩)
    (fun _ _ a ns hl _ hS => ⟨a, ns, rfl, hS, hl, fun _ => rfl⟩) fun _ _ _ _ _ z => z
end K1
end
section
/-! How a watcher's __init__ takes what it is given. -/
namespace K1
open PySem L2
section
variable {K : PySem.W.Frag} {f : Addr} {fd : FuncData}
abbrev FunW (K : PySem.W.Frag) (f : Addr) (fd : FuncData) : Prop := FunD K "__init__" "Watcher.__init__" (defArgs sWI) (defBody sWI) (defScope sWI) [] [("about", .non)] f fd
theorem init_some (F : FunW K f fd) : ∃ gp, KBn K fd ["self", "machine", "free", "about"] 3 ["about"] gp (fun vs zs => vs ++ zs) := by
  have q : ∃ mv : List Value, KBn K fd ["self", "machine", "free", "about"] 3 ["about"] (fun us ws => us ++ ws) (fun vs zs => vs ++ zs) := by
    refine F.kbinds0 3 ["about"] [] (ps := ["self", "machine", "free", "about"]) (fun vs mz zs => vs ++ zs) (by simp) (fun q hq => by cases hq) (fun r1 _ r3 => r1.append r3) (fun D doc pm an cdv ct us mv ws l1 l2 l3 => ?_)
    match us, mv, ws, l1, l2, l3 with
    | [_, _, _], [], [_], _, _, _ => exact rfl
  obtain ⟨_, h⟩ := q
  exact ⟨_, h⟩
theorem init_none (F : FunW K f fd) : ∃ ds, Vals [V.non] ds ∧ Binds K fd ["self", "machine", "free", "about"] ds := by
  refine F.binds0 (ps := ["self", "machine", "free", "about"]) 3 (by simp) rfl fun D doc pm an cdv ct us ks l1 l2 => ?_
  match us, ks, l1, l2 with
  | [_, _, _], [_], _, _ => exact ⟨_, _, _, _, _, _, rfl, rfl, rfl⟩
theorem fnR_all {P : Program} {w : World} {mg : Str → Option Value} {base : Heap} {CX : CXT} {k : Nat} {ps : List Str} {sp : Sp} (F : FnOk P w K mg base CX k f fd ps sp) (hb : ∀ us : List Value, us.length = ps.length → bindArgs fd ⟨us, []⟩ = pure (ps.zip us)) : FnR P w K mg base CX k f sp :=
  fun A outer s H us vs Q E hr env r h => F.run A outer s H ⟨us, []⟩ us vs Q E hr env (.of_eq (hb us (by rw [← r.length]; exact F.len _ _ _ _ h))) r h
end
end K1
end
section
/-! From what the top has written to the law. -/
namespace K1
open PySem L2

theorem names_itself {K : PySem.W.Frag} {S : Addr} (sub : PySem.W.subIn K (.ref S) (.type "BaseException") = some true) (cls : PySem.W.isClsIn K S = true) (typ : PySem.W.typeIn K (.ref S) = some (.type "type")) (same : PySem.W.subIn K (.ref S) (.ref S) = some true) : PySem.W.exmOne K (.ref S) (.ref S) = some true := by
  have known : (PySem.W.clsIn K S).isSome = true := cls
  simp [PySem.W.exmOne, PySem.W.kitCls, sub, known, typ, same]

theorem all_mk {l : PySem.W.OpenLaw} {w : World} {K : PySem.W.Frag} {h : Heap} {mg : Str → Option Value} {fa : Addr} {CM CO CW fMInit fMLen fOInit fSpread fAfter fWI fWLen fWIt fCl fAsk fSee fKn fNum fWord fWordE fIsStep fOpen fOut fAsc fFree fIsT fAb fWt fMk fVer fDraw fMach fLaw DW CN CK CB fB cdaB ccB NB : Addr}
    {ocMInit kVMInit dcMInit pmMInit cdMInit ctMInit : Value} {odMInit anMInit : Option Addr} {slMInit : Array (Option Value)}
    {ocMLen kVMLen dcMLen pmMLen cdMLen ctMLen : Value} {odMLen anMLen : Option Addr} {slMLen : Array (Option Value)}
    {ocOInit kVOInit dcOInit pmOInit cdOInit ctOInit : Value} {odOInit anOInit : Option Addr} {slOInit : Array (Option Value)}
    {ocSpread kVSpread dcSpread pmSpread cdSpread ctSpread : Value} {odSpread anSpread : Option Addr} {slSpread : Array (Option Value)}
    {ocAfter kVAfter dcAfter pmAfter cdAfter ctAfter : Value} {odAfter anAfter : Option Addr} {slAfter : Array (Option Value)}
    {ocWI  dcWI pmWI cdWI ctWI : Value} {odWI anWI : Option Addr} {slWI : Array (Option Value)}
    {ocWLen kVWLen dcWLen pmWLen cdWLen ctWLen : Value} {odWLen anWLen : Option Addr} {slWLen : Array (Option Value)}
    {ocWIt kVWIt dcWIt pmWIt cdWIt ctWIt : Value} {odWIt anWIt : Option Addr} {slWIt : Array (Option Value)}
    {ocCl kVCl dcCl pmCl cdCl ctCl : Value} {odCl anCl : Option Addr} {slCl : Array (Option Value)}
    {ocAsk kVAsk dcAsk pmAsk cdAsk ctAsk : Value} {odAsk anAsk : Option Addr} {slAsk : Array (Option Value)}
    {ocSee kVSee dcSee pmSee cdSee ctSee : Value} {odSee anSee : Option Addr} {slSee : Array (Option Value)}
    {ocKn kVKn dcKn pmKn cdKn ctKn : Value} {odKn anKn : Option Addr} {slKn : Array (Option Value)}
    {ocNum kVNum dcNum pmNum cdNum ctNum : Value} {odNum anNum : Option Addr} {slNum : Array (Option Value)}
    {ocWord kVWord dcWord pmWord cdWord ctWord : Value} {odWord anWord : Option Addr} {slWord : Array (Option Value)}
    {ocWordE kVWordE dcWordE pmWordE cdWordE ctWordE : Value} {odWordE anWordE : Option Addr} {slWordE : Array (Option Value)}
    {ocIsStep kVIsStep dcIsStep pmIsStep cdIsStep ctIsStep : Value} {odIsStep anIsStep : Option Addr} {slIsStep : Array (Option Value)}
    {ocOpen kVOpen dcOpen pmOpen cdOpen ctOpen : Value} {odOpen anOpen : Option Addr} {slOpen : Array (Option Value)}
    {ocOut kVOut dcOut pmOut cdOut ctOut : Value} {odOut anOut : Option Addr} {slOut : Array (Option Value)}
    {ocAsc kVAsc dcAsc pmAsc cdAsc ctAsc : Value} {odAsc anAsc : Option Addr} {slAsc : Array (Option Value)}
    {ocFree kVFree dcFree pmFree cdFree ctFree : Value} {odFree anFree : Option Addr} {slFree : Array (Option Value)}
    {ocIsT kVIsT dcIsT pmIsT cdIsT ctIsT : Value} {odIsT anIsT : Option Addr} {slIsT : Array (Option Value)}
    {ocAb kVAb dcAb pmAb cdAb ctAb : Value} {odAb anAb : Option Addr} {slAb : Array (Option Value)}
    {ocWt kVWt dcWt pmWt cdWt ctWt : Value} {odWt anWt : Option Addr} {slWt : Array (Option Value)}
    {ocMk kVMk dcMk pmMk cdMk ctMk : Value} {odMk anMk : Option Addr} {slMk : Array (Option Value)}
    {ocVer kVVer dcVer pmVer cdVer ctVer : Value} {odVer anVer : Option Addr} {slVer : Array (Option Value)}
    {ocDraw kVDraw dcDraw pmDraw cdDraw ctDraw : Value} {odDraw anDraw : Option Addr} {slDraw : Array (Option Value)}
    {ocMach kVMach dcMach pmMach cdMach ctMach : Value} {odMach anMach : Option Addr} {slMach : Array (Option Value)}
    {ocLaw kVLaw dcLaw pmLaw cdLaw ctLaw : Value} {odLaw anLaw : Option Addr} {slLaw : Array (Option Value)}
    {nmB qB : Str} {bsB : List Value} {snB : List Str} {subB : List Value} {abB : Bool} {colB : Option Bool} {ddB odB anB cddB cldB : Option Addr} {j0B j1B j2B j3B j5B : Option Value} {ocB dcB pmB ctB cclB clB : Value} {slB ccsB cslB : Array (Option Value)} {vsB : Array Value} {fileB : Str} {tfB : Tok} {b1B : Addr}
    {tM : Nat}
    (X : K.In h) (G : h.Ns mainGlobals mg) (hfa : mg "law" = some (.ref fa))
    (gM : PySem.W.nsIn K mainGlobals "Machine" = some (some (.ref CM)))
    (pgM : PySem.W.plainGet K CM Str.empty = true)
    (hdM : PySem.W.hasDictIn K CM = true)
    (poM : PySem.W.plainOver K CM = true)
    (saM : PySem.W.findIn K (.ref CM) "__setattr__" = some (some (.builtin "object.__setattr__")))
    (mkM : PySem.W.makesIn K CM = true)
    (kcM : PySem.W.keepIn K (.ref CM) = true)
    (nMmany : PySem.W.findIn K (.ref CM) "many" = some none)
    (nMsteps : PySem.W.findIn K (.ref CM) "steps" = some none)
    (nMkinds : PySem.W.findIn K (.ref CM) "kinds" = some none)
    (nMwords : PySem.W.findIn K (.ref CM) "words" = some none)
    (nMby_state : PySem.W.findIn K (.ref CM) "by_state" = some none)
    (nM_known : PySem.W.findIn K (.ref CM) "_known" = some none)
    (gO : PySem.W.nsIn K mainGlobals "Outlook" = some (some (.ref CO)))
    (pgO : PySem.W.plainGet K CO Str.empty = true)
    (hdO : PySem.W.hasDictIn K CO = true)
    (poO : PySem.W.plainOver K CO = true)
    (saO : PySem.W.findIn K (.ref CO) "__setattr__" = some (some (.builtin "object.__setattr__")))
    (mkO : PySem.W.makesIn K CO = true)
    (kcO : PySem.W.keepIn K (.ref CO) = true)
    (nOunseen : PySem.W.findIn K (.ref CO) "unseen" = some none)
    (nOby_word : PySem.W.findIn K (.ref CO) "by_word" = some none)
    (gW : PySem.W.nsIn K mainGlobals "Watcher" = some (some (.ref CW)))
    (pgW : PySem.W.plainGet K CW Str.empty = true)
    (hdW : PySem.W.hasDictIn K CW = true)
    (poW : PySem.W.plainOver K CW = true)
    (saW : PySem.W.findIn K (.ref CW) "__setattr__" = some (some (.builtin "object.__setattr__")))
    (mkW : PySem.W.makesIn K CW = true)
    (kcW : PySem.W.keepIn K (.ref CW) = true)
    (nWabout : PySem.W.findIn K (.ref CW) "about" = some none)
    (nW_many : PySem.W.findIn K (.ref CW) "_many" = some none)
    (nW_free : PySem.W.findIn K (.ref CW) "_free" = some none)
    (nW_words : PySem.W.findIn K (.ref CW) "_words" = some none)
    (nW_outlooks : PySem.W.findIn K (.ref CW) "_outlooks" = some none)
    (nW_now : PySem.W.findIn K (.ref CW) "_now" = some none)
    (aMInit : PySem.W.findIn K (.ref CM) "__init__" = some (some (.ref fMInit)))
    (iMInit : PySem.W.isFn K (.ref fMInit) = true)
    (lMInit : K.lookup fMInit = some ⟨ocMInit, odMInit, .func (PySem.W.fnOf "__init__" "Machine.__init__" (defArgs sMInit) (defBody sMInit) (defScope sMInit) .none kVMInit dcMInit pmMInit anMInit cdMInit ctMInit), slMInit⟩)
    (cMInit : PySem.W.codeIn K cdMInit "Machine.__init__" = true)
    (kMInit : PySem.W.keepIn K (.ref fMInit) = true)
    (aMLen : PySem.W.findIn K (.ref CM) "__len__" = some (some (.ref fMLen)))
    (iMLen : PySem.W.isFn K (.ref fMLen) = true)
    (lMLen : K.lookup fMLen = some ⟨ocMLen, odMLen, .func (PySem.W.fnOf "__len__" "Machine.__len__" (defArgs sMLen) (defBody sMLen) (defScope sMLen) .none kVMLen dcMLen pmMLen anMLen cdMLen ctMLen), slMLen⟩)
    (cMLen : PySem.W.codeIn K cdMLen "Machine.__len__" = true)
    (kMLen : PySem.W.keepIn K (.ref fMLen) = true)
    (aOInit : PySem.W.findIn K (.ref CO) "__init__" = some (some (.ref fOInit)))
    (iOInit : PySem.W.isFn K (.ref fOInit) = true)
    (lOInit : K.lookup fOInit = some ⟨ocOInit, odOInit, .func (PySem.W.fnOf "__init__" "Outlook.__init__" (defArgs sOInit) (defBody sOInit) (defScope sOInit) .none kVOInit dcOInit pmOInit anOInit cdOInit ctOInit), slOInit⟩)
    (cOInit : PySem.W.codeIn K cdOInit "Outlook.__init__" = true)
    (kOInit : PySem.W.keepIn K (.ref fOInit) = true)
    (aSpread : PySem.W.findIn K (.ref CO) "spread" = some (some (.ref fSpread)))
    (iSpread : PySem.W.isFn K (.ref fSpread) = true)
    (lSpread : K.lookup fSpread = some ⟨ocSpread, odSpread, .func (PySem.W.fnOf "spread" "Outlook.spread" (defArgs sSpread) (defBody sSpread) (defScope sSpread) .none kVSpread dcSpread pmSpread anSpread cdSpread ctSpread), slSpread⟩)
    (cSpread : PySem.W.codeIn K cdSpread "Outlook.spread" = true)
    (kSpread : PySem.W.keepIn K (.ref fSpread) = true)
    (aAfter : PySem.W.findIn K (.ref CO) "after" = some (some (.ref fAfter)))
    (iAfter : PySem.W.isFn K (.ref fAfter) = true)
    (lAfter : K.lookup fAfter = some ⟨ocAfter, odAfter, .func (PySem.W.fnOf "after" "Outlook.after" (defArgs sAfter) (defBody sAfter) (defScope sAfter) .none kVAfter dcAfter pmAfter anAfter cdAfter ctAfter), slAfter⟩)
    (cAfter : PySem.W.codeIn K cdAfter "Outlook.after" = true)
    (kAfter : PySem.W.keepIn K (.ref fAfter) = true)
    (aWI : PySem.W.findIn K (.ref CW) "__init__" = some (some (.ref fWI)))
    (iWI : PySem.W.isFn K (.ref fWI) = true)
    (lWI : K.lookup fWI = some ⟨ocWI, odWI, .func (PySem.W.fnOf "__init__" "Watcher.__init__" (defArgs sWI) (defBody sWI) (defScope sWI) .none (.ref DW) dcWI pmWI anWI cdWI ctWI), slWI⟩)
    (cWI : PySem.W.codeIn K cdWI "Watcher.__init__" = true)
    (kWI : PySem.W.keepIn K (.ref fWI) = true)
    (aWLen : PySem.W.findIn K (.ref CW) "__len__" = some (some (.ref fWLen)))
    (iWLen : PySem.W.isFn K (.ref fWLen) = true)
    (lWLen : K.lookup fWLen = some ⟨ocWLen, odWLen, .func (PySem.W.fnOf "__len__" "Watcher.__len__" (defArgs sWLen) (defBody sWLen) (defScope sWLen) .none kVWLen dcWLen pmWLen anWLen cdWLen ctWLen), slWLen⟩)
    (cWLen : PySem.W.codeIn K cdWLen "Watcher.__len__" = true)
    (kWLen : PySem.W.keepIn K (.ref fWLen) = true)
    (aWIt : PySem.W.findIn K (.ref CW) "__iter__" = some (some (.ref fWIt)))
    (iWIt : PySem.W.isFn K (.ref fWIt) = true)
    (lWIt : K.lookup fWIt = some ⟨ocWIt, odWIt, .func (PySem.W.fnOf "__iter__" "Watcher.__iter__" (defArgs sWIt) (defBody sWIt) (defScope sWIt) .none kVWIt dcWIt pmWIt anWIt cdWIt ctWIt), slWIt⟩)
    (cWIt : PySem.W.codeIn K cdWIt "Watcher.__iter__" = true)
    (kWIt : PySem.W.keepIn K (.ref fWIt) = true)
    (aCl : PySem.W.findIn K (.ref CW) "__call__" = some (some (.ref fCl)))
    (iCl : PySem.W.isFn K (.ref fCl) = true)
    (lCl : K.lookup fCl = some ⟨ocCl, odCl, .func (PySem.W.fnOf "__call__" "Watcher.__call__" (defArgs sCl) (defBody sCl) (defScope sCl) .none kVCl dcCl pmCl anCl cdCl ctCl), slCl⟩)
    (cCl : PySem.W.codeIn K cdCl "Watcher.__call__" = true)
    (kCl : PySem.W.keepIn K (.ref fCl) = true)
    (aAsk : PySem.W.findIn K (.ref CW) "ask" = some (some (.ref fAsk)))
    (iAsk : PySem.W.isFn K (.ref fAsk) = true)
    (lAsk : K.lookup fAsk = some ⟨ocAsk, odAsk, .func (PySem.W.fnOf "ask" "Watcher.ask" (defArgs sAsk) (defBody sAsk) (defScope sAsk) .none kVAsk dcAsk pmAsk anAsk cdAsk ctAsk), slAsk⟩)
    (cAsk : PySem.W.codeIn K cdAsk "Watcher.ask" = true)
    (kAsk : PySem.W.keepIn K (.ref fAsk) = true)
    (aSee : PySem.W.findIn K (.ref CW) "see" = some (some (.ref fSee)))
    (iSee : PySem.W.isFn K (.ref fSee) = true)
    (lSee : K.lookup fSee = some ⟨ocSee, odSee, .func (PySem.W.fnOf "see" "Watcher.see" (defArgs sSee) (defBody sSee) (defScope sSee) .none kVSee dcSee pmSee anSee cdSee ctSee), slSee⟩)
    (cSee : PySem.W.codeIn K cdSee "Watcher.see" = true)
    (kSee : PySem.W.keepIn K (.ref fSee) = true)
    (aKn : PySem.W.findIn K (.ref CW) "known" = some (some (.ref fKn)))
    (iKn : PySem.W.isFn K (.ref fKn) = true)
    (lKn : K.lookup fKn = some ⟨ocKn, odKn, .func (PySem.W.fnOf "known" "Watcher.known" (defArgs sKn) (defBody sKn) (defScope sKn) .none kVKn dcKn pmKn anKn cdKn ctKn), slKn⟩)
    (cKn : PySem.W.codeIn K cdKn "Watcher.known" = true)
    (kKn : PySem.W.keepIn K (.ref fKn) = true)
    (aNum : PySem.W.nsIn K mainGlobals "is_number" = some (some (.ref fNum)))
    (lNum : K.lookup fNum = some ⟨ocNum, odNum, .func (PySem.W.fnOf "is_number" "is_number" (defArgs sNum) (defBody sNum) (defScope sNum) .none kVNum dcNum pmNum anNum cdNum ctNum), slNum⟩)
    (cNum : PySem.W.codeIn K cdNum "is_number" = true)
    (kNum : PySem.W.keepIn K (.ref fNum) = true)
    (aWord : PySem.W.nsIn K mainGlobals "is_word" = some (some (.ref fWord)))
    (lWord : K.lookup fWord = some ⟨ocWord, odWord, .func (PySem.W.fnOf "is_word" "is_word" (defArgs sWord) (defBody sWord) (defScope sWord) .none kVWord dcWord pmWord anWord cdWord ctWord), slWord⟩)
    (cWord : PySem.W.codeIn K cdWord "is_word" = true)
    (kWord : PySem.W.keepIn K (.ref fWord) = true)
    (aWordE : PySem.W.nsIn K mainGlobals "is_word_or_empty" = some (some (.ref fWordE)))
    (lWordE : K.lookup fWordE = some ⟨ocWordE, odWordE, .func (PySem.W.fnOf "is_word_or_empty" "is_word_or_empty" (defArgs sWordE) (defBody sWordE) (defScope sWordE) .none kVWordE dcWordE pmWordE anWordE cdWordE ctWordE), slWordE⟩)
    (cWordE : PySem.W.codeIn K cdWordE "is_word_or_empty" = true)
    (kWordE : PySem.W.keepIn K (.ref fWordE) = true)
    (aIsStep : PySem.W.nsIn K mainGlobals "is_step" = some (some (.ref fIsStep)))
    (lIsStep : K.lookup fIsStep = some ⟨ocIsStep, odIsStep, .func (PySem.W.fnOf "is_step" "is_step" (defArgs sIsStep) (defBody sIsStep) (defScope sIsStep) .none kVIsStep dcIsStep pmIsStep anIsStep cdIsStep ctIsStep), slIsStep⟩)
    (cIsStep : PySem.W.codeIn K cdIsStep "is_step" = true)
    (kIsStep : PySem.W.keepIn K (.ref fIsStep) = true)
    (aOpen : PySem.W.nsIn K mainGlobals "open_steps" = some (some (.ref fOpen)))
    (lOpen : K.lookup fOpen = some ⟨ocOpen, odOpen, .func (PySem.W.fnOf "open_steps" "open_steps" (defArgs sOpen) (defBody sOpen) (defScope sOpen) .none kVOpen dcOpen pmOpen anOpen cdOpen ctOpen), slOpen⟩)
    (cOpen : PySem.W.codeIn K cdOpen "open_steps" = true)
    (kOpen : PySem.W.keepIn K (.ref fOpen) = true)
    (aOut : PySem.W.nsIn K mainGlobals "outlook_of" = some (some (.ref fOut)))
    (lOut : K.lookup fOut = some ⟨ocOut, odOut, .func (PySem.W.fnOf "outlook_of" "outlook_of" (defArgs sOut) (defBody sOut) (defScope sOut) .none kVOut dcOut pmOut anOut cdOut ctOut), slOut⟩)
    (cOut : PySem.W.codeIn K cdOut "outlook_of" = true)
    (kOut : PySem.W.keepIn K (.ref fOut) = true)
    (aAsc : PySem.W.nsIn K mainGlobals "is_ascending" = some (some (.ref fAsc)))
    (lAsc : K.lookup fAsc = some ⟨ocAsc, odAsc, .func (PySem.W.fnOf "is_ascending" "is_ascending" (defArgs sAsc) (defBody sAsc) (defScope sAsc) .none kVAsc dcAsc pmAsc anAsc cdAsc ctAsc), slAsc⟩)
    (cAsc : PySem.W.codeIn K cdAsc "is_ascending" = true)
    (kAsc : PySem.W.keepIn K (.ref fAsc) = true)
    (aFree : PySem.W.nsIn K mainGlobals "check_free" = some (some (.ref fFree)))
    (lFree : K.lookup fFree = some ⟨ocFree, odFree, .func (PySem.W.fnOf "check_free" "check_free" (defArgs sFree) (defBody sFree) (defScope sFree) .none kVFree dcFree pmFree anFree cdFree ctFree), slFree⟩)
    (cFree : PySem.W.codeIn K cdFree "check_free" = true)
    (kFree : PySem.W.keepIn K (.ref fFree) = true)
    (aIsT : PySem.W.nsIn K mainGlobals "is_trace" = some (some (.ref fIsT)))
    (lIsT : K.lookup fIsT = some ⟨ocIsT, odIsT, .func (PySem.W.fnOf "is_trace" "is_trace" (defArgs sIsT) (defBody sIsT) (defScope sIsT) .none kVIsT dcIsT pmIsT anIsT cdIsT ctIsT), slIsT⟩)
    (cIsT : PySem.W.codeIn K cdIsT "is_trace" = true)
    (kIsT : PySem.W.keepIn K (.ref fIsT) = true)
    (aAb : PySem.W.nsIn K mainGlobals "check_about" = some (some (.ref fAb)))
    (lAb : K.lookup fAb = some ⟨ocAb, odAb, .func (PySem.W.fnOf "check_about" "check_about" (defArgs sAb) (defBody sAb) (defScope sAb) .none kVAb dcAb pmAb anAb cdAb ctAb), slAb⟩)
    (cAb : PySem.W.codeIn K cdAb "check_about" = true)
    (kAb : PySem.W.keepIn K (.ref fAb) = true)
    (aWt : PySem.W.nsIn K mainGlobals "watch" = some (some (.ref fWt)))
    (lWt : K.lookup fWt = some ⟨ocWt, odWt, .func (PySem.W.fnOf "watch" "watch" (defArgs sWt) (defBody sWt) (defScope sWt) .none kVWt dcWt pmWt anWt cdWt ctWt), slWt⟩)
    (cWt : PySem.W.codeIn K cdWt "watch" = true)
    (kWt : PySem.W.keepIn K (.ref fWt) = true)
    (aMk : PySem.W.nsIn K mainGlobals "marked_steps" = some (some (.ref fMk)))
    (lMk : K.lookup fMk = some ⟨ocMk, odMk, .func (PySem.W.fnOf "marked_steps" "marked_steps" (defArgs sMk) (defBody sMk) (defScope sMk) .none kVMk dcMk pmMk anMk cdMk ctMk), slMk⟩)
    (cMk : PySem.W.codeIn K cdMk "marked_steps" = true)
    (kMk : PySem.W.keepIn K (.ref fMk) = true)
    (aVer : PySem.W.nsIn K mainGlobals "verdict" = some (some (.ref fVer)))
    (lVer : K.lookup fVer = some ⟨ocVer, odVer, .func (PySem.W.fnOf "verdict" "verdict" (defArgs sVer) (defBody sVer) (defScope sVer) .none kVVer dcVer pmVer anVer cdVer ctVer), slVer⟩)
    (cVer : PySem.W.codeIn K cdVer "verdict" = true)
    (kVer : PySem.W.keepIn K (.ref fVer) = true)
    (aDraw : PySem.W.nsIn K mainGlobals "_law_draw" = some (some (.ref fDraw)))
    (lDraw : K.lookup fDraw = some ⟨ocDraw, odDraw, .func (PySem.W.fnOf "_law_draw" "_law_draw" (defArgs sDraw) (defBody sDraw) (defScope sDraw) .none kVDraw dcDraw pmDraw anDraw cdDraw ctDraw), slDraw⟩)
    (cDraw : PySem.W.codeIn K cdDraw "_law_draw" = true)
    (kDraw : PySem.W.keepIn K (.ref fDraw) = true)
    (aMach : PySem.W.nsIn K mainGlobals "_law_machine" = some (some (.ref fMach)))
    (lMach : K.lookup fMach = some ⟨ocMach, odMach, .func (PySem.W.fnOf "_law_machine" "_law_machine" (defArgs sMach) (defBody sMach) (defScope sMach) .none kVMach dcMach pmMach anMach cdMach ctMach), slMach⟩)
    (cMach : PySem.W.codeIn K cdMach "_law_machine" = true)
    (kMach : PySem.W.keepIn K (.ref fMach) = true)
    (aLaw : PySem.W.nsIn K mainGlobals "law" = some (some (.ref fLaw)))
    (lLaw : K.lookup fLaw = some ⟨ocLaw, odLaw, .func (PySem.W.fnOf "law" "law" (defArgs sLaw) (defBody sLaw) (defScope sLaw) .none kVLaw dcLaw pmLaw anLaw cdLaw ctLaw), slLaw⟩)
    (cLaw : PySem.W.codeIn K cdLaw "law" = true)
    (kLaw : PySem.W.keepIn K (.ref fLaw) = true)
    (dW : PySem.W.nsIn K DW "about" = some (some .none))
    (gfSee : PySem.W.specialIn K (.ref fSee) "__get__" = some (some (.builtin "function.__get__")))
    (tkSee : PySem.W.takesIn K (.ref fSee) = some false)
    (fiSee : PySem.W.fnIn K fSee = true)
    (fiCl : PySem.W.fnIn K fCl = true)
    (nCW : CM ≠ CW)
    (nOW : CO ≠ CW)
    (gN : PySem.W.nsIn K mainGlobals "NotSeen" = some (some (.ref CN)))
    (xN : PySem.W.excIn K CN [.type "ValueError", .type "Exception", .type "BaseException", .type "object"] "ValueError.__new__" = true)
    (kcN : PySem.W.keepIn K (.ref CN) = true)
    (bN : PySem.W.subIn K (.ref CN) (.type "BaseException") = some true)
    (tN : PySem.W.typeIn K (.ref CN) = some (.type "type"))
    (gK : PySem.W.nsIn K mainGlobals "BadKinds" = some (some (.ref CK)))
    (xK : PySem.W.excIn K CK [.type "ValueError", .type "Exception", .type "BaseException", .type "object"] "ValueError.__new__" = true)
    (kcK : PySem.W.keepIn K (.ref CK) = true)
    (bK : PySem.W.subIn K (.ref CK) (.type "BaseException") = some true)
    (tK : PySem.W.typeIn K (.ref CK) = some (.type "type"))
    (iN : PySem.W.isClsIn K CN = true)
    (sN : PySem.W.subIn K (.ref CN) (.ref CN) = some true)
    (iK : PySem.W.isClsIn K CK = true)
    (sK : PySem.W.subIn K (.ref CK) (.ref CK) = some true)
    (gB : PySem.W.nsIn K mainGlobals "BadMachine" = some (some (.ref CB)))
    (xB : K.lookup CB = some (excClassObj nmB qB CB NB bsB [.ref b1B, .type "ValueError", .type "Exception", .type "BaseException", .type "object"] true snB subB abB colB ddB j0B j1B j2B j3B j5B "ValueError.__new__"))
    (saB : PySem.W.findIn K (.ref CB) "__setattr__" = some (some (.builtin "object.__setattr__")))
    (gaB : PySem.W.findIn K (.ref CB) "__getattribute__" = some (some (.builtin "BaseException.__getattribute__")))
    (ggB : PySem.W.findIn K (.ref CB) "__getattr__" = some none)
    (noB : PySem.W.findIn K (.ref CB) "place" = some none)
    (aB : PySem.W.findIn K (.ref CB) "__init__" = some (some (.ref fB)))
    (tB : PySem.W.typeIn K (.ref fB) = some (.type "function"))
    (kcB : PySem.W.keepIn K (.ref CB) = true)
    (eB : PySem.W.subIn K (.ref CB) (.type "BaseException") = some true)
    (vB : PySem.W.subIn K (.ref CB) (.type "ValueError") = some true)
    (yB : PySem.W.typeIn K (.ref CB) = some (.type "type"))
    (hdB : PySem.W.hasDictIn K CB = true)
    (iB : PySem.W.isClsIn K CB = true)
    (sB : PySem.W.subIn K (.ref CB) (.ref CB) = some true)
    (suB : PySem.W.ks_superIn K CB CB "__init__" = some (some (.builtin "ValueError.__init__")))
    (exB : PySem.W.excInitIn K CB PySem.HandSPX.veTail "ValueError.__new__" = true)
    (seB : PySem.W.mroIn K CB (.ref CB) = some true)
    (lB : K.lookup fB = some ⟨ocB, odB, .func (PySem.W.ksFn "__init__" "BadMachine.__init__" (PySem.PlX.args ⟨9, 17, 9, 21⟩ ⟨9, 23, 9, 28⟩) (PySem.PlX.body "not a machine, place " ⟨⟨10, 27, 10, 48⟩, ⟨10, 49, 10, 54⟩, ⟨10, 48, 10, 55⟩, ⟨10, 25, 10, 56⟩, ⟨10, 8, 10, 13⟩, ⟨10, 8, 10, 15⟩, ⟨10, 8, 10, 24⟩, ⟨10, 8, 10, 57⟩, ⟨10, 8, 10, 57⟩, ⟨11, 8, 11, 12⟩, ⟨11, 8, 11, 18⟩, ⟨11, 21, 11, 26⟩, ⟨11, 8, 11, 26⟩⟩) PySem.PlX.scope .none .none dcB pmB anB (.ref cdaB) ctB ccB), slB⟩)
    (cB : PySem.W.codeIn K (.ref cdaB) "BadMachine.__init__" = true)
    (dB : K.lookup cdaB = some ⟨cclB, cddB, .fields vsB, ccsB⟩)
    (vfB : vsB[2]? = some (.str fileB tfB))
    (pfB : ((l.prog.main.file : Str) == fileB) = true)
    (ceB : K.lookup ccB = some ⟨clB, cldB, .cell (some (.ref CB)), cslB⟩)
    (z_type : PySem.W.nsIn K mainGlobals "type" = some none)
    (z_int : PySem.W.nsIn K mainGlobals "int" = some none)
    (z_str : PySem.W.nsIn K mainGlobals "str" = some none)
    (z_isinstance : PySem.W.nsIn K mainGlobals "isinstance" = some none)
    (z_len : PySem.W.nsIn K mainGlobals "len" = some none)
    (z_list : PySem.W.nsIn K mainGlobals "list" = some none)
    (z_tuple : PySem.W.nsIn K mainGlobals "tuple" = some none)
    (z_enumerate : PySem.W.nsIn K mainGlobals "enumerate" = some none)
    (z_sorted : PySem.W.nsIn K mainGlobals "sorted" = some none)
    (z_set : PySem.W.nsIn K mainGlobals "set" = some none)
    (z_range : PySem.W.nsIn K mainGlobals "range" = some none)
    (z_all : PySem.W.nsIn K mainGlobals "all" = some none)
    (z_zip : PySem.W.nsIn K mainGlobals "zip" = some none)
    (z_iter : PySem.W.nsIn K mainGlobals "iter" = some none)
    (z_super : PySem.W.nsIn K mainGlobals "super" = some none)
    (z_opq : PySem.W.nsIn K cStatics "thirdparty.any" = some none)
    (z_top : (l.prog.main.scope.names.lookup ("super" : Str)).isSome = false)
    (z_most : PySem.W.nsIn K mainGlobals "MOST_STATES" = some (some (.int 3000 tM))) :
    ∃ fd : FuncData, Fun K "law" "law" sLaw fa fd ∧ (∀ (s : Shared) (u : Value), BindsTo s fd ⟨[u], []⟩ [("script", u)]) ∧ ∀ base : Heap, K.In base → base.Ns mainGlobals mg → FnOk l.prog w K mg base CX0 9 fa fd ["script"] (spLaw K) := by
  have e := hfa.symm.trans (PySem.W.mg_of X G aLaw)
  cases e
  have w_type := PySem.W.mg_none_of X G z_type
  have w_int := PySem.W.mg_none_of X G z_int
  have w_str := PySem.W.mg_none_of X G z_str
  have w_isinstance := PySem.W.mg_none_of X G z_isinstance
  have w_len := PySem.W.mg_none_of X G z_len
  have w_list := PySem.W.mg_none_of X G z_list
  have w_tuple := PySem.W.mg_none_of X G z_tuple
  have w_enumerate := PySem.W.mg_none_of X G z_enumerate
  have w_sorted := PySem.W.mg_none_of X G z_sorted
  have w_set := PySem.W.mg_none_of X G z_set
  have w_range := PySem.W.mg_none_of X G z_range
  have w_all := PySem.W.mg_none_of X G z_all
  have w_zip := PySem.W.mg_none_of X G z_zip
  have w_iter := PySem.W.mg_none_of X G z_iter
  have w_super := PySem.W.mg_none_of X G z_super
  have m_M := PySem.W.mg_of X G gM
  have m_O := PySem.W.mg_of X G gO
  have m_W := PySem.W.mg_of X G gW
  have m_N := PySem.W.mg_of X G gN
  have m_K := PySem.W.mg_of X G gK
  have m_B := PySem.W.mg_of X G gB
  have m_most := PySem.W.mg_of X G z_most
  have m_Num := PySem.W.mg_of X G aNum
  have m_Word := PySem.W.mg_of X G aWord
  have m_WordE := PySem.W.mg_of X G aWordE
  have m_IsStep := PySem.W.mg_of X G aIsStep
  have m_Open := PySem.W.mg_of X G aOpen
  have m_Out := PySem.W.mg_of X G aOut
  have m_Asc := PySem.W.mg_of X G aAsc
  have m_Free := PySem.W.mg_of X G aFree
  have m_IsT := PySem.W.mg_of X G aIsT
  have m_Ab := PySem.W.mg_of X G aAb
  have m_Wt := PySem.W.mg_of X G aWt
  have m_Mk := PySem.W.mg_of X G aMk
  have m_Ver := PySem.W.mg_of X G aVer
  have m_Draw := PySem.W.mg_of X G aDraw
  have m_Mach := PySem.W.mg_of X G aMach
  have m_Law := PySem.W.mg_of X G aLaw
  have FMInit := fun_mk (st := sMInit) lMInit cMInit kMInit
  have FMLen := fun_mk (st := sMLen) lMLen cMLen kMLen
  have FOInit := fun_mk (st := sOInit) lOInit cOInit kOInit
  have FSpread := fun_mk (st := sSpread) lSpread cSpread kSpread
  have FAfter := fun_mk (st := sAfter) lAfter cAfter kAfter
  have FWI := fun_mk (st := sWI) lWI cWI kWI
  have FWLen := fun_mk (st := sWLen) lWLen cWLen kWLen
  have FWIt := fun_mk (st := sWIt) lWIt cWIt kWIt
  have FCl := fun_mk (st := sCl) lCl cCl kCl
  have FAsk := fun_mk (st := sAsk) lAsk cAsk kAsk
  have FSee := fun_mk (st := sSee) lSee cSee kSee
  have FKn := fun_mk (st := sKn) lKn cKn kKn
  have FNum := fun_mk (st := sNum) lNum cNum kNum
  have FWord := fun_mk (st := sWord) lWord cWord kWord
  have FWordE := fun_mk (st := sWordE) lWordE cWordE kWordE
  have FIsStep := fun_mk (st := sIsStep) lIsStep cIsStep kIsStep
  have FOpen := fun_mk (st := sOpen) lOpen cOpen kOpen
  have FOut := fun_mk (st := sOut) lOut cOut kOut
  have FAsc := fun_mk (st := sAsc) lAsc cAsc kAsc
  have FFree := fun_mk (st := sFree) lFree cFree kFree
  have FIsT := fun_mk (st := sIsT) lIsT cIsT kIsT
  have FAb := fun_mk (st := sAb) lAb cAb kAb
  have FWt := fun_mk (st := sWt) lWt cWt kWt
  have FMk := fun_mk (st := sMk) lMk cMk kMk
  have FVer := fun_mk (st := sVer) lVer cVer kVer
  have FDraw := fun_mk (st := sDraw) lDraw cDraw kDraw
  have FMach := fun_mk (st := sMach) lMach cMach kMach
  have FLaw := fun_mk (st := sLaw) lLaw cLaw kLaw
  have bMInit := FMInit.binds (ps := ["self", "many", "steps"]) fun _ _ _ _ _ _ us hl => match us, hl with | [_, _, _], _ => rfl
  have bMLen := FMLen.binds (ps := ["self"]) fun _ _ _ _ _ _ us hl => match us, hl with | [_], _ => rfl
  have bOInit := FOInit.binds (ps := ["self", "many", "steps"]) fun _ _ _ _ _ _ us hl => match us, hl with | [_, _, _], _ => rfl
  have bSpread := FSpread.binds (ps := ["self", "states"]) fun _ _ _ _ _ _ us hl => match us, hl with | [_, _], _ => rfl
  have bAfter := FAfter.binds (ps := ["self", "states", "word"]) fun _ _ _ _ _ _ us hl => match us, hl with | [_, _, _], _ => rfl
  have bWLen := FWLen.binds (ps := ["self"]) fun _ _ _ _ _ _ us hl => match us, hl with | [_], _ => rfl
  have bWIt := FWIt.binds (ps := ["self"]) fun _ _ _ _ _ _ us hl => match us, hl with | [_], _ => rfl
  have bCl := FCl.binds (ps := ["self", "word"]) fun _ _ _ _ _ _ us hl => match us, hl with | [_, _], _ => rfl
  have bAsk := FAsk.binds (ps := ["self", "about"]) fun _ _ _ _ _ _ us hl => match us, hl with | [_, _], _ => rfl
  have bKn := FKn.binds (ps := ["self"]) fun _ _ _ _ _ _ us hl => match us, hl with | [_], _ => rfl
  have bNum := FNum.binds (ps := ["value"]) fun _ _ _ _ _ _ us hl => match us, hl with | [_], _ => rfl
  have bWord := FWord.binds (ps := ["value"]) fun _ _ _ _ _ _ us hl => match us, hl with | [_], _ => rfl
  have bWordE := FWordE.binds (ps := ["value"]) fun _ _ _ _ _ _ us hl => match us, hl with | [_], _ => rfl
  have bIsStep := FIsStep.binds (ps := ["many", "step"]) fun _ _ _ _ _ _ us hl => match us, hl with | [_, _], _ => rfl
  have bOpen := FOpen.binds (ps := ["machine", "free"]) fun _ _ _ _ _ _ us hl => match us, hl with | [_, _], _ => rfl
  have bOut := FOut.binds (ps := ["machine", "free"]) fun _ _ _ _ _ _ us hl => match us, hl with | [_, _], _ => rfl
  have bAsc := FAsc.binds (ps := ["rows"]) fun _ _ _ _ _ _ us hl => match us, hl with | [_], _ => rfl
  have bFree := FFree.binds (ps := ["kinds"]) fun _ _ _ _ _ _ us hl => match us, hl with | [_], _ => rfl
  have bIsT := FIsT.binds (ps := ["machine", "trace", "free"]) fun _ _ _ _ _ _ us hl => match us, hl with | [_, _, _], _ => rfl
  have bAb := FAb.binds (ps := ["about", "free"]) fun _ _ _ _ _ _ us hl => match us, hl with | [_, _], _ => rfl
  have bWt := FWt.binds (ps := ["machine", "trace", "free"]) fun _ _ _ _ _ _ us hl => match us, hl with | [_, _, _], _ => rfl
  have bMk := FMk.binds (ps := ["machine", "kind", "free"]) fun _ _ _ _ _ _ us hl => match us, hl with | [_, _, _], _ => rfl
  have bVer := FVer.binds (ps := ["states", "many"]) fun _ _ _ _ _ _ us hl => match us, hl with | [_, _], _ => rfl
  have bDraw := FDraw.binds (ps := ["script", "at", "many"]) fun _ _ _ _ _ _ us hl => match us, hl with | [_, _, _], _ => rfl
  have bMach := FMach.binds (ps := ["script", "at", "most", "kinds", "words"]) fun _ _ _ _ _ _ us hl => match us, hl with | [_, _, _, _, _], _ => rfl
  have clM : Cls K CM := ⟨pgM, hdM, poM, saM⟩
  have clO : Cls K CO := ⟨pgO, hdO, poO, saO⟩
  have clW : Cls K CW := ⟨pgW, hdW, poW, saW⟩
  have MkM : Mk K CM fMInit := ⟨mkM, aMInit, iMInit, kcM⟩
  have MkO : Mk K CO fOInit := ⟨mkO, aOInit, iOInit, kcO⟩
  have MkW : Mk K CW fWI := ⟨mkW, aWI, iWI, kcW⟩
  have errB : PySem.PlX.Txt l.prog K mg "BadMachine" CB fB :=
    { gC := m_B, cls := ⟨_, _, _, _, _, _, _, _, _, _, _, _, _, _, _, xB, rfl⟩, sa := saB, ga := gaB, gg := ggB, noN := noB, iC := aB, tC := tB, kC := kcB, exC := eB, veC := vB, tyC := yB, hdC := hdB, te := names_itself eB iB yB sB, sup := suB, opq := z_opq, exI := exB, self := seB, sups := w_super, top := z_top,
      fn := ⟨_, _, _, _, _, _, _, _, _, _, _, _, _, _, _, _, _, _, _, _, _, _, _, lB, cB, by decide, fun _ => ⟨_, rfl⟩, dB, vfB, pfB, ceB⟩ }
  have FD : FunW K fWI _ := ⟨⟨_, _, _, _, _, _, _, _, _, _, rfl, lWI, cWI, .inl ⟨rfl, rfl⟩, .inr ⟨DW, rfl, fun q hq => by rw [List.mem_singleton.mp hq]; exact ⟨_, dW, rfl⟩⟩⟩, kWI⟩
  obtain ⟨gp, kb⟩ := init_some FD
  obtain ⟨ds, vd, bd⟩ := init_none FD
  refine ⟨_, FLaw, fun s v => .of_eq rfl, fun base _ _ => ?_⟩
  have TB : TxtB mg := ⟨w_type, w_int, w_str, w_isinstance, w_len, w_list, w_tuple⟩
  have GNum := ok_num (P := l.prog) (w := w) (mg := mg) (base := base) FNum TB
  have GWord := ok_word (P := l.prog) (w := w) (mg := mg) (base := base) FWord TB
  have GWordE := ok_wordE FWordE ⟨m_Word, kWord⟩ GWord bWord
  have GIsStep := ok_isStep FIsStep ⟨m_Num, kNum, m_WordE, kWordE, w_isinstance, w_tuple, w_len⟩ GNum bNum GWordE bWordE
  have GMInit := ok_mInit FMInit ⟨clM, nMmany, nMsteps, nMkinds, nMwords, nMby_state, nM_known, errB, m_Num, kNum, m_IsStep, kIsStep, m_most, w_isinstance, w_list, w_tuple, w_enumerate, w_sorted, w_set, w_range⟩ GNum bNum GIsStep bIsStep
  have GMLen := ok_mLen (P := l.prog) (w := w) (mg := mg) (base := base) FMLen ⟨clM, nMmany, nMsteps, nMkinds, nMwords, nMby_state, nM_known, w_len, w_list⟩
  have GOInit := ok_oInit (P := l.prog) (w := w) (mg := mg) (base := base) FOInit ⟨clO, nOunseen, nOby_word, w_range⟩
  have GSpread := ok_spread (P := l.prog) (w := w) (mg := mg) (base := base) FSpread ⟨clO, nOunseen, w_len, w_sorted, w_set, w_tuple⟩
  have GAfter := ok_after FAfter ⟨clO, nOby_word, ⟨aSpread, iSpread, kSpread⟩⟩ GSpread bSpread
  have GOpen := ok_open (P := l.prog) (w := w) (mg := mg) (base := base) FOpen ⟨clM, nMsteps⟩
  have GOut := ok_out FOut ⟨w_len, aMLen, iMLen, m_Open, kOpen, m_O⟩ MkO GOInit bOInit GMLen bMLen GOpen bOpen
  have GAsc := ok_asc (P := l.prog) (w := w) (mg := mg) (base := base) FAsc ⟨w_all, w_zip⟩
  have GFree := ok_free FFree ⟨w_isinstance, w_all, w_tuple, m_Word, kWord, m_Asc, kAsc, xK, m_K, kcK, bK, tK⟩ GWord bWord GAsc bAsc
  have GIsT := ok_isT FIsT ⟨w_len, m_Free, kFree, m_Out, kOut, clO, ⟨aSpread, iSpread, kSpread⟩, ⟨aAfter, iAfter, kAfter⟩⟩ GFree bFree GOut bOut GSpread bSpread GAfter bAfter
  have GDraw := ok_draw (P := l.prog) (w := w) (mg := mg) (base := base) FDraw ⟨w_len, w_int, w_range⟩
  have GMach := ok_mach FMach ⟨w_len, w_range, m_Draw, kDraw⟩ GDraw bDraw
  have GAb := ok_about (P := l.prog) (w := w) (mg := mg) (base := base) FAb ⟨xK, m_K, kcK, bK, tK⟩
  have GVer := ok_ver (P := l.prog) (w := w) (mg := mg) (base := base) FVer
  have GMk := ok_marked FMk ⟨w_len, aMLen, iMLen, m_Open, kOpen⟩ GMLen bMLen GOpen bOpen
  have GWI := ok_wInit nCW nOW FWI ⟨clW, nWabout, nW_many, nW_free, nW_words, nW_outlooks, nW_now, w_len, aMLen, iMLen, m_Free, kFree, m_Ab, kAb, m_Out, kOut, m_Mk, kMk, m_O, clO, ⟨aSpread, iSpread, kSpread⟩⟩ GFree bFree GAb bAb GMLen bMLen GOut bOut GMk bMk GSpread bSpread MkO GOInit bOInit
  have GWLen := ok_wLen (P := l.prog) (w := w) (mg := mg) (base := base) (CO := CO) FWLen ⟨clW, nW_words, w_len⟩
  have GWIt := ok_wIter (P := l.prog) (w := w) (mg := mg) (base := base) FWIt ⟨clW, nW_words, w_iter⟩
  have GAsk := ok_ask nOW FAsk ⟨clW, nWabout, nW_free, m_Ab, kAb⟩ GAb bAb
  have GKn := ok_known (CO := CO) FKn ⟨clW, nW_many, nW_free, nW_now, m_Ver, kVer⟩ GVer bVer
  have GSee := ok_see nOW FSee ⟨clW, nWabout, nW_many, nW_words, nW_outlooks, nW_now, w_list, m_Ver, kVer, clO, ⟨aAfter, iAfter, kAfter⟩, xN, m_N, kcN, bN, tN⟩ GVer bVer GAfter bAfter
  have GCl := ok_call FCl ⟨clW, ⟨aSee, iSee, kSee⟩⟩ GSee
  have RCl := fnR_all GCl fun us hl => match us, hl with | [_, _], _ => rfl
  have GWt := ok_watch FWt ⟨clW, m_W, ⟨⟨aSee, iSee, kSee⟩, gfSee, tkSee, rfl, fiSee⟩, ⟨aKn, iKn, kKn⟩⟩ MkW GWI bd vd GSee GKn bKn
  exact ok_law nOW nCW FLaw
    { pA := ⟨w_len, w_list, aWLen, iWLen, clW, nWabout, m_M, m_W, m_Mach, kMach, m_Draw, kDraw⟩
      pE := ⟨w_len, w_list, w_range, aWLen, iWLen, clW, nWabout, ⟨aAsk, iAsk, kAsk⟩, ⟨aSee, iSee, kSee⟩, ⟨aKn, iKn, kKn⟩, m_Draw, kDraw, m_IsT, kIsT, m_Wt, kWt, m_N, names_itself bN iN tN sN⟩
      pF := ⟨clW, nWabout, m_W, ⟨aAsk, iAsk, kAsk⟩, m_K, names_itself bK iK tK sK⟩
      pG := ⟨clW, nWabout, m_W, ⟨aAsk, iAsk, kAsk⟩⟩ }
    MkM GMInit bMInit MkW GWI bd vd kb ⟨aWIt, iWIt, aWLen, iWLen⟩ GWIt bWIt GWLen bWLen GMach bMach GDraw bDraw GAsk bAsk GIsT bIsT GWt bWt GSee ⟨aCl, iCl, fiCl⟩ RCl GKn bKn
end K1
end
open PySem PySem.W PyProof.Rows in
set_option maxRecDepth 100000 in
set_option maxHeartbeats 0 in
theorem PySem.Challenge.cw_allbrokers_k25_whole_watchers_holds : PySem.Challenge.rw_allbrokers_k25_whole_watchers.Holds := by
  w_on; o_law; k_head; (case hw => w_witness2)
  k_fill
  refine K1.from_law (l := PySem.Challenge.rw_allbrokers_k25_whole_watchers) rfl rfl (fun w h Y => PySem.W.kIn_of Y) ?F
  case F =>
    intro w mg fa h KX G hmg
    refine' K1.all_mk KX G hmg ?gM ?pgM ?hdM ?poM ?saM ?mkM ?kcM ?nMmany ?nMsteps ?nMkinds ?nMwords ?nMby_state ?nM_known ?gO ?pgO ?hdO ?poO ?saO ?mkO ?kcO ?nOunseen ?nOby_word ?gW ?pgW ?hdW ?poW ?saW ?mkW ?kcW ?nWabout ?nW_many ?nW_free ?nW_words ?nW_outlooks ?nW_now ?aMInit ?iMInit ?lMInit ?cMInit ?kMInit ?aMLen ?iMLen ?lMLen ?cMLen ?kMLen ?aOInit ?iOInit ?lOInit ?cOInit ?kOInit ?aSpread ?iSpread ?lSpread ?cSpread ?kSpread ?aAfter ?iAfter ?lAfter ?cAfter ?kAfter ?aWI ?iWI ?lWI ?cWI ?kWI ?aWLen ?iWLen ?lWLen ?cWLen ?kWLen ?aWIt ?iWIt ?lWIt ?cWIt ?kWIt ?aCl ?iCl ?lCl ?cCl ?kCl ?aAsk ?iAsk ?lAsk ?cAsk ?kAsk ?aSee ?iSee ?lSee ?cSee ?kSee ?aKn ?iKn ?lKn ?cKn ?kKn ?aNum ?lNum ?cNum ?kNum ?aWord ?lWord ?cWord ?kWord ?aWordE ?lWordE ?cWordE ?kWordE ?aIsStep ?lIsStep ?cIsStep ?kIsStep ?aOpen ?lOpen ?cOpen ?kOpen ?aOut ?lOut ?cOut ?kOut ?aAsc ?lAsc ?cAsc ?kAsc ?aFree ?lFree ?cFree ?kFree ?aIsT ?lIsT ?cIsT ?kIsT ?aAb ?lAb ?cAb ?kAb ?aWt ?lWt ?cWt ?kWt ?aMk ?lMk ?cMk ?kMk ?aVer ?lVer ?cVer ?kVer ?aDraw ?lDraw ?cDraw ?kDraw ?aMach ?lMach ?cMach ?kMach ?aLaw ?lLaw ?cLaw ?kLaw ?dW ?gfSee ?tkSee ?fiSee ?fiCl ?nCW ?nOW ?gN ?xN ?kcN ?bN ?tN ?gK ?xK ?kcK ?bK ?tK ?iN ?sN ?iK ?sK ?gB ?xB ?saB ?gaB ?ggB ?noB ?aB ?tB ?kcB ?eB ?vB ?yB ?hdB ?iB ?sB ?suB ?exB ?seB ?lB ?cB ?dB ?vfB ?pfB ?ceB ?z_type ?z_int ?z_str ?z_isinstance ?z_len ?z_list ?z_tuple ?z_enumerate ?z_sorted ?z_set ?z_range ?z_all ?z_zip ?z_iter ?z_super ?z_opq ?z_top ?z_most
    (case gM => k_is)
    (case pgM => k_is)
    (case hdM => k_is)
    (case poM => k_is)
    (case saM => k_is)
    (case mkM => k_is)
    (case kcM => k_is)
    (case nMmany => k_is)
    (case nMsteps => k_is)
    (case nMkinds => k_is)
    (case nMwords => k_is)
    (case nMby_state => k_is)
    (case nM_known => k_is)
    (case gO => k_is)
    (case pgO => k_is)
    (case hdO => k_is)
    (case poO => k_is)
    (case saO => k_is)
    (case mkO => k_is)
    (case kcO => k_is)
    (case nOunseen => k_is)
    (case nOby_word => k_is)
    (case gW => k_is)
    (case pgW => k_is)
    (case hdW => k_is)
    (case poW => k_is)
    (case saW => k_is)
    (case mkW => k_is)
    (case kcW => k_is)
    (case nWabout => k_is)
    (case nW_many => k_is)
    (case nW_free => k_is)
    (case nW_words => k_is)
    (case nW_outlooks => k_is)
    (case nW_now => k_is)
    (case aMInit => k_is)
    (case iMInit => k_is)
    (case lMInit => k_is)
    (case cMInit => k_is)
    (case kMInit => k_is)
    (case aMLen => k_is)
    (case iMLen => k_is)
    (case lMLen => k_is)
    (case cMLen => k_is)
    (case kMLen => k_is)
    (case aOInit => k_is)
    (case iOInit => k_is)
    (case lOInit => k_is)
    (case cOInit => k_is)
    (case kOInit => k_is)
    (case aSpread => k_is)
    (case iSpread => k_is)
    (case lSpread => k_is)
    (case cSpread => k_is)
    (case kSpread => k_is)
    (case aAfter => k_is)
    (case iAfter => k_is)
    (case lAfter => k_is)
    (case cAfter => k_is)
    (case kAfter => k_is)
    (case aWI => k_is)
    (case iWI => k_is)
    (case lWI => k_is)
    (case cWI => k_is)
    (case kWI => k_is)
    (case aWLen => k_is)
    (case iWLen => k_is)
    (case lWLen => k_is)
    (case cWLen => k_is)
    (case kWLen => k_is)
    (case aWIt => k_is)
    (case iWIt => k_is)
    (case lWIt => k_is)
    (case cWIt => k_is)
    (case kWIt => k_is)
    (case aCl => k_is)
    (case iCl => k_is)
    (case lCl => k_is)
    (case cCl => k_is)
    (case kCl => k_is)
    (case aAsk => k_is)
    (case iAsk => k_is)
    (case lAsk => k_is)
    (case cAsk => k_is)
    (case kAsk => k_is)
    (case aSee => k_is)
    (case iSee => k_is)
    (case lSee => k_is)
    (case cSee => k_is)
    (case kSee => k_is)
    (case aKn => k_is)
    (case iKn => k_is)
    (case lKn => k_is)
    (case cKn => k_is)
    (case kKn => k_is)
    (case aNum => k_is)
    (case lNum => k_is)
    (case cNum => k_is)
    (case kNum => k_is)
    (case aWord => k_is)
    (case lWord => k_is)
    (case cWord => k_is)
    (case kWord => k_is)
    (case aWordE => k_is)
    (case lWordE => k_is)
    (case cWordE => k_is)
    (case kWordE => k_is)
    (case aIsStep => k_is)
    (case lIsStep => k_is)
    (case cIsStep => k_is)
    (case kIsStep => k_is)
    (case aOpen => k_is)
    (case lOpen => k_is)
    (case cOpen => k_is)
    (case kOpen => k_is)
    (case aOut => k_is)
    (case lOut => k_is)
    (case cOut => k_is)
    (case kOut => k_is)
    (case aAsc => k_is)
    (case lAsc => k_is)
    (case cAsc => k_is)
    (case kAsc => k_is)
    (case aFree => k_is)
    (case lFree => k_is)
    (case cFree => k_is)
    (case kFree => k_is)
    (case aIsT => k_is)
    (case lIsT => k_is)
    (case cIsT => k_is)
    (case kIsT => k_is)
    (case aAb => k_is)
    (case lAb => k_is)
    (case cAb => k_is)
    (case kAb => k_is)
    (case aWt => k_is)
    (case lWt => k_is)
    (case cWt => k_is)
    (case kWt => k_is)
    (case aMk => k_is)
    (case lMk => k_is)
    (case cMk => k_is)
    (case kMk => k_is)
    (case aVer => k_is)
    (case lVer => k_is)
    (case cVer => k_is)
    (case kVer => k_is)
    (case aDraw => k_is)
    (case lDraw => k_is)
    (case cDraw => k_is)
    (case kDraw => k_is)
    (case aMach => k_is)
    (case lMach => k_is)
    (case cMach => k_is)
    (case kMach => k_is)
    (case aLaw => k_is)
    (case lLaw => k_is)
    (case cLaw => k_is)
    (case kLaw => k_is)
    (case dW => k_is)
    (case gfSee => k_is)
    (case tkSee => k_is)
    (case fiSee => k_is)
    (case fiCl => k_is)
    (case nCW => decide)
    (case nOW => decide)
    (case gN => k_is)
    (case xN => k_exc)
    (case kcN => k_is)
    (case bN => k_is)
    (case tN => k_is)
    (case gK => k_is)
    (case xK => k_exc)
    (case kcK => k_is)
    (case bK => k_is)
    (case tK => k_is)
    (case iN => k_is)
    (case sN => first | rfl | k_is)
    (case iK => k_is)
    (case sK => first | rfl | k_is)
    (case gB => k_is)
    (case xB => k_is)
    (case saB => k_is)
    (case gaB => k_is)
    (case ggB => k_is)
    (case noB => k_is)
    (case aB => k_is)
    (case tB => k_is)
    (case kcB => k_is)
    (case eB => k_is)
    (case vB => k_is)
    (case yB => k_is)
    (case hdB => k_is)
    (case iB => k_is)
    (case sB => first | rfl | k_is)
    (case suB => first | k_exc | kernel_rfl)
    (case exB => first | k_exc | kernel_rfl)
    (case seB => k_is)
    (case lB => k_is)
    (case cB => k_is)
    (case dB => k_is)
    (case vfB => rfl)
    (case pfB => rfl)
    (case ceB => k_is)
    (case z_type => k_is)
    (case z_int => k_is)
    (case z_str => k_is)
    (case z_isinstance => k_is)
    (case z_len => k_is)
    (case z_list => k_is)
    (case z_tuple => k_is)
    (case z_enumerate => k_is)
    (case z_sorted => k_is)
    (case z_set => k_is)
    (case z_range => k_is)
    (case z_all => k_is)
    (case z_zip => k_is)
    (case z_iter => k_is)
    (case z_super => k_is)
    (case z_opq => k_is)
    (case z_top => rfl)
    (case z_most => k_is)
